import PyProof.Rows.All
import KE.RegKIsAll
import KE.RegKTryMore
import Wide.All
import OpenK.KLine
import OpenK.KWalk
import OpenK.KOwn
import Wide.FinOn
import PyProof.EqAt
import PyProof.EqKinds
import PyProof.TupleCall
import PyProof.P3Eq
import PyProof.NeData
import KE.KTryDeep
import KE.KTryMore
import KE.KIsAll
import PyProof.NsDelKeeps
import PyProof.ExcArgsOwn
import OpenK.KTop
import PyProof.ExcBaseAll.ValueError
import PyProof.EnumMake
import PyProof.Draws
import KE.KSetDisp
import PyProof.SetRoads
import PyProof.Rows.SortStr
import PyProof.Rows.SortWalk
import PyProof.DictItems
import PyProof.DictValues
import KE.KSortTup
import KE.KItemsList
import KE.KDictOf
import KE.KDictList
import PyProof.ListRange
import PyProof.StrLawsTight
import PyProof.StrLawsChain
import PyProof.StrCalls2
import KE.KIntText
import PyProof.PassesOwn
import PyProof.ExcInit
import PyProof.InstStoreFacts
import PyProof.StrLawsFirst
import PyProof.SeqRoads
import PyProof.ListOps
import KE.IntTextText
import KE.KListMore
import PyProof.AutoListH
import PySem.Challenge.RW_manrent_k53_pages_refused
set_option hygiene false
local macro_rules
|`(0x0)=>`(⟨rfl,rfl,rfl,by decide +kernel,rfl,by decide +kernel,by decide +kernel⟩)
|`(0x1)=>`(by lia)
|`(0x2)=>`(fun cdv A outer s H vs Q E hr h=>?_)
|`(0x3)=>`(Or.inl rfl)
|`(0x4)=>`(by decide +kernel)
|`(0x5)=>`(by simp)
|`(0x6)=>`(⟨rfl,by decide +kernel,by decide +kernel,by decide +kernel,rfl,by decide +kernel⟩)
|`(0x7)=>`(model X.prog X.w)
|`(0x8)=>`(by decide)
|`(0x9)=>`(Nat.le_refl _)
|`(0xA)=>`(fun vs H Q E h=>?_)
|`(0xB)=>`(⟨_,rfl,rfl,_,rfl,?_⟩)
|`(0xC)=>`(PyProof.Rows.callWith_type1 (cT (ha pos pins s σ H _ I h) fun us s1 ⟨vs,H1,I1,r1,q1⟩=>?_) (by rw [hs,hs2]) (by rw [hs2];rfl))
|`(0xD)=>`(model prog w)
|`(0xE)=>`(fun _ _=>rfl)
|`(0xF)=>`(ts.map fun t=>(t.1,t.2.2))
|`(0x10)=>`(.lst [V.str "0",V.str "1",V.str "9999",V.str "10000",V.str "99",V.str "100",V.str "1000000",V.str "05",V.str "x",V.str (Str.ofString (toString (v3 % 30)))])
|`(0x11)=>`(.lst ((aO (bO z) none (some he)).map V.str))
|`(0x12)=>`(s.heap.objs.size+1)
|`(0x13)=>`(.lst ((aO ls none 0x25).map V.str))
|`(0x14)=>`(.lst [V.str "",V.str "-",V.str "00",V.str "10000",V.str "0",V.str "1000000",V.str "Ann",V.str "grant",V.str "abcdefghi",V.str t3,V.str "007"])
|`(0x15)=>`(.lst (ws.map V.str))
|`(0x16)=>`(by with_unfolding_all rfl)
|`(0x17)=>`(x==("__debug__" : Str))
|`(0x18)=>`(Addr×Obj)
|`(0x19)=>`(⟨_,e,by decide +kernel,bH 0x4⟩)
|`(0x1A)=>`(⟨fun hi=>⟨⟨⟨xs,xs[i],ha,by simp [hi]⟩,⟨ys,ys[i]' 0x1,hb,by simp [hl ▸ hi]⟩⟩,fun v H' ⟨p,x,y,e1,e2,e3,e4,e5⟩=>⟨p,e1,e2,?_⟩⟩,fun hi=>.inl ⟨xs,ha,hi⟩⟩)
|`(0x1B)=>`(hs.2 b (Nat.ne_of_lt (Nat.lt_of_lt_of_le (Heap.lt_size e) I.ok.above)))
|`(0x1C)=>`(qd (vP P w) P w K mg base N qual scope f cd A outer s H E)
|`(0x1D)=>`(Str.ofString "")
local macro_rules
|`(0x1E)=>`(.lst ((aO (bO z) (some (he+1)) none).map V.str))
|`(0x1F)=>`(⟨_,rfl,rfl,_,_,rfl,rfl,0x4,(by have:=small (n:=2000) 0x1;lia),fun p hp=>?_⟩)
|`(0x20)=>`(⟨_,rfl,_,_,rfl,rfl,_,rfl,?_⟩)
|`(0x21)=>`(aj (pv 1) aq)
|`(0x22)=>`(fun c=>kn _ _ ⟨q,ls',u6,u7,rfl,sx,qn,hq,pN c hw⟩)
|`(0x23)=>`(fun z=>nomatch z)
|`(0x24)=>`(.lst [V.str "0",V.str "1",V.str "2",V.str "5",V.str "999999",V.str "03",V.str "land",V.str ""])
|`(0x25)=>`(some at_)
|`(0x26)=>`(.ref C)
|`(0x27)=>`(⟨_,rfl,.inl ⟨rfl,_,aZ.of r5⟩,_,rfl,_,rfl,_,rfl,_,_,rfl,rfl,a,_,_,_,rfl,rfl,S5,e1,_,rfl,b,_,rfl,.inl B5,_,_,rfl,rfl,(by show (0:Int)<((zs.map V.str).length:Int);rw [bV];lia),b,_,_,_,rfl,rfl,B5,ez,r,_,_,rfl,rfl,r5,sz,fin _ (Bb hz) (by rw [c1'];rfl) (wz hz c1')⟩)
|`(0x28)=>`(fun c=>?_)
|`(0x29)=>`((cJ z).map V.str)
|`(0x2A)=>`(Builtin.Str.partsBetween z (Builtin.Str.occurrences z y 0 z.length (z.length+1)) y.length)
|`(0x2B)=>`(.ListComp elt [⟨tg,iter,ifs,0⟩] scope pos)
|`(0x2C)=>`(fun h o ⟨⟨oc,e,r⟩,⟨od,e',r'⟩⟩=>⟨⟨oc,Heap.get?_push_of_some _ e,r⟩,⟨od,Heap.get?_push_of_some _ e',r'⟩⟩)
|`(0x2D)=>`(.builtin "object.__class__")
|`(0x2E)=>`(⟨Kp.set rfl (Kp.refl _),?_⟩)
|`(0x2F)=>`(aM cH rfl ml PySem.boot_len (aj (pv 0) aq))
|`(0x30)=>`(Oh X (ts++fr) scope s H fp C)
|`(0x31)=>`(.lst (V.str k::ws.map V.str))
set_option Elab.async false
set_option linter.all false
set_option maxHeartbeats 16000000
set_option maxRecDepth 100000
theorem bV {α β:Type _}{as:List α} (f:α->β):(as.map f).length=as.length:=List.length_map f
theorem dO {α:Type _}{l:List α}{i:Nat} (h:i<l.length):l[i]?=some l[i]:=List.getElem?_eq_getElem h
theorem iI {α:Type _}{l:List α}{i:Nat}{a:α}:l.getD i a=l[i]?.getD a:=List.getD_eq_getElem?_getD
theorem fO {p:Prop} [inst:Decidable p] (h:decide p=true):p:=of_decide_eq_true h
theorem jT {α β:Type _}{f:α->β}{l:List α}{i:Nat}:(l.map f)[i]?=Option.map f l[i]?:=List.getElem?_map
theorem jA {α:Type _}{as bs:List α}:(as++bs).length=as.length+bs.length:=List.length_append
theorem lR {α:Type _} (y:α) {a:α}{l:List α} (h:a∈l):a∈y::l:=List.mem_cons_of_mem y h
theorem jU {α:Type _}{a:α}{as:List α}:(a::as).length=as.length+1:=List.length_cons
theorem lU {α:Type _}{l:List α}{i:Nat}{a:α} (e:l[i]?=some a):a∈l:=List.mem_of_getElem? e
theorem jB {α β:Type _}{f:α->β}{l₁ l₂:List α}:(l₁++l₂).map f=l₁.map f++l₂.map f:=List.map_append
namespace M
inductive cP where
 | d | n | c | a | s | b | e
 deriving DecidableEq
end M
variable {ds us vs:List PySem.Value}{m name qual x z:PySem.Str}{cd u:PySem.Value}{C L R a b d dx f f1 f2 g1 g2 g3 i1 i2 it l le q:PySem.Addr}{P prog:PySem.Program}{w:PySem.World}{base h h' h1 h2:PySem.Heap}{e iter tg value:PySem.Expr}{pins:List (PySem.Addr×PySem.Obj)}{s s':PySem.Shared}{c i j n t' x1:Nat}{ch fp:List PySem.Addr}{N loose ls ps ts ws zs:List PySem.Str}{A:PySem.Around}{E Q:PySem.Value->PySem.Shared->Prop}{apos cpos kpos p p1 p2 p3 pos pos' tp:PySem.Pos}{op:PySem.CmpOp}{K:PySem.W.Frag}{st:PySem.Stmt}{body sts:List PySem.Stmt}{elts es:List PySem.Expr}{lo:Int}{mA mg:PySem.Str->Option PySem.Value}{pl:PySem.Sem Bool}{kw:List (PySem.Str×PySem.Value)}{env:PySem.Env}{d1 d2 d3 fd:PySem.FuncData}{outer:List PySem.Env}{scope:PySem.Scope}{od:Option PySem.Addr}{T:String}{hi:Option Int}{items its:Array PySem.Value}{XP:(PySem.Str->Option PySem.Value)->PySem.Heap->Prop}{YP:PySem.World->PySem.Heap->Prop}{B:Prop}{ix:List Nat}
namespace L2
open PySem PySem.Spec PyProof.Rows
abbrev Key:=Sum Int Str
def uN:Key->Value->Bool
 | .inl k,v=>Value.isInt k v
 | .inr x,v=>Value.isStrOf x v
def keyH (w:World):Key->Int
 | .inl k=>hashInt k
 | .inr x=>hashStr w x
theorem dD:∀ {k:Key}{v:Value},uN k v=true->(∃ i t,k=Sum.inl i/\v=Value.int i t)\/(∃ x t,k=Sum.inr x/\v=Value.str x t)
 | .inl i,v,h=>by
  obtain ⟨t,e⟩:=Value.isInt_shape (k:=i) (v:=v) h;exact .inl ⟨i,t,rfl,e⟩
 | .inr x,v,h=>by
  obtain ⟨t,e⟩:=Value.isStrOf_shape (x:=x) (v:=v) h;exact .inr ⟨x,t,rfl,e⟩
theorem Mw (i:Int) (t:Tok):uN (.inl i) (.int i t)=true:=by simp [uN,Value.isInt]
theorem Mx (x:Str) (t:Tok):uN (.inr x) (.str x t)=true:=by simp [uN,Value.isStrOf]
theorem Ys (a b:Int):decide ((Sum.inl a:Key)=Sum.inl b)=(a==b):=by
 by_cases e:a=b
 ·subst e;simp
 ·have h:¬ (Sum.inl a:Key)=Sum.inl b:=fun q=>e (Sum.inl.inj q);rw [decide_eq_false h];exact (beq_eq_false_iff_ne.mpr e).symm
theorem Yt (a b:Str):decide ((Sum.inr a:Key)=Sum.inr b)=decide (a=b):=by
 by_cases e:a=b
 ·subst e;simp
 ·have h:¬ (Sum.inr a:Key)=Sum.inr b:=fun q=>e (Sum.inr.inj q);rw [decide_eq_false h,decide_eq_false e]
theorem Yu (a:Int) (b:Str):decide ((Sum.inl a:Key)=Sum.inr b)=false:=decide_eq_false (fun q=>nomatch q)
theorem Yv (a:Str) (b:Int):decide ((Sum.inr a:Key)=Sum.inl b)=false:=decide_eq_false (fun q=>nomatch q)
def cL (prog:Program) (w:World):PySem.KeyKind prog w Key where
 is:=uN
 hash:=keyH w
 inj:=fun v a b ha hb=>by
  rcases dD ha with ⟨i,t,rfl,rfl⟩ | ⟨x,t,rfl,rfl⟩
  ·rcases dD hb with ⟨j,u,rfl,e⟩ | ⟨y,u,rfl,e⟩
   ·injection e with e1 _;rw [e1]
   ·exact nomatch e
  ·rcases dD hb with ⟨j,u,rfl,e⟩ | ⟨y,u,rfl,e⟩
   ·exact nomatch e
   ·injection e with e1 _;rw [e1]
 byValue:=fun k v h=>by
  rcases dD h with ⟨i,t,rfl,rfl⟩ | ⟨x,t,rfl,rfl⟩ <;> rfl
 pyHash:=fun hv h=>by
  rcases dD hv with ⟨i,t,rfl,rfl⟩ | ⟨x,t,rfl,rfl⟩
  ·exact wpAny_pyHash_int h
  ·exact wpAny_pyHash_str h
 eqBool:=fun hu hv h=>by
  rcases dD hu with ⟨i,t,rfl,rfl⟩ | ⟨x,t,rfl,rfl⟩
  ·rcases dD hv with ⟨j,u,rfl,rfl⟩ | ⟨y,u,rfl,rfl⟩
   ·rw [Ys] at h;exact wpAny_eqBool_int h
   ·rw [Yu] at h;exact SeqAt.EqAt.int_str i t y u _ _ _ _ h
  ·rcases dD hv with ⟨j,u,rfl,rfl⟩ | ⟨y,u,rfl,rfl⟩
   ·rw [Yv] at h;exact SeqAt.EqAt.str_int x t j u _ _ _ _ h
   ·rw [Yt] at h;exact wpAny_eqBool_str h
 «strs»:=fun k x t v h=>by
  rcases dD h with ⟨i,u,rfl,e⟩ | ⟨y,u,rfl,e⟩
  ·exact nomatch e
  ·injection e with e1 _;subst e1;cases v <;> rfl
theorem Ca (prog:Program) (w:World) (i:Int) (t:Tok):(cL prog w).is (.inl i) (.int i t)=true:=Mw i t
theorem Cd (prog:Program) (w:World) (x:Str) (t:Tok):(cL prog w).is (.inr x) (.str x t)=true:=Mx x t
inductive V where
 | non | bl (b:Bool) | int (i:Int) | str (x:Str) | Ja (b:Array UInt8) | flt (b:UInt64) | ref (a:Addr) | ty (n:String)
 deriving DecidableEq
variable {jM rest xs ys:List V}{F v y:V}{kvs:List (Key×V)}
def RelV:V->Value->Prop
 | .non,u=>u=Value.none
 | .bl b,u=>u=Value.bool b
 | .int i,u=>∃ t,u=Value.int i t
 | .str x,u=>∃ t,u=Value.str x t
 | .Ja b,u=>∃ t,u=Value.bytes b t
 | .flt b,u=>∃ t,u=Value.float b t
 | .ref a,u=>u=Value.ref a
 | .ty n,u=>u=Value.type n
abbrev Vals:List V->List Value->Prop:=Paired RelV
theorem Vals.length (r:Vals xs us):xs.length=us.length:=Paired.length r
theorem Vals.get:∀ {xs:List V}{us:List Value}{i:Nat}{x:V},Vals xs us->xs[i]?=some x->∃ u,us[i]?=some u/\RelV x u
 | _,_,_,_,.nil,e=>by simp at e
 | _,_,0,_,.cons r _,e=>by simp at e;subst e;exact ⟨_,rfl,r⟩
 | _,_,i+1,x,.cons _ t,e=>by
  obtain ⟨u,h1,h2⟩:=Vals.get (i:=i) (x:=x) t (by simpa using e);exact ⟨u,by simpa using h1,h2⟩
theorem Vals.set {x:V} (r:RelV x u):∀ {xs:List V}{us:List Value} (i:Nat),Vals xs us->Vals (xs.set i x) (us.set i u)
 | _,_,_,.nil=>.nil
 | _,_,0,.cons _ t=>.cons r t
 | _,_,i+1,.cons q t=>.cons q (Vals.set r i t)
theorem Vals.append:∀ {xs ys:List V}{us ws:List Value},Vals xs us->Vals ys ws->Vals (xs++ys) (us++ws)
 | _,_,_,_,.nil,s=>s
 | _,_,_,_,.cons r t,s=>.cons r (Vals.append t s)
theorem Vals.take:∀ {xs:List V}{us:List Value} (n:Nat),Vals xs us->Vals (xs.take n) (us.take n)
 | _,_,0,_=>.nil
 | _,_,_+1,.nil=>.nil
 | _,_,n+1,.cons r t=>.cons r (Vals.take n t)
theorem Vals.drop:∀ {xs:List V}{us:List Value} (n:Nat),Vals xs us->Vals (xs.drop n) (us.drop n)
 | _,_,0,r=>r
 | _,_,_+1,.nil=>.nil
 | _,_,n+1,.cons _ t=>Vals.drop n t
def jh:Option V->Option Value->Prop
 | some v,some u=>RelV v u
 | none,none=>True
 | _,_=>False
def KV {κ:Type}:List (κ×V)->List (κ×Value)->Prop:=Paired fun (p:κ×V) (q:κ×Value)=>p.1=q.1/\RelV p.2 q.2
def kV:Key->V
 | .inl i=>.int i
 | .inr x=>.str x
inductive HO where
 | lst (xs:List V)
 | tup (xs:List V)
 | dK (kvs:List (Key×V)) | dT (kvs:List (List Key×V))
 | set (S:Int->Bool) (n:Nat)
 | ins (C dx:Addr) (fs:List (Str×V))
 | own (x:Addr)
 | xd (fs:List (Str×V))
 | met (f x:Addr)
 | rng (lo hi:Int)
 | Gb (o:Obj) (u:HO)
 | Us (ps:Array Value)
 | ext (φ:Heap->Prop)
variable {o:HO}
abbrev Hp:=Addr->Option HO
variable {H H' H1 H2:Hp}
def upd (H:Hp) (a:Addr) (o:HO):Hp:=fun b=>if b=a then some o else H b
theorem ak:upd H a o a=some o:=by unfold upd;rw [if_pos rfl]
theorem aG (h:b≠a):upd H a o b=H b:=by unfold upd;rw [if_neg h]
theorem Jb {u:HO}:upd (upd H a o) a u=upd H a u:=by
 funext b;unfold upd;split <;> rfl
theorem a1A {u:HO} (h:H a=some o) (h':H b=some u) (d:o≠u):a≠b:=by
 intro e;subst e;rw [h] at h';exact d (Option.some.inj h')
theorem aN (h:H a=some o) (h':H b=none):a≠b:=by
 intro e;subst e;rw [h] at h';cases h'
section
variable (P:Program) (w:World)
def cC (H:Hp) (h:Heap) (a:Addr):HO->Prop
 | .lst xs=>xs.length<=sizeLine/\∃ (its:List Value) (n:Nat),Vals xs its/\h.get? a=some { cls:=.type "list",data:=.seq its.toArray n }
 | .tup xs=>xs.length<=sizeLine/\∃ its:List Value,Vals xs its/\IsTup h a its.toArray
 | .dK kvs=>kvs.length<=sizeLine/\(a==sysModules)=false/\∃ vs,KV kvs vs/\h.DictOf (cL P w) a vs
 | .dT kvs=>kvs.length<=sizeLine/\(a==sysModules)=false/\∃ xs:List (List Key×Addr×Value),
   Paired (fun (p:List Key×V) (q:List Key×Addr×Value)=>p.1=q.1/\H q.2.1=some (.tup (p.1.map kV))/\RelV p.2 q.2.2) kvs xs /\
   ∃ o es ep,h.get? a=some o/\o.ExactDict/\o.data=.dict es ep/\es.toList=xs.map (entryOfKey (tupleKind (cL P w)))/\(xs.map (·.1)).Nodup
 | .set S n=>h.SetOf (intKind P w) a S n
 | .ins C dx fs=>H dx=some (.own a)/\fs.length<=1000/\dx≠a/\h.get? a=some (PySem.W.instObj C dx) /\
   ∃ mA,h.Ns1 dx mA/\(∀ f,jh (fs.lookup f) (mA f))/\PySem.Within mA (fs.map (·.1))
 | .own _=>∃ o,h.get? a=some o
 | .xd fs=>∃ mA,h.Ns1 a mA/\∀ f,jh (fs.lookup f) (mA f)
 | .rng lo hi=>∃ t u v,h.get? a=some { cls:=.type "range",data:=.fields #[.int lo t,.int hi u,.int 1 v] }
 | .Gb o u=>h.get? a=some o/\cC H h a u
 | .Us ps=>h.get? a=some { cls:=.none,data:=.fields ps }
 | .met f x=>h.get? a=some (PySem.W.methodObj (.ref f) (.ref x))
 | .ext φ=>φ h/\(∃ o,h.get? a=some o)/\∀ h1 h2:Heap,φ h1->(∀ o,h1.get? a=some o->h2.get? a=some o)->φ h2
def lV (H:Hp) (h:Heap):Prop:=∀ a o,H a=some o->cC P w H h a o
end
theorem cC.lt (x:cC P w H h a o):a<h.objs.size:=by
 cases o with
 | lst xs=>obtain ⟨_,_,_,_,e⟩:=x;exact Heap.lt_size e
 | tup xs=>obtain ⟨_,_,_,p⟩:=x;exact p.lt
 | dK kvs=>obtain ⟨_,_,_,_,o,_,_,e,_⟩:=x;exact Heap.lt_size e
 | dT kvs=>obtain ⟨_,_,_,_,o,_,_,e,_⟩:=x;exact Heap.lt_size e
 | set S n=>obtain ⟨o,_,_,_,e,_⟩:=x;exact Heap.lt_size e
 | ins C dx fs=>obtain ⟨_,_,_,e,_⟩:=x;exact Heap.lt_size e
 | own y=>obtain ⟨_,e⟩:=x;exact Heap.lt_size e
 | xd fs=>obtain ⟨_,⟨_,_,_,e,_⟩,_⟩:=x;exact Heap.lt_size e
 | rng lo hi=>obtain ⟨_,_,_,e⟩:=x;exact Heap.lt_size e
 | Gb ob u=>obtain ⟨e,_⟩:=x;exact Heap.lt_size e
 | Us ps=>exact Heap.lt_size (show h.get? a=some _ from x)
 | met f y=>exact Heap.lt_size (show h.get? a=some _ from x)
 | ext φ=>obtain ⟨_,⟨_,e⟩,_⟩:=x;exact Heap.lt_size e
theorem Paired.tO {α β:Type}{F G:α->β->Prop}:∀ {l₁:List α}{l₂:List β},Paired F l₁ l₂->(∀ a b,F a b->G a b)->Paired G l₁ l₂
 | _,_,.nil,_=>.nil
 | _,_,.cons r t,f=>.cons (f _ _ r) (Paired.tO t f)
theorem cC.stay (x:cC P w H h a o) (k:∀ b u,(b=a\/H b=some (.own a))->h.get? b=some u->h'.get? b=some u)
  (ho:∀ b,H b=some (.own a)->H' b=some (.own a)) (ht:∀ b xs,H b=some (.tup xs)->H' b=some (.tup xs)):cC P w H' h' a o:=by
 induction o with
 | lst xs=>obtain ⟨z,its,n,r,e⟩:=x;exact ⟨z,its,n,r,k _ _ (.inl rfl) e⟩
 | tup xs=>obtain ⟨z,its,r,ob,e,c⟩:=x;exact ⟨z,its,r,ob,k _ _ (.inl rfl) e,c⟩
 | dK kvs=>obtain ⟨z,y,vs,r,ob,es,ep,e,c⟩:=x;exact ⟨z,y,vs,r,ob,es,ep,k _ _ (.inl rfl) e,c⟩
 | dT kvs =>
  obtain ⟨z,y,xs,r,ob,es,ep,e,c⟩:=x;exact ⟨z,y,xs,Paired.tO r fun p q z=>⟨z.1,ht _ _ z.2.1,z.2.2⟩,ob,es,ep,k _ _ (.inl rfl) e,c⟩
 | set S n=>obtain ⟨ob,es,ep,t,e,c⟩:=x;exact ⟨ob,es,ep,t,k _ _ (.inl rfl) e,c⟩
 | ins C dx fs =>
  obtain ⟨d,z,ne,e,mA,⟨od,es,ep,e2,c⟩,r⟩:=x;exact ⟨ho _ d,z,ne,k _ _ (.inl rfl) e,mA,⟨od,es,ep,k _ _ (.inr d) e2,c⟩,r⟩
 | own y=>obtain ⟨ob,e⟩:=x;exact ⟨ob,k _ _ (.inl rfl) e⟩
 | xd fs=>obtain ⟨mA,⟨od,es,ep,e,c⟩,r⟩:=x;exact ⟨mA,⟨od,es,ep,k _ _ (.inl rfl) e,c⟩,r⟩
 | rng lo hi=>obtain ⟨t,u,v,e⟩:=x;exact ⟨t,u,v,k _ _ (.inl rfl) e⟩
 | Gb ob u ih=>obtain ⟨e,q⟩:=x;exact ⟨k _ _ (.inl rfl) e,ih q⟩
 | Us ps =>
  have e:h.get? a=some { cls:=.none,data:=.fields ps }:=x
  show h'.get? a=some { cls:=.none,data:=.fields ps }
  exact k a _ (.inl rfl) e
 | met f y =>
  have e:h.get? a=some (PySem.W.methodObj (.ref f) (.ref y)):=x
  show h'.get? a=some (PySem.W.methodObj (.ref f) (.ref y))
  exact k a _ (.inl rfl) e
 | ext φ=>obtain ⟨p,⟨o,e⟩,st⟩:=x;exact ⟨st _ _ p fun o q=>k _ _ (.inl rfl) q,⟨o,k _ _ (.inl rfl) e⟩,st⟩
theorem lV.lt (x:lV P w H h) (e:H a=some o):a<h.objs.size:=(x a o e).lt
theorem lV.fresh (x:lV P w H h) (e:h.objs.size<=a):H a=none:=by
 cases q:H a with
 | none=>rfl
 | some u=>exact absurd (Nat.lt_of_lt_of_le (x.lt q) e) (Nat.lt_irrefl _)
theorem lV.kept (x:lV P w H h) (k:∀ b u,h.get? b=some u->h'.get? b=some u):lV P w H h':=fun a o e =>
 (x a o e).stay (fun b u _ q=>k b u q) (fun _ q=>q) fun _ _ q=>q
theorem lV.laid (x:lV P w H h) (k:∀ b u,h.get? b=some u->h'.get? b=some u) (hp:h.objs.size<=a) (new:cC P w (upd H a o) h' a o):lV P w (upd H a o) h':=fun b u e=>by
 have hn:=x.fresh hp
 by_cases hb:b=a
 ·subst hb;rw [ak] at e;cases e;exact new
 ·rw [aG hb] at e;exact (x b u e).stay (fun c v _ q=>k c v q) (fun c q=>by rw [aG (aN q hn)];exact q) fun c xs q=>by rw [aG (aN q hn)];exact q
inductive Rd_X (H:Hp) (a:Addr) (u:L2.HO):Prop
 | mk (o:Obj) (_:H a=some (.Gb o u)):Rd_X H a u
def Rd (H:Hp) (a:Addr) (u:HO):Prop:=H a=some u\/Rd_X H a u
theorem Rd.ok {u:HO} (r:Rd H a u) (x:lV P w H h):cC P w H h a u:=by
 rcases r with r | ⟨o,r⟩
 ·exact x a u r
 ·obtain ⟨_,q⟩:=x a _ r;exact q
def Mut:Option HO->Prop
 | some (.lst _)=>True
 | some (.dK _)=>True
 | some (.dT _)=>True
 | some (.set _ _)=>True
 | some (.ins _ _ _)=>True
 | some (.ext _)=>True
 | _=>False
section
variable {x e:Addr}{o':HO}
theorem lV.write (ok:lV P w H h) (mu:Mut (H x)) (he:e=x\/H e=some (.own x)) (k:∀ b u,b≠e->h.get? b=some u->h'.get? b=some u) (heo:∃ u,h'.get? e=some u)
  (new:cC P w (upd H x o') h' x o'):lV P w (upd H x o') h':=fun b u q=>by
 have nown:∀ c y,H c=some (.own y)->c≠x:=fun c y r z=>by subst z;rw [r] at mu;exact mu
 have ntup:∀ c xs,H c=some (.tup xs)->c≠x:=fun c xs r z=>by subst z;rw [r] at mu;exact mu
 by_cases hb:b=x
 ·subst hb;rw [ak] at q;cases q;exact new
 ·rw [aG hb] at q
  by_cases hbe:b=e
  ·have q':H b=some (.own x):=by
    rcases he with z | z
    ·exact absurd (hbe.trans z) hb
    ·rw [hbe];exact z
   rw [q] at q';cases q';obtain ⟨v,hv⟩:=heo;exact ⟨v,by rw [hbe];exact hv⟩
  ·refine (ok b u q).stay (fun c v hc r=>k c v ?_ r) (fun c r=>by rw [aG (nown c b r)];exact r) fun c xs r=>by rw [aG (ntup c xs r)];exact r
   rcases hc with rfl | hc
   ·exact hbe
   ·rintro rfl;rcases he with z | z
    ·exact nown c b hc z
    ·rw [hc] at z;cases z;exact hb rfl
end
structure Un (fs ex:List Addr) (H H':Hp) (h h':Heap):Prop where
 keep:∀ b o,h.get? b=some o->H b=none->b∉fs->b∉ex->h'.get? b=some o
 slot:∀ b o,h.get? b=some o->H b=none->b∈fs->b∉ex->∃ sl,h'.get? b=some { o with slots:=sl }
 free:∀ b o,h.get? b=some o->H b=none->b∉ex->H' b=none
 there:∀ b o,h.get? b=some o->b∉ex->∃ o',h'.get? b=some o'
 tups:∀ b xs,H b=some (.tup xs)->H' b=some (.tup xs)
 oV:∀ b o u,H b=some (.Gb o u)->H' b=some (.Gb o u)
 pQ:∀ b ps,H b=some (.Us ps)->∃ more,H' b=some (.Us (ps++more))
section
variable {fs fs' ex ex':List Addr}{x e:Addr}
theorem Un.any (u:Un fs ex H H1 h h1) {ob:Obj} (q:h.get? b=some ob) (n:H b=none) (hx:b∉ex):∃ sl,h1.get? b=some { ob with slots:=sl }:=by
 by_cases hb:b∈fs
 ·exact u.slot b ob q n hb hx
 ·exact ⟨ob.slots,u.keep b ob q n hb hx⟩
theorem Un.kept (k:∀ b u,h.get? b=some u->h'.get? b=some u):Un fs ex H H h h' :=
 ⟨fun b ob q _ _ _=>k b ob q,fun b ob q _ _ _=>⟨ob.slots,k b ob q⟩,fun _ _ _ n _=>n,fun b ob q _=>⟨ob,k b ob q⟩,fun _ _ q=>q,fun _ _ _ q=>q,fun _ ps q=>⟨#[],by rw [q];simp⟩⟩
theorem Un.refl:Un fs ex H H h h:=Un.kept fun _ _ q=>q
theorem Un.laid (k:∀ b u,h.get? b=some u->h'.get? b=some u) (hp:h.objs.size<=a) (hn:H a=none):Un fs ex H (upd H a o) h h' where
 keep:=fun b u q _ _ _=>k b u q
 slot:=fun b u q _ _ _=>⟨u.slots,k b u q⟩
 free:=fun b u q n _=>by rw [aG (Nat.ne_of_lt (Nat.lt_of_lt_of_le (Heap.lt_size q) hp))];exact n
 there:=fun b u q _=>⟨u,k b u q⟩
 tups:=fun b xs q=>by rw [aG (aN q hn)];exact q
 oV:=fun b u xs q=>by rw [aG (aN q hn)];exact q
 pQ:=fun b ps q=>⟨#[],by rw [aG (aN q hn),q];simp⟩
theorem Un.write (mu:Mut (H x)) (he:e=x\/H e=some (.own x)) (k:∀ b u,b≠e->h.get? b=some u->h'.get? b=some u) (heo:∃ u,h'.get? e=some u):Un fs ex H (upd H x o) h h':=by
 have hx:∀ b,H b=none->b≠x:=fun b n z=>by subst z;rw [n] at mu;exact mu
 have hb:∀ b,H b=none->b≠e:=fun b n z=>by
  subst z;rcases he with r | r
  ·exact hx b n r
  ·rw [n] at r;cases r
 have hm:∀ b u,H b=some u->¬ Mut (some u)->b≠x:=fun b u q nm z=>by subst z;rw [q] at mu;exact nm mu
 refine ⟨fun b u q n _ _=>k b u (hb b n) q,fun b u q n _ _=>⟨u.slots,k b u (hb b n) q⟩,fun b u q n _=>by rw [aG (hx b n)];exact n,fun b u q _=>?_,
  fun b xs q=>by rw [aG (hm b _ q fun z=>z)];exact q,fun b u xs q=>by rw [aG (hm b _ q fun z=>z)];exact q,fun b ps q=>⟨#[],by rw [aG (hm b _ q fun z=>z),q];simp⟩⟩
 by_cases hbe:b=e
 ·subst hbe;exact heo
 ·exact ⟨u,k b u hbe q⟩
end
def trk (h:Heap) (H:Hp):List Addr:=(List.range h.objs.size).filter fun a=>(H a).isSome
def zR (h:Heap) (H:Hp):Heap:=PySem.W.hideAll h (trk h H)
theorem Mz (h:Heap) (H:Hp):(zR h H).objs.size=h.objs.size:=PySem.W.hideAll_size _ _
theorem Om {o:Obj} (e:h.get? b=some o) (n:H b=none):(zR h H).get? b=some o :=
 PySem.W.hideAll_get _ e fun hm=>by
  have q:(H b).isSome=true:=(List.mem_filter.mp hm).2;rw [n] at q;simp at q
theorem Ut {o:Obj} (e:(zR h H).get? b=some o):h.get? b=some o/\H b=none:=by
 have e':h.get? b=some o:=PySem.W.of_hideAll (trk h H) e;refine ⟨e',?_⟩;cases q:H b with
 | none=>rfl
 | some x =>
  have hm:b∈trk h H:=List.mem_filter.mpr ⟨List.mem_range.mpr (Heap.lt_size e'),by simp [q]⟩;have z:(zR h H).get? b=none:=PySem.W.hideAll_none (trk h H) hm;rw [z] at e;cases e
structure Mod (K:PySem.W.Frag) (mg:Str->Option Value) (base:Heap):Prop where
 kin:K.In base
 glob:base.Ns mainGlobals mg
 blt:∃ mb,base.Ns builtinsNs mb/\∀ x:Str,x≠"__name__"->mb x=bootBuiltins x
 nolimit:base.NoLimit
structure Cx where
 prog:Program
 w:World
 K:PySem.W.Frag
 mg:Str->Option Value
 base:Heap
 A:Around
 N:List Str
 s₀:Shared
 H₀:Hp
 env:Env
 outer:List Env
 stack:List Env
 ex:List Addr
 fn:Str->Bool
 calm:Bool
 pn:List 0x18
 xe:Value->Shared->Prop
variable {X:Cx}
def frs (l:List Env):List Addr:=l.filterMap (·.frame)
abbrev Cx.fs (X:Cx):List Addr:=frs X.outer
def Vis (sc:Scope) (x:Str):Prop:=sc.names.lookup x=some .local\/sc.names.lookup x=some .cell\/sc.names.lookup x=some .free
def Loc (sc:Scope) (x:Str):Prop:=sc.names.lookup x=some .local\/sc.names.lookup x=some .cell
def Look (env:Env) (h:Heap) (m:Str->Option Value) (x:Str) (u:Value):Prop :=
 (env.kindOf x=some .local/\m x=some u)\/((env.kindOf x=some .cell\/env.kindOf x=some .free)/\∃ c,env.cells.lookup x=some c/\h.IsCell c (some u))
structure Cx.Ok (X:Cx):Prop where
 mod:Mod X.K X.mg X.base
 kind:X.env.scope.kind=.function
 glob:X.env.globals=mainGlobals
 blt:X.env.builtins=builtinsNs
 above:X.s₀.heap.objs.size<=X.env.locals
 inj:∀ x y c,X.env.cells.lookup x=some c->X.env.cells.lookup y=some c->x=y
 has:∀ x,(X.env.kindOf x=some .cell\/X.env.kindOf x=some .free)->∃ c,X.env.cells.lookup x=some c
 cab:∀ x c,X.fn x=true->X.env.cells.lookup x=some c->X.s₀.heap.objs.size<=c
 hd:X.calm=true->X.A.handled=none
 frames:X.A.frames=some X.stack
 stk:X.stack=X.outer\/(X.stack=X.env::X.outer/\X.env.frame=some X.env.locals)
 exf:∀ b∈X.ex,b≠X.env.locals/\∀ x c,X.env.cells.lookup x=some c->c≠b
 bs:∀ b o,X.base.get? b=some o->X.s₀.heap.get? b=some o/\X.H₀ b=none
 Oo:X.base.objs.size<=X.s₀.heap.objs.size
 Ce:∀ b o,X.base.get? b=some o->b∉X.ex
 Gg:∀ b∈X.ex,b∉X.fs
 oF:X.s₀.heap.FunFrames X.base X.outer
 Uu:∀ b∈X.fs,X.H₀ b=none
structure Inv (X:Cx) (pins:List 0x18) (σ:List (Option V)) (H:Hp) (s:Shared):Prop where
 ok:X.Ok
 os:s.os=X.s₀.os
 bare:AllBare s.gens
 base:Un X.fs X.ex X.H₀ H X.s₀.heap s.heap
 loc:∃ m,s.heap.Ns X.env.locals m/\∀ (i:Nat) (x:Str) (v:V),X.N[i]?=some x->σ[i]?=some (some v)->Vis X.env.scope x->∃ u,RelV v u/\Look X.env s.heap m x u
 cell:∀ x c,X.env.cells.lookup x=some c->∃ v,s.heap.IsCell c v
 free:H X.env.locals=none
 iM:∀ x c,X.env.cells.lookup x=some c->H c=none
 pin:∀ p∈X.pn++pins,s.heap.get? p.1=some p.2/\H p.1=none/\p.1≠X.env.locals/\p.1∉X.fs/\∀ v,p.2.data≠.cell v
 hok:lV X.prog X.w H s.heap
 len:σ.length=X.N.length
section
variable {σ:List (Option V)}
theorem Cx.Ok.nofr (ok:X.Ok) {o:Obj} (e:X.base.get? b=some o):b∉X.fs:=fun hb=>by
 have:=(ok.oF.mem hb).1;rw [e] at this;cases this
theorem Inv.bs (I:Inv X pins σ H s):∀ b o,X.base.get? b=some o->s.heap.get? b=some o/\H b=none:=fun b o e =>
 ⟨I.base.keep b o (I.ok.bs b o e).1 (I.ok.bs b o e).2 (I.ok.nofr e) (I.ok.Ce b o e),I.base.free b o (I.ok.bs b o e).1 (I.ok.bs b o e).2 (I.ok.Ce b o e)⟩
theorem Inv.bk (I:Inv X pins σ H s):∀ b o,X.base.get? b=some o->s.heap.get? b=some o:=fun b o e=>(I.bs b o e).1
theorem Inv.mod (I:Inv X pins σ H s):Mod X.K X.mg X.base:=I.ok.mod
theorem Inv.jV (I:Inv X pins σ H s):X.K.In s.heap:=I.ok.mod.kin.keeps I.bk
theorem Inv.fr (I:Inv X pins σ H s):∃ m,Fr X.base X.env.locals s.heap m :=
 let ⟨m,hn,_⟩:=I.loc
 ⟨m,hn,I.bk,Nat.le_trans I.ok.Oo I.ok.above⟩
theorem Inv.lt (I:Inv X pins σ H s):X.env.locals<s.heap.objs.size:=let ⟨_,hn,_⟩:=I.loc;hn.lt
theorem Inv.sz (I:Inv X pins σ H s):X.s₀.heap.objs.size<=s.heap.objs.size:=Nat.le_trans I.ok.above (Nat.le_of_lt I.lt)
theorem Inv.nofs (I:Inv X pins σ H s)  (h:s.heap.objs.size<=a):a∉X.fs:=fun hb=>by
 obtain ⟨_,o,ho,_⟩:=I.ok.oF.mem hb;exact absurd (Nat.lt_of_lt_of_le (Heap.lt_size ho) (Nat.le_trans I.sz h)) (Nat.lt_irrefl _)
theorem Inv.Gd (I:Inv X pins σ H s):∀ x c,X.env.cells.lookup x=some c->c≠X.env.locals:=fun x c e z=>by
 obtain ⟨v,o,ho,hd⟩:=I.cell x c e;obtain ⟨m,⟨o',es,ep,ho',hd',_⟩,_⟩:=I.loc;rw [z,ho'] at ho;cases ho;rw [hd'] at hd;cases hd
theorem Inv.oF (I:Inv X pins σ H s):s.heap.FunFrames X.base X.outer:=by
 have all:∀ (l:List Env),(∀ b∈frs l,b∈X.fs)->X.s₀.heap.FunFrames X.base l->s.heap.FunFrames X.base l:=by
  intro l
  induction l with
  | nil=>intro _ _;trivial
  | cons env r ih =>
   intro hs hl;obtain ⟨hk,⟨L,o,hf,hn,ho,hd⟩,hr⟩:=hl;have hL:L∈X.fs:=hs L (by unfold frs;rw [List.filterMap_cons,hf];exact List.mem_cons_self);obtain ⟨sl,e⟩:=I.base.slot L o ho (I.ok.Uu L hL) hL fun z=>I.ok.Gg L z hL;exact ⟨hk,⟨L,_,hf,hn,e,hd⟩,ih (fun b hb=>hs b (by unfold frs;rw [List.filterMap_cons,hf];exact lR _ hb)) hr⟩
 exact all X.outer (fun _ hb=>hb) I.ok.oF
theorem Inv.stack (I:Inv X pins σ H s):s.heap.FunFrames X.base X.stack:=by
 rcases I.ok.stk with e | ⟨e,hf⟩
 ·rw [e];exact I.oF
 ·rw [e];obtain ⟨m,hn,_⟩:=I.loc;refine .cons (by rw [I.ok.kind];decide) hf hn ?_ I.oF;exact Heap.get?_none_of_le (Nat.le_trans I.ok.Oo I.ok.above)
theorem Inv.uO (I:Inv X pins σ H s):∀ b∈frs X.stack,b∈X.env.locals::X.fs:=fun b hb=>by
 rcases I.ok.stk with e | ⟨e,hf⟩
 ·rw [e] at hb;exact lR _ hb
 ·rw [e] at hb;unfold frs at hb;rw [List.filterMap_cons,hf] at hb;exact hb
theorem Inv.zT (I:Inv X pins σ H s):∀ b∈frs X.stack,H b=none:=fun b hb=>by
 rcases List.mem_cons.mp (I.uO b hb) with e | hb
 ·rw [e];exact I.free
 ·obtain ⟨_,o,ho,_⟩:=I.ok.oF.mem hb;exact I.base.free b o ho (I.ok.Uu b hb) fun z=>I.ok.Gg b z hb
theorem Inv.step {g':Array GenState}{d':Drawn} (I:Inv X pins σ H s)
  (hch:∀ b∈ch,(b∈X.ex\/X.s₀.heap.objs.size<=b)/\b≠X.env.locals/\(∀ x c,X.env.cells.lookup x=some c->c≠b)/\∀ p∈X.pn++pins,p.1≠b)
  (keep:∀ b o,b≠X.env.locals->b∉X.fs->b∉ch->s.heap.get? b=some o->H b=none->h'.get? b=some o)
  (slot:∀ b o,b≠X.env.locals->b∈X.fs->b∉ch->s.heap.get? b=some o->H b=none->∃ sl,h'.get? b=some { o with slots:=sl }) (free:∀ b o,b∉ch->s.heap.get? b=some o->H b=none->H' b=none)
  (there:∀ b o,b∉ch->s.heap.get? b=some o->∃ o',h'.get? b=some o')
  (tups:∀ b xs,H b=some (.tup xs)->H' b=some (.tup xs)) (oV:∀ b o u,H b=some (.Gb o u)->H' b=some (.Gb o u)) (pQ:∀ b ps,H b=some (.Us ps)->∃ more,H' b=some (.Us (ps++more)))
  (ns:∀ m,s.heap.Ns X.env.locals m->h'.Ns X.env.locals m) (hok:lV X.prog X.w H' h') (hg:AllBare g') :
  Inv X pins σ H' { s with heap:=h',gens:=g',drawn:=d',toks:=t' }:=by
 have neL:∀ b o,X.s₀.heap.get? b=some o->b≠X.env.locals:=fun b o e=>Nat.ne_of_lt (Nat.lt_of_lt_of_le (Heap.lt_size e) I.ok.above);have neC:∀ b o,X.s₀.heap.get? b=some o->b∉X.ex->b∉ch:=fun b o e hx hb=>by
  rcases (hch b hb).1 with z | z
  ·exact hx z
  ·exact absurd (Nat.lt_of_lt_of_le (Heap.lt_size e) z) (Nat.lt_irrefl _)
 have cellK:∀ x c,X.env.cells.lookup x=some c->∀ v,s.heap.IsCell c v->h'.IsCell c v:=fun x c e v ⟨o,ho,hd⟩=>by
  have nch:c∉ch:=fun z=>(hch c z).2.2.1 x c e rfl
  by_cases hc:c∈X.fs
  ·obtain ⟨sl,q⟩:=slot c o (I.Gd x c e) hc nch ho (I.iM x c e);exact ⟨_,q,hd⟩
  ·exact ⟨o,keep c o (I.Gd x c e) hc nch ho (I.iM x c e),hd⟩
 refine ⟨I.ok,I.os,hg,⟨fun b o e n hb hx=>?_,fun b o e n hb hx=>?_,fun b o e n hx=>?_,fun b o e hx=>?_,fun b xs e=>tups b xs (I.base.tups b xs e),fun b o xs e=>oV b o xs (I.base.oV b o xs e),fun b ps e=>?_⟩,?_,fun x c e=>?_,?_,fun x c e=>?_,fun p hp=>?_,hok,I.len⟩
 ·exact keep b o (neL b o e) hb (neC b o e hx) (I.base.keep b o e n hb hx) (I.base.free b o e n hx)
 ·obtain ⟨sl,e1⟩:=I.base.slot b o e n hb hx;obtain ⟨sl',e2⟩:=slot b _ (neL b o e) hb (neC b o e hx) e1 (I.base.free b o e n hx);exact ⟨sl',e2⟩
 ·obtain ⟨o',e1⟩:=I.base.there b o e hx;exact free b o' (neC b o e hx) e1 (I.base.free b o e n hx)
 ·obtain ⟨o',e1⟩:=I.base.there b o e hx;exact there b o' (neC b o e hx) e1
 ·obtain ⟨m1,e1⟩:=I.base.pQ b ps e;obtain ⟨m2,e2⟩:=pQ b _ e1;exact ⟨m1++m2,by rw [e2,Array.append_assoc]⟩
 ·obtain ⟨m,hn,hl⟩:=I.loc;refine ⟨m,ns m hn,fun i x v e1 e2 e3=>?_⟩;obtain ⟨u,r,l⟩:=hl i x v e1 e2 e3;refine ⟨u,r,?_⟩;rcases l with l | ⟨k,c,e,z⟩
  ·exact .inl l
  ·exact .inr ⟨k,c,e,cellK x c e _ z⟩
 ·obtain ⟨v,z⟩:=I.cell x c e;exact ⟨v,cellK x c e v z⟩
 ·obtain ⟨m,⟨o,_,_,ho,_⟩,_⟩:=I.loc;exact free _ o (fun z=>(hch _ z).2.1 rfl) ho I.free
 ·obtain ⟨v,o,ho,hd⟩:=I.cell x c e;exact free c o (fun z=>(hch c z).2.2.1 x c e rfl) ho (I.iM x c e)
 ·obtain ⟨e,n,ne,nf,d⟩:=I.pin p hp;have nch:p.1∉ch:=fun z=>(hch p.1 z).2.2.2 p hp rfl;exact ⟨keep p.1 p.2 ne nf nch e n,free p.1 p.2 nch e n,ne,nf,d⟩
theorem Inv.un (I:Inv X pins σ H s) (u:Un X.fs [] H H' s.heap h') (hok:lV X.prog X.w H' h'):Inv X pins σ H' { s with heap:=h',toks:=t' }:=by
 obtain ⟨m,⟨o,es,ep,ho,r⟩,_⟩:=id I.loc;obtain ⟨sl,hL⟩:=u.any ho I.free 0x5;exact I.step (g':=s.gens) (d':=s.drawn) (ch:=[]) (fun _ z=>nomatch z) (fun b o _ hb _ e n=>u.keep b o e n hb 0x5) (fun b o _ hb _ e n=>u.slot b o e n hb 0x5) (fun b o _ e n=>u.free b o e n 0x5) (fun b o _ e=>u.there b o e 0x5) u.tups u.oV u.pQ (fun m' hm=>by
  obtain ⟨o',es',ep',ho',r'⟩:=hm;rw [ho] at ho';cases ho';exact ⟨_,es',ep',hL,r'⟩) hok I.bare
theorem Inv.call {g':Array GenState}{d':Drawn} (I:Inv X pins σ H s) (u:Un (frs X.stack) ch H H' s.heap h') (hok:lV X.prog X.w H' h') (hg:AllBare g')
  (hch:∀ b∈ch,(b∈X.ex\/X.s₀.heap.objs.size<=b)/\b≠X.env.locals/\(∀ x c,X.env.cells.lookup x=some c->c≠b)/\∀ p∈X.pn++pins,p.1≠b) :
  Inv X pins σ H' { s with heap:=h',gens:=g',drawn:=d',toks:=t' }:=by
 obtain ⟨m,⟨o,es,ep,ho,r⟩,_⟩:=id I.loc;obtain ⟨sl,hL⟩:=u.any ho I.free fun z=>(hch _ z).2.1 rfl;exact I.step (ch:=ch) hch (fun b o hL hb hc e n=>u.keep b o e n (fun z=>(List.mem_cons.mp (I.uO b z)).elim hL hb) hc) (fun b o _ _ hc e n=>u.any e n hc) (fun b o hc e n=>u.free b o e n hc) (fun b o hc e=>u.there b o e hc) u.tups u.oV u.pQ (fun m' hm=>by
  obtain ⟨o',es',ep',ho',r'⟩:=hm;rw [ho] at ho';cases ho';exact ⟨_,es',ep',hL,r'⟩) hok hg
theorem Inv.turned (I:Inv X pins σ H s) (k:∀ b o,b≠it->s.heap.get? b=some o->h'.get? b=some o) (hn:H it=none) (hL:it≠X.env.locals)
  (h1:it∈X.ex\/X.s₀.heap.objs.size<=it) (h2:∀ x c,X.env.cells.lookup x=some c->c≠it) (h3:∀ p∈X.pn++pins,p.1≠it):Inv X pins σ H { s with heap:=h',toks:=t' }:=by
 have nit:∀ b u,H b=some u->b≠it:=fun b u e z=>by rw [z,hn] at e;cases e
 refine I.step (g':=s.gens) (d':=s.drawn) (ch:=[it]) (fun b hb=>?_) (fun b o _ _ hc e _=>k b o (fun z=>hc (by simp [z])) e) (fun b o _ _ hc e _=>⟨o.slots,k b o (fun z=>hc (by simp [z])) e⟩) (fun _ _ _ _ n=>n)
  (fun b o hc e=>⟨o,k b o (fun z=>hc (by simp [z])) e⟩) (fun _ _ e=>e) (fun _ _ _ e=>e) (fun b ps e=>⟨#[],by rw [e];simp⟩) (fun m hm=>?_) (fun b u e=>?_) I.bare
 ·have e:b=it:=by simpa using hb
  subst e;exact ⟨h1,hL,h2,h3⟩
 ·obtain ⟨o,es,ep,ho,r⟩:=hm;exact ⟨o,es,ep,k _ o (Ne.symm hL) ho,r⟩
 ·refine (I.hok b u e).stay (fun c v hc q=>k c v ?_ q) (fun _ q=>q) fun _ _ q=>q;rcases hc with z | z
  ·rw [z];exact nit b u e
  ·exact nit c _ z
theorem Inv.tok (I:Inv X pins σ H s) (t:Nat):Inv X pins σ H { s with toks:=t }:=I.un (h':=s.heap) (t':=t) Un.refl I.hok
theorem Inv.kept (I:Inv X pins σ H s) (k:∀ b u,s.heap.get? b=some u->h'.get? b=some u):Inv X pins σ H { s with heap:=h',toks:=t' }:=I.un (Un.kept k) (I.hok.kept k)
theorem Inv.laid (I:Inv X pins σ H s) (k:∀ b u,s.heap.get? b=some u->h'.get? b=some u) (hp:s.heap.objs.size<=a) (new:cC X.prog X.w (upd H a o) h' a o) :
  Inv X pins σ (upd H a o) { s with heap:=h',toks:=t' }:=I.un (Un.laid k hp (I.hok.fresh hp)) (I.hok.laid k hp new)
theorem Inv.write {x e:Addr} (I:Inv X pins σ H s) (mu:Mut (H x)) (he:e=x\/H e=some (.own x)) (k:∀ b u,b≠e->s.heap.get? b=some u->h'.get? b=some u) (heo:∃ u,h'.get? e=some u)
  (new:cC X.prog X.w (upd H x o) h' x o):Inv X pins σ (upd H x o) { s with heap:=h',toks:=t' }:=I.un (Un.write mu he k heo) (I.hok.write mu he k heo new)
theorem Inv.weak {σ':List (Option V)} (I:Inv X pins σ H s) (hl:σ'.length=σ.length) (w:∀ (i:Nat) v,σ'[i]?=some (some v)->σ[i]?=some (some v)):Inv X pins σ' H s :=
 ⟨I.ok,I.os,I.bare,I.base,let ⟨m,hn,hl'⟩:=I.loc;⟨m,hn,fun i x v e1 e2 e3=>hl' i x v e1 (w i v e2) e3⟩,I.cell,I.free,I.iM,I.pin,I.hok,hl.trans I.len⟩
theorem Inv.Jc {Cg:List 0x18} (I:Inv X pins σ H s) (h:∀ p∈Cg,s.heap.get? p.1=some p.2/\H p.1=none/\p.1≠X.env.locals/\p.1∉X.fs/\∀ v,p.2.data≠.cell v):Inv X Cg σ H s :=
 ⟨I.ok,I.os,I.bare,I.base,I.loc,I.cell,I.free,I.iM,fun p hp=>(List.mem_append.mp hp).elim (fun z=>I.pin p (List.mem_append_left _ z)) (h p),I.hok,I.len⟩
theorem uP (hN:N.Nodup)  (a:N[i]?=some x) (b:N[j]?=some x):i=j:=by
 obtain ⟨h1,e1⟩:=List.getElem?_eq_some_iff.mp a;obtain ⟨h2,e2⟩:=List.getElem?_eq_some_iff.mp b;exact (List.getElem_inj hN).mp (e1.trans e2.symm)
theorem xQ {M:Model}{Q:Unit->Shared->Prop} (I:Inv X pins σ H s) (hN:X.N.Nodup) (hi:X.N[i]?=some x) (hx:Loc X.env.scope x) (r:RelV v u)
  (h:∀ s',Inv X pins (σ.set i (some v)) H s'->(∃ a,Heap.SameBut a s.heap s'.heap/\(a=X.env.locals\/X.env.cells.lookup x=some a))->Q () s') (hf:X.fn x=true\/X.env.scope.names.lookup x=some .local:=by first | exact .inl rfl | exact .inr rfl | assumption):wpAny M A (storeName X.env x u) Q E s:=by
 obtain ⟨m,hn,hl⟩:=id I.loc;have hcls:(X.env.scope.kind==.class||(X.env.scope.kind==.module&&X.env.locals != X.env.globals))=false:=by rw [I.ok.kind];rfl
 have hiσ:i<σ.length:=by rw [I.len];exact (List.getElem?_eq_some_iff.mp hi).1
 have Gd:=I.Gd;have tracked:∀ {a:Addr}{h':Heap},(∃ o,s.heap.get? a=some o/\H a=none)->Heap.SameBut a s.heap h'->lV X.prog X.w H h':=fun {a h'} ha hs b ob e=>by
  obtain ⟨_,_,hfree⟩:=ha;refine (I.hok b ob e).stay (fun c w' hc q=>(hs.2 c ?_).trans q) (fun _ q=>q) fun _ _ q=>q;rintro rfl;rcases hc with rfl | hc
  ·rw [hfree] at e;cases e
  ·rw [hfree] at hc;cases hc
 rcases hx with hk | hk
 ·refine wpAny_storeName_local hk hn (fun h' hn' hs=>?_) hcls;obtain ⟨oL,_,_,hoL,_⟩:=id hn;refine h _ ⟨I.ok,I.os,I.bare,⟨fun b o e n hb hx=>?_,fun b o e n hb hx=>?_,I.base.free,fun b o e hx=>?_,I.base.tups,I.base.oV,I.base.pQ⟩,⟨_,hn',fun j y v' e1 e2 e3=>?_⟩,fun y c e=>?_,I.free,I.iM,fun p hp=>?_,tracked ⟨oL,hoL,I.free⟩ hs,by simpa using I.len⟩ ⟨_,hs,.inl rfl⟩
  ·exact (0x1B).trans (I.base.keep b o e n hb hx)
  ·obtain ⟨sl,e1⟩:=I.base.slot b o e n hb hx;exact ⟨sl,(0x1B).trans e1⟩
  ·obtain ⟨o',e1⟩:=I.base.there b o e hx;exact ⟨o',(0x1B).trans e1⟩
  ·by_cases hj:j=i
   ·subst hj;rw [hi] at e1;cases e1;rw [List.getElem?_set_self hiσ] at e2;cases e2;exact ⟨u,r,.inl ⟨hk,by simp⟩⟩
   ·rw [List.getElem?_set_ne (Ne.symm hj)] at e2;obtain ⟨u',r',q⟩:=hl j y v' e1 e2 e3;refine ⟨u',r',?_⟩;rcases q with ⟨k,e⟩ | ⟨k,c,e,z⟩
    ·refine .inl ⟨k,?_⟩;have:y≠x:=fun e=>hj (uP hN e1 (e ▸ hi));simp [this,e]
    ·exact .inr ⟨k,c,e,z.sameBut hs (Gd y c e)⟩
  ·obtain ⟨w',z⟩:=I.cell y c e;exact ⟨w',z.sameBut hs (Gd y c e)⟩
  ·obtain ⟨e,n,ne,nf,d⟩:=I.pin p hp;exact ⟨(hs.2 p.1 ne).trans e,n,ne,nf,d⟩
 ·have hfn:X.fn x=true:=by
   rcases hf with z | z
   ·exact z
   ·rw [z] at hk;cases hk
  obtain ⟨c,hc⟩:=I.ok.has x (.inl hk);obtain ⟨w',z⟩:=I.cell x c hc;refine wpAny_storeName_cell I.ok.kind hk hc z (fun h' hc' hs=>?_);obtain ⟨oc,hoc,hocd⟩:=id z;refine h { s with heap:=h' } ⟨I.ok,I.os,I.bare,⟨fun b o e n hb hx=>?_,fun b o e n hb hx=>?_,I.base.free,fun b o e hx=>?_,I.base.tups,I.base.oV,I.base.pQ⟩,⟨m,hn.sameBut hs (Ne.symm (Gd x c hc)),fun j y v' e1 e2 e3=>?_⟩,fun y c' e=>?_,I.free,I.iM,fun p hp=>?_,tracked ⟨oc,hoc,I.iM x c hc⟩ hs,by simpa using I.len⟩ ⟨c,hs,.inr hc⟩
  ·exact (hs.2 b (Nat.ne_of_lt (Nat.lt_of_lt_of_le (Heap.lt_size e) (I.ok.cab x c hfn hc)))).trans (I.base.keep b o e n hb hx)
  ·obtain ⟨sl,e1⟩:=I.base.slot b o e n hb hx;exact ⟨sl,(hs.2 b (Nat.ne_of_lt (Nat.lt_of_lt_of_le (Heap.lt_size e) (I.ok.cab x c hfn hc)))).trans e1⟩
  ·obtain ⟨o',e1⟩:=I.base.there b o e hx;exact ⟨o',(hs.2 b (Nat.ne_of_lt (Nat.lt_of_lt_of_le (Heap.lt_size e) (I.ok.cab x c hfn hc)))).trans e1⟩
  ·by_cases hj:j=i
   ·subst hj;rw [hi] at e1;cases e1;rw [List.getElem?_set_self hiσ] at e2;cases e2;exact ⟨u,r,.inr ⟨.inl hk,c,hc,hc'⟩⟩
   ·rw [List.getElem?_set_ne (Ne.symm hj)] at e2;obtain ⟨u',r',q⟩:=hl j y v' e1 e2 e3;refine ⟨u',r',?_⟩;rcases q with q | ⟨k,c',e,z'⟩
    ·exact .inl q
    ·refine .inr ⟨k,c',e,z'.sameBut hs ?_⟩;rintro rfl;exact hj (uP hN e1 (I.ok.inj _ _ _ e hc ▸ hi))
  ·by_cases hcc:c'=c
   ·subst hcc;exact ⟨_,hc'⟩
   ·obtain ⟨w2,z2⟩:=I.cell y c' e;exact ⟨w2,z2.sameBut hs hcc⟩
  ·obtain ⟨e,n,ne,nf,d⟩:=I.pin p hp;refine ⟨(hs.2 p.1 ?_).trans e,n,ne,nf,d⟩;intro q;rw [q,hoc] at e;have q':oc=p.2:=Option.some.inj e;exact d w' (by rw [<- q'];exact hocd)
theorem pR {M:Model}{Q:Unit->Shared->Prop} (I:Inv X pins σ H s) (hN:X.N.Nodup) (hi:X.N[i]?=some x) (hx:Loc X.env.scope x) (r:RelV v u)
  (h:∀ s',Inv X pins (σ.set i (some v)) H s'->Q () s') (hf:X.fn x=true\/X.env.scope.names.lookup x=some .local:=by first | exact .inl rfl | exact .inr rfl | assumption):wpAny M A (storeName X.env x u) Q E s :=
 xQ I hN hi hx r (fun s' I' _=>h s' I') hf
theorem Inv.call' (I:Inv X pins σ H s) (ho:s'.os=s.os) (u:Un (frs X.stack) ch H H' s.heap s'.heap) (hok:lV X.prog X.w H' s'.heap) (hg:AllBare s'.gens)
  (hch:∀ b∈ch,(b∈X.ex\/X.s₀.heap.objs.size<=b)/\b≠X.env.locals/\(∀ x c,X.env.cells.lookup x=some c->c≠b)/\∀ p∈X.pn++pins,p.1≠b):Inv X pins σ H' s':=by
 obtain ⟨h',g',d',t',o'⟩:=s';have e:o'=s.os:=ho;subst e;exact I.call (g':=g') (t':=t') (d':=d') u hok hg hch
end
abbrev XK:=Value->Option Addr->Hp->Prop
abbrev St:=List (Option V)
variable {σ:St}
abbrev VK:=V->Hp->Prop
abbrev TE:=St->Hp->VK->Prop
variable {ta tb te tl to tv:TE}{Oi:List (TE×TE)}
abbrev TT:=St->Hp->(Bool->Hp->Prop)->Prop
variable {tt:TT}
abbrev TA:=St->Hp->(List V->Hp->Prop)->Prop
variable {t:TA}
structure Ends where
 nx:St->Hp->Prop
 rt:VK
 bk:St->Hp->Prop:=fun _ _=>False
 ct:St->Hp->Prop:=fun _ _=>False
variable {D:Ends}
abbrev TS:=Ends->St->Hp->Prop
inductive EP_X (X:Cx) (pins:List (Prod Addr Obj)) (σ:L2.St) (Q:VK) (u:Value) (s':Shared):Prop
 | mk (v:V) (H':Hp) (_:Inv X pins σ H' s') (_:RelV v u) (_:Q v H'):EP_X X pins σ Q u s'
def EP (X:Cx) (pins:List 0x18) (σ:St) (Q:VK) (u:Value) (s':Shared):Prop:=EP_X X pins σ Q u s'
inductive TP_X (X:Cx) (pins:List (Prod Addr Obj)) (σ:L2.St) (Q:Bool->Hp->Prop) (b:Bool) (s':Shared):Prop
 | mk (H':Hp) (_:Inv X pins σ H' s') (_:Q b H'):TP_X X pins σ Q b s'
def TP (X:Cx) (pins:List 0x18) (σ:St) (Q:Bool->Hp->Prop) (b:Bool) (s':Shared):Prop:=TP_X X pins σ Q b s'
inductive AP_X (X:Cx) (pins:List (Prod Addr Obj)) (σ:L2.St) (Q:List V->Hp->Prop) (us:List Value) (s':Shared):Prop
 | mk (vs:List V) (H':Hp) (_:Inv X pins σ H' s') (_:Vals vs us) (_:Q vs H'):AP_X X pins σ Q us s'
def AP (X:Cx) (pins:List 0x18) (σ:St) (Q:List V->Hp->Prop) (us:List Value) (s':Shared):Prop:=AP_X X pins σ Q us s'
def SP (X:Cx) (pins:List 0x18) (D:Ends) (f:Flow) (s':Shared):Prop :=
 match f with
 | .next=>∃ σ' H',Inv X pins σ' H' s'/\D.nx σ' H'
 | .brk=>∃ σ' H',Inv X pins σ' H' s'/\D.bk σ' H'
 | .cont=>∃ σ' H',Inv X pins σ' H' s'/\D.ct σ' H'
 | .ret u=>∃ v σ' H',Inv X pins σ' H' s'/\RelV v u/\D.rt v H'
def PE (X:Cx) (e:Expr) (t:TE):Prop :=
 ∀ (pins:List 0x18) (s:Shared) (σ:St) (H:Hp) (Q:VK),Inv X pins σ H s->t σ H Q->wpAny 0x7 X.A (eval e X.env) (EP X pins σ Q) X.xe s
def PT (X:Cx) (e:Expr) (t:TT):Prop :=
 ∀ (pins:List 0x18) (s:Shared) (σ:St) (H:Hp) (Q:Bool->Hp->Prop),Inv X pins σ H s->t σ H Q->wpAny 0x7 X.A (isTrue e X.env (eval e X.env)) (TP X pins σ Q) X.xe s
def PW (X:Cx) (e:Expr) (t:TT):Prop :=
 ∀ (whole:Sem Value) (pins:List 0x18) (s:Shared) (σ:St) (H:Hp) (Q:Bool->Hp->Prop),Inv X pins σ H s->t σ H Q->wpAny 0x7 X.A (isTrue e X.env whole) (TP X pins σ Q) X.xe s
theorem PW.pt {t:TT} (h:PW X e t):PT X e t:=h _
def PA (X:Cx) (es:List Expr) (t:TA):Prop :=
 ∀ (pos:Pos) (pins:List 0x18) (s:Shared) (σ:St) (H:Hp) (Q:List V->Hp->Prop),Inv X pins σ H s->t σ H Q->wpAny 0x7 X.A (spliced (backTo pos (starEach es X.env))) (AP X pins σ Q) X.xe s
def PS (X:Cx) (st:Stmt) (t:TS):Prop :=
 ∀ (pins:List 0x18) (s:Shared) (σ:St) (H:Hp) (D:Ends),Inv X pins σ H s->t D σ H->wpAny 0x7 X.A (exec st X.env) (SP X pins D) X.xe s
def BW (X:Cx) (st:List Stmt) (t:TS):Prop :=
 ∀ (pins:List 0x18) (s:Shared) (σ:St) (H:Hp) (D:Ends),Inv X pins σ H s->t D σ H->wpAny 0x7 X.A (execs st X.env) (SP X pins D) X.xe s
theorem cT {α:Type}{t:Sem α}{Q Q':α->Shared->Prop}{M:Model} (h:wpAny M A t Q E s) (hQ:∀ a s,Q a s->Q' a s):wpAny M A t Q' E s:=wpAny_mono h hQ fun _ _ x=>x
section
inductive Oq (i:Nat) (σ:L2.St) (H:Hp) (Q:VK):Prop
 | mk (v:V) (_:σ[i]?=some (some v)) (_:Q v H):Oq i σ H Q
def Yw (i:Nat):TE:=fun σ H Q=>Oq i σ H Q
def tC (v:V):TE:=fun _ H Q=>Q v H
theorem Ot (hN:X.N[i]?=some x) (hv:Vis X.env.scope x) (hd:0x17=false:=by decide) (hcd:(x==("__classdict__" : Str))=false:=by decide):PE X (.Name x pos) (Yw i):=by
 intro pins s σ H Q I h;obtain ⟨v,e,h⟩:=h;obtain ⟨m,hn,hl⟩:=I.loc;obtain ⟨u,r,l⟩:=hl i x v hN e hv;have fin:EP X pins σ Q u s:=⟨v,H,I,r,h⟩;rcases l with ⟨hk,hm⟩ | ⟨hk,c,hc,hcell⟩
 ·exact wpAny_Name (wpAny_loadName_local I.ok.kind hk hn hm fin) hd
 ·rcases hk with hk | hk
  ·exact wpAny_Name (wpAny_loadName_cell I.ok.kind hk hc hcell fin) hd
  ·exact wpAny_Name (wpAny_loadName_free I.ok.kind hk hc hcell fin hcd) hd
theorem au {i j pos}:PE X (.Constant (.int i) j pos) (tC (.int i)):=fun _ _ _ H _ I h=>wpAny_Constant_int ⟨.int i,H,I.tok _,⟨_,rfl⟩,h⟩
theorem fX {b j pos}:PE X (.Constant (.bool b) j pos) (tC (.bl b)):=fun _ _ _ H _ I h=>Constant_bool ⟨.bl b,H,I,rfl,h⟩
theorem fV {j pos}:PE X (.Constant .none j pos) (tC .non):=fun _ _ _ H _ I h=>Constant_none ⟨.non,H,I,rfl,h⟩
theorem aJ {x j pos}:PE X (.Constant (.str x) j pos) (tC (.str x)):=fun _ _ _ H _ I h=>Calls.Constant_str ⟨.str x,H,I.tok _,⟨_,rfl⟩,h⟩
def Gl (X:Cx) (x:Str):Prop:=X.env.kindOf x=some .globalImplicit
theorem jD (I:Inv X pins σ H s) (hg:Gl X x) (hm:X.mg x=some u) (h:Q u s)
  (hd:0x17=false:=by decide):wpAny 0x7 X.A (eval (.Name x pos) X.env) Q E s :=
 Calls.Name_function_global I.ok.kind hg (Calls.loadGlobal_global (by rw [I.ok.glob];exact I.mod.glob.keeps I.bk) hm h) hd
theorem gC (I:Inv X pins σ H s) (hg:Gl X x) (hm:X.mg x=none) (hv:bootBuiltins x=some u) (h:Q u s)
  (hn:x≠"__name__":=by decide) (hd:0x17=false:=by decide):wpAny 0x7 X.A (eval (.Name x pos) X.env) Q E s:=by
 obtain ⟨mb,h1,h2⟩:=I.mod.blt;exact Calls.Name_function_global I.ok.kind hg (Calls.loadGlobal_builtin (by rw [I.ok.glob];exact I.mod.glob.keeps I.bk) hm (by rw [I.ok.blt];exact h1.keeps I.bk) ((h2 x hn).trans hv) h) hd
theorem dj (hg:Gl X x) (hm:X.mg x=some u) (r:RelV v u) (hd:0x17=false:=by decide):PE X (.Name x pos) (tC v) :=
 fun _ _ _ H _ I h=>jD I hg hm ⟨v,H,I,r,h⟩ hd
theorem iz (hg:Gl X x) (hm:X.mg x=none) (hv:bootBuiltins x=some u) (r:RelV v u) (hn:x≠"__name__":=by decide) (hd:0x17=false:=by decide):PE X (.Name x pos) (tC v) :=
 fun _ _ _ H _ I h=>gC I hg hm hv ⟨v,H,I,r,h⟩ hn hd
variable {a b:Expr}
def PC (X:Cx) (op:CmpOp) (a b:Expr) (t:TE):Prop :=
 ∀ (pins:List 0x18) (s:Shared) (σ:St) (H:Hp) (Q:VK),Inv X pins σ H s->t σ H Q ->
  wpAny 0x7 X.A (eval a X.env) (fun v s₁=>wpAny 0x7 X.A (eval b X.env) (fun u s₂=>wpAny 0x7 X.A (compareOp op v u) (EP X pins σ Q) X.xe s₂) X.xe s₁) X.xe s
theorem Ci (b:Expr)  (h:op≠.In) (h2:op≠.NotIn):behindInMarks op b=false:=by
 have e1:(op==CmpOp.In)=false:=by cases op <;> first | rfl | exact absurd rfl h
 have e2:(op==CmpOp.NotIn)=false:=by cases op <;> first | rfl | exact absurd rfl h2
 cases b <;> simp [behindInMarks,e1,e2]
def tIsN (ta:TE):TE:=fun σ H Q=>ta σ H fun x H1=>Q (.bl (decide (x=.non))) H1
theorem RelV.Ou {x:V}{v:Value} (r:RelV x v):(v==Value.none)=decide (x=.non):=by
 cases x with
 | non=>cases r;rfl
 | bl _=>cases r;rfl
 | int _=>obtain ⟨t,rfl⟩:=r;rfl
 | str _=>obtain ⟨t,rfl⟩:=r;rfl
 | Ja _=>obtain ⟨t,rfl⟩:=r;rfl
 | flt _=>obtain ⟨t,rfl⟩:=r;rfl
 | ref _=>cases r;rfl
 | ty _=>cases r;rfl
theorem jL {j pos'} (ha:PE X a ta):PC X .Is a (.Constant .none j pos') (tIsN ta):=by
 intro pins s σ H Q I h;refine cT (ha pins s σ H _ I h) fun v s1 zq=>?_;obtain ⟨x,H1,I1,r1,q1⟩:=zq;exact Constant_none (is_none_gen ⟨.bl _,H1,I1,by rw [r1.Ou];rfl,q1⟩)
inductive tB_X (Q:Bool->Hp->Prop) (x:V) (H1:Hp):Prop
 | mk (c:Bool) (_:x=.bl c) (_:Q c H1):tB_X Q x H1
def tB (t:TE):TT:=fun σ H Q=>t σ H fun x H1=>tB_X Q x H1
theorem Yx {t:TE} (h:PC X op a b t) (h1:behindInMarks op b=false:=by first | exact Ci _ (by decide) (by decide) | rfl):PE X (.Compare a [op] [b] pos) t:=fun pins s σ H Q I hw=>wpAny_Compare1 (h pins s σ H Q I hw) h1
theorem kW {t:TE} (h:PC X op a b t) (h1:behindInMarks op b=false:=by first | exact Ci _ 0x8 0x8 | rfl):PT X (.Compare a [op] [b] pos) (tB t):=by
 intro pins s σ H Q I hw;refine wpAny_isTrue_Compare1 (cT (h pins s σ H _ I hw) fun v s1 h1=>cT h1 fun u s2 h2=>cT h2 fun c s3 ⟨x,H1,I1,r1,q1⟩=>?_) h1;obtain ⟨d,rfl,q⟩:=q1;cases r1;exact wpAny_truthy_bool ⟨H1,I1,q⟩
theorem dW {t:TE} (h:PE X e t) (he:∀ whole,isTrue e X.env whole=(do let v <- whole;standAt e.pos;holding [v] (truthy v)):=by intro _;rfl):PT X e (tB t):=by
 intro pins s σ H Q I hw;refine isTrue_plain (cT (h pins s σ H _ I hw) fun v s1 ⟨x,H1,I1,r1,q1⟩=>?_) (he _);obtain ⟨d,rfl,q⟩:=q1;cases r1;exact wpAny_truthy_bool ⟨H1,I1,q⟩
variable {tA tB':TT}{rest:List Expr}
def tAnd (t u:TT):TT:=fun σ H Q=>t σ H fun c H1=>if c=true then u σ H1 Q else Q false H1
def tOr (t u:TT):TT:=fun σ H Q=>t σ H fun c H1=>if c=true then Q true H1 else u σ H1 Q
def tNot (t:TT):TT:=fun σ H Q=>t σ H fun c H1=>Q (!c) H1
theorem gD (ha:PT X a tA):PW X (.BoolOp .And [a] pos) tA:=by
 intro wh pins s σ H Q I h;refine isTrue_and (cT (ha pins s σ H Q I h) fun c s1 e=>?_);cases c with
 | true=>exact isTrue_and_nil e
 | false=>exact e
theorem eO (ha:PT X a tA):PW X (.BoolOp .Or [a] pos) tA:=by
 intro wh pins s σ H Q I h;refine isTrue_or (cT (ha pins s σ H Q I h) fun c s1 e=>?_);cases c with
 | false=>exact isTrue_or_nil e
 | true=>exact e
theorem ji (ha:PT X a tA) (hb:PW X (.BoolOp .And (b::rest) pos) tB'):PW X (.BoolOp .And (a::b::rest) pos) (tAnd tA tB'):=by
 intro wh pins s σ H Q I h;refine isTrue_and (cT (ha pins s σ H _ I h) fun c s1 zq=>?_);obtain ⟨H1,I1,q1⟩:=zq;cases c with
 | true=>exact hb wh pins s1 σ H1 Q I1 q1
 | false=>exact ⟨H1,I1,q1⟩
theorem dZ (ha:PT X a tA) (hb:PW X (.BoolOp .Or (b::rest) pos) tB'):PW X (.BoolOp .Or (a::b::rest) pos) (tOr tA tB'):=by
 intro wh pins s σ H Q I h;refine isTrue_or (cT (ha pins s σ H _ I h) fun c s1 zq=>?_);obtain ⟨H1,I1,q1⟩:=zq;cases c with
 | true=>exact ⟨H1,I1,q1⟩
 | false=>exact hb wh pins s1 σ H1 Q I1 q1
theorem fu (ha:PT X a tA):PT X (.UnaryOp .Not a pos) (tNot tA):=by
 intro pins s σ H Q I h;exact isTrue_not (cT (ha pins s σ H (fun c H1=>Q (!c) H1) I h) fun c s1 ⟨H1,I1,q1⟩=>⟨H1,I1,q1⟩)
inductive Jd (tb:TE) (σ:L2.St) (Q:VK) (x:V) (H1:Hp):Prop
 | mk (c:Bool) (_:x=.bl c) (_:if c=true then tb σ H1 Q else Q (.bl false) H1):Jd tb σ Q x H1
def a1B (ta tb:TE):TE:=fun σ H Q=>ta σ H fun x H1=>Jd tb σ Q x H1
inductive Ov (tb:TE) (σ:L2.St) (Q:VK) (x:V) (H1:Hp):Prop
 | mk (c:Bool) (_:x=.bl c) (_:if c=true then Q (.bl true) H1 else tb σ H1 Q):Ov tb σ Q x H1
def tOrV (ta tb:TE):TE:=fun σ H Q=>ta σ H fun x H1=>Ov tb σ Q x H1
inductive Je (Q:VK) (x:V) (H1:Hp):Prop
 | mk (c:Bool) (_:x=.bl c) (_:Q (.bl (!c)) H1):Je Q x H1
def a1C (ta:TE):TE:=fun σ H Q=>ta σ H fun x H1=>Je Q x H1
theorem qX {op}{t:TE} (h:PE X a t):PE X (.BoolOp op [a] pos) t:=fun pins s σ H Q I hw=>BoolOp_one (h pins s σ H Q I hw)
theorem qY (ha:PE X a ta) (hb:PE X (.BoolOp .And (b::rest) pos) tb):PE X (.BoolOp .And (a::b::rest) pos) (a1B ta tb):=by
 intro pins s σ H Q I h;refine BoolOp_and (cT (ha pins s σ H _ I h) fun v s1 zq=>?_);obtain ⟨x,H1,I1,r1,q1⟩:=zq;obtain ⟨c,rfl,q1⟩:=q1;cases r1;refine wpAny_truthy_bool ?_;cases c with
 | true=>exact hb pins s1 σ H1 Q I1 q1
 | false=>exact ⟨.bl false,H1,I1,rfl,q1⟩
theorem a1D (ha:PE X a ta) (hb:PE X (.BoolOp .Or (b::rest) pos) tb):PE X (.BoolOp .Or (a::b::rest) pos) (tOrV ta tb):=by
 intro pins s σ H Q I h;refine BoolOp_or (cT (ha pins s σ H _ I h) fun v s1 zq=>?_);obtain ⟨x,H1,I1,r1,q1⟩:=zq;obtain ⟨c,rfl,q1⟩:=q1;cases r1;refine wpAny_truthy_bool ?_;cases c with
 | false=>exact hb pins s1 σ H1 Q I1 q1
 | true=>exact ⟨.bl true,H1,I1,rfl,q1⟩
theorem Ow (ha:PE X a ta):PE X (.UnaryOp .Not a pos) (a1C ta):=by
 intro pins s σ H Q I h;refine UnaryOp_ (cT (ha pins s σ H _ I h) fun v s1 zq=>?_);obtain ⟨x,H1,I1,r1,q1⟩:=zq;obtain ⟨c,rfl,q1⟩:=q1;cases r1;exact not_of (wpAny_truthy_bool ⟨.bl (!c),H1,I1,rfl,q1⟩)
def tIf (t:TT) (ta tb:TE):TE:=fun σ H Q=>t σ H fun c H1=>if c=true then ta σ H1 Q else tb σ H1 Q
theorem pU {c:Expr} (hc:PT X c tA) (ha:PE X a ta) (hb:PE X b tb):PE X (.IfExp c a b pos) (tIf tA ta tb):=by
 intro pins s σ H Q I h;refine wpAny_IfExp (cT (hc pins s σ H _ I h) fun d s1 zq=>?_);obtain ⟨H1,I1,q1⟩:=zq;cases d with
 | true=>exact ha pins s1 σ H1 Q I1 q1
 | false=>exact hb pins s1 σ H1 Q I1 q1
end
def aZ (K:PySem.W.Frag) (H:Hp) (a:Addr) (xs:List V):Prop :=
 Rd H a (.lst xs) \/
  ∃ (o:Obj) (its:Array Value) (n:Nat),K.lookup a=some o/\o.cls=.type "list"/\o.dict=none/\o.data=.seq its n/\its.size<=sizeLine/\Vals xs its.toList
def dG (K:PySem.W.Frag) (H:Hp) (a:Addr) (xs:List V):Prop :=
 Rd H a (.tup xs) \/
  ∃ (o:Obj) (its:Array Value) (n:Nat),K.lookup a=some o/\o.cls=.type "tuple"/\o.data=.seq its n/\its.size<=sizeLine/\Vals xs its.toList
def absV:Value->Option V
 | .none=>some .non
 | .bool b=>some (.bl b)
 | .int i _=>some (.int i)
 | .str x _=>some (.str x)
 | .bytes b _=>some (.Ja b)
 | .float b _=>some (.flt b)
 | .ref a=>some (.ref a)
 | .type n=>some (.ty n)
 | _=>none
theorem RelV.abs {x:V} (r:RelV x u):absV u=some x:=by
 cases x with
 | non=>cases r;rfl
 | bl _=>cases r;rfl
 | int _=>obtain ⟨t,rfl⟩:=r;rfl
 | str _=>obtain ⟨t,rfl⟩:=r;rfl
 | Ja _=>obtain ⟨t,rfl⟩:=r;rfl
 | flt _=>obtain ⟨t,rfl⟩:=r;rfl
 | ref _=>cases r;rfl
 | ty _=>cases r;rfl
theorem RelV.inj {x:V} (r:RelV x u) (q:RelV y u):x=y:=Option.some.inj (r.abs.symm.trans q.abs)
theorem Vals.inj:∀ {xs ys:List V}{us:List Value},Vals xs us->Vals ys us->xs=ys
 | _,_,_,.nil,.nil=>rfl
 | _,_,_,.cons r t,.cons r' t'=>by rw [r.inj r',Vals.inj t t']
theorem aZ.of (h:H a=some (.lst xs)):aZ K H a xs:=.inl (.inl h)
theorem dG.of (h:H a=some (.tup xs)):dG K H a xs:=.inl (.inl h)
theorem Inv.list (I:Inv X pins σ H s) (h:aZ X.K H a xs):∃ its:List Value,Vals xs its/\PlainL s.heap a its.toArray/\xs.length<=sizeLine:=by
 rcases h with h | ⟨o,its,n,hk,hc,hd,hs,hz,r⟩
 ·obtain ⟨z,its,n,r,e⟩:=h.ok I.hok;exact ⟨its,r,⟨_,n,e,rfl,rfl,rfl⟩,z⟩
 ·refine ⟨its.toList,r,⟨o,n,I.jV a o hk,hc,hd,by simpa using hs⟩,?_⟩;have e:=r.length;simp only [Array.length_toList] at e;lia
theorem Inv.tuple (I:Inv X pins σ H s) (h:dG X.K H a xs):∃ its:List Value,Vals xs its/\IsTup s.heap a its.toArray/\xs.length<=sizeLine:=by
 rcases h with h | ⟨o,its,n,hk,hc,hs,hz,r⟩
 ·obtain ⟨z,its,r,p⟩:=h.ok I.hok;exact ⟨its,r,p,z⟩
 ·refine ⟨its.toList,r,⟨o,I.jV a o hk,hc,n,by simpa using hs⟩,?_⟩;have e:=r.length;simp only [Array.length_toList] at e;lia
theorem Inv.uQ (I:Inv X pins σ H s) (h:aZ X.K H a xs) (h':aZ X.K H a ys):xs=ys:=by
 obtain ⟨its,r,⟨o,n,e,_,_,d⟩,_⟩:=I.list h;obtain ⟨its',r',⟨o',n',e',_,_,d'⟩,_⟩:=I.list h';rw [e] at e';cases e';rw [d] at d';injection d' with d1 _;have:its=its':=by simpa using congrArg Array.toList d1
 subst this;exact r.inj r'
theorem Inv.qZ (I:Inv X pins σ H s) (h:dG X.K H a xs) (h':dG X.K H a ys):xs=ys:=by
 obtain ⟨its,r,⟨o,e,_,n,d⟩,_⟩:=I.tuple h;obtain ⟨its',r',⟨o',e',_,n',d'⟩,_⟩:=I.tuple h';rw [e] at e';cases e';rw [d] at d';injection d' with d1 _;have:its=its':=by simpa using congrArg Array.toList d1
 subst this;exact r.inj r'
abbrev Cx.wish (X:Cx) (E:Value->Shared->Prop):Cx:={ X with xe:=E }
abbrev Cx.nox (X:Cx):Cx:=X.wish fun _ _=>False
theorem Cx.Ok.wish (ok:X.Ok) (E:Value->Shared->Prop):(X.wish E).Ok :=
 ⟨ok.mod,ok.kind,ok.glob,ok.blt,ok.above,ok.inj,ok.has,ok.cab,ok.hd,ok.frames,ok.stk,ok.exf,ok.bs,ok.Oo,ok.Ce,ok.Gg,ok.oF,ok.Uu⟩
theorem Cx.Ok.m5 (ok:(X.wish E).Ok):X.Ok :=
 ⟨ok.mod,ok.kind,ok.glob,ok.blt,ok.above,ok.inj,ok.has,ok.cab,ok.hd,ok.frames,ok.stk,ok.exf,ok.bs,ok.Oo,ok.Ce,ok.Gg,ok.oF,ok.Uu⟩
theorem Inv.wish (I:Inv X pins σ H s) (E:Value->Shared->Prop):Inv (X.wish E) pins σ H s:=⟨I.ok.wish E,I.os,I.bare,I.base,I.loc,I.cell,I.free,I.iM,I.pin,I.hok,I.len⟩
theorem Inv.m5 (I:Inv (X.wish E) pins σ H s):Inv X pins σ H s:=⟨I.ok.m5,I.os,I.bare,I.base,I.loc,I.cell,I.free,I.iM,I.pin,I.hok,I.len⟩
theorem SP.m5 {f:Flow} (h:SP (X.wish E) pins D f s'):SP X pins D f s':=by
 cases f with
 | next=>obtain ⟨σ',H',I,q⟩:=h;exact ⟨σ',H',I.m5,q⟩
 | brk=>obtain ⟨σ',H',I,q⟩:=h;exact ⟨σ',H',I.m5,q⟩
 | cont=>obtain ⟨σ',H',I,q⟩:=h;exact ⟨σ',H',I.m5,q⟩
 | ret u=>obtain ⟨v,σ',H',I,r,q⟩:=h;exact ⟨v,σ',H',I.m5,r,q⟩
theorem BW.nox {st:List Stmt}{t:TS} (h:BW X.nox st t):BW X st t:=fun pins s σ H D I hw =>
 wpAny_mono (h pins s σ H D (I.wish _) hw) (fun _ _ q=>q.m5) fun _ _ z=>False.elim z
section
variable {rest:List Stmt}{t u:TS}
def X7:TS:=fun D σ H=>D.nx σ H
def zU (t u:TS):TS:=fun D σ H=>t { D with nx:=u D } σ H
theorem bf:BW X [] X7:=fun _ _ σ H _ I h=>wpAny_execs_nil ⟨σ,H,I,h⟩
theorem aA (h1:PS X st t) (h2:BW X rest u):BW X (st::rest) (zU t u):=by
 intro pins s σ H D I h;refine wpAny_execs_cons (cT (h1 pins s σ H { D with nx:=u D } I h) fun f s1 q=>?_);cases f with
 | next =>
  obtain ⟨σ',H',I',q⟩:=q;exact h2 pins s1 σ' H' D I' q
 | ret v=>exact q
 | brk=>exact q
 | cont=>exact q
theorem aD (h1:PS X st t):BW X [st] t:=by
 intro pins s σ H D I h;refine wpAny_execs_cons (cT (h1 pins s σ H D I h) fun f s1 q=>?_);cases f with
 | next=>exact wpAny_execs_nil q
 | ret v=>exact q
 | brk=>exact q
 | cont=>exact q
theorem Inv.quiet (I:Inv X pins σ H s):interactive X.env=false:=by simp [interactive,I.ok.kind]
def a1E (te:TE):TS:=fun D σ H=>te σ H fun _ H1=>D.nx σ H1
theorem dz (he:PE X e te) (hs:swapsWith e none pos.line X.env=pure false:=by rfl):PS X (.Expr e pos) (a1E te):=by
 intro pins s σ H D I h;exact wpAny_Expr_any (cT (he pins s σ H _ I h) fun v s1 ⟨x,H1,I1,r1,q1⟩=>⟨σ,H1,I1,q1⟩) I.quiet hs
def Ox (te:TE):TS:=fun D σ H=>te σ H D.rt
theorem aU (he:PE X e te):PS X (.Return (some e) pos) (Ox te):=by
 intro pins s σ H D I h;exact wpAny_Return_some (cT (he pins s σ H _ I h) fun v s1 ⟨x,H1,I1,r1,q1⟩=>⟨x,σ,H1,I1,r1,q1⟩)
def oW (c:TT) (t u:TS):TS:=fun D σ H=>c σ H fun b H1=>if b=true then t D σ H1 else u D σ H1
theorem bJ {c:Expr}{a b:List Stmt}{tc:TT} (hc:PT X c tc) (ha:BW X a t) (hb:BW X b u):PS X (.If c a b pos) (oW tc t u):=by
 intro pins s σ H D I h;refine wpAny_If (cT (hc pins s σ H _ I h) fun d s1 zq=>?_);obtain ⟨H1,I1,q1⟩:=zq;cases d with
 | true=>exact ha pins s1 σ H1 D I1 q1
 | false=>exact hb pins s1 σ H1 D I1 q1
def Yy:TS:=fun _ _ _=>False
theorem gn:BW X sts Yy:=fun _ _ _ _ _ _ h=>h.elim
end
abbrev TG:=V->St->Hp->(St->Hp->Prop)->Prop
variable {g:TG}
abbrev MF:=List V->St->Hp->(St->Hp->Prop)->Prop
def PG (X:Cx) (target:Expr) (t:TG):Prop :=
 ∀ (pins:List 0x18) (s:Shared) (σ:St) (H:Hp) (v:V) (u:Value) (Q:St->Hp->Prop),Inv X pins σ H s->RelV v u->t v σ H Q ->
  wpAny 0x7 X.A (assign target X.env u) (fun _ s'=>∃ σ' H',Inv X pins σ' H' s'/\Q σ' H') X.xe s
def PGs (X:Cx) (ts:List Expr) (t:MF):Prop :=
 ∀ (pins:List 0x18) (s:Shared) (σ:St) (H:Hp) (vs:List V) (us:List Value) (Q:St->Hp->Prop),Inv X pins σ H s->Vals vs us->t vs σ H Q ->
  wpAny 0x7 X.A (assignInOrder ((assignEach ts X.env).map (·.2)) us) (fun _ s'=>∃ σ' H',Inv X pins σ' H' s'/\Q σ' H') X.xe s
abbrev Uv:=V->V->V->Hp->(Hp->Prop)->Prop
def Yz (X:Cx) (t:Uv):Prop :=
 ∀ (pins:List 0x18) (s:Shared) (σ:St) (H:Hp) (o i v:V) (ov iv u:Value) (Q:Hp->Prop),Inv X pins σ H s->RelV o ov->RelV i iv->RelV v u->t o i v H Q ->
  wpAny 0x7 X.A (setItem ov iv u) (fun _ s'=>∃ H',Inv X pins σ H' s'/\Q H') X.xe s
abbrev TIp:=V->V->Hp->VK->Prop
def PIp (X:Cx) (op:Operator) (t:TIp):Prop :=
 ∀ (pins:List 0x18) (s:Shared) (σ:St) (H:Hp) (x y:V) (v u:Value) (Q:VK),Inv X pins σ H s->RelV x v->RelV y u->t x y H Q ->
  wpAny 0x7 X.A (inplaceOp op v u) (EP X pins σ Q) X.xe s
def dX (i:Nat):TG:=fun v σ H Q=>Q (σ.set i (some v)) H
theorem aQ (hN:X.N.Nodup) (hi:X.N[i]?=some x) (hx:Loc X.env.scope x) (hf:X.fn x=true\/X.env.scope.names.lookup x=some .local:=by first | exact .inl rfl | exact .inr rfl | assumption):PG X (.Name x pos) (dX i):=by
 intro pins s σ H v u Q I r h;exact wpAny_assign_Name (pR I hN hi hx r (fun s' I'=>⟨_,H,I',h⟩) hf)
def gNil:MF:=fun vs σ H Q=>vs=[]/\Q σ H
inductive Jf (t:TG) (u:MF) (vs:List V) (σ:L2.St) (H:Hp) (Q:L2.St->Hp->Prop):Prop
 | mk (v:V) (r:List V) (_:vs=v::r) (_:t v σ H fun σ' H'=>u r σ' H' Q):Jf t u vs σ H Q
def Oz (t:TG) (u:MF):MF:=fun vs σ H Q=>Jf t u vs σ H Q
theorem cZ:PGs X [] gNil:=by
 intro pins s σ H vs us Q I r h;obtain ⟨e,h⟩:=h;subst e;cases r;exact assignInOrder_nil ⟨σ,H,I,h⟩
theorem aX {t:TG}{u:MF} (h1:PG X e t) (h2:PGs X es u)
  (hs:(assignEach (e::es) X.env).map (·.2)=assign e X.env::(assignEach es X.env).map (·.2):=by rfl):PGs X (e::es) (Oz t u):=by
 intro pins s σ H vs us Q I r h;obtain ⟨v,vr,e1,h⟩:=h;subst e1;cases r with
 | cons r rr =>
  rw [hs];refine assignInOrder_cons (cT (h1 pins s σ H _ _ _ I r h) fun _ s1 zq=>?_);obtain ⟨σ1,H1,I1,q1⟩:=zq;exact h2 pins s1 σ1 H1 _ _ Q I1 rr q1
inductive OD (K:PySem.W.Frag) (n:Nat) (t:MF) (v:V) (σ:L2.St) (H:Hp) (Q:L2.St->Hp->Prop):Prop
 | mk (a:Addr) (xs:List V) (_:v=.ref a) (_:dG K H a xs) (_:xs.length=n) (_:t xs σ H Q):OD K n t v σ H Q
def YB (K:PySem.W.Frag) (n:Nat) (t:MF):TG:=fun v σ H Q=>OD K n t v σ H Q
theorem fW {k:Nat}{t:MF} (hc:X.calm=true) (h:PGs X es t)
  (hn:(assignEach es X.env).length=n:=by rfl) (hst:(assignEach es X.env).findIdx? (·.1)=none:=by rfl):PG X (.Tuple es k pos) (YB X.K n t):=by
 intro pins s σ H v u Q I r hw;obtain ⟨a,xs,e1,hq,hl,hw⟩:=hw;subst e1;cases r;obtain ⟨its,rv,ht,hz⟩:=I.tuple hq;refine assign_Tuple_tuple (I.ok.hd hc) ht (by simp [hn,<- hl,rv.length]) hst fun h' hx=>?_;have I1:Inv X pins σ H { s with heap:=h' }:=I.kept (t':=s.toks) fun b o e=>hx b o (Nat.ne_of_lt (Heap.lt_size e)) e;exact h pins _ σ H xs _ Q I1 (by simpa using rv) hw
def gSub (to ti:TE) (t:Uv):TG:=fun v σ H Q=>to σ H fun o H1=>ti σ H1 fun i H2=>t o i v H2 fun H3=>Q σ H3
theorem OJ {o i:Expr}{ti:TE}{t:Uv} (ho:PE X o to) (hi:PE X i ti) (hs:Yz X t)
  (ha:∀ v,assign (.Subscript o i pos) X.env v=(do
   let ov <- holding [v] (eval o X.env)
   let iv <- holding [v,ov] (eval i X.env)
   standAt pos
   holding [v,ov,iv] (setItem ov iv v)
   release [v,ov,iv] []):=by intro _;rfl):PG X (.Subscript o i pos) (gSub to ti t):=by
 intro pins s σ H v u Q I r h;rw [ha];refine wpAny_bind (wpAny_holding (cT (ho pins s σ H _ I h) fun ov s1 zq=>?_));obtain ⟨x,H1,I1,r1,q1⟩:=zq;refine wpAny_bind (wpAny_holding (cT (hi pins s1 σ H1 _ I1 q1) fun iv s2 zq=>?_));obtain ⟨y,H2,I2,r2,q2⟩:=zq;refine wpAny_bind (wpAny_standAt (wpAny_bind (wpAny_holding (cT (hs pins s2 σ H2 x y v ov iv u _ I2 r1 r2 r q2) fun _ s3 zq=>?_))));obtain ⟨H3,I3,q3⟩:=zq;exact wpAny_release ⟨σ,H3,I3,q3⟩
def tQ (te:TE) (g:TG):TS:=fun D σ H=>te σ H fun x H1=>g x σ H1 D.nx
theorem m6 (he:PE X e te) (hg:PG X tg g) (hs:swapsWithSole [tg] e pos.line X.env=pure false:=by rfl) (hw:swappedStores [tg] e X.env=pure none:=by rfl)
  (h1:(assignEach [tg] X.env).map (·.2)=[assign tg X.env]:=by rfl):PS X (.Assign [tg] e pos) (tQ te g):=by
 intro pins s σ H D I h;refine wpAny_Assign_stores (cT (he pins s σ H _ I h) fun v s1 ⟨x,H1,I1,r1,q1⟩=>?_) hs hw;rw [h1];exact cT (hg pins s1 σ H1 x v _ I1 r1 q1) fun _ s2 q=>q
theorem bD (hN:X.N.Nodup) (hi:X.N[i]?=some x) (hx:Loc X.env.scope x) (he:PE X e te) (hs:swapsWith e (some (.Name x pos')) pos.line X.env=pure false:=by rfl) (hf:X.fn x=true\/X.env.scope.names.lookup x=some .local:=by first | exact .inl rfl | exact .inr rfl | assumption) :
  PS X (.Assign [.Name x pos'] e pos) (tQ te (dX i)):=by
 intro pins s σ H D I h;refine wpAny_Assign_Name (cT (he pins s σ H _ I h) fun v s1 ⟨y,H1,I1,r1,q1⟩=>?_) hs;exact pR I1 hN hi hx r1 (fun s2 I2=>⟨_,H1,I2,q1⟩) hf
inductive P0 (i:Nat) (te:TE) (ti:L2.TIp) (D:Ends) (σ:L2.St) (H:Hp):Prop
 | mk (x:V) (_:σ[i]?=some (some x)) (_:te σ H fun y H1=>ti x y H1 fun z H2=>D.nx (σ.set i (some z)) H2):P0 i te ti D σ H
def tAug (i:Nat) (te:TE) (ti:TIp):TS:=fun D σ H=>P0 i te ti D σ H
theorem YC {op:Operator}{ti:TIp} (hN:X.N.Nodup) (hi:X.N[i]?=some x) (hx:Loc X.env.scope x) (he:PE X e te) (ho:PIp X op ti) (hf:X.fn x=true\/X.env.scope.names.lookup x=some .local:=by first | exact .inl rfl | exact .inr rfl | assumption) :
  PS X (.AugAssign (.Name x pos') op e pos) (tAug i te ti):=by
 intro pins s σ H D I h;obtain ⟨v,e1,h⟩:=h;obtain ⟨m,hn,hl⟩:=I.loc;have vis:Vis X.env.scope x:=by rcases hx with k | k;exact .inl k;exact .inr (.inl k)
 obtain ⟨u,r,l⟩:=hl i x v hi e1 vis;refine wpAny_AugAssign_Name ?_;have go:wpAny 0x7 X.A (eval e X.env) (fun w s₂=>wpAny 0x7 X.A (inplaceOp op u w) (fun r s₃=>wpAny 0x7 X.A (storeName X.env x r) (fun _=>SP X pins D .next) X.xe s₃) X.xe s₂) X.xe s:=by
  refine cT (he pins s σ H _ I h) fun w s1 zq=>?_;obtain ⟨y,H1,I1,r1,q1⟩:=zq;refine cT (ho pins s1 σ H1 v y u w _ I1 r r1 q1) fun z s2 zq=>?_;obtain ⟨zv,H2,I2,r2,q2⟩:=zq;exact pR I2 hN hi hx r2 (fun s3 I3=>⟨_,H2,I3,q2⟩) hf
 rcases l with ⟨hk,hm⟩ | ⟨hk,c,hc,hcell⟩
 ·exact wpAny_loadName_local I.ok.kind hk hn hm go
 ·rcases hk with hk | hk
  ·exact wpAny_loadName_cell I.ok.kind hk hc hcell go
  ·rcases hx with k | k
   ·have:X.env.scope.names.lookup x=some .free:=hk;rw [k] at this;cases this
   ·have:X.env.scope.names.lookup x=some .free:=hk;rw [k] at this;cases this
structure It where
 go:Nat->Hp->Prop
 xR:Nat->Hp->V->Hp->Prop
 stop:Nat->Hp->Prop
variable {J:It}
def m7 (X:Cx) (pins:List 0x18) (H:Hp) (b:Addr):Prop :=
 H b=none/\b≠X.env.locals/\b∉X.fs/\(b∈X.ex\/X.s₀.heap.objs.size<=b)/\(∀ x c,X.env.cells.lookup x=some c->c≠b)/\∀ p∈X.pn++pins,p.1≠b
theorem Inv.uR (I:Inv X pins σ H s) (hb:s.heap.objs.size<=b) (hn:H' b=none):m7 X pins H' b:=by
 refine ⟨hn,Nat.ne_of_gt (Nat.lt_of_lt_of_le I.lt hb),I.nofs hb,.inr (Nat.le_trans I.sz hb),fun x c e z=>?_,fun p hp z=>?_⟩
 ·obtain ⟨v,q⟩:=I.cell x c e;exact absurd (Nat.lt_of_lt_of_le q.lt (by rw [z];exact hb)) (Nat.lt_irrefl _)
 ·exact absurd (Nat.lt_of_lt_of_le (Heap.lt_size (I.pin p hp).1) (by rw [z];exact hb)) (Nat.lt_irrefl _)
structure Turn (P:Program) (w:World) (K:PySem.W.Frag) (tg:Expr) (J:It) (fp:List Addr) (it:Addr) (tn:Nat->Heap->Prop):Prop where
 mem:it∈fp
 obj:∀ i h,tn i h->∀ b∈fp,∃ o,h.get? b=some o/\∀ v,o.data≠.cell v
 keep:∀ i h h',tn i h->(∀ b∈fp,∀ o,h.get? b=some o->h'.get? b=some o)->tn i h'
 item:∀ (X:Cx),X.prog=P->X.w=w->X.K=K->X.calm=true->∀ (i:Nat) (pins:List 0x18) (s:Shared) (σ:St) (H:Hp) (E:Value->Shared->Prop),Inv X pins σ H s->(∀ b∈fp,m7 X pins H b)->tn i s.heap->J.go i H ->
  wpAny (model P w) X.A (pyNext (.ref it)) (fun r s1=>∃ u,r=some u /\
   wpAny (model P w) X.A (letOwnedTupleGo tg (.ref it) u) (fun _ s2=>∃ x H',Inv X pins σ H' s2/\RelV x u/\J.xR i H x H'/\tn (i+1) s2.heap/\∀ b∈fp,H' b=none) E s1) E s
 done:∀ (X:Cx),X.prog=P->X.w=w->X.K=K->X.calm=true->∀ (i:Nat) (pins:List 0x18) (s:Shared) (σ:St) (H:Hp) (E:Value->Shared->Prop),Inv X pins σ H s->(∀ b∈fp,m7 X pins H b)->tn i s.heap->J.stop i H ->
  wpAny (model P w) X.A (pyNext (.ref it)) (fun r s1=>r=none/\Inv X pins σ H s1) E s
 self:∀ (A:Around) (i:Nat) (s:Shared) (Q:Value->Shared->Prop) (E:Value->Shared->Prop),tn i s.heap->Q (.ref it) s->wpAny (model P w) A (pyIter (.ref it)) Q E s
abbrev TI:=St->Hp->(It->Hp->Prop)->Prop
variable {wi:TI}
inductive X8 (X:Cx) (pins:List (Prod Addr Obj)) (σ:L2.St) (tg:Expr) (R:It->Hp->Prop) (itv:Value) (s2:Shared):Prop
 | mk (it:Addr) (fp:List Addr) (tn:Nat->PySem.Heap->Prop) (J:It) (H':Hp) (_:itv=.ref it) (_:Inv X pins σ H' s2) (_:Turn X.prog X.w X.K tg J fp it tn) (_:tn 0 s2.heap) (_:(∀ b∈fp,m7 X pins H' b)) (_:R J H'):X8 X pins σ tg R itv s2
def PIE (X:Cx) (pins:List 0x18) (σ:St) (tg:Expr) (R:It->Hp->Prop) (itv:Value) (s2:Shared):Prop :=
 X8 X pins σ tg R itv s2
def PI (X:Cx) (tg iter:Expr) (wi:TI):Prop :=
 ∀ (pins:List 0x18) (s:Shared) (σ:St) (H:Hp) (R:It->Hp->Prop),Inv X pins σ H s->wi σ H R ->
  wpAny 0x7 X.A (eval iter X.env) (fun v s1=>wpAny 0x7 X.A (pyIter v) (PIE X pins σ tg R) X.xe s1) X.xe s
theorem Jg {M:Model}{o:Obj}{n:String}{vs:Array Value}{Q:Unit->Shared->Prop} (ho:s.heap.get? it=some o) (hc:o.cls=.type n) (hd:o.data=.fields vs)
  (hn:["enumerate", "zip", "dict_itemiterator", "dict_reverseitemiterator", "odict_iterator", "itertools.zip_longest", "itertools.pairwise"].contains n=false) (hQ:Q () s):wpAny M A (letOwnedTupleGo tg (.ref it) u) Q E s:=by
 unfold letOwnedTupleGo;cases tg <;> first
  | exact wpAny_pure hQ
  | (cases u <;> first
    | exact wpAny_pure hQ
    | (refine wpAny_bind (wpAny_load ho ?_)
       rw [hc,hd]
       show wpAny M A (if (["enumerate", "zip", "dict_itemiterator", "dict_reverseitemiterator", "odict_iterator", "itertools.zip_longest", "itertools.pairwise"].contains n&&vs[0]?==some (rawInt _))=true then _ else _) Q E s
       rw [if_neg (by intro h;rw [hn,Bool.false_and] at h;cases h)];exact wpAny_pure hQ))
def Itl (K:PySem.W.Frag) (a:Addr):It :=
 ⟨fun i H=>∃ xs x,aZ K H a xs/\xs[i]?=some x,fun i H x H'=>H'=H/\∀ xs,aZ K H a xs->xs[i]?=some x,fun i H=>∃ xs,aZ K H a xs/\xs.length<=i⟩
def Itt (K:PySem.W.Frag) (a:Addr):It :=
 ⟨fun i H=>∃ xs x,dG K H a xs/\xs[i]?=some x,fun i H x H'=>H'=H/\∀ xs,dG K H a xs->xs[i]?=some x,fun i H=>∃ xs,dG K H a xs/\xs.length<=i⟩
def Xa (lo:Int) (n:Nat):It:=⟨fun i _=>i<n,fun i H x H'=>H'=H/\x=.int (lo+i),fun i _=>n<=i⟩
theorem MJ (a it:Addr):Turn P w K tg (Itl K a) [it] it (fun i h=>h.IsListIter it a i) where
 mem:=by simp
 obj:=fun i h st b hb=>by
  have e:b=it:=by simpa using hb
  subst e;obtain ⟨o,e,c,d⟩:=st;exact ⟨o,e,fun v z=>by rw [d] at z;cases z⟩
 keep:=fun i h h' st k=>st.at fun o e=>k it 0x5 o e
 item:=by
  intro X hP hw hK hc i pins s σ H E I hf st hg;subst hP hw hK;obtain ⟨xs,x,hq,hx⟩:=hg;obtain ⟨its,rv,p,hz⟩:=I.list hq;obtain ⟨u,hu,ru⟩:=rv.get hx;obtain ⟨f0,f1,f2,f3,f4,f5⟩:=hf it 0x5;refine wpAny_pyNext_list_item st p.isList (x:=u) (by simpa using hu) fun h' st' sb=>?_;have I1:Inv X pins σ H { s with heap:=h' }:=I.turned (t':=s.toks) (fun b o hb e=>(sb.2 b hb).trans e) f0 f1 f3 f4 f5;obtain ⟨o,e,c,d⟩:=id st';exact ⟨u,rfl,Jg (s:={ s with heap:=h' }) e c d 0x8 ⟨x,H,I1,ru,⟨rfl,fun ys hy=>by rw [I.uQ hy hq];exact hx⟩,st',fun b hb=>(hf b hb).1⟩⟩
 done:=by
  intro X hP hw hK hc i pins s σ H E I hf st hg;subst hP hw hK;obtain ⟨xs,hq,hx⟩:=hg;obtain ⟨its,rv,p,hz⟩:=I.list hq;obtain ⟨f0,f1,f2,f3,f4,f5⟩:=hf it 0x5;have hl:=rv.length;exact wpAny_pyNext_list_end (I.ok.hd hc) st p.isList (by simp;lia) fun h' eb=>⟨rfl,I.turned (t':=s.toks) (fun b o hb e=>eb b o hb e) f0 f1 f3 f4 f5⟩
 self:=fun _ _ _ _ _ st h=>wpAny_pyIter_listiter st h
theorem Gh (a it:Addr):Turn P w K tg (Itt K a) [it] it (fun i h=>h.IsTupleIter it a i) where
 mem:=by simp
 obj:=fun i h st b hb=>by
  have e:b=it:=by simpa using hb
  subst e;obtain ⟨o,e,c,d⟩:=st;exact ⟨o,e,fun v z=>by rw [d] at z;cases z⟩
 keep:=fun i h h' st k=>st.at fun o e=>k it 0x5 o e
 item:=by
  intro X hP hw hK hc i pins s σ H E I hf st hg;subst hP hw hK;obtain ⟨xs,x,hq,hx⟩:=hg;obtain ⟨its,rv,p,hz⟩:=I.tuple hq;obtain ⟨u,hu,ru⟩:=rv.get hx;obtain ⟨f0,f1,f2,f3,f4,f5⟩:=hf it 0x5;refine wpAny_pyNext_tuple_item st (show s.heap.IsTuple a its.toArray from p) (x:=u) (by simpa using hu) fun h' st' sb=>?_
  have I1:Inv X pins σ H { s with heap:=h' }:=I.turned (t':=s.toks) (fun b o hb e=>(sb.2 b hb).trans e) f0 f1 f3 f4 f5;obtain ⟨o,e,c,d⟩:=id st';exact ⟨u,rfl,Jg (s:={ s with heap:=h' }) e c d 0x8 ⟨x,H,I1,ru,⟨rfl,fun ys hy=>by rw [I.qZ hy hq];exact hx⟩,st',fun b hb=>(hf b hb).1⟩⟩
 done:=by
  intro X hP hw hK hc i pins s σ H E I hf st hg;subst hP hw hK;obtain ⟨xs,hq,hx⟩:=hg;obtain ⟨its,rv,p,hz⟩:=I.tuple hq;obtain ⟨f0,f1,f2,f3,f4,f5⟩:=hf it 0x5;have hl:=rv.length;exact wpAny_pyNext_tuple_end (I.ok.hd hc) st (show s.heap.IsTuple a its.toArray from p) (by simp;lia) fun h' eb=>⟨rfl,I.turned (t':=s.toks) (fun b o hb e=>eb b o hb e) f0 f1 f3 f4 f5⟩
 self:=fun _ _ _ _ _ st h=>wpAny_pyIter_tupleiter st h
theorem Gi (it:Addr) (lo:Int) (n:Nat):Turn P w K tg (Xa lo n) [it] it (fun i h=>IsRangeIter h it (lo+(i:Nat) * 1) ((n:Int) - (i:Nat)) 1) where
 mem:=by simp
 obj:=fun i h st b hb=>by
  have e:b=it:=by simpa using hb
  subst e;exact ⟨_,st,fun v z=>by
   have z':Data.fields _=Data.cell v:=z;cases z'⟩
 keep:=fun i h h' st k=>k it 0x5 _ st
 item:=by
  intro X hP hw hK hc i pins s σ H E I hf st hg;subst hP hw hK;obtain ⟨f0,f1,f2,f3,f4,f5⟩:=hf it 0x5;have W:=Walks.range (prog:=X.prog) (w:=X.w) (I.ok.hd hc) it lo 1 n;refine W.item i s _ _ hg st fun v h' tk hv st' kk=>?_;obtain ⟨t,rfl⟩:=hv;have I1:Inv X pins σ H { s with heap:=h',toks:=tk }:=I.turned (fun b o hb e=>kk b o (by simpa using hb) e) f0 f1 f3 f4 f5;refine ⟨_,rfl,Jg (s:={ s with heap:=h',toks:=tk }) (n:="range_iterator") st' rfl rfl 0x8 ⟨.int (lo+i),H,I1,⟨t,?_⟩,⟨rfl,rfl⟩,st',fun b hb=>(hf b hb).1⟩⟩;rw [Int.mul_one]
 done:=by
  intro X hP hw hK hc i pins s σ H E I hf st hg;subst hP hw hK;obtain ⟨f0,f1,f2,f3,f4,f5⟩:=hf it 0x5;exact wpAny_pyNext_range_end (I.ok.hd hc) st (by have:n<=i:=hg;lia) fun h' eb=>⟨rfl,I.turned (t':=s.toks) (fun b o hb e=>eb b o hb e) f0 f1 f3 f4 f5⟩
 self:=fun _ _ _ _ _ st h=>wpAny_pyIter_rangeiter st h
inductive Jh (K:PySem.W.Frag) (R:It->Hp->Prop) (x:V) (H1:Hp):Prop
 | mk (a:Addr) (_:x=.ref a) (_:(∃ xs,aZ K H1 a xs)) (_:R (Itl K a) H1):Jh K R x H1
def a1F (K:PySem.W.Frag) (tl:TE):TI:=fun σ H R=>tl σ H fun x H1=>Jh K R x H1
inductive Pa (K:PySem.W.Frag) (R:It->Hp->Prop) (x:V) (H1:Hp):Prop
 | mk (a:Addr) (_:x=.ref a) (_:(∃ xs,dG K H1 a xs)) (_:R (Itt K a) H1):Pa K R x H1
def iTup (K:PySem.W.Frag) (tl:TE):TI:=fun σ H R=>tl σ H fun x H1=>Pa K R x H1
theorem iB {l:Expr} (hl:PE X l tl):PI X tg l (a1F X.K tl):=by
 intro pins s σ H R I h;refine cT (hl pins s σ H _ I h) fun v s1 zq=>?_;obtain ⟨x,H1,I1,r1,q1⟩:=zq;obtain ⟨a,e,⟨xs,hq⟩,q⟩:=q1;subst e;cases r1;obtain ⟨its,rv,p,hz⟩:=I1.list hq;refine wpAny_pyIter_list p.isList ?_;refine ⟨s1.heap.objs.size,[s1.heap.objs.size],_,_,H1,rfl,I1.kept (t':=s1.toks) fun b o e=>Heap.get?_push_of_some _ e,MJ a _,⟨_,Heap.get?_push_size _ rfl,rfl,rfl⟩,fun b hb=>?_,q⟩;have e:b=s1.heap.objs.size:=by simpa using hb
 subst e;exact I1.uR 0x9 (I1.hok.fresh 0x9)
theorem YD {l:Expr} (hl:PE X l tl):PI X tg l (iTup X.K tl):=by
 intro pins s σ H R I h;refine cT (hl pins s σ H _ I h) fun v s1 zq=>?_;obtain ⟨x,H1,I1,r1,q1⟩:=zq;obtain ⟨a,e,⟨xs,hq⟩,q⟩:=q1;subst e;cases r1;obtain ⟨its,rv,p,hz⟩:=I1.tuple hq;refine wpAny_pyIter_tuple (show s1.heap.IsTuple a its.toArray from p) ?_
 refine ⟨s1.heap.objs.size,[s1.heap.objs.size],_,_,H1,rfl,I1.kept (t':=s1.toks) fun b o e=>Heap.get?_push_of_some _ e,Gh a _,⟨_,Heap.get?_push_size _ rfl,rfl,rfl⟩,fun b hb=>?_,q⟩;have e:b=s1.heap.objs.size:=by simpa using hb
 subst e;exact I1.uR 0x9 (I1.hok.fresh 0x9)
theorem Cj {R:It->Hp->Prop}{hi:Int}{t u v:Tok}{tk:Nat} (I:Inv X pins σ H s) (h1:-(2 ^ 62)<=lo) (h2:lo<2 ^ 62) (h3:-(2 ^ 62)<=hi) (h4:hi<2 ^ 62)
  (q:R (Xa lo (hi - lo).toNat) H):wpAny 0x7 X.A (pyIter (.ref s.heap.objs.size)) (PIE X pins σ tg R) E { s with heap:=s.heap.push { cls:=.type "range",data:=.fields #[.int lo t,.int hi u,.int 1 v] },toks:=tk }:=by
 refine wpAny_pyIter_range (IsRange.new ..) (small_one h1 h2 h3 h4) ?_;have I1:Inv X pins σ H { s with heap:=s.heap.push { cls:=.type "range",data:=.fields #[.int lo t,.int hi u,.int 1 v] },toks:=tk }:=I.kept fun b o e=>Heap.get?_push_of_some _ e;refine ⟨(s.heap.push { cls:=.type "range",data:=.fields #[.int lo t,.int hi u,.int 1 v] }).objs.size,[(s.heap.push { cls:=.type "range",data:=.fields #[.int lo t,.int hi u,.int 1 v] }).objs.size],_,_,H,rfl,
  I1.kept (t':=tk) fun b o e=>Heap.get?_push_of_some _ e,Gi _ lo (hi - lo).toNat,?_,fun b hb=>?_,q⟩
 ·have e1:lo+((0:Nat):Int) * 1=lo:=by simp
  have e2:(((hi - lo).toNat:Nat):Int) - ((0:Nat):Int)=Builtin.Range.rangeSize lo hi 1:=by rw [rangeSize_one];split <;> lia
  show IsRangeIter _ _ (lo+((0:Nat):Int) * 1) ((((hi - lo).toNat:Nat):Int) - ((0:Nat):Int)) 1
  rw [e1,e2];exact Heap.get?_push_size _ rfl
 ·have e:b=(s.heap.push { cls:=.type "range",data:=.fields #[.int lo t,.int hi u,.int 1 v] }).objs.size:=by simpa using hb
  subst e;exact I1.uR 0x9 (I1.hok.fresh 0x9)
inductive Ji (R:It->Hp->Prop) (vs:List V) (H1:Hp):Prop
 | mk (j:Int) (_:vs=[.int j]) (_:-(2 ^ 62)<=j) (_:j<2 ^ 62) (_:R (Xa 0 j.toNat) H1):Ji R vs H1
def a1G (ta:TA):TI:=fun σ H R=>ta σ H fun vs H1=>Ji R vs H1
inductive Jj (R:It->Hp->Prop) (vs:List V) (H1:Hp):Prop
 | mk (i j:Int) (_:vs=[.int i,.int j]) (_:(-(2 ^ 62)<=i/\i<2 ^ 62/\-(2 ^ 62)<=j/\j<2 ^ 62)) (_:R (Xa i (j - i).toNat) H1):Jj R vs H1
def a1H (ta:TA):TI:=fun σ H R=>ta σ H fun vs H1=>Jj R vs H1
theorem iW {a:Expr}{ta:TA} (hg:Gl X "range") (hm:X.mg "range"=none) (ha:PA X [a] ta) (hs:starEach [a] X.env=[(false,eval a X.env)]:=by rfl):PI X tg (.Call (.Name "range" p) [a] [] pos) (a1G ta):=by
 intro pins s σ H R I h;refine Call_ (gC I hg hm boot_range (PyProof.Rows.callWith_type1 (cT (ha pos pins s σ H _ I h) fun us s1 ⟨vs,H1,I1,r1,q1⟩=>?_) hs rfl));obtain ⟨j,e,q1,q2,q⟩:=q1;subst e;cases r1 with
 | cons r rr =>
  cases rr;obtain ⟨t,rfl⟩:=r;exact call_range_1 (Cj I1 0x1 0x1 q1 q2 (by simpa using q))
theorem MN {a b:Expr}{ta:TA} (hg:Gl X "range") (hm:X.mg "range"=none) (ha:PA X [a,b] ta) (hs:starEach [a,b] X.env=[(false,eval a X.env),(false,eval b X.env)]:=by rfl) (hs2:starEach [b] X.env=[(false,eval b X.env)]:=by rfl) :
  PI X tg (.Call (.Name "range" p) [a,b] [] pos) (a1H ta):=by
 intro pins s σ H R I h;refine Call_ (gC I hg hm boot_range 0xC);obtain ⟨i,j,e,⟨q1,q2,q3,q4⟩,q⟩:=q1;subst e;cases r1 with
 | cons r rr =>
  cases rr with
  | cons r' rr =>
   cases rr;obtain ⟨t,rfl⟩:=r;obtain ⟨t',rfl⟩:=r';exact call_range_2 (Cj I1 q1 q2 q3 q4 q)
def MP (wi:TI) (g:TG) (tb:TS):TS:=fun D σ H=>wi σ H fun J H1=>∃ W:Nat->Nat->St->Hp->Prop,(∃ m,W 0 m σ H1)/\∀ i m σ H,W i m σ H ->
 (J.stop i H/\D.nx σ H)\/(J.go i H/\∃ N:St->Hp->Prop,(∀ σ' H',N σ' H'->∃ m',m'<m/\W (i+1) m' σ' H')/\∀ x H',J.xR i H x H'->g x σ H' fun σ2 H2=>tb { D with nx:=N,ct:=N,bk:=D.nx } σ2 H2)
def uT (fp:List Addr) (h:Heap):List 0x18:=fp.filterMap fun b=>(h.get? b).map fun o=>(b,o)
theorem kY {o:Obj} (hb:b∈fp) (e:h.get? b=some o):(b,o)∈uT fp h:=List.mem_filterMap.mpr ⟨b,hb,by rw [e];rfl⟩
theorem N5 {p:Addr×Obj} (hp:p∈uT fp h):p.1∈fp/\h.get? p.1=some p.2:=by
 obtain ⟨b,hb,e⟩:=List.mem_filterMap.mp hp;cases q:h.get? b with
 | none=>rw [q] at e;cases e
 | some o =>
  rw [q] at e;have e':(b,o)=p:=Option.some.inj e;subst e';exact ⟨hb,q⟩
theorem Inv.pinned (I:Inv X pins σ H s) (hf:∀ b∈fp,m7 X pins H b) (ho:∀ b∈fp,∃ o,s.heap.get? b=some o/\∀ v,o.data≠.cell v):Inv X (pins++uT fp s.heap) σ H s :=
 I.Jc fun p hp=>(List.mem_append.mp hp).elim (fun z=>I.pin p (List.mem_append_right _ z)) fun z=>by
  obtain ⟨hb,e⟩:=N5 z;obtain ⟨f0,f1,f2,_⟩:=hf p.1 hb;obtain ⟨o,e',d⟩:=ho p.1 hb;rw [e] at e';cases e';exact ⟨e,f0,f1,f2,d⟩
theorem Inv.pW {pl:List 0x18} (I:Inv X (pins++pl) σ H s):Inv X pins σ H s:=I.Jc fun p hp=>I.pin p (List.mem_append_right _ (List.mem_append_left _ hp))
theorem gb {tb:TS} (hp:PassesOwn 0x7 X.A X.env X.xe) (hc:X.calm=true) (hi:PI X tg iter wi) (hg:PG X tg g) (hb:BW X body tb)
  (hs:∀ x,foldedSetIterable iter X.env x=pure x:=by intro _;rfl):PS X (.For tg iter body [] pos) (MP wi g tb):=by
 intro pins s σ H D I h;refine wpAny_For (cT (hi pins s σ H _ I h) fun v s1 h1=>cT h1 fun itv s2 h2=>?_) hs;obtain ⟨it,fp,tn,J,H2,e,I2,T,st2,f2,W,⟨m0,w0⟩,turn⟩:=h2;subst e;have stat:∀ {H':Hp},(∀ b∈fp,H' b=none)->∀ b∈fp,m7 X pins H' b:=fun hn b hb=>⟨hn b hb,(f2 b hb).2⟩;refine codeAny_forLoop_any (fun n s'=>∃ i σ' H',Inv X pins σ' H' s'/\tn i s'.heap/\(∀ b∈fp,H' b=none)/\W i n σ' H') ?_ m0 ⟨0,σ,H2,I2,st2,fun b hb=>(f2 b hb).1,w0⟩;rintro n s3 ⟨i,σ3,H3,I3,st3,fr3,w3⟩;rcases turn i n σ3 H3 w3 with ⟨stop,qn⟩ | ⟨go,N,hN,step⟩
 ·refine wpAny_passesOwn hp (cT (T.done X rfl rfl rfl hc i pins s3 σ3 H3 X.xe I3 (stat fr3) st3 stop) fun r s4 zq=>?_);obtain ⟨hr,I4⟩:=zq;subst hr;exact wpAny_execs_nil ⟨σ3,H3,I4,qn⟩
 ·refine wpAny_passesOwn hp (cT (T.item X rfl rfl rfl hc i pins s3 σ3 H3 X.xe I3 (stat fr3) st3 go) fun r s4 zq=>?_);obtain ⟨u,hr,h4⟩:=zq;subst hr;refine wpAny_passesOwn hp (cT h4 fun _ s5 zq=>?_);obtain ⟨x,H5,I5,r5,y5,YF,fr5⟩:=zq;have I5':=I5.pinned (stat fr5) (T.obj _ _ YF);refine wpAny_passesOwn hp (cT (hg _ s5 σ3 H5 x u _ I5' r5 (step x H5 y5)) fun _ s6 zq=>?_);obtain ⟨σ6,H6,I6,q6⟩:=zq;refine wpAny_passesOwn hp (cT (hb _ s6 σ6 H6 _ I6 q6) fun f s7 q7=>?_);have again:∀ {σ7:St}{H7:Hp},Inv X (pins++uT fp s5.heap) σ7 H7 s7->N σ7 H7->∃ m,m<n/\∃ i σ' H',Inv X pins σ' H' s7/\tn i s7.heap/\(∀ b∈fp,H' b=none)/\W i m σ' H':=fun {σ7 H7} I7 n7=>by
   obtain ⟨m',hm,w7⟩:=hN σ7 H7 n7;refine ⟨m',hm,i+1,σ7,H7,I7.pW,T.keep _ _ _ YF fun b hb o e=>(I7.pin (b,o) (List.mem_append_right _ (List.mem_append_right _ (kY hb e)))).1,fun b hb=>?_,w7⟩;obtain ⟨o,e,d⟩:=T.obj _ _ YF b hb;exact (I7.pin (b,o) (List.mem_append_right _ (List.mem_append_right _ (kY hb e)))).2.1
  cases f with
  | next=>obtain ⟨σ7,H7,I7,n7⟩:=q7;exact again I7 n7
  | cont=>obtain ⟨σ7,H7,I7,n7⟩:=q7;exact again I7 n7
  | brk=>obtain ⟨σ7,H7,I7,q7⟩:=q7;exact ⟨σ7,H7,I7.pW,q7⟩
  | ret v=>obtain ⟨x7,σ7,H7,I7,r7,q7⟩:=q7;exact ⟨x7,σ7,H7,I7.pW,r7,q7⟩
theorem uU {tb:TS} (Pv:Nat->St->Hp->Prop) (h0:Pv 0 σ H) (hl:∀ i σ H,i<=xs.length->Pv i σ H->aZ K H a xs)
  (hs:∀ i x σ H,xs[i]?=some x->Pv i σ H->g x σ H fun σ2 H2=>tb { D with nx:=Pv (i+1),ct:=Pv (i+1),bk:=D.nx } σ2 H2) (hd:∀ σ H,Pv xs.length σ H->D.nx σ H) :
  ∃ W:Nat->Nat->St->Hp->Prop,(∃ m,W 0 m σ H)/\∀ i m σ H,W i m σ H ->
   ((Itl K a).stop i H/\D.nx σ H)\/((Itl K a).go i H/\∃ N:St->Hp->Prop,(∀ σ' H',N σ' H'->∃ m',m'<m/\W (i+1) m' σ' H')/\∀ x H',(Itl K a).xR i H x H'->g x σ H' fun σ2 H2=>tb { D with nx:=N,ct:=N,bk:=D.nx } σ2 H2):=by
 refine ⟨fun i m σ H=>m=xs.length - i/\i<=xs.length/\Pv i σ H,⟨xs.length,by simp,Nat.zero_le _,h0⟩,?_⟩;rintro i m σ H ⟨rfl,hi,p⟩;have q:=hl i σ H hi p
 by_cases hlt:i<xs.length
 ·refine .inr ⟨⟨xs,xs[i],q,by simp [hlt]⟩,Pv (i+1),fun σ' H' p'=>⟨xs.length - (i+1),by lia,rfl,hlt,p'⟩,fun x H' y=>?_⟩;obtain ⟨e,y⟩:=y;subst e;exact hs i x σ _ (y xs q) p
 ·have e:i=xs.length:=by lia
  subst e;exact .inl ⟨⟨xs,q,Nat.le_refl _⟩,hd σ H p⟩
theorem iY {tb:TS} (Pv:Nat->St->Hp->Prop) (h0:Pv 0 σ H)
  (hs:∀ i σ H,i<n->Pv i σ H->g (.int (lo+i)) σ H fun σ2 H2=>tb { D with nx:=Pv (i+1),ct:=Pv (i+1),bk:=D.nx } σ2 H2) (hd:∀ σ H,Pv n σ H->D.nx σ H) :
  ∃ W:Nat->Nat->St->Hp->Prop,(∃ m,W 0 m σ H)/\∀ i m σ H,W i m σ H ->
   ((Xa lo n).stop i H/\D.nx σ H)\/((Xa lo n).go i H/\∃ N:St->Hp->Prop,(∀ σ' H',N σ' H'->∃ m',m'<m/\W (i+1) m' σ' H')/\∀ x H',(Xa lo n).xR i H x H'->g x σ H' fun σ2 H2=>tb { D with nx:=N,ct:=N,bk:=D.nx } σ2 H2):=by
 refine ⟨fun i m σ H=>m=n - i/\i<=n/\Pv i σ H,⟨n,by simp,Nat.zero_le _,h0⟩,?_⟩;rintro i m σ H ⟨rfl,hi,p⟩
 by_cases hlt:i<n
 ·refine .inr ⟨hlt,Pv (i+1),fun σ' H' p'=>⟨n - (i+1),by lia,rfl,hlt,p'⟩,fun x H' y=>?_⟩;obtain ⟨e,y⟩:=y;subst e y;exact hs i σ _ hlt p
 ·have e:i=n:=by lia
  subst e;exact .inl ⟨Nat.le_refl _,hd σ H p⟩
abbrev R2:=V->V->Hp->VK->Prop
variable {r:R2}
def kZ (X:Cx) (f:Value->Value->Sem Value) (r:R2):Prop :=
 ∀ (pins:List 0x18) (s:Shared) (σ:St) (H:Hp) (x y:V) (v u:Value) (Q:VK),Inv X pins σ H s->RelV x v->RelV y u->r x y H Q ->
  wpAny 0x7 X.A (f v u) (EP X pins σ Q) X.xe s
def UnR (X:Cx) (f:Value->Sem Value) (r:V->Hp->VK->Prop):Prop :=
 ∀ (pins:List 0x18) (s:Shared) (σ:St) (H:Hp) (x:V) (v:Value) (Q:VK),Inv X pins σ H s->RelV x v->r x H Q ->
  wpAny 0x7 X.A (f v) (EP X pins σ Q) X.xe s
def gq (X:Cx) (f:Value) (r:List V->Hp->VK->Prop):Prop :=
 ∀ (pins:List 0x18) (s:Shared) (σ:St) (H:Hp) (xs:List V) (us:List Value) (Q:VK),Inv X pins σ H s->Vals xs us->r xs H Q ->
  wpAny 0x7 X.A (call f us) (EP X pins σ Q) X.xe s
def Xb (r:R2) (ta tb:TE):TE:=fun σ H Q=>ta σ H fun x H1=>tb σ H1 fun y H2=>r x y H2 Q
def tUn (r:V->Hp->VK->Prop) (ta:TE):TE:=fun σ H Q=>ta σ H fun x H1=>r x H1 Q
inductive rI_X (C:Int->Int->Prop) (g:Int->Int->V) (x y:V) (H:Hp) (Q:VK):Prop
 | mk (i j:Int) (_:x=.int i) (_:y=.int j) (_:C i j) (_:Q (g i j) H):rI_X C g x y H Q
def rI (C:Int->Int->Prop) (g:Int->Int->V):R2:=fun x y H Q=>rI_X C g x y H Q
inductive Xc (g:Int->Int->V) (x y:V) (H:Hp) (Q:VK):Prop
 | mk (i j:Int) (_:x=.int i) (_:y=.int j) (_:Q (g i j) H):Xc g x y H Q
def Xd (g:Int->Int->V):R2:=fun x y H Q=>Xc g x y H Q
inductive rU_X (g:Int->V) (x:V) (H:Hp) (Q:VK):Prop
 | mk (i:Int) (_:x=.int i) (_:Q (g i) H):rU_X g x H Q
def rU (g:Int->V):V->Hp->VK->Prop:=fun x H Q=>rU_X g x H Q
section
variable {a b c:Expr}{tc:TE}
theorem YG (ha:PE X a ta) (hb:PE X b tb) {R:V->V->Hp->Prop} (I:Inv X pins σ H s)
  (h:ta σ H fun x H1=>tb σ H1 fun y H2=>R x y H2) {f:Value->Value->Sem Value}
  (hf:∀ v u s2 x y H2,Inv X pins σ H2 s2->RelV x v->RelV y u->R x y H2->wpAny 0x7 X.A (f v u) Q X.xe s2) :
  wpAny 0x7 X.A (eval a X.env) (fun v s₁=>wpAny 0x7 X.A (eval b X.env) (fun u s₂=>wpAny 0x7 X.A (f v u) Q X.xe s₂) X.xe s₁) X.xe s:=by
 refine cT (ha pins s σ H _ I h) fun v s1 zq=>?_;obtain ⟨x,H1,I1,r1,q1⟩:=zq;refine cT (hb pins s1 σ H1 _ I1 q1) fun u s2 zq=>?_;obtain ⟨y,H2,I2,r2,q2⟩:=zq;exact hf v u s2 x y H2 I2 r1 r2 q2
theorem aR {op:Operator} (ho:kZ X (binaryOp op) r) (ha:PE X a ta) (hb:PE X b tb):PE X (.BinOp a op b pos) (Xb r ta tb):=by
 intro pins s σ H Q I h;exact wpAny_BinOp (YG ha hb I h fun v u s2 x y H2 I2 rx ry q=>ho pins s2 σ H2 x y v u Q I2 rx ry q)
theorem sS {op:UnaryOp}{r:V->Hp->VK->Prop} (ho:UnR X (unaryOp op) r) (ha:PE X a ta):PE X (.UnaryOp op a pos) (tUn r ta):=by
 intro pins s σ H Q I h;exact UnaryOp_ (cT (ha pins s σ H _ I h) fun v s1 ⟨x,H1,I1,r1,q1⟩=>ho pins s1 σ H1 x v Q I1 r1 q1)
theorem opI {f:Value->Value->Sem Value}{C:Int->Int->Prop}{g:Int->Int->Int}
  (rule:∀ (i j:Int) (t u:Tok) (s:Shared) (Q:Value->Shared->Prop) (E:Value->Shared->Prop),C i j->Q (.int (g i j) s.toks) { s with toks:=s.toks+1 }->wpAny 0x7 X.A (f (.int i t) (.int j u)) Q E s) :
  kZ X f (rI C fun i j=>.int (g i j)):=by
 intro pins s σ H x y v u Q I rx ry h;obtain ⟨i,j,rfl,rfl,hc,q⟩:=h;obtain ⟨t,rfl⟩:=rx;obtain ⟨t',rfl⟩:=ry;exact rule i j t t' s _ _ hc ⟨.int (g i j),H,I.tok _,⟨_,rfl⟩,q⟩
theorem opI0 {f:Value->Value->Sem Value}{g:Int->Int->Int}
  (rule:∀ (i j:Int) (t u:Tok) (s:Shared) (Q:Value->Shared->Prop) (E:Value->Shared->Prop),Q (.int (g i j) s.toks) { s with toks:=s.toks+1 }->wpAny 0x7 X.A (f (.int i t) (.int j u)) Q E s) :
  kZ X f (Xd fun i j=>.int (g i j)):=by
 intro pins s σ H x y v u Q I rx ry h;obtain ⟨i,j,rfl,rfl,q⟩:=h;obtain ⟨t,rfl⟩:=rx;obtain ⟨t',rfl⟩:=ry;exact rule i j t t' s _ _ ⟨.int (g i j),H,I.tok _,⟨_,rfl⟩,q⟩
theorem Uw {f:Value->Value->Sem Value}{g:Int->Int->Bool}
  (rule:∀ (i j:Int) (t u:Tok) (s:Shared) (Q:Value->Shared->Prop) (E:Value->Shared->Prop),Q (.bool (g i j)) s->wpAny 0x7 X.A (f (.int i t) (.int j u)) Q E s) :
  kZ X f (Xd fun i j=>.bl (g i j)):=by
 intro pins s σ H x y v u Q I rx ry h;obtain ⟨i,j,rfl,rfl,q⟩:=h;obtain ⟨t,rfl⟩:=rx;obtain ⟨t',rfl⟩:=ry;exact rule i j t t' s _ _ ⟨.bl (g i j),H,I,rfl,q⟩
def CDiv (i j:Int):Prop:=0<j/\j<1073741824
def CPow (i j:Int):Prop:=0<=j/\j<=1000000/\i.natAbs<2 ^ 64
def YH (i j:Int):Prop:=(-(2 ^ 64)<i/\i<2 ^ 64)\/(-(2 ^ 64)<j/\j<2 ^ 64)
theorem YH.ok {i j:Int} (h:YH i j):IntMulOk i j:=by
 rcases h with ⟨h1,h2⟩ | ⟨h1,h2⟩
 ·exact .of_left (intBits_le_64 h1 h2)
 ·exact .of_right (intBits_le_64 h1 h2)
theorem bN:kZ X (binaryOp .Add) (Xd fun i j=>.int (i+j)):=opI0 fun _ _ _ _ _ _ _ q=>add_int q
theorem oX:kZ X (binaryOp .Sub) (Xd fun i j=>.int (i - j)):=opI0 fun _ _ _ _ _ _ _ q=>sub_int q
theorem iJ:kZ X (binaryOp .Mult) (rI YH fun i j=>.int (i * j)):=opI fun _ _ _ _ _ _ _ hc q=>mul_int q hc.ok
theorem tZ:kZ X (binaryOp .FloorDiv) (rI CDiv fun i j=>.int (i / j)):=opI fun i j _ _ _ _ _ hc q=>by
 have h1:(0:Int)<j:=hc.1;have h2:j<1073741824:=hc.2;exact floordiv_int 0x1 (by rw [Int.fdiv_eq_ediv_of_nonneg i 0x1];exact q) (.inl (PyProof.noPylong_small 0x1))
theorem bI:kZ X (binaryOp .Mod) (rI (fun _ j=>0<j) fun i j=>.int (i % j)):=opI fun i j _ _ _ _ _ hc q=>by
 have h1:(0:Int)<j:=hc;exact mod_int' 0x1 (by rw [Int.fmod_eq_emod_of_nonneg i 0x1];exact q)
theorem YJ:kZ X (binaryOp .Pow) (rI CPow fun i j=>.int (i ^ j.toNat)):=opI fun _ _ _ _ _ _ _ hc q=>pow_int_small hc.1 hc.2.1 hc.2.2 q
theorem unI {f:Value->Sem Value}{g:Int->Int}
  (rule:∀ (i:Int) (t:Tok) (s:Shared) (Q:Value->Shared->Prop) (E:Value->Shared->Prop),Q (.int (g i) s.toks) { s with toks:=s.toks+1 }->wpAny 0x7 X.A (f (.int i t)) Q E s) :
  UnR X f (rU fun i=>.int (g i)):=by
 intro pins s σ H x v Q I rx h;obtain ⟨i,rfl,q⟩:=h;obtain ⟨t,rfl⟩:=rx;exact rule i t s _ _ ⟨.int (g i),H,I.tok _,⟨_,rfl⟩,q⟩
theorem m8:UnR X (unaryOp .USub) (rU fun i=>.int (-i)):=unI fun _ _ _ _ _ q=>neg_int q
def scal:V->V->Bool
 | .non,.non=>true | .non,.int _=>true | .int _,.non=>true | .non,.bl _=>true | .bl _,.non=>true | .non,.str _=>true | .str _,.non=>true
 | .int _,.int _=>true | .bl _,.bl _=>true | .str _,.str _=>true | .Ja _,.Ja _=>true
 | .int _,.str _=>true | .str _,.int _=>true | .bl _,.str _=>true | .str _,.bl _=>true
 | _,_=>false
def rEq:R2:=fun x y H Q=>scal x y=true/\Q (.bl (decide (x=y))) H
def rNe:R2:=fun x y H Q=>scal x y=true/\Q (.bl (!decide (x=y))) H
theorem Jk {i j:Int}:decide (V.int i=V.int j)=(i==j):=by
 rw [Bool.eq_iff_iff];simp
theorem Pb {i j:Bool}:decide (V.bl i=V.bl j)=(i==j):=by
 rw [Bool.eq_iff_iff];simp
theorem pX {i j:Str}:decide (V.str i=V.str j)=(i==j):=by
 rw [Bool.eq_iff_iff];simp
theorem Jl {i j:Array UInt8}:decide (V.Ja i=V.Ja j)=(i.toList==j.toList):=by
 rw [Bool.eq_iff_iff];cases i;cases j;simp
theorem cg {Q:VK}{k k':Bool} (I:Inv X pins σ H s) (q:Q (.bl k) H) (e:k=k'):EP X pins σ Q (.bool k') s:=by
 subst e;exact ⟨.bl k,H,I,rfl,q⟩
theorem cA:kZ X (compareOp .Eq) rEq:=by
 intro pins s σ H x y v u Q I rx ry h;obtain ⟨hs,q⟩:=h;cases x with
 | non =>
  cases rx;cases y with
  | non=>cases ry;exact PySem.EqNone.eq_none_none (cg I q 0x5)
  | bl j=>cases ry;exact PySem.EqNone.eq_none_bool (cg I q 0x5)
  | int j=>obtain ⟨t',rfl⟩:=ry;exact PySem.EqNone.eq_none_int (cg I q 0x5)
  | str j=>obtain ⟨t',rfl⟩:=ry;exact PySem.EqNone.eq_none_str (cg I q 0x5)
  | _=>exact absurd (show false=true from hs) Bool.false_ne_true
 | bl i =>
  cases rx;cases y with
  | non=>cases ry;exact PySem.EqNone.eq_bool_none (cg I q 0x5)
  | bl j=>cases ry;exact eq_bool (cg I q Pb)
  | str j=>obtain ⟨t',rfl⟩:=ry;exact PySem.EqMixed.eq_bool_str (cg I q 0x5)
  | _=>exact absurd (show false=true from hs) Bool.false_ne_true
 | int i =>
  obtain ⟨t,rfl⟩:=rx;cases y with
  | non=>cases ry;exact PySem.EqNone.eq_int_none (cg I q 0x5)
  | int j=>obtain ⟨t',rfl⟩:=ry;exact eq_int (cg I q Jk)
  | str j=>obtain ⟨t',rfl⟩:=ry;exact PySem.EqMixed.eq_int_str (cg I q 0x5)
  | _=>exact absurd (show false=true from hs) Bool.false_ne_true
 | str i =>
  obtain ⟨t,rfl⟩:=rx;cases y with
  | non=>cases ry;exact PySem.EqNone.eq_str_none (cg I q 0x5)
  | bl j=>cases ry;exact PySem.EqMixed.eq_str_bool (cg I q 0x5)
  | int j=>obtain ⟨t',rfl⟩:=ry;exact PySem.EqMixed.eq_str_int (cg I q 0x5)
  | str j=>obtain ⟨t',rfl⟩:=ry;exact eq_str (cg I q pX)
  | _=>exact absurd (show false=true from hs) Bool.false_ne_true
 | Ja i =>
  obtain ⟨t,rfl⟩:=rx;cases y with
  | Ja j=>obtain ⟨t',rfl⟩:=ry;exact PySem.W.eq_bytes (cg I q Jl)
  | _=>exact absurd (show false=true from hs) Bool.false_ne_true
 | _=>cases y <;> exact absurd (show false=true from hs) Bool.false_ne_true
theorem jE:kZ X (compareOp .NotEq) rNe:=by
 intro pins s σ H x y v u Q I rx ry h;obtain ⟨hs,q⟩:=h;cases x with
 | non =>
  cases rx;cases y with
  | non=>cases ry;exact PySem.EqNone.ne_none_none (cg I q 0x5)
  | bl j=>cases ry;exact PySem.EqNone.ne_none_bool (cg I q 0x5)
  | int j=>obtain ⟨t',rfl⟩:=ry;exact PySem.EqNone.ne_none_int (cg I q 0x5)
  | str j=>obtain ⟨t',rfl⟩:=ry;exact PySem.EqNone.ne_none_str (cg I q 0x5)
  | _=>exact absurd (show false=true from hs) Bool.false_ne_true
 | bl i =>
  cases rx;cases y with
  | non=>cases ry;exact PySem.EqNone.ne_bool_none (cg I q 0x5)
  | bl j=>cases ry;exact ne_bool (cg I q (congrArg not Pb))
  | str j=>obtain ⟨t',rfl⟩:=ry;exact PySem.EqMixed.ne_bool_str (cg I q 0x5)
  | _=>exact absurd (show false=true from hs) Bool.false_ne_true
 | int i =>
  obtain ⟨t,rfl⟩:=rx;cases y with
  | non=>cases ry;exact PySem.EqNone.ne_int_none (cg I q 0x5)
  | int j=>obtain ⟨t',rfl⟩:=ry;exact ne_int (cg I q (congrArg not Jk))
  | str j=>obtain ⟨t',rfl⟩:=ry;exact PySem.EqMixed.ne_int_str (cg I q 0x5)
  | _=>exact absurd (show false=true from hs) Bool.false_ne_true
 | str i =>
  obtain ⟨t,rfl⟩:=rx;cases y with
  | non=>cases ry;exact PySem.EqNone.ne_str_none (cg I q 0x5)
  | bl j=>cases ry;exact PySem.EqMixed.ne_str_bool (cg I q 0x5)
  | int j=>obtain ⟨t',rfl⟩:=ry;exact PySem.EqMixed.ne_str_int (cg I q 0x5)
  | str j=>obtain ⟨t',rfl⟩:=ry;exact ne_str (cg I q (congrArg not pX))
  | _=>exact absurd (show false=true from hs) Bool.false_ne_true
 | Ja i =>
  obtain ⟨t,rfl⟩:=rx;cases y with
  | Ja j=>obtain ⟨t',rfl⟩:=ry;exact PySem.W.ne_bytes (cg I q (congrArg not Jl))
  | _=>exact absurd (show false=true from hs) Bool.false_ne_true
 | _=>cases y <;> exact absurd (show false=true from hs) Bool.false_ne_true
theorem xT:kZ X (compareOp .Lt) (Xd fun i j=>.bl (decide (i<j))):=Uw fun _ _ _ _ _ _ _ q=>lt_int q
theorem jW:kZ X (compareOp .LtE) (Xd fun i j=>.bl (decide (i<=j))):=Uw fun _ _ _ _ _ _ _ q=>le_int q
theorem uV:kZ X (compareOp .Gt) (Xd fun i j=>.bl (decide (j<i))):=Uw fun _ _ _ _ _ _ _ q=>gt_int q
theorem Xe:kZ X (compareOp .GtE) (Xd fun i j=>.bl (decide (j<=i))):=Uw fun _ _ _ _ _ _ _ q=>ge_int q
theorem xU:kZ X (compareOp .Lt) (fun x y H Q=>∃ i j,x=.str i/\y=.str j/\Q (.bl (decide (i.cps.toList<j.cps.toList))) H):=by
 intro pins s σ H x y v u Q I rx ry h;obtain ⟨i,j,rfl,rfl,q⟩:=h;obtain ⟨t,rfl⟩:=rx;obtain ⟨t',rfl⟩:=ry;exact lt_str (cg I q rfl)
theorem jX:kZ X (compareOp .In) (fun x y H Q=>∃ i j,x=.str i/\y=.str j/\Q (.bl (!(Builtin.Str.occurrences j i 0 j.length 1).isEmpty)) H):=by
 intro pins s σ H x y v u Q I rx ry h;obtain ⟨i,j,rfl,rfl,q⟩:=h;obtain ⟨t,rfl⟩:=rx;obtain ⟨t',rfl⟩:=ry;exact in_str (cg I q rfl)
theorem aW (b:Expr)  (h:op≠.In:=by decide) (h2:op≠.NotIn:=by decide):behindInMarks op b=false:=by
 have e1:(op==CmpOp.In)=false:=by cases op <;> first | rfl | exact absurd rfl h
 have e2:(op==CmpOp.NotIn)=false:=by cases op <;> first | rfl | exact absurd rfl h2
 cases b <;> simp [behindInMarks,e1,e2]
theorem gF (ho:kZ X (compareOp op) r) (ha:PE X a ta) (hb:PE X b tb) (hm:behindInMarks op b=false):PE X (.Compare a [op] [b] pos) (Xb r ta tb):=by
 intro pins s σ H Q I h;exact wpAny_Compare1 (YG ha hb I h fun v u s2 x y H2 I2 rx ry q=>ho pins s2 σ H2 x y v u Q I2 rx ry q) hm
inductive Jm (Q:Bool->Hp->Prop) (x:V) (H':Hp):Prop
 | mk (k:Bool) (_:x=.bl k) (_:Q k H'):Jm Q x H'
def Jo (t:TE):TT:=fun σ H Q=>t σ H fun x H'=>Jm Q x H'
theorem aK (ho:kZ X (compareOp op) r) (ha:PE X a ta) (hb:PE X b tb) (hm:behindInMarks op b=false):PT X (.Compare a [op] [b] pos) (Jo (Xb r ta tb)):=by
 intro pins s σ H Q I h;refine wpAny_isTrue_Compare1 (cT (ha pins s σ H _ I h) fun v s1 ⟨x,H1,I1,r1,q1⟩=>cT (hb pins s1 σ H1 _ I1 q1) fun u s2 ⟨y,H2,I2,r2,q2⟩ =>
  cT (ho pins s2 σ H2 x y v u _ I2 r1 r2 q2) fun c s3 ⟨z,H3,I3,r3,k,e,q3⟩=>?_) hm
 subst e;cases r3;exact wpAny_truthy_bool ⟨H3,I3,q3⟩
inductive Ck (r':R2) (tc:TE) (σ:L2.St) (Q:VK) (y z:V) (H3:Hp):Prop
 | mk (k:Bool) (_:z=.bl k) (_:(if k=true then tc σ H3 fun w' H4=>r' y w' H4 Q else Q (.bl false) H3)):Ck r' tc σ Q y z H3
def Ph (r r':R2) (ta tb tc:TE):TE:=fun σ H Q=>ta σ H fun x H1=>tb σ H1 fun y H2=>r x y H2 fun z H3=>Ck r' tc σ Q y z H3
theorem uW {op':CmpOp}{r':R2} (ho:kZ X (compareOp op) r) (ho':kZ X (compareOp op') r') (ha:PE X a ta) (hb:PE X b tb) (hc:PE X c tc)
  (hm:lastMarks [op,op'] [b,c]=false:=by with_unfolding_all rfl):PE X (.Compare a [op,op'] [b,c] pos) (Ph r r' ta tb tc):=by
 intro pins s σ H Q I h;refine Compare_chain (cT (ha pins s σ H _ I h) fun v s1 ⟨x,H1,I1,r1,q1⟩=>chain_link (cT (hb pins s1 σ H1 _ I1 q1) fun u s2 ⟨y,H2,I2,r2,q2⟩ =>
  cT (ho pins s2 σ H2 x y v u _ I2 r1 r2 q2) fun d s3 ⟨z,H3,I3,r3,k,e,q3⟩=>?_)) hm
 subst e;cases r3;refine wpAny_truthy_bool ?_;cases k with
 | false=>exact ite_ff ⟨.bl false,H3,I3,rfl,q3⟩
 | true=>exact ite_tt (chain_last (cT (hc pins s3 σ H3 _ I3 q3) fun w' s4 ⟨z',H4,I4,r4,q4⟩=>ho' pins s4 σ H4 y z' u w' Q I4 r2 r4 q4))
theorem uX {op':CmpOp}{r':R2} (ho:kZ X (compareOp op) r) (ho':kZ X (compareOp op') r') (ha:PE X a ta) (hb:PE X b tb) (hc:PE X c tc)
  (hm:lastMarks [op,op'] [b,c]=false:=by with_unfolding_all rfl):PT X (.Compare a [op,op'] [b,c] pos) (Jo (Ph r r' ta tb tc)):=by
 intro pins s σ H Q I h;refine isTrue_chain (cT (ha pins s σ H _ I h) fun v s1 ⟨x,H1,I1,r1,q1⟩=>test_link (cT (hb pins s1 σ H1 _ I1 q1) fun u s2 ⟨y,H2,I2,r2,q2⟩ =>
  cT (ho pins s2 σ H2 x y v u _ I2 r1 r2 q2) fun d s3 ⟨z,H3,I3,r3,k,e,q3⟩=>?_)) hm
 subst e;cases r3;refine wpAny_truthy_bool ?_;cases k with
 | false =>
  obtain ⟨k',e',q'⟩:=q3;cases e';exact ite_ff ⟨H3,I3,q'⟩
 | true =>
  refine ite_tt (test_last (cT (hc pins s3 σ H3 _ I3 q3) fun w' s4 ⟨z',H4,I4,r4,q4⟩=>cT (ho' pins s4 σ H4 y z' u w' _ I4 r2 r4 q4) fun d' s5 zq=>?_));obtain ⟨z2,H5,I5,r5,k2,e2,q5⟩:=zq;subst e2;cases r5;exact wpAny_truthy_bool ⟨H5,I5,q5⟩
theorem rA:(sizeLine:Nat)<2 ^ 63:=by rw [sizeLine_eq];decide
theorem cj:kZ X (binaryOp .Add) (fun x y H Q=>∃ i j,x=.str i/\y=.str j/\i.length+j.length<=sizeLine/\Q (.str (i++j)) H):=by
 intro pins s σ H x y v u Q I rx ry h;obtain ⟨i,j,rfl,rfl,hz,q⟩:=h;obtain ⟨t,rfl⟩:=rx;obtain ⟨t',rfl⟩:=ry;exact add_str (fun t' tk=>⟨.str (i++j),H,I.tok _,⟨_,rfl⟩,q⟩) hz
theorem vals1 {x:V} (r:Vals [x] us):∃ u,us=[u]/\RelV x u:=by
 cases r with
 | cons r1 r2=>cases r2;exact ⟨_,rfl,r1⟩
theorem vals2 {x:V} (r:Vals [x,y] us):∃ u w',us=[u,w']/\RelV x u/\RelV y w':=by
 cases r with
 | cons r1 r2 =>
  cases r2 with
  | cons r3 r4=>cases r4;exact ⟨_,_,rfl,r1,r3⟩
theorem N6 (hc:X.calm=true):gq X (.builtin "max") (fun xs H Q=>∃ i j,xs=[.int i,.int j]/\Q (.int (if j > i then j else i)) H):=by
 intro pins s σ H xs us Q I r h;obtain ⟨i,j,rfl,q⟩:=h;obtain ⟨u,w',rfl,⟨t,rfl⟩,⟨t',rfl⟩⟩:=vals2 r;refine max_two_ints (I.ok.hd hc) fun h' tk k=>⟨_,H,I.kept k,?_,q⟩
 by_cases hj:j > i
 ·rw [if_pos hj,if_pos hj];exact ⟨_,rfl⟩
 ·rw [if_neg hj,if_neg hj];exact ⟨_,rfl⟩
theorem xV:gq X (.type "int") (fun xs H Q=>(∃ i,xs=[.int i]/\Q (.int i) H)\/∃ k,xs=[.bl k]/\Q (.int (if k then 1 else 0)) H):=by
 intro pins s σ H xs us Q I r h;rcases h with ⟨i,rfl,q⟩ | ⟨k,rfl,q⟩
 ·obtain ⟨u,rfl,t,rfl⟩:=vals1 r;exact call_int_int ⟨.int i,H,I,⟨_,rfl⟩,q⟩
 ·obtain ⟨u,rfl,r1⟩:=vals1 r;cases r1;exact call_int_bool ⟨.int (if k then 1 else 0),H,I.tok _,⟨_,rfl⟩,q⟩
theorem zV:gq X (.type "str") (fun xs H Q=>∃ i,xs=[.int i]/\i.natAbs.log2<1920/\Q (.str (toString i)) H):=by
 intro pins s σ H xs us Q I r h;obtain ⟨i,rfl,hz,q⟩:=h;obtain ⟨u,rfl,t,rfl⟩:=vals1 r;exact PySem.P.str_of_int hz ⟨.str _,H,I.tok _,⟨_,rfl⟩,q⟩
end
structure Gj (h:Heap) (x dx C:Addr) (mA:Str->Option Value):Prop where
 obj:h.get? x=some (PySem.W.instObj C dx)
 ns:h.Ns1 dx mA
 ne:dx≠x
theorem xW (n:h.Ns1 dx mA):∃ od,h.get? dx=some od/\∀ name,PySem.W.lookIn name od=some (mA name):=by
 obtain ⟨o,es,ep,ho,hd,hk,_,hm⟩:=n;refine ⟨o,ho,fun name=>?_⟩;have e:=hm name;unfold nsFind findBy at e;rw [<- Array.find?_toList] at e;unfold PySem.W.lookIn;rw [hd];dsimp only
 split
 ·rename_i y q
  rw [q] at e;exact congrArg some e
 ·rename_i q
  rw [q] at e;have a:es.toList.any (·.refKey)=false:=by
   rw [List.any_eq_false];intro y hy;obtain ⟨z,t,hkey⟩:=hk y (Array.mem_toList_iff.mp hy);simp [DictEntry.refKey,hkey]
  have a':¬ es.toList.any (·.refKey)=true:=by rw [a];exact Bool.false_ne_true
  rw [if_neg a'];exact congrArg some e
theorem Gj.look {x:Addr} (I:Gj h x dx C mA):∃ od,PySem.W.InstAt h x (PySem.W.instObj C dx) C (some od)/\∀ name,PySem.W.lookIn name od=some (mA name) :=
 let ⟨od,ho,hl⟩:=xW I.ns
 ⟨od,⟨I.obj,rfl,rfl,ho⟩,hl⟩
section
variable {x:Addr}{v:Value}
theorem get_map {expr:Bool} (X:K.In s.heap) (I:Gj s.heap x dx C mA) (hg:PySem.W.plainGet K C name=true) (hh:PySem.W.hasDictIn K C=true)
  (ha:PySem.W.findIn K 0x26 name=some none) (hv:mA name=some v) (hv':PySem.W.handedIn v=true) (h:Q v { s with toks:=s.toks+1 }) :
  wpAny 0xD A (getAttr (.ref x) name expr) Q E s:=by
 obtain ⟨od,J,hl⟩:=I.look;exact PySem.W.get_value X J (PySem.W.plainGet_of hg).1 (PySem.W.findObj_own hh ha rfl (by rw [hl,hv])) hv' h
theorem Pj {Q:Value×List Value->Shared->Prop} (X:K.In s.heap) (I:Gj s.heap x dx C mA) (hg:PySem.W.plainGet K C name=true)
  (hf:PySem.W.findIn K 0x26 name=some (some (.ref f))) (ht:PySem.W.isFn K (.ref f)=true) (hv:mA name=none) (h:Q (.ref f,[.ref x]) s) :
  wpAny 0xD A (getMethod (.ref x) name pl) Q E s:=by
 obtain ⟨od,J,hl⟩:=I.look;exact PySem.W.method_fn X J (PySem.W.plainGet_of hg).1 (PySem.W.plainGet_of hg).2 hf (beq_iff_eq.mp ht) (by show (PySem.W.lookIn name od).map (·.isSome)=some false;rw [hl,hv];rfl) h
theorem Ux {ns:List Str}{Q:Unit->Shared->Prop} (X:K.In s.heap) (I:Gj s.heap x dx C mA)
  (hs:PySem.W.findIn K 0x26 "__setattr__"=some (some (.builtin "object.__setattr__"))) (hp:PySem.W.plainOver K C=true) (ht:PySem.W.takerIn K C name=some none) (hh:PySem.W.hasDictIn K C=true)
  (hw:PySem.Within mA ns) (hsz:ns.length<=sizeLine)
  (h:∀ h',Gj h' x dx C (fun y=>if y=name then some v else mA y)->Heap.SameBut dx s.heap h'->Q () { s with heap:=h',toks:=s.toks+2 }) :
  wpAny 0xD A (setAttr (.ref x) name v) Q E s:=by
 obtain ⟨od,J,hl⟩:=I.look;refine PySem.W.set_plain X J hs (PySem.W.osa_open (s:={ s with toks:=s.toks+1 }) (r:=none) X J hp ht fun b=>?_);obtain ⟨cd,hc,hd'⟩:=PySem.W.any_some hh;have hx:s.heap.get? x=some ⟨.ref C,some dx,.plain,#[]⟩:=I.obj;refine wpAny_bind (wpAny_pure (wpAny_bind (wpAny_bind (wpAny_loadPart hx (wpAny_bind (PySem.W.Looks.here (s:={ s with toks:=s.toks+1 }) (PySem.W.looks_clsIn X hc) ?_))))));rw [hd'];refine wpAny_pure (a:=some dx) (wpAny_bind (wpAny_pure (wpAny_bind ?_)));refine wpAny_nsSet1 (s:={ s with toks:=s.toks+1 }) I.ns fun h' hn2 hs2=>?_;obtain ⟨oD,esD,epD,hoD,hdD,hcD⟩:=hn2.count (PySem.Within.cons name v hw);refine wpAny_bind (wpAny_lookBehind hoD (by rw [hdD];exact pastItsLine_dict (Nat.le_trans hcD (by rw [jU];lia))) ?_);exact wpAny_pure (h _ ⟨(hs2.2 _ (Ne.symm I.ne)).trans I.obj,hn2,I.ne⟩ hs2)
theorem Pk {R:Result->Shared->Prop} (X:K.In s.heap) (hm:PySem.W.makesIn K C=true)
  (hi:PySem.W.findIn K 0x26 "__init__"=some (some (.ref f))) (hf:PySem.W.typeIn K (.ref f)=some (.type "function"))
  (h:codeAny 0xD (A.under (.builtin "type.__call__" ⟨.ref C::vs,kw⟩)) (.call (.ref f) ⟨.ref 0x12::vs,kw⟩) (PySem.W.InitBack 0x12 R)
   { s with heap:=(s.heap.push PySem.W.emptyDict).push (PySem.W.instObj C s.heap.objs.size) }) :
  codeAny 0xD A (.call 0x26 ⟨vs,kw⟩) R s:=by
 obtain ⟨hh,g,d,t,os⟩:=s;exact PySem.W.make_core (PySem.W.makes_of X hm) (PySem.W.looks_findIn X hi) (fun self=>PySem.W.bind_fn X self hf) (.inl rfl) h
end
def lW (f:Str) (v:V):List (Str×V)->List (Str×V)
 | []=>[(f,v)]
 | (g,x)::r=>if g=f then (g,v)::r else (g,x)::lW f v r
theorem sU (f g:Str) (v:V):∀ fs:List (Str×V),(lW f v fs).lookup g=if g=f then some v else fs.lookup g
 | []=>by
  show List.lookup g [(f,v)]=_
  by_cases h:g=f
  ·have hb:(g==f)=true:=beq_iff_eq.mpr h;simp only [List.lookup,hb,if_pos h]
  ·have hb:(g==f)=false:=beq_eq_false_iff_ne.mpr h;simp only [List.lookup,hb,if_neg h]
 | (k,x)::r=>by
  have ih:=sU f g v r;rw [show lW f v ((k,x)::r)=(if k=f then (k,v)::r else (k,x)::lW f v r) from rfl]
  by_cases hk:k=f
  ·rw [if_pos hk]
   by_cases h:g=k
   ·have hb:(g==k)=true:=beq_iff_eq.mpr h;simp only [List.lookup,hb,if_pos (h.trans hk)]
   ·have hb:(g==k)=false:=beq_eq_false_iff_ne.mpr h;simp only [List.lookup,hb,if_neg (fun e:g=f=>h (e.trans hk.symm))]
  ·rw [if_neg hk]
   by_cases h:g=k
   ·have hb:(g==k)=true:=beq_iff_eq.mpr h;simp only [List.lookup,hb,if_neg (fun e:g=f=>hk (h.symm.trans e))]
   ·have hb:(g==k)=false:=beq_eq_false_iff_ne.mpr h;simp only [List.lookup,hb];exact ih
theorem rB (f:Str) (v:V):∀ fs:List (Str×V),f∈(lW f v fs).map (·.1)/\∀ g,g∈fs.map (·.1)->g∈(lW f v fs).map (·.1)
 | []=>⟨by simp [lW],fun g h=>by simp at h⟩
 | (k,x)::r=>by
  obtain ⟨i1,i2⟩:=rB f v r;rw [show lW f v ((k,x)::r)=(if k=f then (k,v)::r else (k,x)::lW f v r) from rfl]
  by_cases hk:k=f
  ·rw [if_pos hk];subst hk;exact ⟨by simp,fun g h=>by simpa using h⟩
  ·rw [if_neg hk];refine ⟨?_,fun g h=>?_⟩
   ·rw [List.map_cons];exact lR _ i1
   ·rw [List.map_cons] at h ⊢;rcases List.mem_cons.mp h with e | e
    ·exact List.mem_cons.mpr (.inl e)
    ·exact lR _ (i2 g e)
theorem sV (f:Str) (v:V):∀ fs:List (Str×V),(lW f v fs).length<=fs.length+1
 | []=>by simp [lW]
 | (k,x)::r=>by
  have ih:=sV f v r;rw [show lW f v ((k,x)::r)=(if k=f then (k,v)::r else (k,x)::lW f v r) from rfl]
  by_cases hk:k=f
  ·rw [if_pos hk,jU,jU];lia
  ·rw [if_neg hk,jU,jU];lia
theorem jh.some_of {o:Option Value} (r:jh (some v) o):∃ u,o=some u/\RelV v u:=by
 cases o with
 | none=>exact (show False from r).elim
 | some u=>exact ⟨u,rfl,r⟩
theorem jh.none_of {o:Option Value} (r:jh none o):o=none:=by
 cases o with
 | none=>rfl
 | some u=>exact (show False from r).elim
theorem xX (r:RelV v u):PySem.W.handedIn u=true:=by
 cases v with
 | non=>cases (show u=Value.none from r);rfl
 | bl b=>cases (show u=Value.bool b from r);rfl
 | int i=>obtain ⟨t,e⟩:=(show ∃ t,u=Value.int i t from r);cases e;rfl
 | str x=>obtain ⟨t,e⟩:=(show ∃ t,u=Value.str x t from r);cases e;rfl
 | Ja b=>obtain ⟨t,e⟩:=(show ∃ t,u=Value.bytes b t from r);cases e;rfl
 | flt b=>obtain ⟨t,e⟩:=(show ∃ t,u=Value.float b t from r);cases e;rfl
 | ref a=>cases (show u=Value.ref a from r);rfl
 | ty n=>cases (show u=Value.type n from r);rfl
section
variable {fs fs':List (Str×V)}
theorem u0 (hok:lV P w H h) (e:H a=some (.ins C dx fs)):∃ mA,Gj h a dx C mA/\(∀ f,jh (fs.lookup f) (mA f))/\PySem.Within mA (fs.map (·.1))/\fs.length<=1000/\H dx=some (.own a):=by
 obtain ⟨d,z,ne,ob,mA,n,r,q⟩:=(show cC P w H h a (.ins C dx fs) from hok a _ e)
 exact ⟨mA,⟨ob,n,ne⟩,r,q,z,d⟩
end
structure Cls (K:PySem.W.Frag) (C:Addr):Prop where
 pg:PySem.W.plainGet K C Str.empty=true
 hd:PySem.W.hasDictIn K C=true
 po:PySem.W.plainOver K C=true
 sa:PySem.W.findIn K 0x26 "__setattr__"=some (some (.builtin "object.__setattr__"))
theorem Cls.get (c:Cls K C) (f:Str):PySem.W.plainGet K C f=true:=c.pg
def jk (K:PySem.W.Frag) (C:Addr) (f:Str):Prop:=PySem.W.findIn K 0x26 f=some none
theorem jk.taker {f:Str} (n:jk K C f):PySem.W.takerIn K C f=some none:=by
 unfold PySem.W.takerIn;rw [show PySem.W.findIn K 0x26 f=some none from n]
 rfl
structure Con (K:PySem.W.Frag) (C:Addr) (f:Str) (v:V) (u:Value):Prop where
 at_:PySem.W.findIn K 0x26 f=some (some u)
 rel:RelV v u
 get:PySem.W.specialIn K u "__get__"=some none
 cp:PySem.W.copiedNames.contains f=false
structure Meth (K:PySem.W.Frag) (C:Addr) (m:Str) (f:Addr):Prop where
 at_:PySem.W.findIn K 0x26 m=some (some (.ref f))
 fn:PySem.W.isFn K (.ref f)=true
 kp:PySem.W.keepIn K (.ref f)=true
section
variable {fs:List (Str×V)}{f:Str}
theorem Gk {b:Bool} (I:Inv X pins σ H s) (e:H a=some (.ins C dx fs)) (c:Cls X.K C) (n:jk X.K C f) (l:fs.lookup f=some v)
  (h:∀ u s',Inv X pins σ H s'->RelV v u->Q u s'):wpAny 0x7 A (getAttr (.ref a) f b) Q E s:=by
 obtain ⟨mA,O,r,_,_,_⟩:=u0 I.hok e;obtain ⟨u,hu,ru⟩:=jh.some_of (v:=v) (o:=mA f) (by rw [<- l];exact r f);exact get_map I.jV O (c.get f) c.hd n hu (xX ru) (h u _ (I.tok _) ru)
theorem Gm {g:Addr}{Q:Value×List Value->Shared->Prop} (I:Inv X pins σ H s) (e:H a=some (.ins C dx fs)) (c:Cls X.K C) (k:Meth X.K C m g) (l:fs.lookup m=none)
  (h:Q (.ref g,[.ref a]) s):wpAny 0x7 A (getMethod (.ref a) m pl) Q E s:=by
 obtain ⟨mA,O,r,_,_,_⟩:=u0 I.hok e;have hn:mA m=none:=jh.none_of (by rw [<- l];exact r m);exact Pj I.jV O (c.get m) k.at_ k.fn hn h
theorem Gn {Q:Unit->Shared->Prop} (I:Inv X pins σ H s) (e:H a=some (.ins C dx fs)) (c:Cls X.K C) (n:jk X.K C f) (hl:fs.length<1000) (ry:RelV y u)
  (h:∀ s',Inv X pins σ (upd H a (.ins C dx (lW f y fs))) s'->Q () s'):wpAny 0x7 A (setAttr (.ref a) f u) Q E s:=by
 obtain ⟨mA,O,r,wi,_,ho⟩:=u0 I.hok e;have hz:(fs.map (·.1)).length<=sizeLine:=by rw [bV,sizeLine_eq];lia
 refine Ux I.jV O c.sa c.po n.taker c.hd wi hz fun h' O' sb=>h _ ?_;have hd:∃ o,h'.get? dx=some o:=let ⟨o,_,_,e',_⟩:=O'.ns;⟨o,e'⟩
 refine I.write (x:=a) (e:=dx) (by rw [e];exact True.intro) (.inr ho) (fun b q hb z=>(sb.2 b hb).trans z) hd ?_;refine ⟨by rw [aG O.ne];exact ho,?_,O.ne,O'.obj,_,O'.ns,fun g=>?_,fun g hg=>?_⟩
 ·have:=sV f y fs;lia
 ·show jh ((lW f y fs).lookup g) (if g=f then some u else mA g)
  rw [sU]
  by_cases q:g=f
  ·rw [if_pos q,if_pos q];exact ry
  ·rw [if_neg q,if_neg q];exact r g
 ·by_cases q:g=f
  ·rw [q];exact (rB f y fs).1
  ·refine (rB f y fs).2 g (wi g fun z=>hg ?_)
   show (if g=f then some u else mA g)=none
   rw [if_neg q];exact z
theorem Inv.made (I:Inv X pins σ H s):Inv X pins σ (upd (upd H s.heap.objs.size (.own 0x12)) 0x12 (.ins C s.heap.objs.size []))
  { s with heap:=(s.heap.push PySem.W.emptyDict).push (PySem.W.instObj C s.heap.objs.size) }:=by
 have e1:(s.heap.push PySem.W.emptyDict).get? s.heap.objs.size=some PySem.W.emptyDict:=Heap.get?_push_size s.heap rfl;have e2:((s.heap.push PySem.W.emptyDict).push (PySem.W.instObj C s.heap.objs.size)).get? 0x12=some (PySem.W.instObj C s.heap.objs.size):=by
  have:=Heap.get?_push_size (s.heap.push PySem.W.emptyDict) (o:=PySem.W.instObj C s.heap.objs.size) rfl
  rwa [Heap.size_push] at this
 have e3:(s.heap.push PySem.W.emptyDict).Ns s.heap.objs.size (fun _=>none):=⟨PySem.W.emptyDict,#[],_,e1,rfl,(fun e he=>absurd he 0x5),fun _=>rfl⟩;have I1:=I.laid (a:=s.heap.objs.size) (o:=.own 0x12) (h':=s.heap.push PySem.W.emptyDict) (t':=s.toks) (fun b u q=>Heap.get?_push_of_some _ q) 0x9 ⟨_,e1⟩;refine I1.laid (a:=s.heap.objs.size+1) (o:=.ins C s.heap.objs.size []) (t':=s.toks) (fun b u q=>Heap.get?_push_of_some _ q) (Nat.le_of_eq (Heap.size_push _ _)) ?_;have ne:s.heap.objs.size≠s.heap.objs.size+1:=Nat.ne_of_lt (Nat.lt_succ_self _);refine ⟨by rw [aG ne,ak],Nat.zero_le _,ne,e2,fun _=>none,(Heap.Ns1.of_empty e3).at fun o q=>Heap.get?_push_of_some _ q,fun _=>True.intro,fun y hy=>absurd rfl hy⟩
theorem Jp {f:Str} (hb:attributeBase e f env (eval e env)=eval e env)
  (h:wpAny 0xD A (eval e env) (fun o s₁=>wpAny 0xD A (getAttr o f true) Q E s₁) E s):wpAny 0xD A (eval (.Attribute e f pos) env) Q E s :=
 Attribute_any_ h (by rw [arm_eval_Attribute,hb])
end
inductive Pn (K:PySem.W.Frag) (f:Str) (Q:VK) (x:V) (H1:Hp):Prop
 | mk (a C dx:Addr) (fs:List (Prod Str V)) (v:V) (_:x=.ref a) (_:H1 a=some (.ins C dx fs)) (_:Cls K C) (_:jk K C f) (_:fs.lookup f=some v) (_:Q v H1):Pn K f Q x H1
def tFld (K:PySem.W.Frag) (ta:TE) (f:Str):TE:=fun σ H Q=>ta σ H fun x H1=>Pn K f Q x H1
inductive Pq (K:PySem.W.Frag) (f:Str) (D:Ends) (σ:L2.St) (y x:V) (H2:Hp):Prop
 | mk (a C dx:Addr) (fs:List (Prod Str V)) (_:x=.ref a) (_:H2 a=some (.ins C dx fs)) (_:Cls K C) (_:jk K C f) (_:fs.length<1000) (_:D.nx σ (upd H2 a (.ins C dx (lW f y fs)))):Pq K f D σ y x H2
def sFld (K:PySem.W.Frag) (ta tv:TE) (f:Str):TS:=fun D σ H=>tv σ H fun y H1=>ta σ H1 fun x H2=>Pq K f D σ y x H2
section
variable {o:Expr}{f:Str}{tpos:Pos}
theorem zW (he:PE X e ta) (hb:attributeBase e f X.env (eval e X.env)=eval e X.env):PE X (.Attribute e f pos) (tFld X.K ta f):=by
 intro pins s σ H Q I h;refine Jp hb (cT (he pins s σ H _ I h) fun u s1 zq=>?_);obtain ⟨x,H1,I1,rx,a,C,dx,fs,v,ex,ea,c,n,l,q⟩:=zq;subst ex;obtain rfl:u=Value.ref a:=rx;exact Gk I1 ea c n l fun u' s2 I2 ru=>⟨v,H1,I2,ru,q⟩
theorem rC (ha:PE X o ta) (hv:PE X value tv) (hs:swapsWith value (some (.Attribute o f pos')) pos.line X.env=pure false):PS X (.Assign [.Attribute o f pos'] value pos) (sFld X.K ta tv f):=by
 intro pins s σ H D I h;refine plainObj_wpAny_Assign_Attribute (cT (hv pins s σ H _ I h) fun u s1 ⟨y,H1,I1,ry,q⟩=>cT (ha pins s1 σ H1 _ I1 q) fun ov s2 ⟨x,H2,I2,rx,a,C,dx,fs,ex,ea,c,n,l,q2⟩=>?_) hs;subst ex;obtain rfl:ov=Value.ref a:=rx;exact Gn I2 ea c n l ry fun s3 I3=>⟨σ,_,I3,q2⟩
end
section
variable {c:Value}{b:Bool}
inductive pY (K:PySem.W.Frag) (H:Hp):V->Value->Prop where
 | non:pY K H .non (.type "NoneType")
 | bl (x:Bool):pY K H (.bl x) (.type "bool")
 | int (i:Int):pY K H (.int i) (.type "int")
 | str (x:Str):pY K H (.str x) (.type "str")
 | flt (x:UInt64):pY K H (.flt x) (.type "float")
 | lst {a:Addr}{xs:List V} (e:H a=some (.lst xs)):pY K H (.ref a) (.type "list")
 | Gb {a:Addr}{o:Obj}{xs:List V} (e:H a=some (.Gb o (.lst xs))):pY K H (.ref a) (.type "list")
 | tup {a:Addr}{xs:List V} (e:H a=some (.tup xs)):pY K H (.ref a) (.type "tuple")
 | dK {a:Addr}{kvs:List (Key×V)} (e:H a=some (.dK kvs)):pY K H (.ref a) (.type "dict")
 | dT {a:Addr}{kvs:List (List Key×V)} (e:H a=some (.dT kvs)):pY K H (.ref a) (.type "dict")
 | ins {a C dx:Addr}{fs:List (Str×V)} (e:H a=some (.ins C dx fs)) (cl:Cls K C) (ha:PySem.W.findIn K 0x26 "__class__"=some (some 0x2D))
   (hn:PySem.W.specialIn K 0x2D "__get__"=some (some (.builtin "getset_descriptor.__get__"))) (htk:PySem.W.takesIn K 0x2D=some true)
   (hm:PySem.W.mroIn K C (.type "object")=some true):pY K H (.ref a) 0x26
theorem N7 {x:V}{t:Value} (I:Inv X pins σ H s) (rx:RelV x u) (ty:pY X.K H x t) (e:PySem.W.kitOne X.K t c=some b) (h:∀ tk,Q (.bool b) { s with toks:=tk }) :
  wpAny 0x7 A (call (.builtin "isinstance") [u,c]) Q E s:=by
 cases ty with
 | non=>cases (show u=Value.none from rx);exact PySem.W.kia_one PySem.W.kitx_none I.jV True.intro e 0x23 h
 | bl y=>cases (show u=Value.bool y from rx);exact PySem.W.kia_one PySem.W.kitx_bool I.jV True.intro e 0x23 h
 | int i=>obtain ⟨t,q⟩:=(show ∃ t,u=Value.int i t from rx);cases q;exact PySem.W.kia_one PySem.W.kitx_int I.jV True.intro e 0x23 h
 | str y=>obtain ⟨t,q⟩:=(show ∃ t,u=Value.str y t from rx);cases q;exact PySem.W.kia_one PySem.W.kitx_str I.jV True.intro e 0x23 h
 | flt y=>obtain ⟨t,q⟩:=(show ∃ t,u=Value.float y t from rx);cases q;exact PySem.W.kia_one PySem.W.kitx_float I.jV True.intro e 0x23 h
 | @lst a xs ea =>
  cases (show u=Value.ref a from rx)
  obtain ⟨_,_,n,_,h1⟩:=(show cC X.prog X.w H s.heap a (.lst xs) from I.hok a _ ea)
  exact PySem.W.kia_one PySem.W.kitx_list I.jV ⟨_,h1,rfl⟩ e 0x23 h
 | @Gb a ob xs ea =>
  cases (show u=Value.ref a from rx)
  obtain ⟨_,_,_,n,_,h1⟩:=(show cC X.prog X.w H s.heap a (.Gb ob (.lst xs)) from I.hok a _ ea)
  exact PySem.W.kia_one PySem.W.kitx_list I.jV ⟨_,h1,rfl⟩ e 0x23 h
 | @tup a xs ea =>
  cases (show u=Value.ref a from rx)
  obtain ⟨_,_,_,p⟩:=(show cC X.prog X.w H s.heap a (.tup xs) from I.hok a _ ea)
  obtain ⟨o,h1,h2,_⟩:=p;exact PySem.W.kia_one PySem.W.kitx_tuple I.jV ⟨o,h1,h2⟩ e 0x23 h
 | @dK a kvs ea =>
  cases (show u=Value.ref a from rx)
  obtain ⟨_,_,vs,_,p⟩:=(show cC X.prog X.w H s.heap a (.dK kvs) from I.hok a _ ea)
  obtain ⟨o,es,ep,h1,h2,_⟩:=p;exact PySem.W.kia_one PySem.W.kitx_dict I.jV ⟨o,h1,h2.1⟩ e 0x23 h
 | @dT a kvs ea =>
  cases (show u=Value.ref a from rx)
  obtain ⟨_,_,xs,_,o,es,ep,h1,h2,_⟩:=(show cC X.prog X.w H s.heap a (.dT kvs) from I.hok a _ ea)
  exact PySem.W.kia_one PySem.W.kitx_dict I.jV ⟨o,h1,h2.1⟩ e 0x23 h
 | @ins a C dx fs ea cl ha hn htk hm =>
  cases (show u=Value.ref a from rx)
  obtain ⟨mA,O,_⟩:=u0 I.hok ea;obtain ⟨od,J,_⟩:=O.look;exact PySem.W.kia_one (PySem.W.kitx_own (cl.get _) cl.hd ha hn htk hm) I.jV J e 0x23 h
end
structure fM (k:Nat) (A:Around):Prop where
 hd:A.handled=none
 dp:A.depth+3 * k+5<recursionLimit
 un:A.units+16 * k+200<cLine
theorem fM.mono {k:Nat} (r:fM k A) (h:j<=k):fM j A:=⟨r.hd,by have:=r.dp;lia,by have:=r.un;lia⟩
theorem fM.deeper {k:Nat} (r:fM (k+1) A) (env:Env):fM k (A.deeper env) :=
 ⟨r.hd,by have:=r.dp;show A.depth+1+3 * k+5<_;lia,by have:=r.un;show A.units+3+16 * k+200<_;lia⟩
theorem Gp:(A.under (.builtin "type.__call__" ⟨.ref C::us,kw⟩)).depth=A.depth+1:=by
 first | rfl | simp [Around.under,Code.weight,Code.isCreation,Code.isGuard,Code.isCaller,Code.frames,Code.isFrame,guardIds]
theorem Gq:(A.under (.builtin "type.__call__" ⟨.ref C::us,kw⟩)).units=A.units+1:=by
 first | rfl | simp [Around.under,Code.cUnits,Code.frames,Code.isFrame]
theorem fM.make {k:Nat} (r:fM (k+1) A) (C:Addr) (us:List Value) (kw:List (Str×Value)):fM k (A.under (.builtin "type.__call__" ⟨.ref C::us,kw⟩)) :=
 ⟨r.hd,by have:=r.dp;rw [Gp];lia,by have:=r.un;rw [Gq];lia⟩
theorem fM.depth {k:Nat} (r:fM k A):A.depth<recursionLimit:=by have:=r.dp;lia
theorem fM.units {k:Nat} (r:fM k A):A.units+64<cLine:=by have:=r.un;lia
def oG:TA:=fun _ H Q=>Q [] H
def gR (ta:TE) (tr:TA):TA:=fun σ H Q=>ta σ H fun x H1=>tr σ H1 fun xs H2=>Q (x::xs) H2
theorem aq:PA X [] oG:=fun _ _ _ _ H Q I h=>Calls.spliced_nil ⟨[],H,I,.nil,h⟩
theorem aj (ha:PE X e te) (hr:PA X es t) (hs:starEach (e::es) X.env=(false,eval e X.env)::starEach es X.env:=by rfl):PA X (e::es) (gR te t):=by
 intro pos pins s σ H Q I h;rw [hs]
 show wpAny _ _ (spliced ((false,eval e X.env)::backTo pos (starEach es X.env))) _ _ s
 refine Calls.spliced_cons (cT (ha pins s σ H _ I h) fun u s1 zq=>?_);obtain ⟨x,H1,I1,r1,q1⟩:=zq;exact cT (hr pos pins s1 σ H1 _ I1 q1) fun us s2 ⟨xs,H2,I2,r2,q2⟩=>⟨x::xs,H2,I2,.cons r1 r2,q2⟩
def tTup (t:TA):TE:=fun σ H Q=>t σ H fun xs H1=>xs.length<=sizeLine/\∀ p,H1 p=none->Q (.ref p) (upd H1 p (.tup xs))
def Uy (t:TA):TE:=fun σ H Q=>t σ H fun xs H1=>xs.length<=sizeLine/\∀ p,H1 p=none->Q (.ref p) (upd H1 p (.lst xs))
theorem gG {x1} (h:PA X es t):PE X (.Tuple es x1 pos) (tTup t):=by
 intro pins s σ H Q I hq;refine wpAny_Tuple_spliced (cT (h pos pins s σ H _ I hq) fun us s1 ⟨xs,H1,I1,r,z,q⟩=>⟨by rw [<- r.length];exact z,?_⟩);have hf:H1 s1.heap.objs.size=none:=I1.hok.fresh 0x9;refine ⟨.ref s1.heap.objs.size,upd H1 s1.heap.objs.size (.tup xs),I1.laid (t':=s1.toks) (fun b u e=>Heap.get?_push_of_some _ e) 0x9 ?_,rfl,q _ hf⟩;exact ⟨z,us,r,⟨_,Heap.get?_push_size _ rfl,rfl,_,rfl⟩⟩
theorem cX (h:PA X es t):PE X (.List es pos) (Uy t):=by
 intro pins s σ H Q I hq;refine wpAny_List_spliced (cT (h pos pins s σ H _ I hq) fun us s1 ⟨xs,H1,I1,r,z,q⟩=>⟨by rw [<- r.length];exact z,?_⟩);have hf:H1 s1.heap.objs.size=none:=I1.hok.fresh 0x9;refine ⟨.ref s1.heap.objs.size,upd H1 s1.heap.objs.size (.lst xs),I1.laid (t':=s1.toks) (fun b u e=>Heap.get?_push_of_some _ e) 0x9 ?_,rfl,q _ hf⟩;exact ⟨z,us,0,r,Heap.get?_push_size _ rfl⟩
abbrev Sp:=List V->Hp->VK->XK->Prop
variable {sp:Sp}
abbrev BX:=List Env->Hp->Shared->XK->Value->Shared->Prop
variable {CX:BX}
structure Gr (P:Program) (w:World) (K:PySem.W.Frag) (mg:Str->Option Value) (base:Heap) (A:Around) (outer:List Env) (s:Shared) (H:Hp):Prop where
 frames:A.frames=some outer
 mod:Mod K mg base
 bs:∀ b o,base.get? b=some o->s.heap.get? b=some o/\H b=none
 Oo:base.objs.size<=s.heap.objs.size
 oF:s.heap.FunFrames base outer
 Uu:∀ b∈frs outer,H b=none
 hok:lV P w H s.heap
 bare:AllBare s.gens
inductive CE_X (outer:List Env) (P:Program) (w:World) (H:Hp) (s:Shared) (Q:VK) (u:Value) (s':Shared):Prop
 | mk (v:V) (H':Hp) (_:s'.os=s.os) (_:AllBare s'.gens) (_:Un (frs outer) [] H H' s.heap s'.heap) (_:lV P w H' s'.heap) (_:RelV v u) (_:Q v H'):CE_X outer P w H s Q u s'
def CE (outer:List Env) (P:Program) (w:World) (H:Hp) (s:Shared) (Q:VK) (u:Value) (s':Shared):Prop :=
 CE_X outer P w H s Q u s'
def CR (CX:BX) (outer:List Env) (P:Program) (w:World) (H:Hp) (s:Shared) (Q:VK) (E:XK) (r:Result) (s':Shared):Prop :=
 match r with
 | .ok (.ret u)=>CE outer P w H s Q u s'
 | .ok _=>False
 | .error e=>CX outer H s E e s'
structure bw (P:Program) (w:World) (K:PySem.W.Frag) (mg:Str->Option Value) (base:Heap) (CX:BX) (k:Nat) (f:Addr) (fd:FuncData) (ps:List Str) (sp:Sp):Prop where
 len:∀ vs H Q E,sp vs H Q E->vs.length=ps.length
 run:∀ (A:Around) (outer:List Env) (s:Shared) (H:Hp) (args:Args) (us:List Value) (vs:List V) (Q:VK) (E:XK),fM k A->Gr P w K mg base A outer s H->BindsTo s fd args (ps.zip us)->Vals vs us->sp vs H Q E ->
  codeAny (model P w) A (.call (.ref f) args) (CR CX outer P w H s Q E) s
theorem bw.mono {k:Nat} (F:bw P w K mg base CX j f fd ps sp) (h:j<=k) :
  bw P w K mg base CX k f fd ps sp:=⟨F.len,fun A outer s H args us vs Q E hr=>F.run A outer s H args us vs Q E (hr.mono h)⟩
theorem Gr.make (e:Gr P w K mg base A outer s H) (C:Addr) (us:List Value) (kw:List (Str×Value)) :
  Gr P w K mg base (A.under (.builtin "type.__call__" ⟨.ref C::us,kw⟩)) outer s H:=⟨by first | exact e.frames | (simpa [Around.under,Code.envs,Code.isFrame,pushEnvs] using e.frames),e.mod,e.bs,e.Oo,e.oF,e.Uu,e.hok,e.bare⟩
theorem Inv.env0 (I:Inv X pins σ H s):Gr X.prog X.w X.K X.mg X.base X.A X.stack s H :=
 ⟨I.ok.frames,I.ok.mod,I.bs,Nat.le_trans I.ok.Oo I.sz,I.stack,I.zT,I.hok,I.bare⟩
theorem Inv.after {Q:VK} (I:Inv X pins σ H s) (h:CE X.stack X.prog X.w H s Q u s'):EP X pins σ Q u s':=by
 obtain ⟨v,H',os,bare,un,hok,r,q⟩:=h;obtain ⟨hh,g,d,t,os'⟩:=s';obtain rfl:os'=s.os:=os;exact ⟨v,H',I.call (h':=hh) (g':=g) (d':=d) (t':=t) (ch:=[]) un hok bare (fun b z=>absurd z 0x5),r,q⟩
def Jq (sp:Sp) (jM:List V) (E:XK) (t:TA):TE:=fun σ H Q=>t σ H fun vs H1=>sp (vs++jM) H1 Q E
inductive Jr (C:Addr) (m:Str) (sp:Sp) (jM:List V) (E:XK) (t:TA) (σ:L2.St) (Q:VK) (x:V) (H1:Hp):Prop
 | mk (a dx:Addr) (fs:List (Prod Str V)) (_:x=.ref a) (_:H1 a=some (.ins C dx fs)) (_:fs.lookup m=none) (_:t σ H1 fun vs H2=>sp (x::(vs++jM)) H2 Q E):Jr C m sp jM E t σ Q x H1
def a1I (C:Addr) (m:Str) (sp:Sp) (jM:List V) (E:XK) (ta:TE) (t:TA):TE:=fun σ H Q=>ta σ H fun x H1=>Jr C m sp jM E t σ Q x H1
def a1J (C:Addr) (sp:Sp) (jM:List V) (E:XK) (t:TA):TE:=fun σ H Q=>t σ H fun vs H1=>∀ x dx,H1 x=none->H1 dx=none->dx≠x ->
 sp (.ref x::(vs++jM)) (upd (upd H1 dx (.own x)) x (.ins C dx [])) (fun v H2=>v=.non/\Q (.ref x) H2) E
def Binds (K:PySem.W.Frag) (fd:FuncData) (ps:List Str) (ds:List Value):Prop :=
 ∀ (s:Shared) (us:List Value),K.In s.heap->(us++ds).length=ps.length->BindsTo s fd ⟨us,[]⟩ (ps.zip (us++ds))
theorem Binds.all (h:∀ us:List Value,us.length=ps.length->bindArgs fd ⟨us,[]⟩=pure (ps.zip us)):Binds K fd ps []:=fun s us _ hl=>by
 rw [List.append_nil] at hl ⊢;exact .of_eq (h us hl)
def Passes (CX:BX) (X:Cx) (E:XK):Prop:=∀ (pins:List 0x18) (σ:St) (H:Hp) (s:Shared) (e:Value) (s':Shared),Inv X pins σ H s->CX X.stack H s E e s'->X.xe e s'
section
variable {k:Nat}{E:XK}{o:Expr}
theorem Gs {Q:VK}{vs:List V} (F:bw X.prog X.w X.K X.mg X.base CX k f fd ps sp) (hr:fM k X.A) (hb:Binds X.K fd ps ds) (hd:Vals jM ds) (hx:Passes CX X E)
  (I:Inv X pins σ H s) (r:Vals vs us) (h:sp (vs++jM) H Q E):wpAny 0x7 X.A (call (.ref f) us) (EP X pins σ Q) X.xe s:=by
 have r2:Vals (vs++jM) (us++ds):=r.append hd;have hl:(us++ds).length=ps.length:=by rw [<- r2.length];exact F.len _ _ _ _ h
 refine wpAny_call (codeAny_mono (F.run X.A X.stack s H ⟨us,[]⟩ (us++ds) (vs++jM) Q E hr I.env0 (hb s us I.jV hl) r2 h) fun r s' hq=>?_);cases r with
 | error e=>exact hx pins σ H s e s' I hq
 | ok fl =>
  cases fl with
  | ret u=>exact I.after hq
  | next=>exact False.elim hq
  | brk=>exact False.elim hq
  | cont=>exact False.elim hq
theorem bA (F:bw X.prog X.w X.K X.mg X.base CX k f fd ps sp) (hr:fM k X.A) (hg:Gl X x) (hm:X.mg x=some (.ref f)) (hk:PySem.W.keepIn X.K (.ref f)=true) (hb:Binds X.K fd ps ds) (hd:Vals jM ds) (hx:Passes CX X E)
  (ha:PA X (e::es) t) (hdb:0x17=false:=by decide) (he:starEach (e::es) X.env=(false,eval e X.env)::starEach es X.env:=by rfl) (hpl:(backTo pos (starEach es X.env)).any (·.1)=false:=by rfl) :
  PE X (.Call (.Name x p) (e::es) [] pos) (Jq sp jM E t):=by
 intro pins s σ H Q I h;refine wpAny_Call_Name_kw (jD I hg hm ?_ hdb);refine PySem.W.callWith_K (h₀:=X.base) I.ok.mod.kin hk (cT (ha pos pins s σ H _ I h) fun us s1 ⟨vs,H1,I1,r,q⟩=>⟨I1.jV,?_⟩) he hpl;exact Gs F hr hb hd hx I1 r q
theorem pZ (F:bw X.prog X.w X.K X.mg X.base CX k f fd ps sp) (hr:fM k X.A) (hg:Gl X x) (hm:X.mg x=some (.ref f)) (hk:PySem.W.keepIn X.K (.ref f)=true) (hb:Binds X.K fd ps ds) (hd:Vals jM ds) (hx:Passes CX X E)
  (hdb:0x17=false:=by decide):PE X (.Call (.Name x p) [] [] pos) (Jq sp jM E oG):=by
 intro pins s σ H Q I h;refine wpAny_Call_Name_kw (jD I hg hm ?_ hdb);exact PySem.W.callWith_K0 I.jV hk (Gs (us:=[]) F hr hb hd hx I .nil h)
theorem qb (he:PE X o ta) (c:Cls X.K C) (hm:Meth X.K C m f) (F:bw X.prog X.w X.K X.mg X.base CX k f fd ps sp) (hr:fM k X.A) (hb:Binds X.K fd ps ds) (hd:Vals jM ds) (hx:Passes CX X E)
  (ht:eval (.Call (.Attribute o m apos) [] [] pos) X.env=(do
   let ov <- eval o X.env
   standAt apos.atName
   let (f,first) <- holding [ov] (getMethod ov m pl)
   callWith pos f first (backTo pos (starEach [] X.env)) (backToKw pos (keywordEach [] X.env))):=by rfl) :
  PE X (.Call (.Attribute o m apos) [] [] pos) (a1I C m sp jM E ta oG):=by
 intro pins s σ H Q I h;refine PySem.W.methodCall_KW (pl:=pl) (cT (he pins s σ H _ I h) fun u s1 ⟨x,H1,I1,rx,a,dx,fs,ex,ea,l,q⟩=>?_) ht;subst ex;obtain rfl:u=Value.ref a:=rx;refine Gm I1 ea c hm l ?_;exact PySem.W.callWith_K0 (first:=[.ref a]) I1.jV hm.kp (Gs (us:=[.ref a]) (vs:=[.ref a]) F hr hb hd hx I1 (.cons rfl .nil) q)
structure Mk (K:PySem.W.Frag) (C f:Addr):Prop where
 makes:PySem.W.makesIn K C=true
 init:PySem.W.findIn K 0x26 "__init__"=some (some (.ref f))
 fn:PySem.W.isFn K (.ref f)=true
 kp:PySem.W.keepIn K 0x26=true
theorem Pr {Q:VK}{vs:List V} (M:Mk X.K C f) (F:bw X.prog X.w X.K X.mg X.base CX k f fd ps sp) (hr:fM (k+1) X.A) (hb:Binds X.K fd ps ds) (hd:Vals jM ds)
  (hx:Passes CX X E) (I:Inv X pins σ H s) (r:Vals vs us)
  (h:∀ x dx,H x=none->H dx=none->dx≠x->sp (.ref x::(vs++jM)) (upd (upd H dx (.own x)) x (.ins C dx [])) (fun v H2=>v=.non/\Q (.ref x) H2) E) :
  wpAny 0x7 X.A (call 0x26 us) (EP X pins σ Q) X.xe s:=by
 have hq:=h 0x12 s.heap.objs.size (I.hok.fresh (Nat.le_succ _)) (I.hok.fresh 0x9) (Nat.ne_of_lt (Nat.lt_succ_self _));have I2:=Inv.made (C:=C) I;have r2:Vals (V.ref 0x12::(vs++jM)) (Value.ref 0x12::(us++ds)):=.cons rfl (r.append hd);have hl:(Value.ref 0x12::us++ds).length=ps.length:=by
  have e:=r2.length;rw [F.len _ _ _ _ hq] at e;exact e.symm
 refine wpAny_call (Pk (f:=f) I.jV M.makes M.init (beq_iff_eq.mp M.fn) (codeAny_mono (F.run _ X.stack _ _ ⟨Value.ref 0x12::us,[]⟩ (Value.ref 0x12::(us++ds)) _ _ E (hr.make C us [])
  (I2.env0.make C us []) (hb _ (Value.ref 0x12::us) I2.jV hl) r2 hq) fun r s' hq'=>?_))
 cases r with
 | error e=>exact hx pins σ _ _ e s' I2 hq'
 | ok fl =>
  cases fl with
  | ret u =>
   obtain ⟨v,H',I3,rv,ev,q3⟩:=I2.after hq';subst ev;exact ⟨rv,⟨V.ref 0x12,H',I3,rfl,q3⟩⟩
  | next=>exact False.elim hq'
  | brk=>exact False.elim hq'
  | cont=>exact False.elim hq'
theorem Uz (M:Mk X.K C f) (F:bw X.prog X.w X.K X.mg X.base CX k f fd ps sp) (hr:fM (k+1) X.A) (hg:Gl X x) (hm:X.mg x=some 0x26) (hb:Binds X.K fd ps ds) (hd:Vals jM ds) (hx:Passes CX X E)
  (ha:PA X (e::es) t) (hdb:0x17=false:=by decide) (he:starEach (e::es) X.env=(false,eval e X.env)::starEach es X.env:=by rfl) (hpl:(backTo pos (starEach es X.env)).any (·.1)=false:=by rfl) :
  PE X (.Call (.Name x p) (e::es) [] pos) (a1J C sp jM E t):=by
 intro pins s σ H Q I h;refine wpAny_Call_Name_kw (jD I hg hm ?_ hdb);refine PySem.W.callWith_K (h₀:=X.base) I.ok.mod.kin M.kp (cT (ha pos pins s σ H _ I h) fun us s1 ⟨vs,H1,I1,r,q⟩=>⟨I1.jV,?_⟩) he hpl;exact Pr M F hr hb hd hx I1 r q
end
def PK (X:Cx) (kws:List Keyword) (t:TA):Prop :=
 ∀ (pos:Pos) (pins:List 0x18) (s:Shared) (σ:St) (H:Hp) (Q:List V->Hp->Prop),Inv X pins σ H s->t σ H Q->wpAny 0x7 X.A (evalAll ((backToKw pos (keywordEach kws X.env)).map (·.2))) (AP X pins σ Q) X.xe s
section
variable {k:Nat}{ks:List Str}{E:XK}{o:Expr}{kws:List Keyword}{tk:TA}{nm:Option Str}
theorem Pu:PK X [] oG:=fun _ _ _ _ H Q I h=>wpAny_evalAll_nil ⟨[],H,I,.nil,h⟩
theorem Js (ha:PE X e te) (hr:PK X kws t):PK X (⟨nm,e,kpos⟩::kws) (gR te t):=by
 intro pos pins s σ H Q I h
 show wpAny _ _ (evalAll ((do let v <- eval e X.env;standAt pos;pure v)::(backToKw pos (keywordEach kws X.env)).map (·.2))) _ _ s
 refine wpAny_evalAll_cons (wpAny_bind (cT (ha pins s σ H _ I h) fun u s1 ⟨x,H1,I1,r1,q1⟩=>wpAny_bind (wpAny_standAt (wpAny_pure ?_))));exact cT (hr pos pins s1 σ H1 _ I1 q1) fun us s2 ⟨xs,H2,I2,r2,q2⟩=>⟨x::xs,H2,I2,.cons r1 r2,q2⟩
structure KBinds (K:PySem.W.Frag) (fd:FuncData) (ps ks:List Str) (g:List Value->List Value->List Value) (gV:List V->List V->List V):Prop where
 to:∀ (s:Shared) (us ws:List Value),K.In s.heap->(g us ws).length=ps.length->BindsTo s fd ⟨us,ks.zip ws⟩ (ps.zip (g us ws))
 rel:∀ {vs:List V}{us:List Value}{zs:List V}{ws:List Value},Vals vs us->Vals zs ws->Vals (gV vs zs) (g us ws)
variable {g:List Value->List Value->List Value}{gV:List V->List V->List V}
end
structure bB (N P:List Str) (sc:Scope):Prop where
 kind:sc.kind=.function
 co:sc.isCoroutine=false
 gen:sc.isGenerator=false
 nd:N.Nodup
 pre:N.take P.length=P
 par:∀ x∈P,sc.names.lookup x=some .local\/sc.names.lookup x=some .cell
 YK:∀ y∈sc.names,y.2≠.free
theorem xY {kindOf:Str->Option NameKind}:∀ {binds:List (Str×Value)}{m:Str->Option Value},(∀ v,(x,v)∉binds)->bindL kindOf binds m x=m x
 | [],_,_=>rfl
 | (n,v)::r,m,h=>by
  unfold bindL;rw [xY fun w hw=>h w (lR _ hw)]
  split
  ·have:x≠n:=by rintro rfl;exact h v List.mem_cons_self
   simp [this]
  ·rfl
theorem xZ {kindOf:Str->Option NameKind}:∀ {binds:List (Str×Value)}{m:Str->Option Value},(∀ v,(x,v)∉binds)->bindC kindOf binds m x=m x
 | [],_,_=>rfl
 | (n,v)::r,m,h=>by
  unfold bindC;rw [xZ fun w hw=>h w (lR _ hw)]
  split
  ·rfl
  ·have:x≠n:=by rintro rfl;exact h v List.mem_cons_self
   simp [this]
theorem yc {kindOf:Str->Option NameKind}{x:Str}{v:Value}:∀ {P:List Str}{vs:List Value}{i:Nat}{m:Str->Option Value},P.Nodup->P[i]?=some x->vs[i]?=some v->kindOf x=some .local ->
  bindL kindOf (P.zip vs) m x=some v
 | [],_,_,_,_,h,_,_=>by simp at h
 | _::_,[],_,_,_,_,h,_=>by simp at h
 | p::P,w::vs,0,m,nd,h1,h2,hk=>by
  simp at h1 h2;subst h1;subst h2
  show bindL kindOf ((p,w)::P.zip vs) m p=_
  unfold bindL;rw [xY fun v hv=>(List.nodup_cons.mp nd).1 (List.of_mem_zip hv).1,if_pos hk];simp
 | p::P,w::vs,i+1,m,nd,h1,h2,hk=>by
  show bindL kindOf ((p,w)::P.zip vs) m x=_
  unfold bindL;exact yc (i:=i) (List.nodup_cons.mp nd).2 (by simpa using h1) (by simpa using h2) hk
theorem yd {kindOf:Str->Option NameKind}{x:Str}{v:Value}:∀ {P:List Str}{vs:List Value}{i:Nat}{m:Str->Option Value},P.Nodup->P[i]?=some x->vs[i]?=some v->kindOf x≠some .local ->
  bindC kindOf (P.zip vs) m x=some v
 | [],_,_,_,_,h,_,_=>by simp at h
 | _::_,[],_,_,_,_,h,_=>by simp at h
 | p::P,w::vs,0,m,nd,h1,h2,hk=>by
  simp at h1 h2;subst h1;subst h2
  show bindC kindOf ((p,w)::P.zip vs) m p=_
  unfold bindC;rw [xZ fun v hv=>(List.nodup_cons.mp nd).1 (List.of_mem_zip hv).1,if_neg hk];simp
 | p::P,w::vs,i+1,m,nd,h1,h2,hk=>by
  show bindC kindOf ((p,w)::P.zip vs) m x=_
  unfold bindC;exact yd (i:=i) (List.nodup_cons.mp nd).2 (by simpa using h1) (by simpa using h2) hk
def start (N:List Str) (vs:List V):St:=vs.map some++List.replicate (N.length - vs.length) none
def qd (CX:BX) (P:Program) (w:World) (K:PySem.W.Frag) (mg:Str->Option Value) (base:Heap) (N:List Str) (qual:Str) (scope:Scope) (f:Addr) (cd:Value) (A:Around) (outer:List Env) (s:Shared) (H:Hp) (E:XK):Cx where
 prog:=P
 w:=w
 K:=K
 mg:=mg
 base:=base
 A:=A.deeper (envOfC qual scope s.heap.objs.size f cd)
 N:=N
 s₀:=s
 H₀:=H
 env:=envOfC qual scope s.heap.objs.size f cd
 outer:=outer
 stack:=envOfC qual scope s.heap.objs.size f cd::outer
 ex:=[]
 calm:=true
 fn:=fun _=>true
 pn:=[]
 xe:=fun e s'=>wpAny (model P w) (A.deeper (envOfC qual scope s.heap.objs.size f cd)) (leaving (envOfC qual scope s.heap.objs.size f cd) e) (fun _ s''=>CX outer H s E e s'') (fun e' s''=>CX outer H s E e' s'') s'
theorem Cm {sc:Scope} (h:sc.names.lookup x=some .cell):∃ c,(cellsFrom n sc.names []).lookup x=some c:=by
 have q:=PySem.W.cellsFrom_some sc.names n [] (.inl h);exact Option.isSome_iff_exists.mp q
theorem N8 {s1:Shared}{E:XK}{vs:List V}
  (S:bB N ps scope) (hd:A.handled=none) (e0:Gr P w K mg base A outer s H) (hl:vs.length=ps.length) (r:Vals vs us)
  (x:InCallC s s.heap.objs.size (bindL (envOfC qual scope s.heap.objs.size f cd).kindOf (ps.zip us) fun _=>none) (cellsFrom 0x12 scope.names []) (bindC (envOfC qual scope s.heap.objs.size f cd).kindOf (ps.zip us) fun _=>none) s1) :
  Inv (qd CX P w K mg base N qual scope f cd A outer s H E) [] (start N vs) H s1:=by
 have hpl:ps.length<=N.length:=by have:=congrArg List.length S.pre;rw [List.length_take] at this;lia
 obtain ⟨h1,tk,rfl,hk⟩:=x.done;have noA:∀ b:Addr,b∉(qd CX P w K mg base N qual scope f cd A outer s H E).ex:=fun b z=>absurd (show b∈([]:List Addr) from z) 0x5
 refine ⟨⟨e0.mod,S.kind,rfl,rfl,Nat.le_refl _,fun y z c h1 h2=>?_,fun y hy=>?_,fun y c _ h=>?_,fun _=>hd,Around.frames_deeper e0.frames,.inr ⟨rfl,rfl⟩,fun b z=>absurd z (noA b),e0.bs,e0.Oo,fun b _ _=>noA b,fun b z=>absurd z (noA b),e0.oF,e0.Uu⟩,
  rfl,e0.bare,Un.kept hk,⟨_,x.toInCall.ns,fun i y v h1 h2 h3=>?_⟩,fun y c h=>⟨_,x.cell y c h⟩,e0.hok.fresh 0x9,fun y c h=>?_,fun p hp=>absurd (show p∈([]:List 0x18) from hp) 0x5,e0.hok.kept hk,?_⟩
 ·exact name_of_addr x.apart (PySem.mem_of_lookup h1) (PySem.mem_of_lookup h2)
 ·have hy:scope.names.lookup y=some .cell\/scope.names.lookup y=some .free:=hy;rcases hy with hy | hy
  ·exact Cm hy
  ·exact absurd rfl (S.YK _ (PySem.mem_of_lookup hy))
 ·exact Nat.le_of_lt (x.above y c (PySem.mem_of_lookup h))
 ·have hi:i<vs.length:=by
   unfold start at h2
   by_cases hi:i<vs.length
   ·exact hi
   ·rw [List.getElem?_append_right (by simpa using hi)] at h2;rw [List.getElem?_replicate] at h2
    split at h2 <;> cases h2
  have ha:vs[i]?=some v:=by
   unfold start at h2;rw [List.getElem?_append_left (by simpa using hi),jT] at h2;cases e:vs[i]? with
   | none=>rw [e] at h2;cases h2
   | some a=>rw [e] at h2;cases h2;rfl
  obtain ⟨u,hu,rv⟩:=r.get ha;have hp:ps[i]?=some y:=by
   rw [<- S.pre,List.getElem?_take_of_lt 0x1];exact h1
  have ndP:ps.Nodup:=by rw [<- S.pre];exact S.nd.sublist (List.take_sublist _ _)
  refine ⟨u,rv,?_⟩;rcases S.par y (lU hp) with k | k
  ·exact .inl ⟨k,yc ndP hp hu k⟩
  ·obtain ⟨c,e⟩:=Cm (n:=s.heap.objs.size+1) k;refine .inr ⟨.inl k,c,e,?_⟩;have q:=x.cell y c e;rw [yd ndP hp hu (by show scope.names.lookup y≠_;rw [k];decide)] at q
   exact q
 ·exact e0.hok.fresh (Nat.le_of_lt (x.above y c (PySem.mem_of_lookup h)))
 ·unfold start
  show _=N.length
  rw [jA,bV,List.length_replicate];lia
theorem Jt {k:Nat}{params:Arguments}{dV kV doc pm cdv ct oc:Value}{an:Option Addr}
  {osl:Array (Option Value)} (lk:K.lookup f=some ⟨oc,od,.func (PySem.W.fnOf name qual params body scope dV kV doc pm an cdv ct),osl⟩) (hcd:PySem.W.codeIn K cdv qual=true) (S:bB N ps scope)
  (len:∀ vs H Q E,sp vs H Q E->vs.length=ps.length)
  (hbody:∀ (A:Around) (outer:List Env) (s:Shared) (H:Hp) (vs:List V) (Q:VK) (E:XK),fM k (A.deeper (envOfC qual scope s.heap.objs.size f cdv))->sp vs H Q E ->
   ∃ t,BW (qd CX P w K mg base N qual scope f cdv A outer s H E) body t/\t { nx:=fun _ H'=>Q .non H',rt:=Q } (start N vs) H) :
  bw P w K mg base CX (k+1) f (PySem.W.fnOf name qual params body scope dV kV doc pm an cdv ct) ps sp:=by
 refine ⟨len,fun A outer s H args us vs Q E hr e0 hb r hsp=>?_⟩;have hl:=len _ _ _ _ hsp;have KX:K.In s.heap:=e0.mod.kin.keeps fun b o e=>(e0.bs b o e).1;have lim:s.heap.NoLimit:=e0.mod.nolimit.keeps fun b o e=>(e0.bs b o e).1;have hkind:∀ y∈ps.zip us,scope.names.lookup y.1=some .local\/(scope.names.lookup y.1=some .cell/\((cellsFrom 0x12 scope.names []).lookup y.1).isSome=true):=fun ⟨n,v⟩ hy=>by
  rcases S.par n (List.of_mem_zip hy).1 with q | q
  ·exact .inl q
  ·exact .inr ⟨q,PySem.W.cellsFrom_some _ _ _ (.inl q)⟩
 refine codeAny_call_function hr.depth (KX _ _ lk) rfl S.co S.gen rfl (PySem.W.codeRec_of KX hcd) (hb _ _ _ _ ?_);refine wpAny_newFunctionEnv_cells S.kind hkind fun env he s1 x=>?_;subst he;refine ⟨lim.keeps x.toInCall.keep,codeAny_func ?_⟩;obtain ⟨t,ht,hq⟩:=hbody A outer s H vs Q E (hr.deeper _) hsp;have I:Inv (qd CX P w K mg base N qual scope f cdv A outer s H E) [] (start N vs) H s1:=N8 S hr.hd e0 hl r x;refine wpAny_mono (ht [] s1 (start N vs) H _ I hq) (fun fl s' hs=>?_) fun e s' hs=>hs;have fin:∀ {σ':St}{H':Hp}{v:V}{u:Value},Inv (qd CX P w K mg base N qual scope f cdv A outer s H E) [] σ' H' s'->RelV v u->Q v H'->CE outer P w H s Q u s' :=
  fun {σ' H' v u} J rv q=>⟨v,H',J.os,J.bare,J.base,J.hok,rv,q⟩
 cases fl with
 | ret u =>
  obtain ⟨v,σ',H',J,rv,q⟩:=hs;exact fin J rv q
 | next =>
  obtain ⟨σ',H',J,q⟩:=hs;exact fin (v:=V.non) (u:=Value.none) J rfl q
 | brk =>
  obtain ⟨_,_,_,q⟩:=hs;exact False.elim q
 | cont =>
  obtain ⟨_,_,_,q⟩:=hs;exact False.elim q
section
variable {id:String}{r:List V->Hp->VK->Prop}
def tCB (r:List V->Hp->VK->Prop) (t:TA):TE:=fun σ H Q=>t σ H fun vs H1=>r vs H1 Q
theorem aM (hc:gq X (.builtin id) r) (hg:Gl X x) (hm:X.mg x=none) (hv:bootBuiltins x=some (.builtin id)) (ha:PA X (e::es) t) (hn:x≠"__name__":=by decide) (hdb:0x17=false:=by decide)
  (he:starEach (e::es) X.env=(false,eval e X.env)::starEach es X.env:=by rfl) (hpl:(backTo pos (starEach es X.env)).any (·.1)=false:=by rfl):PE X (.Call (.Name x p) (e::es) [] pos) (tCB r t):=by
 intro pins s σ H Q I h;refine wpAny_Call_Name_kw (gC I hg hm hv ?_ hn hdb);exact PyProof.Rows.callWith_builtin1 (cT (ha pos pins s σ H _ I h) fun us s1 ⟨vs,H1,I1,r1,q1⟩=>hc pins s1 σ H1 vs us Q I1 r1 q1) he hpl
theorem cO (hc:gq X (.type T) r) (hg:Gl X x) (hm:X.mg x=none) (hv:bootBuiltins x=some (.type T)) (ha:PA X (e::es) t) (hn:x≠"__name__":=by decide) (hdb:0x17=false:=by decide)
  (he:starEach (e::es) X.env=(false,eval e X.env)::starEach es X.env:=by rfl) (hpl:(backTo pos (starEach es X.env)).any (·.1)=false:=by rfl):PE X (.Call (.Name x p) (e::es) [] pos) (tCB r t):=by
 intro pins s σ H Q I h;refine wpAny_Call_Name_kw (gC I hg hm hv ?_ hn hdb);exact PyProof.Rows.callWith_type1 (cT (ha pos pins s σ H _ I h) fun us s1 ⟨vs,H1,I1,r1,q1⟩=>hc pins s1 σ H1 vs us Q I1 r1 q1) he hpl
end
end L2
variable {jM rest xs ys:List L2.V}{H H' H1 H2:L2.Hp}{o:L2.HO}{X:L2.Cx}{F v y:L2.V}{σ:L2.St}{ta tb te tl to tv:L2.TE}{t:L2.TA}{D:L2.Ends}{g:L2.TG}{wi:L2.TI}{r:L2.R2}{CX:L2.BX}{sp:L2.Sp}{tt:L2.TT}{J:L2.It}{kvs:List (L2.Key×L2.V)}{Oi:List (L2.TE×L2.TE)}
namespace HT
open PySem PyProof.Rows
section
open PySem.SeqAt
open PySem.AutoSeq1 (wpAny_loadPart')
open PySem.MeetsSeq PySem.MeetsSeq2 PySem.MeetsSeq3
end
def fG (n d:Nat):Option Int->Nat
 | none=>d
 | some v=>if v<0 then (v+(n:Int)).toNat else min v.toNat n
theorem qe (n d k:Nat):fG n d (some (k:Int))=min k n:=by
 show (if (k:Int)<0 then ((k:Int)+(n:Int)).toNat else min (k:Int).toNat n)=min k n
 rw [if_neg 0x1,Int.toNat_natCast]
theorem Px (n d:Nat) (hd:d<=n) (o:Option Int):fG n d o<=n:=by
 cases o with
 | none=>exact hd
 | some v =>
  show (if v<0 then (v+(n:Int)).toNat else min v.toNat n)<=n
  by_cases hv:v<0
  ·rw [if_pos hv];lia
  ·rw [if_neg hv];exact Nat.min_le_right _ _
theorem zX (v:Int) (n d:Nat):(if v<0 then max (v+(n:Int)) 0 else min v (n:Int))=((fG n d (some v):Nat):Int):=by
 show (if v<0 then max (v+(n:Int)) 0 else min v (n:Int))=(((if v<0 then (v+(n:Int)).toNat else min v.toNat n):Nat):Int)
 by_cases hv:v<0
 ·simp only [if_pos hv];lia
 ·simp only [if_neg hv];lia
theorem Gu (lo hi:Option Int) (n:Nat):Builtin.Slice.sliceAdjust lo hi 1 (n:Int)=(((fG n 0 lo:Nat):Int),((fG n n hi:Nat):Int)):=by
 have h1:¬ ((1:Int)<0):=by lia
 unfold Builtin.Slice.sliceAdjust;simp only [h1,if_false];refine Prod.ext ?_ ?_
 ·cases lo with
  | none=>rfl
  | some v=>exact zX v n 0
 ·cases hi with
  | none=>rfl
  | some v=>exact zX v n n
theorem Gv (i j:Nat):Builtin.Slice.slicePlaces (i:Int) (j:Int) 1=j - i:=by
 unfold Builtin.Slice.slicePlaces;have h1:(1:Int) > 0:=by lia
 simp only [h1,if_true,Int.ediv_one]
 split <;> lia
theorem uY {v:Value}{o:Option Int}{Q:Option Int->Shared->Prop} (p:IsPart v o) (h:Q o s):wpAny 0xD A (Builtin.Slice.slicePartIndex v) Q E s:=by
 cases p with
 | none=>exact slicePart_none h
 | int i t=>exact slicePart_int h
theorem rD {sl:Addr}{vl vu:Value}{lo:Option Int}{Q:Int×Int×Nat->Shared->Prop} (hs:s.heap.IsSliceOf sl vl vu .none) (pl:IsPart vl lo) (pu:IsPart vu hi)
  (h:Q (((fG n 0 lo:Nat):Int),1,fG n n hi - fG n 0 lo) s):wpAny 0xD A (Builtin.Slice.sliceApplied (.ref sl) (pure (n:Int))) Q E s:=by
 obtain ⟨os,hos,hcs,hds⟩:=id hs;unfold Builtin.Slice.sliceApplied Builtin.Slice.sliceFields;refine wpAny_bind (wpAny_bind (wpAny_field hos hds (x:=vl) rfl (wpAny_bind (wpAny_field hos hds (x:=vu) rfl (wpAny_bind (wpAny_field hos hds (x:=.none) rfl (wpAny_pure ?_)))))));refine wpAny_bind (slicePart_none ?_)
 show wpAny _ _ (if ((1:Int)==0)=true then _ else _) _ _ s
 rw [if_neg 0x8];refine wpAny_bind (uY pl (wpAny_bind (uY pu (wpAny_bind (wpAny_pure ?_)))))
 show wpAny _ _ (match Builtin.Slice.sliceAdjust lo hi 1 (n:Int) with | (lo,hi)=>pure (lo,(1:Int),Builtin.Slice.slicePlaces lo hi 1)) _ _ s
 rw [Gu lo hi n]
 show wpAny _ _ (pure (((fG n 0 lo:Nat):Int),(1:Int),Builtin.Slice.slicePlaces ((fG n 0 lo:Nat):Int) ((fG n n hi:Nat):Int) 1)) _ _ s
 rw [Gv];exact wpAny_pure h
theorem Py (xs:Array Value) (i k:Nat):((List.range k).filterMap fun (m:Nat)=>xs[((i:Int)+(m:Int) * 1).toNat]?).toArray=((xs.toList.drop i).take k).toArray:=by
 have e:(fun (m:Nat)=>xs[((i:Int)+(m:Int) * 1).toNat]?)=fun m=>xs[i+m]?:=by
  funext m
  have:((i:Int)+(m:Int) * 1).toNat=i+m:=by lia
  rw [this]
 rw [e];have:=pick_run xs i k;rw [List.filterMap_map] at this;have e2:((fun x=>xs[x]?)∘fun x=>i+x)=fun m=>xs[i+m]?:=rfl;rw [e2] at this;rw [this]
theorem qg {t sl:Addr}{vl vu:Value}{lo:Option Int} (ht:IsTup s.heap t items) (hs:s.heap.IsSliceOf sl vl vu .none) (pl:IsPart vl lo) (pu:IsPart vu hi)
  (hw:¬ (fG items.size 0 lo=0/\fG items.size items.size hi=items.size))
  (h:Q (.ref s.heap.objs.size) { s with heap:=s.heap.push { cls:=.type "tuple",data:=.seq ((items.toList.drop (fG items.size 0 lo)).take (fG items.size items.size hi - fG items.size 0 lo)).toArray } })
  (hsz:items.size<=sizeLine):wpAny 0xD A (getItem (.ref t) (.ref sl)) Q E s:=by
 have Ju:sizeOk (.seq ((items.toList.drop (fG items.size 0 lo)).take (fG items.size items.size hi - fG items.size 0 lo)).toArray):=by
  show ((items.toList.drop (fG items.size 0 lo)).take (fG items.size items.size hi - fG items.size 0 lo)).toArray.size<=sizeLine
  rw [List.size_toArray,List.length_take,List.length_drop,Array.length_toList];lia
 have hj:fG items.size items.size hi<=items.size:=Px _ _ 0x9 hi;obtain ⟨os,hos,hcs,hds⟩:=id hs;have hTs:s.TypeIs (.ref sl) "slice":=⟨os,hos,hcs⟩;unfold getItem
 try with_reducible refine wpAny_holding ?_
 first | refine wpAny_bind (wpAny_pure ?_) | skip
 refine wpAny_bind (wpAny_sequenceKey ht.typeIs 0x8 ?_);refine wpAny_bind (wpAny_callSpecial?_slot (name:=Str.ofString "__getitem__") ht.typeIs PyProof.Rows.slot_tuple_getitem
  (wpAny_call_entry PyProof.Rows.slot_tuple_getitem ht.typeIs entry_tuple_getitem ?_ (args_tuple_getitem _ _)))
 show wpAny _ _ (Builtin.Tuple.tupleItemsOf (.ref t) >>= _) _ _ s
 refine wpAny_bind (tupleItemsOf_ ht ?_);refine wpAny_bind (wpAny_typeOf hTs ?_);rw [if_pos 0x8];refine wpAny_bind (rD hs pl pu ?_);have hno:¬ ((((fG items.size 0 lo:Nat):Int)==0&&(1:Int)==1&&(fG items.size items.size hi - fG items.size 0 lo)==items.size)=true):=by
  intro q;rw [Bool.and_eq_true,Bool.and_eq_true] at q;have q1:((fG items.size 0 lo:Nat):Int)=0:=eq_of_beq q.1.1;have q2:fG items.size items.size hi - fG items.size 0 lo=items.size:=eq_of_beq q.2;exact hw ⟨by lia,by lia⟩
 show wpAny _ _ (if (((fG items.size 0 lo:Nat):Int)==0&&(1:Int)==1&&(fG items.size items.size hi - fG items.size 0 lo)==items.size)=true then _ else _) _ _ s
 rw [if_neg hno,Py]
 first
  | exact wpAny_bind (m:=Builtin.Tuple.tupleExact _) (wpAny_newObj_type (wpAny_pure ⟨_,rfl,wpAny_pure h⟩) Ju)
  | exact wpAny_bind (m:=Builtin.Tuple.tupleExact _) (wpAny_newObj_type (wpAny_bind (wpAny_pure (wpAny_pure ⟨_,rfl,wpAny_pure h⟩))) Ju)
  | exact wpAny_bind (wpAny_bind (m:=Builtin.Tuple.tupleExact _) (wpAny_newObj_type (wpAny_pure (wpAny_pure ⟨_,rfl,wpAny_pure h⟩)) Ju))
  | exact wpAny_bind (wpAny_bind (m:=Builtin.Tuple.tupleExact _) (wpAny_newObj_type (wpAny_pure ⟨_,rfl,wpAny_pure h⟩) Ju))
end HT
namespace L2
open PySem PySem.Spec PyProof.Rows
abbrev TO:=St->Hp->(Option Int->Hp->Prop)->Prop
def PO (X:Cx) (e:Option Expr) (t:TO):Prop :=
 ∀ (pins:List 0x18) (s:Shared) (σ:St) (H:Hp) (Q:Option Int->Hp->Prop),Inv X pins σ H s->t σ H Q ->
  wpAny 0x7 X.A (evalPart e X.env) (fun u s'=>∃ o H',Inv X pins σ H' s'/\IsPart u o/\Q o H') X.xe s
def Jv:TO:=fun _ H Q=>Q none H
inductive Jw (Q:Option Int->Hp->Prop) (x:V) (H1:Hp):Prop
 | mk (i:Int) (_:x=.int i) (_:Q (some i) H1):Jw Q x H1
def Xf (t:TE):TO:=fun σ H Q=>t σ H fun x H1=>Jw Q x H1
section
variable {lo hi:Option Expr}{tl th:TO}
theorem dI:PO X none Jv:=by
 intro pins s σ H Q I h;rw [evalPart_none];exact wpAny_pure ⟨none,H,I,.none,h⟩
theorem dJ (h:PE X e te):PO X (some e) (Xf te):=by
 intro pins s σ H Q I hw;rw [evalPart_some];refine cT (h pins s σ H _ I hw) fun u s1 zq=>?_;obtain ⟨x,H1,I1,r1,q1⟩:=zq;obtain ⟨i,rfl,q⟩:=q1;obtain ⟨t,rfl⟩:=r1;exact ⟨some i,H1,I1,.int i t,q⟩
inductive Xg (X:Cx) (pins:List (Prod Addr Obj)) (s:Shared) (σ:L2.St) (v:Value) (sl:Addr) (Q:VK):Prop
 | mk (T id:String) (_:typeLookup (.type T) "__getitem__"=pure (some (.builtin id))) (_:s.TypeIs v T) (_:wpAny 0x7 X.A (getItem v (.ref sl)) (EP X pins σ Q) X.xe s):Xg X pins s σ v sl Q
def SlR (X:Cx) (r:V->Option Int->Option Int->Hp->VK->Prop):Prop :=
 ∀ (pins:List 0x18) (s:Shared) (σ:St) (H:Hp) (x:V) (v vl vu:Value) (lo hi:Option Int) (sl:Addr) (Q:VK),Inv X pins σ H s->RelV x v->s.heap.IsSliceOf sl vl vu .none->IsPart vl lo->IsPart vu hi->r x lo hi H Q ->
  Xg X pins s σ v sl Q
def tSl (r:V->Option Int->Option Int->Hp->VK->Prop) (te:TE) (tl th:TO):TE:=fun σ H Q=>te σ H fun x H1=>tl σ H1 fun l H2=>th σ H2 fun u H3=>r x l u H3 Q
theorem cU {r:V->Option Int->Option Int->Hp->VK->Prop} (hr:SlR X r) (he:PE X e te) (hl:PO X lo tl) (hu:PO X hi th):PE X (.Subscript e (.Slice lo hi none p2) pos) (tSl r te tl th):=by
 intro pins s σ H Q I h;refine Subscript_ (cT (he pins s σ H _ I h) fun v s1 zq=>?_);obtain ⟨x,H1,I1,r1,q1⟩:=zq;refine wpAny_Slice (cT (hl pins s1 σ H1 _ I1 q1) fun vl s2 ⟨l,H2,I2,pl,q2⟩=>cT (hu pins s2 σ H2 _ I2 q2) fun vu s3 zq=>?_);obtain ⟨u,H3,I3,pu,q3⟩:=zq;rw [evalPart_none];refine wpAny_pure ?_;have I4:Inv X pins σ H3 { s3 with heap:=s3.heap.push { cls:=.type "slice",data:=.fields #[vl,vu,.none] } }:=I3.kept (t':=s3.toks) fun b ob q=>Heap.get?_push_of_some _ q;obtain ⟨T,id,hT,ht,hg⟩:=hr pins { s3 with heap:=s3.heap.push { cls:=.type "slice",data:=.fields #[vl,vu,.none] } } σ H3 x v vl vu l u s3.heap.objs.size Q I4 r1 (Heap.IsSliceOf.new ..) pl pu q3
 show wpAny 0x7 X.A (subscriptTail e (.Slice lo hi none p2) v (.ref s3.heap.objs.size)) (EP X pins σ Q) X.xe { s3 with heap:=s3.heap.push { cls:=.type "slice",data:=.fields #[vl,vu,.none] } }
 exact tail_any (ops:=[.ref s3.heap.objs.size,v]) ht hT hg 0x16
def jY (xs:List V) (lo hi:Option Int):List V:=(xs.drop (HT.fG xs.length 0 lo)).take (HT.fG xs.length xs.length hi - HT.fG xs.length 0 lo)
theorem jF (xs:List V) (lo hi:Option Int):(jY xs lo hi).length<=xs.length:=by
 unfold jY;rw [List.length_take,List.length_drop];lia
inductive Pz (K:PySem.W.Frag) (x:V) (lo hi:Option Int) (H:Hp) (Q:VK):Prop
 | mk (a:Addr) (xs:List V) (_:x=.ref a) (_:dG K H a xs) (_:¬ (HT.fG xs.length 0 lo=0/\HT.fG xs.length xs.length hi=xs.length)) (_:∀ p,H p=none->Q (.ref p) (upd H p (.tup (jY xs lo hi)))):Pz K x lo hi H Q
def rSlT (K:PySem.W.Frag):V->Option Int->Option Int->Hp->VK->Prop:=fun x lo hi H Q=>Pz K x lo hi H Q
theorem PB:SlR X (rSlT X.K):=by
 intro pins s σ H x v vl vu lo hi sl Q I rx hs pl pu h;obtain ⟨a,xs,rfl,hx,hw,q⟩:=h;cases rx;obtain ⟨its,r,ht,hz⟩:=I.tuple hx;have hlen:its.toArray.size=xs.length:=by rw [List.size_toArray];exact r.length.symm
 refine ⟨"tuple",_,PyProof.Rows.slot_tuple_getitem.lookup,ht.typeIs,?_⟩;refine HT.qg ht hs pl pu (by rw [hlen];exact hw) ?_ (by rw [hlen];exact hz);rw [hlen];refine ⟨.ref s.heap.objs.size,_,I.laid (t':=s.toks) (o:=.tup (jY xs lo hi)) (fun b ob q=>Heap.get?_push_of_some _ q) 0x9 ?_,rfl,q _ (I.hok.fresh 0x9)⟩;exact ⟨Nat.le_trans (jF xs lo hi) hz,_,(r.drop (HT.fG xs.length 0 lo)).take (HT.fG xs.length xs.length hi - HT.fG xs.length 0 lo),IsTup.new _ _⟩
end
def Gw (n:Nat) (i:Int):Option Nat:=if 0<=i then (if i<n then some i.toNat else none) else if -(n:Int)<=i then some (i+n).toNat else none
def lZ {α:Type} (xs:List α) (i:Int):Option α:=(Gw xs.length i).bind fun j=>xs[j]?
theorem Jx {i:Int} (h:Gw n i=some j):seqIndex? i n=some j/\j<n/\-(n:Int)<=i/\i<n:=by
 unfold Gw at h
 by_cases h0:0<=i
 ·rw [if_pos h0] at h
  by_cases h1:i<n
  ·rw [if_pos h1] at h;have e:i.toNat=j:=Option.some.inj h;exact ⟨by rw [seqIndex_of h0 h1,e],by lia,by lia,h1⟩
  ·rw [if_neg h1] at h;cases h
 ·rw [if_neg h0] at h
  by_cases h1:-(n:Int)<=i
  ·rw [if_pos h1] at h;have e:(i+n).toNat=j:=Option.some.inj h;exact ⟨by rw [seqIndex_neg 0x1 h1,e],by lia,h1,by lia⟩
  ·rw [if_neg h1] at h;cases h
theorem zY {α:Type}{xs:List α}{i:Int}{v:α} (h:lZ xs i=some v):∃ j,seqIndex? i xs.length=some j/\xs[j]?=some v/\j<xs.length/\-(xs.length:Int)<=i/\i<xs.length:=by
 unfold lZ at h;cases e:Gw xs.length i with
 | none=>rw [e] at h;cases h
 | some j =>
  rw [e] at h;obtain ⟨h1,h2,h3,h4⟩:=Jx e;exact ⟨j,h1,h,h2,h3,h4⟩
theorem fH {α:Type}{xs:List α}{v:α} (h:xs[j]?=some v):lZ xs (j:Int)=some v:=by
 have hj:j<xs.length:=(List.getElem?_eq_some_iff.mp h).1;have e:Gw xs.length (j:Int)=some j:=by
  unfold Gw;rw [if_pos 0x1,if_pos 0x1];simp
 unfold lZ;rw [e];exact h
theorem uZ {α:Type} (xs:List α) (v:α):lZ (xs++[v]) (-1)=some v:=by
 have hl:(xs++[v]).length=xs.length+1:=by simp
 have e:Gw (xs++[v]).length (-1)=some xs.length:=by
  unfold Gw;rw [hl,if_neg 0x8,if_pos 0x1]
  congr 1
  lia
 unfold lZ;rw [e]
 show (xs++[v])[xs.length]?=some v
 simp
def qj (b:Expr):Prop:=∀ o i,subscripted b false o i=operate [o,i] (getItem o i)
def Xh (X:Cx) (r:R2):Prop :=
 ∀ (value slice:Expr) (pins:List 0x18) (s:Shared) (σ:St) (H:Hp) (x y:V) (v u:Value) (Q:VK),Inv X pins σ H s->RelV x v->RelV y u->r x y H Q ->
  subscripted slice false v u=operate [v,u] (getItem v u)->wpAny 0x7 X.A (subscriptTail value slice v u) (EP X pins σ Q) X.xe s
def YL (X:Cx) (id:String) (r:V->List V->Hp->VK->Prop):Prop :=
 ∀ (pins:List 0x18) (s:Shared) (σ:St) (H:Hp) (x:V) (xs:List V) (v:Value) (us:List Value) (Q:VK),Inv X pins σ H s->RelV x v->Vals xs us->r x xs H Q ->
  wpAny 0x7 X.A (call (.builtin id) (v::us)) (EP X pins σ Q) X.xe s
section
variable {a b:Expr}
theorem bC (hr:Xh X r) (ha:PE X a ta) (hb:PE X b tb) (hs:qj b):PE X (.Subscript a b pos) (Xb r ta tb):=by
 intro pins s σ H Q I h;exact Subscript_ (YG ha hb I h fun v u s2 x y H2 I2 rx ry q=>hr a b pins s2 σ H2 x y v u Q I2 rx ry q (hs _ _))
inductive PJ (K:PySem.W.Frag) (x y:V) (H:Hp) (Q:VK):Prop
 | mk (p:Addr) (xs:List V) (i:Int) (v:V) (_:x=.ref p) (_:y=.int i) (_:aZ K H p xs) (_:lZ xs i=some v) (_:Q v H):PJ K x y H Q
def rIxL (K:PySem.W.Frag):R2:=fun x y H Q=>PJ K x y H Q
inductive PL (K:PySem.W.Frag) (x y:V) (H:Hp) (Q:VK):Prop
 | mk (p:Addr) (xs:List V) (i:Int) (v:V) (_:x=.ref p) (_:y=.int i) (_:dG K H p xs) (_:lZ xs i=some v) (_:Q v H):PL K x y H Q
def rIxT (K:PySem.W.Frag):R2:=fun x y H Q=>PL K x y H Q
inductive PN (x y:V) (H:Hp) (Q:VK):Prop
 | mk (z:Str) (i:Int) (c:Nat) (_:x=.str z) (_:y=.int i) (_:z.length<=sizeLine) (_:lZ z.cps.toList i=some c) (_:Q (.str ⟨#[c]⟩) H):PN x y H Q
def rIxS:R2:=fun x y H Q=>PN x y H Q
theorem aL:Xh X (rIxL X.K):=by
 intro value slice pins s σ H x y v u Q I rx ry h hs;obtain ⟨p,xs,i,z,rfl,rfl,hq,he,q⟩:=h;cases rx;obtain ⟨t,rfl⟩:=ry;obtain ⟨its,r,pl,hz⟩:=I.list hq;obtain ⟨j,h1,h2,h3,h4,h5⟩:=zY he;obtain ⟨w,ew,Gx⟩:=r.get h2;have hl:=r.length;have hn:=rA;have fin:EP X pins σ Q w s:=⟨z,H,I,Gx,q⟩
 by_cases h0:0<=i
 ·have hj:i.toNat=j:=by
   rw [seqIndex_of h0 h5] at h1;exact Option.some.inj h1
  exact item_listR pl.isList h0 0x1 (by rw [hj];simpa using ew) fin hs
 ·have hj:(i+(its.toArray.size:Int)).toNat=j:=by
   rw [seqIndex_neg 0x1 h4] at h1;rw [List.size_toArray,<- hl];exact Option.some.inj h1
  exact subscriptTail_builtinR (x:=w) pl.isList.typeIs slot_list_getitem.lookup
   (wpAny_getItem_list_neg (Q:=fun r s'=>r=w/\EP X pins σ Q r s') pl.isList 0x1 (by rw [List.size_toArray] <;> lia) 0x1 (by rw [hj];simpa using ew) ⟨rfl,fin⟩) hs
theorem gU:Xh X (rIxT X.K):=by
 intro value slice pins s σ H x y v u Q I rx ry h hs;obtain ⟨p,xs,i,z,rfl,rfl,hq,he,q⟩:=h;cases rx;obtain ⟨t,rfl⟩:=ry;obtain ⟨its,r,pl,hz⟩:=I.tuple hq;obtain ⟨j,h1,h2,h3,h4,h5⟩:=zY he;obtain ⟨w,ew,Gx⟩:=r.get h2;have hl:=r.length;have hn:=rA;have fin:EP X pins σ Q w s:=⟨z,H,I,Gx,q⟩;exact subscriptTail_builtinR (x:=w) pl.typeIs slot_tuple_getitem.lookup
  (getItem_tuple (j:=j) (Q:=fun r s'=>r=w/\EP X pins σ Q r s') pl 0x1 0x1 (by rw [List.size_toArray,<- hl];exact h1) (by simpa using ew) ⟨rfl,fin⟩) hs
theorem v7:Xh X rIxS:=by
 intro value slice pins s σ H x y v u Q I rx ry h hs;obtain ⟨z,i,c,rfl,rfl,hz,he,q⟩:=h;obtain ⟨t,rfl⟩:=rx;obtain ⟨t',rfl⟩:=ry;obtain ⟨j,h1,h2,h3,h4,h5⟩:=zY he;have hl:z.cps.toList.length=z.length:=by simp [Str.length]
 rw [hl] at h1 h4 h5;have hn:=rA;exact tail_any (typeIs_str s z t) slot_str_getitem.lookup (getItem_str (c:=c) (by
  have e1:decide (i < -(2 ^ 63:Int))=false:=decide_eq_false 0x1;have e2:decide (i>=2 ^ 63)=false:=decide_eq_false 0x1;rw [e1,e2,Bool.or_false]) (by rw [h1];simpa using h2) ⟨.str ⟨#[c]⟩,H,I.tok _,⟨_,rfl⟩,q⟩) hs
theorem Gy (its:List Value) (n j:Nat) (u:Value):Obj.mapSeq (·.setIfInBounds j u) { cls:=.type "list",data:=.seq its.toArray n }={ cls:=.type "list",data:=.seq (its.set j u).toArray n }:=by
 simp [Obj.mapSeq]
theorem Inv.lst {p:Addr} (I:Inv X pins σ H s) (h:H p=some (.lst xs)) :
  ∃ (its:List Value) (n:Nat),Vals xs its/\s.heap.get? p=some { cls:=.type "list",data:=.seq its.toArray n }/\xs.length<=sizeLine:=by
 obtain ⟨z,its,n,r,e⟩:=I.hok p _ h;exact ⟨its,n,r,e,z⟩
theorem Inv.YM {p:Addr}{its its':List Value}{n':Nat}{f:Obj->Obj} (I:Inv X pins σ H s) (h:H p=some (.lst xs))
  (ho:s.heap.get? p=some { cls:=.type "list",data:=.seq its.toArray n }) (hf:f { cls:=.type "list",data:=.seq its.toArray n }={ cls:=.type "list",data:=.seq its'.toArray n' }) (r:Vals ys its') (hz:ys.length<=sizeLine) (t:Nat) :
  Inv X pins σ (upd H p (.lst ys)) { s with heap:=s.heap.update p f,toks:=t }:=by
 have e:(s.heap.update p f).get? p=some { cls:=.type "list",data:=.seq its'.toArray n' }:=by
  rw [Heap.get?_update_self f ho (by rw [hf] <;> rfl),hf]
 refine I.write (x:=p) (e:=p) (by rw [h];trivial) (.inl rfl) (fun b u hb q=>(Heap.get?_update_other _ _ (Ne.symm hb)).trans q) ⟨_,e⟩ ?_;exact ⟨hz,its',n',r,e⟩
inductive Jy (o i v:V) (H:Hp) (Q:Hp->Prop):Prop
 | mk (p:Addr) (xs:List V) (k:Int) (j:Nat) (_:o=.ref p) (_:i=.int k) (_:H p=some (.lst xs)) (_:Gw xs.length k=some j) (_:Q (upd H p (.lst (xs.set j v)))):Jy o i v H Q
def a1K:V->V->V->Hp->(Hp->Prop)->Prop:=fun o i v H Q=>Jy o i v H Q
theorem set_list:Yz X a1K:=by
 intro pins s σ H o i v ov iv u Q I ro ri rv h;obtain ⟨p,xs,k,j,rfl,rfl,hp,hj,q⟩:=h;cases ro;obtain ⟨t,rfl⟩:=ri;obtain ⟨its,n,r,ho,hz⟩:=I.lst hp;obtain ⟨h1,h2,h3,h4⟩:=Jx hj;have hl:=r.length;have hn:=rA;have I':Inv X pins σ (upd H p (.lst (xs.set j v))) { s with heap:=s.heap.update p (Obj.mapSeq (·.setIfInBounds j u)) } :=
  I.YM hp ho (Gy its n j u) (r.set rv j) (by rw [List.length_set];exact hz) s.toks
 by_cases h0:0<=k
 ·have hk:k.toNat=j:=by
   rw [seqIndex_of h0 h4] at h1;exact Option.some.inj h1
  exact PySem.W.ki_setAt ho h0 0x1 (by rw [List.size_toArray,<- hl];exact h4) (by rw [hk];exact ⟨_,I',q⟩)
 ·have hk:(k+(its.toArray.size:Int)).toNat=j:=by
   rw [seqIndex_neg 0x1 h3] at h1;rw [List.size_toArray,<- hl];exact Option.some.inj h1
  exact PySem.W.ki_setBack ho 0x1 (by rw [List.size_toArray,<- hl];exact h3) 0x1 (by rw [hk];exact ⟨_,I',q⟩)
theorem zZ (lo hi:Option Int) (n:Nat):(sliceBounds lo hi none n).1=((HT.fG n 0 lo:Nat):Int)/\(sliceBounds lo hi none n).2.1=((HT.fG n n hi:Nat):Int)/\(sliceBounds lo hi none n).2.2=1:=by
 refine ⟨?_,?_,rfl⟩
 ·cases lo with
  | none=>simp [sliceBounds,HT.fG]
  | some i =>
   simp only [sliceBounds,HT.fG,Option.getD_none,show (1:Int) > 0 by decide,if_true]
   by_cases h:i<0
   ·simp only [h,if_true] <;> lia
   ·simp only [h,if_false] <;> lia
 ·cases hi with
  | none=>simp [sliceBounds,HT.fG]
  | some i =>
   simp only [sliceBounds,HT.fG,Option.getD_none,show (1:Int) > 0 by decide,if_true]
   by_cases h:i<0
   ·simp only [h,if_true] <;> lia
   ·simp only [h,if_false] <;> lia
theorem xG (its:List Value) (lo hi:Option Int):slicePick its.toArray lo hi none=((its.drop (HT.fG its.length 0 lo)).take (HT.fG its.length its.length hi - HT.fG its.length 0 lo)).toArray:=by
 obtain ⟨h1,h2,h3⟩:=zZ lo hi its.toArray.size;unfold slicePick;rw [h1,h2,h3];simp only [sliceRange_one,pick_run,List.size_toArray] <;> rfl
inductive PX (K:PySem.W.Frag) (x:V) (lo hi:Option Int) (H:Hp) (Q:VK):Prop
 | mk (a:Addr) (xs:List V) (_:x=.ref a) (_:aZ K H a xs) (_:∀ p,H p=none->Q (.ref p) (upd H p (.lst (jY xs lo hi)))):PX K x lo hi H Q
def rSlL (K:PySem.W.Frag):V->Option Int->Option Int->Hp->VK->Prop:=fun x lo hi H Q=>PX K x lo hi H Q
theorem bQ:SlR X (rSlL X.K):=by
 intro pins s σ H x v vl vu lo hi sl Q I rx hs pl pu h;obtain ⟨a,xs,rfl,hx,q⟩:=h;cases rx;obtain ⟨its,r,ht,hz⟩:=I.list hx;have hlen:=r.length;refine ⟨"list",_,slot_list_getitem.lookup,ht.isList.typeIs,?_⟩;refine wpAny_getItem_list_slice ht.isList hs pl pu .none 0x5 ?_ (by rw [List.size_toArray] <;> lia);rw [xG,<- hlen];refine ⟨.ref s.heap.objs.size,_,I.laid (t':=s.toks) (o:=.lst (jY xs lo hi)) (fun b ob q=>Heap.get?_push_of_some _ q) 0x9 ?_,rfl,q _ (I.hok.fresh 0x9)⟩;exact ⟨Nat.le_trans (jF xs lo hi) hz,_,0,(r.drop (HT.fG xs.length 0 lo)).take (HT.fG xs.length xs.length hi - HT.fG xs.length 0 lo),Heap.get?_push_size _ rfl⟩
def oM:V->Bool
 | .non=>true
 | .bl _=>true
 | .int _=>true
 | .str _=>true
 | _=>false
def Nb:V->V->Bool
 | .non,.non=>true
 | .bl a,.bl b=>a==b
 | .bl a,.int b=>(if a then 1 else 0)==b
 | .int a,.bl b=>a==(if b then 1 else 0)
 | .int a,.int b=>a==b
 | .str a,.str b=>a==b
 | _,_=>false
theorem YQ {x:V}{v:Value} (ry:RelV y u) (rx:RelV x v) (fy:oM y=true) (fx:oM x=true):SeqAt.EqAt A s u v (Nb y x):=by
 cases y with
 | non =>
  cases ry;cases x with
  | non=>cases rx;exact SeqAt.EqAt.same _
  | bl b=>cases rx;exact SeqAt.EqAt.none_bool b
  | int b=>obtain ⟨t,rfl⟩:=rx;exact SeqAt.EqAt.none_int b t
  | str b=>obtain ⟨t,rfl⟩:=rx;exact SeqAt.EqAt.none_str b t
  | _=>exact absurd (show false=true from fx) Bool.false_ne_true
 | bl a =>
  cases ry;cases x with
  | non=>cases rx;exact SeqAt.EqAt.bool_none a
  | bl b=>cases rx;exact SeqAt.EqAt.bool_bool a b
  | int b=>obtain ⟨t,rfl⟩:=rx;exact SeqAt.EqAt.bool_int a b t
  | str b=>obtain ⟨t,rfl⟩:=rx;exact SeqAt.EqAt.bool_str a b t
  | _=>exact absurd (show false=true from fx) Bool.false_ne_true
 | int a =>
  obtain ⟨t',rfl⟩:=ry;cases x with
  | non=>cases rx;exact SeqAt.EqAt.int_none a t'
  | bl b=>cases rx;exact SeqAt.EqAt.int_bool a t' b
  | int b=>obtain ⟨t,rfl⟩:=rx;exact SeqAt.EqAt.int_int a t' b t
  | str b=>obtain ⟨t,rfl⟩:=rx;exact SeqAt.EqAt.int_str a t' b t
  | _=>exact absurd (show false=true from fx) Bool.false_ne_true
 | str a =>
  obtain ⟨t',rfl⟩:=ry;cases x with
  | non=>cases rx;exact SeqAt.EqAt.str_none a t'
  | bl b=>cases rx;exact SeqAt.EqAt.str_bool a t' b
  | int b=>obtain ⟨t,rfl⟩:=rx;exact SeqAt.EqAt.str_int a t' b t
  | str b=>obtain ⟨t,rfl⟩:=rx;exact SeqAt.EqAt.str_str a t' b t
  | _=>exact absurd (show false=true from fx) Bool.false_ne_true
 | _=>exact absurd (show false=true from fy) Bool.false_ne_true
def Gz (x:V) (u:Value):Bool:=match u with
 | .none=>Nb .non x
 | .bool b=>Nb (.bl b) x
 | .int i _=>Nb (.int i) x
 | .str z _=>Nb (.str z) x
 | _=>false
theorem Q0 {x:V} (r:RelV y u) (f:oM y=true):Gz x u=Nb y x:=by
 cases y with
 | non=>cases r;rfl
 | bl b=>cases r;rfl
 | int i=>obtain ⟨t,rfl⟩:=r;rfl
 | str z=>obtain ⟨t,rfl⟩:=r;rfl
 | _=>exact absurd (show false=true from f) Bool.false_ne_true
theorem ql {x:V}:∀ {xs:List V}{us:List Value},Vals xs us->xs.all oM=true->us.any (Gz x)=xs.any fun y=>Nb y x
 | _,_,.nil,_=>rfl
 | y::xs,u::us,.cons r t,f=>by
  rw [List.all_cons,Bool.and_eq_true] at f;rw [List.any_cons,List.any_cons,Q0 r f.1,ql t f.2]
theorem m9 {x:V}{v:Value} (rx:RelV x v) (fx:oM x=true):∀ {xs:List V}{us:List Value},Vals xs us->xs.all oM=true->∀ u∈us,SeqAt.EqAt A s u v (Gz x u)
 | _,_,.nil,_=>fun u hu=>by cases hu
 | y::xs,u::us,.cons r t,f=>fun u' hu=>by
  rw [List.all_cons,Bool.and_eq_true] at f;rcases List.mem_cons.mp hu with rfl | hu
  ·rw [Q0 r f.1];exact YQ r rx f.1 fx
  ·exact m9 rx fx t f.2 u' hu
def inV (x:V) (xs:List V):Bool:=xs.any fun y=>Nb y x
inductive Xi (K:PySem.W.Frag) (neg:Bool) (x y:V) (H:Hp) (Q:VK):Prop
 | mk (p:Addr) (xs:List V) (_:y=.ref p) (_:(aZ K H p xs\/dG K H p xs)) (_:oM x=true) (_:xs.all oM=true) (_:Q (.bl (if neg then !inV x xs else inV x xs)) H):Xi K neg x y H Q
def rIn (K:PySem.W.Frag) (neg:Bool):R2:=fun x y H Q=>Xi K neg x y H Q
theorem nA:kZ X (compareOp .In) (rIn X.K false):=by
 intro pins s σ H x y v u Q I rx ry h;obtain ⟨p,xs,rfl,hq,fx,fs,q⟩:=h;cases ry;rcases hq with hq | hq
 ·obtain ⟨its,r,pl,hz⟩:=I.list hq;refine SeqAt.in_listAt (Gz x) pl.isList (fun w hw=>m9 rx fx r fs w (by simpa using hw)) ⟨.bl _,H,I,rfl,?_⟩;rw [show its.toArray.any (Gz x)=its.any (Gz x) by simp,ql r fs]
  exact q
 ·obtain ⟨its,r,pl,hz⟩:=I.tuple hq;refine SeqAt.in_tupleAt (Gz x) pl (fun w hw=>m9 rx fx r fs w (by simpa using hw)) ⟨.bl _,H,I,rfl,?_⟩;rw [show its.toArray.any (Gz x)=its.any (Gz x) by simp,ql r fs]
  exact q
theorem Aa:kZ X (compareOp .NotIn) (rIn X.K true):=by
 intro pins s σ H x y v u Q I rx ry h;obtain ⟨p,xs,rfl,hq,fx,fs,q⟩:=h;cases ry;rcases hq with hq | hq
 ·obtain ⟨its,r,pl,hz⟩:=I.list hq;refine SeqAt.notIn_listAt (Gz x) pl.isList (fun w hw=>m9 rx fx r fs w (by simpa using hw)) ⟨.bl _,H,I,rfl,?_⟩;rw [show its.toArray.any (Gz x)=its.any (Gz x) by simp,ql r fs]
  exact q
 ·obtain ⟨its,r,pl,hz⟩:=I.tuple hq;refine SeqAt.notIn_tupleAt (Gz x) pl (fun w hw=>m9 rx fx r fs w (by simpa using hw)) ⟨.bl _,H,I,rfl,?_⟩;rw [show its.toArray.any (Gz x)=its.any (Gz x) by simp,ql r fs]
  exact q
theorem bF:gq X (.builtin "len") (fun xs H Q=>∃ p ys,xs=[.ref p]/\(aZ X.K H p ys\/dG X.K H p ys)/\Q (.int ys.length) H):=by
 intro pins s σ H xs us Q I r h;obtain ⟨p,ys,rfl,hq,q⟩:=h;obtain ⟨u,rfl,rx⟩:=vals1 r;cases rx;have hn:=rA;rcases hq with hq | hq
 ·obtain ⟨its,r',pl,hz⟩:=I.list hq;have hlen:=r'.length;exact Calls.call_len_list pl.isList (by simp only [List.size_toArray] <;> lia) ⟨.int ys.length,H,I.tok _,⟨s.toks+1,by rw [List.size_toArray,hlen]⟩,q⟩
 ·obtain ⟨its,r',pl,hz⟩:=I.tuple hq;have hlen:=r'.length;exact len_tuple pl (by simp only [List.size_toArray] <;> lia) ⟨.int ys.length,H,I.tok _,⟨s.toks+1,by rw [List.size_toArray,hlen]⟩,q⟩
theorem cH:gq X (.builtin "len") (fun xs H Q=>∃ z,xs=[.str z]/\z.length<=sizeLine/\Q (.int z.length) H):=by
 intro pins s σ H xs us Q I r h;obtain ⟨z,rfl,hz,q⟩:=h;obtain ⟨u,rfl,t,rfl⟩:=vals1 r;have hn:=rA;exact len_str 0x1 ⟨.int z.length,H,I.tok _,⟨_,rfl⟩,q⟩
theorem iC:gq X (.type "tuple") (fun xs H Q=>∃ p ys,xs=[.ref p]/\((aZ X.K H p ys/\∀ l,H l=none->Q (.ref l) (upd H l (.tup ys)))\/(dG X.K H p ys/\Q (.ref p) H))):=by
 intro pins s σ H xs us Q I r h;obtain ⟨p,ys,rfl,h⟩:=h;obtain ⟨u,rfl,rx⟩:=vals1 r;cases rx;rcases h with ⟨hq,q⟩ | ⟨hq,q⟩
 ·obtain ⟨its,r',pl,hz⟩:=I.list hq;have hlen:=r'.length;refine call_tuple_list pl.isList (fun h' kp=>?_) (by simp only [List.size_toArray] <;> lia);have I1:Inv X pins σ H { s with heap:=h' }:=I.kept (t':=s.toks) kp;have I2:Inv X pins σ (upd H h'.objs.size (.tup ys)) { s with heap:=h'.push { cls:=.type "tuple",data:=.seq its.toArray } } :=
   I1.laid (t':=s.toks) (fun b o e=>Heap.get?_push_of_some _ e) 0x9 (show cC X.prog X.w _ _ _ (.tup ys) from ⟨hz,its,r',IsTup.new _ _⟩)
  exact ⟨.ref h'.objs.size,_,I2,rfl,q _ (I1.hok.fresh 0x9)⟩
 ·obtain ⟨its,r',pl,hz⟩:=I.tuple hq;exact call_tuple_same pl ⟨.ref p,H,I,rfl,q⟩
def tyV (K:PySem.W.Frag) (T:String) (x:V) (H:Hp):Prop:=match x with
 | .str _=>T="str"
 | .int _=>T="int"
 | .ref p=>(T="list"/\∃ xs,aZ K H p xs)\/(T="tuple"/\∃ o,K.lookup p=some o/\o.cls=.type "tuple"/\o.dict=none) \/
   (T="dict"/\((∃ kvs,H p=some (.dK kvs))\/∃ kvs,H p=some (.dT kvs)))\/(T="set"/\∃ S n,H p=some (.set S n))
 | _=>False
theorem Q5 {x:V}{v:Value} (I:Inv X pins σ H s) (r:RelV x v) (ty:tyV X.K T x H) :
  s.TypeIs v T/\∀ a,v=.ref a->∃ ob,s.heap.get? a=some ob/\ob.dict=none:=by
 cases x with
 | str z =>
  obtain ⟨t,rfl⟩:=r;cases (show T="str" from ty)
  exact ⟨typeIs_str s z t,fun _ e=>nomatch e⟩
 | int i =>
  obtain ⟨t,rfl⟩:=r;cases (show T="int" from ty)
  exact ⟨typeIs_int s i t,fun _ e=>nomatch e⟩
 | ref p =>
  cases r;rcases ty with ⟨rfl,xs,hq⟩ | ⟨rfl,o,hk,hc,hd⟩ | ⟨rfl,hk⟩ | ⟨rfl,S,n,hk⟩
  ·obtain ⟨its,_,pl,_⟩:=I.list hq;refine ⟨pl.isList.typeIs,fun a e=>?_⟩;cases e;obtain ⟨o,n,e,c,hd,_⟩:=pl;exact ⟨o,e,hd⟩
  ·refine ⟨⟨o,I.jV p o hk,hc⟩,fun a e=>?_⟩;cases e;exact ⟨o,I.jV _ o hk,hd⟩
  ·have z:∃ o,s.heap.get? p=some o/\o.ExactDict:=by
    rcases hk with ⟨kvs,hk⟩ | ⟨kvs,hk⟩
    ·obtain ⟨_,_,_,_,o,_,_,e,ex,_⟩:=I.hok p _ hk;exact ⟨o,e,ex⟩
    ·obtain ⟨_,_,_,_,o,_,_,e,ex,_⟩:=I.hok p _ hk;exact ⟨o,e,ex⟩
   obtain ⟨o,e,ex⟩:=z;refine ⟨⟨o,e,ex.1⟩,fun a e2=>?_⟩;cases e2;exact ⟨o,e,ex.2.1⟩
  ·obtain ⟨o,_,_,_,e,ex,_⟩:=I.hok p _ hk;refine ⟨⟨o,e,ex.1⟩,fun a e2=>?_⟩;cases e2;exact ⟨o,e,ex.2.1⟩
 | _=>exact False.elim ty
def tBM0 (K:PySem.W.Frag) (T:String) (r:V->List V->Hp->VK->Prop) (to:TE):TE:=fun σ H Q=>to σ H fun x H1=>tyV K T x H1/\r x [] H1 Q
def YS (K:PySem.W.Frag) (T:String) (r:V->List V->Hp->VK->Prop) (to:TE) (t:TA):TE:=fun σ H Q=>to σ H fun x H1=>tyV K T x H1/\t σ H1 fun xs H2=>r x xs H2 Q
variable {o:Expr}{id:String}{r:V->List V->Hp->VK->Prop}
theorem YT (pa:PlainAttrs T) (slot:Slot T name id) (hty:typeOf (.builtin id)=pure (.type "method_descriptor")) (hm:YL X id r) (ho:PE X o to)
  (hbase:attributeBase o name X.env (eval o X.env)=eval o X.env:=by rfl) (hline:(apos.endLine==cpos.line)=true:=by rfl):PE X (.Call (.Attribute o name apos) [] [] cpos) (tBM0 X.K T r to):=by
 intro pins s σ H Q I h;refine wpAny_Call_method0_late hbase hline (cT (ho pins s σ H _ I h) fun v s1 zq=>?_);obtain ⟨x,H1,I1,r1,ty,q1⟩:=zq;obtain ⟨h1,h2⟩:=Q5 I1 r1 ty;exact ⟨T,id,pa,slot,hty,h1,h2,Calls.callWith_builtin rfl (PySem.evalArgs_none (hm pins s1 σ H1 x [] v [] Q I1 r1 .nil q1))⟩
theorem dH (pa:PlainAttrs T) (slot:Slot T name id) (hty:typeOf (.builtin id)=pure (.type "method_descriptor")) (hm:YL X id r) (ho:PE X o to) (ha:PA X (e::es) t)
  (hbase:attributeBase o name X.env (eval o X.env)=eval o X.env:=by rfl)
  (hfew:((backTo cpos (starEach (e::es) X.env)).all (fun x=>!x.1)&&(backToKw cpos (keywordEach [] X.env)).all (fun x=>x.1.isSome)
   &&decide ((e::es).length+([]:List Keyword).length+(if ([]:List Keyword).isEmpty then 0 else 1)<30))=true:=by rfl)
  (hline:(apos.endLine==cpos.line)=true:=by rfl) (hs:starEach (e::es) X.env=(false,eval e X.env)::starEach es X.env:=by rfl) (hplain:(backTo cpos (starEach es X.env)).any (·.1)=false:=by rfl) :
  PE X (.Call (.Attribute o name apos) (e::es) [] cpos) (YS X.K T r to t):=by
 intro pins s σ H Q I h;refine wpAny_Call_method_late hbase hfew hline rfl (cT (ho pins s σ H _ I h) fun v s1 zq=>?_);obtain ⟨x,H1,I1,r1,ty,q1⟩:=zq;obtain ⟨h1,h2⟩:=Q5 I1 r1 ty;refine ⟨T,id,pa,slot,hty,h1,h2,?_⟩;have hA:=ha cpos pins s1 σ H1 _ I1 q1;rw [hs] at hA ⊢;refine Calls.callWith_builtin (by show (false||(backTo cpos (starEach es X.env)).any (·.1))=false;rw [hplain] <;> rfl) (Calls.evalArgs_plain ?_)
 exact cT hA fun us s2 ⟨vs,H2,I2,r2,q2⟩=>hm pins s2 σ H2 x vs v us Q I2 r1 r2 q2
end
def MtM (X:Cx) (id:String) (r:V->List V->Hp->VK->Prop):Prop :=
 ∀ (pins:List 0x18) (s:Shared) (σ:St) (H:Hp) (x:V) (xs:List V) (v:Value) (us:List Value) (Q:VK),Inv X pins σ H s->RelV x v->Vals xs us->r x xs H Q ->
  wpAny 0x7 X.A (call (.builtin id) (v::us)) (EP X pins σ Q) X.xe s
theorem Vals.one:∀ {x:V}{us:List Value},Vals [x] us->∃ u,us=[u]/\RelV x u
 | _,_,.cons r .nil=>⟨_,rfl,r⟩
theorem Vals.zero:∀ {us:List Value},Vals [] us->us=[]
 | _,.nil=>rfl
theorem Vals.dropLast (h:Vals xs us):Vals xs.dropLast us.dropLast:=by
 induction h with
 | nil=>exact .nil
 | cons r t ih =>
  cases t with
  | nil=>exact .nil
  | cons q t'=>exact .cons r ih
theorem GC {α:Type} (l:List α):l.eraseIdx (l.length - 1)=l.dropLast:=by
 induction l with
 | nil=>rfl
 | cons a r ih =>
  cases r with
  | nil=>rfl
  | cons b r =>
   have e:(a::b::r).length - 1=((b::r).length - 1)+1:=by
    have h1:(a::b::r).length=r.length+2:=rfl;have h2:(b::r).length=r.length+1:=rfl;lia
   rw [e,List.eraseIdx_cons_succ,ih]
   all_goals rfl
section
variable {zs:List V}
theorem Inv.UG {its its':List Value}{f:Array Value->Array Value} (I:Inv X pins σ H s) (hH:H l=some (.lst xs))
  (e:s.heap.get? l=some { cls:=.type "list",data:=.seq its.toArray n }) (hf:f its.toArray=its'.toArray) (hv:Vals ys its') (hz:ys.length<=sizeLine) :
  Inv X pins σ (upd H l (.lst ys)) { s with heap:=s.heap.update l (Obj.mapSeq f),toks:=t' }:=by
 have q:=PySem.IsL.update e f;rw [hf] at q;refine I.write (x:=l) (e:=l) (by rw [hH];exact trivial) (.inl rfl) (fun b' u hb hu=>(Heap.get?_update_other s.heap (Obj.mapSeq f) (Ne.symm hb)).trans hu) ⟨_,q⟩ ?_;exact ⟨hz,its',_,hv,q⟩
theorem Inv.lnew {its:List Value} (I:Inv X pins σ H s) (hv:Vals ys its) (hz:ys.length<=sizeLine) :
  Inv X pins σ (upd H s.heap.objs.size (.lst ys)) { s with heap:=s.heap.push { cls:=.type "list",data:=.seq its.toArray },toks:=t' } :=
 I.laid (fun _ _ q=>Heap.get?_push_of_some _ q) 0x9 ⟨hz,its,0,hv,Heap.get?_push_size _ rfl⟩
theorem Inv.fresh (I:Inv X pins σ H s):H s.heap.objs.size=none:=I.hok.fresh 0x9
theorem Inv.GD (I:Inv X pins σ H s) (hH:H l=some (.lst xs)):xs.length<=sizeLine/\∃ (its:List Value) (n:Nat),Vals xs its/\xs.length=its.length/\s.heap.get? l=some { cls:=.type "list",data:=.seq its.toArray n }:=by
 obtain ⟨z,its,n,r,e⟩:=I.hok l _ hH;exact ⟨z,its,n,r,r.length,e⟩
theorem Q6 (h:n<=sizeLine):Builtin.List.listTooLong n=false:=by
 unfold Builtin.List.listTooLong;exact decide_eq_false 0x1
end
inductive yg (x:V) (vs:List V) (H:Hp) (Q:VK):Prop
 | mk (l:Addr) (xs:List V) (y:V) (_:x=.ref l) (_:vs=[y]) (_:H l=some (.lst xs)) (_:xs.length<sizeLine) (_:Q .non (upd H l (.lst (xs++[y])))):yg x vs H Q
def Jz:V->List V->Hp->VK->Prop:=fun x vs H Q=>yg x vs H Q
theorem cY:MtM X "list.append" Jz:=by
 intro pins s σ H x vs v us Q I rx rv h;obtain ⟨l,xs,y,rfl,rfl,hH,hz,q⟩:=h;cases rx;obtain ⟨u,rfl,ru⟩:=rv.one;obtain ⟨z,its,n,r,hl,e⟩:=I.GD hH;refine call_meets F.slot_list_append ⟨_,e,rfl⟩ F.entry_list_append (F.args_list_append_2 _ _) (PySem.list_append l its.toArray n u (by rw [List.size_toArray];lia)) ⟨e,?_⟩;refine ⟨.non,_,I.UG (its':=its++[u]) hH e 0x5 (r.append (.cons ru .nil)) ?_,rfl,q⟩;rw [jA,List.length_singleton];lia
inductive Q7 (x:V) (vs:List V) (H:Hp) (Q:VK):Prop
 | mk (l:Addr) (xs:List V) (y:V) (_:x=.ref l) (_:vs=[]) (_:H l=some (.lst xs)) (_:xs[xs.length - 1]?=some y) (_:Q y (upd H l (.lst xs.dropLast))):Q7 x vs H Q
def rPop:V->List V->Hp->VK->Prop:=fun x vs H Q=>Q7 x vs H Q
theorem YW:MtM X "list.pop" rPop:=by
 intro pins s σ H x vs v us Q I rx rv h;obtain ⟨l,xs,y,rfl,rfl,hH,hy,q⟩:=h;cases rx;have hus:=rv.zero;subst hus;obtain ⟨z,its,n,r,hl,e⟩:=I.GD hH;obtain ⟨u,hu,ru⟩:=r.get hy;have hy':its.toArray[its.toArray.size - 1]?=some u:=by
  show its.toArray[its.length - 1]?=some u
  rw [<- Array.getElem?_toList,<- hl];exact hu
 refine call_meets F.slot_list_pop ⟨_,e,rfl⟩ F.entry_list_pop (F.args_list_pop_1 _) (MeetsSeq.list_pop_last l its.toArray n u hy' (by rw [List.size_toArray];lia)) ⟨e,?_⟩;refine ⟨y,_,I.UG (its':=its.dropLast) hH e ?_ r.dropLast ?_,ru,q⟩
 ·show its.toArray.eraseIdxIfInBounds (its.toArray.size - 1)=its.dropLast.toArray
  rw [List.size_toArray,List.eraseIdxIfInBounds_toArray,GC]
 ·rw [List.length_dropLast];lia
inductive Q8 (x y:V) (H:Hp) (Q:VK):Prop
 | mk (l b:Addr) (xs zs:List V) (_:x=.ref l) (_:y=.ref b) (_:H l=some (.lst xs)) (_:H b=some (.lst zs)) (_:xs.length+zs.length<=sizeLine) (_:∀ p,H p=none->Q (.ref p) (upd H p (.lst (xs++zs)))):Q8 x y H Q
def rCat:R2:=fun x y H Q=>Q8 x y H Q
theorem gH:kZ X (binaryOp .Add) rCat:=by
 intro pins s σ H x y v u Q I rx ry h;obtain ⟨l,b,xs,zs,rfl,rfl,hH,hB,hz,q⟩:=h;cases rx;cases ry;obtain ⟨z,its,n,r,hl,e⟩:=I.GD hH;obtain ⟨z2,its2,n2,r2,hl2,e2⟩:=I.GD hB;refine PySem.P.add_list e e2 ?_ (by rw [List.size_toArray,List.size_toArray];lia);have ea:its.toArray++its2.toArray=(its++its2).toArray:=by simp
 rw [ea];exact ⟨.ref _,_,I.lnew (t':=s.toks) (r.append r2) (by rw [jA];lia),rfl,q _ I.fresh⟩
end L2
namespace Att
open PySem PySem.W PySem.Calls PyProof.Rows
theorem tR {P:Params}:∀ (ns:List Int) (vs:List Value),WellAll P h vs (ns.map WData.int)->IntsAre vs ns:=by
 intro ns
 induction ns with
 | nil =>
  intro vs w;rw [List.map_nil] at w;cases w;exact .nil
 | cons n ns ih =>
  intro vs w;rw [List.map_cons] at w;cases w with
  | cons a b =>
   cases a;exact .cons _ _ (ih _ b)
theorem Nf {l:OpenLaw} (hn:l.most=some n) {P:Params}{args:List WData}{vals:List Value}
  (hpre:l.row.toRowW.claim.pre args=true) (hwl:WellAll P h vals args) :
  ∃ a vs ns,vals=[Value.ref a]/\args=[WData.list (ns.map WData.int)]/\h.get? a=some { cls:=.type "list",data:=.seq vs.toArray }/\IntsAre vs ns/\ns.length<=n:=by
 have hsh:WShape.hasAll [] args [.list .int]=true:=(pre_splitW hpre).1;have hc:l.pre.holds [] { args:=args }=true:=(pre_splitW hpre).2;obtain ⟨d,r,rfl,h1,h2⟩:=hasAllW_cons hsh;obtain rfl:=hasAllW_nil h2;obtain ⟨xs,rfl,h3⟩:=hasW_list h1;obtain ⟨ns,rfl⟩:=items_int h3;have hlen:ns.length<=n:=by
  unfold OpenLaw.pre at hc;have h4:(WTm.not (.lt (.lit (.int (n:Int))) (.len (.arg 0)))).holds [] { args:=[.list (ns.map .int)] }=true:=by
   have h4:=(holds_andW hc).1;rw [hn] at h4;exact h4
  have h5:=condW_of h4 (w_not (w_lt w_lit (w_len_list (w_arg rfl))));rw [bV] at h5;refine Nat.le_of_not_lt fun q=>?_;have q':(n:Int)<((ns.length:Nat):Int):=by lia
  first
   | (rw [decide_eq_true q'] at h5;exact absurd h5 0x8)
   | (simp at h5;lia)
 cases hwl with
 | cons w1 w2 =>
  cases w2;cases w1 with
  | list ho hall=>exact ⟨_,_,ns,rfl,rfl,ho,tR ns _ hall,hlen⟩
theorem Ng (l:OpenLaw) (args:List WData):l.row.toRowW.claim.post args (.bool true) args=true :=
 postW_of (r:=l.row.toRowW) (X:=(true==true))
  (show WShape.has [] (.bool true) .bool=true by first | rfl | decide | simp [WShape.has,WShape.arms,WShape.armsAll])
  (show (WTm.eq .res (.lit (.bool true))).value [] { args:=args,res:=some (.bool true),after:=args }=some (.bool (true==true)) from w_eq_bool (w_res rfl) w_lit) rfl
theorem Cp {l:OpenLaw}{q:Program}{d:DefRec}
  (hn:l.most=some n) (hdf:d.params.defaults=[])
  (call:∀ (w:World) (s₀ s₁:Shared) (mg mb:Str->Option Value) (fa:Addr) (o:Obj) (pm cd doc:Value) (a:Addr) (vs:List Value) (ns:List Int),
   Ground q loose [] XP w s₀ mg mb s₁.heap->YP w s₁.heap ->
   s₁.heap.get? fa=some o->o.data=.func (docDef d.name d.params d.body d.scope pm cd doc)->s₁.heap.CodeRec cd d.name->mg d.name=some (.ref fa) ->
   s₁.heap.get? a=some { cls:=.type "list",data:=.seq vs.toArray }->IntsAre vs ns->ns.length<=n->s₁.gens=#[] ->
   codeAny (model l.prog w) callerA (.call (.ref fa) ⟨[.ref a],[]⟩) (fun r s'=>r=.ok (.ret (.bool true))/\OldK s₁.heap s'.heap/\s'.os=s₁.os/\AllBare s'.gens) s₁) :
  WalkO q loose XP YP l.row.toRowW d [] (fun f vs=>PySem.call f vs):=by
 intro w s₀ s₁ mg mb G Y fa o pm cd doc dV kV ho hd hcd hD hmg hg args vals as hpre hlay hrd hwl hlo;obtain rfl:dV=.none:=Dflts.none hD hdf;obtain rfl:kV=.none:=Dflts.noKw hD;obtain ⟨a,vs,ns,rfl,rfl,hobj,hints,hlen⟩:=Nf hn hpre hwl;refine enter_call (codeAny_mono (call w s₀ s₁ mg mb fa o pm cd doc a vs ns G Y ho (fd_plain hd) hcd hmg hobj hints hlen hg) fun r s' hq=>?_);obtain ⟨rfl,h2,h3,h4⟩:=hq;exact ⟨.inl ⟨.bool true,.bool true,[],rfl,fun _=>rfl,.bool true,Ng l _,fun _=>⟨List.Pairwise.nil,fun _ hm=>(nomatch hm)⟩⟩,h2,h3,h4⟩
end Att
namespace L2
open PySem PySem.Spec PyProof.Rows
theorem yh:∀ {vs:List Value}{ns:List Int},IntsAre vs ns->Vals (ns.map V.int) vs
 | _,_,.nil=>.nil
 | _,_,.cons n t h=>.cons ⟨t,rfl⟩ (yh h)
inductive Q9 (H:Hp) (b:Addr):Prop
 | mk (o:Obj) (xs:List V) (_:H b=some (.Gb o (.lst xs))):Q9 H b
def Only (H:Hp):Prop:=∀ b,H b=none\/Q9 H b
theorem Qa {mb:Str->Option Value}{k:Nat}{fa:Addr}{s₁:Shared}{ns:List Int}
  (KX:K.In s₁.heap) (hns:s₁.heap.Ns mainGlobals mg) (hb:s₁.heap.Ns builtinsNs mb) (hbb:∀ x:Str,x≠"__name__"->mb x=bootBuiltins x) (hlim:s₁.heap.NoLimit) (hg:s₁.gens=#[])
  (ha:s₁.heap.get? a=some { cls:=.type "list",data:=.seq vs.toArray }) (hi:IntsAre vs ns) (hl:ns.length<=sizeLine) (hr:fM k callerA)
  (F:∀ base:Heap,K.In base->base.Ns mainGlobals mg->bw P w K mg base CX k fa fd [x] sp) (hbind:∀ (s:Shared) (u:Value),BindsTo s fd ⟨[u],[]⟩ [(x,u)])
  (hsp:∀ H:Hp,Only H->aZ K H a (ns.map V.int)->sp [.ref a] H (fun v _=>v=.bl true) fun _ _ _=>False)
  (hCX:∀ H e s',CX [] H s₁ (fun _ _ _=>False) e s'->False) :
  codeAny (model P w) callerA (.call (.ref fa) ⟨[.ref a],[]⟩) (fun r s'=>r=.ok (.ret (.bool true))/\OldK s₁.heap s'.heap/\s'.os=s₁.os/\AllBare s'.gens) s₁:=by
 have rv:=yh hi;have lenV:=hi.length;have core:∀ H:Hp,Only H->aZ K H a (ns.map V.int)->lV P w H s₁.heap->(∀ b,H b≠none->b=a)->(H a≠none->K.lookup a=none) ->
   codeAny (model P w) callerA (.call (.ref fa) ⟨[.ref a],[]⟩) (fun r s'=>r=.ok (.ret (.bool true))/\OldK s₁.heap s'.heap/\s'.os=s₁.os/\AllBare s'.gens) s₁:=by
  intro H hO hS hok hA hK;have JB:∀ {b:Addr}{o:Obj},s₁.heap.get? b=some o->H b=none->(zR s₁.heap H).get? b=some o:=fun e n=>Om e n;have noA:∀ {b:Addr}{o:Obj}{es:Array DictEntry}{ep:Nat},s₁.heap.get? b=some o->o.data=.dict es ep->H b=none:=fun {b o es ep} e d=>by
   cases q:H b with
   | none=>rfl
   | some u =>
    have e':b=a:=hA b (by rw [q];simp);subst e';rw [ha] at e;cases e;have d':Data.seq vs.toArray _=Data.dict es ep:=d;cases d'
  have nsK:∀ {b:Addr}{m:Str->Option Value},s₁.heap.Ns b m->(zR s₁.heap H).Ns b m:=fun {b m} ⟨o,es,ep,e,d,r⟩=>⟨o,es,ep,JB e (noA e d),d,r⟩;have hKb:K.In (zR s₁.heap H):=fun b o e=>JB (KX b o e) (by
   cases q:H b with
   | none=>rfl
   | some u =>
    have e':b=a:=hA b (by rw [q];simp);subst e';rw [hK (by rw [q];simp)] at e;cases e)
  have hM:Mod K mg (zR s₁.heap H):=⟨hKb,nsK hns,⟨mb,nsK hb,hbb⟩,let ⟨mc,h1,h2⟩:=hlim;⟨mc,nsK h1,h2⟩⟩
  have e0:Gr P w K mg (zR s₁.heap H) callerA [] s₁ H:=⟨rfl,hM,fun b o e=>Ut e,Nat.le_of_eq (Mz _ _),trivial,fun b hb=>absurd (show b∈([]:List Addr) from hb) 0x5,hok,.of_eq hg⟩
  refine codeAny_mono ((F _ hKb (nsK hns)).run callerA [] s₁ H ⟨[.ref a],[]⟩ [.ref a] [.ref a] _ _ hr e0 (hbind s₁ (.ref a)) (.cons rfl .nil) (hsp H hO hS)) fun r s' h=>?_;cases r with
  | error e=>exact (hCX H e s' h).elim
  | ok fl =>
   cases fl with
   | next=>exact False.elim h
   | brk=>exact False.elim h
   | cont=>exact False.elim h
   | ret u =>
    obtain ⟨v,H',os,bare,un,hok',r',q⟩:=h;have q':v=.bl true:=q;subst q';obtain rfl:u=Value.bool true:=r';refine ⟨rfl,OldK.of_keep fun b o e=>?_,os,bare⟩;cases q:H b with
    | none=>exact un.keep b o e q (by intro z;exact absurd (show b∈([]:List Addr) from z) 0x5) 0x5
    | some u =>
     rcases hO b with z | ⟨ob,xs,z⟩
     ·rw [q] at z;cases z
     ·have z2:=un.oV b ob _ z;obtain ⟨e1,_⟩:=hok b _ z;obtain ⟨e2,_⟩:=hok' b _ z2;rw [e] at e1;cases e1;exact e2
 cases hk:K.lookup a with
 | some o =>
  have e:=KX a o hk;rw [ha] at e;cases e;refine core (fun _=>none) (fun _=>.inl rfl) (.inr ⟨_,vs.toArray,_,hk,rfl,rfl,rfl,by rw [List.size_toArray,lenV];exact hl,by simpa using rv⟩) (fun b u z=>by have z':(none:Option HO)=some u:=z;cases z') (fun b z=>absurd rfl z) fun z=>absurd rfl z
 | none =>
  refine core (fun b=>if b=a then some (.Gb { cls:=.type "list",data:=.seq vs.toArray } (.lst (ns.map V.int))) else none) (fun b=>?_) (.inl (.inr ⟨{ cls:=.type "list",data:=.seq vs.toArray },if_pos rfl⟩)) (fun b u z=>?_) (fun b z=>?_) fun _=>hk
  ·by_cases hb:b=a
   ·exact .inr ⟨_,_,if_pos hb⟩
   ·exact .inl (if_neg hb)
  ·by_cases hb:b=a
   ·have z':=(if_pos hb).symm.trans z;cases z';subst hb;exact ⟨ha,by rw [bV];exact hl,vs,_,rv,ha⟩
   ·have z':=(if_neg hb).symm.trans z;cases z'
  ·by_cases hb:b=a
   ·exact hb
   ·exact absurd (if_neg hb) z
theorem UJ {l:PySem.W.OpenLaw}{k:Nat}{q:Program}{d:DefRec}{K:Params->PySem.W.Frag}{CX:World->BX}{sp:World->Sp}
  (hn:l.most=some n) (hn2:n<=sizeLine) (hdf:d.params.defaults=[]) (hr:fM k callerA)
  (hY:∀ (w:World) (h:Heap),YP w h->(K w.params).In h)
  (F:∀ (w:World) (mg:Str->Option Value) (fa:Addr) (h:Heap),(K w.params).In h->h.Ns mainGlobals mg->mg d.name=some (.ref fa) ->
   ∃ fd:FuncData,(∀ (s:Shared) (u:Value),BindsTo s fd ⟨[u],[]⟩ [(x,u)]) /\
    ∀ base:Heap,(K w.params).In base->base.Ns mainGlobals mg->bw l.prog w (K w.params) mg base (CX w) k fa fd [x] (sp w))
  (hsp:∀ (w:World) (H:Hp) (a:Addr) (ns:List Int),ns.length<=n->Only H->aZ (K w.params) H a (ns.map V.int)->sp w [.ref a] H (fun v _=>v=.bl true) fun _ _ _=>False)
  (hCX:∀ (w:World) (H:Hp) (s:Shared) (e:Value) (s':Shared),CX w [] H s (fun _ _ _=>False) e s'->False) :
  PySem.W.WalkO q loose XP YP l.row.toRowW d [] (fun f vs=>PySem.call f vs):=by
 refine Att.Cp hn hdf fun w s₀ s₁ mg mb fa o pm cd doc a vs ns G Y ho hd hcd hmg hobj hints hlen hg=>?_;have KX:=hY w _ Y;obtain ⟨fd,hb,hF⟩:=F w mg fa _ KX G.T.g hmg;exact Qa KX G.T.g G.T.b G.T.builtins G.T.nolimit hg hobj hints (Nat.le_trans hlen hn2) hr hF hb (fun H hO hS=>hsp w H a ns hlen hO hS) fun H e s'=>hCX w H s₁ e s'
def inClass (s:Stmt) (j:Nat):Stmt:=match s with
 | .ClassDef _ _ _ body _ _ _ _ _ _ _=>body.getD j (.Pass ⟨0,0,0,0⟩)
 | _=>.Pass ⟨0,0,0,0⟩
def bh (s:Stmt):Arguments:=match s with
 | .FunctionDef _ a _ _ _ _ _ _ _ _=>a
 | _=>{ posonlyargs:=[],args:=[],vararg:=none,kwonlyargs:=[],kw_defaults:=[],kwarg:=none,defaults:=[] }
def aY (s:Stmt):List Stmt:=match s with
 | .FunctionDef _ _ b _ _ _ _ _ _ _=>b
 | _=>[]
def aC (s:Stmt):Scope:=match s with
 | .FunctionDef _ _ _ _ _ _ sc _ _ _=>sc
 | _=>{ kind:=.function,names:=[],isGenerator:=false,isCoroutine:=false }
abbrev dF:BX:=fun _ _ _ _ _ _=>False
abbrev E0:XK:=fun _ _ _=>False
theorem bL:Passes dF X E0:=fun _ _ _ _ _ _ _ h=>h.elim
structure iR (K:PySem.W.Frag) (x qual:Str) (st:Stmt) (f:Addr) (fd:FuncData):Prop where
 ex:∃ (oc:Value) (od:Option Addr) (kV doc pm:Value) (an:Option Addr) (cdv ct:Value) (osl:Array (Option Value)),
  fd=PySem.W.fnOf x qual (bh st) (aY st) (aC st) .none kV doc pm an cdv ct/\K.lookup f=some ⟨oc,od,.func fd,osl⟩/\PySem.W.codeIn K cdv qual=true
 kp:PySem.W.keepIn K (.ref f)=true
theorem iR.ok {k:Nat} (F:iR K x qual st f fd) (S:bB N ps (aC st)) (len:∀ vs H Q E,sp vs H Q E->vs.length=ps.length)
  (hbody:∀ (cdv:Value) (A:Around) (outer:List Env) (s:Shared) (H:Hp) (vs:List V) (Q:VK) (E:XK),fM k (A.deeper (envOfC qual (aC st) s.heap.objs.size f cdv))->sp vs H Q E ->
   ∃ t,BW (qd dF P w K mg base N qual (aC st) f cdv A outer s H E).nox (aY st) t/\t { nx:=fun _ H'=>Q .non H',rt:=Q } (start N vs) H):bw P w K mg base dF (k+1) f fd ps sp:=by
 obtain ⟨oc,od,kV,doc,pm,an,cdv,ct,osl,rfl,lk,hcd⟩:=F.ex;refine Jt lk hcd S len fun A outer s H vs Q E hr hsp=>?_;obtain ⟨t,h,q⟩:=hbody cdv A outer s H vs Q E hr hsp;exact ⟨t,h.nox,q⟩
theorem iR.binds (F:iR K x qual st f fd)
  (h:∀ (kV doc pm:Value) (an:Option Addr) (cdv ct:Value) (us:List Value),us.length=ps.length->bindArgs (PySem.W.fnOf x qual (bh st) (aY st) (aC st) .none kV doc pm an cdv ct) ⟨us,[]⟩=pure (ps.zip us)):Binds K fd ps []:=by
 obtain ⟨oc,od,kV,doc,pm,an,cdv,ct,osl,rfl,lk,hcd⟩:=F.ex;exact .all (h kV doc pm an cdv ct)
theorem bK {oc:Value}{an:Option Addr}{osl:Array (Option Value)}{kV doc pm cdv ct:Value} (l:K.lookup f=some ⟨oc,od,.func (PySem.W.fnOf x qual (bh st) (aY st) (aC st) .none kV doc pm an cdv ct),osl⟩)
  (c:PySem.W.codeIn K cdv qual=true) (k:PySem.W.keepIn K (.ref f)=true):iR K x qual st f (PySem.W.fnOf x qual (bh st) (aY st) (aC st) .none kV doc pm an cdv ct):=⟨⟨oc,od,kV,doc,pm,an,cdv,ct,osl,rfl,l,c⟩,k⟩
theorem iZ (h:n<=1000):n<sizeLine:=Nat.lt_of_le_of_lt h 0x8
theorem pv (i:Nat)  (hN:X.N[i]?=some x:=by rfl) (hv:Vis X.env.scope x:=by first | exact Or.inl rfl | exact Or.inr 0x3 | exact Or.inr (Or.inr rfl)) (hd:0x17=false:=by decide)
  (hcd:(x==("__classdict__" : Str))=false:=by decide):PE X (.Name x pos) (Yw i):=Ot hN hv hd hcd
theorem bZ {A:Prop} (h:B):if false=true then A else B:=by
 rw [if_neg Bool.false_ne_true];exact h
theorem bU {A:Prop} (h:A):if true=true then A else B:=by
 rw [if_pos rfl];exact h
theorem bG {c A:Prop} [Decidable c] (h1:c->A) (h2:¬ c->B):if c then A else B:=by
 by_cases h:c
 ·rw [if_pos h];exact h1 h
 ·rw [if_neg h];exact h2 h
theorem yj {c A:Prop} [Decidable c] (hc:c) (h:B):if (!decide c)=true then A else B:=by
 rw [decide_eq_true hc];exact bZ h
def Same (H H':Hp):Prop:=∀ b o,H b=some o->H' b=some o
theorem Same.refl (H:Hp):Same H H:=fun _ _ h=>h
theorem Same.trans (a:Same H H1) (b:Same H1 H2):Same H H2:=fun c o h=>b c o (a c o h)
theorem Same.free (e:Same H H')  (h:H' l=Option.none):H l=Option.none:=by
 cases q:H l with
 | none=>rfl
 | some o =>
  rw [e l o q] at h;cases h
theorem Same.seq (e:Same H H') (h:aZ K H a xs):aZ K H' a xs:=by
 rcases h with (h | ⟨o,h⟩) | h
 ·exact .inl (.inl (e _ _ h))
 ·exact .inl (.inr ⟨o,e _ _ h⟩)
 ·exact .inr h
def iD (env:Env):List (Str×NameKind)->List (Str×Addr)->List (Str×Addr)
 | [],cs=>cs
 | (n,k)::r,cs=>iD env r (if k==.free then (n,(env.cells.lookup n).getD 0)::cs else cs)
theorem yq:∀ (l:List (Str×NameKind)) (cs:List (Str×Addr)) (p:Str×Addr),p∈iD env l cs->p∈cs\/((p.1,NameKind.free)∈l/\p.2=(env.cells.lookup p.1).getD 0)
 | [],_,_,h=>.inl h
 | (n,k)::r,cs,p,h=>by
  rcases yq r _ p h with q | ⟨q,e⟩
  ·by_cases hk:k=.free
   ·subst hk;rw [if_pos (by rfl)] at q;rcases List.mem_cons.mp q with z | z
    ·subst z;exact .inr ⟨List.mem_cons_self,rfl⟩
    ·exact .inl z
   ·rw [if_neg (by simpa using hk)] at q;exact .inl q
  ·exact .inr ⟨lR _ q,e⟩
theorem yr:∀ (l:List (Str×NameKind)) (cs:List (Str×Addr)) (p:Str×Addr),p∈cs->p∈iD env l cs
 | [],_,_,h=>h
 | (n,k)::r,cs,p,h=>by
  refine yr r _ p ?_
  split
  ·exact lR _ h
  ·exact h
theorem yt:∀ (l:List (Str×NameKind)) (cs:List (Str×Addr)),(x,NameKind.free)∈l->∃ c,(x,c)∈iD env l cs
 | [],_,h=>nomatch h
 | (n,k)::r,cs,h=>by
  rcases List.mem_cons.mp h with z | z
  ·cases z;exact ⟨_,yr r _ _ (by rw [if_pos (by rfl)];exact List.mem_cons_self)⟩
  ·exact yt r _ z
theorem oN {α:Type}:∀ {l:List (Str×α)}{c:α},(x,c)∈l->∃ c',l.lookup x=some c'
 | [],_,h=>nomatch h
 | (n,d)::r,c,h=>by
  by_cases e:x=n
  ·subst e;exact ⟨d,by simp [List.lookup_cons]⟩
  ·have:(x==n)=false:=by simpa using e
   simp only [List.lookup_cons,this];rcases List.mem_cons.mp h with z | z
   ·cases z;exact absurd rfl e
   ·exact oN z
theorem vd:∀ (l:List (Str×NameKind)) (cs:List (Str×Addr)),(∀ x∈l,x.2=.free->(env.cells.lookup x.1).isSome=true) ->
  (forIn l cs fun (x:Str×NameKind) (r:List (Str×Addr))=>(match x with
   | (name,kind)=>if (kind==NameKind.free)=true then do let a <- cellOf env name;pure (ForInStep.yield ((name,a)::r)) else pure (ForInStep.yield r):Sem (ForInStep (List (Str×Addr)))))=pure (iD env l cs)
 | [],cs,_=>rfl
 | (n,k)::r,cs,h=>by
  rw [List.forIn_cons];have ih:=fun cs'=>vd r cs' fun x hx=>h x (lR _ hx)
  by_cases hk:k=.free
  ·subst hk;obtain ⟨a,ha⟩:=Option.isSome_iff_exists.mp (h (n,.free) List.mem_cons_self rfl);have hca:cellOf env n=pure a:=by unfold cellOf;rw [ha]
   have hn:iD env ((n,.free)::r) cs=iD env r ((n,a)::cs):=by
    show iD env r (if (NameKind.free==NameKind.free)=true then (n,(env.cells.lookup n).getD 0)::cs else cs)=_
    rw [if_pos (by rfl),ha];rfl
   rw [hn];simp only [beq_self_eq_true,if_true,hca,pure_bind];exact ih _
  ·have hb:(k==NameKind.free)=false:=by simpa using hk
   have hn:iD env ((n,k)::r) cs=iD env r cs:=by
    show iD env r (if (k==NameKind.free)=true then (n,(env.cells.lookup n).getD 0)::cs else cs)=_
    rw [if_neg (by simp [hb])]
   rw [hn];simp only [hb,Bool.false_eq_true,if_false,pure_bind];exact ih _
theorem tU (h:∀ x∈scope.names,x.2=.free->(env.cells.lookup x.1).isSome=true):closureFor scope env=pure (iD env scope.names []):=by
 simp only [closureFor];have:=vd (env:=env) scope.names [] h
 first
  | (rw [this];rfl)
  | (erw [this];rfl)
  | (exact (congrArg (· >>= pure) this))
theorem eU {l:List (Str×NameKind)} (h:∀ x∈l,x.2=.free->(env.cells.lookup x.1).isSome=true) {c:Addr} (e:(iD env l []).lookup x=some c):env.cells.lookup x=some c:=by
 rcases yq l [] (x,c) (PySem.mem_of_lookup e) with q | ⟨q,e'⟩
 ·exact nomatch q
 ·obtain ⟨a,ha⟩:=Option.isSome_iff_exists.mp (h _ q rfl);have ha':env.cells.lookup x=some a:=ha;have e2:c=(env.cells.lookup x).getD 0:=e';rw [ha'] at e2;rw [ha',e2];rfl
theorem mj {k':NameKind} (h:(relabel scope env).names.lookup x=some k'):∃ k,scope.names.lookup x=some k/\(k'=k\/(k=.free/\k'=.cell)):=by
 unfold relabel at h;dsimp only at h;generalize scope.names=l at h ⊢
 induction l with
 | nil=>simp at h
 | cons p r ih =>
  obtain ⟨n,k⟩:=p;rw [List.map_cons] at h
  by_cases e:x=n
  ·subst e;refine ⟨k,by simp [List.lookup_cons],?_⟩
   by_cases hc:(k==NameKind.free&&env.scope.kind==.function&&env.kindOf x==some .cell)=true
   ·simp only [hc,if_true,List.lookup_cons,beq_self_eq_true] at h;have hk:k=.free:=by
     have:=(Bool.and_eq_true_iff.mp (Bool.and_eq_true_iff.mp hc).1).1
     simpa using this
    exact .inr ⟨hk,(Option.some.inj h).symm⟩
   ·simp only [hc,if_false,List.lookup_cons,beq_self_eq_true,Bool.false_eq_true] at h;exact .inl (Option.some.inj h).symm
  ·have hb:(x==n)=false:=by simpa using e
   have h':List.lookup x (List.map (fun x=>match x with | (n,k)=>if (k==NameKind.free&&env.scope.kind==ScopeKind.function&&env.kindOf n==some NameKind.cell)=true then (n,NameKind.cell) else (n,k)) r)=some k':=by
    by_cases hc:(k==NameKind.free&&env.scope.kind==.function&&env.kindOf n==some .cell)=true
    ·simpa only [hc,if_true,List.lookup_cons,hb] using h
    ·simpa only [hc,if_false,List.lookup_cons,hb,Bool.false_eq_true] using h
   obtain ⟨k0,e0,q⟩:=ih h';exact ⟨k0,by simp only [List.lookup_cons,hb];exact e0,q⟩
theorem Ab (h:scope.names.lookup x=some .free):(relabel scope env).names.lookup x=some .cell\/(relabel scope env).names.lookup x=some .free:=by
 unfold relabel;dsimp only;generalize scope.names=l at h ⊢
 induction l with
 | nil=>simp at h
 | cons p r ih =>
  obtain ⟨n,k⟩:=p;rw [List.map_cons]
  by_cases e:x=n
  ·subst e;simp only [List.lookup_cons,beq_self_eq_true] at h;cases h;generalize List.map _ r=r'
   show List.lookup x ((if (NameKind.free==NameKind.free&&env.scope.kind==.function&&env.kindOf x==some .cell)=true then (x,NameKind.cell) else (x,NameKind.free))::r')=_\/List.lookup x ((if (NameKind.free==NameKind.free&&env.scope.kind==.function&&env.kindOf x==some .cell)=true then (x,NameKind.cell) else (x,NameKind.free))::r')=_
   by_cases hc:(NameKind.free==NameKind.free&&env.scope.kind==.function&&env.kindOf x==some .cell)=true
   ·rw [if_pos hc];exact .inl (by simp [List.lookup_cons])
   ·rw [if_neg hc];exact .inr (by simp [List.lookup_cons])
  ·have hb:(x==n)=false:=by simpa using e
   simp only [List.lookup_cons,hb] at h
   by_cases hc:(k==NameKind.free&&env.scope.kind==.function&&env.kindOf n==some .cell)=true
   ·simp only [hc,if_true,List.lookup_cons,hb];exact ih h
   ·simp only [hc,if_false,List.lookup_cons,hb,Bool.false_eq_true];exact ih h
def Oh (X:Cx) (N':List Str) (scope:Scope) (s:Shared) (H:Hp) (fp:List Addr) (C:Addr):Cx where
 prog:=X.prog
 w:=X.w
 K:=X.K
 mg:=X.mg
 base:=X.base
 A:=X.A
 N:=N'
 s₀:=s
 H₀:=H
 env:=compEnvC scope (iD X.env scope.names []) C X.env
 outer:=X.stack
 stack:=X.stack
 ex:=fp
 fn:=fun _=>false
 calm:=X.calm
 pn:=[]
 xe:=fun _ _=>False
structure fP (N:List Str) (sc scope:Scope) (ts fr:List Str) (ix:List Nat):Prop where
 kind:scope.kind=.function
 Qc:∀ y∈scope.names,y.2≠.cell
 nms:∀ y∈scope.names,y.2=.local->scope.names.lookup y.1=some .local
 frs:∀ y∈scope.names,y.2=.free->sc.names.lookup y.1=some .cell\/sc.names.lookup y.1=some .free
 cap:fr.map some=ix.map fun i=>N[i]?
 capf:∀ x∈fr,scope.names.lookup x=some .free
def tV (σ:St) (k:Nat) (ix:List Nat):St:=List.replicate k none++ix.map fun i=>(σ[i]?).join
def Kp (σ σ':St):Prop:=∀ (j:Nat) (v:V),σ[j]?=some (some v)->σ'[j]?=some (some v)
theorem Kp.refl (σ:St):Kp σ σ:=fun _ _ h=>h
theorem Kp.set {σ1:St}{x:Option V} (h:σ[i]?=some none) (q:Kp σ σ1):Kp σ (σ1.set i x):=fun j v e=>by
 by_cases hj:j=i
 ·subst hj;rw [h] at e;cases e
 ·rw [List.getElem?_set_ne (Ne.symm hj)];exact q j v e
def PTs (X:Cx) (ifs:List Expr) (t:TT):Prop :=
 ∀ (pins:List 0x18) (s:Shared) (σ:St) (H:Hp) (Q:Bool->Hp->Prop),Inv X pins σ H s->t σ H Q ->
  wpAny 0x7 X.A (forIn ifs true fun c r=>if r=true then do let ok <- isTrue c X.env (eval c X.env);pure (ForInStep.yield ok) else pure (ForInStep.yield r)) (TP X pins σ Q) X.xe s
def Xj:TT:=fun _ H Q=>Q true H
theorem dN {A B:Hp->Prop} (h:A H):Xj σ H (fun b H5=>if b=true then A H5 else B H5):=by
 show if true=true then A H else B H
 rw [if_pos rfl];exact h
theorem fJ:PTs X [] Xj:=fun _ _ _ H _ I h=>wpAny_tests_nil ⟨H,I,h⟩
theorem UL {c:Expr}{t:TT} (h:PT X c t):PTs X [c] t:=fun pins s σ H Q I q=>wpAny_tests_one (h pins s σ H Q I q)
def oY (J:It) (D:Addr) (σ:St) (k:Nat) (ix:List Nat) (g:TG) (tt:TT) (te:TE) (Q:VK) (H1:Hp):Prop:=∃ W:Nat->Nat->List V->Hp->Prop,(∃ m,W 0 m [] (upd H1 D (.lst []))) /\
 ∀ i m ys H2,W i m ys H2->H2 D=some (.lst ys)/\((J.stop i H2/\Q (.ref D) H2)\/(J.go i H2/\∃ N:List V->Hp->Prop,(∀ zs H',N zs H'->∃ m',m'<m/\W (i+1) m' zs H')/\∀ x H3,J.xR i H2 x H3->g x (tV σ k ix) H3 fun σ2 H4=>Kp (tV σ k ix) σ2 /\
  tt σ2 H4 fun b H5=>if b=true then te σ2 H5 fun y H6=>H6 D=some (.lst ys)/\ys.length<sizeLine/\N (ys++[y]) (upd H6 D (.lst (ys++[y]))) else N ys H5))
def Qd (k:Nat) (ix:List Nat) (wi:TI) (g:TG) (tt:TT) (te:TE):TE:=fun σ H Q=>wi σ H fun J H1=>∀ D,H1 D=none->oY J D σ k ix g tt te Q H1
section
variable {elt:Expr}{ifs:List Expr}{fr:List Str}
theorem Qe {k:Nat} (h:(tV σ k ix)[j]?=some (some v)):∃ a i,j=k+a/\ix[a]?=some i/\σ[i]?=some (some v):=by
 unfold tV at h
 by_cases hj:j<k
 ·rw [List.getElem?_append_left (by simpa using hj),List.getElem?_replicate,if_pos hj] at h;cases h
 ·rw [List.getElem?_append_right (by simpa using hj),List.length_replicate,jT] at h;cases e:ix[j - k]? with
  | none=>rw [e] at h;cases h
  | some i =>
   rw [e] at h;refine ⟨j - k,i,by lia,e,?_⟩;have h':(σ[i]?).join=some v:=Option.some.inj h;cases e2:σ[i]? with
   | none=>rw [e2] at h';cases h'
   | some o=>rw [e2] at h';exact congrArg some h'
theorem Cq {k:Nat}:(tV σ k ix).length=k+ix.length:=by unfold tV;simp
theorem Qf {tk:Nat}{D:Addr} (S:fP X.N X.env.scope scope ts fr ix) (I:Inv X pins σ H s) (hf:∀ b∈fp,m7 X pins H b) (hfp:∀ b∈fp,b<s.heap.objs.size)
  (hD:s.heap.objs.size<=D) (hC:s.heap.objs.size<=C) (hDC:D≠C) (hk:∀ b o,s.heap.get? b=some o->h1.get? b=some o) (ho:h1.get? D=some { cls:=.type "list",data:=.seq #[] }) {m0:Str->Option Value} (hn:h1.Ns C m0) :
  Inv 0x30 [] (tV σ ts.length ix) (upd H D (.lst [])) { s with heap:=h1,toks:=tk }:=by
 have hcl:∀ x∈scope.names,x.2=.free->(X.env.cells.lookup x.1).isSome=true:=fun x hx hfx=>by
  obtain ⟨c,hc⟩:=I.ok.has x.1 (S.frs x hx hfx);rw [hc];rfl
 have a1L:∀ b,s.heap.objs.size<=b->∀ x c,X.env.cells.lookup x=some c->c≠b:=fun b hb x c e z=>by
  obtain ⟨v,q⟩:=I.cell x c e;exact absurd (Nat.lt_of_lt_of_le q.lt (by rw [z];exact hb)) (Nat.lt_irrefl _)
 have hasC:∀ x,scope.names.lookup x=some .free->∃ c,(iD X.env scope.names []).lookup x=some c/\X.env.cells.lookup x=some c:=fun x hx=>by
  obtain ⟨c,hc⟩:=yt (env:=X.env) scope.names [] (PySem.mem_of_lookup hx);obtain ⟨c',hc'⟩:=oN hc;exact ⟨c',hc',eU hcl hc'⟩
 have hfrs:∀ b∈fp,b∉frs X.stack:=fun b hb z=>by
  obtain ⟨_,f1,f2,_⟩:=hf b hb;rcases List.mem_cons.mp (I.uO b z) with e | e
  ·exact f1 e
  ·exact f2 e
 have hCn:H C=none:=I.hok.fresh hC;have hDn:H D=none:=I.hok.fresh hD;refine ⟨⟨I.ok.mod,?_,I.ok.glob,I.ok.blt,hC,fun x y c h1 h2=>?_,fun x hx=>?_,fun x c hfx=>?_,I.ok.hd,I.ok.frames,.inl rfl,fun b hb=>⟨?_,fun x c e=>?_⟩,I.bs,Nat.le_trans I.ok.Oo I.sz,fun b o e hb=>?_,hfrs,I.stack,I.zT⟩,
  rfl,I.bare,Un.laid hk hD hDn,⟨m0,hn,fun i x v e1 e2 e3=>?_⟩,fun x c e=>?_,?_,fun x c e=>?_,fun p hp=>?_,I.hok.laid hk hD ⟨?_,[],0,.nil,ho⟩,?_⟩
 ·show (relabel scope X.env).kind=_
  exact S.kind
 ·exact I.ok.inj x y c (eU hcl h1) (eU hcl h2)
 ·have hx':(relabel scope X.env).names.lookup x=some .cell\/(relabel scope X.env).names.lookup x=some .free:=hx;have hfree:scope.names.lookup x=some .free:=by
   rcases hx' with q | q
   ·obtain ⟨k,e,z⟩:=mj q;rcases z with z | ⟨z,_⟩
    ·subst z;exact absurd rfl (S.Qc _ (PySem.mem_of_lookup e))
    ·rw [e,z]
   ·obtain ⟨k,e,z⟩:=mj q;rcases z with z | ⟨_,z⟩
    ·rw [e,<- z]
    ·cases z
  obtain ⟨c,hc,_⟩:=hasC x hfree;exact ⟨c,hc⟩
 ·exact absurd (show false=true from hfx) 0x8
 ·exact Nat.ne_of_lt (Nat.lt_of_lt_of_le (hfp b hb) hC)
 ·exact (hf b hb).2.2.2.2.1 x c (eU hcl e)
 ·have f:=hf b hb;rcases f.2.2.2.1 with z | z
  ·exact I.ok.Ce b o e z
  ·exact absurd (Nat.lt_of_lt_of_le (Heap.lt_size (I.ok.bs b o e).1) z) (Nat.lt_irrefl _)
 ·obtain ⟨a,i',hj,hi,hσ⟩:=Qe e2;subst hj;have e1':(ts++fr)[ts.length+a]?=some x:=e1;rw [List.getElem?_append_right 0x1,Nat.add_sub_cancel_left] at e1';have hN:X.N[i']?=some x:=by
   have q:=congrArg (fun l=>l[a]?) S.cap;simp only [jT,e1',hi] at q;exact (Option.some.inj q).symm
  have hfree:=S.capf x (lU e1');have hk':=S.frs (x,.free) (PySem.mem_of_lookup hfree) rfl;obtain ⟨m,hnm,hl⟩:=I.loc;obtain ⟨u,r,lk⟩:=hl i' x v hN hσ (.inr hk');refine ⟨u,r,?_⟩;obtain ⟨c,hc,hc'⟩:=hasC x hfree;rcases lk with ⟨z,_⟩ | ⟨_,c2,e4,z⟩
  ·have z':X.env.scope.names.lookup x=some .local:=z;rcases hk' with y | y
   ·have y':X.env.scope.names.lookup x=some .cell:=y;rw [z'] at y';cases y'
   ·have y':X.env.scope.names.lookup x=some .free:=y;rw [z'] at y';cases y'
  ·have hcc:c2=c:=Option.some.inj (e4.symm.trans hc');rw [hcc] at z;obtain ⟨o,ho2,hd2⟩:=z;exact .inr ⟨Ab hfree,c,hc,o,hk _ _ ho2,hd2⟩
 ·obtain ⟨v,o,ho2,hd2⟩:=I.cell x c (eU hcl e);exact ⟨v,o,hk _ _ ho2,hd2⟩
 ·show upd H D (.lst []) C=none
  rw [aG (Ne.symm hDC)];exact hCn
 ·show upd H D (.lst []) c=none
  rw [aG (a1L D hD x c (eU hcl e))];exact I.iM x c (eU hcl e)
 ·exact absurd (show p∈([]:List 0x18) from hp) 0x5
 ·exact Nat.zero_le _
 ·have e:=congrArg List.length S.cap;simp only [bV] at e;rw [Cq]
  show _=(ts++fr).length
  rw [jA,e]
theorem yu {Q:VK}{use:Option (Value->Sem Unit)}{Qv:Value->Shared->Prop} (hc:X.calm=true) (S:fP X.N X.env.scope scope ts fr ix) (hi:PI X tg iter wi)
  (hb:∀ s H fp C,PG 0x30 tg g/\PTs 0x30 ifs tt/\PE 0x30 elt te)
  (hs:∀ x,foldedSetIterable iter X.env x=pure x) (I:Inv X pins σ H s) (h:Qd ts.length ix wi g tt te σ H Q)
  (fin:∀ (D C:Addr) (H':Hp) (s':Shared),Inv X pins σ H' s'->m7 X pins H' C->(∃ m,s'.heap.Ns C m)->Q (.ref D) H'->compPost 0x7 X.A X.xe use Qv (.ref D) C (.ok .next) s') :
  wpAny 0x7 X.A (comprehension 0x2B scope X.env (firstIterPos [⟨tg,iter,ifs,0⟩] pos) (newList []) false (eval iter X.env) use) Qv X.xe s:=by
 have hcl:∀ x∈scope.names,x.2=.free->(X.env.cells.lookup x.1).isSome=true:=fun x hx hfx=>by
  obtain ⟨c,hc⟩:=I.ok.has x.1 (S.frs x hx hfx);rw [hc];rfl
 refine wpAny_comprehension_free (use:=use) rfl hs (tU hcl) S.kind S.nms (cT (hi pins s σ H _ I h) fun v s1 h1=>cT h1 fun itv s2 h2=>?_);obtain ⟨it,fp,tn,J,H2,rfl,I2,T,st2,f2,hW⟩:=h2;refine wpAny_newObj_type (wpAny_newFunctionEnv S.Qc (by intro y hy;simp at hy) (fun h₁ hns₁ hsb₁=>?_) S.kind);dsimp only at hns₁ hsb₁ ⊢;generalize hH2:s2.heap.push { cls:=.type "list",dict:=none,data:=.seq ([]:List Value).toArray }=G2 at hns₁ hsb₁ ⊢;have hCs:G2.objs.size=s2.heap.objs.size+1:=by rw [<- hH2,Heap.size_push]
 have hDC:s2.heap.objs.size≠G2.objs.size:=by rw [hCs];exact Nat.ne_of_lt (Nat.lt_succ_self _)
 have hCle:s2.heap.objs.size<=G2.objs.size:=by rw [hCs];exact Nat.le_succ _
 have old:∀ b o,s2.heap.get? b=some o->h₁.get? b=some o:=fun b o e=>hsb₁.extBut b o (by rw [hCs];exact Nat.ne_of_lt (Nat.lt_succ_of_lt (Heap.lt_size e))) (Heap.get?_push_of_some _ (hH2 ▸ Heap.get?_push_of_some _ e));have hacc:h₁.get? s2.heap.objs.size=some { cls:=.type "list",data:=.seq #[] }:=hsb₁.extBut _ _ hDC (Heap.get?_push_of_some _ (hH2 ▸ Heap.get?_push_size _ rfl));have hfp:∀ b∈fp,b<s2.heap.objs.size:=fun b hb'=>by
  obtain ⟨o,e,_⟩:=T.obj _ _ st2 b hb';exact Heap.lt_size e
 have IC:Inv (Oh X (ts++fr) scope s2 H2 fp G2.objs.size) [] (tV σ ts.length ix) (upd H2 s2.heap.objs.size (.lst [])) { s2 with heap:=h₁,toks:=s2.toks+([]:List (Str×Value)).length } :=
  Qf S I2 f2 hfp 0x9 hCle hDC old hacc hns₁
 have st1:tn 0 h₁:=T.keep _ _ _ st2 fun b hb' o e=>old b o e;obtain ⟨W,⟨m0,w0⟩,turn⟩:=hW s2.heap.objs.size I2.fresh;obtain ⟨bg,bt,be⟩:=hb s2 H2 fp G2.objs.size;generalize hX:Oh X (ts++fr) scope s2 H2 fp G2.objs.size=Y at IC bg bt be;have eP:Y.prog=X.prog:=by rw [<- hX];rfl
 have eW:Y.w=X.w:=by rw [<- hX];rfl
 have eK:Y.K=X.K:=by rw [<- hX];rfl
 have eC:Y.calm=true:=by rw [<- hX];exact hc
 have eA:Y.A=X.A:=by rw [<- hX];rfl
 have eE:Y.env=compEnvC scope (iD X.env scope.names []) G2.objs.size X.env:=by rw [<- hX];rfl
 have eX:Y.xe=fun _ _=>False:=by rw [<- hX];rfl
 have stat:∀ {H':Hp},(∀ b∈fp,H' b=none)->∀ b∈fp,m7 Y [] H' b:=fun hn b hb'=>by
  rw [<- hX];have z:=IC.ok;rw [<- hX] at z;refine ⟨hn b hb',(z.exf b hb').1,z.Gg b hb',.inl hb',(z.exf b hb').2,fun p hp=>absurd (show p∈([]:List 0x18) from hp) 0x5⟩
 have fr0:∀ b∈fp,upd H2 s2.heap.objs.size (.lst []) b=none:=fun b hb'=>by rw [aG (Nat.ne_of_lt (hfp b hb'))];exact (f2 b hb').1
 have bot:∀ {α:Type}{t:Sem α}{R:α->Shared->Prop}{E:Value->Shared->Prop}{z:Shared},wpAny (model Y.prog Y.w) Y.A t R Y.xe z->wpAny 0x7 X.A t R E z:=fun {α t R E z} q=>by
  rw [eP,eW,eA,eX] at q;exact wpAny_mono q (fun _ _ y=>y) fun _ _ y=>y.elim
 have loop:codeAny 0x7 X.A (.compLoop 0x2B 0 (.ref it) (.ref s2.heap.objs.size) (compEnvC scope (iD X.env scope.names []) G2.objs.size X.env))
   (compPost 0x7 X.A X.xe use Qv (.ref s2.heap.objs.size) G2.objs.size) { s2 with heap:=h₁,toks:=s2.toks+([]:List (Str×Value)).length }:=by
  rw [<- eE];refine codeAny_loop rfl (fun n s'=>∃ i ys H',Inv Y [] (tV σ ts.length ix) H' s'/\tn i s'.heap/\(∀ b∈fp,H' b=none)/\W i n ys H') (fun n s3 hI=>?_) m0 ⟨0,[],_,IC,st1,fr0,w0⟩;obtain ⟨i,ys,H3,I3,st3,fr3,w3⟩:=hI
  show wpAny _ _ ((compTurn 0x2B 0 (.ref it) (.ref s2.heap.objs.size) Y.env).onRaise (fun x=>do noteFrame x Y.env;theTreesLotGoes x)) _ _ s3
  refine wpAny_noted ?_;rw [compTurn_list];obtain ⟨Cr,hcase⟩:=turn i n ys H3 w3;rcases hcase with ⟨stop,qn⟩ | ⟨go,N,hN,step⟩
  ·have q:=T.done Y eP eW eK eC i [] s3 _ H3 (fun _ _=>False) I3 (stat fr3) st3 stop;rw [eA] at q;refine wpAny_bind (wpAny_standAt (wpAny_bind (wpAny_mono q (fun r s4 ⟨hr,I4⟩=>?_) fun _ _ y=>y.elim)));subst hr;refine wpAny_pure ?_;have b4:Un (frs X.stack) fp H2 H3 s2.heap s4.heap:=by have z:=I4.base;rw [<- hX] at z;exact z
   have ok4:lV X.prog X.w H3 s4.heap:=by have z:=I4.hok;rw [eP,eW] at z;exact z
   have os4:s4.os=s2.os:=by have z:=I4.os;rw [<- hX] at z;exact z
   have I5:Inv X pins σ H3 s4:=I2.call' os4 b4 ok4 I4.bare fun b hb'=>⟨(f2 b hb').2.2.2.1,(f2 b hb').2.1,(f2 b hb').2.2.2.2.1,(f2 b hb').2.2.2.2.2⟩;have fC:H3 G2.objs.size=none:=by have z:=I4.free;rw [eE] at z;exact z
   have nC:∃ m,s4.heap.Ns G2.objs.size m:=by obtain ⟨m,z,_⟩:=I4.loc;rw [eE] at z;exact ⟨m,z⟩
   exact fin _ _ H3 s4 I5 (I2.uR hCle fC) nC qn
  ·have q:=T.item Y eP eW eK eC i [] s3 _ H3 (fun _ _=>False) I3 (stat fr3) st3 go;rw [eA] at q;refine wpAny_bind (wpAny_standAt (wpAny_bind (wpAny_mono q (fun r s4 ⟨u,hr,h4⟩=>?_) fun _ _ y=>y.elim)));subst hr;refine wpAny_bind (wpAny_mono h4 (fun _ s5 ⟨x,H5,I5,r5,y5,YF,fr5⟩=>?_) fun _ _ y=>y.elim);have I5':=I5.pinned (stat fr5) (T.obj _ _ YF);refine wpAny_bind (bot (cT (bg _ s5 _ H5 x u _ I5' r5 (step x H5 y5)) fun _ s6 zq=>?_));obtain ⟨σ6,H6,I6,kp6,q6⟩:=zq;refine wpAny_bind (bot (cT (bt _ s6 σ6 H6 _ I6 q6) fun ok s7 zq=>?_));obtain ⟨H7,I7,q7⟩:=zq;have again:∀ {H8:Hp}{s8:Shared}{zs:List V}{m':Nat},Inv Y ([]++uT fp s5.heap) σ6 H8 s8->m'<n->W (i+1) m' zs H8->∃ m,m<n/\∃ i ys H',Inv Y [] (tV σ ts.length ix) H' s8/\tn i s8.heap/\(∀ b∈fp,H' b=none)/\W i m ys H':=fun {H8 s8 zs m'} I8 hm w8=>by
    refine ⟨m',hm,i+1,zs,H8,(I8.pW).weak ?_ kp6,T.keep _ _ _ YF fun b hb' o e=>(I8.pin (b,o) (List.mem_append_right _ (List.mem_append_right _ (kY hb' e)))).1,fun b hb'=>?_,w8⟩
    ·rw [I8.len,I3.len]
    ·obtain ⟨o,e,d⟩:=T.obj _ _ YF b hb';exact (I8.pin (b,o) (List.mem_append_right _ (List.mem_append_right _ (kY hb' e)))).2.1
   cases ok with
   | false =>
    rw [if_neg 0x8] at q7;obtain ⟨m',hm,w8⟩:=hN _ _ q7;exact wpAny_pure ⟨rfl,again I7 hm w8⟩
   | true =>
    rw [if_pos rfl] at q7;refine wpAny_bind (wpAny_bind (bot (cT (be _ s7 σ6 H7 _ I7 q7) fun u8 s8 zq=>?_)));obtain ⟨y8,H8,I8,r8,hD8,hz,n8⟩:=zq;obtain ⟨m',hm,w8⟩:=hN _ _ n8;refine wpAny_bind (bot (cT (cY _ s8 σ6 H8 (.ref s2.heap.objs.size) [y8] _ [u8] (fun _ H9=>H9=upd H8 s2.heap.objs.size (.lst (ys++[y8]))) I8 rfl (.cons r8 .nil) ⟨_,ys,y8,rfl,rfl,hD8,hz,rfl⟩) fun _ s9 zq=>?_));obtain ⟨_,H9,I9,_,e9⟩:=zq;subst e9;exact wpAny_pure (wpAny_pure ⟨rfl,again I9 hm w8⟩)
 exact codeAny_compStart_list loop (T.self _ 0 _ _ _ st1 loop)
theorem gJ (hc:X.calm=true) (S:fP X.N X.env.scope scope ts fr ix) (hi:PI X tg iter wi)
  (hb:∀ s H fp C,PG 0x30 tg g/\PTs 0x30 ifs tt/\PE 0x30 elt te)
  (hs:∀ x,foldedSetIterable iter X.env x=pure x:=by intro _;rfl):PE X 0x2B (Qd ts.length ix wi g tt te):=by
 intro pins s σ H Q I h;rw [eval_ListComp];refine yu (use:=none) (Qv:=EP X pins σ Q) hc S hi hb hs I h fun D C H' s' I' f' n' q'=>?_;obtain ⟨m,hm⟩:=n';refine ⟨m,hm,fun h' sb=>⟨.ref D,H',?_,rfl,q'⟩⟩;exact I'.turned (t':=s'.toks) (fun b o hb' e=>(sb.2 b hb').trans e) f'.1 f'.2.1 f'.2.2.2.1 f'.2.2.2.2.1 f'.2.2.2.2.2
theorem uc {pos2:Pos} (hc:X.calm=true) (S:fP X.N X.env.scope scope ts fr ix) (hi:PI X tg iter wi)
  (hb:∀ s H fp C,PG 0x30 tg g/\PTs 0x30 ifs tt/\PE 0x30 elt te)
  (hN:X.N.Nodup) (hix:X.N[i]?=some x) (hx:Loc X.env.scope x)
  (hw:swapsWith 0x2B (some (.Name x pos')) pos2.line X.env=pure true:=by rfl)
  (hf:X.fn x=true\/X.env.scope.names.lookup x=some .local:=by first | exact .inl rfl | exact .inr rfl | assumption)
  (hs:∀ x,foldedSetIterable iter X.env x=pure x:=by intro _;rfl) :
  PS X (.Assign [.Name x pos'] 0x2B pos2) (fun D σ H=>Qd ts.length ix wi g tt te σ H fun v H'=>D.nx (σ.set i (some v)) H'):=by
 intro pins s σ H D I h;rw [exec_Assign_Name_used _ _ _ _ hw];refine wpAny_bind (wpAny_standAt (wpAny_bind ?_))
 show wpAny _ X.A (do let _ <- comprehension 0x2B scope X.env _ (newList []) false (eval iter X.env) (some (assign (.Name x pos') X.env))) _ _ s
 refine wpAny_bind (wpAny_mono (yu (use:=some (assign (.Name x pos') X.env)) (Qv:=fun _ s'=>SP X pins D .next s') hc S hi hb hs I h fun D' C H' s' I' f' n' q'=>?_) (fun _ s' hq=>wpAny_pure (wpAny_pure hq)) fun _ _ e=>e);obtain ⟨m,hm⟩:=n';refine wpAny_assign_Name (xQ I' hN hix hx (v:=.ref D') rfl (fun s'' I'' ⟨a,sb,ha⟩=>?_) hf);have hCa:C≠a:=by
  rcases ha with rfl | ha
  ·exact f'.2.1
  ·exact fun z=>f'.2.2.2.2.1 _ _ ha z.symm
 refine ⟨m,hm.sameBut sb hCa,fun h' sb'=>⟨_,H',?_,q'⟩⟩;exact I''.turned (t':=s''.toks) (fun b o hb' e=>(sb'.2 b hb').trans e) f'.1 f'.2.1 f'.2.2.2.1 f'.2.2.2.2.1 f'.2.2.2.2.2
end
abbrev yw (D:Addr) (σ:St) (k:Nat) (ix:List Nat) (g:TG) (tt:TT) (te:TE) (x:V) (ys:List V) (H:Hp) (N:List V->Hp->Prop):Prop :=
 g x (tV σ k ix) H fun σ2 H4=>Kp (tV σ k ix) σ2/\tt σ2 H4 fun b H5=>if b=true then te σ2 H5 fun y H6=>H6 D=some (.lst ys)/\ys.length<sizeLine/\N (ys++[y]) (upd H6 D (.lst (ys++[y]))) else N ys H5
theorem ud {item:Nat->V}{D:Addr}{k:Nat}{Q:VK} (Pv:Nat->List V->Hp->Prop)
  (hJ:∀ i ys H,Pv i ys H->(i<n->J.go i H/\∀ x H',J.xR i H x H'->H'=H/\x=item i)/\(n<=i->J.stop i H)) (h0:Pv 0 [] (upd H1 D (.lst []))) (hD:∀ i ys H,Pv i ys H->H D=some (.lst ys))
  (hs:∀ i ys H,i<n->Pv i ys H->yw D σ k ix g tt te (item i) ys H (Pv (i+1))) (hd:∀ ys H,Pv n ys H->Q (.ref D) H):oY J D σ k ix g tt te Q H1:=by
 refine ⟨fun i m ys H=>m=n - i/\i<=n/\Pv i ys H,⟨n,by simp,Nat.zero_le _,h0⟩,?_⟩;rintro i m ys H ⟨rfl,hi,p⟩;refine ⟨hD i ys H p,?_⟩;obtain ⟨h1,h2⟩:=hJ i ys H p
 by_cases hlt:i<n
 ·obtain ⟨hg,hy⟩:=h1 hlt;refine .inr ⟨hg,Pv (i+1),fun zs H' p'=>⟨n - (i+1),by lia,rfl,hlt,p'⟩,fun x H' y=>?_⟩;obtain ⟨rfl,rfl⟩:=hy x H' y;exact hs i ys H' hlt p
 ·have e:i=n:=by lia
  subst e;exact .inl ⟨h2 0x9,hd ys H p⟩
theorem GF {D:Addr}{k:Nat}{Q:VK} (Pv:Nat->List V->Hp->Prop) (h0:Pv 0 [] (upd H1 D (.lst []))) (hD:∀ i ys H,Pv i ys H->H D=some (.lst ys))
  (hs:∀ i ys H,i<n->Pv i ys H->yw D σ k ix g tt te (.int (lo+i)) ys H (Pv (i+1))) (hd:∀ ys H,Pv n ys H->Q (.ref D) H):oY (Xa lo n) D σ k ix g tt te Q H1 :=
 ud (item:=fun i=>.int (lo+i)) Pv (fun i ys H _=>⟨fun h=>⟨h,fun x H' y=>y⟩,fun h=>h⟩) h0 hD hs hd
theorem gW {D:Addr}{k:Nat}{Q:VK} (Pv:Nat->List V->Hp->Prop) (hl:∀ i ys H,Pv i ys H->aZ K H a xs) (h0:Pv 0 [] (upd H1 D (.lst []))) (hD:∀ i ys H,Pv i ys H->H D=some (.lst ys))
  (hs:∀ i ys H x,xs[i]?=some x->Pv i ys H->yw D σ k ix g tt te x ys H (Pv (i+1))) (hd:∀ ys H,Pv xs.length ys H->Q (.ref D) H):oY (Itl K a) D σ k ix g tt te Q H1 :=
 ud (n:=xs.length) (item:=fun i=>xs.getD i .non) Pv (fun i ys H p=>⟨fun h=>⟨⟨xs,xs[i],hl i ys H p,by simp [h]⟩,fun x H' y=>⟨y.1,by
  have:=y.2 xs (hl i ys H p);rw [iI,this];rfl⟩⟩,fun h=>⟨xs,hl i ys H p,h⟩⟩) h0 hD (fun i ys H h p=>hs i ys H _ (by rw [iI,dO h];rfl) p) hd
theorem Qg {D:Addr}{k:Nat}{Q:VK} (Pv:Nat->List V->Hp->Prop) (hl:∀ i ys H,Pv i ys H->dG K H a xs) (h0:Pv 0 [] (upd H1 D (.lst []))) (hD:∀ i ys H,Pv i ys H->H D=some (.lst ys))
  (hs:∀ i ys H x,xs[i]?=some x->Pv i ys H->yw D σ k ix g tt te x ys H (Pv (i+1))) (hd:∀ ys H,Pv xs.length ys H->Q (.ref D) H):oY (Itt K a) D σ k ix g tt te Q H1 :=
 ud (n:=xs.length) (item:=fun i=>xs.getD i .non) Pv (fun i ys H p=>⟨fun h=>⟨⟨xs,xs[i],hl i ys H p,by simp [h]⟩,fun x H' y=>⟨y.1,by
  have:=y.2 xs (hl i ys H p);rw [iI,this];rfl⟩⟩,fun h=>⟨xs,hl i ys H p,h⟩⟩) h0 hD (fun i ys H h p=>hs i ys H _ (by rw [iI,dO h];rfl) p) hd
abbrev dR (l:List Nat):Str:=⟨l.toArray⟩
theorem mq (x:Str):dR x.cps.toList=x:=by cases x;simp [dR]
theorem gK (l:List Nat):(dR l).length=l.length:=by simp [dR,Str.length]
theorem UW {y:Str} (h:x.cps.toList=y.cps.toList):x=y:=by
 rw [<- mq x,<- mq y,h]
def aO {α:Type} (xs:List α) (lo hi:Option Int):List α:=(xs.drop (HT.fG xs.length 0 lo)).take (HT.fG xs.length xs.length hi - HT.fG xs.length 0 lo)
theorem vg (lo hi:Option Int) (n:Nat):Builtin.Str.strSliceIndices lo hi 1 n=(List.range (HT.fG n n hi - HT.fG n 0 lo)).map (HT.fG n 0 lo+·):=by
 rw [<- sliceRange_one];unfold Builtin.Str.strSliceIndices;simp only [show (1:Int) > 0 by decide,if_true]
 congr 1
 ·cases lo with
  | none=>simp [HT.fG]
  | some i=>simp only [HT.fG];by_cases h:i<0 <;> simp only [h,if_true,if_false] <;> lia
 ·cases hi with
  | none=>simp [HT.fG]
  | some i=>simp only [HT.fG];by_cases h:i<0 <;> simp only [h,if_true,if_false] <;> lia
theorem GJ (x:Str) (lo hi:Option Int):Txt.slice x lo hi=dR (aO x.cps.toList lo hi):=by
 have e:(Builtin.Str.strSliceIndices lo hi 1 x.length).filterMap (x.cps[·]?)=aO x.cps.toList lo hi:=by
  rw [vg,pick_run];unfold aO;simp only [Str.length,Array.length_toList]
 unfold Txt.slice
 split
 ·rename_i h
  have hl:(Builtin.Str.strSliceIndices lo hi 1 x.length).length=x.length:=by simpa using h
  have h1:aO x.cps.toList lo hi=x.cps.toList:=by
   rw [vg,bV,List.length_range] at hl;have hn:x.length=x.cps.toList.length:=by simp [Str.length]
   rw [hn] at hl;have b1:=HT.Px x.cps.toList.length x.cps.toList.length 0x9 hi;unfold aO
   by_cases h0:HT.fG x.cps.toList.length 0 lo=0
   ·rw [h0,List.drop_zero,List.take_of_length_le 0x1]
   ·have:x.cps.toList.length=0:=by lia
    have h2:x.cps.toList=[]:=List.length_eq_zero_iff.mp this;rw [h2];simp
  rw [h1,mq]
 ·rw [e]
theorem yx:kZ X (compareOp .Gt) (fun x y H Q=>∃ i j,x=.str i/\y=.str j/\Q (.bl (decide (j.cps.toList<i.cps.toList))) H):=by
 intro pins s σ H x y v u Q I rx ry h;obtain ⟨i,j,rfl,rfl,q⟩:=h;obtain ⟨t,rfl⟩:=rx;obtain ⟨t',rfl⟩:=ry;exact PySem.P.gt_str (cg I q rfl)
inductive Qh (x:V) (lo hi:Option Int) (H:Hp) (Q:VK):Prop
 | mk (z:Str) (_:x=.str z) (_:z.length<=sizeLine) (_:Q (.str (dR (aO z.cps.toList lo hi))) H):Qh x lo hi H Q
def rSlS:V->Option Int->Option Int->Hp->VK->Prop:=fun x lo hi H Q=>Qh x lo hi H Q
theorem lg:SlR X rSlS:=by
 intro pins s σ H x v vl vu lo hi sl Q I rx hs pl pu h;obtain ⟨z,rfl,Uk,q⟩:=h;obtain ⟨t,rfl⟩:=rx;obtain ⟨l,rfl,el⟩:∃ l:Option (Int×Tok),vl=partValue l/\l.map (·.1)=lo:=by
  cases pl with
  | none=>exact ⟨none,rfl,rfl⟩
  | int i t=>exact ⟨some (i,t),rfl,rfl⟩
 obtain ⟨u,rfl,eu⟩:∃ l:Option (Int×Tok),vu=partValue l/\l.map (·.1)=hi:=by
  cases pu with
  | none=>exact ⟨none,rfl,rfl⟩
  | int i t=>exact ⟨some (i,t),rfl,rfl⟩
 subst el eu;refine ⟨"str",_,F.slot_str_getitem.lookup,typeIs_str s z t,wpAny_getItem_str_slice (l:=l) (u:=u) (st:=none) hs rfl ?_⟩;have e:=GJ z (l.map (·.1)) (u.map (·.1));unfold Txt.slice at e;unfold sliceMade;have hp:slicePicked z l u none=Builtin.Str.strSliceIndices (l.map (·.1)) (u.map (·.1)) 1 z.length:=rfl;rw [hp];have h1:(((none:Option (Int×Tok)).map (·.1)).getD 1==1&&(Builtin.Str.strSliceIndices (l.map (·.1)) (u.map (·.1)) 1 z.length).length==z.length)=((1:Int)==1&&(Builtin.Str.strSliceIndices (l.map (·.1)) (u.map (·.1)) 1 z.length).length==z.length):=rfl;rw [h1]
 by_cases hc:((1:Int)==1&&(Builtin.Str.strSliceIndices (l.map (·.1)) (u.map (·.1)) 1 z.length).length==z.length)=true
 ·rw [if_pos hc] at e ⊢;exact ⟨.str z,H,I,⟨t,rfl⟩,by rw [<- e] at q;exact q⟩
 ·rw [if_neg hc] at e ⊢;rw [<- e] at q;refine ⟨?_,⟨.str _,H,I.tok _,⟨_,rfl⟩,q⟩⟩;have hle:=Txt.slice_le z (l.map (·.1)) (u.map (·.1));unfold Txt.slice at hle;rw [if_neg hc] at hle;exact Nat.le_trans hle Uk
def Its (x:Str):It:=⟨fun i _=>i<x.cps.toList.length,fun i H v H'=>H'=H/\∃ c,x.cps.toList[i]?=some c/\v=.str (dR [c]),fun i _=>x.cps.toList.length<=i⟩
theorem Cu (it:Addr) (x:Str) (t:Tok) (ty:String)
  (hn:["enumerate", "zip", "dict_itemiterator", "dict_reverseitemiterator", "odict_iterator", "itertools.zip_longest", "itertools.pairwise"].contains ty=false)
  (W:∀ A':Around,A'.handled=none->Walks P w A' it [it] [it] x.cps.size (SignAt x) (fun i h=>h.IsStrIter it ty x t i))
  (hself:∀ (A:Around) (i:Nat) (s:Shared) (Q:Value->Shared->Prop) (E:Value->Shared->Prop),s.heap.IsStrIter it ty x t i->Q (.ref it) s->wpAny (model P w) A (pyIter (.ref it)) Q E s)
  (hend:∀ (A:Around) (i:Nat) (s:Shared) (Q:Option Value->Shared->Prop) (E:Value->Shared->Prop),A.handled=none->s.heap.IsStrIter it ty x t i->x.cps[i]?=none->(∀ h',Heap.ExtBut it s.heap h'->Q none { s with heap:=h' })->wpAny (model P w) A (pyNext (.ref it)) Q E s) :
  Turn P w K tg (Its x) [it] it (fun i h=>h.IsStrIter it ty x t i) where
 mem:=by simp
 obj:=fun i h st b hb=>by
  have e:b=it:=by simpa using hb
  subst e;obtain ⟨o,e,c,d⟩:=st;exact ⟨o,e,fun v z=>by rw [d] at z;cases z⟩
 keep:=fun i h h' st k=>by
  obtain ⟨o,e,r⟩:=st;exact ⟨o,k it 0x5 o e,r⟩
 item:=by
  intro X hP hw hK hc i pins s σ H E I hf st hg;subst hP hw hK;obtain ⟨f0,f1,f2,f3,f4,f5⟩:=hf it 0x5;have hg':i<x.cps.toList.length:=hg;have hi:i<x.cps.size:=by simpa using hg'
  refine (W X.A (I.ok.hd hc)).item i s _ _ hi st fun v h' tk hv st' kk=>?_;obtain ⟨c,u,hcx,rfl⟩:=hv;have I1:Inv X pins σ H { s with heap:=h',toks:=tk }:=I.turned (fun b o hb e=>kk b o (by simpa using hb) e) f0 f1 f3 f4 f5;obtain ⟨o,e,cc,d⟩:=id st';refine ⟨_,rfl,Jg (s:={ s with heap:=h',toks:=tk }) e cc d hn ⟨.str (dR [c]),H,I1,⟨u,rfl⟩,⟨rfl,c,by simpa using hcx,rfl⟩,st',fun b hb=>(hf b hb).1⟩⟩
 done:=by
  intro X hP hw hK hc i pins s σ H E I hf st hg;subst hP hw hK;obtain ⟨f0,f1,f2,f3,f4,f5⟩:=hf it 0x5;have hg':x.cps.toList.length<=i:=hg;have hi:x.cps.size<=i:=by simpa using hg'
  have hnone:x.cps[i]?=none:=by simpa using hi
  exact hend X.A i s _ _ (I.ok.hd hc) st hnone fun h' eb=>⟨rfl,I.turned (t':=s.toks) (fun b o hb e=>eb b o hb e) f0 f1 f3 f4 f5⟩
 self:=fun A i s Q E st h=>hself A i s Q E st h
inductive Qi (R:It->Hp->Prop) (x:V) (H1:Hp):Prop
 | mk (z:Str) (_:x=.str z) (_:R (Its z) H1):Qi R x H1
def iStr (tl:TE):TI:=fun σ H R=>tl σ H fun x H1=>Qi R x H1
theorem Ac {l:Expr} (hl:PE X l tl):PI X tg l (iStr tl):=by
 intro pins s σ H R I h;refine cT (hl pins s σ H _ I h) fun v s1 zq=>?_;obtain ⟨x,H1,I1,r1,q1⟩:=zq;obtain ⟨z,rfl,q⟩:=q1;obtain ⟨t,rfl⟩:=r1;have fin:∀ ty:String,Turn X.prog X.w X.K tg (Its z) [s1.heap.objs.size] s1.heap.objs.size (fun i h=>h.IsStrIter s1.heap.objs.size ty z t i) ->
   PIE X pins σ tg R (.ref s1.heap.objs.size) { s1 with heap:=s1.heap.push { cls:=.type ty,data:=.fields #[.str z t,.int 0 0] } }:=fun ty T=>by
  refine ⟨s1.heap.objs.size,[s1.heap.objs.size],_,_,H1,rfl,I1.kept (t':=s1.toks) fun b o e=>Heap.get?_push_of_some _ e,T,⟨_,Heap.get?_push_size _ rfl,rfl,rfl⟩,fun b hb=>?_,q⟩;have e:b=s1.heap.objs.size:=by simpa using hb
  subst e;exact I1.uR 0x9 (I1.hok.fresh 0x9)
 cases ha:z.cps.all (·<128)
 ·exact wpAny_pyIter_wide ha (fin _ (Cu _ z t _ 0x8 (fun A' hA=>Walks.strWide hA _ z t) (fun A i s Q E st h=>wpAny_pyIter_striter_wide st h) fun A i s Q E hh st hx hQ=>wpAny_pyNext_wide_end hh st hx hQ))
 ·exact wpAny_pyIter_ascii ha (fin _ (Cu _ z t _ 0x8 (fun A' hA=>Walks.strAscii hA _ z t) (fun A i s Q E st h=>wpAny_pyIter_striter_ascii st h) fun A i s Q E hh st hx hQ=>wpAny_pyNext_ascii_end hh st hx hQ))
theorem JC {tb:TS} (Pv:Nat->St->Hp->Prop) (h0:Pv 0 σ H)
  (hs:∀ i c σ H,x.cps.toList[i]?=some c->Pv i σ H->g (.str (dR [c])) σ H fun σ2 H2=>tb { D with nx:=Pv (i+1),ct:=Pv (i+1),bk:=D.nx } σ2 H2) (hd:∀ σ H,Pv x.cps.toList.length σ H->D.nx σ H) :
  ∃ W:Nat->Nat->St->Hp->Prop,(∃ m,W 0 m σ H)/\∀ i m σ H,W i m σ H ->
   ((Its x).stop i H/\D.nx σ H)\/((Its x).go i H/\∃ N:St->Hp->Prop,(∀ σ' H',N σ' H'->∃ m',m'<m/\W (i+1) m' σ' H')/\∀ v H',(Its x).xR i H v H'->g v σ H' fun σ2 H2=>tb { D with nx:=N,ct:=N,bk:=D.nx } σ2 H2):=by
 refine ⟨fun i m σ H=>m=x.cps.toList.length - i/\i<=x.cps.toList.length/\Pv i σ H,⟨_,rfl,Nat.zero_le _,h0⟩,?_⟩;rintro i m σ H ⟨rfl,hi,p⟩
 by_cases hlt:i<x.cps.toList.length
 ·refine .inr ⟨hlt,Pv (i+1),fun σ' H' p'=>⟨_,by lia,rfl,hlt,p'⟩,fun v H' y=>?_⟩;obtain ⟨rfl,c,hc,rfl⟩:=y;exact hs i c σ _ hc p
 ·have e:i=x.cps.toList.length:=by lia
  subst e;exact .inl ⟨Nat.le_refl _,hd σ H p⟩
theorem Cw {D:Addr}{k:Nat}{Q:VK} (Pv:Nat->List V->Hp->Prop) (h0:Pv 0 [] (upd H1 D (.lst []))) (hD:∀ i ys H,Pv i ys H->H D=some (.lst ys))
  (hs:∀ i ys H c,x.cps.toList[i]?=some c->Pv i ys H->yw D σ k ix g tt te (.str (dR [c])) ys H (Pv (i+1))) (hd:∀ ys H,Pv x.cps.toList.length ys H->Q (.ref D) H):oY (Its x) D σ k ix g tt te Q H1 :=
 ud (n:=x.cps.toList.length) (item:=fun i=>.str (dR [x.cps.toList.getD i 0])) Pv (fun i ys H p=>⟨fun h=>⟨h,fun v H' y=>by
  obtain ⟨e,c,hc,rfl⟩:=y;exact ⟨e,by rw [iI,hc];rfl⟩⟩,fun h=>h⟩) h0 hD (fun i ys H h p=>hs i ys H _ (by rw [iI,dO h];rfl) p) hd
theorem yC:∀ {ts:List Str}{us:List Value},Vals (ts.map V.str) us->∃ l:List (Str×Tok),us=strValues l/\l.map (·.1)=ts
 | [],_,r=>by
  rw [List.map_nil] at r;cases r;exact ⟨[],rfl,rfl⟩
 | t::ts,_,r=>by
  rw [List.map_cons] at r;cases r with
  | cons r1 r2 =>
   obtain ⟨k,rfl⟩:=r1;obtain ⟨l,rfl,e⟩:=yC r2;exact ⟨(t,k)::l,rfl,by rw [List.map_cons,e]⟩
inductive JD (K:PySem.W.Frag) (x:V) (vs:List V) (H:Hp) (Q:VK):Prop
 | mk (sep:Str) (l:Addr) (ts:List Str) (_:x=.str sep) (_:vs=[.ref l]) (_:aZ K H l (ts.map V.str)) (_:JoinOk sep ts=true) (_:Q (.str (Txt.join sep ts)) H):JD K x vs H Q
def rJoin (K:PySem.W.Frag):V->List V->Hp->VK->Prop:=fun x vs H Q=>JD K x vs H Q
theorem nD:YL X "str.join" (rJoin X.K):=by
 intro pins s σ H x vs v us Q I rx rv h;obtain ⟨sep,l,ts,rfl,rfl,hq,ok,q⟩:=h;obtain ⟨t,rfl⟩:=rx;obtain ⟨u,rfl,ru⟩:=rv.one;cases ru;obtain ⟨its,r,p,hz⟩:=I.list hq;obtain ⟨l',rfl,el⟩:=yC r;exact SC.join p.isList el ok fun t' k=>⟨.str _,H,I.tok _,⟨_,rfl⟩,q⟩
theorem GK (hc:X.calm=true) (hin:X.A.in1.handled=none):gq X (.builtin "all") (fun xs H Q=>∃ (p:Addr) (bs:List Bool),xs=[.ref p]/\aZ X.K H p (bs.map V.bl)/\Q (.bl (bs.all id)) H):=by
 intro pins s σ H xs us Q I r h;obtain ⟨p,bs,rfl,hq,q⟩:=h;obtain ⟨u,rfl,ru⟩:=vals1 r;cases ru;obtain ⟨its,rv,pl,hz⟩:=I.list hq;have hlen:=rv.length;rw [bV] at hlen;have hne:p≠s.heap.objs.size:=by
  obtain ⟨o,n,e,_⟩:=pl;exact Nat.ne_of_lt (Heap.lt_size e)
 refine call_all_walk (wpAny_pyIter_list pl.isList ?_);refine ⟨s.heap.objs.size,_,_,its.toArray.size,_,_,fun i=>bs.getD i true,rfl,Walks.list hin s.heap.objs.size p hne its.toArray,⟨⟨_,Heap.get?_push_size _ rfl,rfl,rfl⟩,?_⟩,?_,?_⟩
 ·obtain ⟨o,n,e,c,d,dd⟩:=pl;exact ⟨o,Heap.get?_push_of_some _ e,c,n,dd⟩
 ·intro i v s' Q' E' hv hQ';have hv':its[i]?=some v:=by simpa using hv
  have hi:i<its.length:=(List.getElem?_eq_some_iff.mp hv').1;have hb:(bs.map V.bl)[i]?=some (V.bl (bs.getD i true)):=by
   rw [jT,dO 0x1,iI,dO 0x1];rfl
  obtain ⟨u,hu,ru⟩:=rv.get hb;rw [hv'] at hu;cases hu;cases ru;exact wpAny_truthy_bool hQ'
 ·intro h' tk kk;have e:(List.range its.toArray.size).all (fun i=>bs.getD i true)=bs.all id:=by
   rw [List.size_toArray,<- hlen,Bool.eq_iff_iff,List.all_eq_true,List.all_eq_true]
   constructor
   ·intro z b hb;obtain ⟨i,hi,rfl⟩:=List.mem_iff_getElem.mp hb;have:=z i (List.mem_range.mpr hi);rw [iI,dO hi] at this;exact this
   ·intro z i hi;have hi':=List.mem_range.mp hi;rw [iI,dO hi'];exact z _ (List.getElem_mem hi')
  rw [e];have I1:Inv X pins σ H { s with heap:=s.heap.push { cls:=.type "list_iterator",data:=.fields #[.ref p,.int 0 0] } }:=I.kept (t':=s.toks) fun b o e=>Heap.get?_push_of_some _ e;obtain ⟨f0,f1,f2,f3,f4,f5⟩:=I.uR 0x9 (I.hok.fresh 0x9);exact ⟨.bl (bs.all id),H,I1.turned (fun b o hb e=>kk b o (by simpa using hb) e) f0 f1 f3 f4 f5,rfl,q⟩
theorem Cy:gq X (.builtin "isinstance") (fun xs H Q=>∃ x T t b,xs=[x,.ty T]/\pY X.K H x t/\PySem.W.kitOne X.K t (.type T)=some b/\Q (.bl b) H):=by
 intro pins s σ H xs us Q I r h;obtain ⟨x,T,t,b,rfl,ty,e,q⟩:=h;obtain ⟨u,u',rfl,ru,Ge⟩:=vals2 r;cases Ge;exact N7 I ru ty e fun tk=>⟨.bl b,H,I.tok _,rfl,q⟩
theorem vh (h:X.K=K:=by rfl):Xh X (rIxL K):=h ▸ aL
theorem JF (h:X.K=K:=by rfl):Xh X (rIxT K):=h ▸ gU
theorem GP (h:X.K=K:=by rfl):kZ X (compareOp .In) (rIn K false):=h ▸ nA
inductive JG (K:PySem.W.Frag) (xs:List V) (H:Hp) (Q:VK):Prop
 | mk (p:Addr) (ys:List V) (_:xs=[.ref p]) (_:(aZ K H p ys\/dG K H p ys)) (_:Q (.int ys.length) H):JG K xs H Q
def a1M (K:PySem.W.Frag):List V->Hp->VK->Prop:=fun xs H Q=>JG K xs H Q
theorem jd (h:X.K=K:=by rfl):gq X (.builtin "len") (a1M K):=h ▸ fun pins s σ H xs us Q I r ⟨p,ys,a,b,c⟩=>bF pins s σ H xs us Q I r ⟨p,ys,a,b,c⟩
inductive Qj (K:PySem.W.Frag) (xs:List V) (H:Hp) (Q:VK):Prop
 | mk (x:V) (T:String) (t:Value) (b:Bool) (_:xs=[x,.ty T]) (_:pY K H x t) (_:PySem.W.kitOne K t (.type T)=some b) (_:Q (.bl b) H):Qj K xs H Q
def rIsi (K:PySem.W.Frag):List V->Hp->VK->Prop:=fun xs H Q=>Qj K xs H Q
theorem dh (h:X.K=K:=by rfl):gq X (.builtin "isinstance") (rIsi K):=h ▸ fun pins s σ H xs us Q I r ⟨p,ys,t,d,a,b,c,e⟩=>Cy pins s σ H xs us Q I r ⟨p,ys,t,d,a,b,c,e⟩
inductive Qk (K:PySem.W.Frag) (xs:List V) (H:Hp) (Q:VK):Prop
 | mk (p:Addr) (bs:List Bool) (_:xs=[.ref p]) (_:aZ K H p (bs.map V.bl)) (_:Q (.bl (bs.all id)) H):Qk K xs H Q
def rAll (K:PySem.W.Frag):List V->Hp->VK->Prop:=fun xs H Q=>Qk K xs H Q
theorem nG (hc:X.calm=true) (hin:X.A.in1.handled=none) (h:X.K=K:=by rfl):gq X (.builtin "all") (rAll K):=h ▸ fun pins s σ H xs us Q I r ⟨p,ys,a,b,c⟩=>GK hc hin pins s σ H xs us Q I r ⟨p,ys,a,b,c⟩
theorem bM:bootBuiltins "isinstance"=some (.builtin "isinstance"):=by decide +kernel
theorem Ad:bootBuiltins "all"=some (.builtin "all"):=by decide +kernel
theorem YX:bootBuiltins "max"=some (.builtin "max"):=by decide +kernel
theorem Nh:bootBuiltins "sorted"=some (.builtin "sorted"):=by decide +kernel
theorem Ae:bootBuiltins "bool"=some (.type "bool"):=by decide +kernel
theorem vm:bootBuiltins "int"=some (.type "int"):=by decide +kernel
theorem mD:bootBuiltins "str"=some (.type "str"):=by decide +kernel
theorem Af:bootBuiltins "list"=some (.type "list"):=by decide +kernel
theorem jZ:bootBuiltins "tuple"=some (.type "tuple"):=by decide +kernel
theorem vo:bootBuiltins "zip"=some (.type "zip"):=by decide +kernel
theorem iT:bootBuiltins "enumerate"=some (.type "enumerate"):=by decide +kernel
theorem Ql {t:Addr}{x:Value} (hit:s.heap.IsTupleIter it t i) (ht:s.heap.IsTuple t its) (hx:its[i]?=some x)
  (hQ:∀ h',h'.IsTupleIter it t (i+1)->Heap.SameBut it s.heap h'->Q x { s with heap:=h' }):wpAny 0xD A (Builtin.SmallTypes.nextOf (.ref it)) Q E s:=by
 obtain ⟨o,ho,hc,hd⟩:=id hit;obtain ⟨ot,hot,_,nt,hdt⟩:=ht;unfold Builtin.SmallTypes.nextOf;refine wpAny_bind (wpAny_callSpecial?_slot (name:=Str.ofString "__next__") hit.typeIs F.slot_tuple_iterator_next (wpAny_call_entry F.slot_tuple_iterator_next hit.typeIs F.entry_tuple_iterator_next ?_ (F.args_tuple_iterator_next_1 _)))
 show wpAny _ _ (field (.ref it) 0 >>= _) _ _ s;refine wpAny_bind (wpAny_field ho hd (x:=.ref t) rfl ?_)
 show wpAny _ _ (if (Value.ref t==Value.none)=true then _ else _) _ _ s;rw [if_neg (show ¬ ((Value.ref t==Value.none)=true) from fun z=>Bool.false_ne_true z)]
 show wpAny _ _ (field (.ref it) 1 >>= _) _ _ s;refine wpAny_bind (wpAny_field ho hd (x:=.int i 0) rfl ?_)
 show wpAny _ _ (seqItems? (.ref t) >>= _) _ _ s;refine wpAny_bind (wpAny_seqItems hot hdt ?_);simp only [Int.toNat_natCast,hx]
 refine wpAny_bind (wpAny_setField ho hd 0x5 (wpAny_pure ⟨x,rfl,wpAny_pure (hQ _ ⟨_,Heap.get?_update_self _ ho (Obj.isFreed_of_fields (Obj.data_mapFields hd _)),(Obj.cls_mapFields ..).trans hc,by rw [Obj.data_mapFields hd];simp [rawInt]⟩ (Heap.SameBut.update ..))⟩))
theorem oZ {t:Addr} (hh:A.handled=none) (hit:s.heap.IsTupleIter it t i) (ht:s.heap.IsTuple t its) (hx:its[i]?=none)
  (hE:∀ h' e,Heap.ExtBut it s.heap h'->(∃ o,h'.get? e=some o/\o.cls=.type "StopIteration")->E (.ref e) { s with heap:=h' }):wpAny 0xD A (Builtin.SmallTypes.nextOf (.ref it)) Q E s:=by
 obtain ⟨o,ho,hc,hd⟩:=id hit;obtain ⟨ot,hot,_,nt,hdt⟩:=ht;unfold Builtin.SmallTypes.nextOf;refine wpAny_bind (wpAny_callSpecial?_slot (name:=Str.ofString "__next__") hit.typeIs F.slot_tuple_iterator_next (wpAny_call_entry F.slot_tuple_iterator_next hit.typeIs F.entry_tuple_iterator_next ?_ (F.args_tuple_iterator_next_1 _)))
 show wpAny _ _ (field (.ref it) 0 >>= _) _ _ s;refine wpAny_bind (wpAny_field ho hd (x:=.ref t) rfl ?_)
 show wpAny _ _ (if (Value.ref t==Value.none)=true then _ else _) _ _ s;rw [if_neg (show ¬ ((Value.ref t==Value.none)=true) from fun z=>Bool.false_ne_true z)]
 show wpAny _ _ (field (.ref it) 1 >>= _) _ _ s;refine wpAny_bind (wpAny_field ho hd (x:=.int i 0) rfl ?_)
 show wpAny _ _ (seqItems? (.ref t) >>= _) _ _ s;refine wpAny_bind (wpAny_seqItems hot hdt ?_);simp only [Int.toNat_natCast,hx]
 refine wpAny_bind (wpAny_rule (wpAny_bind (wpAny_setField ho hd 0x5 ?_)));show wpAny _ _ (newExc (.type "StopIteration") [] >>= _) _ _ _
 refine wpAny_bind ?_;simp only [newExc,newTuple];refine wpAny_bind (wpAny_newObj_type ?_ (by size_fits));refine wpAny_bind (m:=firstArgMember _ _) (wpAny_of_eq (a:=Value.none) (by first | rfl | (simp only [firstArgMember];rfl)) ?_);refine wpAny_newObj_type ?_ (by size_fits)
 simp only [raiseNew];refine wpAny_bind (wpAny_handled ?_);first | rw [show A.in1.handled=none from hh] | rw [hh]
 refine wpAny_bind (wpAny_pure (wpAny_throw (hE _ _ (((Heap.SameBut.update ..).extBut.push _).push _) ⟨_,Heap.get?_push_size _ rfl,rfl⟩)))
structure vp (P:Program) (w:World) (K:PySem.W.Frag) (it:Addr) (go stop:Nat->Hp->Prop) (xR:Nat->Hp->V->Prop) (tn:Nat->Heap->Prop):Prop where
 obj:∀ i h,tn i h->∃ o,h.get? it=some o/\∀ v,o.data≠.cell v
 keep:∀ i h h',tn i h->(∀ o,h.get? it=some o->h'.get? it=some o)->tn i h'
 item:∀ (X:Cx) (pins:List 0x18) (σ:St) (H:Hp) (s₀:Shared) (i:Nat) (fp:List Addr),X.prog=P->X.w=w->X.K=K->Inv X pins σ H s₀->(∀ b∈fp,m7 X pins H b)->go i H ->
  ∃ U:Heap->Prop,U s₀.heap/\(∀ h h',U h->(∀ b o,b∉fp->h.get? b=some o->h'.get? b=some o)->U h')/\∃ x,xR i H x /\
   ∀ (A:Around) (s:Shared) (Q:Value->Shared->Prop) (E:Value->Shared->Prop),U s.heap->tn i s.heap->(∀ u h' tk,RelV x u->tn (i+1) h'->Heap.SameBut it s.heap h'->Q u { s with heap:=h',toks:=tk }) ->
    wpAny (model P w) A (Builtin.SmallTypes.nextOf (.ref it)) Q E s
 done:∀ (X:Cx) (pins:List 0x18) (σ:St) (H:Hp) (s₀:Shared) (i:Nat) (fp:List Addr),X.prog=P->X.w=w->X.K=K->Inv X pins σ H s₀->(∀ b∈fp,m7 X pins H b)->stop i H ->
  ∃ U:Heap->Prop,U s₀.heap/\(∀ h h',U h->(∀ b o,b∉fp->h.get? b=some o->h'.get? b=some o)->U h') /\
   ∀ (A:Around) (s:Shared) (Q:Value->Shared->Prop) (E:Value->Shared->Prop),A.handled=none->U s.heap->tn i s.heap->(∀ h' e,Heap.ExtBut it s.heap h'->(∃ o,h'.get? e=some o/\o.cls=.type "StopIteration")->E (.ref e) { s with heap:=h' }) ->
    wpAny (model P w) A (Builtin.SmallTypes.nextOf (.ref it)) Q E s
theorem vq (I:Inv X pins σ H s) (hf:∀ b∈fp,m7 X pins H b) {o:Obj} (e:X.base.get? a=some o):a∉fp:=fun hb=>by
 rcases (hf a hb).2.2.2.1 with z | z
 ·exact I.ok.Ce a o e z
 ·exact absurd (Nat.lt_of_lt_of_le (Heap.lt_size (I.ok.bs a o e).1) z) (Nat.lt_irrefl _)
theorem nH (I:Inv X pins σ H s) (hf:∀ b∈fp,m7 X pins H b) (h:dG X.K H a xs):a∉fp:=by
 rcases h with (h | ⟨o,h⟩) | ⟨o,its,n,hk,_⟩
 ·exact fun hb=>by rw [(hf a hb).1] at h;cases h
 ·exact fun hb=>by rw [(hf a hb).1] at h;cases h
 ·exact vq I hf (I.ok.mod.kin a o hk)
theorem nJ (I:Inv X pins σ H s) (hf:∀ b∈fp,m7 X pins H b) (h:aZ X.K H a xs):a∉fp:=by
 rcases h with (h | ⟨o,h⟩) | ⟨o,its,n,hk,_⟩
 ·exact fun hb=>by rw [(hf a hb).1] at h;cases h
 ·exact fun hb=>by rw [(hf a hb).1] at h;cases h
 ·exact vq I hf (I.ok.mod.kin a o hk)
theorem qm (a it:Addr):vp P w K it (fun i H=>∃ xs x,dG K H a xs/\xs[i]?=some x) (fun i H=>∃ xs,dG K H a xs/\xs.length<=i) (fun i H x=>∀ xs,dG K H a xs->xs[i]?=some x) (fun i h=>h.IsTupleIter it a i) where
 obj:=fun i h ⟨o,e,c,d⟩=>⟨o,e,fun v z=>by rw [d] at z;cases z⟩
 keep:=fun i h h' ⟨o,e,r⟩ k=>⟨o,k o e,r⟩
 item:=fun X pins σ H s₀ i fp hP hw hK I hf ⟨xs,x,hq,hx⟩=>by
  subst hP hw hK;obtain ⟨its,rv,p,_⟩:=I.tuple hq;have na:=nH I hf hq;obtain ⟨u,hu,ru⟩:=rv.get hx;refine ⟨fun h=>h.IsTuple a its.toArray,p,fun h h' ⟨o,e,r⟩ k=>⟨o,k a o na e,r⟩,x,fun ys hy=>by rw [I.qZ hy hq];exact hx,fun A s Q E hU st hQ=>?_⟩;exact Ql st hU (x:=u) (by simpa using hu) fun h' st' sb=>hQ u h' s.toks ru st' sb
 done:=fun X pins σ H s₀ i fp hP hw hK I hf ⟨xs,hq,hx⟩=>by
  subst hP hw hK;obtain ⟨its,rv,p,_⟩:=I.tuple hq;have na:=nH I hf hq;have hl:=rv.length;exact ⟨fun h=>h.IsTuple a its.toArray,p,fun h h' ⟨o,e,r⟩ k=>⟨o,k a o na e,r⟩,fun A s Q E hh hU st hE=>oZ hh st hU (by simp;lia) hE⟩
theorem qp (a it:Addr):vp P w K it (fun i H=>∃ xs x,aZ K H a xs/\xs[i]?=some x) (fun i H=>∃ xs,aZ K H a xs/\xs.length<=i) (fun i H x=>∀ xs,aZ K H a xs->xs[i]?=some x) (fun i h=>h.IsListIter it a i) where
 obj:=fun i h ⟨o,e,c,d⟩=>⟨o,e,fun v z=>by rw [d] at z;cases z⟩
 keep:=fun i h h' ⟨o,e,r⟩ k=>⟨o,k o e,r⟩
 item:=fun X pins σ H s₀ i fp hP hw hK I hf ⟨xs,x,hq,hx⟩=>by
  subst hP hw hK;obtain ⟨its,rv,p,_⟩:=I.list hq;have na:=nJ I hf hq;obtain ⟨u,hu,ru⟩:=rv.get hx;refine ⟨fun h=>h.IsList a its.toArray,p.isList,fun h h' ⟨o,e,r⟩ k=>⟨o,k a o na e,r⟩,x,fun ys hy=>by rw [I.uQ hy hq];exact hx,fun A s Q E hU st hQ=>?_⟩;exact wpAny_nextOf_list_item st hU (x:=u) (by simpa using hu) fun h' st' sb=>hQ u h' s.toks ru st' sb
 done:=fun X pins σ H s₀ i fp hP hw hK I hf ⟨xs,hq,hx⟩=>by
  subst hP hw hK;obtain ⟨its,rv,p,_⟩:=I.list hq;have na:=nJ I hf hq;have hl:=rv.length;exact ⟨fun h=>h.IsList a its.toArray,p.isList,fun h h' ⟨o,e,r⟩ k=>⟨o,k a o na e,r⟩,fun A s Q E hh hU st hE=>wpAny_nextOf_list_end hh st hU (by simp;lia) hE⟩
structure ZA (z TI TO i1 i2:Addr):Prop where
 p1:TI≠z
 p2:TO≠z
 p3:i1≠z
 p4:i2≠z
 p5:TI≠TO
 p6:TI≠i1
 p7:TI≠i2
 p8:TO≠i1
 p9:TO≠i2
 p0:i1≠i2
theorem V0 {z TI TO:Addr}{x:V}{a b:Value}{U1 U2 T1 T2 V1 T2':Heap->Prop} (D:ZA z TI TO i1 i2)
  (hz:IsZip s.heap z TI TO .none) (hTI:IsPair s.heap TI (.ref i1) (.ref i2)) (hTO:IsPair s.heap TO a b) (u1:U1 s.heap) (u2:U2 s.heap) (t1:T1 s.heap) (t2:T2 s.heap)
  (k1:∀ h h',U1 h->(∀ b o,b∉[z,TI,TO,i1,i2]->h.get? b=some o->h'.get? b=some o)->U1 h') (k2:∀ h h',U2 h->(∀ b o,b∉[z,TI,TO,i1,i2]->h.get? b=some o->h'.get? b=some o)->U2 h')
  (q1:∀ h h',T1 h->(∀ o,h.get? i1=some o->h'.get? i1=some o)->T1 h') (q2:∀ h h',T2 h->(∀ o,h.get? i2=some o->h'.get? i2=some o)->T2 h')
  (q1':∀ h h',V1 h->(∀ o,h.get? i1=some o->h'.get? i1=some o)->V1 h') (q2':∀ h h',T2' h->(∀ o,h.get? i2=some o->h'.get? i2=some o)->T2' h')
  (d1:∀ (A:Around) (s:Shared) (Q:Value->Shared->Prop) (E:Value->Shared->Prop),U1 s.heap->T1 s.heap->(∀ u h' tk,RelV x u->V1 h'->Heap.SameBut i1 s.heap h'->Q u { s with heap:=h',toks:=tk })->wpAny 0xD A (Builtin.SmallTypes.nextOf (.ref i1)) Q E s)
  (d2:∀ (A:Around) (s:Shared) (Q:Value->Shared->Prop) (E:Value->Shared->Prop),U2 s.heap->T2 s.heap->(∀ u h' tk,RelV y u->T2' h'->Heap.SameBut i2 s.heap h'->Q u { s with heap:=h',toks:=tk })->wpAny 0xD A (Builtin.SmallTypes.nextOf (.ref i2)) Q E s)
  (hQ:∀ u v h' tk,RelV x u->RelV y v->IsZip h' z TI TO (rawInt s.heap.objs.size)->IsPair h' TI (.ref i1) (.ref i2)->IsPair h' TO u v->V1 h'->T2' h'->IsPair h' s.heap.objs.size u v ->
   (∀ c o,c≠z->c≠TO->c≠i1->c≠i2->s.heap.get? c=some o->h'.get? c=some o)->Q (.ref s.heap.objs.size) { s with heap:=h',toks:=tk }) :
  wpAny 0xD A (Builtin.«zip.__next__» ⟨[.ref z],[]⟩) (fun fin s'=>∃ v,fin=.done (.ret v)/\Q v s') E s:=by
 have mz:∀ {c:Addr},c∉[z,TI,TO,i1,i2]->c≠z/\c≠TO/\c≠i1/\c≠i2:=fun {c} h=>by simp at h;exact ⟨h.1,h.2.2.1,h.2.2.2.1,h.2.2.2.2⟩
 show wpAny _ _ (field (.ref z) 2 >>= _) _ _ _;refine wpAny_bind (wpAny_field hz rfl (x:=.bool false) rfl ?_)
 show wpAny _ _ (field (.ref z) 3 >>= _) _ _ _;refine wpAny_bind (wpAny_field hz rfl (x:=.ref TI) rfl (wpAny_bind (wpAny_seqItems hTI rfl ?_)))
 show wpAny _ _ (Builtin.SmallTypes.ownedTupleIsFree (.ref z) >>= _) _ _ _;refine wpAny_bind ?_;unfold Builtin.SmallTypes.ownedTupleIsFree
 refine wpAny_bind (wpAny_field hz rfl (x:=.none) rfl (wpAny_pure ?_));simp only [if_true];refine wpAny_bind (wpAny_rule (wpAny_bind (wpAny_field hz rfl (x:=.ref TO) rfl (wpAny_bind (wpAny_setField_rec hz 0x5 fun g1 hz1 hs1=>?_)))))
 replace hz1:IsZip g1 z TI TO .ellipsis:=hz1
 refine wpAny_bind ?_;simp only [List.zipIdx_cons,List.zipIdx_nil,List.forIn_cons,List.forIn_nil];refine wpAny_bind (wpAny_bind (wpAny_onRaise ?_));show wpAny _ _ (Builtin.SmallTypes.nextOf (.ref i1) >>= _) _ _ _
 refine wpAny_bind (d1 _ _ _ _ (k1 _ _ u1 fun c o hc e=>hs1.extBut _ _ (mz hc).1 e) (q1 _ _ t1 fun o e=>hs1.extBut _ _ D.p3 e) fun u g2 tk2 ru t1b hs2=>wpAny_pure ?_);have Qm:IsPair g2 TO a b:=hs2.extBut _ _ D.p8 (hs1.extBut _ _ D.p2 hTO);refine wpAny_bind (wpAny_seqItems Qm rfl (wpAny_bind (wpAny_updateSeq_pair Qm fun g3 V2 hs3=>?_)))
 replace V2:IsPair g3 TO u b:=V2
 refine wpAny_bind (wpAny_letGo (wpAny_pure (wpAny_bind (wpAny_bind (wpAny_onRaise ?_)))));show wpAny _ _ (Builtin.SmallTypes.nextOf (.ref i2) >>= _) _ _ _
 refine wpAny_bind (d2 _ _ _ _ (k2 _ _ u2 fun c o hc e=>hs3.extBut _ _ (mz hc).2.1 (hs2.extBut _ _ (mz hc).2.2.1 (hs1.extBut _ _ (mz hc).1 e))) (q2 _ _ t2 fun o e=>hs3.extBut _ _ D.p9.symm (hs2.extBut _ _ D.p0.symm (hs1.extBut _ _ D.p4 e))) fun v g4 tk4 rv t2b Xk=>wpAny_pure ?_);have hTO4:IsPair g4 TO u b:=Xk.extBut _ _ D.p9 V2;refine wpAny_bind (wpAny_seqItems hTO4 rfl (wpAny_bind (wpAny_updateSeq_pair hTO4 fun g5 V3 Xl=>?_)))
 replace V3:IsPair g5 TO u v:=V3
 refine wpAny_bind (wpAny_letGo (wpAny_pure (wpAny_pure (wpAny_bind (wpAny_seqItems V3 rfl (wpAny_bind (wpAny_newTuple ?_)))))));have sz:g5.objs.size=s.heap.objs.size:=by rw [Xl.1,Xk.1,hs3.1,hs2.1,hs1.1]
 have Cz:∀ c o,c≠z->c≠TO->c≠i1->c≠i2->s.heap.get? c=some o->g5.get? c=some o:=fun c o c1 c2 c3 c4 e=>Xl.extBut _ _ c2 (Xk.extBut _ _ c4 (hs3.extBut _ _ c2 (hs2.extBut _ _ c3 (hs1.extBut _ _ c1 e))));have hz5:IsZip g5 z TI TO .ellipsis:=Xl.extBut _ _ D.p2.symm (Xk.extBut _ _ D.p4.symm (hs3.extBut _ _ D.p2.symm (hs2.extBut _ _ D.p3.symm hz1)));have t15:V1 g5:=q1' _ _ t1b fun o e=>Xl.extBut _ _ D.p8.symm (Xk.extBut _ _ D.p0 (hs3.extBut _ _ D.p8.symm e));have t25:T2' g5:=q2' _ _ t2b fun o e=>Xl.extBut _ _ D.p9.symm e;have zlt:z<g5.objs.size:=Heap.lt_size hz5
 show wpAny _ _ (Builtin.SmallTypes.ownedTupleHandOut (.ref z) (.ref g5.objs.size) >>= _) _ _ _;refine wpAny_bind ?_;unfold Builtin.SmallTypes.ownedTupleHandOut
 have hz6:IsZip (g5.push { cls:=.type "tuple",data:=.seq #[u,v] }) z TI TO .ellipsis:=Heap.get?_push_of_some _ hz5;refine wpAny_bind (wpAny_setField_rec hz6 0x5 fun g7 hz7 hs7=>?_)
 replace hz7:IsZip g7 z TI TO (rawInt g5.objs.size):=hz7
 refine wpAny_setField_rec hz7 0x5 fun g8 hz8 hs8=>?_
 replace hz8:IsZip g8 z TI TO (rawInt g5.objs.size):=hz8
 have up8:∀ c o,c≠z->g5.get? c=some o->g8.get? c=some o:=fun c o c1 e=>hs8.extBut _ _ c1 (hs7.extBut _ _ c1 (Heap.get?_push_of_some _ e));have hT8:IsPair g8 g5.objs.size u v:=hs8.extBut _ _ (Nat.ne_of_gt zlt) (hs7.extBut _ _ (Nat.ne_of_gt zlt) (Heap.get?_push_size _ rfl));rw [sz] at hz8 hT8;refine wpAny_pure ⟨_,rfl,?_⟩
 show Q (.ref g5.objs.size) _;rw [sz]
 exact hQ u v g8 _ ru rv hz8 (up8 _ _ D.p1 (Cz _ _ D.p1 D.p5 D.p6 D.p7 hTI)) (up8 _ _ D.p2 V3) (q1' _ _ t15 fun o e=>up8 _ o D.p3 e) (q2' _ _ t25 fun o e=>up8 _ o D.p4 e) hT8 fun c o c1 c2 c3 c4 e=>up8 c o c1 (Cz c o c1 c2 c3 c4 e)
theorem CG {z TI TO:Addr}{x:V}{a b:Value}{U1 U2 T1 T2 V1:Heap->Prop}{Q:Fin->Shared->Prop} (hh:A.handled=none) (D:ZA z TI TO i1 i2)
  (hz:IsZip s.heap z TI TO .none) (hTI:IsPair s.heap TI (.ref i1) (.ref i2)) (hTO:IsPair s.heap TO a b) (u1:U1 s.heap) (t1:T1 s.heap)
  (k1:∀ h h',U1 h->(∀ b o,b∉[z,TI,TO,i1,i2]->h.get? b=some o->h'.get? b=some o)->U1 h')
  (q1:∀ h h',T1 h->(∀ o,h.get? i1=some o->h'.get? i1=some o)->T1 h')
  (hd:(∀ (A:Around) (s:Shared) (Q:Value->Shared->Prop) (E:Value->Shared->Prop),A.handled=none->U1 s.heap->T1 s.heap->(∀ h' e,Heap.ExtBut i1 s.heap h'->(∃ o,h'.get? e=some o/\o.cls=.type "StopIteration")->E (.ref e) { s with heap:=h' })->wpAny 0xD A (Builtin.SmallTypes.nextOf (.ref i1)) Q E s) \/
   ((∀ (A:Around) (s:Shared) (Q:Value->Shared->Prop) (E:Value->Shared->Prop),U1 s.heap->T1 s.heap->(∀ u h' tk,RelV x u->V1 h'->Heap.SameBut i1 s.heap h'->Q u { s with heap:=h',toks:=tk })->wpAny 0xD A (Builtin.SmallTypes.nextOf (.ref i1)) Q E s) /\
    U2 s.heap/\T2 s.heap/\(∀ h h',U2 h->(∀ b o,b∉[z,TI,TO,i1,i2]->h.get? b=some o->h'.get? b=some o)->U2 h')/\(∀ h h',T2 h->(∀ o,h.get? i2=some o->h'.get? i2=some o)->T2 h') /\
    ∀ (A:Around) (s:Shared) (Q:Value->Shared->Prop) (E:Value->Shared->Prop),A.handled=none->U2 s.heap->T2 s.heap->(∀ h' e,Heap.ExtBut i2 s.heap h'->(∃ o,h'.get? e=some o/\o.cls=.type "StopIteration")->E (.ref e) { s with heap:=h' })->wpAny 0xD A (Builtin.SmallTypes.nextOf (.ref i2)) Q E s))
  (hE:∀ h' tk e,(∀ c o,c≠z->c≠TO->c≠i1->c≠i2->s.heap.get? c=some o->h'.get? c=some o)->(∃ o,h'.get? e=some o/\o.cls=.type "StopIteration")->E (.ref e) { s with heap:=h',toks:=tk }) :
  wpAny 0xD A (Builtin.«zip.__next__» ⟨[.ref z],[]⟩) Q E s:=by
 have mz:∀ {c:Addr},c∉[z,TI,TO,i1,i2]->c≠z/\c≠TO/\c≠i1/\c≠i2:=fun {c} h=>by simp at h;exact ⟨h.1,h.2.2.1,h.2.2.2.1,h.2.2.2.2⟩
 show wpAny _ _ (field (.ref z) 2 >>= _) _ _ _;refine wpAny_bind (wpAny_field hz rfl (x:=.bool false) rfl ?_)
 show wpAny _ _ (field (.ref z) 3 >>= _) _ _ _;refine wpAny_bind (wpAny_field hz rfl (x:=.ref TI) rfl (wpAny_bind (wpAny_seqItems hTI rfl ?_)))
 show wpAny _ _ (Builtin.SmallTypes.ownedTupleIsFree (.ref z) >>= _) _ _ _;refine wpAny_bind ?_;unfold Builtin.SmallTypes.ownedTupleIsFree
 refine wpAny_bind (wpAny_field hz rfl (x:=.none) rfl (wpAny_pure ?_));simp only [if_true];refine wpAny_bind (wpAny_rule (wpAny_bind (wpAny_field hz rfl (x:=.ref TO) rfl (wpAny_bind (wpAny_setField_rec hz 0x5 fun g1 hz1 hs1=>?_)))))
 replace hz1:IsZip g1 z TI TO .ellipsis:=hz1
 refine wpAny_bind ?_;simp only [List.zipIdx_cons,List.zipIdx_nil,List.forIn_cons,List.forIn_nil];refine wpAny_bind (wpAny_bind (wpAny_onRaise ?_));show wpAny _ _ (Builtin.SmallTypes.nextOf (.ref i1) >>= _) _ _ _
 rcases hd with e1 | ⟨d1,u2,t2,k2,q2,e2⟩
 ·refine wpAny_bind (e1 _ _ _ _ hh (k1 _ _ u1 fun c o hc e=>hs1.extBut _ _ (mz hc).1 e) (q1 _ _ t1 fun o e=>hs1.extBut _ _ D.p3 e) fun g2 e hs2 he=>?_);obtain ⟨oe,hoe,hce⟩:=he;have hz2:IsZip g2 z TI TO .ellipsis:=hs2 _ _ D.p3.symm hz1;have nez:e≠z:=fun q=>by subst q;rw [hz2] at hoe;cases hoe;simp at hce
  exact wpAny_setField_rec hz2 0x5 fun g3 _ hs3=>hE g3 _ e (fun c o c1 _ c3 _ q=>hs3.extBut _ _ c1 (hs2 _ _ c3 (hs1.extBut _ _ c1 q))) ⟨oe,hs3.extBut _ _ nez hoe,hce⟩
 ·refine wpAny_bind (d1 _ _ _ _ (k1 _ _ u1 fun c o hc e=>hs1.extBut _ _ (mz hc).1 e) (q1 _ _ t1 fun o e=>hs1.extBut _ _ D.p3 e) fun u g2 tk2 ru t1b hs2=>wpAny_pure ?_);have Qm:IsPair g2 TO a b:=hs2.extBut _ _ D.p8 (hs1.extBut _ _ D.p2 hTO);refine wpAny_bind (wpAny_seqItems Qm rfl (wpAny_bind (wpAny_updateSeq_pair Qm fun g3 V2 hs3=>?_)));refine wpAny_bind (wpAny_letGo (wpAny_pure (wpAny_bind (wpAny_bind (wpAny_onRaise ?_)))));show wpAny _ _ (Builtin.SmallTypes.nextOf (.ref i2) >>= _) _ _ _
  refine wpAny_bind (e2 _ _ _ _ hh (k2 _ _ u2 fun c o hc e=>hs3.extBut _ _ (mz hc).2.1 (hs2.extBut _ _ (mz hc).2.2.1 (hs1.extBut _ _ (mz hc).1 e))) (q2 _ _ t2 fun o e=>hs3.extBut _ _ D.p9.symm (hs2.extBut _ _ D.p0.symm (hs1.extBut _ _ D.p4 e))) fun g4 e Xk he=>?_);obtain ⟨oe,hoe,hce⟩:=he;have hz4:IsZip g4 z TI TO .ellipsis:=Xk _ _ D.p4.symm (hs3.extBut _ _ D.p2.symm (hs2.extBut _ _ D.p3.symm hz1));have nez:e≠z:=fun q=>by subst q;rw [hz4] at hoe;cases hoe;simp at hce
  exact wpAny_setField_rec hz4 0x5 fun g5 _ Xl=>hE g5 _ e (fun c o c1 c2 c3 c4 q=>Xl.extBut _ _ c1 (Xk _ _ c4 (hs3.extBut _ _ c2 (hs2.extBut _ _ c3 (hs1.extBut _ _ c1 q))))) ⟨oe,Xl.extBut _ _ nez hoe,hce⟩
theorem Inv.nfp (I:Inv X pins σ H s) (hf:∀ b∈fp,m7 X pins H b) {u:HO} (e:H b=some u):b∉fp:=fun hb=>by rw [(hf b hb).1] at e;cases e
theorem Inv.ug (I:Inv X pins σ H s) (hf:∀ b∈fp,m7 X pins H b) (k:∀ b o,b∉fp->s.heap.get? b=some o->h'.get? b=some o):Inv X pins σ H { s with heap:=h',toks:=t' }:=by
 refine I.step (g':=s.gens) (d':=s.drawn) (ch:=fp) (fun b hb=>⟨(hf b hb).2.2.2.1,(hf b hb).2.1,(hf b hb).2.2.2.2.1,(hf b hb).2.2.2.2.2⟩) (fun b o _ _ hc e _=>k b o hc e) (fun b o _ _ hc e _=>⟨o.slots,k b o hc e⟩) (fun _ _ _ _ n=>n)
  (fun b o hc e=>⟨o,k b o hc e⟩) (fun _ _ e=>e) (fun _ _ _ e=>e) (fun b ps e=>⟨#[],by rw [e];simp⟩) (fun m hm=>?_) (fun b u e=>?_) I.bare
 ·obtain ⟨o,es,ep,ho,r⟩:=hm;exact ⟨o,es,ep,k _ o (fun z=>(hf _ z).2.1 rfl) ho,r⟩
 ·refine (I.hok b u e).stay (fun c v hc q=>k c v ?_ q) (fun _ q=>q) fun _ _ q=>q;rcases hc with z | z
  ·rw [z];exact I.nfp hf e
  ·exact I.nfp hf z
theorem Inv.uh {p:Addr} (I:Inv X pins σ H s) (hf:∀ b∈fp,m7 X pins H b) (k:∀ b o,b∉fp->s.heap.get? b=some o->h'.get? b=some o) (hp:s.heap.objs.size<=p) (new:cC X.prog X.w (upd H p o) h' p o) :
  Inv X pins σ (upd H p o) { s with heap:=h',toks:=t' }:=by
 have hn:H p=none:=I.hok.fresh hp;refine I.step (g':=s.gens) (d':=s.drawn) (ch:=fp) (fun b hb=>⟨(hf b hb).2.2.2.1,(hf b hb).2.1,(hf b hb).2.2.2.2.1,(hf b hb).2.2.2.2.2⟩) (fun b o _ _ hc e _=>k b o hc e) (fun b o _ _ hc e _=>⟨o.slots,k b o hc e⟩)
  (fun b o _ e n=>by rw [aG (Nat.ne_of_lt (Nat.lt_of_lt_of_le (Heap.lt_size e) hp))];exact n)
  (fun b o hc e=>⟨o,k b o hc e⟩) (fun b xs e=>by rw [aG (aN e hn)];exact e) (fun b u xs e=>by rw [aG (aN e hn)];exact e) (fun b ps e=>⟨#[],by rw [aG (aN e hn),e];simp⟩) (fun m hm=>?_) (fun b u e=>?_) I.bare
 ·obtain ⟨o,es,ep,ho,r⟩:=hm;exact ⟨o,es,ep,k _ o (fun z=>(hf _ z).2.1 rfl) ho,r⟩
 ·by_cases hb:b=p
  ·subst hb;rw [ak] at e;cases e;exact new
  ·rw [aG hb] at e;refine (I.hok b u e).stay (fun c v hc q=>k c v ?_ q) (fun c q=>?_) fun c xs q=>?_
   ·rcases hc with z | z
    ·rw [z];exact I.nfp hf e
    ·exact I.nfp hf z
   ·first
     | (rw [aG (aN q hn)];exact q)
     | exact q
   ·first
     | (rw [aG (aN q hn)];exact q)
     | exact q
def YZ (g1 g2 s1 s2:Nat->Hp->Prop) (y1 y2:Nat->Hp->V->Prop):It :=
 ⟨fun i H=>g1 i H/\g2 i H,fun i H v H'=>∃ p x y,v=.ref p/\H p=none/\H'=upd H p (.tup [x,y])/\y1 i H x/\y2 i H y,fun i H=>s1 i H\/(g1 i H/\s2 i H)⟩
theorem Qn {z TI TO:Addr}{g1 g2 s1 s2:Nat->Hp->Prop}{y1 y2:Nat->Hp->V->Prop}{t1 t2:Nat->Heap->Prop} (D:ZA z TI TO i1 i2)
  (S1:vp P w K i1 g1 s1 y1 t1) (S2:vp P w K i2 g2 s2 y2 t2) :
  Turn P w K (.Tuple elts x1 tp) (YZ g1 g2 s1 s2 y1 y2) [z,TI,TO,i1,i2] z (fun i h=>IsZip h z TI TO .none/\IsPair h TI (.ref i1) (.ref i2)/\(∃ a b,IsPair h TO a b)/\t1 i h/\t2 i h) where
 mem:=by simp
 obj:=fun i h ⟨hz,hTI,⟨a,b,hTO⟩,st1,st2⟩ c hc=>by
  simp only [List.mem_cons,List.not_mem_nil,or_false] at hc;rcases hc with rfl | rfl | rfl | rfl | rfl
  ·exact ⟨_,hz,fun v e=>by cases e⟩
  ·exact ⟨_,hTI,fun v e=>by cases e⟩
  ·exact ⟨_,hTO,fun v e=>by cases e⟩
  ·exact S1.obj i h st1
  ·exact S2.obj i h st2
 keep:=fun i h h' ⟨hz,hTI,⟨a,b,hTO⟩,st1,st2⟩ k=>⟨k z 0x5 _ hz,k TI 0x5 _ hTI,⟨a,b,k TO 0x5 _ hTO⟩,S1.keep _ _ _ st1 fun o e=>k i1 0x5 o e,S2.keep _ _ _ st2 fun o e=>k i2 0x5 o e⟩
 item:=by
  intro X hP hw hK hc i pins s σ H E I hf ⟨hz,hTI,⟨a,b,hTO⟩,st1,st2⟩ ⟨hg1,hg2⟩;obtain ⟨U1,u1,k1,x,hx,d1⟩:=S1.item X pins σ H s i [z,TI,TO,i1,i2] hP hw hK I hf hg1;obtain ⟨U2,u2,k2,y,hy,d2⟩:=S2.item X pins σ H s i [z,TI,TO,i1,i2] hP hw hK I hf hg2;subst hP hw hK;have hT:s.TypeIs (.ref z) "zip":=⟨_,hz,rfl⟩;unfold pyNext;refine wpAny_bind (wpAny_attempt (wpAny_callSpecial?_slot (name:=Str.ofString "__next__") hT F.slot_zip_next (wpAny_call_entry F.slot_zip_next hT F.entry_zip_next
   (V0 (x:=x) (y:=y) D hz hTI hTO u1 u2 st1 st2 k1 k2 (S1.keep i) (S2.keep i) (S1.keep (i+1)) (S2.keep (i+1)) d1 d2 fun u v h' tk ru rv hz' hTI' hTO' st1' st2' hp kk=>wpAny_pure ⟨_,rfl,?_⟩) (F.args_zip_next_1 _))))
  refine wpAny_letOwnedTupleGo_zip hz' fun h2 hz2 sb=>?_;have lt:∀ {c o},s.heap.get? c=some o->c≠s.heap.objs.size:=fun e=>Nat.ne_of_lt (Heap.lt_size e);have nz:z≠s.heap.objs.size:=lt hz;have kk2:∀ c o,c∉[z,TI,TO,i1,i2]->s.heap.get? c=some o->h2.get? c=some o:=fun c o hc e=>by
   simp only [List.mem_cons,List.not_mem_nil,or_false,not_or] at hc;exact sb.extBut _ _ hc.1 (kk c o hc.1 hc.2.2.1 hc.2.2.2.1 hc.2.2.2.2 e)
  have hp2:IsPair h2 s.heap.objs.size u v:=sb.extBut _ _ nz.symm hp;refine ⟨.ref s.heap.objs.size,_,I.uh (o:=.tup [x,y]) hf kk2 0x9 ⟨iZ 0x5 |> Nat.le_of_lt,[u,v],.cons ru (.cons rv .nil),⟨_,hp2,rfl,_,rfl⟩⟩,rfl,⟨_,x,y,rfl,I.fresh,rfl,hx,hy⟩,⟨hz2,sb.extBut _ _ D.p1 hTI',⟨_,_,sb.extBut _ _ D.p2 hTO'⟩,S1.keep _ _ _ st1' fun o e=>sb.extBut _ _ D.p3 e,S2.keep _ _ _ st2' fun o e=>sb.extBut _ _ D.p4 e⟩,fun c hc=>?_⟩;have:∃ o,s.heap.get? c=some o:=by
   simp only [List.mem_cons,List.not_mem_nil,or_false] at hc;rcases hc with rfl | rfl | rfl | rfl | rfl
   ·exact ⟨_,hz⟩
   ·exact ⟨_,hTI⟩
   ·exact ⟨_,hTO⟩
   ·obtain ⟨o,e,_⟩:=S1.obj _ _ st1;exact ⟨o,e⟩
   ·obtain ⟨o,e,_⟩:=S2.obj _ _ st2;exact ⟨o,e⟩
  obtain ⟨o,e⟩:=this;rw [aG (lt e)];exact (hf c hc).1
 done:=by
  intro X hP hw hK hc i pins s σ H E I hf ⟨hz,hTI,⟨a,b,hTO⟩,st1,st2⟩ hs;have hT:s.TypeIs (.ref z) "zip":=⟨_,hz,rfl⟩;have fin:∀ (h':Heap) (tk:Nat),(∀ c o,c≠z->c≠TO->c≠i1->c≠i2->s.heap.get? c=some o->h'.get? c=some o)->Inv X pins σ H { s with heap:=h',toks:=tk }:=fun h' tk kk=>I.ug hf fun c o hc e=>by
   simp only [List.mem_cons,List.not_mem_nil,or_false,not_or] at hc;exact kk c o hc.1 hc.2.2.1 hc.2.2.2.1 hc.2.2.2.2 e
  have hh:=I.ok.hd hc;rcases hs with hs1 | ⟨hg1,hs2⟩
  ·obtain ⟨U1,u1,k1,d1⟩:=S1.done X pins σ H s i [z,TI,TO,i1,i2] hP hw hK I hf hs1;subst hP hw hK;unfold pyNext;refine wpAny_bind (wpAny_attempt (wpAny_callSpecial?_slot (name:=Str.ofString "__next__") hT F.slot_zip_next (wpAny_call_entry F.slot_zip_next hT F.entry_zip_next
    (CG (x:=.non) (U2:=fun _=>True) (T2:=fun _=>True) (V1:=fun _=>True) hh D hz hTI hTO u1 st1 k1 (S1.keep i) (.inl d1) fun h' tk e kk he=>?_) (F.args_zip_next_1 _))))
   obtain ⟨o,ho,hc'⟩:=he;exact wpAny_bind (wpAny_isInstance (T:="StopIteration") (b:=true) ⟨o,ho,hc'⟩ isSubtype_stop (wpAny_pure ⟨rfl,fin _ _ kk⟩))
  ·obtain ⟨U1,u1,k1,x,hx,d1⟩:=S1.item X pins σ H s i [z,TI,TO,i1,i2] hP hw hK I hf hg1;obtain ⟨U2,u2,k2,d2⟩:=S2.done X pins σ H s i [z,TI,TO,i1,i2] hP hw hK I hf hs2;subst hP hw hK;unfold pyNext;refine wpAny_bind (wpAny_attempt (wpAny_callSpecial?_slot (name:=Str.ofString "__next__") hT F.slot_zip_next (wpAny_call_entry F.slot_zip_next hT F.entry_zip_next
    (CG (x:=x) (V1:=t1 (i+1)) hh D hz hTI hTO u1 st1 k1 (S1.keep i) (.inr ⟨d1,u2,st2,k2,S2.keep i,d2⟩) fun h' tk e kk he=>?_) (F.args_zip_next_1 _))))
   obtain ⟨o,ho,hc'⟩:=he;exact wpAny_bind (wpAny_isInstance (T:="StopIteration") (b:=true) ⟨o,ho,hc'⟩ isSubtype_stop (wpAny_pure ⟨rfl,fin _ _ kk⟩))
 self:=fun _ _ _ _ _ st h=>wpAny_pyIter_zip st.1 h
theorem Ni (v1 v2:Value) (o1 o2:Obj) (U:Heap->Prop) (hU:∀ h o,U h->U (h.push o))
  (h1:∀ (prog:Program) (w:World) (A:Around) (Q:Value->Shared->Prop) (E:Value->Shared->Prop) (s:Shared),U s.heap->Q (.ref s.heap.objs.size) { s with heap:=s.heap.push o1 }->wpAny 0xD A (pyIter v1) Q E s)
  (h2:∀ (prog:Program) (w:World) (A:Around) (Q:Value->Shared->Prop) (E:Value->Shared->Prop) (s:Shared),U s.heap->Q (.ref s.heap.objs.size) { s with heap:=s.heap.push o2 }->wpAny 0xD A (pyIter v2) Q E s) :
  Meets (Builtin.«zip.__new__» ⟨[.type "zip",v1,v2],[]⟩) (fun _ R s=>U s.heap /\
   R (.ok (.ret (.ref ((((s.heap.push o1).push o2).push { cls:=.type "tuple",data:=.seq #[.ref s.heap.objs.size,.ref (s.heap.push o1).objs.size] }).push { cls:=.type "tuple",data:=.seq #[.none,.none] }).objs.size)))
    { s with heap:=((((s.heap.push o1).push o2).push { cls:=.type "tuple",data:=.seq #[.ref s.heap.objs.size,.ref (s.heap.push o1).objs.size] }).push { cls:=.type "tuple",data:=.seq #[.none,.none] }).push { cls:=.type "zip",data:=.fields #[.none,.bool false,.bool false,.ref ((s.heap.push o1).push o2).objs.size,.ref (((s.heap.push o1).push o2).push { cls:=.type "tuple",data:=.seq #[.ref s.heap.objs.size,.ref (s.heap.push o1).objs.size] }).objs.size] } }) :=
 .of_wp fun prog w A R s h=>by
  obtain ⟨hp,g,d,tk,os⟩:=s;obtain ⟨hu,h⟩:=h;have hsub:=sub_zip;have hu2:U (hp.push o1):=hU _ _ hu
  wp_walk using h1 prog w _ _ _ ⟨hp,g,d,tk,os⟩ hu,h2 prog w _ _ _ ⟨hp.push o1,g,d,tk,os⟩ hu2
  exact ⟨_,rfl,h⟩
theorem um (x:Str) (t:Tok) (it:Addr) (ty:String)
  (d:∀ (A:Around),A.handled=none->Draws P w A it [it] x.cps.size (fun i v=>∃ c u,x.cps[i]?=some c/\v=.str ⟨#[c]⟩ u) (fun i h=>h.IsStrIter it ty x t i))
  (d':∀ (A:Around) (i c:Nat) (s:Shared) (Q:Value->Shared->Prop) (E:Value->Shared->Prop),s.heap.IsStrIter it ty x t i->x.cps[i]?=some c->(∀ h',h'.IsStrIter it ty x t (i+1)->Heap.SameBut it s.heap h'->Q (.str ⟨#[c]⟩ s.toks) { s with heap:=h',toks:=s.toks+1 })->wpAny (model P w) A (Builtin.SmallTypes.nextOf (.ref it)) Q E s)
  (e':∀ (A:Around) (i:Nat) (s:Shared) (Q:Value->Shared->Prop) (E:Value->Shared->Prop),A.handled=none->s.heap.IsStrIter it ty x t i->x.cps[i]?=none->(∀ h' e,Heap.ExtBut it s.heap h'->(∃ o,h'.get? e=some o/\o.cls=.type "StopIteration")->E (.ref e) { s with heap:=h' })->wpAny (model P w) A (Builtin.SmallTypes.nextOf (.ref it)) Q E s) :
  vp P w K it (fun i _=>i<x.cps.toList.length) (fun i _=>x.cps.toList.length<=i) (fun i _ v=>∃ c,x.cps.toList[i]?=some c/\v=.str (dR [c])) (fun i h=>h.IsStrIter it ty x t i) where
 obj:=fun i h ⟨o,e,c,dd⟩=>⟨o,e,fun v z=>by rw [dd] at z;cases z⟩
 keep:=fun i h h' ⟨o,e,r⟩ k=>⟨o,k o e,r⟩
 item:=fun X pins σ H s₀ i fp hP hw hK I hf hg=>by
  have hi:i<x.cps.size:=by simpa using hg
  refine ⟨fun _=>True,trivial,fun _ _ _ _=>trivial,.str (dR [x.cps[i]]),⟨x.cps[i],by simp [hi],rfl⟩,fun A s Q E _ st hQ=>?_⟩;exact d' A i x.cps[i] s Q E st (by simp [hi]) fun h' st' sb=>hQ _ h' _ ⟨_,rfl⟩ st' sb
 done:=fun X pins σ H s₀ i fp hP hw hK I hf hg=>by
  have hi:x.cps.size<=i:=by simpa using hg
  exact ⟨fun _=>True,trivial,fun _ _ _ _=>trivial,fun A s Q E hh _ st hE=>e' A i s Q E hh st (by simpa using hi) hE⟩
section
theorem pq {R:It->Hp->Prop}{v1 v2:Value}{o1 o2:Obj}{U:Heap->Prop}{g1 g2 s1 s2:Nat->Hp->Prop}{y1 y2:Nat->Hp->V->Prop}{t1 t2:Nat->Heap->Prop} (I:Inv X pins σ H s)
  (hu:U s.heap) (hU:∀ h o,U h->U (h.push o))
  (h1:∀ (prog:Program) (w:World) (A:Around) (Q:Value->Shared->Prop) (E:Value->Shared->Prop) (s:Shared),U s.heap->Q (.ref s.heap.objs.size) { s with heap:=s.heap.push o1 }->wpAny 0xD A (pyIter v1) Q E s)
  (h2:∀ (prog:Program) (w:World) (A:Around) (Q:Value->Shared->Prop) (E:Value->Shared->Prop) (s:Shared),U s.heap->Q (.ref s.heap.objs.size) { s with heap:=s.heap.push o2 }->wpAny 0xD A (pyIter v2) Q E s)
  (S1:vp X.prog X.w X.K s.heap.objs.size g1 s1 y1 t1) (S2:vp X.prog X.w X.K 0x12 g2 s2 y2 t2) (b1:∀ h:Heap,h.get? s.heap.objs.size=some o1->t1 0 h) (b2:∀ h:Heap,h.get? 0x12=some o2->t2 0 h) (f1:o1.isFreed=false) (f2:o2.isFreed=false)
  (q:R (YZ g1 g2 s1 s2 y1 y2) H):wpAny 0x7 X.A (call (.type "zip") [v1,v2]) (fun v s1=>wpAny 0x7 X.A (pyIter v) (PIE X pins σ (.Tuple elts x1 tp) R) E s1) E s:=by
 refine callType_new F.called_zip 0x8 (F.typeCall_zip_2 _ _) (F.newCall_zip_2 _ _) (fun obj=>F.args_object_init_3 obj _ _) F.entry_zip_new (Ni v1 v2 o1 o2 U hU h1 h2) ⟨hu,?_⟩;generalize hG1:s.heap.push o1=G1;have z1:G1.objs.size=s.heap.objs.size+1:=by rw [<- hG1];exact Heap.size_push ..
 generalize hG2:G1.push o2=G2;have z2:G2.objs.size=s.heap.objs.size+2:=by rw [<- hG2,Heap.size_push,z1]
 rw [z1,z2];generalize hG3:G2.push { cls:=.type "tuple",data:=.seq #[.ref s.heap.objs.size,.ref 0x12] }=G3;have z3:G3.objs.size=s.heap.objs.size+3:=by rw [<- hG3,Heap.size_push,z2]
 rw [z3];generalize hG4:G3.push { cls:=.type "tuple",data:=.seq #[.none,.none] }=G4;have z4:G4.objs.size=s.heap.objs.size+4:=by rw [<- hG4,Heap.size_push,z3]
 rw [z4];generalize hG5:G4.push { cls:=.type "zip",data:=.fields #[.none,.bool false,.bool false,.ref (s.heap.objs.size+2),.ref (s.heap.objs.size+3)] }=G5;have e5:IsZip G5 (s.heap.objs.size+4) (s.heap.objs.size+2) (s.heap.objs.size+3) .none:=by rw [<- z4,<- hG5];exact Heap.get?_push_size _ rfl
 have e4:IsPair G5 (s.heap.objs.size+3) .none .none:=by rw [<- z3,<- hG5];exact Heap.get?_push_of_some _ (by rw [<- hG4];exact Heap.get?_push_size _ rfl)
 have e3:IsPair G5 (s.heap.objs.size+2) (.ref s.heap.objs.size) (.ref 0x12):=by rw [<- z2,<- hG5];exact Heap.get?_push_of_some _ (by rw [<- hG4];exact Heap.get?_push_of_some _ (by rw [<- hG3];exact Heap.get?_push_size _ rfl))
 have up2:∀ c o,G2.get? c=some o->G5.get? c=some o:=fun c o e=>by rw [<- hG5];exact Heap.get?_push_of_some _ (by rw [<- hG4];exact Heap.get?_push_of_some _ (by rw [<- hG3];exact Heap.get?_push_of_some _ e))
 have e2:G5.get? 0x12=some o2:=up2 _ _ (by rw [<- z1,<- hG2];exact Heap.get?_push_size _ f2);have e1:G5.get? s.heap.objs.size=some o1:=up2 _ _ (by rw [<- hG2];exact Heap.get?_push_of_some _ (by rw [<- hG1];exact Heap.get?_push_size _ f1));have all:∀ c o,s.heap.get? c=some o->G5.get? c=some o:=fun c o e=>up2 _ _ (by rw [<- hG2];exact Heap.get?_push_of_some _ (by rw [<- hG1];exact Heap.get?_push_of_some _ e));refine ⟨⟨_,e5,rfl⟩,wpAny_pyIter_zip e5 ?_⟩;have ne:∀ {m n:Nat},m≠n->s.heap.objs.size+m≠s.heap.objs.size+n:=fun h z=>h (Nat.add_left_cancel z);refine ⟨_,_,_,_,H,rfl,I.kept (t':=s.toks) all,Qn ⟨ne 0x8,ne 0x8,ne (m:=0) 0x8,ne 0x8,ne 0x8,ne (n:=0) 0x8,ne 0x8,ne (n:=0) 0x8,ne 0x8,ne (m:=0) 0x8⟩ S1 S2,⟨e5,e3,⟨_,_,e4⟩,b1 _ e1,b2 _ e2⟩,fun b hb=>?_,q⟩;have hle:s.heap.objs.size<=b:=by
  simp only [List.mem_cons,List.not_mem_nil,or_false] at hb;rcases hb with rfl | rfl | rfl | rfl | rfl <;> lia
 exact I.uR hle (I.hok.fresh hle)
abbrev JH (K:PySem.W.Frag) (a b:Addr):It:=YZ (fun i H=>∃ xs x,dG K H a xs/\xs[i]?=some x) (fun i H=>∃ xs x,dG K H b xs/\xs[i]?=some x) (fun i H=>∃ xs,dG K H a xs/\xs.length<=i) (fun i H=>∃ xs,dG K H b xs/\xs.length<=i)
 (fun i H x=>∀ xs,dG K H a xs->xs[i]?=some x) (fun i H x=>∀ xs,dG K H b xs->xs[i]?=some x)
abbrev JK (K:PySem.W.Frag) (a b:Addr):It:=YZ (fun i H=>∃ xs x,aZ K H a xs/\xs[i]?=some x) (fun i H=>∃ xs x,aZ K H b xs/\xs[i]?=some x) (fun i H=>∃ xs,aZ K H a xs/\xs.length<=i) (fun i H=>∃ xs,aZ K H b xs/\xs.length<=i)
 (fun i H x=>∀ xs,aZ K H a xs->xs[i]?=some x) (fun i H x=>∀ xs,aZ K H b xs->xs[i]?=some x)
abbrev JL (K:PySem.W.Frag) (a:Addr) (z:Str):It:=YZ (fun i H=>∃ xs x,dG K H a xs/\xs[i]?=some x) (fun i _=>i<z.cps.toList.length) (fun i H=>∃ xs,dG K H a xs/\xs.length<=i) (fun i _=>z.cps.toList.length<=i)
 (fun i H x=>∀ xs,dG K H a xs->xs[i]?=some x) (fun i _ v=>∃ c,z.cps.toList[i]?=some c/\v=.str (dR [c]))
inductive CJ (K:PySem.W.Frag) (R:It->Hp->Prop) (vs:List V) (H1:Hp):Prop
 | mk (a b:Addr) (_:vs=[.ref a,.ref b]) (_:(∃ xs,dG K H1 a xs)) (_:(∃ xs,dG K H1 b xs)) (_:R (JH K a b) H1):CJ K R vs H1
def Z0 (K:PySem.W.Frag) (ta:TA):TI:=fun σ H R=>ta σ H fun vs H1=>CJ K R vs H1
inductive CK (K:PySem.W.Frag) (R:It->Hp->Prop) (vs:List V) (H1:Hp):Prop
 | mk (a b:Addr) (_:vs=[.ref a,.ref b]) (_:(∃ xs,aZ K H1 a xs)) (_:(∃ xs,aZ K H1 b xs)) (_:R (JK K a b) H1):CK K R vs H1
def Z1 (K:PySem.W.Frag) (ta:TA):TI:=fun σ H R=>ta σ H fun vs H1=>CK K R vs H1
inductive CN (K:PySem.W.Frag) (R:It->Hp->Prop) (vs:List V) (H1:Hp):Prop
 | mk (a:Addr) (z:Str) (_:vs=[.ref a,.str z]) (_:(∃ xs,dG K H1 a xs)) (_:R (JL K a z) H1):CN K R vs H1
def Z2 (K:PySem.W.Frag) (ta:TA):TI:=fun σ H R=>ta σ H fun vs H1=>CN K R vs H1
variable {a b:Expr}{ta:TA}
theorem CP (hg:Gl X "zip") (hm:X.mg "zip"=none) (ha:PA X [a,b] ta) (hs:starEach [a,b] X.env=[(false,eval a X.env),(false,eval b X.env)]:=by rfl) (hs2:starEach [b] X.env=[(false,eval b X.env)]:=by rfl) :
  PI X (.Tuple elts x1 tp) (.Call (.Name "zip" p) [a,b] [] pos) (Z0 X.K ta):=by
 intro pins s σ H R I h;refine Call_ (gC I hg hm vo 0xC);obtain ⟨c,d,rfl,⟨xs,hx⟩,⟨ys,hy⟩,q⟩:=q1;obtain ⟨u,u',rfl,ru,Ge⟩:=vals2 r1;cases ru;cases Ge;obtain ⟨its,rv,p1,_⟩:=I1.tuple hx;obtain ⟨its2,rv2,p2,_⟩:=I1.tuple hy;exact pq (U:=fun h=>h.IsTuple c its.toArray/\h.IsTuple d its2.toArray) I1 ⟨p1,p2⟩ 0x2C
  (fun prog w A Q E s hu hQ=>wpAny_pyIter_tuple hu.1 hQ) (fun prog w A Q E s hu hQ=>wpAny_pyIter_tuple hu.2 hQ) (qm c _) (qm d _) (fun h e=>⟨_,e,rfl,rfl⟩) (fun h e=>⟨_,e,rfl,rfl⟩) rfl rfl q
theorem Qo (hg:Gl X "zip") (hm:X.mg "zip"=none) (ha:PA X [a,b] ta) (hs:starEach [a,b] X.env=[(false,eval a X.env),(false,eval b X.env)]:=by rfl) (hs2:starEach [b] X.env=[(false,eval b X.env)]:=by rfl) :
  PI X (.Tuple elts x1 tp) (.Call (.Name "zip" p) [a,b] [] pos) (Z1 X.K ta):=by
 intro pins s σ H R I h;refine Call_ (gC I hg hm vo 0xC);obtain ⟨c,d,rfl,⟨xs,hx⟩,⟨ys,hy⟩,q⟩:=q1;obtain ⟨u,u',rfl,ru,Ge⟩:=vals2 r1;cases ru;cases Ge;obtain ⟨its,rv,p1,_⟩:=I1.list hx;obtain ⟨its2,rv2,p2,_⟩:=I1.list hy;exact pq (U:=fun h=>h.IsList c its.toArray/\h.IsList d its2.toArray) I1 ⟨p1.isList,p2.isList⟩ 0x2C
  (fun prog w A Q E s hu hQ=>wpAny_pyIter_list hu.1 hQ) (fun prog w A Q E s hu hQ=>wpAny_pyIter_list hu.2 hQ) (qp c _) (qp d _) (fun h e=>⟨_,e,rfl,rfl⟩) (fun h e=>⟨_,e,rfl,rfl⟩) rfl rfl q
end
theorem qt {fx fy:Nat->V}{D:Addr}{k:Nat}{Q:VK} (Pv:Nat->List V->Hp->Prop)
  (hJ:∀ i ys H,Pv i ys H->(i<n->J.go i H/\∀ v H',J.xR i H v H'->∃ p,v=.ref p/\H p=none/\H'=upd H p (.tup [fx i,fy i]))/\(n<=i->J.stop i H)) (h0:Pv 0 [] (upd H1 D (.lst []))) (hD:∀ i ys H,Pv i ys H->H D=some (.lst ys))
  (hs:∀ i ys H p,i<n->Pv i ys H->H p=none->yw D σ k ix g tt te (.ref p) ys (upd H p (.tup [fx i,fy i])) (Pv (i+1))) (hd:∀ ys H,Pv n ys H->Q (.ref D) H):oY J D σ k ix g tt te Q H1:=by
 refine ⟨fun i m ys H=>m=n - i/\i<=n/\Pv i ys H,⟨n,by simp,Nat.zero_le _,h0⟩,?_⟩;rintro i m ys H ⟨rfl,hi,p⟩;refine ⟨hD i ys H p,?_⟩;obtain ⟨h1,h2⟩:=hJ i ys H p
 by_cases hlt:i<n
 ·obtain ⟨hg,hy⟩:=h1 hlt;refine .inr ⟨hg,Pv (i+1),fun zs H' p'=>⟨n - (i+1),by lia,rfl,hlt,p'⟩,fun x H' y=>?_⟩;obtain ⟨q,rfl,hq,rfl⟩:=hy x H' y;exact hs i ys H q hlt p hq
 ·have e:i=n:=by lia
  subst e;exact .inl ⟨h2 0x9,hd ys H p⟩
theorem sW (ha:dG K H a xs) (hb:dG K H b ys) (hl:xs.length=ys.length) :
  (i<xs.length->(JH K a b).go i H/\∀ v H',(JH K a b).xR i H v H'->∃ p,v=.ref p/\H p=none/\H'=upd H p (.tup [xs.getD i .non,ys.getD i .non]))/\(xs.length<=i->(JH K a b).stop i H):=by
 refine 0x1A;rw [e3,iI,iI,e4 xs ha,e5 ys hb];rfl
theorem CQ (ha:aZ K H a xs) (hb:aZ K H b ys) (hl:xs.length=ys.length) :
  (i<xs.length->(JK K a b).go i H/\∀ v H',(JK K a b).xR i H v H'->∃ p,v=.ref p/\H p=none/\H'=upd H p (.tup [xs.getD i .non,ys.getD i .non]))/\(xs.length<=i->(JK K a b).stop i H):=by
 refine 0x1A;rw [e3,iI,iI,e4 xs ha,e5 ys hb];rfl
theorem qu {k:Nat}{t:MF} (hc:X.calm=true) (h:PGs X es t) (hK:X.K=K:=by rfl)
  (hn:(assignEach es X.env).length=n:=by rfl) (hst:(assignEach es X.env).findIdx? (·.1)=none:=by rfl):PG X (.Tuple es k pos) (YB K n t):=hK ▸ fW hc h hn hst
theorem oO:gq X (.type "int") (fun xs H Q=>∃ x n,xs=[.str x]/\PySem.intText? x=some n/\x.length<=640/\Q (.int n) H):=by
 intro pins s σ H xs us Q I r h;obtain ⟨x,n,rfl,hn,hl,q⟩:=h;obtain ⟨u,rfl,t,rfl⟩:=vals1 r;exact PySem.W.KIN.call_text hn hl ⟨.int n,H,I.tok _,⟨_,rfl⟩,q⟩
def qy (n:Nat) (l:List Nat):List Nat:=(List.replicate n l).flatten
theorem CT (l:Array Nat):∀ (n:Nat) (acc:Array Nat),((List.replicate n l).foldl (·++·) acc).toList=acc.toList++qy n l.toList
 | 0,acc=>by simp [qy]
 | n+1,acc=>by
  rw [List.replicate_succ,List.foldl_cons,CT l n];simp [qy,List.replicate_succ]
theorem V4 (n:Nat) (l:List Nat):(qy n l).length=n * l.length:=by
 unfold qy
 induction n with
 | zero=>simp
 | succ n ih=>rw [List.replicate_succ,List.flatten_cons,jA,ih,Nat.succ_mul];lia
theorem GQ:kZ X (binaryOp .Mult) (fun x y H Q=>∃ z n,x=.str z/\y=.int n/\0<=n/\n<=1000/\z.length<=1000/\Q (.str (dR (qy n.toNat z.cps.toList))) H):=by
 intro pins s σ H x y v u Q I rx ry h;obtain ⟨z,n,rfl,rfl,h0,h1,hz,q⟩:=h;obtain ⟨t,rfl⟩:=rx;obtain ⟨t',rfl⟩:=ry;have hl:z.length * n.toNat<=1000000:=Nat.le_trans (Nat.mul_le_mul hz (show n.toNat<=1000 by lia)) 0x8
 have hsl:z.length * n.toNat<=sizeLine:=Nat.le_trans hl 0x8;refine PySem.P.mul_str (by rw [decide_eq_false 0x1,decide_eq_false 0x1];rfl) (fun hn _=>?_) (fun _ _=>by unfold Builtin.Str.tooLong;simp;lia) ?_
 ·have:(1000:Int)<=(2 ^ 63 - 1) / n:=Int.le_ediv_of_mul_le 0x1 0x1;lia
 ·by_cases hn:n<1
  ·rw [if_pos hn];have e:n.toNat=0:=by lia
   refine ⟨by decide,.str _,H,I.tok _,⟨_,rfl⟩,?_⟩;have e2:dR (qy n.toNat z.cps.toList)=Str.empty:=by rw [e];rfl
   rw [<- e2];exact q
  ·rw [if_neg hn]
   by_cases hc:(n==1||z.length==0)=true
   ·rw [if_pos hc];refine ⟨.str z,H,I,⟨t,rfl⟩,?_⟩;have e2:dR (qy n.toNat z.cps.toList)=z:=by
     rcases Bool.or_eq_true_iff.mp hc with e | e
     ·have e':n=1:=by simpa using e
      subst e';simp [qy,mq]
     ·have e':z.cps.toList=[]:=by
       have:z.length=0:=by simpa using e
       simp only [Str.length] at this
       simpa using this
      have:∀ k,qy k ([]:List Nat)=[]:=fun k=>by simp [qy]
      rw [e',this,<- e',mq]
    rw [<- e2];exact q
   ·rw [if_neg hc];have e2:(⟨(List.replicate n.toNat z.cps).foldl (·++·) #[]⟩:Str)=dR (qy n.toNat z.cps.toList):=UW (by
     show ((List.replicate n.toNat z.cps).foldl (·++·) #[]).toList=_
     rw [CT];simp)
    rw [e2];refine ⟨?_,.str _,H,I.tok _,⟨_,rfl⟩,q⟩;rw [gK,V4];have:z.cps.toList.length=z.length:=by simp [Str.length]
    rw [this,Nat.mul_comm];exact hsl
mutual
inductive fB (H:Hp):V->PyData->Prop
 | non:fB H .non .none
 | bl (b:_):fB H (.bl b) (.bool b)
 | int (i:_):fB H (.int i) (.int i)
 | str (x:_):fB H (.str x) (.str x)
 | lst {p xs ds:_}:H p=some (.lst xs)->dw H xs ds->fB H (.ref p) (.list ds)
 | tup {p xs ds:_}:H p=some (.tup xs)->dw H xs ds->fB H (.ref p) (.tuple ds)
inductive dw (H:Hp):List V->List PyData->Prop
 | nil:dw H [] []
 | cons {v vs d ds:_}:fB H v d->dw H vs ds->dw H (v::vs) (d::ds)
end
mutual
theorem fB.same {H H':Hp} (s:Same H H'):∀ {v:V}{d:PyData},fB H v d->fB H' v d
 | _,_,.non=>.non
 | _,_,.bl b=>.bl b
 | _,_,.int i=>.int i
 | _,_,.str x=>.str x
 | _,_,.lst h r=>.lst (s _ _ h) (dw.same s r)
 | _,_,.tup h r=>.tup (s _ _ h) (dw.same s r)
theorem dw.same {H H':Hp} (s:Same H H'):∀ {vs:List V}{ds:List PyData},dw H vs ds->dw H' vs ds
 | _,_,.nil=>.nil
 | _,_,.cons h r=>.cons (fB.same s h) (dw.same s r)
end
mutual
theorem fB.reads (I:Inv X pins σ H s):∀ {v:V}{d:PyData}{u:Value},fB H v d->RelV v u->∃ as,Reads s.heap u d as
 | _,_,_,.non,r=>by cases r;exact ⟨_,.none⟩
 | _,_,_,.bl b,r=>by cases r;exact ⟨_,.bool b⟩
 | _,_,_,.int i,r=>by obtain ⟨t,rfl⟩:=r;exact ⟨_,.int i t⟩
 | _,_,_,.str x,r=>by obtain ⟨t,rfl⟩:=r;exact ⟨_,.str x t⟩
 | _,_,_,.lst h q,r=>by
  cases r;obtain ⟨_,its,n,rv,e⟩:=(I.hok _ _ h);obtain ⟨as,ra⟩:=dw.reads I q rv;exact ⟨_,.list e rfl rfl (by simpa using ra)⟩
 | _,_,_,.tup h q,r=>by
  cases r;obtain ⟨_,its,rv,o,e,c,n,dd⟩:=(I.hok _ _ h);obtain ⟨as,ra⟩:=dw.reads I q rv;exact ⟨_,.tuple e c dd (by simpa using ra)⟩
theorem dw.reads (I:Inv X pins σ H s):∀ {vs:List V}{ds:List PyData}{us:List Value},dw H vs ds->Vals vs us->∃ as,ReadsAll s.heap us ds as
 | _,_,_,.nil,r=>by cases r;exact ⟨_,.nil⟩
 | _,_,_,.cons h q,r=>by
  cases r with
  | cons r1 r2 =>
   obtain ⟨as,ra⟩:=fB.reads I h r1;obtain ⟨bs,rb⟩:=dw.reads I q r2;exact ⟨_,.cons ra rb⟩
end
inductive Qp (x y:V) (H:Hp) (Q:VK):Prop
 | mk (dx dy:PySem.PyData) (_:fB H x dx) (_:fB H y dy) (_:dx.canLay0=true) (_:dy.canLay0=true) (_:dx.depth<=8) (_:Q (.bl (!PyData.eqv dx dy)) H):Qp x y H Q
def V5:R2:=fun x y H Q=>Qp x y H Q
theorem vA (hu:X.A.units+64<cLine):kZ X (compareOp .NotEq) V5:=by
 intro pins s σ H x y v u Q I rx ry h;obtain ⟨dx,dy,h1,h2,c1,c2,dp,q⟩:=h;obtain ⟨as,ra⟩:=h1.reads I rx;obtain ⟨bs,rb⟩:=h2.reads I ry;exact SeqAt.compareNe_reads ra rb c1 c2 0x1 ⟨.bl _,H,I,rfl,q⟩
open PySem.W PySem.Builtin.ObjectAttr PySem.Builtin.Getset_descriptor
structure XC (K:PySem.W.Frag) (D:Addr):Prop where
 ga:findIn K (.ref D) "__getattribute__"=some (some (.builtin "BaseException.__getattribute__"))
 gh:findIn K (.ref D) "__getattr__"=some none
 cl:(clsIn K D).isSome=true
 ca:findIn K (.ref D) "__class__"=some (some 0x2D)
 gs:specialIn K 0x2D "__get__"=some (some (.builtin "getset_descriptor.__get__"))
 tk:takesIn K 0x2D=some true
 ob:mroIn K D (.type "object")=some true
 be:mroIn K D (.type "BaseException")=some true
inductive Xm (x D:Addr) (h:PySem.Heap):Prop
 | mk (o:Obj) (_:h.get? x=some o) (_:o.cls=.ref D):Xm x D h
def Ul (x D:Addr) (h:Heap):Prop:=Xm x D h
theorem Ul.ty {M:Model}{x D:Addr} (I:Ul x D h):Looks M h (typeOf (.ref x)) (.ref D):=by
 obtain ⟨o,e,c⟩:=I;exact c ▸ (Looks.ld e).andThen .now
section
variable {x D:Addr}
theorem Qq {M:Model} (C:XC K D) (X:K.In h):Looks M h (find (.ref x) (.ref D) "__class__") (.bind (.builtin "getset_descriptor.__get__") 0x2D):=by
 have L1:=looks_findIn (M:=M) X C.ca;have L2:Looks M h (getOf (some 0x2D)) _:=looks_specialIn X C.gs;have L3:=looks_takesIn (M:=M) X C.tk;exact L1.andThen (L2.andThen ((show Looks M h (dataDescriptor? (some _) (some _)) (some (_,_)) from L3.andThen .now).andThen (Looks.tag .now)))
theorem V6 {tp:Value}{R:Result->Shared->Prop} (C:XC K D) (X:K.In s.heap) (I:Ul x D s.heap) (h:R (.ok (.ret (.ref D))) s) :
  codeAny 0xD A (.call (.builtin "getset_descriptor.__get__") ⟨[.builtin "object.__class__",.ref x,tp],[]⟩) R s:=by
 obtain ⟨hh,g,dr,t,os⟩:=s;have L0:=I.ty (M:=model prog w);have L1:=looks_mroIn (M:=model prog w) X C.ob;refine codeAny_call_builtin KF.slot_gs.plain KF.entry_gs (KF.slot_gs.check _ _ _ _ _ _ _ _ KF.type_class (KF.args_gs _ _ _) ?_);unfold Builtin.«getset_descriptor.__get__» descrGet;rw [dga_obj];refine wpAny_bind (wpAny_pure ?_);unfold descrGetter descrCheckInstance descrNameAndClass isInstance;simp only [KF.owner_class]
 repeat lk
 refine ⟨Code.quiet_builtin _ 0x4,codeAny_builtin KF.entry_class ?_⟩;unfold Builtin.«object.__class__» shownTypeOf
 repeat lk
 exact h
theorem Nj {tk:Tok}{Q:Fin->Shared->Prop} (C:XC K D) (X:K.In s.heap) (I:Ul x D s.heap) (h:Q (.done (.ret (.ref D))) s) :
  wpAny 0xD A (Builtin.«object.__getattribute__» ⟨[.ref x,.str "__class__" tk],[]⟩) Q E s:=by
 obtain ⟨hh,g,d,t,os⟩:=s;have L0:=I.ty (M:=model prog w);have L1:=Qq (M:=model prog w) (x:=x) C X;unfold Builtin.«object.__getattribute__»;refine wpAny_bind (wpAny_pure (wpAny_bind (wpAny_pure (wpAny_bind (L0.at (wpAny_bind (L1.at ?_)))))))
 show wpAny _ _ (holding [.builtin "object.__class__"] (call (.builtin "getset_descriptor.__get__") [.builtin "object.__class__",.ref x,.ref D]) >>= ret) _ _ _
 exact wpAny_bind (wpAny_holding (wpAny_call (V6 (s:=⟨hh,g,d,t,os⟩) C X I (wpAny_pure h))))
theorem yD {nameV:Value}{Q:Unit->Shared->Prop} (C:XC K D) (X:K.In s.heap) (I:Ul x D s.heap) (hq:Q () s) :
  wpAny 0xD A (checkBuiltinCall "BaseException.__getattribute__" ⟨[.ref x,nameV],[]⟩) Q E s:=by
 obtain ⟨hh,g,d,t,os⟩:=s;have hk:builtinKind "BaseException.__getattribute__"=some .slot:=by decide +kernel
 have hsplit:splitId "BaseException.__getattribute__"=some ("BaseException", "__getattribute__"):=by decide +kernel
 have L0:=I.ty (M:=model prog w);have LI:Looks 0xD hh (isInstance (.ref x) (.type "BaseException")) true:=L0.andThen (looks_mroIn X C.be);have ha:=F.args_bexc_ga (.ref x) nameV;simp only [checkBuiltinCall,hk,hsplit];refine wpAny_bind (LI.at ?_)
 repeat (any_goals (first | assumption | wp_step))
theorem Nk {Q:Option Value->Shared->Prop} (C:XC K D) (X:K.In s.heap) (I:Ul x D s.heap) (h:Q (some (.ref D)) { s with toks:=s.toks+1 }) :
  wpAny 0xD A (getAttr? (.ref x) "__class__") Q E s:=by
 obtain ⟨hh,g,d,t,os⟩:=s;have L0:=I.ty (M:=model prog w);have L1:=looks_findIn (M:=model prog w) X C.ga;have L2:=looks_findIn (M:=model prog w) X C.gh;unfold getAttr? getAttrBy? getAttrBy;refine wpAny_bind (wpAny_mkText (wpAny_bind (wpAny_attempt (wpAny_holding (wpAny_bind (L0.at (wpAny_bind (L1.at ?_))))))))
 show wpAny _ _ (getAttrByItsOwn _ _ _ _ _ _) _ _ _
 unfold getAttrByItsOwn hookBefore;have hon:onTheHeap (Value.ref D)=true:=rfl;rw [if_pos hon];refine wpAny_bind (L2.at (wpAny_bind (wpAny_attempt (wpAny_holding ?_))))
 show wpAny _ _ (boundAndCalled (.builtin "BaseException.__getattribute__") (.ref x) _) _ _ _
 unfold boundAndCalled;have f3:=PySem.F.excAttr_ValueError.ga.bind (.ref x);rw [f3];refine wpAny_bind (wpAny_pure (wpAny_call (codeAny_call_builtin PySem.F.excAttr_ValueError.ga.plain F.entry_bexc_ga (yD (s:=⟨hh,g,d,t+1,os⟩) C X I (Nj (s:=⟨hh,g,d,t+1,os⟩) C X I ?_)))));refine handed_on rfl ?_;exact wpAny_pure h
theorem Qs (C:XC K D):KitX K (.ref x) (.ref D) (Ul x D) where
 ty:=fun _ _ _ I=>I.ty
 it:=fun _ _ X _=>by
  obtain ⟨cdD,hcD⟩:=Option.isSome_iff_exists.mp C.cl;unfold clsIn at hcD
  split at hcD
  ·rename_i c' d' cd' sl' ho
   intro A' Q' E' s' k q;unfold isType loadHead;exact wpAny_bind (wpAny_loadPart (k _ _ (X _ _ ho)) (wpAny_pure q))
  ·cases hcD
 ne:=fun h tp dd its n sl X htp=>by
  obtain ⟨cdD,hcD⟩:=Option.isSome_iff_exists.mp C.cl;refine Bool.eq_false_iff.mpr fun q=>?_;have e:D=tp:=Value.ref.inj (beq_iff_eq.mp q);subst e;unfold clsIn at hcD
  split at hcD
  ·rename_i c' d' cd' sl' ho
   have z:=(X _ _ ho).symm.trans htp;cases z
  ·cases hcD
 ca:=fun X I k=>Nk C X I k
end
def cV:V->Value
 | .ty T=>.type T
 | .ref a=>.ref a
 | _=>.none
structure Fly (B h0 h:Heap) (outer:List Env) (H':Hp) (ea:Addr) (C a0:Value):Prop where
 fl:Heap.FlyingW B outer ea C a0 h
 tr:∀ b o,H' b=some o->∃ u,B.get? b=some u
 old:∀ b o,h0.get? b=some o->b∉frs outer->∃ u,B.get? b=some u
theorem uo {B:Heap} (hok:lV P w H' h) (tr:∀ b o,H' b=some o->∃ u,B.get? b=some u) (b0:B.StaysIn h) (st:B.StaysIn h2):lV P w H' h2:=fun b u q=>by
 have key:∀ c o v,H' c=some o->h.get? c=some v->h2.get? c=some v:=fun c o v q e=>by
  obtain ⟨u,hu⟩:=tr c o q;rw [b0 c u hu] at e;cases e;exact st c _ hu
 refine (hok b u q).stay (fun c v hc e=>?_) (fun _ z=>z) fun _ _ z=>z;rcases hc with rfl | hc
 ·exact key _ _ _ q e
 ·exact key _ _ _ hc e
theorem Ag {h0 B:Heap} (un:Un (frs outer) [] H H' h0 h) (ff:h.FunFrames base outer) (old:∀ b o,h0.get? b=some o->b∉frs outer->∃ u,B.get? b=some u) (b0:B.StaysIn h) (st:B.StaysIn h2) (up:h.UpToSlots h2) :
  Un (frs outer) [] H H' h0 h2 where
 keep:=fun b o e n hb hx=>by
  obtain ⟨u,hu⟩:=old b o e hb;have e1:=un.keep b o e n hb hx;rw [b0 b u hu] at e1;cases e1;exact st b _ hu
 slot:=fun b o e n hb hx=>by
  obtain ⟨sl,e1⟩:=un.slot b o e n hb hx;obtain ⟨_,o',ho',hd⟩:=ff.mem hb;rw [e1] at ho';cases ho';obtain ⟨sl2,e2⟩:=up b _ e1 hd;exact ⟨sl2,e2⟩
 free:=un.free
 there:=fun b o e hx=>by
  by_cases hb:b∈frs outer
  ·obtain ⟨_,o',ho',hd⟩:=ff.mem hb;obtain ⟨sl2,e2⟩:=up b _ ho' hd;exact ⟨_,e2⟩
  ·obtain ⟨u,hu⟩:=old b o e hb;exact ⟨u,st b u hu⟩
 tups:=un.tups
 oV:=un.oV
 pQ:=un.pQ
theorem rE (x:cC P w H h a o):∃ u,h.get? a=some u:=by
 cases o with
 | lst xs=>obtain ⟨_,_,_,_,e⟩:=x;exact ⟨_,e⟩
 | tup xs=>obtain ⟨_,_,_,o,e,_⟩:=x;exact ⟨_,e⟩
 | dK kvs=>obtain ⟨_,_,_,_,o,_,_,e,_⟩:=x;exact ⟨_,e⟩
 | dT kvs=>obtain ⟨_,_,_,_,o,_,_,e,_⟩:=x;exact ⟨_,e⟩
 | set S n=>obtain ⟨o,_,_,_,e,_⟩:=x;exact ⟨_,e⟩
 | ins C dx fs=>obtain ⟨_,_,_,e,_⟩:=x;exact ⟨_,e⟩
 | own y=>exact x
 | xd fs=>obtain ⟨_,⟨o,_,_,e,_⟩,_⟩:=x;exact ⟨_,e⟩
 | met f y=>exact ⟨_,x⟩
 | rng lo hi=>obtain ⟨_,_,_,e⟩:=x;exact ⟨_,e⟩
 | Gb ob u=>exact ⟨_,x.1⟩
 | Us ps=>exact ⟨_,x⟩
 | ext φ=>exact x.2.1
section
variable {E:XK}
end
def Ah (CX:BX) (X:Cx) (E:St->XK):Prop:=∀ (pins:List 0x18) (σ:St) (H:Hp) (s:Shared) (e:Value) (s':Shared),Inv X pins σ H s->CX X.stack H s (E σ) e s'->X.xe e s'
def Z4 (sp:Sp) (jM:List V) (E:St->XK) (t:TA):TE:=fun σ H Q=>t σ H fun vs H1=>sp (vs++jM) H1 Q (E σ)
section
variable {k:Nat}{E:St->XK}{o:Expr}
theorem V7 {Q:VK}{vs:List V} (F:bw X.prog X.w X.K X.mg X.base CX k f fd ps sp) (hr:fM k X.A) (hb:Binds X.K fd ps ds) (hd:Vals jM ds) (hx:Ah CX X E)
  (I:Inv X pins σ H s) (r:Vals vs us) (h:sp (vs++jM) H Q (E σ)):wpAny 0x7 X.A (call (.ref f) us) (EP X pins σ Q) X.xe s:=by
 have r2:Vals (vs++jM) (us++ds):=r.append hd;have hl:(us++ds).length=ps.length:=by rw [<- r2.length];exact F.len _ _ _ _ h
 refine wpAny_call (codeAny_mono (F.run X.A X.stack s H ⟨us,[]⟩ (us++ds) (vs++jM) Q (E σ) hr I.env0 (hb s us I.jV hl) r2 h) fun r s' hq=>?_);cases r with
 | error e=>exact hx pins σ H s e s' I hq
 | ok fl =>
  cases fl with
  | ret u=>exact I.after hq
  | next=>exact False.elim hq
  | brk=>exact False.elim hq
  | cont=>exact False.elim hq
theorem CV (F:bw X.prog X.w X.K X.mg X.base CX k f fd ps sp) (hr:fM k X.A) (hg:Gl X x) (hm:X.mg x=some (.ref f)) (hk:PySem.W.keepIn X.K (.ref f)=true) (hb:Binds X.K fd ps ds) (hd:Vals jM ds) (hx:Ah CX X E)
  (ha:PA X (e::es) t) (hdb:0x17=false:=by decide) (he:starEach (e::es) X.env=(false,eval e X.env)::starEach es X.env:=by rfl) (hpl:(backTo pos (starEach es X.env)).any (·.1)=false:=by rfl) :
  PE X (.Call (.Name x p) (e::es) [] pos) (Z4 sp jM E t):=by
 intro pins s σ H Q I h;refine wpAny_Call_Name_kw (jD I hg hm ?_ hdb);refine PySem.W.callWith_K (h₀:=X.base) I.ok.mod.kin hk (cT (ha pos pins s σ H _ I h) fun us s1 ⟨vs,H1,I1,r,q⟩=>⟨I1.jV,?_⟩) he hpl;exact V7 F hr hb hd hx I1 r q
end
abbrev Z5:List Value:=[.type "ValueError",.type "Exception",.type "BaseException",.type "object"]
abbrev Cx.hand (X:Cx) (ea:Addr):Cx:={ X with A:=X.A.mark (some (.ref ea)),calm:=false,xe:=fun _ _=>False }
abbrev Cx.JM (X:Cx) (pn:List 0x18) (xe:Value->Shared->Prop):Cx:={ X with pn:=pn,xe:=xe }
section
variable {Cg:List 0x18}{xe:Value->Shared->Prop}{ea:Addr}
theorem Inv.a1N (I:Inv X pins σ H s):Inv (X.JM (X.pn++pins) xe) [] σ H s :=
 ⟨⟨I.ok.mod,I.ok.kind,I.ok.glob,I.ok.blt,I.ok.above,I.ok.inj,I.ok.has,I.ok.cab,I.ok.hd,I.ok.frames,I.ok.stk,I.ok.exf,I.ok.bs,I.ok.Oo,I.ok.Ce,I.ok.Gg,I.ok.oF,I.ok.Uu⟩,I.os,I.bare,I.base,I.loc,I.cell,I.free,I.iM,fun p hp=>I.pin p (by simpa using hp),I.hok,I.len⟩
theorem Inv.yE (ok:X.Ok) (I:Inv (X.JM (X.pn++pins) xe) Cg σ H s):Inv X pins σ H s :=
 ⟨ok,I.os,I.bare,I.base,I.loc,I.cell,I.free,I.iM,fun p hp=>I.pin p (List.mem_append_left _ hp),I.hok,I.len⟩
theorem Inv.Qt (I:Inv X pins σ H s):Inv (X.hand ea) pins σ H s :=
 ⟨⟨I.ok.mod,I.ok.kind,I.ok.glob,I.ok.blt,I.ok.above,I.ok.inj,I.ok.has,I.ok.cab,0x23,I.ok.frames,I.ok.stk,I.ok.exf,I.ok.bs,I.ok.Oo,I.ok.Ce,I.ok.Gg,I.ok.oF,I.ok.Uu⟩,I.os,I.bare,I.base,I.loc,I.cell,I.free,I.iM,I.pin,I.hok,I.len⟩
theorem Inv.Ai (ok:X.Ok) (I:Inv (X.hand ea) pins σ H s):Inv X pins σ H s :=
 ⟨ok,I.os,I.bare,I.base,I.loc,I.cell,I.free,I.iM,I.pin,I.hok,I.len⟩
theorem uq {M:Model}{n:Str}{Q:Unit->Shared->Prop} (I:Inv X pins σ H s) (hN:X.N.Nodup) (hi:X.N[i]?=some n) (hk:X.env.scope.names.lookup n=some .local)
  (h:∀ s',Inv X pins (σ.set i none) H s'->Q () s'):wpAny M A (do bindName X.env n .none;unbindBehindTheSuite X.env n pos) Q E s:=by
 obtain ⟨m,hn,hl⟩:=id I.loc;have hcls:(X.env.scope.kind==.class||(X.env.scope.kind==.module&&X.env.locals != X.env.globals))=false:=by rw [I.ok.kind];rfl
 have hiσ:i<σ.length:=by rw [I.len];exact (List.getElem?_eq_some_iff.mp hi).1
 have Gd:=I.Gd;refine wpAny_nameGoes_keeps hk hn hcls fun h' v hn' hs=>?_;obtain ⟨oL,_,_,hoL,_⟩:=id hn;have tracked:lV X.prog X.w H h':=fun b ob e=>by
  refine (I.hok b ob e).stay (fun c w' hc q=>(hs.2 c ?_).trans q) (fun _ q=>q) fun _ _ q=>q;rintro rfl;rcases hc with rfl | hc
  ·rw [I.free] at e;cases e
  ·rw [I.free] at hc;cases hc
 refine h _ ⟨I.ok,I.os,I.bare,⟨fun b o e n hb hx=>?_,fun b o e n hb hx=>?_,I.base.free,fun b o e hx=>?_,I.base.tups,I.base.oV,I.base.pQ⟩,⟨_,hn',fun j y v' e1 e2 e3=>?_⟩,fun y c e=>?_,I.free,I.iM,fun p hp=>?_,tracked,by simpa using I.len⟩
 ·exact (0x1B).trans (I.base.keep b o e n hb hx)
 ·obtain ⟨sl,e1⟩:=I.base.slot b o e n hb hx;exact ⟨sl,(0x1B).trans e1⟩
 ·obtain ⟨o',e1⟩:=I.base.there b o e hx;exact ⟨o',(0x1B).trans e1⟩
 ·by_cases hj:j=i
  ·subst hj;rw [List.getElem?_set_self hiσ] at e2;cases e2
  ·rw [List.getElem?_set_ne (Ne.symm hj)] at e2;obtain ⟨u',r',q⟩:=hl j y v' e1 e2 e3;refine ⟨u',r',?_⟩;rcases q with ⟨k,e⟩ | ⟨k,c,e,z⟩
   ·refine .inl ⟨k,?_⟩;have:y≠n:=fun e=>hj (uP hN e1 (e ▸ hi));simp [this,e]
   ·exact .inr ⟨k,c,e,z.sameBut hs (Gd y c e)⟩
 ·obtain ⟨w',z⟩:=I.cell y c e;exact ⟨w',z.sameBut hs (Gd y c e)⟩
 ·obtain ⟨e,n,ne,nf,d⟩:=I.pin p hp;exact ⟨(hs.2 p.1 ne).trans e,n,ne,nf,d⟩
end
def Xn (i:Nat) (D:Ends):Ends:={ nx:=fun σ H=>D.nx (σ.set i none) H,rt:=D.rt,bk:=fun σ H=>D.bk (σ.set i none) H,ct:=fun σ H=>D.ct (σ.set i none) H }
section
variable {κ:Type} [DecidableEq κ]
def lu (kvs:List (κ×V)) (k:κ):Option V:=(kvs.find? fun kv=>decide (kv.1=k)).map (·.2)
def putK (kvs:List (κ×V)) (k:κ) (v:V):List (κ×V) :=
 if (kvs.any fun kv=>decide (kv.1=k))=true then kvs.map (fun kv=>if kv.1=k then (kv.1,v) else kv) else kvs++[(k,v)]
theorem qz {p:κ×V}{r:List (κ×V)}{k:κ} (e:p.1=k):lu (p::r) k=some p.2:=by simp [lu,List.find?_cons,e]
theorem qC {p:κ×V}{r:List (κ×V)}{k:κ} (e:¬ p.1=k):lu (p::r) k=lu r k:=by simp [lu,List.find?_cons,e]
theorem CW (k:κ):∀ kvs:List (κ×V),(kvs.any fun kv=>decide (kv.1=k))=(lu kvs k).isSome
 | []=>rfl
 | p::r=>by
  rw [List.any_cons]
  by_cases e:p.1=k
  ·simp only [qz e,decide_eq_true e,Bool.true_or,Option.isSome_some]
  ·rw [qC e,decide_eq_false e,Bool.false_or];exact CW k r
theorem mG (kvs:List (κ×V)) (k:κ) (v:V):(putK kvs k v).length<=kvs.length+1:=by
 unfold putK
 split
 ·rw [bV];lia
 ·rw [jA,jU,List.length_nil];lia
theorem jh.rF {o:Option V}{u:Option Value} (r:jh o u):o.isSome=u.isSome:=by
 cases o with
 | none=>cases u with
  | none=>rfl
  | some _=>exact (show False from r).elim
 | some _=>cases u with
  | none=>exact (show False from r).elim
  | some _=>rfl
theorem jh.getD {o:Option V}{u:Option Value}{d:V}{d':Value} (r:jh o u) (rd:RelV d d'):RelV (o.getD d) (u.getD d'):=by
 cases o with
 | none=>cases u with
  | none=>exact rd
  | some _=>exact (show False from r).elim
 | some _=>cases u with
  | none=>exact (show False from r).elim
  | some _=>exact r
theorem KV.val {kvs:List (κ×V)}{vs:List (κ×Value)} (r:KV kvs vs) (k:κ):jh (lu kvs k) (valueAt vs k):=by
 unfold KV at r
 induction r with
 | nil=>exact True.intro
 | @cons p q ps qs h t ih =>
  obtain ⟨h1,h2⟩:=h
  by_cases e:p.1=k
  ·have e':q.1=k:=h1.symm.trans e;have b:valueAt (q::qs) k=some q.2:=by simp [valueAt,List.find?_cons,e']
   rw [qz e,b];exact h2
  ·have e':¬ q.1=k:=fun z=>e (h1.trans z);have b:valueAt (q::qs) k=valueAt qs k:=by simp [valueAt,List.find?_cons,e']
   rw [qC e,b];exact ih
theorem KV.any {kvs:List (κ×V)}{vs:List (κ×Value)} (r:KV kvs vs) (k:κ):(kvs.any fun kv=>decide (kv.1=k))=vs.any fun kv=>decide (kv.1=k):=by
 unfold KV at r
 induction r with
 | nil=>rfl
 | cons h t ih=>rw [List.any_cons,List.any_cons,ih,h.1]
theorem KV.repl {kvs:List (κ×V)}{vs:List (κ×Value)} (r:KV kvs vs) (k:κ)  (ry:RelV y u) :
  KV (kvs.map fun kv=>if kv.1=k then (kv.1,y) else kv) (vs.map fun kv=>if kv.1=k then (kv.1,u) else kv):=by
 unfold KV at r ⊢
 induction r with
 | nil=>exact .nil
 | @cons p q ps qs h t ih =>
  rw [List.map_cons,List.map_cons];refine .cons ?_ ih;obtain ⟨h1,h2⟩:=h
  by_cases e:p.1=k
  ·rw [if_pos e,if_pos (h1.symm.trans e)];exact ⟨h1,ry⟩
  ·rw [if_neg e,if_neg (fun z=>e (h1.trans z))];exact ⟨h1,h2⟩
theorem KV.put {kvs:List (κ×V)}{vs:List (κ×Value)} (r:KV kvs vs) (k:κ)  (ry:RelV y u):KV (putK kvs k y) (stored vs k u):=by
 unfold putK stored;rw [r.any k]
 by_cases e:(vs.any fun kv=>decide (kv.1=k))=true
 ·rw [if_pos e,if_pos e];exact r.repl k ry
 ·rw [if_neg e,if_neg e];exact Paired.snoc r ⟨rfl,ry⟩
theorem KV.length {kvs:List (κ×V)}{vs:List (κ×Value)} (r:KV kvs vs):kvs.length=vs.length:=Paired.length r
end
theorem CZ {k:Key} (r:RelV (kV k) u):(cL P w).is k u=true:=by
 cases k with
 | inl i=>obtain ⟨t,e⟩:=(show ∃ t,u=Value.int i t from r);subst e;exact Ca P w i t
 | inr x=>obtain ⟨t,e⟩:=(show ∃ t,u=Value.str x t from r);subst e;exact Cd P w x t
theorem yF:∀ {ks:List Key}{us:List Value},Vals (ks.map kV) us->ItemsAre (cL P w) ks us
 | [],_,r=>by rw [List.map_nil] at r;cases r;exact .nil
 | k::ks,_,r=>by
  rw [List.map_cons] at r;cases r with
  | cons h t=>exact .cons (CZ h) (yF t)
abbrev KT (H:Hp):List (List Key×V)->List (List Key×Addr×Value)->Prop:=Paired fun p q=>p.1=q.1/\H q.2.1=some (.tup (p.1.map kV))/\RelV p.2 q.2.2
theorem KT.val {kvs:List (List Key×V)}{xs:List (List Key×Addr×Value)} (r:KT H kvs xs) (k:List Key):jh (lu kvs k) ((atKey xs k).map (·.2)):=by
 induction r with
 | nil=>exact True.intro
 | @cons p q ps qs h t ih =>
  obtain ⟨h1,_,h2⟩:=h
  by_cases e:p.1=k
  ·have e':q.1=k:=h1.symm.trans e;have b:atKey (q::qs) k=some q.2:=by simp [atKey,List.find?_cons,e']
   rw [qz e,b];exact h2
  ·have e':¬ q.1=k:=fun z=>e (h1.trans z);have b:atKey (q::qs) k=atKey qs k:=by simp [atKey,List.find?_cons,e']
   rw [qC e,b];exact ih
theorem KT.repl {kvs:List (List Key×V)}{xs:List (List Key×Addr×Value)} (r:KT H kvs xs) (k:List Key)  (ry:RelV y u) :
  KT H (kvs.map fun kv=>if kv.1=k then (kv.1,y) else kv) (xs.map (putAt k u)):=by
 induction r with
 | nil=>exact .nil
 | @cons p q ps qs h t ih =>
  rw [List.map_cons,List.map_cons];refine .cons ?_ ih;obtain ⟨h1,h2,h3⟩:=h;unfold putAt
  by_cases e:p.1=k
  ·rw [if_pos e,if_pos (h1.symm.trans e)];exact ⟨h1,h2,ry⟩
  ·rw [if_neg e,if_neg (fun z=>e (h1.trans z))];exact ⟨h1,h2,h3⟩
theorem KT.put {kvs:List (List Key×V)}{xs:List (List Key×Addr×Value)} (r:KT H kvs xs) (k:List Key)  (hb:H b=some (.tup (k.map kV))) (ry:RelV y u) :
  KT H (putK kvs k y) (storedH xs k b u):=by
 have e:(kvs.any fun kv=>decide (kv.1=k))=(atKey xs k).isSome:=by
  rw [CW,(r.val k).rF,Option.isSome_map]
 unfold putK storedH;rw [e]
 by_cases q:(atKey xs k).isSome=true
 ·rw [if_pos q,if_pos q];exact r.repl k ry
 ·rw [if_neg q,if_neg q];exact Paired.snoc r ⟨rfl,hb,ry⟩
theorem KT.keeps {kvs:List (List Key×V)}{xs:List (List Key×Addr×Value)} (r:KT H kvs xs) (ht:∀ b ys,H b=some (.tup ys)->H' b=some (.tup ys)):KT H' kvs xs :=
 Paired.tO r fun _ _ z=>⟨z.1,ht _ _ z.2.1,z.2.2⟩
theorem Xo {u:HO} (ok:lV P w H h) (e:Rd H a u):cC P w H h a u:=e.ok ok
theorem Dc (ok:lV P w H h) (e:Rd H a (.dK kvs)):kvs.length<=sizeLine/\(a==sysModules)=false/\∃ vs,KV kvs vs/\h.DictOf (cL P w) a vs :=
 show cC P w H h a (.dK kvs) from Xo ok e
theorem JN (ok:lV P w H h) (e:H a=some (.dK kvs)):kvs.length<=sizeLine/\(a==sysModules)=false/\∃ vs,KV kvs vs/\h.DictOf (cL P w) a vs:=Dc ok (.inl e)
theorem Aj {ks:List Key} (ok:lV P w H h) (e:H a=some (.tup (ks.map kV))):(tupleKind (cL P w)).is h ks a:=by
 obtain ⟨_,its,r,o,h1,h2,n,h3⟩:=(show cC P w H h a (.tup (ks.map kV)) from ok a _ e)
 exact ⟨o,its.toArray,n,h1,h2,h3,by simpa using yF r⟩
theorem Dd {kvs:List (List Key×V)} (ok:lV P w H h) (e:Rd H a (.dT kvs)):kvs.length<=sizeLine/\(a==sysModules)=false /\
  ∃ xs,KT H kvs xs/\h.DictOfH (tupleKind (cL P w)) a xs:=by
 obtain ⟨z,y,xs,r,o,es,ep,h1,h2,h3,h4,h5⟩:=(show cC P w H h a (.dT kvs) from Xo ok e)
 refine ⟨z,y,xs,r,o,es,ep,h1,h2,h3,h4,fun x hx=>?_,h5⟩;have all:∀ {l:List (List Key×V)}{m:List (List Key×Addr×Value)},KT H l m->∀ x∈m,(tupleKind (cL P w)).is h x.1 x.2.1:=by
  intro l m q
  induction q with
  | nil=>intro x hx;exact nomatch hx
  | @cons p q ps qs hq t ih =>
   intro x hx;rcases List.mem_cons.mp hx with e | hx
   ·subst e;exact Aj ok (by rw [<- hq.1];exact hq.2.1)
   ·exact ih x hx
 exact all r x hx
theorem a1O {kvs:List (List Key×V)} (ok:lV P w H h) (e:H a=some (.dT kvs)):kvs.length<=sizeLine/\(a==sysModules)=false /\
  ∃ xs,KT H kvs xs/\h.DictOfH (tupleKind (cL P w)) a xs:=Dd ok (.inl e)
def mH (H:Hp) (a:Addr) (y:V) (r:Option V):Prop :=
 (∃ kvs k,Rd H a (.dK kvs)/\y=kV k/\r=lu kvs k)\/∃ kvs k b,Rd H a (.dT kvs)/\y=.ref b/\H b=some (.tup (k.map kV))/\r=lu kvs k
def GR (H:Hp) (a:Addr) (y v:V) (H':Hp):Prop :=
 (∃ kvs k,H a=some (.dK kvs)/\y=kV k/\kvs.length<sizeLine/\H'=upd H a (.dK (putK kvs k v))) \/
 ∃ kvs k b,H a=some (.dT kvs)/\y=.ref b/\H b=some (.tup (k.map kV))/\kvs.length<sizeLine/\H'=upd H a (.dT (putK kvs k v))
theorem mH.k {k:Key} (e:H a=some (.dK kvs)):mH H a (kV k) (lu kvs k):=.inl ⟨kvs,k,.inl e,rfl,rfl⟩
theorem GR.k {k:Key} (e:H a=some (.dK kvs)) (hl:kvs.length<sizeLine):GR H a (kV k) v (upd H a (.dK (putK kvs k v))):=.inl ⟨kvs,k,e,rfl,hl,rfl⟩
section
variable {r:Value}{o:Option V}
theorem Inv.big (I:Inv X pins σ H s):sysModules<s.heap.objs.size:=by
 have h:mainGlobals<s.heap.objs.size:=(I.mod.glob.keeps I.bk).lt;exact Nat.lt_trans 0x8 h
theorem Nm (hu:A.units+1<cLine) (I:Inv X pins σ H s) (g:mH H a y (some v)) (ry:RelV y u) (h:∀ w' s',Inv X pins σ H s'->RelV v w'->Q w' s') :
  wpAny 0x7 A (getItem (.ref a) u) Q E s:=by
 rcases g with ⟨kvs,k,e,ey,l⟩ | ⟨kvs,k,b,e,ey,eb,l⟩
 ·subst ey;obtain ⟨z,hd,vs,rel,dd⟩:=Dc I.hok e;obtain ⟨w',hw,Gx⟩:=jh.some_of (v:=v) (o:=valueAt vs k) (by rw [l];exact rel.val k);exact wpAny_getItem_of (CZ ry) dd.mapOf hw (h w' _ (I.tok _) Gx)
 ·subst ey;cases (show u=Value.ref b from ry)
  obtain ⟨z,hd,xs,rel,dd⟩:=Dd I.hok e;obtain ⟨w',hw,Gx⟩:=jh.some_of (v:=v) (o:=(atKey xs k).map (·.2)) (by rw [l];exact rel.val k);obtain ⟨p,hp,hp2⟩:=Option.map_eq_some_iff.mp hw;refine wpAny_getItem_heap (tupleKind_room_in1 hu) (Aj I.hok eb) dd hp ?_;rw [hp2];exact h w' _ (I.tok _) Gx
theorem Ak {ob:HO} (I:Inv X pins σ H s) (mu:Mut (H a)) (hs:Heap.SameBut a s.heap h') (he:∃ q,h'.get? a=some q) (new:cC X.prog X.w (upd H a ob) h' a ob) :
  Inv X pins σ (upd H a ob) { s with heap:=h',toks:=t' } :=
 I.write (x:=a) (e:=a) mu (.inl rfl) (fun b q hb z=>(hs.2 b hb).trans z) he new
theorem Qu {vs:List (Key×Value)} (z:kvs.length<=sizeLine) (hd:(a==sysModules)=false) (rel:KV kvs vs) (dd:h'.DictOf (cL P w) a vs) :
  cC P w H' h' a (.dK kvs):=⟨z,hd,vs,rel,dd⟩
theorem Np {Q:Unit->Shared->Prop} (hu:A.units+1<cLine) (I:Inv X pins σ H s) (g:GR H a y v H') (ry:RelV y u) (rv:RelV v r) (h:∀ s',Inv X pins σ H' s'->Q () s') :
  wpAny 0x7 A (setItem (.ref a) u r) Q E s:=by
 rcases g with ⟨kvs,k,e,ey,l,eH⟩ | ⟨kvs,k,b,e,ey,eb,l,eH⟩
 ·subst ey eH;obtain ⟨z,hd,vs,rel,dd⟩:=JN I.hok e;have hz:vs.length<=sizeLine:=by rw [<- rel.length];exact z
  have hl:(putK kvs k v).length<=sizeLine:=by have:=mG kvs k v;lia
  refine wpAny_setItem_pairs (hsz:=hz) (CZ ry) dd fun h' Z6 hs=>h _ ?_;have he:∃ q,h'.get? a=some q:=let ⟨q,_,_,hq,_⟩:=Z6;⟨q,hq⟩
  exact Ak I (by rw [e];exact True.intro) hs he (Qu hl hd (rel.put k rv) Z6)
 ·subst ey eH;cases (show u=Value.ref b from ry)
  obtain ⟨z,hd,xs,rel,dd⟩:=a1O I.hok e;have hz:xs.length<=sizeLine:=by rw [<- Paired.length rel];exact z
  have hl:(putK kvs k v).length<=sizeLine:=by have:=mG kvs k v;lia
  refine wpAny_setItem_heap (hsz:=hz) (tupleKind_room_in1 hu) (Aj I.hok eb) dd fun h' Z6 hs=>h _ ?_;obtain ⟨q,es,ep,hq,h2,h3,h4,_,h5⟩:=Z6;refine Ak I (by rw [e];exact True.intro) hs ⟨q,hq⟩ ⟨hl,hd,_,(rel.put k eb rv).keeps fun c ys ec=>?_,q,es,ep,hq,h2,h3,h4,h5⟩;rw [aG (a1A ec e 0x23)]
  exact ec
end
section
variable {k:Key}
end
def NoSl (i:Expr):Prop:=∀ ov iv,subscripted i false ov iv=operate [ov,iv] (getItem ov iv)
theorem V8 {slice:Expr}{id:String}
  (hl:typeLookup (.type T) "__getitem__"=pure (some (.builtin id))) (hs:NoSl slice)
  (h:wpAny 0xD A (eval value env) (fun o s₁=>wpAny 0xD A (eval slice env) (fun i s₂=>s₂.TypeIs o T/\wpAny 0xD A (getItem o i) Q E s₂) E s₁) E s) :
  wpAny 0xD A (eval (.Subscript value slice pos) env) Q E s:=by
 refine Subscript_ (wpAny_mono h (fun o s₁ h₁=>wpAny_mono h₁ (fun i s₂ h₂=>?_) fun _ _ x=>x) fun _ _ x=>x);obtain ⟨hT,h₂⟩:=h₂;unfold subscriptTail;refine wpAny_bind ?_;rw [getitemInPython_of_ne hT.not_modules];refine wpAny_bind (wpAny_specialOf hT hl ?_);have fin:wpAny 0xD A (subscripted slice false o i) (fun r s₃=>wpAny 0xD A (letTemporaryGo value o r >>= fun _=>pure r) Q E s₃) E s₂:=by
  rw [hs o i];exact wpAny_operating (wpAny_mono h₂ (fun r s₃ h₃=>wpAny_bind (wpAny_letTemporaryGo (wpAny_pure h₃))) fun _ _ x=>x)
 first
  | exact wpAny_pure (wpAny_bind fin)
  | exact wpAny_bind (wpAny_pure (wpAny_bind fin))
  | exact wpAny_bind fin
theorem Df {o:Option V} (I:Inv X pins σ H s) (g:mH H a y o):s.TypeIs (.ref a) "dict":=by
 rcases g with ⟨kvs,k,e,_,_⟩ | ⟨kvs,k,b,e,_,_,_⟩
 ·obtain ⟨_,_,vs,_,dd⟩:=Dc I.hok e;exact dd.typeIs
 ·obtain ⟨_,_,xs,_,dd⟩:=Dd I.hok e;exact dd.typeIs
inductive JQ (Q:VK) (x y:V) (H2:Hp):Prop
 | mk (a:Addr) (v:V) (_:x=.ref a) (_:mH H2 a y (some v)) (_:Q v H2):JQ Q x y H2
def a1P (td ty:TE):TE:=fun σ H Q=>td σ H fun x H1=>ty σ H1 fun y H2=>JQ Q x y H2
inductive JR (D:Ends) (σ:L2.St) (v x y:V) (H3:Hp):Prop
 | mk (a:Addr) (H4:Hp) (_:x=.ref a) (_:GR H3 a y v H4) (_:D.nx σ H4):JR D σ v x y H3
def a1Q (td ty tv:TE):TS:=fun D σ H=>tv σ H fun v H1=>td σ H1 fun x H2=>ty σ H2 fun y H3=>JR D σ v x y H3
section
variable {o i:Expr}{tpos:Pos}{td ty:TE}
theorem iU (hu:X.A.units+1<cLine) (ho:PE X o td) (hi:PE X i ty) (hs:NoSl i):PE X (.Subscript o i pos) (a1P td ty):=by
 intro pins s σ H Q I h;refine V8 PySem.F.slot_dict_getitem.lookup hs (cT (ho pins s σ H _ I h) fun u s1 ⟨x,H1,I1,rx,q1⟩=>cT (hi pins s1 σ H1 _ I1 q1) fun iv s2 zq=>?_);obtain ⟨y,H2,I2,ry,a,v,ex,g,q2⟩:=zq;subst ex;obtain rfl:u=Value.ref a:=rx;exact ⟨Df I2 g,Nm hu I2 g ry fun w' s3 I3 Gx=>⟨v,H2,I3,Gx,q2⟩⟩
theorem Al (hu:X.A.units+1<cLine) (ho:PE X o td) (hi:PE X i ty) (hv:PE X value tv) (hs:swapsWith value (some (.Subscript o i pos')) pos.line X.env=pure false) :
  PS X (.Assign [.Subscript o i pos'] value pos) (a1Q td ty tv):=by
 intro pins s σ H D I h;refine wpAny_Assign_Subscript (cT (hv pins s σ H _ I h) fun r s1 ⟨v,H1,I1,rv,q1⟩=>cT (ho pins s1 σ H1 _ I1 q1) fun u s2 ⟨x,H2,I2,rx,q2⟩=>cT (hi pins s2 σ H2 _ I2 q2) fun iv s3 ⟨y,H3,I3,ry,a,H4,ex,g,q3⟩=>?_) hs;subst ex;obtain rfl:u=Value.ref a:=rx;exact Np hu I3 g ry rv fun s4 I4=>⟨σ,H4,I4,q3⟩
end
theorem Dg (h:Heap) (hb:sysModules<h.objs.size):cC P w H (h.push { cls:=.type "dict",data:=.dict #[] }) h.objs.size (.dK []) :=
 ⟨Nat.zero_le _,beq_eq_false_iff_ne.mpr (Ne.symm (Nat.ne_of_lt hb)),[],.nil,Heap.DictOf.new h⟩
def Z7:TE:=fun _ H Q=>∀ p,H p=none->Q (.ref p) (upd H p (.dK []))
theorem Dh:PE X (.Dict [] [] pos) Z7:=fun pins s σ H Q I h =>
 wpAny_Dict_empty ⟨.ref s.heap.objs.size,_,I.laid (a:=s.heap.objs.size) (o:=.dK []) (t':=s.toks) (fun _ _ q=>Heap.get?_push_of_some _ q) 0x9 (Dg s.heap I.big),rfl,h _ (I.hok.fresh 0x9)⟩
def lA:List (TE×TE)->St->Hp->(List (V×V)->Hp->Prop)->Prop
 | [],_,H,Q=>Q [] H
 | (tk,tv)::r,σ,H,Q=>tk σ H fun x H1=>tv σ H1 fun y H2=>lA r σ H2 fun ps H3=>Q ((x,y)::ps) H3
abbrev VV:List (V×V)->List (Value×Value)->Prop:=Paired fun p q=>RelV p.1 q.1/\RelV p.2 q.2
def PPs (X:Cx) (pos:Pos) (keys:List (Option Expr)) (values:List Expr) (Oi:List (TE×TE)):Prop :=
 ∀ (pins:List 0x18) (s:Shared) (σ:St) (H:Hp) (Q:List (V×V)->Hp->Prop),Inv X pins σ H s->lA Oi σ H Q ->
  wpAny 0x7 X.A (evalPairs (pairTrees keys values X.env pos)) (fun vs s'=>∃ ps H',Inv X pins σ H' s'/\VV ps vs/\Q ps H') X.xe s
theorem JT:PPs X pos [] [] []:=fun pins s σ H Q I h=>pairTrees_nil_walk ⟨[],H,I,.nil,h⟩
theorem fY {k v:Expr}{ks:List (Option Expr)}{vs:List Expr}{tk:TE} (hk:PE X k tk) (hv:PE X v tv) (hr:PPs X pos ks vs Oi) :
  PPs X pos (some k::ks) (v::vs) ((tk,tv)::Oi):=fun pins s σ H Q I h =>
 pairTrees_cons_walk (cT (hk pins s σ H _ I h) fun u s1 ⟨x,H1,I1,rx,q1⟩=>cT (hv pins s1 σ H1 _ I1 q1) fun w2 s2 ⟨y,H2,I2,ry,q2⟩ =>
  cT (hr pins s2 σ H2 _ I2 q2) fun ws s3 ⟨ps,H3,I3,rel,q3⟩=>⟨(x,y)::ps,H3,I3,.cons ⟨rx,ry⟩ rel,q3⟩)
def mJ (kvs more:List (Key×V)):List (Key×V):=more.foldl (fun acc kv=>putK acc kv.1 kv.2) kvs
theorem KV.merge:∀ {more:List (Key×V)}{rs:List (Key×Value)}{kvs:List (Key×V)}{vs:List (Key×Value)},KV more rs->KV kvs vs->KV (mJ kvs more) (merged vs rs):=by
 intro more rs kvs vs r;unfold KV at r
 induction r generalizing kvs vs with
 | nil=>intro q;exact q
 | @cons p q ps qs h t ih =>
  intro r0;have e:KV (putK kvs p.1 p.2) (stored vs q.1 q.2):=by
   have:=r0.put p.1 h.2;rw [<- h.1];exact this
  exact ih e
theorem oR:∀ (more kvs:List (Key×V)),(mJ kvs more).length<=kvs.length+more.length
 | [],kvs=>by show kvs.length<=kvs.length+0;lia
 | p::r,kvs=>by
  have h1:=oR r (putK kvs p.1 p.2);have h2:=mG kvs p.1 p.2
  show (mJ (putK kvs p.1 p.2) r).length<=_
  rw [jU];lia
theorem vB {P:Program}{w:World}:∀ {kvs:List (Key×V)}{ws:List (Value×Value)},VV (kvs.map fun kv=>(kV kv.1,kv.2)) ws->∃ rs,Carries (cL P w) ws rs/\KV kvs rs
 | [],_,r=>by rw [List.map_nil] at r;cases r;exact ⟨[],True.intro,.nil⟩
 | p::kvs,_,r=>by
  rw [List.map_cons] at r;cases r with
  | @cons a b as bs h t =>
   obtain ⟨rs,c,q⟩:=vB (P:=P) (w:=w) t;obtain ⟨b1,b2⟩:=b;exact ⟨(p.1,b2)::rs,⟨CZ h.1,rfl,c⟩,.cons ⟨rfl,h.2⟩ q⟩
def sX (Oi:List (TE×TE)):TE:=fun σ H Q=>∀ p,H p=none->lA Oi σ (upd H p (.dK [])) fun ps H2=>H2 p=some (.dK [])/\∃ kvs:List (Key×V),ps=kvs.map (fun kv=>(kV kv.1,kv.2))/\kvs.length<=15/\Q (.ref p) (upd H2 p (.dK (mJ [] kvs)))
theorem JV {keys:List (Option Expr)}{values:List Expr} (h:PPs X pos keys values Oi) (hall:keys.all (·.isSome)=true) (hl:keys.length=values.length) (h0:keys≠[])
  (h15:keys.length<=15):PE X (.Dict keys values pos) (sX Oi):=by
 intro pins s σ H Q I q;have hn:=I.hok.fresh (Nat.le_refl s.heap.objs.size);have I1:=I.laid (a:=s.heap.objs.size) (o:=.dK []) (h':=s.heap.push { cls:=.type "dict",data:=.dict #[] }) (t':=s.toks) (fun _ _ q=>Heap.get?_push_of_some _ q) 0x9 (Dg s.heap I.big);refine wpAny_Dict_walk (knd:=cL X.prog X.w) hall hl h0 h15 (cT (h pins _ σ _ _ I1 (q _ hn)) fun ws s2 zq=>?_);obtain ⟨ps,H2,I2,rel,e,kvs,ep,lk,q2⟩:=zq;subst ep;obtain ⟨rs,c,rk⟩:=vB (P:=X.prog) (w:=X.w) rel;obtain ⟨z,hd,vs0,r0,dd⟩:=JN I2.hok e;cases r0;refine ⟨rs,c,dd,fun h' Z6 hs=>⟨.ref s.heap.objs.size,_,?_,rfl,q2⟩⟩;have hz:(mJ [] kvs).length<=sizeLine:=by
  have h1:=oR kvs [];rw [List.length_nil] at h1;rw [sizeLine_eq];lia
 have he:∃ q,h'.get? s.heap.objs.size=some q:=let ⟨q,_,_,hq,_⟩:=Z6;⟨q,hq⟩
 exact Ak I2 (by rw [e];exact True.intro) hs he (Qu hz hd (rk.merge .nil) Z6)
structure M1 (X:Cx) (o:Expr) (m:Str) (apos:Pos) (e:Expr) (cpos:Pos):Prop where
 base:attributeBase o m X.env (eval o X.env)=eval o X.env
 few:((backTo cpos (starEach [e] X.env)).all (fun x=>!x.1)&&(backToKw cpos (keywordEach [] X.env)).all (fun x=>x.1.isSome)
  &&decide (([e]:List Expr).length+([]:List Keyword).length+(if ([]:List Keyword).isEmpty then 0 else 1)<30))=true
 line:(apos.endLine==cpos.line)=true
 trees:backTo cpos (starEach [e] X.env)=[(false,eval e X.env)]
structure M2 (X:Cx) (o:Expr) (m:Str) (apos:Pos) (e f:Expr) (cpos:Pos):Prop where
 base:attributeBase o m X.env (eval o X.env)=eval o X.env
 few:((backTo cpos (starEach [e,f] X.env)).all (fun x=>!x.1)&&(backToKw cpos (keywordEach [] X.env)).all (fun x=>x.1.isSome)
  &&decide (([e,f]:List Expr).length+([]:List Keyword).length+(if ([]:List Keyword).isEmpty then 0 else 1)<30))=true
 line:(apos.endLine==cpos.line)=true
 trees:backTo cpos (starEach [e,f] X.env)=[(false,eval e X.env),(false,eval f X.env)]
def IsD (H:Hp) (a:Addr):Prop:=(∃ kvs,Rd H a (.dK kvs))\/∃ kvs,Rd H a (.dT kvs)
theorem Z8 (I:Inv X pins σ H s) (d:IsD H a) :
  s.TypeIs (.ref a) "dict"/\(∀ b,Value.ref a=.ref b->∃ ob,s.heap.get? b=some ob/\ob.dict=none)/\(a==sysModules)=false:=by
 rcases d with ⟨kvs,e⟩ | ⟨kvs,e⟩
 ·obtain ⟨_,hd,vs,_,dd⟩:=Dc I.hok e;refine ⟨dd.typeIs,fun b q=>?_,hd⟩;cases q;obtain ⟨ob,_,_,h1,h2,_⟩:=dd;exact ⟨ob,h1,h2.2.1⟩
 ·obtain ⟨_,hd,xs,_,dd⟩:=Dd I.hok e;refine ⟨dd.typeIs,fun b q=>?_,hd⟩;cases q;obtain ⟨ob,_,_,h1,h2,_⟩:=dd;exact ⟨ob,h1,h2.2.1⟩
section
variable {d:V}{r:Value}{o:Option V}
theorem Z9 (hu:A.units+1<cLine) (I:Inv X pins σ H s) (g:mH H a y o) (ry:RelV y u) (rd:RelV d r) (h:∀ w' s',Inv X pins σ H s'->RelV (o.getD d) w'->Q w' s') :
  wpAny 0x7 A (call (.builtin "dict.get") [.ref a,u,r]) Q E s:=by
 rcases g with ⟨kvs,k,e,ey,l⟩ | ⟨kvs,k,b,e,ey,eb,l⟩
 ·subst ey;obtain ⟨z,hd,vs,rel,dd⟩:=Dc I.hok e;refine call_meetsIn PySem.F.slot_dict_get dd.typeIs PySem.F.entry_dict_get (PySem.F.args_dict_get_3 _ _ _) (meets_dict_get_default (cL X.prog X.w) a (CZ ry) hd r) ⟨_,dd.mapOf,h _ _ (I.tok _) ?_⟩;rw [l];exact (rel.val k).getD rd
 ·subst ey;cases (show u=Value.ref b from ry)
  obtain ⟨z,hd,xs,rel,dd⟩:=Dd I.hok e;refine call_meetsIn PySem.F.slot_dict_get dd.typeIs PySem.F.entry_dict_get (PySem.F.args_dict_get_3 _ _ _) (meetsH_dict_get_default (tupleKind (cL X.prog X.w)) a b hd r) ⟨tupleKind_room_in1 hu,k,xs,Aj I.hok eb,dd,h _ _ (I.tok _) ?_⟩;rw [l];exact (rel.val k).getD rd
end
inductive Di (ty tx:TE) (σ:L2.St) (Q:VK) (x:V) (H1:Hp):Prop
 | mk (a:Addr) (_:x=.ref a) (_:IsD H1 a) (_:ty σ H1 fun y H2=>tx σ H2 fun z H3=>∃ o,mH H3 a y o/\Q (o.getD z) H3):Di ty tx σ Q x H1
def Za (td ty tx:TE):TE:=fun σ H Q=>td σ H fun x H1=>Di ty tx σ Q x H1
section
variable {o f:Expr}{td ty tx:TE}
theorem Dj (hu:X.A.units+1<cLine) (ho:PE X o td) (he:PE X e ty) (hf:PE X f tx) (m:M2 X o "get" apos e f cpos):PE X (.Call (.Attribute o "get" apos) [e,f] [] cpos) (Za td ty tx):=by
 intro pins s σ H Q I h;refine wpAny_Call_method m.base m.few m.line PySem.F.plainAttrs_dict PySem.F.slot_dict_get PySem.F.type_dict_get (cT (ho pins s σ H _ I h) fun u s1 zq=>?_);obtain ⟨x,H1,I1,rx,a,ex,d,q1⟩:=zq;subst ex;obtain rfl:u=Value.ref a:=rx;obtain ⟨t1,t2,_⟩:=Z8 I1 d;refine ⟨t1,t2,?_⟩;rw [m.trees];refine Calls.callWith_builtin rfl (Calls.evalArgs_plain (Calls.spliced_cons (cT (he pins s1 σ H1 _ I1 q1) fun iv s2 ⟨y,H2,I2,ry,q2⟩ =>
  Calls.spliced_cons (cT (hf pins s2 σ H2 _ I2 q2) fun fv s3 ⟨z,H3,I3,rz,ov,g,q3⟩=>Calls.spliced_nil ?_))))
 exact Z9 hu I3 g ry rz fun w' s4 I4 Gx=>⟨_,H3,I4,Gx,q3⟩
end
section
variable {a b:Expr}{ta:TA}
theorem Qw (hg:Gl X "zip") (hm:X.mg "zip"=none) (ha:PA X [a,b] ta) (hs:starEach [a,b] X.env=[(false,eval a X.env),(false,eval b X.env)]:=by rfl) (hs2:starEach [b] X.env=[(false,eval b X.env)]:=by rfl) :
  PI X (.Tuple elts x1 tp) (.Call (.Name "zip" p) [a,b] [] pos) (Z2 X.K ta):=by
 intro pins s σ H R I h;refine Call_ (gC I hg hm vo 0xC);obtain ⟨c,z,rfl,⟨xs,hx⟩,q⟩:=q1;obtain ⟨u,u',rfl,ru,Ge⟩:=vals2 r1;cases ru;obtain ⟨t,rfl⟩:=Ge;obtain ⟨its,rv,p1,_⟩:=I1.tuple hx;cases ha':z.cps.all (·<128)
 ·exact pq (U:=fun h=>h.IsTuple c its.toArray) I1 p1 (fun h o ⟨oc,e,r⟩=>⟨oc,Heap.get?_push_of_some _ e,r⟩)
   (fun prog w A Q E s hu hQ=>wpAny_pyIter_tuple hu hQ) (fun prog w A Q E s hu hQ=>wpAny_pyIter_wide ha' hQ) (qm c _) (um z t _ "str_iterator" (fun A hA=>Draws.strWide hA _ z t) (fun A i c s Q E st hc h=>wpAny_nextOf_wide_item st hc h) fun A i s Q E hh st hx hE=>wpAny_nextOf_wide_end hh st hx hE)
   (fun h e=>⟨_,e,rfl,rfl⟩) (fun h e=>⟨_,e,rfl,rfl⟩) rfl rfl q
 ·exact pq (U:=fun h=>h.IsTuple c its.toArray) I1 p1 (fun h o ⟨oc,e,r⟩=>⟨oc,Heap.get?_push_of_some _ e,r⟩)
   (fun prog w A Q E s hu hQ=>wpAny_pyIter_tuple hu hQ) (fun prog w A Q E s hu hQ=>wpAny_pyIter_ascii ha' hQ) (qm c _) (um z t _ "str_ascii_iterator" (fun A hA=>Draws.strAscii hA _ z t) (fun A i c s Q E st hc h=>wpAny_nextOf_ascii_item st hc h) fun A i s Q E hh st hx hE=>wpAny_nextOf_ascii_end hh st hx hE)
   (fun h e=>⟨_,e,rfl,rfl⟩) (fun h e=>⟨_,e,rfl,rfl⟩) rfl rfl q
end
theorem Dk (ha:dG K H a xs) :
  (i<min xs.length z.cps.toList.length->(JL K a z).go i H/\∀ v H',(JL K a z).xR i H v H'->∃ p,v=.ref p/\H p=none/\H'=upd H p (.tup [xs.getD i .non,.str (dR [z.cps.toList.getD i 0])]))/\(min xs.length z.cps.toList.length<=i->(JL K a z).stop i H):=by
 refine ⟨fun hi=>⟨⟨⟨xs,xs[i]' 0x1,ha,by rw [dO]⟩,by show i<_;lia⟩,fun v H' ⟨p,x,y,e1,e2,e3,e4,c,hc,e5⟩=>⟨p,e1,e2,?_⟩⟩,fun hi=>?_⟩
 ·rw [e3,iI,iI,e4 xs ha,e5,hc];rfl
 ·by_cases h1:xs.length<=i
  ·exact .inl ⟨xs,ha,h1⟩
  ·exact .inr ⟨⟨xs,xs[i]' 0x1,ha,by rw [dO]⟩,by show _<=i;lia⟩
theorem lC {fx fy:Nat->V}{tb:TS} (Pv:Nat->St->Hp->Prop)
  (hJ:∀ i σ H,Pv i σ H->(i<n->J.go i H/\∀ v H',J.xR i H v H'->∃ p,v=.ref p/\H p=none/\H'=upd H p (.tup [fx i,fy i]))/\(n<=i->J.stop i H)) (h0:Pv 0 σ H)
  (hs:∀ i σ H p,i<n->Pv i σ H->H p=none->g (.ref p) σ (upd H p (.tup [fx i,fy i])) fun σ2 H2=>tb { D with nx:=Pv (i+1),ct:=Pv (i+1),bk:=D.nx } σ2 H2) (hd:∀ σ H,Pv n σ H->D.nx σ H) :
  ∃ W:Nat->Nat->St->Hp->Prop,(∃ m,W 0 m σ H)/\∀ i m σ H,W i m σ H ->
   (J.stop i H/\D.nx σ H)\/(J.go i H/\∃ N:St->Hp->Prop,(∀ σ' H',N σ' H'->∃ m',m'<m/\W (i+1) m' σ' H')/\∀ v H',J.xR i H v H'->g v σ H' fun σ2 H2=>tb { D with nx:=N,ct:=N,bk:=D.nx } σ2 H2):=by
 refine ⟨fun i m σ H=>m=n - i/\i<=n/\Pv i σ H,⟨_,rfl,Nat.zero_le _,h0⟩,?_⟩;rintro i m σ H ⟨rfl,hi,p⟩;obtain ⟨h1,h2⟩:=hJ i σ H p
 by_cases hlt:i<n
 ·obtain ⟨hg,hy⟩:=h1 hlt;refine .inr ⟨hg,Pv (i+1),fun σ' H' p'=>⟨_,by lia,rfl,hlt,p'⟩,fun v H' y=>?_⟩;obtain ⟨q,rfl,hq,rfl⟩:=hy v H' y;exact hs i σ H q hlt p hq
 ·have e:i=n:=by lia
  subst e;exact .inl ⟨h2 0x9,hd σ H p⟩
def Ite (x:Str):It:=⟨fun i _=>i<x.cps.toList.length,fun i H v H'=>∃ p c,x.cps.toList[i]?=some c/\v=.ref p/\H p=none/\H'=upd H p (.tup [.int i,.str (dR [c])]),fun i _=>x.cps.toList.length<=i⟩
theorem Nq {e:Addr}{t:Tok}{ty:String} (hne:e≠it)
  (D:∀ A:Around,A.handled=none->Draws P w A it [it] x.cps.size (fun i v=>∃ c u,x.cps[i]?=some c/\v=.str ⟨#[c]⟩ u) (fun i h=>h.IsStrIter it ty x t i)) :
  Turn P w K (.Tuple elts x1 tp) (Ite x) [e,it] e (fun i h=>(∃ old,IsEnum h e it i old)/\h.IsStrIter it ty x t i/\i<=x.cps.size) where
 mem:=by simp
 obj:=fun i h ⟨⟨old,he⟩,⟨o,ho,hc,hd⟩,_⟩ c hc'=>by
  simp only [List.mem_cons,List.not_mem_nil,or_false] at hc';rcases hc' with rfl | rfl
  ·exact ⟨_,he,fun v z=>by cases z⟩
  ·exact ⟨o,ho,fun v z=>by rw [hd] at z;cases z⟩
 keep:=fun i h h' ⟨⟨old,he⟩,⟨o,ho,r⟩,z⟩ k=>⟨⟨old,k e 0x5 _ he⟩,⟨o,k it 0x5 o ho,r⟩,z⟩
 item:=by
  intro X hP hw hK hc i pins s σ H E I hf ⟨⟨old,he⟩,st,hle⟩ hg;subst hP hw hK;have hi:i<x.cps.size:=by have:i<x.cps.toList.length:=hg;simpa using this
  refine wpAny_pyNext_enum_itemD (D X.A.in1 (I.ok.hd hc)) he st hi hne (by simpa using hne) fun v h' tk hP ho st' hT hsz hk=>⟨_,rfl,?_⟩;obtain ⟨c,u,hcx,rfl⟩:=hP;refine wpAny_letOwnedTupleGo_enum ho fun h2 he2 sb=>?_;have helt:e<s.heap.objs.size:=Heap.lt_size he;obtain ⟨oit,Qx,_⟩:=id st;have hilt:it<s.heap.objs.size:=Heap.lt_size Qx;have hT2:h2.get? s.heap.objs.size=some { cls:=.type "tuple",data:=.seq #[.int i tk,.str ⟨#[c]⟩ u] }:=sb.extBut _ _ (Nat.ne_of_gt helt) hT;have kk:∀ b o,b∉[e,it]->s.heap.get? b=some o->h2.get? b=some o:=fun b o hb q=>by
   simp only [List.mem_cons,List.not_mem_nil,or_false,not_or] at hb;exact sb.extBut _ _ hb.1 (hk b o hb.1 hb.2 q)
  refine ⟨.ref s.heap.objs.size,upd H s.heap.objs.size (.tup [.int i,.str (dR [c])]),I.uh (t':=tk+1) hf kk 0x9 ⟨iZ 0x5 |> Nat.le_of_lt,[.int i tk,.str ⟨#[c]⟩ u],.cons ⟨tk,rfl⟩ (.cons ⟨u,rfl⟩ .nil),⟨_,hT2,rfl,_,rfl⟩⟩,rfl,⟨_,c,by simpa using hcx,rfl,I.fresh,rfl⟩,⟨⟨_,by simpa using he2⟩,?_,hi⟩,fun b hb=>?_⟩
  ·obtain ⟨o,ho',r⟩:=st';exact ⟨o,sb.extBut _ _ (Ne.symm hne) ho',r⟩
  ·simp only [List.mem_cons,List.not_mem_nil,or_false] at hb;rcases hb with rfl | rfl
   ·rw [aG (Nat.ne_of_lt helt)];exact (hf _ 0x5).1
   ·rw [aG (Nat.ne_of_lt hilt)];exact (hf _ 0x5).1
 done:=by
  intro X hP hw hK hc i pins s σ H E I hf ⟨⟨old,he⟩,st,hle⟩ hg;subst hP hw hK;have hi:x.cps.size<=i:=by have:x.cps.toList.length<=i:=hg;simpa using this
  have e0:i=x.cps.size:=Nat.le_antisymm hle hi;subst e0;exact wpAny_pyNext_enum_endD (D X.A.in1 (I.ok.hd hc)) he st fun h' eb=>⟨rfl,I.ug (t':=s.toks) hf fun b o hb q=>eb b o (fun z=>hb (by simp [z])) q⟩
 self:=fun A i s Q E ⟨⟨old,he⟩,_⟩ h=>wpAny_pyIter_enum he h
inductive Dl (R:It->Hp->Prop) (vs:List V) (H1:Hp):Prop
 | mk (z:Str) (_:vs=[.str z]) (_:R (Ite z) H1):Dl R vs H1
def Zb (ta:TA):TI:=fun σ H R=>ta σ H fun vs H1=>Dl R vs H1
theorem Qy {a:Expr}{ta:TA} (hg:Gl X "enumerate") (hm:X.mg "enumerate"=none) (ha:PA X [a] ta) (hs:starEach [a] X.env=[(false,eval a X.env)]:=by rfl) :
  PI X (.Tuple elts x1 tp) (.Call (.Name "enumerate" p) [a] [] pos) (Zb ta):=by
 intro pins s σ H R I h;refine Call_ (gC I hg hm iT (PyProof.Rows.callWith_type1 (cT (ha pos pins s σ H _ I h) fun us s1 ⟨vs,H1,I1,r1,q1⟩=>?_) (by rw [hs];rfl) (by rfl)));obtain ⟨z,rfl,q⟩:=q1;obtain ⟨u,rfl,ru⟩:=vals1 r1;obtain ⟨t,rfl⟩:=ru;refine call_enumerate_str fun h' he hit hsz hk=>wpAny_pyIter_enum he ?_;have hne:s1.heap.objs.size+1≠s1.heap.objs.size:=Nat.succ_ne_self _;have fin:∀ ty:String,(∀ A:Around,A.handled=none->Draws X.prog X.w A s1.heap.objs.size [s1.heap.objs.size] z.cps.size (fun i v=>∃ c u,z.cps[i]?=some c/\v=.str ⟨#[c]⟩ u) (fun i h=>h.IsStrIter s1.heap.objs.size ty z t i))->h'.IsStrIter s1.heap.objs.size ty z t 0 ->
   PIE X pins σ (.Tuple elts x1 tp) R (.ref (s1.heap.objs.size+1)) { s1 with heap:=h' }:=fun ty D hit'=>by
  refine ⟨_,_,_,_,H1,rfl,I1.kept (t':=s1.toks) hk,Nq hne D,⟨⟨_,he⟩,hit',Nat.zero_le _⟩,fun b hb=>?_,q⟩;have hle:s1.heap.objs.size<=b:=by
   simp only [List.mem_cons,List.not_mem_nil,or_false] at hb;rcases hb with rfl | rfl <;> lia
  exact I1.uR hle (I1.hok.fresh hle)
 cases ha':z.cps.all (·<128)
 ·exact fin _ (fun A hA=>Draws.strWide hA _ z t) (by simpa [strIterType,ha'] using hit)
 ·exact fin _ (fun A hA=>Draws.strAscii hA _ z t) (by simpa [strIterType,ha'] using hit)
theorem GX:
  (i<z.cps.toList.length->(Ite z).go i H/\∀ v H',(Ite z).xR i H v H'->∃ p,v=.ref p/\H p=none/\H'=upd H p (.tup [.int i,.str (dR [z.cps.toList.getD i 0])]))/\(z.cps.toList.length<=i->(Ite z).stop i H):=by
 refine ⟨fun hi=>⟨hi,fun v H' ⟨p,c,hc,e1,e2,e3⟩=>⟨p,e1,e2,?_⟩⟩,fun hi=>hi⟩;rw [e3,iI,hc];rfl
def jG (P:Params):List DictEntry->List (Str×V)->Prop
 | [],[]=>True
 | e::r,(k,v)::q=>((∃ t,e.key=.str k t)/\e.hash=PyData.keyHash P k/\RelV v e.val)/\jG P r q
 | _,_=>False
theorem jG.lit {P:Params}:∀ {es:List DictEntry}{kvs:List (Str×V)},jG P es kvs->KeysLit P es
 | [],[],_=>trivial
 | e::r,(k,v)::q,⟨⟨⟨t,h1⟩,h2,_⟩,h⟩=>⟨⟨k,t,h1,h2⟩,h.lit⟩
theorem jG.rel {P:Params} (x:Str):∀ {es:List DictEntry}{kvs:List (Str×V)},jG P es kvs->jh (kvs.lookup x) ((es.find? fun e=>Value.isStrOf x e.key).map (·.val))
 | [],[],_=>trivial
 | e::r,(k,v)::q,⟨⟨⟨t,h1⟩,h2,h3⟩,h⟩=>by
  have hk:Value.isStrOf x e.key=(k==x):=by rw [h1];rfl
  by_cases hx:x=k
  ·subst hx;have:Value.isStrOf x e.key=true:=by rw [hk];simp
   rw [List.find?_cons,this,List.lookup_cons];simp only [beq_self_eq_true];exact h3
  ·have h4:Value.isStrOf x e.key=false:=by rw [hk];simpa using fun z:k=x=>hx z.symm
   have h5:(x==k)=false:=by simpa using hx
   rw [List.find?_cons,h4,List.lookup_cons,h5];exact h.rel x
structure KD (K:PySem.W.Frag) (P:Params) (a:Addr) (kvs:List (Str×V)):Prop where
 ex:∃ es n,K.lookup a=some ⟨.type "dict",none,.dict es n,#[]⟩/\jG P es.toList kvs
 lo:(a==sysModules)=false
theorem KD.map {kvs:List (Str×V)} (d:KD K w.params a kvs)  (X:K.In h):∃ f,h.MapOf (strKind prog w) a f/\∀ x,jh (kvs.lookup x) (f x):=by
 obtain ⟨es,n,hl,he⟩:=d.ex;refine ⟨_,mapOf_K X hl he.lit,fun x=>?_⟩;obtain ⟨l⟩:=es;have:=he.rel x;unfold findBy;rw [List.find?_toArray];exact this
inductive JW (K:PySem.W.Frag) (P:PySem.Params) (neg:Bool) (x y:V) (H:Hp) (Q:VK):Prop
 | mk (z:Str) (a:Addr) (kvs:List (Prod Str V)) (_:x=.str z) (_:y=.ref a) (_:KD K P a kvs) (_:Q (.bl (neg != (kvs.lookup z).isSome)) H):JW K P neg x y H Q
def Xp (K:PySem.W.Frag) (P:Params) (neg:Bool):R2:=fun x y H Q=>JW K P neg x y H Q
theorem JX:kZ X (compareOp .In) (Xp X.K X.w.params false):=by
 intro pins s σ H x y v u Q I rx ry h;obtain ⟨z,a,kvs,rfl,rfl,d,q⟩:=h;obtain ⟨t,rfl⟩:=rx;cases ry;obtain ⟨f,hm,hr⟩:=d.map (prog:=X.prog) I.jV;refine wpAny_in_of (strKind_is X.prog X.w z t) d.lo hm ?_;rw [<- (hr z).rF];exact ⟨.bl _,H,I.tok _,rfl,by simpa using q⟩
theorem vC:kZ X (compareOp .NotIn) (Xp X.K X.w.params true):=by
 intro pins s σ H x y v u Q I rx ry h;obtain ⟨z,a,kvs,rfl,rfl,d,q⟩:=h;obtain ⟨t,rfl⟩:=rx;cases ry;obtain ⟨f,hm,hr⟩:=d.map (prog:=X.prog) I.jV;refine wpAny_notIn_of (strKind_is X.prog X.w z t) d.lo hm ?_;rw [<- (hr z).rF];exact ⟨.bl _,H,I.tok _,rfl,by simpa using q⟩
inductive JZ (K:PySem.W.Frag) (P:PySem.Params) (x y:V) (H:Hp) (Q:VK):Prop
 | mk (a:Addr) (kvs:List (Prod Str V)) (z:Str) (v:V) (_:x=.ref a) (_:y=.str z) (_:KD K P a kvs) (_:kvs.lookup z=some v) (_:Q v H):JZ K P x y H Q
def a1R (K:PySem.W.Frag) (P:Params):R2:=fun x y H Q=>JZ K P x y H Q
theorem Qz:Xh X (a1R X.K X.w.params):=by
 intro value slice pins s σ H x y v u Q I rx ry h hs;obtain ⟨a,kvs,z,w',rfl,rfl,d,hl,q⟩:=h;cases rx;obtain ⟨t,rfl⟩:=ry;obtain ⟨f,hm,hr⟩:=d.map (prog:=X.prog) I.jV;obtain ⟨u',hu,ru⟩:=jh.some_of (v:=w') (o:=f z) (by rw [<- hl];exact hr z);exact tail_any hm.typeIs slot_dict_getitem.lookup (wpAny_getItem_of (strKind_is X.prog X.w z t) hm hu ⟨w',H,I.tok _,ru,q⟩) hs
end L2
namespace HT
open PySem PySem.Spec PyProof.Rows
end HT
namespace L2
open PySem PySem.Spec PyProof.Rows PySem.W
theorem Same.Am (e:Same H H') (h:dG K H a xs):dG K H' a xs:=by
 rcases h with (h | ⟨o,h⟩) | h
 ·exact .inl (.inl (e _ _ h))
 ·exact .inl (.inr ⟨o,e _ _ h⟩)
 ·exact .inr h
section
variable {o:Obj}
theorem a1S {k:Key} (h:(cL P w).is k u=true):RelV (kV k) u:=by
 rcases dD (show uN k u=true from h) with ⟨i,t,rfl,rfl⟩ | ⟨x,t,rfl,rfl⟩
 ·exact ⟨t,rfl⟩
 ·exact ⟨t,rfl⟩
theorem KV.at {κ:Type}:∀ {kvs:List (κ×V)}{vs:List (κ×Value)},KV kvs vs->∀ {i:Nat}{kv:κ×V},kvs[i]?=some kv->∃ u,vs[i]?=some (kv.1,u)/\RelV kv.2 u:=by
 intro kvs vs r;unfold KV at r
 induction r with
 | nil=>intro i kv h;simp at h
 | @cons p q ps qs h t ih =>
  intro i kv hi;cases i with
  | zero =>
   simp only [List.getElem?_cons_zero,Option.some.injEq] at hi;subst hi;obtain ⟨q1,q2⟩:=q;obtain ⟨h1,h2⟩:=h;simp only at h1;subst h1;exact ⟨q2,rfl,h2⟩
  | succ j =>
   simp only [List.getElem?_cons_succ] at hi ⊢;exact ih hi
end
end L2
namespace PySem
end PySem
namespace L2
open PySem PySem.Spec PyProof.Rows PySem.W
section
variable {o:Obj}
end
def pat (p:Array Nat) (k:Nat):Nat:=p.getD k 0
structure Ord (n:Nat) (lt:Nat->Nat->Bool):Prop where
 tr:∀ i j k,i<n->j<n->k<n->lt i j=true->lt j k=true->lt i k=true
 tot:∀ i j,i<n->j<n->i≠j->lt i j=false->lt j i=true
def Cmp (n:Nat) (lt:Nat->Nat->Bool) (cmp:Nat->Nat->(Bool->Shared->Prop)->Shared->Prop) (J:Shared->Prop):Prop :=
 ∀ i j C s,i<n->j<n->i≠j->J s->(∀ s',J s'->C (lt i j) s')->cmp i j C s
def Pm (n:Nat) (p:Array Nat):Prop:=p.Perm (List.range n).toArray
theorem Pm.size {p:Array Nat} (h:Pm n p):p.size=n:=by
 have:=h.size_eq
 simpa using this
theorem Pm.lt {p:Array Nat} (h:Pm n p) {k:Nat} (hk:k<n):pat p k<n:=by
 have hs:=h.size;have hk':k<p.size:=by lia
 have hm:p[k]∈p.toList:=by simp
 have:=(Array.perm_iff_toList_perm.mp h).mem_iff.mp hm;simp at this;unfold pat;rw [Array.getD,dif_pos hk'];exact this
theorem Pm.ne {p:Array Nat} (h:Pm n p)  (hi:i<n) (hj:j<n) (hij:i≠j):pat p i≠pat p j:=by
 have hs:=h.size;have hi':i<p.size:=by lia
 have hj':j<p.size:=by lia
 have nd:p.toList.Nodup:=(Array.perm_iff_toList_perm.mp h).nodup_iff.mpr (by simpa using List.nodup_range);unfold pat;rw [Array.getD,dif_pos hi',Array.getD,dif_pos hj'];intro e;have pw:=List.pairwise_iff_getElem.mp nd;rcases Nat.lt_or_gt_of_ne hij with h1 | h1
 ·exact pw i j (by simpa using hi') (by simpa using hj') h1 (by simpa using e)
 ·exact pw j i (by simpa using hj') (by simpa using hi') h1 (by simpa using e.symm)
theorem vD {p q:Array Nat} (h:p[i]?=q[j]?):pat p i=pat q j:=by
 unfold pat;rw [Array.getD_eq_getD_getElem?,Array.getD_eq_getD_getElem?,h]
def Up (lt:Nat->Nat->Bool) (p:Array Nat) (m:Nat):Prop:=∀ i j,i<j->j<m->lt (pat p i) (pat p j)=true
def Down (lt:Nat->Nat->Bool) (p:Array Nat) (m:Nat):Prop:=∀ i j,i<j->j<m->lt (pat p j) (pat p i)=true
section
variable {lt:Nat->Nat->Bool}{cmp:Nat->Nat->(Bool->Shared->Prop)->Shared->Prop}{J:Shared->Prop}{p:Array Nat}
theorem Up.snoc (O:Ord n lt) (P:Pm n p) {m:Nat} (h1:1<=m) (hm:m<n) (h:Up lt p m) (hl:lt (pat p (m - 1)) (pat p m)=true):Up lt p (m+1):=by
 intro i j hij hj
 by_cases e:j=m
 ·subst e
  by_cases e2:i=j - 1
  ·subst e2;exact hl
  ·exact O.tr _ _ _ (P.lt 0x1) (P.lt 0x1) (P.lt 0x1) (h i (j - 1) 0x1 0x1) hl
 ·exact h i j hij 0x1
theorem Down.snoc (O:Ord n lt) (P:Pm n p) {m:Nat} (h1:1<=m) (hm:m<n) (h:Down lt p m) (hl:lt (pat p m) (pat p (m - 1))=true):Down lt p (m+1):=by
 intro i j hij hj
 by_cases e:j=m
 ·subst e
  by_cases e2:i=j - 1
  ·subst e2;exact hl
  ·exact O.tr _ _ _ (P.lt 0x1) (P.lt 0x1) (P.lt 0x1) hl (h i (j - 1) 0x1 0x1)
 ·exact h i j hij 0x1
theorem GZ (O:Ord n lt) (hc:Cmp n lt cmp J) (P:Pm n p) {G:Nat->Shared->Prop}:∀ (f m:Nat) (s:Shared),1<=m->m+f<=n->Up lt p m->J s ->
  (∀ r s',m<=r->r<=m+f->Up lt p r->(r<m+f->lt (pat p r) (pat p (r - 1))=true)->J s'->G r s')->(kas_asc p f m).kasWp cmp G s
 | 0,m,s,h1,hf,hU,hJ,k=>k m s 0x9 0x9 hU (fun h=>absurd h (Nat.lt_irrefl _)) hJ
 | f+1,m,s,h1,hf,hU,hJ,k=>by
  show cmp (p.getD m 0) (p.getD (m - 1) 0) _ s
  refine hc _ _ _ s (P.lt (k:=m) 0x1) (P.lt (k:=m - 1) 0x1) (P.ne 0x1 0x1 0x1) hJ fun s' hJ'=>?_
  show KasT.kasWp cmp (if lt (pat p m) (pat p (m - 1))=true then .ret m else kas_asc p f (m+1)) G s'
  cases e:lt (pat p m) (pat p (m - 1)) with
  | true =>
   rw [if_pos rfl];exact k m s' 0x9 0x1 hU (fun _=>e) hJ'
  | false =>
   rw [if_neg Bool.false_ne_true];have hl:=O.tot _ _ (P.lt (k:=m) 0x1) (P.lt (k:=m - 1) 0x1) (P.ne 0x1 0x1 0x1) e;exact GZ O hc P f (m+1) s' 0x1 0x1 (hU.snoc O P h1 0x1 hl) hJ' fun r s'' a b c d e'=>k r s'' 0x1 0x1 c (fun h=>d 0x1) e'
theorem K1 (O:Ord n lt) (hc:Cmp n lt cmp J) (P:Pm n p) {G:Array Nat×Nat×Nat->Shared->Prop}:∀ (f m:Nat) (s:Shared),1<=m->m+f<=n->Down lt p m->J s ->
  (∀ r s',m<=r->r<=m+f->Down lt p r->J s'->G (p,r,0) s')->(kas_desc f p m 0).kasWp cmp G s
 | 0,m,s,h1,hf,hU,hJ,k=>k m s 0x9 0x9 hU hJ
 | f+1,m,s,h1,hf,hU,hJ,k=>by
  show cmp (p.getD m 0) (p.getD (m - 1) 0) _ s
  refine hc _ _ _ s (P.lt (k:=m) 0x1) (P.lt (k:=m - 1) 0x1) (P.ne 0x1 0x1 0x1) hJ fun s' hJ'=>?_;cases e:lt (pat p m) (pat p (m - 1)) with
  | true =>
   have e':lt (p.getD m 0) (p.getD (m - 1) 0)=true:=e;rw [e'];dsimp only;rw [if_pos rfl,if_neg (Nat.lt_irrefl 0)];exact K1 O hc P f (m+1) s' 0x1 0x1 (hU.snoc O P h1 0x1 e) hJ' fun r s'' a b c d=>k r s'' 0x1 0x1 c d
  | false =>
   have e':lt (p.getD m 0) (p.getD (m - 1) 0)=false:=e;rw [e'];dsimp only;rw [if_neg Bool.false_ne_true];have hl:=O.tot _ _ (P.lt (k:=m) 0x1) (P.lt (k:=m - 1) 0x1) (P.ne 0x1 0x1 0x1) e;refine hc _ _ _ s' (P.lt (k:=m - 1) 0x1) (P.lt (k:=m) 0x1) (P.ne 0x1 0x1 0x1) hJ' fun s'' Zc=>?_;have hl':lt (p.getD (m - 1) 0) (p.getD m 0)=true:=hl;rw [hl'];dsimp only;rw [if_pos rfl];exact k m s'' 0x9 0x1 hU Zc
theorem QB (P:Pm n p) (i j:Nat):Pm n (kas_rev p i j):=(mirror_perm p i j _).trans P
theorem QC (P:Pm n p) {r:Nat} (hr:r<=n) (k:Nat):pat (kas_rev p 0 r) k=if k<r then pat p (r - 1 - k) else pat p k:=by
 have h:=getElem?_mirror_all (xs:=p) (i:=0) (j:=r) (by rw [P.size];exact hr) k
 by_cases hk:k<r
 ·rw [if_pos hk];rw [if_pos ⟨Nat.zero_le _,hk⟩,Nat.zero_add] at h;exact vD h
 ·rw [if_neg hk];rw [if_neg (fun z=>hk z.2)] at h;exact vD h
theorem Zd (P:Pm n p) {r:Nat} (hr:r<=n) (h:Down lt p r):Up lt (kas_rev p 0 r) r:=by
 intro i j hij hj;rw [QC P hr,QC P hr,if_pos 0x1,if_pos hj];exact h _ _ 0x1 0x1
def V9 (n:Nat) (lt:Nat->Nat->Bool) (J:Shared->Prop) (G:Nat×Array Nat->Shared->Prop):Prop:=∀ q p' s',Pm n p'->1<=q->q<=n->Up lt p' q->J s'->G (q,p') s'
theorem QD (O:Ord n lt) (hc:Cmp n lt cmp J) (P:Pm n p) (h2:2<=n) {G:Nat×Array Nat->Shared->Prop} (hJ:J s) (k:V9 n lt J G):(kas_count n p).kasWp cmp G s:=by
 unfold kas_count;rw [KasT.kasWp_bind];refine GZ O hc P (n - 1) 1 s 0x9 0x1 (fun i j hij hj=>by lia) hJ fun r s' h1 hr hU hstop hJ'=>?_
 by_cases e:r=n
 ·subst e;rw [if_pos 0x5];exact k r p s' P h1 0x9 hU hJ'
 ·rw [if_neg (by simpa using e)]
  by_cases e1:r > 1
  ·rw [if_pos e1];refine hc _ _ _ s' (P.lt (k:=0) 0x1) (P.lt (k:=r - 1) 0x1) (P.ne 0x1 0x1 0x1) hJ' fun s'' Zc=>?_;have hl:lt (p.getD 0 0) (p.getD (r - 1) 0)=true:=hU 0 (r - 1) 0x1 0x1;rw [hl];dsimp only;rw [if_pos rfl];exact k r p s'' P h1 0x1 hU Zc
  ·rw [if_neg e1];have er:r=1:=by lia
   subst er;have h0:=hstop 0x1;unfold kas_descPart;rw [KasT.kasWp_bind];refine K1 O hc P (n - (1+1)) (1+1) s' 0x1 0x1 (fun i j hij hj=>?_) hJ' fun r s'' a b c d=>?_
   ·have ei:i=0:=by lia
    have ej:j=1:=by lia
    subst ei ej;exact h0
   ·rw [if_neg (Nat.lt_irrefl 0)];unfold kas_tail3;rw [KasT.kasWp_bind];refine GZ O hc (QB P 0 r) (n - r) r s'' 0x1 0x1 (Zd P 0x1 c) d fun q s3 h3 h4 h5 _ h6=>?_;exact k q _ s3 (QB P 0 r) 0x1 0x1 h5 h6
theorem vG (O:Ord n lt) (hc:Cmp n lt cmp J) (P:Pm n p) {k:Nat} (hk:k<n) (hU:Up lt p k) {G:Nat->Shared->Prop}:∀ (f l r:Nat) (s:Shared),r - l<=f->l<=r->r<=k->(∀ i,i<l->lt (pat p i) (pat p k)=true)->(∀ i,r<=i->i<k->lt (pat p k) (pat p i)=true)->J s ->
  (∀ l' s',l'<=k->(∀ i,i<l'->lt (pat p i) (pat p k)=true)->(∀ i,l'<=i->i<k->lt (pat p k) (pat p i)=true)->J s'->G l' s')->(kas_place p k f l r).kasWp cmp G s
 | 0,l,r,s,h0,h1,h2,hlo,hhi,hJ,w=>w l s 0x1 hlo (fun i hi=>hhi i 0x1) hJ
 | f+1,l,r,s,h0,h1,h2,hlo,hhi,hJ,w=>by
  unfold kas_place
  by_cases e:l>=r
  ·rw [if_pos e];exact w l s 0x1 hlo (fun i hi=>hhi i 0x1) hJ
  ·rw [if_neg e];have hm1:l<=(l+r) / 2:=by lia
   have hm2:(l+r) / 2<r:=by lia
   generalize hmd:(l+r) / 2=md at hm1 hm2;refine hc _ _ _ s (P.lt (k:=k) hk) (P.lt (k:=md) 0x1) (P.ne hk 0x1 0x1) hJ fun s' hJ'=>?_;cases c:lt (pat p k) (pat p md) with
   | true =>
    have c':lt (p.getD k 0) (p.getD md 0)=true:=c;rw [c'];dsimp only;rw [if_pos rfl];refine vG O hc P hk hU f l md s' 0x1 hm1 0x1 hlo (fun i hi hik=>?_) hJ' w
    by_cases ei:i=md
    ·subst ei;exact c
    ·exact O.tr _ _ _ (P.lt hk) (P.lt 0x1) (P.lt 0x1) c (hU md i 0x1 hik)
   | false =>
    have c':lt (p.getD k 0) (p.getD md 0)=false:=c;rw [c'];dsimp only;rw [if_neg Bool.false_ne_true];have hl:=O.tot _ _ (P.lt hk) (P.lt (k:=md) 0x1) (P.ne hk 0x1 0x1) c;refine vG O hc P hk hU f (md+1) r s' 0x1 0x1 h2 (fun i hi=>?_) hhi hJ' w
    by_cases ei:i=md
    ·subst ei;exact hl
    ·exact O.tr _ _ _ (P.lt 0x1) (P.lt 0x1) (P.lt hk) (hU i md 0x1 0x1) hl
theorem QF (P:Pm n p) {k l:Nat} (hk:k<n) (hl:l<=k) (i:Nat):pat (bubble p k (k - l)) i=if i=l then pat p k else if l<i/\i<=k then pat p (i - 1) else pat p i:=by
 have h:=getElem?_bubble (xs:=p) (src:=k) (by rw [P.size];exact hk) (k - l) 0x1 i;rw [show k - (k - l)=l by lia] at h
 by_cases e:i=l
 ·rw [if_pos e] at h ⊢;exact vD h
 ·rw [if_neg e] at h ⊢
  by_cases e2:l<i/\i<=k
  ·rw [if_pos e2] at h ⊢;exact vD h
  ·rw [if_neg e2] at h ⊢;exact vD h
theorem QG (O:Ord n lt) (hc:Cmp n lt cmp J) {G:Array Nat->Shared->Prop}:∀ (f k:Nat) (p:Array Nat) (s:Shared),k+f=n->Pm n p->Up lt p k->J s->(∀ p' s',Pm n p'->Up lt p' n->J s'->G p' s')->(kas_bin f p k).kasWp cmp G s
 | 0,k,p,s,hk,P,hU,hJ,w=>by
  have:k=n:=by lia
  subst this;exact w p s P hU hJ
 | f+1,k,p,s,hk,P,hU,hJ,w=>by
  unfold kas_bin;rw [KasT.kasWp_bind];refine vG O hc P 0x1 hU k 0 k s 0x1 (Nat.zero_le _) 0x9 (fun i hi=>absurd hi (Nat.not_lt_zero _)) (fun i h1 h2=>by lia) hJ fun l s' hl hlo hhi hJ'=>?_;refine QG O hc f (k+1) _ s' 0x1 ((bubble_perm p k _).trans P) (fun i j hij hj=>?_) hJ' w;rw [QF P 0x1 hl,QF P 0x1 hl]
  by_cases a1:i=l
  ·rw [if_pos a1,if_neg 0x1,if_pos 0x1];exact hhi _ 0x1 0x1
  ·rw [if_neg a1]
   by_cases a2:l<i
   ·rw [if_pos 0x1,if_neg 0x1,if_pos 0x1];exact hU _ _ 0x1 0x1
   ·rw [if_neg 0x1]
    by_cases a3:j=l
    ·rw [if_pos a3];exact hlo i 0x1
    ·rw [if_neg a3]
     by_cases a4:l<j
     ·rw [if_pos 0x1]
      by_cases a5:i=j - 1
      ·lia
      ·exact hU _ _ 0x1 0x1
     ·rw [if_neg 0x1];exact hU _ _ hij 0x1
theorem Va (O:Ord n lt) (hc:Cmp n lt cmp J) (h2:2<=n) {G:Array Nat->Shared->Prop} (hJ:J s) (w:∀ p' s',Pm n p'->Up lt p' n->J s'->G p' s'):(kas_sort n).kasWp cmp G s:=by
 unfold kas_sort;rw [KasT.kasWp_bind];refine QD O hc (Array.Perm.refl _) h2 hJ fun q p' s' P h1 hq hU hJ'=>?_
 by_cases e:q<n
 ·rw [if_pos e,show max q 1=q by lia]
  exact QG O hc (n - q) q p' s' 0x1 P hU hJ' w
 ·rw [if_neg e];have:q=n:=by lia
  subst this;exact w p' s' P hU hJ'
end
section
variable {lt:Nat->Nat->Bool}{κ:SortKind}
def Keep (a:Addr) (s s':Shared):Prop:=∀ b o,b≠a->s.heap.get? b=some o->s'.heap.get? b=some o
theorem Nr (vs:List Value):((List.range vs.length).toArray.toList.map fun i=>vs.getD i Value.none)=vs:=by
 apply List.ext_getElem
 ·simp
 ·intro i h1 h2;simp only [List.getElem_map,List.getElem_range];rw [iI,dO h2];rfl
theorem QH {n0:Nat}{P:PySem.Fin->Shared->Prop} (ho:s.heap.get? a=some (seqObj "list" vs.toArray n0)) (h64:vs.length<64) (O:Ord vs.length lt)
  (hk:2<=vs.length->∀ (s':Shared) (Q:SortKind->Shared->Prop),Keep a s s'->Q κ s'->wpAny 0xD A (keyKind' vs.toArray) Q (fun _ _=>False) s')
  (hl:∀ (i j:Nat) (s':Shared) (C:Bool->Shared->Prop),i<vs.length->j<vs.length->i≠j->Keep a s s'->(∀ tk,C (lt i j) { s' with toks:=tk })->wpAny 0xD A (keyLt' κ (vs.getD i Value.none) (vs.getD j Value.none)) C (fun _ _=>False) s')
  (h:∀ (p:Array Nat) (tk:Nat),Pm vs.length p->Up lt p vs.length->P (.done (.ret .none)) { s with toks:=tk,heap:=sortedHeap s.heap a vs (p.toList.map fun i=>vs.getD i Value.none).toArray }) :
  wpAny 0xD A (Builtin.«list.sort» ⟨[.ref a],[]⟩) P E s:=by
 have ha:a<s.heap.objs.size:=Heap.lt_size ho;rw [list_sort_plain];refine wpAny_bind (listItems_at ho rfl ?_);refine wpAny_bind (listUpdate_at ho rfl ?_ (by rw [List.size_toArray,sizeLine_eq];lia) (Nat.zero_le _));obtain ⟨ep,hz⟩:∃ ep,(s.heap.update a (Obj.mapSeq fun _=>#[])).get? a=some (seqObj "list" #[] ep):=⟨_,get?_update_seq ho (fun _=>#[])⟩;refine wpAny_bind (seqEpoch_at hz rfl ?_);refine wpAny_bind (wpAny_newTuple ?_ (by show vs.length<=sizeLine;rw [sizeLine_eq];lia))
 refine wpAny_bind (wpAny_newList ?_ (Nat.zero_le _));refine wpAny_holding ?_;have hz2:(((s.heap.update a (Obj.mapSeq fun _=>#[])).push (seqObj "tuple" vs.toArray 0)).push (seqObj "list" #[] 0)).get? a=some (seqObj "list" #[] ep):=Heap.get?_push_of_some _ (Heap.get?_push_of_some _ hz);have kp:Keep a s { s with heap:=((s.heap.update a (Obj.mapSeq fun _=>#[])).push (seqObj "tuple" vs.toArray 0)).push (seqObj "list" #[] 0) }:=fun b o hb q =>
  Heap.get?_push_of_some _ (Heap.get?_push_of_some _ ((Heap.get?_update_ne _ _ _ _ hb).trans q))
 show wpAny 0xD A _ P E { s with heap:=((s.heap.update a (Obj.mapSeq fun _=>#[])).push (seqObj "tuple" vs.toArray 0)).push (seqObj "list" #[] 0) }
 dsimp only;have hsz:vs.toArray.size=vs.length:=by simp
 by_cases h2:vs.toArray.size<2
 ·rw [if_pos h2,if_pos h2];refine wpAny_bind (wpAny_pure ?_);rw [StateT.run_pure];refine wpAny_bind (wpAny_pure ?_);dsimp only;refine wpAny_bind (seqEpoch_at hz2 rfl ?_);have eo:(arrOf (SortSt.mk' general' (vs.toArray.zip vs.toArray) #[] 7 none)).map (·.2)=vs.toArray:=by
   exact Array.map_snd_zip (as:=vs.toArray) (bs:=vs.toArray) 0x9
  rw [eo];refine wpAny_bind (listUpdate_at hz2 rfl ?_ (hsz2:=by rw [List.size_toArray,sizeLine_eq];lia));simp only [bne_self_eq_false,Bool.false_eq_true,if_false];have g:=h (List.range vs.length).toArray s.toks (Array.Perm.refl _) (fun i j hij hj=>by lia);rw [Nr] at g;exact wpAny_pure g
 ·rw [if_neg h2,if_neg h2];have h2':2<=vs.length:=by lia
  refine wpAny_bind (wpAny_mono (hk h2' _ (fun κ' s'=>κ'=κ/\s'={ s with heap:=((s.heap.update a (Obj.mapSeq fun _=>#[])).push (seqObj "tuple" vs.toArray 0)).push (seqObj "list" #[] 0) }) kp ⟨rfl,rfl⟩) (fun κ' s' hκ=>?_) fun _ _ x=>x.elim);obtain ⟨rfl,rfl⟩:=hκ;refine wpAny_bind (wpAny_mono (kat_run (κ:=κ') (ks:=vs) (vs:=vs) (Q:=fun st' s'=>∃ (p:Array Nat) (tk:Nat),Pm vs.length p/\Up lt p vs.length/\arrOf st'=p.map (kas_item (vs.toArray.zip vs.toArray))/\failedOf st'=none/\s'={ s with toks:=tk,heap:=((s.heap.update a (Obj.mapSeq fun _=>#[])).push (seqObj "tuple" vs.toArray 0)).push (seqObj "list" #[] 0) })
   (G:=fun p s'=>∃ tk:Nat,Pm vs.length p/\Up lt p vs.length/\s'={ s with toks:=tk,heap:=((s.heap.update a (Obj.mapSeq fun _=>#[])).push (seqObj "tuple" vs.toArray 0)).push (seqObj "list" #[] 0) })
   rfl h2' h64 (fun p st' s' _ a2 a3 ⟨tk,b1,b2,b3⟩=>⟨p,tk,b1,b2,a2,a3,b3⟩)
   (Va (J:=fun s'=>∃ tk:Nat,s'={ s with toks:=tk,heap:=((s.heap.update a (Obj.mapSeq fun _=>#[])).push (seqObj "tuple" vs.toArray 0)).push (seqObj "list" #[] 0) }) O (fun i j C s' hi hj hij hJ hC=>?_) h2' ⟨s.toks,rfl⟩ fun p' s' hP hU ⟨tk,e⟩=>⟨tk,hP,hU,e⟩)) ?_ fun _ _ e=>e)
  ·obtain ⟨tk,rfl⟩:=hJ;exact hl i j _ C hi hj hij kp fun tk'=>hC _ ⟨tk',rfl⟩
  rintro ⟨⟨⟩,st'⟩ s' ⟨p,tk,hP,hU,har,hf,rfl⟩;dsimp only;refine wpAny_bind (seqEpoch_at hz2 rfl ?_);rw [kat_snds rfl har];have lp:p.toList.length=vs.length:=by rw [Array.length_toList];exact hP.size
  refine wpAny_bind (listUpdate_at hz2 rfl ?_ (hsz2:=by rw [List.size_toArray,bV,lp,sizeLine_eq];lia));rw [hf];simp only [bne_self_eq_false,Bool.false_eq_true,if_false];exact wpAny_pure (h p tk hP hU)
theorem Nt {x:Value}
  (hc:wpAny 0xD A.in1 (collect x) (fun vs s1=>vs.length<64/\∃ (lt:Nat->Nat->Bool) (κ:SortKind),Ord vs.length lt /\
   (2<=vs.length->∀ (s':Shared) (R:SortKind->Shared->Prop),(∀ b o,s1.heap.get? b=some o->s'.heap.get? b=some o)->R κ s'->wpAny 0xD A.in1.in1 (keyKind' vs.toArray) R (fun _ _=>False) s') /\
   (∀ (i j:Nat) (s':Shared) (C:Bool->Shared->Prop),i<vs.length->j<vs.length->i≠j->(∀ b o,s1.heap.get? b=some o->s'.heap.get? b=some o)->(∀ tk,C (lt i j) { s' with toks:=tk })->wpAny 0xD A.in1.in1 (keyLt' κ (vs.getD i Value.none) (vs.getD j Value.none)) C (fun _ _=>False) s') /\
   ∀ (p:Array Nat) (tk:Nat) (h':Heap) (e:Nat),Pm vs.length p->Up lt p vs.length->(∀ b o,s1.heap.get? b=some o->h'.get? b=some o)->h'.get? s1.heap.objs.size=some (seqObj "list" (p.toList.map fun i=>vs.getD i Value.none).toArray e)->Q (.ref s1.heap.objs.size) { s1 with toks:=tk,heap:=h' }) (fun _ _=>False) s) :
  wpAny 0xD A (call (.builtin "sorted") [x]) Q E s:=by
 refine Calls.call_function_entry kind_sorted plain_sorted entry_sorted (args_sorted1 _) ?_;unfold Builtin.«sorted»;refine wpAny_bind (m:=checkCount "sorted" 1 1 _) (wpAny_pure ?_);refine wpAny_bind (wpAny_mono hc (fun vs s1 ⟨h64,lt,κ,O,hk,hl,hq⟩=>?_) fun _ _ z=>z.elim);refine wpAny_bind (wpAny_newList ?_ (by show vs.length<=sizeLine;rw [sizeLine_eq];lia))
 have hn:(s1.heap.push (seqObj "list" vs.toArray 0)).get? s1.heap.objs.size=some (seqObj "list" vs.toArray 0):=Heap.get?_push_size _ rfl;have old:∀ b o,s1.heap.get? b=some o->b≠s1.heap.objs.size/\(s1.heap.push (seqObj "list" vs.toArray 0)).get? b=some o:=fun b o q=>⟨Nat.ne_of_lt (Heap.lt_size q),Heap.get?_push_of_some _ q⟩
 show wpAny _ _ _ _ _ { s1 with heap:=s1.heap.push (seqObj "list" vs.toArray 0) }
 refine wpAny_bind (wpAny_holding (wpAny_call_entry slot_list_sort ⟨_,hn,rfl⟩ entry_list_sort ?body (args_list_sort _)))
 case body =>
  refine QH (s:={ s1 with heap:=s1.heap.push (seqObj "list" vs.toArray 0) }) hn h64 O (fun h2 s' R kp hR=>hk h2 s' R (fun b o q=>kp b o (old b o q).1 (old b o q).2) hR)
   (fun i j s' C hi hj hij kp hC=>hl i j s' C hi hj hij (fun b o q=>kp b o (old b o q).1 (old b o q).2) hC) fun p tk hP hU=>⟨_,rfl,wpAny_pure ⟨_,rfl,?_⟩⟩
  obtain ⟨e,he⟩:=sortedHeap_at (h:=s1.heap.push (seqObj "list" vs.toArray 0)) (a:=s1.heap.objs.size) (vs:=vs) (out:=(p.toList.map fun i=>vs.getD i Value.none).toArray) hn;refine hq p tk _ e hP hU (fun b o q=>?_) he;rw [sortedHeap_old (old b o q).1 (by have:=Heap.lt_size q;rw [size_push'];exact Nat.lt_succ_of_lt this)];exact (old b o q).2
end
theorem cC.obj (x:cC P w H h a o):∃ ob,h.get? a=some ob:=by
 cases o with
 | lst xs=>obtain ⟨_,_,_,_,e⟩:=x;exact ⟨_,e⟩
 | tup xs=>obtain ⟨_,_,_,ob,e,_⟩:=x;exact ⟨ob,e⟩
 | dK kvs=>obtain ⟨_,_,_,_,ob,_,_,e,_⟩:=x;exact ⟨ob,e⟩
 | dT kvs=>obtain ⟨_,_,_,_,ob,_,_,e,_⟩:=x;exact ⟨ob,e⟩
 | set S n=>obtain ⟨ob,_,_,_,e,_⟩:=x;exact ⟨ob,e⟩
 | ins C dx fs=>obtain ⟨_,_,_,e,_⟩:=x;exact ⟨_,e⟩
 | own y=>exact x
 | xd fs=>obtain ⟨_,⟨ob,_,_,e,_⟩,_⟩:=x;exact ⟨ob,e⟩
 | rng lo hi=>obtain ⟨_,_,_,e⟩:=x;exact ⟨_,e⟩
 | Gb ob u=>obtain ⟨e,_⟩:=x;exact ⟨ob,e⟩
 | Us ps=>exact ⟨_,x⟩
 | met f y=>exact ⟨_,x⟩
 | ext φ=>obtain ⟨_,e,_⟩:=x;exact e
theorem Inv.a1T (H':Hp) (I:Inv X pins σ H s) (k:∀ b u,s.heap.get? b=some u->h'.get? b=some u) (hs:∀ b u,H b=some u->H' b=some u) (hn:∀ b u,H' b=some u->H b=none->(∀ o,s.heap.get? b≠some o)/\cC X.prog X.w H' h' b u) :
  Inv X pins σ H' { s with heap:=h',toks:=t' }:=by
 have hf:∀ b o,s.heap.get? b=some o->H b=none->H' b=none:=fun b o q n=>by
  cases e:H' b with
  | none=>rfl
  | some u=>exact absurd q ((hn b u e n).1 o)
 refine I.un ⟨fun b u q _ _ _=>k b u q,fun b u q _ _ _=>⟨u.slots,k b u q⟩,fun b u q n _=>hf b u q n,fun b u q _=>⟨u,k b u q⟩,fun b xs q=>hs b _ q,fun b o u q=>hs b _ q,fun b ps q=>⟨#[],by rw [hs b _ q];simp⟩⟩ fun b u e=>?_;cases q:H b with
 | none=>exact (hn b u e q).2
 | some v =>
  have e2:=hs b v q;rw [e] at e2;cases e2;exact (I.hok b _ q).stay (fun c z _ r=>k c z r) (fun c r=>hs c _ r) fun c xs r=>hs c _ r
def vH (p d:Addr):HO:=.ext fun h=>h.IsItemsView p d
def jH (p d:Addr):HO:=.ext fun h=>h.IsValuesView p d
theorem Nu {p:Addr} (hv:h.IsItemsView p d):cC P w H h p (vH p d) :=
 ⟨hv,(let ⟨o,ho,_⟩:=hv;⟨o,ho⟩),fun h1 h2 ⟨o,ho,r⟩ k=>⟨o,k _ ho,r⟩⟩
theorem Hf {p:Addr} (hv:h.IsValuesView p d):cC P w H h p (jH p d) :=
 ⟨hv,(let ⟨o,ho,_⟩:=hv;⟨o,ho⟩),fun h1 h2 ⟨o,ho,r⟩ k=>⟨o,k _ ho,r⟩⟩
theorem K3 (I:Inv X pins σ H s) (e:H a=some (.dK kvs)):kvs.length<=sizeLine/\(a==sysModules)=false/\∃ vs ep,KV kvs vs/\s.heap.DictAt (cL X.prog X.w) a vs ep:=by
 obtain ⟨z,hs,vs,rel,o,es,ep,r⟩:=JN I.hok e;exact ⟨z,hs,vs,ep,rel,o,es,r⟩
inductive Dm (Q:VK) (x:V) (H1:Hp):Prop
 | mk (a:Addr) (kvs:List (Prod L2.Key V)) (_:x=.ref a) (_:H1 a=some (.dK kvs)) (_:∀ p,H1 p=none->Q (.ref p) (upd H1 p (vH p a))):Dm Q x H1
def Ze (td:TE):TE:=fun σ H Q=>td σ H fun x H1=>Dm Q x H1
theorem QJ {l:Expr} (hl:PE X l tl) (hbase:attributeBase l "items" X.env (eval l X.env)=eval l X.env:=by rfl) (hline:(apos.endLine==cpos.line)=true:=by rfl) :
  PE X (.Call (.Attribute l "items" apos) [] [] cpos) (Ze tl):=by
 intro pins s σ H Q I h;refine wpAny_Call_method0_late hbase hline (cT (hl pins s σ H _ I h) fun v s1 zq=>?_);obtain ⟨x,H1,I1,r1,a,kvs,ex,ea,q⟩:=zq;subst ex;cases r1;obtain ⟨z,hs,vs,ep,rel,dat⟩:=K3 I1 ea;have hT:s1.TypeIs (.ref a) "dict":=dat.dictOf.typeIs;obtain ⟨o,es,ho,hx,r⟩:=id dat;refine ⟨"dict", "dict.items",PySem.F.plainAttrs_dict,PySem.F.slot_dict_items,PySem.F.type_dict_items,hT,(fun b e=>by injection e with e;subst e;exact ⟨o,ho,hx.2.1⟩),?_⟩;refine Calls.callWith_builtin rfl (PySem.evalArgs_none ?_);refine call_meetsIn PySem.F.slot_dict_items hT PySem.F.entry_dict_items (PySem.F.args_dict_items_1 _) (meets_dict_items (cL X.prog X.w) a hs) ⟨⟨vs,dat.dictOf⟩,?_⟩;exact ⟨.ref s1.heap.objs.size,_,I1.laid (o:=vH s1.heap.objs.size a) (t':=s1.toks) (fun b o q=>Heap.get?_push_of_some _ q) 0x9 (Nu ⟨_,Heap.get?_push_size _ rfl,rfl,rfl⟩),rfl,q _ (I1.hok.fresh 0x9)⟩
inductive yG (Q:VK) (x:V) (H1:Hp):Prop
 | mk (a:Addr) (kvs:List (Prod L2.Key V)) (_:x=.ref a) (_:H1 a=some (.dK kvs)) (_:∀ p,H1 p=none->Q (.ref p) (upd H1 p (jH p a))):yG Q x H1
def Vb (td:TE):TE:=fun σ H Q=>td σ H fun x H1=>yG Q x H1
theorem Nv {l:Expr} (hl:PE X l tl) (hbase:attributeBase l "values" X.env (eval l X.env)=eval l X.env:=by rfl) (hline:(apos.endLine==cpos.line)=true:=by rfl) :
  PE X (.Call (.Attribute l "values" apos) [] [] cpos) (Vb tl):=by
 intro pins s σ H Q I h;refine wpAny_Call_method0_late hbase hline (cT (hl pins s σ H _ I h) fun v s1 zq=>?_);obtain ⟨x,H1,I1,r1,a,kvs,ex,ea,q⟩:=zq;subst ex;cases r1;obtain ⟨z,hs,vs,ep,rel,dat⟩:=K3 I1 ea;have hT:s1.TypeIs (.ref a) "dict":=dat.dictOf.typeIs;obtain ⟨o,es,ho,hx,r⟩:=id dat;refine ⟨"dict", "dict.values",PySem.F.plainAttrs_dict,PySem.F.slot_dict_values,PySem.F.type_dict_values,hT,(fun b e=>by injection e with e;subst e;exact ⟨o,ho,hx.2.1⟩),?_⟩;refine Calls.callWith_builtin rfl (PySem.evalArgs_none ?_);refine call_meetsIn PySem.F.slot_dict_values hT PySem.F.entry_dict_values (PySem.F.args_dict_values_1 _) (meets_dict_values (cL X.prog X.w) a hs) ⟨⟨vs,dat.dictOf⟩,?_⟩;exact ⟨.ref s1.heap.objs.size,_,I1.laid (o:=jH s1.heap.objs.size a) (t':=s1.toks) (fun b o q=>Heap.get?_push_of_some _ q) 0x9 (Hf ⟨_,Heap.get?_push_size _ rfl,rfl,rfl⟩),rfl,q _ (I1.hok.fresh 0x9)⟩
theorem K4:∀ {κ:Type}{kvs:List (κ×V)}{vs:List (κ×Value)},KV kvs vs->Vals (kvs.map (·.2)) (vs.map (·.2))
 | _,[],[],_=>.nil
 | _,_::_,_::_,.cons h t=>.cons h.2 (K4 t)
inductive Dn (xs:List V) (H:Hp) (Q:VK):Prop
 | mk (v a:Addr) (kvs:List (Prod L2.Key V)) (_:xs=[.ref v]) (_:H v=some (jH v a)) (_:H a=some (.dK kvs)) (_:∀ p,H p=none->Q (.ref p) (upd H p (.lst (kvs.map (·.2))))):Dn xs H Q
def Zf:List V->Hp->VK->Prop:=fun xs H Q=>Dn xs H Q
theorem Hg (hin:X.A.handled=none):gq X (.type "list") Zf:=by
 intro pins s σ H xs us Q I r h;obtain ⟨v,a,kvs,rfl,hv,ha,q⟩:=h;obtain ⟨u,rfl,ru⟩:=vals1 r;cases ru;obtain ⟨z,hs,vs,ep,rel,dat⟩:=K3 I ha;have vw:s.heap.IsValuesView v a:=(I.hok _ _ hv).1;have hlen:vs.length=kvs.length:=rel.length.symm;refine kdl_call (kdl_values (knd:=cL X.prog X.w) (kvs:=vs) (ep:=ep)) hin ⟨vw,dat⟩ 0x1 fun h' tk acc c hk hS hI=>?_;have ev:acc.toList=vs.map (·.2):=kdl_vals_eq acc.toList (by rw [Array.length_toList,hI.1]) fun j w hj=>hI.2 j w (by simpa using hj);have hl:(kvs.map (·.2)).length<=sizeLine:=by rw [bV];exact z
 have hv2:=K4 rel;rw [<- ev] at hv2;exact ⟨.ref s.heap.objs.size,_,I.laid (o:=.lst (kvs.map (·.2))) (t':=tk) hk 0x9 ⟨hl,acc.toList,c,hv2,hS⟩,rfl,q _ (I.hok.fresh 0x9)⟩
inductive Dp (xs:List V) (H:Hp) (Q:VK):Prop
 | mk (a:Addr) (kvs:List (Prod L2.Key V)) (_:xs=[.ref a]) (_:H a=some (.dK kvs)) (_:∀ p,H p=none->Q (.ref p) (upd H p (.dK kvs))):Dp xs H Q
def Zg:List V->Hp->VK->Prop:=fun xs H Q=>Dp xs H Q
theorem Hh:gq X (.type "dict") Zg:=by
 intro pins s σ H xs us Q I r h;obtain ⟨a,kvs,rfl,ha,q⟩:=h;obtain ⟨u,rfl,ru⟩:=vals1 r;cases ru;obtain ⟨z,hs,vs,rel,dd⟩:=JN I.hok ha;have hlen:vs.length=kvs.length:=rel.length.symm;have low:(s.heap.objs.size==sysModules)=false:=by
  obtain ⟨m,F⟩:=I.fr;have h1:sysModules<X.base.objs.size:=modules_low I.mod.nolimit;have h2:X.base.objs.size<=X.env.locals:=F.above;have h3:X.env.locals<s.heap.objs.size:=F.ns.lt;exact beq_eq_false_iff_ne.mpr (Nat.ne_of_gt (Nat.lt_trans (Nat.lt_of_lt_of_le h1 h2) h3))
 refine kt_call_dict (knd:=cL X.prog X.w) hs dd 0x1 fun h' hd hb=>?_;exact ⟨.ref s.heap.objs.size,_,I.laid (o:=.dK kvs) (t':=s.toks) (fun b o e=>hb.extBut _ _ (Nat.ne_of_lt (Heap.lt_size e)) (Heap.get?_push_of_some _ e)) 0x9 ⟨z,low,vs,rel,hd⟩,rfl,q _ (I.hok.fresh 0x9)⟩
def yH (kvs:List (Int×V)):List (Key×V):=kvs.map fun p=>(Sum.inl p.1,p.2)
def Items (H:Hp) (as:List Addr) (ys:List (Int×V)):Prop:=as.length=ys.length/\∀ (j:Nat) (a:Addr) (y:Int×V),as[j]?=some a->ys[j]?=some y->H a=some (.tup [.int y.1,y.2])
theorem vI {α β:Type} [DecidableEq α]:∀ {as:List α}{ys:List β}{j:Nat}{a:α}{y:β},as.Nodup->as[j]?=some a->ys[j]?=some y->(as.zip ys).lookup a=some y
 | [],_,_,_,_,_,h,_=>by simp at h
 | _::_,[],_,_,_,_,_,h=>by simp at h
 | x::as,z::ys,0,a,y,_,h1,h2=>by
  have e1:x=a:=by simpa using h1
  have e2:z=y:=by simpa using h2
  subst e1 e2;rw [List.zip_cons_cons,List.lookup_cons,beq_self_eq_true]
 | x::as,z::ys,j+1,a,y,nd,h1,h2=>by
  have n1:=List.nodup_cons.mp nd;have ha:as[j]?=some a:=by simpa using h1
  have ne:(a==x)=false:=by
   rw [beq_eq_false_iff_ne];intro e;exact n1.1 (e ▸ lU ha)
  rw [List.zip_cons_cons,List.lookup_cons,ne];exact vI n1.2 ha (by simpa using h2)
theorem lookup_mem {α β:Type} [DecidableEq α]:∀ {as:List α}{ys:List β}{a:α}{y:β},(as.zip ys).lookup a=some y->∃ j:Nat,as[j]?=some a/\ys[j]?=some y
 | [],_,_,_,h=>by simp at h
 | _::_,[],_,_,h=>by simp at h
 | x::as,z::ys,a,y,h=>by
  rw [List.zip_cons_cons,List.lookup_cons] at h;cases e:a==x with
  | true =>
   rw [e] at h;have:z=y:=by simpa using h
   subst this;exact ⟨0,by simp [eq_of_beq e],by simp⟩
  | false =>
   rw [e] at h;obtain ⟨j,h1,h2⟩:=lookup_mem h;exact ⟨j+1,by simpa using h1,by simpa using h2⟩
def layT (H:Hp) (as:List Addr) (ys:List (Int×V)) (l:Addr) (o:HO):Hp:=fun b=>if b=l then some o else match (as.zip ys).lookup b with
 | some y=>some (.tup [.int y.1,y.2])
 | none=>H b
theorem K5:∀ as:List Addr,(∀ a∈as,∃ k t x,h.get? a=some { cls:=.type "tuple",data:=.seq #[Value.int k t,x] })->∃ fs,KatTups h (as.map Value.ref) fs/\fs.length=as.length/\∀ v∈fs,∃ k t,v=Value.int k t
 | [],_=>⟨[],.nil,rfl,fun v hv=>nomatch hv⟩
 | a::as,ha=>by
  obtain ⟨fs,t,hl,hf⟩:=K5 as fun b hb=>ha b (lR _ hb);obtain ⟨k,tk,x,e⟩:=ha a List.mem_cons_self;exact ⟨.int k tk::fs,.cons e rfl rfl rfl t,by rw [jU,hl,jU],fun v hv=>by
   rcases List.mem_cons.mp hv with rfl | hv
   ·exact ⟨k,tk,rfl⟩
   ·exact hf v hv⟩
inductive Dq (xs:List V) (H:Hp) (Q:VK):Prop
 | mk (v a:Addr) (kvs:List (Prod Int V)) (_:xs=[.ref v]) (_:H v=some (vH v a)) (_:H a=some (.dK (yH kvs))) (_:kvs.length<64) (_:∀ (l:Addr) (as:List Addr) (ys:List (Int×V)) (H':Hp),(∀ b u,H b=some u->H' b=some u)->H l=none->H' l=some (.lst (as.map V.ref))->ys.Perm kvs->ys.Pairwise (fun x y=>x.1<y.1)->Items H' as ys->Q (.ref l) H'):Dq xs H Q
def Zh:List V->Hp->VK->Prop:=fun xs H Q=>Dq xs H Q
theorem yI:∀ as:List Addr,Vals (as.map V.ref) (as.map Value.ref)
 | []=>.nil
 | _::r=>.cons rfl (yI r)
theorem Hi (hin:X.A.handled=none):gq X (.builtin "sorted") Zh:=by
 intro pins s σ H xs us Q I r h;obtain ⟨v,a,kvs,rfl,hv,ha,h64,q⟩:=h;obtain ⟨u,rfl,ru⟩:=vals1 r;cases ru;obtain ⟨z,hs,vs,ep,rel,dat⟩:=K3 I ha;have vw:s.heap.IsItemsView v a:=(I.hok _ _ hv).1;have hlk:(yH kvs).length=kvs.length:=bV _;have hlen:vs.length=kvs.length:=by rw [<- hlk];exact rel.length.symm
 have nd:(vs.map (·.1)).Nodup:=by
  obtain ⟨_,_,_,_,_,_,_,hn⟩:=dat;exact hn
 refine Nt (kdx_collect (knd:=cL X.prog X.w) (E:=fun _ _=>False) hin vw dat (by rw [hlen];lia) fun h1 tk as hk hl hG=>?_);have at_:∀ (j:Nat) (b:Addr),as[j]?=some b->∃ k x t u,kvs[j]?=some (k,x)/\RelV x u/\vs[j]?=some (.inl k,u)/\h1.get? b=some { cls:=.type "tuple",data:=.seq #[Value.int k t,u] }:=by
  intro j b hb;obtain ⟨key,k,u,e1,e2,e3⟩:=hG.pairs j b hb;have hj:j<kvs.length:=by rw [<- hlen];exact (List.getElem?_eq_some_iff.mp e1).1
  obtain ⟨u',hu',Ge⟩:=rel.at (show (yH kvs)[j]?=some (Sum.inl (kvs[j]).1,(kvs[j]).2) by
   unfold yH;rw [jT,dO hj];rfl)
  rw [e1] at hu';have e4:k=Sum.inl (kvs[j]).1/\u=u':=by simpa using hu'
  obtain ⟨rfl,rfl⟩:=e4;obtain ⟨t,rfl⟩:∃ t,key=Value.int (kvs[j]).1 t:=a1S e2;exact ⟨_,_,t,u,dO hj,Ge,e1,e3⟩
 have asN:as.Nodup:=hG.rise.imp fun h=>Nat.ne_of_lt h;have hlv:(as.map Value.ref).length=kvs.length:=by rw [bV,hl,hlen]
 refine ⟨by rw [hlv];exact h64,fun i j=>decide ((kvs.getD i (0,.non)).1<(kvs.getD j (0,.non)).1),tuples' true,?_,fun h2 s' R hk' hR=>?_,fun i j s' C hi hj hij hk' hC=>?_,fun p tk2 h2 e hP hU hk' hS=>?_⟩
 ·rw [hlv];refine ⟨fun i j k _ _ _ a b=>?_,fun i j hi hj hij c=>?_⟩
  ·have a':=fO a;have b':=fO b;exact decide_eq_true (Int.lt_trans a' b')
  ·have c':=of_decide_eq_false c;refine decide_eq_true ?_;have hne:(kvs.getD i (0,.non)).1≠(kvs.getD j (0,.non)).1:=by
    intro e;have e1:kvs.getD i (0,.non)=kvs[i]:=by rw [iI,dO hi];rfl
    have e2:kvs.getD j (0,.non)=kvs[j]:=by rw [iI,dO hj];rfl
    rw [e1,e2] at e;have key:∀ m (hm:m<kvs.length),(vs.map (·.1))[m]?=some (Sum.inl (kvs[m]).1):=fun m hm=>by
     have hm':m<as.length:=by lia
     obtain ⟨k,x,t,u,g1,_,g2,_⟩:=at_ m as[m] (dO hm');rw [dO hm] at g1;have:kvs[m]=(k,x):=by simpa using g1
     rw [jT,g2,this];rfl
    have pw:=List.pairwise_iff_getElem.mp nd;have li:i<(vs.map (·.1)).length:=by rw [bV,hlen];exact hi
    have lj:j<(vs.map (·.1)).length:=by rw [bV,hlen];exact hj
    have ki:=key i hi;have kj:=key j hj;rw [dO li] at ki;rw [dO lj] at kj;have hee:(vs.map (·.1))[i]=(vs.map (·.1))[j]:=by rw [Option.some.inj ki,Option.some.inj kj,e]
    rcases Nat.lt_or_gt_of_ne hij with g | g
    ·exact pw i j li lj g hee
    ·exact pw j i lj li g hee.symm
   lia
 ·obtain ⟨fs,t,hlf,hf⟩:=K5 (h:=s'.heap) as fun b hb=>by
   obtain ⟨j,hj⟩:=List.mem_iff_getElem?.mp hb;obtain ⟨k,x,t,u,_,_,_,g⟩:=at_ j b hj;exact ⟨k,t,u,hk' _ _ g⟩
  have hz:0<fs.length:=by rw [hlf];rw [bV] at h2;lia
  refine kat_kind (T:=Value.type "int") t hz (fun w hw=>?_) (by rfl) ?_
  ·obtain ⟨k,tk',rfl⟩:=hf w hw;exact fun A Q E s _ q=>wpAny_pure q
  ·exact hR
 ·rw [hlv] at hi hj;have hi':i<as.length:=by lia
  have hj':j<as.length:=by lia
  obtain ⟨k1,x1,t1,u1,a1,_,_,g1⟩:=at_ i as[i] (dO hi');obtain ⟨k2,x2,t2,u2,a2,_,_,g2⟩:=at_ j as[j] (dO hj');have b1:(as.map Value.ref).getD i Value.none=Value.ref as[i]:=by rw [iI,jT,dO hi'];rfl
  have b2:(as.map Value.ref).getD j Value.none=Value.ref as[j]:=by rw [iI,jT,dO hj'];rfl
  have c1:kvs.getD i (0,.non)=(k1,x1):=by rw [iI,a1];rfl
  have c2:kvs.getD j (0,.non)=(k2,x2):=by rw [iI,a2];rfl
  have hne:k1≠k2:=by
   intro e;have nd':=List.pairwise_iff_getElem.mp nd;obtain ⟨_,_,_,_,p1,_,p2,_⟩:=at_ i as[i] (dO hi');obtain ⟨_,_,_,_,p3,_,p4,_⟩:=at_ j as[j] (dO hj');rw [a1] at p1;rw [a2] at p3;cases p1;cases p3;have li:i<(vs.map (·.1)).length:=by rw [bV,hlen];exact hi
   have lj:j<(vs.map (·.1)).length:=by rw [bV,hlen];exact hj
   have ki:(vs.map (·.1))[i]?=some (Sum.inl k1):=by rw [jT,p2];rfl
   have kj:(vs.map (·.1))[j]?=some (Sum.inl k2):=by rw [jT,p4];rfl
   rw [dO li] at ki;rw [dO lj] at kj;have hee:(vs.map (·.1))[i]=(vs.map (·.1))[j]:=by rw [Option.some.inj ki,Option.some.inj kj,e]
   rcases Nat.lt_or_gt_of_ne hij with g | g
   ·exact nd' i j li lj g hee
   ·exact nd' j i lj li g hee.symm
  rw [b1,b2];refine kat_lt (hk' _ _ g1) rfl (hk' _ _ g2) rfl ?_;refine kat_cons (wpAny_eqBool_int ?_);have hb:(k1==k2)=false:=by rw [beq_eq_false_iff_ne];exact hne
  rw [hb];refine kat_no (oneLt_int ?_);have g:=hC s'.toks;dsimp only at g;rw [c1,c2] at g;exact g
 ·rw [hlv] at hP hU;have hpl:p.toList.length=kvs.length:=by rw [Array.length_toList];exact hP.size
  have hpi:∀ m,m<kvs.length->∃ i,p.toList[m]?=some i/\i<kvs.length/\i=pat p m:=fun m hm=>by
   have hm':m<p.toList.length:=by lia
   refine ⟨p.toList[m],dO hm',?_,?_⟩
   ·have:=hP.lt hm;unfold pat at this;rw [Array.getD,dif_pos (by rw [hP.size];exact hm)] at this
    simpa using this
   ·unfold pat;rw [Array.getD,dif_pos (by rw [hP.size];exact hm)];simp
  have hout:(p.toList.map fun i=>(as.map Value.ref).getD i Value.none)=(p.toList.map fun i=>as.getD i 0).map Value.ref:=by
   rw [List.map_map];refine List.map_congr_left fun i hi=>?_;obtain ⟨m,hm⟩:=List.mem_iff_getElem?.mp hi;obtain ⟨i',g1,g2,_⟩:=hpi m (by have:=(List.getElem?_eq_some_iff.mp hm).1;lia);rw [hm] at g1;cases g1;have hi':i<as.length:=by lia
   show (as.map Value.ref).getD i Value.none=Value.ref (as.getD i 0)
   rw [iI,jT,dO hi',iI,dO hi'];rfl
  rw [hout] at hS;have lsz:∀ b∈as,b<h1.objs.size:=fun b hb=>hG.there hb;have up:∀ b∈as,s.heap.objs.size<=b:=fun b hb=>Nat.le_of_lt (hG.above b hb);have gl:∀ o,s.heap.get? h1.objs.size≠some o:=fun o e=>absurd (Heap.lt_size (hk _ _ e)) (Nat.lt_irrefl _);have gu:∀ b∈as,∀ o,s.heap.get? b≠some o:=fun b hb o e=>absurd (Nat.lt_of_lt_of_le (Heap.lt_size e) (up b hb)) (Nat.lt_irrefl _);have hLn:H h1.objs.size=none:=by
   cases e:H h1.objs.size with
   | none=>rfl
   | some u =>
    obtain ⟨ob,e2⟩:=(I.hok _ _ e).obj;exact absurd e2 (gl ob)
  have hNl:∀ b∈as,b≠h1.objs.size:=fun b hb=>Nat.ne_of_lt (lsz b hb)
  let H2:Hp:=layT H as kvs h1.objs.size (.lst ((p.toList.map fun i=>as.getD i 0).map V.ref))
  have old:∀ b u,H b=some u->H2 b=some u:=fun b u e=>by
   obtain ⟨ob,eb⟩:=(I.hok _ _ e).obj
   show (if b=h1.objs.size then _ else _)=_
   rw [if_neg (show ¬ b=h1.objs.size from fun z=>gl ob (by rw [<- z];exact eb))]
   cases g:(as.zip kvs).lookup b with
   | none=>exact e
   | some y =>
    obtain ⟨j,g1,_⟩:=lookup_mem g;exact absurd eb (gu b (lU g1) ob)
  have tup:∀ (j:Nat) (b:Addr) (y:Int×V),as[j]?=some b->kvs[j]?=some y->H2 b=some (.tup [.int y.1,y.2]):=fun j b y g1 g2=>by
   show (if b=h1.objs.size then _ else _)=_
   rw [if_neg (hNl b (lU g1)),vI asN g1 g2]
  refine ⟨.ref h1.objs.size,H2,I.a1T (t':=tk2) H2 (fun b u g=>hk' b u (hk b u g)) old (fun b u e n=>?_),rfl,?_⟩
  ·have e':(if b=h1.objs.size then some (HO.lst ((p.toList.map fun i=>as.getD i 0).map V.ref)) else match (as.zip kvs).lookup b with | some y=>some (.tup [.int y.1,y.2]) | none=>H b)=some u:=e
   by_cases hb:b=h1.objs.size
   ·rw [if_pos hb] at e';cases e';subst hb;refine ⟨gl,?_,_,_,yI _,hS⟩;rw [bV,bV,hpl,sizeLine_eq];lia
   ·rw [if_neg hb] at e';cases g:(as.zip kvs).lookup b with
    | none=>rw [g] at e';rw [n] at e';cases e'
    | some y =>
     rw [g] at e';cases e';obtain ⟨j,g1,g2⟩:=lookup_mem g;obtain ⟨k,x,t,u,a1,ru,_,g3⟩:=at_ j b g1;rw [g2] at a1;cases a1;exact ⟨gu b (lU g1),(by show 2<=sizeLine;decide),[Value.int k t,u],.cons ⟨t,rfl⟩ (.cons ru .nil),⟨_,hk' _ _ g3,rfl,_,rfl⟩⟩
  ·refine q h1.objs.size (p.toList.map fun i=>as.getD i 0) (p.toList.map fun i=>kvs.getD i (0,.non)) H2 old hLn ?_ ?_ ?_ ⟨by rw [bV,bV],fun j b y g1 g2=>?_⟩
   ·show (if h1.objs.size=h1.objs.size then _ else _)=_
    rw [if_pos rfl]
   ·have e1:((List.range kvs.length).map fun i=>kvs.getD i (0,.non))=kvs:=by
     apply List.ext_getElem
     ·simp
     ·intro i g1 g2;simp only [List.getElem_map,List.getElem_range];rw [iI,dO g2];rfl
    have g:=(Array.perm_iff_toList_perm.mp hP).map fun i=>kvs.getD i ((0:Int),V.non);rw [show (List.range kvs.length).toArray.toList=List.range kvs.length from rfl,e1] at g
    exact g
   ·rw [List.pairwise_iff_getElem];intro i j g1 g2 g3;rw [bV,hpl] at g1 g2;have:=hU i j g3 g2;have c:=fO this;obtain ⟨i',w1,_,w3⟩:=hpi i g1;obtain ⟨j',w4,_,w6⟩:=hpi j g2;have l1:i<p.toList.length:=by lia
    have l2:j<p.toList.length:=by lia
    rw [dO l1] at w1;rw [dO l2] at w4;rw [<- w3,<- w6] at c;simp only [List.getElem_map];rw [Option.some.inj w1,Option.some.inj w4];exact c
   ·rw [jT] at g1 g2;obtain ⟨i,w1,w2⟩:=Option.map_eq_some_iff.mp g1;rw [w1] at g2;have hj:j<kvs.length:=by have:=(List.getElem?_eq_some_iff.mp w1).1;lia
    obtain ⟨i',w3,w4,_⟩:=hpi j hj;rw [w1] at w3;cases w3;have e1:kvs.getD i (0,.non)=y:=by simpa using g2
    have ei:i<as.length:=by lia
    refine tup i b y ?_ ?_
    ·rw [<- w2,iI,dO ei];rfl
    ·rw [<- e1,iI,dO w4];rfl
open AutoSeq1 (wpAny_loadPart')
theorem tW (l:Addr) (items:Array Value) (n:Nat) (dct:Option Addr) (sl:Array (Option Value)) (c:Int) (tc:Tok) (hf:Builtin.SmallTypes.fitsIndex c=true) :
  Meets (Builtin.«enumerate.__new__» ⟨[.type "enumerate",.ref l],[(Str.ofString "start",.int c tc)]⟩) (fun _ R s=>s.heap.get? l=some { cls:=.type "list",dict:=dct,data:=.seq items n,slots:=sl } /\
   R (.ok (.ret (.ref (s.heap.push { cls:=.type "list_iterator",data:=.fields #[.ref l,.int 0 0] }).objs.size)))
    { s with heap:=(s.heap.push { cls:=.type "list_iterator",data:=.fields #[.ref l,.int 0 0] }).push { cls:=.type "enumerate",data:=.fields #[.none,.bool false,.ref s.heap.objs.size,rawInt c,.none,.none] } }) :=
 .of_wp fun prog w A R s h=>by
  obtain ⟨hp,g,d,tk,os⟩:=s;obtain ⟨hl,h⟩:=h;have hsb:=sub_enumerate;have hq:Heap.IsList (Shared.heap ⟨hp,g,d,tk,os⟩) l items:=⟨_,hl,rfl,n,rfl⟩
  wp_walk using wpAny_loadPart' hl
  refine wpAny_stack_any fun fr=>wpAny_pure ?_
  split
  ·rename_i cc _ _ _ _ _
   cases (cc==Value.type "enumerate")
   ·wp_walk using wpAny_loadPart' hl,wpAny_pyIter_list hq
    exact ⟨_,rfl,h⟩
   ·wp_walk using wpAny_loadPart' hl,wpAny_pyIter_list hq
    exact ⟨_,rfl,h⟩
  ·wp_walk using wpAny_loadPart' hl,wpAny_pyIter_list hq
   exact ⟨_,rfl,h⟩
def stN:Str:=Str.ofString "start"
theorem K6 (a v:Value):checkTypeCall "enumerate" ⟨[a],[(stN,v)]⟩=pure ():=by kernel_rfl
theorem QK (a v:Value):checkBuiltinCall "enumerate.__new__" ⟨[.type "enumerate",a],[(stN,v)]⟩=pure ():=by kernel_rfl
theorem K7 (o a v:Value):argsOk "object.__init__" ⟨[o,a],[(stN,v)]⟩:=by unfold argsOk;kernel_rfl
theorem QL {o a v:Value}:Meets (Builtin.«object.__init__» ⟨[o,a],[(stN,v)]⟩) (fun _ R s=>s.TypeIs o "enumerate"/\R (.ok (.ret .none)) s):=by
 refine Meets.of_wp fun prog w A R s hs=>?_;obtain ⟨hT,hq⟩:=hs;have hl:=(F.called_enumerate).init.lookup;have hm:=(F.called_enumerate).made;have hne:(some "enumerate.__new__" != some "object.__new__")=true:=by decide
 repeat (any_goals (first | assumption | wp_step))
 exact ⟨_,rfl,hq⟩
theorem vJ {c:Int}{tc:Tok} (hL:s.heap.IsList l items) (hf:Builtin.SmallTypes.fitsIndex c=true)
  (k:∀ h',IsEnum h' 0x12 s.heap.objs.size c .none->h'.IsListIter s.heap.objs.size l 0->(∀ b o,s.heap.get? b=some o->h'.get? b=some o)->Q (.ref 0x12) { s with heap:=h' }) :
  wpAny 0xD A (call (.type "enumerate") [.ref l] [(stN,.int c tc)]) Q E s:=by
 obtain ⟨⟨cl,dct,dt,sl⟩,hl,hc,n,hd⟩:=hL;obtain rfl:cl=.type "list":=hc;obtain rfl:dt=.seq items n:=hd;have ft:=F.called_enumerate;obtain ⟨c0,tl,hmro⟩:=ft.mro;have hmade:=ft.made;have hsub:=ft.sub;have hct:=K6 (.ref l) (.int c tc);refine wpAny_call (codeAny_of_tree (show wpAny _ _ (callAny (.type "enumerate") _) _ _ _ from ?_))
 refine wpAny_pure ⟨Code.quiet_builtin _ 0x4,codeAny_builtin F.entry_type_call ?_⟩;rw [Around.under_plain (weight_type_call_type "enumerate" [.ref l] [(stN,.int c tc)]) (units_type_call_type "enumerate" [.ref l] [(stN,.int c tc)])];have hnt:=ft.notType;have hcc:=ft.canCreate
 repeat (any_goals (first | assumption | wp_step))
 refine codeAny_mono (codeAny_call_builtin ft.plain F.entry_enumerate_new (wpAny_of_eq (QK (.ref l) (.int c tc)) (tW l items n dct sl c tc hf prog w A.in1 (wants (fun obj s1=>s1.TypeIs obj "enumerate"/\Q obj s1) E) s ⟨hl,?_⟩))) fun r s1 hr=>?_
 ·have hz:(s.heap.push { cls:=.type "list_iterator",data:=.fields #[.ref l,.int 0 0] }).objs.size=s.heap.objs.size+1:=Heap.size_push ..
  show _/\_
  rw [hz];have he:IsEnum ((s.heap.push { cls:=.type "list_iterator",data:=.fields #[.ref l,.int 0 0] }).push { cls:=.type "enumerate",data:=.fields #[.none,.bool false,.ref s.heap.objs.size,rawInt c,.none,.none] }) 0x12 s.heap.objs.size c .none:=by
   have g:=Heap.get?_push_size (s.heap.push { cls:=.type "list_iterator",data:=.fields #[.ref l,.int 0 0] }) (o:={ cls:=.type "enumerate",data:=.fields #[.none,.bool false,.ref s.heap.objs.size,rawInt c,.none,.none] }) rfl;rw [hz] at g;exact g
  exact ⟨⟨_,he,rfl⟩,k _ he ⟨_,Heap.get?_push_of_some _ (Heap.get?_push_size _ rfl),rfl,rfl⟩ fun b o x=>Heap.get?_push_of_some _ (Heap.get?_push_of_some _ x)⟩
 cases r with
 | error e=>exact hr
 | ok fl =>
  cases fl with
  | ret obj =>
   obtain ⟨hT,hQ⟩:=hr;have hli:=ft.init.lookup;have hbi:=ft.init.bind obj
   repeat (any_goals (first | assumption | wp_step))
   refine codeAny_mono (codeAny_call_builtin ft.init.plain F.entry_object_init (ft.init.check _ _ _ _ _ _ _ _ hT (K7 obj (.ref l) (.int c tc)) (QL prog w A.in1 (wants (fun r s2=>r=.none/\Q obj s2) E) s1 ⟨hT,rfl,hQ⟩))) fun r2 s2 hr2=>?_;cases r2 with
   | error e=>exact hr2
   | ok f2 =>
    cases f2 with
    | ret r =>
     obtain ⟨rfl,hq⟩:=hr2
     repeat (any_goals (first | assumption | wp_step))
    | _=>exact hr2.elim
  | _=>exact hr.elim
theorem sY {P:Nat->Value->Prop}{St:Nat->Heap->Prop} (D:Draws prog w A it fp n P St) (c:Nat) :
  Draws prog w A it fp (n+c) (fun i v=>P (i - c) v) (fun i h=>c<=i/\St (i - c) h) where
 live:=fun i h ⟨_,st⟩=>D.live _ h st
 frame:=fun i h h' ⟨z,st⟩ k=>⟨z,D.frame _ h h' st k⟩
 item:=fun i s Q E hi ⟨z,st⟩ hQ=>D.item (i - c) s Q E 0x1 st fun x h' tk p st' sb=>hQ x h' tk p ⟨by lia,by rw [show i+1 - c=i - c+1 by lia];exact st'⟩ sb
 done:=fun s Q E ⟨z,st⟩ hE=>D.done s Q E (by rw [show n+c - c=n by lia] at st;exact st) hE
def Itf (K:PySem.W.Frag) (l:Addr) (c:Nat):It:=⟨fun i H=>∃ xs x,aZ K H l xs/\xs[i]?=some x,fun i H v H'=>∃ p x,(∀ xs,aZ K H l xs->xs[i]?=some x)/\v=.ref p/\H p=none/\H'=upd H p (.tup [.int ((c+i:Nat):Int),x]),fun i H=>∃ xs,aZ K H l xs/\xs.length<=i⟩
theorem yJ {e:Addr} (hne:e≠it) :
  Turn P w K (.Tuple elts x1 tp) (Itf K l c) [e,it] e (fun i h=>(∃ old,IsEnum h e it ((c+i:Nat):Int) old)/\h.IsListIter it l i) where
 mem:=by simp
 obj:=fun i h ⟨⟨old,he⟩,⟨o,ho,hc,hd⟩⟩ b hb=>by
  simp only [List.mem_cons,List.not_mem_nil,or_false] at hb;rcases hb with rfl | rfl
  ·exact ⟨_,he,fun v z=>by cases z⟩
  ·exact ⟨o,ho,fun v z=>by rw [hd] at z;cases z⟩
 keep:=fun i h h' ⟨⟨old,he⟩,⟨o,ho,r⟩⟩ k=>⟨⟨old,k e 0x5 _ he⟩,⟨o,k it 0x5 o ho,r⟩⟩
 item:=by
  intro X hP hw hK hc i pins s σ H E I hf ⟨⟨old,he⟩,st⟩ ⟨xs,x,hq,hx⟩;subst hP hw hK;obtain ⟨its,rv,p,_⟩:=I.list hq;have nl:=nJ I hf hq;obtain ⟨u,hu,ru⟩:=rv.get hx;have nle:l≠e:=fun z=>nl (by simp [z]);have nli:l≠it:=fun z=>nl (by simp [z]);have hi:i<its.length:=(List.getElem?_eq_some_iff.mp hu).1;refine wpAny_pyNext_enum_itemD (sY (Draws.list (prog:=X.prog) (w:=X.w) (A:=X.A.in1) (I.ok.hd hc) it l nli its.toArray) c) he ⟨by lia,by rw [show c+i - c=i by lia];exact ⟨st,p.isList⟩⟩ (by rw [List.size_toArray];lia) hne (by simp [hne,Ne.symm nle]) fun v h' tk hP ho st' hT hsz hk=>⟨_,rfl,?_⟩
  have hv:v=u:=by
   have:its.toArray[c+i - c]?=some v:=hP;rw [show c+i - c=i by lia] at this
   rw [show its.toArray[i]?=its[i]? by simp,hu] at this
   exact (Option.some.inj this).symm
  subst hv;refine wpAny_letOwnedTupleGo_enum ho fun h2 he2 sb=>?_;have helt:e<s.heap.objs.size:=Heap.lt_size he;obtain ⟨oit,Qx,_⟩:=id st;have hilt:it<s.heap.objs.size:=Heap.lt_size Qx;have hT2:h2.get? s.heap.objs.size=some { cls:=.type "tuple",data:=.seq #[.int ((c+i:Nat):Int) tk,v] }:=sb.extBut _ _ (Nat.ne_of_gt helt) hT;have kk:∀ b o,b∉[e,it]->s.heap.get? b=some o->h2.get? b=some o:=fun b o hb q=>by
   simp only [List.mem_cons,List.not_mem_nil,or_false,not_or] at hb;exact sb.extBut _ _ hb.1 (hk b o hb.1 hb.2 q)
  refine ⟨.ref s.heap.objs.size,upd H s.heap.objs.size (.tup [.int ((c+i:Nat):Int),x]),I.uh (t':=tk+1) hf kk 0x9 ⟨iZ 0x5 |> Nat.le_of_lt,[.int ((c+i:Nat):Int) tk,v],.cons ⟨tk,rfl⟩ (.cons ru .nil),⟨_,hT2,rfl,_,rfl⟩⟩,rfl,⟨_,x,fun ys hy=>by rw [I.uQ hy hq];exact hx,rfl,I.fresh,rfl⟩,⟨⟨_,he2⟩,?_⟩,fun b hb=>?_⟩
  ·obtain ⟨_,⟨o,ho',r⟩,_⟩:=st';rw [show c+i+1 - c=i+1 by lia] at r
   exact ⟨o,sb.extBut _ _ (Ne.symm hne) ho',r⟩
  ·simp only [List.mem_cons,List.not_mem_nil,or_false] at hb;rcases hb with rfl | rfl
   ·rw [aG (Nat.ne_of_lt helt)];exact (hf _ 0x5).1
   ·rw [aG (Nat.ne_of_lt hilt)];exact (hf _ 0x5).1
 done:=by
  intro X hP hw hK hc i pins s σ H E I hf ⟨⟨old,he⟩,st⟩ ⟨xs,hq,hx⟩;subst hP hw hK;obtain ⟨its,rv,p,_⟩:=I.list hq;have nl:=nJ I hf hq;have nli:l≠it:=fun z=>nl (by simp [z]);have hlen:=rv.length;have hno:its.toArray[i]?=none:=by simp;lia
  have D:Draws X.prog X.w X.A.in1 it [it,l] 0 (fun _ _=>True) (fun _ h=>h.IsListIter it l i/\h.IsList l its.toArray) :=
   { live:=(fun _ _ z=>let ⟨o,ho,_⟩:=z.1;⟨o,ho⟩),frame:=fun _ _ _ z hk=>⟨z.1.at fun o e=>hk it 0x5 o e,z.2.at fun o e=>hk l 0x5 o e⟩,item:=fun _ _ _ _ z=>absurd z (Nat.not_lt_zero _),done:=fun s Q E z hE=>wpAny_nextOf_list_end (I.ok.hd hc) z.1 z.2 hno hE }
  exact wpAny_pyNext_enum_endD D he ⟨st,p.isList⟩ fun h' eb=>⟨rfl,I.ug (t':=s.toks) hf fun b o hb q=>eb b o (fun z=>hb (by simp [z])) q⟩
 self:=fun A i s Q E ⟨⟨old,he⟩,_⟩ h=>wpAny_pyIter_enum he h
section
variable {M:Model}
theorem qD {rest:List Expr}{kws:List Keyword}
  (h:wpAny M A (spliced (backTo pos (starEach (e::rest) env))) (fun vs s1=>wpAny M A (evalAll ((backToKw pos (keywordEach kws env)).map (·.2))) (fun kvs s2=>wpAny M A (call (.type T) vs (((backToKw pos (keywordEach kws env)).filterMap (·.1)).zip kvs)) Q E s2) E s1) E s)
  (he:backTo pos (starEach (e::rest) env)=(false,eval e env)::backTo pos (starEach rest env)) (hp:(backTo pos (starEach (e::rest) env)).any (·.1)=false)
  (ha:(backToKw pos (keywordEach kws env)).all (·.1.isSome)=true) (hk:(backToKw pos (keywordEach kws env)).any (·.1.isNone)=false) :
  wpAny M A (callWith pos (.type T) [] (backTo pos (starEach (e::rest) env)) (backToKw pos (keywordEach kws env))) Q E s:=by
 have g:wpAny M A (evalArgs (.type T) true (backTo pos (starEach (e::rest) env)) (backToKw pos (keywordEach kws env))) (fun a s1=>wpAny M A (call (.type T) ([]++a.pos) a.kw) Q E s1) E s:=by
  rw [he] at h ⊢;exact evalArgs_kwB ha h
 unfold callWith;refine wpAny_bind (wpAny_holding (wpAny_mono g (fun a s1 h1=>wpAny_bind (wpAny_standAt ?_)) fun _ _ z=>z));simp only [hp,hk,Bool.or_false];exact wpAny_bind (wpAny_pure (wpAny_bind (wpAny_mono h1 (fun r s2 hr=>wpAny_bind (wpAny_holding (wpAny_point (wpAny_pure hr)))) fun _ _ z=>z)))
end
inductive vK (K:PySem.W.Frag) (R:It->Hp->Prop) (vs:List V) (y:V) (H2:Hp):Prop
 | mk (l:Addr) (xs:List V) (c:Nat) (_:vs=[.ref l]) (_:y=.int (c:Int)) (_:c<2 ^ 62) (_:aZ K H2 l xs) (_:R (Itf K l c) H2):vK K R vs y H2
def Zi (K:PySem.W.Frag) (ta:TA) (tb:TE):TI:=fun σ H R=>ta σ H fun vs H1=>tb σ H1 fun y H2=>vK K R vs y H2
theorem QM {a b:Expr}{ta:TA} (hg:Gl X "enumerate") (hm:X.mg "enumerate"=none) (ha:PA X [a] ta) (hb:PE X b tb) (hs:starEach [a] X.env=[(false,eval a X.env)]:=by rfl) :
  PI X (.Tuple elts x1 tp) (.Call (.Name "enumerate" p) [a] [⟨some (Str.ofString "start"),b,kpos⟩] pos) (Zi X.K ta tb):=by
 intro pins s σ H R I h;refine wpAny_Call_Name_kw (gC I hg hm iT (qD (cT (ha pos pins s σ H _ I h) fun us s1 ⟨vs,H1,I1,r1,q1⟩=>cT (Js hb Pu pos pins s1 σ H1 (fun zs H2=>match zs with | [y]=>vK X.K R vs y H2 | _=>False) I1 q1) fun ws s2 ⟨zs,H2,I2,r2,q2⟩=>?_) (by rw [hs];rfl) (by rw [hs];rfl) (by rfl) (by rfl)))
 match zs,r2,q2 with
 | [y],r2,q2 =>
  obtain ⟨l,xs,c,rfl,rfl,hc,hq,q⟩:=q2;obtain ⟨u,rfl,ru⟩:=vals1 r1;cases ru;obtain ⟨w,rfl,Gx⟩:=vals1 r2;obtain ⟨tc,rfl⟩:=Gx;obtain ⟨its,rv,pl,_⟩:=I2.list hq
  show wpAny _ _ (call (.type "enumerate") [.ref l] [(stN,.int c tc)]) _ _ s2
  refine vJ pl.isList (by
   unfold Builtin.SmallTypes.fitsIndex;rw [Bool.and_eq_true];exact ⟨decide_eq_true 0x1,decide_eq_true 0x1⟩) fun h' he hit hk=>wpAny_pyIter_enum he ?_
  have hne:s2.heap.objs.size+1≠s2.heap.objs.size:=Nat.succ_ne_self _;refine ⟨_,[s2.heap.objs.size+1,s2.heap.objs.size],_,_,H2,rfl,I2.kept (t':=s2.toks) hk,yJ hne,⟨⟨_,he⟩,hit⟩,fun b hb=>?_,q⟩;have hle:s2.heap.objs.size<=b:=by
   simp only [List.mem_cons,List.not_mem_nil,or_false] at hb;rcases hb with rfl | rfl <;> lia
  exact I2.uR hle (I2.hok.fresh hle)
 | [],_,q2=>exact q2.elim
 | _::_::_,_,q2=>exact q2.elim
theorem pA (h:aZ K H l xs) :
  (i<xs.length->(Itf K l c).go i H/\∀ v H',(Itf K l c).xR i H v H'->∃ p,v=.ref p/\H p=none/\H'=upd H p (.tup [.int ((c+i:Nat):Int),xs.getD i .non]))/\(xs.length<=i->(Itf K l c).stop i H):=by
 refine ⟨fun hi=>⟨⟨xs,xs[i],h,by simp [hi]⟩,fun v H' ⟨p,x,e1,e2,e3,e4⟩=>⟨p,e2,e3,?_⟩⟩,fun hi=>⟨xs,h,hi⟩⟩;rw [e4,iI,e1 xs h];rfl
def lD:V->Bool
 | .int _=>true
 | .str x=>PyData.strOk x
 | _=>false
def gY:V->PyData
 | .int i=>.int i
 | .str x=>.str x
 | _=>.none
theorem qF:∀ xs:List V,xs.all lD=true->dw H xs (xs.map gY)
 | [],_=>.nil
 | x::xs,h=>by
  rw [List.all_cons,Bool.and_eq_true] at h;refine .cons ?_ (qF xs h.2);cases x with
  | int i=>exact .int i
  | str z=>exact .str z
  | _=>cases h.1
theorem QS {a b:V} (ha:lD a=true) (hb:lD b=true):PyData.eqv (gY a) (gY b)=decide (a=b):=by
 cases a with
 | int i =>
  cases b with
  | int j =>
   show (i==j)=decide (V.int i=V.int j)
   rw [Bool.eq_iff_iff];simp
  | str z=>exact (decide_eq_false (show ¬ V.int i=V.str z from fun e=>by cases e)).symm
  | _=>cases hb
 | str x =>
  cases b with
  | int j=>exact (decide_eq_false (show ¬ V.str x=V.int j from fun e=>by cases e)).symm
  | str z =>
   show (x==z)=decide (V.str x=V.str z)
   rw [Bool.eq_iff_iff];simp
  | _=>cases hb
 | _=>cases ha
theorem mK:∀ xs ys:List V,xs.all lD=true->ys.all lD=true->PyData.eqvAll (xs.map gY) (ys.map gY)=decide (xs=ys)
 | [],[],_,_=>rfl
 | [],_::_,_,_=>(decide_eq_false (fun e=>by cases e)).symm
 | _::_,[],_,_=>(decide_eq_false (fun e=>by cases e)).symm
 | x::xs,y::ys,hx,hy=>by
  rw [List.all_cons,Bool.and_eq_true] at hx hy
  show (PyData.eqv (gY x) (gY y)&&PyData.eqvAll (xs.map gY) (ys.map gY))=_
  rw [QS hx.1 hy.1,mK xs ys hx.2 hy.2,Bool.eq_iff_iff];simp
theorem kE:∀ xs:List V,xs.all lD=true->PyData.canLayAll0 (xs.map gY)=true
 | [],_=>rfl
 | x::xs,h=>by
  rw [List.all_cons,Bool.and_eq_true] at h;rw [List.map_cons,PyData.canLayAll0,kE xs h.2];cases x with
  | int i=>rfl
  | str z =>
   show (PyData.strOk z&&true)=true
   rw [show PyData.strOk z=true from h.1];rfl
  | _=>cases h.1
theorem qG:∀ xs:List V,PyData.depthAll (xs.map gY)<=1
 | []=>by decide
 | x::xs=>by
  rw [List.map_cons,PyData.depthAll];have:=qG xs;have e:PyData.depth (gY x)<=1:=by cases x <;> exact Nat.le_of_ble_eq_true rfl
  lia
def eY (H:Hp):List Addr->List (List V)->Prop:=Paired fun a r=>H a=some (.tup r)
theorem Ao:∀ {as:List Addr}{us:List Value},Vals (as.map V.ref) us->us=as.map Value.ref
 | [],_,r=>by cases r;rfl
 | a::as,_,r=>by
  rw [List.map_cons] at r;cases r with
  | cons r1 r2=>cases r1;rw [Ao r2];rfl
inductive QT (K:PySem.W.Frag) (x y:V) (H:Hp) (Q:VK):Prop
 | mk (p l:Addr) (as:List Addr) (r:List V) (rows:List (List V)) (_:x=.ref p) (_:y=.ref l) (_:aZ K H l (as.map V.ref)) (_:H p=some (.tup r)) (_:r.all lD=true) (_:eY H as rows) (_:(∀ q∈rows,q.all lD=true)) (_:Q (.bl (rows.any fun q=>decide (q=r))) H):QT K x y H Q
def rInR (K:PySem.W.Frag):R2:=fun x y H Q=>QT K x y H Q
theorem any_rows {r:List V}:∀ {as:List Addr}{rows:List (List V)},eY H as rows->(as.map Value.ref).any (fun u=>match u with | .ref a=>(match H a with | some (.tup q)=>decide (q=r) | _=>false) | _=>false)=rows.any fun q=>decide (q=r)
 | _,_,.nil=>rfl
 | a::as,q::rows,.cons h t=>by
  rw [List.map_cons,List.any_cons,List.any_cons,any_rows t]
  show ((match H a with | some (.tup q)=>decide (q=r) | _=>false)||_)=_
  rw [h]
theorem vL:∀ {as:List Addr}{rows:List (List V)},eY H as rows->∀ a∈as,∃ q∈rows,H a=some (.tup q)
 | _,_,.nil,a,h=>nomatch h
 | _::_,q::_,.cons h t,a,ha=>by
  rcases List.mem_cons.mp ha with rfl | ha
  ·exact ⟨q,List.mem_cons_self,h⟩
  ·obtain ⟨q',m,e⟩:=vL t a ha;exact ⟨q',lR _ m,e⟩
theorem QV (hu:X.A.units+64<cLine):kZ X (compareOp .In) (rInR X.K):=by
 intro pins s σ H x y v u Q I rx ry h;obtain ⟨p,l,as,r,rows,rfl,rfl,hq,hp,hr,hR,hrs,q⟩:=h;cases rx;cases ry;obtain ⟨its,rv,pl,hz⟩:=I.list hq;have Zj:=Ao rv;subst Zj;have read:∀ (a:Addr) (z:List V),H a=some (.tup z)->z.all lD=true->∃ bs,Reads s.heap (.ref a) (.tuple (z.map gY)) bs:=fun a z ha hz=>fB.reads I (.tup ha (qF z hz)) rfl;refine SeqAt.in_listAt (fun u=>match u with | .ref a=>(match H a with | some (.tup q)=>decide (q=r) | _=>false) | _=>false) pl.isList (fun w hw=>?_) ⟨.bl _,H,I,rfl,?_⟩
 ·have hw':w∈as.map Value.ref:=by simpa using hw
  obtain ⟨a,ha,rfl⟩:=List.mem_map.mp hw';obtain ⟨z,hz1,hz2⟩:=vL hR a ha;obtain ⟨bs,rb⟩:=read a z hz2 (hrs z hz1);obtain ⟨cs,rc⟩:=read p r hp hr;have g:=SeqAt.eqAt_reads (.tuple (z.map gY)) (.tuple (r.map gY)) X.A.in1 s _ _ bs cs rb rc (kE z (hrs z hz1)) (kE r hr) (by
   have h1:=qG z;have h2:PyData.depth (.tuple (z.map gY))<=3:=by show PyData.depthAll (z.map gY)+1<=3;lia
   have h3:X.A.in1.units<=X.A.units+32:=by show X.A.units+1<=X.A.units+32;lia
   lia)
  have e:PyData.eqv (.tuple (z.map gY)) (.tuple (r.map gY))=decide (z=r):=mK z r (hrs z hz1) hr;rw [e] at g
  show SeqAt.EqAt _ _ _ _ (match H a with | some (.tup q)=>decide (q=r) | _=>false)
  rw [hz2];exact g
 ·have e:=any_rows (r:=r) hR;have e2:((as.map Value.ref).toArray.any fun u=>match u with | .ref a=>(match H a with | some (.tup q)=>decide (q=r) | _=>false) | _=>false)=rows.any fun q=>decide (q=r):=by rw [<- e];simp
  rw [e2];exact q
theorem K8:∀ l:List (Str×Tok),Vals ((l.map (·.1)).map V.str) (strValues l)
 | []=>.nil
 | (_,t)::r=>.cons ⟨t,rfl⟩ (K8 r)
inductive Dr (x:V) (vs:List V) (H:Hp) (Q:VK):Prop
 | mk (z y:Str) (_:x=.str z) (_:vs=[.str y]) (_:(y.length==0)=false) (_:z.length+2<=sizeLine) (_:∀ p,H p=none->Q (.ref p) (upd H p (.lst ((Txt.split z y).map V.str)))):Dr x vs H Q
def Hj:V->List V->Hp->VK->Prop:=fun x vs H Q=>Dr x vs H Q
theorem gM:YL X "str.split" Hj:=by
 intro pins s σ H x vs v us Q I rx rv h;obtain ⟨z,y,rfl,rfl,hy,hz,q⟩:=h;obtain ⟨t,rfl⟩:=rx;obtain ⟨u,rfl,k,rfl⟩:=rv.one;have many:=StrLaws.occ_length_le z y 0 z.length (z.length+1);have parts:(0x2A).length<=sizeLine:=by
  rw [length_partsBetween];lia
 have fin:∀ (l:List (Str×Tok)) (tk:Nat),l.length<=sizeLine->l.map (·.1)=Txt.split z y->EP X pins σ Q (.ref s.heap.objs.size) { s with toks:=tk,heap:=s.heap.push { cls:=.type "list",data:=.seq (strValues l).toArray } }:=by
  intro l tk hl e;have hv:=K8 l;rw [e] at hv;have hlen:((Txt.split z y).map V.str).length<=sizeLine:=by rw [<- e,bV,bV];exact hl
  exact ⟨.ref s.heap.objs.size,_,I.laid (o:=.lst ((Txt.split z y).map V.str)) (t':=tk) (fun b o g=>Heap.get?_push_of_some _ g) 0x9 ⟨hlen,_,_,hv,Heap.get?_push_size _ rfl⟩,rfl,q _ (I.hok.fresh 0x9)⟩
 by_cases h1:(decide (z.length<y.length)||decide (Builtin.Str.strKind z<Builtin.Str.strKind y))=true
 ·refine call_meets F.slot_str_split (typeIs_str _ _ _) F.entry_str_split (F.args_str_split_2 _ _) (meets_str_split_cannot_occur z y t k h1) ?_;refine fin [(z,t)] s.toks (show 1<=sizeLine by decide) ?_
  unfold Txt.split;rw [if_pos h1];rfl
 ·have h1':=Bool.eq_false_iff.mpr h1
  by_cases hf:(Builtin.Str.occurrences z y 0 z.length (z.length+1)).isEmpty=true
  ·refine call_meets F.slot_str_split (typeIs_str _ _ _) F.entry_str_split (F.args_str_split_2 _ _) (meets_str_split_not_found z y t k h1' hy hf) ?_;refine fin [(z,t)] s.toks (show 1<=sizeLine by decide) ?_
   unfold Txt.split;rw [if_neg h1,if_pos hf];rfl
  ·have hf':=Bool.eq_false_iff.mpr hf;refine call_meets F.slot_str_split (typeIs_str _ _ _) F.entry_str_split (F.args_str_split_2 _ _) (meets_str_split_sep z y t k h1' hy hf' 0x1 parts) ?_;have g:=fin (numbered s.toks 0x2A) (s.toks+(0x2A).length) (by
    have:=congrArg List.length (numbered_texts s.toks 0x2A);rw [bV] at this;lia) (by rw [numbered_texts];unfold Txt.split;rw [if_neg h1,if_neg hf])
   rw [<- strsFrom_eq] at g;exact g
def rStr:List V->Hp->VK->Prop:=fun xs H Q=>(∃ i:Int,xs=[.int i]/\i.natAbs.log2<1920/\Q (.str (toString i)) H)\/∃ z,xs=[.str z]/\Q (.str z) H
theorem je:gq X (.type "str") rStr:=by
 intro pins s σ H xs us Q I r h;rcases h with ⟨i,rfl,hz,q⟩ | ⟨z,rfl,q⟩
 ·exact zV pins s σ H _ us Q I r ⟨i,rfl,hz,q⟩
 ·obtain ⟨u,rfl,t,rfl⟩:=vals1 r;exact PySem.P.str_of_str ⟨.str z,H,I,⟨t,rfl⟩,q⟩
section
variable {a b:Expr}{ta:TA}
abbrev K9 (K:PySem.W.Frag) (a b:Addr):It:=YZ (fun i H=>∃ xs x,dG K H a xs/\xs[i]?=some x) (fun i H=>∃ xs x,aZ K H b xs/\xs[i]?=some x) (fun i H=>∃ xs,dG K H a xs/\xs.length<=i) (fun i H=>∃ xs,aZ K H b xs/\xs.length<=i)
 (fun i H x=>∀ xs,dG K H a xs->xs[i]?=some x) (fun i H x=>∀ xs,aZ K H b xs->xs[i]?=some x)
inductive Ds (K:PySem.W.Frag) (R:It->Hp->Prop) (vs:List V) (H1:Hp):Prop
 | mk (a b:Addr) (_:vs=[.ref a,.ref b]) (_:(∃ xs,dG K H1 a xs)) (_:(∃ xs,aZ K H1 b xs)) (_:R (K9 K a b) H1):Ds K R vs H1
def Zk (K:PySem.W.Frag) (ta:TA):TI:=fun σ H R=>ta σ H fun vs H1=>Ds K R vs H1
theorem QW (hg:Gl X "zip") (hm:X.mg "zip"=none) (ha:PA X [a,b] ta) (hs:starEach [a,b] X.env=[(false,eval a X.env),(false,eval b X.env)]:=by rfl) (hs2:starEach [b] X.env=[(false,eval b X.env)]:=by rfl) :
  PI X (.Tuple elts x1 tp) (.Call (.Name "zip" p) [a,b] [] pos) (Zk X.K ta):=by
 intro pins s σ H R I h;refine Call_ (gC I hg hm vo 0xC);obtain ⟨c,d,rfl,⟨xs,hx⟩,⟨ys,hy⟩,q⟩:=q1;obtain ⟨u,u',rfl,ru,Ge⟩:=vals2 r1;cases ru;cases Ge;obtain ⟨its,rv,p1,_⟩:=I1.tuple hx;obtain ⟨its2,rv2,p2,_⟩:=I1.list hy;exact pq (U:=fun h=>h.IsTuple c its.toArray/\h.IsList d its2.toArray) I1 ⟨p1,p2.isList⟩ 0x2C
  (fun prog w A Q E s hu hQ=>wpAny_pyIter_tuple hu.1 hQ) (fun prog w A Q E s hu hQ=>wpAny_pyIter_list hu.2 hQ) (qm c _) (qp d _) (fun h e=>⟨_,e,rfl,rfl⟩) (fun h e=>⟨_,e,rfl,rfl⟩) rfl rfl q
theorem Dt {a b:Addr} (ha:dG K H a xs) (hb:aZ K H b ys) (hl:xs.length=ys.length) :
  (i<xs.length->(K9 K a b).go i H/\∀ v H',(K9 K a b).xR i H v H'->∃ p,v=.ref p/\H p=none/\H'=upd H p (.tup [xs.getD i .non,ys.getD i .non]))/\(xs.length<=i->(K9 K a b).stop i H):=by
 refine 0x1A;rw [e3,iI,iI,e4 xs ha,e5 ys hb];rfl
end
theorem Du:∀ {a b p q:List Nat},c∉a->c∉b->a++c::p=b++c::q->a=b/\p=q
 | [],[],p,q,_,_,e=>⟨rfl,by simpa using e⟩
 | [],y::b,p,q,_,hb,e=>by
  exfalso
  have:c=y:=by simp at e;exact e.1
  exact hb (this ▸ List.mem_cons_self)
 | x::a,[],p,q,ha,_,e=>by
  exfalso
  have:x=c:=by simp at e;exact e.1
  exact ha (this ▸ List.mem_cons_self)
 | x::a,y::b,p,q,ha,hb,e=>by
  have e':x=y/\a++c::p=b++c::q:=by simpa using e
  obtain ⟨h1,h2⟩:=Du (fun h=>ha (lR _ h)) (fun h=>hb (lR _ h)) e'.2;exact ⟨by rw [e'.1,h1],h2⟩
theorem yK:∀ {xs ys:List Str},(∀ p∈xs,c∉p.cps.toList)->(∀ p∈ys,c∉p.cps.toList)->xs≠[]->ys≠[]->Str.join ⟨#[c]⟩ xs=Str.join ⟨#[c]⟩ ys->xs=ys
 | [],_,_,_,h,_,_=>absurd rfl h
 | _,[],_,_,_,h,_=>absurd rfl h
 | [x],[y],_,_,_,_,e=>by rw [show x=y from e]
 | [x],y::y2::r,hx,hy,_,_,e=>by
  exfalso
  have e1:x=y++⟨#[c]⟩++Str.join ⟨#[c]⟩ (y2::r):=e;refine hx x List.mem_cons_self ?_;rw [e1];simp [Str.cps_append]
 | x::x2::r,[y],hx,hy,_,_,e=>by
  exfalso
  have e1:x++⟨#[c]⟩++Str.join ⟨#[c]⟩ (x2::r)=y:=e;refine hy y List.mem_cons_self ?_;rw [<- e1];simp [Str.cps_append]
 | x::x2::r,y::y2::r',hx,hy,_,_,e=>by
  have e1:x++⟨#[c]⟩++Str.join ⟨#[c]⟩ (x2::r)=y++⟨#[c]⟩++Str.join ⟨#[c]⟩ (y2::r'):=e;have e2:=congrArg (fun z:Str=>z.cps.toList) e1;simp only [Str.cps_append,Array.toList_append,List.append_assoc] at e2;obtain ⟨h1,h2⟩:=Du (hx x List.mem_cons_self) (hy y List.mem_cons_self) (show x.cps.toList++c::(Str.join ⟨#[c]⟩ (x2::r)).cps.toList=y.cps.toList++c::(Str.join ⟨#[c]⟩ (y2::r')).cps.toList from e2)
  have hxy:x=y:=by
   cases x;cases y;simp at h1;rw [h1]
  have hj:Str.join ⟨#[c]⟩ (x2::r)=Str.join ⟨#[c]⟩ (y2::r'):=by
   cases h3:Str.join ⟨#[c]⟩ (x2::r);cases h4:Str.join ⟨#[c]⟩ (y2::r');rw [h3,h4] at h2;simp at h2;rw [h2]
  rw [hxy,yK (fun p hp=>hx p (lR _ hp)) (fun p hp=>hy p (lR _ hp)) (List.cons_ne_nil _ _) (List.cons_ne_nil _ _) hj]
theorem qH (z y:Str):Txt.split z y≠[]:=by
 unfold Txt.split
 split
 ·exact List.cons_ne_nil _ _
 ·split
  ·exact List.cons_ne_nil _ _
  ·intro h;have:=congrArg List.length h;rw [length_partsBetween] at this;simp at this
inductive DK_X (h':PySem.Heap) (b:Addr) (o:Obj):Prop
 | mk (o':Obj) (_:h'.get? b=some o') (_:o'.dict=o.dict):DK_X h' b o
def DK (h h':Heap):Prop:=∀ b o,h.get? b=some o->DK_X h' b o
theorem DK.rfl':DK h h:=fun _ o e=>⟨o,e,rfl⟩
theorem DK.trans (x:DK h h1) (y:DK h1 h2):DK h h2:=fun b o e=>by
 obtain ⟨o1,e1,d1⟩:=x b o e;obtain ⟨o2,e2,d2⟩:=y b o1 e1;exact ⟨o2,e2,d2.trans d1⟩
def ur {α:Type} (t:Sem α):Prop:=∀ (M:Model) (Γ:PySem.Ctx) (Q:α->Pos->Shared->Prop) (E:Value->Pos->Shared->Prop) (p:Pos) (s:Shared),Sem.wp M Γ t Q E p s->Sem.wp M Γ t (fun a p' s'=>Q a p' s'/\DK s.heap s'.heap) (fun e p' s'=>E e p' s'/\DK s.heap s'.heap) p s
theorem ur.any {α:Type}{t:Sem α} (k:ur t) {M:Model}{Q:α->Shared->Prop} (h:wpAny M A t Q E s):wpAny M A t (fun a s'=>Q a s'/\DK s.heap s'.heap) (fun e s'=>E e s'/\DK s.heap s'.heap) s :=
 fun Γ p hΓ=>k M Γ _ _ p s (h Γ p hΓ)
theorem dM {α:Type}{a:α}:ur (pure a:Sem α):=fun _ _ _ _ _ _ h=>⟨h,DK.rfl'⟩
theorem Aq {α:Type}{w:String}:ur (unsupported w:Sem α):=fun _ _ _ _ _ _ h=>h.elim
theorem cN {α β:Type}{m:Sem α}{f:α->Sem β} (hm:ur m) (hf:∀ a,ur (f a)):ur (m >>= f):=fun M Γ Q E p s h=>by
 rw [Sem.wp_bind'] at h ⊢;refine Sem.wp_mono M Γ m (fun a p' s' q=>?_) (fun _ _ _ q=>q) p s (hm M Γ _ _ p s h);refine Sem.wp_mono M Γ (f a) (fun b p2 s2 z=>⟨z.1,q.2.trans z.2⟩) (fun e p2 s2 z=>⟨z.1,q.2.trans z.2⟩) p' s' (hf a M Γ _ _ p' s' q.1)
theorem mO {α:Type}{c:Prop} [Decidable c] {a b:Sem α} (ha:ur a) (hb:ur b):ur (if c then a else b):=by split <;> assumption
theorem qI {v:Value}:ur (field v i):=fun M Γ Q E p s h=>by
 rw [wp_field_iff] at h ⊢;obtain ⟨a,o,vs,x,e,ho,hd,hx,q⟩:=h;exact ⟨a,o,vs,x,e,ho,hd,hx,q,DK.rfl'⟩
theorem QX {o:Obj}{f:Obj->Obj} (ho:h.get? a=some o) (hf:(f o).isFreed=false) (hd:(f o).dict=o.dict):DK h (h.update a f):=fun b u e=>by
 by_cases q:b=a
 ·subst q;rw [ho] at e;cases e;exact ⟨_,Heap.get?_update_self f ho hf,hd⟩
 ·exact ⟨u,(Heap.get?_update_other h f (Ne.symm q)).trans e,rfl⟩
theorem Vc {o:Obj}:DK h (h.push o):=fun b u e=>⟨u,Heap.get?_push_of_some _ e,rfl⟩
theorem mQ {v:Value}{x:Value}:ur (setField v i x):=fun M Γ Q E p s h=>by
 rw [wp_setField_iff] at h ⊢;obtain ⟨a,o,vs,e,ho,hd,hx,q⟩:=h;exact ⟨a,o,vs,e,ho,hd,hx,q,QX ho (Obj.isFreed_of_fields (Obj.data_mapFields hd _)) (by obtain ⟨c,d,dt,sl⟩:=o;cases dt <;> rfl)⟩
theorem vM:ur stack:=fun M Γ Q E p s h=>⟨h,DK.rfl'⟩
theorem Vd:ur (load a):=fun M Γ Q E p s h=>by
 obtain ⟨o,ho,q⟩:=h;exact ⟨o,ho,q,DK.rfl'⟩
theorem Ve {g:Obj->Array (Option Value)}:ur (update a fun o=>{ o with slots:=g o }):=fun M Γ Q E p s h=>by
 obtain ⟨ho,q⟩:=h;obtain ⟨o,ho'⟩:=Option.isSome_iff_exists.mp ho;refine ⟨ho,q,QX ho' ?_ rfl⟩;have z:=(Heap.get?_some_iff.mp ho').2;obtain ⟨oc,od,odt,osl⟩:=o;cases odt <;> first | rfl | exact z
theorem Dv:∀ l:List Env,ur (readyFrames l)
 | []=>dM
 | env::outer=>by
  unfold readyFrames;cases hf:env.frame with
  | none=>exact Aq
  | some f =>
   refine cN Vd fun o=>mO dM ?_;refine cN ?_ fun im=>cN ?_ fun bk=>cN Ve fun _=>Dv outer
   ·unfold behindIsImport;exact mO dM (mO dM (cN qI fun _=>dM))
   ·unfold keptBack;cases outer with
    | nil =>
     refine mO dM ?_;unfold underTheClaimsCaller;exact cN (cN vM fun _=>dM) fun _=>dM
    | cons c r=>exact dM
theorem Hl:ur (PySem.frameOf env):=by
 unfold PySem.frameOf frameEnvs;refine cN (cN vM fun _=>dM) fun l=>?_;refine cN ?_ fun o=>?_
 ·generalize List.dropWhile _ l=m;unfold frameObject;cases m with
  | nil=>exact dM
  | cons e r=>exact cN (Dv _) fun _=>dM
 ·cases o with
  | none=>exact Aq
  | some f=>exact dM
theorem QZ {b:Bool}:ur (entryPlaceOf f b):=by
 unfold entryPlaceOf;refine cN vM fun l=>?_
 split <;> exact dM
theorem Dw {o:Obj}:ur (alloc o):=fun M Γ Q E p s h=>⟨h,Vc⟩
theorem Vf {ty:String}:ur (newFields ty vs):=by
 unfold newFields newObj newObjAsIs;dsimp only;exact mO (cN Aq fun _=>cN Dw fun _=>dM) (cN Dw fun _=>dM)
theorem rG {e:Value}{f:Option Addr}:ur (setFlight e f):=by
 unfold setFlight;exact cN qI fun tb=>mO mQ dM
theorem Ka {e:Value}:ur (noteFrame e env):=by
 unfold noteFrame;cases hf:env.frame with
 | none=>exact Aq
 | some f =>
  refine cN qI fun hd=>?_;have tail:ur (do setField e 1 (<- EntryCells.newEntry hd (<- PySem.frameOf env) .none (rawInt f) .none (<- entryPlaceOf f (hd != .none)))) :=
   cN Hl fun a=>cN QZ fun pl=>cN Vf fun b=>mQ
  refine mO ?_ tail;exact cN qI fun x=>mO dM (cN mQ fun _=>tail)
theorem vN {e:Value}:ur (leaving env e):=by
 unfold leaving;exact cN Ka fun _=>rG
open Builtin.ObjectAttr
def tX (K:Frag) (C:Addr):Bool:=match K.lookup C with
 | some ⟨.type "type",_,.cls z,sl⟩=>(match z.mro,sl.toList with
  | .ref Y::bm,[_,_,_,_,some (.builtin n),_]=>Y==C&&n=="ValueError.__new__"&&!z.hasDel&&z.hasDict&&tailIn K Z5 bm
  | _,_=>false)
 | _=>false
theorem R0 (X:K.In h) (q:tX K C=true) :
  ∃ bm N nm q bs sn sub ab col dd k0 k1 k2 k3 k5,h.get? C=some (excClassObj nm q C N bs bm true sn sub ab col dd k0 k1 k2 k3 k5 "ValueError.__new__")/\OwnTail h Z5 bm:=by
 unfold tX at q
 split at q
 ·rename_i dd z sl ho
  split at q
  ·rename_i Y bm k0 k1 k2 k3 n k5 hm hs
   simp only [Bool.and_eq_true,beq_iff_eq,Bool.not_eq_true'] at q;obtain ⟨⟨⟨⟨rfl,rfl⟩,e1⟩,e2⟩,ht⟩:=q;obtain ⟨nm,bs,mro,ns,qn,hd,sn,sub,ab,col,del⟩:=z;dsimp only at hm e1 e2;subst hm e1 e2;obtain ⟨l⟩:=sl;dsimp only at hs;subst hs;exact ⟨bm,ns,nm,qn,bs,sn,sub,ab,col,dd,k0,k1,k2,k3,k5,X _ _ ho,tail_of_in X ht⟩
  ·cases q
 ·cases q
def kI (C t:Addr) (dx:Option Addr):Obj:={ cls:=.ref C,dict:=dx,data:=.fields #[.ref t,.none,.none,.none,.bool false,.none] }
section
variable {rest:List Value}
theorem Zm {g:Array GenState}{d:Drawn}{t:Nat}{os:OsState}{Q:Fin->Shared->Prop} (X:K.In h) (hI:tX K C=true) (hi:findIn K 0x26 "__init__"=some (some (.ref f))) (hf:typeIn K (.ref f)=some (.type "function")) (hl:rest.length<=sizeLine)
  (hq:∀ h' e,Heap.MadeExcOf h h' e 0x26 rest->wpAny 0xD A (call (.ref f) (.ref e::rest)) (fun r s'=>r=.none/\Q (.done (.ret (.ref e))) s') E ⟨h',g,d,t,os⟩) :
  wpAny 0xD A (Builtin.«type.__call__» ⟨.ref C::rest,[]⟩) Q E ⟨h,g,d,t,os⟩:=by
 obtain ⟨bm,N,nm,q,bs,sn,sub,ab,col,dd,k0,k1,k2,k3,k5,hC,T⟩:=R0 X hI;have FV:=PySem.F.excBase_ValueError
 repeat (first | with_reducible refine wpAny_loadPart_at hC ?_ | with_reducible refine wpAny_madeBy_exc hC ?_ | wp_step)
 refine codeAny_call_builtin_code (Code.quiet_builtin _ FV.quiet) (wpAny_check_new_subT FV T hC ?_);refine codeAny_exc_new_subT FV T hC ?_ hl
 show wpAny _ _ _ _ _ _
 have kp:∀ b o,h.get? b=some o->((h.push { cls:=.type "tuple",data:=.seq rest.toArray }).push (kI C h.objs.size none)).get? b=some o:=fun b o z=>Heap.get?_push_of_some _ (Heap.get?_push_of_some _ z);have hC2:=kp _ _ hC;have X2:=X.keeps kp;have hE:((h.push { cls:=.type "tuple",data:=.seq rest.toArray }).push (kI C h.objs.size none)).get? (h.objs.size+1)=some (kI C h.objs.size none):=by unfold kI;heap_get
 have hself:(Value.ref C::bm).contains 0x26=true:=by simp
 unfold isInstance;unfold kI at hC2 hE X2
 repeat (first | with_reducible refine wpAny_loadPart_at hE ?_ | (with_reducible refine wpAny_isSubtype_exc hC2 ?_;rw [hself]) | wp_step)
 show wpAny _ _ (typeLookup 0x26 _) _ _ _
 refine (looks_findIn X2 hi).at ?_;refine wpAny_holding (wpAny_bind ?_);refine (bind_fn X2 _ hf).at ?_;refine wpAny_bind (wpAny_mono (hq _ (h.objs.size+1) ⟨kp,Heap.get?_none_of_le (Nat.le_succ _),h.objs.size,hE,Heap.get?_none_of_le 0x9,?_⟩) (fun r s' hr=>?_) fun _ _ x=>x)
 ·exact Heap.get?_push_of_some _ (Heap.get?_push_at rfl rfl)
 ·obtain ⟨rfl,z⟩:=hr
  wp_walk
  exact z
theorem a1U (X:K.In s.heap) (hI:tX K C=true) (hi:findIn K 0x26 "__init__"=some (some (.ref f))) (hf:typeIn K (.ref f)=some (.type "function")) (hl:rest.length<=sizeLine)
  (hq:∀ h' e,Heap.MadeExcOf s.heap h' e 0x26 rest->wpAny 0xD (A.under (.builtin "type.__call__" ⟨.ref C::rest,[]⟩)) (call (.ref f) (.ref e::rest)) (fun r s'=>r=.none/\Q (.ref e) s') E { s with heap:=h' }) :
  wpAny 0xD A (call 0x26 rest) Q E s:=by
 obtain ⟨h,g,d,t,os⟩:=s;obtain ⟨bm,N,nm,q,bs,sn,sub,ab,col,dd,k0,k1,k2,k3,k5,hC,T⟩:=R0 X hI;have f1:=tc_lookup;have f2:=tc_bind 0x26;have hT:(⟨h,g,d,t,os⟩:Shared).TypeIs 0x26 "type":=⟨_,hC,rfl⟩;refine wpAny_call (codeAny_of_tree ?_)
 show wpAny _ _ (callAny 0x26 _) _ _ _
 repeat (any_goals (first | assumption | with_reducible refine wpAny_loadPart_at hC ?_ | wp_step))
 refine ⟨rfl,?_⟩;refine codeAny_call_builtin_at (Code.quiet_builtin _ 0x4) entry_typeCall (wpAny_check_type_call_sub hC (Zm X hI hi hf hl fun h' e hm=>?_));exact hq h' e hm
theorem a1V {x t0:Addr}{dx:Option Addr} (X:K.In s.heap) (hI:tX K C=true) (hx:s.heap.get? x=some (kI C t0 dx)) (hl:rest.length<=sizeLine)
  (hq:∀ h' t,(∀ b o,b≠x->s.heap.get? b=some o->h'.get? b=some o)->h'.get? x=some (kI C t dx)->Q .none { s with heap:=h' }) :
  wpAny 0xD A (call (.builtin "ValueError.__init__") (.ref x::rest)) Q E s:=by
 obtain ⟨h,g,d,tk,os⟩:=s;obtain ⟨bm,N,nm,q,bs,sn,sub,ab,col,dd,k0,k1,k2,k3,k5,hC,T⟩:=R0 X hI;have FV:=PySem.F.excBase_ValueError;unfold kI at hx;refine wpAny_call (codeAny_call_builtin FV.init.plain FV.initEntry (wpAny_check_init_subT FV T hC hx rfl ?_))
 wp_walk
 refine hq _ (h.objs.size) (fun b o hb z=>?_) ?_
 ·rw [Heap.get?_update_other _ _ (Ne.symm hb)];exact Heap.get?_push_of_some _ z
 ·rw [Heap.get?_update_self _ (Heap.get?_push_of_some _ hx) rfl];rfl
end
open PySem.Builtin.Getset_descriptor
theorem refT {bm:List Value}{self:Value} (T:OwnTail h Z5 bm):refuseLoop self "__setattr__" bm=pure ():=by
 induction T with
 | base=>exact PySem.F.store_ValueError.passes self
 | own _ _ _ _ ih=>rw [refuseLoop_ref];exact ih
section
variable {x t0:Addr}{v:Value}
theorem Zn {Q:Unit->Shared->Prop} (X:K.In s.heap) (hI:tX K C=true) (hb:mroIn K C (.type "object")=some true) (hs:findIn K 0x26 "__setattr__"=some (some (.builtin "object.__setattr__"))) (hn:findIn K 0x26 name=some none)
  (hx:s.heap.get? x=some (kI C t0 none))
  (hq:∀ h' tk d,(∀ b o,b≠x->s.heap.get? b=some o->h'.get? b=some o)->s.heap.objs.size<=d->h'.get? x=some (kI C t0 (some d))->h'.Ns1 d (fun y=>if y=name then some v else none)->Q () { s with heap:=h',toks:=tk }) :
  wpAny 0xD A (setAttr (.ref x) name v) Q E s:=by
 have I:InstAt s.heap x (kI C t0 none) C none:=⟨hx,rfl,rfl,trivial⟩;have SF:=PySem.F.store_ValueError;refine set_plain X I hs ?_;obtain ⟨h,g,dr,tk,os⟩:=s;dsimp only at X I hx hq;have sub:Looks 0xD h (isInstance (.ref x) (.type "object")) true:=I.type.andThen (looks_mroIn X hb);obtain ⟨bm,N,nm,q,bs,sn,sub',ab,col,dd,k0,k1,k2,k3,k5,hC,T⟩:=R0 X hI;refine codeAny_call_builtin SF.slot.plain SF.entry (@check_slot 0xD _ _ ⟨h,g,dr,tk+1,os⟩ "object.__setattr__" "object" "__setattr__" (.ref x) [.str name tk,v] [] _ SF.kind SF.split sub (SF.args (.ref x) (.str name tk) v) ?_);rw [osa_eq,refuse_eq];refine wpAny_bind (wpAny_bind (I.type.at (wpAny_bind (wpAny_mroOf_exc hC ?_))));rw [refuseLoop_ref,refT T];refine wpAny_pure (wpAny_bind (I.type.at (wpAny_bind ((looks_findIn X hn).at (wpAny_bind ?_)))));refine wpAny_pure ?_
 show wpAny _ _ (storeInOwnDict _ _ _ _ _ _) _ _ _
 unfold storeInOwnDict;refine wpAny_bind (wpAny_pure ?_);have hx1:(h.push { cls:=.type "dict",data:=.dict #[] }).get? x=some (kI C t0 none):=Heap.get?_push_of_some _ hx;have hxs:x≠h.objs.size:=Nat.ne_of_lt (Heap.lt_size hx);refine wpAny_bind (wpAny_bind (wpAny_loadPart hx (wpAny_bind ((show Looks 0xD h (classData C) _ from (Looks.ld hC).andThen .now).at ?_))))
 refine wpAny_bind (wpAny_alloc' (wpAny_bind (wpAny_update' hx1 (wpAny_pure ?_))))
 let h2:=(h.push { cls:=.type "dict",data:=.dict #[] }).update x fun o=>{ cls:=o.cls,dict:=some h.objs.size,data:=o.data,slots:=o.slots }
 have hg2:h2.get? h.objs.size=some { cls:=.type "dict",data:=.dict #[] }:=(Heap.get?_update_ne _ _ _ _ hxs.symm).trans (Heap.get?_push_at rfl rfl);have hx2:h2.get? x=some (kI C t0 (some h.objs.size)):=Heap.get?_update_self _ hx1 rfl;have hn2:h2.Ns h.objs.size (fun _=>none):=⟨_,#[],_,hg2,rfl,fun e he=>absurd he 0x5,fun _=>rfl⟩
 show wpAny _ _ (storeInDict h.objs.size (.str name tk) name v) _ _ _
 unfold storeInDict newKeyGuard;refine wpAny_bind (wpAny_pure (wpAny_bind (wpAny_nsSet1 (Heap.Ns1.of_empty hn2) fun h3 hn3 hs3=>?_)));obtain ⟨oD,esD,epD,hoD,hdD,hcD⟩:=hn3.count (Within.cons name v Within.nil);refine wpAny_bind (wpAny_lookBehind hoD (by rw [hdD];exact pastItsLine_dict (Nat.le_trans hcD (by rw [jU,List.length_nil,sizeLine_eq];lia))) ?_);refine wpAny_pure ?_;refine hq h3 _ h.objs.size (fun b o hbx hb=>?_) 0x9 ((hs3.2 x hxs).trans hx2) hn3;exact (hs3.2 b (Nat.ne_of_lt (Heap.lt_size hb))).trans ((Heap.get?_update_ne _ _ _ _ hbx).trans (Heap.get?_push_of_some _ hb))
theorem getI {ox od:Obj}{expr:Bool} (XC':XC K C) (X:K.In s.heap) (I:InstAt s.heap x ox C (some od)) (hd:hasDictIn K C=true) (hn:findIn K 0x26 name=some none) (hl:lookIn name od=some (some v)) (hv:handedIn v=true)
  (h:Q v { s with toks:=s.toks+1 }):wpAny 0xD A (getAttr (.ref x) name expr) Q E s:=by
 have O:Ul x C s.heap:=⟨ox,I.at_,I.cls⟩;obtain ⟨hh,g,d,t,os⟩:=s;have L0:=I.type (M:=model prog w);have L1:=looks_findIn (M:=model prog w) X XC'.ga;have L2:=looks_findIn (M:=model prog w) X XC'.gh;have LF:=looks_find (M:=model prog w) X I (findObj_own hd hn rfl hl);have hon:onTheHeap (Value.ref C)=true:=rfl;have hne:(Value.builtin "BaseException.__getattribute__"==Value.builtin "object.__getattribute__")=false:=by decide +kernel
 unfold getAttr getAttrBy;refine wpAny_bind (wpAny_mkText (wpAny_holding (wpAny_bind (L0.at (wpAny_bind (L1.at ?_))))))
 show wpAny _ _ (getAttrByItsOwn _ _ _ _ _ _) _ _ _
 unfold getAttrByItsOwn hookBefore;rw [if_pos hon];refine wpAny_bind (L2.at (wpAny_bind (wpAny_attempt (wpAny_holding ?_))));unfold callGetattribute;rw [show (expr&&onTheHeap (Value.builtin "BaseException.__getattribute__"))=false from Bool.and_false _,if_neg 0x8]
 unfold boundAndCalled;have f3:=PySem.F.excAttr_ValueError.ga.bind (.ref x);rw [f3];refine wpAny_bind (wpAny_pure (wpAny_call (codeAny_call_builtin PySem.F.excAttr_ValueError.ga.plain F.entry_bexc_ga (yD (s:=⟨hh,g,d,t+1,os⟩) XC' X O ?_))));unfold Builtin.«object.__getattribute__»;refine wpAny_bind (wpAny_pure (wpAny_bind (wpAny_pure (wpAny_bind (L0.at (wpAny_bind (LF.at ?_)))))));refine wpAny_pure ?_;refine handed_on hv ?_;exact h
end
structure XI (K:Frag) (C:Addr) (nm:Str):Prop where
 xc:XC K C
 ei:tX K C=true
 sa:findIn K 0x26 "__setattr__"=some (some (.builtin "object.__setattr__"))
 no:findIn K 0x26 nm=some none
 hd:hasDictIn K C=true
structure BI (K:Frag) (L:Addr):Prop where
 rd:readsIn K L (.type "type")=true
 fc:findCls K (.ref L) (.type "type") "__init__"=some (.val (.builtin "ValueError.__init__"))
 sp:specialIn K (.ref L) "__getattribute__"=some (some (.builtin "type.__getattribute__"))
def Nx (C x:Addr):HO:=.ext fun h=>∃ t,h.get? x=some (kI C t none)
def Kc (C x d:Addr):HO:=.ext fun h=>∃ t,h.get? x=some (kI C t (some d))
def Kd (C x d:Addr):HO:=.ext fun h=>∃ o,h.get? x=some o/\o.cls=.ref C/\o.dict=some d/\notCls o=true
theorem okN {x t:Addr} (e:h.get? x=some (kI C t none)):cC P w H h x (Nx C x):=⟨⟨t,e⟩,⟨_,e⟩,fun g1 g2 ⟨t,z⟩ k=>⟨t,k _ z⟩⟩
theorem okM {x t:Addr} (e:h.get? x=some (kI C t (some d))):cC P w H h x (Kc C x d):=⟨⟨t,e⟩,⟨_,e⟩,fun g1 g2 ⟨t,z⟩ k=>⟨t,k _ z⟩⟩
theorem Zo {x:Addr} (e:H x=some o):upd H x o=H:=by
 funext b
 unfold upd
 split
 ·rename_i z;rw [z,e]
 ·rfl
inductive Ke (K:PySem.W.Frag) (Q:VK) (vs:List V) (H1:Hp):Prop
 | mk (x C:Addr) (r:List V) (_:vs=.ref x::r) (_:r.length<=sizeLine) (_:H1 x=some (Nx C x)) (_:tX K C=true) (_:Q .non H1):Ke K Q vs H1
def a1W (K:Frag) (t:TA):TE:=fun σ H Q=>t σ H fun vs H1=>Ke K Q vs H1
theorem R3 (B:BI X.K L) (hg:Gl X x) (hm:X.mg x=some (.ref L)) (ha:PA X (e::es) t)
  (hdb:0x17=false:=by decide) (hst:starEach (e::es) X.env=(false,eval e X.env)::starEach es X.env:=by rfl) (hpl:(backTo pos (starEach es X.env)).any (·.1)=false:=by rfl)
  (ht:eval (.Call (.Attribute (.Name x p) "__init__" apos) (e::es) [] pos) X.env=(do
   let ov <- eval (.Name x p) X.env
   standAt apos.atName
   let (f,first) <- holding [ov] (getMethod ov "__init__" pl)
   callWith pos f first (backTo pos (starEach (e::es) X.env)) (backToKw pos (keywordEach [] X.env))):=by rfl) :
  PE X (.Call (.Attribute (.Name x p) "__init__" apos) (e::es) [] pos) (a1W X.K t):=by
 intro pins s σ H Q I h;refine PySem.W.methodCall_KW (pl:=pl) (jD I hg hm ?_ hdb) ht;refine method_cls I.jV B.sp (cls_value I.jV B.rd B.fc (by rfl) ?_);refine PyProof.Rows.callWith_builtin1 (cT (ha pos pins _ σ H _ (I.tok _) h) fun us s2 ⟨vs,H2,I2,r,x,C,rr,e1,l,hx,ei,q⟩=>?_) hst hpl;subst e1;cases r with
 | cons r0 r1 =>
  cases r0;obtain ⟨⟨t0,hx0⟩,_⟩:=(show cC X.prog X.w H2 s2.heap x (Nx C x) from I2.hok x _ hx)
  refine a1V I2.jV ei hx0 (by rw [<- r1.length];exact l) fun h' t k hx'=>?_;have J:=I2.write (x:=x) (e:=x) (o:=Nx C x) (h':=h') (t':=s2.toks) (by rw [hx];exact True.intro) (.inl rfl) (fun b u n z=>k b u n z) ⟨_,hx'⟩ (okN hx');rw [Zo hx] at J;exact ⟨.non,H2,J,rfl,q⟩
inductive Kf (K:PySem.W.Frag) (f:Str) (D:Ends) (σ:L2.St) (y x:V) (H2:Hp):Prop
 | mk (a C:Addr) (_:x=.ref a) (_:H2 a=some (Nx C a)) (_:XI K C f) (_:∀ d,H2 d=none->D.nx σ (upd (upd H2 d (.xd [(f,y)])) a (Kc C a d))):Kf K f D σ y x H2
def a1X (K:Frag) (ta tv:TE) (f:Str):TS:=fun D σ H=>tv σ H fun y H1=>ta σ H1 fun x H2=>Kf K f D σ y x H2
theorem Vg {o:Expr}{f:Str} (ha:PE X o ta) (hv:PE X value tv) (hs:swapsWith value (some (.Attribute o f pos')) pos.line X.env=pure false):PS X (.Assign [.Attribute o f pos'] value pos) (a1X X.K ta tv f):=by
 intro pins s σ H D I h;refine plainObj_wpAny_Assign_Attribute (cT (hv pins s σ H _ I h) fun u s1 ⟨y,H1,I1,ry,q⟩=>cT (ha pins s1 σ H1 _ I1 q) fun ov s2 ⟨x,H2,I2,rx,a,C,ex,ea,xi,q2⟩=>?_) hs;subst ex;obtain rfl:ov=Value.ref a:=rx;obtain ⟨⟨t0,hx0⟩,_⟩:=(show cC X.prog X.w H2 s2.heap a (Nx C a) from I2.hok a _ ea)
 refine Zn I2.jV xi.ei xi.xc.ob xi.sa xi.no hx0 fun h' tk d k hd hx' hn=>?_;have da:d≠a:=fun z=>absurd (Heap.lt_size hx0) (by rw [<- z];exact Nat.not_lt.mpr hd);have fresh:=I2.hok.fresh hd;have ax:∀ b,b≠a->b≠d->(upd (upd H2 d (.xd [(f,y)])) a (Kc C a d)) b=H2 b:=fun b z1 z2=>by rw [aG z1,aG z2]
 have nd:∀ b o,s2.heap.get? b=some o->b≠d:=fun b o e z=>absurd (Heap.lt_size e) (by rw [z];exact Nat.not_lt.mpr hd);have na:∀ b,H2 b=none->b≠a:=fun b n z=>by rw [z,ea] at n;cases n
 have nt:∀ b o,H2 b=some o->o≠Nx C a->b≠a/\b≠d:=fun b o e n=>⟨fun z=>by rw [z,ea] at e;exact n (Option.some.inj e).symm,fun z=>by rw [z,fresh] at e;cases e⟩;refine ⟨σ,_,I2.un (h':=h') (t':=tk) ⟨fun b o e n _ _=>k b o (na b n) e,fun b o e n _ _=>⟨o.slots,k b o (na b n) e⟩,fun b o e n _=>by rw [ax b (na b n) (nd b o e)];exact n,fun b o e _=>?_,
  fun b xs e=>?_,fun b o u e=>?_,fun b ps e=>⟨#[],?_⟩⟩ (fun b u e=>?_),q2 d fresh⟩
 ·by_cases z:b=a
  ·rw [z];exact ⟨_,hx'⟩
  ·exact ⟨o,k b o z e⟩
 ·obtain ⟨z1,z2⟩:=nt b _ e 0x23
  rw [ax b z1 z2];exact e
 ·obtain ⟨z1,z2⟩:=nt b _ e 0x23
  rw [ax b z1 z2];exact e
 ·obtain ⟨z1,z2⟩:=nt b _ e 0x23
  rw [ax b z1 z2,e];simp
 ·by_cases za:b=a
  ·subst za;rw [ak] at e;cases e;exact okM hx'
  ·rw [aG za] at e
   by_cases zd:b=d
   ·subst zd;rw [ak] at e;cases e;refine ⟨_,hn,fun g=>?_⟩
    by_cases q:g=f
    ·subst q
     show jh (List.lookup g [(g,y)]) (if g=g then some _ else none)
     rw [if_pos rfl];have hb:(g==g)=true:=beq_iff_eq.mpr rfl;simp only [List.lookup,hb];exact ry
    ·show jh (List.lookup g [(f,y)]) (if g=f then some _ else none)
     rw [if_neg q];have hb:(g==f)=false:=beq_eq_false_iff_ne.mpr q;simp only [List.lookup,hb];exact True.intro
   ·rw [aG zd] at e;refine (I2.hok b u e).stay (fun c v hc z=>k c v ?_ z) (fun c z=>?_) fun c xs z=>?_
    ·rcases hc with rfl | hc
     ·exact za
     ·exact (nt c _ hc 0x23).1
    ·obtain ⟨z1,z2⟩:=nt c _ z 0x23
     rw [ax c z1 z2];exact z
    ·obtain ⟨z1,z2⟩:=nt c _ z 0x23
     rw [ax c z1 z2];exact z
section
variable {M:Model}{l:List Env}{e:Addr}{cls a0:Value}{Q:Unit->Shared->Prop}
theorem Zq (hfr:A.frames=some (env::outer)) (hf:env.frame=some L) (hfl:Heap.FlyingW base (env::outer) e cls a0 s.heap)
  (hQ:∀ h',Heap.HeldW base (env::outer) e cls a0 L h'->s.heap.UpToSlots h'->DK s.heap h'->Q () { s with heap:=h' }):wpAny M A (noteFrame (.ref e) env) Q E s :=
 wpAny_mono (Ka.any (wpAny_looks_onW (E:=E) (Q:=fun _ s'=>∃ h',s'={ s with heap:=h' }/\Heap.HeldW base (env::outer) e cls a0 L h'/\s.heap.UpToSlots h') hfr hf hfl fun h' a b=>⟨h',rfl,a,b⟩))
  (fun _ s' ⟨⟨h',e,a,b⟩,dk⟩=>by subst e;exact hQ h' a b dk) fun _ _ x=>x.1
theorem Zr (hh:Heap.HeldW base l e cls a0 L s.heap) (hQ:∀ h',Heap.FlyingW base l e cls a0 h'->s.heap.UpToSlots h'->DK s.heap h'->Q () { s with heap:=h' }):wpAny M A (setFlight (.ref e) none) Q E s :=
 wpAny_mono (rG.any (wpAny_landsW (E:=E) (Q:=fun _ s'=>∃ h',s'={ s with heap:=h' }/\Heap.FlyingW base l e cls a0 h'/\s.heap.UpToSlots h') hh fun h' a b=>⟨h',rfl,a,b⟩))
  (fun _ s' ⟨⟨h',e,a,b⟩,dk⟩=>by subst e;exact hQ h' a b dk) fun _ _ x=>x.1
theorem Zt (hh:Heap.FlyingW base l e cls a0 s.heap) (hQ:∀ h',Heap.FlyingW base l e cls a0 h'->s.heap.UpToSlots h'->DK s.heap h'->Q () { s with heap:=h' }):wpAny M A (setFlight (.ref e) none) Q E s :=
 wpAny_mono (rG.any (lands_againW (E:=E) (Q:=fun _ s'=>∃ h',s'={ s with heap:=h' }/\Heap.FlyingW base l e cls a0 h'/\s.heap.UpToSlots h') hh fun h' a b=>⟨h',rfl,a,b⟩))
  (fun _ s' ⟨⟨h',e,a,b⟩,dk⟩=>by subst e;exact hQ h' a b dk) fun _ _ x=>x.1
theorem onD (hfr:A.frames=some (env::outer)) (hf:env.frame=some L) (hfl:Heap.FlyingW base (env::outer) e cls a0 s.heap)
  (hQ:∀ h',Heap.FlyingW base outer e cls a0 h'->s.heap.UpToSlots h'->DK s.heap h'->Q () { s with heap:=h' }):wpAny M A (leaving env (.ref e)) Q E s :=
 wpAny_mono (vN.any (wpAny_leaves_onW (E:=E) (Q:=fun _ s'=>∃ h',s'={ s with heap:=h' }/\Heap.FlyingW base outer e cls a0 h'/\s.heap.UpToSlots h') hfr hf hfl fun h' a b=>⟨h',rfl,a,b⟩))
  (fun _ s' ⟨⟨h',e,a,b⟩,dk⟩=>by subst e;exact hQ h' a b dk) fun _ _ x=>x.1
theorem Zu {oe:Obj}{vs:Array Value} (hfr:A.frames=some (env::outer)) (hl:s.heap.FunFrames base (env::outer)) (hf:env.frame=some L) (he:s.heap.get? e=some oe) (hkb:base.StaysIn s.heap) (hen:base.get? e=none) (hd:oe.data=.fields vs) (h1:vs[1]?=some .none) (h0:vs[0]?=some a0)
  (hQ:∀ h',Heap.FlyingW base outer e oe.cls a0 h'->s.heap.UpToSlots h'->DK s.heap h'->Q () { s with heap:=h' }):wpAny M A (leaving env (.ref e)) Q E s :=
 wpAny_mono (vN.any (wpAny_leaving_firstW (E:=E) (Q:=fun _ s'=>∃ h',s'={ s with heap:=h' }/\Heap.LeftW base (env::outer) e oe.cls a0 s.heap h') hfr hl hf he hkb hen hd h1 h0 fun h' a=>⟨h',rfl,a⟩))
  (fun _ s' ⟨⟨h',e,k1,k2,k3,k4⟩,dk⟩=>by subst e;exact hQ h' ⟨k1,hen,k2.2.2,k3⟩ k4 dk) fun _ _ x=>x.1
end
inductive Dy (h:PySem.Heap) (ea d:Addr):Prop
 | mk (o:Obj) (_:h.get? ea=some o) (_:o.dict=some d):Dy h ea d
def vO (h:Heap) (ea:Addr) (od:Option Addr):Prop:=∀ d,od=some d->Dy h ea d
theorem vO.go {ea:Addr} (x:vO h ea od) (k:DK h h'):vO h' ea od:=fun d e=>by
 obtain ⟨o,a,b⟩:=x d e;obtain ⟨o',a',b'⟩:=k ea o a;exact ⟨o',a',b'.trans b⟩
inductive Xq (P:Program) (w:World) (outer:List Env) (H:Hp) (s:Shared) (E:XK) (e:Value) (s':Shared):Prop
 | mk (ea:Addr) (C a0:Value) (B:PySem.Heap) (H':Hp) (od:Option Addr) (_:e=.ref ea) (_:s'.os=s.os) (_:AllBare s'.gens) (_:Un (frs outer) [] H H' s.heap s'.heap) (_:lV P w H' s'.heap) (_:Fly B s.heap s'.heap outer H' ea C a0) (_:vO s'.heap ea od) (_:E C od H'):Xq P w outer H s E e s'
def vP (P:Program) (w:World):BX:=fun outer H s E e s' =>
 Xq P w outer H s E e s'
def cut (H:Hp) (x:Addr):Hp:=fun b=>if b=x then none else H b
theorem pB {x:Addr} (n:b≠x):cut H x b=H b:=by unfold cut;rw [if_neg n]
theorem Dz {x:Addr} (e:cut H x b=some o):b≠x/\H b=some o:=by
 unfold cut at e
 split at e
 ·cases e
 ·rename_i z;exact ⟨z,e⟩
section
variable {fs ex:List Addr}{e:Addr}
theorem Zv (u:Un fs ex H H1 h h1) (he:H1 e=some (Kc C e d)):Un fs ex H (cut H1 e) h h1 where
 keep:=u.keep
 slot:=u.slot
 free:=fun b o q n hx=>by
  unfold cut
  split
  ·rfl
  ·exact u.free b o q n hx
 there:=u.there
 tups:=fun b xs q=>by
  have z:=u.tups b xs q;rw [pB (fun y=>by rw [y,he] at z;cases z)];exact z
 oV:=fun b o v q=>by
  have z:=u.oV b o v q;rw [pB (fun y=>by rw [y,he] at z;cases z)];exact z
 pQ:=fun b ps q=>by
  obtain ⟨more,z⟩:=u.pQ b ps q;exact ⟨more,by rw [pB (fun y=>by rw [y,he] at z;cases z)];exact z⟩
theorem Vh (k:lV P w H1 h1) (he:H1 e=some (Kc C e d)):lV P w (cut H1 e) h1:=fun b u q=>by
 obtain ⟨n,q⟩:=Dz q;refine (k b u q).stay (fun _ _ _ z=>z) (fun c z=>?_) fun c xs z=>?_
 ·rw [pB (fun y=>by rw [y,he] at z;cases z)];exact z
 ·rw [pB (fun y=>by rw [y,he] at z;cases z)];exact z
end
section
variable {E:XK}
theorem uw {s1:Shared}{e:Addr} (I:Inv 0x1C pins σ H1 s1) (he:H1 e=some (Kc C e d)) (hnew:s.heap.get? e=none) (q:E 0x26 (some d) (cut H1 e)) :
  (qd (vP P w) P w K mg base N qual scope f cd A outer s H E).xe (.ref e) s1:=by
 have fr:=I.ok.frames;have ff:=funFrames_hide (as:=e::frs (0x1C).stack) I.stack fun env he a hf=>lR _ (List.mem_filterMap.mpr ⟨env,he,hf⟩);obtain ⟨⟨t,ho⟩,_⟩:=(show cC P w H1 s1.heap e (Kc C e d) from I.hok e _ he)
 have b0:(hideAll s1.heap (e::frs (0x1C).stack)).StaysIn s1.heap:=fun b o q=>of_hideAll _ q;have hen:(hideAll s1.heap (e::frs (0x1C).stack)).get? e=none:=hideAll_none _ List.mem_cons_self;have tr:∀ b o,cut H1 e b=some o->∃ u,(hideAll s1.heap (e::frs (0x1C).stack)).get? b=some u:=fun b o z=>by
  obtain ⟨n,z⟩:=Dz z;obtain ⟨u,hu⟩:=rE (I.hok b o z);refine ⟨u,hideAll_get _ hu fun y=>?_⟩;rcases List.mem_cons.mp y with y | y
  ·exact n y
  ·rw [I.zT b y] at z;cases z
 have old:∀ b o,s.heap.get? b=some o->b∉frs outer->∃ u,(hideAll s1.heap (e::frs (0x1C).stack)).get? b=some u:=fun b o z hb=>by
  obtain ⟨u,hu⟩:=I.base.there b o z 0x23
  refine ⟨u,hideAll_get _ hu fun y=>?_⟩;rcases List.mem_cons.mp y with y | y
  ·rw [y,hnew] at z;cases z
  ·rcases List.mem_cons.mp (I.uO b y) with q | q
   ·have h1:=Heap.lt_size z;have h2:s.heap.objs.size<=b:=by rw [q];exact I.ok.above
    exact absurd (Nat.lt_of_lt_of_le h1 h2) (Nat.lt_irrefl _)
   ·exact hb q
 refine Zu (a0:=.ref t) fr ff rfl ho b0 hen rfl rfl rfl fun h'' fl up dk=>?_;exact ⟨e,.ref C,.ref t,_,cut H1 e,some d,rfl,I.os,I.bare,Ag (Zv I.base he) I.oF old b0 fl.1 up,uo (Vh I.hok he) tr b0 fl.1,⟨fl,tr,old⟩,(show vO s1.heap e (some d) from fun d' z=>⟨_,ho,z⟩).go dk,q⟩
theorem a1Y:Passes (vP P w) 0x1C E:=by
 rintro pins σ H1 s1 e s' I ⟨ea,C,a0,B,H',od,rfl,os,bare,un,hok,fly,di,q⟩;have J:=I.call' os un hok bare (fun b z=>nomatch z)
 refine onD J.ok.frames rfl fly.fl fun h'' fl up dk=>?_;have old:∀ b o,s.heap.get? b=some o->b∉frs outer->∃ u,B.get? b=some u:=fun b o e hb=>by
  obtain ⟨o1,e1⟩:=I.base.there b o e 0x23
  refine fly.old b o1 e1 fun z=>?_;rcases List.mem_cons.mp (I.uO b z) with q | q
  ·have h1:=Heap.lt_size e;have h2:s.heap.objs.size<=b:=by rw [q];exact I.ok.above
   exact absurd (Nat.lt_of_lt_of_le h1 h2) (Nat.lt_irrefl _)
  ·exact hb q
 exact ⟨ea,C,a0,B,H',od,rfl,J.os,J.bare,Ag J.base J.oF old fly.fl.1 fl.1 up,uo hok fly.tr fly.fl.1 fl.1,⟨fl,fly.tr,old⟩,di.go dk,q⟩
end
theorem a1Z:Passes (vP P w) X (fun _ _ _=>False):=by
 rintro pins σ H1 s1 e s' I ⟨ea,C,a0,B,H',od,_,_,_,_,_,_,_,q⟩;exact q.elim
theorem Ho {x:Sem Value}{Q:Flow->Shared->Prop} (hh:A.handled=none)
  (h:wpAny 0xD A x (fun v s1=>∃ e C t d,v=.ref e/\K.In s1.heap/\tX K C=true/\s1.heap.get? e=some (kI C t d)/\E (.ref e) s1) E s):wpAny 0xD A (raiseStmt env (some x) none) Q E s:=by
 unfold raiseStmt;refine wpAny_bind (wpAny_mono h (fun v s1 h1=>?_) fun _ _ x=>x);obtain ⟨e,C,t,d,rfl,X,ei,he,hE⟩:=h1;obtain ⟨bm,N,nm,q,bs,sn,sub,ab,col,dd,k0,k1,k2,k3,k5,hC,T⟩:=R0 X ei;have hcB:(Value.ref C::bm).contains (.type "BaseException")=true:=by rw [List.contains_cons,T.hasType PySem.F.excBase_ValueError.hasBase,Bool.or_true]
 obtain ⟨hp,g,dr,tk,os⟩:=s1;unfold kI at he
 repeat (first | with_reducible refine wpAny_loadPart_at he ?_ | with_reducible refine wpAny_loadPart_at hC ?_ | (with_reducible refine wpAny_isSubtype_exc hC ?_;rw [hcB]) | wp_step)
 exact wpAny_raiseNew_none hh hE
theorem Inv.laidN (I:Inv X pins σ H s) (k:∀ b u,s.heap.get? b=some u->h'.get? b=some u) (hn:s.heap.get? a=none) (new:cC X.prog X.w (upd H a o) h' a o) :
  Inv X pins σ (upd H a o) { s with heap:=h',toks:=t' }:=by
 have fr:H a=none:=by
  cases q:H a with
  | none=>rfl
  | some u=>obtain ⟨z,e⟩:=rE (I.hok a u q);rw [hn] at e;cases e
 have ne:∀ b u,s.heap.get? b=some u->b≠a:=fun b u e z=>by rw [z,hn] at e;cases e
 refine I.un ⟨fun b u e _ _ _=>k b u e,fun b u e _ _ _=>⟨u.slots,k b u e⟩,fun b u e n _=>by rw [aG (ne b u e)];exact n,fun b u e _=>⟨u,k b u e⟩,
  fun b xs q=>by rw [aG (aN q fr)];exact q,fun b u xs q=>by rw [aG (aN q fr)];exact q,fun b ps q=>⟨#[],by rw [aG (aN q fr),q];simp⟩⟩ fun b u e=>?_
 by_cases z:b=a
 ·subst z;rw [ak] at e;cases e;exact new
 ·rw [aG z] at e;exact (I.hok b u e).stay (fun c v _ q=>k c v q) (fun c q=>by rw [aG (aN q fr)];exact q) fun c xs q=>by rw [aG (aN q fr)];exact q
def Vi (X:Cx) (E:XK):Prop:=∀ (pins:List 0x18) (σ:St) (H:Hp) (s:Shared) (e C d:Addr),Inv X pins σ H s->H e=some (Kc C e d)->X.s₀.heap.get? e=none->E 0x26 (some d) (cut H e)->X.xe (.ref e) s
structure MkX (K:Frag) (C f:Addr):Prop where
 ei:tX K C=true
 init:findIn K 0x26 "__init__"=some (some (.ref f))
 fn:isFn K (.ref f)=true
 kp:keepIn K 0x26=true
def Vj (C:Addr) (sp:Sp) (jM:List V) (E:XK) (t:TA):TS:=fun _ σ H=>t σ H fun vs H1=>vs.length<=sizeLine/\∀ x,H1 x=none->sp (.ref x::(vs++jM)) (upd H1 x (Nx C x)) (fun v H2=>v=.non/\∃ d,H2 x=some (Kc C x d)/\E 0x26 (some d) (cut H2 x)) (fun _ _ _=>False)
theorem nM {k:Nat}{E:XK}{np:Pos} (hc:X.calm=true) (hex:X.ex=[]) (hr:Vi X E) (M:MkX X.K C f)
  (F:bw X.prog X.w X.K X.mg X.base (vP X.prog X.w) k f fd ps sp) (rm:fM (k+1) X.A) (hb:Binds X.K fd ps ds) (hd:Vals jM ds) (hg:Gl X x) (hm:X.mg x=some 0x26)
  (ha:PA X (e::es) t) (hdb:0x17=false:=by decide) (he:starEach (e::es) X.env=(false,eval e X.env)::starEach es X.env:=by rfl) (hpl:(backTo cpos (starEach es X.env)).any (·.1)=false:=by rfl) :
  PS X (.Raise (some (.Call (.Name x np) (e::es) [] cpos)) none pos) (Vj C sp jM E t):=by
 intro pins s σ H D I h;have key:wpAny 0x7 X.A (eval (.Call (.Name x np) (e::es) [] cpos) X.env) (fun v s1=>∃ e C t d,v=.ref e/\X.K.In s1.heap/\tX X.K C=true/\s1.heap.get? e=some (kI C t d)/\X.xe (.ref e) s1) X.xe s:=by
  refine wpAny_Call_Name_kw (jD I hg hm ?_ hdb);refine PySem.W.callWith_K (h₀:=X.base) I.ok.mod.kin M.kp (cT (ha cpos pins s σ H _ I h) fun us s1 ⟨vs,H1,I1,r,hl,q⟩=>⟨I1.jV,?_⟩) he hpl;refine a1U I1.jV M.ei M.init (beq_iff_eq.mp M.fn) (show us.length<=sizeLine by rw [<- r.length];exact hl) fun h' ea hmade=>?_
  obtain ⟨t0,ho,_,_⟩:=hmade.there;have I2:=I1.laidN (a:=ea) (o:=Nx C ea) (h':=h') (t':=s1.toks) hmade.keeps hmade.new (okN (t:=t0) ho);have fr:H1 ea=none:=by
   cases z:H1 ea with
   | none=>rfl
   | some u=>obtain ⟨y,e'⟩:=rE (I1.hok ea u z);rw [hmade.new] at e';cases e'
  have hq:=q ea fr;have r2:Vals (V.ref ea::(vs++jM)) (Value.ref ea::(us++ds)):=.cons rfl (r.append hd);have hl2:(Value.ref ea::us++ds).length=ps.length:=by
   have z:=r2.length;rw [F.len _ _ _ _ hq] at z;exact z.symm
  refine wpAny_call (codeAny_mono (F.run _ X.stack _ _ ⟨Value.ref ea::us,[]⟩ (Value.ref ea::(us++ds)) _ _ _ (rm.make C us []) (I2.env0.make C us []) (hb _ (Value.ref ea::us) I2.jV hl2) r2 hq) fun r s' hq'=>?_);cases r with
  | error e'=>exact (a1Z (X:=X) pins σ _ _ e' s' I2 hq')
  | ok fl =>
   cases fl with
   | ret u =>
    obtain ⟨v,H',I3,rv,ev,d,hM,q3⟩:=I2.after hq';subst ev;obtain ⟨⟨t3,ho3⟩,_⟩:=(show cC X.prog X.w H' s'.heap ea (Kc C ea d) from I3.hok ea _ hM)
    refine ⟨rv,ea,C,t3,_,rfl,I3.jV,M.ei,ho3,hr pins σ H' s' ea C d I3 hM ?_ q3⟩;cases z:X.s₀.heap.get? ea with
    | none=>rfl
    | some o =>
     obtain ⟨o',e'⟩:=I1.base.there ea o z (by rw [hex];exact fun y=>nomatch y)
     rw [hmade.new] at e';cases e'
   | next=>exact False.elim hq'
   | brk=>exact False.elim hq'
   | cont=>exact False.elim hq'
 rw [arm_exec_Raise];have hh:=I.ok.hd hc
 first
  | exact wpAny_bind (wpAny_standAt (Ho hh (wpAny_bind (wpAny_mono key (fun v s3 h3=>wpAny_bind (wpAny_standAt (wpAny_pure h3))) fun _ _ x=>x))))
  | (simp only [evalOpt,Option.map];exact wpAny_bind (wpAny_standAt (Ho hh (wpAny_bind (wpAny_mono key (fun v s3 h3=>wpAny_bind (wpAny_standAt (wpAny_pure h3))) fun _ _ x=>x)))))
  | (refine wpAny_bind (wpAny_standAt (Ho hh ?_));refine wpAny_bind (wpAny_mono key (fun v s3 h3=>wpAny_bind (wpAny_standAt (wpAny_pure h3))) fun _ _ x=>x))
inductive DG (K:PySem.W.Frag) (L:Addr) (i:Nat) (ts:TS) (D:Ends) (σ1:L2.St) (Cv:Value) (od:Option Addr) (H1:Hp):Prop
 | mk (C d:Addr) (_:Cv=.ref C) (_:od=some d) (_:exmOne K 0x26 (.ref L)=some true) (_:∀ ea,H1 ea=none->ts (Xn i D) (σ1.set i (some (.ref ea))) (upd H1 ea (Kd C ea d))):DG K L i ts D σ1 Cv od H1
def R4 (K:Frag) (L:Addr) (i:Nat) (ts:TS) (D:Ends):St->XK:=fun σ1 Cv od H1=>DG K L i ts D σ1 Cv od H1
def a2a (K:Frag) (L:Addr) (i:Nat) (tb:(St->XK)->TS) (ts:TS):TS:=fun D σ H=>tb (R4 K L i ts D) D σ H
theorem Kg {n:Str}{np hpos:Pos}{b0:Stmt}{suite:List Stmt}{tb:(St->XK)->TS}{ts:TS} (hstk:X.stack=X.env::X.outer) (hfr:X.env.frame=some X.env.locals)
  (hN:X.N.Nodup) (hi:X.N[i]?=some n) (hk:X.env.scope.names.lookup n=some .local) (hg:Gl X x) (hm:X.mg x=some (.ref L))
  (hb:∀ pn xe E,Ah (vP X.prog X.w) (X.JM pn xe) E->BW (X.JM pn xe) body (tb E)) (hs:∀ ea,BW (X.hand ea) (b0::suite) ts) (hdb:0x17=false:=by decide) :
  PS X (.Try body [.ExceptHandler (some (.Name x np)) (some n) (b0::suite) hpos] [] [] pos) (a2a X.K L i tb ts):=by
 intro pins s σ H D I h;have ok:=I.ok;refine wpAny_Try_except (wpAny_mono (hb (X.pn++pins) (fun e s₁=>wpAny 0x7 X.A (noteFrame e X.env) (fun _ s₂=>wpAny 0x7 X.A (setFlight e none) (fun _ s₃=>wpAny 0x7 X.A (handleBy e X.env [.ExceptHandler (some (.Name x np)) (some n) (b0::suite) hpos]) (SP X pins D) X.xe s₃) X.xe s₂) X.xe s₁)
  (R4 X.K L i ts D) ?_ [] s σ H D I.a1N h) (fun f s1 hq=>?_) fun e s1 he=>he)
 ·rintro Cg σ1 H1 s1 e s' J ⟨ea,C,a0,B,H',od,rfl,os,bare,un,hok,fly,di,C',d',rfl,rfl,hex,hts⟩;have fl:=fly.fl;have ff:s'.heap.FunFrames B X.stack:=fl.2.2.1;have frm:X.A.frames=some (X.env::X.outer):=by rw [<- hstk];exact ok.frames
  have fl':Heap.FlyingW B (X.env::X.outer) ea (.ref C') a0 s'.heap:=by rw [<- hstk];exact fl
  have at_:∀ h5,Heap.FlyingW B (X.env::X.outer) ea (.ref C') a0 h5->s'.heap.UpToSlots h5->Inv X pins σ1 H' { s' with heap:=h5 }:=fun h5 f5 up =>
   Inv.yE ok (J.call' (s':={ s' with heap:=h5 }) os (Ag un ff fly.old fl.1 f5.1 up) (uo hok fly.tr fl.1 f5.1) bare (fun b z=>nomatch z))
  have eaB:B.get? ea=none:=fl.2.1;have eaH:H' ea=none:=by
   cases q:H' ea with
   | none=>rfl
   | some o=>obtain ⟨u,hu⟩:=fly.tr ea o q;rw [eaB] at hu;cases hu
  have ea1:s1.heap.get? ea=none:=by
   cases q:s1.heap.get? ea with
   | none=>rfl
   | some o =>
    by_cases hb':ea∈frs X.stack
    ·obtain ⟨_,o',ho',hd⟩:=ff.mem hb';obtain ⟨oe,vs,_,_,_,he,_,hde,_⟩:=fl.2.2.2;rw [he] at ho';cases ho';exact absurd hde (hd vs)
    ·obtain ⟨u,hu⟩:=fly.old ea o q hb';rw [eaB] at hu;cases hu
  have at2:∀ h5,Heap.FlyingW B (X.env::X.outer) ea (.ref C') a0 h5->s'.heap.UpToSlots h5->DK s'.heap h5->Inv X pins σ1 (upd H' ea (Kd C' ea d')) { s' with heap:=h5 }:=fun h5 f5 up dk5=>by
   have u5:=Ag un ff fly.old fl.1 f5.1 up;have ne:∀ b o,s1.heap.get? b=some o->b≠ea:=fun b o e z=>by rw [z,ea1] at e;cases e
   have neH:∀ b o,H' b=some o->b≠ea:=fun b o e z=>by rw [z,eaH] at e;cases e
   have u6:Un (frs X.stack) [] H1 (upd H' ea (Kd C' ea d')) s1.heap h5:=⟨u5.keep,u5.slot,fun b o e q hx=>by rw [aG (ne b o e)];exact u5.free b o e q hx,u5.there,
    fun b xs e=>by have z:=u5.tups b xs e;rw [aG (neH b _ z)];exact z,fun b o u e=>by have z:=u5.oV b o u e;rw [aG (neH b _ z)];exact z,
    fun b ps e=>by obtain ⟨more,z⟩:=u5.pQ b ps e;exact ⟨more,by rw [aG (neH b _ z)];exact z⟩⟩
   have k5:lV X.prog X.w (upd H' ea (Kd C' ea d')) h5:=fun b u e=>by
    by_cases hbe:b=ea
    ·subst hbe;rw [ak] at e;cases e;obtain ⟨oe,vs,_,_,_,hob,hcl,hde,_⟩:=f5.2.2.2;obtain ⟨o',ho',hd'⟩:=di.go dk5 d' rfl;rw [hob] at ho';cases ho';exact ⟨⟨oe,hob,hcl.1,hd',by unfold notCls;rw [hde]⟩,⟨oe,hob⟩,fun g1 g2 ⟨o,e1,e2⟩ kk=>⟨o,kk o e1,e2⟩⟩
    ·rw [aG hbe] at e;refine (uo hok fly.tr fl.1 f5.1 b u e).stay (fun _ _ _ q=>q) (fun c q=>by rw [aG (neH c _ q)];exact q) fun c xs q=>by rw [aG (neH c _ q)];exact q
   exact Inv.yE ok (J.call' (s':={ s' with heap:=h5 }) os u6 k5 bare (fun b z=>nomatch z))
  refine Zq frm hfr fl' fun h4 held up4 dk4=>?_;refine Zr held fun h5 fl5 up5 dk5=>?_;have J5:Inv (X.hand ea) pins σ1 H' { s' with heap:=h5 }:=(at_ h5 fl5 (up4.trans up5)).Qt;refine wpAny_handleBy_cons (codeAny_handlers_test (jD (X:=X.hand ea) J5 hg hm ?_ hdb)) (by intro q;cases q);obtain ⟨ob,hob,hobc⟩:=fl5.there;have LT:Looks 0x7 h5 (typeOf (.ref ea)) (.ref C'):=Ul.ty ⟨ob,hob,hobc⟩;refine (exm_one (K:=X.K) J5.jV LT hex).at ?_;refine codeAny_handlers_suite_as ?_;refine Zt fl5 fun h6 fl6 up6 dk6=>?_;have J6:Inv (X.hand ea) pins σ1 (upd H' ea (Kd C' ea d')) { s' with heap:=h6 }:=(at2 h6 fl6 ((up4.trans up5).trans up6) ((dk4.trans dk5).trans dk6)).Qt;refine pR (X:=X.hand ea) (v:=.ref ea) J6 hN hi (.inl hk) rfl (fun s7 J7=>?_) (.inr hk);refine wpAny_mono (hs ea pins s7 _ _ (Xn i D) J7 (hts ea eaH)) (fun f s8 q8=>?_) fun _ _ z=>z.elim;cases f with
  | next =>
   obtain ⟨σ2,H2,J8,q⟩:=q8;exact uq (J8.Ai ok) hN hi hk fun s9 J9=>⟨_,H2,J9,q⟩
  | brk =>
   obtain ⟨σ2,H2,J8,q⟩:=q8;exact uq (J8.Ai ok) hN hi hk fun s9 J9=>⟨_,H2,J9,q⟩
  | cont =>
   obtain ⟨σ2,H2,J8,q⟩:=q8;exact uq (J8.Ai ok) hN hi hk fun s9 J9=>⟨_,H2,J9,q⟩
  | ret u =>
   obtain ⟨v,σ2,H2,J8,r,q⟩:=q8;exact uq (J8.Ai ok) hN hi hk fun s9 J9=>⟨v,_,H2,J9,r,q⟩
 ·cases f with
  | next =>
   obtain ⟨σ2,H2,J8,q⟩:=hq;exact wpAny_execs_nil ⟨σ2,H2,Inv.yE ok J8,q⟩
  | brk =>
   obtain ⟨σ2,H2,J8,q⟩:=hq;exact ⟨σ2,H2,Inv.yE ok J8,q⟩
  | cont =>
   obtain ⟨σ2,H2,J8,q⟩:=hq;exact ⟨σ2,H2,Inv.yE ok J8,q⟩
  | ret u =>
   obtain ⟨v,σ2,H2,J8,r,q⟩:=hq;exact ⟨v,σ2,H2,Inv.yE ok J8,r,q⟩
inductive R5 (K:PySem.W.Frag) (xs:List V) (H:Hp) (Q:VK):Prop
 | mk (a C d:Addr) (cv:V) (b:Bool) (_:xs=[.ref a,cv]) (_:H a=some (Kd C a d)) (_:XC K C) (_:((∃ T,cv=.ty T)\/∃ D,cv=.ref D)) (_:kitOne K 0x26 (cV cv)=some b) (_:Q (.bl b) H):R5 K xs H Q
def rIsA (K:Frag):List V->Hp->VK->Prop:=fun xs H Q=>R5 K xs H Q
theorem R6:gq X (.builtin "isinstance") (rIsA X.K):=by
 intro pins s σ H xs us Q I r h;obtain ⟨a,C,d,cv,b,rfl,ha,xc,hcv,e,q⟩:=h;obtain ⟨u,u',rfl,ru,Ge⟩:=vals2 r;cases ru;have hu:u'=cV cv:=by
  rcases hcv with ⟨T,rfl⟩ | ⟨D,rfl⟩
  ·exact Ge
  ·exact Ge
 subst hu;obtain ⟨⟨o,ho,hc,_⟩,_⟩:=(show cC X.prog X.w H s.heap a (Kd C a d) from I.hok a _ ha)
 exact kia_one (Qs xc) I.jV (show Ul a C s.heap from ⟨o,ho,hc⟩) e 0x23 fun tk=>⟨.bl b,H,I.tok _,rfl,q⟩
inductive Kh (K:PySem.W.Frag) (f:Str) (Q:VK) (x:V) (H1:Hp):Prop
 | mk (a C d:Addr) (fs:List (Prod Str V)) (v:V) (_:x=.ref a) (_:H1 a=some (Kd C a d)) (_:H1 d=some (.xd fs)) (_:XI K C f) (_:fs.lookup f=some v) (_:Q v H1):Kh K f Q x H1
def Xr (K:Frag) (ta:TE) (f:Str):TE:=fun σ H Q=>ta σ H fun x H1=>Kh K f Q x H1
theorem Vk {f:Str} (he:PE X e ta) (hb:attributeBase e f X.env (eval e X.env)=eval e X.env):PE X (.Attribute e f pos) (Xr X.K ta f):=by
 intro pins s σ H Q I h;refine Jp hb (cT (he pins s σ H _ I h) fun u s1 zq=>?_);obtain ⟨x,H1,I1,rx,a,C,d,fs,v,ex,ea,ed,xi,l,q⟩:=zq;subst ex;obtain rfl:u=Value.ref a:=rx;obtain ⟨⟨o,ho,hc,hd,hn⟩,_⟩:=(show cC X.prog X.w H1 s1.heap a (Kd C a d) from I1.hok a _ ea)
 obtain ⟨mA,hN,hr⟩:=(show cC X.prog X.w H1 s1.heap d (.xd fs) from I1.hok d _ ed)
 obtain ⟨od,hod,hlk⟩:=xW hN;have hv:=hr f;rw [l] at hv;cases hm:mA f with
 | none=>rw [hm] at hv;exact hv.elim
 | some u =>
  rw [hm] at hv;refine getI xi.xc I1.jV (od:=od) ⟨ho,hc,hn,by rw [hd];exact hod⟩ xi.hd xi.no (by rw [hlk,hm]) (xX hv) ⟨v,H1,I1.tok _,hv,q⟩
end L2
namespace M
open PySem L2
def top (i:Nat):Stmt:=PySem.Challenge.pw_manrent_k53_pages_refused.main.body.getD i (.Pass ⟨0,0,0,0⟩)
abbrev yL:Stmt:=top 16
abbrev yM:Stmt:=top 17
abbrev yN:Stmt:=top 18
abbrev Ny:Stmt:=top 29
abbrev Nz:Stmt:=top 51
abbrev nO:Stmt:=top 55
abbrev Hq:Stmt:=top 59
abbrev sPc:Stmt:=top 60
abbrev NK:Stmt:=top 61
abbrev sNm:Stmt:=top 62
abbrev rH:Stmt:=top 65
abbrev rJ:Stmt:=top 66
abbrev rK:Stmt:=top 67
abbrev rM:Stmt:=top 68
abbrev yO:Stmt:=top 70
abbrev sZ:Stmt:=top 71
abbrev pC:Stmt:=top 72
abbrev rN:Stmt:=top 73
abbrev jJ:Stmt:=top 74
abbrev pD:Stmt:=top 75
abbrev yP:Stmt:=top 76
abbrev Hr:Stmt:=top 77
abbrev nP:Stmt:=top 78
abbrev lE:Stmt:=top 79
abbrev vQ:Stmt:=top 80
abbrev pF:Stmt:=top 81
abbrev yQ:Stmt:=top 82
abbrev yR:Stmt:=top 83
abbrev vR:Stmt:=top 84
abbrev vU:Stmt:=top 85
abbrev mU:Stmt:=top 86
abbrev rO:Stmt:=top 87
abbrev rP:Stmt:=top 88
abbrev pG:Stmt:=top 89
abbrev yS:Stmt:=top 90
abbrev rQ:Stmt:=top 91
abbrev vV:Stmt:=top 92
abbrev pH:Stmt:=inClass (top 9) 0
abbrev rR:Stmt:=inClass (top 54) 0
abbrev rT:Stmt:=inClass (top 54) 1
abbrev rW:Stmt:=inClass (top 54) 2
abbrev yU:Stmt:=inClass (top 54) 3
abbrev yV:Stmt:=inClass (top 54) 4
theorem ao {p:Addr} (h:H p=none) (o:HO):Same H (upd H p o):=fun b u q=>by rw [aG (aN q h)];exact q
theorem aV (s:Same H H2) (h:H l=none):Same H (upd H2 l o):=fun b u q=>by rw [aG (aN q h)];exact s b u q
theorem small (h:n<=1000000):n<=sizeLine:=Nat.le_trans h 0x8
theorem cQ (h:n<1000000):n<sizeLine:=Nat.lt_of_lt_of_le h 0x8
def Hs (v:Int):Prop:=0<=v/\v<1000003
theorem Ht {fs:List Int}{v:Int} (h:∀ x∈fs,Hs x) (hv:Hs v):∀ x∈fs++[v],Hs x:=fun x hx=>by
 rcases List.mem_append.mp hx with z | z
 ·exact h x z
 ·rw [List.mem_singleton.mp z];exact hv
theorem Ar (fs:List Int) (v:Int):fs.map V.int++[V.int v]=(fs++[v]).map V.int:=by simp
inductive DN (K:PySem.W.Frag) (vs:List V) (H:Hp) (Q:VK):Prop
 | mk (a:Addr) (ns:List Int) (many:Int) (_:vs=[.ref a,.int many]) (_:aZ K H a (ns.map V.int)) (_:ns.length<=63) (_:0<=many) (_:many<=100000) (_:∀ (r:Addr) (H':Hp) (fs:List Int),Same H H'->H r=none->H' r=some (.lst (fs.map V.int))->(fs.length:Int)=many->(∀ v∈fs,Hs v)->Q (.ref r) H'):DN K vs H Q
def R7 (K:PySem.W.Frag):Sp:=fun vs H Q _=>DN K vs H Q
theorem DP {t u:TS} (h:∀ N:Ends,N.rt=D.rt->(∀ σ H,u D σ H->N.nx σ H)->t N σ H):zU t u D σ H:=h _ rfl fun _ _=>id
theorem a2b {a b:TS} (W:L2.St->Hp->Prop) (h2:∀ σ' H',W σ' H'->b D σ' H') (h1:∀ N:Ends,(∀ σ' H',W σ' H'->N.nx σ' H')->a N σ H):zU a b D σ H:=h1 _ h2
theorem jN:bB ["_law_script", "_law_many", "_law_feed_here", "_law_salt", "_law_cell", "_law_rest", "_law_k"] ["_law_script", "_law_many"] (aC yO):=0x0
theorem Vl (F:iR K "_law_feed" "_law_feed" yO f fd) (mr:mg "range"=none) (ml:mg "len"=none):bw P w K mg base dF 1 f fd ["_law_script", "_law_many"] (R7 K):=by
 refine F.ok jN 0xA 0x2
 ·obtain ⟨a,ns,many,rfl,_⟩:=h;rfl
 obtain ⟨a,ns,many,rfl,hS,h63,hm0,hm1,k⟩:=h;refine ⟨_,aA (bD (i:=2) jN.nd rfl 0x3 (cX aq))
  (aA (bD (i:=3) jN.nd rfl 0x3 au)
  (aA (gb PassesOwn.never rfl (iB (cU bQ (pv 0) dI (dJ au))) (aQ (i:=4) jN.nd rfl 0x3)
   (aA (bD (i:=3) jN.nd rfl 0x3 (aR bI (aR bN (aR bN (aR iJ (pv 3) au) (aR bI (pv 4) au)) au) au))
   (aA (bD (i:=5) jN.nd rfl 0x3 (aR oX (pv 4) (aR YJ au au)))
   (aA (bJ (aK xT (pv 5) au (aW _))
     (aD (dz (dH PySem.F.plainAttrs_list PySem.F.slot_list_append PySem.F.type_list_append cY (pv 2) (aj (aR bI (pv 4) au) aq)))) bf)
   (aD (gb PassesOwn.never rfl (iW rfl mr (aj au aq)) (aQ (i:=6) jN.nd rfl 0x3)
    (aD (bJ (aK uV (pv 5) au (aW _))
     (aA (dz (dH PySem.F.plainAttrs_list PySem.F.slot_list_append PySem.F.type_list_append cY (pv 2) (aj (aR bI (pv 5) au) aq)))
     (aD (bD (i:=5) jN.nd rfl 0x3 (aR tZ (pv 5) au)))) bf))))))))
  (aA (gb PassesOwn.never rfl (iW rfl mr (aj (aR oX (pv 1) (aM bF rfl ml PySem.boot_len (aj (pv 2) aq))) aq)) (aQ (i:=6) jN.nd rfl 0x3)
   (aA (bD (i:=3) jN.nd rfl 0x3 (aR bI (aR bN (aR bN (aR bN (aR iJ (aR iJ (pv 3) (pv 3)) (pv 3)) (aR iJ au (pv 3))) (aR iJ au (pv 6))) au) au))
   (aD (dz (dH PySem.F.plainAttrs_list PySem.F.slot_list_append PySem.F.type_list_append cY (pv 2) (aj (aR bI (aR tZ (pv 3) au) au) aq))))))
  (aD (aU (cU bQ (pv 2) dI (dJ (pv 1)))))))),?_⟩
 refine DP fun N _ hN=>⟨small 0x5,fun l hl=>hN _ _ ?_⟩;refine DP fun N _ hN=>hN _ _ ?_;have s1:Same H (upd H l (.lst [])):=ao hl _;refine DP fun N _ hN=>⟨_,rfl,_,rfl,a,_,rfl,s1.seq hS,fun p hp=>?_⟩;have npl:p≠l:=fun e=>by rw [e,ak] at hp;cases hp
 have hp0:H p=none:=by rw [aG npl] at hp;exact hp
 refine ⟨p,rfl,⟨_,aZ.of ak⟩,uU (K:=K) (a:=p) (xs:=jY (ns.map V.int) none (some 63)) (fun i σ H2=>∃ (fs:List Int) (salt:Int) (c r k:Option V),σ=[some (.ref a),some (.int many),some (.ref l),some (.int salt),c,r,k]/\Same H H2 /\
   H2 p=some (.lst (jY (ns.map V.int) none (some 63)))/\H2 l=some (.lst (fs.map V.int))/\fs.length<=61 * i/\(∀ v∈fs,Hs v)/\0<=salt/\salt<2147483647)
  ⟨[],29,none,none,none,rfl,aV s1 hp0,ak,by rw [aG (Ne.symm npl),ak];rfl,Nat.zero_le _,(fun v hv=>nomatch hv),by decide,by decide⟩ (fun i σ H2 _ ⟨_,_,_,_,_,_,_,hq,_⟩=>aZ.of hq) ?_ ?_⟩
 ·rintro i y σ H2 hi ⟨fs,salt,c,r,kk,rfl,s2,hq,hL,hlen,hok,z0,z1⟩;have hil:i<(jY (ns.map V.int) none (some 63)).length:=(List.getElem?_eq_some_iff.mp hi).1;have hcl:=jF (ns.map V.int) none (some 63);rw [bV] at hcl;obtain ⟨cell,rfl⟩:∃ z,y=V.int z:=by
   have hm:y∈jY (ns.map V.int) none (some 63):=lU hi;have hm2:y∈ns.map V.int:=List.mem_of_mem_drop (List.mem_of_mem_take hm);obtain ⟨z,_,rfl⟩:=List.mem_map.mp hm2;exact ⟨z,rfl⟩
  refine DP fun N _ hN=>⟨_,rfl,_,_,rfl,rfl,.inl ⟨by lia,by lia⟩,_,rfl,_,_,rfl,rfl,(by show (0:Int)<2147483629;decide),_,_,rfl,rfl,_,_,rfl,rfl,_,_,rfl,rfl,(by show (0:Int)<2147483647;decide),hN _ _ ?_⟩
  refine DP fun N _ hN=>⟨_,rfl,_,_,rfl,rfl,⟨by decide,by decide,by decide⟩,_,_,rfl,rfl,hN _ _ ?_⟩;have z0':0<=(salt * 69621+cell % 2147483629+11) % 2147483647:=Int.emod_nonneg _ 0x8;have z1':(salt * 69621+cell % 2147483629+11) % 2147483647<2147483647:=Int.emod_lt_of_pos _ 0x8;obtain ⟨W,hW⟩:∃ W:L2.St->Hp->Prop,∀ s h,W s h↔∃ gs:List Int,s=[some (.ref a),some (.int many),some (.ref l),some (.int ((salt * 69621+cell % 2147483629+11) % 2147483647)),some (.int cell),some (.int (cell - 10 ^ 18)),kk]/\Same H h/\h p=some (.lst (jY (ns.map V.int) none (some 63)))/\h l=some (.lst (gs.map V.int))/\gs.length<=61 * i+1/\∀ v∈gs,Hs v:=⟨_,fun _ _=>Iff.rfl⟩;refine a2b W (fun σ3 H3 h3=>?_) fun N hN=>?_
  ·obtain ⟨gs,rfl,s3,NP,hL3,hg1,hg2⟩:=(hW _ _).mp h3;refine ⟨60,rfl,by decide,by decide,iY (lo:=0) (n:=60) (fun j σ H4=>∃ (hs:List Int) (rest DQ:Int) (k:Option V),σ=[some (.ref a),some (.int many),some (.ref l),some (.int DQ),some (.int cell),some (.int rest),k]/\0<=DQ/\DQ<2147483647/\Same H H4 /\
    H4 p=some (.lst (jY (ns.map V.int) none (some 63)))/\H4 l=some (.lst (hs.map V.int))/\hs.length<=61 * i+1+j/\(∀ v∈hs,Hs v)) ⟨gs,_,_,kk,rfl,z0',z1',s3,NP,hL3,hg1,hg2⟩ ?_ ?_⟩
   ·rintro j σ H4 hj ⟨hs,rest,DQ,k',rfl,x0,x1,s4,xH,Um,hh1,Xu⟩;refine 0x20;refine bG 0x28 0x28
    ·refine DP fun N _ hN=>⟨_,rfl,.inl ⟨rfl,_,aZ.of Um⟩,_,rfl,_,_,rfl,rfl,(by show (0:Int)<1009;decide),l,_,_,rfl,rfl,Um,(by rw [bV];exact cQ 0x1),hN _ _ ?_⟩
     refine ⟨_,rfl,_,_,rfl,rfl,⟨by decide,by decide⟩,?_⟩;exact ⟨hs++[rest % 1009],_,_,_,rfl,x0,x1,aV s4 hl,by rw [aG npl];exact xH,by rw [ak,Ar],by rw [jA,List.length_singleton];lia,
      Ht Xu ⟨Int.emod_nonneg _ 0x8,by have:=Int.emod_lt_of_pos rest (show (0:Int)<1009 by decide);lia⟩⟩
    ·exact ⟨hs,_,_,_,rfl,x0,x1,s4,xH,Um,by lia,Xu⟩
   ·rintro σ H4 ⟨hs,rest,DQ,k',rfl,x0,x1,s4,xH,Um,hh1,Xu⟩;exact ⟨hs,_,_,_,_,rfl,s4,xH,Um,by lia,Xu,x0,x1⟩
  refine 0x20;refine bG 0x28 0x28
  ·refine ⟨_,rfl,.inl ⟨rfl,_,aZ.of hL⟩,_,rfl,_,_,rfl,rfl,(by show (0:Int)<1000003;decide),l,_,_,rfl,rfl,hL,(by rw [bV];exact cQ 0x1),?_⟩
   exact hN _ _ ((hW _ _).mpr ⟨fs++[cell % 1000003],rfl,aV s2 hl,by rw [aG npl];exact hq,by rw [ak,Ar],by rw [jA,List.length_singleton];lia,Ht hok ⟨Int.emod_nonneg _ 0x8,Int.emod_lt_of_pos _ 0x8⟩⟩)
  ·exact hN _ _ ((hW _ _).mpr ⟨fs,rfl,s2,hq,hL,by lia,hok⟩)
 ·rintro σ H2 ⟨fs,salt,c,r,kk,rfl,s2,hq,hL,hlen,hok,z0,z1⟩;refine hN _ _ ?_;have hcl:=jF (ns.map V.int) none (some 63);rw [bV] at hcl;refine DP fun N _ hN=>⟨_,rfl,_,rfl,l,_,rfl,.inl (aZ.of hL),_,_,rfl,rfl,many - (fs.length:Int),(by rw [bV]),by lia,by lia,?_⟩;refine iY (lo:=0) (n:=(many - (fs.length:Int)).toNat) (fun j σ H4=>∃ (hs:List Int) (salt:Int) (k:Option V),σ=[some (.ref a),some (.int many),some (.ref l),some (.int salt),c,r,k]/\Same H H4 /\
    H4 l=some (.lst (hs.map V.int))/\hs.length=fs.length+j/\(∀ v∈hs,Hs v)/\0<=salt/\salt<2147483647) ⟨fs,salt,kk,rfl,s2,hL,rfl,hok,z0,z1⟩ ?_ ?_
  ·rintro j σ H4 hj ⟨hs,salt,k',rfl,s4,Um,hh1,Xu,y0,y1⟩;refine DP fun N _ hN=>⟨_,rfl,_,rfl,_,_,rfl,rfl,.inl ⟨by lia,by lia⟩,_,rfl,_,_,rfl,rfl,.inr ⟨by lia,by lia⟩,_,rfl,_,_,rfl,rfl,.inl ⟨by decide,by decide⟩,_,_,rfl,rfl,_,rfl,_,_,rfl,rfl,.inl ⟨by decide,by decide⟩,_,_,rfl,rfl,_,_,rfl,rfl,_,_,rfl,rfl,(by show (0:Int)<2147483629;decide),hN _ _ ?_⟩
   refine ⟨_,rfl,.inl ⟨rfl,_,aZ.of Um⟩,_,rfl,_,_,rfl,rfl,⟨by decide,by decide⟩,_,_,rfl,rfl,(by show (0:Int)<1009;decide),l,_,_,rfl,rfl,Um,(by rw [bV];exact cQ 0x1),?_⟩
   refine ⟨hs++[_],_,_,rfl,aV s4 hl,by rw [ak,Ar],by rw [jA,List.length_singleton];lia,Ht Xu ⟨Int.emod_nonneg _ 0x8,?_⟩,Int.emod_nonneg _ 0x8,?_⟩
   ·have:=Int.emod_lt_of_pos ((salt * salt * salt+48271 * salt+13 * (0+(j:Int))+5) % 2147483629 / 1013) (show (0:Int)<1009 by decide)
    lia
   ·have:=Int.emod_lt_of_pos (salt * salt * salt+48271 * salt+13 * (0+(j:Int))+5) (show (0:Int)<2147483629 by decide)
    lia
  ·rintro σ H4 ⟨hs,salt,k',rfl,s4,Um,hh1,Xu,y0,y1⟩;refine hN _ _ ?_;refine ⟨_,rfl,_,rfl,many,rfl,l,_,rfl,aZ.of Um,fun q hq'=>?_⟩;have hcut:jY (hs.map V.int) none (some many)=(hs.take many.toNat).map V.int:=by
    unfold jY;have e1:HT.fG (hs.map V.int).length 0 none=0:=rfl;have e2:HT.fG (hs.map V.int).length (hs.map V.int).length (some many)=min many.toNat (hs.map V.int).length:=by
     have em:many=((many.toNat:Nat):Int):=by lia
     generalize many.toNat=mm at em ⊢;rw [em,HT.qe]
    rw [e1,e2,List.drop_zero,List.map_take,Nat.sub_zero,bV];rw [List.take_eq_take_iff,bV];lia
   refine k q _ (hs.take many.toNat) (aV s4 (s4.free hq')) (s4.free hq') (by rw [ak,hcut]) ?_ fun v hv=>Xu v (List.mem_of_mem_take hv);rw [List.length_take];lia
theorem Xv (a b:Nat):decide ((dR [a]).cps.toList<[b])=decide (a<b):=by
 simp [List.cons_lt_cons_iff]
theorem Xw (a b:Nat):decide ([b]<(dR [a]).cps.toList)=decide (b<a):=by
 simp [List.cons_lt_cons_iff]
def az:Str:="abcdefghijklmnopqrstuvwxyz"
def low (c:Nat):Bool:=decide (97<=c)&&decide (c<=122)
theorem Zw:∀ c:_root_.Fin 128,(!(Builtin.Str.occurrences az (dR [c.val]) 0 az.length 1).isEmpty)=low c.val:=by decide +kernel
theorem a2c (h:c<128):(!(Builtin.Str.occurrences az (dR [c]) 0 az.length 1).isEmpty)=low c:=Zw ⟨c,h⟩
def nameB (l:List Nat):Bool:=l.all low&&(decide (1<=l.length)&&decide (l.length<=8))
structure Ms (K:PySem.W.Frag) (mg:Str->Option Value) (x:Str) (g:Addr) (gd:FuncData) (ps:List Str):Prop where
 b:Binds K gd ps []
 k:PySem.W.keepIn K (.ref g)=true
 m:mg x=some (.ref g)
theorem fK {α:Type}{xs:List α}{i:Int} (h0:0<=i) (h1:i<xs.length):∃ v,lZ xs i=some v/\v∈xs:=by
 have hi:i.toNat<xs.length:=by lia
 have e:i=((i.toNat:Nat):Int):=by lia
 refine ⟨xs[i.toNat],?_,List.getElem_mem hi⟩;have q:lZ xs ((i.toNat:Nat):Int)=some xs[i.toNat]:=fH (by simp [hi]);rw [<- e] at q;exact q
theorem Hu (cs:List Nat):(Txt.join 0x1D (cs.map fun c=>dR [c]))=dR cs:=by
 have e:(0x1D).cps=#[]:=by decide +kernel
 have fo:∀ (ds:List Nat) (acc:Array Nat),(ds.map fun c=>dR [c]).foldl (fun acc p=>acc++(0x1D).cps++p.cps) acc=acc++ds.toArray:=by
  intro ds
  induction ds with
  | nil=>intro acc;simp
  | cons d r ih =>
   intro acc;rw [List.map_cons,List.foldl_cons,ih,e];simp
 show Builtin.Str.glued 0x1D (cs.map fun c=>dR [c])=_
 cases cs with
 | nil=>rfl
 | cons c r =>
  unfold Builtin.Str.glued;rw [List.map_cons,List.drop_one,List.tail_cons,fo,List.headD_cons];simp [dR]
theorem Vm {cs:List Nat} (h:cs.length<=1000):JoinOk 0x1D (cs.map fun c=>dR [c])=true:=by
 have e:(0x1D).length=0:=by decide +kernel
 have fo:∀ (ds:List Nat) (n:Nat),(ds.map fun c=>dR [c]).foldl (fun a p=>a+p.length+(0x1D).length) n=n+ds.length:=by
  intro ds
  induction ds with
  | nil=>intro n;simp
  | cons d r ih =>
   intro n;rw [List.map_cons,List.foldl_cons,ih,e,gK];simp;lia
 unfold JoinOk;rw [List.foldl_toArray',fo]
 ·unfold Builtin.Str.tooLong;have:=small (n:=cs.length) 0x1;simp;lia
 ·rfl
theorem app_list (x y:Str):(x++y).cps.toList=x.cps.toList++y.cps.toList:=by
 show (x.cps++y.cps).toList=_
 simp
theorem Vn (x y:Str):(x++y).length=x.length+y.length:=by
 have e:∀ z:Str,z.length=z.cps.toList.length:=fun z=>by simp [Str.length]
 rw [e,e,e,app_list,jA]
theorem tu {α:Type} (xs:List α) (lo hi:Option Int):(aO xs lo hi).length<=xs.length:=by
 unfold aO;rw [List.length_take,List.length_drop];lia
theorem jm {α:Type}{xs:List α}{lo:Option Int}{x:α} (h:x∈aO xs lo hi):x∈xs:=List.mem_of_mem_drop (List.mem_of_mem_take h)
theorem dY {fs:List Int} (h:∀ v∈fs,Hs v) {i:Int} (h0:0<=i) (h1:i<fs.length):∃ v:Int,lZ (fs.map V.int) i=some (.int v)/\Hs v:=by
 obtain ⟨x,e,m⟩:=fK (xs:=fs.map V.int) h0 (by rw [bV];exact h1);obtain ⟨v,hv,rfl⟩:=List.mem_map.mp m;exact ⟨v,e,h v hv⟩
inductive DR (vs:List V) (H:Hp) (Q:VK):Prop
 | mk (z:Str) (_:vs=[.str z]) (_:z.length<=1000) (_:Q (.bl (nameB z.cps.toList)) H):DR vs H Q
def Hv:Sp:=fun vs H Q _=>DR vs H Q
theorem R8:bB ["text", "sign"] ["text"] (aC yL):=0x0
theorem Vo (F:iR K "is_name" "is_name" yL f fd) {tL:Tok} (mL:mg "LONGEST_NAME"=some (.int 8 tL)) (ml:mg "len"=none):bw P w K mg base dF 1 f fd ["text"] Hv:=by
 refine F.ok R8 0xA 0x2
 ·obtain ⟨z,rfl,_⟩:=h;rfl
 obtain ⟨z,rfl,hz,k⟩:=h;refine ⟨_,aA (gb PassesOwn.never rfl (Ac (pv 0)) (aQ (i:=1) R8.nd rfl 0x3)
   (aD (bJ (dZ (aK xU (pv 1) aJ (aW _)) (eO (aK yx (pv 1) aJ (aW _)))).pt (aD (aU fX)) bf)))
  (aD (aU (uW jW jW au 0x2F (dj rfl mL ⟨_,rfl⟩ (v:=.int 8))))),?_⟩
 refine ⟨_,rfl,z,rfl,JC (x:=z) (fun i σ H2=>(∃ v,σ=[some (.str z),v])/\H2=H/\(z.cps.toList.take i).all low=true) ⟨⟨none,rfl⟩,rfl,by simp⟩ ?_ ?_⟩
 ·rintro i c σ H2 hc ⟨⟨v,rfl⟩,rfl,ha⟩;have Uk:z.cps.toList.all low=true->low c=true:=fun h=>List.all_eq_true.mp h c (lU hc);have e1:decide ((dR [c]).cps.toList<(("a" : Str)).cps.toList)=decide (c<97):=Xv c 97;have e2:decide ((("z" : Str)).cps.toList<(dR [c]).cps.toList)=decide (122<c):=Xw c 122;have no:low c=false->nameB z.cps.toList=false:=fun h=>by
   unfold nameB;cases q:z.cps.toList.all low with
   | false=>rfl
   | true=>rw [Uk q] at h;cases h
  refine 0x20;rw [e1];refine bG (fun h=>?_) (fun h=>?_)
  ·have h1:=fO h;refine bU ?_;have:low c=false:=by simp [low];lia
   show Q (.bl false) H2
   rw [<- no this];exact k
  ·have h1:=of_decide_eq_false (Bool.eq_false_iff.mpr h);refine 0x20;rw [e2];refine bG (fun h=>?_) (fun h=>?_)
   ·have h1:=fO h;have:low c=false:=by simp [low];lia
    show Q (.bl false) H2
    rw [<- no this];exact k
   ·have h2:=of_decide_eq_false (Bool.eq_false_iff.mpr h);refine ⟨⟨_,rfl⟩,rfl,?_⟩;rw [List.take_add_one,hc,List.all_append,ha];simp [low];lia
 ·rintro σ H2 ⟨⟨v,rfl⟩,rfl,ha⟩;rw [List.take_length] at ha;refine ⟨_,rfl,z,rfl,small 0x1,_,_,rfl,rfl,_,rfl,?_⟩;have hl:z.length=z.cps.toList.length:=by simp [Str.length]
  refine bG (fun h=>?_) (fun h=>?_)
  ·have h1:=fO h;refine ⟨_,_,rfl,rfl,?_⟩;have e:nameB z.cps.toList=decide ((z.length:Int)<=8):=by
    unfold nameB;rw [ha,hl,decide_eq_true (show 1<=z.cps.toList.length by lia),Bool.true_and,Bool.true_and]
    exact decide_eq_decide.mpr 0x1
   show Q (.bl (decide ((z.length:Int)<=8))) H2
   rw [<- e];exact k
  ·have h1:=of_decide_eq_false (Bool.eq_false_iff.mpr h);have e:nameB z.cps.toList=false:=by
    unfold nameB;rw [decide_eq_false (show ¬ 1<=z.cps.toList.length by lia)]
    simp
   show Q (.bl false) H2
   rw [<- e];exact k
def cP.code:cP->Nat
 | .d=>100 | .n=>110 | .c=>99 | .a=>97 | .s=>115 | .b=>115 | .e=>115
def cP.word:cP->Str
 | .d=>"day" | .n=>"name" | .c=>"name or crown" | .a=>"acres" | .s=>"service" | .b=>"bears" | .e=>"entry"
def cP.num:cP->Bool
 | .d=>true | .n=>false | .c=>false | .a=>true | .s=>true | .b=>true | .e=>true
def cP.row:cP->Bool
 | .b=>false | .e=>false | _=>true
def forms:List (Str×List cP):=[("heir",[.d,.n,.n]),("grant",[.d,.c,.n,.n,.a,.s]),("part",[.d,.n,.n,.n,.a]),("convey",[.d,.n,.n]),("liege",[.d,.n,.c]),("surrender",[.d,.n]),("death",[.d,.n])]
def form (k:Str):Option (List cP):=forms.lookup k
def oH (l:List cP):Str:=dR (l.map cP.code)
def isI:V->Bool
 | .int _=>true
 | _=>false
def Uo (B:Nat) (v:V):Prop:=(∃ n,v=.int n)\/∃ z:Str,v=.str z/\z.length<=B/\∀ c∈z.cps.toList,c<128
def dB:cP->V->Bool
 | .d,.int n=>decide (0<=n)&&decide (n<=9999)
 | .s,.int n=>decide (0<=n)&&decide (n<=9999)
 | .a,.int n=>decide (1<=n)&&decide (n<=9999)
 | .b,.int n=>decide (0<=n)&&decide (n<=99)
 | .e,.int n=>decide (1<=n)&&decide (n<=999999)
 | .n,.str z=>nameB z.cps.toList
 | .c,.str z=>decide (z="")||nameB z.cps.toList
 | _,_=>false
def tD (l:List cP) (rest:List V):Prop:=∀ (i:Nat) (s:cP) (v:V),l[i]?=some s->rest[i]?=some v->isI v=s.num
def two (k:Str):Bool:=decide (k="heir")||decide (k="liege")
def lG (p:cP×V):Bool:=dB p.1 p.2
def oJ (k:Str) (rest:List V):Bool:=match form k with
 | none=>false
 | some l=>decide (rest.length=l.length)&&(((l.zip rest).all lG)&&!(two k&&decide (rest[1]?=rest[2]?)))
def wm:List V->Bool
 | .str k::rest=>oJ k rest
 | _=>false
structure Row (B:Nat) (k:Str) (rest:List V):Prop where
 len:rest.length<=9
 ok:∀ v∈rest,Uo B v
 kept:∀ l,form k=some l->tD l rest
def Xx (xs:List V) (_:Hp):Prop:=∃ k rest,xs=.str k::rest/\Row 1000 k rest
theorem gZ {k:Str}{l:List cP} (h:form k=some l):(k,l)∈forms:=by
 unfold form at h
 revert h
 generalize forms=fs
 induction fs with
 | nil=>intro h;cases h
 | cons p r ih =>
  obtain ⟨k',l'⟩:=p;intro h;rw [List.lookup_cons] at h
  by_cases e:k=k'
  ·subst e;simp at h;subst h;exact List.mem_cons_self
  ·have e':(k==k')=false:=by simpa using e
   rw [e'] at h;exact lR _ (ih h)
theorem jq {k:Str}{l:List cP} (h:form k=some l):2<=l.length/\l.length<=6:=(show ∀ p∈forms,2<=p.2.length/\p.2.length<=6 by decide) _ (gZ h)
theorem vW {k:Str}{l:List cP} (h:form k=some l) {s:cP} (e:l[i]?=some s):s.row=true:=by
 have h0:∀ p∈forms,p.2.all cP.row=true:=by decide
 exact List.all_eq_true.mp (h0 _ (gZ h)) s (lU e)
def Av:Option cP->Bool
 | some s=>!s.num
 | none=>true
theorem vX {k:Str}{l:List cP} (h:form k=some l) (h2:two k=true):l.length=3/\(∀ s,l[1]?=some s->s.num=false)/\∀ s,l[2]?=some s->s.num=false:=by
 have h0:(k,l)∈forms:=gZ h;have:∀ p∈forms,two p.1=true->p.2.length=3/\Av p.2[1]?=true/\Av p.2[2]?=true:=by decide
 obtain ⟨a,b,c⟩:=this _ h0 h2;refine ⟨a,fun s e=>?_,fun s e=>?_⟩
 ·simp only at b;rw [e] at b;simpa [Av] using b
 ·simp only at c;rw [e] at c;simpa [Av] using c
theorem Hw (v:V) (rest:List V):jY (v::rest) (some 1) none=rest:=by
 unfold jY;have e1:HT.fG (v::rest).length 0 (some 1)=1:=by
  rw [show (1:Int)=((1:Nat):Int) by rfl,HT.qe]
  simp
 have e2:HT.fG (v::rest).length (v::rest).length none=(v::rest).length:=rfl;rw [e1,e2,List.drop_one,List.tail_cons,List.take_of_length_le 0x5]
theorem nw1 (v:V) (rest:List V) :¬ (HT.fG (v::rest).length 0 (some 1)=0/\HT.fG (v::rest).length (v::rest).length hi=(v::rest).length):=by
 have e1:HT.fG (v::rest).length 0 (some 1)=1:=by
  rw [show (1:Int)=((1:Nat):Int) by rfl,HT.qe]
  simp
 rw [e1];exact fun h=>absurd h.1 0x8
def xJ (K:PySem.W.Frag) (a:Addr) (xs:List V):Prop:=∃ (o:Obj) (its:Array Value) (n:Nat),K.lookup a=some o/\o.cls=.type "tuple"/\o.data=.seq its n/\its.size<=sizeLine/\Vals xs its.toList
theorem xJ.sq (h:xJ K a xs) (H:Hp):dG K H a xs:=.inr h
def Xy:V->Bool
 | .non | .bl _ | .int _ | .str _=>true
 | _=>false
def Zx (H:Hp):Nat->V->V->Prop
 | 0,_,_=>False
 | n+1,x,y=>(x=y/\Xy x=true)\/(∃ p q xs ys,x=.ref p/\y=.ref q/\H p=some (.tup xs)/\H q=some (.tup ys)/\xs.length=ys.length/\xs.length<=1000/\∀ (i:Nat) (x y:V),xs[i]?=some x->ys[i]?=some y->Zx H n x y) \/
  (∃ p q xs ys,x=.ref p/\y=.ref q/\H p=some (.lst xs)/\H q=some (.lst ys)/\xs.length=ys.length/\xs.length<=1000/\∀ (i:Nat) (x y:V),xs[i]?=some x->ys[i]?=some y->Zx H n x y)
theorem Zx.same (s:Same H H'):∀ {n:Nat}{x y:V},Zx H n x y->Zx H' n x y
 | 0,_,_,h=>h
 | n+1,x,y,h=>by
  rcases h with h | ⟨p,q,xs,ys,e1,e2,e3,e4,e5,e6,e7⟩ | ⟨p,q,xs,ys,e1,e2,e3,e4,e5,e6,e7⟩
  ·exact .inl h
  ·exact .inr (.inl ⟨p,q,xs,ys,e1,e2,s _ _ e3,s _ _ e4,e5,e6,fun i x y h1 h2=>(e7 i x y h1 h2).same s⟩)
  ·exact .inr (.inr ⟨p,q,xs,ys,e1,e2,s _ _ e3,s _ _ e4,e5,e6,fun i x y h1 h2=>(e7 i x y h1 h2).same s⟩)
inductive DW (n:Nat) (vs:List V) (H:Hp) (Q:VK):Prop
 | mk (x y:V) (_:vs=[x,y]) (_:Zx H n x y) (_:∀ H',Same H H'->Q (.bl true) H'):DW n vs H Q
def Aw (n:Nat):Sp:=fun vs H Q _=>DW n vs H Q
structure MgS (mg:Str->Option Value):Prop where
 Uq:mg "isinstance"=none
 bool:mg "bool"=none
 int:mg "int"=none
 str:mg "str"=none
 list:mg "list"=none
 tuple:mg "tuple"=none
 len:mg "len"=none
 all:mg "all"=none
 zip:mg "zip"=none
theorem Zy:bB ["_law_found", "_law_due"] ["_law_found", "_law_due"] (aC sZ):=0x0
def scS1:Scope:={ kind:=.function,names:=[(".0",.local),("_law_one",.local),("_law_other",.local),("_law_same",.globalImplicit)],isGenerator:=false,isCoroutine:=false }
theorem csS1:fP ["_law_found", "_law_due"] (aC sZ) scS1 ["_law_one", "_law_other"] [] []:=0x6
theorem Vp:((["_law_one", "_law_other"]:List Str)++([]:List Str)).Nodup:=by decide +kernel
theorem all_true {bs:List Bool} (h:∀ b∈bs,b=true):bs.all id=true:=List.all_eq_true.mpr fun b hb=>h b hb
theorem R9 (n:Nat):List.replicate n (V.bl true)=(List.replicate n true).map V.bl:=by rw [List.map_replicate]
theorem Ra (F:iR K "_law_same" "_law_same" sZ f fd) (m:MgS mg) (M:Ms K mg "_law_same" f fd ["_law_found", "_law_due"]) (G:bw P w K mg base dF n f fd ["_law_found", "_law_due"] (Aw n)):bw P w K mg base dF (n+1) f fd ["_law_found", "_law_due"] (Aw (n+1)):=by
 refine F.ok Zy 0xA 0x2
 ·obtain ⟨x,y,rfl,_⟩:=h;rfl
 obtain ⟨x,y,rfl,heq,k⟩:=h;refine ⟨_,aA (bJ (kW (jL (pv 1))) (aD (aU (Yx (jL (pv 0))))) bf)
  (aA (bJ (dW (aM (dh (K:=K)) rfl m.Uq bM (aj (pv 1) (aj (iz rfl m.bool Ae rfl (v:=.ty "bool")) aq))))
   (aD (aU (qY (aM (dh (K:=K)) rfl m.Uq bM (aj (pv 0) (aj (iz rfl m.bool Ae rfl (v:=.ty "bool")) aq))) (qX (gF cA (pv 0) (pv 1) (aW _)))))) bf)
  (aA (bJ (dW (aM (dh (K:=K)) rfl m.Uq bM (aj (pv 1) (aj (iz rfl m.tuple jZ rfl (v:=.ty "tuple")) aq))))
   (aA (bJ (PW.pt (dZ (fu (dW (aM (dh (K:=K)) rfl m.Uq bM (aj (pv 0) (aj (iz rfl m.tuple jZ rfl (v:=.ty "tuple")) aq))))) (eO (aK jE (aM (jd (K:=K)) rfl m.len PySem.boot_len (aj (pv 0) aq)) (aM (jd (K:=K)) rfl m.len PySem.boot_len 0x21) (aW _))))) (aD (aU fX)) bf)
   (aD (aU (aM (nG (K:=K) rfl hr.hd) rfl m.all Ad (aj (gJ rfl csS1 (CP rfl m.zip (aj (pv 0) 0x21))
    (fun s H fp C=>⟨qu (K:=K) (n:=2) rfl (aX (aQ (i:=0) Vp rfl 0x3) (aX (aQ (i:=1) Vp rfl 0x3) cZ)),fJ,bA G hr rfl M.m M.k M.b .nil bL (aj (pv 0) 0x21)⟩)) aq))))) bf)
  (aA (bJ (dW (aM (dh (K:=K)) rfl m.Uq bM (aj (pv 1) (aj (iz rfl m.list Af rfl (v:=.ty "list")) aq))))
   (aA (bJ (PW.pt (dZ (fu (dW (aM (dh (K:=K)) rfl m.Uq bM (aj (pv 0) (aj (iz rfl m.list Af rfl (v:=.ty "list")) aq))))) (eO (aK jE (aM (jd (K:=K)) rfl m.len PySem.boot_len (aj (pv 0) aq)) (aM (jd (K:=K)) rfl m.len PySem.boot_len 0x21) (aW _))))) (aD (aU fX)) bf)
   (aD (aU (aM (nG (K:=K) rfl hr.hd) rfl m.all Ad (aj (gJ rfl csS1 (Qo rfl m.zip (aj (pv 0) 0x21))
    (fun s H fp C=>⟨qu (K:=K) (n:=2) rfl (aX (aQ (i:=0) Vp rfl 0x3) (aX (aQ (i:=1) Vp rfl 0x3) cZ)),fJ,bA G hr rfl M.m M.k M.b .nil bL (aj (pv 0) 0x21)⟩)) aq))))) bf)
  (aA (bJ (dW (aM (dh (K:=K)) rfl m.Uq bM (aj (pv 1) (aj (iz rfl m.str mD rfl (v:=.ty "str")) aq))))
   (aD (aU (qY (aM (dh (K:=K)) rfl m.Uq bM (aj (pv 0) (aj (iz rfl m.str mD rfl (v:=.ty "str")) aq))) (qX (gF cA (pv 0) (pv 1) (aW _)))))) bf)
  (aD (aU (qY (aM (dh (K:=K)) rfl m.Uq bM (aj (pv 0) (aj (iz rfl m.int vm rfl (v:=.ty "int")) aq)))
   (qY (Ow (aM (dh (K:=K)) rfl m.Uq bM (aj (pv 0) (aj (iz rfl m.bool Ae rfl (v:=.ty "bool")) aq)))) (qX (gF cA (pv 0) (pv 1) (aW _))))))))))),?_⟩
 rcases heq with ⟨rfl,hsc⟩ | ⟨p,q,xs,ys,rfl,rfl,hp,hq,hl,hz,hi⟩ | ⟨p,q,xs,ys,rfl,rfl,hp,hq,hl,hz,hi⟩
 ·cases x with
  | non=>exact ⟨_,rfl,_,rfl,bU ⟨_,rfl,k _ (Same.refl _)⟩⟩
  | bl b =>
   refine ⟨_,rfl,_,rfl,bZ ?_⟩;refine ⟨_,rfl,_,_,_,true,rfl,.bl b,rfl,_,rfl,bU ?_⟩;refine ⟨_,rfl,_,_,_,true,rfl,.bl b,rfl,_,rfl,bU ?_⟩;refine ⟨_,rfl,_,rfl,rfl,?_⟩
   show Q (.bl (decide (V.bl b=V.bl b))) H
   rw [decide_eq_true rfl];exact k _ (Same.refl _)
  | int i =>
   refine ⟨_,rfl,_,rfl,bZ ?_⟩;refine ⟨_,rfl,_,_,_,false,rfl,.int i,rfl,_,rfl,bZ ?_⟩;refine ⟨_,rfl,_,_,_,false,rfl,.int i,rfl,_,rfl,bZ ?_⟩;refine ⟨_,rfl,_,_,_,false,rfl,.int i,rfl,_,rfl,bZ ?_⟩;refine ⟨_,rfl,_,_,_,false,rfl,.int i,rfl,_,rfl,bZ ?_⟩;refine ⟨_,rfl,_,_,_,true,rfl,.int i,rfl,_,rfl,bU ?_⟩;refine ⟨_,rfl,_,_,_,false,rfl,.int i,rfl,_,rfl,_,rfl,bU ?_⟩;refine ⟨_,rfl,_,rfl,rfl,?_⟩
   show Q (.bl (decide (V.int i=V.int i))) H
   rw [decide_eq_true rfl];exact k _ (Same.refl _)
  | str z =>
   refine ⟨_,rfl,_,rfl,bZ ?_⟩;refine ⟨_,rfl,_,_,_,false,rfl,.str z,rfl,_,rfl,bZ ?_⟩;refine ⟨_,rfl,_,_,_,false,rfl,.str z,rfl,_,rfl,bZ ?_⟩;refine ⟨_,rfl,_,_,_,false,rfl,.str z,rfl,_,rfl,bZ ?_⟩;refine ⟨_,rfl,_,_,_,true,rfl,.str z,rfl,_,rfl,bU ?_⟩;refine ⟨_,rfl,_,_,_,true,rfl,.str z,rfl,_,rfl,bU ?_⟩;refine ⟨_,rfl,_,rfl,rfl,?_⟩
   show Q (.bl (decide (V.str z=V.str z))) H
   rw [decide_eq_true rfl];exact k _ (Same.refl _)
  | Ja _=>cases hsc
  | flt _=>cases hsc
  | ref _=>cases hsc
  | ty _=>cases hsc
 ·refine ⟨_,rfl,_,rfl,bZ ?_⟩;refine ⟨_,rfl,_,_,_,false,rfl,.tup hq,rfl,_,rfl,bZ ?_⟩;refine ⟨_,rfl,_,_,_,true,rfl,.tup hq,rfl,_,rfl,bU ?_⟩;refine ⟨_,rfl,_,_,_,true,rfl,.tup hp,rfl,_,rfl,bZ ?_⟩;refine ⟨_,rfl,p,xs,rfl,.inr (dG.of hp),_,rfl,q,ys,rfl,.inr (dG.of hq),rfl,_,rfl,?_⟩;refine yj (by rw [hl]) ?_;refine ⟨_,rfl,_,rfl,p,q,rfl,⟨_,dG.of hp⟩,⟨_,dG.of hq⟩,fun D hD=>?_⟩;refine qt (n:=xs.length) (fx:=fun i=>xs.getD i .non) (fy:=fun i=>ys.getD i .non) (fun i zs H2=>zs=List.replicate i (V.bl true)/\Same H H2/\H2 D=some (.lst zs)) (fun i zs H2 ⟨_,s2,_⟩=>sW (dG.of (s2 _ _ hp)) (dG.of (s2 _ _ hq)) hl) ⟨rfl,ao hD _,ak⟩ (fun i zs H2 h=>h.2.2) ?_ ?_
  ·rintro i zs H2 r hir ⟨rfl,s2,hD2⟩ hr2;have nrD:D≠r:=aN hD2 hr2;have e1:xs[i]?=some (xs.getD i .non):=by rw [iI,dO hir];rfl
   have e2:ys[i]?=some (ys.getD i .non):=by rw [iI,dO 0x1];rfl
   have s3:Same H (upd H2 r (.tup [xs.getD i .non,ys.getD i .non])):=aV s2 (s2.free hr2);refine ⟨r,_,rfl,dG.of ak,rfl,_,_,rfl,_,_,rfl,rfl,Kp.set rfl (Kp.set rfl (Kp.refl _)),?_⟩;refine dN ?_;refine ⟨_,rfl,_,rfl,_,_,rfl,(hi i _ _ e1 e2).same s3,fun H4 s4=>⟨s4 _ _ (by rw [aG nrD];exact hD2),?_,?_,aV (s3.trans s4) hD,ak⟩⟩
   ·rw [List.length_replicate];exact cQ 0x1
   ·rw [List.replicate_succ']
  ·rintro zs H2 ⟨rfl,s2,hD2⟩;refine ⟨D,List.replicate xs.length true,rfl,aZ.of (by rw [<- R9];exact hD2),?_⟩;rw [all_true fun b hb=>List.eq_of_mem_replicate hb];exact k _ s2
 ·refine ⟨_,rfl,_,rfl,bZ ?_⟩;refine ⟨_,rfl,_,_,_,false,rfl,.lst hq,rfl,_,rfl,bZ ?_⟩;refine ⟨_,rfl,_,_,_,false,rfl,.lst hq,rfl,_,rfl,bZ ?_⟩;refine ⟨_,rfl,_,_,_,true,rfl,.lst hq,rfl,_,rfl,bU ?_⟩;refine ⟨_,rfl,_,_,_,true,rfl,.lst hp,rfl,_,rfl,bZ ?_⟩;refine ⟨_,rfl,p,xs,rfl,.inl (aZ.of hp),_,rfl,q,ys,rfl,.inl (aZ.of hq),rfl,_,rfl,?_⟩;refine yj (by rw [hl]) ?_;refine ⟨_,rfl,_,rfl,p,q,rfl,⟨_,aZ.of hp⟩,⟨_,aZ.of hq⟩,fun D hD=>?_⟩;refine qt (n:=xs.length) (fx:=fun i=>xs.getD i .non) (fy:=fun i=>ys.getD i .non) (fun i zs H2=>zs=List.replicate i (V.bl true)/\Same H H2/\H2 D=some (.lst zs)) (fun i zs H2 ⟨_,s2,_⟩=>CQ (aZ.of (s2 _ _ hp)) (aZ.of (s2 _ _ hq)) hl) ⟨rfl,ao hD _,ak⟩ (fun i zs H2 h=>h.2.2) ?_ ?_
  ·rintro i zs H2 r hir ⟨rfl,s2,hD2⟩ hr2;have nrD:D≠r:=aN hD2 hr2;have e1:xs[i]?=some (xs.getD i .non):=by rw [iI,dO hir];rfl
   have e2:ys[i]?=some (ys.getD i .non):=by rw [iI,dO 0x1];rfl
   have s3:Same H (upd H2 r (.tup [xs.getD i .non,ys.getD i .non])):=aV s2 (s2.free hr2);refine ⟨r,_,rfl,dG.of ak,rfl,_,_,rfl,_,_,rfl,rfl,Kp.set rfl (Kp.set rfl (Kp.refl _)),?_⟩;refine dN ?_;refine ⟨_,rfl,_,rfl,_,_,rfl,(hi i _ _ e1 e2).same s3,fun H4 s4=>⟨s4 _ _ (by rw [aG nrD];exact hD2),?_,?_,aV (s3.trans s4) hD,ak⟩⟩
   ·rw [List.length_replicate];exact cQ 0x1
   ·rw [List.replicate_succ']
  ·rintro zs H2 ⟨rfl,s2,hD2⟩;refine ⟨D,List.replicate xs.length true,rfl,aZ.of (by rw [<- R9];exact hD2),?_⟩;rw [all_true fun b hb=>List.eq_of_mem_replicate hb];exact k _ s2
theorem Kl (F:iR K "_law_same" "_law_same" sZ f fd) (m:MgS mg) (M:Ms K mg "_law_same" f fd ["_law_found", "_law_due"]):∀ n:Nat,bw P w K mg base dF n f fd ["_law_found", "_law_due"] (Aw n)
 | 0=>⟨fun vs H Q E ⟨x,y,_,h,_⟩=>h.elim,fun A outer s H args us vs Q E _ _ _ _ ⟨x,y,_,h,_⟩=>h.elim⟩
 | n+1=>Ra F m M (Kl F m M n)
structure Rb (K:PySem.W.Frag) (P:Params) (mg:Str->Option Value):Prop where
 bounds:∃ a b1 b2 b3 b4 b5 b6 b7,mg "BOUNDS"=some (.ref a)/\KD K P a [("day",.ref b1),("acres",.ref b2),("service",.ref b3),("bears",.ref b4),("edge",.ref b5),("number",.ref b6),("entry",.ref b7)]/\xJ K b1 [.int 0,.int 9999]/\xJ K b2 [.int 1,.int 9999]/\xJ K b3 [.int 0,.int 9999]/\xJ K b4 [.int 0,.int 99]/\xJ K b7 [.int 1,.int 999999]
 forms:∃ a kvs,mg "FORMS"=some (.ref a)/\KD K P a kvs/\∀ k,(form k=none->kvs.lookup k=none)/\∀ l,form k=some l->∃ b,kvs.lookup k=some (.ref b)/\xJ K b (l.map fun s=>.str s.word)
 two:∃ a,mg "OF_TWO_MEN"=some (.ref a)/\xJ K a [.str "heir",.str "liege"]
 crown:∃ t,mg "CROWN"=some (.str "" t)
inductive DX (vs:List V) (H:Hp) (Q:VK):Prop
 | mk (s:M.cP) (v:V) (_:vs=[.str s.word,v]) (_:isI v=s.num) (_:Uo 1000 v) (_:Q (.bl (dB s v)) H):DX vs H Q
def vY:Sp:=fun vs H Q _=>DX vs H Q
theorem HB:bB ["sort", "piece", "least", "greatest"] ["sort", "piece"] (aC yN):=0x0
theorem Vq (F:iR K "fits" "fits" yN f fd) (mo:Rb K w.params mg)  (G1:bw P w K mg base dF 1 g1 d1 ["text"] Hv) (M1:Ms K mg "is_name" g1 d1 ["text"]):bw P w K mg base dF 2 f fd ["sort", "piece"] vY:=by
 obtain ⟨aB,b1,b2,b3,b4,b5,b6,b7,mB,kB,t1,t2,t3,t4,t7⟩:=mo.bounds;obtain ⟨tc,mC⟩:=mo.crown;refine F.ok HB 0xA 0x2
 ·obtain ⟨s,v,rfl,_⟩:=h;rfl
 obtain ⟨s,v,rfl,hi,hv,k⟩:=h;refine ⟨_,aA (bJ (aK JX (pv 0) (dj rfl mB rfl (v:=.ref aB)) 0x16)
   (aA (m6 (bC Qz (dj rfl mB rfl (v:=.ref aB)) (pv 0) 0xE) (fW rfl (aX (aQ (i:=2) HB.nd rfl 0x3) (aX (aQ (i:=3) HB.nd rfl 0x3) cZ))))
   (aD (aU (uW jW jW (pv 2) (pv 1) (pv 3))))) bf)
  (aA (bJ (PW.pt (ji (aK cA (pv 0) aJ (aW _)) (gD (aK cA (pv 1) (dj rfl mC ⟨_,rfl⟩ (v:=.str "")) (aW _))))) (aD (aU fX)) bf)
  (aD (aU (bA G1 hr rfl M1.m M1.k M1.b .nil bL 0x21)))),?_⟩
 refine ⟨_,rfl,_,aB,_,rfl,rfl,kB,_,rfl,?_⟩;have hB:s.num=true->∃ b lo hi,([("day",V.ref b1),("acres",V.ref b2),("service",V.ref b3),("bears",V.ref b4),("edge",V.ref b5),("number",V.ref b6),("entry",V.ref b7)]:List (Str×V)).lookup s.word=some (.ref b)/\xJ K b [.int lo,.int hi]/\∀ n,dB s (.int n)=(decide (lo<=n)&&decide (n<=hi)):=by
  cases s with
  | d=>exact fun _=>⟨b1,0,9999,rfl,t1,fun n=>rfl⟩
  | a=>exact fun _=>⟨b2,1,9999,rfl,t2,fun n=>rfl⟩
  | s=>exact fun _=>⟨b3,0,9999,rfl,t3,fun n=>rfl⟩
  | b=>exact fun _=>⟨b4,0,99,rfl,t4,fun n=>rfl⟩
  | e=>exact fun _=>⟨b7,1,999999,rfl,t7,fun n=>rfl⟩
  | n=>exact fun h=>nomatch h
  | c=>exact fun h=>nomatch h
 have hN:s.num=false->([("day",V.ref b1),("acres",V.ref b2),("service",V.ref b3),("bears",V.ref b4),("edge",V.ref b5),("number",V.ref b6),("entry",V.ref b7)]:List (Str×V)).lookup s.word=none:=by
  cases s <;> first | exact fun _=>rfl | (intro h;cases h)
 cases hn:s.num with
 | true =>
  obtain ⟨b,lo,hi',hb,hk,hf⟩:=hB hn;obtain ⟨n,rfl⟩:∃ n,v=.int n:=by
   rw [hn] at hi;cases v <;> first | exact ⟨_,rfl⟩ | cases hi
  have hf':=hf n;rw [hb];refine bU ?_;refine ⟨_,rfl,aB,_,_,_,rfl,rfl,kB,hb,?_⟩;refine ⟨b,_,rfl,hk.sq _,rfl,_,_,rfl,_,_,rfl,rfl,?_⟩;refine ⟨_,rfl,_,rfl,_,_,rfl,rfl,_,rfl,?_⟩;refine bG (fun h1=>?_) (fun h1=>?_)
  ·refine ⟨_,rfl,_,_,rfl,rfl,?_⟩;rw [h1,Bool.true_and] at hf';rw [hf'] at k;exact k
  ·rw [Bool.eq_false_iff.mpr h1,Bool.false_and] at hf';rw [hf'] at k;exact k
 | false =>
  rw [hN hn];obtain ⟨z,rfl,hl,hc⟩:∃ z:Str,v=.str z/\z.length<=1000/\∀ c∈z.cps.toList,c<128:=by
   rcases hv with ⟨n,rfl⟩ | h
   ·rw [hn] at hi;cases hi
   ·exact h
  refine bZ ?_;cases s with
  | d=>cases hn
  | a=>cases hn
  | s=>cases hn
  | b=>cases hn
  | e=>cases hn
  | n =>
   refine ⟨_,rfl,rfl,_,rfl,bZ (bZ ?_)⟩;exact ⟨_,rfl,z,rfl,hl,k⟩
  | c =>
   refine ⟨_,rfl,rfl,_,rfl,bU ?_⟩;refine 0xB;have e0:dB .c (.str z)=(decide (z="")||nameB z.cps.toList):=rfl;rw [e0] at k;refine bG (fun h1=>?_) (fun h1=>?_)
   ·have h2:z="":=by
     have:=fO h1;injection this
    rw [decide_eq_true h2,Bool.true_or] at k;exact k
   ·have h2:¬ z="":=fun e=>h1 (by rw [e];rfl);rw [decide_eq_false h2,Bool.false_or] at k;exact ⟨_,rfl,z,rfl,hl,k⟩
inductive DY (good:List V->Hp->Prop) (wm:List V->Bool) (K:PySem.W.Frag) (vs:List V) (H:Hp) (Q:VK):Prop
 | mk (a:Addr) (xs:List V) (_:vs=[.ref a]) (_:dG K H a xs) (_:good xs H) (_:∀ H',Same H H'->Q (.bl (wm xs)) H'):DY good wm K vs H Q
def Rf (good:List V->Hp->Prop) (wm:List V->Bool) (K:PySem.W.Frag):Sp:=fun vs H Q _=>DY good wm K vs H Q
theorem Ea {l:List (cP×V)}{p:cP×V} (h:l[i]?=some p) (h0:(l.take i).all lG=true) (h1:lG p=true):(l.take (i+1)).all lG=true:=by
 rw [List.take_add_one,h,List.all_append,h0];simp [h1]
theorem Rg {l:List (cP×V)}{p:cP×V} (h:l[i]?=some p) (h1:lG p=false):l.all lG=false:=by
 cases e:l.all lG with
 | false=>rfl
 | true=>rw [List.all_eq_true.mp e p (lU h)] at h1;cases h1
theorem vZ {l:List cP}{s:cP} (h1:l[i]?=some s) (h2:rest[i]?=some v):(l.zip rest)[i]?=some (s,v):=by
 rw [List.getElem?_zip_eq_some];exact ⟨h1,h2⟩
theorem at_getD {α:Type}{l:List α}{x d:α} (h:l[i]?=some x):l.getD i d=x:=by rw [iI,h];rfl
theorem Eb (a b:Str):(a==b)=decide (b=a):=by
 rw [Bool.eq_iff_iff];simp only [beq_iff_eq,decide_eq_true_eq];exact eq_comm
theorem Rh (k:Str):inV (V.str k) [V.str "heir",V.str "liege"]=two k:=by
 show ((("heir" : Str)==k)||((("liege" : Str)==k)||false))=two k
 unfold two;rw [Bool.or_false,Eb,Eb]
theorem w5:bB ["row", "form", "pieces", "sort", "piece"] ["row"] (aC yM):=0x0
theorem at0 (v:V) (rest:List V):lZ (v::rest) 0=some v:=fH (j:=0) rfl
theorem pI {x:V} (h:rest[j]?=some x) (i:Int) (hi:i=((j+1:Nat):Int)):lZ (v::rest) i=some x:=by
 rw [hi];exact fH (by simpa using h)
theorem Vr (F:iR K "is_well_made" "is_well_made" yM f fd) (mo:Rb K w.params mg) (ml:mg "len"=none) (mz:mg "zip"=none)  (G1:bw P w K mg base dF 2 g1 d1 ["sort", "piece"] vY) (M1:Ms K mg "fits" g1 d1 ["sort", "piece"]):bw P w K mg base dF 3 f fd ["row"] (Rf Xx wm K):=by
 obtain ⟨aF,kvs,mF,kF,hF⟩:=mo.forms;obtain ⟨a2,m2,t2⟩:=mo.two;refine F.ok w5 0xA 0x2
 ·obtain ⟨a,xs,rfl,_⟩:=h;rfl
 obtain ⟨a,xs,rfl,hS,⟨k,rest,rfl,R⟩,kk⟩:=h;refine ⟨_,aA (bJ (aK vC (bC gU (pv 0) au 0xE) (dj rfl mF rfl (v:=.ref aF)) 0x16) (aD (aU fX)) bf)
  (aA (bD (i:=1) w5.nd rfl 0x3 (bC Qz (dj rfl mF rfl (v:=.ref aF)) (bC gU (pv 0) au 0xE) 0xE))
  (aA (bD (i:=2) w5.nd rfl 0x3 (cU PB (pv 0) (dJ au) dI))
  (aA (bJ (aK jE (aM bF rfl ml PySem.boot_len (aj (pv 2) aq)) (aM bF rfl ml PySem.boot_len 0x21) (aW _)) (aD (aU fX)) bf)
  (aA (gb PassesOwn.never rfl (CP rfl mz (aj (pv 1) (aj (pv 2) aq))) (fW rfl (aX (aQ (i:=3) w5.nd rfl 0x3) (aX (aQ (i:=4) w5.nd rfl 0x3) cZ)))
   (aD (bJ (fu (dW (bA G1 hr rfl M1.m M1.k M1.b .nil bL (aj (pv 3) (aj (pv 4) aq))))) (aD (aU fX)) bf)))
  (aD (aU (a1D (gF Aa (bC gU (pv 0) au 0xE) (dj rfl m2 rfl (v:=.ref a2)) 0x16)
   (qX (gF jE (bC gU (pv 0) au 0xE) (bC gU (pv 0) au 0xE) (aW _)))))))))),?_⟩
 have ew:wm (.str k::rest)=oJ k rest:=rfl;rw [ew] at kk;refine ⟨_,rfl,a,_,_,_,rfl,rfl,hS,at0 _ _,k,aF,kvs,rfl,rfl,kF,_,rfl,?_⟩;cases hf:form k with
 | none =>
  rw [(hF k).1 hf];have e:oJ k rest=false:=by unfold oJ;rw [hf]
  rw [e] at kk;exact bU (kk H (Same.refl _))
 | some l =>
  obtain ⟨b,hb,hk⟩:=(hF k).2 l hf;have wg:oJ k rest=(decide (rest.length=l.length)&&(((l.zip rest).all lG)&&!(two k&&decide (rest[1]?=rest[2]?)))):=by unfold oJ;rw [hf]
  rw [hb];refine bZ ?_;refine ⟨_,rfl,a,_,_,_,rfl,rfl,hS,at0 _ _,aF,kvs,k,_,rfl,rfl,kF,hb,?_⟩;refine ⟨_,rfl,_,rfl,a,_,rfl,hS,nw1 _ _,fun p hp=>?_⟩;rw [Hw];have s1:Same H (upd H p (.tup rest)):=ao hp _;refine ⟨_,rfl,p,_,rfl,.inr (dG.of ak),_,rfl,b,_,rfl,.inr (hk.sq _),rfl,_,rfl,?_⟩
  by_cases hl:rest.length=l.length
  ·refine yj (by rw [bV,hl]) ?_;rw [decide_eq_true hl,Bool.true_and] at wg;refine ⟨_,rfl,_,rfl,b,p,rfl,⟨_,hk.sq _⟩,⟨_,dG.of ak⟩,lC (n:=l.length) (fx:=fun i=>V.str (l.getD i .d).word) (fy:=fun i=>rest.getD i .non)
    (fun i σ H2=>(∃ u v,σ=[some (.ref a),some (.ref b),some (.ref p),u,v])/\Same (upd H p (.tup rest)) H2/\((l.zip rest).take i).all lG=true) ?_ ⟨⟨none,none,rfl⟩,Same.refl _,rfl⟩ ?_ ?_⟩
   ·rintro i σ H2 ⟨_,sm,_⟩;have st:=sW (i:=i) (hk.sq H2) (sm.Am (dG.of ak)) (by rw [bV];exact hl.symm);rw [bV] at st;refine ⟨fun hi=>⟨(st.1 hi).1,fun v H' y=>?_⟩,st.2⟩;obtain ⟨q,e1,e2,e3⟩:=(st.1 hi).2 v H' y;refine ⟨q,e1,e2,?_⟩;rw [e3];have e4:(l.map fun s=>V.str s.word).getD i .non=V.str (l.getD i .d).word:=by
     rw [iI,iI,jT,dO hi];rfl
    rw [e4]
   ·rintro i σ H2 q hi ⟨⟨u,v,rfl⟩,sm,ha⟩ hq;have h1:l[i]?=some l[i]:=dO hi;have hi2:i<rest.length:=by lia
    have h2:rest[i]?=some rest[i]:=dO hi2;rw [at_getD h1,at_getD h2];have sq:Same H2 (upd H2 q (.tup [V.str (l[i]).word,rest[i]])):=ao hq _;refine ⟨q,_,rfl,dG.of ak,rfl,_,_,rfl,_,_,rfl,rfl,?_⟩;refine ⟨_,rfl,_,rfl,l[i],rest[i],rfl,R.kept l hf i _ _ h1 h2,R.ok _ (List.getElem_mem hi2),_,rfl,?_⟩;cases hfit:dB l[i] rest[i] with
    | true=>exact bZ ⟨⟨_,_,rfl⟩,sm.trans sq,Ea (vZ h1 h2) ha hfit⟩
    | false =>
     refine bU ?_;rw [Rg (vZ h1 h2) hfit,Bool.false_and] at wg;rw [wg] at kk;exact kk _ (s1.trans (sm.trans sq))
   ·rintro σ H2 ⟨⟨u,v,rfl⟩,sm,ha⟩;rw [List.take_of_length_le (by rw [List.length_zip];lia)] at ha;rw [ha,Bool.true_and] at wg;have S2:=(s1.trans sm).Am hS;refine ⟨_,rfl,a,_,_,_,rfl,rfl,S2,at0 _ _,a2,_,rfl,.inr (t2.sq _),rfl,rfl,_,rfl,?_⟩;have e2:=Rh k
    show if (!inV (V.str k) [V.str "heir",V.str "liege"])=true then _ else _
    rw [e2];cases h2:two k with
    | false =>
     rw [h2] at wg;refine bU ?_;have:oJ k rest=true:=wg;rw [this] at kk;exact kk _ (s1.trans sm)
    | true =>
     rw [h2,Bool.true_and] at wg;obtain ⟨l3,n1,n2⟩:=vX hf h2;refine bZ ?_;have i1:(1:Nat)<rest.length:=by lia
     have i2:(2:Nat)<rest.length:=by lia
     have r1:rest[1]?=some rest[1]:=dO i1;have r2:rest[2]?=some rest[2]:=dO i2;have q1:l[1]?=some l[1]:=dO 0x1;have q2:l[2]?=some l[2]:=dO 0x1;have v1:isI rest[1]=false:=(R.kept l hf 1 _ _ q1 r1).trans (n1 _ q1);have v2:isI rest[2]=false:=(R.kept l hf 2 _ _ q2 r2).trans (n2 _ q2);have o1:=R.ok _ (List.getElem_mem i1);have o2:=R.ok _ (List.getElem_mem i2);rw [r1,r2] at wg;refine ⟨_,rfl,a,_,_,_,rfl,rfl,S2,pI r1 2 rfl,_,rfl,a,_,_,_,rfl,rfl,S2,pI r2 3 rfl,?_⟩;generalize rest[1]=x1 at *
     generalize rest[2]=x2 at *
     rcases o1 with ⟨n,rfl⟩ | ⟨z1,rfl,_⟩
     ·cases v1
     rcases o2 with ⟨n,rfl⟩ | ⟨z2,rfl,_⟩
     ·cases v2
     refine ⟨rfl,?_⟩;have e3:oJ k rest=!decide (V.str z1=V.str z2):=by
      rw [wg]
      congr 1
      exact decide_eq_decide.mpr ⟨fun e=>Option.some.inj e,fun e=>by rw [e]⟩
     rw [e3] at kk;exact kk _ (s1.trans sm)
  ·have e:oJ k rest=false:=by rw [wg,decide_eq_false hl,Bool.false_and]
   rw [e] at kk;have hne:(!decide (V.int ((rest.length:Nat):Int)=V.int (((l.map fun s=>V.str s.word).length:Nat):Int)))=true:=by
    rw [bV];have:¬ V.int ((rest.length:Nat):Int)=V.int ((l.length:Nat):Int):=fun e=>hl (by injection e with e;lia);rw [decide_eq_false this];rfl
   rw [hne];exact bU (kk _ s1)
theorem a2d:∀ i:_root_.Fin 26,az.cps.toList[i.val]?=some (97+i.val):=by decide +kernel
theorem Ri {i:Int} (h0:0<=i) (h1:i<26):lZ az.cps.toList i=some (97+i.toNat):=by
 have e:i=((i.toNat:Nat):Int):=by lia
 have q:lZ az.cps.toList ((i.toNat:Nat):Int)=some (97+i.toNat):=fH (a2d ⟨i.toNat,by lia⟩);rw [<- e] at q;exact q
theorem Rj (h:i<26):low (97+i)=true:=by simp [low];lia
theorem rep1 (n c:Nat):qy n [c]=List.replicate n c:=by
 unfold qy
 induction n with
 | zero=>rfl
 | succ n ih=>rw [List.replicate_succ,List.flatten_cons,ih];rfl
theorem Ax {α:Type}{xs:List α} (h:j<=xs.length):aO xs none (some (j:Int))=xs.take j:=by
 unfold aO;have e1:HT.fG xs.length 0 none=0:=rfl;rw [e1,HT.qe,List.drop_zero,Nat.sub_zero,Nat.min_eq_left h]
theorem rY {α:Type}{xs:List α} (h:j<=xs.length):aO xs (some (j:Int)) none=xs.drop j:=by
 unfold aO;have e2:HT.fG xs.length xs.length none=xs.length:=rfl;rw [e2,HT.qe,Nat.min_eq_left h,List.take_of_length_le (by rw [List.length_drop];exact Nat.le_refl _)]
def Told (p:Nat) (e:Int) (zs:List Str):Prop:=∀ (j:Nat) (z:Str),zs[j]?=some z->z.cps.toList[p]?=some (97+((e+7 * (j:Int)) % 26).toNat)/\nameB z.cps.toList=true
theorem Told.nodup {p:Nat}{e:Int} (h:Told p e zs) (hl:zs.length<=26):zs.Nodup:=by
 unfold List.Nodup;rw [List.pairwise_iff_getElem];intro i j hi hj hij he;have h1:=(h i _ (dO hi)).1;have h2:=(h j _ (dO hj)).1;rw [he,h2] at h1;have h3:=Option.some.inj h1;lia
theorem Told.snoc {p:Nat}{e:Int} (h:Told p e zs) (h1:z.cps.toList[p]?=some (97+((e+7 * (zs.length:Int)) % 26).toNat)) (h2:nameB z.cps.toList=true):Told p e (zs++[z]):=by
 intro j y hj
 by_cases hlt:j<zs.length
 ·rw [List.getElem?_append_left hlt] at hj;exact h j y hj
 ·have hj':j<(zs++[z]).length:=(List.getElem?_eq_some_iff.mp hj).1;have e:j=zs.length:=by rw [jA,List.length_singleton] at hj';lia
  subst e;rw [List.getElem?_append_right 0x9,Nat.sub_self] at hj;have:z=y:=by simpa using hj
  subst this;exact ⟨h1,h2⟩
theorem Ec {l:List Nat} (h:∀ c∈l,low c=true) (h1:1<=l.length) (h2:l.length<=8):nameB l=true:=by
 unfold nameB;rw [List.all_eq_true.mpr h,decide_eq_true h1,decide_eq_true h2];rfl
inductive yW (K:PySem.W.Frag) (vs:List V) (H:Hp) (Q:VK):Prop
 | mk (a:Addr) (ds:List Int) (many:Int) (_:vs=[.ref a,.int many]) (_:aZ K H a (ds.map V.int)) (_:4<=ds.length) (_:(∀ v∈ds,Hs v)) (_:0<=many) (_:many<=26) (_:∀ (r:Addr) (H':Hp) (zs:List Str),Same H H'->H r=none->H' r=some (.lst (zs.map V.str))->zs.length=many.toNat->(∀ z∈zs,nameB z.cps.toList=true)->zs.Nodup->Q (.ref r) H'):yW K vs H Q
def Km (K:PySem.W.Frag):Sp:=fun vs H Q _=>yW K vs H Q
theorem iV:bB ["_law_d", "_law_many", "_law_letters", "_law_k", "_law_base", "_law_at", "_law_names_here", "_law_sign", "_law_name"] ["_law_d", "_law_many"] (aC pC):=0x0
def scN1:Scope:={ kind:=.function,names:=[(".0",.local),("_law_k",.local),("_law_d",.free),("_law_letters",.free)],isGenerator:=false,isCoroutine:=false }
theorem csN1:fP ["_law_d", "_law_many", "_law_letters", "_law_k", "_law_base", "_law_at", "_law_names_here", "_law_sign", "_law_name"] (aC pC) scN1 ["_law_k"] ["_law_d", "_law_letters"] [0,2]:=0x6
theorem ndN1:((["_law_k"]:List Str)++(["_law_d", "_law_letters"]:List Str)).Nodup:=by decide +kernel
theorem Rk (F:iR K "_law_names" "_law_names" pC f fd) (ml:mg "len"=none) (mr:mg "range"=none):bw P w K mg base dF 1 f fd ["_law_d", "_law_many"] (Km K):=by
 refine F.ok iV 0xA 0x2
 ·obtain ⟨a,ds,many,rfl,_⟩:=h;rfl
 obtain ⟨a,ds,many,rfl,hS,hlen,hok,m0,m1,k⟩:=h;refine ⟨_,aA (bD (i:=2) iV.nd rfl (Or.inr rfl) aJ)
  (aA (bD (i:=4) iV.nd rfl 0x3 (dH PySem.F.plainAttrs_str PySem.F.slot_str_join PySem.F.type_str_join nD aJ (aj
    (gJ rfl csN1
     (iW rfl mr (aj (aR bI (bC aL (pv 0) au 0xE) au) aq))
     (fun s H fp C=>⟨aQ (i:=0) ndN1 rfl 0x3,fJ,bC v7 (pv 2) (aR bI (aR bN (bC (vh (K:=K)) (pv 1) au 0xE)
      (aR iJ (aR bN (pv 0) au) (aR tZ (bC (vh (K:=K)) (pv 1) au 0xE) au))) au) 0xE⟩)) aq)))
  (aA (bD (i:=5) iV.nd rfl 0x3 (aR bI (bC aL (pv 0) au 0xE) (aR bN (aM cH rfl ml PySem.boot_len (aj (pv 4) aq)) au)))
  (aA (bD (i:=6) iV.nd rfl 0x3 (cX aq))
  (aA (gb PassesOwn.never rfl (iW rfl mr 0x21) (aQ (i:=3) iV.nd rfl 0x3)
   (aA (bD (i:=7) iV.nd rfl 0x3 (bC v7 (pv 2) (aR bI (aR bN (bC aL (pv 0) au 0xE) (aR iJ au (pv 3))) au) 0xE))
   (aA (bD (i:=8) iV.nd rfl 0x3 (aR cj (aR cj (cU lg (pv 4) dI (dJ (pv 5))) (pv 7)) (cU lg (pv 4) (dJ (pv 5)) dI)))
   (aA (bJ (aK cA (aR bI (aR tZ (bC aL (pv 0) au 0xE) au) au) au (aW _))
    (aD (bD (i:=8) iV.nd rfl 0x3 (aR GQ (pv 7) (aR bN au (aR bI (aR bN (bC aL (pv 0) au 0xE) (aR iJ au (pv 3))) au))))) bf)
   (aD (dz (dH PySem.F.plainAttrs_list PySem.F.slot_list_append PySem.F.type_list_append cY (pv 6) (aj (pv 8) aq))))))))
  (aD (aU (pv 6))))))),?_⟩
 obtain ⟨d0,e0,o0⟩:=dY hok (i:=0) 0x8 0x1;obtain ⟨d1,e1,o1⟩:=dY hok (i:=1) 0x8 0x1;obtain ⟨d2,e2,o2⟩:=dY hok (i:=2) 0x8 0x1;obtain ⟨d3,e3,o3⟩:=dY hok (i:=3) 0x8 0x1;obtain ⟨o0a,o0b⟩:=o0;obtain ⟨o1a,o1b⟩:=o1;obtain ⟨o2a,o2b⟩:=o2;obtain ⟨o3a,o3b⟩:=o3;refine ⟨rfl,_,rfl,a,_,_,_,rfl,rfl,hS,e1,_,_,rfl,rfl,(by show (0:Int)<8;decide),d1 % 8,rfl,by lia,by lia,fun D hD=>?_⟩
 refine GF (lo:=0) (n:=(d1 % 8).toNat) (fun i ys H2=>∃ cs:List Nat,ys=cs.map (fun c=>V.str (dR [c]))/\cs.length=i/\(∀ c∈cs,low c=true)/\Same H H2/\H2 D=some (.lst ys))
  ⟨[],rfl,rfl,(fun c hc=>nomatch hc),ao hD _,ak⟩ (fun i ys H2 ⟨cs,_,_,_,_,h⟩=>h) ?_ ?_
 ·rintro i ys H2 hi ⟨cs,rfl,hl,hc,s2,h2⟩;have S2:=s2.seq hS;refine 0x2E;refine dN ?_;have hm0:=Int.emod_nonneg (d0+(0+(i:Int)+1) * (d1 / 8)) (show (26:Int)≠0 by decide)
  have hm1:=Int.emod_lt_of_pos (d0+(0+(i:Int)+1) * (d1 / 8)) (show (0:Int)<26 by decide)
  have hT:((d0+(0+(i:Int)+1) * (d1 / 8)) % 26).toNat<26:=by
   generalize (d0+(0+(i:Int)+1) * (d1 / 8)) % 26=T at hm0 hm1 ⊢;lia
  refine ⟨_,rfl,_,rfl,a,_,_,_,rfl,rfl,S2,e0,_,rfl,_,_,rfl,rfl,_,rfl,a,_,_,_,rfl,rfl,S2,e1,_,_,rfl,rfl,⟨by decide,by decide⟩,_,_,rfl,rfl,.inl ⟨by lia,by lia⟩,_,_,rfl,rfl,_,_,rfl,rfl,(by show (0:Int)<26;decide),
   _,_,_,rfl,rfl,(by show az.length<=sizeLine;decide +kernel),Ri hm0 hm1,h2,?_,?_⟩
  ·rw [bV];exact cQ 0x1
  ·exact ⟨cs++[97+((d0+(0+(i:Int)+1) * (d1 / 8)) % 26).toNat],by rw [jB];rfl,by simp [hl],(fun d hd=>by
    rcases List.mem_append.mp hd with z | z
    ·exact hc d z
    ·rw [List.mem_singleton.mp z];exact Rj hT),aV s2 hD,ak⟩
 ·rintro ys H2 ⟨cs,rfl,hl,hc,s2,h2⟩;have hm:cs.map (fun c=>V.str (dR [c]))=(cs.map (fun c=>dR [c])).map V.str:=by simp
  refine ⟨_,D,cs.map (fun c=>dR [c]),rfl,rfl,aZ.of (by rw [<- hm];exact h2),Vm 0x1,?_⟩;rw [Hu];have S2:=s2.seq hS;have lc:(dR cs).length=cs.length:=gK cs;refine ⟨_,rfl,a,_,_,_,rfl,rfl,S2,e2,_,rfl,_,rfl,(by rw [lc];exact small 0x1),_,_,rfl,rfl,_,_,rfl,rfl,(by rw [lc];lia),?_⟩;rw [lc];have q0:0<=d2 % ((cs.length:Int)+1):=Int.emod_nonneg _ 0x1;have q1:d2 % ((cs.length:Int)+1)<(cs.length:Int)+1:=Int.emod_lt_of_pos _ 0x1;obtain ⟨at_,hat⟩:∃ n:Nat,d2 % ((cs.length:Int)+1)=(n:Int):=⟨(d2 % ((cs.length:Int)+1)).toNat,by lia⟩;rw [hat] at q0 q1;refine ⟨small 0x5,fun l hl0=>?_⟩;have hl1:H l=none:=s2.free hl0;refine ⟨_,rfl,many,rfl,by lia,by lia,?_⟩;refine iY (lo:=0) (n:=many.toNat) (fun j σ H4=>∃ (zs:List Str) (u1 u2 u3:Option V),σ=[some (.ref a),some (.int many),some (.str az),u1,some (.str (dR cs)),some (.int (at_:Int)),some (.ref l),u2,u3]/\Same H H4/\H4 l=some (.lst (zs.map V.str))/\zs.length=j/\Told (if d2 / 8 % 2=1 then 0 else at_) d3 zs)
   ⟨[],none,none,none,(by rw [<- hat];rfl),aV s2 hl1,ak,rfl,fun j z h=>by simp at h⟩ ?_ ?_
  ·rintro j σ H4 hj ⟨zs,u1,u2,u3,rfl,s4,hL,hz,ht⟩;have S4:=s4.seq hS;have hm0:=Int.emod_nonneg (d3+7 * (0+(j:Int))) (show (26:Int)≠0 by decide)
   have hm1:=Int.emod_lt_of_pos (d3+7 * (0+(j:Int))) (show (0:Int)<26 by decide)
   refine ⟨_,rfl,_,rfl,a,_,_,_,rfl,rfl,S4,e3,_,rfl,_,_,rfl,rfl,.inl ⟨by decide,by decide⟩,_,_,rfl,rfl,_,_,rfl,rfl,(by show (0:Int)<26;decide),_,_,_,rfl,rfl,(by show az.length<=sizeLine;decide +kernel),Ri hm0 hm1,?_⟩
   have hc0:low (97+((d3+7 * (0+(j:Int))) % 26).toNat)=true:=Rj 0x1;have hcj:97+((d3+7 * (0+(j:Int))) % 26).toNat=97+((d3+7 * (zs.length:Int)) % 26).toNat:=by rw [hz,Int.zero_add]
   generalize 97+((d3+7 * (0+(j:Int))) % 26).toNat=c at hc0 hcj ⊢;refine ⟨_,rfl,_,rfl,_,rfl,_,rfl,(by rw [lc];exact small 0x1),_,rfl,?_⟩;have f1:aO (dR cs).cps.toList none (some (at_:Int))=cs.take at_:=Ax (by show at_<=cs.length;lia)
   have f2:aO (dR cs).cps.toList (some (at_:Int)) none=cs.drop at_:=rY (by show at_<=cs.length;lia)
   rw [f1];have l1:(dR (cs.take at_)++dR [c]).length=at_+1:=by rw [Vn,gK,gK,List.length_take,Nat.min_eq_left 0x1];rfl
   refine ⟨_,_,rfl,rfl,(by rw [gK,gK,List.length_take];exact small (by simp;lia)),?_⟩;refine ⟨_,rfl,_,rfl,_,rfl,_,rfl,(by rw [lc];exact small 0x1),?_⟩;rw [f2];refine ⟨_,_,rfl,rfl,(by rw [l1,gK,List.length_drop];exact small 0x1),?_⟩;have en:(dR (cs.take at_)++dR [c]++dR (cs.drop at_)).cps.toList=cs.take at_++[c]++cs.drop at_:=by rw [app_list,app_list]
   refine ⟨_,rfl,a,_,_,_,rfl,rfl,S4,e2,_,_,rfl,rfl,⟨by decide,by decide⟩,_,_,rfl,rfl,(by show (0:Int)<2;decide),rfl,_,rfl,?_⟩
   refine bG (fun hb=>?_) (fun hb=>?_)
   ·have hb1:d2 / 8 % 2=1:=by
     have:=fO hb;injection this
    rw [if_pos hb1] at ht ⊢;refine ⟨_,rfl,_,rfl,a,_,_,_,rfl,rfl,S4,e0,_,rfl,_,_,rfl,rfl,.inl ⟨by decide,by decide⟩,_,_,rfl,rfl,_,_,rfl,rfl,(by show (0:Int)<8;decide),_,_,rfl,rfl,?_⟩
    have r0:=Int.emod_nonneg (d0+3 * (0+(j:Int))) (show (8:Int)≠0 by decide)
    have r1:=Int.emod_lt_of_pos (d0+3 * (0+(j:Int))) (show (0:Int)<8 by decide)
    refine ⟨_,_,rfl,rfl,by lia,by lia,(by show (dR [c]).length<=1000;rw [gK];simp),?_⟩
    have ec:(dR [c]).cps.toList=[c]:=rfl;rw [ec,rep1];refine ⟨_,rfl,.inl ⟨rfl,_,aZ.of hL⟩,_,rfl,l,_,_,rfl,rfl,hL,(by rw [bV];exact cQ 0x1),?_⟩;refine ⟨zs++[dR (List.replicate (1+(d0+3 * (0+(j:Int))) % 8).toNat c)],_,_,_,rfl,aV s4 hl1,by rw [ak,jB];rfl,by rw [jA,List.length_singleton,hz],ht.snoc ?_ ?_⟩
    ·rw [<- hcj]
     show (List.replicate _ c)[0]?=some c
     rw [List.getElem?_replicate,if_pos 0x1]
    ·refine Ec (fun x hx=>?_) ?_ ?_
     ·have:=(List.mem_replicate.mp hx).2;rw [this];exact hc0
     ·show 1<=(List.replicate _ c).length
      rw [List.length_replicate];lia
     ·show (List.replicate _ c).length<=8
      rw [List.length_replicate];lia
   ·have hb1:¬ d2 / 8 % 2=1:=fun e=>hb (by show decide (V.int (d2 / 8 % 2)=V.int 1)=true;rw [e];rfl)
    rw [if_neg hb1] at ht ⊢;refine ⟨_,rfl,.inl ⟨rfl,_,aZ.of hL⟩,_,rfl,l,_,_,rfl,rfl,hL,(by rw [bV];exact cQ 0x1),?_⟩;refine ⟨zs++[dR (cs.take at_)++dR [c]++dR (cs.drop at_)],_,_,_,rfl,aV s4 hl1,by rw [ak,jB];rfl,by rw [jA,List.length_singleton,hz],ht.snoc ?_ ?_⟩
    ·rw [en,<- hcj,List.append_assoc,List.getElem?_append_right (by rw [List.length_take];lia),List.length_take,Nat.min_eq_left 0x1,Nat.sub_self];rfl
    ·rw [en];refine Ec (fun x hx=>?_) ?_ ?_
     ·rcases List.mem_append.mp hx with z | z
      ·rcases List.mem_append.mp z with z | z
       ·exact hc x (List.mem_of_mem_take z)
       ·rw [List.mem_singleton.mp z];exact hc0
      ·exact hc x (List.mem_of_mem_drop z)
     ·rw [jA,jA,List.length_singleton];lia
     ·rw [jA,jA,List.length_take,List.length_drop,List.length_singleton];lia
  ·rintro σ H4 ⟨zs,u1,u2,u3,rfl,s4,hL,hz,ht⟩;refine ⟨_,rfl,k l H4 zs s4 hl1 hL hz (fun z hzm=>?_) (ht.nodup 0x1)⟩;obtain ⟨i,hi,rfl⟩:=List.mem_iff_getElem.mp hzm;exact (ht i _ (dO hi)).2
def rZ:List V:=[.str "heir",.str "grant",.str "part",.str "convey",.str "liege",.str "surrender",.str "death"]
def Ko:Sp:=fun vs H Q _=>vs=[]/\∀ p,H p=none->Q (.ref p) (upd H p (.lst rZ))
theorem Vs:bB [] [] (aC rN):=0x0
theorem Rm (F:iR K "_law_kinds" "_law_kinds" rN f fd):bw P w K mg base dF 1 f fd [] Ko:=by
 refine F.ok Vs 0xA 0x2
 ·obtain ⟨rfl,_⟩:=h;rfl
 obtain ⟨rfl,k⟩:=h;refine ⟨_,aD (aU (cX (aj aJ (aj aJ (aj aJ (aj aJ (aj aJ (aj aJ (aj aJ aq))))))))),?_⟩;exact ⟨small 0x5,k⟩
def cD:List (Key×V):=[(.inr "heir",.str "dnn"),(.inr "grant",.str "dcnnas"),(.inr "part",.str "dnnna"),(.inr "convey",.str "dnn"),(.inr "liege",.str "dnc"),(.inr "surrender",.str "dn"),(.inr "death",.str "dn")]
theorem Ay:mJ [] cD=cD:=by decide +kernel
theorem pJ (k:Str):lu cD (.inr k)=(form k).map fun l=>V.str (oH l):=by
 unfold form forms cD;have key:∀ (r:List (Key×V)) (q:List (Str×List cP)) (x:Str) (t:Str) (l:List cP),t=oH l->lu r (.inr k)=(q.lookup k).map (fun l=>V.str (oH l))->lu ((Sum.inr x,V.str t)::r) (.inr k)=(((x,l)::q).lookup k).map fun l=>V.str (oH l):=by
  intro r q x t l ht h
  by_cases e:k=x
  ·subst e;rw [qz rfl,List.lookup_cons];simp [ht]
  ·have e':(k==x)=false:=by simpa using e
   have e2:¬ (Sum.inr x:Key)=Sum.inr k:=fun h=>e (by injection h with h;exact h.symm);rw [qC e2,List.lookup_cons,e'];exact h
 refine key _ _ _ _ _ 0x4 (key _ _ _ _ _ 0x4 (key _ _ _ _ _ 0x4 (key _ _ _ _ _ 0x4 (key _ _ _ _ _ 0x4 (key _ _ _ _ _ 0x4 (key _ _ _ _ _ 0x4 rfl))))))
def qJ:Sp:=fun vs H Q _=>vs=[]/\∀ p,H p=none->Q (.ref p) (upd H p (.dK cD))
theorem Rn:bB [] [] (aC jJ):=0x0
theorem Ed:∃ j0 p0 j1 p1 j2 p2 j3 p3 j4 p4 j5 p5 j6 p6 j7 p7 j8 p8 j9 p9 j10 p10 j11 p11 j12 p12 j13 p13 q q',aY jJ=[.Return (some (.Dict [some (.Constant (.str "heir") j0 p0),some (.Constant (.str "grant") j1 p1),some (.Constant (.str "part") j2 p2),some (.Constant (.str "convey") j3 p3),some (.Constant (.str "liege") j4 p4),some (.Constant (.str "surrender") j5 p5),some (.Constant (.str "death") j6 p6)] [.Constant (.str "dnn") j7 p7,.Constant (.str "dcnnas") j8 p8,.Constant (.str "dnnna") j9 p9,.Constant (.str "dnn") j10 p10,.Constant (.str "dnc") j11 p11,.Constant (.str "dn") j12 p12,.Constant (.str "dn") j13 p13] q)) q']:=⟨_,_,_,_,_,_,_,_,_,_,_,_,_,_,_,_,_,_,_,_,_,_,_,_,_,_,_,_,_,_,rfl⟩
theorem HD:BW X (aY jJ) (Ox (sX [(tC (.str "heir"),tC (.str "dnn")),(tC (.str "grant"),tC (.str "dcnnas")),(tC (.str "part"),tC (.str "dnnna")),(tC (.str "convey"),tC (.str "dnn")),(tC (.str "liege"),tC (.str "dnc")),(tC (.str "surrender"),tC (.str "dn")),(tC (.str "death"),tC (.str "dn"))])):=by
 obtain ⟨j0,p0,j1,p1,j2,p2,j3,p3,j4,p4,j5,p5,j6,p6,j7,p7,j8,p8,j9,p9,j10,p10,j11,p11,j12,p12,j13,p13,q,q',h⟩:=Ed;rw [h];refine aD ?_;refine aU ?_;refine JV ?h ?a ?b ?c ?d
 case a=>exact rfl
 case b=>exact rfl
 case c=>exact List.cons_ne_nil _ _
 case d=>exact Nat.le_of_ble_eq_true rfl
 case h=>exact (fY aJ aJ (fY aJ aJ (fY aJ aJ (fY aJ aJ (fY aJ aJ (fY aJ aJ (fY aJ aJ JT)))))))
theorem iG {a b:V}{r:List (TE×TE)}{Q:List (V×V)->Hp->Prop} (h:lA r σ H fun ps H3=>Q ((a,b)::ps) H3):lA ((tC a,tC b)::r) σ H Q:=h
theorem Ef {Q:List (V×V)->Hp->Prop} (h:Q [] H):lA [] σ H Q:=h
theorem Az:([(.str "heir",.str "dnn"),(.str "grant",.str "dcnnas"),(.str "part",.str "dnnna"),(.str "convey",.str "dnn"),(.str "liege",.str "dnc"),(.str "surrender",.str "dn"),(.str "death",.str "dn")]:List (V×V))=cD.map fun kv=>(kV kv.1,kv.2):=rfl
theorem tRD (h:∀ p,H p=none->lA Oi σ (upd H p (.dK [])) fun ps H2=>H2 p=some (.dK [])/\∃ kvs:List (Key×V),ps=kvs.map (fun kv=>(kV kv.1,kv.2))/\kvs.length<=15/\D.rt (.ref p) (upd H2 p (.dK (mJ [] kvs)))):Ox (sX Oi) D σ H:=h
theorem NQ (F:iR K "_law_shapes" "_law_shapes" jJ f fd):bw P w K mg base dF 1 f fd [] qJ:=by
 refine F.ok Rn 0xA 0x2
 ·obtain ⟨rfl,_⟩:=h;rfl
 obtain ⟨rfl,k⟩:=h;refine ⟨Ox (sX _),@HD _,?y⟩;refine tRD fun p hp=>?_;refine iG (iG (iG (iG (iG (iG (iG (Ef ?_)))))));refine ⟨ak,cD,Az,Nat.le_of_ble_eq_true rfl,?_⟩;rw [Jb,Ay];exact k p hp
theorem u1 {k:Nat} (r:fM k A):A.units+1<cLine:=by have:=r.un;lia
theorem HF (s:cP):(!(Builtin.Str.occurrences "das" (dR [s.code]) 0 (Str.length "das") 1).isEmpty)=s.num:=by cases s <;> decide +kernel
theorem Ro (s:cP):decide (V.str (dR [s.code])=V.str "a")=decide (s=.a):=by cases s <;> decide +kernel
theorem HJ (s:cP):decide (V.str (dR [s.code])=V.str "c")=decide (s=.c):=by cases s <;> decide +kernel
theorem jr (l:List cP):(oH l).cps.toList=l.map cP.code:=by simp [oH]
theorem lH (l:List cP):(oH l).length=l.length:=by rw [oH,gK,bV]
theorem wk {l:List cP} (h:i<l.length):(oH l).cps.toList.getD i 0=(l.getD i .d).code:=by
 rw [jr,iI,iI,jT,dO h];rfl
theorem Vt (s:cP) (n:Int) (h:s.num=true) (hr:s.row=true):dB s (.int n)=(decide ((if decide (s=.a)=true then 1 else 0)<=n)&&decide (n<=9999)):=by
 cases s <;> first | rfl | (cases hr;done) | (cases h;done)
theorem Ba (s:cP) (z:Str) (h:s.num=false):dB s (.str z)=(nameB z.cps.toList||(decide (s=.c)&&decide (z=""))):=by
 cases s with
 | n=>show nameB z.cps.toList=(nameB z.cps.toList||(false&&decide (z="")));simp
 | c=>show (decide (z="")||nameB z.cps.toList)=(nameB z.cps.toList||(true&&decide (z="")));rw [Bool.true_and,Bool.or_comm]
 | d=>cases h
 | a=>cases h
 | s=>cases h
 | b=>cases h
 | e=>cases h
theorem pX {y:Str}:decide (V.str x=V.str y)=decide (x=y):=decide_eq_decide.mpr ⟨fun e=>by injection e,fun e=>by rw [e]⟩
def wu (l:List cP) (rest:List V):Prop:=∀ (i:Nat) (s:cP) (v:V),l[i]?=some s->rest[i]?=some v->dB s v=true
theorem Rp {l:List cP}{s:cP} (h:wu l rest) (hs:l[rest.length]?=some s) (hv:dB s v=true):wu l (rest++[v]):=by
 intro j t u e1 e2
 by_cases hlt:j<rest.length
 ·rw [List.getElem?_append_left hlt] at e2;exact h j t u e1 e2
 ·have hj':j<(rest++[v]).length:=(List.getElem?_eq_some_iff.mp e2).1;have e:j=rest.length:=by rw [jA,List.length_singleton] at hj';lia
  subst e;rw [List.getElem?_append_right 0x9,Nat.sub_self] at e2;have:v=u:=by simpa using e2
  subst this;rw [hs] at e1;cases e1;exact hv
theorem Vu {l:List cP} (h:wu l rest) (hv:∀ s,l[j]?=some s->dB s v=true):wu l (rest.set j v):=by
 intro i t u e1 e2
 by_cases hij:i=j
 ·subst hij;have hl:=(List.getElem?_eq_some_iff.mp e2).1;rw [List.length_set] at hl;rw [List.getElem?_set_self hl] at e2;cases e2;exact hv t e1
 ·rw [List.getElem?_set_ne (fun e=>hij e.symm)] at e2;exact h i t u e1 e2
theorem Vv {l:List cP} (h:wu l rest):(l.zip rest).all lG=true:=by
 rw [List.all_eq_true];intro p hp;obtain ⟨i,hi⟩:=List.mem_iff_getElem?.mp hp;have h2:=List.getElem?_zip_eq_some.mp hi;exact h i _ _ h2.1 h2.2
theorem wz {s:cP} (h:nameB z.cps.toList=true) (hs:s.num=false):dB s (.str z)=true:=by
 rw [Ba s z hs,h];rfl
theorem Zz {k:Str}{l:List cP} (hf:form k=some l) (hl:rest.length=l.length) (h:wu l rest) (h2:two k=false\/rest[1]?≠rest[2]?):oJ k rest=true:=by
 unfold oJ;rw [hf]
 show (decide (rest.length=l.length)&&(((l.zip rest).all lG)&&!(two k&&decide (rest[1]?=rest[2]?))))=true
 rw [decide_eq_true hl,Vv h];rcases h2 with h2 | h2
 ·rw [h2];rfl
 ·rw [decide_eq_false h2];simp
theorem kinds_ok:∀ i:_root_.Fin 7,(match rZ[i.val]? with | some (.str k)=>(form k).isSome | _=>false)=true:=by decide +kernel
theorem Rq {i:Int} (h0:0<=i) (h1:i<7):∃ k l,lZ rZ i=some (.str k)/\form k=some l:=by
 have e:i=((i.toNat:Nat):Int):=by lia
 have h:=kinds_ok ⟨i.toNat,by lia⟩;simp only at h
 split at h
 ·rename_i k hk
  obtain ⟨l,hl⟩:=Option.isSome_iff_exists.mp h;refine ⟨k,l,?_,hl⟩;have q:lZ rZ ((i.toNat:Nat):Int)=some (.str k):=fH hk;rw [<- e] at q;exact q
 ·cases h
theorem num5 {x:Int} (hx0:0<=x) (hx1:x<=9999) {j:Int} (h0:0<=j) (h1:j<5):∃ n,lZ [V.int x,V.int x,V.int 9999,V.int 1,V.int 0] j=some (V.int n)/\0<=n/\n<=9999:=by
 obtain ⟨v,e,m⟩:=fK (xs:=[V.int x,V.int x,V.int 9999,V.int 1,V.int 0]) h0 h1;simp only [List.mem_cons,List.not_mem_nil,or_false] at m;rcases m with rfl | rfl | rfl | rfl | rfl
 ·exact ⟨_,e,hx0,hx1⟩
 ·exact ⟨_,e,hx0,hx1⟩
 ·exact ⟨_,e,by decide,by decide⟩
 ·exact ⟨_,e,by decide,by decide⟩
 ·exact ⟨_,e,by decide,by decide⟩
theorem Vw {s:cP}{n:Int} (hs:s.num=true) (hr:s.row=true) (h0:0<=n) (h1:n<=9999):dB s (.int (if (if decide (V.str (dR [s.code])=V.str "a") then (1:Int) else 0) > n then (if decide (V.str (dR [s.code])=V.str "a") then (1:Int) else 0) else n))=true:=by
 rw [Ro];cases s with
 | n=>cases hs
 | c=>cases hs
 | b=>cases hr
 | e=>cases hr
 | d =>
  have e:decide (cP.d=cP.a)=false:=rfl;rw [e,if_neg (show ¬ (if (false=true) then (1:Int) else 0) > n by rw [if_neg Bool.false_ne_true];lia)]
  show (decide (0<=n)&&decide (n<=9999))=true
  rw [decide_eq_true h0,decide_eq_true h1];rfl
 | s =>
  have e:decide (cP.s=cP.a)=false:=rfl;rw [e,if_neg (show ¬ (if (false=true) then (1:Int) else 0) > n by rw [if_neg Bool.false_ne_true];lia)]
  show (decide (0<=n)&&decide (n<=9999))=true
  rw [decide_eq_true h0,decide_eq_true h1];rfl
 | a =>
  have e:decide (cP.a=cP.a)=true:=rfl;rw [e,if_pos rfl]
  by_cases h:(1:Int) > n
  ·rw [if_pos h];rfl
  ·rw [if_neg h]
   show (decide (1<=n)&&decide (n<=9999))=true
   rw [decide_eq_true (show 1<=n by lia),decide_eq_true h1];rfl
theorem wA {α:Type} [DecidableEq α] (x:α):∀ (zs:List α),zs.Nodup->zs.length<=(zs.filter fun z=>!decide (z=x)).length+1
 | [],_=>by simp
 | z::zs,h=>by
  have h1:=List.nodup_cons.mp h
  by_cases e:z=x
  ·subst e;have:(zs.filter fun y=>!decide (y=z))=zs:=by
    rw [List.filter_eq_self];intro y hy;have:y≠z:=fun e=>h1.1 (e ▸ hy);simp [this]
   rw [List.filter_cons_of_neg 0x5,this,jU];exact Nat.le_refl _
  ·have ih:=wA x zs h1.2;rw [List.filter_cons_of_pos (by simp [e]),jU,jU];lia
theorem NT {l:List cP}{s:cP} (h:tD l rest) (hs:l[rest.length]?=some s) (hv:isI v=s.num):tD l (rest++[v]):=by
 intro j t u e1 e2
 by_cases hlt:j<rest.length
 ·rw [List.getElem?_append_left hlt] at e2;exact h j t u e1 e2
 ·have hj':j<(rest++[v]).length:=(List.getElem?_eq_some_iff.mp e2).1;have e:j=rest.length:=by rw [jA,List.length_singleton] at hj';lia
  subst e;rw [List.getElem?_append_right 0x9,Nat.sub_self] at e2;have:v=u:=by simpa using e2
  subst this;rw [hs] at e1;cases e1;exact hv
theorem Rt {l:List cP}{w:V} (h:tD l rest) (hw:rest[j]?=some w) (hv:isI v=isI w):tD l (rest.set j v):=by
 intro i t u e1 e2
 by_cases hij:i=j
 ·subst hij;have hl:=(List.getElem?_eq_some_iff.mp hw).1;rw [List.getElem?_set_self hl] at e2;cases e2;rw [hv];exact h i t w e1 hw
 ·rw [List.getElem?_set_ne (fun e=>hij e.symm)] at e2;exact h i t u e1 e2
theorem Bb (h:nameB z.cps.toList=true):Uo 20 (.str z):=by
 unfold nameB at h;rw [Bool.and_eq_true,Bool.and_eq_true] at h;obtain ⟨h1,h2,h3⟩:=h;have h3':=fO h3;refine .inr ⟨z,rfl,(by have:z.length=z.cps.toList.length:=(by simp [Str.length]);lia),fun c hc=>?_⟩;have:=List.all_eq_true.mp h1 c hc;unfold low at this;rw [Bool.and_eq_true] at this;have:=fO this.2;lia
inductive Kq (K:PySem.W.Frag) (vs:List V) (H:Hp) (Q:VK):Prop
 | mk (a b:Addr) (ds:List Int) (zs:List Str) (_:vs=[.ref a,.ref b]) (_:aZ K H a (ds.map V.int)) (_:14<=ds.length) (_:(∀ v∈ds,Hs v)) (_:aZ K H b (zs.map V.str)) (_:2<=zs.length) (_:zs.length<=7) (_:(∀ z∈zs,nameB z.cps.toList=true)) (_:zs.Nodup) (_:∀ p k rest H',Same H H'->H' p=some (.tup (.str k::rest))->rest.length<=6->Row 20 k rest->oJ k rest=true->Q (.ref p) H'):Kq K vs H Q
def Xz (K:PySem.W.Frag):Sp:=fun vs H Q _=>Kq K vs H Q
theorem yX:bB ["_law_d", "_law_names_here", "_law_kind", "_law_row", "_law_k", "_law_sort", "_law_number_here"] ["_law_d", "_law_names_here"] (aC Hr):=0x0
def scY1:Scope:={ kind:=.function,names:=[(".0",.local),("_law_one",.local),("_law_row",.free)],isGenerator:=false,isCoroutine:=false }
theorem csY1:fP ["_law_d", "_law_names_here", "_law_kind", "_law_row", "_law_k", "_law_sort", "_law_number_here"] (aC Hr) scY1 ["_law_one"] ["_law_row"] [3]:=0x6
theorem ndY1:((["_law_one"]:List Str)++(["_law_row"]:List Str)).Nodup:=by decide +kernel
theorem ZC (F:iR K "_law_any_row" "_law_any_row" Hr f fd) (ml:mg "len"=none) (mt:mg "int"=none) (me:mg "enumerate"=none) (mx:mg "max"=none) (mu:mg "tuple"=none)  (G1:bw P w K mg base dF 1 g1 d1 [] qJ) (M1:Ms K mg "_law_shapes" g1 d1 [])
  (G2:bw P w K mg base dF 1 g2 d2 [] Ko) (M2:Ms K mg "_law_kinds" g2 d2 []):bw P w K mg base dF 2 f fd ["_law_d", "_law_names_here"] (Xz K):=by
 refine F.ok yX 0xA 0x2
 ·obtain ⟨a,b,ds,zs,rfl,_⟩:=h;rfl
 obtain ⟨a,b,ds,zs,rfl,hS,hlen,hok,hB,h7,h7',hnm,hnd,kk⟩:=h;refine ⟨_,aA (bD (i:=2) yX.nd rfl 0x3 (bC aL (pZ G2 hr rfl M2.m M2.k M2.b .nil bL) (aR bI (bC aL (pv 0) au 0xE) au) 0xE))
  (aA (bD (i:=3) yX.nd rfl (Or.inr rfl) (cX (aj (pv 2) aq)))
  (aA (gb PassesOwn.never rfl (Qy rfl me (aj (iU (u1 hr) (pZ G1 hr rfl M1.m M1.k M1.b .nil bL) (pv 2) 0xE) aq)) (fW rfl (aX (aQ (i:=4) yX.nd rfl 0x3) (aX (aQ (i:=5) yX.nd rfl 0x3) cZ)))
   (aA (bD (i:=6) yX.nd rfl 0x3 (bC aL (cX (aj (aR bI (bC aL (pv 0) (aR bN au (pv 4)) 0xE) au) (aj (aR bI (bC aL (pv 0) (aR bN au (pv 4)) 0xE) au)
     (aj au (aj au (aj au aq)))))) (aR bI (bC aL (pv 0) (aR bN au (pv 4)) 0xE) au) 0xE))
   (aD (bJ (aK jX (pv 5) aJ 0x16)
    (aD (dz (dH PySem.F.plainAttrs_list PySem.F.slot_list_append PySem.F.type_list_append cY (pv 3) (aj (aM (N6 rfl) rfl mx YX (aj (pv 6) (aj (cO xV rfl mt vm (aj (gF cA (pv 5) aJ (aW _)) aq)) aq))) aq))))
    (aD (bJ (PW.pt (ji (aK cA (pv 5) aJ (aW _)) (gD (aK cA (aR bI (bC aL (pv 0) (aR bN au (pv 4)) 0xE) au) au (aW _)))))
     (aD (dz (dH PySem.F.plainAttrs_list PySem.F.slot_list_append PySem.F.type_list_append cY (pv 3) (aj aJ aq))))
     (aD (dz (dH PySem.F.plainAttrs_list PySem.F.slot_list_append PySem.F.type_list_append cY (pv 3) (aj (bC aL (pv 1) (aR bI (bC aL (pv 0) (aR bN au (pv 4)) 0xE) (aM bF rfl ml PySem.boot_len 0x21)) 0xE) aq))))))))))
  (aA (bJ (PW.pt (ji (aK nA (pv 2) (gG (aj aJ (aj aJ aq))) 0x16) (gD (aK cA (bC aL (pv 3) au 0xE) (bC aL (pv 3) au 0xE) (aW _)))))
   (aD (m6 (bC aL (gJ rfl csY1 (iB (pv 1)) (fun s H fp C=>⟨aQ (i:=0) ndY1 rfl 0x3,UL (aK jE (pv 0) (bC (vh (K:=K)) (pv 1) au 0xE) (aW _)),pv 0⟩))
     (aR bI (bC aL (pv 0) au 0xE) (aR oX (aM bF rfl ml PySem.boot_len 0x21) au)) 0xE) (OJ (pv 3) au set_list))) bf)
  (aD (aU (cO iC rfl mu jZ (aj (pv 3) aq))))))),?_⟩
 obtain ⟨d0,e0,o0⟩:=dY hok (i:=0) 0x8 0x1;obtain ⟨d7,e7,o7⟩:=dY hok (i:=7) 0x8 0x1;obtain ⟨k,l,ek,hf⟩:=Rq (i:=d0 % 7) (Int.emod_nonneg _ 0x8) (Int.emod_lt_of_pos _ 0x8);obtain ⟨l2,l6⟩:=jq hf;refine ⟨rfl,fun p hp=>?_⟩;have s1:Same H (upd H p (.lst rZ)):=ao hp _;refine ⟨_,rfl,a,_,_,_,rfl,rfl,s1.seq hS,e0,_,_,rfl,rfl,(by show (0:Int)<7;decide),p,_,_,_,rfl,rfl,aZ.of ak,ek,?_⟩
 generalize upd H p (.lst rZ)=H1 at s1 ⊢;refine ⟨_,rfl,small 0x5,fun r hr1=>?_⟩;have hr0:H r=none:=s1.free hr1;have s2:Same H (upd H1 r (.lst [V.str k])):=aV s1 hr0;have r2:(upd H1 r (.lst [V.str k])) r=some (.lst [V.str k]):=ak;generalize upd H1 r (.lst [V.str k])=H2 at s2 r2 ⊢;refine ⟨rfl,fun q hq=>?_⟩;have s3:Same H2 (upd H2 q (.dK cD)):=ao hq _;have g3:mH (upd H2 q (.dK cD)) q (V.str k) (some (V.str (oH l))):=by
  have:=mH.k (k:=.inr k) (show (upd H2 q (.dK cD)) q=some (.dK cD) from ak)
  rw [pJ,hf] at this;exact this
 refine ⟨_,rfl,q,_,rfl,g3,oH l,rfl,?_⟩;have r3:=s3 _ _ r2;have t3:=s2.trans s3;generalize upd H2 q (.dK cD)=H3 at t3 r3 ⊢;refine lC (n:=l.length) (fx:=fun i=>V.int (i:Int)) (fy:=fun i=>V.str (dR [(l.getD i .d).code]))
  (fun i σ Hx=>∃ (rest:List V) (u4 u5 u6:Option V),σ=[some (.ref a),some (.ref b),some (.str k),some (.ref r),u4,u5,u6]/\Same H Hx/\Hx r=some (.lst (.str k::rest))/\rest.length=i/\(∀ v∈rest,Uo 20 v)/\tD l rest/\wu l rest) ?_
  ⟨[],none,none,none,rfl,t3,r3,rfl,(fun v hv=>nomatch hv),(fun i s v _ h=>by simp at h),fun i s v _ h=>by simp at h⟩ ?_ ?_
 ·rintro i σ Hx _;have st:=GX (z:=oH l) (H:=Hx) (i:=i);rw [jr,bV] at st;refine ⟨fun hi=>⟨(st.1 hi).1,fun v H' y=>?_⟩,st.2⟩;obtain ⟨t,e1,e2,e3⟩:=(st.1 hi).2 v H' y;refine ⟨t,e1,e2,?_⟩;have e4:=wk hi;rw [jr] at e4;rw [e3,e4]
 ·rintro i σ Hx t hi ⟨rest,u4,u5,u6,rfl,sx,rx,hl,hrk,hkp,hft⟩ ht;have h1:l[i]?=some l[i]:=dO hi;rw [at_getD h1];have s4:Same Hx (upd Hx t (.tup [V.int (i:Int),V.str (dR [(l[i]).code])])):=ao ht _;refine ⟨t,_,rfl,dG.of ak,rfl,_,_,rfl,_,_,rfl,rfl,?_⟩;have r4:=s4 _ _ rx;have t4:=sx.trans s4;generalize upd Hx t (.tup [V.int (i:Int),V.str (dR [(l[i]).code])])=H4 at t4 r4 ⊢;obtain ⟨v1,e1,o1⟩:=dY hok (i:=1+(i:Int)) 0x1 0x1;obtain ⟨v8,e8,o8⟩:=dY hok (i:=8+(i:Int)) 0x1 0x1;obtain ⟨n,en,n0,n1⟩:=num5 (x:=v1 % 10000) (Int.emod_nonneg _ 0x8) (by have:=Int.emod_lt_of_pos v1 (show (0:Int)<10000 by decide);lia) (j:=v8 % 5) (Int.emod_nonneg _ 0x8) (Int.emod_lt_of_pos _ 0x8)
  refine ⟨_,rfl,_,rfl,_,_,rfl,rfl,a,_,_,_,rfl,rfl,t4.seq hS,e1,_,_,rfl,rfl,(by show (0:Int)<10000;decide),?_⟩
  refine ⟨_,rfl,_,rfl,_,_,rfl,rfl,a,_,_,_,rfl,rfl,t4.seq hS,e1,_,_,rfl,rfl,(by show (0:Int)<10000;decide),small 0x5,fun c hc=>?_⟩
  have s5:Same H4 (upd H4 c (.lst [V.int (v1 % 10000),V.int (v1 % 10000),V.int 9999,V.int 1,V.int 0])):=ao hc _;refine ⟨_,rfl,_,rfl,_,_,rfl,rfl,a,_,_,_,rfl,rfl,(t4.trans s5).seq hS,e8,_,_,rfl,rfl,(by show (0:Int)<5;decide),c,_,_,_,rfl,rfl,aZ.of ak,en,?_⟩
  have r5:=s5 _ _ r4;have t5:=t4.trans s5;generalize upd H4 c (.lst [V.int (v1 % 10000),V.int (v1 % 10000),V.int 9999,V.int 1,V.int 0])=H5 at t5 r5 ⊢;have fin:∀ v,Uo 20 v->isI v=(l[i]).num->dB (l[i]) v=true->∃ (rest':List V) (u4 u5 u6:Option V),([some (V.ref a),some (V.ref b),some (V.str k),some (V.ref r),some (V.int (i:Int)),some (V.str (dR [(l[i]).code])),some (V.int n)]:List (Option V))=[some (.ref a),some (.ref b),some (.str k),some (.ref r),u4,u5,u6]/\Same H (upd H5 r (.lst (V.str k::rest++[v]))) /\
    (upd H5 r (.lst (V.str k::rest++[v]))) r=some (.lst (.str k::rest'))/\rest'.length=i+1/\(∀ v∈rest',Uo 20 v)/\tD l rest'/\wu l rest':=fun v hv hvi hvf =>
   ⟨rest++[v],_,_,_,rfl,aV t5 hr0,ak,by rw [jA,List.length_singleton,hl],fun u hu=>by
    rcases List.mem_append.mp hu with z | z
    ·exact hrk u z
    ·rw [List.mem_singleton.mp z];exact hv,NT hkp (by rw [hl];exact h1) hvi,Rp hft (by rw [hl];exact h1) hvf⟩
  have sz:(V.str k::rest).length<sizeLine:=by rw [jU];exact cQ 0x1
  refine 0x20;rw [HF];have S5:=t5.seq hS;have B5:=t5.seq hB;refine bG (fun c1=>?_) (fun c1=>?_)
  ·exact ⟨_,rfl,.inl ⟨rfl,_,aZ.of r5⟩,_,rfl,_,rfl,rfl,.inr ⟨_,rfl,_,_,rfl,r,_,_,rfl,rfl,r5,sz,fin _ (.inl ⟨_,rfl⟩) (by rw [c1];rfl) (Vw c1 (vW hf h1) n0 n1)⟩⟩
  ·have c1':(l[i]).num=false:=Bool.eq_false_iff.mpr c1;have nam:∃ z,lZ (zs.map V.str) (v1 % ((zs.map V.str).length:Int))=some (V.str z)/\nameB z.cps.toList=true:=by
    have hl7:2<=(zs.map V.str).length:=by rw [bV];exact h7
    obtain ⟨x,ex,mx'⟩:=fK (xs:=zs.map V.str) (i:=v1 % ((zs.map V.str).length:Int)) (Int.emod_nonneg _ 0x1) (Int.emod_lt_of_pos _ 0x1);obtain ⟨z,hz,rfl⟩:=List.mem_map.mp mx';exact ⟨z,ex,hnm z hz⟩
   obtain ⟨z,ez,hz⟩:=nam;refine 0xB;refine bG (fun c2=>?_) (fun c2=>?_)
   ·have hcf:dB (l[i]) (V.str "")=true:=by
     have hcc:l[i]=cP.c:=fO ((HJ _).symm.trans c2);rw [hcc];decide +kernel
    refine ⟨_,rfl,_,rfl,_,_,rfl,rfl,a,_,_,_,rfl,rfl,S5,e8,_,_,rfl,rfl,(by show (0:Int)<3;decide),rfl,_,rfl,?_⟩
    refine bG (fun c3=>?_) (fun c3=>?_)
    ·exact ⟨_,rfl,.inl ⟨rfl,_,aZ.of r5⟩,r,_,_,rfl,rfl,r5,sz,fin _ (.inr ⟨_,rfl,by decide +kernel,by decide +kernel⟩) (by rw [c1'];rfl) hcf⟩
    ·exact 0x27
   ·refine bZ ?_;exact 0x27
 ·rintro σ Hx ⟨rest,u4,u5,u6,rfl,sx,rx,hl,hrk,hkp,hft⟩;have done:∀ (rest':List V) (Hy:Hp),Same H Hy->Hy r=some (.lst (.str k::rest'))->rest'.length=l.length->(∀ v∈rest',Uo 20 v)->tD l rest'->wu l rest'->(two k=false\/rest'[1]?≠rest'[2]?)->∀ p,Hy p=none->Q (.ref p) (upd Hy p (.tup (.str k::rest'))):=fun rest' Hy sy ry hly hry hky hfy h2y p hp =>
   kk p k rest' _ (aV sy (sy.free hp)) ak 0x1 ⟨by lia,hry,fun l' hl'=>by rw [hf] at hl';cases hl';exact hky⟩ (Zz hf hly hfy h2y)
  refine ⟨_,rfl,small 0x5,fun t ht=>?_⟩;have st:Same Hx (upd Hx t (.tup [V.str "heir",V.str "liege"])):=ao ht _;refine ⟨t,_,rfl,.inr (dG.of ak),rfl,rfl,_,rfl,?_⟩
  show if inV (V.str k) [V.str "heir",V.str "liege"]=true then _ else _
  rw [Rh];have ry:=st _ _ rx;have sy:=sx.trans st;generalize upd Hx t (.tup [V.str "heir",V.str "liege"])=Hy at ry sy ⊢;refine bG (fun h2=>?_) (fun h2=>?_)
  ·obtain ⟨l3,n1,n2⟩:=vX hf h2;have i1:(1:Nat)<rest.length:=by lia
   have i2:(2:Nat)<rest.length:=by lia
   have q1:rest[1]?=some rest[1]:=dO i1;have q2:rest[2]?=some rest[2]:=dO i2;have w1:l[1]?=some l[1]:=dO 0x1;have w2:l[2]?=some l[2]:=dO 0x1;have v1:isI rest[1]=false:=(hkp 1 _ _ w1 q1).trans (n1 _ w1);have v2:isI rest[2]=false:=(hkp 2 _ _ w2 q2).trans (n2 _ w2);have o1:=hrk _ (List.getElem_mem i1);have o2:=hrk _ (List.getElem_mem i2);refine ⟨_,rfl,r,_,_,_,rfl,rfl,aZ.of ry,pI q1 2 rfl,_,rfl,r,_,_,_,rfl,rfl,aZ.of ry,pI q2 3 rfl,?_⟩;generalize rest[1]=x1 at *
   generalize rest[2]=x2 at *
   rcases o1 with ⟨n,rfl⟩ | ⟨z1,rfl,_⟩
   ·cases v1
   rcases o2 with ⟨n,rfl⟩ | ⟨z2,rfl,_⟩
   ·cases v2
   refine ⟨rfl,_,rfl,?_⟩;refine bG (fun c1=>?_) (fun c1=>?_)
   ·refine ⟨_,rfl,b,rfl,⟨_,sy.seq hB⟩,fun D hD=>?_⟩;have ney:r≠D:=aN ry hD;refine gW (K:=K) (a:=b) (xs:=zs.map V.str) (fun i ys Hz=>ys=((zs.take i).filter fun z=>!decide (z=z1)).map V.str/\Same Hy Hz/\Hz D=some (.lst ys)) (fun i ys Hz h=>(sy.trans h.2.1).seq hB)
     ⟨by simp,ao hD _,ak⟩ (fun i ys Hz h=>h.2.2) ?_ ?_
    ·rintro i ys Hz x hx ⟨rfl,sz,hDz⟩;rw [jT] at hx;obtain ⟨z,hz,rfl⟩:=Option.map_eq_some_iff.mp hx;refine 0x2E;refine ⟨_,rfl,_,rfl,r,_,_,_,rfl,rfl,aZ.of (sz _ _ ry),pI q1 2 rfl,rfl,_,rfl,?_⟩;have et:(zs.take (i+1)).filter (fun z=>!decide (z=z1))=(zs.take i).filter (fun z=>!decide (z=z1))++(if (!decide (z=z1))=true then [z] else []):=by
      rw [List.take_add_one,hz,List.filter_append]
      congr 1
      by_cases e:z=z1 <;> simp [e]
     rw [pX];refine bG 0x28 0x28
     ·refine ⟨_,rfl,hDz,?_,?_,aV sz hD,ak⟩
      ·rw [bV];have:=List.length_filter_le (fun z=>!decide (z=z1)) (zs.take i);rw [List.length_take] at this;exact cQ 0x1
      ·rw [et,if_pos c,jB];rfl
     ·refine ⟨?_,sz,hDz⟩;rw [et,if_neg c,List.append_nil]
    ·rintro ys Hz ⟨rfl,sz,hDz⟩;rw [bV,List.take_length] at hDz;have S7:=(sy.trans sz).seq hS;have B7:=(sy.trans sz).seq hB;have hfl:=wA z1 zs hnd;have ZD:(0:Int)<((zs.map V.str).length:Int) - 1:=by rw [bV];lia
     refine ⟨_,rfl,a,_,_,_,rfl,rfl,S7,e7,_,rfl,b,_,rfl,.inl B7,_,_,rfl,rfl,_,_,rfl,rfl,ZD,?_⟩;have m0:=Int.emod_nonneg d7 (Int.ne_of_gt ZD);have m1:=Int.emod_lt_of_pos d7 ZD;obtain ⟨x,ex,mx'⟩:=fK (xs:=((zs.filter fun z=>!decide (z=z1)).map V.str)) (i:=d7 % (((zs.map V.str).length:Int) - 1)) m0 (by
      have e1:(zs.map V.str).length=zs.length:=bV ..;generalize d7 % (((zs.map V.str).length:Int) - 1)=dd at m0 m1 ⊢;have e2:((zs.filter fun z=>!decide (z=z1)).map V.str).length=(zs.filter fun z=>!decide (z=z1)).length:=bV ..;rw [e2];rw [e1] at m1;lia)
     obtain ⟨z,hz,rfl⟩:=List.mem_map.mp mx';refine ⟨D,_,_,_,rfl,rfl,aZ.of hDz,ex,?_⟩;have HN:=hnm z (List.mem_filter.mp hz).1;refine ⟨_,rfl,r,_,_,3,rfl,rfl,sz _ _ ry,(by unfold Gw;rw [if_pos 0x8,if_pos (by rw [jU];lia)];rfl),?_⟩;have tz:=sy.trans sz;have ex3:(V.str k::rest).set 3 (V.str z)=V.str k::rest.set 2 (V.str z):=rfl;rw [ex3];refine ⟨_,rfl,r,_,rfl,.inl ⟨aZ.of ak,fun p hp=>?_⟩⟩;refine done (rest.set 2 (V.str z)) _ (aV tz hr0) ak (by rw [List.length_set];exact hl) (fun v hv=>?_) (Rt hkp q2 rfl) (Vu hft fun s hs=>wz HN (n2 s hs)) (.inr (by
      rw [List.getElem?_set_ne 0x8,q1,List.getElem?_set_self 0x1];intro e;have e':=Option.some.inj e;injection e' with e';have hne:=(List.mem_filter.mp hz).2;rw [<- e',decide_eq_true rfl] at hne;cases hne)) p hp
     rcases List.mem_or_eq_of_mem_set hv with h | h
     ·exact hrk v h
     ·rw [h];exact Bb HN
   ·refine ⟨_,rfl,r,_,rfl,.inl ⟨aZ.of ry,fun p hp=>?_⟩⟩;refine done rest Hy sy ry hl hrk hkp hft (.inr ?_) p hp;rw [q1,q2];intro e;exact c1 (decide_eq_true (Option.some.inj e))
  ·refine bZ ?_;refine ⟨_,rfl,r,_,rfl,.inl ⟨aZ.of ry,fun p hp=>?_⟩⟩;exact done rest Hy sy ry hl hrk hkp hft (.inl (Bool.eq_false_iff.mpr h2)) p hp
def wordOf:V->Str
 | .int n=>Str.ofString (toString n)
 | .str z=>if z="" then "-" else z
 | _=>""
def dig (c:Nat):Bool:=decide (48<=c)&&decide (c<=57)
def Vx (n:Nat):Bool :=
 let l:=(Str.ofString (toString (n:Int))).cps.toList
 l.all dig&&(decide (1<=l.length)&&(decide (l.length<=6)&&(decide (l.length=1)||!(l.headD 0==48))))
abbrev wB (i:Nat):Prop:=∀ a:_root_.Fin 10,∀ b:_root_.Fin 100,Vx (1000 * i+100 * a.val+b.val)=true
theorem ZF:wB 0:=by decide +kernel
theorem ZG:wB 1:=by decide +kernel
theorem ZJ:wB 2:=by decide +kernel
theorem ZK:wB 3:=by decide +kernel
theorem ZL:wB 4:=by decide +kernel
theorem ZM:wB 5:=by decide +kernel
theorem ZP:wB 6:=by decide +kernel
theorem ZQ:wB 7:=by decide +kernel
theorem ZR:wB 8:=by decide +kernel
theorem ZS:wB 9:=by decide +kernel
theorem ZV:∀ i,i<10->wB i
 | 0,_=>ZF
 | 1,_=>ZG
 | 2,_=>ZJ
 | 3,_=>ZK
 | 4,_=>ZL
 | 5,_=>ZM
 | 6,_=>ZP
 | 7,_=>ZQ
 | 8,_=>ZR
 | 9,_=>ZS
 | _+10,h=>absurd h 0x1
theorem NZ (a b:_root_.Fin 100):Vx (100 * a.val+b.val)=true:=by
 have:=ZV (a.val / 10) 0x1 ⟨a.val % 10,by lia⟩ b;simp only at this;rw [show 1000 * (a.val / 10)+100 * (a.val % 10)+b.val=100 * a.val+b.val by lia] at this
 exact this
theorem Ru {n:Int} (h0:0<=n) (h1:n<=9999):Vx n.toNat=true:=by
 have:=NZ ⟨n.toNat / 100,by lia⟩ ⟨n.toNat % 100,by lia⟩;simp only at this;rw [show 100 * (n.toNat / 100)+n.toNat % 100=n.toNat by lia] at this
 exact this
structure NumW (n:Int) (z:Str):Prop where
 dg:z.cps.toList.all dig=true
 l1:1<=z.cps.toList.length
 l6:z.cps.toList.length<=6
 hd:∀ c,z.cps.toList[0]?=some c->c=48->z.cps.toList.length=1
 rd:PySem.intText? z=some n
theorem a2e {n:Int} (h0:0<=n) (h1:n<=9999):NumW n (Str.ofString (toString n)):=by
 have f:=Ru h0 h1;unfold Vx at f;rw [show ((n.toNat:Nat):Int)=n by lia] at f
 simp only [Bool.and_eq_true,decide_eq_true_eq] at f;obtain ⟨f1,f2,f3,f4⟩:=f;refine ⟨f1,f2,f3,fun c hc e=>?_,PySem.W.KIN.num_reads h0 0x1⟩;subst e;rw [Bool.or_eq_true] at f4;rcases f4 with f4 | f4
 ·exact fO f4
 ·exfalso
  cases hl:(Str.ofString (toString n)).cps.toList with
  | nil=>rw [hl] at hc;cases hc
  | cons x r =>
   rw [hl] at hc f4;have:x=48:=by simpa using hc
   subst this;simp at f4
def okW (v:V):Prop:=(∃ n,v=.int n/\0<=n/\n<=9999)\/∃ z:Str,v=.str z/\(z=""\/(z.length<=20/\∀ c∈z.cps.toList,low c=true))
theorem jt (z:Str):z.length=z.cps.toList.length:=by simp [Str.length]
theorem Eh (h:nameB z.cps.toList=true):okW (.str z):=by
 unfold nameB at h;rw [Bool.and_eq_true,Bool.and_eq_true] at h;obtain ⟨h1,h2,h3⟩:=h;have h3':=fO h3;exact .inr ⟨z,rfl,.inr ⟨by rw [jt];lia,fun c hc=>List.all_eq_true.mp h1 c hc⟩⟩
theorem Bc {s:cP} (h:dB s v=true) (hr:s.row=true):okW v:=by
 cases s <;> cases v <;> first | cases h | cases hr | skip
 ·unfold dB at h;rw [Bool.and_eq_true] at h;exact .inl ⟨_,rfl,fO h.1,fO h.2⟩
 ·exact Eh h
 ·unfold dB at h;rw [Bool.or_eq_true] at h;rcases h with h | h
  ·exact .inr ⟨_,rfl,.inl (fO h)⟩
  ·exact Eh h
 ·unfold dB at h;rw [Bool.and_eq_true] at h;have:=fO h.1;exact .inl ⟨_,rfl,by lia,fO h.2⟩
 ·unfold dB at h;rw [Bool.and_eq_true] at h;exact .inl ⟨_,rfl,fO h.1,fO h.2⟩
def blank:Str:=" "
theorem ux:blank=⟨#[32]⟩:=by decide +kernel
theorem Kr {s:cP} (h:dB s v=true):isI v=s.num:=by
 cases s <;> cases v <;> first | rfl | cases h
theorem ZW {s:cP} (h:dB s v=true):Uo 1000 v:=by
 by_cases hr:s.row=true
 ·rcases Bc h hr with ⟨n,rfl,_⟩ | ⟨z,rfl,e | ⟨hl,hc⟩⟩
  ·exact .inl ⟨n,rfl⟩
  ·subst e;exact .inr ⟨_,rfl,by decide +kernel,by decide +kernel⟩
  ·refine .inr ⟨z,rfl,by lia,fun c h=>?_⟩;have:=hc c h;unfold low at this;rw [Bool.and_eq_true] at this;have:=fO this.2;lia
 ·cases s <;> first | exact absurd rfl hr | (cases v <;> first | exact .inl ⟨_,rfl⟩ | cases h)
def HS (z:Str):Bool:=z.cps.toList.all dig&&(decide (1<=z.cps.toList.length)&&(decide (z.cps.toList.length<=6)&&(decide (z.cps.toList.length=1)||!(z.cps.toList.headD 0==48))))
def valN (z:Str):Int:=((PySem.NumText.digitsVal z.cps.toList:Nat):Int)
def jO (z:Str):V:=if HS z=true then .int (valN z) else .non
theorem qK (h:z.cps.toList.all dig=true) (h1:1<=z.cps.toList.length) (h6:z.cps.toList.length<=6):PySem.intText? z=some (valN z):=by
 refine PySem.intText_digits (fun c hc=>?_) (fun e=>?_) ?_
 ·have:=List.all_eq_true.mp h c hc;unfold dig at this;rw [Bool.and_eq_true] at this;exact ⟨fO this.1,fO this.2⟩
 ·rw [e] at h1;exact absurd h1 0x8
 ·rw [jt];lia
theorem Ks (h:z.cps.toList.all dig=false):jO z=.non:=by
 unfold jO HS;rw [h];rfl
theorem Ku (h:¬ 1<=z.cps.toList.length):jO z=.non:=by
 unfold jO HS;rw [decide_eq_false h,Bool.false_and,Bool.and_false];rfl
theorem Kv (h:¬ z.cps.toList.length<=6):jO z=.non:=by
 unfold jO HS;rw [decide_eq_false h,Bool.false_and,Bool.and_false,Bool.and_false];rfl
theorem Kw (h:z.cps.toList[0]?=some 48) (hl:¬ z.cps.toList.length=1):jO z=.non:=by
 unfold jO HS;have e:z.cps.toList.headD 0=48:=by
  cases q:z.cps.toList with
  | nil=>rw [q] at h;cases h
  | cons x r=>rw [q] at h;simpa using h
 rw [decide_eq_false hl,e];simp
theorem uy (h:z.cps.toList.all dig=true) (h1:1<=z.cps.toList.length) (h6:z.cps.toList.length<=6) (hd:z.cps.toList.length=1\/z.cps.toList[0]?≠some 48):jO z=.int (valN z):=by
 unfold jO HS;rw [h,decide_eq_true h1,decide_eq_true h6,Bool.true_and,Bool.true_and,Bool.true_and];rw [if_pos];rcases hd with hd | hd
 ·rw [decide_eq_true hd];rfl
 ·cases q:z.cps.toList with
  | nil=>rw [q] at h1;exact absurd h1 0x8
  | cons x r =>
   rw [q] at hd;have:x≠48:=fun e=>hd (by rw [e];rfl);simp [this]
def Oj (z:Str):V:=if z="-" then .str "" else if nameB z.cps.toList=true then .str z else .non
def jC (s:cP) (z:Str):V:=if s.num=true then jO z else Oj z
def lX (s:cP) (z:Str):V:=if dB s (jC s z)=true then jC s z else .non
theorem qL (z:Str):jO z=.non\/jO z=.int (valN z):=by
 unfold jO
 by_cases h:HS z=true
 ·rw [if_pos h];exact .inr rfl
 ·rw [if_neg h];exact .inl rfl
theorem Bd (z:Str):Oj z=.non\/Oj z=.str ""\/(Oj z=.str z/\nameB z.cps.toList=true):=by
 unfold Oj
 by_cases h:z="-"
 ·rw [if_pos h];exact .inr (.inl rfl)
 ·rw [if_neg h]
  by_cases h2:nameB z.cps.toList=true
  ·rw [if_pos h2];exact .inr (.inr ⟨rfl,h2⟩)
  ·rw [if_neg h2];exact .inl rfl
theorem uz (s:cP):dB s .non=false:=by cases s <;> rfl
inductive Ky (vs:List V) (H:Hp) (Q:VK):Prop
 | mk (z:Str) (_:vs=[.str z]) (_:z.length<=1000) (_:Q (jO z) H):Ky vs H Q
def XD:Sp:=fun vs H Q _=>Ky vs H Q
theorem XF:bB ["word", "sign"] ["word"] (aC NK):=0x0
theorem ZX (F:iR K "number_of" "number_of" NK f fd) (ml:mg "len"=none) (mi:mg "int"=none) {tm:Tok} (mm:mg "MOST_FIGURES"=some (.int 6 tm)):bw P w K mg base dF 1 f fd ["word"] XD:=by
 refine F.ok XF 0xA 0x2
 ·obtain ⟨z,rfl,_⟩:=h;rfl
 obtain ⟨z,rfl,hz,k⟩:=h;refine ⟨_,aA (gb PassesOwn.never rfl (Ac (pv 0)) (aQ (i:=1) XF.nd rfl 0x3)
   (aD (bJ (dZ (aK xU (pv 1) aJ (aW _)) (eO (aK yx (pv 1) aJ (aW _)))).pt (aD (aU fV)) bf)))
  (aA (bJ (PW.pt (dZ (aK xT 0x2F au (aW _)) (eO (aK uV 0x2F (dj rfl mm ⟨_,rfl⟩ (v:=.int 6)) (aW _))))) (aD (aU fV)) bf)
  (aA (bJ (PW.pt (ji (aK cA (bC v7 (pv 0) au 0xE) aJ (aW _)) (gD (aK uV 0x2F au (aW _))))) (aD (aU fV)) bf)
  (aD (aU (cO oO rfl mi vm (aj (pv 0) aq)))))),?_⟩
 have hl:=jt z;have zs:z.length<=sizeLine:=small 0x1;refine ⟨_,rfl,z,rfl,JC (x:=z) (fun i σ H2=>(∃ v,σ=[some (.str z),v])/\H2=H/\(z.cps.toList.take i).all dig=true) ⟨⟨none,rfl⟩,rfl,by simp⟩ ?_ ?_⟩
 ·rintro i c σ H2 hc ⟨⟨v,rfl⟩,rfl,ha⟩;have no:dig c=false->jO z=.non:=fun h=>Ks (by
   cases q:z.cps.toList.all dig with
   | false=>rfl
   | true=>rw [List.all_eq_true.mp q c (lU hc)] at h;cases h)
  have e1:decide ((dR [c]).cps.toList<(("0" : Str)).cps.toList)=decide (c<48):=Xv c 48;have e2:decide ((("9" : Str)).cps.toList<(dR [c]).cps.toList)=decide (57<c):=Xw c 57;refine 0x20;rw [e1];refine bG (fun h=>?_) (fun h=>?_)
  ·have h1:=fO h;refine bU ?_;have:dig c=false:=by simp [dig];lia
   rw [no this] at k;exact k
  ·have h1:=of_decide_eq_false (Bool.eq_false_iff.mpr h);refine 0x20;rw [e2];refine bG (fun h=>?_) (fun h=>?_)
   ·have h1:=fO h;have:dig c=false:=by simp [dig];lia
    rw [no this] at k;exact k
   ·have h2:=of_decide_eq_false (Bool.eq_false_iff.mpr h);refine ⟨⟨_,rfl⟩,rfl,?_⟩;rw [List.take_add_one,hc,List.all_append,ha];simp [dig];lia
 ·rintro σ H2 ⟨⟨v,rfl⟩,rfl,ha⟩;rw [List.take_length] at ha;refine ⟨_,rfl,z,rfl,zs,_,_,rfl,rfl,_,rfl,?_⟩;refine bG (fun h=>?_) (fun h=>?_)
  ·have h1:=fO h;rw [Ku 0x1] at k;exact bU k
  have h1:=of_decide_eq_false (Bool.eq_false_iff.mpr h);refine ⟨_,rfl,z,rfl,zs,_,_,rfl,rfl,_,rfl,?_⟩;refine bG (fun h=>?_) (fun h=>?_)
  ·have h2:=fO h;rw [Kv 0x1] at k;exact k
  have h2:=of_decide_eq_false (Bool.eq_false_iff.mpr h);have l1:1<=z.cps.toList.length:=by lia
  have l6:z.cps.toList.length<=6:=by lia
  obtain ⟨c,hc⟩:∃ c,z.cps.toList[0]?=some c:=⟨_,dO 0x1⟩;refine ⟨_,rfl,z,0,c,rfl,rfl,zs,fH (j:=0) hc,rfl,_,rfl,?_⟩;refine bG (fun h=>?_) (fun h=>?_)
  ·have a0a:c=48:=by
    have h':=fO h;injection h' with h';have h2:=congrArg (fun y:Str=>y.cps.toList) h';have e0:(("0" : Str)).cps.toList=[48]:=by decide +kernel
    rw [e0] at h2
    simpa using h2
   refine ⟨_,rfl,z,rfl,zs,_,_,rfl,rfl,_,rfl,?_⟩;refine bG (fun h=>?_) (fun h=>?_)
   ·have h3:=fO h;rw [Kw (by rw [hc,a0a]) 0x1] at k;exact k
   ·have h3:=of_decide_eq_false (Bool.eq_false_iff.mpr h);rw [uy ha l1 l6 (.inl 0x1)] at k;exact ⟨_,rfl,z,valN z,rfl,qK ha l1 l6,by lia,k⟩
  ·refine bZ ?_;have ne:z.cps.toList[0]?≠some 48:=fun e=>h (by
    rw [hc] at e;injection e with e;subst e
    decide +kernel)
   rw [uy ha l1 l6 (.inr ne)] at k;exact ⟨_,rfl,z,valN z,rfl,qK ha l1 l6,by lia,k⟩
inductive Rv (vs:List V) (H:Hp) (Q:VK):Prop
 | mk (z:Str) (_:vs=[.str z]) (_:z.length<=1000) (_:Q (Oj z) H):Rv vs H Q
def spNm:Sp:=fun vs H Q _=>Rv vs H Q
theorem scNm:bB ["word"] ["word"] (aC sNm):=0x0
theorem a2f (F:iR K "name_of" "name_of" sNm f fd) {t1 t2:Tok} (m1:mg "CROWN_SIGN"=some (.str "-" t1)) (m2:mg "CROWN"=some (.str "" t2))  (G1:bw P w K mg base dF 1 g1 d1 ["text"] Hv) (M1:Ms K mg "is_name" g1 d1 ["text"]):bw P w K mg base dF 2 f fd ["word"] spNm:=by
 refine F.ok scNm 0xA 0x2
 ·obtain ⟨z,rfl,_⟩:=h;rfl
 obtain ⟨z,rfl,hz,k⟩:=h;refine ⟨_,aA (bJ (aK cA (pv 0) (dj rfl m1 ⟨_,rfl⟩ (v:=.str "-")) (aW _)) (aD (aU (dj rfl m2 ⟨_,rfl⟩ (v:=.str "")))) bf)
  (aD (aU (pU (dW (bA G1 hr rfl M1.m M1.k M1.b .nil bL (aj (pv 0) aq))) (pv 0) fV))),?_⟩
 unfold Oj at k;refine 0xB;refine bG (fun h=>?_) (fun h=>?_)
 ·have e:z="-":=by
   have:=fO h;injection this
  rw [if_pos e] at k;exact k
 ·have e:¬ z="-":=fun e=>h (by rw [e];rfl);rw [if_neg e] at k;refine ⟨_,rfl,z,rfl,hz,_,rfl,?_⟩;refine bG (fun h=>?_) (fun h=>?_)
  ·rw [if_pos h] at k;exact ⟨_,rfl,k⟩
  ·rw [if_neg h] at k;exact k
theorem Kz {s:cP} (h:jC s z≠.non):isI (jC s z)=s.num:=by
 unfold jC at h ⊢
 by_cases hs:s.num=true
 ·rw [if_pos hs] at h ⊢;rcases qL z with e | e
  ·exact absurd e h
  ·rw [e,hs];rfl
 ·rw [if_neg hs] at h ⊢;rw [Bool.eq_false_iff.mpr hs];rcases Bd z with e | e | ⟨e,_⟩
  ·exact absurd e h
  ·rw [e];rfl
  ·rw [e];rfl
theorem Rx {s:cP} (hz:z.length<=1000) (h:jC s z≠.non):Uo 1000 (jC s z):=by
 unfold jC at h ⊢
 by_cases hs:s.num=true
 ·rw [if_pos hs] at h ⊢;rcases qL z with e | e
  ·exact absurd e h
  ·rw [e];exact .inl ⟨_,rfl⟩
 ·rw [if_neg hs] at h ⊢;rcases Bd z with e | e | ⟨e,hn⟩
  ·exact absurd e h
  ·rw [e];exact .inr ⟨"",rfl,by decide +kernel,by decide +kernel⟩
  ·rw [e];unfold nameB at hn;rw [Bool.and_eq_true] at hn;refine .inr ⟨z,rfl,hz,fun c hc=>?_⟩;have:=List.all_eq_true.mp hn.1 c hc;unfold low at this;rw [Bool.and_eq_true] at this;have:=fO this.2;lia
inductive Ry (vs:List V) (H:Hp) (Q:VK):Prop
 | mk (s:M.cP) (z:Str) (_:vs=[.str s.word,.str z]) (_:z.length<=1000) (_:Q (lX s z) H):Ry vs H Q
def a0b:Sp:=fun vs H Q _=>Ry vs H Q
theorem scPc:bB ["sort", "word", "piece"] ["sort", "word"] (aC sPc):=0x0
theorem a2g (F:iR K "piece_of" "piece_of" sPc f fd) (mo:Rb K w.params mg)  (G1:bw P w K mg base dF 1 g1 d1 ["word"] XD) (M1:Ms K mg "number_of" g1 d1 ["word"])
  (G2:bw P w K mg base dF 2 g2 d2 ["word"] spNm) (M2:Ms K mg "name_of" g2 d2 ["word"]) (G3:bw P w K mg base dF 2 g3 d3 ["sort", "piece"] vY) (M3:Ms K mg "fits" g3 d3 ["sort", "piece"]):bw P w K mg base dF 3 f fd ["sort", "word"] a0b:=by
 obtain ⟨aB,b1,b2,b3,b4,b5,b6,b7,mB,kB,t1,t2,t3,t4,t7⟩:=mo.bounds;refine F.ok scPc 0xA 0x2
 ·obtain ⟨s,z,rfl,_⟩:=h;rfl
 obtain ⟨s,z,rfl,hz,k⟩:=h;refine ⟨_,aA (bD (i:=2) scPc.nd rfl 0x3 (pU (aK JX (pv 0) (dj rfl mB rfl (v:=.ref aB)) 0x16)
   (bA G1 (hr.mono 0x8) rfl M1.m M1.k M1.b .nil bL 0x21) (bA G2 hr rfl M2.m M2.k M2.b .nil bL 0x21)))
  (aA (bJ (PW.pt (dZ (kW (jL (pv 2))) (eO (fu (dW (bA G3 hr rfl M3.m M3.k M3.b .nil bL (aj (pv 0) (aj (pv 2) aq)))))))) (aD (aU fV)) bf)
  (aD (aU (pv 2)))),?_⟩
 have nB:(([("day",V.ref b1),("acres",V.ref b2),("service",V.ref b3),("bears",V.ref b4),("edge",V.ref b5),("number",V.ref b6),("entry",V.ref b7)]:List (Str×V)).lookup s.word).isSome=s.num:=by cases s <;> rfl
 refine ⟨_,rfl,_,aB,_,rfl,rfl,kB,_,rfl,?_⟩;rw [nB];cases hs:s.num with
 | true =>
  have er:jO z=jC s z:=by unfold jC;rw [if_pos hs]
  refine bU ⟨_,rfl,z,rfl,hz,?_⟩;rw [er];refine ⟨_,rfl,_,rfl,?_⟩
  by_cases hn:jC s z=.non
  ·refine bG (fun _=>?_) (fun h=>absurd (decide_eq_true hn) h);refine bU ?_;unfold lX at k;rw [hn,uz,if_neg Bool.false_ne_true] at k;exact k
  ·refine bG (fun h=>absurd (fO h) hn) (fun _=>?_);refine ⟨_,rfl,_,rfl,s,_,rfl,Kz hn,Rx hz hn,_,rfl,?_⟩;unfold lX at k;cases hf:dB s (jC s z) with
   | true =>
    rw [hf,if_pos rfl] at k;exact bZ ⟨_,rfl,k⟩
   | false =>
    rw [hf,if_neg Bool.false_ne_true] at k;exact bU k
 | false =>
  have er:Oj z=jC s z:=by unfold jC;rw [if_neg (by rw [hs];exact Bool.false_ne_true)]
  refine bZ ⟨_,rfl,z,rfl,hz,?_⟩;rw [er];refine ⟨_,rfl,_,rfl,?_⟩
  by_cases hn:jC s z=.non
  ·refine bG (fun _=>?_) (fun h=>absurd (decide_eq_true hn) h);refine bU ?_;unfold lX at k;rw [hn,uz,if_neg Bool.false_ne_true] at k;exact k
  ·refine bG (fun h=>absurd (fO h) hn) (fun _=>?_);refine ⟨_,rfl,_,rfl,s,_,rfl,Kz hn,Rx hz hn,_,rfl,?_⟩;unfold lX at k;cases hf:dB s (jC s z) with
   | true =>
    rw [hf,if_pos rfl] at k;exact bZ ⟨_,rfl,k⟩
   | false =>
    rw [hf,if_neg Bool.false_ne_true] at k;exact bU k
def ju (l:List cP) (ws:List Str):List V:=(l.zip ws).map fun p=>lX p.1 p.2
def gP (l:List cP) (ws:List Str):Option (List V):=if ws.length=l.length then (if inV .non (ju l ws)=true then none else some (ju l ws)) else none
theorem uD {l:List cP} (h:ws.length=l.length):(ju l ws).length=l.length:=by
 unfold ju;rw [bV,List.length_zip,h,Nat.min_self]
theorem Vy (s:cP) (z:Str):lX s z=.non\/(∃ n,lX s z=.int n)\/∃ y,lX s z=.str y:=by
 unfold lX
 by_cases h:dB s (jC s z)=true
 ·rw [if_pos h];unfold jC
  by_cases hs:s.num=true
  ·rw [if_pos hs];rcases qL z with e | e
   ·exact .inl e
   ·exact .inr (.inl ⟨_,e⟩)
  ·rw [if_neg hs];rcases Bd z with e | e | ⟨e,_⟩
   ·exact .inl e
   ·exact .inr (.inr ⟨_,e⟩)
   ·exact .inr (.inr ⟨_,e⟩)
 ·rw [if_neg h];exact .inl rfl
theorem Rz (l:List cP) (ws:List Str):(ju l ws).all oM=true:=by
 refine List.all_eq_true.mpr fun v hv=>?_;obtain ⟨p,_,rfl⟩:=List.mem_map.mp hv;rcases Vy p.1 p.2 with e | ⟨n,e⟩ | ⟨y,e⟩ <;> rw [e] <;> rfl
inductive KC (K:PySem.W.Frag) (vs:List V) (H:Hp) (Q:VK):Prop
 | mk (b q:Addr) (l:List M.cP) (ws:List Str) (_:vs=[.ref b,.ref q]) (_:xJ K b (l.map fun s=>.str s.word)) (_:aZ K H q (ws.map V.str)) (_:l.length<=6) (_:(∀ t∈ws,t.length<=1000)) (_:(gP l ws=none->∀ H',Same H H'->Q .non H')) (_:∀ ps,gP l ws=some ps->∀ p H',Same H H'->H' p=some (.lst ps)->H p=none->Q (.ref p) H'):KC K vs H Q
def RB (K:PySem.W.Frag):Sp:=fun vs H Q _=>KC K vs H Q
theorem XH:bB ["form", "words", "pieces"] ["form", "words"] (aC Hq):=0x0
def scP1:Scope:={ kind:=.function,names:=[(".0",.local),("sort",.local),("word",.local),("piece_of",.globalImplicit)],isGenerator:=false,isCoroutine:=false }
theorem csP1:fP ["form", "words", "pieces"] (aC Hq) scP1 ["sort", "word"] [] []:=0x6
theorem ndP1:((["sort", "word"]:List Str)++([]:List Str)).Nodup:=by decide +kernel
theorem a0c (F:iR K "pieces_of" "pieces_of" Hq f fd) (ml:mg "len"=none) (mz:mg "zip"=none)  (G1:bw P w K mg base dF 3 g1 d1 ["sort", "word"] a0b) (M1:Ms K mg "piece_of" g1 d1 ["sort", "word"]):bw P w K mg base dF 4 f fd ["form", "words"] (RB K):=by
 refine F.ok XH 0xA 0x2
 ·obtain ⟨b,q,l,ws,rfl,_⟩:=h;rfl
 obtain ⟨b,q,l,ws,rfl,hb,hq,h6,hw,k0,k1⟩:=h;refine ⟨_,aA (bJ (aK jE (aM (jd (K:=K)) rfl ml PySem.boot_len 0x21) (aM (jd (K:=K)) rfl ml PySem.boot_len (aj (pv 0) aq)) (aW _)) (aD (aU fV)) bf)
  (aA (uc (i:=2) rfl csP1 (QW rfl mz (aj (pv 0) 0x21))
    (fun s H fp C=>⟨qu (K:=K) (n:=2) rfl (aX (aQ (i:=0) ndP1 rfl 0x3) (aX (aQ (i:=1) ndP1 rfl 0x3) cZ)),fJ,bA G1 hr rfl M1.m M1.k M1.b .nil bL (aj (pv 0) 0x21)⟩) XH.nd rfl 0x3)
  (aD (aU (pU (aK (GP (K:=K)) fV (pv 2) 0x16) fV (pv 2))))),?_⟩
 refine ⟨_,rfl,q,_,rfl,.inl hq,_,rfl,b,_,rfl,.inr (hb.sq _),rfl,_,rfl,?_⟩
 by_cases hl:ws.length=l.length
 case neg =>
  have e0:gP l ws=none:=by unfold gP;rw [if_neg hl]
  refine bG (fun _=>k0 e0 H (Same.refl _)) (fun h=>absurd ?_ h);rw [decide_eq_false]
  ·rfl
  ·intro e;rw [bV,bV] at e;injection e with e;exact hl 0x1
 refine yj (by rw [bV,bV,hl]) ?_;refine ⟨_,rfl,_,rfl,b,q,rfl,⟨_,hb.sq _⟩,⟨_,hq⟩,fun D hD=>?_⟩;refine qt (n:=l.length) (fx:=fun i=>V.str (l.getD i .d).word) (fy:=fun i=>V.str (ws.getD i "")) (fun i zs H2=>zs=(ju l ws).take i/\Same H H2/\H2 D=some (.lst zs)) (fun i zs H2 ⟨_,s2,_⟩=>?_) ⟨rfl,ao hD _,ak⟩ (fun i zs H2 h=>h.2.2) ?_ ?_
 ·have st:=Dt (i:=i) (hb.sq H2) (s2.seq hq) (by rw [bV,bV,hl]);rw [bV] at st;refine ⟨fun hi=>⟨(st.1 hi).1,fun v H' y=>?_⟩,st.2⟩;obtain ⟨q',e1,e2,e3⟩:=(st.1 hi).2 v H' y;refine ⟨q',e1,e2,?_⟩;rw [e3];have e4:(l.map fun s=>V.str s.word).getD i .non=V.str (l.getD i .d).word:=by
   rw [iI,iI,jT,dO hi];rfl
  have e5:(ws.map V.str).getD i .non=V.str (ws.getD i ""):=by
   rw [iI,iI,jT,dO 0x1];rfl
  rw [e4,e5]
 ·rintro i zs H2 r hir ⟨rfl,s2,hD2⟩ hr2;have nrD:D≠r:=aN hD2 hr2;have h1:l[i]?=some l[i]:=dO hir;have h2:ws[i]?=some (ws[i]' 0x1):=dO 0x1;rw [at_getD h1,at_getD h2];have s3:Same H (upd H2 r (.tup [V.str (l[i]).word,V.str (ws[i]' 0x1)])):=aV s2 (s2.free hr2);refine ⟨r,_,rfl,dG.of ak,rfl,_,_,rfl,_,_,rfl,rfl,Kp.set rfl (Kp.set rfl (Kp.refl _)),?_⟩;refine dN ?_;refine ⟨_,rfl,_,rfl,l[i],_,rfl,hw _ (lU h2),(by rw [aG nrD];exact hD2),?_,?_,aV s3 hD,ak⟩
  ·rw [List.length_take];exact cQ 0x1
  ·have e6:(ju l ws)[i]?=some (lX (l[i]) (ws[i]' 0x1)):=by
    unfold ju;rw [jT,(List.getElem?_zip_eq_some (z:=(l[i],ws[i]' 0x1))).mpr ⟨h1,h2⟩];rfl
   rw [List.take_add_one,e6];rfl
 ·rintro zs H2 ⟨rfl,s2,hD2⟩;rw [List.take_of_length_le (by rw [uD hl];exact Nat.le_refl _)] at hD2;refine ⟨_,rfl,D,_,rfl,.inl (aZ.of hD2),rfl,Rz l ws,_,rfl,?_⟩;have n3:(if false=true then !inV .non (ju l ws) else inV .non (ju l ws))=inV .non (ju l ws):=rfl
  rw [n3];unfold gP at k0 k1;rw [if_pos hl] at k0 k1;cases hn:inV .non (ju l ws) with
  | true =>
   rw [hn,if_pos rfl] at k0;exact bU (k0 rfl _ s2)
  | false =>
   rw [hn,if_neg Bool.false_ne_true] at k1;exact bZ ⟨_,rfl,k1 _ rfl D H2 s2 hD2 hD⟩
theorem mV (c:Nat) (x y:Str) (r:List Str):Str.join ⟨#[c]⟩ (x::y::r)=x++⟨#[c]⟩++Str.join ⟨#[c]⟩ (y::r):=rfl
theorem join_one (c:Nat) (x:Str):Str.join ⟨#[c]⟩ [x]=x:=rfl
theorem qM (c:Nat) (x y:Str) (r:List Str):(Str.join ⟨#[c]⟩ (x::y::r)).cps.toList=x.cps.toList++c::(Str.join ⟨#[c]⟩ (y::r)).cps.toList:=by
 rw [mV];simp only [Str.cps_append,Array.toList_append,List.append_assoc];rfl
def jl (ws:List Str):Nat:=(ws.map fun t=>t.length+1).sum
theorem uE {c:Nat}:∀ {ws:List Str},ws≠[]->(Str.join ⟨#[c]⟩ ws).length+1=jl ws
 | [],h=>absurd rfl h
 | [x],_=>by rw [join_one];simp [jl]
 | x::y::r,_=>by
  have ih:=uE (c:=c) (ws:=y::r) (List.cons_ne_nil _ _);rw [jt,qM,jA,jU,<- jt,<- jt];unfold jl at ih ⊢;rw [List.map_cons,List.sum_cons,<- ih];lia
theorem qN:∀ {ws:List Str}{t:Str},t∈ws->∀ x∈t.cps.toList,x∈(Str.join ⟨#[c]⟩ ws).cps.toList
 | [],_,h=>by cases h
 | [y],t,h=>fun x hx=>by
  rcases List.mem_cons.mp h with rfl | h
  ·exact hx
  ·cases h
 | y::y2::r,t,h=>fun x hx=>by
  rw [qM];rcases List.mem_cons.mp h with rfl | h
  ·exact List.mem_append_left _ hx
  ·exact List.mem_append_right _ (lR _ (qN h x hx))
theorem mem_join:∀ {ws:List Str}{x:Nat},x∈(Str.join ⟨#[c]⟩ ws).cps.toList->x=c\/∃ t∈ws,x∈t.cps.toList
 | [],x,h=>by
  have:(Str.join ⟨#[c]⟩ []).cps.toList=[]:=rfl;rw [this] at h;cases h
 | [y],x,h=>.inr ⟨y,List.mem_cons_self,h⟩
 | y::y2::r,x,h=>by
  rw [qM] at h;rcases List.mem_append.mp h with h | h
  ·exact .inr ⟨y,List.mem_cons_self,h⟩
  ·rcases List.mem_cons.mp h with h | h
   ·exact .inl h
   ·rcases mem_join h with h | ⟨t,ht,hx⟩
    ·exact .inl h
    ·exact .inr ⟨t,lR _ ht,hx⟩
theorem a0d:((" " : Str))=⟨#[32]⟩:=by decide +kernel
abbrev bO (z:Str):List Str:=Txt.split z " "
theorem jw (z:Str):bO z≠[]:=qH _ _
theorem mW (z:Str):Str.join ⟨#[32]⟩ (bO z)=z:=by
 unfold bO;rw [a0d];exact StrLaws.join_split _ _
theorem su (z:Str):jl (bO z)=z.length+1:=by
 have:=uE (c:=32) (jw z);rw [mW] at this;exact this.symm
theorem RD {t:Str} (h:t∈ws):t.length+1<=jl ws:=by
 induction ws with
 | nil=>cases h
 | cons x r ih =>
  unfold jl at ih ⊢;rw [List.map_cons,List.sum_cons];rcases List.mem_cons.mp h with rfl | h
  ·lia
  ·have:=ih h;lia
theorem Bf (ws:List Str):ws.length<=jl ws:=by
 induction ws with
 | nil=>exact Nat.zero_le _
 | cons x r ih =>
  unfold jl at ih ⊢;rw [List.map_cons,List.sum_cons,jU];lia
theorem lJ {t:Str} (h:t∈bO z):t.length<=z.length:=by
 have:=RD h;rw [su] at this;lia
theorem mX (z:Str):(bO z).length<=z.length+1:=by
 have:=Bf (bO z);rw [su] at this;exact this
def jz (z:Str):Prop:=∀ c∈z.cps.toList,c<128
theorem lK {t:Str} (hz:jz z) (h:t∈bO z):jz t:=fun c hc=>by
 have:=qN (c:=32) h c hc;rw [mW] at this;exact hz c this
def pK (k:Str) (ws:List Str):Option (Str×List V):=(form k).bind fun l=>(gP l ws).bind fun ps=>if oJ k ps=true then some (k,ps) else none
def lY (z:Str):Option (Str×List V):=match bO z with
 | []=>none
 | k::ws=>pK k ws
theorem Vz (h:Nb v .non=false):v≠.non:=fun e=>by rw [e] at h;cases h
theorem res_some {l:List cP}{ps:List V} (h:gP l ws=some ps):ws.length=l.length/\ps=ju l ws/\∀ v∈ps,v≠.non:=by
 unfold gP at h
 by_cases hl:ws.length=l.length
 ·rw [if_pos hl] at h;cases hn:inV .non (ju l ws) with
  | true=>rw [hn,if_pos rfl] at h;cases h
  | false =>
   rw [hn,if_neg Bool.false_ne_true] at h;injection h with h;subst h;refine ⟨hl,rfl,fun v hv=>Vz ?_⟩;unfold inV at hn;rw [List.any_eq_false] at hn;exact Bool.eq_false_iff.mpr (hn v hv)
 ·rw [if_neg hl] at h;cases h
theorem RG {s:cP} (h:lX s z≠.non):dB s (lX s z)=true:=by
 unfold lX at h ⊢
 by_cases hf:dB s (jC s z)=true
 ·rw [if_pos hf];exact hf
 ·rw [if_neg hf] at h;exact absurd rfl h
theorem a0e {l:List cP} (h:(ju l ws)[i]?=some v):∃ s z,l[i]?=some s/\ws[i]?=some z/\v=lX s z:=by
 unfold ju at h;rw [jT] at h;obtain ⟨p,hp,rfl⟩:=Option.map_eq_some_iff.mp h;obtain ⟨h1,h2⟩:=List.getElem?_zip_eq_some.mp hp;exact ⟨_,_,h1,h2,rfl⟩
theorem KH {k:Str}{l:List cP}{ps:List V} (hf:form k=some l) (h:gP l ws=some ps):Row 1000 k ps:=by
 obtain ⟨hl,rfl,hn⟩:=res_some h;obtain ⟨_,l6⟩:=jq hf;have each:∀ i v,(ju l ws)[i]?=some v->∃ s,l[i]?=some s/\dB s v=true:=fun i v e=>by
  obtain ⟨s,z,h1,h2,rfl⟩:=a0e e;exact ⟨s,h1,RG (hn _ (lU e))⟩
 refine ⟨by rw [uD hl];lia,fun v hv=>?_,fun l' hl' i s v e1 e2=>?_⟩
 ·obtain ⟨i,hi⟩:=List.mem_iff_getElem?.mp hv;obtain ⟨s,_,e⟩:=each i v hi;exact ZW e
 ·rw [hf] at hl';injection hl' with hl';subst hl';obtain ⟨s',h1,e⟩:=each i v e2;rw [e1] at h1;injection h1 with h1;subst h1;exact Kr e
inductive KJ (vs:List V) (H:Hp) (Q:VK):Prop
 | mk (z:Str) (_:vs=[.str z]) (_:z.length<=1000) (_:(lY z=none->∀ H',Same H H'->Q .non H')) (_:∀ k ps,lY z=some (k,ps)->∀ p H',Same H H'->H' p=some (.tup (.str k::ps))->Q (.ref p) H'):KJ vs H Q
def XJ:Sp:=fun vs H Q _=>KJ vs H Q
theorem uF:bB ["text", "words", "pieces", "row"] ["text"] (aC rJ):=0x0
theorem RJ (F:iR K "row_of" "row_of" rJ f fd) (mo:Rb K w.params mg) (mu:mg "tuple"=none)  (G1:bw P w K mg base dF 4 g1 d1 ["form", "words"] (RB K)) (M1:Ms K mg "pieces_of" g1 d1 ["form", "words"])
  (G2:bw P w K mg base dF 3 g2 d2 ["row"] (Rf Xx wm K)) (M2:Ms K mg "is_well_made" g2 d2 ["row"]):bw P w K mg base dF 5 f fd ["text"] XJ:=by
 obtain ⟨aF,kvs,mF,kF,hF⟩:=mo.forms;refine F.ok uF 0xA 0x2
 ·obtain ⟨z,rfl,_⟩:=h;rfl
 obtain ⟨z,rfl,hz,k0,k1⟩:=h;refine ⟨_,aA (bD (i:=1) uF.nd rfl 0x3 (dH PySem.F.plainAttrs_str PySem.F.slot_str_split PySem.F.type_str_split gM (pv 0) (aj aJ aq)))
  (aA (bJ (aK vC (bC aL (pv 1) au 0xE) (dj rfl mF rfl (v:=.ref aF)) 0x16) (aD (aU fV)) bf)
  (aA (bD (i:=2) uF.nd rfl 0x3 (bA G1 hr rfl M1.m M1.k M1.b .nil bL (aj (bC Qz (dj rfl mF rfl (v:=.ref aF)) (bC aL (pv 1) au 0xE) 0xE) (aj (cU bQ (pv 1) (dJ au) dI) aq))))
  (aA (bJ (kW (jL (pv 2))) (aD (aU fV)) bf)
  (aA (bD (i:=3) uF.nd rfl 0x3 (cO iC rfl mu jZ (aj (aR gH (cU bQ (pv 1) dI (dJ au)) (pv 2)) aq)))
  (aD (aU (pU (dW (bA G2 (hr.mono 0x8) rfl M2.m M2.k M2.b .nil bL (aj (pv 3) aq))) (pv 3) fV))))))),?_⟩
 refine 0x1F;obtain ⟨k,ws,ew⟩:∃ k ws,bO z=k::ws:=by
  cases q:bO z with
  | nil=>exact absurd q (jw z)
  | cons k ws=>exact ⟨k,ws,rfl⟩
 have er:lY z=pK k ws:=by unfold lY;rw [ew]
 rw [er] at k0 k1;have hk:k.length<=1000:=Nat.le_trans (lJ (by rw [ew];exact List.mem_cons_self)) hz;have hws:∀ t∈ws,t.length<=1000:=fun t ht=>Nat.le_trans (lJ (by rw [ew];exact lR _ ht)) hz;have hwl:ws.length<=1000:=by
  have:=mX z;rw [ew,jU] at this;lia
 have ew':Txt.split z (Str.ofString " ")=k::ws:=ew;rw [ew',List.map_cons];have s1:Same H (upd H p 0x31):=ao hp _;have p1:(upd H p 0x31) p=some 0x31:=ak;generalize upd H p 0x31=H1 at s1 p1 ⊢;refine ⟨_,rfl,p,_,_,_,rfl,rfl,aZ.of p1,at0 _ _,k,aF,kvs,rfl,rfl,kF,_,rfl,?_⟩;cases hf:form k with
 | none =>
  rw [(hF k).1 hf];exact bU (k0 (by unfold pK;rw [hf];rfl) _ s1)
 | some l =>
  obtain ⟨b,hb,hkb⟩:=(hF k).2 l hf;obtain ⟨l2,l6⟩:=jq hf;rw [hb];refine bZ ?_;refine ⟨_,rfl,p,_,_,_,rfl,rfl,aZ.of p1,at0 _ _,aF,kvs,k,_,rfl,rfl,kF,hb,?_⟩;refine ⟨_,rfl,_,rfl,p,_,rfl,aZ.of p1,fun q hq=>?_⟩;rw [Hw];have s2:Same H1 (upd H1 q 0x15):=ao hq _;have q2:(upd H1 q 0x15) q=some 0x15:=ak;generalize upd H1 q 0x15=H2 at s2 q2 ⊢;refine ⟨b,q,l,ws,rfl,hkb,aZ.of q2,l6,hws,fun hn H3 s3=>?_,fun ps hps r H3 s3 XM hr2=>?_⟩
  ·refine ⟨_,rfl,_,rfl,bU (k0 ?_ _ (s1.trans (s2.trans s3)))⟩;unfold pK;rw [hf]
   show (gP l ws).bind _=none
   rw [hn];rfl
  have ro:pK k ws=if oJ k ps=true then some (k,ps) else none:=by
   unfold pK;rw [hf]
   show (gP l ws).bind _=_
   rw [hps];rfl
  rw [ro] at k0 k1;refine ⟨_,rfl,_,rfl,bZ ?_⟩;have p3:=s3 _ _ (s2 _ _ p1);refine ⟨_,rfl,_,rfl,p,_,rfl,aZ.of p3,fun q' hq'=>?_⟩;have ec:jY (V.str k::ws.map V.str) none (some 1)=[V.str k]:=by
   have:=Ax (xs:=V.str k::ws.map V.str) (j:=1) (by rw [jU];lia);exact this
  rw [ec];have R:=KH hf hps;have s4:Same H3 (upd H3 q' (.lst [V.str k])):=ao hq' _;refine ⟨_,rfl,q',r,_,_,rfl,rfl,ak,s4 _ _ XM,small (by have:=R.len;rw [List.length_singleton];lia),fun t ht=>?_⟩;have s5:Same (upd H3 q' (.lst [V.str k])) (upd (upd H3 q' (.lst [V.str k])) t (.lst ([V.str k]++ps))):=ao ht _;refine ⟨t,_,rfl,.inl ⟨aZ.of ak,fun u hu=>?_⟩⟩;have s6:=ao hu (.tup ([V.str k]++ps));have st:=s1.trans (s2.trans (s3.trans (s4.trans (s5.trans s6))));have u6:(upd (upd (upd H3 q' (.lst [V.str k])) t (.lst ([V.str k]++ps))) u (.tup ([V.str k]++ps))) u=some (.tup (V.str k::ps)):=ak;generalize upd (upd (upd H3 q' (.lst [V.str k])) t (.lst ([V.str k]++ps))) u (.tup ([V.str k]++ps))=H6 at st u6 ⊢;refine ⟨_,rfl,u,_,rfl,dG.of u6,⟨k,ps,rfl,R⟩,fun H7 s7=>⟨_,rfl,?_⟩⟩;have ew:wm (V.str k::ps)=oJ k ps:=rfl;rw [ew];cases hw:oJ k ps with
  | true =>
   rw [hw,if_pos rfl] at k1;exact bU ⟨_,rfl,k1 k ps rfl u H7 (st.trans s7) (s7 _ _ u6)⟩
  | false =>
   rw [hw,if_neg Bool.false_ne_true] at k0;exact bZ (k0 rfl H7 (st.trans s7))
inductive yZ (vs:List V) (H:Hp) (Q:VK):Prop
 | mk (z:Str) (_:vs=[.str z]) (_:z.length<=1000) (_:(∀ c∈z.cps.toList,c<128)) (_:∀ H',Same H H'->Q (.bl (nameB z.cps.toList)) H'):yZ vs H Q
def KN:Sp:=fun vs H Q _=>yZ vs H Q
theorem VB:bB ["_law_word"] ["_law_word"] (aC pD):=0x0
def scM1:Scope:={ kind:=.function,names:=[(".0",.local),("_law_sign",.local)],isGenerator:=false,isCoroutine:=false }
theorem csM1:fP ["_law_word"] (aC pD) scM1 ["_law_sign"] [] []:=0x6
theorem ndM1:((["_law_sign"]:List Str)++([]:List Str)).Nodup:=by decide +kernel
theorem RK (F:iR K "_law_named" "_law_named" pD f fd) (ml:mg "len"=none) (ma:mg "all"=none):bw P w K mg base dF 1 f fd ["_law_word"] KN:=by
 refine F.ok VB 0xA 0x2
 ·obtain ⟨z,rfl,_⟩:=h;rfl
 obtain ⟨z,rfl,Uk,hzc,k⟩:=h;refine ⟨_,aD (aU (qY (uW jW jW au 0x2F au)
  (qX (aM (nG (K:=K) rfl hr.hd) rfl ma Ad (aj (gJ rfl csM1 (Ac (pv 0)) (fun s H fp C=>⟨aQ (i:=0) ndM1 rfl 0x3,fJ,gF jX (pv 0) aJ 0x16⟩)) aq))))),?_⟩
 have ez:z.length=z.cps.toList.length:=by simp [Str.length]
 refine ⟨_,rfl,z,rfl,small 0x1,_,_,rfl,rfl,_,rfl,?_⟩;have no:¬ (1<=z.cps.toList.length/\z.cps.toList.length<=8)->nameB z.cps.toList=false:=fun h=>by
  unfold nameB
  by_cases h1:1<=z.cps.toList.length
  ·rw [decide_eq_false (show ¬ z.cps.toList.length<=8 from fun h2=>h ⟨h1,h2⟩)];simp
  ·rw [decide_eq_false h1];simp
 refine bG (fun h1=>?_) (fun h1=>?_)
 ·have h1':=fO h1;refine ⟨_,_,rfl,rfl,_,rfl,?_⟩;refine bG (fun h2=>?_) (fun h2=>?_)
  ·have h2':=fO h2;refine ⟨_,rfl,z,rfl,fun D' hD'=>?_⟩;refine Cw (x:=z) (fun i ys H4=>ys=((z.cps.toList.take i).map low).map V.bl/\Same H H4/\H4 D'=some (.lst ys)) ⟨rfl,ao hD' _,ak⟩ (fun i ys H4 h=>h.2.2) ?_ ?_
   ·rintro j ys H4 c hc ⟨rfl,xH,VD⟩;refine 0x2E;refine dN ?_;refine ⟨_,rfl,_,_,rfl,rfl,VD,?_,?_,aV xH hD',ak⟩
    ·rw [bV,bV,List.length_take];exact cQ 0x1
    ·have e:=a2c (hzc c (lU hc));rw [List.take_add_one,hc,jB,jB]
     show _++[V.bl (!(Builtin.Str.occurrences az (dR [c]) 0 az.length 1).isEmpty)]=_
     rw [e];rfl
   ·rintro ys H4 ⟨rfl,xH,VD⟩;rw [List.take_length] at VD;refine ⟨D',_,rfl,aZ.of VD,?_⟩;have a0f:(z.cps.toList.map low).all id=z.cps.toList.all low:=by rw [List.all_map];rfl
    rw [a0f];have e:nameB z.cps.toList=z.cps.toList.all low:=by
     unfold nameB;rw [decide_eq_true (show 1<=z.cps.toList.length by lia),decide_eq_true (show z.cps.toList.length<=8 by lia)];simp
    rw [<- e];exact k _ xH
  ·have h2':=of_decide_eq_false (Bool.eq_false_iff.mpr h2);rw [no 0x1] at k;exact k _ (Same.refl _)
 ·have h1':=of_decide_eq_false (Bool.eq_false_iff.mpr h1);rw [no 0x1] at k;exact ⟨_,rfl,bZ (k _ (Same.refl _))⟩
inductive Ei (K:PySem.W.Frag) (vs:List V) (H:Hp) (Q:VK):Prop
 | mk (a:Addr) (k:Str) (rest:List V) (_:vs=[.ref a]) (_:dG K H a (.str k::rest)) (_:Row 1000 k rest) (_:∀ H',Same H H'->Q (.bl (oJ k rest)) H'):Ei K vs H Q
def RL (K:PySem.W.Frag):Sp:=fun vs H Q _=>Ei K vs H Q
theorem XQ {l:List cP} (h:2<=l.length):decide (V.str (oH l)=V.str "?")=false:=by
 refine decide_eq_false fun e=>?_;have e2:oH l="?":=by injection e
 have:=congrArg Str.length e2;rw [lH] at this;have e3:Str.length "?"=1:=by decide +kernel
 lia
theorem Bg:bB ["_law_row", "_law_shape", "_law_thing", "_law_kind"] ["_law_row"] (aC yP):=0x0
theorem VF (F:iR K "_law_good" "_law_good" yP f fd) (ml:mg "len"=none) (mt:mg "int"=none) (mz:mg "zip"=none)  (G1:bw P w K mg base dF 1 g1 d1 [] qJ) (M1:Ms K mg "_law_shapes" g1 d1 [])
  (G2:bw P w K mg base dF 1 g2 d2 ["_law_word"] KN) (M2:Ms K mg "_law_named" g2 d2 ["_law_word"]):bw P w K mg base dF 2 f fd ["_law_row"] (RL K):=by
 refine F.ok Bg 0xA 0x2
 ·obtain ⟨a,k,rest,rfl,_⟩:=h;rfl
 obtain ⟨a,k,rest,rfl,hS,R,kk⟩:=h;refine ⟨_,aA (bD (i:=1) Bg.nd rfl 0x3 (Dj (u1 hr) (pZ G1 hr rfl M1.m M1.k M1.b .nil bL) (bC gU (pv 0) au 0xE) aJ ⟨rfl,rfl,rfl,rfl⟩))
  (aA (bJ (PW.pt (dZ (aK jE (aM bF rfl ml PySem.boot_len (aj (pv 0) aq)) (aR bN au (aM cH rfl ml PySem.boot_len 0x21)) (aW _))
    (eO (aK cA (pv 1) aJ (aW _))))) (aD (aU fX)) bf)
  (aA (gb PassesOwn.never rfl (Qw rfl mz (aj (cU PB (pv 0) (dJ au) dI) 0x21)) (fW rfl (aX (aQ (i:=2) Bg.nd rfl 0x3) (aX (aQ (i:=3) Bg.nd rfl 0x3) cZ)))
   (aD (bJ (aK jX (pv 3) aJ 0x16)
    (aD (bJ (fu (uX jW jW (cO xV rfl mt vm (aj (gF cA (pv 3) aJ (aW _)) aq)) (pv 2) au)) (aD (aU fX)) bf))
    (aD (bJ (PW.pt (ji (fu (dW (bA G2 hr rfl M2.m M2.k M2.b .nil bL (aj (pv 2) aq)))) (gD (fu (PW.pt (ji (aK cA (pv 3) aJ (aW _)) (gD (aK cA (pv 2) aJ (aW _))))))))) (aD (aU fX)) bf)))))
  (aD (aU (Ow (qY (gF nA (bC gU (pv 0) au 0xE) (gG (aj aJ (aj aJ aq))) 0x16)
   (qX (gF cA (bC gU (pv 0) au 0xE) (bC gU (pv 0) au 0xE) (aW _))))))))),?_⟩
 refine ⟨rfl,fun p hp=>⟨p,rfl,.inl ⟨_,.inl ak⟩,?_⟩⟩;have s1:Same H (upd H p (.dK cD)):=ao hp _;refine ⟨_,rfl,a,_,_,_,rfl,rfl,s1.Am hS,at0 _ _,lu cD (.inr k),mH.k (k:=.inr k) ak,?_⟩;rw [pJ];cases hf:form k with
 | none =>
  have e:oJ k rest=false:=by unfold oJ;rw [hf]
  rw [e] at kk;refine ⟨_,rfl,a,_,rfl,.inr (s1.Am hS),_,rfl,_,rfl,(by show Str.length "?"<=sizeLine;decide +kernel),_,_,rfl,rfl,rfl,_,rfl,?_⟩
  refine bG (fun _=>bU (kk _ s1)) (fun _=>?_);exact ⟨_,rfl,rfl,_,rfl,bU (kk _ s1)⟩
 | some l =>
  have wg:oJ k rest=(decide (rest.length=l.length)&&(((l.zip rest).all lG)&&!(two k&&decide (rest[1]?=rest[2]?)))):=by unfold oJ;rw [hf]
  obtain ⟨l2,l6⟩:=jq hf;have lq:(oH l).length<=sizeLine:=by rw [lH];exact small 0x1
  refine ⟨_,rfl,a,_,rfl,.inr (s1.Am hS),_,rfl,oH l,rfl,lq,_,_,rfl,rfl,rfl,_,rfl,?_⟩
  by_cases hl:rest.length=l.length
  ·have hn:V.int (((V.str k::rest).length:Nat):Int)=V.int (1+((oH l).length:Int)):=by
    rw [lH,jU,hl];congr 1;lia
   refine yj hn ?_;refine 0xB;rw [show decide ((Option.map (fun l=>V.str (oH l)) (some l)).getD (V.str "?")=V.str "?")=false from XQ l2]
   refine bZ ?_;rw [decide_eq_true hl,Bool.true_and] at wg;refine ⟨_,rfl,_,rfl,a,_,rfl,s1.Am hS,nw1 _ _,fun q hq=>?_⟩;rw [Hw];have hq0:H q=none:=s1.free hq;have s2:Same H (upd (upd H p (.dK cD)) q (.tup rest)):=aV s1 hq0;generalize hHc:upd (upd H p (.dK cD)) q (.tup rest)=Hc at s2 ⊢;have hqc:Hc q=some (.tup rest):=by rw [<- hHc];exact ak
   refine ⟨_,rfl,q,oH l,rfl,⟨_,dG.of hqc⟩,lC (n:=l.length) (fx:=fun i=>rest.getD i .non) (fy:=fun i=>V.str (dR [(l.getD i .d).code]))
    (fun i σ H2=>(∃ u v,σ=[some (.ref a),some (.str (oH l)),u,v])/\Same Hc H2/\((l.zip rest).take i).all lG=true) ?_ ⟨⟨none,none,rfl⟩,Same.refl _,rfl⟩ ?_ ?_⟩
   ·rintro i σ H2 ⟨_,sm,_⟩;have st:=Dk (K:=K) (z:=oH l) (i:=i) (dG.of (sm _ _ hqc));rw [jr,bV,hl,Nat.min_self] at st;refine ⟨fun hi=>⟨(st.1 hi).1,fun v H' y=>?_⟩,st.2⟩;obtain ⟨r,e1,e2,e3⟩:=(st.1 hi).2 v H' y;refine ⟨r,e1,e2,?_⟩;have e4:=wk hi;rw [jr] at e4;rw [e3,e4]
   ·rintro i σ H2 r hi ⟨⟨u,v,rfl⟩,sm,ha⟩ XM;have h1:l[i]?=some l[i]:=dO hi;have hi2:i<rest.length:=by lia
    have h2:rest[i]?=some rest[i]:=dO hi2;rw [at_getD h1,at_getD h2];have sq:Same H2 (upd H2 r (.tup [rest[i],V.str (dR [(l[i]).code])])):=ao XM _;have hkp:=R.kept l hf i _ _ h1 h2;have hz:=vZ h1 h2;refine ⟨r,_,rfl,dG.of ak,rfl,_,_,rfl,_,_,rfl,rfl,?_⟩;refine 0x20;rw [HF];have yes:dB l[i] rest[i]=true->∀ H3,Same H2 H3->(∃ u v,([some (V.ref a),some (V.str (oH l)),some rest[i],some (V.str (dR [(l[i]).code]))]:List (Option V))=[some (.ref a),some (.str (oH l)),u,v])/\Same Hc H3/\((l.zip rest).take (i+1)).all lG=true :=
     fun e H3 s3=>⟨⟨_,_,rfl⟩,sm.trans s3,Ea hz ha e⟩
    have no:dB l[i] rest[i]=false->∀ H3,Same H2 H3->Q (V.bl false) H3:=fun e H3 s3=>by
     rw [Rg hz e,Bool.false_and] at wg;rw [wg] at kk;exact kk _ (s2.trans (sm.trans s3))
    have hrw:(l[i]).row=true:=vW hf h1;generalize l[i]=si at *
    rcases R.ok _ (List.getElem_mem hi2) with ⟨n,hn⟩ | ⟨z,hz',Uk,hzc⟩
    ·rw [hn] at hkp yes no sq ⊢;have hnum:si.num=true:=hkp.symm;rw [hnum];refine bU ?_;rw [Vt si n hnum hrw] at yes no;refine ⟨_,rfl,rfl,.inr ⟨_,rfl,_,rfl,_,_,rfl,rfl,_,rfl,?_⟩⟩;rw [Ro];refine bG (fun c1=>?_) (fun c1=>?_)
     ·rw [c1,Bool.true_and] at yes no;refine ⟨_,_,rfl,rfl,_,rfl,?_⟩;cases c2:decide (n<=9999) with
      | true=>exact bZ (yes c2 _ sq)
      | false=>exact bU (no c2 _ sq)
     ·rw [Bool.eq_false_iff.mpr c1,Bool.false_and] at no;exact ⟨_,rfl,bU (no rfl _ sq)⟩
    ·rw [hz'] at hkp yes no sq ⊢;have hnum:si.num=false:=hkp.symm;rw [hnum];refine bZ ?_;rw [Ba si z hnum] at yes no;refine ⟨_,rfl,z,rfl,Uk,hzc,fun H3 s3=>⟨_,rfl,?_⟩⟩;cases c1:nameB z.cps.toList with
     | true =>
      rw [c1,Bool.true_or] at yes;exact bZ (bZ (yes rfl _ (sq.trans s3)))
     | false =>
      rw [c1,Bool.false_or] at yes no;refine bU 0xB;rw [HJ];refine bG (fun c2=>?_) (fun c2=>?_)
      ·rw [c2,Bool.true_and] at yes no;refine 0xB;rw [pX];cases c3:decide (z=("" : Str)) with
       | true=>exact bZ (yes c3 _ (sq.trans s3))
       | false=>exact bU (no c3 _ (sq.trans s3))
      ·rw [Bool.eq_false_iff.mpr c2,Bool.false_and] at no;exact bU (no rfl _ (sq.trans s3))
   ·rintro σ H2 ⟨⟨u,v,rfl⟩,sm,ha⟩;rw [List.take_of_length_le (by rw [List.length_zip];lia)] at ha;rw [ha,Bool.true_and] at wg;have S2:=(s2.trans sm).Am hS;refine ⟨_,rfl,a,_,_,_,rfl,rfl,S2,at0 _ _,small 0x5,fun t ht=>?_⟩;have st:Same H2 (upd H2 t (.tup [V.str "heir",V.str "liege"])):=ao ht _;refine ⟨t,_,rfl,.inr (dG.of ak),rfl,rfl,_,rfl,?_⟩;have e2:=Rh k
    show if inV (V.str k) [V.str "heir",V.str "liege"]=true then _ else _
    rw [e2];have S3:=st.Am S2;cases h2:two k with
    | false =>
     rw [h2] at wg;have:oJ k rest=true:=wg;rw [this] at kk;exact bZ ⟨_,rfl,kk _ (s2.trans (sm.trans st))⟩
    | true =>
     rw [h2,Bool.true_and] at wg;obtain ⟨l3,n1,n2⟩:=vX hf h2;refine bU ?_;have i1:(1:Nat)<rest.length:=by lia
     have i2:(2:Nat)<rest.length:=by lia
     have r1:rest[1]?=some rest[1]:=dO i1;have r2:rest[2]?=some rest[2]:=dO i2;have q1:l[1]?=some l[1]:=dO 0x1;have q2:l[2]?=some l[2]:=dO 0x1;have v1:isI rest[1]=false:=(R.kept l hf 1 _ _ q1 r1).trans (n1 _ q1);have v2:isI rest[2]=false:=(R.kept l hf 2 _ _ q2 r2).trans (n2 _ q2);have o1:=R.ok _ (List.getElem_mem i1);have o2:=R.ok _ (List.getElem_mem i2);rw [r1,r2] at wg;refine ⟨_,rfl,a,_,_,_,rfl,rfl,S3,pI r1 2 rfl,_,rfl,a,_,_,_,rfl,rfl,S3,pI r2 3 rfl,?_⟩;generalize rest[1]=x1 at *
     generalize rest[2]=x2 at *
     rcases o1 with ⟨n,rfl⟩ | ⟨z1,rfl,_⟩
     ·cases v1
     rcases o2 with ⟨n,rfl⟩ | ⟨z2,rfl,_⟩
     ·cases v2
     refine ⟨rfl,_,rfl,?_⟩;have e3:oJ k rest=!decide (V.str z1=V.str z2):=by
      rw [wg]
      congr 1
      exact decide_eq_decide.mpr ⟨fun e=>Option.some.inj e,fun e=>by rw [e]⟩
     rw [e3] at kk;exact kk _ (s2.trans (sm.trans st))
  ·have e:oJ k rest=false:=by rw [wg,decide_eq_false hl,Bool.false_and]
   rw [e] at kk;have hne:(!decide (V.int (((V.str k::rest).length:Nat):Int)=V.int (1+((oH l).length:Int))))=true:=by
    rw [lH,jU];have:¬ V.int (((rest.length+1:Nat)):Int)=V.int (1+(l.length:Int)):=fun e=>hl (by injection e with e;lia);rw [decide_eq_false this];rfl
   rw [hne];exact bU (bU (kk _ s1))
def d09:Str:="0123456789"
theorem a0g:∀ c:_root_.Fin 128,(!(Builtin.Str.occurrences d09 (dR [c.val]) 0 d09.length 1).isEmpty)=dig c.val:=by decide +kernel
theorem a2h (h:c<128):(!(Builtin.Str.occurrences d09 (dR [c]) 0 d09.length 1).isEmpty)=dig c:=a0g ⟨c,h⟩
def iK (z:Str):V:=if HS z=true then .int (valN z) else .int (-1)
theorem qO (h:jO z=.non):iK z=.int (-1):=by
 unfold jO at h;unfold iK
 by_cases hw:HS z=true
 ·rw [if_pos hw] at h;cases h
 ·rw [if_neg hw]
theorem wC (h:jO z=.int (valN z)):iK z=.int (valN z):=by
 unfold jO at h;unfold iK
 by_cases hw:HS z=true
 ·rw [if_pos hw]
 ·rw [if_neg hw] at h;cases h
inductive Ej (vs:List V) (H:Hp) (Q:VK):Prop
 | mk (z:Str) (_:vs=[.str z]) (_:z.length<=1000) (_:jz z) (_:∀ H',Same H H'->Q (iK z) H'):Ej vs H Q
def Bh:Sp:=fun vs H Q _=>Ej vs H Q
theorem a0h:bB ["_law_word"] ["_law_word"] (aC vQ):=0x0
def scQ1:Scope:={ kind:=.function,names:=[(".0",.local),("_law_sign",.local)],isGenerator:=false,isCoroutine:=false }
theorem csQ1:fP ["_law_word"] (aC vQ) scQ1 ["_law_sign"] [] []:=0x6
theorem ndQ1:((["_law_sign"]:List Str)++([]:List Str)).Nodup:=by decide +kernel
theorem VG (F:iR K "_law_number" "_law_number" vQ f fd) (ml:mg "len"=none) (ma:mg "all"=none) (mi:mg "int"=none):bw P w K mg base dF 1 f fd ["_law_word"] Bh:=by
 refine F.ok a0h 0xA 0x2
 ·obtain ⟨z,rfl,_⟩:=h;rfl
 obtain ⟨z,rfl,Uk,hzc,k⟩:=h;refine ⟨_,aA (bJ (PW.pt (dZ (fu (uX jW jW au 0x2F au))
   (eO (fu (dW (aM (nG (K:=K) rfl hr.hd) rfl ma Ad (aj (gJ rfl csQ1 (Ac (pv 0)) (fun s H fp C=>⟨aQ (i:=0) ndQ1 rfl 0x3,fJ,gF jX (pv 0) aJ 0x16⟩)) aq))))))) (aD (aU (sS m8 au))) bf)
  (aA (bJ (PW.pt (ji (aK uV 0x2F au (aW _)) (gD (aK cA (bC v7 (pv 0) au 0xE) aJ (aW _))))) (aD (aU (sS m8 au))) bf)
  (aD (aU (cO oO rfl mi vm (aj (pv 0) aq))))),?_⟩
 have ez:=jt z;have zs:z.length<=sizeLine:=small 0x1;refine ⟨_,rfl,z,rfl,zs,_,_,rfl,rfl,_,rfl,?_⟩;refine bG (fun h1=>?_) (fun h1=>?_)
 case refine_2 =>
  have h1':=of_decide_eq_false (Bool.eq_false_iff.mpr h1);rw [qO (Ku 0x1)] at k;exact ⟨_,rfl,bU (bU ⟨_,rfl,k _ (Same.refl _)⟩)⟩
 have h1':=fO h1;refine ⟨_,_,rfl,rfl,_,rfl,?_⟩;refine bG (fun h2=>?_) (fun h2=>?_)
 ·have h2':¬ ((z.length:Nat):Int)<=6:=by simpa using h2
  rw [qO (Kv 0x1)] at k;exact bU ⟨_,rfl,k _ (Same.refl _)⟩
 have h2':((z.length:Nat):Int)<=6:=by simpa using h2
 have l1:1<=z.cps.toList.length:=by lia
 have l6:z.cps.toList.length<=6:=by lia
 refine ⟨_,rfl,z,rfl,fun D' hD'=>?_⟩;refine Cw (x:=z) (fun i ys H4=>ys=((z.cps.toList.take i).map dig).map V.bl/\Same H H4/\H4 D'=some (.lst ys)) ⟨rfl,ao hD' _,ak⟩ (fun i ys H4 h=>h.2.2) ?_ ?_
 ·rintro j ys H4 c hc ⟨rfl,xH,VD⟩;refine 0x2E;refine dN ?_;refine ⟨_,rfl,_,_,rfl,rfl,VD,?_,?_,aV xH hD',ak⟩
  ·rw [bV,bV,List.length_take];exact cQ 0x1
  ·have e:=a2h (hzc c (lU hc));rw [List.take_add_one,hc,jB,jB]
   show _++[V.bl (!(Builtin.Str.occurrences d09 (dR [c]) 0 d09.length 1).isEmpty)]=_
   rw [e];rfl
 ·rintro ys H4 ⟨rfl,xH,VD⟩;rw [List.take_length] at VD;refine ⟨D',_,rfl,aZ.of VD,?_⟩;have a0f:(z.cps.toList.map dig).all id=z.cps.toList.all dig:=by rw [List.all_map];rfl
  rw [a0f];refine ⟨_,rfl,?_⟩;cases ha:z.cps.toList.all dig with
  | false =>
   rw [qO (Ks ha)] at k;exact bU ⟨_,rfl,k _ xH⟩
  | true =>
   refine bZ ?_;refine ⟨_,rfl,z,rfl,zs,_,_,rfl,rfl,_,rfl,?_⟩;obtain ⟨c,hc⟩:∃ c,z.cps.toList[0]?=some c:=⟨_,dO 0x1⟩;refine bG (fun h3=>?_) (fun h3=>?_)
   ·have h3':=fO h3;refine ⟨_,rfl,z,0,c,rfl,rfl,zs,fH (j:=0) hc,rfl,_,rfl,?_⟩;refine bG (fun h=>?_) (fun h=>?_)
    ·have a0a:c=48:=by
      have h':=fO h;injection h' with h';have h2:=congrArg (fun y:Str=>y.cps.toList) h';have e0:(("0" : Str)).cps.toList=[48]:=by decide +kernel
      rw [e0] at h2
      simpa using h2
     rw [qO (Kw (by rw [hc,a0a]) 0x1)] at k;exact ⟨_,rfl,k _ xH⟩
    ·have ne:z.cps.toList[0]?≠some 48:=fun e=>h (by
      rw [hc] at e;injection e with e;subst e
      decide +kernel)
     rw [wC (uy ha l1 l6 (.inr ne))] at k;exact ⟨_,rfl,z,valN z,rfl,qK ha l1 l6,by lia,k _ xH⟩
   ·have h3':=of_decide_eq_false (Bool.eq_false_iff.mpr h3);refine bZ ?_;rw [wC (uy ha l1 l6 (.inl 0x1))] at k;exact ⟨_,rfl,z,valN z,rfl,qK ha l1 l6,by lia,k _ xH⟩
end M
namespace L2
open PySem PySem.Spec PyProof.Rows PySem.W
abbrev KQ (K:PySem.W.Frag) (a:Addr) (z:Str):It:=YZ (fun i H=>∃ xs x,aZ K H a xs/\xs[i]?=some x) (fun i _=>i<z.cps.toList.length) (fun i H=>∃ xs,aZ K H a xs/\xs.length<=i) (fun i _=>z.cps.toList.length<=i)
 (fun i H x=>∀ xs,aZ K H a xs->xs[i]?=some x) (fun i _ v=>∃ c,z.cps.toList[i]?=some c/\v=.str (dR [c]))
inductive Ek (K:PySem.W.Frag) (R:It->Hp->Prop) (vs:List V) (H1:Hp):Prop
 | mk (a:Addr) (z:Str) (_:vs=[.ref a,.str z]) (_:(∃ xs,aZ K H1 a xs)) (_:R (KQ K a z) H1):Ek K R vs H1
def a0i (K:PySem.W.Frag) (ta:TA):TI:=fun σ H R=>ta σ H fun vs H1=>Ek K R vs H1
section
variable {a b:Expr}{ta:TA}
theorem RM (hg:Gl X "zip") (hm:X.mg "zip"=none) (ha:PA X [a,b] ta) (hs:starEach [a,b] X.env=[(false,eval a X.env),(false,eval b X.env)]:=by rfl) (hs2:starEach [b] X.env=[(false,eval b X.env)]:=by rfl) :
  PI X (.Tuple elts x1 tp) (.Call (.Name "zip" p) [a,b] [] pos) (a0i X.K ta):=by
 intro pins s σ H R I h;refine Call_ (gC I hg hm vo 0xC);obtain ⟨c,z,rfl,⟨xs,hx⟩,q⟩:=q1;obtain ⟨u,u',rfl,ru,Ge⟩:=vals2 r1;cases ru;obtain ⟨t,rfl⟩:=Ge;obtain ⟨its,rv,p1,_⟩:=I1.list hx;cases ha':z.cps.all (·<128)
 ·exact pq (U:=fun h=>h.IsList c its.toArray) I1 p1.isList (fun h o ⟨oc,e,r⟩=>⟨oc,Heap.get?_push_of_some _ e,r⟩)
   (fun prog w A Q E s hu hQ=>wpAny_pyIter_list hu hQ) (fun prog w A Q E s hu hQ=>wpAny_pyIter_wide ha' hQ) (qp c _) (um z t _ "str_iterator" (fun A hA=>Draws.strWide hA _ z t) (fun A i c s Q E st hc h=>wpAny_nextOf_wide_item st hc h) fun A i s Q E hh st hx hE=>wpAny_nextOf_wide_end hh st hx hE)
   (fun h e=>⟨_,e,rfl,rfl⟩) (fun h e=>⟨_,e,rfl,rfl⟩) rfl rfl q
 ·exact pq (U:=fun h=>h.IsList c its.toArray) I1 p1.isList (fun h o ⟨oc,e,r⟩=>⟨oc,Heap.get?_push_of_some _ e,r⟩)
   (fun prog w A Q E s hu hQ=>wpAny_pyIter_list hu hQ) (fun prog w A Q E s hu hQ=>wpAny_pyIter_ascii ha' hQ) (qp c _) (um z t _ "str_ascii_iterator" (fun A hA=>Draws.strAscii hA _ z t) (fun A i c s Q E st hc h=>wpAny_nextOf_ascii_item st hc h) fun A i s Q E hh st hx hE=>wpAny_nextOf_ascii_end hh st hx hE)
   (fun h e=>⟨_,e,rfl,rfl⟩) (fun h e=>⟨_,e,rfl,rfl⟩) rfl rfl q
end
theorem El (ha:aZ K H a xs) :
  (i<min xs.length z.cps.toList.length->(KQ K a z).go i H/\∀ v H',(KQ K a z).xR i H v H'->∃ p,v=.ref p/\H p=none/\H'=upd H p (.tup [xs.getD i .non,.str (dR [z.cps.toList.getD i 0])]))/\(min xs.length z.cps.toList.length<=i->(KQ K a z).stop i H):=by
 refine ⟨fun hi=>⟨⟨⟨xs,xs[i]' 0x1,ha,by rw [dO]⟩,by show i<_;lia⟩,fun v H' ⟨p,x,y,e1,e2,e3,e4,c,hc,e5⟩=>⟨p,e1,e2,?_⟩⟩,fun hi=>?_⟩
 ·rw [e3,iI,iI,e4 xs ha,e5,hc];rfl
 ·by_cases h1:xs.length<=i
  ·exact .inl ⟨xs,ha,h1⟩
  ·exact .inr ⟨⟨xs,xs[i]' 0x1,ha,by rw [dO]⟩,by show _<=i;lia⟩
end L2
namespace M
open PySem L2
def xK (s:cP) (z:Str):V:=if s.num=true then iK z else if s=.c/\z="-" then .str "" else .str z
def gQ (l:List cP) (ws:List Str):List V:=(l.zip ws).map fun p=>xK p.1 p.2
theorem Bj {l:List cP} (h:ws.length=l.length):(gQ l ws).length=l.length:=by
 unfold gQ;rw [bV,List.length_zip,h,Nat.min_self]
theorem HW {l:List cP}{s:cP} (h1:l[i]?=some s) (h2:ws[i]?=some z):(gQ l ws)[i]?=some (xK s z):=by
 unfold gQ;rw [jT,(List.getElem?_zip_eq_some (z:=(s,z))).mpr ⟨h1,h2⟩];rfl
theorem Bk {l:List cP}{s:cP} (h1:l[i]?=some s) (h2:ws[i]?=some z):(ju l ws)[i]?=some (lX s z):=by
 unfold ju;rw [jT,(List.getElem?_zip_eq_some (z:=(s,z))).mpr ⟨h1,h2⟩];rfl
theorem RN {s:cP} (h:s.num=false):lX s ""=.non:=by
 cases s <;> first | decide +kernel | cases h
theorem VH (s:cP):dB s (.int (-1))=false:=by cases s <;> decide
theorem RP {s:cP} (hz:s.num=true\/z≠""):lX s z=if dB s (xK s z)=true then xK s z else .non:=by
 cases hn:s.num with
 | true =>
  unfold lX jC xK;rw [if_pos hn,if_pos hn];rcases qL z with e | e
  ·rw [e,qO e,uz,VH];rfl
  ·rw [e,wC e]
 | false =>
  have hz':z≠"":=hz.resolve_left (by rw [hn];exact Bool.false_ne_true);have nn:¬ s.num=true:=by rw [hn];exact Bool.false_ne_true
  have e0:jC s z=Oj z:=by unfold jC;rw [if_neg nn]
  unfold lX;rw [e0]
  by_cases hd:z="-"
  ·subst hd;have e1:Oj "-"=.str "":=by decide +kernel
   rw [e1];cases s <;> first | decide +kernel | cases hn
  ·have e1:Oj z=if nameB z.cps.toList=true then .str z else .non:=by unfold Oj;rw [if_neg hd]
   have e2:xK s z=.str z:=by unfold xK;rw [if_neg nn,if_neg (fun (h:s=.c/\z="-")=>hd h.2)]
   rw [e1,e2]
   by_cases hnm:nameB z.cps.toList=true
   ·rw [if_pos hnm]
   ·rw [if_neg hnm,uz,Ba s z hn,Bool.eq_false_iff.mpr hnm,decide_eq_false hz',Bool.and_false];rfl
theorem VJ {l:List (cP×V)}{p:cP×V} (h:l.all lG=true) (e:l[i]?=some p):lG p=true:=List.all_eq_true.mp h p (lU e)
theorem zc {k:Str}{l:List cP}{s:cP} (hf:form k=some l) (h1:l[i]?=some s) (h2:ws[i]?=some ("" : Str)) (hn:s.num=false):pK k ws=none:=by
 unfold pK;rw [hf]
 show (gP l ws).bind _=none
 cases hr:gP l ws with
 | none=>rfl
 | some ps =>
  obtain ⟨_,rfl,hno⟩:=res_some hr;have:=Bk h1 h2;rw [RN hn] at this;exact absurd rfl (hno _ (lU this))
theorem VL {k:Str}{l:List cP} (hf:form k=some l) (h:¬ ws.length=l.length):pK k ws=none:=by
 unfold pK;rw [hf]
 show (gP l ws).bind _=none
 unfold gP;rw [if_neg h];rfl
theorem VN {k:Str}{l:List cP} (hf:form k=some l) (hl:ws.length=l.length) (hw:∀ (i:Nat) (s:cP) (z:Str),l[i]?=some s->ws[i]?=some z->s.num=true\/z≠""):pK k ws=if oJ k (gQ l ws)=true then some (k,gQ l ws) else none:=by
 have wg:oJ k (gQ l ws)=(decide ((gQ l ws).length=l.length)&&(((l.zip (gQ l ws)).all lG)&&!(two k&&decide ((gQ l ws)[1]?=(gQ l ws)[2]?)))):=by unfold oJ;rw [hf]
 unfold pK;rw [hf]
 show (gP l ws).bind _=_
 cases ha:(l.zip (gQ l ws)).all lG with
 | true =>
  have e:ju l ws=gQ l ws:=by
   apply List.ext_getElem?
   intro i
   by_cases hi:i<l.length
   ·have h1:l[i]?=some l[i]:=dO hi;have h2:ws[i]?=some (ws[i]' 0x1):=dO 0x1;have h3:=HW h1 h2;rw [Bk h1 h2,h3,RP (hw i _ _ h1 h2)];have:=VJ ha (vZ h1 h3);have this:dB l[i] (xK l[i] (ws[i]' 0x1))=true:=this;rw [if_pos this]
   ·rw [List.getElem?_eq_none (by rw [uD hl];lia),List.getElem?_eq_none (by rw [Bj hl];lia)]
  have en:inV .non (gQ l ws)=false:=by
   unfold inV;rw [List.any_eq_false];intro v hv;obtain ⟨p,_,rfl⟩:=List.mem_map.mp hv;unfold xK iK
   by_cases c1:p.1.num=true
   ·rw [if_pos c1]
    by_cases c2:HS p.2=true
    ·rw [if_pos c2];exact Bool.false_ne_true
    ·rw [if_neg c2];exact Bool.false_ne_true
   ·rw [if_neg c1]
    by_cases c2:p.1=.c/\p.2="-"
    ·rw [if_pos c2];exact Bool.false_ne_true
    ·rw [if_neg c2];exact Bool.false_ne_true
  have er:gP l ws=some (gQ l ws):=by
   unfold gP;rw [if_pos hl,e,en,if_neg Bool.false_ne_true]
  rw [er];rfl
 | false =>
  rw [wg,ha,Bool.false_and,Bool.and_false,if_neg Bool.false_ne_true];cases hr:gP l ws with
  | none=>rfl
  | some ps =>
   exfalso
   obtain ⟨_,rfl,hno⟩:=res_some hr;rw [List.all_eq_false] at ha;obtain ⟨p,hp,hpf⟩:=ha;obtain ⟨i,hi⟩:=List.mem_iff_getElem?.mp hp;obtain ⟨h1,h3⟩:=List.getElem?_zip_eq_some.mp hi;have hil:i<l.length:=(List.getElem?_eq_some_iff.mp h1).1;have h2:ws[i]?=some (ws[i]' 0x1):=dO 0x1;rw [HW h1 h2] at h3;injection h3 with h3;have h4:=Bk h1 h2;rw [RP (hw i _ _ h1 h2),h3,if_neg (show ¬ dB p.1 p.2=true from hpf)] at h4
   exact hno _ (lU h4) rfl
theorem wD (z:Str):∃ n,iK z=.int n:=by
 unfold iK
 by_cases h:HS z=true
 ·rw [if_pos h];exact ⟨_,rfl⟩
 ·rw [if_neg h];exact ⟨_,rfl⟩
theorem a0j (s:cP) (z:Str):isI (xK s z)=s.num:=by
 unfold xK
 by_cases c1:s.num=true
 ·rw [if_pos c1,c1];obtain ⟨n,e⟩:=wD z;rw [e];rfl
 ·rw [if_neg c1,Bool.eq_false_iff.mpr c1]
  by_cases c2:s=.c/\z="-"
  ·rw [if_pos c2];rfl
  ·rw [if_neg c2];rfl
theorem a2i {s:cP} (hz:z.length<=1000) (ha:jz z):Uo 1000 (xK s z):=by
 unfold xK
 by_cases c1:s.num=true
 ·rw [if_pos c1];exact .inl (wD z)
 ·rw [if_neg c1]
  by_cases c2:s=.c/\z="-"
  ·rw [if_pos c2];exact .inr ⟨"",rfl,by decide +kernel,by decide +kernel⟩
  ·rw [if_neg c2];exact .inr ⟨z,rfl,hz,ha⟩
theorem VP {k:Str}{l:List cP} (hf:form k=some l) (hl:ws.length=l.length) (hz:∀ t∈ws,t.length<=1000/\jz t):Row 1000 k (gQ l ws):=by
 obtain ⟨_,l6⟩:=jq hf;have each:∀ i v,(gQ l ws)[i]?=some v->∃ s z,l[i]?=some s/\z∈ws/\v=xK s z:=fun i v e=>by
  unfold gQ at e;rw [jT] at e;obtain ⟨p,hp,rfl⟩:=Option.map_eq_some_iff.mp e;obtain ⟨h1,h2⟩:=List.getElem?_zip_eq_some.mp hp;exact ⟨_,_,h1,lU h2,rfl⟩
 refine ⟨by rw [Bj hl];lia,fun v hv=>?_,fun l' hl' i s v e1 e2=>?_⟩
 ·obtain ⟨i,hi⟩:=List.mem_iff_getElem?.mp hv;obtain ⟨s,z,_,hm,rfl⟩:=each i v hi;exact a2i (hz z hm).1 (hz z hm).2
 ·rw [hf] at hl';injection hl' with hl';subst hl';obtain ⟨s',z,h1,_,rfl⟩:=each i v e2;rw [e1] at h1;injection h1 with h1;subst h1;exact a0j _ _
theorem VR {r:Addr}{Q:VK} (h:H r=some (.lst xs)/\xs.length<sizeLine/\Q .non (upd H r (.lst (xs++[y])))):Jz (.ref r) [y] H Q:=⟨r,xs,y,rfl,rfl,h.1,h.2.1,h.2.2⟩
inductive zf (vs:List V) (H:Hp) (Q:VK):Prop
 | mk (z:Str) (_:vs=[.str z]) (_:z.length<=1000) (_:jz z) (_:(lY z=none->∀ H',Same H H'->Q .non H')) (_:∀ k ps,lY z=some (k,ps)->∀ p H',Same H H'->H' p=some (.tup (.str k::ps))->Q (.ref p) H'):zf vs H Q
def KR:Sp:=fun vs H Q _=>zf vs H Q
theorem nQ:bB ["_law_text", "_law_words", "_law_shape", "_law_row", "_law_word", "_law_kind"] ["_law_text"] (aC pF):=0x0
theorem RQ (F:iR K "_law_read" "_law_read" pF f fd) (ml:mg "len"=none) (mz:mg "zip"=none) (mu:mg "tuple"=none)  (G1:bw P w K mg base dF 1 g1 d1 [] qJ) (M1:Ms K mg "_law_shapes" g1 d1 [])
  (G2:bw P w K mg base dF 1 g2 d2 ["_law_word"] Bh) (M2:Ms K mg "_law_number" g2 d2 ["_law_word"]) (G3:bw P w K mg base dF 2 g3 d3 ["_law_row"] (RL K)) (M3:Ms K mg "_law_good" g3 d3 ["_law_row"]):bw P w K mg base dF 3 f fd ["_law_text"] KR:=by
 refine F.ok nQ 0xA 0x2
 ·obtain ⟨z,rfl,_⟩:=h;rfl
 obtain ⟨z,rfl,hz,wF,k0,k1⟩:=h;have hr1:fM 1 (A.deeper (PyProof.Rows.envOfC "_law_read" (aC pF) s.heap.objs.size f cdv)):=hr.mono 0x8;refine ⟨_,aA (bD (i:=1) nQ.nd rfl 0x3 (dH PySem.F.plainAttrs_str PySem.F.slot_str_split PySem.F.type_str_split gM (pv 0) (aj aJ aq)))
  (aA (bD (i:=2) nQ.nd rfl 0x3 (Dj (u1 hr1) (pZ G1 hr1 rfl M1.m M1.k M1.b .nil bL) (bC aL (pv 1) au 0xE) aJ ⟨rfl,rfl,rfl,rfl⟩))
  (aA (bJ (PW.pt (dZ (aK cA (pv 2) aJ (aW _)) (eO (aK jE (aM bF rfl ml PySem.boot_len 0x21) (aR bN au (aM cH rfl ml PySem.boot_len (aj (pv 2) aq))) (aW _))))) (aD (aU fV)) bf)
  (aA (bD (i:=3) nQ.nd rfl 0x3 (cX (aj (bC aL (pv 1) au 0xE) aq)))
  (aA (gb PassesOwn.never rfl (RM rfl mz (aj (cU bQ (pv 1) (dJ au) dI) (aj (pv 2) aq))) (fW rfl (aX (aQ (i:=4) nQ.nd rfl 0x3) (aX (aQ (i:=5) nQ.nd rfl 0x3) cZ)))
   (aD (bJ (aK jX (pv 5) aJ 0x16)
    (aD (dz (dH PySem.F.plainAttrs_list PySem.F.slot_list_append PySem.F.type_list_append cY (pv 3) (aj (bA G2 hr1 rfl M2.m M2.k M2.b .nil bL (aj (pv 4) aq)) aq))))
    (aD (bJ (PW.pt (ji (aK cA (pv 5) aJ (aW _)) (gD (aK cA (pv 4) aJ (aW _)))))
     (aD (dz (dH PySem.F.plainAttrs_list PySem.F.slot_list_append PySem.F.type_list_append cY (pv 3) (aj aJ aq))))
     (aD (bJ (aK cA (pv 4) aJ (aW _)) (aD (aU fV))
      (aD (dz (dH PySem.F.plainAttrs_list PySem.F.slot_list_append PySem.F.type_list_append cY (pv 3) (aj (pv 4) aq)))))))))))
  (aA (bJ (fu (dW (bA G3 hr rfl M3.m M3.k M3.b .nil bL (aj (cO iC rfl mu jZ (aj (pv 3) aq)) aq)))) (aD (aU fV)) bf)
  (aD (aU (cO iC rfl mu jZ (aj (pv 3) aq))))))))),?_⟩
 refine 0x1F;obtain ⟨k,ws,ew⟩:∃ k ws,bO z=k::ws:=by
  cases q:bO z with
  | nil=>exact absurd q (jw z)
  | cons k ws=>exact ⟨k,ws,rfl⟩
 have er:lY z=pK k ws:=by unfold lY;rw [ew]
 rw [er] at k0 k1;have hws:∀ t∈ws,t.length<=1000/\jz t:=fun t ht=>⟨Nat.le_trans (lJ (by rw [ew];exact lR _ ht)) hz,lK wF (by rw [ew];exact lR _ ht)⟩;have hwl:ws.length<=1000:=by
  have:=mX z;rw [ew,jU] at this;lia
 have ew':Txt.split z (Str.ofString " ")=k::ws:=ew;rw [ew',List.map_cons];have s1:Same H (upd H p 0x31):=ao hp _;have p1:(upd H p 0x31) p=some 0x31:=ak;generalize upd H p 0x31=H1 at s1 p1 ⊢;refine ⟨rfl,fun p2 hp2=>⟨p2,rfl,.inl ⟨_,.inl ak⟩,?_⟩⟩;have s2:Same H1 (upd H1 p2 (.dK cD)):=ao hp2 _;refine ⟨_,rfl,p,_,_,_,rfl,rfl,s2.seq (aZ.of p1),at0 _ _,lu cD (.inr k),mH.k (k:=.inr k) ak,?_⟩;rw [pJ];have p2':(upd H1 p2 (.dK cD)) p=some 0x31:=s2 _ _ p1;have s2':Same H (upd H1 p2 (.dK cD)):=s1.trans s2;generalize upd H1 p2 (.dK cD)=H2 at p2' s2' ⊢;cases hf:form k with
 | none =>
  refine 0xB;exact bU (bU (k0 (by unfold pK;rw [hf];rfl) _ s2'))
 | some l =>
  obtain ⟨l2,l6⟩:=jq hf;have lq:(oH l).length<=sizeLine:=by rw [lH];exact small 0x1
  refine 0xB;rw [show decide ((Option.map (fun l=>V.str (oH l)) (some l)).getD (V.str "?")=V.str "?")=false from XQ l2]
  refine bZ ?_;refine ⟨_,rfl,p,_,rfl,.inl (aZ.of p2'),_,rfl,oH l,rfl,lq,_,_,rfl,rfl,rfl,_,rfl,?_⟩
  by_cases hl:ws.length=l.length
  case neg =>
   refine bG (fun _=>k0 (VL hf hl) _ s2') (fun h=>absurd ?_ h);rw [decide_eq_false]
   ·rfl
   ·intro e;rw [lH,jU,bV] at e;injection e with e;exact hl 0x1
  have hn:V.int (((V.str k::ws.map V.str).length:Nat):Int)=V.int (1+((oH l).length:Int)):=by
   rw [lH,jU,bV,hl];congr 1;lia
  refine yj hn ?_;refine ⟨_,rfl,p,_,_,_,rfl,rfl,aZ.of p2',at0 _ _,small 0x5,fun r hr2=>?_⟩;have hr0:H r=none:=s2'.free hr2;have s3:Same H (upd H2 r (.lst [V.str k])):=aV s2' hr0;have p3:(upd H2 r (.lst [V.str k])) p=some 0x31:=(ao hr2 _) _ _ p2';have r3:(upd H2 r (.lst [V.str k])) r=some (.lst [V.str k]):=ak;generalize upd H2 r (.lst [V.str k])=H3 at s3 p3 r3 ⊢;refine ⟨_,rfl,_,rfl,p,_,rfl,aZ.of p3,fun q hq=>?_⟩;rw [Hw];have hq0:H q=none:=s3.free hq;have nqr:q≠r:=fun e=>by rw [e,r3] at hq;cases hq
  have s4:Same H (upd H3 q 0x15):=aV s3 hq0;have q4:(upd H3 q 0x15) q=some 0x15:=ak;have r4:(upd H3 q 0x15) r=some (.lst [V.str k]):=(ao hq _) _ _ r3;generalize upd H3 q 0x15=H4 at s4 q4 r4 ⊢;refine ⟨_,rfl,q,oH l,rfl,⟨_,aZ.of q4⟩,lC (n:=l.length) (fx:=fun i=>V.str (ws.getD i "")) (fy:=fun i=>V.str (dR [(l.getD i .d).code]))
   (fun i σ H5=>(∃ u v,σ=[some (.str z),some (.ref p),some (.str (oH l)),some (.ref r),u,v])/\Same H H5/\H5 q=some 0x15/\H5 r=some (.lst (V.str k::(gQ l ws).take i))/\∀ j s t,j<i->l[j]?=some s->ws[j]?=some t->s.num=true\/t≠"") ?_ ⟨⟨none,none,rfl⟩,s4,q4,r4,fun j s t hj=>by lia⟩ ?_ ?_⟩
  ·rintro i σ H5 ⟨_,_,W0,_⟩;have st:=El (K:=K) (z:=oH l) (i:=i) (aZ.of W0);rw [jr,bV,bV,hl,Nat.min_self] at st;refine ⟨fun hi=>⟨(st.1 hi).1,fun v H' y=>?_⟩,st.2⟩;obtain ⟨r',e1,e2,e3⟩:=(st.1 hi).2 v H' y;refine ⟨r',e1,e2,?_⟩;have e4:=wk hi;rw [jr] at e4;have e5:(ws.map V.str).getD i .non=V.str (ws.getD i ""):=by
    rw [iI,iI,jT,dO 0x1];rfl
   rw [e3,e4,e5]
  ·rintro i σ H5 t hi ⟨⟨u,v,rfl⟩,s5,q5,r5,hw⟩ ht;have h1:l[i]?=some l[i]:=dO hi;have h2:ws[i]?=some (ws[i]' 0x1):=dO 0x1;have h3:=HW h1 h2;obtain ⟨Uk,wF⟩:=hws _ (lU h2);rw [at_getD h1,at_getD h2];have sq:Same H5 (upd H5 t (.tup [V.str (ws[i]' 0x1),V.str (dR [(l[i]).code])])):=ao ht _;have fin:∀ H6,Same (upd H5 t (.tup [V.str (ws[i]' 0x1),V.str (dR [(l[i]).code])])) H6->(l[i].num=true\/(ws[i]' 0x1)≠"")->∀ x,x=xK l[i] (ws[i]' 0x1)->H6 r=some (.lst (V.str k::(gQ l ws).take i))/\(V.str k::(gQ l ws).take i).length<sizeLine/\((∃ u v,([some (V.str z),some (V.ref p),some (V.str (oH l)),some (V.ref r),some (V.str (ws[i]' 0x1)),some (V.str (dR [(l[i]).code]))]:List (Option V))=[some (.str z),some (.ref p),some (.str (oH l)),some (.ref r),u,v])/\Same H (upd H6 r (.lst (V.str k::(gQ l ws).take i++[x])))/\(upd H6 r (.lst (V.str k::(gQ l ws).take i++[x]))) q=some 0x15/\(upd H6 r (.lst (V.str k::(gQ l ws).take i++[x]))) r=some (.lst (V.str k::(gQ l ws).take (i+1)))/\∀ j s t,j<i+1->l[j]?=some s->ws[j]?=some t->s.num=true\/t≠""):=by
    intro H6 s6 hok x hx;refine ⟨s6 _ _ (sq _ _ r5),?_,⟨_,_,rfl⟩,aV (s5.trans (sq.trans s6)) hr0,?_,?_,fun j s' t' hj e1 e2=>?_⟩
    ·rw [jU,List.length_take];exact cQ 0x1
    ·rw [aG nqr];exact s6 _ _ (sq _ _ q5)
    ·rw [ak,List.take_add_one,h3,hx];rfl
    ·by_cases e:j<i
     ·exact hw j s' t' e e1 e2
     ·have:j=i:=by lia
      subst this;rw [h1] at e1;rw [h2] at e2;injection e1 with e1;injection e2 with e2;rw [<- e1,<- e2];exact hok
   refine ⟨t,_,rfl,dG.of ak,rfl,_,_,rfl,_,_,rfl,rfl,?_⟩;refine 0x20;rw [HF];have r6:=sq _ _ r5;have s6':=s5.trans sq;refine bG (fun c1=>?_) (fun c1=>?_)
   ·exact ⟨_,rfl,.inl ⟨rfl,_,aZ.of r6⟩,_,rfl,_,rfl,Uk,wF,fun H6 s6=>VR (fin H6 s6 (.inl c1) _ (by unfold xK;rw [if_pos c1]))⟩
   ·have c1':(l[i]).num=false:=Bool.eq_false_iff.mpr c1;have lst2:∀ (hnc:¬ ((l[i])=.c/\(ws[i]' 0x1)="-")),¬ (ws[i]' 0x1)=""->V.str (ws[i]' 0x1)=xK l[i] (ws[i]' 0x1):=fun hnc _=>by
     unfold xK;rw [if_neg c1,if_neg hnc]
    refine 0xB;rw [HJ];refine bG (fun c2=>?_) (fun c2=>?_)
    ·have hc:l[i]=cP.c:=fO c2;refine 0xB;refine bG (fun c3=>?_) (fun c3=>?_)
     ·have e3:(ws[i]' 0x1)="-":=by
       have:=fO c3;injection this
      exact ⟨_,rfl,.inl ⟨rfl,_,aZ.of r6⟩,VR (fin _ (Same.refl _) (.inr (by rw [e3];decide +kernel)) _ (by unfold xK;rw [if_neg c1,if_pos ⟨hc,e3⟩]))⟩
     ·have e3:¬ (ws[i]' 0x1)="-":=fun e=>c3 (by rw [e];rfl);refine 0xB;refine bG (fun c4=>?_) (fun c4=>?_)
      ·have e4:(ws[i]' 0x1)="":=by
        have:=fO c4;injection this
       exact k0 (zc hf h1 (by rw [h2,e4]) c1') _ s6'
      ·have e4:¬ (ws[i]' 0x1)="":=fun e=>c4 (by rw [e];rfl);exact ⟨_,rfl,.inl ⟨rfl,_,aZ.of r6⟩,_,rfl,VR (fin _ (Same.refl _) (.inr e4) _ (lst2 (fun h=>e3 h.2) e4))⟩
    ·have hc:¬ l[i]=cP.c:=fun e=>c2 (decide_eq_true e);refine bZ ?_;refine 0xB;refine bG (fun c4=>?_) (fun c4=>?_)
     ·have e4:(ws[i]' 0x1)="":=by
       have:=fO c4;injection this
      exact k0 (zc hf h1 (by rw [h2,e4]) c1') _ s6'
     ·have e4:¬ (ws[i]' 0x1)="":=fun e=>c4 (by rw [e];rfl);exact ⟨_,rfl,.inl ⟨rfl,_,aZ.of r6⟩,_,rfl,VR (fin _ (Same.refl _) (.inr e4) _ (lst2 (fun h=>hc h.1) e4))⟩
  ·rintro σ H5 ⟨⟨u,v,rfl⟩,s5,q5,r5,hw⟩;rw [List.take_of_length_le (by rw [Bj hl];exact Nat.le_refl _)] at r5;have ro:=VN hf hl (fun i s t e1 e2=>hw i s t (List.getElem?_eq_some_iff.mp e1).1 e1 e2);rw [ro] at k0 k1;have R:=VP hf hl hws;refine ⟨_,rfl,r,_,rfl,.inl ⟨aZ.of r5,fun a ha=>?_⟩⟩;have s6:Same H5 (upd H5 a (.tup (V.str k::gQ l ws))):=ao ha _;refine ⟨a,k,gQ l ws,rfl,dG.of ak,R,fun H7 s7=>⟨_,rfl,?_⟩⟩;cases hwm:oJ k (gQ l ws) with
   | false =>
    rw [hwm,if_neg Bool.false_ne_true] at k0;exact bU (k0 rfl _ (s5.trans (s6.trans s7)))
   | true =>
    rw [hwm,if_pos rfl] at k1;refine bZ ?_;refine ⟨_,rfl,r,_,rfl,.inl ⟨aZ.of (s7 _ _ (s6 _ _ r5)),fun b hb=>?_⟩⟩;exact k1 _ _ rfl b _ ((s5.trans (s6.trans s7)).trans (ao hb _)) ak
theorem fQ (a b:List Str):jl (a++b)=jl a+jl b:=by
 unfold jl;rw [jB,List.sum_append]
theorem KY (ws:List Str) (n:Nat):jl (ws.drop n)<=jl ws:=by
 have:=fQ (ws.take n) (ws.drop n);rw [List.take_append_drop] at this;lia
theorem W2 (ws:List Str) (n:Nat):jl (ws.take n)<=jl ws:=by
 have:=fQ (ws.take n) (ws.drop n);rw [List.take_append_drop] at this;lia
theorem HX (ws:List Str) (lo hi:Option Int):jl (aO ws lo hi)<=jl ws:=by
 unfold aO;exact Nat.le_trans (W2 _ _) (KY _ _)
theorem cW (ws:List Str) (lo hi:Option Int):jY (ws.map V.str) lo hi=(aO ws lo hi).map V.str:=by
 show aO (ws.map V.str) lo hi=_
 unfold aO;rw [bV,List.map_take,List.map_drop]
theorem ig (h:jl ts<=2000):JoinOk blank ts=true:=by
 have e:blank.length=1:=by decide +kernel
 have fo:∀ (us:List Str) (n:Nat),us.foldl (fun a p=>a+p.length+blank.length) n=n+jl us:=by
  intro us
  induction us with
  | nil=>intro n;rfl
  | cons u r ih =>
   intro n;rw [List.foldl_cons,ih,e];unfold jl;rw [List.map_cons,List.sum_cons];lia
 unfold JoinOk;rw [List.foldl_toArray']
 ·have:=fo ts 0;unfold Builtin.Str.tooLong;have:=small (n:=2500) 0x1;simp;lia
 ·rfl
theorem jf (ts:List Str):(Txt.join blank ts).length<=jl ts:=by
 have e:Txt.join blank ts=Str.join blank ts:=StrLaws.glued_eq_join _ _;rw [e,ux];cases ts with
 | nil=>exact Nat.zero_le _
 | cons x r =>
  have:=uE (c:=32) (ws:=x::r) (List.cons_ne_nil _ _);lia
theorem wG (h:∀ t∈ts,jz t):jz (Txt.join blank ts):=by
 have e:Txt.join blank ts=Str.join blank ts:=StrLaws.glued_eq_join _ _;rw [e,ux];intro c hc;rcases mem_join hc with rfl | ⟨t,ht,hx⟩
 ·decide
 ·exact h t ht c hx
theorem nR (h:jz z) (lo hi:Option Int):jz (dR (aO z.cps.toList lo hi)):=fun c hc=>h c (jm hc)
theorem fL (z:Str) (lo hi:Option Int):(dR (aO z.cps.toList lo hi)).length<=z.length:=by
 rw [gK,jt];exact tu _ _ _
theorem nU {y:Str} (h1:jz x) (h2:jz y):jz (x++y):=fun c hc=>by
 simp only [Str.cps_append,Array.toList_append] at hc;rcases List.mem_append.mp hc with h | h
 ·exact h1 c h
 ·exact h2 c h
theorem iu (h:z.cps.toList.all (fun c=>decide (c<128))=true):jz z:=fun c hc=>fO (List.all_eq_true.mp h c hc)
inductive Em (vs:List V) (H:Hp) (Q:VK):Prop
 | mk (n:Int) (_:vs=[.int n]) (_:∀ y:Str,y.length=1->jz y->Q (.str y) H):Em vs H Q
def RT:Sp:=fun vs H Q _=>Em vs H Q
theorem RV:bB ["_law_code", "_law_some"] ["_law_code"] (aC yQ):=0x0
def gj:Str:=" -0123456789abcdefghijklmnopqrstuvwxyzAZ/.,~\n"
theorem W3 (F:iR K "_law_sign_of" "_law_sign_of" yQ f fd) (ml:mg "len"=none):bw P w K mg base dF 1 f fd ["_law_code"] RT:=by
 refine F.ok RV 0xA 0x2
 ·obtain ⟨z,rfl,_⟩:=h;rfl
 obtain ⟨n,rfl,k⟩:=h;refine ⟨_,aA (bD (i:=1) RV.nd rfl 0x3 aJ)
  (aD (aU (bC v7 (pv 1) (aR bI (pv 0) (aM cH rfl ml PySem.boot_len 0x21)) 0xE))),?_⟩
 have hl:gj.length=gj.cps.toList.length:=jt _;have h0:0<gj.cps.toList.length:=by decide +kernel
 have hs:gj.length<=sizeLine:=by decide +kernel
 have q0:=Int.emod_nonneg n (show ((gj.length:Nat):Int)≠0 by lia)
 have q1:=Int.emod_lt_of_pos n (show (0:Int)<((gj.length:Nat):Int) by lia)
 obtain ⟨j,hj⟩:∃ j:Nat,n % ((gj.length:Nat):Int)=(j:Int):=⟨(n % ((gj.length:Nat):Int)).toNat,by lia⟩;have hjl:j<gj.cps.toList.length:=by lia
 refine ⟨_,rfl,_,rfl,_,rfl,gj,rfl,hs,_,_,rfl,rfl,(by show (0:Int)<((gj.length:Nat):Int);lia),gj,_,gj.cps.toList[j],rfl,rfl,hs,?_,?_⟩
 ·rw [hj];exact fH (dO hjl)
 ·refine k _ rfl fun c hc=>?_;have:c=gj.cps.toList[j]:=by simpa using hc
  rw [this];exact iu (z:=gj) 0x4 _ (List.getElem_mem hjl)
end M
namespace L2
open PySem PySem.Spec PyProof.Rows PySem.W
section
variable {a b:Expr}{op:Operator}{q:Pos}
theorem RW (ha:PE X (.BinOp a op b p) te) (hr:PA X es t):PA X (.BinOp a op b p::es) (gR te t):=aj ha hr
theorem Bl (ha:PE X (.Subscript a b p) te) (hr:PA X es t):PA X (.Subscript a b p::es) (gR te t):=aj ha hr
theorem HY {c:Const} (ha:PE X (.Constant c j p) te) (hr:PA X es t):PA X (.Constant c j p::es) (gR te t):=aj ha hr
theorem jP:qj (.BinOp a op b p):=fun _ _=>rfl
theorem r1 (hm:YL X "str.join" (rJoin X.K)) (ho:PE X a to) (ha:PA X (e::es) t)
   (hbase:attributeBase a "join" X.env (eval a X.env)=eval a X.env )
  (hfew:((backTo cpos (starEach (e::es) X.env)).all (fun x=>!x.1)&&(backToKw cpos (keywordEach [] X.env)).all (fun x=>x.1.isSome)
   &&decide ((e::es).length+([]:List Keyword).length+(if ([]:List Keyword).isEmpty then 0 else 1)<30))=true )
  (hline:(apos.endLine==cpos.line)=true) (hs:starEach (e::es) X.env=(false,eval e X.env)::starEach es X.env ) (hplain:(backTo cpos (starEach es X.env)).any (·.1)=false ) :
  PE X (.Call (.Attribute a "join" apos) (e::es) [] cpos) (YS X.K "str" (rJoin X.K) to t):=dH (name:="join") PySem.F.plainAttrs_str PySem.F.slot_str_join PySem.F.type_str_join hm ho ha hbase hfew hline hs hplain
theorem r5 {o:Pos}:attributeBase (.Constant (.str x) j o) "join" X.env (eval (.Constant (.str x) j o) X.env)=eval (.Constant (.str x) j o) X.env:=rfl
theorem r6 {o:Pos} (ho:PE X (.Constant (.str x) j o) to) (ha:PA X [e] t)
  (hfew:((backTo cpos (starEach [e] X.env)).all (fun x=>!x.1)&&(backToKw cpos (keywordEach [] X.env)).all (fun x=>x.1.isSome)
   &&decide (([e]).length+([]:List Keyword).length+(if ([]:List Keyword).isEmpty then 0 else 1)<30))=true )
  (hline:(apos.endLine==cpos.line)=true) (hs:starEach [e] X.env=(false,eval e X.env)::starEach [] X.env ) (hplain:(backTo cpos (starEach [] X.env)).any (·.1)=false ) :
  PE X (.Call (.Attribute (.Constant (.str x) j o) "join" apos) [e] [] cpos) (YS X.K "str" (rJoin X.K) to t):=r1 nD ho ha r5 hfew hline hs hplain
theorem q6:((backTo cpos (starEach [.BinOp a op b q] X.env)).all (fun x=>!x.1)&&(backToKw cpos (keywordEach [] X.env)).all (fun x=>x.1.isSome)
     &&decide (([Expr.BinOp a op b q]).length+([]:List Keyword).length+(if ([]:List Keyword).isEmpty then 0 else 1)<30))=true:=rfl
theorem RX (ha:PE X (.BinOp a op b q) te) (hline:(apos.endLine==cpos.line)=true):PE X (.Call (.Attribute (.Constant (.str x) j p) "join" apos) [.BinOp a op b q] [] cpos) (YS X.K "str" (rJoin X.K) (tC (.str x)) (gR te oG)) :=
 r6 aJ (RW ha aq) q6 hline rfl rfl
structure WE (X:Cx) (e:Expr) (t:TE):Prop where
 h:PE X e t
structure WA (X:Cx) (es:List Expr) (t:TA):Prop where
 h:PA X es t
structure WO (X:Cx) (o:Option Expr) (t:_):Prop where
 h:PO X o t
structure WS (X:Cx) (st:Stmt) (t:TS):Prop where
 h:PS X st t
structure Eo (X:Cx) (sts:List Stmt) (t:TS):Prop where
 h:BW X sts t
theorem Eo.out (w:∃ t,Eo X sts t/\t D σ H):∃ t,BW X sts t/\t D σ H:=by
 obtain ⟨t,⟨h⟩,k⟩:=w;exact ⟨t,h,k⟩
theorem cF:WE X (.Constant (.str x) j p) (tC (.str x)):=⟨aJ⟩
theorem cu {i:Int}:WE X (.Constant (.int i) j p) (tC (.int i)):=⟨au⟩
theorem wv (i:Nat)  (hN:X.N[i]?=some x:=by rfl) (hv:Vis X.env.scope x:=by first | exact Or.inl rfl | exact Or.inr 0x3 | exact Or.inr (Or.inr rfl)) (hd:0x17=false:=by decide)
  (hcd:(x==("__classdict__" : Str))=false:=by decide):WE X (.Name x p) (Yw i):=⟨Ot hN hv hd hcd⟩
theorem cM:WO X none Jv:=⟨dI⟩
theorem cB (h:WE X e te):WO X (some e) (Xf te):=⟨dJ h.h⟩
theorem jQ:WA X [] oG:=⟨aq⟩
theorem cG {c:Const} (ha:WE X (.Constant c j p) te) (hr:WA X es t):WA X (.Constant c j p::es) (gR te t):=⟨HY ha.h hr.h⟩
theorem mY (ha:WE X (.Subscript a b p) te) (hr:WA X es t):WA X (.Subscript a b p::es) (gR te t):=⟨Bl ha.h hr.h⟩
theorem lM (h:WA X es t):WE X (.List es p) (Uy t):=⟨cX h.h⟩
theorem bR (ho:kZ X (binaryOp op) r) (ha:WE X a ta) (hb:WE X b tb):WE X (.BinOp a op b p) (Xb r ta tb):=⟨aR ho ha.h hb.h⟩
theorem eG (hr:Xh X r) (ha:WE X a ta) (hb:WE X b tb) (hs:qj b):WE X (.Subscript a b p) (Xb r ta tb):=⟨bC hr ha.h hb.h hs⟩
theorem bW {c:Const}:qj (.Constant c j p):=fun _ _=>rfl
theorem eZ {lo hi:Option Expr}{tl th:_}{r:V->Option Int->Option Int->Hp->VK->Prop} (hr:SlR X r) (he:WE X e te) (hl:WO X lo tl) (hu:WO X hi th):WE X (.Subscript e (.Slice lo hi none q) p) (tSl r te tl th):=⟨cU hr he.h hl.h hu.h⟩
theorem qP (hg:Gl X "len") (hm:X.mg "len"=none) (ha:WE X (.Name x p2) te):WE X (.Call (.Name "len" p) [.Name x p2] [] q) (tCB (fun xs H Q=>∃ p ys,xs=[.ref p]/\(aZ X.K H p ys\/dG X.K H p ys)/\Q (.int ys.length) H) (gR te oG)) :=
 ⟨aM bF hg hm PySem.boot_len (aj ha.h aq)⟩
theorem KZ (hg:Gl X "len") (hm:X.mg "len"=none) (ha:WE X (.Name x p2) te):WE X (.Call (.Name "len" p) [.Name x p2] [] q) (tCB (fun xs H Q=>∃ z,xs=[V.str z]/\z.length<=sizeLine/\Q (V.int ↑z.length) H) (gR te oG)) :=
 ⟨aM cH hg hm PySem.boot_len (aj ha.h aq)⟩
theorem qQ (ha:WE X (.BinOp a op b q) te) (hline:(apos.endLine==cpos.line)=true):WE X (.Call (.Attribute (.Constant (.str x) j p) "join" apos) [.BinOp a op b q] [] cpos) (YS X.K "str" (rJoin X.K) (tC (.str x)) (gR te oG)):=⟨RX ha.h hline⟩
theorem wH {y:Str} (ho:WE X (.Name y p2) to) (hbase:attributeBase (.Name y p2) "split" X.env (eval (.Name y p2) X.env)=eval (.Name y p2) X.env) (hline:(apos.endLine==cpos.line)=true):WE X (.Call (.Attribute (.Name y p2) "split" apos) [.Constant (.str x) j p] [] cpos) (YS X.K "str" Hj to (gR (tC (.str x)) oG)) :=
 ⟨dH (name:="split") PySem.F.plainAttrs_str PySem.F.slot_str_split PySem.F.type_str_split gM ho.h (HY aJ aq) hbase rfl hline⟩
theorem cR (hN:X.N.Nodup) (hi:X.N[i]?=some x) (hx:Loc X.env.scope x) (he:WE X e te) (hs:swapsWith e (some (.Name x pos')) pos.line X.env=pure false:=by rfl) (hf:X.fn x=true\/X.env.scope.names.lookup x=some .local:=by first | exact .inl rfl | exact .inr rfl) :
  WS X (.Assign [.Name x pos'] e pos) (tQ te (dX i)):=⟨bD hN hi hx he.h hs hf⟩
theorem iw (he:WE X e te):WS X (.Return (some e) p) (Ox te):=⟨aU he.h⟩
theorem cI:Eo X [] X7:=⟨bf⟩
theorem bT {ts:TS} (h:WS X st ts):Eo X [st] ts:=⟨aD h.h⟩
theorem aP {ts us:TS} (h:WS X st ts) (r:Eo X sts us):Eo X (st::sts) (zU ts us):=⟨aA h.h r.h⟩
theorem gk {i:Int}{jj:Nat}{A B:List Stmt}{ts us:TS} (ho:kZ X (compareOp .Eq) r) (hv:WE X (.Name x p1) tv) (ha:Eo X A ts) (hb:Eo X B us):WS X (.If (.Compare (.Name x p1) [.Eq] [.Constant (.int i) jj p2] p3) A B pos) (oW (Jo (Xb r tv (tC (.int i)))) ts us) :=
 ⟨bJ (aK ho hv.h au (aW _)) ha.h hb.h⟩
theorem Ep {k:Nat}{E:XK} (F:bw X.prog X.w X.K X.mg X.base CX k f fd ps sp) (hr:fM k X.A) (hg:Gl X x) (hm:X.mg x=some (.ref f)) (hk:PySem.W.keepIn X.K (.ref f)=true) (hb:Binds X.K fd ps []) (hx:Passes CX X E)
  (ha:WE X (.Subscript a b p) te) (hdb:0x17=false:=by decide):WE X (.Call (.Name x p1) [.Subscript a b p] [] pos) (Jq sp [] E (gR te oG)):=⟨bA F hr hg hm hk hb .nil hx (Bl ha.h aq) hdb⟩
end
end L2
namespace M
open PySem L2
def tE (z:Str):Prop:=∀ c∈z.cps.toList,c<128/\32<=c
def NF (z:Str):Prop:=(10:Nat)∉z.cps.toList
def xr (z:Str):Nat:=z.cps.toList.count 10
theorem bH (h:z.cps.toList.all (fun c=>decide (c<128/\32<=c))=true):tE z:=fun c hc=>fO (List.all_eq_true.mp h c hc)
theorem tE.asc (h:tE z):jz z:=fun c hc=>(h c hc).1
theorem tE.nf (h:tE z):NF z:=fun hc=>by have:=(h _ hc).2;lia
theorem RZ (h:∀ t∈ts,tE t):tE (Txt.join blank ts):=by
 have e:Txt.join blank ts=Str.join blank ts:=StrLaws.glued_eq_join _ _;rw [e,ux];intro c hc;rcases mem_join hc with rfl | ⟨t,ht,hx⟩
 ·decide
 ·exact h t ht c hx
theorem nW {y:Str} (h1:tE x) (h2:tE y):tE (x++y):=fun c hc=>by
 simp only [Str.cps_append,Array.toList_append] at hc;rcases List.mem_append.mp hc with h | h
 ·exact h1 c h
 ·exact h2 c h
theorem Bm (h:∀ t∈ts,NF t):NF (Txt.join blank ts):=by
 have e:Txt.join blank ts=Str.join blank ts:=StrLaws.glued_eq_join _ _;rw [e,ux];intro hc;rcases mem_join hc with h0 | ⟨t,ht,hx⟩
 ·exact absurd h0 0x8
 ·exact h t ht hx
theorem pL (h:NF z):xr z=0:=List.count_eq_zero.mpr h
theorem nY (x y:Str):xr (x++y)=xr x+xr y:=by
 unfold xr;rw [Str.cps_append,Array.toList_append,List.count_append]
theorem S6 (z:Str):xr z<=z.length:=by
 unfold xr;rw [jt];exact List.count_le_length
theorem sE (h:NF z) (lo hi:Option Int):NF (dR (aO z.cps.toList lo hi)):=fun hc=>h (jm hc)
theorem Bo {t:Str} (hz:NF z) (h:t∈bO z):NF t:=fun hc=>by
 have:=qN (c:=32) h _ hc;rw [mW] at this;exact hz this
theorem a0k {y:Str} (h1:NF x) (h2:NF y):NF (x++y):=fun hc=>by
 rw [Str.cps_append,Array.toList_append] at hc;rcases List.mem_append.mp hc with h | h
 ·exact h1 h
 ·exact h2 h
theorem Bp (h:NF z):xr z<=1:=by rw [pL h];exact Nat.zero_le _
theorem Er {a y b:Str} (ha:NF a) (hy:y.length=1) (hb:NF b):xr (a++y++b)<=1:=by
 have:=S6 y;rw [nY,nY,pL ha,pL hb];lia
theorem S8 {a b:Str} (h:a.cps.toList=b.cps.toList):a=b:=by
 cases a;cases b;simp at h;rw [h]
theorem Bq (a b c:Str):a++b++c=a++(b++c):=S8 (by simp only [Str.cps_append,Array.toList_append,List.append_assoc])
theorem XR (a:Str):a++""=a:=S8 (by rw [Str.cps_append,Array.toList_append];show a.cps.toList++[]=_;rw [List.append_nil])
abbrev cJ (z:Str):List Str:=Txt.split z "\n"
theorem W4:(("\n" : Str))=⟨#[10]⟩:=by decide +kernel
theorem mZ (z:Str):cJ z≠[]:=qH _ _
theorem jx (z:Str):Str.join ⟨#[10]⟩ (cJ z)=z:=by
 unfold cJ;rw [W4];exact StrLaws.join_split _ _
theorem sG {t:Str} (h:t∈cJ z):NF t:=by
 unfold cJ at h;rw [W4] at h;exact StrLaws.split_free _ 10 t h
theorem S9 (z:Str):jl (cJ z)=z.length+1:=by
 have:=uE (c:=10) (mZ z);rw [jx] at this;exact this.symm
theorem Br {t:Str} (hz:jz z) (h:t∈cJ z):jz t:=fun c hc=>by
 have:=qN (c:=10) h c hc;rw [jx] at this;exact hz c this
theorem Ia (hn:ls≠[]) (h:∀ t∈ls,NF t) (e:Str.join ⟨#[10]⟩ ls=z):cJ z=ls:=by
 unfold cJ;rw [W4];exact yK (StrLaws.split_free _ 10) h (qH _ _) hn ((StrLaws.join_split _ _).trans e.symm)
theorem qR {c:Nat}:∀ {xs ys:List Str},xs≠[]->ys≠[]->Str.join ⟨#[c]⟩ (xs++ys)=Str.join ⟨#[c]⟩ xs++⟨#[c]⟩++Str.join ⟨#[c]⟩ ys
 | [],_,h,_=>absurd rfl h
 | _,[],_,h=>absurd rfl h
 | [x],y::r,_,_=>rfl
 | x::x2::r,y::r',_,_=>by
  have ih:=qR (c:=c) (xs:=x2::r) (ys:=y::r') (List.cons_ne_nil _ _) (List.cons_ne_nil _ _)
  show x++⟨#[c]⟩++Str.join ⟨#[c]⟩ ((x2::r)++(y::r'))=x++⟨#[c]⟩++Str.join ⟨#[c]⟩ (x2::r)++⟨#[c]⟩++Str.join ⟨#[c]⟩ (y::r')
  rw [ih];simp only [Bq]
theorem W5 (a b:Str):cJ (a++⟨#[10]⟩++b)=cJ a++cJ b:=by
 refine Ia (fun h=>mZ a (List.append_eq_nil_iff.mp h).1) (fun t ht=>?_) ?_
 ·rcases List.mem_append.mp ht with h | h
  ·exact sG h
  ·exact sG h
 ·rw [qR (mZ a) (mZ b),jx,jx]
theorem zj:∀ {ls:List Str},ls≠[]->cJ (Str.join ⟨#[10]⟩ ls)=ls.flatMap cJ
 | [],h=>absurd rfl h
 | [x],_=>by rw [join_one,List.flatMap_cons,List.flatMap_nil,List.append_nil]
 | x::y::r,_=>by
  rw [mV,W5,zj (List.cons_ne_nil _ _)];rfl
theorem Bs (h:NF z):cJ z=[z]:=Ia (List.cons_ne_nil _ _) (fun t ht=>by rw [List.mem_singleton.mp ht];exact h) rfl
theorem Es:∀ {ls:List Str},ls≠[]->(∀ t∈ls,NF t)->xr (Str.join ⟨#[10]⟩ ls)+1=ls.length
 | [],h,_=>absurd rfl h
 | [x],_,h=>by
  rw [join_one,pL (h x List.mem_cons_self)];rfl
 | x::y::r,_,h=>by
  have ih:=Es (ls:=y::r) (List.cons_ne_nil _ _) fun t ht=>h t (lR _ ht);rw [mV,nY,nY,pL (h x List.mem_cons_self)];have e:xr ⟨#[10]⟩=1:=by decide +kernel
  rw [e,jU,<- ih];lia
theorem uG (z:Str):(cJ z).length=xr z+1:=by
 have:=Es (mZ z) fun t ht=>sG ht;rw [jx] at this;exact this.symm
theorem a0l {t:Str} (h:t∈cJ z):t.length<=z.length:=by
 have:=RD h;rw [S9] at this;lia
theorem W6 (a b:Str)  (h:∀ t∈cJ (a++b),t.length<=n):(cJ a).length<=(cJ (a++b)).length/\∀ t∈cJ a,t.length<=n:=by
 refine ⟨by rw [uG,uG,nY];lia,fun t ht=>?_⟩;obtain ⟨us,u,eu⟩:∃ us u,cJ a=us++[u]:=by
  rcases List.eq_nil_or_concat (cJ a) with e | ⟨us,u,e⟩
  ·exact absurd e (mZ a)
  ·exact ⟨us,u,by rw [e,List.concat_eq_append]⟩
 obtain ⟨v,vs,ev⟩:∃ v vs,cJ b=v::vs:=by
  cases e:cJ b with
  | nil=>exact absurd e (mZ b)
  | cons v vs=>exact ⟨v,vs,rfl⟩
 have ea:a=Str.join ⟨#[10]⟩ (us++[u]):=by rw [<- eu,jx]
 have eb:b=Str.join ⟨#[10]⟩ (v::vs):=by rw [<- ev,jx]
 have uf:∀ t∈us++[u],NF t:=fun t ht=>sG (z:=a) (by rw [eu];exact ht);have vf:∀ t∈v::vs,NF t:=fun t ht=>sG (z:=b) (by rw [ev];exact ht);have wf:NF (u++v):=fun hc=>by
  rw [Str.cps_append,Array.toList_append] at hc;rcases List.mem_append.mp hc with h | h
  ·exact uf u 0x5 h
  ·exact vf v 0x5 h
 have jl1:∀ (vs:List Str),Str.join ⟨#[10]⟩ ((u++v)::vs)=u++Str.join ⟨#[10]⟩ (v::vs):=fun vs=>by
  cases vs with
  | nil=>rfl
  | cons y r=>rw [mV,mV];simp only [Bq]
 have e:cJ (a++b)=us++((u++v)::vs):=by
  refine Ia 0x5 (fun t ht=>?_) ?_
  ·rcases List.mem_append.mp ht with h | h
   ·exact uf t (List.mem_append_left _ h)
   ·rcases List.mem_cons.mp h with rfl | h
    ·exact wf
    ·exact vf t (lR _ h)
  ·rw [ea,eb];cases us with
   | nil=>exact jl1 vs
   | cons x r =>
    rw [qR (List.cons_ne_nil _ _) (List.cons_ne_nil _ _),jl1,qR (List.cons_ne_nil _ _) (List.cons_ne_nil _ _),join_one];simp only [Bq]
 rw [eu] at ht;rcases List.mem_append.mp ht with h1 | h1
 ·exact h t (by rw [e];exact List.mem_append_left _ h1)
 ·rw [List.mem_singleton.mp h1];have:=h (u++v) (by rw [e];simp);rw [Str.length_append] at this;lia
def ends (ls:List Str):List Str:=ls.map fun t=>t++⟨#[10]⟩
theorem zm:∀ ls:List Str,Str.join "" (ends ls)=Str.join ⟨#[10]⟩ (ls++[("" : Str)])
 | []=>rfl
 | [x]=>by
  show x++⟨#[10]⟩=x++⟨#[10]⟩++""
  rw [XR]
 | x::y::r=>by
  have ih:=zm (y::r)
  show x++⟨#[10]⟩++""++Str.join "" (ends (y::r))=x++⟨#[10]⟩++Str.join ⟨#[10]⟩ ((y::r)++[("" : Str)])
  rw [ih,XR]
inductive Eu (K:PySem.W.Frag) (vs:List V) (H:Hp) (Q:VK):Prop
 | mk (z:Str) (a:Addr) (ds:List Int) (n:Nat) (_:vs=[.str z,.ref a]) (_:aZ K H a (ds.map V.int)) (_:4<=ds.length) (_:(∀ v∈ds,Hs v)) (_:z.length<=n) (_:n<=300) (_:jz z) (_:NF z) (_:∀ y H',Same H H'->y.length<=3 * n+30->jz y->xr y<=1->Q (.str y) H'):Eu K vs H Q
def Sd (K:PySem.W.Frag):Sp:=fun vs H Q _=>Eu K vs H Q
theorem sH:bB ["_law_text", "_law_d", "_law_at", "_law_words", "_law_here", "_law_way", "_law_some"] ["_law_text", "_law_d"] (aC yR):=0x0
theorem W7 (F:iR K "_law_bent_text" "_law_bent_text" yR f fd) (ml:mg "len"=none)  (G1:bw P w K mg base dF 1 g1 d1 ["_law_code"] RT) (M1:Ms K mg "_law_sign_of" g1 d1 ["_law_code"]):bw P w K mg base dF 2 f fd ["_law_text", "_law_d"] (Sd K):=by
 refine F.ok sH 0xA 0x2
 ·obtain ⟨z,a,ds,n,rfl,_⟩:=h;rfl
 obtain ⟨z,a,ds,n,rfl,hS,h4,hok,hz,hn,wF,HN,k⟩:=h;refine Eo.out ⟨_,aP (cR (i:=2) sH.nd rfl 0x3 (bR bI (eG aL (wv 1) cu bW) (bR bN (KZ rfl ml (wv 0)) cu)))
  (aP (cR (i:=3) sH.nd rfl 0x3 (wH (wv 0) rfl rfl))
  (aP (cR (i:=4) sH.nd rfl 0x3 (bR bI (eG aL (wv 1) cu bW) (qP rfl ml (wv 3))))
  (aP (cR (i:=5) sH.nd rfl 0x3 (bR bI (eG aL (wv 1) cu bW) cu))
  (aP (gk cA (wv 5) (bT (iw (bR cj (bR cj (eZ lg (wv 0) cM (cB (wv 2))) (Ep G1 hr rfl M1.m M1.k M1.b bL (eG aL (wv 1) cu bW))) (eZ lg (wv 0) (cB (wv 2)) cM)))) cI)
  (aP (gk cA (wv 5) (bT (iw (bR cj (eZ lg (wv 0) cM (cB (wv 2))) (eZ lg (wv 0) (cB (bR bN (wv 2) cu)) cM)))) cI)
  (aP (gk cA (wv 5) (bT (iw (bR cj (bR cj (eZ lg (wv 0) cM (cB (wv 2))) (Ep G1 hr rfl M1.m M1.k M1.b bL (eG aL (wv 1) cu bW))) (eZ lg (wv 0) (cB (bR bN (wv 2) cu)) cM)))) cI)
  (aP (gk cA (wv 5) (aP (cR (i:=6) sH.nd rfl 0x3 (lM (cG cF (cG cF (cG cF (cG cF (cG cF (cG cF (cG cF (cG cF (cG cF (mY (eG aL (wv 3) (bR bI (eG aL (wv 1) cu bW) (qP rfl ml (wv 3))) jP) (cG cF jQ))))))))))))) (bT (iw (qQ (bR gH (bR gH (eZ bQ (wv 3) cM (cB (wv 4))) (lM (mY (eG aL (wv 6) (bR bI (eG aL (wv 1) cu bW) (qP rfl ml (wv 6))) jP) jQ))) (eZ bQ (wv 3) (cB (bR bN (wv 4) cu)) cM)) rfl)))) cI)
  (aP (gk cA (wv 5) (bT (iw (qQ (bR gH (eZ bQ (wv 3) cM (cB (wv 4))) (eZ bQ (wv 3) (cB (bR bN (wv 4) cu)) cM)) rfl))) cI)
  (aP (gk cA (wv 5) (bT (iw (qQ (bR gH (bR gH (eZ bQ (wv 3) cM (cB (wv 4))) (eZ bQ (wv 3) (cB (wv 4)) (cB (bR bN (wv 4) cu)))) (eZ bQ (wv 3) (cB (wv 4)) cM)) rfl))) cI)
  (aP (gk cA (wv 5) (bT (iw (bR cj (wv 0) (eG aL (lM (cG cF (cG cF (cG cF (cG cF jQ))))) (bR bI (eG aL (wv 1) cu bW) cu) jP)))) cI)
  (bT (iw (wv 0))))))))))))),?_⟩
 obtain ⟨v0,e0,o0⟩:=dY hok (i:=0) 0x8 0x1;obtain ⟨v1,e1,o1⟩:=dY hok (i:=1) 0x8 0x1;obtain ⟨v2,e2,o2⟩:=dY hok (i:=2) 0x8 0x1;obtain ⟨v3,e3,o3⟩:=dY hok (i:=3) 0x8 0x1;have zs:z.length<=sizeLine:=small 0x1;have two:∀ i:Nat,i<=2000->i<=sizeLine:=fun i hi=>by have:=small (n:=2000) 0x1;lia
 refine ⟨_,rfl,a,_,_,_,rfl,rfl,hS,e1,_,rfl,z,rfl,zs,_,_,rfl,rfl,_,_,rfl,rfl,(by show (0:Int)<((z.length:Nat):Int)+1;lia),?_⟩
 dsimp only [dX];generalize v1 % (((z.length:Nat):Int)+1)=at_;refine 0x1F;have ew:Txt.split z (Str.ofString " ")=bO z:=rfl;rw [ew];have s1:Same H (upd H p (.lst ((bO z).map V.str))):=ao hp _;have p1:(upd H p (.lst ((bO z).map V.str))) p=some (.lst ((bO z).map V.str)):=ak;generalize upd H p (.lst ((bO z).map V.str))=H1 at s1 p1 ⊢;have wl:0<(bO z).length:=List.length_pos_iff.mpr (jw z);have wj:=su z;have S1:=s1.seq hS;have wa:∀ t∈bO z,jz t:=fun t ht=>lK wF ht;have n6:∀ lo hi,jl (aO (bO z) lo hi)<=n+1:=fun lo hi=>Nat.le_trans (HX _ _ _) 0x1;have wI:∀ lo hi,∀ t∈aO (bO z) lo hi,jz t/\NF t:=fun lo hi t ht=>⟨wa t (jm ht),Bo HN (jm ht)⟩;have kj:∀ {ts:List Str}{H':Hp},Same H H'->(Txt.join blank ts).length<=3 * n+30->(∀ t∈ts,jz t/\NF t)->Q (.str (Txt.join blank ts)) H':=fun s l h=>k _ _ s l (wG fun t ht=>(h t ht).1) (Bp (Bm fun t ht=>(h t ht).2));have oU:∀ lo hi,(aO (bO z) lo hi).length<=n+1:=fun lo hi=>Nat.le_trans (Bf _) (n6 lo hi);refine ⟨_,rfl,a,_,_,_,rfl,rfl,S1,e1,_,rfl,p,_,rfl,.inl (aZ.of p1),_,_,rfl,rfl,(by show (0:Int)<(((bO z).map V.str).length:Int);rw [bV];lia),?_⟩
 dsimp only [dX];generalize v1 % (((bO z).map V.str).length:Int)=he;refine ⟨_,rfl,a,_,_,_,rfl,rfl,S1,e0,_,_,rfl,rfl,(by show (0:Int)<8;decide),?_⟩
 dsimp only [dX];generalize v0 % 8=way;refine 0xB;refine bG 0x28 0x28
 ·-- a sign put in
  refine ⟨_,rfl,_,rfl,_,rfl,z,rfl,zs,_,rfl,a,_,_,_,rfl,rfl,S1,e2,_,rfl,fun y hy1 W8=>⟨_,_,rfl,rfl,two _ ?_,_,rfl,_,rfl,_,rfl,z,rfl,zs,_,_,rfl,rfl,two _ ?_,k _ _ s1 ?_ ?_ ?_⟩⟩
  ·have:=fL z none 0x25;lia
  ·have:=fL z none 0x25;have:=fL z 0x25 none;rw [Str.length_append];lia
  ·have:=fL z none 0x25;have:=fL z 0x25 none;rw [Str.length_append,Str.length_append];lia
  ·exact nU (nU (nR wF _ _) W8) (nR wF _ _)
  ·exact Er (sE HN _ _) hy1 (sE HN _ _)
 refine 0xB;refine bG 0x28 0x28
 ·-- one out
  refine ⟨_,rfl,_,rfl,_,rfl,z,rfl,zs,_,rfl,_,rfl,_,_,rfl,rfl,_,rfl,z,rfl,zs,_,_,rfl,rfl,two _ ?_,k _ _ s1 ?_ ?_ ?_⟩
  ·have:=fL z none 0x25;have:=fL z (some (at_+1)) none;lia
  ·have:=fL z none 0x25;have:=fL z (some (at_+1)) none;rw [Str.length_append];lia
  ·exact nU (nR wF _ _) (nR wF _ _)
  ·exact Bp (a0k (sE HN _ _) (sE HN _ _))
 refine 0xB;refine bG 0x28 0x28
 ·-- one in a1z place
  refine ⟨_,rfl,_,rfl,_,rfl,z,rfl,zs,_,rfl,a,_,_,_,rfl,rfl,S1,e2,_,rfl,fun y hy1 W8=>⟨_,_,rfl,rfl,two _ ?_,_,rfl,_,rfl,_,_,rfl,rfl,_,rfl,z,rfl,zs,_,_,rfl,rfl,two _ ?_,k _ _ s1 ?_ ?_ ?_⟩⟩
  ·have:=fL z none 0x25;lia
  ·have:=fL z none 0x25;have:=fL z (some (at_+1)) none;rw [Str.length_append];lia
  ·have:=fL z none 0x25;have:=fL z (some (at_+1)) none;rw [Str.length_append,Str.length_append];lia
  ·exact nU (nU (nR wF _ _) W8) (nR wF _ _)
  ·exact Er (sE HN _ _) hy1 (sE HN _ _)
 refine 0xB;refine bG 0x28 0x28
 ·-- another word in a word's place
  have ml0:(0:Int)<(((bO z).map V.str).length:Int):=by rw [bV];lia
  obtain ⟨t3,ht3,mt3⟩:∃ t3:Str,lZ ((bO z).map V.str) (v3 % (((bO z).map V.str).length:Int))=some (.str t3)/\t3∈bO z:=by
   obtain ⟨v,e,m⟩:=fK (xs:=(bO z).map V.str) (i:=v3 % (((bO z).map V.str).length:Int)) (Int.emod_nonneg _ 0x1) (Int.emod_lt_of_pos _ ml0);obtain ⟨t,ht,rfl⟩:=List.mem_map.mp m;exact ⟨t,e,ht⟩
  have t3l:t3.length<=n:=Nat.le_trans (lJ mt3) hz;refine ⟨_,rfl,_,rfl,a,_,_,_,rfl,rfl,S1,e3,_,rfl,p,_,rfl,.inl (aZ.of p1),_,_,rfl,rfl,ml0,p,_,_,_,rfl,rfl,aZ.of p1,ht3,small 0x5,fun l hl=>?_⟩;have ss:=ao hl 0x14;have l2:(upd H1 l 0x14) l=some 0x14:=ak;have p2:=ss _ _ p1;have s12:=s1.trans ss;have S2:=ss.seq S1;clear ss;generalize upd H1 l 0x14=H2 at s12 l2 p2 S2 ⊢;obtain ⟨y,hy,hyl,W8,hyn⟩:∃ y:Str,lZ [V.str "",V.str "-",V.str "00",V.str "10000",V.str "0",V.str "1000000",V.str "Ann",V.str "grant",V.str "abcdefghi",V.str t3,V.str "007"] (v2 % (([V.str "",V.str "-",V.str "00",V.str "10000",V.str "0",V.str "1000000",V.str "Ann",V.str "grant",V.str "abcdefghi",V.str t3,V.str "007"]:List V).length:Int))=some (.str y)/\y.length<=n+9/\jz y/\NF y:=by
   obtain ⟨v,e,m⟩:=fK (xs:=[V.str "",V.str "-",V.str "00",V.str "10000",V.str "0",V.str "1000000",V.str "Ann",V.str "grant",V.str "abcdefghi",V.str t3,V.str "007"]) (i:=v2 % (([V.str "",V.str "-",V.str "00",V.str "10000",V.str "0",V.str "1000000",V.str "Ann",V.str "grant",V.str "abcdefghi",V.str t3,V.str "007"]:List V).length:Int)) (Int.emod_nonneg _ (by show (11:Int)≠0;decide)) (Int.emod_lt_of_pos _ (by show (0:Int)<11;decide))
   simp only [List.mem_cons,List.not_mem_nil,or_false] at m;have cc:∀ x:Str,x.length<=9->x.cps.toList.all (fun c=>decide (c<128/\32<=c))=true->v=.str x->∃ y:Str,lZ [V.str "",V.str "-",V.str "00",V.str "10000",V.str "0",V.str "1000000",V.str "Ann",V.str "grant",V.str "abcdefghi",V.str t3,V.str "007"] (v2 % (([V.str "",V.str "-",V.str "00",V.str "10000",V.str "0",V.str "1000000",V.str "Ann",V.str "grant",V.str "abcdefghi",V.str t3,V.str "007"]:List V).length:Int))=some (.str y)/\y.length<=n+9/\jz y/\NF y:=fun x h1 h2 h3=>by subst h3;exact ⟨x,e,by lia,(bH h2).asc,(bH h2).nf⟩
   rcases m with h | h | h | h | h | h | h | h | h | h | h
   ·exact cc _ 0x4 0x4 h
   ·exact cc _ 0x4 0x4 h
   ·exact cc _ 0x4 0x4 h
   ·exact cc _ 0x4 0x4 h
   ·exact cc _ 0x4 0x4 h
   ·exact cc _ 0x4 0x4 h
   ·exact cc _ 0x4 0x4 h
   ·exact cc _ 0x4 0x4 h
   ·exact cc _ 0x4 0x4 h
   ·subst h;exact ⟨t3,e,by lia,wa t3 mt3,Bo HN mt3⟩
   ·exact cc _ 0x4 0x4 h
  refine ⟨rfl,_,rfl,_,rfl,_,rfl,p,_,rfl,aZ.of p2,fun q1 h1=>?_⟩;rw [cW];have ss:=ao h1 0x11;have c3:(upd H2 q1 0x11) q1=some 0x11:=ak;have p3:=ss _ _ p2;have l3:=ss _ _ l2;have XS:=s12.trans ss;have S3:=ss.seq S2;clear ss;generalize upd H2 q1 0x11=H3 at XS c3 p3 l3 S3 ⊢;refine ⟨_,rfl,_,rfl,a,_,_,_,rfl,rfl,S3,e2,_,rfl,l,_,rfl,.inl (aZ.of l3),_,_,rfl,rfl,(by show (0:Int)<11;decide),l,_,_,_,rfl,rfl,aZ.of l3,hy,small 0x5,fun q2 h2=>?_⟩
  have ss:=ao h2 (.lst [V.str y]);have d4:(upd H3 q2 (.lst [V.str y])) q2=some (.lst [V.str y]):=ak;have p4:=ss _ _ p3;have c4:=ss _ _ c3;have s14:=XS.trans ss;clear ss;generalize upd H3 q2 (.lst [V.str y])=H4 at s14 d4 p4 c4 ⊢;refine ⟨q1,q2,_,_,rfl,rfl,c4,d4,two _ (by rw [bV,List.length_singleton];have:=oU none (some he);lia),fun q3 h3=>?_⟩;have em:(aO (bO z) none (some he)).map V.str++[V.str y]=(aO (bO z) none (some he)++[y]).map V.str:=by simp
  rw [em];have ss:=ao h3 (.lst ((aO (bO z) none (some he)++[y]).map V.str));have e5:(upd H4 q3 (.lst ((aO (bO z) none (some he)++[y]).map V.str))) q3=some (.lst ((aO (bO z) none (some he)++[y]).map V.str)):=ak;have p5:=ss _ _ p4;have s15:=s14.trans ss;clear ss;generalize upd H4 q3 (.lst ((aO (bO z) none (some he)++[y]).map V.str))=H5 at s15 e5 p5 ⊢;refine ⟨_,rfl,_,rfl,_,_,rfl,rfl,_,rfl,p,_,rfl,aZ.of p5,fun q4 h4'=>?_⟩;rw [cW];have ss:=ao h4' 0x1E;have f6:(upd H5 q4 0x1E) q4=some 0x1E:=ak;have e6:=ss _ _ e5;have s16:=s15.trans ss;clear ss;generalize upd H5 q4 0x1E=H6 at s16 f6 e6 ⊢;refine ⟨q3,q4,_,_,rfl,rfl,e6,f6,two _ (by rw [bV,bV,jA,List.length_singleton];have:=oU none (some he);have:=oU (some (he+1)) none;lia),fun q5 h5=>?_⟩;rw [<- jB];have s7:=ao h5 (.lst ((aO (bO z) none (some he)++[y]++aO (bO z) (some (he+1)) none).map V.str));have j1:jl [y]=y.length+1:=rfl;have j7:jl (aO (bO z) none (some he)++[y]++aO (bO z) (some (he+1)) none)<=3 * n+30:=by rw [fQ,fQ,j1];have:=n6 none (some he);have:=n6 (some (he+1)) none;lia
  refine ⟨_,q5,_,rfl,rfl,aZ.of ak,ig 0x1,kj (s16.trans s7) (Nat.le_trans (jf _) j7) (fun t ht=>?_)⟩;rcases List.mem_append.mp ht with ht | ht
  ·rcases List.mem_append.mp ht with ht | ht
   ·exact wI _ _ t ht
   ·rw [List.mem_singleton.mp ht];exact ⟨W8,hyn⟩
  ·exact wI _ _ t ht
 refine 0xB;refine bG 0x28 0x28
 ·-- a word out
  refine ⟨rfl,_,rfl,_,rfl,_,rfl,p,_,rfl,aZ.of p1,fun q1 h1=>?_⟩;rw [cW];have s2:=ao h1 0x11;have c2:(upd H1 q1 0x11) q1=some 0x11:=ak;have p2:=s2 _ _ p1;have s12:=s1.trans s2;generalize upd H1 q1 0x11=H2 at s12 c2 p2 ⊢;refine ⟨_,rfl,_,rfl,_,_,rfl,rfl,_,rfl,p,_,rfl,aZ.of p2,fun q2 h2=>?_⟩;rw [cW];have s3:=ao h2 0x1E;have d3:(upd H2 q2 0x1E) q2=some 0x1E:=ak;have c3:=s3 _ _ c2;have XS:=s12.trans s3;generalize upd H2 q2 0x1E=H3 at XS c3 d3 ⊢;refine ⟨q1,q2,_,_,rfl,rfl,c3,d3,two _ (by rw [bV,bV];have:=oU none (some he);have:=oU (some (he+1)) none;lia),fun q3 h3=>?_⟩;rw [<- jB];have s4:=ao h3 (.lst ((aO (bO z) none (some he)++aO (bO z) (some (he+1)) none).map V.str));have j4:jl (aO (bO z) none (some he)++aO (bO z) (some (he+1)) none)<=3 * n+30:=by rw [fQ];have:=n6 none (some he);have:=n6 (some (he+1)) none;lia
  refine ⟨_,q3,_,rfl,rfl,aZ.of ak,ig 0x1,kj (XS.trans s4) (Nat.le_trans (jf _) j4) (fun t ht=>?_)⟩;rcases List.mem_append.mp ht with ht | ht
  ·exact wI _ _ t ht
  ·exact wI _ _ t ht
 refine 0xB;refine bG 0x28 0x28
 ·-- a word twice
  refine ⟨rfl,_,rfl,_,rfl,_,rfl,p,_,rfl,aZ.of p1,fun q1 h1=>?_⟩;rw [cW];have ss:=ao h1 0x11;have c2:(upd H1 q1 0x11) q1=some 0x11:=ak;have p2:=ss _ _ p1;have s12:=s1.trans ss;clear ss;generalize upd H1 q1 0x11=H2 at s12 c2 p2 ⊢;refine ⟨_,rfl,_,rfl,_,rfl,_,rfl,_,_,rfl,rfl,_,rfl,p,_,rfl,aZ.of p2,fun q2 h2=>?_⟩;rw [cW];have ss:=ao h2 (.lst ((aO (bO z) (some he) (some (he+1))).map V.str));have d3:(upd H2 q2 (.lst ((aO (bO z) (some he) (some (he+1))).map V.str))) q2=some (.lst ((aO (bO z) (some he) (some (he+1))).map V.str)):=ak;have p3:=ss _ _ p2;have c3:=ss _ _ c2;have XS:=s12.trans ss;clear ss;generalize upd H2 q2 (.lst ((aO (bO z) (some he) (some (he+1))).map V.str))=H3 at XS d3 p3 c3 ⊢;refine ⟨q1,q2,_,_,rfl,rfl,c3,d3,two _ (by rw [bV,bV];have:=oU none (some he);have:=oU (some he) (some (he+1));lia),fun q3 h3=>?_⟩;rw [<- jB];have ss:=ao h3 (.lst ((aO (bO z) none (some he)++aO (bO z) (some he) (some (he+1))).map V.str));have e4:(upd H3 q3 (.lst ((aO (bO z) none (some he)++aO (bO z) (some he) (some (he+1))).map V.str))) q3=some (.lst ((aO (bO z) none (some he)++aO (bO z) (some he) (some (he+1))).map V.str)):=ak;have p4:=ss _ _ p3;have s14:=XS.trans ss;clear ss;generalize upd H3 q3 (.lst ((aO (bO z) none (some he)++aO (bO z) (some he) (some (he+1))).map V.str))=H4 at s14 e4 p4 ⊢;refine ⟨_,rfl,_,rfl,_,rfl,p,_,rfl,aZ.of p4,fun q4 h4'=>?_⟩;rw [cW];have ss:=ao h4' (.lst ((aO (bO z) (some he) none).map V.str));have f5:(upd H4 q4 (.lst ((aO (bO z) (some he) none).map V.str))) q4=some (.lst ((aO (bO z) (some he) none).map V.str)):=ak;have e5:=ss _ _ e4;have s15:=s14.trans ss;clear ss;generalize upd H4 q4 (.lst ((aO (bO z) (some he) none).map V.str))=H5 at s15 f5 e5 ⊢;refine ⟨q3,q4,_,_,rfl,rfl,e5,f5,two _ (by rw [bV,bV,jA];have:=oU none (some he);have:=oU (some he) (some (he+1));have:=oU (some he) none;lia),fun q5 h5=>?_⟩;rw [<- jB];have s6:=ao h5 (.lst ((aO (bO z) none (some he)++aO (bO z) (some he) (some (he+1))++aO (bO z) (some he) none).map V.str));have j6:jl (aO (bO z) none (some he)++aO (bO z) (some he) (some (he+1))++aO (bO z) (some he) none)<=3 * n+30:=by rw [fQ,fQ];have:=n6 none (some he);have:=n6 (some he) (some (he+1));have:=n6 (some he) none;lia
  refine ⟨_,q5,_,rfl,rfl,aZ.of ak,ig 0x1,kj (s15.trans s6) (Nat.le_trans (jf _) j6) (fun t ht=>?_)⟩;rcases List.mem_append.mp ht with ht | ht
  ·rcases List.mem_append.mp ht with ht | ht
   ·exact wI _ _ t ht
   ·exact wI _ _ t ht
  ·exact wI _ _ t ht
 refine 0xB;refine bG 0x28 0x28
 ·-- something behind
  refine ⟨_,rfl,small 0x5,fun l hl=>?_⟩;have ss:=ao hl (.lst [V.str "\n",V.str " ",V.str "  x",V.str ""]);have hat:∃ y:Str,lZ [V.str "\n",V.str " ",V.str "  x",V.str ""] (v2 % 4)=some (.str y)/\y.length<=9/\jz y/\xr y<=1:=by
   obtain ⟨v,e,m⟩:=fK (xs:=[V.str "\n",V.str " ",V.str "  x",V.str ""]) (i:=v2 % 4) (Int.emod_nonneg _ 0x8) (by have:=Int.emod_lt_of_pos v2 (show (0:Int)<4 by decide);exact this)
   simp only [List.mem_cons,List.not_mem_nil,or_false] at m;rcases m with rfl | rfl | rfl | rfl
   ·exact ⟨_,e,by decide +kernel,iu 0x4,by decide +kernel⟩
   ·exact ⟨_,e,by decide +kernel,iu 0x4,by decide +kernel⟩
   ·exact ⟨_,e,by decide +kernel,iu 0x4,by decide +kernel⟩
   ·exact ⟨_,e,by decide +kernel,iu 0x4,by decide +kernel⟩
  obtain ⟨y,hy,hyl,W8,hyn⟩:=hat;refine ⟨_,rfl,a,_,_,_,rfl,rfl,ss.seq S1,e2,_,_,rfl,rfl,(by show (0:Int)<4;decide),l,_,_,_,rfl,rfl,aZ.of ak,hy,_,_,rfl,rfl,two _ 0x1,k _ _ (s1.trans ss) (by rw [Str.length_append];lia) (nU wF W8) (by rw [nY,pL HN];lia)⟩
 exact ⟨_,rfl,k _ _ s1 0x1 wF (Bp HN)⟩
theorem O1 {k:Str}{l:List cP} (h:form k=some l):wordOf (.str k)=k/\k.length<=9/\k.cps.toList.all (fun c=>decide (c<128/\32<=c))=true:=by
 have h0:=gZ h;have all:∀ p∈forms,wordOf (.str p.1)=p.1/\p.1.length<=9/\p.1.cps.toList.all (fun c=>decide (c<128/\32<=c))=true:=by decide +kernel
 exact all _ h0
theorem Sg {k:Str} (h:oJ k rest=true):∃ l,form k=some l/\rest.length=l.length/\wu l rest:=by
 unfold oJ at h;cases hf:form k with
 | none=>rw [hf] at h;cases h
 | some l =>
  rw [hf] at h;have h':(decide (rest.length=l.length)&&(((l.zip rest).all lG)&&!(two k&&decide (rest[1]?=rest[2]?))))=true:=h;rw [Bool.and_eq_true,Bool.and_eq_true] at h';refine ⟨l,rfl,fO h'.1,fun i s v e1 e2=>?_⟩;exact List.all_eq_true.mp h'.2.1 (s,v) (lU (vZ e1 e2))
theorem Sh {l:List cP} (h:wu l rest) (hl:rest.length=l.length) (hrw:∀ s∈l,s.row=true):∀ v∈rest,okW v:=by
 intro v hv;obtain ⟨i,hi⟩:=List.mem_iff_getElem?.mp hv;have hil:i<rest.length:=(List.getElem?_eq_some_iff.mp hi).1;exact Bc (h i _ v (dO (show i<l.length by lia)) hi) (hrw _ (List.getElem_mem _))
theorem jg {n:Int} (h0:0<=n) (h1:n<=9999):n.natAbs.log2<1920:=by
 have h2:n.natAbs<=9999:=by lia
 by_cases h:n.natAbs=0
 ·rw [h];decide
 ·have:n.natAbs.log2<14:=(Nat.log2_lt h).mpr 0x1;lia
theorem W9 (h:low c=true):c<128/\32<=c:=by
 unfold low at h;rw [Bool.and_eq_true] at h;have:=fO h.2;have:=fO h.1;lia
theorem Y0 {s:cP} (h:dB s v=true) (hrw:s.row=true):(wordOf v).length<=9/\tE (wordOf v):=by
 have nm:∀ z:Str,nameB z.cps.toList=true->(wordOf (.str z)).length<=9/\tE (wordOf (.str z)):=fun z hz=>by
  have ne:z≠"":=fun e=>by rw [e] at hz;exact absurd hz 0x4
  have ew:wordOf (.str z)=z:=by show (if z="" then ("-" : Str) else z)=z;rw [if_neg ne]
  rw [ew];unfold nameB at hz;rw [Bool.and_eq_true,Bool.and_eq_true] at hz;obtain ⟨h1,h2,h3⟩:=hz;have h3':=fO h3;exact ⟨by rw [jt];lia,fun c hc=>W9 (List.all_eq_true.mp h1 c hc)⟩
 have nu:∀ n:Int,0<=n->n<=9999->(wordOf (.int n)).length<=9/\tE (wordOf (.int n)):=fun n h0 h1=>by
  have w:=a2e h0 h1;refine ⟨?_,fun c hc=>?_⟩
  ·have:=w.l6
   show (Str.ofString (toString n)).length<=9
   rw [jt];lia
  ·have:=List.all_eq_true.mp w.dg c hc;unfold dig at this;rw [Bool.and_eq_true] at this;have:=fO this.2;have hc2:=List.all_eq_true.mp w.dg c hc;unfold dig at hc2;rw [Bool.and_eq_true] at hc2;have:=fO hc2.1;lia
 rcases Bc h hrw with ⟨n,rfl,h0,h1⟩ | ⟨z,rfl,hz⟩
 ·exact nu n h0 h1
 ·by_cases e:z=""
  ·subst e;exact ⟨by decide +kernel,bH 0x4⟩
  ·refine nm z ?_;cases s <;> first | cases h | cases hrw | skip
   ·exact h
   ·unfold dB at h;rw [Bool.or_eq_true] at h;rcases h with h | h
    ·exact absurd (fO h) e
    ·exact h
theorem La:∀ {ts:List Str},(∀ t∈ts,t.length<=9)->jl ts<=10 * ts.length
 | [],_=>Nat.le_refl _
 | t::r,h=>by
  have h1:=h t List.mem_cons_self;have h2:=La (ts:=r) fun u hu=>h u (lR _ hu);unfold jl at h2 ⊢;rw [List.map_cons,List.sum_cons,jU];lia
inductive Ew (K:PySem.W.Frag) (vs:List V) (H:Hp) (Q:VK):Prop
 | mk (a:Addr) (k:Str) (rest:List V) (_:vs=[.ref a]) (_:dG K H a (.str k::rest)) (_:oJ k rest=true) (_:∀ y H',Same H H'->y.length<=70->tE y->Q (.str y) H'):Ew K vs H Q
def Sq (K:PySem.W.Frag):Sp:=fun vs H Q _=>Ew K vs H Q
inductive wJ (vs:List V) (H:Hp) (Q:VK):Prop
 | mk (v:V) (_:vs=[v]) (_:((∃ n,v=.int n/\0<=n/\n<=9999)\/∃ z:Str,v=.str z)) (_:Q (.str (wordOf v)) H):wJ vs H Q
def Ey:Sp:=fun vs H Q _=>wJ vs H Q
theorem Ss:bB ["_law_thing"] ["_law_thing"] (aC nP):=0x0
theorem O2 (F:iR K "_law_word_of" "_law_word_of" nP f fd) (ms:mg "str"=none):bw P w K mg base dF 1 f fd ["_law_thing"] Ey:=by
 refine F.ok Ss 0xA 0x2
 ·obtain ⟨v,rfl,_⟩:=h;rfl
 obtain ⟨v,rfl,hv,k⟩:=h;refine ⟨_,aA (bJ (aK cA (pv 0) aJ (aW _)) (aD (aU aJ)) bf) (aD (aU (cO je rfl ms mD (aj (pv 0) aq)))),?_⟩;rcases hv with ⟨n,rfl,h0,h1⟩ | ⟨z,rfl⟩
 ·refine ⟨_,rfl,rfl,_,rfl,bZ ?_⟩;exact ⟨_,rfl,.inl ⟨n,rfl,jg h0 h1,k⟩⟩
 ·have e0:wordOf (.str z)=(if z="" then ("-" : Str) else z):=rfl
  rw [e0] at k;refine 0xB;refine bG (fun h=>?_) (fun h=>?_)
  ·have e:z="":=by
    have:=fO h;injection this
   rw [if_pos e] at k;exact k
  ·have e:¬ z="":=fun e=>h (by rw [e];rfl);rw [if_neg e] at k;exact ⟨_,rfl,.inr ⟨z,rfl,k⟩⟩
theorem Sv:bB ["_law_row"] ["_law_row"] (aC lE):=0x0
def scT1:Scope:={ kind:=.function,names:=[(".0",.local),("_law_thing",.local),("_law_word_of",.globalImplicit)],isGenerator:=false,isCoroutine:=false }
theorem csT1:fP ["_law_row"] (aC lE) scT1 ["_law_thing"] [] []:=0x6
theorem ndT1:((["_law_thing"]:List Str)++([]:List Str)).Nodup:=by decide +kernel
theorem O4 (F:iR K "_law_text_of" "_law_text_of" lE f fd)  (G1:bw P w K mg base dF 1 g1 d1 ["_law_thing"] Ey) (M1:Ms K mg "_law_word_of" g1 d1 ["_law_thing"]):bw P w K mg base dF 2 f fd ["_law_row"] (Sq K):=by
 refine F.ok Sv 0xA 0x2
 ·obtain ⟨a,k,rest,rfl,_⟩:=h;rfl
 obtain ⟨a,k,rest,rfl,hS,hw,kk⟩:=h;refine ⟨_,aD (aU (dH PySem.F.plainAttrs_str PySem.F.slot_str_join PySem.F.type_str_join nD aJ (aj
    (gJ rfl csT1 (YD (pv 0))
     (fun s H fp C=>⟨aQ (i:=0) ndT1 rfl 0x3,fJ,bA G1 hr rfl M1.m M1.k M1.b .nil bL (aj (pv 0) aq)⟩)) aq))),?_⟩
 obtain ⟨l,hf,hl,hft⟩:=Sg hw;obtain ⟨l2,l6⟩:=jq hf;obtain ⟨hkw,hkl,hkf⟩:=O1 hf;have hrw:∀ s∈l,s.row=true:=fun s hs=>by
  obtain ⟨i,hi⟩:=List.mem_iff_getElem?.mp hs;exact vW hf hi
 have hok:=Sh hft hl hrw;have hall:∀ v∈V.str k::rest,(∃ n,v=.int n/\0<=n/\n<=9999)\/∃ z:Str,v=.str z:=by
  intro v hv;rcases List.mem_cons.mp hv with e | hv
  ·exact .inr ⟨k,e⟩
  ·rcases hok v hv with h | ⟨z,e,_⟩
   ·exact .inl h
   ·exact .inr ⟨z,e⟩
 refine ⟨rfl,_,rfl,a,rfl,⟨_,hS⟩,fun D hD=>?_⟩;refine Qg (K:=K) (a:=a) (xs:=V.str k::rest) (fun i ys H2=>ys=(((V.str k::rest).take i).map wordOf).map V.str/\Same H H2/\H2 D=some (.lst ys)) (fun i ys H2 h=>h.2.1.Am hS) ⟨rfl,ao hD _,ak⟩ (fun i ys H2 h=>h.2.2) ?_ ?_
 ·rintro i ys H2 x hx ⟨rfl,s2,hD2⟩;refine 0x2E;refine dN ?_;refine ⟨_,rfl,x,rfl,hall x (lU hx),hD2,?_,?_,aV s2 hD,ak⟩
  ·rw [bV,bV,List.length_take,jU];exact cQ 0x1
  ·rw [List.take_add_one,hx,jB,jB];rfl
 ·rintro ys H2 ⟨rfl,s2,hD2⟩;rw [List.take_of_length_le 0x9,List.map_cons,hkw] at hD2;have w9:∀ v∈rest,(wordOf v).length<=9/\tE (wordOf v):=by
   intro v hv;obtain ⟨i,hi⟩:=List.mem_iff_getElem?.mp hv;have hil:i<rest.length:=(List.getElem?_eq_some_iff.mp hi).1;exact Y0 (hft i _ v (dO (show i<l.length by lia)) hi) (hrw _ (List.getElem_mem _))
  have t9:∀ t∈k::rest.map wordOf,t.length<=9/\tE t:=by
   intro t ht;rcases List.mem_cons.mp ht with e | ht
   ·rw [e];exact ⟨hkl,bH hkf⟩
   ·obtain ⟨v,hv,rfl⟩:=List.mem_map.mp ht;exact w9 v hv
  have j70:=La (fun t ht=>(t9 t ht).1);rw [jU,bV] at j70;exact ⟨_,D,_,rfl,rfl,aZ.of hD2,ig 0x1,kk _ _ s2 (Nat.le_trans (jf _) 0x1) (RZ fun t ht=>(t9 t ht).2)⟩
end M
namespace L2
open PySem PySem.Spec PyProof.Rows PySem.W
def wK (z y:Str):List V:=match Builtin.Str.occurrences z y 0 z.length 1 with
 | i::_=>[.str (Builtin.Str.strSub z 0 i),.str y,.str (Builtin.Str.strSub z (i+y.length) z.length)]
 | []=>[.str z,.str Str.empty,.str Str.empty]
inductive Ez (x:V) (vs:List V) (H:Hp) (Q:VK):Prop
 | mk (z y:Str) (_:x=.str z) (_:vs=[.str y]) (_:(y.length==0)=false) (_:z.length<=sizeLine) (_:∀ p,H p=none->Q (.ref p) (upd H p (.tup (wK z y)))):Ez x vs H Q
def a0m:V->List V->Hp->VK->Prop:=fun x vs H Q=>Ez x vs H Q
theorem Sw:YL X "str.partition" a0m:=by
 intro pins s σ H x vs v us Q I rx rv h;obtain ⟨z,y,rfl,rfl,hy,hz,q⟩:=h;obtain ⟨t,rfl⟩:=rx;obtain ⟨u,rfl,k,rfl⟩:=rv.one;refine call_meets F.slot_str_partition (typeIs_str _ _ _) F.entry_str_partition (F.args_str_partition_2 _ _) (meets_str_partition z y t k hy hz) ?_;have fr:H s.heap.objs.size=none:=I.hok.fresh 0x9;have q0:=q _ fr;unfold wK at q0
 revert q0
 cases Builtin.Str.occurrences z y 0 z.length 1 with
 | nil=>exact fun q0=>⟨.ref s.heap.objs.size,_,I.laid (o:=.tup [.str z,.str Str.empty,.str Str.empty]) (t':=s.toks+1) (fun b o g=>Heap.get?_push_of_some _ g) 0x9 ⟨iZ 0x5 |> Nat.le_of_lt,_,.cons ⟨_,rfl⟩ (.cons ⟨_,rfl⟩ (.cons ⟨_,rfl⟩ .nil)),⟨_,Heap.get?_push_size _ rfl,rfl,_,rfl⟩⟩,rfl,q0⟩
 | cons i r=>exact fun q0=>⟨.ref s.heap.objs.size,_,I.laid (o:=.tup [.str (Builtin.Str.strSub z 0 i),.str y,.str (Builtin.Str.strSub z (i+y.length) z.length)]) (t':=s.toks+1+1) (fun b o g=>Heap.get?_push_of_some _ g) 0x9 ⟨iZ 0x5 |> Nat.le_of_lt,_,.cons ⟨_,rfl⟩ (.cons ⟨_,rfl⟩ (.cons ⟨_,rfl⟩ .nil)),⟨_,Heap.get?_push_size _ rfl,rfl,_,rfl⟩⟩,rfl,q0⟩
theorem Wa {w r:Str} (hz:z.cps.toList=w.cps.toList++c::r.cps.toList) (hw:c∉w.cps.toList):wK z ⟨#[c]⟩=[.str w,.str ⟨#[c]⟩,.str r]:=by
 have at_:∀ i,StrLaws.At z ⟨#[c]⟩ z.length i↔z.cps.toList[i]?=some c:=fun i=>StrLaws.subAt_one z c i;have hl:w.cps.toList.length=w.length:=by simp [Str.length]
 have here:z.cps.toList[w.cps.toList.length]?=some c:=by rw [hz];simp
 unfold wK;rcases StrLaws.occ_head z ⟨#[c]⟩ 1 (Nat.le_refl _) with ⟨_,hn⟩ | ⟨i,rr,e,hi,hn⟩
 ·exact absurd ((at_ _).mpr here) (hn _)
 ·have hi':=(at_ i).mp hi;have ei:i=w.cps.toList.length:=by
   rcases Nat.lt_trichotomy i w.cps.toList.length with h | h | h
   ·exfalso
    rw [hz,List.getElem?_append_left h] at hi';exact hw (lU hi')
   ·exact h
   ·exact absurd ((at_ _).mpr here) (hn _ h)
  rw [e];have e1:Builtin.Str.strSub z 0 i=w:=by
   apply Str.ext'
   show z.cps.extract 0 i=w.cps
   apply Array.toList_inj.mp
   rw [Array.toList_extract,hz,ei];simp
  have e2:Builtin.Str.strSub z (i+(⟨#[c]⟩:Str).length) z.length=r:=by
   apply Str.ext'
   show z.cps.extract (i+1) z.cps.size=r.cps
   apply Array.toList_inj.mp
   rw [Array.toList_extract,<- Array.length_toList,hz,ei];have ed:List.drop (w.cps.toList.length+1) (w.cps.toList++c::r.cps.toList)=r.cps.toList:=by rw [List.drop_append,List.drop_eq_nil_of_le (Nat.le_succ _),Nat.add_sub_cancel_left];rfl
   show List.take _ (List.drop (w.cps.toList.length+1) (w.cps.toList++c::r.cps.toList))=_
   rw [ed,List.take_of_length_le];rw [jA,jU];lia
  show [V.str _,V.str _,V.str _]=_
  rw [e1,e2]
theorem O5 (hz:c∉z.cps.toList):wK z ⟨#[c]⟩=[.str z,.str Str.empty,.str Str.empty]:=by
 unfold wK;rcases StrLaws.occ_head z ⟨#[c]⟩ 1 (Nat.le_refl _) with ⟨e,_⟩ | ⟨i,rr,e,hi,hn⟩
 ·rw [e]
 ·exact absurd (lU ((StrLaws.subAt_one z c i).mp hi)) hz
open AutoSeq1 (wpAny_loadPart')
theorem wL (l:Addr) (items:Array Value) (n:Nat) (dct:Option Addr) (sl:Array (Option Value)) (c:Int) (tc:Tok) (hf:Builtin.SmallTypes.fitsIndex c=true) :
  Meets (Builtin.«enumerate.__new__» ⟨[.type "enumerate",.ref l],[(Str.ofString "start",.int c tc)]⟩) (fun _ R s=>s.heap.get? l=some { cls:=.type "tuple",dict:=dct,data:=.seq items n,slots:=sl } /\
   R (.ok (.ret (.ref (s.heap.push { cls:=.type "tuple_iterator",data:=.fields #[.ref l,.int 0 0] }).objs.size)))
    { s with heap:=(s.heap.push { cls:=.type "tuple_iterator",data:=.fields #[.ref l,.int 0 0] }).push { cls:=.type "enumerate",data:=.fields #[.none,.bool false,.ref s.heap.objs.size,rawInt c,.none,.none] } }) :=
 .of_wp fun prog w A R s h=>by
  obtain ⟨hp,g,d,tk,os⟩:=s;obtain ⟨hl,h⟩:=h;have hsb:=sub_enumerate;have hq:Heap.IsTuple (Shared.heap ⟨hp,g,d,tk,os⟩) l items:=⟨_,hl,rfl,n,rfl⟩
  wp_walk using wpAny_loadPart' hl
  refine wpAny_stack_any fun fr=>wpAny_pure ?_
  split
  ·rename_i cc _ _ _ _ _
   cases (cc==Value.type "enumerate")
   ·wp_walk using wpAny_loadPart' hl,wpAny_pyIter_tuple hq
    exact ⟨_,rfl,h⟩
   ·wp_walk using wpAny_loadPart' hl,wpAny_pyIter_tuple hq
    exact ⟨_,rfl,h⟩
  ·wp_walk using wpAny_loadPart' hl,wpAny_pyIter_tuple hq
   exact ⟨_,rfl,h⟩
theorem xM {c:Int}{tc:Tok} (hL:s.heap.IsTuple l items) (hf:Builtin.SmallTypes.fitsIndex c=true)
  (k:∀ h',IsEnum h' 0x12 s.heap.objs.size c .none->h'.IsTupleIter s.heap.objs.size l 0->(∀ b o,s.heap.get? b=some o->h'.get? b=some o)->Q (.ref 0x12) { s with heap:=h' }) :
  wpAny 0xD A (call (.type "enumerate") [.ref l] [(stN,.int c tc)]) Q E s:=by
 obtain ⟨⟨cl,dct,dt,sl⟩,hl,hc,n,hd⟩:=hL;obtain rfl:cl=.type "tuple":=hc;obtain rfl:dt=.seq items n:=hd;have ft:=F.called_enumerate;obtain ⟨c0,tl,hmro⟩:=ft.mro;have hmade:=ft.made;have hsub:=ft.sub;have hct:=K6 (.ref l) (.int c tc);refine wpAny_call (codeAny_of_tree (show wpAny _ _ (callAny (.type "enumerate") _) _ _ _ from ?_))
 refine wpAny_pure ⟨Code.quiet_builtin _ 0x4,codeAny_builtin F.entry_type_call ?_⟩;rw [Around.under_plain (weight_type_call_type "enumerate" [.ref l] [(stN,.int c tc)]) (units_type_call_type "enumerate" [.ref l] [(stN,.int c tc)])];have hnt:=ft.notType;have hcc:=ft.canCreate
 repeat (any_goals (first | assumption | wp_step))
 refine codeAny_mono (codeAny_call_builtin ft.plain F.entry_enumerate_new (wpAny_of_eq (QK (.ref l) (.int c tc)) (wL l items n dct sl c tc hf prog w A.in1 (wants (fun obj s1=>s1.TypeIs obj "enumerate"/\Q obj s1) E) s ⟨hl,?_⟩))) fun r s1 hr=>?_
 ·have hz:(s.heap.push { cls:=.type "tuple_iterator",data:=.fields #[.ref l,.int 0 0] }).objs.size=s.heap.objs.size+1:=Heap.size_push ..
  show _/\_
  rw [hz];have he:IsEnum ((s.heap.push { cls:=.type "tuple_iterator",data:=.fields #[.ref l,.int 0 0] }).push { cls:=.type "enumerate",data:=.fields #[.none,.bool false,.ref s.heap.objs.size,rawInt c,.none,.none] }) 0x12 s.heap.objs.size c .none:=by
   have g:=Heap.get?_push_size (s.heap.push { cls:=.type "tuple_iterator",data:=.fields #[.ref l,.int 0 0] }) (o:={ cls:=.type "enumerate",data:=.fields #[.none,.bool false,.ref s.heap.objs.size,rawInt c,.none,.none] }) rfl;rw [hz] at g;exact g
  exact ⟨⟨_,he,rfl⟩,k _ he ⟨_,Heap.get?_push_of_some _ (Heap.get?_push_size _ rfl),rfl,rfl⟩ fun b o x=>Heap.get?_push_of_some _ (Heap.get?_push_of_some _ x)⟩
 cases r with
 | error e=>exact hr
 | ok fl =>
  cases fl with
  | ret obj =>
   obtain ⟨hT,hQ⟩:=hr;have hli:=ft.init.lookup;have hbi:=ft.init.bind obj
   repeat (any_goals (first | assumption | wp_step))
   refine codeAny_mono (codeAny_call_builtin ft.init.plain F.entry_object_init (ft.init.check _ _ _ _ _ _ _ _ hT (K7 obj (.ref l) (.int c tc)) (QL prog w A.in1 (wants (fun r s2=>r=.none/\Q obj s2) E) s1 ⟨hT,rfl,hQ⟩))) fun r2 s2 hr2=>?_;cases r2 with
   | error e=>exact hr2
   | ok f2 =>
    cases f2 with
    | ret r =>
     obtain ⟨rfl,hq⟩:=hr2
     repeat (any_goals (first | assumption | wp_step))
    | _=>exact hr2.elim
  | _=>exact hr.elim
theorem a0n (hh:A.handled=none) (it l:Addr) (hne:l≠it) (items:Array Value) :
  Draws prog w A it [it,l] items.size (fun i v=>items[i]?=some v) (fun i h=>h.IsTupleIter it l i/\h.IsTuple l items) where
 live:=fun _ _ st=>let ⟨o,ho,_⟩:=st.1;⟨o,ho⟩
 frame:=fun _ _ _ st hk=>by
  obtain ⟨⟨o,ho,r⟩,⟨o2,ho2,r2⟩⟩:=st;exact ⟨⟨o,hk it 0x5 o ho,r⟩,⟨o2,hk l 0x5 o2 ho2,r2⟩⟩
 item:=fun i s Q E hi st hQ=>by
  refine Ql st.1 st.2 (x:=items[i]) (by simp [hi]) fun h' hit' hs'=>?_;exact hQ _ h' s.toks (by simp [hi]) ⟨hit',st.2.extBut hs'.extBut hne⟩ hs'
 done:=fun s Q E st hE=>oZ hh st.1 st.2 0x5 hE
def Sx (K:PySem.W.Frag) (l:Addr) (c:Nat):It:=⟨fun i H=>∃ xs x,dG K H l xs/\xs[i]?=some x,fun i H v H'=>∃ p x,(∀ xs,dG K H l xs->xs[i]?=some x)/\v=.ref p/\H p=none/\H'=upd H p (.tup [.int ((c+i:Nat):Int),x]),fun i H=>∃ xs,dG K H l xs/\xs.length<=i⟩
theorem Sy {e:Addr} (hne:e≠it) :
  Turn P w K (.Tuple elts x1 tp) (Sx K l c) [e,it] e (fun i h=>(∃ old,IsEnum h e it ((c+i:Nat):Int) old)/\h.IsTupleIter it l i) where
 mem:=by simp
 obj:=fun i h ⟨⟨old,he⟩,⟨o,ho,hc,hd⟩⟩ b hb=>by
  simp only [List.mem_cons,List.not_mem_nil,or_false] at hb;rcases hb with rfl | rfl
  ·exact ⟨_,he,fun v z=>by cases z⟩
  ·exact ⟨o,ho,fun v z=>by rw [hd] at z;cases z⟩
 keep:=fun i h h' ⟨⟨old,he⟩,⟨o,ho,r⟩⟩ k=>⟨⟨old,k e 0x5 _ he⟩,⟨o,k it 0x5 o ho,r⟩⟩
 item:=by
  intro X hP hw hK hc i pins s σ H E I hf ⟨⟨old,he⟩,st⟩ ⟨xs,x,hq,hx⟩;subst hP hw hK;obtain ⟨its,rv,p,_⟩:=I.tuple hq;have nl:=nH I hf hq;obtain ⟨u,hu,ru⟩:=rv.get hx;have nle:l≠e:=fun z=>nl (by simp [z]);have nli:l≠it:=fun z=>nl (by simp [z]);have hi:i<its.length:=(List.getElem?_eq_some_iff.mp hu).1;refine wpAny_pyNext_enum_itemD (sY (a0n (prog:=X.prog) (w:=X.w) (A:=X.A.in1) (I.ok.hd hc) it l nli its.toArray) c) he ⟨by lia,by rw [show c+i - c=i by lia];exact ⟨st,p⟩⟩ (by rw [List.size_toArray];lia) hne (by simp [hne,Ne.symm nle]) fun v h' tk hP ho st' hT hsz hk=>⟨_,rfl,?_⟩
  have hv:v=u:=by
   have:its.toArray[c+i - c]?=some v:=hP;rw [show c+i - c=i by lia] at this
   rw [show its.toArray[i]?=its[i]? by simp,hu] at this
   exact (Option.some.inj this).symm
  subst hv;refine wpAny_letOwnedTupleGo_enum ho fun h2 he2 sb=>?_;have helt:e<s.heap.objs.size:=Heap.lt_size he;obtain ⟨oit,Qx,_⟩:=id st;have hilt:it<s.heap.objs.size:=Heap.lt_size Qx;have hT2:h2.get? s.heap.objs.size=some { cls:=.type "tuple",data:=.seq #[.int ((c+i:Nat):Int) tk,v] }:=sb.extBut _ _ (Nat.ne_of_gt helt) hT;have kk:∀ b o,b∉[e,it]->s.heap.get? b=some o->h2.get? b=some o:=fun b o hb q=>by
   simp only [List.mem_cons,List.not_mem_nil,or_false,not_or] at hb;exact sb.extBut _ _ hb.1 (hk b o hb.1 hb.2 q)
  refine ⟨.ref s.heap.objs.size,upd H s.heap.objs.size (.tup [.int ((c+i:Nat):Int),x]),I.uh (t':=tk+1) hf kk 0x9 ⟨iZ 0x5 |> Nat.le_of_lt,[.int ((c+i:Nat):Int) tk,v],.cons ⟨tk,rfl⟩ (.cons ru .nil),⟨_,hT2,rfl,_,rfl⟩⟩,rfl,⟨_,x,fun ys hy=>by rw [I.qZ hy hq];exact hx,rfl,I.fresh,rfl⟩,⟨⟨_,he2⟩,?_⟩,fun b hb=>?_⟩
  ·obtain ⟨_,⟨o,ho',r⟩,_⟩:=st';rw [show c+i+1 - c=i+1 by lia] at r
   exact ⟨o,sb.extBut _ _ (Ne.symm hne) ho',r⟩
  ·simp only [List.mem_cons,List.not_mem_nil,or_false] at hb;rcases hb with rfl | rfl
   ·rw [aG (Nat.ne_of_lt helt)];exact (hf _ 0x5).1
   ·rw [aG (Nat.ne_of_lt hilt)];exact (hf _ 0x5).1
 done:=by
  intro X hP hw hK hc i pins s σ H E I hf ⟨⟨old,he⟩,st⟩ ⟨xs,hq,hx⟩;subst hP hw hK;obtain ⟨its,rv,p,_⟩:=I.tuple hq;have nl:=nH I hf hq;have nli:l≠it:=fun z=>nl (by simp [z]);have hlen:=rv.length;have hno:its.toArray[i]?=none:=by simp;lia
  have D:Draws X.prog X.w X.A.in1 it [it,l] 0 (fun _ _=>True) (fun _ h=>h.IsTupleIter it l i/\h.IsTuple l its.toArray) :=
   { live:=(fun _ _ z=>let ⟨o,ho,_⟩:=z.1;⟨o,ho⟩),frame:=fun _ _ _ z hk=>⟨z.1.at fun o e=>hk it 0x5 o e,z.2.at fun o e=>hk l 0x5 o e⟩,item:=fun _ _ _ _ z=>absurd z (Nat.not_lt_zero _),done:=fun s Q E z hE=>oZ (I.ok.hd hc) z.1 z.2 hno hE }
  exact wpAny_pyNext_enum_endD D he ⟨st,p⟩ fun h' eb=>⟨rfl,I.ug (t':=s.toks) hf fun b o hb q=>eb b o (fun z=>hb (by simp [z])) q⟩
 self:=fun A i s Q E ⟨⟨old,he⟩,_⟩ h=>wpAny_pyIter_enum he h
inductive wM (K:PySem.W.Frag) (R:It->Hp->Prop) (vs:List V) (y:V) (H2:Hp):Prop
 | mk (l:Addr) (xs:List V) (c:Nat) (_:vs=[.ref l]) (_:y=.int (c:Int)) (_:c<2 ^ 62) (_:dG K H2 l xs) (_:R (Sx K l c) H2):wM K R vs y H2
def a0o (K:PySem.W.Frag) (ta:TA) (tb:TE):TI:=fun σ H R=>ta σ H fun vs H1=>tb σ H1 fun y H2=>wM K R vs y H2
theorem SJ {a b:Expr}{ta:TA} (hg:Gl X "enumerate") (hm:X.mg "enumerate"=none) (ha:PA X [a] ta) (hb:PE X b tb) (hs:starEach [a] X.env=[(false,eval a X.env)]:=by rfl) :
  PI X (.Tuple elts x1 tp) (.Call (.Name "enumerate" p) [a] [⟨some (Str.ofString "start"),b,kpos⟩] pos) (a0o X.K ta tb):=by
 intro pins s σ H R I h;refine wpAny_Call_Name_kw (gC I hg hm iT (qD (cT (ha pos pins s σ H _ I h) fun us s1 ⟨vs,H1,I1,r1,q1⟩=>cT (Js hb Pu pos pins s1 σ H1 (fun zs H2=>match zs with | [y]=>wM X.K R vs y H2 | _=>False) I1 q1) fun ws s2 ⟨zs,H2,I2,r2,q2⟩=>?_) (by rw [hs];rfl) (by rw [hs];rfl) (by rfl) (by rfl)))
 match zs,r2,q2 with
 | [y],r2,q2 =>
  obtain ⟨l,xs,c,rfl,rfl,hc,hq,q⟩:=q2;obtain ⟨u,rfl,ru⟩:=vals1 r1;cases ru;obtain ⟨w,rfl,Gx⟩:=vals1 r2;obtain ⟨tc,rfl⟩:=Gx;obtain ⟨its,rv,pl,_⟩:=I2.tuple hq
  show wpAny _ _ (call (.type "enumerate") [.ref l] [(stN,.int c tc)]) _ _ s2
  refine xM pl (by
   unfold Builtin.SmallTypes.fitsIndex;rw [Bool.and_eq_true];exact ⟨decide_eq_true 0x1,decide_eq_true 0x1⟩) fun h' he hit hk=>wpAny_pyIter_enum he ?_
  have hne:s2.heap.objs.size+1≠s2.heap.objs.size:=Nat.succ_ne_self _;refine ⟨_,[s2.heap.objs.size+1,s2.heap.objs.size],_,_,H2,rfl,I2.kept (t':=s2.toks) hk,Sy hne,⟨⟨_,he⟩,hit⟩,fun b hb=>?_,q⟩;have hle:s2.heap.objs.size<=b:=by
   simp only [List.mem_cons,List.not_mem_nil,or_false] at hb;rcases hb with rfl | rfl <;> lia
  exact I2.uR hle (I2.hok.fresh hle)
 | [],_,q2=>exact q2.elim
 | _::_::_,_,q2=>exact q2.elim
theorem O6 (h:dG K H l xs) :
  (i<xs.length->(Sx K l c).go i H/\∀ v H',(Sx K l c).xR i H v H'->∃ p,v=.ref p/\H p=none/\H'=upd H p (.tup [.int ((c+i:Nat):Int),xs.getD i .non]))/\(xs.length<=i->(Sx K l c).stop i H):=by
 refine ⟨fun hi=>⟨⟨xs,xs[i],h,by simp [hi]⟩,fun v H' ⟨p,x,e1,e2,e3,e4⟩=>⟨p,e2,e3,?_⟩⟩,fun hi=>⟨xs,h,hi⟩⟩;rw [e4,iI,e1 xs h];rfl
inductive Lb (x y:V) (H:Hp) (Q:VK):Prop
 | mk (l b:Addr) (xs zs:List V) (_:x=.ref l) (_:y=.ref b) (_:H l=some (.lst xs)) (_:H b=some (.lst zs)) (_:xs.length+zs.length<=sizeLine) (_:Q (.ref l) (upd H l (.lst (xs++zs)))):Lb x y H Q
def a2j:TIp:=fun x y H Q=>Lb x y H Q
theorem O7 {M:Model}{a b:Value} (ha:s.TypeIs a "list") (hb:s.TypeIs b "list") (hc:wpAny M A (call (.builtin "list.__iadd__") [a,b]) Q E s):wpAny M A (inplaceOp .Add a b) Q E s:=by
 unfold inplaceOp;refine wpAny_holding ?_;have hsq:isSeqSlot (some (.builtin "list.__iadd__"))=true:=by decide +kernel
 have hfi:fillsInplaceSlot (.type "list") "add" (Operator.Add==.Add)=pure false:=by
  unfold fillsInplaceSlot
  show (typeLookup (.type "list") (dunderI "add") >>= fun fi=>pure (fi.isSome&&!isSeqSlot fi))=pure false
  rw [F.slot_list_iadd.lookup]
  show (pure (true&&!isSeqSlot (some (.builtin "list.__iadd__"))):Sem Bool)=pure false
  rw [hsq];rfl
 have hsi:=PySem.seqSlot_of F.slot_list_iadd.lookup hsq;have hfn:fillsNumberSlot (.type "list") "add"=pure false:=noFill_list_add;refine wpAny_bind (wpAny_typeOf ha (wpAny_bind (wpAny_of_eq hfi ?_)))
 show wpAny M A (if false=true then _ else _) Q E s
 rw [if_neg Bool.false_ne_true];refine wpAny_bind (wpAny_binaryOp1_none (nm:="add") ha hb hfn ?_);refine wpAny_bind (wpAny_of_eq hsi ?_);exact wpAny_bind (wpAny_rule hc)
theorem a0p:PIp X .Add a2j:=by
 intro pins s σ H x y v u Q I r1 r2 h;obtain ⟨l,b,xs,zs,rfl,rfl,hH,hB,hz,q⟩:=h;cases r1;cases r2;obtain ⟨z,its,n,r,hl,e⟩:=I.GD hH;obtain ⟨z2,its2,n2,r2,hl2,e2⟩:=I.GD hB;have hsz:its.toArray.size+its2.toArray.size<=sizeLine:=by rw [List.size_toArray,List.size_toArray];lia
 have a2k:¬ (!its.toArray.isEmpty&&Builtin.List.listTooLong (its.toArray.size+its2.toArray.size))=true:=by
  rw [Q6 hsz,Bool.and_false];exact Bool.false_ne_true
 refine O7 ⟨_,e,rfl⟩ ⟨_,e2,rfl⟩ ?_;refine call_meets F.slot_list_iadd ⟨_,e,rfl⟩ F.entry_list_iadd (F.args_list_iadd_2 _ _) (AutoSeq1.list___iadd___list_list_0 l its.toArray n b its2.toArray n2 a2k (by rw [List.size_toArray];lia) 0x1) ⟨e,e2,?_⟩;refine ⟨.ref l,_,I.UG (its':=its++its2) hH e 0x5 (r.append r2) ?_,rfl,q⟩;rw [jA];lia
end L2
namespace M
open PySem L2 PyProof.Rows
theorem Wb:bootBuiltins "dict"=some (.type "dict"):=by decide +kernel
def EY (n:Int):Bool:=decide (1<=n)&&decide (n<=9999)
def Ur (n:Int):Bool:=decide (0<=n)&&decide (n<=99)
inductive Ld (vs:List V) (H:Hp) (Q:VK):Prop
 | mk (n:Int) (_:vs=[.int n]) (_:EY n=true) (_:Q .non H):Ld vs H Q
def Y4:Sp:=fun vs H Q _=>Ld vs H Q
inductive Le (vs:List V) (H:Hp) (Q:VK):Prop
 | mk (n m:Int) (_:vs=[.int n,.int m]) (_:(EY n&&Ur m)=true) (_:Q .non H):Le vs H Q
def Y5:Sp:=fun vs H Q _=>Le vs H Q
theorem a2l:bB ["acres"] ["acres"] (aC Ny):=0x0
theorem a0q (F:iR K "check_acres" "check_acres" Ny f fd) {g:Addr}{gd:FuncData} (G:bw P w K mg base dF 2 g gd ["sort", "piece"] vY) (MG:Ms K mg "fits" g gd ["sort", "piece"]):bw P w K mg base dF 3 f fd ["acres"] Y4:=by
 refine F.ok a2l 0xA 0x2
 ·obtain ⟨n,rfl,_⟩:=h;rfl
 obtain ⟨n,rfl,hn,k⟩:=h;refine ⟨_,aD (bJ (fu (dW (bA G hr rfl MG.m MG.k MG.b .nil bL (aj aJ (aj (pv 0) aq))))) gn bf),?_⟩;refine ⟨_,rfl,.a,.int n,rfl,rfl,.inl ⟨n,rfl⟩,_,rfl,?_⟩;rw [show dB .a (.int n)=EY n from rfl,hn]
 exact bZ k
theorem a2m:bB ["acres", "bears"] ["acres", "bears"] (aC Nz):=0x0
theorem a0r (F:iR K "check_land" "check_land" Nz f fd) {g:Addr}{gd:FuncData} (G:bw P w K mg base dF 2 g gd ["sort", "piece"] vY) (MG:Ms K mg "fits" g gd ["sort", "piece"])
  (G1:bw P w K mg base dF 3 g1 d1 ["acres"] Y4) (M1:Ms K mg "check_acres" g1 d1 ["acres"]):bw P w K mg base dF 4 f fd ["acres", "bears"] Y5:=by
 refine F.ok a2m 0xA 0x2
 ·obtain ⟨n,m,rfl,_⟩:=h;rfl
 obtain ⟨n,m,rfl,hnm,k⟩:=h;obtain ⟨hn,hm⟩:=Bool.and_eq_true_iff.mp hnm;refine ⟨_,aA (dz (bA G1 hr rfl M1.m M1.k M1.b .nil bL (aj (pv 0) aq)))
  (aD (bJ (fu (dW (bA G (hr.mono 0x8) rfl MG.m MG.k MG.b .nil bL (aj aJ 0x21)))) gn bf)),?_⟩
 refine ⟨_,rfl,n,rfl,hn,?_⟩;refine ⟨_,rfl,.b,.int m,rfl,rfl,.inl ⟨m,rfl⟩,_,rfl,?_⟩;rw [show dB .b (.int m)=Ur m from rfl,hm]
 exact bZ k
structure tG (K:PySem.W.Frag) (C:Addr):Prop where
 cl:Cls K C
 n1:jk K C "many_acres"
 n2:jk K C "coins"
 n3:jk K C "standing"
 n4:jk K C "earlier"
 n5:jk K C "later"
abbrev FR (n m:Int) (st e l:Addr):List (Str×V):=[("many_acres",.int n),("coins",.int m),("standing",.ref st),("earlier",.ref e),("later",.ref l)]
structure jy (C:Addr) (H:Hp) (x dx st d e l:Addr) (n m fr:Int) (kvs:List (Int×V)) (es ls:List V):Prop where
 o:H x=some (.ins C dx (FR n m st e l))
 s:H st=some (.tup [.int fr,.ref d])
 k:H d=some (.dK (yH kvs))
 e:H e=some (.lst es)
 l:H l=some (.lst ls)
theorem jy.same {x st e:Addr}{n m fr:Int}{kvs:List (Int×V)}{es ls:List V} (r:jy C H x dx st d e l n m fr kvs es ls) (s:∀ b u,H b=some u->H' b=some u):jy C H' x dx st d e l n m fr kvs es ls:=⟨s _ _ r.o,s _ _ r.s,s _ _ r.k,s _ _ r.e,s _ _ r.l⟩
inductive zp (C:Addr) (vs:List V) (H:Hp) (Q:VK):Prop
 | mk (x dx:Addr) (n m:Int) (_:vs=[.ref x,.int n,.int m]) (_:H x=some (.ins C dx [])) (_:(EY n&&Ur m)=true) (_:∀ st d e l H',(∀ c o,c≠x->H c=some o->H' c=some o)->jy C H' x dx st d e l n m 1 [] [] []->H st=none->H d=none->H e=none->H l=none->x≠e->x≠l->x≠st->x≠d->Q .non H'):zp C vs H Q
def Lf (C:Addr):Sp:=fun vs H Q _=>zp C vs H Q
inductive Lg (C:Addr) (vs:List V) (H:Hp) (Q:VK):Prop
 | mk (x dx st d e l:Addr) (n m fr:Int) (kvs:List (Prod Int V)) (es ls:List V) (_:vs=[.ref x]) (_:jy C H x dx st d e l n m fr kvs es ls) (_:Q (.int n) H):Lg C vs H Q
def Y6 (C:Addr):Sp:=fun vs H Q _=>Lg C vs H Q
inductive Lh (C:Addr) (vs:List V) (H:Hp) (Q:VK):Prop
 | mk (x dx st d e l:Addr) (n m fr:Int) (kvs:List (Prod Int V)) (es ls:List V) (_:vs=[.ref x]) (_:jy C H x dx st d e l n m fr kvs es ls) (_:Q (.int m) H):Lh C vs H Q
def Y7 (C:Addr):Sp:=fun vs H Q _=>Lh C vs H Q
inductive Li (C:Addr) (vs:List V) (H:Hp) (Q:VK):Prop
 | mk (x dx st d e l:Addr) (n m fr:Int) (kvs:List (Prod Int V)) (es ls:List V) (_:vs=[.ref x]) (_:jy C H x dx st d e l n m fr kvs es ls) (_:Q (.int fr) H):Li C vs H Q
def Y8 (C:Addr):Sp:=fun vs H Q _=>Li C vs H Q
inductive zu (C:Addr) (vs:List V) (H:Hp) (Q:VK):Prop
 | mk (x dx st d e l:Addr) (n m fr:Int) (kvs:List (Prod Int V)) (es ls:List V) (_:vs=[.ref x]) (_:jy C H x dx st d e l n m fr kvs es ls) (_:kvs.length<64) (_:∀ (q:Addr) (as:List Addr) (ys:List (Int×V)) (H':Hp),(∀ b u,H b=some u->H' b=some u)->H q=none->H' q=some (.lst (as.map V.ref))->ys.Perm kvs->ys.Pairwise (fun x y=>x.1<y.1)->Items H' as ys->Q (.ref q) H'):zu C vs H Q
def Lj (C:Addr):Sp:=fun vs H Q _=>zu C vs H Q
theorem Wc:bB ["self", "acres", "bears"] ["self", "acres", "bears"] (aC rR):=0x0
theorem SM (T:tG K C) (F:iR K "__init__" "Roll.__init__" rR f fd)  (G1:bw P w K mg base dF 4 g1 d1 ["acres", "bears"] Y5) (M1:Ms K mg "check_land" g1 d1 ["acres", "bears"]):bw P w K mg base dF 5 f fd ["self", "acres", "bears"] (Lf C):=by
 refine F.ok Wc 0xA 0x2
 ·obtain ⟨x,dx,n,m,rfl,_⟩:=h;rfl
 obtain ⟨x,dx,n,m,rfl,hx,hnm,h⟩:=h;refine ⟨_,aA (dz (bA G1 hr rfl M1.m M1.k M1.b .nil bL (aj (pv 1) (aj (pv 2) aq))))
  (aA (rC (pv 0) (pv 1) rfl)
  (aA (rC (pv 0) (pv 2) rfl)
  (aA (rC (pv 0) (gG (aj au (aj Dh aq))) rfl)
  (aA (rC (pv 0) (cX aq) rfl)
  (aD (rC (pv 0) (cX aq) rfl)))))),?_⟩
 refine ⟨_,rfl,_,rfl,n,m,rfl,hnm,?_⟩;refine ⟨_,rfl,_,rfl,x,C,dx,_,rfl,hx,T.cl,T.n1,Nat.lt_of_sub_eq_succ rfl,?_⟩;refine ⟨_,rfl,_,rfl,x,C,dx,_,rfl,ak,T.cl,T.n2,Nat.lt_of_sub_eq_succ rfl,?_⟩;rw [Jb,show lW "coins" (V.int m) (lW "many_acres" (V.int n) [])=([("many_acres",V.int n),("coins",V.int m)]:List (Str×V)) from rfl]
 have x2:(upd H x (.ins C dx [("many_acres",.int n),("coins",.int m)])) x=some (.ins C dx [("many_acres",.int n),("coins",.int m)]):=ak;have f2:∀ c o,c≠x->H c=some o->(upd H x (.ins C dx [("many_acres",.int n),("coins",.int m)])) c=some o:=fun c o hc ho=>by rw [aG hc];exact ho
 have z2:∀ c,(upd H x (.ins C dx [("many_acres",.int n),("coins",.int m)])) c=none->H c=none/\x≠c:=fun c hc=>by
  have hne:x≠c:=aN x2 hc;rw [aG (Ne.symm hne)] at hc;exact ⟨hc,hne⟩
 generalize upd H x (.ins C dx [("many_acres",.int n),("coins",.int m)])=H2 at x2 f2 z2 ⊢;refine fun d hd=>⟨small 0x5,fun st hst=>?_⟩;have nd:x≠d:=aN x2 hd;have d3:(upd H2 d (.dK [])) d=some (.dK []):=ak;have nst:st≠d:=Ne.symm (aN d3 hst);have hst2:H2 st=none:=by rw [aG nst] at hst;exact hst
 have O8:x≠st:=aN x2 hst2;refine ⟨_,rfl,x,C,dx,_,rfl,by rw [aG O8,aG nd];exact x2,T.cl,T.n3,Nat.lt_of_sub_eq_succ rfl,?_⟩;generalize hH3:upd _ x _=H3;have x3:H3 x=some (.ins C dx [("many_acres",.int n),("coins",.int m),("standing",.ref st)]):=by rw [<- hH3,ak];rfl
 have s3:H3 st=some (.tup [.int 1,.ref d]):=by rw [<- hH3,aG (Ne.symm O8),ak]
 have k3:H3 d=some (.dK []):=by rw [<- hH3,aG (Ne.symm nd),aG (Ne.symm nst),ak]
 have f3:∀ c o,c≠x->H2 c=some o->H3 c=some o:=fun c o hc ho=>by rw [<- hH3,aG hc,aG (aN ho hst2),aG (aN ho hd)];exact ho
 clear hH3;refine ⟨small 0x5,fun e he=>?_⟩;have ne:x≠e:=aN x3 he;refine ⟨_,rfl,x,C,dx,_,rfl,by rw [aG ne];exact x3,T.cl,T.n4,Nat.lt_of_sub_eq_succ rfl,?_⟩;generalize hH4:upd _ x _=H4;have x4:H4 x=some (.ins C dx [("many_acres",.int n),("coins",.int m),("standing",.ref st),("earlier",.ref e)]):=by rw [<- hH4,ak];rfl
 have e4:H4 e=some (.lst []):=by rw [<- hH4,aG (Ne.symm ne),ak]
 have f4:∀ c o,c≠x->H3 c=some o->H4 c=some o:=fun c o hc ho=>by rw [<- hH4,aG hc,aG (aN ho he)];exact ho
 clear hH4;refine ⟨small 0x5,fun l hl=>?_⟩;have nl:x≠l:=aN x4 hl;refine ⟨_,rfl,x,C,dx,_,rfl,by rw [aG nl];exact x4,T.cl,T.n5,Nat.lt_of_sub_eq_succ rfl,?_⟩;generalize hH5:upd _ x _=H5;have x5:H5 x=some (.ins C dx (FR n m st e l)):=by rw [<- hH5,ak];rfl
 have l5:H5 l=some (.lst []):=by rw [<- hH5,aG (Ne.symm nl),ak]
 have f5:∀ c o,c≠x->H4 c=some o->H5 c=some o:=fun c o hc ho=>by rw [<- hH5,aG hc,aG (aN ho hl)];exact ho
 clear hH5;have back:∀ (Ha Hb:Hp),(∀ c o,c≠x->Ha c=some o->Hb c=some o)->∀ c,c≠x->Hb c=none->Ha c=none:=fun Ha Hb ff c hc hb=>by
  cases q:Ha c with
  | none=>rfl
  | some u=>rw [ff c u hc q] at hb;cases hb
 refine h st d e l H5 (fun c o hc ho=>f5 _ _ hc (f4 _ _ hc (f3 _ _ hc (f2 _ _ hc ho)))) ⟨x5,f5 _ _ (Ne.symm O8) (f4 _ _ (Ne.symm O8) s3),f5 _ _ (Ne.symm nd) (f4 _ _ (Ne.symm nd) k3),f5 _ _ (Ne.symm ne) e4,l5⟩
  (z2 st hst2).1 (z2 d hd).1 (z2 e (back H2 H3 f3 e (Ne.symm ne) he)).1 (z2 l (back H2 H3 f3 l (Ne.symm nl) (back H3 H4 f4 l (Ne.symm nl) hl))).1 ne nl O8 nd
theorem a2n:bB ["self"] ["self"] (aC rT):=0x0
theorem a0s (T:tG K C) (F:iR K "acres" "Roll.acres" rT f fd):bw P w K mg base dF 1 f fd ["self"] (Y6 C):=by
 refine F.ok a2n 0xA 0x2
 ·obtain ⟨x,dx,st,d,e,l,n,m,fr,kvs,es,ls,rfl,_⟩:=h;rfl
 obtain ⟨x,dx,st,d,e,l,n,m,fr,kvs,es,ls,rfl,R,k⟩:=h;refine ⟨_,aD (aU (zW (pv 0) rfl)),?_⟩;exact ⟨_,rfl,x,C,dx,_,_,rfl,R.o,T.cl,T.n1,rfl,k⟩
theorem a2o:bB ["self"] ["self"] (aC rW):=0x0
theorem a0t (T:tG K C) (F:iR K "bears" "Roll.bears" rW f fd):bw P w K mg base dF 1 f fd ["self"] (Y7 C):=by
 refine F.ok a2o 0xA 0x2
 ·obtain ⟨x,dx,st,d,e,l,n,m,fr,kvs,es,ls,rfl,_⟩:=h;rfl
 obtain ⟨x,dx,st,d,e,l,n,m,fr,kvs,es,ls,rfl,R,k⟩:=h;refine ⟨_,aD (aU (zW (pv 0) rfl)),?_⟩;exact ⟨_,rfl,x,C,dx,_,_,rfl,R.o,T.cl,T.n2,rfl,k⟩
theorem a2p:bB ["self"] ["self"] (aC yU):=0x0
theorem a0u (T:tG K C) (F:iR K "free" "Roll.free" yU f fd):bw P w K mg base dF 1 f fd ["self"] (Y8 C):=by
 refine F.ok a2p 0xA 0x2
 ·obtain ⟨x,dx,st,d,e,l,n,m,fr,kvs,es,ls,rfl,_⟩:=h;rfl
 obtain ⟨x,dx,st,d,e,l,n,m,fr,kvs,es,ls,rfl,R,k⟩:=h;refine ⟨_,aD (aU (bC gU (zW (pv 0) rfl) au 0xE)),?_⟩;exact ⟨_,rfl,x,C,dx,_,_,rfl,R.o,T.cl,T.n3,rfl,st,_,_,_,rfl,rfl,dG.of R.s,fH (j:=0) rfl,k⟩
theorem Wd:bB ["self"] ["self"] (aC yV):=0x0
theorem SN (T:tG K C) (F:iR K "rows" "Roll.rows" yV f fd) (ms:mg "sorted"=none):bw P w K mg base dF 1 f fd ["self"] (Lj C):=by
 refine F.ok Wd 0xA 0x2
 ·obtain ⟨x,dx,st,d,e,l,n,m,fr,kvs,es,ls,rfl,_⟩:=h;rfl
 obtain ⟨x,dx,st,d,e,l,n,m,fr,kvs,es,ls,rfl,R,h64,k⟩:=h;refine ⟨_,aD (aU (aM (Hi hr.hd) rfl ms Nh (aj (QJ (bC gU (zW (pv 0) rfl) au 0xE)) aq))),?_⟩;refine ⟨_,rfl,x,C,dx,_,_,rfl,R.o,T.cl,T.n3,rfl,st,_,_,_,rfl,rfl,dG.of R.s,fH (j:=1) rfl,d,_,rfl,R.k,fun v hv=>?_⟩;have s1:=ao hv (vH v d);exact ⟨v,d,kvs,rfl,ak,s1 _ _ R.k,h64,fun q as ys H' hs hq hl hp hw hi=>k q as ys H' (fun b u e=>hs b u (s1 b u e)) (by
  cases e:H q with
  | none=>rfl
  | some u=>rw [s1 q u e] at hq;cases hq) hl hp hw hi⟩
def tH (z:Str):Str:=(bO z).headD ""
def Fb (z:Str):Str:=Str.join ⟨#[32]⟩ (bO z).tail
theorem SQ (z:Str):∀ t∈bO z,32∉t.cps.toList:=by
 have h:=StrLaws.split_free z 32;unfold bO;rw [a0d];exact h
theorem SX (z:Str):∃ b:Str,wK z " "=[.str (tH z),.str b,.str (Fb z)]:=by
 have hj:=mW z;have hf:=SQ z;unfold tH Fb;rw [a0d]
 match hw:bO z with
 | []=>exact absurd hw (jw z)
 | [w] =>
  rw [hw] at hj hf;have e:w=z:=hj;refine ⟨Str.empty,?_⟩;rw [O5 (by rw [<- e];exact hf w List.mem_cons_self)]
  show [V.str z,V.str Str.empty,V.str Str.empty]=[V.str w,V.str Str.empty,V.str (Str.join ⟨#[32]⟩ [])]
  rw [e];rfl
 | w::x::r =>
  rw [hw] at hj hf;refine ⟨⟨#[32]⟩,?_⟩;have e:=qM 32 w x r;rw [hj] at e;exact Wa e (hf w List.mem_cons_self)
theorem a0v (z:Str):(tH z).length<=z.length:=by
 unfold tH;cases hw:bO z with
 | nil=>exact absurd hw (jw z)
 | cons w r=>exact lJ (by rw [hw];exact List.mem_cons_self)
theorem T3 (z:Str):(Fb z).length<=z.length:=by
 unfold Fb;have hj:=mW z
 match hw:bO z with
 | []=>exact Nat.zero_le _
 | [w]=>exact Nat.zero_le _
 | w::x::r =>
  rw [hw] at hj;have e:=qM 32 w x r;rw [hj] at e;have e2:=congrArg List.length e;rw [jA,jU] at e2
  show (Str.join ⟨#[32]⟩ (x::r)).length<=z.length
  rw [jt,jt];lia
theorem Wf (h:jz z):jz (Fb z):=by
 intro c hc;rcases mem_join hc with rfl | ⟨t,ht,hx⟩
 ·decide
 ·exact lK h (List.mem_of_mem_tail ht) c hx
inductive zx (vs:List V) (H:Hp) (Q:VK):Prop
 | mk (z:Str) (_:vs=[.str z]) (_:z.length<=1000) (_:(lY (Fb z)=none->∀ p H',Same H H'->H' p=some (.tup [lX .e (tH z),.non])->Q (.ref p) H')) (_:∀ k ps,lY (Fb z)=some (k,ps)->∀ p r H',Same H H'->H' p=some (.tup [lX .e (tH z),.ref r])->H' r=some (.tup (.str k::ps))->Q (.ref p) H'):zx vs H Q
def Lk:Sp:=fun vs H Q _=>zx vs H Q
theorem uH:bB ["line", "word", "blank", "text"] ["line"] (aC rM):=0x0
theorem T4 (F:iR K "entry_of" "entry_of" rM f fd)  (G1:bw P w K mg base dF 3 g1 d1 ["sort", "word"] a0b) (M1:Ms K mg "piece_of" g1 d1 ["sort", "word"])
  (G2:bw P w K mg base dF 5 g2 d2 ["text"] XJ) (M2:Ms K mg "row_of" g2 d2 ["text"]):bw P w K mg base dF 6 f fd ["line"] Lk:=by
 refine F.ok uH 0xA 0x2
 ·obtain ⟨z,rfl,_⟩:=h;rfl
 obtain ⟨z,rfl,hz,k0,k1⟩:=h;refine ⟨_,aA (m6 (dH (name:="partition") PySem.F.plainAttrs_str PySem.F.slot_str_partition PySem.F.type_str_partition Sw (pv 0) (aj aJ aq)) (fW rfl (aX (aQ (i:=1) uH.nd rfl 0x3) (aX (aQ (i:=2) uH.nd rfl 0x3) (aX (aQ (i:=3) uH.nd rfl 0x3) cZ)))))
  (aD (aU (gG (aj (bA G1 (hr.mono 0x8) rfl M1.m M1.k M1.b .nil bL (aj aJ 0x21)) (aj (bA G2 hr rfl M2.m M2.k M2.b .nil bL (aj (pv 3) aq)) aq))))),?_⟩
 obtain ⟨b,eb⟩:=SX z;refine ⟨_,rfl,rfl,z,_,rfl,rfl,0x4,(small 0x1),fun p hp=>?_⟩;rw [eb];have s1:=ao hp (.tup [.str (tH z),.str b,.str (Fb z)]);refine ⟨p,_,rfl,dG.of ak,rfl,_,_,rfl,_,_,rfl,_,_,rfl,rfl,?_⟩;refine ⟨_,rfl,.e,tH z,rfl,Nat.le_trans (a0v z) hz,?_⟩;refine ⟨_,rfl,Fb z,rfl,Nat.le_trans (T3 z) hz,fun hn H1 sa=>?_,fun k ps hk r H1 sa hr1=>?_⟩
 ·refine ⟨small 0x5,fun q hq=>?_⟩;exact k0 hn q _ ((s1.trans sa).trans (ao hq _)) ak
 ·refine ⟨small 0x5,fun q hq=>?_⟩;have s2:=ao hq (.tup [lX .e (tH z),.ref r]);exact k1 k ps hk q r _ ((s1.trans sa).trans s2) ak (s2 _ _ hr1)
structure a0w (K:PySem.W.Frag) (x qual:Str) (st:Stmt) (f:Addr) (fd:FuncData) (T:Addr):Prop where
 ex:∃ (oc:Value) (od:Option Addr) (kV doc pm:Value) (an:Option Addr) (cdv ct:Value) (osl:Array (Option Value)),
  fd=PySem.W.fnOf x qual (bh st) (aY st) (aC st) (.ref T) kV doc pm an cdv ct/\K.lookup f=some ⟨oc,od,.func fd,osl⟩/\PySem.W.codeIn K cdv qual=true
inductive zy (C:Addr) (vs:List V) (H:Hp) (Q:VK):Prop
 | mk (x:Addr) (z:Str) (n:Int) (_:vs=[.ref x,.str z,.int n]) (_:H x=some (Nx C x)) (_:∀ d,H d=none->Q .non (upd (upd H d (.xd [("at",.int n)])) x (Kc C x d))):zy C vs H Q
def nZ (C:Addr):Sp:=fun vs H Q _=>zy C vs H Q
theorem Wg:bB ["self", "words", "at"] ["self", "words", "at"] (aC pH):=0x0
theorem T5 {T:Addr} (F:a0w K "__init__" "NoText.__init__" pH f fd T) (xi:XI K C "at") (B:BI K L) (mL:mg "LandError"=some (.ref L)):bw P w K mg base (vP P w) 1 f fd ["self", "words", "at"] (nZ C):=by
 obtain ⟨oc,od,kV,doc,pm,an,cdv,ct,osl,rfl,lk,hcd⟩:=F.ex;refine Jt lk hcd Wg 0xA fun A outer s H vs Q E hr h=>?_
 ·obtain ⟨x,z,n,rfl,_⟩:=h;rfl
 obtain ⟨x,z,n,rfl,hx,k⟩:=h;refine ⟨_,aA (dz (R3 B rfl mL (aj (pv 0) 0x21))) (aD (Vg (pv 0) (pv 2) rfl)),?_⟩;refine ⟨_,rfl,_,rfl,x,C,_,rfl,small (show 1<=1000000 by decide),hx,xi.ei,?_⟩
 refine ⟨_,rfl,_,rfl,x,C,rfl,hx,xi,fun d hd=>k d hd⟩
theorem Wh {T:Addr} (F:a0w K "__init__" "NoText.__init__" pH f fd T) {o:Obj}{v0 v1:Value} (ho:K.lookup T=some o) (hs:o.data=.seq #[v0,v1] n):Binds K fd ["self", "words", "at"] []:=by
 obtain ⟨oc,od,kV,doc,pm,an,cdv,ct,osl,rfl,lk,hcd⟩:=F.ex;intro s us X hl;rw [List.append_nil] at hl ⊢;obtain ⟨a,b,c,rfl⟩:∃ a b c,us=[a,b,c]:=by
  match us,hl with
  | [a,b,c],_=>exact ⟨a,b,c,rfl⟩
 first | exact PySem.W.binds_K X rfl ho hs rfl rfl | exact .of_eq rfl
theorem ni {E:XK}{n:Int} (s1:Same H H1) (k:∀ d H',Same H H'->H' d=some (.xd [("at",.int n)])->E 0x26 (some d) H') (x:Addr) (hx:H1 x=none) :
  nZ C [.ref x,.str z,.int n] (upd H1 x (Nx C x)) (fun v H2=>v=.non/\∃ d,H2 x=some (Kc C x d)/\E 0x26 (some d) (cut H2 x)) (fun _ _ _=>False):=by
 refine ⟨x,z,n,rfl,ak,fun d hd=>⟨rfl,d,ak,?_⟩⟩;have dx:d≠x:=fun e=>by rw [e,ak] at hd;cases hd
 have hd1:H1 d=none:=by rw [aG dx] at hd;exact hd
 refine k d _ (fun b o q=>?_) ?_
 ·have q1:=s1 b o q;have bx:b≠x:=fun e=>by rw [e,hx] at q1;cases q1
  have bd:b≠d:=fun e=>by rw [e,hd1] at q1;cases q1
  rw [pB bx,aG bx,aG bd,aG bx];exact q1
 ·rw [pB dx,aG dx,ak]
def bY (w0:Str) (l:List cP) (z:Str):Option (List V):=if tH z=w0 then gP l (bO z).tail else none
def iy:List Str->Sum Nat (List V)
 | []=>.inl 1
 | [a]=>match bY "land" [.a,.b] a with | none=>.inl 1 | some _=>.inl 2
 | a::b::_=>match bY "land" [.a,.b] a with
  | none=>.inl 1
  | some p=>match bY "free" [.e] b with
   | none=>.inl 2
   | some q=>.inr (p++q)
structure Ib (K:PySem.W.Frag) (mg:Str->Option Value) (aH h1 h2 f1 f2:Addr):Prop where
 m:mg "HEADS"=some (.ref aH)
 t:xJ K aH [.ref h1,.ref h2]
 t1:xJ K h1 [.str "land",.ref f1]
 t2:xJ K h2 [.str "free",.ref f2]
 u1:xJ K f1 [.str "acres",.str "bears"]
 u2:xJ K f2 [.str "entry"]
inductive zA (K:PySem.W.Frag) (C:Addr) (vs:List V) (H:Hp) (Q:VK) (E:XK):Prop
 | mk (q:Addr) (ls:List Str) (_:vs=[.ref q]) (_:aZ K H q (ls.map V.str)) (_:(∀ l∈ls,l.length<=1000)) (_:(∀ n,iy ls=.inl n->∀ d H',Same H H'->H' d=some (.xd [("at",.int (n:Int))])->E 0x26 (some d) H')) (_:∀ ps,iy ls=.inr ps->∀ r H',Same H H'->H r=none->H' r=some (.lst ps)->Q (.ref r) H'):zA K C vs H Q E
def Lp (K:PySem.W.Frag) (C:Addr):Sp:=fun vs H Q E=>zA K C vs H Q E
def T6 (ls:List Str):Nat->List V->Prop
 | 0,told=>told=[]
 | 1,told=>∃ a r,ls=a::r/\bY "land" [.a,.b] a=some told
 | _,told=>iy ls=.inr told
theorem kJ (a b:Str) (r:List Str):iy (a::b::r)=(match bY "land" [.a,.b] a with | none=>Sum.inl 1 | some p=>match bY "free" [.e] b with | none=>Sum.inl 2 | some q=>Sum.inr (p++q)):=rfl
theorem sI (a:Str):iy [a]=(match bY "land" [.a,.b] a with | none=>Sum.inl 1 | some _=>Sum.inl 2):=rfl
theorem sJ {w0:Str}{l0:List cP}{told:List V} (hc:(i=0/\w0="land"/\l0=[.a,.b])\/(i=1/\w0="free"/\l0=[.e])) (ha:T6 ls i told) (hz:ls[i]?=some z) (hn:bY w0 l0 z=none):iy ls=.inl (1+i):=by
 rcases hc with ⟨rfl,rfl,rfl⟩ | ⟨rfl,rfl,rfl⟩
 ·cases ls with
  | nil=>cases hz
  | cons a r =>
   have e:a=z:=by simpa using hz
   subst e;cases r with
   | nil=>rw [sI,hn]
   | cons b r=>rw [kJ,hn]
 ·obtain ⟨a,rr,el,hv⟩:=ha;subst el;cases rr with
  | nil=>simp at hz
  | cons b r =>
   have e:b=z:=by simpa using hz
   subst e;rw [kJ,hv];simp only [hn]
theorem Ie {w0:Str}{l0:List cP}{told:List V} (hc:(i=0/\w0="land"/\l0=[.a,.b])\/(i=1/\w0="free"/\l0=[.e])) (ha:T6 ls i told) (hz:ls[i]?=some z) (ps:List V) (hp:bY w0 l0 z=some ps):T6 ls (i+1) (told++ps):=by
 rcases hc with ⟨rfl,rfl,rfl⟩ | ⟨rfl,rfl,rfl⟩
 ·have e0:told=[]:=ha;rw [e0,List.nil_append];cases ls with
  | nil=>cases hz
  | cons a r =>
   have e:a=z:=by simpa using hz
   subst e;exact ⟨a,r,rfl,hp⟩
 ·obtain ⟨a,rr,el,hv⟩:=ha;subst el;cases rr with
  | nil=>simp at hz
  | cons b r =>
   have e:b=z:=by simpa using hz
   subst e
   show iy (a::b::r)=.inr (told++ps)
   rw [kJ,hv];simp only [hp]
theorem jK:bB ["lines", "told", "at", "word", "form", "words", "pieces"] ["lines"] (aC rK):=0x0
theorem T7 (F:iR K "read_heads" "read_heads" rK f fd) (ml:mg "len"=none) (me:mg "enumerate"=none) {aH h1 h2:Addr} (hm:Ib K mg aH h1 h2 f1 f2)  (G1:bw P w K mg base dF 4 g1 d1 ["form", "words"] (RB K)) (M1:Ms K mg "pieces_of" g1 d1 ["form", "words"])
  (mk:MkX K C g2) (G2:bw P w K mg base (vP P w) 1 g2 d2 ["self", "words", "at"] (nZ C)) (B2:Binds K d2 ["self", "words", "at"] []) (mC:mg "NoText"=some 0x26) :
  bw P w K mg base (vP P w) 5 f fd ["lines"] (Lp K C):=by
 obtain ⟨oc,od,kV,doc,pm,an,cdv,ct,osl,rfl,lk,hcd⟩:=F.ex;refine Jt lk hcd jK 0xA fun A outer s H vs Q E hr h=>?_
 ·obtain ⟨q,ls,rfl,_⟩:=h;rfl
 obtain ⟨q,ls,rfl,hS,hz,k0,k1⟩:=h;refine ⟨_,aA (bD (i:=1) jK.nd rfl 0x3 (cX aq))
  (aA (gb (fun e s' h=>wpAny_leaving_again (SameStack.refl _) h) rfl (SJ rfl me (aj (dj rfl hm.m rfl (v:=.ref aH)) aq) au) (fW rfl (aX (aQ (i:=2) jK.nd rfl 0x3) (aX (fW rfl (aX (aQ (i:=3) jK.nd rfl 0x3) (aX (aQ (i:=4) jK.nd rfl 0x3) cZ))) cZ)))
   (aA (bJ (aK xT (aM bF rfl ml PySem.boot_len (aj (pv 0) aq)) (pv 2) (aW _)) (aD (nM (E:=E) (jM:=[]) rfl rfl (fun pins σ H1 s1 e C' d I he hn q=>uw I he hn q) mk G2 (hr.mono 0x8) B2 .nil rfl mC (aj aJ (aj (pv 2) aq)))) bf)
   (aA (bD (i:=5) jK.nd rfl 0x3 (dH (name:="split") PySem.F.plainAttrs_str PySem.F.slot_str_split PySem.F.type_str_split gM (bC aL (pv 0) (aR oX (pv 2) au) jP) (aj aJ aq)))
   (aA (bD (i:=6) jK.nd rfl 0x3 (bA G1 hr rfl M1.m M1.k M1.b .nil bL (aj (pv 4) (aj (cU bQ (pv 5) (dJ au) dI) aq))))
   (aA (bJ (PW.pt (dZ (aK jE (bC aL (pv 5) au bW) (pv 3) (aW _)) (eO (kW (jL (pv 6)))))) (aD (nM (E:=E) (jM:=[]) rfl rfl (fun pins σ H1 s1 e C' d I he hn q=>uw I he hn q) mk G2 (hr.mono 0x8) B2 .nil rfl mC (aj aJ (aj (pv 2) aq)))) bf)
   (aD (YC (i:=1) jK.nd rfl 0x3 (pv 6) a0p)))))))
  (aD (aU (pv 1)))),?_⟩
 refine ⟨small 0x5,fun r hr0=>?_⟩;have s1:Same H (upd H r (.lst [])):=ao hr0 _;have r1:(upd H r (.lst [])) r=some (.lst []):=ak;generalize upd H r (.lst [])=H1 at s1 r1 ⊢;refine ⟨aH,[.ref h1,.ref h2],1,rfl,rfl,by decide,hm.t.sq _,?_⟩;refine lC (n:=2) (fx:=fun i=>V.int ((1+i:Nat):Int)) (fy:=fun i=>([V.ref h1,V.ref h2]:List V).getD i .non)
  (fun i σ Hx=>∃ (told:List V) (u2 u3 u4 u5 u6:Option V),σ=[some (.ref q),some (.ref r),u2,u3,u4,u5,u6]/\Same H Hx/\Hx r=some (.lst told)/\told.length<=10 * i/\T6 ls i told) ?_
  ⟨[],none,none,none,none,none,rfl,s1,r1,Nat.zero_le _,rfl⟩ ?_ ?_
 ·rintro i σ Hx ⟨told,u2,u3,u4,u5,u6,rfl,sx,rx,tl,ha⟩;exact O6 (K:=K) (l:=aH) (xs:=[.ref h1,.ref h2]) (c:=1) (H:=Hx) (i:=i) (hm.t.sq _)
 ·rintro i σ Hx t hi ⟨told,u2,u3,u4,u5,u6,rfl,sx,rx,tl,ha⟩ ht;obtain ⟨hh,w0,ff,l0,eh,kh,kf,l6⟩:∃ (hh:Addr) (w0:Str) (ff:Addr) (l0:List cP),([V.ref h1,V.ref h2]:List V).getD i .non=.ref hh/\xJ K hh [.str w0,.ref ff]/\xJ K ff (l0.map fun s=>.str s.word)/\(l0.length<=6/\((i=0/\w0="land"/\l0=[.a,.b])\/(i=1/\w0="free"/\l0=[.e]))):=by
   have:i=0\/i=1:=by lia
   rcases this with rfl | rfl
   ·exact ⟨h1, "land",f1,[.a,.b],rfl,hm.t1,hm.u1,by decide,.inl ⟨rfl,rfl,rfl⟩⟩
   ·exact ⟨h2, "free",f2,[.e],rfl,hm.t2,hm.u2,by decide,.inr ⟨rfl,rfl,rfl⟩⟩
  obtain ⟨l6,hcase⟩:=l6;rw [eh];have s2:=ao ht (.tup [V.int ((1+i:Nat):Int),V.ref hh]);refine ⟨t,_,rfl,dG.of ak,rfl,_,_,rfl,_,_,rfl,hh,_,rfl,kh.sq _,rfl,_,_,rfl,_,_,rfl,rfl,rfl,?_⟩;have g2:=sx.trans s2;have r2:=s2 _ _ rx;generalize upd Hx t (.tup [V.int ((1+i:Nat):Int),V.ref hh])=H2 at g2 r2 ⊢;have S2:=g2.seq hS;refine ⟨_,rfl,q,_,rfl,.inl S2,_,rfl,_,_,rfl,rfl,_,rfl,?_⟩;have few:ls.length<1+i->iy ls=.inl (1+i):=fun hlt=>by
   rcases hcase with ⟨rfl,_,_⟩ | ⟨rfl,_,_⟩
   ·have:ls=[]:=List.length_eq_zero_iff.mp 0x1;rw [this];rfl
   ·obtain ⟨a,rr,el,hv⟩:=ha;have:rr=[]:=List.length_eq_zero_iff.mp (by rw [el,jU] at hlt;lia);subst this;rw [el]
    show (match bY "land" [.a,.b] a with | none=>Sum.inl 1 | some _=>Sum.inl 2)=_
    rw [hv]
  refine bG 0x28 0x28
  ·have hlt:ls.length<1+i:=by
    have:=fO c;rw [bV] at this;lia
   refine ⟨_,rfl,small 0x5,fun x hx=>ni g2 (fun d H' s' hd=>k0 _ (few hlt) d H' s' hd) x hx⟩
  have hge:i<ls.length:=by
   have:=of_decide_eq_false (Bool.eq_false_iff.mpr c);rw [bV] at this;lia
  have hzi:(ls[i]).length<=1000:=hz _ (List.getElem_mem hge);have eat:lZ (ls.map V.str) (((1+i:Nat):Int) - 1)=some (.str ls[i]):=by
   have e:(((1+i:Nat):Int) - 1)=((i:Nat):Int):=by lia
   rw [e];exact fH (by rw [jT,dO hge];rfl)
  generalize hzz:ls[i]=z at hzi eat;refine ⟨_,rfl,_,rfl,_,_,rfl,rfl,q,_,_,_,rfl,rfl,S2,eat,rfl,_,_,rfl,rfl,0x4,(by have:=small (n:=2000) 0x1;lia),fun p hp=>?_⟩;have ew:Txt.split z (Str.ofString " ")=bO z:=rfl;rw [ew];have s3:=ao hp (.lst ((bO z).map V.str));have p3:(upd H2 p (.lst ((bO z).map V.str))) p=some (.lst ((bO z).map V.str)):=ak;have g3:=g2.trans s3;have r3:=s3 _ _ r2;generalize upd H2 p (.lst ((bO z).map V.str))=H3 at g3 p3 r3 ⊢;obtain ⟨w1,ws,xu⟩:∃ w1 ws,bO z=w1::ws:=by
   cases e:bO z with
   | nil=>exact absurd e (jw z)
   | cons w1 ws=>exact ⟨w1,ws,rfl⟩
  have ehd:tH z=w1:=by unfold tH;rw [xu];rfl
  have etl:(bO z).tail=ws:=by rw [xu];rfl
  have wle:∀ t∈ws,t.length<=1000:=fun t ht=>Nat.le_trans (lJ (z:=z) (by rw [xu];exact lR _ ht)) hzi;rw [xu,List.map_cons] at p3;refine ⟨_,rfl,_,rfl,_,rfl,p,_,rfl,aZ.of p3,fun p4 hp4=>?_⟩;rw [Hw];have s4:=ao hp4 0x15;have q4:(upd H3 p4 0x15) p4=some 0x15:=ak;have g4:=g3.trans s4;have r4:=s4 _ _ r3;have p4':=s4 _ _ p3;generalize upd H3 p4 0x15=H4 at g4 q4 r4 p4' ⊢;have bad:bY w0 l0 z=none->iy ls=.inl (1+i):=sJ hcase ha (by rw [dO hge,hzz]);have good:∀ ps,bY w0 l0 z=some ps->T6 ls (i+1) (told++ps):=Ie hcase ha (by rw [dO hge,hzz]);have eh0:bY w0 l0 z=if w1=w0 then gP l0 ws else none:=by unfold bY;rw [ehd,etl]
  refine ⟨ff,p4,l0,ws,rfl,kf,aZ.of q4,l6,wle,fun hn H5 s5=>?_,fun ps hps pp H5 s5 hpp hpp0=>?_⟩
  ·have hb:=bad (by rw [eh0,hn];split <;> rfl);have g5:=g4.trans s5;have p5:=s5 _ _ p4';refine ⟨_,rfl,p,_,_,_,rfl,rfl,aZ.of p5,at0 _ _,_,rfl,rfl,_,rfl,?_⟩;have go:∀ x,H5 x=none->nZ C [.ref x,.str "the page doesn't begin so",.int ((1+i:Nat):Int)] (upd H5 x (Nx C x)) (fun v H2=>v=.non/\∃ d,H2 x=some (Kc C x d)/\E 0x26 (some d) (cut H2 x)) (fun _ _ _=>False) :=
    fun x hx=>ni g5 (fun d H' s' hd=>k0 _ hb d H' s' hd) x hx
   refine bG (fun _=>bU ⟨_,rfl,small 0x5,go⟩) (fun _=>?_);exact ⟨_,rfl,_,rfl,bU ⟨_,rfl,small 0x5,go⟩⟩
  ·have g5:=g4.trans s5;have p5:=s5 _ _ p4';have r5:=s5 _ _ r4;refine ⟨_,rfl,p,_,_,_,rfl,rfl,aZ.of p5,at0 _ _,_,rfl,rfl,_,rfl,?_⟩;refine bG (fun c1=>?_) (fun c1=>?_)
   ·have hne:¬ w1=w0:=fun e=>by
     rw [e] at c1;simp at c1
    have hb:=bad (by rw [eh0,if_neg hne]);exact bU ⟨_,rfl,small 0x5,fun x hx=>ni g5 (fun d H' s' hd=>k0 _ hb d H' s' hd) x hx⟩
   ·have heq:w1=w0:=by
     by_cases e:w1=w0
     ·exact e
     ·exact absurd (by simp [e]) c1
    refine ⟨_,rfl,_,rfl,bZ ?_⟩;have hlen:=(res_some hps);have pl:ps.length<=6:=by rw [hlen.2.1,uD hlen.1];exact l6
    refine ⟨_,rfl,_,rfl,r,pp,told,ps,rfl,rfl,r5,hpp,small 0x1,?_⟩;exact ⟨told++ps,_,_,_,_,_,rfl,aV g5 hr0,ak,by rw [jA];lia,good ps (by rw [eh0,if_pos heq];exact hps)⟩
 ·rintro σ Hx ⟨told,u2,u3,u4,u5,u6,rfl,sx,rx,tl,ha⟩;exact ⟨_,rfl,k1 told ha r Hx sx hr0 rx⟩
inductive wN (C:Addr) (vs:List V) (H:Hp) (Q:VK):Prop
 | mk (n m fr:Int) (d:Addr) (kvs:List (Prod Int V)) (_:vs=[.int n,.int m,.int fr,.ref d]) (_:(EY n&&Ur m)=true) (_:H d=some (.dK (yH kvs))) (_:∀ x dx st d' e l H',Same H H'->jy C H' x dx st d' e l n m fr kvs [] []->Q (.ref x) H'):wN C vs H Q
def Fd (C:Addr):Sp:=fun vs H Q _=>wN C vs H Q
theorem Fe:bB ["acres", "bears", "free", "held", "roll"] ["acres", "bears", "free", "held"] (aC nO):=0x0
theorem O9 (F:iR K "roll_of" "roll_of" nO f fd) (T:tG K C) (md:mg "dict"=none)  (G1:bw P w K mg base dF 5 g1 d1 ["self", "acres", "bears"] (Lf C)) (MK:Mk K C g1) (mR:mg "Roll"=some 0x26) (b1:Binds K d1 ["self", "acres", "bears"] []) :
  bw P w K mg base dF 7 f fd ["acres", "bears", "free", "held"] (Fd C):=by
 refine F.ok Fe 0xA 0x2
 ·obtain ⟨n,m,fr,d,kvs,rfl,_⟩:=h;rfl
 obtain ⟨n,m,fr,d,kvs,rfl,hnm,hd,k⟩:=h;refine ⟨_,aA (bD (i:=4) Fe.nd rfl 0x3 (Uz MK G1 hr rfl mR b1 .nil bL (aj (pv 0) 0x21)))
  (aA (rC (pv 4) (gG (aj (pv 2) (aj (cO Hh rfl md Wb (aj (pv 3) aq)) aq))) rfl)
  (aD (aU (pv 4)))),?_⟩
 refine ⟨_,rfl,_,rfl,fun x dx hx hdx hne=>⟨x,dx,n,m,rfl,ak,hnm,fun st d0 e l H2 kp R _ _ _ _ nxe nxl O8 nxd=>⟨rfl,?_⟩⟩⟩;have kp2:∀ c o,H c=some o->H2 c=some o:=fun c o q=>by
  have c1:c≠x:=fun z=>by rw [z,hx] at q;cases q
  have c2:c≠dx:=fun z=>by rw [z,hdx] at q;cases q
  exact kp c o c1 (by rw [aG c1,aG c2];exact q)
 have d2:=kp2 _ _ hd;refine ⟨_,rfl,_,rfl,d,_,rfl,d2,fun d' hd'=>?_⟩;have xd':x≠d':=aN R.o hd';have ed':e≠d':=aN R.e hd';have ld':l≠d':=aN R.l hd';refine ⟨small 0x5,fun st' hst=>?_⟩;have k3:(upd H2 d' (.dK (yH kvs))) d'=some (.dK (yH kvs)):=ak;have dst:d'≠st':=aN k3 hst;have hst2:H2 st'=none:=by rw [aG (Ne.symm dst)] at hst;exact hst
 have xst:x≠st':=aN R.o hst2;have est:e≠st':=aN R.e hst2;have lst':l≠st':=aN R.l hst2;refine ⟨_,rfl,x,C,dx,_,rfl,by rw [aG xst,aG xd'];exact R.o,T.cl,T.n3,Nat.lt_of_sub_eq_succ rfl,?_⟩;refine ⟨_,rfl,k x dx st' d' e l _ (fun c o q=>?_) ⟨?_,?_,?_,?_,?_⟩⟩
 ·have q2:=kp2 c o q;have c1:c≠x:=fun z=>by rw [z,hx] at q;cases q
  have c2:c≠d':=fun z=>by rw [z,hd'] at q2;cases q2
  have c3:c≠st':=fun z=>by rw [z,hst2] at q2;cases q2
  rw [aG c1,aG c3,aG c2];exact q2
 ·rw [ak];rfl
 ·rw [aG (Ne.symm xst),ak]
 ·rw [aG (Ne.symm xd'),aG dst,ak]
 ·rw [aG (Ne.symm nxe),aG est,aG ed'];exact R.e
 ·rw [aG (Ne.symm nxl),aG lst',aG ld'];exact R.l
end M
namespace L2
open PySem PySem.Spec PyProof.Rows PySem.W
theorem Y9 {t:Addr} (hne:t≠it):∀ (n i:Nat) (s:Shared) (Q:List Value->Shared->Prop),s.heap.IsListIter it t i->s.heap.IsList t its->i+n<=its.size ->
  (∀ g,g.IsListIter it t (i+n)->Heap.SameBut it s.heap g->Q ((its.toList.drop i).take n) { s with heap:=g })->wpAny 0xD A (draw (.ref it) n) Q E s
 | 0,i,s,Q,hit,_,_,k=>by
  show wpAny _ _ (pure []) Q E s
  exact wpAny_pure (by simpa using k s.heap hit (Heap.SameBut.refl ..))
 | n+1,i,s,Q,hit,hl,hle,k=>by
  have hi:i<its.size:=by lia
  show wpAny _ _ (pyNext (.ref it) >>= _) Q E s
  refine wpAny_bind (wpAny_pyNext_list_item hit hl (x:=its[i]) (by simp [hi]) fun g1 hit1 sb1=>?_);refine wpAny_bind (wpAny_holding (Y9 hne n (i+1) _ _ hit1 (hl.extBut sb1.extBut hne) 0x1 fun g2 hit2 sb2=>wpAny_pure ?_));have ed:its.toList.drop i=its[i]::its.toList.drop (i+1):=by simp [List.drop_eq_getElem_cons,hi]
  have z:=k g2 (by rw [show i+(n+1)=i+1+n by lia];exact hit2) (sb1.trans sb2)
  rw [ed,List.take_succ_cons] at z;exact z
theorem Wi {t:Addr}{Q:List Value->Shared->Prop} (hh:A.handled=none) (hl:s.heap.IsList t its)
  (k:∀ g,Heap.ExtBut s.heap.objs.size s.heap g->Q its.toList { s with heap:=g }):wpAny 0xD A (unpackItems (.ref t) its.size none) Q E s:=by
 have hlt:t≠s.heap.objs.size:=by obtain ⟨o,ho,_⟩:=hl;exact Nat.ne_of_lt (Heap.lt_size ho)
 unfold unpackItems;refine wpAny_bind ?_;unfold notIterableAtAll;refine wpAny_bind (wpAny_specialOf hl.typeIs F.slot_list_iter.lookup ?_);refine wpAny_pure ?_;simp only [Bool.false_eq_true,if_false];refine wpAny_bind (wpAny_holding (wpAny_pyIter_list hl ?_));refine wpAny_bind (wpAny_holding (Y9 hlt its.size 0 _ _ ⟨_,Heap.get?_push_size _ rfl,rfl,rfl⟩ (hl.push _) 0x1 fun g1 hit1 sb1=>?_));have hall:List.take its.size (List.drop 0 its.toList)=its.toList:=by
  rw [List.drop_zero];exact List.take_of_length_le 0x5
 rw [hall,if_neg 0x5];have hl1:g1.IsList t its:=(hl.push _).extBut sb1.extBut hlt;refine wpAny_bind (wpAny_holding (wpAny_pyNext_list_end hh hit1 hl1 0x5 fun g2 eb=>?_));simp only [Option.isSome_none,Bool.false_eq_true,if_false];exact wpAny_pure (k g2 fun b o hb e=>eb b o hb (sb1.extBut b o hb (Heap.get?_push_of_some _ e)))
inductive T8 (K:PySem.W.Frag) (n:Nat) (t:MF) (v:V) (σ:L2.St) (H:Hp) (Q:L2.St->Hp->Prop):Prop
 | mk (a:Addr) (xs:List V) (_:v=.ref a) (_:aZ K H a xs) (_:xs.length=n) (_:t xs σ H Q):T8 K n t v σ H Q
def gLst (K:PySem.W.Frag) (n:Nat) (t:MF):TG:=fun v σ H Q=>T8 K n t v σ H Q
theorem a0x {k:Nat}{t:MF} (hc:X.calm=true) (h:PGs X es t)
  (hn:(assignEach es X.env).length=n:=by rfl) (hst:(assignEach es X.env).findIdx? (·.1)=none:=by rfl):PG X (.Tuple es k pos) (gLst X.K n t):=by
 intro pins s σ H v u Q I r hw;obtain ⟨a,xs,e1,hq,hl,hw⟩:=hw;subst e1;cases r;obtain ⟨its,rv,pl,hz⟩:=I.list hq;rw [assign_Tuple];refine wpAny_bind (wpAny_standAt ?_);unfold unpack;have es':(assignEach es X.env).length=its.toArray.size:=by rw [hn,List.size_toArray,<- rv.length,hl]
 rw [es',hst];refine wpAny_bind (wpAny_holding (Wi (I.ok.hd hc) pl.isList fun g hx=>?_));have I1:Inv X pins σ H { s with heap:=g }:=I.kept (t':=s.toks) fun b o e=>hx b o (Nat.ne_of_lt (Heap.lt_size e)) e;exact h pins _ σ H xs _ Q I1 (by simpa using rv) hw
end L2
namespace M
open PySem L2
def eN (acc:List (Int×List V)):Int:=match acc.getLast? with
 | some p=>p.1
 | none=>0
def jR (free last:Int) (rows:List (List V)) (z:Str):Option (Int×List V):=match lX .e (tH z),lY (Fb z) with
 | .int n,some (k,ps)=>if n<=last\/n>=free\/(V.str k::ps)∈rows then none else some (n,V.str k::ps)
 | _,_=>none
def iQ (free:Int):List Str->Nat->List (Int×List V)->Sum Nat (List (Int×List V))
 | [],_,acc=>.inr acc
 | z::r,at_,acc=>match jR free (eN acc) (acc.map (·.2)) z with
  | none=>.inl at_
  | some e=>iQ free r (at_+1) (acc++[e])
def dU (z:Str):Sum Nat (List V×List (Int×List V)):=match iy (cJ z).dropLast with
 | .inl n=>.inl n
 | .inr ps=>match ps with
  | [.int a,.int b,.int fr]=>(match iQ fr ((cJ z).dropLast.drop 2) 3 [] with
   | .inl n=>.inl n
   | .inr es=>if (cJ z).getLastD ""="" then .inr (ps,es) else .inl (cJ z).length)
  | _=>.inl 0
theorem Yb {k:Str}{ps:List V} (h:lY z=some (k,ps)):Row 1000 k ps/\∃ l,form k=some l:=by
 unfold lY at h
 split at h
 ·cases h
 ·unfold pK at h;obtain ⟨l,hl,h⟩:=Option.bind_eq_some_iff.mp h;obtain ⟨ps',hp',h⟩:=Option.bind_eq_some_iff.mp h
  split at h
  ·injection h with h;injection h with h1 h2;subst h1 h2;exact ⟨KH hl hp',l,hl⟩
  ·cases h
theorem T9 (h:∀ c∈z.cps.toList,c<128):PyData.strOk z=true:=by
 unfold PyData.strOk;rw [<- Array.all_toList,List.all_eq_true];intro c hc;have:=h c hc;exact decide_eq_true 0x1
theorem Tc {k:Str}{ps:List V} (h:lY z=some (k,ps)):(V.str k::ps).all lD=true:=by
 obtain ⟨R,l,hl⟩:=Yb h;have hk:∀ p∈forms,PyData.strOk p.1=true:=by decide +kernel
 rw [List.all_cons,Bool.and_eq_true];refine ⟨hk _ (gZ hl),List.all_eq_true.mpr fun v hv=>?_⟩;rcases R.ok v hv with ⟨n,rfl⟩ | ⟨y,rfl,_,hc⟩
 ·rfl
 ·exact T9 hc
theorem Bt {s:cP} (hs:s.num=true):lX s z=.non\/∃ n,lX s z=.int n/\dB s (.int n)=true:=by
 by_cases h:lX s z=.non
 ·exact .inl h
 ·have f:=RG h;have i:=Kr f;rw [hs] at i;cases hv:lX s z with
  | int n=>rw [hv] at f;exact .inr ⟨n,rfl,f⟩
  | _=>rw [hv] at i;cases i
theorem Fg {l:List cP}{ps:List V} (h:gP l ws=some ps):ps=ju l ws/\ws.length=l.length/\∀ v∈ps,v≠.non:=by
 obtain ⟨a,b,c⟩:=res_some h;exact ⟨b,a,c⟩
theorem zB {ps:List V} (h:bY "land" [.a,.b] z=some ps):∃ a b:Int,ps=[.int a,.int b]/\(EY a&&Ur b)=true:=by
 unfold bY at h
 split at h
 ·obtain ⟨e,hl,hn⟩:=Fg h
  match hw:(bO z).tail,hl with
  | [x,y],_ =>
   rw [hw] at e;have e':ps=[lX .a x,lX .b y]:=e;rcases Bt (s:=.a) (z:=x) rfl with hx | ⟨a,hx,fx⟩
   ·exact absurd hx (hn _ (by rw [e'];exact List.mem_cons_self))
   ·rcases Bt (s:=.b) (z:=y) rfl with hy | ⟨b,hy,fy⟩
    ·exact absurd hy (hn _ (by rw [e'];exact lR _ List.mem_cons_self))
    ·exact ⟨a,b,by rw [e',hx,hy],by rw [Bool.and_eq_true];exact ⟨fx,fy⟩⟩
 ·cases h
theorem Oa {ps:List V} (h:bY "free" [.e] z=some ps):∃ f:Int,ps=[.int f]:=by
 unfold bY at h
 split at h
 ·obtain ⟨e,hl,hn⟩:=Fg h
  match hw:(bO z).tail,hl with
  | [x],_ =>
   rw [hw] at e;have e':ps=[lX .e x]:=e;rcases Bt (s:=.e) (z:=x) rfl with hx | ⟨a,hx,fx⟩
   ·exact absurd hx (hn _ (by rw [e'];exact List.mem_cons_self))
   ·exact ⟨a,by rw [e',hx]⟩
 ·cases h
theorem Ig {ps:List V} (h:iy ls=.inr ps):2<=ls.length/\∃ a b f:Int,ps=[.int a,.int b,.int f]/\(EY a&&Ur b)=true:=by
 match ls,h with
 | [],h=>cases h
 | [a],h =>
  rw [sI] at h
  split at h <;> cases h
 | a::b::r,h =>
  rw [kJ] at h
  split at h
  ·cases h
  ·rename_i p hp
   split at h
   ·cases h
   ·rename_i q hq
    injection h with h;obtain ⟨x,y,e1,ok⟩:=zB hp;obtain ⟨f,e2⟩:=Oa hq;exact ⟨by simp,x,y,f,by rw [<- h,e1,e2];rfl,ok⟩
theorem zE {fr:Int}{acc:List (Int×List V)} (hz:ls[i]?=some z):iQ fr (ls.drop i) n acc=match jR fr (eN acc) (acc.map (·.2)) z with | none=>.inl n | some e=>iQ fr (ls.drop (i+1)) (n+1) (acc++[e]):=by
 have hi:i<ls.length:=(List.getElem?_eq_some_iff.mp hz).1;have e:ls.drop i=z::ls.drop (i+1):=by
  rw [List.drop_eq_getElem_cons hi];have:ls[i]=z:=by rw [dO hi] at hz;exact Option.some.inj hz
  rw [this]
 rw [e];rfl
theorem wO (acc:List (Int×List V)) (p:Int×List V):eN (acc++[p])=p.1:=by
 unfold eN;rw [List.getLast?_concat]
theorem Wj {kvs:List (Int×V)}{n:Int} (h:∀ p∈kvs,p.1<n):putK (yH kvs) (.inl n) v=yH (kvs++[(n,v)]):=by
 unfold putK;have e:((yH kvs).any fun kv=>decide (kv.1=Sum.inl n))=false:=by
  rw [List.any_eq_false];intro kv hkv e;unfold yH at hkv;obtain ⟨p,hp,rfl⟩:=List.mem_map.mp hkv;have e':=fO e;injection e' with e';have:=h p hp;lia
 rw [e,if_neg Bool.false_ne_true];unfold yH;rw [jB];rfl
theorem Fi:∀ {as bs:List Addr}{rs qs:List (List V)},eY H as rs->eY H bs qs->eY H (as++bs) (rs++qs)
 | _,_,_,_,.nil,h=>h
 | _,_,_,_,.cons h t,g=>.cons h (Fi t g)
theorem Td (kvs:List (Int×V)):(yH kvs).map (·.2)=kvs.map (·.2):=by unfold yH;rw [List.map_map];rfl
inductive zF (C R:Addr) (vs:List V) (H:Hp) (Q:VK) (E:XK):Prop
 | mk (z:Str) (_:vs=[.str z]) (_:z.length<=100000) (_:(∀ t∈cJ z,t.length<=1000)) (_:(cJ z).length<64) (_:(∀ n,dU z=.inl n->∀ d H',Same H H'->H' d=some (.xd [("at",.int (n:Int))])->E 0x26 (some d) H')) (_:∀ a b fr es,dU z=.inr ([.int a,.int b,.int fr],es)->∀ x dx st d e l (ts:List (Int×Addr×List V)) H',Same H H'->ts.map (fun p=>(p.1,p.2.2))=es->jy R H' x dx st d e l a b fr (ts.map fun p=>(p.1,V.ref p.2.1)) [] []->eY H' (ts.map (·.2.1)) (ts.map (·.2.2))->Q (.ref x) H'):zF C R vs H Q E
def Bu (C R:Addr):Sp:=fun vs H Q E=>zF C R vs H Q E
theorem fU:bB ["text", "lines", "tail", "acres", "bears", "free", "held", "last", "at", "line", "number", "row"] ["text"] (aC rH):=0x0
theorem Te (F:iR K "read_page" "read_page" rH f fd) (ml:mg "len"=none) (me:mg "enumerate"=none) (mli:mg "list"=none) {aH h1 h2:Addr} (hm:Ib K mg aH h1 h2 f1 f2) {g4:Addr}{d4:FuncData}
  (G1:bw P w K mg base (vP P w) 5 g1 d1 ["lines"] (Lp K C)) (M1:Ms K mg "read_heads" g1 d1 ["lines"])
  (mk:MkX K C g2) (G2:bw P w K mg base (vP P w) 1 g2 d2 ["self", "words", "at"] (nZ C)) (B2:Binds K d2 ["self", "words", "at"] []) (mC:mg "NoText"=some 0x26)
  (G3:bw P w K mg base dF 6 g3 d3 ["line"] Lk) (M3:Ms K mg "entry_of" g3 d3 ["line"])
  (G4:bw P w K mg base dF 7 g4 d4 ["acres", "bears", "free", "held"] (Fd R)) (M4:Ms K mg "roll_of" g4 d4 ["acres", "bears", "free", "held"]) :
  bw P w K mg base (vP P w) 8 f fd ["text"] (Bu C R):=by
 obtain ⟨oc,od,kV,doc,pm,an,cdv,ct,osl,rfl,lk,hcd⟩:=F.ex;refine Jt lk hcd fU 0xA fun A outer s H vs Q E hr h=>?_
 ·obtain ⟨z,rfl,_⟩:=h;rfl
 obtain ⟨z,rfl,hz,hlen,h64,k0,k1⟩:=h;refine ⟨_,aA (bD (i:=1) fU.nd rfl 0x3 (dH (name:="split") PySem.F.plainAttrs_str PySem.F.slot_str_split PySem.F.type_str_split gM (pv 0) (aj aJ aq)))
  (aA (bD (i:=2) fU.nd rfl 0x3 (YT (name:="pop") PySem.F.plainAttrs_list PySem.F.slot_list_pop PySem.F.type_list_pop YW (pv 1)))
  (aA (m6 (bA (CX:=vP P w) (E:=E) G1 (hr.mono 0x8) rfl M1.m M1.k M1.b .nil a1Y 0x21) (a0x rfl (aX (aQ (i:=3) fU.nd rfl 0x3) (aX (aQ (i:=4) fU.nd rfl 0x3) (aX (aQ (i:=5) fU.nd rfl 0x3) cZ)))))
  (aA (bD (i:=6) fU.nd rfl 0x3 Dh)
  (aA (bD (i:=7) fU.nd rfl 0x3 au)
  (aA (gb (fun e s' h=>wpAny_leaving_again (SameStack.refl _) h) rfl (QM rfl me (aj (cU bQ (pv 1) (dJ (aM bF rfl ml PySem.boot_len (aj (dj rfl hm.m rfl (v:=.ref aH)) aq))) dI) aq) (aR bN (aM bF rfl ml PySem.boot_len (aj (dj rfl hm.m rfl (v:=.ref aH)) aq)) au))
    (fW rfl (aX (aQ (i:=8) fU.nd rfl 0x3) (aX (aQ (i:=9) fU.nd rfl 0x3) cZ)))
   (aA (m6 (bA G3 (hr.mono 0x8) rfl M3.m M3.k M3.b .nil bL (aj (pv 9) aq)) (fW rfl (aX (aQ (i:=10) fU.nd rfl 0x3) (aX (aQ (i:=11) fU.nd rfl 0x3) cZ))))
   (aA (bJ (PW.pt (dZ (kW (jL (pv 10))) (dZ (kW (jL (pv 11))) (dZ (aK jW (pv 10) (pv 7) (aW _)) (dZ (aK Xe (pv 10) (pv 5) (aW _)) (eO (aK (QV hr.units) (pv 11) (cO (Hg hr.hd) rfl mli Af (aj (Nv (pv 6)) aq)) 0x16)))))))
     (aD (nM (E:=E) (jM:=[]) rfl rfl (fun pins σ H1 s1 e C' d I he hn q=>uw I he hn q) mk G2 (hr.mono 0x8) B2 .nil rfl mC (aj aJ (aj (pv 8) aq)))) bf)
   (aA (Al (u1 hr) (pv 6) (pv 10) (pv 11) rfl)
   (aD (bD (i:=7) fU.nd rfl 0x3 (pv 10)))))))
  (aA (bJ (aK jE (pv 2) aJ (aW _)) (aD (nM (E:=E) (jM:=[]) rfl rfl (fun pins σ H1 s1 e C' d I he hn q=>uw I he hn q) mk G2 (hr.mono 0x8) B2 .nil rfl mC (aj aJ (aj (aR bN (aM bF rfl ml PySem.boot_len 0x21) au) aq)))) bf)
  (aD (aU (bA G4 hr rfl M4.m M4.k M4.b .nil bL (aj (pv 3) (aj (pv 4) (aj (pv 5) (aj (pv 6) aq)))))))))))))
  ,?_⟩
 have Lne:cJ z≠[]:=qH _ _;refine ⟨_,rfl,rfl,_,_,rfl,rfl,0x4,(by have:=small (n:=200000) 0x1;lia),fun p hp=>?_⟩;have ew:Txt.split z (Str.ofString "\n")=cJ z:=rfl;rw [ew];have s1:Same H (upd H p (.lst 0x29)):=ao hp _;have p1:(upd H p (.lst 0x29)) p=some (.lst 0x29):=ak;generalize upd H p (.lst 0x29)=H1 at s1 p1 ⊢;have a2q:0x29[(0x29).length - 1]?=some (.str ((cJ z).getLastD "")):=by
  rw [jT,bV];have:(cJ z)[(cJ z).length - 1]?=some ((cJ z).getLastD ""):=by
   rw [<- List.getLast?_eq_getElem?,List.getLastD_eq_getLast?];cases h:(cJ z).getLast? with
   | none=>exact absurd (List.getLast?_eq_none_iff.mp h) Lne
   | some y=>rfl
  rw [this];rfl
 refine ⟨_,rfl,.inl ⟨rfl,_,aZ.of p1⟩,p,_,_,rfl,rfl,p1,a2q,?_⟩;have ed:(0x29).dropLast=(cJ z).dropLast.map V.str:=by rw [List.map_dropLast]
 rw [ed];have s2:Same H (upd H1 p (.lst ((cJ z).dropLast.map V.str))):=aV s1 hp;have p2:(upd H1 p (.lst ((cJ z).dropLast.map V.str))) p=some (.lst ((cJ z).dropLast.map V.str)):=ak;generalize upd H1 p (.lst ((cJ z).dropLast.map V.str))=H2 at s2 p2 ⊢;have hls:∀ l∈(cJ z).dropLast,l.length<=1000:=fun l hl=>hlen l ((List.dropLast_sublist _).subset hl);have hll:(cJ z).dropLast.length+1=(cJ z).length:=by
  rw [List.length_dropLast];have:=List.length_pos_iff.mpr Lne;lia
 generalize hLs:(cJ z).dropLast=ls at p2 hls hll;refine ⟨_,rfl,p,ls,rfl,aZ.of p2,hls,fun n hn d H' s' hd=>?_,fun ps hps r H3 s3 hr0 XM=>?_⟩
 ·refine k0 n ?_ d H' (s2.trans s') hd;unfold dU;rw [hLs,hn]
 obtain ⟨two2,a,b,fr,rfl,okab⟩:=Ig hps;have pg:dU z=(match iQ fr (ls.drop 2) 3 [] with | .inl n=>.inl n | .inr es=>if (cJ z).getLastD ""="" then .inr ([.int a,.int b,.int fr],es) else .inl (cJ z).length):=by
  unfold dU;rw [hLs,hps]
 refine ⟨r,_,rfl,aZ.of XM,rfl,_,_,rfl,_,_,rfl,_,_,rfl,rfl,?_⟩;have g3:=s2.trans s3;have p3:=s3 _ _ p2;refine fun d hd=>?_;have s4:Same H (upd H3 d (.dK [])):=g3.trans (ao hd _);have hd0:H d=none:=g3.free hd;have d4:(upd H3 d (.dK [])) d=some (.dK []):=ak;have p4:=(ao hd (.dK [])) _ _ p3;generalize upd H3 d (.dK [])=H4 at s4 d4 p4 ⊢;refine ⟨_,rfl,aH,_,rfl,.inr (hm.t.sq _),_,rfl,p,_,rfl,aZ.of p4,fun q hq=>?_⟩;have ecut:jY (ls.map V.str) (some (([V.ref h1,V.ref h2]:List V).length:Int)) none=(ls.drop 2).map V.str:=by
  show aO (ls.map V.str) (some ((2:Nat):Int)) none=_
  rw [rY (by rw [bV];exact two2),List.map_drop]
 rw [ecut];have s5:=s4.trans (ao hq (.lst ((ls.drop 2).map V.str)));have q5:(upd H4 q (.lst ((ls.drop 2).map V.str))) q=some (.lst ((ls.drop 2).map V.str)):=ak;have d5:=(ao hq (.lst ((ls.drop 2).map V.str))) _ _ d4;have p5:=(ao hq (.lst ((ls.drop 2).map V.str))) _ _ p4;have hq0:H q=none:=s4.free hq;have nqd:q≠d:=fun z=>by rw [z,d4] at hq;cases hq
 have npd:p≠d:=fun z=>by rw [z,hd] at p3;cases p3
 generalize upd H4 q (.lst ((ls.drop 2).map V.str))=H5 at s5 q5 d5 p5 ⊢;refine ⟨aH,_,rfl,.inr (hm.t.sq _),_,_,rfl,rfl,q,_,3,rfl,rfl,by decide,aZ.of q5,?_⟩;generalize hrest:ls.drop 2=rest at q5 pg;have a2r:∀ t∈rest,t.length<=1000:=fun t ht=>hls t (List.mem_of_mem_drop (by rw [hrest];exact ht));refine lC (n:=rest.length) (fx:=fun i=>V.int ((3+i:Nat):Int)) (fy:=fun i=>(rest.map V.str).getD i .non)
  (fun i σ Hx=>∃ (ts:List (Int×Addr×List V)) (u8 u9 u10 Yc:Option V),σ=[some (.str z),some (.ref p),some (.str ((cJ z).getLastD "")),some (.int a),some (.int b),some (.int fr),some (.ref d),some (.int (eN 0xF)),u8,u9,u10,Yc]/\Same H Hx/\Hx q=some (.lst (rest.map V.str))/\Hx p=some (.lst (ls.map V.str))/\Hx d=some (.dK (yH (ts.map fun t=>(t.1,V.ref t.2.1))))/\eY Hx (ts.map (·.2.1)) (ts.map (·.2.2))/\(∀ t∈ts,t.2.2.all lD=true)/\(∀ t∈ts,t.1<=eN 0xF)/\ts.length=i/\iQ fr rest 3 []=iQ fr (rest.drop i) (3+i) 0xF) ?_
  ⟨[],none,none,none,none,rfl,s5,q5,p5,d5,.nil,(fun t ht=>nomatch ht),(fun t ht=>nomatch ht),rfl,rfl⟩ ?_ ?_
 ·rintro i σ Hx ⟨ts,u8,u9,u10,Yc,rfl,sx,qx,px,dx,rx,ix,lx,nx,ex⟩;have st':=pA (K:=K) (l:=q) (xs:=rest.map V.str) (c:=3) (H:=Hx) (i:=i) (aZ.of qx);rw [bV] at st';exact st'
 ·rintro i σ Hx t hi ⟨ts,u8,u9,u10,Yc,rfl,sx,qx,px,dx,rx,ix,lx,nx,ex⟩ ht;have ei:(rest.map V.str).getD i .non=V.str rest[i]:=by rw [iI,jT,dO hi];rfl
  have hzi:rest[i]?=some rest[i]:=dO hi;have lz:(rest[i]).length<=1000:=a2r _ (List.getElem_mem hi);rw [ei];generalize rest[i]=y at hzi lz;have s6:=ao ht (.tup [V.int ((3+i:Nat):Int),V.str y]);refine ⟨t,_,rfl,dG.of ak,rfl,_,_,rfl,_,_,rfl,rfl,?_⟩;have g6:=sx.trans s6;have q6:=s6 _ _ qx;have p6:=s6 _ _ px;have d6:=s6 _ _ dx;have r6:eY (upd Hx t (.tup [V.int ((3+i:Nat):Int),V.str y])) (ts.map (·.2.1)) (ts.map (·.2.2)):=L2.Paired.tO rx fun a b h=>s6 _ _ h;generalize upd Hx t (.tup [V.int ((3+i:Nat):Int),V.str y])=H6 at g6 q6 p6 d6 r6 ⊢;have Fj:=zE (fr:=fr) (ls:=rest) (n:=3+i) (acc:=ts.map fun t=>(t.1,t.2.2)) hzi;rw [<- ex] at Fj;have faults:jR fr (eN 0xF) ((0xF).map (·.2)) y=none->dU z=.inl (3+i):=fun hn=>by
   rw [hn] at Fj;have es':iQ fr rest 3 []=.inl (3+i):=Fj;rw [pg,es']
  have go:jR fr (eN 0xF) ((0xF).map (·.2)) y=none->∀ H7,Same H H7->∀ x,H7 x=none->nZ C [.ref x,.str "the row of the page is wrong",.int ((3+i:Nat):Int)] (upd H7 x (Nx C x)) (fun v H2=>v=.non/\∃ d,H2 x=some (Kc C x d)/\E 0x26 (some d) (cut H2 x)) (fun _ _ _=>False) :=
   fun hn H7 s7 x hx=>ni s7 (fun d' H' s' hd'=>k0 _ (faults hn) d' H' s' hd') x hx
  refine ⟨_,rfl,y,rfl,lz,fun hnone t2 H7 s7 ht2=>?_,fun k ps hk t2 r2 H7 s7 ht2 hr2=>?_⟩
  ·have bad:jR fr (eN 0xF) ((0xF).map (·.2)) y=none:=by
    unfold jR;rw [hnone];cases lX cP.e (tH y) <;> rfl
   have g7:=g6.trans s7;refine ⟨t2,_,rfl,dG.of ht2,rfl,_,_,rfl,_,_,rfl,rfl,?_⟩;refine ⟨_,rfl,_,rfl,?_⟩;refine bG (fun _=>bU ⟨_,rfl,small 0x5,go bad H7 g7⟩) (fun _=>?_);exact ⟨_,rfl,_,rfl,bU (bU ⟨_,rfl,small 0x5,go bad H7 g7⟩)⟩
  ·have g7:=g6.trans s7;refine ⟨t2,_,rfl,dG.of ht2,rfl,_,_,rfl,_,_,rfl,rfl,?_⟩;rcases Bt (s:=.e) (z:=tH y) rfl with hp | ⟨n,hp,fp⟩
   ·have bad:jR fr (eN 0xF) ((0xF).map (·.2)) y=none:=by
     unfold jR;rw [hp]
    rw [hp];exact ⟨_,rfl,_,rfl,bU (bU ⟨_,rfl,small 0x5,go bad H7 g7⟩)⟩
   rw [hp];have d7:=s7 _ _ d6;have p7:=s7 _ _ p6;have q7:=s7 _ _ q6;have r7:eY H7 (ts.map (·.2.1)) (ts.map (·.2.2)):=L2.Paired.tO r6 fun a b h=>s7 _ _ h;have eV:jR fr (eN 0xF) ((0xF).map (·.2)) y=if n<=eN 0xF\/n>=fr\/(V.str k::ps)∈(0xF).map (·.2) then none else some (n,V.str k::ps):=by
    unfold jR;rw [hp,hk]
   refine ⟨_,rfl,_,rfl,bZ ?_⟩;refine ⟨_,rfl,_,rfl,bZ ?_⟩;refine ⟨_,rfl,_,rfl,_,_,rfl,rfl,_,rfl,?_⟩;refine bG (fun c1=>bU ⟨_,rfl,small 0x5,go (by rw [eV,if_pos (.inl (fO c1))]) H7 g7⟩) (fun c1=>?_);have n1:¬ n<=eN 0xF:=of_decide_eq_false (Bool.eq_false_iff.mpr c1);refine ⟨_,rfl,_,rfl,_,_,rfl,rfl,_,rfl,?_⟩;refine bG (fun c2=>bU ⟨_,rfl,small 0x5,go (by rw [eV,if_pos (.inr (.inl (fO c2)))]) H7 g7⟩) (fun c2=>?_);have n2:¬ n>=fr:=of_decide_eq_false (Bool.eq_false_iff.mpr c2);refine ⟨_,rfl,_,rfl,d,_,rfl,d7,fun vv hv=>?_⟩;have s8:=ao hv (jH vv d);refine ⟨vv,d,_,rfl,ak,s8 _ _ d7,fun q8 hq8=>?_⟩;have ev:(yH (ts.map fun t=>(t.1,V.ref t.2.1))).map (·.2)=(ts.map (·.2.1)).map V.ref:=by rw [Td,List.map_map,List.map_map];rfl
   rw [ev];have s9:=ao hq8 (.lst ((ts.map (·.2.1)).map V.ref));have s89:=s8.trans s9;have g9:=g7.trans s89;have d9:=s89 _ _ d7;have p9:=s89 _ _ p7;have q9:=s89 _ _ q7;have hr9:=s89 _ _ hr2;have r9:eY (upd (upd H7 vv (jH vv d)) q8 (.lst ((ts.map (·.2.1)).map V.ref))) (ts.map (·.2.1)) (ts.map (·.2.2)):=L2.Paired.tO r7 fun a b h=>s89 _ _ h;have l9:(upd (upd H7 vv (jH vv d)) q8 (.lst ((ts.map (·.2.1)).map V.ref))) q8=some (.lst ((ts.map (·.2.1)).map V.ref)):=ak;generalize upd (upd H7 vv (jH vv d)) q8 (.lst ((ts.map (·.2.1)).map V.ref))=H9 at g9 d9 p9 q9 hr9 r9 l9 ⊢;have rIS:=Tc hk;refine ⟨r2,q8,ts.map (·.2.1),V.str k::ps,ts.map (·.2.2),rfl,rfl,aZ.of l9,hr9,rIS,r9,fun w hw=>?_,_,rfl,?_⟩
   ·obtain ⟨tt,htt,rfl⟩:=List.mem_map.mp hw;exact ix tt htt
   have Fl:(0xF).map (·.2)=ts.map (·.2.2):=by rw [List.map_map];rfl
   refine bG (fun c3=>?_) (fun c3=>?_)
   ·obtain ⟨w,hw,e⟩:=List.any_eq_true.mp c3;have e':=fO e;exact ⟨_,rfl,small 0x5,go (by rw [eV,if_pos (.inr (.inr (by rw [Fl,<- e'];exact hw)))]) H9 g9⟩
   have n3:¬ (V.str k::ps)∈(0xF).map (·.2):=fun hm=>by
    rw [Fl] at hm;exact c3 (List.any_eq_true.mpr ⟨_,hm,decide_eq_true rfl⟩)
   have eS:jR fr (eN 0xF) ((0xF).map (·.2)) y=some (n,V.str k::ps):=by
    rw [eV,if_neg];intro h;rcases h with h | h | h
    ·exact n1 h
    ·exact n2 h
    ·exact n3 h
   rw [eS] at Fj;have a0y:iQ fr rest 3 []=iQ fr (rest.drop (i+1)) (3+i+1) (0xF++[(n,V.str k::ps)]):=Fj;have emap:(ts++[(n,r2,V.str k::ps)]).map (fun t=>(t.1,t.2.2))=0xF++[(n,V.str k::ps)]:=by rw [jB];rfl
   have Yd:eN ((ts++[(n,r2,V.str k::ps)]).map fun t=>(t.1,t.2.2))=n:=by rw [emap,wO]
   have Wk:(yH (ts.map fun t=>(t.1,V.ref t.2.1))).length<sizeLine:=by
    unfold yH;rw [bV,bV,nx];have h1:rest.length<=ls.length:=by rw [<- hrest,List.length_drop];lia
    exact cQ 0x1
   have below:∀ p∈ts.map (fun t=>(t.1,V.ref t.2.1)),p.1<n:=fun p hp=>by
    obtain ⟨tt,htt,rfl⟩:=List.mem_map.mp hp;have:=lx tt htt
    show tt.1<n
    lia
   refine ⟨_,rfl,_,rfl,_,rfl,d,_,rfl,GR.k (k:=.inl n) d9 Wk,?_⟩;rw [Wj below];have ek:(ts.map fun t=>(t.1,V.ref t.2.1))++[(n,V.ref r2)]=(ts++[(n,r2,V.str k::ps)]).map fun t=>(t.1,V.ref t.2.1):=by rw [jB];rfl
   rw [ek];have keep:∀ (a:Addr) (xs:List V),H9 a=some (.tup xs)->(upd H9 d (.dK (yH ((ts++[(n,r2,V.str k::ps)]).map fun t=>(t.1,V.ref t.2.1))))) a=some (.tup xs):=fun a xs h=>by
    rw [aG (fun z=>by rw [z,d9] at h;cases h)];exact h
   refine ⟨_,rfl,ts++[(n,r2,V.str k::ps)],some (.int ((3+i:Nat):Int)),some (.str y),some (.int n),some (.ref r2),?_,aV g9 hd0,by rw [aG nqd];exact q9,by rw [aG npd];exact p9,ak,?_,fun tt htt=>?_,fun tt htt=>?_,by rw [jA,nx];rfl,by rw [a0y,emap];rfl⟩
   ·rw [Yd];rfl
   ·have e1:(ts++[(n,r2,V.str k::ps)]).map (·.2.1)=ts.map (·.2.1)++[r2]:=by rw [jB];rfl
    have e2:(ts++[(n,r2,V.str k::ps)]).map (·.2.2)=ts.map (·.2.2)++[V.str k::ps]:=by rw [jB];rfl
    rw [e1,e2];exact Fi (L2.Paired.tO r9 fun a xs h=>keep a xs h) (.cons (keep r2 _ hr9) .nil)
   ·rcases List.mem_append.mp htt with h | h
    ·exact ix tt h
    ·rw [List.mem_singleton.mp h];exact rIS
   ·rw [Yd];rcases List.mem_append.mp htt with h | h
    ·have:=lx tt h;lia
    ·rw [List.mem_singleton.mp h];exact Int.le_refl _
 ·rintro σ Hx ⟨ts,u8,u9,u10,Yc,rfl,sx,qx,px,dx,rx,ix,lx,nx,ex⟩;rw [List.drop_eq_nil_of_le 0x9] at ex;have ex':iQ fr rest 3 []=.inr 0xF:=ex;rw [ex'] at pg;refine 0xB;refine bG 0x28 0x28
  ·have ne:¬ (cJ z).getLastD ""="":=fun e=>by
    rw [e] at c;simp at c
   have pg':dU z=.inl (cJ z).length:=by rw [pg];show (if _ then _ else _)=_;rw [if_neg ne]
   refine ⟨_,rfl,p,_,rfl,.inl (aZ.of px),_,_,rfl,rfl,small 0x5,fun x hx=>ni sx (fun d' H' s' hd'=>k0 _ pg' d' H' s' ?_) x hx⟩;have e1:(((ls.map V.str).length:Int)+1)=(((cJ z).length:Nat):Int):=by rw [bV];lia
   rw [<- e1];exact hd'
  ·have eq:(cJ z).getLastD ""="":=by
    by_cases e:(cJ z).getLastD ""=""
    ·exact e
    ·exact absurd (show (!decide (V.str ((cJ z).getLastD "")=V.str ""))=true by rw [decide_eq_false (fun h=>e (by injection h))];rfl) c
   have pg':dU z=.inr ([.int a,.int b,.int fr],ts.map fun t=>(t.1,t.2.2)):=by rw [pg];show (if _ then _ else _)=_;rw [if_pos eq]
   refine ⟨_,rfl,_,rfl,_,rfl,_,rfl,a,b,fr,d,_,rfl,okab,dx,fun x dx' st d' e l H' s' RA=>?_⟩;exact k1 a b fr _ pg' x dx' st d' e l ts H' (sx.trans s') rfl RA (L2.Paired.tO rx fun a b h=>s' _ _ h)
end M
namespace L2
open PySem PySem.Spec PyProof.Rows PySem.W
theorem oh (h:X.K=K:=by rfl):gq X (.builtin "isinstance") (rIsA K):=h ▸ R6
theorem Tf {f:Str} (he:PE X e ta) (hb:attributeBase e f X.env (eval e X.env)=eval e X.env) (h:X.K=K:=by rfl):PE X (.Attribute e f pos) (Xr K ta f):=h ▸ Vk he hb
end L2
namespace M
open PySem L2
structure a0z (K:PySem.W.Frag) (mg:Str->Option Value) (C L c1 c2 c3:Addr):Prop where
 mC:mg "NoText"=some 0x26
 mL:mg "LandError"=some (.ref L)
 m1:mg "NoForm"=some (.ref c1)
 m2:mg "NoLand"=some (.ref c2)
 m3:mg "Twice"=some (.ref c3)
 xi:XI K C "at"
 eL:PySem.W.exmOne K 0x26 (.ref L)=some true
 eC:PySem.W.exmOne K 0x26 0x26=some true
 k0:PySem.W.kitOne K 0x26 0x26=some true
 k1:PySem.W.kitOne K 0x26 (.ref c1)=some false
 k2:PySem.W.kitOne K 0x26 (.ref c2)=some false
 k3:PySem.W.kitOne K 0x26 (.ref c3)=some false
def wQ:List V:=[.bl true,.bl false,.bl false,.bl false]
def Lq (z:Str):Prop:=z.length<=100000/\(∀ t∈cJ z,t.length<=1000)/\(cJ z).length<64
inductive Fo (R:Addr) (vs:List V) (H:Hp) (Q:VK):Prop
 | mk (z:Str) (_:vs=[.str z]) (_:Lq z) (_:(∀ n,dU z=.inl n->∀ p q H',Same H H'->H' p=some (.tup [.ref q,.non])->H' q=some (.lst wQ)->Q (.ref p) H')) (_:∀ a b fr es,dU z=.inr ([.int a,.int b,.int fr],es)->∀ p q x dx st d e l (ts:List (Int×Addr×List V)) H',Same H H'->H' p=some (.tup [.ref q,.ref x])->H' q=some (.lst [])->ts.map (fun p=>(p.1,p.2.2))=es->jy R H' x dx st d e l a b fr (ts.map fun p=>(p.1,V.ref p.2.1)) [] []->eY H' (ts.map (·.2.1)) (ts.map (·.2.2))->Q (.ref p) H'):Fo R vs H Q
def Tg (R:Addr):Sp:=fun vs H Q _=>Fo R vs H Q
inductive zG (vs:List V) (H:Hp) (Q:VK):Prop
 | mk (z:Str) (_:vs=[.str z]) (_:Lq z) (_:(∀ n,dU z=.inl n->∀ H',Same H H'->Q (.int (n:Int)) H')) (_:∀ y,dU z=.inr y->∀ H',Same H H'->Q (.int 0) H'):zG vs H Q
def Lr:Sp:=fun vs H Q _=>zG vs H Q
theorem Ob {ps:List V}{es:List (Int×List V)} (h:dU z=.inr (ps,es)):∃ a b fr:Int,ps=[.int a,.int b,.int fr]:=by
 unfold dU at h
 split at h
 ·cases h
 ·split at h
  ·split at h
   ·cases h
   ·split at h
    ·injection h with h;injection h with h1 h2;exact ⟨_,_,_,h1.symm⟩
    ·cases h
  ·cases h
theorem sO:bB ["_law_text", "_law_marks", "_law_roll", "e"] ["_law_text"] (aC yS):=0x0
theorem Wm (F:iR K "_law_why_page" "_law_why_page" yS f fd) (mi:mg "isinstance"=none) {c1 c2 c3:Addr} (cl:a0z K mg C L c1 c2 c3) 
  (G1:bw P w K mg base (vP P w) 8 g1 d1 ["text"] (Bu C R)) (M1:Ms K mg "read_page" g1 d1 ["text"]):bw P w K mg base dF 9 f fd ["_law_text"] (Tg R):=by
 refine F.ok sO 0xA 0x2
 ·obtain ⟨z,rfl,_⟩:=h;rfl
 obtain ⟨z,rfl,⟨hz1,hz2,hz3⟩,k0,k1⟩:=h;refine ⟨_,aA (bD (i:=1) sO.nd rfl 0x3 (cX aq))
  (aA (bD (i:=2) sO.nd rfl 0x3 fV)
  (aA (Kg (i:=3) (L:=L) rfl rfl sO.nd rfl rfl rfl cl.mL
    (fun pn xe E hp=>aD (bD (i:=2) sO.nd rfl 0x3 (CV (CX:=vP P w) (E:=E) G1 hr rfl M1.m M1.k M1.b .nil hp (aj (pv 0) aq))))
    (fun ea=>aD (bD (i:=1) sO.nd rfl 0x3 (cX (aj (aM (oh (K:=K)) rfl mi bM (aj (pv 3) (aj (dj rfl cl.mC rfl (v:=.ref C)) aq)))
      (aj (aM (oh (K:=K)) rfl mi bM (aj (pv 3) (aj (dj rfl cl.m1 rfl (v:=.ref c1)) aq))) (aj (aM (oh (K:=K)) rfl mi bM (aj (pv 3) (aj (dj rfl cl.m2 rfl (v:=.ref c2)) aq))) (aj (aM (oh (K:=K)) rfl mi bM (aj (pv 3) (aj (dj rfl cl.m3 rfl (v:=.ref c3)) aq))) aq))))))))
  (aD (aU (gG (aj (pv 1) (aj (pv 2) aq))))))),?_⟩
 refine ⟨small 0x5,fun lm hlm=>?_⟩;have s1:Same H (upd H lm (.lst [])):=ao hlm _;have m1:(upd H lm (.lst [])) lm=some (.lst []):=ak;generalize upd H lm (.lst [])=H1 at s1 m1 ⊢;refine ⟨_,rfl,z,rfl,hz1,hz2,hz3,fun n hn d H2 s2 hd=>?_,fun a b fr es hes x dx st d e l ts H2 s2 hts RA rw2=>?_⟩
 ·refine ⟨C,d,rfl,rfl,cl.eL,fun ea he=>?_⟩;have s3:Same H2 (upd H2 ea (Kd C ea d)):=ao he _;have e3:(upd H2 ea (Kd C ea d)) ea=some (Kd C ea d):=ak;generalize upd H2 ea (Kd C ea d)=H3 at s3 e3 ⊢;refine ⟨_,rfl,ea,C,d,_,_,rfl,e3,cl.xi.xc,.inr ⟨_,rfl⟩,cl.k0,?_⟩;refine ⟨_,rfl,ea,C,d,_,_,rfl,e3,cl.xi.xc,.inr ⟨_,rfl⟩,cl.k1,?_⟩;refine ⟨_,rfl,ea,C,d,_,_,rfl,e3,cl.xi.xc,.inr ⟨_,rfl⟩,cl.k2,?_⟩;refine ⟨_,rfl,ea,C,d,_,_,rfl,e3,cl.xi.xc,.inr ⟨_,rfl⟩,cl.k3,?_⟩;refine ⟨small 0x5,fun q1 h1=>?_⟩;have s4:=ao h1 (.lst wQ);have l4:(upd H3 q1 (.lst wQ)) q1=some (.lst wQ):=ak;have s14:=(s1.trans s2).trans (s3.trans s4);refine ⟨_,rfl,_,rfl,small 0x5,fun p hp=>?_⟩;have s5:=ao hp (.tup [.ref q1,.non]);exact k0 n hn p q1 _ (s14.trans s5) ak (s5 _ _ l4)
 ·refine ⟨_,rfl,_,rfl,small 0x5,fun t ht=>?_⟩;have s3:=ao ht (.tup [.ref lm,.ref x]);exact k1 a b fr es hes t lm x dx st d e l ts _ ((s1.trans s2).trans s3) ak (s3 _ _ (s2 _ _ m1)) hts (RA.same s3) (L2.Paired.tO rw2 fun a b h=>s3 _ _ h)
theorem Ls:bB ["_law_text", "e"] ["_law_text"] (aC rQ):=0x0
theorem Ti (F:iR K "_law_fault_of" "_law_fault_of" rQ f fd) {c1 c2 c3:Addr} (cl:a0z K mg C L c1 c2 c3) 
  (G1:bw P w K mg base (vP P w) 8 g1 d1 ["text"] (Bu C R)) (M1:Ms K mg "read_page" g1 d1 ["text"]):bw P w K mg base dF 9 f fd ["_law_text"] Lr:=by
 refine F.ok Ls 0xA 0x2
 ·obtain ⟨z,rfl,_⟩:=h;rfl
 obtain ⟨z,rfl,⟨hz1,hz2,hz3⟩,k0,k1⟩:=h;refine ⟨_,aA (Kg (i:=1) (L:=C) rfl rfl Ls.nd rfl rfl rfl cl.mC
    (fun pn xe E hp=>aD (dz (CV (CX:=vP P w) (E:=E) G1 hr rfl M1.m M1.k M1.b .nil hp (aj (pv 0) aq))))
    (fun ea=>aD (aU (Tf (K:=K) (pv 1) rfl))))
  (aD (aU au)),?_⟩
 refine ⟨_,rfl,z,rfl,hz1,hz2,hz3,fun n hn d H2 s2 hd=>?_,fun a b fr es hes x dx st d e l ts H2 s2 hts RA rw2=>?_⟩
 ·refine ⟨C,d,rfl,rfl,cl.eC,fun ea he=>?_⟩;have s3:Same H2 (upd H2 ea (Kd C ea d)):=ao he _;exact ⟨_,rfl,ea,C,d,_,_,rfl,ak,s3 _ _ hd,cl.xi,rfl,k0 n hn _ (s2.trans s3)⟩
 ·exact k1 _ hes _ s2
def fj (z:Str):List V:=(bO z).tail.map iK
def fZ (w0:Str) (many:Int) (z:Str):Option (List V):=if tH z=w0/\((fj z).length:Int)=many/\inV (.int (-1)) (fj z)=false then some (fj z) else none
inductive zH (vs:List V) (H:Hp) (Q:VK):Prop
 | mk (z w0:Str) (many:Int) (_:vs=[.str z,.str w0,.int many]) (_:z.length<=1000) (_:jz z) (_:(fZ w0 many z=none->∀ H',Same H H'->Q .non H')) (_:∀ ns,fZ w0 many z=some ns->∀ r H',Same H H'->H r=none->H' r=some (.lst ns)->Q (.ref r) H'):zH vs H Q
def Lw:Sp:=fun vs H Q _=>zH vs H Q
theorem Oc (z:Str):(fj z).all oM=true:=by
 rw [List.all_eq_true];intro v hv;obtain ⟨t,_,rfl⟩:=List.mem_map.mp hv;obtain ⟨n,e⟩:=wD t;rw [e];rfl
theorem Ih:bB ["_law_line", "_law_word", "_law_many", "_law_words", "_law_numbers"] ["_law_line", "_law_word", "_law_many"] (aC vU):=0x0
def a2s:Scope:={ kind:=.function,names:=[(".0",.local),("_law_one",.local),("_law_number",.globalImplicit)],isGenerator:=false,isCoroutine:=false }
theorem a2t:fP ["_law_line", "_law_word", "_law_many", "_law_words", "_law_numbers"] (aC vU) a2s ["_law_one"] [] []:=0x6
theorem a2u:((["_law_one"]:List Str)++([]:List Str)).Nodup:=by decide +kernel
theorem Tj (F:iR K "_law_head" "_law_head" vU f fd) (ml:mg "len"=none)  (G1:bw P w K mg base dF 1 g1 d1 ["_law_word"] Bh) (M1:Ms K mg "_law_number" g1 d1 ["_law_word"]):bw P w K mg base dF 2 f fd ["_law_line", "_law_word", "_law_many"] Lw:=by
 refine F.ok Ih 0xA 0x2
 ·obtain ⟨z,w0,many,rfl,_⟩:=h;rfl
 obtain ⟨z,w0,many,rfl,hz,wF,k0,k1⟩:=h;refine ⟨_,aA (bD (i:=3) Ih.nd rfl 0x3 (dH (name:="split") PySem.F.plainAttrs_str PySem.F.slot_str_split PySem.F.type_str_split gM (pv 0) (aj aJ aq)))
  (aA (uc (i:=4) rfl a2t (iB (cU bQ (pv 3) (dJ au) dI))
    (fun s H fp C=>⟨aQ (i:=0) a2u rfl 0x3,fJ,bA G1 hr rfl M1.m M1.k M1.b .nil bL (aj (pv 0) aq)⟩) Ih.nd rfl 0x3)
  (aA (bJ (PW.pt (dZ (aK jE (bC aL (pv 3) au bW) (pv 1) (aW _)) (dZ (aK jE (aM bF rfl ml PySem.boot_len (aj (pv 4) aq)) (pv 2) (aW _)) (eO (aK nA (sS m8 au) (pv 4) 0x16))))) (aD (aU fV)) bf)
  (aD (aU (pv 4))))),?_⟩
 refine 0x1F;have ew:Txt.split z (Str.ofString " ")=bO z:=rfl;rw [ew];obtain ⟨w1,ws,xu⟩:∃ w1 ws,bO z=w1::ws:=by
  cases e:bO z with
  | nil=>exact absurd e (jw z)
  | cons w1 ws=>exact ⟨w1,ws,rfl⟩
 have ehd:tH z=w1:=by unfold tH;rw [xu];rfl
 have enl:fj z=ws.map iK:=by unfold fj;rw [xu];rfl
 have wok:∀ t∈ws,t.length<=1000/\jz t:=fun t ht=>by
  have hm:t∈bO z:=by rw [xu];exact lR _ ht
  exact ⟨Nat.le_trans (lJ hm) hz,lK wF hm⟩
 have wlen:ws.length<=1001:=by
  have:=mX z;rw [xu,jU] at this;lia
 rw [xu,List.map_cons];have s1:Same H (upd H p (.lst (V.str w1::ws.map V.str))):=ao hp _;have p1:(upd H p (.lst (V.str w1::ws.map V.str))) p=some (.lst (V.str w1::ws.map V.str)):=ak;generalize upd H p (.lst (V.str w1::ws.map V.str))=H1 at s1 p1 ⊢;refine ⟨_,rfl,_,rfl,p,_,rfl,aZ.of p1,fun q hq=>?_⟩;rw [Hw];have s2:=s1.trans (ao hq 0x15);have p2:=(ao hq 0x15) _ _ p1;have q2:(upd H1 q 0x15) q=some 0x15:=ak;generalize upd H1 q 0x15=H2 at s2 p2 q2 ⊢;refine ⟨q,rfl,⟨_,aZ.of q2⟩,fun D hD=>?_⟩;have hD0:H D=none:=s2.free hD;refine gW (K:=K) (a:=q) (xs:=ws.map V.str) (fun i ys H3=>ys=(ws.take i).map iK/\Same H2 H3/\H3 D=some (.lst ys)) (fun i ys H3 h=>aZ.of (h.2.1 _ _ q2)) ⟨rfl,ao hD _,ak⟩ (fun i ys H3 h=>h.2.2) ?_ ?_
 ·rintro i ys H3 x hx ⟨rfl,s3,Cr⟩;rw [jT] at hx;obtain ⟨t,ht,rfl⟩:=Option.map_eq_some_iff.mp hx;obtain ⟨tl,ta⟩:=wok t (lU ht);refine 0x2E;refine dN ?_;refine ⟨_,rfl,t,rfl,tl,ta,fun H4 s4=>⟨s4 _ _ Cr,?_,?_,aV (s3.trans s4) hD,ak⟩⟩
  ·rw [bV,List.length_take];exact cQ 0x1
  ·rw [List.take_add_one,ht,jB];rfl
 ·rintro ys H3 ⟨rfl,s3,Cr⟩;rw [bV,List.take_of_length_le 0x9,<- enl] at Cr;have g3:=s2.trans s3;have p3:=s3 _ _ p2;refine ⟨_,rfl,p,_,_,_,rfl,rfl,aZ.of p3,at0 _ _,_,rfl,rfl,_,rfl,?_⟩;refine bG (fun c1=>?_) (fun c1=>?_)
  ·have ne:¬ tH z=w0:=fun e=>by rw [ehd] at e;rw [e] at c1;simp at c1
   exact bU (k0 (by unfold fZ;rw [if_neg (fun h=>ne h.1)]) H3 g3)
  have e1:tH z=w0:=by
   rw [ehd]
   by_cases e:w1=w0
   ·exact e
   ·exact absurd (show (!decide (V.str w1=V.str w0))=true by rw [decide_eq_false (fun h=>e (by injection h))];rfl) c1
  refine ⟨_,rfl,D,_,rfl,.inl (aZ.of Cr),_,rfl,rfl,_,rfl,?_⟩;refine bG (fun c2=>?_) (fun c2=>?_)
  ·have ne:¬ ((fj z).length:Int)=many:=fun e=>by rw [e] at c2;simp at c2
   exact bU (k0 (by unfold fZ;rw [if_neg (fun h=>ne h.2.1)]) H3 g3)
  have e2:((fj z).length:Int)=many:=by
   by_cases e:((fj z).length:Int)=many
   ·exact e
   ·exact absurd (show (!decide (V.int ((fj z).length:Int)=V.int many))=true by rw [decide_eq_false (fun h=>e (by injection h))];rfl) c2
  refine ⟨_,rfl,_,rfl,D,_,rfl,.inl (aZ.of Cr),rfl,Oc z,_,rfl,?_⟩;have n3:(if false=true then !inV (.int (-1)) (fj z) else inV (.int (-1)) (fj z))=inV (.int (-1)) (fj z):=rfl
  have n4:(V.int (-(1:Int)))=V.int (-1):=rfl;cases hn:inV (.int (-1)) (fj z) with
  | true =>
   refine bG (fun _=>k0 (by unfold fZ;rw [if_neg (fun h=>by rw [hn] at h;cases h.2.2)]) H3 g3) (fun c=>absurd rfl c)
  | false =>
   refine bG 0x28 (fun _=>⟨_,rfl,k1 _ (by unfold fZ;rw [if_pos ⟨e1,e2,hn⟩]) D H3 g3 hD0 Cr⟩);cases c
theorem ou (z:Str):∃ n:Int,iK z=.int n/\(n=-1\/0<=n):=by
 unfold iK
 by_cases h:HS z=true
 ·rw [if_pos h];exact ⟨_,rfl,.inr (by unfold valN;lia)⟩
 ·rw [if_neg h];exact ⟨-1,rfl,.inl rfl⟩
theorem uI {s:cP}{n:Int} (hs:s.num=true) (e:iK x=.int n):lX s x=if dB s (.int n)=true then .int n else .non:=by
 have h:=RP (s:=s) (z:=x) (.inl hs);have el:xK s x=iK x:=by unfold xK;rw [if_pos hs]
 rw [el,e] at h;exact h
theorem Bv (a b:Int):Nb (.int a) (.int b)=decide (a=b):=by
 show (a==b)=decide (a=b)
 rw [Bool.eq_iff_iff];simp
theorem Wn {s t:cP}{y:Str}{a b:Int} (hs:s.num=true) (ht:t.num=true) (ea:iK x=.int a) (eb:iK y=.int b):gP [s,t] [x,y]=if (dB s (.int a)&&dB t (.int b))=true then some [.int a,.int b] else none:=by
 have e:ju [s,t] [x,y]=[lX s x,lX t y]:=rfl;unfold gP;rw [if_pos (show [x,y].length=[s,t].length from rfl),e,uI hs ea,uI ht eb]
 cases h1:dB s (.int a) <;> cases h2:dB t (.int b) <;> rfl
theorem Wo {s:cP}{a:Int} (hs:s.num=true) (ea:iK x=.int a):gP [s] [x]=if dB s (.int a)=true then some [.int a] else none:=by
 have e:ju [s] [x]=[lX s x]:=rfl;unfold gP;rw [if_pos (show [x].length=[s].length from rfl),e,uI hs ea]
 cases h1:dB s (.int a) <;> rfl
theorem land_eq (z:Str):(fZ "land" 2 z=none/\bY "land" [.a,.b] z=none)\/∃ a b:Int,fZ "land" 2 z=some [.int a,.int b]/\bY "land" [.a,.b] z=if (EY a&&decide (b<=99))=true then some [.int a,.int b] else none:=by
 by_cases hw:tH z="land"
 case neg =>
  refine .inl ⟨?_,?_⟩
  ·unfold fZ;rw [if_neg (fun h=>hw h.1)]
  ·unfold bY;rw [if_neg hw]
 match ht:(bO z).tail with
 | [x,y] =>
  obtain ⟨a,ea,ka⟩:=ou x;obtain ⟨b,eb,kb⟩:=ou y;have en:fj z=[.int a,.int b]:=by unfold fj;rw [ht];show [iK x,iK y]=_;rw [ea,eb]
  have hv:bY "land" [.a,.b] z=if (EY a&&Ur b)=true then some [.int a,.int b] else none:=by
   unfold bY;rw [if_pos hw,ht,Wn rfl rfl ea eb];rfl
  have hin:inV (.int (-1)) (fj z)=(decide (a=-1)||decide (b=-1)):=by
   rw [en]
   show (Nb (.int a) (.int (-1))||(Nb (.int b) (.int (-1))||false))=_
   rw [Bv,Bv,Bool.or_false]
  by_cases hm:a=-1\/b=-1
  ·refine .inl ⟨?_,?_⟩
   ·unfold fZ;rw [if_neg];intro h;rw [hin] at h;rcases hm with h' | h'
    ·simp [h'] at h
    ·simp [h'] at h
   ·rw [hv,if_neg];rcases hm with h' | h'
    ·rw [h'];simp [EY]
    ·rw [h'];simp [Ur]
  ·have na:¬ a=-1:=fun e=>hm (.inl e);have nb:¬ b=-1:=fun e=>hm (.inr e);refine .inr ⟨a,b,?_,?_⟩
   ·unfold fZ;rw [if_pos ⟨hw,by rw [en];rfl,by rw [hin,decide_eq_false na,decide_eq_false nb];rfl⟩,en]
   ·rw [hv];have b0:0<=b:=by lia
    have e:Ur b=decide (b<=99):=by unfold Ur;rw [decide_eq_true b0,Bool.true_and]
    rw [e]
 | [] =>
  refine .inl ⟨?_,?_⟩
  ·unfold fZ;rw [if_neg];intro h;have:=h.2.1;unfold fj at this;rw [ht] at this;simp at this
  ·unfold bY;rw [if_pos hw,ht];rfl
 | [x] =>
  refine .inl ⟨?_,?_⟩
  ·unfold fZ;rw [if_neg];intro h;have:=h.2.1;unfold fj at this;rw [ht] at this;simp at this
  ·unfold bY;rw [if_pos hw,ht];rfl
 | x::y::u::r =>
  refine .inl ⟨?_,?_⟩
  ·unfold fZ;rw [if_neg];intro h;have:=h.2.1;unfold fj at this;rw [ht] at this;simp at this;lia
  ·unfold bY;rw [if_pos hw,ht];unfold gP;rw [if_neg 0x5]
theorem Ye:∀ (n:Nat) (l:List Nat),l.length=n->l.all dig=true->PySem.NumText.digitsVal l<10 ^ n
 | 0,l,hl,_=>by
  rw [List.length_eq_zero_iff.mp hl];decide
 | n+1,l,hl,h=>by
  have hne:l≠[]:=fun e=>by rw [e] at hl;cases hl
  have e:l=l.dropLast++[l.getLast hne]:=(List.dropLast_concat_getLast hne).symm;rw [e,List.all_append,Bool.and_eq_true] at h;have h2:dig (l.getLast hne)=true:=by
   have:=h.2;rw [List.all_cons,Bool.and_eq_true] at this;exact this.1
  have ih:=Ye n l.dropLast (by rw [List.length_dropLast];lia) h.1;unfold dig at h2;rw [Bool.and_eq_true] at h2;have h3:=fO h2.2;rw [e,PySem.NumText.digitsVal_snoc,Nat.pow_succ];lia
theorem Fp {n:Int} (e:iK z=.int n):n<=999999:=by
 unfold iK at e
 by_cases h:HS z=true
 ·rw [if_pos h] at e;injection e with e;have hw:=h;unfold HS at hw;rw [Bool.and_eq_true,Bool.and_eq_true,Bool.and_eq_true] at hw;have h6:=fO hw.2.2.1;have:=Ye _ _ rfl hw.1;have h10:10 ^ z.cps.toList.length<=10 ^ 6:=Nat.pow_le_pow_right 0x8 h6;rw [<- e];unfold valN;lia
 ·rw [if_neg h] at e;injection e with e;lia
theorem free_eq (z:Str):(fZ "free" 1 z=none/\bY "free" [.e] z=none)\/∃ a:Int,fZ "free" 1 z=some [.int a]/\bY "free" [.e] z=if decide (1<=a)=true then some [.int a] else none:=by
 by_cases hw:tH z="free"
 case neg =>
  refine .inl ⟨?_,?_⟩
  ·unfold fZ;rw [if_neg (fun h=>hw h.1)]
  ·unfold bY;rw [if_neg hw]
 match ht:(bO z).tail with
 | [x] =>
  obtain ⟨a,ea,ka⟩:=ou x;have top:=Fp ea;have en:fj z=[.int a]:=by unfold fj;rw [ht];show [iK x]=_;rw [ea]
  have hv:bY "free" [.e] z=if decide (1<=a)=true then some [.int a] else none:=by
   unfold bY;rw [if_pos hw,ht,Wo rfl ea];have e:dB .e (.int a)=decide (1<=a):=by
    show (decide (1<=a)&&decide (a<=999999))=_
    rw [decide_eq_true top,Bool.and_true]
   rw [e]
  have hin:inV (.int (-1)) (fj z)=decide (a=-1):=by
   rw [en]
   show (Nb (.int a) (.int (-1))||false)=_
   rw [Bv,Bool.or_false]
  by_cases hm:a=-1
  ·refine .inl ⟨?_,?_⟩
   ·unfold fZ;rw [if_neg];intro h;rw [hin] at h;simp [hm] at h
   ·rw [hv,if_neg];rw [hm];decide
  ·refine .inr ⟨a,?_,hv⟩;unfold fZ;rw [if_pos ⟨hw,by rw [en];rfl,by rw [hin,decide_eq_false hm]⟩,en]
 | [] =>
  refine .inl ⟨?_,?_⟩
  ·unfold fZ;rw [if_neg];intro h;have:=h.2.1;unfold fj at this;rw [ht] at this;simp at this
  ·unfold bY;rw [if_pos hw,ht];rfl
 | x::y::r =>
  refine .inl ⟨?_,?_⟩
  ·unfold fZ;rw [if_neg];intro h;have:=h.2.1;unfold fj at this;rw [ht] at this;simp at this;lia
  ·unfold bY;rw [if_pos hw,ht];unfold gP;rw [if_neg 0x5]
def kf (L F:V) (le:Addr):List (Key×V):=[(.inr "land",L),(.inr "free",F),(.inr "entries",.ref le)]
def Lx (d:Addr) (H H':Hp):Prop:=∀ c o,c≠d->H c=some o->H' c=some o
inductive Fq (vs:List V) (H:Hp) (Q:VK):Prop
 | mk (z:Str) (at_:Int) (d le:Addr) (L F:V) (_:vs=[.str z,.int at_,.ref d]) (_:z.length<=1000) (_:jz z) (_:H d=some (.dK (kf L F le))) (_:((at_=1/\(bY "land" [.a,.b] z=none->∀ H',Same H H'->Q (.bl false) H')/\∀ ps,bY "land" [.a,.b] z=some ps->∀ r H',Lx d H H'->H r=none->H' r=some (.lst ps)->H' d=some (.dK (kf (.ref r) F le))->Q (.bl true) H')\/(at_=2/\(bY "free" [.e] z=none->∀ H',Same H H'->Q (.bl false) H')/\∀ a,bY "free" [.e] z=some [.int a]->∀ H',Lx d H H'->H' d=some (.dK (kf L (.int a) le))->Q (.bl true) H'))):Fq vs H Q
def Tn:Sp:=fun vs H Q _=>Fq vs H Q
theorem Tp (L F v:V) (le:Addr):putK (kf L F le) (.inr "land") v=kf v F le:=rfl
theorem Tq (L F v:V) (le:Addr):putK (kf L F le) (.inr "free") v=kf L v le:=rfl
theorem Bw:bB ["_law_line", "_law_at", "_law_found", "_law_numbers", "_law_words", "_law_number_here", "_law_row", "_law_least"] ["_law_line", "_law_at", "_law_found"] (aC mU):=0x0
theorem Wq (F:iR K "_law_line_good" "_law_line_good" mU f fd)  (G1:bw P w K mg base dF 2 g1 d1 ["_law_line", "_law_word", "_law_many"] Lw) (M1:Ms K mg "_law_head" g1 d1 ["_law_line", "_law_word", "_law_many"]):bw P w K mg base dF 3 f fd ["_law_line", "_law_at", "_law_found"] Tn:=by
 refine F.ok Bw 0xA 0x2
 ·obtain ⟨z,at_,d,le,L,F',rfl,_⟩:=h;rfl
 obtain ⟨z,at_,d,le,L,F',rfl,hz,wF,hd,h⟩:=h;refine ⟨_,aA (bJ (aK cA (pv 1) au (aW _))
   (aA (bD (i:=3) Bw.nd rfl 0x3 (bA G1 hr rfl M1.m M1.k M1.b .nil bL (aj (pv 0) (aj aJ (aj au aq)))))
   (aA (bJ (PW.pt (dZ (kW (jL (pv 3))) (dZ (fu (uX jW jW au (bC aL (pv 3) au bW) au)) (eO (aK uV (bC aL (pv 3) au bW) au (aW _)))))) (aD (aU fX)) bf)
   (aA (Al (u1 hr) (pv 2) aJ (pv 3) rfl) (aD (aU fX))))) bf)
  (aA (bJ (aK cA (pv 1) au (aW _))
   (aA (bD (i:=3) Bw.nd rfl 0x3 (bA G1 hr rfl M1.m M1.k M1.b .nil bL (aj (pv 0) (aj aJ (aj au aq)))))
   (aA (bJ (PW.pt (dZ (kW (jL (pv 3))) (eO (aK xT (bC aL (pv 3) au bW) au (aW _))))) (aD (aU fX)) bf)
   (aA (Al (u1 hr) (pv 2) aJ (bC aL (pv 3) au bW) rfl) (aD (aU fX))))) bf) gn),?_⟩
 have Wk:∀ L F,(kf L F le).length<sizeLine:=fun L F=>by show 3<sizeLine;decide
 rcases h with ⟨rfl,k0,k1⟩ | ⟨rfl,k0,k1⟩
 ·refine ⟨_,rfl,rfl,_,rfl,bU ?_⟩;refine ⟨_,rfl,z, "land",2,rfl,hz,wF,fun hn H1 s1=>?_,fun ns hns r H1 s1 hr0 hr1=>?_⟩
  ·have hv:bY "land" [.a,.b] z=none:=by
    rcases land_eq z with ⟨_,e⟩ | ⟨a,b,e,_⟩
    ·exact e
    ·rw [hn] at e;cases e
   exact ⟨_,rfl,_,rfl,bU (bU (k0 hv H1 s1))⟩
  ·obtain ⟨a,b,e,hv⟩:∃ a b:Int,ns=[.int a,.int b]/\bY "land" [.a,.b] z=if (EY a&&decide (b<=99))=true then some [.int a,.int b] else none:=by
    rcases land_eq z with ⟨e,_⟩ | ⟨a,b,e,hv⟩
    ·rw [hns] at e;cases e
    ·rw [hns] at e;exact ⟨a,b,Option.some.inj e,hv⟩
   subst e;have d1:=s1 _ _ hd;refine ⟨_,rfl,_,rfl,bZ ?_⟩;have done:(EY a&&decide (b<=99))=true->∀ H2,H2=upd H1 d (.dK (kf (.ref r) F' le))->Q (.bl true) H2:=fun ok H2 e=>by
    subst e;have nrd:r≠d:=fun z=>by rw [z,hd] at hr0;cases hr0
    exact k1 _ (by rw [hv,ok];rfl) r _ (fun c o hc ho=>by rw [aG hc];exact s1 _ _ ho) hr0 (by rw [aG nrd];exact hr1) ak
   have miss:(EY a&&decide (b<=99))=false->Q (.bl false) H1:=fun no=>k0 (by rw [hv,no];rfl) H1 s1;have at1:lZ ([V.int a,V.int b]:List V) 1=some (V.int b):=fH (j:=1) rfl;refine ⟨_,rfl,r,_,_,_,rfl,rfl,aZ.of hr1,at0 _ _,_,_,rfl,rfl,_,rfl,?_⟩;refine bG (fun c1=>?_) (fun c1=>?_)
   ·refine ⟨_,_,rfl,rfl,_,rfl,?_⟩;have a1:1<=a:=fO c1;refine bG (fun c2=>?_) (fun c2=>?_)
    ·have a2:¬ a<=9999:=by simpa using c2
     refine bU (miss ?_);unfold EY;rw [decide_eq_false a2];simp
    ·have a2:a<=9999:=by simpa using c2
     refine ⟨_,rfl,r,_,_,_,rfl,rfl,aZ.of hr1,at1,_,_,rfl,rfl,_,rfl,?_⟩;have ok1:EY a=true:=by unfold EY;rw [decide_eq_true a1,decide_eq_true a2];rfl
     refine bG (fun c3=>?_) (fun c3=>?_)
     ·have b1:¬ b<=99:=by
       have:=fO c3;lia
      exact miss (by rw [ok1,decide_eq_false b1];rfl)
     ·have b1:b<=99:=by
       have:=of_decide_eq_false (Bool.eq_false_iff.mpr c3);lia
      refine ⟨_,rfl,_,rfl,d,_,rfl,GR.k (k:=.inr "land") d1 (Wk _ _),?_⟩;rw [Tp];exact done (by rw [ok1,decide_eq_true b1];rfl) _ rfl
   ·have a1:¬ 1<=a:=of_decide_eq_false (Bool.eq_false_iff.mpr c1);refine ⟨_,rfl,bU (bU (miss ?_))⟩;unfold EY;rw [decide_eq_false a1];rfl
 ·refine ⟨_,rfl,rfl,_,rfl,bZ ?_⟩;refine ⟨_,rfl,rfl,_,rfl,bU ?_⟩;refine ⟨_,rfl,z, "free",1,rfl,hz,wF,fun hn H1 s1=>?_,fun ns hns r H1 s1 hr0 hr1=>?_⟩
  ·have hv:bY "free" [.e] z=none:=by
    rcases free_eq z with ⟨_,e⟩ | ⟨a,e,_⟩
    ·exact e
    ·rw [hn] at e;cases e
   exact ⟨_,rfl,_,rfl,bU (bU (k0 hv H1 s1))⟩
  ·obtain ⟨a,e,hv⟩:∃ a:Int,ns=[.int a]/\bY "free" [.e] z=if decide (1<=a)=true then some [.int a] else none:=by
    rcases free_eq z with ⟨e,_⟩ | ⟨a,e,hv⟩
    ·rw [hns] at e;cases e
    ·rw [hns] at e;exact ⟨a,Option.some.inj e,hv⟩
   subst e;have d1:=s1 _ _ hd;refine ⟨_,rfl,_,rfl,bZ ?_⟩;refine ⟨_,rfl,r,_,_,_,rfl,rfl,aZ.of hr1,at0 _ _,_,_,rfl,rfl,_,rfl,?_⟩;refine bG 0x28 0x28
   ·have hlt:a<1:=fO c;exact k0 (by rw [hv,decide_eq_false 0x1];rfl) H1 s1
   ·have hge:1<=a:=by
     have:=of_decide_eq_false (Bool.eq_false_iff.mpr c);lia
    refine ⟨_,rfl,r,_,_,_,rfl,rfl,aZ.of hr1,at0 _ _,_,rfl,d,_,rfl,GR.k (k:=.inr "free") d1 (Wk _ _),?_⟩;rw [Tq];exact k1 a (by rw [hv,decide_eq_true hge];rfl) _ (fun c o hc ho=>by rw [aG hc];exact s1 _ _ ho) ak
theorem grab {a b:TS} (Pv:St->Hp->Prop) (h2:∀ σ' H',Pv σ' H'->b D σ' H') (h1:(∀ σ' H',Pv σ' H'->b D σ' H')->a { D with nx:=fun σ' H'=>b D σ' H' } σ H):zU a b D σ H:=h1 h2
theorem Wr {b:TS} (h:b D (σ.set i (some v)) H):zU (tQ (tC v) (dX i)) b D σ H:=h
abbrev En:=Int×Addr×Addr×List V
def oK (H:Hp) (ts:List En):Prop:=∀ t∈ts,H t.2.1=some (.tup [.int t.1,.ref t.2.2.1])/\H t.2.2.1=some (.tup t.2.2.2)/\t.2.2.2.all lD=true/\1<=t.1
def gO (ts:List En):List (Int×List V):=ts.map fun t=>(t.1,t.2.2.2)
inductive Ly (vs:List V) (H:Hp) (Q:VK):Prop
 | mk (z:Str) (at_:Int) (d le:Addr) (L:V) (fr:Int) (ts:List M.En) (_:vs=[.str z,.int at_,.ref d]) (_:3<=at_) (_:z.length<=1000) (_:jz z) (_:H d=some (.dK (kf L (.int fr) le))) (_:H le=some (.lst (ts.map fun t=>V.ref t.2.1))) (_:oK H ts) (_:ts.length<=100) (_:(jR fr (eN (gO ts)) ((gO ts).map (·.2)) z=none->∀ H',Same H H'->Q (.bl false) H')) (_:∀ n row,jR fr (eN (gO ts)) ((gO ts).map (·.2)) z=some (n,row)->∀ te ra H',Lx le H H'->H te=none->H' te=some (.tup [.int n,.ref ra])->H' ra=some (.tup row)->row.all lD=true->1<=n->H' le=some (.lst ((ts.map fun t=>V.ref t.2.1)++[.ref te]))->Q (.bl true) H'):Ly vs H Q
def Yg:Sp:=fun vs H Q _=>Ly vs H Q
theorem Ws (L F:V) (le:Addr):lu (kf L F le) (.inr "entries")=some (.ref le):=rfl
theorem Tr (L F:V) (le:Addr):lu (kf L F le) (.inr "free")=some F:=rfl
theorem Tt (L F:V) (le:Addr):lu (kf L F le) (.inr "land")=some L:=rfl
theorem wR {L:V} (h:H d=some (.dK (kf L F le))):mH H d (.str "entries") (some (.ref le)):=by
 have g:=mH.k (k:=.inr "entries") h;rw [Ws] at g;exact g
theorem Lz {L:V} (h:H d=some (.dK (kf L F le))):mH H d (.str "free") (some F):=by
 have g:=mH.k (k:=.inr "free") h;rw [Tr] at g;exact g
theorem Wt {L:V} (h:H d=some (.dK (kf L F le))):mH H d (.str "land") (some L):=by
 have g:=mH.k (k:=.inr "land") h;rw [Tt] at g;exact g
def enD (t:En):PyData:=.tuple [.int t.1,.tuple (t.2.2.2.map gY)]
theorem LC:∀ {ts:List En},oK H ts->dw H (ts.map fun t=>V.ref t.2.1) (ts.map enD)
 | [],_=>.nil
 | t::r,h=>by
  obtain ⟨h1,h2,h3,_⟩:=h t List.mem_cons_self;exact .cons (.tup h1 (.cons (.int _) (.cons (.tup h2 (qF _ h3)) .nil))) (LC fun u hu=>h u (lR _ hu))
theorem Tv:∀ {ts:List En},oK H ts->PyData.canLayAll0 (ts.map enD)=true
 | [],_=>rfl
 | t::r,h=>by
  obtain ⟨h1,h2,h3,_⟩:=h t List.mem_cons_self;rw [List.map_cons,PyData.canLayAll0,Tv fun u hu=>h u (lR _ hu),Bool.and_true];unfold enD;rw [PyData.canLay0,PyData.canLayAll0,PyData.canLayAll0,PyData.canLay0,PyData.canLay0,kE _ h3];rfl
theorem Tw:∀ ts:List En,PyData.depthAll (ts.map enD)<=3
 | []=>by decide
 | t::r=>by
  rw [List.map_cons,PyData.depthAll];have h1:=Tw r;have h2:=qG t.2.2.2;have e:PyData.depth (enD t)<=3:=by
   unfold enD;rw [PyData.depth,PyData.depthAll,PyData.depthAll,PyData.depth,PyData.depth,PyData.depthAll];lia
  lia
theorem Yh {ts:List En}{Q:VK} (h:oK H ts) (hl:H le=some (.lst (ts.map fun t=>V.ref t.2.1))) (hq:H q=some (.lst [])) (k:Q (.bl (!ts.isEmpty)) H):V5 (.ref le) (.ref q) H Q:=by
 refine ⟨_,_,.lst hl (LC h),.lst hq .nil,?_,rfl,?_,?_⟩
 ·rw [PyData.canLay0];exact Tv h
 ·rw [PyData.depth];have:=Tw ts;lia
 ·cases ts with
  | nil=>exact k
  | cons t r=>exact k
theorem Wu {n:Int} (en:iK (tH z)=.int n) {fr last:Int} (h0:0<=last) (rows:List (List V)):jR fr last rows z=match lY (Fb z) with
  | none=>none
  | some (k,ps)=>if n<last+1\/n>=fr\/(V.str k::ps)∈rows then none else some (n,V.str k::ps):=by
 have top:=Fp en;have hp:=uI (s:=.e) rfl en;unfold jR;cases hr:lY (Fb z) with
 | none =>
  cases lX .e (tH z) <;> rfl
 | some p =>
  obtain ⟨k,ps⟩:=p
  by_cases h:dB .e (.int n)=true
  ·rw [hp,if_pos h]
   show (if n<=last\/n>=fr\/(V.str k::ps)∈rows then none else some (n,V.str k::ps))=(if n<last+1\/n>=fr\/(V.str k::ps)∈rows then none else some (n,V.str k::ps))
   by_cases c:n<=last\/n>=fr\/(V.str k::ps)∈rows
   ·rw [if_pos c,if_pos (c.imp (fun h=>by lia) id)]
   ·rw [if_neg c,if_neg (fun h=>c (h.imp (fun h=>by lia) id))]
  ·rw [hp,if_neg h];have h':¬ 1<=n:=fun h1=>h (by
    show (decide (1<=n)&&decide (n<=999999))=true
    rw [decide_eq_true h1,decide_eq_true top];rfl)
   show none=(if n<last+1\/n>=fr\/(V.str k::ps)∈rows then none else some (n,V.str k::ps))
   rw [if_pos (.inl 0x1)]
theorem oK.same {ts:List En} (h:oK H ts) (s:Same H H'):oK H' ts:=fun t ht=>⟨s _ _ (h t ht).1,s _ _ (h t ht).2.1,(h t ht).2.2⟩
theorem LK:∀ {ts:List En},oK H ts->eY H (ts.map fun t=>t.2.2.1) (ts.map fun t=>t.2.2.2)
 | [],_=>.nil
 | t::r,h=>.cons (h t List.mem_cons_self).2.1 (LK fun u hu=>h u (lR _ hu))
theorem LQ (ts:List En) (t:En):eN (gO (ts++[t]))=t.1:=by
 unfold gO;rw [jB];exact wO _ _
theorem last_pos {ts:List En} (h:oK H ts):0<=eN (gO ts):=by
 rcases List.eq_nil_or_concat ts with rfl | ⟨us,t,rfl⟩
 ·exact Int.le_refl 0
 ·rw [List.concat_eq_append] at *
  rw [LQ];have:=(h t 0x5).2.2.2;lia
def scE1:Scope:={ kind:=.function,names:=[(".0",.local),("_law_earlier",.local),("_law_one",.local)],isGenerator:=false,isCoroutine:=false }
theorem csE1:fP ["_law_line", "_law_at", "_law_found", "_law_numbers", "_law_words", "_law_number_here", "_law_row", "_law_least"] (aC mU) scE1 ["_law_earlier", "_law_one"] [] []:=0x6
theorem ndE1:((["_law_earlier", "_law_one"]:List Str)++([]:List Str)).Nodup:=by decide +kernel
theorem a0A (F:iR K "_law_line_good" "_law_line_good" mU f fd)  (G1:bw P w K mg base dF 1 g1 d1 ["_law_word"] Bh) (M1:Ms K mg "_law_number" g1 d1 ["_law_word"])
  (G2:bw P w K mg base dF 3 g2 d2 ["_law_text"] KR) (M2:Ms K mg "_law_read" g2 d2 ["_law_text"]):bw P w K mg base dF 4 f fd ["_law_line", "_law_at", "_law_found"] Yg:=by
 refine F.ok Bw 0xA 0x2
 ·obtain ⟨z,at_,d,le,L,fr,ts,rfl,_⟩:=h;rfl
 obtain ⟨z,at_,d,le,L,fr,ts,rfl,h3,hz,wF,hd,hl,hE,hts,k0,k1⟩:=h;refine ⟨_,aA (bJ (aK cA (pv 1) au (aW _)) gn bf)
  (aA (bJ (aK cA (pv 1) au (aW _)) gn bf)
  (aA (bD (i:=4) Bw.nd rfl 0x3 (dH (name:="split") PySem.F.plainAttrs_str PySem.F.slot_str_split PySem.F.type_str_split gM (pv 0) (aj aJ aq)))
  (aA (bD (i:=5) Bw.nd rfl 0x3 (bA G1 (hr.mono 0x8) rfl M1.m M1.k M1.b .nil bL (aj (bC aL (pv 4) au bW) aq)))
  (aA (bD (i:=6) Bw.nd rfl 0x3 (bA G2 hr rfl M2.m M2.k M2.b .nil bL (aj (dH (name:="join") PySem.F.plainAttrs_str PySem.F.slot_str_join PySem.F.type_str_join nD aJ (aj (cU bQ (pv 4) (dJ au) dI) aq)) aq)))
  (aA (bD (i:=7) Bw.nd rfl 0x3 au)
  (aA (bJ (aK (vA hr.units) (iU (u1 hr) (pv 2) aJ 0xE) (cX aq) (aW _)) (aD (bD (i:=7) Bw.nd rfl 0x3 (aR bN (bC gU (bC aL (iU (u1 hr) (pv 2) aJ 0xE) (sS m8 au) 0xE) au bW) au))) bf)
  (aA (bJ (PW.pt (dZ (aK xT (pv 5) (pv 7) (aW _)) (dZ (aK Xe (pv 5) (iU (u1 hr) (pv 2) aJ 0xE) (aW _)) (dZ (kW (jL (pv 6))) (eO (aK (QV hr.units) (pv 6) (gJ rfl csE1 (iB (iU (u1 hr) (pv 2) aJ 0xE))
    (fun s H fp C=>⟨qu (K:=K) (n:=2) rfl (aX (aQ (i:=0) ndE1 rfl 0x3) (aX (aQ (i:=1) ndE1 rfl 0x3) cZ)),fJ,pv 1⟩)) 0x16)))))) (aD (aU fX)) bf)
  (aA (dz (dH PySem.F.plainAttrs_list PySem.F.slot_list_append PySem.F.type_list_append cY (iU (u1 hr) (pv 2) aJ 0xE) (aj (gG (aj (pv 5) (aj (pv 6) aq))) aq)))
  (aD (aU fX)))))))))),?_⟩
 have n1:¬ at_=1:=fun e=>by lia
 have n2:¬ at_=2:=fun e=>by lia
 refine ⟨_,rfl,rfl,_,rfl,bG (fun c=>absurd (fO c) (fun e=>n1 (by injection e))) (fun _=>?_)⟩;refine ⟨_,rfl,rfl,_,rfl,bG (fun c=>absurd (fO c) (fun e=>n2 (by injection e))) (fun _=>?_)⟩;refine 0x1F;have ew:Txt.split z (Str.ofString " ")=bO z:=rfl;rw [ew];obtain ⟨w1,ws,xu⟩:∃ w1 ws,bO z=w1::ws:=by
  cases e:bO z with
  | nil=>exact absurd e (jw z)
  | cons w1 ws=>exact ⟨w1,ws,rfl⟩
 have ehd:tH z=w1:=by unfold tH;rw [xu];rfl
 have etl:Txt.join (Str.ofString " ") ws=Fb z:=by
  unfold Fb;rw [xu];exact StrLaws.glued_eq_join _ _
 rw [xu,List.map_cons];have s1:Same H (upd H p (.lst (V.str w1::ws.map V.str))):=ao hp _;have p1:(upd H p (.lst (V.str w1::ws.map V.str))) p=some (.lst (V.str w1::ws.map V.str)):=ak;generalize upd H p (.lst (V.str w1::ws.map V.str))=H1 at s1 p1 ⊢;obtain ⟨n,en,_⟩:=ou w1;have hw1:w1.length<=1000/\jz w1:=by
  have hm:w1∈bO z:=by rw [xu];exact List.mem_cons_self
  exact ⟨Nat.le_trans (lJ hm) hz,lK wF hm⟩
 refine ⟨_,rfl,p,_,_,_,rfl,rfl,aZ.of p1,at0 _ _,w1,rfl,hw1.1,hw1.2,fun H2 s2=>?_⟩;rw [en];have g2:=s1.trans s2;have p2:=s2 _ _ p1;have d2:=g2 _ _ hd;dsimp only [dX];refine grab (a:=tQ _ _) (fun σ' H4=>∃ rv,σ'=[some (.str z),some (.int at_),some (.ref d),none,some (.ref p),some (.int n),some rv,none]/\Same H H4/\((rv=.non/\lY (Fb z)=none)\/∃ k ps r,rv=.ref r/\lY (Fb z)=some (k,ps)/\H4 r=some (.tup (.str k::ps)))) ?_ (fun kk=>?_)
 rotate_left
 ·refine ⟨rfl,_,rfl,_,rfl,p,_,rfl,aZ.of p2,fun q hq=>?_⟩;rw [Hw];have s3:=ao hq 0x15;have q3:(upd H2 q 0x15) q=some 0x15:=ak;have g3:=g2.trans s3;generalize upd H2 q 0x15=H3 at s3 g3 q3 ⊢;have hj:JoinOk (Str.ofString " ") ws=true:=by
   refine ig ?_;have e1:=su z;rw [xu] at e1;have e2:jl ws<=jl (w1::ws):=KY (w1::ws) 1;lia
  refine ⟨_,q,ws,rfl,rfl,aZ.of q3,hj,?_⟩;rw [etl];refine ⟨Fb z,rfl,Nat.le_trans (T3 z) hz,Wf wF,fun hn H4 s4=>?_,fun k ps hk r H4 s4 Yi=>?_⟩
  ·exact kk _ _ ⟨_,rfl,g3.trans s4,.inl ⟨rfl,hn⟩⟩
  ·exact kk _ _ ⟨_,rfl,g3.trans s4,.inr ⟨k,ps,r,rfl,hk,Yi⟩⟩
 rintro σ' H4 ⟨rv,rfl,g4,hrow⟩;have d4:=g4 _ _ hd;have l4:=g4 _ _ hl;have E4:=hE.same g4;refine Wr ?_;refine grab (a:=oW _ _ _) (fun σ' H5=>σ'=[some (.str z),some (.int at_),some (.ref d),none,some (.ref p),some (.int n),some rv,some (.int (eN (gO ts)+1))]/\Same H4 H5) ?_ (fun kk=>?_)
 rotate_left
 ·refine ⟨_,rfl,d,_,rfl,wR d4,small 0x5,fun q5 W0=>?_⟩;have s5:=ao W0 (.lst []);refine Yh (E4.same s5) (s5 _ _ l4) ak ⟨_,rfl,?_⟩;have d5:=s5 _ _ d4;have l5:=s5 _ _ l4;have E5:=E4.same s5;generalize upd H4 q5 (.lst [])=H5 at s5 d5 l5 E5 ⊢;clear l4 E4 d4;rcases List.eq_nil_or_concat ts with rfl | ⟨us,t,rfl⟩
  ·exact bG (fun c=>by cases c) (fun _=>kk _ _ ⟨rfl,s5⟩)
  ·rw [List.concat_eq_append] at *
   obtain ⟨t1,t2,_,_⟩:=E5 t 0x5;rw [LQ] at kk;refine bG 0x28 (fun c=>absurd 0x5 c);rw [jB] at l5;exact ⟨_,rfl,d,_,rfl,wR d5,_,rfl,le,_,_,_,rfl,rfl,aZ.of l5,uZ _ _,t.2.1,_,_,_,rfl,rfl,dG.of t1,at0 _ _,_,_,rfl,rfl,kk _ _ ⟨rfl,s5⟩⟩
 rintro σ' H5 ⟨rfl,s5⟩;have g5:=g4.trans s5;have d5:=s5 _ _ d4;have l5:=s5 _ _ l4;have E5:=E4.same s5;have lp:=last_pos hE;rw [<- ehd] at en;have ev:=Wu en (fr:=fr) lp ((gO ts).map (·.2));have bad:jR fr (eN (gO ts)) ((gO ts).map (·.2)) z=none->∀ H6,Same H5 H6->Q (.bl false) H6:=fun h H6 s6=>k0 h H6 (g5.trans s6);refine ⟨_,rfl,_,rfl,_,_,rfl,rfl,_,rfl,?_⟩;refine bG (fun c1=>bU (bad ?_ H5 (Same.refl _))) (fun c1=>?_)
 ·rw [ev];rcases hrow with ⟨_,hn⟩ | ⟨k,ps,r,_,hk,_⟩
  ·rw [hn]
  ·rw [hk];exact if_pos (.inl (fO c1))
 refine ⟨_,rfl,_,rfl,d,_,rfl,Lz d5,_,_,rfl,rfl,_,rfl,?_⟩;refine bG (fun c2=>bU (bad ?_ H5 (Same.refl _))) (fun c2=>?_)
 ·rw [ev];rcases hrow with ⟨_,hn⟩ | ⟨k,ps,r,_,hk,_⟩
  ·rw [hn]
  ·rw [hk];exact if_pos (.inr (.inl (fO c2)))
 rcases hrow with ⟨rfl,hn⟩ | ⟨k,ps,r,rfl,hk,Yi⟩
 ·exact ⟨_,rfl,_,rfl,bU (bU (bad (by rw [ev,hn]) H5 (Same.refl _)))⟩
 have hr5:=s5 _ _ Yi;rw [hk] at ev;refine ⟨_,rfl,_,rfl,bZ ?_⟩;refine ⟨_,rfl,_,rfl,d,_,rfl,wR d5,le,rfl,⟨_,aZ.of l5⟩,fun D hD=>?_⟩;refine gW (K:=K) (a:=le) (xs:=ts.map fun t=>V.ref t.2.1) (fun i ys H6=>ys=(ts.take i).map (fun t=>V.ref t.2.2.1)/\Same H5 H6/\H6 D=some (.lst ys)) (fun i ys H6 h=>aZ.of (h.2.1 _ _ l5)) ⟨rfl,ao hD _,ak⟩ (fun i ys H6 h=>h.2.2) ?_ ?_
 ·rintro i ys H6 x hx ⟨rfl,s6,hD6⟩;rw [jT] at hx;obtain ⟨t,ht,rfl⟩:=Option.map_eq_some_iff.mp hx;obtain ⟨t1,_,_,_⟩:=E5 t (lU ht);refine ⟨t.2.1,_,rfl,dG.of (s6 _ _ t1),rfl,_,_,rfl,_,_,rfl,rfl,Kp.set rfl (Kp.set rfl (Kp.refl _)),?_⟩;refine dN ?_;refine ⟨_,rfl,hD6,?_,?_,aV s6 hD,ak⟩
  ·rw [bV,List.length_take];exact cQ 0x1
  ·rw [List.take_add_one,ht,jB];rfl
 rintro ys H6 ⟨rfl,s6,hD6⟩;rw [bV,List.take_of_length_le 0x9] at hD6;have E6:=E5.same s6;have hD6':H6 D=some (.lst ((ts.map fun t=>t.2.2.1).map V.ref)):=by rw [hD6,List.map_map];rfl
 have d6:=s6 _ _ d5;have l6:=s6 _ _ l5;have hr6:=s6 _ _ hr5;have rIS:=Tc hk;have Fl:(gO ts).map (·.2)=ts.map fun t=>t.2.2.2:=by unfold gO;rw [List.map_map];rfl
 refine ⟨r,D,ts.map (fun t=>t.2.2.1),V.str k::ps,ts.map (fun t=>t.2.2.2),rfl,rfl,aZ.of hD6',hr6,rIS,LK E6,fun w hw=>?_,_,rfl,?_⟩
 ·obtain ⟨tt,htt,rfl⟩:=List.mem_map.mp hw;exact (E6 tt htt).2.2.1
 refine bG (fun c3=>?_) (fun c3=>?_)
 ·obtain ⟨w,hw,e⟩:=List.any_eq_true.mp c3;have e':=fO e;exact bad (by rw [ev];exact if_pos (.inr (.inr (by rw [Fl,<- e'];exact hw)))) H6 s6
 have n3:¬ (V.str k::ps)∈(gO ts).map (·.2):=fun hm=>by
  rw [Fl] at hm;exact c3 (List.any_eq_true.mpr ⟨_,hm,decide_eq_true rfl⟩)
 have m1:¬ n<eN (gO ts)+1:=of_decide_eq_false (Bool.eq_false_iff.mpr c1);have m2:¬ n>=fr:=of_decide_eq_false (Bool.eq_false_iff.mpr c2);have eS:jR fr (eN (gO ts)) ((gO ts).map (·.2)) z=some (n,V.str k::ps):=by
  rw [ev];refine if_neg ?_;intro h;rcases h with h | h | h
  ·exact m1 h
  ·exact m2 h
  ·exact n3 h
 refine ⟨_,rfl,d,_,rfl,wR d6,.inl ⟨rfl,_,aZ.of l6⟩,_,rfl,_,rfl,small 0x5,fun te Ol=>?_⟩;have s7:=ao Ol (.tup [V.int n,.ref r]);have nte:le≠te:=aN l6 Ol;have nre:le≠r:=fun e=>by rw [<- e,l6] at hr6;cases hr6
 refine ⟨le,_,_,rfl,rfl,s7 _ _ l6,?_,?_⟩
 ·rw [bV];exact cQ 0x1
 refine k1 n _ eS te r _ (fun c o hc ho=>?_) ((g5.trans s6).free Ol) ?_ ?_ rIS 0x1 ak
 ·rw [aG hc];exact s7 _ _ ((g5.trans s6) _ _ ho)
 ·rw [aG nte.symm];exact ak
 ·rw [aG nre.symm];exact s7 _ _ hr6
end M
namespace L2
open PySem PySem.Spec PyProof.Rows PySem.W
theorem Bx {tb:TS} (hp:PassesOwn 0x7 X.A X.env X.xe) (hc:X.calm=true) (hi:PI X tg iter wi) (hg:PG X tg g) (hb:Eo X body tb)
  (hs:∀ x,foldedSetIterable iter X.env x=pure x:=by intro _;rfl):WS X (.For tg iter body [] pos) (MP wi g tb):=⟨gb hp hc hi hg hb.h hs⟩
theorem qT {c:Expr}{a b:List Stmt}{tc:TT}{t u:TS} (hc:PT X c tc) (ha:Eo X a t) (hb:Eo X b u):WS X (.If c a b pos) (oW tc t u):=⟨bJ hc ha.h hb.h⟩
end L2
namespace M
open PySem L2
section
variable {j0 j1 j2 j4:Nat}{p0 p4 p5 q:Pos}
abbrev BJ:List (TE×TE):=[(tC (.str "land"),Uy oG),(tC (.str "free"),tC (.int 0)),(tC (.str "entries"),Uy oG)]
theorem Tz:PE X (.Dict [some (.Constant (.str "land") j0 p0),some (.Constant (.str "free") j1 p1),some (.Constant (.str "entries") j2 p2)] [.List [] p3,.Constant (.int 0) j4 p4,.List [] p5] q) (sX BJ):=by
 refine JV ?h ?a ?b ?c ?d
 case a=>exact rfl
 case b=>exact rfl
 case c=>exact List.cons_ne_nil _ _
 case d=>exact Nat.le_of_ble_eq_true rfl
 case h=>exact (fY aJ (cX aq) (fY aJ au (fY aJ (cX aq) JT)))
end
theorem Ft {a:V}{r:List (TE×TE)}{Q:List (V×V)->Hp->Prop} (h:tv σ H fun y H2=>lA r σ H2 fun ps H3=>Q ((a,y)::ps) H3):lA ((tC a,tv)::r) σ H Q:=h
theorem Fv (L F:V) (le:Addr):mJ [] (kf L F le)=kf L F le:=rfl
theorem TF {Q:VK} (h:∀ d l le H',Same H H'->H d=none->H le=none->d≠le->H' d=some (.dK (kf (.ref l) (.int 0) le))->H' le=some (.lst [])->Q (.ref d) H'):sX BJ σ H Q:=by
 intro d hd;have s0:Same H (upd H d (.dK [])):=ao hd _;have d0:(upd H d (.dK [])) d=some (.dK []):=ak;generalize upd H d (.dK [])=H0 at s0 d0 ⊢;refine Ft ⟨small 0x5,fun l hl=>?_⟩;have s1:=ao hl (.lst []);have d1:=s1 _ _ d0;have g1:=s0.trans s1;generalize upd H0 l (.lst [])=H1 at s1 d1 g1 ⊢;refine iG (Ft ⟨small 0x5,fun le hle=>?_⟩);have s2:=ao hle (.lst []);have d2:=s2 _ _ d1;have g2:=g1.trans s2;have l2:(upd H1 le (.lst [])) le=some (.lst []):=ak;have nd:d≠le:=aN d1 hle;have a0B:=g1.free hle;generalize upd H1 le (.lst [])=H2 at s2 d2 g2 l2 ⊢;refine Ef ⟨d2,kf (.ref l) (.int 0) le,rfl,Nat.le_of_ble_eq_true rfl,?_⟩;rw [Fv];exact h d l le _ (aV g2 hd) hd a0B nd ak (by rw [aG (Ne.symm nd)];exact l2)
theorem Od {b:TS} (h:∀ d l le H',Same H H'->H d=none->H le=none->d≠le->H' d=some (.dK (kf (.ref l) (.int 0) le))->H' le=some (.lst [])->b D (σ.set 2 (some (.ref d))) H'):zU (tQ (sX BJ) (dX 2)) b D σ H:=by
 show sX BJ σ H (fun x H1=>dX 2 x σ H1 fun σ' H'=>b D σ' H')
 exact TF fun d l le H' a1 a2 a3 a4 a5 a6=>h d l le H' a1 a2 a3 a4 a5 a6
inductive TJ (vs:List V) (H:Hp) (Q:VK):Prop
 | mk (z:Str) (_:vs=[.str z]) (_:Lq z) (_:jz z) (_:(∀ n:Nat,dU z=.inl n->1<=n->∀ t d H',Same H H'->H' t=some (.tup [.int (n:Int),.ref d])->Q (.ref t) H')) (_:∀ a b fr es,dU z=.inr ([.int a,.int b,.int fr],es)->∀ (t d r le:Addr) (ts:List En) (H':Hp),Same H H'->H' t=some (.tup [.int 0,.ref d])->H' d=some (.dK (kf (.ref r) (.int fr) le))->H' r=some (.lst [.int a,.int b])->H' le=some (.lst (ts.map fun t:En=>V.ref t.2.1))->oK H' ts->gO ts=es->Q (.ref t) H'):TJ vs H Q
def spPR:Sp:=fun vs H Q _=>TJ vs H Q
def AtR (ls:List Str) (d le:Addr) (i:Nat) (Hx:Hp):Prop :=
 (i=0/\(∃ L,Hx d=some (.dK (kf L (.int 0) le)))/\Hx le=some (.lst [])) \/
 (i=1/\∃ r l0 rest ps,ls=l0::rest/\Hx d=some (.dK (kf (.ref r) (.int 0) le))/\Hx le=some (.lst [])/\Hx r=some (.lst ps)/\bY "land" [.a,.b] l0=some ps/\r≠d/\r≠le) \/
 (2<=i/\∃ (r:Addr) (l0 l1:Str) (rest:List Str) (a b fr:Int) (ts:List En),ls=l0::l1::rest/\Hx d=some (.dK (kf (.ref r) (.int fr) le))/\Hx r=some (.lst [.int a,.int b])/\bY "land" [.a,.b] l0=some [.int a,.int b]/\bY "free" [.e] l1=some [.int fr]/\Hx le=some (.lst (ts.map fun t:En=>V.ref t.2.1))/\oK Hx ts/\ts.length+2=i/\r≠le /\
  iQ fr (ls.drop 2) 3 []=iQ fr (ls.drop i) (i+1) (gO ts))
theorem lN (h:iy (cJ z).dropLast=.inl n):dU z=.inl n:=by unfold dU;rw [h]
theorem zJ {l0 l1:Str}{rest:List Str}{a b fr:Int} (e:(cJ z).dropLast=l0::l1::rest) (h0:bY "land" [.a,.b] l0=some [.int a,.int b]) (h1:bY "free" [.e] l1=some [.int fr]) :
  dU z=match iQ fr ((cJ z).dropLast.drop 2) 3 [] with
   | .inl n=>.inl n
   | .inr es=>if (cJ z).getLastD ""="" then .inr ([.int a,.int b,.int fr],es) else .inl (cJ z).length:=by
 have hh:iy (cJ z).dropLast=.inr [.int a,.int b,.int fr]:=by
  rw [e,kJ,h0];simp only [h1];rfl
 unfold dU
 (rw [hh]) <;> rfl
theorem Wv {u:Str}:(ls++[u]).getLastD ""=u:=by
 rw [List.getLastD_eq_getLast?,List.getLast?_concat];rfl
theorem oK.a2v {ts:List En}{us:List V} (h:oK H ts) (hl:H le=some (.lst us)) (s:Lx le H H'):oK H' ts:=fun t ht=>by
 obtain ⟨h1,h2,h3⟩:=h t ht;refine ⟨s _ _ (fun e=>?_) h1,s _ _ (fun e=>?_) h2,h3⟩
 ·rw [e,hl] at h1;cases h1
 ·rw [e,hl] at h2;cases h2
theorem Ww:bB ["_law_text", "_law_lines", "_law_found", "_law_at"] ["_law_text"] (aC rO):=0x0
def spLG:Sp:=fun vs H Q E=>Tn vs H Q E\/Yg vs H Q E
theorem a2w (F:iR K "_law_page_read" "_law_page_read" rO f fd) (ml:mg "len"=none) (mr:mg "range"=none)  (G1:bw P w K mg base dF 4 g1 d1 ["_law_line", "_law_at", "_law_found"] spLG) (M1:Ms K mg "_law_line_good" g1 d1 ["_law_line", "_law_at", "_law_found"]):bw P w K mg base dF 5 f fd ["_law_text"] spPR:=by
 refine F.ok Ww 0xA 0x2
 ·obtain ⟨z,rfl,_⟩:=h;rfl
 obtain ⟨z,rfl,⟨hz1,hz2,hz3⟩,wF,k0,k1⟩:=h;refine Eo.out ⟨_,aP (cR (i:=1) Ww.nd rfl 0x3 (wH (wv 0) rfl rfl))
  (aP (cR (i:=2) Ww.nd rfl 0x3 ⟨Tz⟩)
  (aP (Bx PassesOwn.never rfl (MN rfl mr (aj au (aj (aM bF rfl ml PySem.boot_len 0x21) aq))) (aQ (i:=3) Ww.nd rfl 0x3)
   (bT (qT (fu (dW (bA G1 hr rfl M1.m M1.k M1.b .nil bL (aj (bC aL (pv 1) (aR oX (pv 3) au) jP) (aj (pv 3) (aj (pv 2) aq)))))) (bT (iw ⟨gG (aj (pv 3) (aj (pv 2) aq))⟩)) cI)))
  (aP (qT (PW.pt (dZ (aK jE (bC aL (pv 1) (sS m8 au) 0xE) aJ (aW _)) (eO (aK xT (aM bF rfl ml PySem.boot_len 0x21) au (aW _))))) (bT (iw ⟨gG (aj (aM bF rfl ml PySem.boot_len 0x21) (aj (pv 2) aq))⟩)) cI)
  (bT (iw ⟨gG (aj au (aj (pv 2) aq))⟩))))),?_⟩
 refine ⟨_,rfl,rfl,_,_,rfl,rfl,0x4,(by have:=cQ (n:=100001) 0x1;lia),fun p hp=>?_⟩;have ew:Txt.split z (Str.ofString "\n")=cJ z:=rfl;rw [ew];have s1:Same H (upd H p (.lst 0x29)):=ao hp _;have p1:(upd H p (.lst 0x29)) p=some (.lst 0x29):=ak;generalize upd H p (.lst 0x29)=H1 at s1 p1 ⊢;dsimp only [dX];refine Od fun d l le H2 s2 hd0 a0B ndl hd2 hle2=>?_;obtain ⟨ls,u,eu⟩:∃ ls u,cJ z=ls++[u]:=by
  rcases List.eq_nil_or_concat (cJ z) with e | ⟨us,u,e⟩
  ·exact absurd e (mZ z)
  ·exact ⟨us,u,by rw [e,List.concat_eq_append]⟩
 have Yj:(cJ z).dropLast=ls:=by rw [eu,List.dropLast_concat]
 have ela:(cJ z).getLastD ""=u:=by rw [eu];exact Wv
 have a0C:(cJ z).length=ls.length+1:=by rw [eu,jA];rfl
 have hd1:H1 d=none:=hd0;have nH1:∀ c o,H1 c=some o->c≠d/\c≠le:=fun c o h=>⟨fun e=>(by rw [e,hd0] at h;cases h),fun e=>(by rw [e,a0B] at h;cases h)⟩;refine ⟨_,rfl,p,_,rfl,.inl (aZ.of (s2 _ _ p1)),1,(0x29).length,rfl,⟨by decide,by decide,by rw [bV];lia,by rw [bV];lia⟩,?_⟩;have en:(((0x29).length:Int) - 1).toNat=ls.length:=by rw [bV,a0C];lia
 rw [en];have lok:∀ t∈ls,t.length<=1000/\jz t:=fun t ht=>by
  have hm:t∈cJ z:=by rw [eu];exact List.mem_append_left _ ht
  exact ⟨hz2 t hm,Br wF hm⟩
 refine iY (lo:=1) (n:=ls.length) (fun i σ Hx=>∃ u3:Option V,σ=[some (.str z),some (.ref p),some (.ref d),u3]/\Same H1 Hx/\AtR ls d le i Hx) ⟨none,rfl,s2,.inl ⟨rfl,⟨_,hd2⟩,hle2⟩⟩ ?_ ?_
 ·rintro i σ Hx hi ⟨u3,rfl,sx,hat⟩;have px:=sx _ _ p1;have hli:ls[i]?=some ls[i]:=dO hi;obtain ⟨t1,t2⟩:=lok _ (List.getElem_mem hi);generalize ls[i]=y at hli t1 t2;have hy:lZ 0x29 (1+(i:Int) - 1)=some (.str y):=by
   rw [show (1+(i:Int) - 1)=(i:Int) by lia]
   refine fH ?_;rw [jT,eu,List.getElem?_append_left hi,hli];rfl
  refine ⟨_,rfl,_,rfl,_,_,rfl,rfl,p,_,_,_,rfl,rfl,aZ.of px,hy,_,rfl,_,rfl,?_⟩;have bad:dU z=.inl (i+1)->∀ Hy,Same Hx Hy->∀ q,Hy q=none->Q (.ref q) (upd Hy q (.tup [.int (1+(i:Int)),.ref d])):=fun hpg Hy sy q hq=>by
   have e1:(1+(i:Int))=((i+1:Nat):Int):=by lia
   rw [e1];exact k0 (i+1) hpg 0x1 q d _ (s1.trans (sx.trans (sy.trans (ao hq _)))) ak
  rcases hat with ⟨rfl,⟨L,hd⟩,hle⟩ | ⟨rfl,r,l0,rest,ps,els,hd,hle,hrr,hh,nrd,Yk⟩ | ⟨h2i,r,l0,l1,rest,a,b,fr,ts,els,hd,hrr,hh0,hh1,hle,hE,hts,Yk,hent⟩
  ·refine .inl ⟨y,_,d,le,L,.int 0,rfl,t1,t2,hd,.inl ⟨rfl,fun hn Hy sy=>?_,fun ps hps r Hy ky hr0 hr1 hdy=>?_⟩⟩
   ·refine ⟨_,rfl,bU ?_⟩;refine ⟨_,rfl,_,rfl,small 0x5,bad (lN (by rw [Yj];exact sJ (.inl ⟨rfl,rfl,rfl⟩) (told:=[]) rfl hli hn)) Hy sy⟩
   ·refine ⟨_,rfl,bZ ?_⟩;obtain ⟨l0,rest,els⟩:∃ l0 rest,ls=l0::rest:=by
     cases ls with
     | nil=>cases hli
     | cons x r=>exact ⟨x,r,rfl⟩
    have ey:l0=y:=by rw [els] at hli;simpa using hli
    have nrd:r≠d:=fun e=>by rw [e,hd] at hr0;cases hr0
    have Yk:r≠le:=fun e=>by rw [e,hle] at hr0;cases hr0
    refine ⟨_,rfl,fun c o ho=>ky c o (nH1 c o ho).1 (sx _ _ ho),.inr (.inl ⟨rfl,r,l0,rest,ps,els,hdy,ky _ _ (Ne.symm ndl) hle,hr1,by rw [ey];exact hps,nrd,Yk⟩)⟩
  ·refine .inl ⟨y,_,d,le,_,.int 0,rfl,t1,t2,hd,.inr ⟨rfl,fun hn Hy sy=>?_,fun fr hfr Hy ky hdy=>?_⟩⟩
   ·refine ⟨_,rfl,bU ?_⟩;refine ⟨_,rfl,_,rfl,small 0x5,bad (lN (by rw [Yj];exact sJ (.inr ⟨rfl,rfl,rfl⟩) (told:=ps) ⟨l0,rest,els,hh⟩ hli hn)) Hy sy⟩
   ·refine ⟨_,rfl,bZ ?_⟩;obtain ⟨l1,rest',er⟩:∃ l1 rest',rest=l1::rest':=by
     cases rest with
     | nil=>rw [els] at hli;simp at hli
     | cons x r=>exact ⟨x,r,rfl⟩
    have els':ls=l0::l1::rest':=by rw [els,er]
    have ey:l1=y:=by rw [els'] at hli;simpa using hli
    obtain ⟨a,b,ep,_⟩:=zB hh;subst ep;refine ⟨_,rfl,fun c o ho=>ky c o (nH1 c o ho).1 (sx _ _ ho),.inr (.inr ⟨Nat.le_refl _,r,l0,l1,rest',a,b,fr,[],els',hdy,ky _ _ nrd hrr,hh,by rw [ey];exact hfr,ky _ _ (Ne.symm ndl) hle,(fun t ht=>by cases ht),rfl,Yk,rfl⟩)⟩
  ·have a0D:ts.length<=100:=by lia
   have hstep:=zE (fr:=fr) (n:=i+1) (acc:=gO ts) hli;refine .inr ⟨y,_,d,le,_,fr,ts,rfl,by lia,t1,t2,hd,hle,hE,a0D,fun hn Hy sy=>?_,fun n row hrow te ra Hy ky hte0 Ol hra his h1n hle'=>?_⟩
   ·refine ⟨_,rfl,bU ?_⟩;refine ⟨_,rfl,_,rfl,small 0x5,bad ?_ Hy sy⟩;rw [zJ (by rw [Yj];exact els) hh0 hh1,Yj,hent,hstep,hn]
   ·refine ⟨_,rfl,bZ ?_⟩;have nre:r≠le:=Yk;refine ⟨_,rfl,fun c o ho=>ky c o (nH1 c o ho).2 (sx _ _ ho),.inr (.inr ⟨by lia,r,l0,l1,rest,a,b,fr,ts++[(n,te,ra,row)],els,ky _ _ ndl hd,ky _ _ nre hrr,hh0,hh1,?_,?_,?_,Yk,?_⟩)⟩
    ·rw [hle',jB];rfl
    ·intro t ht;rcases List.mem_append.mp ht with ht | ht
     ·exact (hE.a2v hle ky) t ht
     ·rw [List.mem_singleton.mp ht];exact ⟨Ol,hra,his,h1n⟩
    ·rw [jA,List.length_singleton];lia
    ·rw [hent,hstep,hrow];have ea:gO (ts++[(n,te,ra,row)])=gO ts++[(n,row)]:=by unfold gO;rw [jB];rfl
     rw [ea]
 ·rintro σ Hx ⟨u3,rfl,sx,hat⟩;have px:=sx _ _ p1;have gx:=s1.trans sx;have a2x:lZ 0x29 (-1)=some (.str u):=by
   rw [eu,jB];exact uZ _ _
  have ret:dU z=.inl (cJ z).length->∀ q,Hx q=none->Q (.ref q) (upd Hx q (.tup [.int ((0x29).length:Int),.ref d])):=fun hpg q hq=>by
   rw [bV];exact k0 _ hpg 0x1 q d _ (gx.trans (ao hq _)) ak
  refine ⟨_,rfl,_,rfl,p,_,_,_,rfl,rfl,aZ.of px,a2x,rfl,_,rfl,?_⟩;rcases hat with ⟨h0,_⟩ | ⟨h1,r,l0,rest,ps,els,hd,hle,hrr,hh,nrd,Yk⟩ | ⟨h2i,r,l0,l1,rest,a,b,fr,ts,els,hd,hrr,hh0,hh1,hle,hE,hts,Yk,hent⟩
  ·have hpg:dU z=.inl (cJ z).length:=by
    have e:ls=[]:=List.length_eq_zero_iff.mp h0;rw [lN (n:=1) (by rw [Yj,e];rfl),a0C,h0]
   refine bG (fun _=>bU ?_) (fun _=>?_)
   ·exact ⟨_,rfl,p,_,rfl,.inl (aZ.of px),_,rfl,small 0x5,ret hpg⟩
   ·refine ⟨_,rfl,p,_,rfl,.inl (aZ.of px),_,_,rfl,rfl,_,rfl,?_⟩;refine bG (fun _=>?_) (fun c=>absurd (decide_eq_true (by rw [bV];lia)) c);exact ⟨_,rfl,p,_,rfl,.inl (aZ.of px),_,rfl,small 0x5,ret hpg⟩
  ·have hpg:dU z=.inl (cJ z).length:=by
    have e:rest=[]:=by
     rw [els,jU] at h1;exact List.length_eq_zero_iff.mp 0x1
    rw [lN (n:=2) (by rw [Yj,els,e,sI,hh]),a0C,h1]
   refine bG (fun _=>bU ?_) (fun _=>?_)
   ·exact ⟨_,rfl,p,_,rfl,.inl (aZ.of px),_,rfl,small 0x5,ret hpg⟩
   ·refine ⟨_,rfl,p,_,rfl,.inl (aZ.of px),_,_,rfl,rfl,_,rfl,?_⟩;refine bG (fun _=>?_) (fun c=>absurd (decide_eq_true (by rw [bV];lia)) c);exact ⟨_,rfl,p,_,rfl,.inl (aZ.of px),_,rfl,small 0x5,ret hpg⟩
  ·have epg:=zJ (z:=z) (by rw [Yj];exact els) hh0 hh1;rw [Yj,hent,List.drop_length] at epg;have TQ:dU z=if (cJ z).getLastD ""="" then .inr ([.int a,.int b,.int fr],gO ts) else .inl (cJ z).length:=epg
   rw [ela] at TQ;refine bG (fun c=>bU ?_) 0x28
   ·have ne:¬ u="":=fun e=>by rw [e] at c;simp at c
    rw [if_neg ne] at TQ;exact ⟨_,rfl,p,_,rfl,.inl (aZ.of px),_,rfl,small 0x5,ret TQ⟩
   ·have e:u="":=by
     by_cases e:u=""
     ·exact e
     ·exact absurd (show (!decide (V.str u=V.str ""))=true by rw [decide_eq_false (fun h=>e (by injection h))];rfl) c
    rw [if_pos e] at TQ;refine ⟨_,rfl,p,_,rfl,.inl (aZ.of px),_,_,rfl,rfl,_,rfl,?_⟩;refine bG (fun c=>absurd (fO c) (by rw [bV];lia)) (fun _=>?_);refine ⟨_,rfl,small 0x5,fun q hq=>?_⟩;have sq:=ao hq (.tup [V.int 0,.ref d]);exact k1 a b fr _ TQ q d r le ts _ (gx.trans sq) ak (sq _ _ hd) (sq _ _ hrr) (sq _ _ hle) (hE.same sq) rfl
end M
namespace L2
open PySem PySem.Spec PyProof.Rows PySem.W
inductive Fw (K:PySem.W.Frag) (R:It->Hp->Prop) (vs:List V) (H1:Hp):Prop
 | mk (l:Addr) (xs:List V) (_:vs=[.ref l]) (_:aZ K H1 l xs) (_:R (Itf K l 0) H1):Fw K R vs H1
def a0E (K:PySem.W.Frag) (ta:TA):TI:=fun σ H R=>ta σ H fun vs H1=>Fw K R vs H1
theorem Fx {a:Expr}{ta:TA} (hg:Gl X "enumerate") (hm:X.mg "enumerate"=none) (ha:PA X [a] ta) (hs:starEach [a] X.env=[(false,eval a X.env)]:=by rfl) :
  PI X (.Tuple elts x1 tp) (.Call (.Name "enumerate" p) [a] [] pos) (a0E X.K ta):=by
 intro pins s σ H R I h;refine Call_ (gC I hg hm iT (PyProof.Rows.callWith_type1 (cT (ha pos pins s σ H _ I h) fun us s1 ⟨vs,H1,I1,r1,q1⟩=>?_) (by rw [hs];rfl) (by rfl)));obtain ⟨l,xs,rfl,hq,q⟩:=q1;obtain ⟨u,rfl,ru⟩:=vals1 r1;cases ru;obtain ⟨its,rv,pl,_⟩:=I1.list hq;refine call_enumerate_list pl.isList fun h' he hit hsz hk=>wpAny_pyIter_enum he ?_;have hne:s1.heap.objs.size+1≠s1.heap.objs.size:=Nat.succ_ne_self _;refine ⟨_,[s1.heap.objs.size+1,s1.heap.objs.size],_,_,H1,rfl,I1.kept (t':=s1.toks) hk,yJ (c:=0) hne,⟨⟨_,he⟩,hit⟩,fun b hb=>?_,q⟩;have hle:s1.heap.objs.size<=b:=by
  simp only [List.mem_cons,List.not_mem_nil,or_false] at hb;rcases hb with rfl | rfl <;> lia
 exact I1.uR hle (I1.hok.fresh hle)
end L2
namespace M
open PySem L2
def em:Str:=Str.ofString ""
theorem zK (h:jl ts<=900000):JoinOk em ts=true:=by
 have e:em.length=0:=by decide +kernel
 have fo:∀ (us:List Str) (n:Nat),us.foldl (fun a p=>a+p.length+em.length) n<=n+jl us:=by
  intro us
  induction us with
  | nil=>intro n;exact Nat.le_refl _
  | cons u r ih =>
   intro n;rw [List.foldl_cons,e];refine Nat.le_trans (ih _) ?_;unfold jl;rw [List.map_cons,List.sum_cons];lia
 unfold JoinOk;rw [List.foldl_toArray']
 ·have:=fo ts 0;unfold Builtin.Str.tooLong;have:=small (n:=900000) 0x1;simp;lia
 ·rfl
structure Pg (L n:Nat) (z:Str):Prop where
 len:(cJ z).length<=L
 le:∀ t∈cJ z,t.length<=n
 asc:jz z
theorem LR (ls:List Str):Txt.join em (ends ls)=Str.join ⟨#[10]⟩ (ls++[("" : Str)]):=by
 have e:Txt.join em (ends ls)=Str.join em (ends ls):=StrLaws.glued_eq_join _ _;rw [e];exact zm ls
theorem Fy (ls:List Str):cJ (Txt.join em (ends ls))=ls.flatMap cJ++[("" : Str)]:=by
 rw [LR,zj 0x5,List.flatMap_append,List.flatMap_cons,List.flatMap_nil,List.append_nil];have:cJ ("" : Str)=[("" : Str)]:=Bs (by show (10:Nat)∉("" : Str).cps.toList;decide +kernel)
 rw [this]
theorem Ma {L:Nat} (h1:(ls.flatMap cJ).length+1<=L) (h2:∀ t∈ls,t.length<=n/\jz t):Pg L n (Txt.join em (ends ls)):=by
 refine ⟨by rw [Fy,jA];exact h1,fun t ht=>?_,fun c hc=>?_⟩
 ·rw [Fy] at ht;rcases List.mem_append.mp ht with ht | ht
  ·obtain ⟨u,hu,hm⟩:=List.mem_flatMap.mp ht;exact Nat.le_trans (a0l hm) (h2 u hu).1
  ·rw [List.mem_singleton.mp ht];exact Nat.zero_le _
 ·rw [LR] at hc;rcases mem_join hc with rfl | ⟨t,ht,hx⟩
  ·decide
  ·rcases List.mem_append.mp ht with ht | ht
   ·exact (h2 t ht).2 c hx
   ·rw [List.mem_singleton.mp ht] at hx;have:("" : Str).cps.toList=[]:=rfl;rw [this] at hx;cases hx
theorem uJ:∀ {ls:List Str},(∀ t∈ls,NF t)->ls.flatMap cJ=ls
 | [],_=>rfl
 | x::r,h=>by rw [List.flatMap_cons,Bs (h x List.mem_cons_self),uJ fun t ht=>h t (lR _ ht)];rfl
theorem wU:∀ ls:List Str,(ls.flatMap cJ).length=ls.length+(ls.map xr).sum
 | []=>rfl
 | x::r=>by
  rw [List.flatMap_cons,jA,uG,wU r,jU,List.map_cons,List.sum_cons];lia
theorem Mf (h:∀ t∈ls,t.length<=n):jl (ends ls)<=(n+2) * ls.length:=by
 induction ls with
 | nil=>exact Nat.le_refl _
 | cons x r ih =>
  have h1:=h x List.mem_cons_self;have h2:=ih fun t ht=>h t (lR _ ht);have e:jl (ends (x::r))=(x.length+1+1)+jl (ends r):=by
   unfold jl ends;rw [List.map_cons,List.map_cons,List.sum_cons,Str.length_append];rfl
  rw [e,jU,Nat.mul_succ];lia
theorem Fz (ls:List Str):ls.map (fun t=>V.str (t++Str.ofString "\n"))=(ends ls).map V.str:=by
 unfold ends;rw [List.map_map]
 apply List.map_congr_left
 intro t _
 show V.str (t++("\n" : Str))=V.str (t++⟨#[10]⟩)
 rw [W4]
theorem TV {n:Int} (h0:0<=n) (h1:n<=9999):(Str.ofString (toString n)).length<=9/\tE (Str.ofString (toString n)) :=
 Y0 (s:=.s) (v:=.int n) (by show (decide (0<=n)&&decide (n<=9999))=true;rw [decide_eq_true h0,decide_eq_true h1];rfl) rfl
abbrev Rw:=Addr×Str×List V
abbrev Et:=Int×Addr×Rw
def xO (H:Hp) (r:Rw):Prop:=H r.1=some (.tup (.str r.2.1::r.2.2))/\oJ r.2.1 r.2.2=true/\(V.str r.2.1::r.2.2).all lD=true
def lO (H:Hp) (t:Et):Prop:=H t.2.1=some (.tup [.int t.1,.ref t.2.2.1])/\xO H t.2.2/\1<=t.1/\t.1<=9999
theorem xO.same {r:Rw} (h:xO H r) (s:Same H H'):xO H' r:=⟨s _ _ h.1,h.2⟩
theorem lO.same {t:Et} (h:lO H t) (s:Same H H'):lO H' t:=⟨s _ _ h.1,h.2.1.same s,h.2.2⟩
theorem FJ (h:∀ c∈z.cps.toList,c<128):PyData.strOk z=true:=by
 unfold PyData.strOk;rw [<- Array.all_toList,List.all_eq_true];intro c hc;have:=h c hc;exact decide_eq_true 0x1
theorem a2y {k:Str}{B:Nat} (h:oJ k rest=true) (R:Row B k rest):(V.str k::rest).all lD=true:=by
 obtain ⟨l,hl,_⟩:=Sg h;have hk:∀ p∈forms,PyData.strOk p.1=true:=by decide +kernel
 rw [List.all_cons,Bool.and_eq_true];refine ⟨hk _ (gZ hl),List.all_eq_true.mpr fun v hv=>?_⟩;rcases R.ok v hv with ⟨n,rfl⟩ | ⟨y,rfl,_,hc⟩
 ·rfl
 ·exact FJ hc
theorem BZ {a b:TS} (Pv:St->Hp->Prop) (h2:∀ σ' H',Pv σ' H'->b D σ' H') (h1:(∀ σ' H',Pv σ' H'->b D σ' H')->a { D with nx:=fun σ' H'=>b D σ' H' } σ H):zU a b D σ H:=h1 h2
theorem TX {b:TS} (h:b D (σ.set i (some v)) H):zU (tQ (tC v) (dX i)) b D σ H:=h
inductive zL (K:PySem.W.Frag) (vs:List V) (H:Hp) (Q:VK):Prop
 | mk (a b:Addr) (fs:List Int) (rs:List M.Rw) (_:vs=[.ref a,.ref b]) (_:aZ K H a (fs.map V.int)) (_:fs.length=240) (_:(∀ v∈fs,Hs v)) (_:H b=some (.lst (rs.map fun r=>V.ref r.1))) (_:(∀ r∈rs,xO H r)) (_:rs.length<=10) (_:∀ (q:Addr) (ts:List Et) (H':Hp),Same H H'->H q=none->H' q=some (.lst (ts.map fun t:Et=>V.ref t.2.1))->(∀ t∈ts,lO H' t/\t.1<=410)->ts.map (·.2.2)=rs->Q (.ref q) H'):zL K vs H Q
def Mg (K:PySem.W.Frag):Sp:=fun vs H Q _=>zL K vs H Q
inductive FN (vs:List V) (H:Hp) (Q:VK):Prop
 | mk (wd rc fr:Int) (e:Addr) (ts:List M.Et) (_:vs=[.int wd,.int rc,.int fr,.ref e]) (_:0<=wd) (_:wd<=9999) (_:0<=rc) (_:rc<=9999) (_:0<=fr) (_:fr<=9999) (_:H e=some (.lst (ts.map fun t:Et=>V.ref t.2.1))) (_:(∀ t∈ts,lO H t)) (_:ts.length<=10) (_:∀ y H',Same H H'->Pg 13 80 y->Q (.str y) H'):FN vs H Q
def TY (K:PySem.W.Frag):Sp:=fun vs H Q _=>FN vs H Q
theorem oA:bB ["_law_feed_here", "_law_rows", "_law_entries", "_law_number_here", "_law_k", "_law_row"] ["_law_feed_here", "_law_rows"] (aC rP):=0x0
theorem U0 (F:iR K "_law_numbered" "_law_numbered" rP f fd) (me:mg "enumerate"=none):bw P w K mg base dF 1 f fd ["_law_feed_here", "_law_rows"] (Mg K):=by
 refine F.ok oA 0xA 0x2
 ·obtain ⟨a,b,fs,rs,rfl,_⟩:=h;rfl
 obtain ⟨a,b,fs,rs,rfl,hS,hlen,hok,hb,hrs,hrl,kk⟩:=h;refine ⟨_,aA (bD (i:=2) oA.nd rfl 0x3 (cX aq))
  (aA (bD (i:=3) oA.nd rfl 0x3 au)
  (aA (gb PassesOwn.never rfl (Fx rfl me 0x21) (fW rfl (aX (aQ (i:=4) oA.nd rfl 0x3) (aX (aQ (i:=5) oA.nd rfl 0x3) cZ)))
   (aA (bD (i:=3) oA.nd rfl 0x3 (aR bN (aR bN (pv 3) au) (bC aL (cX (aj au (aj au (aj au (aj au aq))))) (aR bI (bC aL (pv 0) (aR bN au (pv 4)) jP) au) jP)))
   (aD (dz (dH PySem.F.plainAttrs_list PySem.F.slot_list_append PySem.F.type_list_append cY (pv 2) (aj (gG (aj (pv 3) (aj (pv 5) aq))) aq))))))
  (aD (aU (pv 2))))),?_⟩
 refine ⟨small 0x5,fun q hq=>?_⟩;have s1:Same H (upd H q (.lst [])):=ao hq _;have q1:(upd H q (.lst [])) q=some (.lst []):=ak;generalize upd H q (.lst [])=H1 at s1 q1 ⊢;refine TX ?_;refine ⟨_,rfl,b,_,rfl,aZ.of (s1 _ _ hb),?_⟩;refine lC (n:=rs.length) (fx:=fun i=>V.int ((0+i:Nat):Int)) (fy:=fun i=>(rs.map fun r=>V.ref r.1).getD i .non)
  (fun i σ Hx=>∃ (ts:List Et) (n:Int) (u4 u5:Option V),σ=[some (.ref a),some (.ref b),some (.ref q),some (.int n),u4,u5]/\Same H Hx/\Hx q=some (.lst (ts.map fun t:Et=>V.ref t.2.1))/\(∀ t∈ts,lO Hx t/\t.1<=410)/\ts.map (·.2.2)=rs.take i/\0<=n/\n<=41 * (i:Int)) ?_
  ⟨[],0,none,none,rfl,s1,q1,(fun t ht=>by cases ht),rfl,by decide,by decide⟩ ?_ ?_
 ·rintro i σ Hx ⟨ts,n,u4,u5,rfl,sx,_⟩;have st:=pA (K:=K) (l:=b) (c:=0) (i:=i) (aZ.of (sx _ _ hb));rw [bV] at st;exact st
 ·rintro i σ Hx t hi ⟨ts,n,u4,u5,rfl,sx,hqx,hts,hrw,n0,n1⟩ ht;obtain ⟨r,hri⟩:∃ r,rs[i]?=some r:=⟨rs[i],dO hi⟩;have a0F:(rs.map fun r=>V.ref r.1).getD i .non=V.ref r.1:=by
   rw [iI,jT,hri];rfl
  rw [a0F];have s4:Same Hx (upd Hx t (.tup [V.int ((0+i:Nat):Int),V.ref r.1])):=ao ht _;refine ⟨t,_,rfl,dG.of ak,rfl,_,_,rfl,_,_,rfl,rfl,?_⟩;have t4:=sx.trans s4;have q4:=s4 _ _ hqx;have e4:∀ t∈ts,lO _ t/\t.1<=410:=fun t ht=>⟨(hts t ht).1.same s4,(hts t ht).2⟩;generalize upd Hx t (.tup [V.int ((0+i:Nat):Int),V.ref r.1])=H4 at s4 t4 q4 e4 ⊢;obtain ⟨v,ev,ov⟩:=dY hok (i:=140+((0+i:Nat):Int)) 0x1 0x1;refine ⟨_,rfl,_,_,rfl,rfl,small 0x5,fun c hc=>?_⟩;have s5:Same H4 (upd H4 c (.lst [V.int 0,V.int 0,V.int 1,V.int 40])):=ao hc _;have c5:(upd H4 c (.lst [V.int 0,V.int 0,V.int 1,V.int 40])) c=some (.lst [V.int 0,V.int 0,V.int 1,V.int 40]):=ak;have t5:=t4.trans s5;have q5:=s5 _ _ q4;have e5:∀ t∈ts,lO _ t/\t.1<=410:=fun t ht=>⟨(e4 t ht).1.same s5,(e4 t ht).2⟩;generalize upd H4 c (.lst [V.int 0,V.int 0,V.int 1,V.int 40])=H5 at s5 c5 t5 q5 e5 ⊢;obtain ⟨m,em',m0,m40⟩:∃ m:Int,lZ [V.int 0,V.int 0,V.int 1,V.int 40] (v % 4)=some (V.int m)/\0<=m/\m<=40:=by
   obtain ⟨x,ex,mx⟩:=fK (xs:=[V.int 0,V.int 0,V.int 1,V.int 40]) (i:=v % 4) (Int.emod_nonneg _ 0x8) (Int.emod_lt_of_pos _ 0x8);simp only [List.mem_cons,List.not_mem_nil,or_false] at mx;rcases mx with rfl | rfl | rfl | rfl
   ·exact ⟨_,ex,by decide,by decide⟩
   ·exact ⟨_,ex,by decide,by decide⟩
   ·exact ⟨_,ex,by decide,by decide⟩
   ·exact ⟨_,ex,by decide,by decide⟩
  refine ⟨_,rfl,_,rfl,_,_,rfl,rfl,a,_,_,_,rfl,rfl,t5.seq hS,ev,_,_,rfl,rfl,(by show (0:Int)<4;decide),c,_,_,_,rfl,rfl,aZ.of c5,em',_,_,rfl,rfl,?_⟩
  dsimp only [dX];refine ⟨_,rfl,.inl ⟨rfl,_,aZ.of q5⟩,_,rfl,_,rfl,small 0x5,fun te Ol=>?_⟩;have s6:=ao Ol (.tup [V.int (n+1+m),V.ref r.1]);have nte:q≠te:=aN q5 Ol;have hq0:H q=none:=hq;have tsl:ts.length=i:=by
   have:=congrArg List.length hrw;rw [bV,List.length_take] at this;lia
  refine ⟨q,_,_,rfl,rfl,s6 _ _ q5,by rw [bV];exact cQ 0x1,?_⟩;have sup:∀ o,Same H (upd (upd H5 te (.tup [V.int (n+1+m),V.ref r.1])) q o):=fun o=>aV (t5.trans s6) hq0;have rok:xO H r:=hrs r (lU hri);have neq:∀ c o,H5 c=some o->c≠q->∀ u,(upd (upd H5 te (.tup [V.int (n+1+m),V.ref r.1])) q u) c=some o:=fun c o ho hne u=>by
   rw [aG hne];exact s6 _ _ ho
  have nq_t:∀ {c:Addr}{xs:List V},H5 c=some (.tup xs)->c≠q:=fun h e=>by rw [e,q5] at h;cases h
  refine ⟨ts++[(n+1+m,te,r)],n+1+m,_,_,rfl,sup _,by rw [ak,jB];rfl,fun t ht=>?_,?_,by lia,?_⟩
  ·rcases List.mem_append.mp ht with ht | ht
   ·obtain ⟨⟨a1,⟨a2,a3⟩,a4⟩,a5⟩:=e5 t ht;exact ⟨⟨neq _ _ a1 (nq_t a1) _,⟨neq _ _ a2 (nq_t a2) _,a3⟩,a4⟩,a5⟩
   ·rw [List.mem_singleton.mp ht];have hb10:(i:Int)<=9:=by lia
    refine ⟨⟨by rw [aG (Ne.symm nte)];exact ak,rok.same (sup _),by lia,by lia⟩,by show n+1+m<=410;lia⟩
  ·rw [jB,hrw,List.take_add_one,hri];rfl
  ·show n+1+m<=41 * ((i+1:Nat):Int)
   lia
 ·rintro σ Hx ⟨ts,n,u4,u5,rfl,sx,hqx,hts,hrw,_,_⟩;rw [List.take_length] at hrw;exact ⟨_,rfl,kk q ts Hx sx hq hqx hts hrw⟩
theorem BK:bB ["_law_wide", "_law_rich", "_law_free", "_law_entries", "_law_lines", "_law_number_here", "_law_row"] ["_law_wide", "_law_rich", "_law_free", "_law_entries"] (aC vR):=0x0
def Yl:Scope:={ kind:=.function,names:=[(".0",.local),("_law_line",.local)],isGenerator:=false,isCoroutine:=false }
theorem a2z:fP ["_law_wide", "_law_rich", "_law_free", "_law_entries", "_law_lines", "_law_number_here", "_law_row"] (aC vR) Yl ["_law_line"] [] []:=0x6
theorem Ym:((["_law_line"]:List Str)++([]:List Str)).Nodup:=by decide +kernel
theorem Wx (F:iR K "_law_page" "_law_page" vR f fd) (ms:mg "str"=none)  (G1:bw P w K mg base dF 2 g1 d1 ["_law_row"] (Sq K)) (M1:Ms K mg "_law_text_of" g1 d1 ["_law_row"]):bw P w K mg base dF 3 f fd ["_law_wide", "_law_rich", "_law_free", "_law_entries"] (TY K):=by
 refine F.ok BK 0xA 0x2
 ·obtain ⟨wd,rc,fr,e,ts,rfl,_⟩:=h;rfl
 obtain ⟨wd,rc,fr,e,ts,rfl,w0,w1,r0,r1,f0,f1,he,hts,htl,kk⟩:=h;refine ⟨_,aA (bD (i:=4) BK.nd rfl 0x3 (cX (aj (aR cj (aR cj (aR cj aJ (cO je rfl ms mD (aj (pv 0) aq))) aJ) (cO je rfl ms mD 0x21)) (aj (aR cj aJ (cO je rfl ms mD (aj (pv 2) aq))) aq))))
  (aA (gb PassesOwn.never rfl (iB (pv 3)) (fW rfl (aX (aQ (i:=5) BK.nd rfl 0x3) (aX (aQ (i:=6) BK.nd rfl 0x3) cZ)))
   (aD (dz (dH PySem.F.plainAttrs_list PySem.F.slot_list_append PySem.F.type_list_append cY (pv 4) (aj (aR cj (aR cj (cO je rfl ms mD (aj (pv 5) aq)) aJ) (bA G1 hr rfl M1.m M1.k M1.b .nil bL (aj (pv 6) aq))) aq)))))
  (aD (aU (dH PySem.F.plainAttrs_str PySem.F.slot_str_join PySem.F.type_str_join nD aJ (aj
    (gJ rfl a2z (iB (pv 4)) (fun s H fp C=>⟨aQ (i:=0) Ym rfl 0x3,fJ,aR cj (pv 0) aJ⟩)) aq))))),?_⟩
 obtain ⟨lw,pw'⟩:=TV w0 w1;obtain ⟨lr,pr⟩:=TV r0 r1;obtain ⟨lf,pf⟩:=TV f0 f1;have two:∀ i:Nat,i<=2000->i<=sizeLine:=fun i hi=>small 0x1;have c1:(Str.ofString "land ").length=5:=by decide +kernel
 have c2:(Str.ofString " ").length=1:=by decide +kernel
 have c3:(Str.ofString "free ").length=5:=by decide +kernel
 have P1:tE (Str.ofString "land "):=bH 0x4;have P2:tE (Str.ofString " "):=bH 0x4;have P3:tE (Str.ofString "free "):=bH 0x4;refine BZ (a:=tQ _ _) (fun σ' H1=>∃ (l:Addr) (l0:List Str),σ'=[some (.int wd),some (.int rc),some (.int fr),some (.ref e),some (.ref l),none,none]/\Same H H1/\H l=none/\H1 l=some (.lst (l0.map V.str))/\l0.length=2/\∀ t∈l0,t.length<=80/\tE t) ?_ (fun kn=>?_)
 rotate_left
 ·refine ⟨_,rfl,.inl ⟨wd,rfl,jg w0 w1,_,_,rfl,rfl,two _ ?_,_,_,rfl,rfl,two _ ?_,_,rfl,.inl ⟨rc,rfl,jg r0 r1,_,_,rfl,rfl,two _ ?_,_,rfl,.inl ⟨fr,rfl,jg f0 f1,_,_,rfl,rfl,two _ ?_,small 0x5,fun l hl=>?_⟩⟩⟩⟩
  ·show (Str.ofString "land ").length+(Str.ofString (toString wd)).length<=2000
   lia
  ·show (Str.ofString "land "++Str.ofString (toString wd)).length+(Str.ofString " ").length<=2000
   rw [Str.length_append];lia
  ·show (Str.ofString "land "++Str.ofString (toString wd)++Str.ofString " ").length+(Str.ofString (toString rc)).length<=2000
   rw [Str.length_append,Str.length_append];lia
  ·show (Str.ofString "free ").length+(Str.ofString (toString fr)).length<=2000
   lia
  have ok2:∀ t∈[Str.ofString "land "++Str.ofString (toString wd)++Str.ofString " "++Str.ofString (toString rc),Str.ofString "free "++Str.ofString (toString fr)],t.length<=80/\tE t:=by
   intro t ht;simp only [List.mem_cons,List.not_mem_nil,or_false] at ht;rcases ht with rfl | rfl
   ·exact ⟨by rw [Str.length_append,Str.length_append,Str.length_append];lia,nW (nW (nW P1 pw') P2) pr⟩
   ·exact ⟨by rw [Str.length_append];lia,nW P3 pf⟩
  exact kn _ _ ⟨l,[Str.ofString "land "++Str.ofString (toString wd)++Str.ofString " "++Str.ofString (toString rc),Str.ofString "free "++Str.ofString (toString fr)],rfl,ao hl _,hl,ak,rfl,ok2⟩
 rintro σ' H1 ⟨l,l0,rfl,s1,hl,l1,l02,ok2⟩;refine BZ (a:=MP _ _ _) (fun σ' H2=>∃ (ls:List Str) (u5 u6:Option V),σ'=[some (.int wd),some (.int rc),some (.int fr),some (.ref e),some (.ref l),u5,u6]/\Same H H2/\H2 l=some (.lst (ls.map V.str))/\ls.length<=12/\∀ t∈ls,t.length<=80/\tE t) ?_ (fun kn=>?_)
 rotate_left
 ·refine ⟨_,rfl,e,rfl,⟨_,aZ.of (s1 _ _ he)⟩,?_⟩;refine uU (K:=K) (a:=e) (xs:=ts.map fun t:Et=>V.ref t.2.1) (fun i σ Hx=>∃ (ls:List Str) (u5 u6:Option V),σ=[some (.int wd),some (.int rc),some (.int fr),some (.ref e),some (.ref l),u5,u6]/\Same H Hx/\Hx l=some (.lst (ls.map V.str))/\ls.length=2+i/\∀ t∈ls,t.length<=80/\tE t) ⟨l0,none,none,rfl,s1,l1,l02,ok2⟩ (fun i σ Hx _ ⟨ls,u5,u6,_,sx,_⟩=>aZ.of (sx _ _ he)) ?_ ?_
  ·rintro i x σ Hx hx ⟨ls,u5,u6,rfl,sx,lx,ll,okx⟩;rw [jT] at hx;obtain ⟨t,ht,rfl⟩:=Option.map_eq_some_iff.mp hx;have hi:i<ts.length:=(List.getElem?_eq_some_iff.mp ht).1;obtain ⟨t1,⟨t2,t3,_⟩,t4,t5⟩:=(hts t (lU ht)).same sx;have t4':0<=t.1:=by lia
   obtain ⟨ln,pn⟩:=TV t4' t5;refine ⟨t.2.1,_,rfl,dG.of t1,rfl,_,_,rfl,_,_,rfl,rfl,?_⟩;refine ⟨_,rfl,.inl ⟨rfl,_,aZ.of lx⟩,_,rfl,.inl ⟨t.1,rfl,jg t4' t5,_,_,rfl,rfl,two _ ?_,_,rfl,t.2.2.1,t.2.2.2.1,t.2.2.2.2,rfl,dG.of t2,t3,fun y H4 s4 hy yp=>?_⟩⟩
   ·show (Str.ofString (toString t.1)).length+(Str.ofString " ").length<=2000
    lia
   refine ⟨_,_,rfl,rfl,two _ ?_,l,_,_,rfl,rfl,s4 _ _ lx,by rw [bV];exact cQ 0x1,?_⟩
   ·show (Str.ofString (toString t.1)++Str.ofString " ").length+y.length<=2000
    rw [Str.length_append];lia
   refine ⟨ls++[Str.ofString (toString t.1)++Str.ofString " "++y],_,_,rfl,aV (sx.trans s4) hl,by rw [ak,jB];rfl,by rw [jA,List.length_singleton];lia,fun u hu=>?_⟩;rcases List.mem_append.mp hu with hu | hu
   ·exact okx u hu
   ·rw [List.mem_singleton.mp hu];exact ⟨by rw [Str.length_append,Str.length_append];lia,nW (nW pn P2) yp⟩
  ·rintro σ Hx ⟨ls,u5,u6,rfl,sx,lx,ll,okx⟩;rw [bV] at ll;exact kn _ _ ⟨ls,u5,u6,rfl,sx,lx,by lia,okx⟩
 rintro σ' H2 ⟨ls,u5,u6,rfl,s2,l2,ll,okx⟩;refine ⟨rfl,_,rfl,l,rfl,⟨_,aZ.of l2⟩,fun D hD=>?_⟩;refine gW (K:=K) (a:=l) (xs:=ls.map V.str) (fun i ys H3=>ys=(ls.take i).map (fun t=>V.str (t++Str.ofString "\n"))/\Same H2 H3/\H3 D=some (.lst ys)) (fun i ys H3 h=>aZ.of (h.2.1 _ _ l2)) ⟨rfl,ao hD _,ak⟩ (fun i ys H3 h=>h.2.2) ?_ ?_
 ·rintro i ys H3 x hx ⟨rfl,s3,Cr⟩;rw [jT] at hx;obtain ⟨t,ht,rfl⟩:=Option.map_eq_some_iff.mp hx;have tl:=(okx t (lU ht)).1;refine 0x2E;refine dN ?_;refine ⟨_,rfl,_,_,rfl,rfl,two _ ?_,Cr,?_,?_,aV s3 hD,ak⟩
  ·have:(Str.ofString "\n").length=1:=by decide +kernel
   show t.length+(Str.ofString "\n").length<=2000
   lia
  ·rw [bV,List.length_take];exact cQ 0x1
  ·rw [List.take_add_one,ht,jB];rfl
 ·rintro ys H3 ⟨rfl,s3,Cr⟩;rw [bV,List.take_of_length_le 0x9,Fz] at Cr;have nfs:∀ t∈ls,NF t:=fun t ht=>(okx t ht).2.nf;refine ⟨_,D,ends ls,rfl,rfl,aZ.of Cr,zK ?_,kk _ _ (s2.trans s3) (Ma (by rw [uJ nfs];lia) fun t ht=>⟨(okx t ht).1,(okx t ht).2.asc⟩)⟩;have:=Mf (ls:=ls) (n:=80) fun t ht=>(okx t ht).1;have:(80+2) * ls.length<=82 * 12:=Nat.mul_le_mul 0x8 ll;lia
end M
namespace L2
open PySem PySem.Spec PyProof.Rows PySem.W
structure WG (X:Cx) (tg:Expr) (g:TG):Prop where
 h:PG X tg g
section
variable {a b c:Expr}{op:Operator}{q:Pos}{ti:TE}
theorem Wy {f:Expr}{as:List Expr}{ks:List Keyword} (ha:WE X (.Call f as ks p) te) (hr:WA X es t):WA X (.Call f as ks p::es) (gR te t):=⟨aj ha.h hr.h⟩
theorem a0G (h:WA X es t):WE X (.Tuple es x1 p) (tTup t):=⟨gG h.h⟩
theorem a0H (ha:WE X a ta):WE X (.UnaryOp .USub a p) (tUn (rU fun i=>.int (-i)) ta):=⟨sS m8 ha.h⟩
theorem wV {ts:Uv} (ho:WE X a to) (hi:WE X b ti) (hs:Yz X ts) (ha:∀ v,assign (.Subscript a b pos) X.env v=(do
   let ov <- holding [v] (eval a X.env)
   let iv <- holding [v,ov] (eval b X.env)
   standAt pos
   holding [v,ov,iv] (setItem ov iv v)
   release [v,ov,iv] []):=by intro _;rfl):WG X (.Subscript a b pos) (gSub to ti ts):=⟨OJ ho.h hi.h hs ha⟩
theorem a0I {k:Nat}{i1 i2:Expr}{o1 o2:Expr}{q1 q2:Pos}{g1 g2:TG} (hc:X.calm=true) (h1:WG X (.Subscript o1 i1 q1) g1) (h2:WG X (.Subscript o2 i2 q2) g2):WG X (.Tuple [.Subscript o1 i1 q1,.Subscript o2 i2 q2] k pos) (YB X.K 2 (Oz g1 (Oz g2 gNil))):=⟨fW hc (aX h1.h (aX h2.h cZ))⟩
theorem BL (he:WE X e te) (hg:WG X tg g) (hs:swapsWithSole [tg] e pos.line X.env=pure false:=by rfl) (hw:swappedStores [tg] e X.env=pure none:=by rfl)
  (h1:(assignEach [tg] X.env).map (·.2)=[assign tg X.env]:=by rfl):WS X (.Assign [tg] e pos) (tQ te g):=⟨m6 he.h hg.h hs hw h1⟩
theorem zM (ho:WE X (.Subscript a b p2) to) (hbase:attributeBase (.Subscript a b p2) "split" X.env (eval (.Subscript a b p2) X.env)=eval (.Subscript a b p2) X.env) (hline:(apos.endLine==cpos.line)=true):WE X (.Call (.Attribute (.Subscript a b p2) "split" apos) [.Constant (.str x) j p] [] cpos) (YS X.K "str" Hj to (gR (tC (.str x)) oG)) :=
 ⟨dH (name:="split") PySem.F.plainAttrs_str PySem.F.slot_str_split PySem.F.type_str_split gM ho.h (HY aJ aq) hbase rfl hline⟩
theorem Wz (hg:Gl X "str") (hm:X.mg "str"=none) (ha:WE X (.BinOp a op b p) te):WE X (.Call (.Name "str" q) [.BinOp a op b p] [] pos) (tCB rStr (gR te oG)):=⟨cO je hg hm mD (RW ha.h aq)⟩
theorem U3 {k:Nat}{E:XK}{a2 b2:Expr}{te2:TE} (F:bw X.prog X.w X.K X.mg X.base CX k f fd ps sp) (hr:fM k X.A) (hg:Gl X x) (hm:X.mg x=some (.ref f)) (hk:PySem.W.keepIn X.K (.ref f)=true) (hb:Binds X.K fd ps []) (hx:Passes CX X E)
  (ha:WE X (.Subscript a b p) te) (ha2:WE X (.Subscript a2 b2 p2) te2) (hdb:0x17=false:=by decide):WE X (.Call (.Name x p1) [.Subscript a b p,.Subscript a2 b2 p2] [] pos) (Jq sp [] E (gR te (gR te2 oG))):=⟨bA F hr hg hm hk hb .nil hx (Bl ha.h (Bl ha2.h aq)) hdb⟩
theorem a0J {i:Int}{jj:Nat}{A B:List Stmt}{ts us:TS} (ho:kZ X (compareOp .Gt) r) (hv:WE X (.Name x p1) tv) (ha:Eo X A ts) (hb:Eo X B us):WS X (.If (.Compare (.Name x p1) [.Gt] [.Constant (.int i) jj p2] p3) A B pos) (oW (Jo (Xb r tv (tC (.int i)))) ts us) :=
 ⟨bJ (aK ho hv.h au (aW _)) ha.h hb.h⟩
theorem wW:qj (.Name x p):=fun _ _=>rfl
end
end L2
namespace M
open PySem L2
theorem qU {fs:List Int}{i:Int} (hi:i=(j:Int)) (h:j<=fs.length):jY (fs.map V.int) (some i) none=(fs.drop j).map V.int:=by
 rw [hi]
 show aO (fs.map V.int) (some (j:Int)) none=_
 rw [rY (by rw [bV];exact h),List.map_drop]
structure Ln (n:Nat) (t:Str):Prop where
 le:t.length<=n
 asc:jz t
 nf:NF t
def Good (N n:Nat) (ls:List Str):Prop:=(ls.flatMap cJ).length<=2 * N+1/\ls.length<=2 * N+1/\∀ t∈ls,t.length<=3 * n+30/\jz t
theorem oE {N:Nat} (h:∀ t∈ls,Ln (3 * n+30) t) (hl:ls.length<=2 * N+1):Good N n ls :=
 ⟨by rw [uJ fun t ht=>(h t ht).nf];exact hl,hl,fun t ht=>⟨(h t ht).le,(h t ht).asc⟩⟩
theorem Mh:∀ {ls:List Str}{j:Nat}{y:Str},(∀ t∈ls,NF t)->((ls.set j y).map xr).sum<=xr y
 | [],_,y,_=>Nat.zero_le _
 | x::r,0,y,h=>by
  have:(r.map xr).sum=0:=by
   have h2:∀ t∈r,NF t:=fun t ht=>h t (lR _ ht);have e:=wU r;rw [uJ h2] at e;lia
  show ((y::r).map xr).sum<=xr y
  rw [List.map_cons,List.sum_cons,this];exact Nat.le_refl _
 | x::r,j+1,y,h=>by
  have ih:=Mh (j:=j) (y:=y) fun t ht=>h t (lR _ ht)
  show ((x::r.set j y).map xr).sum<=xr y
  rw [List.map_cons,List.sum_cons,pL (h x List.mem_cons_self)];lia
inductive Yn (z:Str) (a:Addr) (at_ ot way:Int) (ls:List Str) (n:Nat) (H:Hp) (k:Int) (σ':L2.St) (H':Hp):Prop
 | mk (q:Addr) (ls':List Str) (u6 u7:Option V) (_:σ'=[some (.str z),some (.ref a),some (.ref q),some (.int at_),some (.int ot),some (.int way),u6,u7]) (_:Same H H') (_:H q=none) (_:H' q=some (.lst (ls'.map V.str))) (_:((k<=way/\ls'=ls)\/(way<k/\Good ls.length n ls'))):Yn z a at_ ot way ls n H k σ' H'
def Yo (z:Str) (a:Addr) (at_ ot way:Int) (ls:List Str) (n:Nat) (H:Hp) (k:Int) (σ':St) (H':Hp):Prop :=
 Yn z a at_ ot way ls n H k σ' H'
theorem pN {way k:Int}{ls':List Str} (c:¬ decide (V.int way=V.int k)=true) (h:(k<=way/\ls'=ls)\/(way<k/\Good ls.length n ls')):(k+1<=way/\ls'=ls)\/(way<k+1/\Good ls.length n ls'):=by
 have ne:¬ way=k:=fun e=>c (by rw [e];exact decide_eq_true rfl);rcases h with ⟨h1,h2⟩ | ⟨h1,h2⟩
 ·exact .inl ⟨by lia,h2⟩
 ·exact .inr ⟨by lia,h2⟩
theorem pO {way k:Int}{ls':List Str} (c:decide (V.int way=V.int k)=true) (h:(k<=way/\ls'=ls)\/(way<k/\Good ls.length n ls')):way=k/\ls'=ls:=by
 have e:way=k:=by
  have:=fO c;injection this
 rcases h with ⟨h1,h2⟩ | ⟨h1,h2⟩
 ·exact ⟨e,h2⟩
 ·lia
inductive zN (K:PySem.W.Frag) (vs:List V) (H:Hp) (Q:VK):Prop
 | mk (z:Str) (a:Addr) (ds:List Int) (L n:Nat) (_:vs=[.str z,.ref a]) (_:aZ K H a (ds.map V.int)) (_:6<=ds.length) (_:(∀ v∈ds,Hs v)) (_:Pg L n z) (_:2<=(cJ z).length) (_:L<=30) (_:n<=300) (_:∀ y H',Same H H'->Pg (2 * L) (3 * n+30) y->Q (.str y) H'):zN K vs H Q
def Mi (K:PySem.W.Frag):Sp:=fun vs H Q _=>zN K vs H Q
theorem nj (ls:List Str) (j:Nat) (y:Str):(ls.map V.str).set j (V.str y)=(ls.set j y).map V.str:=by rw [List.map_set]
theorem U4 (xs:List Str):aO xs none (some (-1))=xs.dropLast:=by
 unfold aO;have e1:HT.fG xs.length 0 none=0:=rfl;have e2:HT.fG xs.length xs.length (some (-1))=xs.length - 1:=by
  have:=HT.zX (-1) xs.length xs.length;rw [if_pos 0x8] at this;lia
 rw [e1,e2,List.drop_zero,Nat.sub_zero,List.dropLast_eq_take]
theorem a0K {L:Nat} (h:Pg L n z) (h1:1<=z.length):Pg (2 * L) (3 * n+30) (dR (aO z.cps.toList none (some ((z.length:Int) - 1)))):=by
 have e:((z.length:Nat):Int) - 1=((z.length - 1:Nat):Int):=by lia
 rw [e,Ax (by rw [<- jt];lia)];have ez:dR (z.cps.toList.take (z.length - 1))++dR (z.cps.toList.drop (z.length - 1))=z:=S8 (by rw [app_list,List.take_append_drop]);have hp:=W6 (dR (z.cps.toList.take (z.length - 1))) (dR (z.cps.toList.drop (z.length - 1))) (n:=n) (by rw [ez];exact h.le);rw [ez] at hp;have:=h.len;refine ⟨by lia,fun t ht=>by have:=hp.2 t ht;lia,fun c hc=>h.asc c (List.mem_of_mem_take hc)⟩
theorem Ii {L:Nat} (h:Pg L n z) (hL:L<=60) (hn:n<=1000):z.length<=100000:=by
 have e:=S9 z;have b:∀ (ls:List Str),(∀ t∈ls,t.length<=n)->jl ls<=(n+1) * ls.length:=by
  intro ls
  induction ls with
  | nil=>intro _;exact Nat.le_refl _
  | cons x r ih =>
   intro hh;have h1:=hh x List.mem_cons_self;have h2:=ih fun t ht=>hh t (lR _ ht);unfold jl at h2 ⊢;rw [List.map_cons,List.sum_cons,jU,Nat.mul_succ];lia
 have h1:=b _ h.le;have h2:(n+1) * (cJ z).length<=1001 * 60:=Nat.mul_le_mul 0x1 (Nat.le_trans h.len hL);lia
theorem tY:bB ["_law_text", "_law_d", "_law_lines", "_law_at", "_law_other", "_law_way", "_law_words", "_law_some"] ["_law_text", "_law_d"] (aC pG):=0x0
theorem a2A:fP ["_law_text", "_law_d", "_law_lines", "_law_at", "_law_other", "_law_way", "_law_words", "_law_some"] (aC pG) Yl ["_law_line"] [] []:=0x6
theorem U5 (F:iR K "_law_bent_page" "_law_bent_page" pG f fd) (ml:mg "len"=none) (ms:mg "str"=none)  (G1:bw P w K mg base dF 2 g1 d1 ["_law_text", "_law_d"] (Sd K)) (M1:Ms K mg "_law_bent_text" g1 d1 ["_law_text", "_law_d"]):bw P w K mg base dF 3 f fd ["_law_text", "_law_d"] (Mi K):=by
 refine F.ok tY 0xA 0x2
 ·obtain ⟨z,a,ds,L,n,rfl,_⟩:=h;rfl
 obtain ⟨z,a,ds,L,n,rfl,hS,h6,hok,hz,hz2,hL,hn,kk⟩:=h;refine Eo.out ⟨_,aP (cR (i:=2) tY.nd rfl 0x3 (eZ bQ (wH (wv 0) rfl rfl) cM (cB (a0H cu))))
  (aP (cR (i:=3) tY.nd rfl 0x3 (bR bI (eG aL (wv 1) cu bW) (qP rfl ml (wv 2))))
  (aP (cR (i:=4) tY.nd rfl 0x3 (bR bI (eG aL (wv 1) cu bW) (qP rfl ml (wv 2))))
  (aP (cR (i:=5) tY.nd rfl 0x3 (bR bI (eG aL (wv 1) cu bW) cu))
  (aP (gk cA (wv 5) (bT (iw (eZ lg (wv 0) cM (cB (bR oX (KZ rfl ml (wv 0)) cu))))) cI)
  (aP (gk cA (wv 5) (bT (BL (a0G (mY (eG aL (wv 2) (wv 4) wW) (mY (eG aL (wv 2) (wv 3) wW) jQ))) (a0I rfl (wV (wv 2) (wv 3) set_list) (wV (wv 2) (wv 4) set_list)))) cI)
  (aP (gk cA (wv 5) (bT (cR (i:=2) tY.nd rfl 0x3 (bR gH (eZ bQ (wv 2) cM (cB (wv 3))) (eZ bQ (wv 2) (cB (bR bN (wv 3) cu)) cM)))) cI)
  (aP (gk cA (wv 5) (bT (cR (i:=2) tY.nd rfl 0x3 (bR gH (bR gH (eZ bQ (wv 2) cM (cB (wv 3))) (lM (mY (eG aL (wv 2) (wv 4) wW) jQ))) (eZ bQ (wv 2) (cB (wv 3)) cM)))) cI)
  (aP (gk cA (wv 5) (bT (cR (i:=2) tY.nd rfl 0x3 (eZ bQ (wv 2) cM (cB (wv 3))))) cI)
  (aP (gk cA (wv 5) (bT (cR (i:=2) tY.nd rfl 0x3 (bR gH (bR gH (eZ bQ (wv 2) cM (cB (wv 3))) (lM (cG cF jQ))) (eZ bQ (wv 2) (cB (wv 3)) cM)))) cI)
  (aP (gk cA (wv 5) (aP (cR (i:=6) tY.nd rfl 0x3 (zM (eG aL (wv 2) (wv 3) wW) rfl rfl))
   (aP (cR (i:=7) tY.nd rfl 0x3 (lM (cG cF (cG cF (cG cF (cG cF (cG cF (cG cF (cG cF (cG cF (cG cF (Wy (Wz rfl ms (bR bI (eG aL (wv 1) cu bW) cu)) jQ))))))))))))
   (bT (BL (qQ (bR gH (lM (mY (eG aL (wv 6) cu bW) (mY (eG aL (wv 7) (bR bI (eG aL (wv 1) cu bW) cu) jP) jQ))) (eZ bQ (wv 6) (cB cu) cM)) rfl) (wV (wv 2) (wv 3) set_list))))) cI)
  (aP (gk cA (wv 5) (aP (cR (i:=6) tY.nd rfl 0x3 (zM (eG aL (wv 2) (wv 3) wW) rfl rfl))
   (bT (BL (qQ (bR gH (lM (mY (eG aL (lM (cG cF (cG cF (cG cF (cG cF (cG cF (cG cF (cG cF (cG cF jQ))))))))) (bR bI (eG aL (wv 1) cu bW) cu) jP) jQ)) (eZ bQ (wv 6) (cB cu) cM)) rfl) (wV (wv 2) (wv 3) set_list)))) cI)
  (aP (a0J uV (wv 5) (bT (BL (U3 G1 hr rfl M1.m M1.k M1.b bL (eG aL (wv 2) (wv 3) wW) (eZ bQ (wv 1) (cB cu) cM)) (wV (wv 2) (wv 3) set_list))) cI)
  (bT (WS.mk (aU (dH PySem.F.plainAttrs_str PySem.F.slot_str_join PySem.F.type_str_join nD aJ (aj
    (gJ rfl a2A (iB (pv 2)) (fun s H fp C=>⟨aQ (i:=0) Ym rfl 0x3,fJ,aR cj (pv 0) aJ⟩)) aq))))))))))))))))),?_⟩
 have zl:z.length<=100000:=Ii hz 0x1 0x1;have zs:z.length<=sizeLine:=small 0x1;have z1:1<=z.length:=by
  have e1:=uG z;have e2:=S6 z;lia
 have two:∀ i:Nat,i<=2000->i<=sizeLine:=fun i hi=>small 0x1;obtain ⟨v0,e0,o0⟩:=dY hok (i:=0) 0x8 0x1;obtain ⟨v1,e1,o1⟩:=dY hok (i:=1) 0x8 0x1;obtain ⟨v2,e2,o2⟩:=dY hok (i:=2) 0x8 0x1;obtain ⟨v3,e3,o3⟩:=dY hok (i:=3) 0x8 0x1;refine ⟨_,rfl,rfl,_,_,rfl,rfl,0x4,(by have:=small (n:=200000) 0x1;lia),fun p hp=>?_⟩;rw [show Txt.split z (Str.ofString "\n")=cJ z from rfl]
 have s1:Same H (upd H p (.lst 0x29)):=ao hp _;have p1:(upd H p (.lst 0x29)) p=some (.lst 0x29):=ak;generalize upd H p (.lst 0x29)=H1 at s1 p1 ⊢;refine ⟨_,rfl,_,rfl,p,_,rfl,aZ.of p1,fun q0 hq0=>?_⟩;rw [cW,U4];have hls:∀ t∈(cJ z).dropLast,Ln n t:=fun t ht=>by
  have hm:=List.dropLast_subset _ ht;exact ⟨hz.le t hm,Br hz.asc hm,sG hm⟩
 have hN:(cJ z).dropLast.length+1<=L:=by
  have:=hz.len;rw [List.length_dropLast];lia
 have hN1:1<=(cJ z).dropLast.length:=by rw [List.length_dropLast];lia
 generalize (cJ z).dropLast=ls at hls hN hN1 ⊢;have s2:Same H (upd H1 q0 (.lst (ls.map V.str))):=s1.trans (ao hq0 _);have q2:(upd H1 q0 (.lst (ls.map V.str))) q0=some (.lst (ls.map V.str)):=ak;have q0n:H q0=none:=s1.free hq0;generalize upd H1 q0 (.lst (ls.map V.str))=H2 at s2 q2 ⊢;have S2:=s2.seq hS;have xP:(0:Int)<((ls.map V.str).length:Int):=by rw [bV];lia
 have a0:=Int.emod_nonneg v1 (Int.ne_of_gt xP);have a1:=Int.emod_lt_of_pos v1 xP;refine ⟨_,rfl,a,_,_,_,rfl,rfl,S2,e1,_,rfl,q0,_,rfl,.inl (aZ.of q2),_,_,rfl,rfl,xP,?_⟩;dsimp only [dX];generalize v1 % ((ls.map V.str).length:Int)=at_ at a0 a1 ⊢;have b0:=Int.emod_nonneg v2 (Int.ne_of_gt xP);have b1:=Int.emod_lt_of_pos v2 xP;refine ⟨_,rfl,a,_,_,_,rfl,rfl,S2,e2,_,rfl,q0,_,rfl,.inl (aZ.of q2),_,_,rfl,rfl,xP,?_⟩;dsimp only [dX];generalize v2 % ((ls.map V.str).length:Int)=ot at b0 b1 ⊢;have w0:=Int.emod_nonneg v0 (show (10:Int)≠0 by decide)
 have w1:=Int.emod_lt_of_pos v0 (show (0:Int)<10 by decide)
 refine ⟨_,rfl,a,_,_,_,rfl,rfl,S2,e0,_,_,rfl,rfl,(by show (0:Int)<10;decide),?_⟩
 dsimp only [dX];generalize v0 % 10=way at w0 w1 ⊢;obtain ⟨ya,eya,mya⟩:∃ y:Str,lZ (ls.map V.str) at_=some (.str y)/\y∈ls:=by
  obtain ⟨v,e,m⟩:=fK a0 a1;obtain ⟨t,ht,rfl⟩:=List.mem_map.mp m;exact ⟨t,e,ht⟩
 obtain ⟨yo,eyo,myo⟩:∃ y:Str,lZ (ls.map V.str) ot=some (.str y)/\y∈ls:=by
  obtain ⟨v,e,m⟩:=fK b0 b1;obtain ⟨t,ht,rfl⟩:=List.mem_map.mp m;exact ⟨t,e,ht⟩
 have ia:Gw (ls.map V.str).length at_=some at_.toNat:=by unfold Gw;rw [if_pos a0,if_pos a1]
 have io:Gw (ls.map V.str).length ot=some ot.toNat:=by unfold Gw;rw [if_pos b0,if_pos b1]
 have up:∀ {t:Str},Ln n t->Ln (3 * n+30) t:=fun h=>⟨by have:=h.le;lia,h.asc,h.nf⟩;have Ij:∀ lo hi,∀ t∈aO ls lo hi,Ln (3 * n+30) t:=fun lo hi t ht=>up (hls t (jm ht));have pP:∀ lo hi,(aO ls lo hi).length<=ls.length:=fun lo hi=>tu _ _ _;have setm:∀ {j:Nat}{y:Str},Ln (3 * n+30) y->Good ls.length n (ls.set j y):=fun {j y} hy=>oE (fun t ht=>by
  rcases List.mem_or_eq_of_mem_set ht with h | h
  ·exact up (hls t h)
  ·rw [h];exact hy) (by rw [List.length_set];lia)
 have Mj:=hls ya mya;refine BZ (a:=oW _ _ _) (Yo z a at_ ot way ls n H 1) ?_ (fun kn=>?_)
 rotate_left
 ·refine 0xB;refine bG 0x28 0x28
  ·exact ⟨_,rfl,_,rfl,z,rfl,zs,_,_,rfl,rfl,_,rfl,z,rfl,zs,kk _ _ s2 (a0K hz z1)⟩
  ·exact kn _ _ ⟨q0,ls,none,none,rfl,s2,q0n,q2,.inl ⟨by
    have ne:¬ way=0:=fun e=>c (by rw [e];exact decide_eq_true rfl);lia,rfl⟩⟩
 rintro σ' Hx ⟨q,ls',u6,u7,rfl,sx,qn,hq,hw⟩;refine BZ (a:=oW _ _ _) (Yo z a at_ ot way ls n H 2) ?_ (fun kn=>?_)
 rotate_left
 ·refine 0xB;refine bG 0x28 0x22;obtain ⟨ew,el⟩:=pO c hw;rw [el] at hq;refine ⟨_,rfl,_,rfl,q,_,_,_,rfl,rfl,aZ.of hq,eyo,_,rfl,_,rfl,q,_,_,_,rfl,rfl,aZ.of hq,eya,small 0x5,fun t ht=>?_⟩;have ss:=ao ht (.tup [V.str yo,V.str ya]);have tn:(upd Hx t (.tup [V.str yo,V.str ya])) t=some (.tup [V.str yo,V.str ya]):=ak;have qs:=ss _ _ hq;have sn:=sx.trans ss;generalize upd Hx t (.tup [V.str yo,V.str ya])=H3 at tn qs sn ⊢;have jo:Gw ((ls.map V.str).set at_.toNat (V.str yo)).length ot=some ot.toNat:=by rw [List.length_set];exact io
  refine ⟨t,_,rfl,dG.of tn,rfl,_,_,rfl,_,rfl,_,rfl,q,_,_,_,rfl,rfl,qs,ia,_,_,rfl,_,rfl,_,rfl,q,_,_,_,rfl,rfl,ak,jo,rfl,?_⟩;refine kn _ _ ⟨q,(ls.set at_.toNat yo).set ot.toNat ya,_,_,rfl,aV (aV sn qn) qn,qn,?_,.inr ⟨by lia,oE (fun t ht=>?_) (by rw [List.length_set,List.length_set];lia)⟩⟩
  ·rw [ak,nj,nj]
  ·rcases List.mem_or_eq_of_mem_set ht with h | h
   ·rcases List.mem_or_eq_of_mem_set h with h | h
    ·exact up (hls t h)
    ·rw [h];exact up (hls yo myo)
   ·rw [h];exact up Mj
 rintro σ' Hx ⟨q,ls',u6,u7,rfl,sx,qn,hq,hw⟩;refine BZ (a:=oW _ _ _) (Yo z a at_ ot way ls n H 3) ?_ (fun kn=>?_)
 rotate_left
 ·refine 0xB;refine bG 0x28 0x22;obtain ⟨ew,el⟩:=pO c hw;rw [el] at hq;refine ⟨_,rfl,_,rfl,_,rfl,q,_,rfl,aZ.of hq,fun c1 hc1=>?_⟩;rw [cW];have ss:=ao hc1 0x13;have FP:(upd Hx c1 0x13) c1=some 0x13:=ak;have hq1:=ss _ _ hq;have t1:=sx.trans ss;clear ss;generalize upd Hx c1 0x13=H3 at FP hq1 t1 ⊢;refine ⟨_,rfl,_,rfl,_,_,rfl,rfl,_,rfl,q,_,rfl,aZ.of hq1,fun c2 hc2=>?_⟩;rw [cW];have ss:=ao hc2 (.lst ((aO ls (some (at_+1)) none).map V.str));have Ml:(upd H3 c2 (.lst ((aO ls (some (at_+1)) none).map V.str))) c2=some (.lst ((aO ls (some (at_+1)) none).map V.str)):=ak;have Gf:=ss _ _ FP;have t2:=t1.trans ss;clear ss;generalize upd H3 c2 (.lst ((aO ls (some (at_+1)) none).map V.str))=H4 at Ml Gf t2 ⊢;refine ⟨c1,c2,_,_,rfl,rfl,Gf,Ml,two _ (by rw [bV,bV];have:=pP none 0x25;have:=pP (some (at_+1)) none;lia),fun c3 hc3=>?_⟩;rw [<- jB];refine kn _ _ ⟨c3,aO ls none 0x25++aO ls (some (at_+1)) none,_,_,rfl,t2.trans (ao hc3 _),t2.free hc3,ak,.inr ⟨by lia,oE (fun t ht=>(List.mem_append.mp ht).elim (Ij _ _ t) (Ij _ _ t)) (by rw [jA];have:=pP none 0x25;have:=pP (some (at_+1)) none;lia)⟩⟩
 rintro σ' Hx ⟨q,ls',u6,u7,rfl,sx,qn,hq,hw⟩;refine BZ (a:=oW _ _ _) (Yo z a at_ ot way ls n H 4) ?_ (fun kn=>?_)
 rotate_left
 ·refine 0xB;refine bG 0x28 0x22;obtain ⟨ew,el⟩:=pO c hw;rw [el] at hq;refine ⟨_,rfl,_,rfl,_,rfl,q,_,rfl,aZ.of hq,fun c1 hc1=>?_⟩;rw [cW];have ss:=ao hc1 0x13;have FP:(upd Hx c1 0x13) c1=some 0x13:=ak;have hq1:=ss _ _ hq;have t1:=sx.trans ss;clear ss;generalize upd Hx c1 0x13=H3 at FP hq1 t1 ⊢;refine ⟨_,rfl,_,rfl,q,_,_,_,rfl,rfl,aZ.of hq1,eyo,small 0x5,fun c2 hc2=>?_⟩;have ss:=ao hc2 (.lst ([V.str yo]));have Ml:(upd H3 c2 (.lst ([V.str yo]))) c2=some (.lst ([V.str yo])):=ak;have Gf:=ss _ _ FP;have hq2:=ss _ _ hq1;have t2:=t1.trans ss;clear ss;generalize upd H3 c2 (.lst ([V.str yo]))=H4 at Ml Gf hq2 t2 ⊢;refine ⟨c1,c2,_,_,rfl,rfl,Gf,Ml,two _ (by rw [bV,List.length_singleton];have:=pP none 0x25;lia),fun c3 hc3=>?_⟩;have em3:(aO ls none 0x25).map V.str++[V.str yo]=(aO ls none 0x25++[yo]).map V.str:=by rw [jB];rfl
  rw [em3];have ss:=ao hc3 (.lst ((aO ls none 0x25++[yo]).map V.str));have U6:(upd H4 c3 (.lst ((aO ls none 0x25++[yo]).map V.str))) c3=some (.lst ((aO ls none 0x25++[yo]).map V.str)):=ak;have NP:=ss _ _ hq2;have t3:=t2.trans ss;clear ss;generalize upd H4 c3 (.lst ((aO ls none 0x25++[yo]).map V.str))=H5 at U6 NP t3 ⊢;refine ⟨_,rfl,_,rfl,_,rfl,q,_,rfl,aZ.of NP,fun c4 hc4=>?_⟩;rw [cW];have ss:=ao hc4 (.lst ((aO ls 0x25 none).map V.str));have U7:(upd H5 c4 (.lst ((aO ls 0x25 none).map V.str))) c4=some (.lst ((aO ls 0x25 none).map V.str)):=ak;have U8:=ss _ _ U6;have t4:=t3.trans ss;clear ss;generalize upd H5 c4 (.lst ((aO ls 0x25 none).map V.str))=H6 at U7 U8 t4 ⊢;refine ⟨c3,c4,_,_,rfl,rfl,U8,U7,two _ (by rw [bV,bV,jA,List.length_singleton];have:=pP none 0x25;have:=pP 0x25 none;lia),fun c5 hc5=>?_⟩;rw [<- jB];refine kn _ _ ⟨c5,aO ls none 0x25++[yo]++aO ls 0x25 none,_,_,rfl,t4.trans (ao hc5 _),t4.free hc5,ak,.inr ⟨by lia,oE (fun t ht=>?_) (by rw [jA,jA,List.length_singleton];have:=pP none 0x25;have:=pP 0x25 none;lia)⟩⟩;rcases List.mem_append.mp ht with ht | ht
  ·rcases List.mem_append.mp ht with ht | ht
   ·exact Ij _ _ t ht
   ·rw [List.mem_singleton.mp ht];exact up (hls yo myo)
  ·exact Ij _ _ t ht
 rintro σ' Hx ⟨q,ls',u6,u7,rfl,sx,qn,hq,hw⟩;refine BZ (a:=oW _ _ _) (Yo z a at_ ot way ls n H 5) ?_ (fun kn=>?_)
 rotate_left
 ·refine 0xB;refine bG 0x28 0x22;obtain ⟨ew,el⟩:=pO c hw;rw [el] at hq;refine ⟨_,rfl,_,rfl,_,rfl,q,_,rfl,aZ.of hq,fun c1 hc1=>?_⟩;rw [cW];exact kn _ _ ⟨c1,aO ls none 0x25,_,_,rfl,sx.trans (ao hc1 _),sx.free hc1,ak,.inr ⟨by lia,oE (Ij _ _) (by have:=pP none 0x25;lia)⟩⟩
 rintro σ' Hx ⟨q,ls',u6,u7,rfl,sx,qn,hq,hw⟩;refine BZ (a:=oW _ _ _) (Yo z a at_ ot way ls n H 6) ?_ (fun kn=>?_)
 rotate_left
 ·refine 0xB;refine bG 0x28 0x22;obtain ⟨ew,el⟩:=pO c hw;rw [el] at hq;refine ⟨_,rfl,_,rfl,_,rfl,q,_,rfl,aZ.of hq,fun c1 hc1=>?_⟩;rw [cW];have ss:=ao hc1 0x13;have FP:(upd Hx c1 0x13) c1=some 0x13:=ak;have hq1:=ss _ _ hq;have t1:=sx.trans ss;clear ss;generalize upd Hx c1 0x13=H3 at FP hq1 t1 ⊢;refine ⟨small 0x5,fun c2 hc2=>?_⟩;have ss:=ao hc2 (.lst ([V.str 0x1D]));have Ml:(upd H3 c2 (.lst ([V.str 0x1D]))) c2=some (.lst ([V.str 0x1D])):=ak;have Gf:=ss _ _ FP;have hq2:=ss _ _ hq1;have t2:=t1.trans ss;clear ss;generalize upd H3 c2 (.lst ([V.str 0x1D]))=H4 at Ml Gf hq2 t2 ⊢;refine ⟨c1,c2,_,_,rfl,rfl,Gf,Ml,two _ (by rw [bV,List.length_singleton];have:=pP none 0x25;lia),fun c3 hc3=>?_⟩;have em3:(aO ls none 0x25).map V.str++[V.str 0x1D]=(aO ls none 0x25++[0x1D]).map V.str:=by rw [jB];rfl
  rw [em3];have ss:=ao hc3 (.lst ((aO ls none 0x25++[0x1D]).map V.str));have U6:(upd H4 c3 (.lst ((aO ls none 0x25++[0x1D]).map V.str))) c3=some (.lst ((aO ls none 0x25++[0x1D]).map V.str)):=ak;have NP:=ss _ _ hq2;have t3:=t2.trans ss;clear ss;generalize upd H4 c3 (.lst ((aO ls none 0x25++[0x1D]).map V.str))=H5 at U6 NP t3 ⊢;refine ⟨_,rfl,_,rfl,_,rfl,q,_,rfl,aZ.of NP,fun c4 hc4=>?_⟩;rw [cW];have ss:=ao hc4 (.lst ((aO ls 0x25 none).map V.str));have U7:(upd H5 c4 (.lst ((aO ls 0x25 none).map V.str))) c4=some (.lst ((aO ls 0x25 none).map V.str)):=ak;have U8:=ss _ _ U6;have t4:=t3.trans ss;clear ss;generalize upd H5 c4 (.lst ((aO ls 0x25 none).map V.str))=H6 at U7 U8 t4 ⊢;refine ⟨c3,c4,_,_,rfl,rfl,U8,U7,two _ (by rw [bV,bV,jA,List.length_singleton];have:=pP none 0x25;have:=pP 0x25 none;lia),fun c5 hc5=>?_⟩;rw [<- jB];refine kn _ _ ⟨c5,aO ls none 0x25++[0x1D]++aO ls 0x25 none,_,_,rfl,t4.trans (ao hc5 _),t4.free hc5,ak,.inr ⟨by lia,oE (fun t ht=>?_) (by rw [jA,jA,List.length_singleton];have:=pP none 0x25;have:=pP 0x25 none;lia)⟩⟩;rcases List.mem_append.mp ht with ht | ht
  ·rcases List.mem_append.mp ht with ht | ht
   ·exact Ij _ _ t ht
   ·rw [List.mem_singleton.mp ht];exact ⟨Nat.zero_le _,iu 0x4,(bH (z:=Str.ofString "") 0x4).nf⟩
  ·exact Ij _ _ t ht
 rintro σ' Hx ⟨q,ls',u6,u7,rfl,sx,qn,hq,hw⟩;refine BZ (a:=oW _ _ _) (Yo z a at_ ot way ls n H 7) ?_ (fun kn=>?_)
 rotate_left
 ·refine 0xB;refine bG 0x28 0x22;obtain ⟨ew,el⟩:=pO c hw;rw [el] at hq;refine ⟨_,rfl,_,rfl,q,_,_,_,rfl,rfl,aZ.of hq,eya,rfl,_,_,rfl,rfl,0x4,(by have:=small (n:=2000) 0x1;have:=Mj.le;lia),fun c1 hc1=>?_⟩;rw [show Txt.split ya (Str.ofString " ")=bO ya from rfl]
  have ss:=ao hc1 (.lst ((bO ya).map V.str));have FP:(upd Hx c1 (.lst ((bO ya).map V.str))) c1=some (.lst ((bO ya).map V.str)):=ak;have hq1:=ss _ _ hq;have t1:=sx.trans ss;clear ss;generalize upd Hx c1 (.lst ((bO ya).map V.str))=H3 at FP hq1 t1 ⊢;have wl:(bO ya).length<=n+1:=Nat.le_trans (mX ya) (by have:=Mj.le;lia);have wj:=su ya;obtain ⟨uK,ws,xu⟩:∃ uK ws,bO ya=uK::ws:=by
   cases e:bO ya with
   | nil=>exact absurd e (jw ya)
   | cons uK ws=>exact ⟨uK,ws,rfl⟩
  have wln:∀ t∈bO ya,jz t/\NF t:=fun t ht=>⟨lK Mj.asc ht,Bo Mj.nf ht⟩;have r0:=Int.emod_nonneg v3 (show (30:Int)≠0 by decide)
  have r1:=Int.emod_lt_of_pos v3 (show (0:Int)<30 by decide)
  obtain ⟨dl,dp⟩:=TV (n:=v3 % 30) r0 0x1;dsimp only [dX];refine ⟨_,rfl,a,_,_,_,rfl,rfl,t1.seq hS,e3,_,_,rfl,rfl,(by show (0:Int)<30;decide),.inl ⟨_,rfl,jg r0 0x1,small 0x5,fun c2 hc2=>?_⟩⟩
  have ss:=ao hc2 0x10;have Ml:(upd H3 c2 0x10) c2=some 0x10:=ak;have Gf:=ss _ _ FP;have hq2:=ss _ _ hq1;have t2:=t1.trans ss;clear ss;generalize upd H3 c2 0x10=H4 at Ml Gf hq2 t2 ⊢;obtain ⟨y,hy,hyl,hyp⟩:∃ y:Str,lZ [V.str "0",V.str "1",V.str "9999",V.str "10000",V.str "99",V.str "100",V.str "1000000",V.str "05",V.str "x",V.str (Str.ofString (toString (v3 % 30)))] (v3 % 10)=some (.str y)/\y.length<=9/\tE y:=by
   obtain ⟨v,e,m⟩:=fK (xs:=[V.str "0",V.str "1",V.str "9999",V.str "10000",V.str "99",V.str "100",V.str "1000000",V.str "05",V.str "x",V.str (Str.ofString (toString (v3 % 30)))]) (i:=v3 % 10) (Int.emod_nonneg _ 0x8) (by have:=Int.emod_lt_of_pos v3 (show (0:Int)<10 by decide);exact this)
   simp only [List.mem_cons,List.not_mem_nil,or_false] at m;rcases m with rfl | rfl | rfl | rfl | rfl | rfl | rfl | rfl | rfl | rfl
   ·exact 0x19
   ·exact 0x19
   ·exact 0x19
   ·exact 0x19
   ·exact 0x19
   ·exact 0x19
   ·exact 0x19
   ·exact 0x19
   ·exact 0x19
   ·exact ⟨_,e,dl,dp⟩
  dsimp only [dX];rw [xu] at Gf;refine ⟨rfl,_,rfl,c1,_,_,_,rfl,rfl,aZ.of Gf,at0 _ _,_,rfl,_,rfl,a,_,_,_,rfl,rfl,t2.seq hS,e3,_,_,rfl,rfl,(by show (0:Int)<10;decide),c2,_,_,_,rfl,rfl,aZ.of Ml,hy,small 0x5,fun c3 hc3=>?_⟩
  have ss:=ao hc3 (.lst [V.str uK,V.str y]);have U6:(upd H4 c3 (.lst [V.str uK,V.str y])) c3=some (.lst [V.str uK,V.str y]):=ak;have c1x:=ss _ _ Gf;have NP:=ss _ _ hq2;have t3:=t2.trans ss;clear ss;generalize upd H4 c3 (.lst [V.str uK,V.str y])=H5 at U6 c1x NP t3 ⊢;refine ⟨_,rfl,_,rfl,c1,_,rfl,aZ.of c1x,fun c4 hc4=>?_⟩;rw [<- xu,cW];have ss:=ao hc4 (.lst ((aO (bO ya) (some 2) none).map V.str));have U7:(upd H5 c4 (.lst ((aO (bO ya) (some 2) none).map V.str))) c4=some (.lst ((aO (bO ya) (some 2) none).map V.str)):=ak;have U8:=ss _ _ U6;have xH:=ss _ _ NP;have t4:=t3.trans ss;clear ss;generalize upd H5 c4 (.lst ((aO (bO ya) (some 2) none).map V.str))=H6 at U7 U8 xH t4 ⊢;have jc:=HX (bO ya) (some 2) none;have lc:=Bf (aO (bO ya) (some 2) none);have yaL:=Mj.le;have w1l:uK.length<=ya.length:=lJ (by rw [xu];exact List.mem_cons_self);refine ⟨c3,c4,_,_,rfl,rfl,U8,U7,two _ (by rw [bV];show 2+_<=_;lia),fun c5 hc5=>?_⟩
  have em5:[V.str uK,V.str y]++(aO (bO ya) (some 2) none).map V.str=([uK,y]++aO (bO ya) (some 2) none).map V.str:=by rw [jB];rfl
  rw [em5];have ss:=ao hc5 (.lst (([uK,y]++aO (bO ya) (some 2) none).map V.str));have c5v:(upd H6 c5 (.lst (([uK,y]++aO (bO ya) (some 2) none).map V.str))) c5=some (.lst (([uK,y]++aO (bO ya) (some 2) none).map V.str)):=ak;have W0:=ss _ _ xH;have t5:=t4.trans ss;clear ss;generalize upd H6 c5 (.lst (([uK,y]++aO (bO ya) (some 2) none).map V.str))=H7 at c5v W0 t5 ⊢;have jj:jl ([uK,y]++aO (bO ya) (some 2) none)<=3 * n+30:=by
   rw [fQ];have e2':jl [uK,y]=(uK.length+1)+((y.length+1)+0):=rfl;lia
  have Cz:∀ t∈[uK,y]++aO (bO ya) (some 2) none,jz t/\NF t:=fun t ht=>by
   rcases List.mem_append.mp ht with ht | ht
   ·simp only [List.mem_cons,List.not_mem_nil,or_false] at ht;rcases ht with rfl | rfl
    ·exact wln _ (by rw [xu];exact List.mem_cons_self)
    ·exact ⟨hyp.asc,hyp.nf⟩
   ·exact wln t (jm ht)
  refine ⟨_,c5,_,rfl,rfl,aZ.of c5v,ig 0x1,_,rfl,_,rfl,q,_,_,_,rfl,rfl,W0,ia,?_⟩;rw [nj];exact kn _ _ ⟨q,_,_,_,rfl,aV t5 qn,qn,ak,.inr ⟨by lia,setm ⟨Nat.le_trans (jf _) jj,wG fun t ht=>(Cz t ht).1,Bm fun t ht=>(Cz t ht).2⟩⟩⟩
 rintro σ' Hx ⟨q,ls',u6,u7,rfl,sx,qn,hq,hw⟩;refine BZ (a:=oW _ _ _) (Yo z a at_ ot way ls n H 8) ?_ (fun kn=>?_)
 rotate_left
 ·refine 0xB;refine bG 0x28 0x22;obtain ⟨ew,el⟩:=pO c hw;rw [el] at hq;refine ⟨_,rfl,_,rfl,q,_,_,_,rfl,rfl,aZ.of hq,eya,rfl,_,_,rfl,rfl,0x4,(by have:=small (n:=2000) 0x1;have:=Mj.le;lia),fun c1 hc1=>?_⟩;rw [show Txt.split ya (Str.ofString " ")=bO ya from rfl]
  have ss:=ao hc1 (.lst ((bO ya).map V.str));have FP:(upd Hx c1 (.lst ((bO ya).map V.str))) c1=some (.lst ((bO ya).map V.str)):=ak;have hq1:=ss _ _ hq;have t1:=sx.trans ss;clear ss;generalize upd Hx c1 (.lst ((bO ya).map V.str))=H3 at FP hq1 t1 ⊢;have wl:(bO ya).length<=n+1:=Nat.le_trans (mX ya) (by have:=Mj.le;lia);have wj:=su ya;obtain ⟨uK,ws,xu⟩:∃ uK ws,bO ya=uK::ws:=by
   cases e:bO ya with
   | nil=>exact absurd e (jw ya)
   | cons uK ws=>exact ⟨uK,ws,rfl⟩
  have wln:∀ t∈bO ya,jz t/\NF t:=fun t ht=>⟨lK Mj.asc ht,Bo Mj.nf ht⟩;dsimp only [dX];refine ⟨rfl,small 0x5,fun c2 hc2=>?_⟩;have ss:=ao hc2 0x24;have Ml:(upd H3 c2 0x24) c2=some 0x24:=ak;have Gf:=ss _ _ FP;have hq2:=ss _ _ hq1;have t2:=t1.trans ss;clear ss;generalize upd H3 c2 0x24=H4 at Ml Gf hq2 t2 ⊢;obtain ⟨y,hy,hyl,hyp⟩:∃ y:Str,lZ [V.str "0",V.str "1",V.str "2",V.str "5",V.str "999999",V.str "03",V.str "land",V.str ""] (v3 % 8)=some (.str y)/\y.length<=9/\tE y:=by
   obtain ⟨v,e,m⟩:=fK (xs:=[V.str "0",V.str "1",V.str "2",V.str "5",V.str "999999",V.str "03",V.str "land",V.str ""]) (i:=v3 % 8) (Int.emod_nonneg _ 0x8) (by have:=Int.emod_lt_of_pos v3 (show (0:Int)<8 by decide);exact this)
   simp only [List.mem_cons,List.not_mem_nil,or_false] at m;rcases m with rfl | rfl | rfl | rfl | rfl | rfl | rfl | rfl
   ·exact 0x19
   ·exact 0x19
   ·exact 0x19
   ·exact 0x19
   ·exact 0x19
   ·exact 0x19
   ·exact 0x19
   ·exact 0x19
  refine ⟨_,rfl,a,_,_,_,rfl,rfl,t2.seq hS,e3,_,_,rfl,rfl,(by show (0:Int)<8;decide),c2,_,_,_,rfl,rfl,aZ.of Ml,hy,small 0x5,fun c3 hc3=>?_⟩
  have ss:=ao hc3 (.lst [V.str y]);have U6:(upd H4 c3 (.lst [V.str y])) c3=some (.lst [V.str y]):=ak;have c1x:=ss _ _ Gf;have NP:=ss _ _ hq2;have t3:=t2.trans ss;clear ss;generalize upd H4 c3 (.lst [V.str y])=H5 at U6 c1x NP t3 ⊢;refine ⟨_,rfl,_,rfl,c1,_,rfl,aZ.of c1x,fun c4 hc4=>?_⟩;rw [cW];have ss:=ao hc4 (.lst ((aO (bO ya) (some 1) none).map V.str));have U7:(upd H5 c4 (.lst ((aO (bO ya) (some 1) none).map V.str))) c4=some (.lst ((aO (bO ya) (some 1) none).map V.str)):=ak;have U8:=ss _ _ U6;have xH:=ss _ _ NP;have t4:=t3.trans ss;clear ss;generalize upd H5 c4 (.lst ((aO (bO ya) (some 1) none).map V.str))=H6 at U7 U8 xH t4 ⊢;have jc:=HX (bO ya) (some 1) none;have lc:=Bf (aO (bO ya) (some 1) none);have yaL:=Mj.le;refine ⟨c3,c4,_,_,rfl,rfl,U8,U7,two _ (by rw [bV];show 1+_<=_;lia),fun c5 hc5=>?_⟩
  have em5:[V.str y]++(aO (bO ya) (some 1) none).map V.str=([y]++aO (bO ya) (some 1) none).map V.str:=by rw [jB];rfl
  rw [em5];have ss:=ao hc5 (.lst (([y]++aO (bO ya) (some 1) none).map V.str));have c5v:(upd H6 c5 (.lst (([y]++aO (bO ya) (some 1) none).map V.str))) c5=some (.lst (([y]++aO (bO ya) (some 1) none).map V.str)):=ak;have W0:=ss _ _ xH;have t5:=t4.trans ss;clear ss;generalize upd H6 c5 (.lst (([y]++aO (bO ya) (some 1) none).map V.str))=H7 at c5v W0 t5 ⊢;have jj:jl ([y]++aO (bO ya) (some 1) none)<=3 * n+30:=by
   rw [fQ];have e2':jl [y]=(y.length+1)+0:=rfl;lia
  have Cz:∀ t∈[y]++aO (bO ya) (some 1) none,jz t/\NF t:=fun t ht=>by
   rcases List.mem_append.mp ht with ht | ht
   ·rw [List.mem_singleton.mp ht];exact ⟨hyp.asc,hyp.nf⟩
   ·exact wln t (jm ht)
  refine ⟨_,c5,_,rfl,rfl,aZ.of c5v,ig 0x1,_,rfl,_,rfl,q,_,_,_,rfl,rfl,W0,ia,?_⟩;rw [nj];exact kn _ _ ⟨q,_,_,_,rfl,aV t5 qn,qn,ak,.inr ⟨by lia,setm ⟨Nat.le_trans (jf _) jj,wG fun t ht=>(Cz t ht).1,Bm fun t ht=>(Cz t ht).2⟩⟩⟩
 rintro σ' Hx ⟨q,ls',u6,u7,rfl,sx,qn,hq,hw⟩;refine BZ (a:=oW _ _ _) (fun σ' H'=>∃ (q:Addr) (ls':List Str) (u6 u7:Option V),σ'=[some (.str z),some (.ref a),some (.ref q),some (.int at_),some (.int ot),some (.int way),u6,u7]/\Same H H'/\H' q=some (.lst (ls'.map V.str))/\Good ls.length n ls') ?_ (fun kn=>?_)
 rotate_left
 ·refine 0x20;refine bG 0x28 0x28
  ·have c7:7<way:=fO c;have el:ls'=ls:=by
    rcases hw with ⟨_,h⟩ | ⟨h,_⟩
    ·exact h
    ·lia
   subst el;refine ⟨_,rfl,_,rfl,q,_,_,_,rfl,rfl,aZ.of hq,eya,_,rfl,_,rfl,a,_,rfl,sx.seq hS,fun c1 hc1=>?_⟩;rw [qU (j:=2) (i:=2) rfl 0x1];have ss:=ao hc1 (.lst ((ds.drop 2).map V.int));have FP:(upd Hx c1 (.lst ((ds.drop 2).map V.int))) c1=some (.lst ((ds.drop 2).map V.int)):=ak;have hq1:=ss _ _ hq;have t1:=sx.trans ss;clear ss;generalize upd Hx c1 (.lst ((ds.drop 2).map V.int))=H3 at FP hq1 t1 ⊢;refine ⟨ya,c1,ds.drop 2,n,rfl,aZ.of FP,by rw [List.length_drop];lia,fun v hv=>hok v (List.mem_of_mem_drop hv),Mj.le,hn,Mj.asc,Mj.nf,fun y H4 s4 hy W8 hyn=>?_⟩;refine ⟨_,rfl,_,rfl,q,_,_,_,rfl,rfl,s4 _ _ hq1,ia,?_⟩;rw [nj];refine kn _ _ ⟨q,_,_,_,rfl,aV (t1.trans s4) qn,ak,?_,by rw [List.length_set];lia,fun t ht=>?_⟩
   ·have:=Mh (ls:=ls') (j:=at_.toNat) (y:=y) fun t ht=>(hls t ht).nf;rw [wU,List.length_set];lia
   ·rcases List.mem_or_eq_of_mem_set ht with h | h
    ·exact ⟨by have:=(hls t h).le;lia,(hls t h).asc⟩
    ·rw [h];exact ⟨hy,W8⟩
  ·have c7:¬ 7<way:=of_decide_eq_false (Bool.eq_false_iff.mpr c);refine kn _ _ ⟨q,ls',u6,u7,rfl,sx,hq,?_⟩;rcases hw with ⟨h1,h2⟩ | ⟨_,h⟩
   ·lia
   ·exact h
 rintro σ' Hx ⟨q,ls',u6,u7,rfl,sx,hq,hg⟩;obtain ⟨g1',g2',g3'⟩:=hg;refine ⟨rfl,_,rfl,q,rfl,⟨_,aZ.of hq⟩,fun D hD=>?_⟩;refine gW (K:=K) (a:=q) (xs:=ls'.map V.str) (fun i ys H3=>ys=(ls'.take i).map (fun t=>V.str (t++Str.ofString "\n"))/\Same Hx H3/\H3 D=some (.lst ys)) (fun i ys H3 h=>aZ.of (h.2.1 _ _ hq)) ⟨rfl,ao hD _,ak⟩ (fun i ys H3 h=>h.2.2) ?_ ?_
 ·rintro i ys H3 x hx ⟨rfl,s3,Cr⟩;rw [jT] at hx;obtain ⟨t,ht,rfl⟩:=Option.map_eq_some_iff.mp hx;have tl:=(g3' t (lU ht)).1;refine 0x2E;refine dN ?_;refine ⟨_,rfl,_,_,rfl,rfl,two _ ?_,Cr,?_,?_,aV s3 hD,ak⟩
  ·have:(Str.ofString "\n").length=1:=by decide +kernel
   show t.length+(Str.ofString "\n").length<=2000
   lia
  ·rw [bV,List.length_take];exact cQ 0x1
  ·rw [List.take_add_one,ht,jB];rfl
 ·rintro ys H3 ⟨rfl,s3,Cr⟩;rw [bV,List.take_of_length_le 0x9,Fz] at Cr;refine ⟨_,D,ends ls',rfl,rfl,aZ.of Cr,zK ?_,kk _ _ (sx.trans s3) (Ma 0x1 fun t ht=>g3' t ht)⟩;have:=Mf (ls:=ls') (n:=930) fun t ht=>by have:=(g3' t ht).1;lia
  have:(930+2) * ls'.length<=932 * 61:=Nat.mul_le_mul 0x8 0x1;lia
end M
namespace L2
open PySem PySem.Spec PyProof.Rows PySem.W
inductive zO (x:V) (vs:List V) (H:Hp) (Q:VK):Prop
 | mk (l:Addr) (xs:List V) (i:Nat) (y:V) (_:x=.ref l) (_:vs=[.int ((i:Nat):Int),y]) (_:H l=some (.lst xs)) (_:i<=xs.length) (_:xs.length<1000) (_:Q .non (upd H l (.lst (xs.take i++y::xs.drop i)))):zO x vs H Q
def WD:V->List V->Hp->VK->Prop:=fun x vs H Q=>zO x vs H Q
theorem Oe:YL X "list.insert" WD:=by
 intro pins s σ H x vs v us Q I rx rv h;obtain ⟨l,xs,i,y,rfl,rfl,hH,hi,hz,q⟩:=h;cases rx;obtain ⟨u,u',rfl,⟨t,rfl⟩,ru⟩:=vals2 rv;obtain ⟨z,its,n,r,hl,e⟩:=I.GD hH;have fit:Builtin.List.listFitsIndex ((i:Nat):Int)=true:=by
  unfold Builtin.List.listFitsIndex;simp;lia
 have hsz:its.toArray.size<=sizeLine:=by rw [List.size_toArray,<- hl];exact z
 generalize hx:((i:Nat):Int)=x at fit rv ⊢;have fit':¬(!Builtin.List.listFitsIndex x)=true:=by simp [fit]
 have g:=PySem.AutoSeq1.list_insert_list_int_val_1 l its.toArray n x t u' fit' hsz;refine call_meets PySem.F.slot_list_insert ⟨_,e,rfl⟩ PySem.F.entry_list_insert (PySem.F.args_list_insert_3 _ _ _) g ⟨e,?_⟩;refine ⟨.non,_,I.UG (its':=its.take i++u'::its.drop i) hH e ?_ ((r.take i).append (.cons ru (r.drop i))) ?_,rfl,q⟩
 ·subst hx
  show (its.toArray.extract 0 (if ((i:Nat):Int)<0 then (((i:Nat):Int)+(its.toArray.size:Int)).toNat else min ((i:Nat):Int).toNat its.toArray.size)).push u'++its.toArray.extract (if ((i:Nat):Int)<0 then (((i:Nat):Int)+(its.toArray.size:Int)).toNat else min ((i:Nat):Int).toNat its.toArray.size)=_
  have e0:¬ ((i:Nat):Int)<0:=Int.not_lt.mpr (Int.natCast_nonneg i);rw [if_neg e0];have em:min ((i:Nat):Int).toNat its.toArray.size=i:=by rw [List.size_toArray,Int.toNat_natCast];lia
  rw [em,kl_ins_eq]
 ·refine Nat.le_trans (m:=1000) ?_ (by rw [sizeLine_eq];decide);rw [jA,jU,List.length_take,List.length_drop];lia
inductive zP (K:PySem.W.Frag) (x y:V) (H:Hp) (Q:VK):Prop
 | mk (p l:Addr) (as:List Addr) (r:List V) (rows:List (List V)) (_:x=.ref p) (_:y=.ref l) (_:aZ K H l (as.map V.ref)) (_:H p=some (.tup r)) (_:r.all lD=true) (_:eY H as rows) (_:(∀ q∈rows,q.all lD=true)) (_:Q (.bl (!rows.any fun q=>decide (q=r))) H):zP K x y H Q
def WK (K:PySem.W.Frag):R2:=fun x y H Q=>zP K x y H Q
theorem Og (hu:X.A.units+64<cLine):kZ X (compareOp .NotIn) (WK X.K):=by
 intro pins s σ H x y v u Q I rx ry h;obtain ⟨p,l,as,r,rows,rfl,rfl,hq,hp,hr,hR,hrs,q⟩:=h;cases rx;cases ry;obtain ⟨its,rv,pl,hz⟩:=I.list hq;have Zj:=Ao rv;subst Zj;have read:∀ (a:Addr) (z:List V),H a=some (.tup z)->z.all lD=true->∃ bs,Reads s.heap (.ref a) (.tuple (z.map gY)) bs:=fun a z ha hz=>fB.reads I (.tup ha (qF z hz)) rfl;refine SeqAt.notIn_listAt (fun u=>match u with | .ref a=>(match H a with | some (.tup q)=>decide (q=r) | _=>false) | _=>false) pl.isList (fun w hw=>?_) ⟨.bl _,H,I,rfl,?_⟩
 ·have hw':w∈as.map Value.ref:=by simpa using hw
  obtain ⟨a,ha,rfl⟩:=List.mem_map.mp hw';obtain ⟨z,hz1,hz2⟩:=vL hR a ha;obtain ⟨bs,rb⟩:=read a z hz2 (hrs z hz1);obtain ⟨cs,rc⟩:=read p r hp hr;have g:=SeqAt.eqAt_reads (.tuple (z.map gY)) (.tuple (r.map gY)) X.A.in1 s _ _ bs cs rb rc (kE z (hrs z hz1)) (kE r hr) (by
   have h1:=qG z;have h2:PyData.depth (.tuple (z.map gY))<=3:=by show PyData.depthAll (z.map gY)+1<=3;lia
   have h3:X.A.in1.units<=X.A.units+32:=by show X.A.units+1<=X.A.units+32;lia
   lia)
  have e:PyData.eqv (.tuple (z.map gY)) (.tuple (r.map gY))=decide (z=r):=mK z r (hrs z hz1) hr;rw [e] at g
  show SeqAt.EqAt _ _ _ _ (match H a with | some (.tup q)=>decide (q=r) | _=>false)
  rw [hz2];exact g
 ·have e:=any_rows (r:=r) hR;have e2:((as.map Value.ref).toArray.any fun u=>match u with | .ref a=>(match H a with | some (.tup q)=>decide (q=r) | _=>false) | _=>false)=rows.any fun q=>decide (q=r):=by
   (rw [<- e,List.any_toArray]) <;> rfl
  rw [e2];exact q
end L2
namespace M
open PySem L2
theorem U9 {fr last:Int}{rows:List (List V)}{e:Int×List V} (h:jR fr last rows z=some e):last<e.1/\e.2.length<=10:=by
 unfold jR at h
 split at h
 ·rename_i n k ps hp hr
  split at h
  ·cases h
  ·rename_i hc
   injection h with h;subst h;refine ⟨?_,by rw [jU];have:=(Yb hr).1.len;lia⟩;have:¬ n<=last:=fun x=>hc (.inl x)
   show last<n
   lia
 ·cases h
def a0L (acc:List (Int×List V)):Prop:=acc.Pairwise (fun x y=>x.1<y.1)/\∀ p∈acc,p.1<=eN acc/\p.2.length<=10
theorem FQ {fr:Int}:∀ {ls:List Str}{n:Nat}{acc es:List (Int×List V)},iQ fr ls n acc=.inr es->a0L acc->a0L es/\es.length=acc.length+ls.length
 | [],n,acc,es,h,ha=>by
  have e:acc=es:=by
   have:Sum.inr acc=(Sum.inr es:Sum Nat _):=h;injection this
  subst e;exact ⟨ha,rfl⟩
 | z::r,n,acc,es,h,ha=>by
  have h':(match jR fr (eN acc) (acc.map (·.2)) z with | none=>Sum.inl n | some e=>iQ fr r (n+1) (acc++[e]))=(Sum.inr es:Sum Nat _):=h
  cases he:jR fr (eN acc) (acc.map (·.2)) z with
  | none=>rw [he] at h';cases h'
  | some e =>
   rw [he] at h';have g:=(U9 he).1;have ha2:a0L (acc++[e]):=by
    refine ⟨List.pairwise_append.mpr ⟨ha.1,List.pairwise_singleton _ _,fun x hx y hy=>?_⟩,fun p hp=>?_⟩
    ·rw [List.mem_singleton.mp hy];have:=(ha.2 x hx).1;lia
    ·rw [wO];rcases List.mem_append.mp hp with hp | hp
     ·have:=ha.2 p hp;exact ⟨by lia,this.2⟩
     ·rw [List.mem_singleton.mp hp];exact ⟨Int.le_refl _,(U9 he).2⟩
   obtain ⟨i1,i2⟩:=FQ h' ha2;exact ⟨i1,by rw [i2,jA];simp;lia⟩
theorem Ua {ps:List V}{es:List (Int×List V)} (h:dU z=.inr (ps,es)):es.Pairwise (fun x y=>x.1<y.1)/\es.length<=(cJ z).length/\∀ p∈es,p.2.length<=10:=by
 unfold dU at h
 split at h
 ·cases h
 ·split at h
  ·split at h
   ·cases h
   ·rename_i es' he
    split at h
    ·injection h with h;injection h with h1 h2;subst h2;obtain ⟨i1,i2⟩:=FQ he ⟨List.Pairwise.nil,fun p hp=>by cases hp⟩;refine ⟨i1.1,?_,fun p hp=>(i1.2 p hp).2⟩;rw [i2,List.length_drop,List.length_dropLast];simp;lia
    ·cases h
  ·cases h
theorem WL {ys kvs:List (Int×V)} (hp:ys.Perm kvs) (h1:ys.Pairwise (fun x y=>x.1<y.1)) (h2:kvs.Pairwise (fun x y=>x.1<y.1)):ys=kvs :=
 List.Perm.eq_of_pairwise (le:=fun x y:Int×V=>x.1<y.1) (fun a b _ _ l1 l2=>by lia) h1 h2 hp
theorem a0M {ts:List (Int×Addr×List V)}{es:List (Int×List V)} (e:ts.map (fun p=>(p.1,p.2.2))=es) (h:es.Pairwise (fun x y=>x.1<y.1)):(ts.map fun p=>(p.1,V.ref p.2.1)).Pairwise (fun x y=>x.1<y.1):=by
 subst e;rw [List.pairwise_map] at h ⊢;exact h
theorem wX:∀ {as:List Addr}{rows:List (List V)}{i:Nat}{a:Addr}{r:List V},eY H as rows->as[i]?=some a->rows[i]?=some r->H a=some (.tup r)
 | _,_,0,a,r,.cons h t,h1,h2=>by
  rw [List.getElem?_cons_zero] at h1 h2;rw [<- Option.some.inj h1,<- Option.some.inj h2];exact h
 | _,_,i+1,a,r,.cons h t,h1,h2=>wX t (by simpa using h1) (by simpa using h2)
theorem WM (h:lD v=true):Xy v=true:=by cases v <;> first | rfl | cases h
theorem Ub {as:List Addr}{ts:List (Int×Addr×List V)}{us:List En} (hq:H q=some (.lst (as.map V.ref))) (hI:Items H as (ts.map fun p=>(p.1,V.ref p.2.1))) (hR:eY H (ts.map (·.2.1)) (ts.map (·.2.2))) (hle:H le=some (.lst (us.map fun t:En=>V.ref t.2.1))) (hE:oK H us) (he:gO us=ts.map (fun p=>(p.1,p.2.2))) (hl:us.length<=1000) (hr:∀ p∈gO us,p.2.length<=10):Zx H 4 (.ref q) (.ref le):=by
 have l1:as.length=ts.length:=by rw [hI.1,bV]
 have l2:us.length=ts.length:=by
  have:=congrArg List.length he;unfold gO at this;rw [bV,bV] at this;exact this
 refine .inr (.inr ⟨q,le,_,_,rfl,rfl,hq,hle,by rw [bV,bV];lia,by rw [bV];lia,fun i x y hx hy=>?_⟩);rw [jT] at hx hy;obtain ⟨a,ha,rfl⟩:=Option.map_eq_some_iff.mp hx;obtain ⟨u,hu,rfl⟩:=Option.map_eq_some_iff.mp hy;have hi:i<as.length:=(List.getElem?_eq_some_iff.mp ha).1;have hit:i<ts.length:=by lia
 obtain ⟨t,ht⟩:∃ t,ts[i]?=some t:=⟨ts[i],dO hit⟩;have h1:H a=some (.tup [.int t.1,.ref t.2.1]):=hI.2 i a (t.1,V.ref t.2.1) ha (by rw [jT,ht];rfl);have h2:H t.2.1=some (.tup t.2.2):=wX hR (i:=i) (by rw [jT,ht];rfl) (by rw [jT,ht];rfl);obtain ⟨u1,u2,u3,_⟩:=hE u (lU hu);have eu:(u.1,u.2.2.2)=(t.1,t.2.2):=by
  have:=congrArg (fun l:List (Int×List V)=>l[i]?) he;unfold gO at this;simp only [jT] at this;rw [hu,ht] at this;exact Option.some.inj this
 have eu1:u.1=t.1:=congrArg (fun x:Int×List V=>x.1) eu;have eu2:u.2.2.2=t.2.2:=congrArg (fun x:Int×List V=>x.2) eu;rw [eu1] at u1;rw [eu2] at u2 u3;refine .inr (.inl ⟨a,u.2.1,_,_,rfl,rfl,h1,u1,rfl,by simp,fun j x y hx hy=>?_⟩)
 match j,hx,hy with
 | 0,hx,hy =>
  have ex:V.int t.1=x:=by simpa using hx
  have ey:V.int t.1=y:=by simpa using hy
  rw [<- ex,<- ey];exact .inl ⟨rfl,rfl⟩
 | 1,hx,hy =>
  have ex:V.ref t.2.1=x:=by simpa using hx
  have ey:V.ref u.2.2.1=y:=by simpa using hy
  rw [<- ex,<- ey];have hlen:t.2.2.length<=1000:=by
   have:=hr (t.1,t.2.2) (by rw [he];exact List.mem_map_of_mem (lU ht));exact Nat.le_trans this 0x8
  ·refine .inr (.inl ⟨t.2.1,u.2.2.1,_,_,rfl,rfl,h2,u2,rfl,hlen,fun m x y hx hy=>?_⟩);rw [hx] at hy;injection hy with hy;subst hy;exact .inl ⟨rfl,WM (List.all_eq_true.mp u3 x (lU hx))⟩
 | j+2,hx,hy=>simp at hx
inductive Mp (K:PySem.W.Frag) (vs:List V) (H:Hp) (Q:VK):Prop
 | mk (a:Addr) (ns:List Int) (_:vs=[.ref a]) (_:aZ K H a (ns.map V.int)) (_:ns.length<=63) (_:∀ H',Q (.bl true) H'):Mp K vs H Q
def Mq (K:PySem.W.Frag):Sp:=fun vs H Q _=>Mp K vs H Q
theorem wY:∀ bs:List Bool,dw H (bs.map V.bl) (bs.map PyData.bool)
 | []=>.nil
 | b::r=>.cons (.bl b) (wY r)
theorem zQ:∀ zs:List Str,dw H (zs.map V.str) (zs.map PyData.str)
 | []=>.nil
 | z::r=>.cons (.str z) (zQ r)
theorem FT:∀ {zs:List Str},(∀ z∈zs,jz z)->PyData.canLayAll0 (zs.map PyData.str)=true
 | [],_=>rfl
 | z::r,h=>by
  rw [List.map_cons,PyData.canLayAll0,FT fun t ht=>h t (lR _ ht),Bool.and_true,PyData.canLay0];exact FJ (h z List.mem_cons_self)
theorem FW:∀ zs:List Str,PyData.depthAll (zs.map PyData.str)<=1
 | []=>by decide
 | z::r=>by
  rw [List.map_cons,PyData.depthAll,PyData.depth];have:=FW r;lia
theorem WQ {p:Addr}{Q:VK} (hp:H p=some (.lst (zs.map V.str))) (hq:H q=some (.lst [])) (ha:∀ z∈zs,jz z) (k:Q (.bl (!zs.isEmpty)) H):V5 (.ref p) (.ref q) H Q:=by
 refine ⟨_,_,.lst hp (zQ zs),.lst hq .nil,?_,rfl,?_,?_⟩
 ·rw [PyData.canLay0];exact FT ha
 ·rw [PyData.depth];have:=FW zs;lia
 ·cases zs with
  | nil=>exact k
  | cons t r=>exact k
def etEn (t:Et):En:=(t.1,t.2.1,t.2.2.1,V.str t.2.2.2.1::t.2.2.2.2)
theorem a2B {ts:List Et} (h:∀ t∈ts,lO H t):oK H (ts.map etEn):=fun u hu=>by
 obtain ⟨t,ht,rfl⟩:=List.mem_map.mp hu;obtain ⟨h1,⟨h2,_,h3⟩,h4,_⟩:=h t ht;exact ⟨h1,h2,h3,h4⟩
theorem a2C {ts:List Et}{Q:VK} (h:∀ t∈ts,lO H t) (hl:H le=some (.lst (ts.map fun t=>V.ref t.2.1))) (hq:H q=some (.lst [])) (k:Q (.bl (!ts.isEmpty)) H):V5 (.ref le) (.ref q) H Q:=by
 refine Yh (a2B h) (by rw [hl,List.map_map];rfl) hq ?_;cases ts with
 | nil=>exact k
 | cons t r=>exact k
theorem rw_rows:∀ {rs:List Rw},(∀ r∈rs,xO H r)->eY H (rs.map (·.1)) (rs.map fun r=>V.str r.2.1::r.2.2)
 | [],_=>.nil
 | r::rs,h=>.cons (h r List.mem_cons_self).1 (rw_rows fun u hu=>h u (lR _ hu))
theorem Pg.up {L:Nat} (h:Pg L n z):Pg (2 * L) (3 * n+30) z:=⟨by have:=h.len;lia,fun t ht=>by have:=h.le t ht;lia,h.asc⟩
def Mr:Nat->Nat×Nat
 | 0=>(13,80)
 | 1=>(26,270)
 | _=>(52,840)
theorem a0N (h:Pg (Mr j).1 (Mr j).2 z):Pg 52 840 z:=by
 match j,h with
 | 0,h=>exact ⟨Nat.le_trans h.len 0x8,fun t ht=>Nat.le_trans (h.le t ht) 0x8,h.asc⟩
 | 1,h=>exact ⟨Nat.le_trans h.len 0x8,fun t ht=>Nat.le_trans (h.le t ht) 0x8,h.asc⟩
 | j+2,h=>exact h
theorem a0O (h:Pg 52 840 z):Lq z:=⟨Ii h 0x8 0x8,fun t ht=>Nat.le_trans (h.le t ht) 0x8,Nat.lt_of_le_of_lt h.len 0x8⟩
theorem a2D:Pg 52 840 0x1D:=by
 have e:cJ 0x1D=[Str.ofString ""]:=Bs (by show (10:Nat)∉(0x1D).cps.toList;decide +kernel)
 refine ⟨by rw [e];decide,fun t ht=>?_,iu 0x4⟩;rw [e] at ht;rw [List.mem_singleton.mp ht];exact Nat.zero_le _
theorem Uc {xs:List Int} (h:xs≠[]):∃ v∈xs,lZ (xs.map V.int) (-1)=some (.int v):=by
 rcases List.eq_nil_or_concat xs with e | ⟨ys,v,e⟩
 ·exact absurd e h
 ·rw [List.concat_eq_append] at e;subst e;exact ⟨v,by simp,by rw [jB];exact uZ _ _⟩
theorem gw:bB ["_law_script", "_law_feed_here", "_law_names_here", "_law_rows", "_law_k", "_law_row", "_law_entries", "_law_free", "_law_at", "_law_again", "_law_text", "_law_some", "_law_found", "_law_marks", "_law_roll"] ["_law_script"] (aC vV):=0x0
def scL1:Scope:={ kind:=.function,names:=[(".0",.local),("_law_entry",.local)],isGenerator:=false,isCoroutine:=false }
theorem csL1:fP ["_law_script", "_law_feed_here", "_law_names_here", "_law_rows", "_law_k", "_law_row", "_law_entries", "_law_free", "_law_at", "_law_again", "_law_text", "_law_some", "_law_found", "_law_marks", "_law_roll"] (aC vV) scL1 ["_law_entry"] [] []:=0x6
theorem ndL1:((["_law_entry"]:List Str)++([]:List Str)).Nodup:=by decide +kernel
def scL2:Scope:={ kind:=.function,names:=[(".0",.local),("_law_k",.local),("_law_row",.local)],isGenerator:=false,isCoroutine:=false }
theorem csL2:fP ["_law_script", "_law_feed_here", "_law_names_here", "_law_rows", "_law_k", "_law_row", "_law_entries", "_law_free", "_law_at", "_law_again", "_law_text", "_law_some", "_law_found", "_law_marks", "_law_roll"] (aC vV) scL2 ["_law_k", "_law_row"] [] []:=0x6
theorem ndL2:((["_law_k", "_law_row"]:List Str)++([]:List Str)).Nodup:=by decide +kernel
theorem a0P (F:iR K "law" "law" vV f fd) (mr:mg "range"=none) (mn:mg "len"=none) (me:mg "enumerate"=none) (T:tG K R)
  {g4 g5 g6 g7 g8 g9 g10 g11 g12 g13 g14:Addr}{d4 d5 d6 d7 d8 d9 d10 d11 d12 d13 d14:FuncData}
  (G1:bw P w K mg base dF 1 g1 d1 ["_law_script", "_law_many"] (R7 K)) (M1:Ms K mg "_law_feed" g1 d1 ["_law_script", "_law_many"])
  (G2:bw P w K mg base dF 1 g2 d2 ["_law_d", "_law_many"] (Km K)) (M2:Ms K mg "_law_names" g2 d2 ["_law_d", "_law_many"])
  (G3:bw P w K mg base dF 2 g3 d3 ["_law_d", "_law_names_here"] (Xz K)) (M3:Ms K mg "_law_any_row" g3 d3 ["_law_d", "_law_names_here"])
  (G4:bw P w K mg base dF 1 g4 d4 ["_law_feed_here", "_law_rows"] (Mg K)) (M4:Ms K mg "_law_numbered" g4 d4 ["_law_feed_here", "_law_rows"])
  (G5:bw P w K mg base dF 3 g5 d5 ["_law_wide", "_law_rich", "_law_free", "_law_entries"] (TY K)) (M5:Ms K mg "_law_page" g5 d5 ["_law_wide", "_law_rich", "_law_free", "_law_entries"])
  (G6:bw P w K mg base dF 3 g6 d6 ["_law_text", "_law_d"] (Mi K)) (M6:Ms K mg "_law_bent_page" g6 d6 ["_law_text", "_law_d"])
  (G7:bw P w K mg base dF 5 g7 d7 ["_law_text"] spPR) (M7:Ms K mg "_law_page_read" g7 d7 ["_law_text"])
  (G8:bw P w K mg base dF 9 g8 d8 ["_law_text"] (Tg R)) (M8:Ms K mg "_law_why_page" g8 d8 ["_law_text"])
  (G9:bw P w K mg base dF 9 g9 d9 ["_law_text"] Lr) (M9:Ms K mg "_law_fault_of" g9 d9 ["_law_text"])
  (G10:bw P w K mg base dF 4 g10 d10 ["_law_found", "_law_due"] (Aw 4)) (Mt:Ms K mg "_law_same" g10 d10 ["_law_found", "_law_due"])
  (G11:bw P w K mg base dF 1 g11 d11 ["self"] (Y6 R)) (m11:Meth K R "acres" g11) (b11:Binds K d11 ["self"] [])
  (G12:bw P w K mg base dF 1 g12 d12 ["self"] (Y7 R)) (m12:Meth K R "bears" g12) (b12:Binds K d12 ["self"] [])
  (G13:bw P w K mg base dF 1 g13 d13 ["self"] (Lj R)) (m13:Meth K R "rows" g13) (b13:Binds K d13 ["self"] [])
  (G14:bw P w K mg base dF 1 g14 d14 ["self"] (Y8 R)) (m14:Meth K R "free" g14) (b14:Binds K d14 ["self"] [])
  : bw P w K mg base dF 10 f fd ["_law_script"] (Mq K):=by
 refine F.ok gw 0xA 0x2
 ·obtain ⟨a,ns,rfl,_⟩:=h;rfl
 obtain ⟨a,ns,rfl,hS,h63,kk⟩:=h;have hr1:fM 1 _:=hr.mono 0x8;have hr2:fM 2 _:=hr.mono 0x8;have XM:fM 3 _:=hr.mono 0x8;have Yi:fM 4 _:=hr.mono 0x8;have hr5:fM 5 _:=hr.mono 0x8;refine Eo.out ⟨_,(aP (cR (i:=1) gw.nd rfl 0x3 ⟨(bA G1 hr1 rfl M1.m M1.k M1.b .nil bL (aj (pv 0) (aj au aq)))⟩)
  (aP (cR (i:=2) gw.nd rfl 0x3 ⟨(bA G2 hr1 rfl M2.m M2.k M2.b .nil bL (aj (cU bQ (pv 1) (dJ au) dI) (aj (bC aL (cX (aj au (aj au aq))) (aR bI (bC aL (pv 1) au bW) au) jP) aq)))⟩)
  (aP (cR (i:=3) gw.nd rfl 0x3 ⟨cX aq⟩)
  (aP (Bx PassesOwn.never rfl (iW rfl mr (aj (aR bI (bC aL (pv 1) au bW) au) aq)) (aQ (i:=4) gw.nd rfl 0x3)
  (aP (cR (i:=5) gw.nd rfl 0x3 ⟨(bA G3 hr2 rfl M3.m M3.k M3.b .nil bL (aj (cU bQ (pv 1) (dJ (aR bN au (aR iJ au (pv 4)))) dI) (aj (pv 2) aq)))⟩)
  (bT (qT (aK (Og hr.units) (pv 5) (pv 3) 0x16) (bT ⟨dz (dH PySem.F.plainAttrs_list PySem.F.slot_list_append PySem.F.type_list_append cY (pv 3) (aj (pv 5) aq))⟩) cI))))
  (aP (cR (i:=6) gw.nd rfl 0x3 ⟨(bA G4 hr1 rfl M4.m M4.k M4.b .nil bL (aj (pv 1) (aj (pv 3) aq)))⟩)
  (aP (cR (i:=7) gw.nd rfl 0x3 ⟨(aR bN (aR bN au (bC aL (gJ rfl csL1 (iB (aR gH (cX (aj (gG (aj au (aj au aq))) aq)) (pv 6))) (fun s H fp C=>⟨aQ (i:=0) ndL1 rfl 0x3,fJ,bC (JF (K:=K)) (pv 0) au bW⟩)) (sS m8 au) 0xE)) (aR bI (bC aL (pv 1) au bW) au))⟩)
  (aP (qT (PW.pt (ji (aK (vA hr.units) (pv 6) (cX aq) (aW _)) (gD (aK cA (aR bI (bC aL (pv 1) au bW) au) au (aW _))))) (aP (cR (i:=8) gw.nd rfl 0x3 ⟨(aR bI (bC aL (pv 1) au bW) (aM bF rfl mn PySem.boot_len (aj (pv 6) aq)))⟩)
  (aP ⟨uc (i:=9) rfl csL1 (iB (pv 6)) (fun s H fp C=>⟨aQ (i:=0) ndL1 rfl 0x3,fJ,bC (JF (K:=K)) (pv 0) au bW⟩) gw.nd rfl 0x3⟩
  (aP ⟨dz (dH PySem.F.plainAttrs_list PySem.F.slot_list_insert PySem.F.type_list_insert Oe (pv 9) (aj (aR bN (aR bN (pv 8) au) (aR bI (bC aL (pv 1) au bW) (aR oX (aM bF rfl mn PySem.boot_len (aj (pv 6) aq)) (pv 8)))) (aj (bC aL (pv 9) (pv 8) wW) aq)))⟩
  (aP ⟨uc (i:=6) rfl csL2 (Fx rfl me (aj (pv 9) aq)) (fun s H fp C=>⟨qu (K:=K) (n:=2) rfl (aX (aQ (i:=0) ndL2 rfl 0x3) (aX (aQ (i:=1) ndL2 rfl 0x3) cZ)),fJ,gG (aj (aR bN (aR iJ au (pv 0)) au) 0x21)⟩) gw.nd rfl 0x3⟩
  (bT (cR (i:=7) gw.nd rfl 0x3 ⟨(aR bN (aR iJ au (aM bF rfl mn PySem.boot_len (aj (pv 6) aq))) (aR bI (bC aL (pv 1) au bW) au))⟩)))))) cI)
  (aP (cR (i:=10) gw.nd rfl 0x3 ⟨(bA G5 XM rfl M5.m M5.k M5.b .nil bL (aj (aR bN au (aR bI (bC aL (pv 1) au bW) au)) (aj (aR bI (bC aL (pv 1) au bW) au) (aj (pv 7) (aj (pv 6) aq)))))⟩)
  (aP (Bx PassesOwn.never rfl (iW rfl mr (aj (aR bI (bC aL (pv 1) au bW) au) aq)) (aQ (i:=4) gw.nd rfl 0x3)
  (bT (qT (PW.pt (ji (aK jE (pv 10) aJ (aW _)) (gD (aK (vA hr.units) (cU bQ (dH (name:="split") PySem.F.plainAttrs_str PySem.F.slot_str_split PySem.F.type_str_split gM (pv 10) (aj aJ aq)) dI (dJ (sS m8 au))) (cX aq) (aW _))))) (bT (cR (i:=10) gw.nd rfl 0x3 ⟨(bA G6 XM rfl M6.m M6.k M6.b .nil bL (aj (pv 10) (aj (cU bQ (pv 1) (dJ (aR bN au (aR iJ au (pv 4)))) dI) aq)))⟩)) cI)))
  (aP (Bx PassesOwn.never rfl (iB (cX (aj (pv 10) (aj aJ aq)))) (aQ (i:=11) gw.nd rfl 0x3)
  (aP ⟨m6 (bA G7 hr5 rfl M7.m M7.k M7.b .nil bL (aj (pv 11) aq)) (fW rfl (aX (aQ (i:=8) gw.nd rfl 0x3) (aX (aQ (i:=12) gw.nd rfl 0x3) cZ)))⟩
  (aP ⟨m6 (bA G8 hr rfl M8.m M8.k M8.b .nil bL (aj (pv 11) aq)) (fW rfl (aX (aQ (i:=13) gw.nd rfl 0x3) (aX (aQ (i:=14) gw.nd rfl 0x3) cZ)))⟩
  (aP (qT (PW.pt (ji (aK uV (pv 8) au (aW _)) (gD (PW.pt (dZ (aK (vA hr.units) (pv 13) (cX (aj fX (aj fX (aj fX (aj fX aq))))) (aW _)) (eO (fu (dW (bA G10 Yi rfl Mt.m Mt.k Mt.b .nil bL (aj (bA G9 hr rfl M9.m M9.k M9.b .nil bL (aj (pv 11) aq)) (aj (pv 8) aq))))))))))) ⟨gn⟩ cI)
  (bT (qT (aK cA (pv 8) au (aW _)) (aP (qT (PW.pt (dZ (aK (vA hr.units) (pv 13) (cX aq) (aW _)) (eO (fu (dW (bA G10 Yi rfl Mt.m Mt.k Mt.b .nil bL (aj (cX (aj (qb (pv 14) T.cl m11 G11 hr1 b11 .nil bL) (aj (qb (pv 14) T.cl m12 G12 hr1 b12 .nil bL) aq))) (aj (iU (u1 hr) (pv 12) aJ 0xE) aq)))))))) ⟨gn⟩ cI)
  (bT (qT (PW.pt (dZ (fu (dW (bA G10 Yi rfl Mt.m Mt.k Mt.b .nil bL (aj (qb (pv 14) T.cl m13 G13 hr1 b13 .nil bL) (aj (iU (u1 hr) (pv 12) aJ 0xE) aq))))) (eO (fu (dW (bA G10 Yi rfl Mt.m Mt.k Mt.b .nil bL (aj (qb (pv 14) T.cl m14 G14 hr1 b14 .nil bL) (aj (iU (u1 hr) (pv 12) aJ 0xE) aq)))))))) ⟨gn⟩ cI))) cI))))))
  (bT (iw ⟨fX⟩)))))))))))),?_⟩
 have a0Q:∀ i:Nat,i<=100000->i<=sizeLine:=fun i hi=>small 0x1;refine ⟨_,rfl,a,ns,240,rfl,hS,h63,by decide,by decide,fun r H1 fs s1 hr0 r1 hl1 ho1=>?_⟩;have hl:fs.length=240:=by lia
 obtain ⟨v0,e0,o0⟩:=dY ho1 (i:=0) 0x8 0x1;obtain ⟨v9,e9,o9⟩:=dY ho1 (i:=9) 0x8 0x1;obtain ⟨v156,e156,o156⟩:=dY ho1 (i:=156) 0x8 0x1;obtain ⟨a0R,e157,o157⟩:=dY ho1 (i:=157) 0x8 0x1;obtain ⟨WR,e158,o158⟩:=dY ho1 (i:=158) 0x8 0x1;obtain ⟨v159,e159,o159⟩:=dY ho1 (i:=159) 0x8 0x1;obtain ⟨v160,e160,o160⟩:=dY ho1 (i:=160) 0x8 0x1;obtain ⟨v161,e161,o161⟩:=dY ho1 (i:=161) 0x8 0x1;obtain ⟨v162,e162,o162⟩:=dY ho1 (i:=162) 0x8 0x1;obtain ⟨v163,e163,o163⟩:=dY ho1 (i:=163) 0x8 0x1;dsimp only [dX];refine ⟨_,rfl,_,rfl,r,_,rfl,aZ.of r1,fun p hp=>?_⟩;rw [qU (j:=1) (i:=1) rfl 0x1];have ss:=ao hp (.lst ((fs.drop 1).map V.int));have pv:(upd H1 p (.lst ((fs.drop 1).map V.int))) p=some (.lst ((fs.drop 1).map V.int)):=ak;have r2:=ss _ _ r1;have s2:=s1.trans ss;clear ss;generalize upd H1 p (.lst ((fs.drop 1).map V.int))=H2 at pv r2 s2 ⊢;refine ⟨small 0x5,fun c hc=>?_⟩;have ss:=ao hc (.lst [V.int 3,V.int 7]);have cv:(upd H2 c (.lst [V.int 3,V.int 7])) c=some (.lst [V.int 3,V.int 7]):=ak;have r3:=ss _ _ r2;have pw:=ss _ _ pv;have s3:=s2.trans ss;clear ss;generalize upd H2 c (.lst [V.int 3,V.int 7])=H3 at cv r3 pw s3 ⊢;obtain ⟨many,em',hm⟩:∃ m:Int,lZ [V.int 3,V.int 7] (v9 % 2)=some (V.int m)/\(m=3\/m=7):=by
  obtain ⟨x,ex,mx⟩:=fK (xs:=[V.int 3,V.int 7]) (i:=v9 % 2) (Int.emod_nonneg _ 0x8) (Int.emod_lt_of_pos _ 0x8);simp only [List.mem_cons,List.not_mem_nil,or_false] at mx;rcases mx with rfl | rfl
  ·exact ⟨_,ex,.inl rfl⟩
  ·exact ⟨_,ex,.inr rfl⟩
 refine ⟨_,rfl,r,_,_,_,rfl,rfl,aZ.of r3,e9,_,_,rfl,rfl,(by show (0:Int)<2;decide),c,_,_,_,rfl,rfl,aZ.of cv,em',p,fs.drop 1,many,rfl,aZ.of pw,by rw [List.length_drop];lia,fun v hv=>ho1 v (List.mem_of_mem_drop hv),by lia,by lia,fun b H4 zs s4 hb0 b4 Uk HN hzd=>?_⟩
 have t4:=s3.trans s4;have r4:=s4 _ _ r3;clear s1 s2 s3 s4 pw cv r1 r2 r3;dsimp only [dX];refine ⟨small 0x5,fun rl hrl=>?_⟩;have rl0:H rl=none:=t4.free hrl;have ss:=ao hrl (.lst ([]:List V));have rlv:(upd H4 rl (.lst ([]:List V))) rl=some (.lst ([]:List V)):=ak;have r5:=ss _ _ r4;have b5:=ss _ _ b4;have t5:=t4.trans ss;clear ss;generalize upd H4 rl (.lst ([]:List V))=H5 at rlv r5 b5 t5 ⊢;dsimp only [dX];refine BZ (a:=MP _ _ _) (fun σ' H'=>∃ (rs:List Rw) (u4 u5:Option V),σ'=[some (.ref a),some (.ref r),some (.ref b),some (.ref rl),u4,u5,none,none,none,none,none,none,none,none,none]/\Same H H'/\H' r=some (.lst (fs.map V.int))/\H' b=some (.lst (zs.map V.str))/\H' rl=some (.lst (rs.map fun q:Rw=>V.ref q.1))/\(∀ q∈rs,xO H' q)/\rs.length<=9) ?_ (fun kn=>?_)
 rotate_left
 ·refine ⟨_,rfl,r,_,_,_,rfl,rfl,aZ.of r5,e0,_,_,rfl,rfl,(by show (0:Int)<10;decide),v0 % 10,rfl,by lia,by lia,?_⟩
  refine iY (lo:=0) (n:=(v0 % 10).toNat) (fun i σ' H'=>∃ (rs:List Rw) (u4 u5:Option V),σ'=[some (.ref a),some (.ref r),some (.ref b),some (.ref rl),u4,u5,none,none,none,none,none,none,none,none,none]/\Same H H'/\H' r=some (.lst (fs.map V.int))/\H' b=some (.lst (zs.map V.str))/\H' rl=some (.lst (rs.map fun q:Rw=>V.ref q.1))/\(∀ q∈rs,xO H' q)/\rs.length<=i) ⟨[],none,none,rfl,t5,r5,b5,rlv,(fun q hq=>by cases hq),Nat.le_refl _⟩ ?_ ?_
  ·rintro i σ Hx hi ⟨rs,u4,u5,rfl,sx,rx,bx,lx,okx,WT⟩;refine ⟨_,rfl,_,rfl,_,_,rfl,rfl,.inl ⟨by decide,by decide⟩,_,_,rfl,rfl,_,rfl,r,_,rfl,aZ.of rx,fun q hq=>?_⟩;rw [qU (j:=12+13 * i) (i:=12+13 * (0+(i:Int))) 0x1 0x1];have okr:=fun q0 h0=>(okx q0 h0).same (ao hq (.lst ((fs.drop (12+13 * i)).map V.int)));have ss:=ao hq (.lst ((fs.drop (12+13 * i)).map V.int));have qv:(upd Hx q (.lst ((fs.drop (12+13 * i)).map V.int))) q=some (.lst ((fs.drop (12+13 * i)).map V.int)):=ak;have ry:=ss _ _ rx;have by_:=ss _ _ bx;have ly:=ss _ _ lx;have sy:=sx.trans ss;clear ss;generalize upd Hx q (.lst ((fs.drop (12+13 * i)).map V.int))=Hy at qv ry by_ ly sy okr ⊢;refine ⟨_,rfl,q,b,fs.drop (12+13 * i),zs,rfl,aZ.of qv,by rw [List.length_drop];lia,fun v hv=>ho1 v (List.mem_of_mem_drop hv),aZ.of by_,by lia,by lia,HN,hzd,fun c k rest Hz sz hc5 hl6 Rr hw=>?_⟩;have oky:=fun q0 h0=>(okr q0 h0).same sz;have lz:=sz _ _ ly;have rz:=sz _ _ ry;have bz:=sz _ _ by_;have gz:=sy.trans sz;have cIS:=a2y hw Rr;dsimp only [dX];have lz':Hz rl=some (.lst ((rs.map (·.1)).map V.ref)):=by rw [lz,List.map_map];rfl
   refine ⟨_,rfl,_,rfl,c,rl,rs.map (·.1),_,rs.map (fun q:Rw=>V.str q.2.1::q.2.2),rfl,rfl,aZ.of lz',hc5,cIS,rw_rows oky,(fun q hq=>by
    obtain ⟨q0,h0,rfl⟩:=List.mem_map.mp hq;exact (oky q0 h0).2.2),_,rfl,?_⟩
   refine bG (fun _=>?_) (fun _=>?_)
   ·refine ⟨_,rfl,.inl ⟨rfl,_,aZ.of lz⟩,_,rfl,rl,_,_,rfl,rfl,lz,by rw [bV];exact cQ 0x1,?_⟩;have nq:∀ {x:Addr}{xs:List V},Hz x=some (.tup xs)->x≠rl:=fun h e=>by rw [e,lz] at h;cases h
    have nr:∀ {x:Addr}{o},H4 x=some o->x≠rl:=fun h e=>by rw [e,hrl] at h;cases h
    refine ⟨rs++[(c,k,rest)],_,_,rfl,aV gz rl0,by rw [aG (nr r4)];exact rz,by rw [aG (nr b4)];exact bz,by rw [ak,jB];rfl,fun q0 h0=>?_,by rw [jA,List.length_singleton];lia⟩;rcases List.mem_append.mp h0 with h0 | h0
    ·obtain ⟨x1,x2⟩:=oky q0 h0;exact ⟨by rw [aG (nq x1)];exact x1,x2⟩
    ·rw [List.mem_singleton.mp h0];exact ⟨by rw [aG (nq hc5)];exact hc5,hw,cIS⟩
   ·exact ⟨rs,_,_,rfl,gz,rz,bz,lz,oky,by lia⟩
  ·rintro σ Hx ⟨rs,u4,u5,rfl,sx,rx,bx,lx,okx,WT⟩;exact kn _ _ ⟨rs,u4,u5,rfl,sx,rx,bx,lx,okx,by lia⟩
 rintro σ' Hx ⟨rs,u4,u5,rfl,sx,rx,bx,lx,okx,WT⟩;refine BZ (a:=tQ _ _) (fun σ' H'=>∃ (en:Addr) (ts:List Et),σ'=[some (.ref a),some (.ref r),some (.ref b),some (.ref rl),u4,u5,some (.ref en),none,none,none,none,none,none,none,none]/\Same H H'/\H' r=some (.lst (fs.map V.int))/\H' en=some (.lst (ts.map fun t:Et=>V.ref t.2.1))/\(∀ t∈ts,lO H' t/\t.1<=410)/\ts.length<=9) ?_ (fun kn=>?_)
 rotate_left
 ·refine ⟨_,rfl,_,rfl,r,rl,fs,rs,rfl,aZ.of rx,hl,ho1,lx,okx,by lia,fun q ts H' s' q0 hq hts hmap=>?_⟩;have tl:ts.length=rs.length:=by rw [<- hmap,bV]
  exact kn _ _ ⟨q,ts,rfl,sx.trans s',s' _ _ rx,hq,hts,by lia⟩
 clear okx WT lx bx rx sx;rintro σ' Hx ⟨en,ts,rfl,sx,rx,ex,okx,WT⟩;refine BZ (a:=tQ _ _) (fun σ' H'=>∃ fr:Int,σ'=[some (.ref a),some (.ref r),some (.ref b),some (.ref rl),u4,u5,some (.ref en),some (.int fr),none,none,none,none,none,none,none]/\Same H H'/\H' r=some (.lst (fs.map V.int))/\H' en=some (.lst (ts.map fun t:Et=>V.ref t.2.1))/\(∀ t∈ts,lO H' t)/\0<=fr/\fr<=9999) ?_ (fun kn=>?_)
 rotate_left
 ·refine ⟨small 0x5,fun t0 ht0=>?_⟩;have ok1:∀ t∈ts,lO (upd Hx t0 (.tup [V.int 0,V.int 0])) t:=fun t ht=>(okx t ht).1.same (ao ht0 _);have ss:=ao ht0 (.tup [V.int 0,V.int 0]);have t0v:(upd Hx t0 (.tup [V.int 0,V.int 0])) t0=some (.tup [V.int 0,V.int 0]):=ak;have r6:=ss _ _ rx;have e6:=ss _ _ ex;have t6:=sx.trans ss;clear ss;generalize upd Hx t0 (.tup [V.int 0,V.int 0])=H6 at t0v r6 e6 t6 ok1 ⊢;refine ⟨small 0x5,fun l0 hl0=>?_⟩;have ok2:∀ t∈ts,lO (upd H6 l0 (.lst [V.ref t0])) t:=fun t ht=>(ok1 t ht).same (ao hl0 _);have ss:=ao hl0 (.lst [V.ref t0]);have l0v:(upd H6 l0 (.lst [V.ref t0])) l0=some (.lst [V.ref t0]):=ak;have r7:=ss _ _ r6;have e7:=ss _ _ e6;have t0w:=ss _ _ t0v;have t7:=t6.trans ss;clear ss;generalize upd H6 l0 (.lst [V.ref t0])=H7 at l0v r7 e7 t0w t7 ok2 ⊢;refine ⟨_,rfl,l0,en,_,_,rfl,rfl,l0v,e7,a0Q _ (by rw [bV,List.length_singleton];lia),fun l1 hl1'=>?_⟩;have ok3:∀ t∈ts,lO (upd H7 l1 (.lst ([V.ref t0]++ts.map fun t:Et=>V.ref t.2.1))) t:=fun t ht=>(ok2 t ht).same (ao hl1' _);have ss:=ao hl1' (.lst ([V.ref t0]++ts.map fun t:Et=>V.ref t.2.1));have l1v:(upd H7 l1 (.lst ([V.ref t0]++ts.map fun t:Et=>V.ref t.2.1))) l1=some (.lst ([V.ref t0]++ts.map fun t:Et=>V.ref t.2.1)):=ak;have r8:=ss _ _ r7;have e8:=ss _ _ e7;have t0x:=ss _ _ t0w;have t8:=t7.trans ss;clear ss;generalize upd H7 l1 (.lst ([V.ref t0]++ts.map fun t:Et=>V.ref t.2.1))=H8 at l1v r8 e8 t0x t8 ok3 ⊢;refine ⟨l1,rfl,⟨_,aZ.of l1v⟩,fun D hD=>?_⟩;refine gW (K:=K) (a:=l1) (xs:=[V.ref t0]++ts.map fun t:Et=>V.ref t.2.1) (fun i ys H9=>ys=((((0:Int)::ts.map (·.1)).take i).map V.int)/\Same H8 H9/\H9 D=some (.lst ys)) (fun i ys H9 h=>aZ.of (h.2.1 _ _ l1v)) ⟨rfl,ao hD _,ak⟩ (fun i ys H9 h=>h.2.2) ?_ ?_
  ·rintro i ys H9 x hx ⟨rfl,s9,WW⟩;refine 0x2E;refine dN ?_;have hnum:∃ (o:Addr) (n:Int) (y:V),x=.ref o/\H9 o=some (.tup [.int n,y])/\((0:Int)::ts.map (·.1))[i]?=some n:=by
    cases i with
    | zero =>
     have e:V.ref t0=x:=by simpa using hx
     exact ⟨t0,0,_,e.symm,s9 _ _ t0x,rfl⟩
    | succ j =>
     have hx':(ts.map fun t:Et=>V.ref t.2.1)[j]?=some x:=by simpa using hx
     rw [jT] at hx';obtain ⟨t,ht,rfl⟩:=Option.map_eq_some_iff.mp hx';refine ⟨t.2.1,t.1,_,rfl,s9 _ _ (ok3 t (lU ht)).1,?_⟩;rw [List.getElem?_cons_succ,jT,ht];rfl
   obtain ⟨o,n,y,rfl,ho,hn⟩:=hnum;have hil:i<1+ts.length:=by
    have:=(List.getElem?_eq_some_iff.mp hn).1;rw [jU,bV] at this;lia
   refine ⟨_,rfl,o,_,_,_,rfl,rfl,dG.of ho,at0 _ _,WW,?_,?_,aV s9 hD,ak⟩
   ·rw [bV,List.length_take];exact cQ 0x1
   ·rw [List.take_add_one,hn,jB];rfl
  ·rintro ys H9 ⟨rfl,s9,WW⟩;rw [List.take_of_length_le 0x5] at WW;obtain ⟨last,hlm,a2E⟩:=Uc (xs:=(0:Int)::ts.map (·.1)) (List.cons_ne_nil _ _);have lb:0<=last/\last<=410:=by
    rcases List.mem_cons.mp hlm with e | hm
    ·rw [e];exact ⟨by decide,by decide⟩
    ·obtain ⟨t,ht,rfl⟩:=List.mem_map.mp hm;obtain ⟨⟨_,_,x1,_⟩,x2⟩:=okx t ht;exact ⟨by lia,x2⟩
   refine ⟨_,rfl,D,_,_,_,rfl,rfl,aZ.of WW,a2E,_,_,rfl,rfl,_,rfl,r,_,_,_,rfl,rfl,aZ.of (s9 _ _ r8),e160,_,_,rfl,rfl,(by show (0:Int)<3;decide),_,_,rfl,rfl,?_⟩
   exact kn _ _ ⟨_,rfl,t8.trans s9,s9 _ _ r8,s9 _ _ e8,fun t ht=>(ok3 t ht).same s9,by lia,by lia⟩
 clear okx rx ex sx;rintro σ' Hx ⟨fr,rfl,sx,rx,ex,okx,fr0,fr1⟩;refine BZ (a:=oW _ _ _) (fun σ' H'=>∃ (en:Addr) (ts:List Et) (fr:Int) (u8 u9:Option V),σ'=[some (.ref a),some (.ref r),some (.ref b),some (.ref rl),u4,u5,some (.ref en),some (.int fr),u8,u9,none,none,none,none,none]/\Same H H'/\H' r=some (.lst (fs.map V.int))/\H' en=some (.lst (ts.map fun t:Et=>V.ref t.2.1))/\(∀ t∈ts,lO H' t)/\ts.length<=10/\0<=fr/\fr<=9999) ?_ (fun kn=>?_)
 rotate_left
 ·refine ⟨_,rfl,small 0x5,fun c0 hc0=>?_⟩;have ok1:∀ t∈ts,lO (upd Hx c0 (.lst ([]:List V))) t:=fun t ht=>(okx t ht).same (ao hc0 _);have ss:=ao hc0 (.lst ([]:List V));have c0v:(upd Hx c0 (.lst ([]:List V))) c0=some (.lst ([]:List V)):=ak;have r6:=ss _ _ rx;have e6:=ss _ _ ex;have t6:=sx.trans ss;clear ss;generalize upd Hx c0 (.lst ([]:List V))=H6 at c0v r6 e6 t6 ok1 ⊢;have skip:∀ H',Same H6 H'->_:=fun H' s'=>kn _ _ ⟨en,ts,fr,none,none,rfl,t6.trans s',s' _ _ r6,s' _ _ e6,fun t ht=>(ok1 t ht).same s',by lia,fr0,fr1⟩;refine a2C ok1 e6 c0v ⟨_,rfl,?_⟩;refine bG (fun Gd=>?_) (fun _=>bZ (skip H6 (Same.refl _)));have tne:1<=ts.length:=by
   cases ts with
   | nil=>simp at Gd
   | cons t q=>simp
  refine ⟨_,rfl,r,_,_,_,rfl,rfl,aZ.of r6,e159,_,_,rfl,rfl,(by show (0:Int)<6;decide),rfl,_,rfl,?_⟩
  refine bG (fun _=>?_) (fun _=>skip H6 (Same.refl _));have xP:(0:Int)<((ts.map fun t:Et=>V.ref t.2.1).length:Int):=by rw [bV];lia
  have a0:=Int.emod_nonneg a0R (Int.ne_of_gt xP);have a1:=Int.emod_lt_of_pos a0R xP;refine ⟨_,rfl,r,_,_,_,rfl,rfl,aZ.of r6,e157,_,rfl,en,_,rfl,.inl (aZ.of e6),_,_,rfl,rfl,xP,?_⟩;dsimp only [dX];generalize a0R % ((ts.map fun t:Et=>V.ref t.2.1).length:Int)=at_ at a0 a1 ⊢;rw [bV] at a1;refine ⟨_,rfl,en,rfl,⟨_,aZ.of e6⟩,fun ag hag=>?_⟩;have ag0:H ag=none:=t6.free hag;refine gW (K:=K) (a:=en) (xs:=ts.map fun t:Et=>V.ref t.2.1) (fun i ys H7=>ys=(ts.take i).map (fun t:Et=>V.ref t.2.2.1)/\Same H6 H7/\H7 ag=some (.lst ys)) (fun i ys H7 h=>aZ.of (h.2.1 _ _ e6)) ⟨rfl,ao hag _,ak⟩ (fun i ys H7 h=>h.2.2) ?_ ?_
  ·rintro i ys H7 x hx ⟨rfl,s7,hD7⟩;rw [jT] at hx;obtain ⟨t,ht,rfl⟩:=Option.map_eq_some_iff.mp hx;have hi:i<ts.length:=(List.getElem?_eq_some_iff.mp ht).1;refine 0x2E;refine dN ?_;refine ⟨_,rfl,t.2.1,_,_,_,rfl,rfl,dG.of (s7 _ _ (ok1 t (lU ht)).1),fH (j:=1) rfl,hD7,?_,?_,aV s7 hag,ak⟩
   ·rw [bV,List.length_take];exact cQ 0x1
   ·rw [List.take_add_one,ht,jB];rfl
  rintro ys H7 ⟨rfl,s7,hD7⟩;rw [bV,List.take_length] at hD7;dsimp only [dX];have r7:=s7 _ _ r6;have e7:=s7 _ _ e6;have a0S:(0:Int)<((ts.map fun t:Et=>V.ref t.2.1).length:Int) - at_:=by rw [bV];lia
  have b0:=Int.emod_nonneg WR (Int.ne_of_gt a0S);have b1:=Int.emod_lt_of_pos WR a0S;obtain ⟨ta,eta,mta⟩:∃ t,lZ (ts.map fun t:Et=>V.ref t.2.2.1) at_=some (V.ref t.2.2.1)/\t∈ts:=by
   obtain ⟨v,e,m⟩:=fK (xs:=ts.map fun t:Et=>V.ref t.2.2.1) a0 (by rw [bV];exact a1);obtain ⟨t,ht,rfl⟩:=List.mem_map.mp m;exact ⟨t,e,ht⟩
  refine ⟨_,rfl,.inl ⟨rfl,_,aZ.of hD7⟩,_,rfl,_,_,rfl,rfl,_,rfl,r,_,_,_,rfl,rfl,aZ.of r7,e158,_,rfl,en,_,rfl,.inl (aZ.of e7),_,rfl,_,_,rfl,rfl,_,_,rfl,rfl,a0S,?_⟩;obtain ⟨xx,hxx⟩:∃ xx,xx=WR % (((ts.map fun t:Et=>V.ref t.2.1).length:Int) - at_):=⟨_,rfl⟩;rw [<- hxx] at b0 b1;rw [bV] at b1;refine ⟨_,_,rfl,rfl,_,rfl,_,rfl,ag,_,_,_,rfl,rfl,aZ.of hD7,eta,?_⟩;obtain ⟨ii,hii⟩:∃ ii:Nat,at_+1+xx=(ii:Int):=⟨(at_+1+xx).toNat,by lia⟩;have iil:ii<=ts.length:=by lia
  refine ⟨ag,_,ii,_,rfl,(by show [V.int (at_+1+WR % (((ts.map fun t:Et=>V.ref t.2.1).length:Int) - at_)),V.ref ta.2.2.1]=[V.int (ii:Int),V.ref ta.2.2.1];rw [<- hxx,hii]),hD7,by rw [bV];exact iil,by rw [bV];lia,?_⟩
  have eag:(ts.map fun t:Et=>V.ref t.2.2.1).take ii++V.ref ta.2.2.1::(ts.map fun t:Et=>V.ref t.2.2.1).drop ii=((ts.map (·.2.2)).take ii++ta.2.2::(ts.map (·.2.2)).drop ii).map fun q:Rw=>V.ref q.1:=by
   rw [jB,List.map_cons,List.map_take,List.map_drop,List.map_map];rfl
  rw [eag];have gin:∀ q∈(ts.map (·.2.2)).take ii++ta.2.2::(ts.map (·.2.2)).drop ii,xO H6 q:=fun q hq=>by
   have:q∈ts.map (·.2.2):=by
    rcases List.mem_append.mp hq with h | h
    ·exact List.mem_of_mem_take h
    ·rcases List.mem_cons.mp h with h | h
     ·rw [h];exact List.mem_map_of_mem mta
     ·exact List.mem_of_mem_drop h
   obtain ⟨t,ht,rfl⟩:=List.mem_map.mp this;exact (ok1 t ht).2.1
  have glen:((ts.map (·.2.2)).take ii++ta.2.2::(ts.map (·.2.2)).drop ii).length<=10:=by
   rw [jA,jU,List.length_take,List.length_drop,bV];lia
  generalize (ts.map (·.2.2)).take ii++ta.2.2::(ts.map (·.2.2)).drop ii=gs at gin glen ⊢;have nag:∀ {x:Addr}{o},H6 x=some o->x≠ag:=fun h e=>by rw [e,hag] at h;cases h
  have s8:Same H6 (upd H7 ag (.lst (gs.map fun q:Rw=>V.ref q.1))):=fun x o h=>by rw [aG (nag h)];exact s7 _ _ h
  have g8:(upd H7 ag (.lst (gs.map fun q:Rw=>V.ref q.1))) ag=some (.lst (gs.map fun q:Rw=>V.ref q.1)):=ak;generalize upd H7 ag (.lst (gs.map fun q:Rw=>V.ref q.1))=H8 at s8 g8 ⊢;dsimp only [dX];refine ⟨_,rfl,ag,_,rfl,aZ.of g8,fun ne' hne'=>?_⟩;refine qt (n:=gs.length) (fx:=fun i=>V.int ((0+i:Nat):Int)) (fy:=fun i=>(gs.map fun q:Rw=>V.ref q.1).getD i .non) (fun i ys H9=>∃ us:List Et,ys=us.map (fun t:Et=>V.ref t.2.1)/\us.length=i/\Same H8 H9/\(∀ t∈us,lO H9 t)/\H9 ne'=some (.lst ys)) (fun i ys H9 ⟨us,_,_,s9,_,_⟩=>by
    have q:=pA (K:=K) (c:=0) (i:=i) (aZ.of (s9 _ _ g8));rw [bV] at q;exact q) ⟨[],rfl,rfl,ao hne' _,(fun t ht=>by cases ht),ak⟩ (fun i ys H9 ⟨us,_,_,_,_,h⟩=>h) ?_ ?_
  ·rintro i ys H9 t hi ⟨us,rfl,hul,s9,oku,WW⟩ ht;obtain ⟨q,hqi⟩:∃ q,gs[i]?=some q:=⟨gs[i],dO hi⟩;have a0F:(gs.map fun q:Rw=>V.ref q.1).getD i .non=V.ref q.1:=by
    rw [iI,jT,hqi];rfl
   rw [a0F];have st:=ao ht (.tup [V.int ((0+i:Nat):Int),V.ref q.1]);refine ⟨t,_,rfl,dG.of ak,rfl,_,_,rfl,_,_,rfl,rfl,Kp.set rfl (Kp.set rfl (Kp.refl _)),?_⟩;have g9:=s9.trans st;have oku':∀ t∈us,lO _ t:=fun t0 h0=>(oku t0 h0).same st;have WX:=st _ _ WW;generalize upd H9 t (.tup [V.int ((0+i:Nat):Int),V.ref q.1])=Ha at g9 oku' WX ⊢;refine dN ?_;refine ⟨_,rfl,_,_,rfl,rfl,.inl ⟨by decide,by decide⟩,_,_,rfl,rfl,_,rfl,small 0x5,fun te Ol=>?_⟩;have se:=ao Ol (.tup [V.int (2 * ((0+i:Nat):Int)+1),V.ref q.1]);have nne:te≠ne':=fun e=>by rw [e,WX] at Ol;cases Ol
   refine ⟨se _ _ WX,by rw [bV];exact cQ 0x1,us++[(2 * ((0+i:Nat):Int)+1,te,q)],by rw [jB];rfl,by rw [jA,List.length_singleton,hul],?_,?_,ak⟩
   ·exact aV (g9.trans se) hne'
   ·have nt:∀ {x:Addr}{xs:List V},Ha x=some (.tup xs)->x≠ne':=fun h e=>by rw [e,WX] at h;cases h
    intro t0 h0;rcases List.mem_append.mp h0 with h0 | h0
    ·obtain ⟨x1,⟨x2,x3⟩,x4⟩:=oku' t0 h0;exact ⟨by rw [aG (nt x1)];exact se _ _ x1,⟨by rw [aG (nt x2)];exact se _ _ x2,x3⟩,x4⟩
    ·rw [List.mem_singleton.mp h0];obtain ⟨y1,y2⟩:=gin q (lU hqi);have y1':=g9 _ _ (s8 _ _ y1);refine ⟨by rw [aG nne];exact ak,⟨by rw [aG (nt y1')];exact se _ _ y1',y2⟩,?_,?_⟩
     ·show 1<=2 * ((0+i:Nat):Int)+1;lia
     ·show 2 * ((0+i:Nat):Int)+1<=9999;lia
  rintro ys H9 ⟨us,rfl,hul,s9,oku,WW⟩;dsimp only [dX];have r9:=s9 _ _ (s8 _ _ r6);refine ⟨_,rfl,ne',_,rfl,.inl (aZ.of WW),_,_,rfl,rfl,.inl ⟨by decide,by decide⟩,_,rfl,r,_,_,_,rfl,rfl,aZ.of r9,e156,_,_,rfl,rfl,(by show (0:Int)<2;decide),_,_,rfl,rfl,?_⟩
  have ulen:((us.map fun t:Et=>V.ref t.2.1).length:Int)=(us.length:Int):=by rw [bV]
  exact kn _ _ ⟨ne',us,_,_,_,rfl,t6.trans (s8.trans s9),r9,WW,oku,by lia,by lia,by lia⟩
 clear okx rx ex sx;rintro σ' Hx ⟨en,ts,fr,u8,u9,rfl,sx,rx,ex,okx,lx,fr0,fr1⟩;refine BZ (a:=tQ _ _) (fun σ' H'=>∃ (y:Str) (u6 u7:Option V),σ'=[some (.ref a),some (.ref r),some (.ref b),some (.ref rl),u4,u5,u6,u7,u8,u9,some (.str y),none,none,none,none]/\Same H H'/\H' r=some (.lst (fs.map V.int))/\Pg 13 80 y) ?_ (fun kn=>?_)
 rotate_left
 ·refine ⟨_,rfl,r,_,_,_,rfl,rfl,aZ.of rx,e161,_,_,rfl,rfl,(by show (0:Int)<9999;decide),_,_,rfl,rfl,_,rfl,r,_,_,_,rfl,rfl,aZ.of rx,e162,_,_,rfl,rfl,(by show (0:Int)<100;decide),_,rfl,_,rfl,1+v161 % 9999,v162 % 100,fr,en,ts,rfl,by lia,by lia,by lia,by lia,fr0,fr1,ex,okx,lx,fun y H' s' pg=>?_⟩
  exact kn _ _ ⟨y,_,_,rfl,sx.trans s',s' _ _ rx,pg⟩
 clear okx rx ex sx;rintro σ' Hx ⟨y0,u6,u7,rfl,sx,rx,pg0⟩;refine BZ (a:=MP _ _ _) (fun σ' H'=>∃ (y:Str) (u4:Option V),σ'=[some (.ref a),some (.ref r),some (.ref b),some (.ref rl),u4,u5,u6,u7,u8,u9,some (.str y),none,none,none,none]/\Same H H'/\Pg 52 840 y) ?_ (fun kn=>?_)
 rotate_left
 ·refine ⟨_,rfl,r,_,_,_,rfl,rfl,aZ.of rx,e163,_,_,rfl,rfl,(by show (0:Int)<3;decide),v163 % 3,rfl,by lia,by lia,?_⟩
  refine iY (lo:=0) (n:=(v163 % 3).toNat) (fun j σ' H'=>∃ (y:Str) (u4:Option V),σ'=[some (.ref a),some (.ref r),some (.ref b),some (.ref rl),u4,u5,u6,u7,u8,u9,some (.str y),none,none,none,none]/\Same H H'/\H' r=some (.lst (fs.map V.int))/\Pg (Mr j).1 (Mr j).2 y) ⟨y0,u4,rfl,sx,rx,pg0⟩ ?_ ?_
  ·rintro j σ Hy hj ⟨y,u4,rfl,sy,ry,Yp⟩;have hj2:(Mr j).1<=30/\(Mr j).2<=300/\(Mr (j+1)).1=2 * (Mr j).1/\(Mr (j+1)).2=3 * (Mr j).2+30:=by
    have:j=0\/j=1:=by lia
    rcases this with e | e <;> rw [e] <;> decide
   have pgn:Pg (Mr (j+1)).1 (Mr (j+1)).2 y:=by rw [hj2.2.2.1,hj2.2.2.2];exact Yp.up
   have yl:y.length<=100000:=Ii Yp 0x1 0x1;refine 0xB;refine bG (fun _=>?_) (fun _=>bZ ⟨y,_,rfl,sy,ry,pgn⟩);refine ⟨_,rfl,rfl,_,_,rfl,rfl,0x4,(by have:=small (n:=200000) 0x1;lia),fun p hp=>?_⟩;rw [show Txt.split y (Str.ofString "\n")=cJ y from rfl]
   have ss:=ao hp (.lst ((cJ y).map V.str));have pv:(upd Hy p (.lst ((cJ y).map V.str))) p=some (.lst ((cJ y).map V.str)):=ak;have r6:=ss _ _ ry;have t6:=sy.trans ss;clear ss;generalize upd Hy p (.lst ((cJ y).map V.str))=H6 at pv r6 t6 ⊢;refine ⟨_,rfl,_,rfl,p,_,rfl,aZ.of pv,fun q hq=>?_⟩;rw [cW,U4];have ss:=ao hq (.lst ((cJ y).dropLast.map V.str));have qv:(upd H6 q (.lst ((cJ y).dropLast.map V.str))) q=some (.lst ((cJ y).dropLast.map V.str)):=ak;have r7:=ss _ _ r6;have t7:=t6.trans ss;clear ss;generalize upd H6 q (.lst ((cJ y).dropLast.map V.str))=H7 at qv r7 t7 ⊢;refine ⟨small 0x5,fun c hc=>?_⟩;have ss:=ao hc (.lst ([]:List V));have cv:(upd H7 c (.lst ([]:List V))) c=some (.lst ([]:List V)):=ak;have r8:=ss _ _ r7;have qw:=ss _ _ qv;have t8:=t7.trans ss;clear ss;generalize upd H7 c (.lst ([]:List V))=H8 at cv r8 qw t8 ⊢;refine WQ qw cv (fun t ht=>Br Yp.asc (List.dropLast_subset _ ht)) ⟨_,rfl,?_⟩;refine bG (fun Gd=>?_) (fun _=>⟨y,_,rfl,t8,r8,pgn⟩);have two':2<=(cJ y).length:=by
    have:(cJ y).dropLast≠[]:=fun e=>by rw [e] at Gd;simp at Gd
    have h1:=List.length_pos_iff.mpr this;rw [List.length_dropLast] at h1;lia
   refine ⟨_,rfl,_,rfl,_,rfl,_,_,rfl,rfl,.inl ⟨by decide,by decide⟩,_,_,rfl,rfl,_,rfl,r,_,rfl,aZ.of r8,fun q2 hq2=>?_⟩;rw [qU (j:=164+12 * j) (i:=164+12 * (0+(j:Int))) 0x1 0x1];have ss:=ao hq2 (.lst ((fs.drop (164+12 * j)).map V.int));have q2v:(upd H8 q2 (.lst ((fs.drop (164+12 * j)).map V.int))) q2=some (.lst ((fs.drop (164+12 * j)).map V.int)):=ak;have r9:=ss _ _ r8;have t9:=t8.trans ss;clear ss;generalize upd H8 q2 (.lst ((fs.drop (164+12 * j)).map V.int))=H9 at q2v r9 t9 ⊢;refine ⟨y,q2,fs.drop (164+12 * j),(Mr j).1,(Mr j).2,rfl,aZ.of q2v,by rw [List.length_drop];lia,fun v hv=>ho1 v (List.mem_of_mem_drop hv),Yp,two',hj2.1,hj2.2.1,fun y' Ha sa pga=>?_⟩;exact ⟨y',_,rfl,t9.trans sa,sa _ _ r9,by rw [hj2.2.2.1,hj2.2.2.2];exact pga⟩
  ·rintro σ Hy ⟨y,u4,rfl,sy,ry,Yp⟩;exact kn _ _ ⟨y,u4,rfl,sy,a0N Yp⟩
 clear sx rx pg0;rintro σ' Hx ⟨y,u4,rfl,sx,Yp⟩;refine BZ (a:=MP _ _ _) (fun σ' H'=>True) ?_ (fun kn=>?_)
 rotate_left
 ·refine ⟨_,rfl,small 0x5,fun lt hlt=>?_⟩;have ss:=ao hlt (.lst [V.str y,V.str 0x1D]);have ltv:(upd Hx lt (.lst [V.str y,V.str 0x1D])) lt=some (.lst [V.str y,V.str 0x1D]):=ak;have s1:=sx.trans ss;clear ss;generalize upd Hx lt (.lst [V.str y,V.str 0x1D])=H1 at ltv s1 ⊢;refine ⟨lt,rfl,⟨_,aZ.of ltv⟩,?_⟩;refine uU (K:=K) (a:=lt) (xs:=[V.str y,V.str 0x1D]) (fun i σ' H'=>∃ (u4 u5 u6 u7 u8 u9 Yc u12 u13 u14:Option V),σ'=[some (.ref a),some (.ref r),some (.ref b),some (.ref rl),u4,u5,u6,u7,u8,u9,some (.str y),Yc,u12,u13,u14]/\Same H1 H') ⟨_,_,_,_,_,_,_,_,_,_,rfl,Same.refl _⟩ (fun i σ H' _ ⟨u4,u5,u6,u7,u8,u9,Yc,u12,u13,u14,_,s'⟩=>aZ.of (s' _ _ ltv)) ?_ (fun σ H' _=>kn σ H' trivial);rintro i x σ Hy hx ⟨u4,u5,u6,u7,u8,u9,Yc,u12,u13,u14,rfl,sy⟩;obtain ⟨z,rfl,pz⟩:∃ z:Str,x=.str z/\Pg 52 840 z:=by
   have hm:=lU hx;simp only [List.mem_cons,List.not_mem_nil,or_false] at hm;rcases hm with e | e
   ·exact ⟨y,e,Yp⟩
   ·exact ⟨_,e,a2D⟩
  have tz:=a0O pz;cases hpv:dU z with
  | inl n =>
   refine ⟨_,rfl,z,rfl,tz,pz.asc,fun n' hn' h1n t d H2 s2 ht=>?_,fun a' b' fr' es' h'=>by rw [hpv] at h';cases h'⟩;have en:n=n':=by rw [hpv] at hn';injection hn'
   subst en;refine ⟨t,_,rfl,dG.of ht,rfl,_,_,rfl,_,_,rfl,rfl,?_⟩;refine ⟨_,rfl,z,rfl,tz,fun n2 hn2 p q H3 s3 hp hq=>?_,fun a' b' fr' es' h'=>by rw [hpv] at h';cases h'⟩;refine ⟨p,_,rfl,dG.of hp,rfl,_,_,rfl,_,_,rfl,rfl,?_⟩;have g3:=sy.trans (s2.trans s3);refine 0x20;refine bG (fun _=>?_) (fun c=>absurd (decide_eq_true (by show (0:Int)<(n:Int);lia)) c)
   refine ⟨_,rfl,small 0x5,fun m hm=>?_⟩;have sc:=ao hm (.lst wQ);refine ⟨_,_,.lst (sc _ _ hq) (wY [true,false,false,false]),.lst ak (wY [true,false,false,false]),by rfl,by rfl,by decide,_,rfl,bZ ?_⟩;refine ⟨_,rfl,z,rfl,tz,fun n3 hn3 H4 s4=>?_,fun y3 hy3=>by rw [hpv] at hy3;cases hy3⟩;have en3:n=n3:=by rw [hpv] at hn3;injection hn3
   subst en3;refine ⟨_,rfl,_,_,rfl,.inl ⟨rfl,rfl⟩,fun H5 s5=>⟨_,rfl,bZ ?_⟩⟩;refine 0xB;refine bG (fun c=>absurd (fO c) (fun e=>by injection e with e;lia)) (fun _=>?_);exact ⟨_,_,_,_,_,_,_,_,_,_,rfl,g3.trans (sc.trans (s4.trans s5))⟩
  | inr pe =>
   obtain ⟨ps,es⟩:=pe;obtain ⟨a',b',fr',rfl⟩:=Ob hpv;obtain ⟨hpw,hel,her⟩:=Ua hpv;have helen:es.length<=52:=Nat.le_trans hel pz.len;refine ⟨_,rfl,z,rfl,tz,pz.asc,fun n' hn'=>by rw [hpv] at hn';(cases hn'),fun a2 b2 fr2 es2 h2 t d rr le us H2 s2 ht hd hrr hle hE hacc=>?_⟩;rw [hpv] at h2;injection h2 with h2;injection h2 with h21 h22;injection h21 with ea h21;injection ea with ea;injection h21 with eb h21;injection eb with eb;injection h21 with ec h21;injection ec with ec;subst ea eb ec h22;refine ⟨t,_,rfl,dG.of ht,rfl,_,_,rfl,_,_,rfl,rfl,?_⟩;refine ⟨_,rfl,z,rfl,tz,fun n2 hn2=>by rw [hpv] at hn2;(cases hn2),fun a3 b3 fr3 es3 h3 p q x dx st d2 e2 l2 tts H3 s3 hp hq hts RA rw3=>?_⟩;rw [hpv] at h3;injection h3 with h3;injection h3 with h31 h32;injection h31 with ea h31;injection ea with ea;injection h31 with eb h31;injection eb with eb;injection h31 with ec h31;injection ec with ec;subst ea eb ec h32;refine ⟨p,_,rfl,dG.of hp,rfl,_,_,rfl,_,_,rfl,rfl,?_⟩;have g3:=sy.trans (s2.trans s3);have d3:=s3 _ _ hd;have rr3:=s3 _ _ hrr;have le3:=s3 _ _ hle;have E3:=hE.same s3;refine 0x20;refine bG (fun c=>absurd (fO c) 0x8) (fun _=>bZ ?_);refine 0xB;refine bG (fun _=>?_) (fun c=>absurd rfl c);refine ⟨_,rfl,small 0x5,fun m hm=>?_⟩;have sc:=ao hm (.lst ([]:List V));refine ⟨_,_,.lst (sc _ _ hq) .nil,.lst ak .nil,by rfl,by rfl,by decide,_,rfl,bZ ?_⟩;have RA4:=RA.same sc;have d4:=sc _ _ d3;have rr4:=sc _ _ rr3;have le4:=sc _ _ le3;have E4:=E3.same sc;have rw4:eY _ _ _:=L2.Paired.tO rw3 fun a b h=>sc _ _ h;have g4:=g3.trans sc;generalize upd H3 m (.lst ([]:List V))=H4 at RA4 d4 rr4 le4 E4 rw4 g4 ⊢;refine ⟨_,rfl,x,dx,_,rfl,RA4.o,rfl,x,dx,st,d2,e2,l2,a',b',fr',_,_,_,rfl,RA4,?_⟩;refine ⟨_,rfl,x,dx,_,rfl,RA4.o,rfl,x,dx,st,d2,e2,l2,a',b',fr',_,_,_,rfl,RA4,small 0x5,fun ab hab=>?_⟩;have s5:=ao hab (.lst [V.int a',V.int b']);refine ⟨_,rfl,d,_,rfl,Wt (s5 _ _ d4),_,_,rfl,.inr (.inr ⟨ab,rr,_,_,rfl,rfl,ak,s5 _ _ rr4,rfl,by simp,fun j x y hx hy=>?_⟩),fun H6 s6=>⟨_,rfl,bZ ?_⟩⟩
   ·rw [hx] at hy;injection hy with hy;subst hy;have hm:=lU hx;simp only [List.mem_cons,List.not_mem_nil,or_false] at hm;rcases hm with e | e <;> rw [e] <;> exact .inl ⟨rfl,rfl⟩
   have s56:=s5.trans s6;have RA6:=RA4.same s56;have d6:=s56 _ _ d4;have le6:=s56 _ _ le4;have E6:=E4.same s56;have rw6:eY _ _ _:=L2.Paired.tO rw4 fun a b h=>s56 _ _ h;have g6:=g4.trans s56;clear s5 s56;have kl:(tts.map fun p=>(p.1,V.ref p.2.1)).length<64:=by
    have:=congrArg List.length hts;rw [bV] at this;rw [bV];lia
   refine ⟨_,rfl,x,dx,_,rfl,RA6.o,rfl,x,dx,st,d2,e2,l2,a',b',fr',_,_,_,rfl,RA6,kl,fun q7 as ys H7 s7 q70 hq7 hperm hpw7 hI=>?_⟩;have eys:=WL hperm hpw7 (a0M hts hpw);subst eys;have usl:us.length<=1000:=by
    have:=congrArg List.length hacc;unfold gO at this;rw [bV] at this;lia
   refine ⟨_,rfl,d,_,rfl,wR (s7 _ _ d6),_,_,rfl,Ub hq7 hI (L2.Paired.tO rw6 fun a b h=>s7 _ _ h) (s7 _ _ le6) (E6.same s7) (by rw [hacc,hts]) usl (by rw [hacc];exact her),fun H8 s8=>⟨_,rfl,bZ ?_⟩⟩;have s78:Same H6 H8:=fun b o h=>s8 _ _ (s7 _ _ h);have RA8:=RA6.same s78;have d8:=s78 _ _ d6;refine ⟨_,rfl,x,dx,_,rfl,RA8.o,rfl,x,dx,st,d2,e2,l2,a',b',fr',_,_,_,rfl,RA8,?_⟩;refine ⟨_,rfl,d,_,rfl,Lz d8,_,_,rfl,.inl ⟨rfl,rfl⟩,fun H9 s9=>⟨_,rfl,bZ ?_⟩⟩;exact ⟨_,_,_,_,_,_,_,_,_,_,rfl,g6.trans (s78.trans s9)⟩
 rintro σ' Hx' _;exact kk Hx'
theorem kO {P:List Value->Prop} (h:P []):∀ us:List Value,us.length=0->P us
 | [],_=>h
theorem gA {P:List Value->Prop} (h:∀ (a:Value) (us:List Value),us.length=n->P (a::us)):∀ us:List Value,us.length=n+1->P us
 | a::us,e=>h a us (Nat.succ.inj e)
theorem fD {dd:Option Addr}{sl:Array (Option Value)} (h:K.lookup a=some ⟨.type "tuple",dd,.seq its n,sl⟩) (hz:its.size<=sizeLine) (v:Vals xs its.toList):xJ K a xs:=⟨_,its,n,h,rfl,rfl,hz,v⟩
def a0T (K:PySem.W.Frag) (q:List (Str×List cP)) (kvs:List (Str×V)):Prop:=∀ k,(q.lookup k=none->kvs.lookup k=none)/\∀ l,q.lookup k=some l->∃ b,kvs.lookup k=some (.ref b)/\xJ K b (l.map fun s=>.str s.word)
theorem a0U:a0T K [] []:=fun k=>⟨fun _=>rfl,fun l h=>nomatch h⟩
theorem lQ {l:List cP}{q:List (Str×List cP)}{kvs:List (Str×V)} (h:xJ K b (l.map fun s=>.str s.word)) (ih:a0T K q kvs):a0T K ((x,l)::q) ((x,.ref b)::kvs):=fun k=>by
 rw [List.lookup_cons,List.lookup_cons]
 by_cases e:k=x
 ·subst e;rw [beq_self_eq_true];exact ⟨fun z=>by simp at z,fun l' z=>by
   have:l=l':=by simpa using z
   subst this;exact ⟨b,rfl,h⟩⟩
 ·have e':(k==x)=false:=by simpa using e
  rw [e'];exact ih k
theorem a2F {k:Nat}{s1 s2:Sp} (F:bw P w K mg base CX k f fd ps s1) (G:bw P w K mg base CX k f fd ps s2):bw P w K mg base CX k f fd ps (fun vs H Q E=>s1 vs H Q E\/s2 vs H Q E) :=
 ⟨fun vs H Q E h=>h.elim (F.len vs H Q E) (G.len vs H Q E),fun A outer s H args us vs Q E hr he hb hv hs=>hs.elim (F.run A outer s H args us vs Q E hr he hb hv) (G.run A outer s H args us vs Q E hr he hb hv)⟩
theorem all_mk {l:PySem.W.OpenLaw}{fa f3 f4 f5 f6 f7 f8 f9 f10 f11 f12 f13 f14 f15 f16 f17 f18 f19 f20 f21 f22 f23 f24 f25 f26 f27 f28 f29 f30 f31 f32 f33 f34 f35 f36 f37:Addr} (X:K.In h) (G:h.Ns mainGlobals mg) (hfa:mg "law"=some (.ref fa))
  {od1 an1 od2 an2 od3 an3 od4 an4 od5 an5 od6 an6 od7 an7 od8 an8 od9 an9 od10 an10 od11 an11 od12 an12 od13 an13 od14 an14 od15 an15 od16 an16 od17 an17 od18 an18 od19 an19 od20 an20 od21 an21 od22 an22 od23 an23 od24 an24 od25 an25 od26 an26 od27 an27 od28 an28 od29 an29 od30 an30 od31 an31 od32 an32 od33 an33 od34 an34 od35 an35 od36 an36 od37 an37:Option Addr}{sl1 sl2 sl3 sl4 sl5 sl6 sl7 sl8 sl9 sl10 sl11 sl12 sl13 sl14 sl15 sl16 sl17 sl18 sl19 sl20 sl21 sl22 sl23 sl24 sl25 sl26 sl27 sl28 sl29 sl30 sl31 sl32 sl33 sl34 sl35 sl36 sl37:Array (Option Value)}{oc1 kV1 dc1 pm1 cd1 ct1 oc2 kV2 dc2 pm2 cd2 ct2 oc3 kV3 dc3 pm3 cd3 ct3 oc4 kV4 dc4 pm4 cd4 ct4 oc5 kV5 dc5 pm5 cd5 ct5 oc6 kV6 dc6 pm6 cd6 ct6 oc7 kV7 dc7 pm7 cd7 ct7 oc8 kV8 dc8 pm8 cd8 ct8 oc9 kV9 dc9 pm9 cd9 ct9 oc10 kV10 dc10 pm10 cd10 ct10 oc11 kV11 dc11 pm11 cd11 ct11 oc12 kV12 dc12 pm12 cd12 ct12 oc13 kV13 dc13 pm13 cd13 ct13 oc14 kV14 dc14 pm14 cd14 ct14 oc15 kV15 dc15 pm15 cd15 ct15 oc16 kV16 dc16 pm16 cd16 ct16 oc17 kV17 dc17 pm17 cd17 ct17 oc18 kV18 dc18 pm18 cd18 ct18 oc19 kV19 dc19 pm19 cd19 ct19 oc20 kV20 dc20 pm20 cd20 ct20 oc21 kV21 dc21 pm21 cd21 ct21 oc22 kV22 dc22 pm22 cd22 ct22 oc23 kV23 dc23 pm23 cd23 ct23 oc24 kV24 dc24 pm24 cd24 ct24 oc25 kV25 dc25 pm25 cd25 ct25 oc26 kV26 dc26 pm26 cd26 ct26 oc27 kV27 dc27 pm27 cd27 ct27 oc28 kV28 dc28 pm28 cd28 ct28 oc29 kV29 dc29 pm29 cd29 ct29 oc30 kV30 dc30 pm30 cd30 ct30 oc31 kV31 dc31 pm31 cd31 ct31 oc32 kV32 dc32 pm32 cd32 ct32 oc33 kV33 dc33 pm33 cd33 ct33 oc34 kV34 dc34 pm34 cd34 ct34 oc35 kV35 dc35 pm35 cd35 ct35 oc36 kV36 dc36 pm36 cd36 ct36 oc37 kV37 dc37 pm37 a0V ct37:Value}{tL:Tok}{tC:Tok}{tS:Tok}{tM:Tok}{f_T T_ f_I f_A f_B WY X3 aF aB tw_ b5_ b6_ f1_ f2_ f3_ f4_ f5_ f6_ f7_ b1_ b2_ b3_ b4_ b7_ aH_ h1_ h2_ e1_ e2_ c1_ c2_ c3_:Addr}{odT anT ddT:Option Addr}{slT ssT:Array (Option Value)}{ocT kVT dcT pmT cdT ctT v0T:Value}{itT:Array Value}{nT:Nat}{t1T:Tok}{cdC:ClassData}{od_I an_I od_A an_A od_B an_B a2G a2H a2I a2J:Option Addr}{sl_I sl_A sl_B a2K a2L:Array (Option Value)}{oc_I kV_I dc_I pm_I cd_I ct_I oc_A kV_A dc_A pm_A cd_A ct_A oc_B kV_B dc_B pm_B cd_B ct_B a2M a2N a2O a2P Yq a2Q a2R a2S a2T a2U Yr a2V:Value}{Ik Il Im Io Ip Ir Iu Iv Iw Iz IK IV IW J0 J1 J2 J3 J4:Array Value}{a2W a2X a2Y a2Z a3a a3b a3c a3d a3e a3f a3g a3h a3i a3j a3k a3l a3m a3n:Nat}{a0W a0X a0Y a0Z a00 a01 a02 a03 a04 a05 a06 a07 a08 a09 a1a a1b a1c a1d:Option Addr}{a1e a1f a1g a1h a1i a1j a1k a1l a1m a1n a1o a1p a1q a1r a1s a1t a1u a1v:Array (Option Value)}{esF esB:Array DictEntry}{nF nB:Nat}
  (a1:PySem.W.nsIn K mainGlobals "is_name"=some (some (.ref f1))) (l1:K.lookup f1=some ⟨oc1,od1,.func (PySem.W.fnOf "is_name" "is_name" (bh yL) (aY yL) (aC yL) .none kV1 dc1 pm1 an1 cd1 ct1),sl1⟩) (c1:PySem.W.codeIn K cd1 "is_name"=true) (k1:PySem.W.keepIn K (.ref f1)=true)
  (a2:PySem.W.nsIn K mainGlobals "is_well_made"=some (some (.ref f2))) (l2:K.lookup f2=some ⟨oc2,od2,.func (PySem.W.fnOf "is_well_made" "is_well_made" (bh yM) (aY yM) (aC yM) .none kV2 dc2 pm2 an2 cd2 ct2),sl2⟩) (c2:PySem.W.codeIn K cd2 "is_well_made"=true) (k2:PySem.W.keepIn K (.ref f2)=true)
  (a3:PySem.W.nsIn K mainGlobals "fits"=some (some (.ref f3))) (l3:K.lookup f3=some ⟨oc3,od3,.func (PySem.W.fnOf "fits" "fits" (bh yN) (aY yN) (aC yN) .none kV3 dc3 pm3 an3 cd3 ct3),sl3⟩) (c3:PySem.W.codeIn K cd3 "fits"=true) (k3:PySem.W.keepIn K (.ref f3)=true)
  (a4:PySem.W.nsIn K mainGlobals "check_acres"=some (some (.ref f4))) (l4:K.lookup f4=some ⟨oc4,od4,.func (PySem.W.fnOf "check_acres" "check_acres" (bh Ny) (aY Ny) (aC Ny) .none kV4 dc4 pm4 an4 cd4 ct4),sl4⟩) (c4:PySem.W.codeIn K cd4 "check_acres"=true) (k4:PySem.W.keepIn K (.ref f4)=true)
  (a5:PySem.W.nsIn K mainGlobals "check_land"=some (some (.ref f5))) (l5:K.lookup f5=some ⟨oc5,od5,.func (PySem.W.fnOf "check_land" "check_land" (bh Nz) (aY Nz) (aC Nz) .none kV5 dc5 pm5 an5 cd5 ct5),sl5⟩) (c5:PySem.W.codeIn K cd5 "check_land"=true) (k5:PySem.W.keepIn K (.ref f5)=true)
  (a6:PySem.W.nsIn K mainGlobals "roll_of"=some (some (.ref f6))) (l6:K.lookup f6=some ⟨oc6,od6,.func (PySem.W.fnOf "roll_of" "roll_of" (bh nO) (aY nO) (aC nO) .none kV6 dc6 pm6 an6 cd6 ct6),sl6⟩) (c6:PySem.W.codeIn K cd6 "roll_of"=true) (k6:PySem.W.keepIn K (.ref f6)=true)
  (a7:PySem.W.nsIn K mainGlobals "pieces_of"=some (some (.ref f7))) (l7:K.lookup f7=some ⟨oc7,od7,.func (PySem.W.fnOf "pieces_of" "pieces_of" (bh Hq) (aY Hq) (aC Hq) .none kV7 dc7 pm7 an7 cd7 ct7),sl7⟩) (c7:PySem.W.codeIn K cd7 "pieces_of"=true) (k7:PySem.W.keepIn K (.ref f7)=true)
  (a8:PySem.W.nsIn K mainGlobals "piece_of"=some (some (.ref f8))) (l8:K.lookup f8=some ⟨oc8,od8,.func (PySem.W.fnOf "piece_of" "piece_of" (bh sPc) (aY sPc) (aC sPc) .none kV8 dc8 pm8 an8 cd8 ct8),sl8⟩) (c8:PySem.W.codeIn K cd8 "piece_of"=true) (k8:PySem.W.keepIn K (.ref f8)=true)
  (a9:PySem.W.nsIn K mainGlobals "number_of"=some (some (.ref f9))) (l9:K.lookup f9=some ⟨oc9,od9,.func (PySem.W.fnOf "number_of" "number_of" (bh NK) (aY NK) (aC NK) .none kV9 dc9 pm9 an9 cd9 ct9),sl9⟩) (c9:PySem.W.codeIn K cd9 "number_of"=true) (k9:PySem.W.keepIn K (.ref f9)=true)
  (a10:PySem.W.nsIn K mainGlobals "name_of"=some (some (.ref f10))) (l10:K.lookup f10=some ⟨oc10,od10,.func (PySem.W.fnOf "name_of" "name_of" (bh sNm) (aY sNm) (aC sNm) .none kV10 dc10 pm10 an10 cd10 ct10),sl10⟩) (c10:PySem.W.codeIn K cd10 "name_of"=true) (k10:PySem.W.keepIn K (.ref f10)=true)
  (a11:PySem.W.nsIn K mainGlobals "read_page"=some (some (.ref f11))) (l11:K.lookup f11=some ⟨oc11,od11,.func (PySem.W.fnOf "read_page" "read_page" (bh rH) (aY rH) (aC rH) .none kV11 dc11 pm11 an11 cd11 ct11),sl11⟩) (c11:PySem.W.codeIn K cd11 "read_page"=true) (k11:PySem.W.keepIn K (.ref f11)=true)
  (a12:PySem.W.nsIn K mainGlobals "row_of"=some (some (.ref f12))) (l12:K.lookup f12=some ⟨oc12,od12,.func (PySem.W.fnOf "row_of" "row_of" (bh rJ) (aY rJ) (aC rJ) .none kV12 dc12 pm12 an12 cd12 ct12),sl12⟩) (c12:PySem.W.codeIn K cd12 "row_of"=true) (k12:PySem.W.keepIn K (.ref f12)=true)
  (a13:PySem.W.nsIn K mainGlobals "read_heads"=some (some (.ref f13))) (l13:K.lookup f13=some ⟨oc13,od13,.func (PySem.W.fnOf "read_heads" "read_heads" (bh rK) (aY rK) (aC rK) .none kV13 dc13 pm13 an13 cd13 ct13),sl13⟩) (c13:PySem.W.codeIn K cd13 "read_heads"=true) (k13:PySem.W.keepIn K (.ref f13)=true)
  (a14:PySem.W.nsIn K mainGlobals "entry_of"=some (some (.ref f14))) (l14:K.lookup f14=some ⟨oc14,od14,.func (PySem.W.fnOf "entry_of" "entry_of" (bh rM) (aY rM) (aC rM) .none kV14 dc14 pm14 an14 cd14 ct14),sl14⟩) (c14:PySem.W.codeIn K cd14 "entry_of"=true) (k14:PySem.W.keepIn K (.ref f14)=true)
  (a15:PySem.W.nsIn K mainGlobals "_law_feed"=some (some (.ref f15))) (l15:K.lookup f15=some ⟨oc15,od15,.func (PySem.W.fnOf "_law_feed" "_law_feed" (bh yO) (aY yO) (aC yO) .none kV15 dc15 pm15 an15 cd15 ct15),sl15⟩) (c15:PySem.W.codeIn K cd15 "_law_feed"=true) (k15:PySem.W.keepIn K (.ref f15)=true)
  (a16:PySem.W.nsIn K mainGlobals "_law_same"=some (some (.ref f16))) (l16:K.lookup f16=some ⟨oc16,od16,.func (PySem.W.fnOf "_law_same" "_law_same" (bh sZ) (aY sZ) (aC sZ) .none kV16 dc16 pm16 an16 cd16 ct16),sl16⟩) (c16:PySem.W.codeIn K cd16 "_law_same"=true) (k16:PySem.W.keepIn K (.ref f16)=true)
  (a17:PySem.W.nsIn K mainGlobals "_law_names"=some (some (.ref f17))) (l17:K.lookup f17=some ⟨oc17,od17,.func (PySem.W.fnOf "_law_names" "_law_names" (bh pC) (aY pC) (aC pC) .none kV17 dc17 pm17 an17 cd17 ct17),sl17⟩) (c17:PySem.W.codeIn K cd17 "_law_names"=true) (k17:PySem.W.keepIn K (.ref f17)=true)
  (a18:PySem.W.nsIn K mainGlobals "_law_kinds"=some (some (.ref f18))) (l18:K.lookup f18=some ⟨oc18,od18,.func (PySem.W.fnOf "_law_kinds" "_law_kinds" (bh rN) (aY rN) (aC rN) .none kV18 dc18 pm18 an18 cd18 ct18),sl18⟩) (c18:PySem.W.codeIn K cd18 "_law_kinds"=true) (k18:PySem.W.keepIn K (.ref f18)=true)
  (a19:PySem.W.nsIn K mainGlobals "_law_shapes"=some (some (.ref f19))) (l19:K.lookup f19=some ⟨oc19,od19,.func (PySem.W.fnOf "_law_shapes" "_law_shapes" (bh jJ) (aY jJ) (aC jJ) .none kV19 dc19 pm19 an19 cd19 ct19),sl19⟩) (c19:PySem.W.codeIn K cd19 "_law_shapes"=true) (k19:PySem.W.keepIn K (.ref f19)=true)
  (a20:PySem.W.nsIn K mainGlobals "_law_named"=some (some (.ref f20))) (l20:K.lookup f20=some ⟨oc20,od20,.func (PySem.W.fnOf "_law_named" "_law_named" (bh pD) (aY pD) (aC pD) .none kV20 dc20 pm20 an20 cd20 ct20),sl20⟩) (c20:PySem.W.codeIn K cd20 "_law_named"=true) (k20:PySem.W.keepIn K (.ref f20)=true)
  (a21:PySem.W.nsIn K mainGlobals "_law_good"=some (some (.ref f21))) (l21:K.lookup f21=some ⟨oc21,od21,.func (PySem.W.fnOf "_law_good" "_law_good" (bh yP) (aY yP) (aC yP) .none kV21 dc21 pm21 an21 cd21 ct21),sl21⟩) (c21:PySem.W.codeIn K cd21 "_law_good"=true) (k21:PySem.W.keepIn K (.ref f21)=true)
  (a22:PySem.W.nsIn K mainGlobals "_law_any_row"=some (some (.ref f22))) (l22:K.lookup f22=some ⟨oc22,od22,.func (PySem.W.fnOf "_law_any_row" "_law_any_row" (bh Hr) (aY Hr) (aC Hr) .none kV22 dc22 pm22 an22 cd22 ct22),sl22⟩) (c22:PySem.W.codeIn K cd22 "_law_any_row"=true) (k22:PySem.W.keepIn K (.ref f22)=true)
  (a23:PySem.W.nsIn K mainGlobals "_law_word_of"=some (some (.ref f23))) (l23:K.lookup f23=some ⟨oc23,od23,.func (PySem.W.fnOf "_law_word_of" "_law_word_of" (bh nP) (aY nP) (aC nP) .none kV23 dc23 pm23 an23 cd23 ct23),sl23⟩) (c23:PySem.W.codeIn K cd23 "_law_word_of"=true) (k23:PySem.W.keepIn K (.ref f23)=true)
  (a24:PySem.W.nsIn K mainGlobals "_law_text_of"=some (some (.ref f24))) (l24:K.lookup f24=some ⟨oc24,od24,.func (PySem.W.fnOf "_law_text_of" "_law_text_of" (bh lE) (aY lE) (aC lE) .none kV24 dc24 pm24 an24 cd24 ct24),sl24⟩) (c24:PySem.W.codeIn K cd24 "_law_text_of"=true) (k24:PySem.W.keepIn K (.ref f24)=true)
  (a25:PySem.W.nsIn K mainGlobals "_law_number"=some (some (.ref f25))) (l25:K.lookup f25=some ⟨oc25,od25,.func (PySem.W.fnOf "_law_number" "_law_number" (bh vQ) (aY vQ) (aC vQ) .none kV25 dc25 pm25 an25 cd25 ct25),sl25⟩) (c25:PySem.W.codeIn K cd25 "_law_number"=true) (k25:PySem.W.keepIn K (.ref f25)=true)
  (a26:PySem.W.nsIn K mainGlobals "_law_read"=some (some (.ref f26))) (l26:K.lookup f26=some ⟨oc26,od26,.func (PySem.W.fnOf "_law_read" "_law_read" (bh pF) (aY pF) (aC pF) .none kV26 dc26 pm26 an26 cd26 ct26),sl26⟩) (c26:PySem.W.codeIn K cd26 "_law_read"=true) (k26:PySem.W.keepIn K (.ref f26)=true)
  (a27:PySem.W.nsIn K mainGlobals "_law_sign_of"=some (some (.ref f27))) (l27:K.lookup f27=some ⟨oc27,od27,.func (PySem.W.fnOf "_law_sign_of" "_law_sign_of" (bh yQ) (aY yQ) (aC yQ) .none kV27 dc27 pm27 an27 cd27 ct27),sl27⟩) (c27:PySem.W.codeIn K cd27 "_law_sign_of"=true) (k27:PySem.W.keepIn K (.ref f27)=true)
  (a28:PySem.W.nsIn K mainGlobals "_law_bent_text"=some (some (.ref f28))) (l28:K.lookup f28=some ⟨oc28,od28,.func (PySem.W.fnOf "_law_bent_text" "_law_bent_text" (bh yR) (aY yR) (aC yR) .none kV28 dc28 pm28 an28 cd28 ct28),sl28⟩) (c28:PySem.W.codeIn K cd28 "_law_bent_text"=true) (k28:PySem.W.keepIn K (.ref f28)=true)
  (a29:PySem.W.nsIn K mainGlobals "_law_page"=some (some (.ref f29))) (l29:K.lookup f29=some ⟨oc29,od29,.func (PySem.W.fnOf "_law_page" "_law_page" (bh vR) (aY vR) (aC vR) .none kV29 dc29 pm29 an29 cd29 ct29),sl29⟩) (c29:PySem.W.codeIn K cd29 "_law_page"=true) (k29:PySem.W.keepIn K (.ref f29)=true)
  (a30:PySem.W.nsIn K mainGlobals "_law_head"=some (some (.ref f30))) (l30:K.lookup f30=some ⟨oc30,od30,.func (PySem.W.fnOf "_law_head" "_law_head" (bh vU) (aY vU) (aC vU) .none kV30 dc30 pm30 an30 cd30 ct30),sl30⟩) (c30:PySem.W.codeIn K cd30 "_law_head"=true) (k30:PySem.W.keepIn K (.ref f30)=true)
  (a31:PySem.W.nsIn K mainGlobals "_law_line_good"=some (some (.ref f31))) (l31:K.lookup f31=some ⟨oc31,od31,.func (PySem.W.fnOf "_law_line_good" "_law_line_good" (bh mU) (aY mU) (aC mU) .none kV31 dc31 pm31 an31 cd31 ct31),sl31⟩) (c31:PySem.W.codeIn K cd31 "_law_line_good"=true) (k31:PySem.W.keepIn K (.ref f31)=true)
  (a32:PySem.W.nsIn K mainGlobals "_law_page_read"=some (some (.ref f32))) (l32:K.lookup f32=some ⟨oc32,od32,.func (PySem.W.fnOf "_law_page_read" "_law_page_read" (bh rO) (aY rO) (aC rO) .none kV32 dc32 pm32 an32 cd32 ct32),sl32⟩) (c32:PySem.W.codeIn K cd32 "_law_page_read"=true) (k32:PySem.W.keepIn K (.ref f32)=true)
  (a33:PySem.W.nsIn K mainGlobals "_law_numbered"=some (some (.ref f33))) (l33:K.lookup f33=some ⟨oc33,od33,.func (PySem.W.fnOf "_law_numbered" "_law_numbered" (bh rP) (aY rP) (aC rP) .none kV33 dc33 pm33 an33 cd33 ct33),sl33⟩) (c33:PySem.W.codeIn K cd33 "_law_numbered"=true) (k33:PySem.W.keepIn K (.ref f33)=true)
  (a34:PySem.W.nsIn K mainGlobals "_law_bent_page"=some (some (.ref f34))) (l34:K.lookup f34=some ⟨oc34,od34,.func (PySem.W.fnOf "_law_bent_page" "_law_bent_page" (bh pG) (aY pG) (aC pG) .none kV34 dc34 pm34 an34 cd34 ct34),sl34⟩) (c34:PySem.W.codeIn K cd34 "_law_bent_page"=true) (k34:PySem.W.keepIn K (.ref f34)=true)
  (a35:PySem.W.nsIn K mainGlobals "_law_why_page"=some (some (.ref f35))) (l35:K.lookup f35=some ⟨oc35,od35,.func (PySem.W.fnOf "_law_why_page" "_law_why_page" (bh yS) (aY yS) (aC yS) .none kV35 dc35 pm35 an35 cd35 ct35),sl35⟩) (c35:PySem.W.codeIn K cd35 "_law_why_page"=true) (k35:PySem.W.keepIn K (.ref f35)=true)
  (a36:PySem.W.nsIn K mainGlobals "_law_fault_of"=some (some (.ref f36))) (l36:K.lookup f36=some ⟨oc36,od36,.func (PySem.W.fnOf "_law_fault_of" "_law_fault_of" (bh rQ) (aY rQ) (aC rQ) .none kV36 dc36 pm36 an36 cd36 ct36),sl36⟩) (c36:PySem.W.codeIn K cd36 "_law_fault_of"=true) (k36:PySem.W.keepIn K (.ref f36)=true)
  (a37:PySem.W.nsIn K mainGlobals "law"=some (some (.ref f37))) (l37:K.lookup f37=some ⟨oc37,od37,.func (PySem.W.fnOf "law" "law" (bh vV) (aY vV) (aC vV) .none kV37 dc37 pm37 an37 a0V ct37),sl37⟩) (c37:PySem.W.codeIn K a0V "law"=true) (k37:PySem.W.keepIn K (.ref f37)=true)
  (q1:PySem.W.nsIn K mainGlobals "LONGEST_NAME"=some (some (.int 8 tL)))
  (q2:PySem.W.nsIn K mainGlobals "CROWN"=some (some (.str "" tC)))
  (q3:PySem.W.nsIn K mainGlobals "CROWN_SIGN"=some (some (.str "-" tS)))
  (q4:PySem.W.nsIn K mainGlobals "MOST_FIGURES"=some (some (.int 6 tM)))
  (q5:PySem.W.nsIn K mainGlobals "FORMS"=some (some (.ref aF)))
  (q6:PySem.W.nsIn K mainGlobals "BOUNDS"=some (some (.ref aB)))
  (q7:PySem.W.nsIn K mainGlobals "OF_TWO_MEN"=some (some (.ref tw_)))
  (q8:PySem.W.nsIn K mainGlobals "HEADS"=some (some (.ref aH_)))
  (q9:PySem.W.nsIn K mainGlobals "Roll"=some (some (.ref R)))
  (q10:PySem.W.nsIn K mainGlobals "NoText"=some (some 0x26))
  (q11:PySem.W.nsIn K mainGlobals "LandError"=some (some (.ref L)))
  (q12:PySem.W.nsIn K mainGlobals "NoForm"=some (some (.ref c1_)))
  (q13:PySem.W.nsIn K mainGlobals "NoLand"=some (some (.ref c2_)))
  (q14:PySem.W.nsIn K mainGlobals "Twice"=some (some (.ref c3_)))
  (z1:PySem.W.nsIn K mainGlobals "isinstance"=some none)
  (z2:PySem.W.nsIn K mainGlobals "int"=some none)
  (z3:PySem.W.nsIn K mainGlobals "str"=some none)
  (z4:PySem.W.nsIn K mainGlobals "len"=some none)
  (z5:PySem.W.nsIn K mainGlobals "all"=some none)
  (z6:PySem.W.nsIn K mainGlobals "zip"=some none)
  (z7:PySem.W.nsIn K mainGlobals "range"=some none)
  (z8:PySem.W.nsIn K mainGlobals "enumerate"=some none)
  (z9:PySem.W.nsIn K mainGlobals "max"=some none)
  (z10:PySem.W.nsIn K mainGlobals "tuple"=some none)
  (z11:PySem.W.nsIn K mainGlobals "bool"=some none)
  (z12:PySem.W.nsIn K mainGlobals "list"=some none)
  (z13:PySem.W.nsIn K mainGlobals "dict"=some none)
  (z14:PySem.W.nsIn K mainGlobals "sorted"=some none)
  (fa_T:PySem.W.findIn K 0x26 "__init__"=some (some (.ref f_T)))
  (la_T:K.lookup f_T=some ⟨ocT,odT,.func (PySem.W.fnOf "__init__" "NoText.__init__" (bh pH) (aY pH) (aC pH) (.ref T_) kVT dcT pmT anT cdT ctT),slT⟩)
  (ca_T:PySem.W.codeIn K cdT "NoText.__init__"=true)
  (ia_T:PySem.W.isFn K (.ref f_T)=true)
  (tT:K.lookup T_=some ⟨.type "tuple",ddT,.seq itT nT,ssT⟩)
  (eT:itT=#[v0T,.int 1 t1T])
  (kpC:PySem.W.keepIn K 0x26=true)
  (hdC:PySem.W.hasDictIn K C=true)
  (saC:PySem.W.findIn K 0x26 "__setattr__"=some (some (.builtin "object.__setattr__")))
  (noC:PySem.W.findIn K 0x26 "at"=some none)
  (eiC:tX K C=true)
  (rdL:PySem.W.readsIn K L (.type "type")=true)
  (fcL:PySem.W.findCls K (.ref L) (.type "type") "__init__"=some (.val (.builtin "ValueError.__init__")))
  (spL:PySem.W.specialIn K (.ref L) "__getattribute__"=some (some (.builtin "type.__getattribute__")))
  (x1:PySem.W.findIn K 0x26 "__getattribute__"=some (some (.builtin "BaseException.__getattribute__")))
  (x2:PySem.W.findIn K 0x26 "__getattr__"=some none)
  (x3:PySem.W.clsIn K C=some cdC)
  (x4:PySem.W.findIn K 0x26 "__class__"=some (some 0x2D))
  (x5:PySem.W.specialIn K 0x2D "__get__"=some (some (.builtin "getset_descriptor.__get__")))
  (x6:PySem.W.takesIn K 0x2D=some true)
  (x7:PySem.W.mroIn K C (.type "object")=some true)
  (x8:PySem.W.mroIn K C (.type "BaseException")=some true)
  (exL:PySem.W.exmOne K 0x26 (.ref L)=some true)
  (exC:PySem.W.exmOne K 0x26 0x26=some true)
  (y0:PySem.W.kitOne K 0x26 0x26=some true)
  (y1:PySem.W.kitOne K 0x26 (.ref c1_)=some false)
  (y2:PySem.W.kitOne K 0x26 (.ref c2_)=some false)
  (y3:PySem.W.kitOne K 0x26 (.ref c3_)=some false)
  (fa_I:PySem.W.findIn K (.ref R) "__init__"=some (some (.ref f_I)))
  (la_I:K.lookup f_I=some ⟨oc_I,od_I,.func (PySem.W.fnOf "__init__" "Roll.__init__" (bh rR) (aY rR) (aC rR) .none kV_I dc_I pm_I an_I cd_I ct_I),sl_I⟩)
  (ca_I:PySem.W.codeIn K cd_I "Roll.__init__"=true)
  (ka_I:PySem.W.keepIn K (.ref f_I)=true)
  (ia_I:PySem.W.isFn K (.ref f_I)=true)
  (fa_A:PySem.W.findIn K (.ref R) "acres"=some (some (.ref f_A)))
  (la_A:K.lookup f_A=some ⟨oc_A,od_A,.func (PySem.W.fnOf "acres" "Roll.acres" (bh rT) (aY rT) (aC rT) .none kV_A dc_A pm_A an_A cd_A ct_A),sl_A⟩)
  (ca_A:PySem.W.codeIn K cd_A "Roll.acres"=true)
  (ka_A:PySem.W.keepIn K (.ref f_A)=true)
  (ia_A:PySem.W.isFn K (.ref f_A)=true)
  (fa_B:PySem.W.findIn K (.ref R) "bears"=some (some (.ref f_B)))
  (la_B:K.lookup f_B=some ⟨oc_B,od_B,.func (PySem.W.fnOf "bears" "Roll.bears" (bh rW) (aY rW) (aC rW) .none kV_B dc_B pm_B an_B cd_B ct_B),sl_B⟩)
  (ca_B:PySem.W.codeIn K cd_B "Roll.bears"=true)
  (ka_B:PySem.W.keepIn K (.ref f_B)=true)
  (ia_B:PySem.W.isFn K (.ref f_B)=true)
  (fa_Fr:PySem.W.findIn K (.ref R) "free"=some (some (.ref WY)))
  (la_Fr:K.lookup WY=some ⟨a2M,a2G,.func (PySem.W.fnOf "free" "Roll.free" (bh yU) (aY yU) (aC yU) .none a2N a2O a2P a2H Yq a2Q),a2K⟩)
  (ca_Fr:PySem.W.codeIn K Yq "Roll.free"=true)
  (ka_Fr:PySem.W.keepIn K (.ref WY)=true)
  (ia_Fr:PySem.W.isFn K (.ref WY)=true)
  (fa_Rw:PySem.W.findIn K (.ref R) "rows"=some (some (.ref X3)))
  (la_Rw:K.lookup X3=some ⟨a2R,a2I,.func (PySem.W.fnOf "rows" "Roll.rows" (bh yV) (aY yV) (aC yV) .none a2S a2T a2U a2J Yr a2V),a2L⟩)
  (ca_Rw:PySem.W.codeIn K Yr "Roll.rows"=true)
  (ka_Rw:PySem.W.keepIn K (.ref X3)=true)
  (ia_Rw:PySem.W.isFn K (.ref X3)=true)
  (pgR:PySem.W.plainGet K R Str.empty=true)
  (hdR:PySem.W.hasDictIn K R=true)
  (poR:PySem.W.plainOver K R=true)
  (saR:PySem.W.findIn K (.ref R) "__setattr__"=some (some (.builtin "object.__setattr__")))
  (mkR:PySem.W.makesIn K R=true)
  (kpR:PySem.W.keepIn K (.ref R)=true)
  (na1:PySem.W.findIn K (.ref R) "many_acres"=some none)
  (na2:PySem.W.findIn K (.ref R) "coins"=some none)
  (na3:PySem.W.findIn K (.ref R) "standing"=some none)
  (na4:PySem.W.findIn K (.ref R) "earlier"=some none)
  (na5:PySem.W.findIn K (.ref R) "later"=some none)
  (kF:K.lookup aF=some ⟨.type "dict",none,.dict esF nF,#[]⟩)
  (eF:jG w.params esF.toList [("heir",.ref f1_),("grant",.ref f2_),("part",.ref f3_),("convey",.ref f4_),("liege",.ref f5_),("surrender",.ref f6_),("death",.ref f7_)])
  (lF:(aF==sysModules)=false)
  (kB:K.lookup aB=some ⟨.type "dict",none,.dict esB nB,#[]⟩)
  (eB:jG w.params esB.toList [("day",.ref b1_),("acres",.ref b2_),("service",.ref b3_),("bears",.ref b4_),("edge",.ref b5_),("number",.ref b6_),("entry",.ref b7_)])
  (lB:(aB==sysModules)=false)
  (t_f1_:K.lookup f1_=some ⟨.type "tuple",a0W,.seq Ik a2W,a1e⟩)
  (s_f1_:Ik.size<=sizeLine)
  (v_f1_:Vals [.str "day",.str "name",.str "name"] Ik.toList)
  (t_f2_:K.lookup f2_=some ⟨.type "tuple",a0X,.seq Il a2X,a1f⟩)
  (s_f2_:Il.size<=sizeLine)
  (v_f2_:Vals [.str "day",.str "name or crown",.str "name",.str "name",.str "acres",.str "service"] Il.toList)
  (t_f3_:K.lookup f3_=some ⟨.type "tuple",a0Y,.seq Im a2Y,a1g⟩)
  (s_f3_:Im.size<=sizeLine)
  (v_f3_:Vals [.str "day",.str "name",.str "name",.str "name",.str "acres"] Im.toList)
  (t_f4_:K.lookup f4_=some ⟨.type "tuple",a0Z,.seq Io a2Z,a1h⟩)
  (s_f4_:Io.size<=sizeLine)
  (v_f4_:Vals [.str "day",.str "name",.str "name"] Io.toList)
  (t_f5_:K.lookup f5_=some ⟨.type "tuple",a00,.seq Ip a3a,a1i⟩)
  (s_f5_:Ip.size<=sizeLine)
  (v_f5_:Vals [.str "day",.str "name",.str "name or crown"] Ip.toList)
  (t_f6_:K.lookup f6_=some ⟨.type "tuple",a01,.seq Ir a3b,a1j⟩)
  (s_f6_:Ir.size<=sizeLine)
  (v_f6_:Vals [.str "day",.str "name"] Ir.toList)
  (t_f7_:K.lookup f7_=some ⟨.type "tuple",a02,.seq Iu a3c,a1k⟩)
  (s_f7_:Iu.size<=sizeLine)
  (v_f7_:Vals [.str "day",.str "name"] Iu.toList)
  (t_b1_:K.lookup b1_=some ⟨.type "tuple",a03,.seq Iv a3d,a1l⟩)
  (s_b1_:Iv.size<=sizeLine)
  (v_b1_:Vals [.int 0,.int 9999] Iv.toList)
  (t_b2_:K.lookup b2_=some ⟨.type "tuple",a04,.seq Iw a3e,a1m⟩)
  (s_b2_:Iw.size<=sizeLine)
  (v_b2_:Vals [.int 1,.int 9999] Iw.toList)
  (t_b3_:K.lookup b3_=some ⟨.type "tuple",a05,.seq Iz a3f,a1n⟩)
  (s_b3_:Iz.size<=sizeLine)
  (v_b3_:Vals [.int 0,.int 9999] Iz.toList)
  (t_b4_:K.lookup b4_=some ⟨.type "tuple",a06,.seq IK a3g,a1o⟩)
  (s_b4_:IK.size<=sizeLine)
  (v_b4_:Vals [.int 0,.int 99] IK.toList)
  (t_b7_:K.lookup b7_=some ⟨.type "tuple",a07,.seq IV a3h,a1p⟩)
  (s_b7_:IV.size<=sizeLine)
  (v_b7_:Vals [.int 1,.int 999999] IV.toList)
  (t_tw_:K.lookup tw_=some ⟨.type "tuple",a08,.seq IW a3i,a1q⟩)
  (s_tw_:IW.size<=sizeLine)
  (v_tw_:Vals [.str "heir",.str "liege"] IW.toList)
  (t_aH_:K.lookup aH_=some ⟨.type "tuple",a09,.seq J0 a3j,a1r⟩)
  (s_aH_:J0.size<=sizeLine)
  (v_aH_:Vals [.ref h1_,.ref h2_] J0.toList)
  (t_h1_:K.lookup h1_=some ⟨.type "tuple",a1a,.seq J1 a3k,a1s⟩)
  (s_h1_:J1.size<=sizeLine)
  (v_h1_:Vals [.str "land",.ref e1_] J1.toList)
  (t_h2_:K.lookup h2_=some ⟨.type "tuple",a1b,.seq J2 a3l,a1t⟩)
  (s_h2_:J2.size<=sizeLine)
  (v_h2_:Vals [.str "free",.ref e2_] J2.toList)
  (t_e1_:K.lookup e1_=some ⟨.type "tuple",a1c,.seq J3 a3m,a1u⟩)
  (s_e1_:J3.size<=sizeLine)
  (v_e1_:Vals [.str "acres",.str "bears"] J3.toList)
  (t_e2_:K.lookup e2_=some ⟨.type "tuple",a1d,.seq J4 a3n,a1v⟩)
  (s_e2_:J4.size<=sizeLine)
  (v_e2_:Vals [.str "entry"] J4.toList) :
  ∃ fd:FuncData,(∀ (s:Shared) (v:Value),BindsTo s fd ⟨[v],[]⟩ [("_law_script",v)])/\∀ base:Heap,K.In base->base.Ns mainGlobals mg->bw l.prog w K mg base dF 10 fa fd ["_law_script"] (Mq K):=by
 have e:=hfa.symm.trans (PySem.W.mg_of X G a37);cases e;have F1:=bK (st:=yL) l1 c1 k1;have M1:Ms K mg "is_name" f1 _ _:=⟨F1.binds (ps:=["text"]) fun _ _ _ _ _ _=>gA fun _=>kO rfl,k1,PySem.W.mg_of X G a1⟩;have F2:=bK (st:=yM) l2 c2 k2;have M2:Ms K mg "is_well_made" f2 _ _:=⟨F2.binds (ps:=["row"]) fun _ _ _ _ _ _=>gA fun _=>kO rfl,k2,PySem.W.mg_of X G a2⟩;have F3:=bK (st:=yN) l3 c3 k3;have M3:Ms K mg "fits" f3 _ _:=⟨F3.binds (ps:=["sort", "piece"]) fun _ _ _ _ _ _=>gA fun _=>gA fun _=>kO rfl,k3,PySem.W.mg_of X G a3⟩;have F4:=bK (st:=Ny) l4 c4 k4;have M4:Ms K mg "check_acres" f4 _ _:=⟨F4.binds (ps:=["acres"]) fun _ _ _ _ _ _=>gA fun _=>kO rfl,k4,PySem.W.mg_of X G a4⟩;have F5:=bK (st:=Nz) l5 c5 k5;have M5:Ms K mg "check_land" f5 _ _:=⟨F5.binds (ps:=["acres", "bears"]) fun _ _ _ _ _ _=>gA fun _=>gA fun _=>kO rfl,k5,PySem.W.mg_of X G a5⟩;have F6:=bK (st:=nO) l6 c6 k6;have M6:Ms K mg "roll_of" f6 _ _:=⟨F6.binds (ps:=["acres", "bears", "free", "held"]) fun _ _ _ _ _ _=>gA fun _=>gA fun _=>gA fun _=>gA fun _=>kO rfl,k6,PySem.W.mg_of X G a6⟩;have F7:=bK (st:=Hq) l7 c7 k7;have M7:Ms K mg "pieces_of" f7 _ _:=⟨F7.binds (ps:=["form", "words"]) fun _ _ _ _ _ _=>gA fun _=>gA fun _=>kO rfl,k7,PySem.W.mg_of X G a7⟩;have F8:=bK (st:=sPc) l8 c8 k8;have M8:Ms K mg "piece_of" f8 _ _:=⟨F8.binds (ps:=["sort", "word"]) fun _ _ _ _ _ _=>gA fun _=>gA fun _=>kO rfl,k8,PySem.W.mg_of X G a8⟩;have F9:=bK (st:=NK) l9 c9 k9;have M9:Ms K mg "number_of" f9 _ _:=⟨F9.binds (ps:=["word"]) fun _ _ _ _ _ _=>gA fun _=>kO rfl,k9,PySem.W.mg_of X G a9⟩;have F10:=bK (st:=sNm) l10 c10 k10;have Mt:Ms K mg "name_of" f10 _ _:=⟨F10.binds (ps:=["word"]) fun _ _ _ _ _ _=>gA fun _=>kO rfl,k10,PySem.W.mg_of X G a10⟩;have F11:=bK (st:=rH) l11 c11 k11;have M11:Ms K mg "read_page" f11 _ _:=⟨F11.binds (ps:=["text"]) fun _ _ _ _ _ _=>gA fun _=>kO rfl,k11,PySem.W.mg_of X G a11⟩;have F12:=bK (st:=rJ) l12 c12 k12;have M12:Ms K mg "row_of" f12 _ _:=⟨F12.binds (ps:=["text"]) fun _ _ _ _ _ _=>gA fun _=>kO rfl,k12,PySem.W.mg_of X G a12⟩;have F13:=bK (st:=rK) l13 c13 k13;have M13:Ms K mg "read_heads" f13 _ _:=⟨F13.binds (ps:=["lines"]) fun _ _ _ _ _ _=>gA fun _=>kO rfl,k13,PySem.W.mg_of X G a13⟩;have F14:=bK (st:=rM) l14 c14 k14;have M14:Ms K mg "entry_of" f14 _ _:=⟨F14.binds (ps:=["line"]) fun _ _ _ _ _ _=>gA fun _=>kO rfl,k14,PySem.W.mg_of X G a14⟩;have F15:=bK (st:=yO) l15 c15 k15;have M15:Ms K mg "_law_feed" f15 _ _:=⟨F15.binds (ps:=["_law_script", "_law_many"]) fun _ _ _ _ _ _=>gA fun _=>gA fun _=>kO rfl,k15,PySem.W.mg_of X G a15⟩;have F16:=bK (st:=sZ) l16 c16 k16;have M16:Ms K mg "_law_same" f16 _ _:=⟨F16.binds (ps:=["_law_found", "_law_due"]) fun _ _ _ _ _ _=>gA fun _=>gA fun _=>kO rfl,k16,PySem.W.mg_of X G a16⟩;have F17:=bK (st:=pC) l17 c17 k17;have M17:Ms K mg "_law_names" f17 _ _:=⟨F17.binds (ps:=["_law_d", "_law_many"]) fun _ _ _ _ _ _=>gA fun _=>gA fun _=>kO rfl,k17,PySem.W.mg_of X G a17⟩;have F18:=bK (st:=rN) l18 c18 k18;have M18:Ms K mg "_law_kinds" f18 _ _:=⟨F18.binds (ps:=[]) fun _ _ _ _ _ _=>kO rfl,k18,PySem.W.mg_of X G a18⟩;have F19:=bK (st:=jJ) l19 c19 k19;have M19:Ms K mg "_law_shapes" f19 _ _:=⟨F19.binds (ps:=[]) fun _ _ _ _ _ _=>kO rfl,k19,PySem.W.mg_of X G a19⟩;have F20:=bK (st:=pD) l20 c20 k20;have M20:Ms K mg "_law_named" f20 _ _:=⟨F20.binds (ps:=["_law_word"]) fun _ _ _ _ _ _=>gA fun _=>kO rfl,k20,PySem.W.mg_of X G a20⟩;have F21:=bK (st:=yP) l21 c21 k21;have M21:Ms K mg "_law_good" f21 _ _:=⟨F21.binds (ps:=["_law_row"]) fun _ _ _ _ _ _=>gA fun _=>kO rfl,k21,PySem.W.mg_of X G a21⟩;have F22:=bK (st:=Hr) l22 c22 k22;have M22:Ms K mg "_law_any_row" f22 _ _:=⟨F22.binds (ps:=["_law_d", "_law_names_here"]) fun _ _ _ _ _ _=>gA fun _=>gA fun _=>kO rfl,k22,PySem.W.mg_of X G a22⟩;have F23:=bK (st:=nP) l23 c23 k23;have M23:Ms K mg "_law_word_of" f23 _ _:=⟨F23.binds (ps:=["_law_thing"]) fun _ _ _ _ _ _=>gA fun _=>kO rfl,k23,PySem.W.mg_of X G a23⟩;have F24:=bK (st:=lE) l24 c24 k24;have M24:Ms K mg "_law_text_of" f24 _ _:=⟨F24.binds (ps:=["_law_row"]) fun _ _ _ _ _ _=>gA fun _=>kO rfl,k24,PySem.W.mg_of X G a24⟩
 have F25:=bK (st:=vQ) l25 c25 k25;have M25:Ms K mg "_law_number" f25 _ _:=⟨F25.binds (ps:=["_law_word"]) fun _ _ _ _ _ _=>gA fun _=>kO rfl,k25,PySem.W.mg_of X G a25⟩;have F26:=bK (st:=pF) l26 c26 k26;have M26:Ms K mg "_law_read" f26 _ _:=⟨F26.binds (ps:=["_law_text"]) fun _ _ _ _ _ _=>gA fun _=>kO rfl,k26,PySem.W.mg_of X G a26⟩;have F27:=bK (st:=yQ) l27 c27 k27;have M27:Ms K mg "_law_sign_of" f27 _ _:=⟨F27.binds (ps:=["_law_code"]) fun _ _ _ _ _ _=>gA fun _=>kO rfl,k27,PySem.W.mg_of X G a27⟩;have F28:=bK (st:=yR) l28 c28 k28;have M28:Ms K mg "_law_bent_text" f28 _ _:=⟨F28.binds (ps:=["_law_text", "_law_d"]) fun _ _ _ _ _ _=>gA fun _=>gA fun _=>kO rfl,k28,PySem.W.mg_of X G a28⟩;have F29:=bK (st:=vR) l29 c29 k29;have M29:Ms K mg "_law_page" f29 _ _:=⟨F29.binds (ps:=["_law_wide", "_law_rich", "_law_free", "_law_entries"]) fun _ _ _ _ _ _=>gA fun _=>gA fun _=>gA fun _=>gA fun _=>kO rfl,k29,PySem.W.mg_of X G a29⟩;have F30:=bK (st:=vU) l30 c30 k30;have M30:Ms K mg "_law_head" f30 _ _:=⟨F30.binds (ps:=["_law_line", "_law_word", "_law_many"]) fun _ _ _ _ _ _=>gA fun _=>gA fun _=>gA fun _=>kO rfl,k30,PySem.W.mg_of X G a30⟩;have F31:=bK (st:=mU) l31 c31 k31;have M31:Ms K mg "_law_line_good" f31 _ _:=⟨F31.binds (ps:=["_law_line", "_law_at", "_law_found"]) fun _ _ _ _ _ _=>gA fun _=>gA fun _=>gA fun _=>kO rfl,k31,PySem.W.mg_of X G a31⟩;have F32:=bK (st:=rO) l32 c32 k32;have M32:Ms K mg "_law_page_read" f32 _ _:=⟨F32.binds (ps:=["_law_text"]) fun _ _ _ _ _ _=>gA fun _=>kO rfl,k32,PySem.W.mg_of X G a32⟩;have F33:=bK (st:=rP) l33 c33 k33;have M33:Ms K mg "_law_numbered" f33 _ _:=⟨F33.binds (ps:=["_law_feed_here", "_law_rows"]) fun _ _ _ _ _ _=>gA fun _=>gA fun _=>kO rfl,k33,PySem.W.mg_of X G a33⟩;have F34:=bK (st:=pG) l34 c34 k34;have M34:Ms K mg "_law_bent_page" f34 _ _:=⟨F34.binds (ps:=["_law_text", "_law_d"]) fun _ _ _ _ _ _=>gA fun _=>gA fun _=>kO rfl,k34,PySem.W.mg_of X G a34⟩;have F35:=bK (st:=yS) l35 c35 k35;have M35:Ms K mg "_law_why_page" f35 _ _:=⟨F35.binds (ps:=["_law_text"]) fun _ _ _ _ _ _=>gA fun _=>kO rfl,k35,PySem.W.mg_of X G a35⟩;have F36:=bK (st:=rQ) l36 c36 k36;have M36:Ms K mg "_law_fault_of" f36 _ _:=⟨F36.binds (ps:=["_law_text"]) fun _ _ _ _ _ _=>gA fun _=>kO rfl,k36,PySem.W.mg_of X G a36⟩;have F37:=bK (st:=vV) l37 c37 k37;have wZ:=PySem.W.mg_of X G q1;have Mu:=PySem.W.mg_of X G q2;have BP:=PySem.W.mg_of X G q3;have xg:=PySem.W.mg_of X G q4;have X4:=PySem.W.mg_of X G q5;have Ud:=PySem.W.mg_of X G q6;have BR:=PySem.W.mg_of X G q7;have X5:=PySem.W.mg_of X G q8;have a1w:=PySem.W.mg_of X G q9;have xq:=PySem.W.mg_of X G q10;have tK:=PySem.W.mg_of X G q11;have Ue:=PySem.W.mg_of X G q12;have Ug:=PySem.W.mg_of X G q13;have X6:=PySem.W.mg_of X G q14;have qW:=PySem.W.mg_none_of X G z1;have FZ:=PySem.W.mg_none_of X G z2;have Mv:=PySem.W.mg_none_of X G z3;have gB:=PySem.W.mg_none_of X G z4;have Uh:=PySem.W.mg_none_of X G z5;have Ga:=PySem.W.mg_none_of X G z6;have uL:=PySem.W.mg_none_of X G z7;have iH:=PySem.W.mg_none_of X G z8;have a3o:=PySem.W.mg_none_of X G z9;have uM:=PySem.W.mg_none_of X G z10;have a1x:=PySem.W.mg_none_of X G z11;have Ui:=PySem.W.mg_none_of X G z12;have a1y:=PySem.W.mg_none_of X G z13;have Uj:=PySem.W.mg_none_of X G z14;refine ⟨PySem.W.fnOf "law" "law" (bh vV) (aY vV) (aC vV) .none kV37 dc37 pm37 an37 a0V ct37,fun s v=>.of_eq rfl,fun base _ _=>?_⟩;have mo:Rb K w.params mg:=⟨⟨aB,b1_,b2_,b3_,b4_,b5_,b6_,b7_,Ud,⟨⟨_,_,kB,eB⟩,lB⟩,fD t_b1_ s_b1_ v_b1_,fD t_b2_ s_b2_ v_b2_,fD t_b3_ s_b3_ v_b3_,fD t_b4_ s_b4_ v_b4_,fD t_b7_ s_b7_ v_b7_⟩,⟨aF,_,X4,⟨⟨_,_,kF,eF⟩,lF⟩,lQ (fD t_f1_ s_f1_ v_f1_) (lQ (fD t_f2_ s_f2_ v_f2_) (lQ (fD t_f3_ s_f3_ v_f3_) (lQ (fD t_f4_ s_f4_ v_f4_) (lQ (fD t_f5_ s_f5_ v_f5_) (lQ (fD t_f6_ s_f6_ v_f6_) (lQ (fD t_f7_ s_f7_ v_f7_) (a0U)))))))⟩,⟨tw_,BR,fD t_tw_ s_tw_ v_tw_⟩,⟨_,Mu⟩⟩;have hm:Ib K mg aH_ h1_ h2_ e1_ e2_:=⟨X5,fD t_aH_ s_aH_ v_aH_,fD t_h1_ s_h1_ v_h1_,fD t_h2_ s_h2_ v_h2_,fD t_e1_ s_e1_ v_e1_,fD t_e2_ s_e2_ v_e2_⟩;have xi:XI K C "at":=⟨⟨x1,x2,by rw [x3];rfl,x4,x5,x6,x7,x8⟩,eiC,saC,noC,hdC⟩;have cl:a0z K mg C L c1_ c2_ c3_:=⟨xq,tK,Ue,Ug,X6,xi,exL,exC,y0,y1,y2,y3⟩
 have ms:MgS mg:=⟨qW,a1x,FZ,Mv,Ui,uM,gB,Uh,Ga⟩;have T:tG K R:=⟨⟨pgR,hdR,poR,saR⟩,na1,na2,na3,na4,na5⟩;have F_T:a0w K "__init__" "NoText.__init__" pH f_T _ T_:=⟨ocT,odT,kVT,dcT,pmT,anT,cdT,ctT,slT,rfl,la_T,ca_T⟩;have b_T:=Wh F_T (v0:=v0T) (v1:=.int 1 t1T) (n:=nT) tT (by rw [eT]);have G_T:=T5 (P:=l.prog) (w:=w) (base:=base) F_T xi ⟨rdL,fcL,spL⟩ tK;have mkx:MkX K C f_T:=⟨eiC,fa_T,ia_T,kpC⟩;have F_I:=bK (st:=rR) la_I ca_I ka_I;have b_I:=F_I.binds (ps:=["self", "acres", "bears"]) fun _ _ _ _ _ _=>gA fun _=>gA fun _=>gA fun _=>kO rfl;have F_A:=bK (st:=rT) la_A ca_A ka_A;have b_A:=F_A.binds (ps:=["self"]) fun _ _ _ _ _ _=>gA fun _=>kO rfl;have F_B:=bK (st:=rW) la_B ca_B ka_B;have b_B:=F_B.binds (ps:=["self"]) fun _ _ _ _ _ _=>gA fun _=>kO rfl;have F_Fr:=bK (st:=yU) la_Fr ca_Fr ka_Fr;have b_Fr:=F_Fr.binds (ps:=["self"]) fun _ _ _ _ _ _=>gA fun _=>kO rfl;have F_Rw:=bK (st:=yV) la_Rw ca_Rw ka_Rw;have b_Rw:=F_Rw.binds (ps:=["self"]) fun _ _ _ _ _ _=>gA fun _=>kO rfl;have G1:=Vo (P:=l.prog) (w:=w) (base:=base) F1 wZ gB;have G3:=Vq (P:=l.prog) (w:=w) (base:=base) F3 mo G1 M1;have G2:=Vr (P:=l.prog) (w:=w) (base:=base) F2 mo gB Ga G3 M3;have G4:=a0q (P:=l.prog) (w:=w) (base:=base) F4 G3 M3;have G5:=a0r (P:=l.prog) (w:=w) (base:=base) F5 G3 M3 G4 M4;have G_I:=SM (P:=l.prog) (w:=w) (base:=base) T F_I G5 M5;have MK1:Mk K R f_I:=⟨mkR,fa_I,ia_I,kpR⟩;have G_A:=a0s (P:=l.prog) (w:=w) (mg:=mg) (base:=base) T F_A;have G_B:=a0t (P:=l.prog) (w:=w) (mg:=mg) (base:=base) T F_B;have G_Fr:=a0u (P:=l.prog) (w:=w) (mg:=mg) (base:=base) T F_Fr;have G_Rw:=SN (P:=l.prog) (w:=w) (base:=base) T F_Rw Uj;have G6:=O9 (P:=l.prog) (w:=w) (base:=base) F6 T a1y G_I MK1 a1w b_I;have G9:=ZX (P:=l.prog) (w:=w) (base:=base) F9 gB FZ xg;have G10:=a2f (P:=l.prog) (w:=w) (base:=base) F10 BP Mu G1 M1;have G8:=a2g (P:=l.prog) (w:=w) (base:=base) F8 mo G9 M9 G10 Mt G3 M3;have G7:=a0c (P:=l.prog) (w:=w) (base:=base) F7 gB Ga G8 M8;have G12:=RJ (P:=l.prog) (w:=w) (base:=base) F12 mo uM G7 M7 G2 M2;have G14:=T4 (P:=l.prog) (w:=w) (base:=base) F14 G8 M8 G12 M12;have G13:=T7 (P:=l.prog) (w:=w) (base:=base) F13 gB iH hm G7 M7 mkx G_T b_T xq;have G11:=Te (P:=l.prog) (w:=w) (base:=base) F11 gB iH Ui hm G13 M13 mkx G_T b_T xq G14 M14 G6 M6;have G15:=Vl (P:=l.prog) (w:=w) (base:=base) F15 uL gB;have G16:=Kl (P:=l.prog) (w:=w) (base:=base) F16 ms M16 4;have G17:=Rk (P:=l.prog) (w:=w) (base:=base) F17 gB uL;have G18:=Rm (P:=l.prog) (w:=w) (mg:=mg) (base:=base) F18;have G19:=NQ (P:=l.prog) (w:=w) (mg:=mg) (base:=base) F19;have G20:=RK (P:=l.prog) (w:=w) (base:=base) F20 gB Uh;have G21:=VF (P:=l.prog) (w:=w) (base:=base) F21 gB FZ Ga G19 M19 G20 M20;have G22:=ZC (P:=l.prog) (w:=w) (base:=base) F22 gB FZ iH a3o uM G19 M19 G18 M18;have G23:=O2 (P:=l.prog) (w:=w) (base:=base) F23 Mv;have G24:=O4 (P:=l.prog) (w:=w) (base:=base) F24 G23 M23;have G25:=VG (P:=l.prog) (w:=w) (base:=base) F25 gB Uh FZ;have G26:=RQ (P:=l.prog) (w:=w) (base:=base) F26 gB Ga uM G19 M19 G25 M25 G21 M21;have G27:=W3 (P:=l.prog) (w:=w) (base:=base) F27 gB;have G28:=W7 (P:=l.prog) (w:=w) (base:=base) F28 gB G27 M27;have G29:=Wx (P:=l.prog) (w:=w) (base:=base) F29 Mv G24 M24;have G30:=Tj (P:=l.prog) (w:=w) (base:=base) F30 gB G25 M25;have G_L1:=(Wq (P:=l.prog) (w:=w) (base:=base) F31 G30 M30).mono (show 3<=4 by decide)
 have G_L2:=a0A (P:=l.prog) (w:=w) (base:=base) F31 G25 M25 G26 M26;have G31:=a2F G_L1 G_L2;have G32:=a2w (P:=l.prog) (w:=w) (base:=base) F32 gB uL G31 M31;have G33:=U0 (P:=l.prog) (w:=w) (base:=base) F33 iH;have G34:=U5 (P:=l.prog) (w:=w) (base:=base) F34 gB Mv G28 M28;have G35:=Wm (P:=l.prog) (w:=w) (base:=base) F35 qW cl G11 M11;have G36:=Ti (P:=l.prog) (w:=w) (base:=base) F36 cl G11 M11;exact a0P F37 uL gB iH T G15 M15 G17 M17 G22 M22 G33 M33 G29 M29 G34 M34 G32 M32 G35 M35 G36 M36 G16 M16 G_A ⟨fa_A,ia_A,ka_A⟩ b_A G_B ⟨fa_B,ia_B,ka_B⟩ b_B G_Rw ⟨fa_Rw,ia_Rw,ka_Rw⟩ b_Rw G_Fr ⟨fa_Fr,ia_Fr,ka_Fr⟩ b_Fr
theorem walk {l:PySem.W.OpenLaw}{q:Program}{d:DefRec}{K:Params->PySem.W.Frag} (hn:l.most=some 63) (hdf:d.params.defaults=[])
  (hY:∀ (w:World) (h:Heap),YP w h->(K w.params).In h)
  (F:∀ (w:World) (mg:Str->Option Value) (fa:Addr) (h:Heap),(K w.params).In h->h.Ns mainGlobals mg->mg d.name=some (.ref fa) ->
   ∃ fd:FuncData,(∀ (s:Shared) (u:Value),BindsTo s fd ⟨[u],[]⟩ [("_law_script",u)])/\∀ base:Heap,(K w.params).In base->base.Ns mainGlobals mg->bw l.prog w (K w.params) mg base dF 10 fa fd ["_law_script"] (Mq (K w.params))) :
  PySem.W.WalkO q loose XP YP l.row.toRowW d [] (fun f vs=>PySem.call f vs) :=
 L2.UJ (n:=63) (k:=10) (x:="_law_script") (CX:=fun _=>dF) (sp:=fun w=>Mq (K w.params)) hn 0x8 hdf ⟨rfl,by decide,by decide⟩ hY F (fun _ _ a ns hl _ hS=>⟨a,ns,rfl,hS,hl,fun _=>rfl⟩) fun _ _ _ _ _ z=>z
end M
namespace PySem.W.Fast
def tw9187652450181195382:=0
def tw1118037556275898233:=0
def tw4174725267131670107:=0
def tw18426053219412700071:=0
def tw15080088558107724757:=0
def tw5791029025145384496:=0
def tw11685026044944369310:=0
def tw10923332642330586058:=0
def tw5394988525845013899:=0
def tw16043961379037319144:=0
def tw18041991284809316781:=0
def tw14565168071491742681:=0
def tw5445715714232705473:=0
def tw6111504316298749072:=0
def tw18402588004068755208:=0
def tw2944293500178178597:=0
def tw1785698677689644170:=0
def tw16050936632829569645:=0
def tw16422964210472496341:=0
def tw13353256851179403178:=0
def tw18002152037566609069:=0
def tw13514834755405901431:=0
def tw2329788782243927346:=0
def tw6653155988787529359:=0
def tw7112824072994561749:=0
def tw869746164588160676:=0
def tw10986935802156907247:=0
def tw10938056412677828939:=0
def tw6147355224648450682:=0
def tw12442661042212334630:=0
def tw16130507367571956642:=0
def tw14577910804091980311:=0
def tw16932396374700015107:=0
def tw11374997219778230418:=0
def tw4019481242389724723:=0
def tw16242767050494119834:=0
def tw11355114889900997760:=0
def tw1772269550481026536:=0
def tw5981753191867818087:=0
def tw9164776779902491392:=0
def tw9368536785967272316:=0
def tw1995605305108195615:=0
def tw15184322848458747570:=0
def tw18339832146300769590:=0
def tw16978406922250032630:=0
def tw16046151366731162925:=0
def tw964534940023563286:=0
def tw14472516964652398338:=0
def tw14092838770993617093:=0
def tw3133133043445143794:=0
def tw2672236781739071622:=0
def tw14247698694205725532:=0
def tw17263591198360328916:=0
def tw13146981906041807469:=0
def tw1275614841533032764:=0
def tw5627791260496094450:=0
def tw15585467848800316073:=0
def tw8502468045513082623:=0
def tw4985169615308147226:=0
def tw1185627717821256380:=0
def tw391860066230213623:=0
def tw1257655549710672194:=0
def tw10668129061380148465:=0
def tw10740685464325799035:=0
def tw16349733233889024017:=0
def tw3643209277080832426:=0
def tw7775098136623247927:=0
def tw14663553413118282723:=0
def tw423277204271754180:=0
def tw17495079015169555147:=0
def tw13546125526623578671:=0
def tw644816441862621709:=0
def tw7265994063116180026:=0
def tw9475956236983266725:=0
def tw18431555384816225271:=0
def tw17072088528479182902:=0
def tw9685089109086487820:=0
def tw16084245856831599170:=0
def tw6673626988654161683:=0
def tw8419762740033568214:=0
def tw17152521163083310062:=0
def tw11415487854540452:=0
def tw6209255951850693125:=0
def tw11821702177841423526:=0
def tw3793042140836818596:=0
def tw15994768394224420957:=0
def tw11476075249099984297:=0
def tw13025863407383360299:=0
def tw11283482670006260732:=0
def tw9808523416165104170:=0
def tw11545187497415496397:=0
def tw8269157656491752827:=0
def tw17703703905452258863:=0
def tw8658502642298481287:=0
def tw14539490308520149770:=0
def tw1360299798237625344:=0
def tw16788552862821208571:=0
def tw17284886153298380903:=0
def tw12872035367273390582:=0
def tw4191568528970082070:=0
def tw17872111202720848322:=0
def tw6263889859502967540:=0
def tw15935016225169893755:=0
def tw15172731042561458793:=0
def tw6966011402075796256:=0
def tw159339553833437019:=0
def tw1811975064496820530:=0
def tw12704615242923581599:=0
def tw16804308954346262253:=0
def tw11813652523218180206:=0
def tw12361623575380645210:=0
def tw14466953160750111351:=0
def tw9034779065495857261:=0
def tw1894330332431144828:=0
def tw10836758273628747628:=0
def tw16741071926079807257:=0
def tw5933421847522620659:=0
def tw1127508101316821327:=0
def tw665929402926183501:=0
def tw15802333681394492200:=0
def tw15870195678757560597:=0
def tw1477818611123147033:=0
def tw7447927575231300700:=0
def tw10912022135775502589:=0
def tw815716564914289437:=0
def tw5192642218828616894:=0
def tw14709926046365545859:=0
def tw9742758159752762241:=0
def tw12008343787419158777:=0
def tw1251152240382472938:=0
def tw12245176558966152928:=0
def tw16045211943091603017:=0
def tw15876938538696217419:=0
def tw9612052755070792695:=0
def tw3524952809914507367:=0
def tw18328181946958164757:=0
def tw11604092508752259469:=0
def tw17935015915977663430:=0
def tw2361656929269326720:=0
def tw3471683297180003901:=0
def tw14172110047506014806:=0
def tw11545040643743285822:=0
def tw1123988530667951395:=0
def tw409408733064250091:=0
def tw4600056312511815514:=0
def tw10191086653429912636:=0
def tw1163666545457852107:=0
def tw5117837000864665113:=0
def tw12243970426280699213:=0
def tw6433892971897151713:=0
def tw13214249994620482823:=0
def tw3326369580904848404:=0
def tw4628490078859198139:=0
def tw1065453620689254277:=0
def tw7590725207886670736:=0
def tw909534721538115328:=0
def tw11402606966128358528:=0
def tw9791457705883014795:=0
def tw15422652284006571121:=0
def tw15482023655550211848:=0
def tw7307864898472757483:=0
def tw8160337916470889663:=0
def tw175586010222130245:=0
def tw14265095234303622480:=0
def tw4933402331660123121:=0
def tw9048834179510295778:=0
def tw1014067005502608444:=0
def tw13914926332111133854:=0
def tw4708202811501230260:=0
def tw5476092348380377570:=0
def tw16756676034363477020:=0
def tw3861706004010458693:=0
def tw14440484961610109606:=0
def tw5189113919892191614:=0
def tw17135659784914210667:=0
def tw7743064071261820225:=0
def tw7815475614923386028:=0
def tw5524779299157942197:=0
def tw15234488600158540646:=0
def tw15150576900512453096:=0
def tw11042432455160988004:=0
def tw15187337663009151013:=0
def tw16843361200836715938:=0
def tw5504360894753401393:=0
def tw15584252251040142175:=0
def tw18200074659113373451:=0
def tw16375332890754624799:=0
def tw1539734210034818514:=0
def tw4173033142719137177:=0
def tw9932655560585454699:=0
def tw7516097017266201775:=0
def tw13703684568453944074:=0
def tw14604179847068731411:=0
def tw13520626387800830692:=0
def tw3547437420739285689:=0
def tw7517764930205618408:=0
def tw16072580773874171986:=0
def tw11765667622145302986:=0
def tw8766514399351157053:=0
def tw15275233689082631216:=0
def tw8330019106552902034:=0
def tw141509722823611400:=0
def tw3283892696489779419:=0
def tw10226787152889190783:=0
def tw13234781685982610757:=0
def tw15274720080890081702:=0
def tw17312426792697551526:=0
def tw12980692895184546785:=0
def tw4049140798784362994:=0
def tw11044474657721800530:=0
def tw5680486981308334085:=0
def tw3599414083571977042:=0
def tw14992343288026993052:=0
def tw5965593026088184587:=0
def tw11484347263994439996:=0
def tw7811317981930535964:=0
def tw13420110902608359403:=0
def tw14819562320091533237:=0
def tw15301468159086597983:=0
def tw11113388303578598848:=0
def tw14583765096551817186:=0
def tw3855991210518678541:=0
def tw9471729409138433460:=0
def tw13926081959128746167:=0
def tw4009658676675156612:=0
def tw17461723530205222168:=0
def tw3867717356368706536:=0
def tw13290785331332329732:=0
def tw6723350737141864268:=0
def tw9684597602305296992:=0
def tw14993966355989425831:=0
def tw14109151675951995669:=0
def tw8584123760497425626:=0
def tw5950507363366493152:=0
def tw2771946888885123149:=0
def tw2985756162591940053:=0
def tw16545406308882960319:=0
def tw9306675117560889478:=0
def tw6447973041864478778:=0
def tw989749819422027080:=0
def tw11727473408601390078:=0
def tw1121566450678553494:=0
def tw11027076584223314388:=0
def tw4339039695009693486:=0
def tw3136608909379381410:=0
def tw1317110510090236571:=0
def tw15023898258840700308:=0
def tw13779880873861902851:=0
def tw6742551404675377880:=0
def tw14510607837525499834:=0
def tw17163811543950816374:=0
def tw118319579165075043:=0
def tw8119226532027909396:=0
def tw13224545277970158657:=0
def tw9592328883703947427:=0
def tw9366032679587198186:=0
def tw9237732652847348993:=0
def tw1329256262815931383:=0
def tw16578023311033402717:=0
def tw8310645041691237153:=0
def tw14834472036804155531:=0
def tw2054284530816366134:=0
def tw5578450023137421343:=0
def tw4055531057732644144:=0
def tw3582958469244026748:=0
def tw5334232655127830714:=0
def tw5467460012356291304:=0
def tw6220981526139754839:=0
def tw7842185767862274601:=0
def tw12537228687791666834:=0
def tw6176690551102873032:=0
def tw13591681388985151568:=0
def tw14050499195466514923:=0
def tw17040792948364768171:=0
def tw13942404567461668101:=0
def tw4118901946540175779:=0
def tw16138398355948253839:=0
def tw15418424271627327527:=0
def tw940777405394927799:=0
def tw1463897387992662145:=0
def tw17228886263275840694:=0
def tw11336205967240961985:=0
def tw7954186643649799176:=0
def tw11208974335970275862:=0
def tw17719628326028783630:=0
def tw2556828121764597079:=0
def tw14208035168287620075:=0
def tw17954577591258549085:=0
def tw2150283292344224994:=0
def tw6632540157985767757:=0
def tw18284899836275216271:=0
def tw2842412682095429002:=0
def tw10703159058520341246:=0
def tw16392299676612071287:=0
def tw15066283112781998672:=0
def tw1657432284862896987:=0
def tw17503307537927898905:=0
def tw7850092370016725799:=0
def tw18158077010558986834:=0
def tw3107680333430211893:=0
def tw9907019619733977635:=0
def tw6190607893435045439:=0
def tw16912401936568203916:=0
def tw12324065306952686106:=0
def tw15002301684973154457:=0
def tw3588112228158873085:=0
def tw12850700106478560773:=0
def tw13060004446250324998:=0
def tw12590660779008851332:=0
def tw8052255332839055643:=0
def tw15793004521515968654:=0
def tw294031036989397136:=0
def tw18215192813223912280:=0
def tw15385449110084024491:=0
def tw6161911876801231487:=0
def tw12103832375731169508:=0
def tw12710590162672818894:=0
def tw2365098904627531276:=0
def tw6287517124496314186:=0
def tw12126193939736235048:=0
def tw10025390739687718560:=0
def tw16509595264428148118:=0
def tw17484515632634709711:=0
def tw13170520872289023025:=0
def tw1866572824476239971:=0
def tw14329210622588662018:=0
def tw2520556565463719457:=0
def tw1180982105842362579:=0
def tw18050953086602197961:=0
def tw8170748433027462763:=0
def tw11231855351606823189:=0
def tw2658362285118213774:=0
def tw2764968887621193385:=0
def tw11350702622732654745:=0
def tw11257600500940430530:=0
def tw16625422226274819716:=0
def tw13664697777539237459:=0
def tw16645390882288173602:=0
def tw2756550792331190056:=0
def tw338711982126874097:=0
def tw10571279656063977843:=0
def tw15383126681322473224:=0
def tw13220691799711169794:=0
def tw259558880205025780:=0
def tw6868326293282096347:=0
def tw17058974083093355972:=0
def tw6751876625840887979:=0
def tw2813001653816224175:=0
def tw43165556464371540:=0
def tw14127100871871848884:=0
def tw4919318280362060261:=0
def tw16038824412147763171:=0
def tw18187986000505176781:=0
def tw3476621627037719131:=0
def tw10735301538927801114:=0
def tw11124024770910388075:=0
def tw9587944561668067642:=0
def tw4300833077939705191:=0
def tw5578507471400169487:=0
def tw3992274266165343842:=0
def tw2885760230962991105:=0
def tw11657933076954051385:=0
def tw3745977959635154598:=0
def tw5354355059007852779:=0
def tw15192472544222843085:=0
def tw1155151398739138615:=0
def tw9589620539811251899:=0
def tw17877803510426360389:=0
def tw12820814087613209812:=0
def tw4395458458381195839:=0
def tw10113210377544354168:=0
def tw16479512613192030218:=0
def tw15325304851492679025:=0
def tw1909393916898073374:=0
def tw8202656825733666131:=0
def tw18110866671949665995:=0
def tw8672136142243357730:=0
def tw15464277909097194450:=0
def tw7258053439476771126:=0
def tw14529460074042317512:=0
def tw3164724710610907574:=0
def tw5979599981440197012:=0
def tw17098113381078299470:=0
def tw10314676339513027016:=0
def tw7580862659877291899:=0
def tw12807032464535242315:=0
def tw4739067133718518294:=0
def tw10009309189564479565:=0
def tw1910373939794249603:=0
def tw441525316509847036:=0
def tw11366545188109344960:=0
def tw9179823266709523607:=0
def tw5423718341770139130:=0
def tw18222527402871235148:=0
def tw11006416867803305621:=0
def tw4245851959952181274:=0
def tw11220247330001363586:=0
def tw15653718042952883304:=0
def tw5635655862605929808:=0
def tw4087395800322674730:=0
def tw1648120145399599464:=0
def tw4767668840717008258:=0
def tw3326555767265709796:=0
def tw15750187507472642841:=0
def tw5699090650743632549:=0
def tw14739197871233399307:=0
def tw13003508739277287331:=0
def tw1393146053480980877:=0
def tw954700993697305133:=0
def tw14133289318299668263:=0
def tw5364882591702284863:=0
def tw10043740806064917577:=0
def tw3604077396098717836:=0
def tw3697167496943555228:=0
def tw12609193444221873749:=0
def tw5588923702622188306:=0
def tw13910204381423843129:=0
def tw11916171858894536596:=0
def tw4422950961827981332:=0
def tw3242988954817364542:=0
def tw15407383932319293334:=0
def tw15213523152502479787:=0
def tw4647913856837555052:=0
def tw15743660726068675701:=0
def tw12808891164313271877:=0
def tw1188825919223467183:=0
def tw238621233533996970:=0
def tw9667054808042841833:=0
def tw9857425861503893971:=0
def tw12498881871346814022:=0
def tw15937069711354984021:=0
def tw14238549871930284635:=0
def tw16095288499833441190:=0
def tw3846882492893117500:=0
def tw17678328735445723386:=0
def tw7221822914851588524:=0
def tw4842268395969565235:=0
def tw9956156670521190750:=0
def tw905108742165079621:=0
def tw11076683898869539705:=0
def tw14866406154047761747:=0
def tw7616687824110131829:=0
def tw8106967432662593564:=0
def tw8776421578950562766:=0
def tw11110072665841015309:=0
def tw12608092136078903302:=0
def tw3301996970220719494:=0
def tw11436975996617886558:=0
def tw16441623206892845665:=0
def tw6650075912547089631:=0
def tw16029429274666122637:=0
def tw10144896931797849424:=0
def tw277386405187610558:=0
def tw7015663279661389664:=0
def tw7026632339995016181:=0
def tw2128442546519028116:=0
def tw16670056578644408084:=0
def tw4588067824379011679:=0
def tw4370246527051247390:=0
def tw15534057440955654557:=0
def tw16102997368817149946:=0
def tw8455529689580561148:=0
def tw14877238981861525845:=0
def tw4283186589298065365:=0
def tw17769898787831233141:=0
def tw3180947056202036225:=0
def tw7995089793701022930:=0
def tw5594072949765868073:=0
def tw5380883095686005221:=0
def tw841113718633378910:=0
def tw12880261435921623138:=0
def tw4408612633902623178:=0
def tw7711007074490199981:=0
def tw9335134022420185798:=0
def tw9913043474775519742:=0
def tw10946548009736679940:=0
def tw14961095318139229675:=0
def tw10753007627302568373:=0
def tw11856327937064369510:=0
def tw8320801413159894984:=0
def tw3844058163290816383:=0
def tw10086560099046230434:=0
def tw8665941752845760531:=0
def tw11862783908646042979:=0
def tw9112883920561460968:=0
def tw8277504608998767628:=0
def tw6018467536672196785:=0
def tw1827764628819097670:=0
def tw2857486836954123650:=0
def tw1530725702265736002:=0
def tw4855264033607943694:=0
def tw14111095551844211616:=0
def tw17242101854952142921:=0
def tw275821456714885078:=0
def tw7466341184142037083:=0
def tw12674006111114269525:=0
def tw14667336249248996220:=0
def tw8124121071224133697:=0
def tw12475352046207042362:=0
def tw6544596696951009133:=0
def tw11896421881296866889:=0
def tw6419361871232631695:=0
def tw13617784931513808975:=0
def tw349172658498990190:=0
def tw17105120076911014239:=0
def tw123781565932231231:=0
def tw12380266917973967843:=0
def tw1176639188643655288:=0
def tw9660921493194739924:=0
def tw12828227570644093956:=0
def tw17332096382671743569:=0
def tw17050590058287082124:=0
def tw15012352385337940089:=0
def tw11715370243090431665:=0
def tw11955088476097515439:=0
def tw3273629725608722441:=0
def tw11375068394094696858:=0
def tw14231604820968759822:=0
def tw2025131492623534367:=0
def tw9251304203792156592:=0
def tw11092167662732354492:=0
def tw18051417890773995779:=0
def tw2212552589913076749:=0
def tw13519214520969847003:=0
def tw7120446186166818872:=0
def tw10613993724446054712:=0
def tw14819340959820003654:=0
def tw11474690919844913832:=0
def tw4195160605054962051:=0
def tw12705708060626095724:=0
def tw3265300740710714497:=0
def tw16751761703539901654:=0
def tw6219757644067022359:=0
def tw11192747502277563315:=0
def tw15416496135776168043:=0
def tw11273789556966755080:=0
def tw7784872672023715594:=0
def tw4418605209487610691:=0
def tw7989125094000485291:=0
def tw13979521771301378277:=0
def tw3288503801546119587:=0
def tw17612936326478128484:=0
def tw15076874400415859200:=0
def tw13552281140472831574:=0
def tw12740671896848005903:=0
def tw17289723686050722315:=0
def tw5526751951226019390:=0
def tw5737263558442825501:=0
def tw12904802853330027015:=0
def tw6808231469248392517:=0
def tw6633848446690143324:=0
def tw7628895323741644030:=0
def tw3767277704038806858:=0
def tw12986140270315696356:=0
def tw3695664887268871145:=0
def tw12658215347663029592:=0
def tw2929715270102486690:=0
def tw12191412681484914813:=0
def tw15718775385157996569:=0
def tw9017964110317666249:=0
def tw13270578726329680749:=0
def tw2014717298290645289:=0
def tw496214936776112084:=0
def tw12965920065523068234:=0
def tw7150231899131378257:=0
def tw14953722713543255267:=0
def tw9661194852686519506:=0
def tw17640984192632533748:=0
def tw13701954863762762292:=0
def tw430520598183881214:=0
def tw14402556524790198893:=0
def tw10571046184272783043:=0
def tw4054416475752785683:=0
def tw15186246686857358848:=0
def tw4722128680764858736:=0
def tw3253908478452566448:=0
def tw9122558773380967273:=0
def tw3397357602458897288:=0
def tw14973392207696778226:=0
def tw16729444338941301769:=0
def tw12552549484195158034:=0
def tw12428739979097045377:=0
def tw10656934231932912575:=0
def tw6886916572650246727:=0
def tw16845721459256369033:=0
def tw7638958435152697750:=0
def tw14197230983824428687:=0
def tw1770136153793363926:=0
def tw8068717184542106682:=0
def tw7938192226346760620:=0
def tw9785595177635325943:=0
def tw10788993878889547217:=0
def tw745092378371407937:=0
def tw7058715333561969125:=0
def tw10844604180555328116:=0
def tw15118494933998409905:=0
def tw3971007920662700969:=0
def tw3167084432824183074:=0
def tw15819301711746867968:=0
def tw17314772700904896983:=0
end PySem.W.Fast
open PySem PySem.W PyProof.Rows
set_option maxRecDepth 100000 in
set_option maxHeartbeats 0 in
theorem PySem.Challenge.cw_manrent_k53_pages_refused_holds : PySem.Challenge.rw_manrent_k53_pages_refused.Holds := by
 w_on;o_law;k_head;(case hw=>w_witness2)
 k_fill
 refine M.walk (l:=PySem.Challenge.rw_manrent_k53_pages_refused) rfl rfl (fun w h Y=>PySem.W.kIn_of Y) ?F
 case F =>
  intro w mg fa h KX G hmg
  refine' M.all_mk KX G hmg ?a1 ?l1 ?c1 ?k1 ?a2 ?l2 ?c2 ?k2 ?a3 ?l3 ?c3 ?k3 ?a4 ?l4 ?c4 ?k4 ?a5 ?l5 ?c5 ?k5 ?a6 ?l6 ?c6 ?k6 ?a7 ?l7 ?c7 ?k7 ?a8 ?l8 ?c8 ?k8 ?a9 ?l9 ?c9 ?k9 ?a10 ?l10 ?c10 ?k10 ?a11 ?l11 ?c11 ?k11 ?a12 ?l12 ?c12 ?k12 ?a13 ?l13 ?c13 ?k13 ?a14 ?l14 ?c14 ?k14 ?a15 ?l15 ?c15 ?k15 ?a16 ?l16 ?c16 ?k16 ?a17 ?l17 ?c17 ?k17 ?a18 ?l18 ?c18 ?k18 ?a19 ?l19 ?c19 ?k19 ?a20 ?l20 ?c20 ?k20 ?a21 ?l21 ?c21 ?k21 ?a22 ?l22 ?c22 ?k22 ?a23 ?l23 ?c23 ?k23 ?a24 ?l24 ?c24 ?k24 ?a25 ?l25 ?c25 ?k25 ?a26 ?l26 ?c26 ?k26 ?a27 ?l27 ?c27 ?k27 ?a28 ?l28 ?c28 ?k28 ?a29 ?l29 ?c29 ?k29 ?a30 ?l30 ?c30 ?k30 ?a31 ?l31 ?c31 ?k31 ?a32 ?l32 ?c32 ?k32 ?a33 ?l33 ?c33 ?k33 ?a34 ?l34 ?c34 ?k34 ?a35 ?l35 ?c35 ?k35 ?a36 ?l36 ?c36 ?k36 ?a37 ?l37 ?c37 ?k37 ?q1 ?q2 ?q3 ?q4 ?q5 ?q6 ?q7 ?q8 ?q9 ?q10 ?q11 ?q12 ?q13 ?q14 ?z1 ?z2 ?z3 ?z4 ?z5 ?z6 ?z7 ?z8 ?z9 ?z10 ?z11 ?z12 ?z13 ?z14 ?fa_T ?la_T ?ca_T ?ia_T ?tT ?eT ?kpC ?hdC ?saC ?noC ?eiC ?rdL ?fcL ?spL ?x1 ?x2 ?x3 ?x4 ?x5 ?x6 ?x7 ?x8 ?exL ?exC ?y0 ?y1 ?y2 ?y3 ?fa_I ?la_I ?ca_I ?ka_I ?ia_I ?fa_A ?la_A ?ca_A ?ka_A ?ia_A ?fa_B ?la_B ?ca_B ?ka_B ?ia_B ?fa_Fr ?la_Fr ?ca_Fr ?ka_Fr ?ia_Fr ?fa_Rw ?la_Rw ?ca_Rw ?ka_Rw ?ia_Rw ?pgR ?hdR ?poR ?saR ?mkR ?kpR ?na1 ?na2 ?na3 ?na4 ?na5 ?kF ?eF ?lF ?kB ?eB ?lB ?t_f1_ ?s_f1_ ?v_f1_ ?t_f2_ ?s_f2_ ?v_f2_ ?t_f3_ ?s_f3_ ?v_f3_ ?t_f4_ ?s_f4_ ?v_f4_ ?t_f5_ ?s_f5_ ?v_f5_ ?t_f6_ ?s_f6_ ?v_f6_ ?t_f7_ ?s_f7_ ?v_f7_ ?t_b1_ ?s_b1_ ?v_b1_ ?t_b2_ ?s_b2_ ?v_b2_ ?t_b3_ ?s_b3_ ?v_b3_ ?t_b4_ ?s_b4_ ?v_b4_ ?t_b7_ ?s_b7_ ?v_b7_ ?t_tw_ ?s_tw_ ?v_tw_ ?t_aH_ ?s_aH_ ?v_aH_ ?t_h1_ ?s_h1_ ?v_h1_ ?t_h2_ ?s_h2_ ?v_h2_ ?t_e1_ ?s_e1_ ?v_e1_ ?t_e2_ ?s_e2_ ?v_e2_
  case a1|l1|c1|k1|a2|l2|c2|k2|a3|l3|c3|k3|a4|l4|c4|k4|a5|l5|c5|k5|a6|l6|c6|k6|a7|l7|c7|k7|a8|l8|c8|k8|a9|l9|c9|k9|a10|l10|c10|k10|a11|l11|c11|k11|a12|l12|c12|k12|a13|l13|c13|k13|a14|l14|c14|k14|a15|l15|c15|k15|a16|l16|c16|k16|a17|l17|c17|k17|a18|l18|c18|k18|a19|l19|c19|k19|a20|l20|c20|k20|a21|l21|c21|k21|a22|l22|c22|k22|a23|l23|c23|k23|a24|l24|c24|k24|a25|l25|c25|k25|a26|l26|c26|k26|a27|l27|c27|k27|a28|l28|c28|k28|a29|l29|c29|k29|a30|l30|c30|k30|a31|l31|c31|k31|a32|l32|c32|k32|a33|l33|c33|k33|a34|l34|c34|k34|a35|l35|c35|k35|a36|l36|c36|k36|a37|l37|c37|k37|q1|q2|q3|q4|q5|q6|q7|q8|q9|q10|q11|q12|q13|q14|z1|z2|z3|z4|z5|z6|z7|z8|z9|z10|z11|z12|z13|z14|fa_T|la_T|ca_T|ia_T|tT=>k_is
  (case eT=>rfl)
  case kpC|hdC|saC|noC=>k_is
  (case eiC=>kernel_rfl)
  case rdL|fcL|spL|x1|x2|x3|x4|x5|x6|x7|x8=>k_is
  (case exL=>kts_exm)
  (case exC=>kts_exm)
  case y0|y1|y2|y3=>kit_is
  case fa_I|la_I|ca_I|ka_I|ia_I|fa_A|la_A|ca_A|ka_A|ia_A|fa_B|la_B|ca_B|ka_B|ia_B|fa_Fr|la_Fr|ca_Fr|ka_Fr|ia_Fr|fa_Rw|la_Rw|ca_Rw|ka_Rw|ia_Rw|pgR|hdR|poR|saR|mkR|kpR|na1|na2|na3|na4|na5|kF=>k_is
  (case eF=>exact ⟨⟨⟨_,rfl⟩,rfl,rfl⟩,⟨⟨_,rfl⟩,rfl,rfl⟩,⟨⟨_,rfl⟩,rfl,rfl⟩,⟨⟨_,rfl⟩,rfl,rfl⟩,⟨⟨_,rfl⟩,rfl,rfl⟩,⟨⟨_,rfl⟩,rfl,rfl⟩,⟨⟨_,rfl⟩,rfl,rfl⟩,True.intro⟩)
  (case lF=>rfl)
  case kB=>k_is
  (case eB=>exact ⟨⟨⟨_,rfl⟩,rfl,rfl⟩,⟨⟨_,rfl⟩,rfl,rfl⟩,⟨⟨_,rfl⟩,rfl,rfl⟩,⟨⟨_,rfl⟩,rfl,rfl⟩,⟨⟨_,rfl⟩,rfl,rfl⟩,⟨⟨_,rfl⟩,rfl,rfl⟩,⟨⟨_,rfl⟩,rfl,rfl⟩,True.intro⟩)
  (case lB=>rfl)
  case t_f1_=>k_is
  (case s_f1_=>exact M.small (Nat.le_of_ble_eq_true rfl))
  (case v_f1_=>exact .cons ⟨_,rfl⟩ (.cons ⟨_,rfl⟩ (.cons ⟨_,rfl⟩ (.nil))))
  case t_f2_=>k_is
  (case s_f2_=>exact M.small (Nat.le_of_ble_eq_true rfl))
  (case v_f2_=>exact .cons ⟨_,rfl⟩ (.cons ⟨_,rfl⟩ (.cons ⟨_,rfl⟩ (.cons ⟨_,rfl⟩ (.cons ⟨_,rfl⟩ (.cons ⟨_,rfl⟩ (.nil)))))))
  case t_f3_=>k_is
  (case s_f3_=>exact M.small (Nat.le_of_ble_eq_true rfl))
  (case v_f3_=>exact .cons ⟨_,rfl⟩ (.cons ⟨_,rfl⟩ (.cons ⟨_,rfl⟩ (.cons ⟨_,rfl⟩ (.cons ⟨_,rfl⟩ (.nil))))))
  case t_f4_=>k_is
  (case s_f4_=>exact M.small (Nat.le_of_ble_eq_true rfl))
  (case v_f4_=>exact .cons ⟨_,rfl⟩ (.cons ⟨_,rfl⟩ (.cons ⟨_,rfl⟩ (.nil))))
  case t_f5_=>k_is
  (case s_f5_=>exact M.small (Nat.le_of_ble_eq_true rfl))
  (case v_f5_=>exact .cons ⟨_,rfl⟩ (.cons ⟨_,rfl⟩ (.cons ⟨_,rfl⟩ (.nil))))
  case t_f6_=>k_is
  (case s_f6_=>exact M.small (Nat.le_of_ble_eq_true rfl))
  (case v_f6_=>exact .cons ⟨_,rfl⟩ (.cons ⟨_,rfl⟩ (.nil)))
  case t_f7_=>k_is
  (case s_f7_=>exact M.small (Nat.le_of_ble_eq_true rfl))
  (case v_f7_=>exact .cons ⟨_,rfl⟩ (.cons ⟨_,rfl⟩ (.nil)))
  case t_b1_=>k_is
  (case s_b1_=>exact M.small (Nat.le_of_ble_eq_true rfl))
  (case v_b1_=>exact .cons ⟨_,rfl⟩ (.cons ⟨_,rfl⟩ (.nil)))
  case t_b2_=>k_is
  (case s_b2_=>exact M.small (Nat.le_of_ble_eq_true rfl))
  (case v_b2_=>exact .cons ⟨_,rfl⟩ (.cons ⟨_,rfl⟩ (.nil)))
  case t_b3_=>k_is
  (case s_b3_=>exact M.small (Nat.le_of_ble_eq_true rfl))
  (case v_b3_=>exact .cons ⟨_,rfl⟩ (.cons ⟨_,rfl⟩ (.nil)))
  case t_b4_=>k_is
  (case s_b4_=>exact M.small (Nat.le_of_ble_eq_true rfl))
  (case v_b4_=>exact .cons ⟨_,rfl⟩ (.cons ⟨_,rfl⟩ (.nil)))
  case t_b7_=>k_is
  (case s_b7_=>exact M.small (Nat.le_of_ble_eq_true rfl))
  (case v_b7_=>exact .cons ⟨_,rfl⟩ (.cons ⟨_,rfl⟩ (.nil)))
  case t_tw_=>k_is
  (case s_tw_=>exact M.small (Nat.le_of_ble_eq_true rfl))
  (case v_tw_=>exact .cons ⟨_,rfl⟩ (.cons ⟨_,rfl⟩ (.nil)))
  case t_aH_=>k_is
  (case s_aH_=>exact M.small (Nat.le_of_ble_eq_true rfl))
  (case v_aH_=>exact .cons rfl (.cons rfl (.nil)))
  case t_h1_=>k_is
  (case s_h1_=>exact M.small (Nat.le_of_ble_eq_true rfl))
  (case v_h1_=>exact .cons ⟨_,rfl⟩ (.cons rfl (.nil)))
  case t_h2_=>k_is
  (case s_h2_=>exact M.small (Nat.le_of_ble_eq_true rfl))
  (case v_h2_=>exact .cons ⟨_,rfl⟩ (.cons rfl (.nil)))
  case t_e1_=>k_is
  (case s_e1_=>exact M.small (Nat.le_of_ble_eq_true rfl))
  (case v_e1_=>exact .cons ⟨_,rfl⟩ (.cons ⟨_,rfl⟩ (.nil)))
  case t_e2_=>k_is
  (case s_e2_=>exact M.small (Nat.le_of_ble_eq_true rfl))
  (case v_e2_=>exact .cons ⟨_,rfl⟩ (.nil))
