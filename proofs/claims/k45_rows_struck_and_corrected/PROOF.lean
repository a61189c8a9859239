import PyProof.Rows.All
import KE.RegKIsAll
import KE.RegKTryMore
import Wide.All
import OpenK.AllK
import Wide.FinOn
import Lean
import PyProof.EqAt
import PyProof.EqKinds
import PyProof.TupleCall
import PyProof.P3Eq
import PyProof.NeData
import KE.KTryDeep
import KE.KTryMore
import KE.KIsAll
import PyProof.NsDelKeeps
import PyProof.ExcArgsOwn
import OpenK.KTop
import PyProof.ExcBaseAll.ValueError
import PyProof.EnumMake
import PyProof.Draws
import KE.KSetDisp
import PyProof.SetRoads
import PyProof.Rows.SortStr
import PyProof.Rows.SortWalk
import PyProof.DictItems
import PyProof.DictValues
import KE.KSortTup
import KE.KItemsList
import KE.KDictOf
import KE.KDictList
import PyProof.ListRange
import PyProof.StrLawsTight
import PyProof.StrLawsChain
import PyProof.StrCalls2
import KE.KIntText
import KE.KListMore
import PyProof.AutoListH
import PyProof.SetKind
import PyProof.TupleKey
import PyProof.IsRules
import PyProof.Rows.SetFrom
import PyProof.AttrMissHeap
import PySem.Challenge.RW_manrent_k45_rows_struck_and_corrected
set_option Elab.async false
set_option linter.all false
set_option maxHeartbeats 16000000
set_option maxRecDepth 100000
theorem bR {α β:Type _}{as:List α} (f:α->β):(as.map f).length=as.length:=List.length_map f
theorem dI {α:Type _}{l:List α}{i:Nat} (h:i<l.length):l[i]?=some l[i]:=List.getElem?_eq_getElem h
theorem iz {α:Type _}{l:List α}{i:Nat}{a:α}:l.getD i a=l[i]?.getD a:=List.getD_eq_getElem?_getD
theorem xX {p:Prop} [inst:Decidable p] (h:decide p=true):p:=of_decide_eq_true h
theorem lW {α β:Type _}{f:α->β}{l:List α}{i:Nat}:(l.map f)[i]?=Option.map f l[i]?:=List.getElem?_map
theorem iY {α:Type _}{as bs:List α}:(as++bs).length=as.length+bs.length:=List.length_append
theorem mD {α:Type _} (y:α) {a:α}{l:List α} (h:a∈l):a∈y::l:=List.mem_cons_of_mem y h
theorem jK {α:Type _}{a:α}{as:List α}:(a::as).length=as.length+1:=List.length_cons
theorem qN {α:Type _}{l:List α}{i:Nat}{a:α} (e:l[i]?=some a):a∈l:=List.mem_of_getElem? e
theorem lR {α β:Type _}{f:α->β}{l₁ l₂:List α}:(l₁++l₂).map f=l₁.map f++l₂.map f:=List.map_append
namespace M
inductive cU where
 | d | n | c | a | s | b | e
 deriving DecidableEq
end M
variable {its us:List PySem.Value}{name qual x z:PySem.Str}{u:PySem.Value}{C CF CH CN CT D L a ax b d dx en en' f fa g1 g2 g3 g4 g5 i1 i2 it l:PySem.Addr}{o:PySem.Obj}{P prog:PySem.Program}{w:PySem.World}{base h h' h2:PySem.Heap}{e iter tg value:PySem.Expr}{pins:List (PySem.Addr×PySem.Obj)}{s s':PySem.Shared}{F ep fr' i j m n t' x1:Nat}{as ch fp:List PySem.Addr}{N loose ps:List PySem.Str}{A:PySem.Around}{E Q:PySem.Value->PySem.Shared->Prop}{apos cpos p p2 pos pos' q tp:PySem.Pos}{op:PySem.CmpOp}{K:PySem.W.Frag}{st:PySem.Stmt}{body sts:List PySem.Stmt}{elts es:List PySem.Expr}{hi lo:Option Int}{mA mg:PySem.Str->Option PySem.Value}{pl:PySem.Sem Bool}{kw:List (PySem.Str×PySem.Value)}{env:PySem.Env}{outer:List PySem.Env}{d1 d2 d3 d4 d5 fd gd:PySem.FuncData}{scope:PySem.Scope}{T:String}{XP:(PySem.Str->Option PySem.Value)->PySem.Heap->Prop}{YP:PySem.World->PySem.Heap->Prop}{B:Prop}{ix:List Nat}{hs:List Int}
namespace L2
open PySem PySem.Spec PyProof.Rows
abbrev Key:=Sum Int Str
def qO:Key->Value->Bool
 | .inl k,v=>Value.isInt k v
 | .inr x,v=>Value.isStrOf x v
def keyH (w:World):Key->Int
 | .inl k=>hashInt k
 | .inr x=>hashStr w x
theorem cI:∀ {k:Key}{v:Value},qO k v=true->(∃ i t,k=Sum.inl i/\v=Value.int i t)\/(∃ x t,k=Sum.inr x/\v=Value.str x t)
 | .inl i,v,h=>by
  obtain ⟨t,e⟩:=Value.isInt_shape (k:=i) (v:=v) h
  exact .inl ⟨i,t,rfl,e⟩
 | .inr x,v,h=>by
  obtain ⟨t,e⟩:=Value.isStrOf_shape (x:=x) (v:=v) h
  exact .inr ⟨x,t,rfl,e⟩
theorem Ez (i:Int) (t:Tok):qO (.inl i) (.int i t)=true:=by simp [qO,Value.isInt]
theorem EY (x:Str) (t:Tok):qO (.inr x) (.str x t)=true:=by simp [qO,Value.isStrOf]
theorem Sx (a b:Int):decide ((Sum.inl a:Key)=Sum.inl b)=(a==b):=by
 by_cases e:a=b
 ·subst e;simp
 ·have h:¬ (Sum.inl a:Key)=Sum.inl b:=fun q=>e (Sum.inl.inj q)
  rw [decide_eq_false h]
  exact (beq_eq_false_iff_ne.mpr e).symm
theorem Sy (a b:Str):decide ((Sum.inr a:Key)=Sum.inr b)=decide (a=b):=by
 by_cases e:a=b
 ·subst e;simp
 ·have h:¬ (Sum.inr a:Key)=Sum.inr b:=fun q=>e (Sum.inr.inj q)
  rw [decide_eq_false h,decide_eq_false e]
theorem SJ (a:Int) (b:Str):decide ((Sum.inl a:Key)=Sum.inr b)=false:=decide_eq_false (fun q=>nomatch q)
theorem SM (a:Str) (b:Int):decide ((Sum.inr a:Key)=Sum.inl b)=false:=decide_eq_false (fun q=>nomatch q)
def bJ (prog:Program) (w:World):PySem.KeyKind prog w Key where
 is:=qO
 hash:=keyH w
 inj:=fun v a b ha hb=>by
  rcases cI ha with ⟨i,t,rfl,rfl⟩ | ⟨x,t,rfl,rfl⟩
  ·rcases cI hb with ⟨j,u,rfl,e⟩ | ⟨y,u,rfl,e⟩
   ·injection e with e1 _;rw [e1]
   ·exact nomatch e
  ·rcases cI hb with ⟨j,u,rfl,e⟩ | ⟨y,u,rfl,e⟩
   ·exact nomatch e
   ·injection e with e1 _;rw [e1]
 byValue:=fun k v h=>by
  rcases cI h with ⟨i,t,rfl,rfl⟩ | ⟨x,t,rfl,rfl⟩ <;> rfl
 pyHash:=fun hv h=>by
  rcases cI hv with ⟨i,t,rfl,rfl⟩ | ⟨x,t,rfl,rfl⟩
  ·exact wpAny_pyHash_int h
  ·exact wpAny_pyHash_str h
 eqBool:=fun hu hv h=>by
  rcases cI hu with ⟨i,t,rfl,rfl⟩ | ⟨x,t,rfl,rfl⟩
  ·rcases cI hv with ⟨j,u,rfl,rfl⟩ | ⟨y,u,rfl,rfl⟩
   ·rw [Sx] at h;exact wpAny_eqBool_int h
   ·rw [SJ] at h;exact SeqAt.EqAt.int_str i t y u _ _ _ _ h
  ·rcases cI hv with ⟨j,u,rfl,rfl⟩ | ⟨y,u,rfl,rfl⟩
   ·rw [SM] at h;exact SeqAt.EqAt.str_int x t j u _ _ _ _ h
   ·rw [Sy] at h;exact wpAny_eqBool_str h
 «strs»:=fun k x t v h=>by
  rcases cI h with ⟨i,u,rfl,e⟩ | ⟨y,u,rfl,e⟩
  ·exact nomatch e
  ·injection e with e1 _
   subst e1
   cases v <;> rfl
theorem yd (prog:Program) (w:World) (i:Int) (t:Tok):(bJ prog w).is (.inl i) (.int i t)=true:=Ez i t
theorem yg (prog:Program) (w:World) (x:Str) (t:Tok):(bJ prog w).is (.inr x) (.str x t)=true:=EY x t
inductive V where
 | non | bl (b:Bool) | int (i:Int) | str (x:Str) | xY (b:Array UInt8) | flt (b:UInt64) | ref (a:Addr) | ty (n:String)
 deriving DecidableEq
variable {ls r rest rs xs ys:List V}{v y:V}{kvs:List (Int×V)}{pool:List (List V)}
def RelV:V->Value->Prop
 | .non,u=>u=Value.none
 | .bl b,u=>u=Value.bool b
 | .int i,u=>∃ t,u=Value.int i t
 | .str x,u=>∃ t,u=Value.str x t
 | .xY b,u=>∃ t,u=Value.bytes b t
 | .flt b,u=>∃ t,u=Value.float b t
 | .ref a,u=>u=Value.ref a
 | .ty n,u=>u=Value.type n
abbrev Vals:List V->List Value->Prop:=Paired RelV
theorem Vals.length (r:Vals xs us):xs.length=us.length:=Paired.length r
theorem Vals.get:∀ {xs:List V}{us:List Value}{i:Nat}{x:V},Vals xs us->xs[i]?=some x->∃ u,us[i]?=some u/\RelV x u
 | _,_,_,_,.nil,e=>by simp at e
 | _,_,0,_,.cons r _,e=>by simp at e;subst e;exact ⟨_,rfl,r⟩
 | _,_,i+1,x,.cons _ t,e=>by
  obtain ⟨u,h1,h2⟩:=Vals.get (i:=i) (x:=x) t (by simpa using e)
  exact ⟨u,by simpa using h1,h2⟩
theorem Vals.set {x:V} (r:RelV x u):∀ {xs:List V}{us:List Value} (i:Nat),Vals xs us->Vals (xs.set i x) (us.set i u)
 | _,_,_,.nil=>.nil
 | _,_,0,.cons _ t=>.cons r t
 | _,_,i+1,.cons q t=>.cons q (Vals.set r i t)
theorem Vals.append:∀ {xs ys:List V}{us ws:List Value},Vals xs us->Vals ys ws->Vals (xs++ys) (us++ws)
 | _,_,_,_,.nil,s=>s
 | _,_,_,_,.cons r t,s=>.cons r (Vals.append t s)
theorem Vals.take:∀ {xs:List V}{us:List Value} (n:Nat),Vals xs us->Vals (xs.take n) (us.take n)
 | _,_,0,_=>.nil
 | _,_,_+1,.nil=>.nil
 | _,_,n+1,.cons r t=>.cons r (Vals.take n t)
theorem Vals.drop:∀ {xs:List V}{us:List Value} (n:Nat),Vals xs us->Vals (xs.drop n) (us.drop n)
 | _,_,0,r=>r
 | _,_,_+1,.nil=>.nil
 | _,_,n+1,.cons _ t=>Vals.drop n t
def iQ:Option V->Option Value->Prop
 | some v,some u=>RelV v u
 | none,none=>True
 | _,_=>False
def KV {κ:Type}:List (κ×V)->List (κ×Value)->Prop:=Paired fun (p:κ×V) (q:κ×Value)=>p.1=q.1/\RelV p.2 q.2
def kV:Key->V
 | .inl i=>.int i
 | .inr x=>.str x
inductive HO where
 | lst (xs:List V)
 | tup (xs:List V)
 | dK (kvs:List (Key×V)) | dT (kvs:List (List Key×V))
 | set (S:Int->Bool) (n:Nat)
 | ins (C dx:Addr) (fs:List (Str×V))
 | own (x:Addr)
 | xd (fs:List (Str×V))
 | met (f x:Addr)
 | rng (lo hi:Int)
 | zV (o:Obj) (u:HO)
 | N8 (ps:Array Value)
 | ext (φ:Heap->Prop)
abbrev Hp:=Addr->Option HO
variable {H H' H1 H2 H4:Hp}
def upd (H:Hp) (a:Addr) (o:HO):Hp:=fun b=>if b=a then some o else H b
theorem ak {o:HO}:upd H a o a=some o:=by unfold upd;rw [if_pos rfl]
theorem aC {o:HO} (h:b≠a):upd H a o b=H b:=by unfold upd;rw [if_neg h]
theorem qg {o u:HO}:upd (upd H a o) a u=upd H a u:=by
 funext b;unfold upd;split <;> rfl
theorem Ww {o u:HO} (h:H a=some o) (h':H b=some u) (d:o≠u):a≠b:=by
 intro e;subst e;rw [h] at h';exact d (Option.some.inj h')
theorem aN {o:HO} (h:H a=some o) (h':H b=none):a≠b:=by
 intro e;subst e;rw [h] at h';cases h'
section
variable (P:Program) (w:World)
def cA (H:Hp) (h:Heap) (a:Addr):HO->Prop
 | .lst xs=>xs.length<=sizeLine/\∃ (its:List Value) (n:Nat),Vals xs its/\h.get? a=some { cls:=.type "list",data:=.seq its.toArray n }
 | .tup xs=>xs.length<=sizeLine/\∃ its:List Value,Vals xs its/\IsTup h a its.toArray
 | .dK kvs=>kvs.length<=sizeLine/\(a==sysModules)=false/\∃ vs,KV kvs vs/\h.DictOf (bJ P w) a vs
 | .dT kvs=>kvs.length<=sizeLine/\(a==sysModules)=false/\∃ xs:List (List Key×Addr×Value),
   Paired (fun (p:List Key×V) (q:List Key×Addr×Value)=>p.1=q.1/\H q.2.1=some (.tup (p.1.map kV))/\RelV p.2 q.2.2) kvs xs /\
   ∃ o es ep,h.get? a=some o/\o.ExactDict/\o.data=.dict es ep/\es.toList=xs.map (entryOfKey (tupleKind (bJ P w)))/\(xs.map (·.1)).Nodup
 | .set S n=>h.SetOf (intKind P w) a S n
 | .ins C dx fs=>H dx=some (.own a)/\fs.length<=1000/\dx≠a/\h.get? a=some (PySem.W.instObj C dx) /\
   ∃ mA,h.Ns1 dx mA/\(∀ f,iQ (fs.lookup f) (mA f))/\PySem.Within mA (fs.map (·.1))
 | .own _=>∃ o,h.get? a=some o
 | .xd fs=>∃ mA,h.Ns1 a mA/\∀ f,iQ (fs.lookup f) (mA f)
 | .rng lo hi=>∃ t u v,h.get? a=some { cls:=.type "range",data:=.fields #[.int lo t,.int hi u,.int 1 v] }
 | .zV o u=>h.get? a=some o/\cA H h a u
 | .N8 ps=>h.get? a=some { cls:=.none,data:=.fields ps }
 | .met f x=>h.get? a=some (PySem.W.methodObj (.ref f) (.ref x))
 | .ext φ=>φ h/\(∃ o,h.get? a=some o)/\∀ h1 h2:Heap,φ h1->(∀ o,h1.get? a=some o->h2.get? a=some o)->φ h2
def jG (H:Hp) (h:Heap):Prop:=∀ a o,H a=some o->cA P w H h a o
end
section
variable {o:HO}
theorem cA.lt (x:cA P w H h a o):a<h.objs.size:=by
 cases o with
 | lst xs=>obtain ⟨_,_,_,_,e⟩:=x;exact Heap.lt_size e
 | tup xs=>obtain ⟨_,_,_,p⟩:=x;exact p.lt
 | dK kvs=>obtain ⟨_,_,_,_,o,_,_,e,_⟩:=x;exact Heap.lt_size e
 | dT kvs=>obtain ⟨_,_,_,_,o,_,_,e,_⟩:=x;exact Heap.lt_size e
 | set S n=>obtain ⟨o,_,_,_,e,_⟩:=x;exact Heap.lt_size e
 | ins C dx fs=>obtain ⟨_,_,_,e,_⟩:=x;exact Heap.lt_size e
 | own y=>obtain ⟨_,e⟩:=x;exact Heap.lt_size e
 | xd fs=>obtain ⟨_,⟨_,_,_,e,_⟩,_⟩:=x;exact Heap.lt_size e
 | rng lo hi=>obtain ⟨_,_,_,e⟩:=x;exact Heap.lt_size e
 | zV ob u=>obtain ⟨e,_⟩:=x;exact Heap.lt_size e
 | N8 ps=>exact Heap.lt_size (show h.get? a=some _ from x)
 | met f y=>exact Heap.lt_size (show h.get? a=some _ from x)
 | ext φ=>obtain ⟨_,⟨_,e⟩,_⟩:=x;exact Heap.lt_size e
theorem Paired.iB {α β:Type}{F G:α->β->Prop}:∀ {l₁:List α}{l₂:List β},Paired F l₁ l₂->(∀ a b,F a b->G a b)->Paired G l₁ l₂
 | _,_,.nil,_=>.nil
 | _,_,.cons r t,f=>.cons (f _ _ r) (Paired.iB t f)
theorem cA.stay (x:cA P w H h a o) (k:∀ b u,(b=a\/H b=some (.own a))->h.get? b=some u->h'.get? b=some u)
  (ho:∀ b,H b=some (.own a)->H' b=some (.own a)) (ht:∀ b xs,H b=some (.tup xs)->H' b=some (.tup xs)):cA P w H' h' a o:=by
 induction o with
 | lst xs=>obtain ⟨z,its,n,r,e⟩:=x;exact ⟨z,its,n,r,k _ _ (.inl rfl) e⟩
 | tup xs=>obtain ⟨z,its,r,ob,e,c⟩:=x;exact ⟨z,its,r,ob,k _ _ (.inl rfl) e,c⟩
 | dK kvs=>obtain ⟨z,y,vs,r,ob,es,ep,e,c⟩:=x;exact ⟨z,y,vs,r,ob,es,ep,k _ _ (.inl rfl) e,c⟩
 | dT kvs =>
  obtain ⟨z,y,xs,r,ob,es,ep,e,c⟩:=x
  exact ⟨z,y,xs,Paired.iB r fun p q z=>⟨z.1,ht _ _ z.2.1,z.2.2⟩,ob,es,ep,k _ _ (.inl rfl) e,c⟩
 | set S n=>obtain ⟨ob,es,ep,t,e,c⟩:=x;exact ⟨ob,es,ep,t,k _ _ (.inl rfl) e,c⟩
 | ins C dx fs =>
  obtain ⟨d,z,ne,e,mA,⟨od,es,ep,e2,c⟩,r⟩:=x
  exact ⟨ho _ d,z,ne,k _ _ (.inl rfl) e,mA,⟨od,es,ep,k _ _ (.inr d) e2,c⟩,r⟩
 | own y=>obtain ⟨ob,e⟩:=x;exact ⟨ob,k _ _ (.inl rfl) e⟩
 | xd fs=>obtain ⟨mA,⟨od,es,ep,e,c⟩,r⟩:=x;exact ⟨mA,⟨od,es,ep,k _ _ (.inl rfl) e,c⟩,r⟩
 | rng lo hi=>obtain ⟨t,u,v,e⟩:=x;exact ⟨t,u,v,k _ _ (.inl rfl) e⟩
 | zV ob u ih=>obtain ⟨e,q⟩:=x;exact ⟨k _ _ (.inl rfl) e,ih q⟩
 | N8 ps =>
  have e:h.get? a=some { cls:=.none,data:=.fields ps }:=x
  show h'.get? a=some { cls:=.none,data:=.fields ps }
  exact k a _ (.inl rfl) e
 | met f y =>
  have e:h.get? a=some (PySem.W.methodObj (.ref f) (.ref y)):=x
  show h'.get? a=some (PySem.W.methodObj (.ref f) (.ref y))
  exact k a _ (.inl rfl) e
 | ext φ=>obtain ⟨p,⟨o,e⟩,st⟩:=x;exact ⟨st _ _ p fun o q=>k _ _ (.inl rfl) q,⟨o,k _ _ (.inl rfl) e⟩,st⟩
theorem jG.lt (x:jG P w H h) (e:H a=some o):a<h.objs.size:=(x a o e).lt
theorem jG.fresh (x:jG P w H h) (e:h.objs.size<=a):H a=none:=by
 cases q:H a with
 | none=>rfl
 | some u=>exact absurd (Nat.lt_of_lt_of_le (x.lt q) e) (Nat.lt_irrefl _)
theorem jG.kept (x:jG P w H h) (k:∀ b u,h.get? b=some u->h'.get? b=some u):jG P w H h':=fun a o e =>
 (x a o e).stay (fun b u _ q=>k b u q) (fun _ q=>q) fun _ _ q=>q
theorem jG.laid (x:jG P w H h) (k:∀ b u,h.get? b=some u->h'.get? b=some u) (hp:h.objs.size<=a) (new:cA P w (upd H a o) h' a o):jG P w (upd H a o) h':=fun b u e=>by
 have hn:=x.fresh hp
 by_cases hb:b=a
 ·subst hb;rw [ak] at e;cases e;exact new
 ·rw [aC hb] at e
  exact (x b u e).stay (fun c v _ q=>k c v q) (fun c q=>by rw [aC (aN q hn)];exact q) fun c xs q=>by rw [aC (aN q hn)];exact q
end
def Rd (H:Hp) (a:Addr) (u:HO):Prop:=H a=some u\/∃ o,H a=some (.zV o u)
theorem Rd.ok {u:HO} (r:Rd H a u) (x:jG P w H h):cA P w H h a u:=by
 rcases r with r | ⟨o,r⟩
 ·exact x a u r
 ·obtain ⟨_,q⟩:=x a _ r
  exact q
def Wx:Option HO->Prop
 | some (.lst _)=>True
 | some (.dK _)=>True
 | some (.dT _)=>True
 | some (.set _ _)=>True
 | some (.ins _ _ _)=>True
 | some (.ext _)=>True
 | _=>False
section
variable {x e:Addr}{o':HO}
theorem jG.write (ok:jG P w H h) (mu:Wx (H x)) (he:e=x\/H e=some (.own x)) (k:∀ b u,b≠e->h.get? b=some u->h'.get? b=some u) (heo:∃ u,h'.get? e=some u)
  (new:cA P w (upd H x o') h' x o'):jG P w (upd H x o') h':=fun b u q=>by
 have Wy:∀ c y,H c=some (.own y)->c≠x:=fun c y r z=>by subst z;rw [r] at mu;exact mu
 have ntup:∀ c xs,H c=some (.tup xs)->c≠x:=fun c xs r z=>by subst z;rw [r] at mu;exact mu
 by_cases hb:b=x
 ·subst hb;rw [ak] at q;cases q;exact new
 ·rw [aC hb] at q
  by_cases hbe:b=e
  ·have q':H b=some (.own x):=by
    rcases he with z | z
    ·exact absurd (hbe.trans z) hb
    ·rw [hbe];exact z
   rw [q] at q';cases q'
   obtain ⟨v,hv⟩:=heo
   exact ⟨v,by rw [hbe];exact hv⟩
  ·refine (ok b u q).stay (fun c v hc r=>k c v ?_ r) (fun c r=>by rw [aC (Wy c b r)];exact r) fun c xs r=>by rw [aC (ntup c xs r)];exact r
   rcases hc with rfl | hc
   ·exact hbe
   ·rintro rfl
    rcases he with z | z
    ·exact Wy c b hc z
    ·rw [hc] at z;cases z;exact hb rfl
end
structure Un (fs ex:List Addr) (H H':Hp) (h h':Heap):Prop where
 keep:∀ b o,h.get? b=some o->H b=none->b∉fs->b∉ex->h'.get? b=some o
 slot:∀ b o,h.get? b=some o->H b=none->b∈fs->b∉ex->∃ sl,h'.get? b=some { o with slots:=sl }
 free:∀ b o,h.get? b=some o->H b=none->b∉ex->H' b=none
 there:∀ b o,h.get? b=some o->b∉ex->∃ o',h'.get? b=some o'
 tups:∀ b xs,H b=some (.tup xs)->H' b=some (.tup xs)
 nY:∀ b o u,H b=some (.zV o u)->H' b=some (.zV o u)
 pW:∀ b ps,H b=some (.N8 ps)->∃ more,H' b=some (.N8 (ps++more))
section
variable {fs fs' ex ex':List Addr}{h1:Heap}{x e:Addr}{o:HO}
theorem Un.any (u:Un fs ex H H1 h h1) {ob:Obj} (q:h.get? b=some ob) (n:H b=none) (hx:b∉ex):∃ sl,h1.get? b=some { ob with slots:=sl }:=by
 by_cases hb:b∈fs
 ·exact u.slot b ob q n hb hx
 ·exact ⟨ob.slots,u.keep b ob q n hb hx⟩
theorem Un.kept (k:∀ b u,h.get? b=some u->h'.get? b=some u):Un fs ex H H h h' :=
 ⟨fun b ob q _ _ _=>k b ob q,fun b ob q _ _ _=>⟨ob.slots,k b ob q⟩,fun _ _ _ n _=>n,fun b ob q _=>⟨ob,k b ob q⟩,fun _ _ q=>q,fun _ _ _ q=>q,fun _ ps q=>⟨#[],by rw [q];simp⟩⟩
theorem Un.refl:Un fs ex H H h h:=Un.kept fun _ _ q=>q
theorem Un.laid (k:∀ b u,h.get? b=some u->h'.get? b=some u) (hp:h.objs.size<=a) (hn:H a=none):Un fs ex H (upd H a o) h h' where
 keep:=fun b u q _ _ _=>k b u q
 slot:=fun b u q _ _ _=>⟨u.slots,k b u q⟩
 free:=fun b u q n _=>by rw [aC (Nat.ne_of_lt (Nat.lt_of_lt_of_le (Heap.lt_size q) hp))];exact n
 there:=fun b u q _=>⟨u,k b u q⟩
 tups:=fun b xs q=>by rw [aC (aN q hn)];exact q
 nY:=fun b u xs q=>by rw [aC (aN q hn)];exact q
 pW:=fun b ps q=>⟨#[],by rw [aC (aN q hn),q];simp⟩
theorem Un.write (mu:Wx (H x)) (he:e=x\/H e=some (.own x)) (k:∀ b u,b≠e->h.get? b=some u->h'.get? b=some u) (heo:∃ u,h'.get? e=some u):Un fs ex H (upd H x o) h h':=by
 have hx:∀ b,H b=none->b≠x:=fun b n z=>by subst z;rw [n] at mu;exact mu
 have hb:∀ b,H b=none->b≠e:=fun b n z=>by
  subst z
  rcases he with r | r
  ·exact hx b n r
  ·rw [n] at r;cases r
 have hm:∀ b u,H b=some u->¬ Wx (some u)->b≠x:=fun b u q nm z=>by subst z;rw [q] at mu;exact nm mu
 refine ⟨fun b u q n _ _=>k b u (hb b n) q,fun b u q n _ _=>⟨u.slots,k b u (hb b n) q⟩,fun b u q n _=>by rw [aC (hx b n)];exact n,fun b u q _=>?_,
  fun b xs q=>by rw [aC (hm b _ q fun z=>z)];exact q,fun b u xs q=>by rw [aC (hm b _ q fun z=>z)];exact q,fun b ps q=>⟨#[],by rw [aC (hm b _ q fun z=>z),q];simp⟩⟩
 by_cases hbe:b=e
 ·subst hbe;exact heo
 ·exact ⟨u,k b u hbe q⟩
end
def trk (h:Heap) (H:Hp):List Addr:=(List.range h.objs.size).filter fun a=>(H a).isSome
def vJ (h:Heap) (H:Hp):Heap:=PySem.W.hideAll h (trk h H)
theorem Fb (h:Heap) (H:Hp):(vJ h H).objs.size=h.objs.size:=PySem.W.hideAll_size _ _
theorem Hq (e:h.get? b=some o) (n:H b=none):(vJ h H).get? b=some o :=
 PySem.W.hideAll_get _ e fun hm=>by
  have q:(H b).isSome=true:=(List.mem_filter.mp hm).2
  rw [n] at q;simp at q
theorem Nb (e:(vJ h H).get? b=some o):h.get? b=some o/\H b=none:=by
 have e':h.get? b=some o:=PySem.W.of_hideAll (trk h H) e
 refine ⟨e',?_⟩
 cases q:H b with
 | none=>rfl
 | some x =>
  have hm:b∈trk h H:=List.mem_filter.mpr ⟨List.mem_range.mpr (Heap.lt_size e'),by simp [q]⟩
  have z:(vJ h H).get? b=none:=PySem.W.hideAll_none (trk h H) hm
  rw [z] at e;cases e
structure Mod (K:PySem.W.Frag) (mg:Str->Option Value) (base:Heap):Prop where
 kin:K.In base
 glob:base.Ns mainGlobals mg
 blt:∃ mb,base.Ns builtinsNs mb/\∀ x:Str,x≠"__name__"->mb x=bootBuiltins x
 nolimit:base.NoLimit
structure Cx where
 prog:Program
 w:World
 K:PySem.W.Frag
 mg:Str->Option Value
 base:Heap
 A:Around
 N:List Str
 s₀:Shared
 H₀:Hp
 env:Env
 outer:List Env
 stack:List Env
 ex:List Addr
 fn:Str->Bool
 calm:Bool
 pn:List (Addr×Obj)
 xe:Value->Shared->Prop
variable {X:Cx}
def frs (l:List Env):List Addr:=l.filterMap (·.frame)
abbrev Cx.fs (X:Cx):List Addr:=frs X.outer
def Vis (sc:Scope) (x:Str):Prop:=sc.names.lookup x=some .local\/sc.names.lookup x=some .cell\/sc.names.lookup x=some .free
def Loc (sc:Scope) (x:Str):Prop:=sc.names.lookup x=some .local\/sc.names.lookup x=some .cell
def Look (env:Env) (h:Heap) (m:Str->Option Value) (x:Str) (u:Value):Prop :=
 (env.kindOf x=some .local/\m x=some u)\/((env.kindOf x=some .cell\/env.kindOf x=some .free)/\∃ c,env.cells.lookup x=some c/\h.IsCell c (some u))
structure Cx.Ok (X:Cx):Prop where
 mod:Mod X.K X.mg X.base
 kind:X.env.scope.kind=.function
 glob:X.env.globals=mainGlobals
 blt:X.env.builtins=builtinsNs
 above:X.s₀.heap.objs.size<=X.env.locals
 inj:∀ x y c,X.env.cells.lookup x=some c->X.env.cells.lookup y=some c->x=y
 has:∀ x,(X.env.kindOf x=some .cell\/X.env.kindOf x=some .free)->∃ c,X.env.cells.lookup x=some c
 cab:∀ x c,X.fn x=true->X.env.cells.lookup x=some c->X.s₀.heap.objs.size<=c
 hd:X.calm=true->X.A.handled=none
 frames:X.A.frames=some X.stack
 stk:X.stack=X.outer\/(X.stack=X.env::X.outer/\X.env.frame=some X.env.locals)
 Wg:∀ b∈X.ex,b≠X.env.locals/\∀ x c,X.env.cells.lookup x=some c->c≠b
 bs:∀ b o,X.base.get? b=some o->X.s₀.heap.get? b=some o/\X.H₀ b=none
 Hr:X.base.objs.size<=X.s₀.heap.objs.size
 yh:∀ b o,X.base.get? b=some o->b∉X.ex
 zX:∀ b∈X.ex,b∉X.fs
 lU:X.s₀.heap.FunFrames X.base X.outer
 Nf:∀ b∈X.fs,X.H₀ b=none
structure Inv (X:Cx) (pins:List (Addr×Obj)) (σ:List (Option V)) (H:Hp) (s:Shared):Prop where
 ok:X.Ok
 os:s.os=X.s₀.os
 bare:AllBare s.gens
 base:Un X.fs X.ex X.H₀ H X.s₀.heap s.heap
 loc:∃ m,s.heap.Ns X.env.locals m/\∀ (i:Nat) (x:Str) (v:V),X.N[i]?=some x->σ[i]?=some (some v)->Vis X.env.scope x->∃ u,RelV v u/\Look X.env s.heap m x u
 cell:∀ x c,X.env.cells.lookup x=some c->∃ v,s.heap.IsCell c v
 free:H X.env.locals=none
 gC:∀ x c,X.env.cells.lookup x=some c->H c=none
 pin:∀ p∈X.pn++pins,s.heap.get? p.1=some p.2/\H p.1=none/\p.1≠X.env.locals/\p.1∉X.fs/\∀ v,p.2.data≠.cell v
 hok:jG X.prog X.w H s.heap
 len:σ.length=X.N.length
section
variable {σ:List (Option V)}
theorem Cx.Ok.nofr (ok:X.Ok)  (e:X.base.get? b=some o):b∉X.fs:=fun hb=>by
 have:=(ok.lU.mem hb).1
 rw [e] at this;cases this
theorem Inv.bs (I:Inv X pins σ H s):∀ b o,X.base.get? b=some o->s.heap.get? b=some o/\H b=none:=fun b o e =>
 ⟨I.base.keep b o (I.ok.bs b o e).1 (I.ok.bs b o e).2 (I.ok.nofr e) (I.ok.yh b o e),I.base.free b o (I.ok.bs b o e).1 (I.ok.bs b o e).2 (I.ok.yh b o e)⟩
theorem Inv.bk (I:Inv X pins σ H s):∀ b o,X.base.get? b=some o->s.heap.get? b=some o:=fun b o e=>(I.bs b o e).1
theorem Inv.mod (I:Inv X pins σ H s):Mod X.K X.mg X.base:=I.ok.mod
theorem Inv.lV (I:Inv X pins σ H s):X.K.In s.heap:=I.ok.mod.kin.keeps I.bk
theorem Inv.fr (I:Inv X pins σ H s):∃ m,Fr X.base X.env.locals s.heap m :=
 let ⟨m,hn,_⟩:=I.loc
 ⟨m,hn,I.bk,Nat.le_trans I.ok.Hr I.ok.above⟩
theorem Inv.lt (I:Inv X pins σ H s):X.env.locals<s.heap.objs.size:=let ⟨_,hn,_⟩:=I.loc;hn.lt
theorem Inv.sz (I:Inv X pins σ H s):X.s₀.heap.objs.size<=s.heap.objs.size:=Nat.le_trans I.ok.above (Nat.le_of_lt I.lt)
theorem Inv.nofs (I:Inv X pins σ H s)  (h:s.heap.objs.size<=a):a∉X.fs:=fun hb=>by
 obtain ⟨_,o,ho,_⟩:=I.ok.lU.mem hb
 exact absurd (Nat.lt_of_lt_of_le (Heap.lt_size ho) (Nat.le_trans I.sz h)) (Nat.lt_irrefl _)
theorem Inv.Hs (I:Inv X pins σ H s):∀ x c,X.env.cells.lookup x=some c->c≠X.env.locals:=fun x c e z=>by
 obtain ⟨v,o,ho,hd⟩:=I.cell x c e
 obtain ⟨m,⟨o',es,ep,ho',hd',_⟩,_⟩:=I.loc
 rw [z,ho'] at ho;cases ho;rw [hd'] at hd;cases hd
theorem Inv.lU (I:Inv X pins σ H s):s.heap.FunFrames X.base X.outer:=by
 have all:∀ (l:List Env),(∀ b∈frs l,b∈X.fs)->X.s₀.heap.FunFrames X.base l->s.heap.FunFrames X.base l:=by
  intro l
  induction l with
  | nil=>intro _ _;trivial
  | cons env r ih =>
   intro hs hl
   obtain ⟨hk,⟨L,o,hf,hn,ho,hd⟩,hr⟩:=hl
   have hL:L∈X.fs:=hs L (by unfold frs;rw [List.filterMap_cons,hf];exact List.mem_cons_self)
   obtain ⟨sl,e⟩:=I.base.slot L o ho (I.ok.Nf L hL) hL fun z=>I.ok.zX L z hL
   exact ⟨hk,⟨L,_,hf,hn,e,hd⟩,ih (fun b hb=>hs b (by unfold frs;rw [List.filterMap_cons,hf];exact mD _ hb)) hr⟩
 exact all X.outer (fun _ hb=>hb) I.ok.lU
theorem Inv.stack (I:Inv X pins σ H s):s.heap.FunFrames X.base X.stack:=by
 rcases I.ok.stk with e | ⟨e,hf⟩
 ·rw [e];exact I.lU
 ·rw [e]
  obtain ⟨m,hn,_⟩:=I.loc
  refine .cons (by rw [I.ok.kind];decide) hf hn ?_ I.lU
  exact Heap.get?_none_of_le (Nat.le_trans I.ok.Hr I.ok.above)
theorem Inv.qP (I:Inv X pins σ H s):∀ b∈frs X.stack,b∈X.env.locals::X.fs:=fun b hb=>by
 rcases I.ok.stk with e | ⟨e,hf⟩
 ·rw [e] at hb;exact mD _ hb
 ·rw [e] at hb
  unfold frs at hb
  rw [List.filterMap_cons,hf] at hb
  exact hb
theorem Inv.vK (I:Inv X pins σ H s):∀ b∈frs X.stack,H b=none:=fun b hb=>by
 rcases List.mem_cons.mp (I.qP b hb) with e | hb
 ·rw [e];exact I.free
 ·obtain ⟨_,o,ho,_⟩:=I.ok.lU.mem hb
  exact I.base.free b o ho (I.ok.Nf b hb) fun z=>I.ok.zX b z hb
theorem Inv.step {g':Array GenState}{d':Drawn} (I:Inv X pins σ H s)
  (hch:∀ b∈ch,(b∈X.ex\/X.s₀.heap.objs.size<=b)/\b≠X.env.locals/\(∀ x c,X.env.cells.lookup x=some c->c≠b)/\∀ p∈X.pn++pins,p.1≠b)
  (keep:∀ b o,b≠X.env.locals->b∉X.fs->b∉ch->s.heap.get? b=some o->H b=none->h'.get? b=some o)
  (slot:∀ b o,b≠X.env.locals->b∈X.fs->b∉ch->s.heap.get? b=some o->H b=none->∃ sl,h'.get? b=some { o with slots:=sl }) (free:∀ b o,b∉ch->s.heap.get? b=some o->H b=none->H' b=none)
  (there:∀ b o,b∉ch->s.heap.get? b=some o->∃ o',h'.get? b=some o')
  (tups:∀ b xs,H b=some (.tup xs)->H' b=some (.tup xs)) (nY:∀ b o u,H b=some (.zV o u)->H' b=some (.zV o u)) (pW:∀ b ps,H b=some (.N8 ps)->∃ more,H' b=some (.N8 (ps++more)))
  (ns:∀ m,s.heap.Ns X.env.locals m->h'.Ns X.env.locals m) (hok:jG X.prog X.w H' h') (hg:AllBare g') :
  Inv X pins σ H' { s with heap:=h',gens:=g',drawn:=d',toks:=t' }:=by
 have neL:∀ b o,X.s₀.heap.get? b=some o->b≠X.env.locals:=fun b o e=>Nat.ne_of_lt (Nat.lt_of_lt_of_le (Heap.lt_size e) I.ok.above)
 have neC:∀ b o,X.s₀.heap.get? b=some o->b∉X.ex->b∉ch:=fun b o e hx hb=>by
  rcases (hch b hb).1 with z | z
  ·exact hx z
  ·exact absurd (Nat.lt_of_lt_of_le (Heap.lt_size e) z) (Nat.lt_irrefl _)
 have cellK:∀ x c,X.env.cells.lookup x=some c->∀ v,s.heap.IsCell c v->h'.IsCell c v:=fun x c e v ⟨o,ho,hd⟩=>by
  have Wz:c∉ch:=fun z=>(hch c z).2.2.1 x c e rfl
  by_cases hc:c∈X.fs
  ·obtain ⟨sl,q⟩:=slot c o (I.Hs x c e) hc Wz ho (I.gC x c e)
   exact ⟨_,q,hd⟩
  ·exact ⟨o,keep c o (I.Hs x c e) hc Wz ho (I.gC x c e),hd⟩
 refine ⟨I.ok,I.os,hg,⟨fun b o e n hb hx=>?_,fun b o e n hb hx=>?_,fun b o e n hx=>?_,fun b o e hx=>?_,fun b xs e=>tups b xs (I.base.tups b xs e),fun b o xs e=>nY b o xs (I.base.nY b o xs e),fun b ps e=>?_⟩,?_,fun x c e=>?_,?_,fun x c e=>?_,fun p hp=>?_,hok,I.len⟩
 ·exact keep b o (neL b o e) hb (neC b o e hx) (I.base.keep b o e n hb hx) (I.base.free b o e n hx)
 ·obtain ⟨sl,e1⟩:=I.base.slot b o e n hb hx
  obtain ⟨sl',e2⟩:=slot b _ (neL b o e) hb (neC b o e hx) e1 (I.base.free b o e n hx)
  exact ⟨sl',e2⟩
 ·obtain ⟨o',e1⟩:=I.base.there b o e hx
  exact free b o' (neC b o e hx) e1 (I.base.free b o e n hx)
 ·obtain ⟨o',e1⟩:=I.base.there b o e hx
  exact there b o' (neC b o e hx) e1
 ·obtain ⟨m1,e1⟩:=I.base.pW b ps e
  obtain ⟨m2,e2⟩:=pW b _ e1
  exact ⟨m1++m2,by rw [e2,Array.append_assoc]⟩
 ·obtain ⟨m,hn,hl⟩:=I.loc
  refine ⟨m,ns m hn,fun i x v e1 e2 e3=>?_⟩
  obtain ⟨u,r,l⟩:=hl i x v e1 e2 e3
  refine ⟨u,r,?_⟩
  rcases l with l | ⟨k,c,e,z⟩
  ·exact .inl l
  ·exact .inr ⟨k,c,e,cellK x c e _ z⟩
 ·obtain ⟨v,z⟩:=I.cell x c e
  exact ⟨v,cellK x c e v z⟩
 ·obtain ⟨m,⟨o,_,_,ho,_⟩,_⟩:=I.loc
  exact free _ o (fun z=>(hch _ z).2.1 rfl) ho I.free
 ·obtain ⟨v,o,ho,hd⟩:=I.cell x c e
  exact free c o (fun z=>(hch c z).2.2.1 x c e rfl) ho (I.gC x c e)
 ·obtain ⟨e,n,ne,nf,d⟩:=I.pin p hp
  have Wz:p.1∉ch:=fun z=>(hch p.1 z).2.2.2 p hp rfl
  exact ⟨keep p.1 p.2 ne nf Wz e n,free p.1 p.2 Wz e n,ne,nf,d⟩
theorem Inv.un (I:Inv X pins σ H s) (u:Un X.fs [] H H' s.heap h') (hok:jG X.prog X.w H' h'):Inv X pins σ H' { s with heap:=h',toks:=t' }:=by
 obtain ⟨m,⟨o,es,ep,ho,r⟩,_⟩:=id I.loc
 obtain ⟨sl,hL⟩:=u.any ho I.free (by simp)
 exact I.step (g':=s.gens) (d':=s.drawn) (ch:=[]) (fun _ z=>nomatch z) (fun b o _ hb _ e n=>u.keep b o e n hb (by simp)) (fun b o _ hb _ e n=>u.slot b o e n hb (by simp)) (fun b o _ e n=>u.free b o e n (by simp)) (fun b o _ e=>u.there b o e (by simp)) u.tups u.nY u.pW (fun m' hm=>by
  obtain ⟨o',es',ep',ho',r'⟩:=hm
  rw [ho] at ho';cases ho'
  exact ⟨_,es',ep',hL,r'⟩) hok I.bare
theorem Inv.call {g':Array GenState}{d':Drawn} (I:Inv X pins σ H s) (u:Un (frs X.stack) ch H H' s.heap h') (hok:jG X.prog X.w H' h') (hg:AllBare g')
  (hch:∀ b∈ch,(b∈X.ex\/X.s₀.heap.objs.size<=b)/\b≠X.env.locals/\(∀ x c,X.env.cells.lookup x=some c->c≠b)/\∀ p∈X.pn++pins,p.1≠b) :
  Inv X pins σ H' { s with heap:=h',gens:=g',drawn:=d',toks:=t' }:=by
 obtain ⟨m,⟨o,es,ep,ho,r⟩,_⟩:=id I.loc
 obtain ⟨sl,hL⟩:=u.any ho I.free fun z=>(hch _ z).2.1 rfl
 exact I.step (ch:=ch) hch (fun b o hL hb hc e n=>u.keep b o e n (fun z=>(List.mem_cons.mp (I.qP b z)).elim hL hb) hc) (fun b o _ _ hc e n=>u.any e n hc) (fun b o hc e n=>u.free b o e n hc) (fun b o hc e=>u.there b o e hc) u.tups u.nY u.pW (fun m' hm=>by
  obtain ⟨o',es',ep',ho',r'⟩:=hm
  rw [ho] at ho';cases ho'
  exact ⟨_,es',ep',hL,r'⟩) hok hg
theorem Inv.turned (I:Inv X pins σ H s) (k:∀ b o,b≠it->s.heap.get? b=some o->h'.get? b=some o) (hn:H it=none) (hL:it≠X.env.locals)
  (h1:it∈X.ex\/X.s₀.heap.objs.size<=it) (h2:∀ x c,X.env.cells.lookup x=some c->c≠it) (h3:∀ p∈X.pn++pins,p.1≠it):Inv X pins σ H { s with heap:=h',toks:=t' }:=by
 have nit:∀ b u,H b=some u->b≠it:=fun b u e z=>by rw [z,hn] at e;cases e
 refine I.step (g':=s.gens) (d':=s.drawn) (ch:=[it]) (fun b hb=>?_) (fun b o _ _ hc e _=>k b o (fun z=>hc (by simp [z])) e) (fun b o _ _ hc e _=>⟨o.slots,k b o (fun z=>hc (by simp [z])) e⟩) (fun _ _ _ _ n=>n)
  (fun b o hc e=>⟨o,k b o (fun z=>hc (by simp [z])) e⟩) (fun _ _ e=>e) (fun _ _ _ e=>e) (fun b ps e=>⟨#[],by rw [e];simp⟩) (fun m hm=>?_) (fun b u e=>?_) I.bare
 ·have e:b=it:=by simpa using hb
  subst e
  exact ⟨h1,hL,h2,h3⟩
 ·obtain ⟨o,es,ep,ho,r⟩:=hm
  exact ⟨o,es,ep,k _ o (Ne.symm hL) ho,r⟩
 ·refine (I.hok b u e).stay (fun c v hc q=>k c v ?_ q) (fun _ q=>q) fun _ _ q=>q
  rcases hc with z | z
  ·rw [z];exact nit b u e
  ·exact nit c _ z
theorem Inv.tok (I:Inv X pins σ H s) (t:Nat):Inv X pins σ H { s with toks:=t }:=I.un (h':=s.heap) (t':=t) Un.refl I.hok
theorem Inv.kept (I:Inv X pins σ H s) (k:∀ b u,s.heap.get? b=some u->h'.get? b=some u):Inv X pins σ H { s with heap:=h',toks:=t' }:=I.un (Un.kept k) (I.hok.kept k)
theorem Inv.laid {o:HO} (I:Inv X pins σ H s) (k:∀ b u,s.heap.get? b=some u->h'.get? b=some u) (hp:s.heap.objs.size<=a) (new:cA X.prog X.w (upd H a o) h' a o) :
  Inv X pins σ (upd H a o) { s with heap:=h',toks:=t' }:=I.un (Un.laid k hp (I.hok.fresh hp)) (I.hok.laid k hp new)
theorem Inv.write {x e:Addr}{o:HO} (I:Inv X pins σ H s) (mu:Wx (H x)) (he:e=x\/H e=some (.own x)) (k:∀ b u,b≠e->s.heap.get? b=some u->h'.get? b=some u) (heo:∃ u,h'.get? e=some u)
  (new:cA X.prog X.w (upd H x o) h' x o):Inv X pins σ (upd H x o) { s with heap:=h',toks:=t' }:=I.un (Un.write mu he k heo) (I.hok.write mu he k heo new)
theorem Inv.weak {σ':List (Option V)} (I:Inv X pins σ H s) (hl:σ'.length=σ.length) (w:∀ (i:Nat) v,σ'[i]?=some (some v)->σ[i]?=some (some v)):Inv X pins σ' H s :=
 ⟨I.ok,I.os,I.bare,I.base,let ⟨m,hn,hl'⟩:=I.loc;⟨m,hn,fun i x v e1 e2 e3=>hl' i x v e1 (w i v e2) e3⟩,I.cell,I.free,I.gC,I.pin,I.hok,hl.trans I.len⟩
theorem Inv.CP {yj:List (Addr×Obj)} (I:Inv X pins σ H s) (h:∀ p∈yj,s.heap.get? p.1=some p.2/\H p.1=none/\p.1≠X.env.locals/\p.1∉X.fs/\∀ v,p.2.data≠.cell v):Inv X yj σ H s :=
 ⟨I.ok,I.os,I.bare,I.base,I.loc,I.cell,I.free,I.gC,fun p hp=>(List.mem_append.mp hp).elim (fun z=>I.pin p (List.mem_append_left _ z)) (h p),I.hok,I.len⟩
theorem qQ (hN:N.Nodup)  (a:N[i]?=some x) (b:N[j]?=some x):i=j:=by
 obtain ⟨h1,e1⟩:=List.getElem?_eq_some_iff.mp a
 obtain ⟨h2,e2⟩:=List.getElem?_eq_some_iff.mp b
 exact (List.getElem_inj hN).mp (e1.trans e2.symm)
theorem ud {M:Model}{Q:Unit->Shared->Prop} (I:Inv X pins σ H s) (hN:X.N.Nodup) (hi:X.N[i]?=some x) (hx:Loc X.env.scope x) (r:RelV v u)
  (h:∀ s',Inv X pins (σ.set i (some v)) H s'->(∃ a,Heap.SameBut a s.heap s'.heap/\(a=X.env.locals\/X.env.cells.lookup x=some a))->Q () s') (hf:X.fn x=true\/X.env.scope.names.lookup x=some .local:=by first | exact .inl rfl | exact .inr rfl | assumption):wpAny M A (storeName X.env x u) Q E s:=by
 obtain ⟨m,hn,hl⟩:=id I.loc
 have hcls:(X.env.scope.kind==.class||(X.env.scope.kind==.module&&X.env.locals != X.env.globals))=false:=by rw [I.ok.kind];rfl
 have hiσ:i<σ.length:=by rw [I.len];exact (List.getElem?_eq_some_iff.mp hi).1
 have Hs:=I.Hs
 have tracked:∀ {a:Addr}{h':Heap},(∃ o,s.heap.get? a=some o/\H a=none)->Heap.SameBut a s.heap h'->jG X.prog X.w H h':=fun {a h'} ha hs b ob e=>by
  obtain ⟨_,_,hfree⟩:=ha
  refine (I.hok b ob e).stay (fun c w' hc q=>(hs.2 c ?_).trans q) (fun _ q=>q) fun _ _ q=>q
  rintro rfl
  rcases hc with rfl | hc
  ·rw [hfree] at e;cases e
  ·rw [hfree] at hc;cases hc
 rcases hx with hk | hk
 ·refine wpAny_storeName_local hk hn (fun h' hn' hs=>?_) hcls
  obtain ⟨oL,_,_,hoL,_⟩:=id hn
  refine h _ ⟨I.ok,I.os,I.bare,⟨fun b o e n hb hx=>?_,fun b o e n hb hx=>?_,I.base.free,fun b o e hx=>?_,I.base.tups,I.base.nY,I.base.pW⟩,⟨_,hn',fun j y v' e1 e2 e3=>?_⟩,fun y c e=>?_,I.free,I.gC,fun p hp=>?_,tracked ⟨oL,hoL,I.free⟩ hs,by simpa using I.len⟩ ⟨_,hs,.inl rfl⟩
  ·exact (hs.2 b (Nat.ne_of_lt (Nat.lt_of_lt_of_le (Heap.lt_size e) I.ok.above))).trans (I.base.keep b o e n hb hx)
  ·obtain ⟨sl,e1⟩:=I.base.slot b o e n hb hx
   exact ⟨sl,(hs.2 b (Nat.ne_of_lt (Nat.lt_of_lt_of_le (Heap.lt_size e) I.ok.above))).trans e1⟩
  ·obtain ⟨o',e1⟩:=I.base.there b o e hx
   exact ⟨o',(hs.2 b (Nat.ne_of_lt (Nat.lt_of_lt_of_le (Heap.lt_size e) I.ok.above))).trans e1⟩
  ·by_cases hj:j=i
   ·subst hj
    rw [hi] at e1;cases e1
    rw [List.getElem?_set_self hiσ] at e2
    cases e2
    exact ⟨u,r,.inl ⟨hk,by simp⟩⟩
   ·rw [List.getElem?_set_ne (Ne.symm hj)] at e2
    obtain ⟨u',r',q⟩:=hl j y v' e1 e2 e3
    refine ⟨u',r',?_⟩
    rcases q with ⟨k,e⟩ | ⟨k,c,e,z⟩
    ·refine .inl ⟨k,?_⟩
     have:y≠x:=fun e=>hj (qQ hN e1 (e ▸ hi))
     simp [this,e]
    ·exact .inr ⟨k,c,e,z.sameBut hs (Hs y c e)⟩
  ·obtain ⟨w',z⟩:=I.cell y c e
   exact ⟨w',z.sameBut hs (Hs y c e)⟩
  ·obtain ⟨e,n,ne,nf,d⟩:=I.pin p hp
   exact ⟨(hs.2 p.1 ne).trans e,n,ne,nf,d⟩
 ·have hfn:X.fn x=true:=by
   rcases hf with z | z
   ·exact z
   ·rw [z] at hk;cases hk
  obtain ⟨c,hc⟩:=I.ok.has x (.inl hk)
  obtain ⟨w',z⟩:=I.cell x c hc
  refine wpAny_storeName_cell I.ok.kind hk hc z (fun h' hc' hs=>?_)
  obtain ⟨oc,hoc,hocd⟩:=id z
  refine h { s with heap:=h' } ⟨I.ok,I.os,I.bare,⟨fun b o e n hb hx=>?_,fun b o e n hb hx=>?_,I.base.free,fun b o e hx=>?_,I.base.tups,I.base.nY,I.base.pW⟩,⟨m,hn.sameBut hs (Ne.symm (Hs x c hc)),fun j y v' e1 e2 e3=>?_⟩,fun y c' e=>?_,I.free,I.gC,fun p hp=>?_,tracked ⟨oc,hoc,I.gC x c hc⟩ hs,by simpa using I.len⟩ ⟨c,hs,.inr hc⟩
  ·exact (hs.2 b (Nat.ne_of_lt (Nat.lt_of_lt_of_le (Heap.lt_size e) (I.ok.cab x c hfn hc)))).trans (I.base.keep b o e n hb hx)
  ·obtain ⟨sl,e1⟩:=I.base.slot b o e n hb hx
   exact ⟨sl,(hs.2 b (Nat.ne_of_lt (Nat.lt_of_lt_of_le (Heap.lt_size e) (I.ok.cab x c hfn hc)))).trans e1⟩
  ·obtain ⟨o',e1⟩:=I.base.there b o e hx
   exact ⟨o',(hs.2 b (Nat.ne_of_lt (Nat.lt_of_lt_of_le (Heap.lt_size e) (I.ok.cab x c hfn hc)))).trans e1⟩
  ·by_cases hj:j=i
   ·subst hj
    rw [hi] at e1;cases e1
    rw [List.getElem?_set_self hiσ] at e2
    cases e2
    exact ⟨u,r,.inr ⟨.inl hk,c,hc,hc'⟩⟩
   ·rw [List.getElem?_set_ne (Ne.symm hj)] at e2
    obtain ⟨u',r',q⟩:=hl j y v' e1 e2 e3
    refine ⟨u',r',?_⟩
    rcases q with q | ⟨k,c',e,z'⟩
    ·exact .inl q
    ·refine .inr ⟨k,c',e,z'.sameBut hs ?_⟩
     rintro rfl
     exact hj (qQ hN e1 (I.ok.inj _ _ _ e hc ▸ hi))
  ·by_cases hcc:c'=c
   ·subst hcc;exact ⟨_,hc'⟩
   ·obtain ⟨w2,z2⟩:=I.cell y c' e
    exact ⟨w2,z2.sameBut hs hcc⟩
  ·obtain ⟨e,n,ne,nf,d⟩:=I.pin p hp
   refine ⟨(hs.2 p.1 ?_).trans e,n,ne,nf,d⟩
   intro q
   rw [q,hoc] at e
   have q':oc=p.2:=Option.some.inj e
   exact d w' (by rw [<- q'];exact hocd)
theorem qR {M:Model}{Q:Unit->Shared->Prop} (I:Inv X pins σ H s) (hN:X.N.Nodup) (hi:X.N[i]?=some x) (hx:Loc X.env.scope x) (r:RelV v u)
  (h:∀ s',Inv X pins (σ.set i (some v)) H s'->Q () s') (hf:X.fn x=true\/X.env.scope.names.lookup x=some .local:=by first | exact .inl rfl | exact .inr rfl | assumption):wpAny M A (storeName X.env x u) Q E s :=
 ud I hN hi hx r (fun s' I' _=>h s' I') hf
theorem Inv.call' (I:Inv X pins σ H s) (ho:s'.os=s.os) (u:Un (frs X.stack) ch H H' s.heap s'.heap) (hok:jG X.prog X.w H' s'.heap) (hg:AllBare s'.gens)
  (hch:∀ b∈ch,(b∈X.ex\/X.s₀.heap.objs.size<=b)/\b≠X.env.locals/\(∀ x c,X.env.cells.lookup x=some c->c≠b)/\∀ p∈X.pn++pins,p.1≠b):Inv X pins σ H' s':=by
 obtain ⟨h',g',d',t',o'⟩:=s'
 have e:o'=s.os:=ho
 subst e
 exact I.call (g':=g') (t':=t') (d':=d') u hok hg hch
end
abbrev XK:=Value->Option Addr->Hp->Prop
abbrev St:=List (Option V)
variable {σ:St}
abbrev VK:=V->Hp->Prop
abbrev TE:=St->Hp->VK->Prop
variable {t1 t2 t3 ta tb te tl to tv:TE}{Ho:List (TE×TE)}
abbrev TT:=St->Hp->(Bool->Hp->Prop)->Prop
variable {tt:TT}
abbrev TA:=St->Hp->(List V->Hp->Prop)->Prop
variable {t:TA}
structure Ends where
 nx:St->Hp->Prop
 rt:VK
 bk:St->Hp->Prop:=fun _ _=>False
 ct:St->Hp->Prop:=fun _ _=>False
abbrev TS:=Ends->St->Hp->Prop
variable {ts:TS}
def EP (X:Cx) (pins:List (Addr×Obj)) (σ:St) (Q:VK) (u:Value) (s':Shared):Prop:=∃ v H',Inv X pins σ H' s'/\RelV v u/\Q v H'
def TP (X:Cx) (pins:List (Addr×Obj)) (σ:St) (Q:Bool->Hp->Prop) (b:Bool) (s':Shared):Prop:=∃ H',Inv X pins σ H' s'/\Q b H'
def AP (X:Cx) (pins:List (Addr×Obj)) (σ:St) (Q:List V->Hp->Prop) (us:List Value) (s':Shared):Prop:=∃ vs H',Inv X pins σ H' s'/\Vals vs us/\Q vs H'
def SP (X:Cx) (pins:List (Addr×Obj)) (D:Ends) (f:Flow) (s':Shared):Prop :=
 match f with
 | .next=>∃ σ' H',Inv X pins σ' H' s'/\D.nx σ' H'
 | .brk=>∃ σ' H',Inv X pins σ' H' s'/\D.bk σ' H'
 | .cont=>∃ σ' H',Inv X pins σ' H' s'/\D.ct σ' H'
 | .ret u=>∃ v σ' H',Inv X pins σ' H' s'/\RelV v u/\D.rt v H'
def PE (X:Cx) (e:Expr) (t:TE):Prop :=
 ∀ (pins:List (Addr×Obj)) (s:Shared) (σ:St) (H:Hp) (Q:VK),Inv X pins σ H s->t σ H Q->wpAny (model X.prog X.w) X.A (eval e X.env) (EP X pins σ Q) X.xe s
def PT (X:Cx) (e:Expr) (t:TT):Prop :=
 ∀ (pins:List (Addr×Obj)) (s:Shared) (σ:St) (H:Hp) (Q:Bool->Hp->Prop),Inv X pins σ H s->t σ H Q->wpAny (model X.prog X.w) X.A (isTrue e X.env (eval e X.env)) (TP X pins σ Q) X.xe s
def PW (X:Cx) (e:Expr) (t:TT):Prop :=
 ∀ (whole:Sem Value) (pins:List (Addr×Obj)) (s:Shared) (σ:St) (H:Hp) (Q:Bool->Hp->Prop),Inv X pins σ H s->t σ H Q->wpAny (model X.prog X.w) X.A (isTrue e X.env whole) (TP X pins σ Q) X.xe s
theorem PW.pt {t:TT} (h:PW X e t):PT X e t:=h _
def PA (X:Cx) (es:List Expr) (t:TA):Prop :=
 ∀ (pos:Pos) (pins:List (Addr×Obj)) (s:Shared) (σ:St) (H:Hp) (Q:List V->Hp->Prop),Inv X pins σ H s->t σ H Q->wpAny (model X.prog X.w) X.A (spliced (backTo pos (starEach es X.env))) (AP X pins σ Q) X.xe s
def PS (X:Cx) (st:Stmt) (t:TS):Prop :=
 ∀ (pins:List (Addr×Obj)) (s:Shared) (σ:St) (H:Hp) (D:Ends),Inv X pins σ H s->t D σ H->wpAny (model X.prog X.w) X.A (exec st X.env) (SP X pins D) X.xe s
def xZ (X:Cx) (st:List Stmt) (t:TS):Prop :=
 ∀ (pins:List (Addr×Obj)) (s:Shared) (σ:St) (H:Hp) (D:Ends),Inv X pins σ H s->t D σ H->wpAny (model X.prog X.w) X.A (execs st X.env) (SP X pins D) X.xe s
theorem cF {α:Type}{t:Sem α}{Q Q':α->Shared->Prop}{M:Model} (h:wpAny M A t Q E s) (hQ:∀ a s,Q a s->Q' a s):wpAny M A t Q' E s:=wpAny_mono h hQ fun _ _ x=>x
section
def pX (i:Nat):TE:=fun σ H Q=>∃ v,σ[i]?=some (some v)/\Q v H
def tC (v:V):TE:=fun _ H Q=>Q v H
theorem Ht (hN:X.N[i]?=some x) (hv:Vis X.env.scope x) (hd:(x==("__debug__" : Str))=false:=by decide) (hcd:(x==("__classdict__" : Str))=false:=by decide):PE X (.Name x pos) (pX i):=by
 intro pins s σ H Q I h
 obtain ⟨v,e,h⟩:=h
 obtain ⟨m,hn,hl⟩:=I.loc
 obtain ⟨u,r,l⟩:=hl i x v hN e hv
 have fin:EP X pins σ Q u s:=⟨v,H,I,r,h⟩
 rcases l with ⟨hk,hm⟩ | ⟨hk,c,hc,hcell⟩
 ·exact wpAny_Name (wpAny_loadName_local I.ok.kind hk hn hm fin) hd
 ·rcases hk with hk | hk
  ·exact wpAny_Name (wpAny_loadName_cell I.ok.kind hk hc hcell fin) hd
  ·exact wpAny_Name (wpAny_loadName_free I.ok.kind hk hc hcell fin hcd) hd
theorem au {i j pos}:PE X (.Constant (.int i) j pos) (tC (.int i)):=fun _ _ _ H _ I h=>wpAny_Constant_int ⟨.int i,H,I.tok _,⟨_,rfl⟩,h⟩
theorem dX {b j pos}:PE X (.Constant (.bool b) j pos) (tC (.bl b)):=fun _ _ _ H _ I h=>Constant_bool ⟨.bl b,H,I,rfl,h⟩
theorem vL {j pos}:PE X (.Constant .none j pos) (tC .non):=fun _ _ _ H _ I h=>Constant_none ⟨.non,H,I,rfl,h⟩
theorem aG {x j pos}:PE X (.Constant (.str x) j pos) (tC (.str x)):=fun _ _ _ H _ I h=>Calls.Constant_str ⟨.str x,H,I.tok _,⟨_,rfl⟩,h⟩
def Gl (X:Cx) (x:Str):Prop:=X.env.kindOf x=some .globalImplicit
theorem jj (I:Inv X pins σ H s) (hg:Gl X x) (hm:X.mg x=some u) (h:Q u s)
  (hd:(x==("__debug__" : Str))=false:=by decide):wpAny (model X.prog X.w) X.A (eval (.Name x pos) X.env) Q E s :=
 Calls.Name_function_global I.ok.kind hg (Calls.loadGlobal_global (by rw [I.ok.glob];exact I.mod.glob.keeps I.bk) hm h) hd
theorem jk (I:Inv X pins σ H s) (hg:Gl X x) (hm:X.mg x=none) (hv:bootBuiltins x=some u) (h:Q u s)
  (hn:x≠"__name__":=by decide) (hd:(x==("__debug__" : Str))=false:=by decide):wpAny (model X.prog X.w) X.A (eval (.Name x pos) X.env) Q E s:=by
 obtain ⟨mb,h1,h2⟩:=I.mod.blt
 exact Calls.Name_function_global I.ok.kind hg (Calls.loadGlobal_builtin (by rw [I.ok.glob];exact I.mod.glob.keeps I.bk) hm (by rw [I.ok.blt];exact h1.keeps I.bk) ((h2 x hn).trans hv) h) hd
theorem dJ (hg:Gl X x) (hm:X.mg x=some u) (r:RelV v u) (hd:(x==("__debug__" : Str))=false:=by decide):PE X (.Name x pos) (tC v) :=
 fun _ _ _ H _ I h=>jj I hg hm ⟨v,H,I,r,h⟩ hd
theorem fW (hg:Gl X x) (hm:X.mg x=none) (hv:bootBuiltins x=some u) (r:RelV v u) (hn:x≠"__name__":=by decide) (hd:(x==("__debug__" : Str))=false:=by decide):PE X (.Name x pos) (tC v) :=
 fun _ _ _ H _ I h=>jk I hg hm hv ⟨v,H,I,r,h⟩ hn hd
variable {a b:Expr}
def PC (X:Cx) (op:CmpOp) (a b:Expr) (t:TE):Prop :=
 ∀ (pins:List (Addr×Obj)) (s:Shared) (σ:St) (H:Hp) (Q:VK),Inv X pins σ H s->t σ H Q ->
  wpAny (model X.prog X.w) X.A (eval a X.env) (fun v s₁=>wpAny (model X.prog X.w) X.A (eval b X.env) (fun u s₂=>wpAny (model X.prog X.w) X.A (compareOp op v u) (EP X pins σ Q) X.xe s₂) X.xe s₁) X.xe s
theorem yp (b:Expr)  (h:op≠.In) (h2:op≠.NotIn):behindInMarks op b=false:=by
 have e1:(op==CmpOp.In)=false:=by cases op <;> first | rfl | exact absurd rfl h
 have e2:(op==CmpOp.NotIn)=false:=by cases op <;> first | rfl | exact absurd rfl h2
 cases b <;> simp [behindInMarks,e1,e2]
def tIsN (ta:TE):TE:=fun σ H Q=>ta σ H fun x H1=>Q (.bl (decide (x=.non))) H1
theorem RelV.Hu {x:V}{v:Value} (r:RelV x v):(v==Value.none)=decide (x=.non):=by
 cases x with
 | non=>cases r;rfl
 | bl _=>cases r;rfl
 | int _=>obtain ⟨t,rfl⟩:=r;rfl
 | str _=>obtain ⟨t,rfl⟩:=r;rfl
 | xY _=>obtain ⟨t,rfl⟩:=r;rfl
 | flt _=>obtain ⟨t,rfl⟩:=r;rfl
 | ref _=>cases r;rfl
 | ty _=>cases r;rfl
theorem zY {j pos'} (ha:PE X a ta):PC X .Is a (.Constant .none j pos') (tIsN ta):=by
 intro pins s σ H Q I h
 refine cF (ha pins s σ H _ I h) fun v s1 zq=>?_
 obtain ⟨x,H1,I1,r1,q1⟩:=zq
 exact Constant_none (is_none_gen ⟨.bl _,H1,I1,by rw [r1.Hu];rfl,q1⟩)
def tB (t:TE):TT:=fun σ H Q=>t σ H fun x H1=>∃ c,x=.bl c/\Q c H1
theorem SN {t:TE} (h:PC X op a b t) (h1:behindInMarks op b=false:=by first | exact yp _ (by decide) (by decide) | rfl):PE X (.Compare a [op] [b] pos) t:=fun pins s σ H Q I hw=>wpAny_Compare1 (h pins s σ H Q I hw) h1
theorem zZ {t:TE} (h:PC X op a b t) (h1:behindInMarks op b=false:=by first | exact yp _ (by decide) (by decide) | rfl):PT X (.Compare a [op] [b] pos) (tB t):=by
 intro pins s σ H Q I hw
 refine wpAny_isTrue_Compare1 (cF (h pins s σ H _ I hw) fun v s1 h1=>cF h1 fun u s2 h2=>cF h2 fun c s3 ⟨x,H1,I1,r1,q1⟩=>?_) h1
 obtain ⟨d,rfl,q⟩:=q1
 cases r1
 exact wpAny_truthy_bool ⟨H1,I1,q⟩
theorem eG {t:TE} (h:PE X e t) (he:∀ whole,isTrue e X.env whole=(do let v <- whole;standAt e.pos;holding [v] (truthy v)):=by intro _;rfl):PT X e (tB t):=by
 intro pins s σ H Q I hw
 refine isTrue_plain (cF (h pins s σ H _ I hw) fun v s1 ⟨x,H1,I1,r1,q1⟩=>?_) (he _)
 obtain ⟨d,rfl,q⟩:=q1
 cases r1
 exact wpAny_truthy_bool ⟨H1,I1,q⟩
variable {tA tB':TT}{rest:List Expr}
def tAnd (t u:TT):TT:=fun σ H Q=>t σ H fun c H1=>if c=true then u σ H1 Q else Q false H1
def tOr (t u:TT):TT:=fun σ H Q=>t σ H fun c H1=>if c=true then Q true H1 else u σ H1 Q
def tNot (t:TT):TT:=fun σ H Q=>t σ H fun c H1=>Q (!c) H1
theorem gD (ha:PT X a tA):PW X (.BoolOp .And [a] pos) tA:=by
 intro wh pins s σ H Q I h
 refine isTrue_and (cF (ha pins s σ H Q I h) fun c s1 e=>?_)
 cases c with
 | true=>exact isTrue_and_nil e
 | false=>exact e
theorem nZ (ha:PT X a tA):PW X (.BoolOp .Or [a] pos) tA:=by
 intro wh pins s σ H Q I h
 refine isTrue_or (cF (ha pins s σ H Q I h) fun c s1 e=>?_)
 cases c with
 | false=>exact isTrue_or_nil e
 | true=>exact e
theorem jl (ha:PT X a tA) (hb:PW X (.BoolOp .And (b::rest) pos) tB'):PW X (.BoolOp .And (a::b::rest) pos) (tAnd tA tB'):=by
 intro wh pins s σ H Q I h
 refine isTrue_and (cF (ha pins s σ H _ I h) fun c s1 zq=>?_)
 obtain ⟨H1,I1,q1⟩:=zq
 cases c with
 | true=>exact hb wh pins s1 σ H1 Q I1 q1
 | false=>exact ⟨H1,I1,q1⟩
theorem uf (ha:PT X a tA) (hb:PW X (.BoolOp .Or (b::rest) pos) tB'):PW X (.BoolOp .Or (a::b::rest) pos) (tOr tA tB'):=by
 intro wh pins s σ H Q I h
 refine isTrue_or (cF (ha pins s σ H _ I h) fun c s1 zq=>?_)
 obtain ⟨H1,I1,q1⟩:=zq
 cases c with
 | true=>exact ⟨H1,I1,q1⟩
 | false=>exact hb wh pins s1 σ H1 Q I1 q1
theorem fj (ha:PT X a tA):PT X (.UnaryOp .Not a pos) (tNot tA):=by
 intro pins s σ H Q I h
 exact isTrue_not (ha pins s σ H (fun c H1=>Q (!c) H1) I h)
def WD (ta tb:TE):TE:=fun σ H Q=>ta σ H fun x H1=>∃ c,x=.bl c/\if c=true then tb σ H1 Q else Q (.bl false) H1
def tOrV (ta tb:TE):TE:=fun σ H Q=>ta σ H fun x H1=>∃ c,x=.bl c/\if c=true then Q (.bl true) H1 else tb σ H1 Q
def WK (ta:TE):TE:=fun σ H Q=>ta σ H fun x H1=>∃ c,x=.bl c/\Q (.bl (!c)) H1
theorem jL {op}{t:TE} (h:PE X a t):PE X (.BoolOp op [a] pos) t:=fun pins s σ H Q I hw=>BoolOp_one (h pins s σ H Q I hw)
theorem jm (ha:PE X a ta) (hb:PE X (.BoolOp .And (b::rest) pos) tb):PE X (.BoolOp .And (a::b::rest) pos) (WD ta tb):=by
 intro pins s σ H Q I h
 refine BoolOp_and (cF (ha pins s σ H _ I h) fun v s1 zq=>?_)
 obtain ⟨x,H1,I1,r1,q1⟩:=zq
 obtain ⟨c,rfl,q1⟩:=q1
 cases r1
 refine wpAny_truthy_bool ?_
 cases c with
 | true=>exact hb pins s1 σ H1 Q I1 q1
 | false=>exact ⟨.bl false,H1,I1,rfl,q1⟩
theorem WL (ha:PE X a ta) (hb:PE X (.BoolOp .Or (b::rest) pos) tb):PE X (.BoolOp .Or (a::b::rest) pos) (tOrV ta tb):=by
 intro pins s σ H Q I h
 refine BoolOp_or (cF (ha pins s σ H _ I h) fun v s1 zq=>?_)
 obtain ⟨x,H1,I1,r1,q1⟩:=zq
 obtain ⟨c,rfl,q1⟩:=q1
 cases r1
 refine wpAny_truthy_bool ?_
 cases c with
 | false=>exact hb pins s1 σ H1 Q I1 q1
 | true=>exact ⟨.bl true,H1,I1,rfl,q1⟩
theorem vM (ha:PE X a ta):PE X (.UnaryOp .Not a pos) (WK ta):=by
 intro pins s σ H Q I h
 refine UnaryOp_ (cF (ha pins s σ H _ I h) fun v s1 zq=>?_)
 obtain ⟨x,H1,I1,r1,q1⟩:=zq
 obtain ⟨c,rfl,q1⟩:=q1
 cases r1
 exact not_of (wpAny_truthy_bool ⟨.bl (!c),H1,I1,rfl,q1⟩)
def tIf (t:TT) (ta tb:TE):TE:=fun σ H Q=>t σ H fun c H1=>if c=true then ta σ H1 Q else tb σ H1 Q
theorem Hv {c:Expr} (hc:PT X c tA) (ha:PE X a ta) (hb:PE X b tb):PE X (.IfExp c a b pos) (tIf tA ta tb):=by
 intro pins s σ H Q I h
 refine wpAny_IfExp (cF (hc pins s σ H _ I h) fun d s1 zq=>?_)
 obtain ⟨H1,I1,q1⟩:=zq
 cases d with
 | true=>exact ha pins s1 σ H1 Q I1 q1
 | false=>exact hb pins s1 σ H1 Q I1 q1
end
def bD (K:PySem.W.Frag) (H:Hp) (a:Addr) (xs:List V):Prop :=
 Rd H a (.lst xs) \/
  ∃ (o:Obj) (its:Array Value) (n:Nat),K.lookup a=some o/\o.cls=.type "list"/\o.dict=none/\o.data=.seq its n/\its.size<=sizeLine/\Vals xs its.toList
def bG (K:PySem.W.Frag) (H:Hp) (a:Addr) (xs:List V):Prop :=
 Rd H a (.tup xs) \/
  ∃ (o:Obj) (its:Array Value) (n:Nat),K.lookup a=some o/\o.cls=.type "tuple"/\o.data=.seq its n/\its.size<=sizeLine/\Vals xs its.toList
def absV:Value->Option V
 | .none=>some .non
 | .bool b=>some (.bl b)
 | .int i _=>some (.int i)
 | .str x _=>some (.str x)
 | .bytes b _=>some (.xY b)
 | .float b _=>some (.flt b)
 | .ref a=>some (.ref a)
 | .type n=>some (.ty n)
 | _=>none
theorem RelV.abs {x:V} (r:RelV x u):absV u=some x:=by
 cases x with
 | non=>cases r;rfl
 | bl _=>cases r;rfl
 | int _=>obtain ⟨t,rfl⟩:=r;rfl
 | str _=>obtain ⟨t,rfl⟩:=r;rfl
 | xY _=>obtain ⟨t,rfl⟩:=r;rfl
 | flt _=>obtain ⟨t,rfl⟩:=r;rfl
 | ref _=>cases r;rfl
 | ty _=>cases r;rfl
theorem RelV.inj {x:V} (r:RelV x u) (q:RelV y u):x=y:=Option.some.inj (r.abs.symm.trans q.abs)
theorem Vals.inj:∀ {xs ys:List V}{us:List Value},Vals xs us->Vals ys us->xs=ys
 | _,_,_,.nil,.nil=>rfl
 | _,_,_,.cons r t,.cons r' t'=>by rw [r.inj r',Vals.inj t t']
theorem bD.of (h:H a=some (.lst xs)):bD K H a xs:=.inl (.inl h)
theorem bG.of (h:H a=some (.tup xs)):bG K H a xs:=.inl (.inl h)
theorem Inv.list (I:Inv X pins σ H s) (h:bD X.K H a xs):∃ its:List Value,Vals xs its/\PlainL s.heap a its.toArray/\xs.length<=sizeLine:=by
 rcases h with h | ⟨o,its,n,hk,hc,hd,hs,hz,r⟩
 ·obtain ⟨z,its,n,r,e⟩:=h.ok I.hok
  exact ⟨its,r,⟨_,n,e,rfl,rfl,rfl⟩,z⟩
 ·refine ⟨its.toList,r,⟨o,n,I.lV a o hk,hc,hd,by simpa using hs⟩,?_⟩
  have e:=r.length
  simp only [Array.length_toList] at e
  lia
theorem Inv.tuple (I:Inv X pins σ H s) (h:bG X.K H a xs):∃ its:List Value,Vals xs its/\IsTup s.heap a its.toArray/\xs.length<=sizeLine:=by
 rcases h with h | ⟨o,its,n,hk,hc,hs,hz,r⟩
 ·obtain ⟨z,its,r,p⟩:=h.ok I.hok
  exact ⟨its,r,p,z⟩
 ·refine ⟨its.toList,r,⟨o,I.lV a o hk,hc,n,by simpa using hs⟩,?_⟩
  have e:=r.length
  simp only [Array.length_toList] at e
  lia
theorem Inv.qT (I:Inv X pins σ H s) (h:bD X.K H a xs) (h':bD X.K H a ys):xs=ys:=by
 obtain ⟨its,r,⟨o,n,e,_,_,d⟩,_⟩:=I.list h
 obtain ⟨its',r',⟨o',n',e',_,_,d'⟩,_⟩:=I.list h'
 rw [e] at e';cases e'
 rw [d] at d'
 injection d' with d1 _
 have:its=its':=by simpa using congrArg Array.toList d1
 subst this
 exact r.inj r'
theorem Inv.ug (I:Inv X pins σ H s) (h:bG X.K H a xs) (h':bG X.K H a ys):xs=ys:=by
 obtain ⟨its,r,⟨o,e,_,n,d⟩,_⟩:=I.tuple h
 obtain ⟨its',r',⟨o',e',_,n',d'⟩,_⟩:=I.tuple h'
 rw [e] at e';cases e'
 rw [d] at d'
 injection d' with d1 _
 have:its=its':=by simpa using congrArg Array.toList d1
 subst this
 exact r.inj r'
abbrev Cx.wish (X:Cx) (E:Value->Shared->Prop):Cx:={ X with xe:=E }
abbrev Cx.nox (X:Cx):Cx:=X.wish fun _ _=>False
theorem Cx.Ok.wish (ok:X.Ok) (E:Value->Shared->Prop):(X.wish E).Ok :=
 ⟨ok.mod,ok.kind,ok.glob,ok.blt,ok.above,ok.inj,ok.has,ok.cab,ok.hd,ok.frames,ok.stk,ok.Wg,ok.bs,ok.Hr,ok.yh,ok.zX,ok.lU,ok.Nf⟩
theorem Cx.Ok.jM (ok:(X.wish E).Ok):X.Ok :=
 ⟨ok.mod,ok.kind,ok.glob,ok.blt,ok.above,ok.inj,ok.has,ok.cab,ok.hd,ok.frames,ok.stk,ok.Wg,ok.bs,ok.Hr,ok.yh,ok.zX,ok.lU,ok.Nf⟩
theorem Inv.wish (I:Inv X pins σ H s) (E:Value->Shared->Prop):Inv (X.wish E) pins σ H s:=⟨I.ok.wish E,I.os,I.bare,I.base,I.loc,I.cell,I.free,I.gC,I.pin,I.hok,I.len⟩
theorem Inv.jM (I:Inv (X.wish E) pins σ H s):Inv X pins σ H s:=⟨I.ok.jM,I.os,I.bare,I.base,I.loc,I.cell,I.free,I.gC,I.pin,I.hok,I.len⟩
theorem SP.jM {D:Ends}{f:Flow} (h:SP (X.wish E) pins D f s'):SP X pins D f s':=by
 cases f with
 | next=>obtain ⟨σ',H',I,q⟩:=h;exact ⟨σ',H',I.jM,q⟩
 | brk=>obtain ⟨σ',H',I,q⟩:=h;exact ⟨σ',H',I.jM,q⟩
 | cont=>obtain ⟨σ',H',I,q⟩:=h;exact ⟨σ',H',I.jM,q⟩
 | ret u=>obtain ⟨v,σ',H',I,r,q⟩:=h;exact ⟨v,σ',H',I.jM,r,q⟩
theorem xZ.nox {st:List Stmt}{t:TS} (h:xZ X.nox st t):xZ X st t:=fun pins s σ H D I hw =>
 wpAny_mono (h pins s σ H D (I.wish _) hw) (fun _ _ q=>q.jM) fun _ _ z=>False.elim z
section
variable {rest:List Stmt}{t u:TS}
def Hw:TS:=fun D σ H=>D.nx σ H
def Ng (t u:TS):TS:=fun D σ H=>t { D with nx:=u D } σ H
theorem bK:xZ X [] Hw:=fun _ _ σ H _ I h=>wpAny_execs_nil ⟨σ,H,I,h⟩
theorem aD (h1:PS X st t) (h2:xZ X rest u):xZ X (st::rest) (Ng t u):=by
 intro pins s σ H D I h
 refine wpAny_execs_cons (cF (h1 pins s σ H { D with nx:=u D } I h) fun f s1 q=>?_)
 cases f with
 | next =>
  obtain ⟨σ',H',I',q⟩:=q
  exact h2 pins s1 σ' H' D I' q
 | ret v=>exact q
 | brk=>exact q
 | cont=>exact q
theorem aJ (h1:PS X st t):xZ X [st] t:=by
 intro pins s σ H D I h
 refine wpAny_execs_cons (cF (h1 pins s σ H D I h) fun f s1 q=>?_)
 cases f with
 | next=>exact wpAny_execs_nil q
 | ret v=>exact q
 | brk=>exact q
 | cont=>exact q
theorem Inv.quiet (I:Inv X pins σ H s):interactive X.env=false:=by simp [interactive,I.ok.kind]
def WM (te:TE):TS:=fun D σ H=>te σ H fun _ H1=>D.nx σ H1
theorem cg (he:PE X e te) (hs:swapsWith e none pos.line X.env=pure false:=by rfl):PS X (.Expr e pos) (WM te):=by
 intro pins s σ H D I h
 exact wpAny_Expr_any (cF (he pins s σ H _ I h) fun v s1 ⟨x,H1,I1,r1,q1⟩=>⟨σ,H1,I1,q1⟩) I.quiet hs
def HB (te:TE):TS:=fun D σ H=>te σ H D.rt
theorem bL (he:PE X e te):PS X (.Return (some e) pos) (HB te):=by
 intro pins s σ H D I h
 exact wpAny_Return_some (cF (he pins s σ H _ I h) fun v s1 ⟨x,H1,I1,r1,q1⟩=>⟨x,σ,H1,I1,r1,q1⟩)
def yq (c:TT) (t u:TS):TS:=fun D σ H=>c σ H fun b H1=>if b=true then t D σ H1 else u D σ H1
theorem cJ {c:Expr}{a b:List Stmt}{tc:TT} (hc:PT X c tc) (ha:xZ X a t) (hb:xZ X b u):PS X (.If c a b pos) (yq tc t u):=by
 intro pins s σ H D I h
 refine wpAny_If (cF (hc pins s σ H _ I h) fun d s1 zq=>?_)
 obtain ⟨H1,I1,q1⟩:=zq
 cases d with
 | true=>exact ha pins s1 σ H1 D I1 q1
 | false=>exact hb pins s1 σ H1 D I1 q1
def SQ:TS:=fun _ _ _=>False
theorem uh:xZ X sts SQ:=fun _ _ _ _ _ _ h=>h.elim
end
abbrev TG:=V->St->Hp->(St->Hp->Prop)->Prop
abbrev QL:=List V->St->Hp->(St->Hp->Prop)->Prop
def PG (X:Cx) (target:Expr) (t:TG):Prop :=
 ∀ (pins:List (Addr×Obj)) (s:Shared) (σ:St) (H:Hp) (v:V) (u:Value) (Q:St->Hp->Prop),Inv X pins σ H s->RelV v u->t v σ H Q ->
  wpAny (model X.prog X.w) X.A (assign target X.env u) (fun _ s'=>∃ σ' H',Inv X pins σ' H' s'/\Q σ' H') X.xe s
def WQ (X:Cx) (ts:List Expr) (t:QL):Prop :=
 ∀ (pins:List (Addr×Obj)) (s:Shared) (σ:St) (H:Hp) (vs:List V) (us:List Value) (Q:St->Hp->Prop),Inv X pins σ H s->Vals vs us->t vs σ H Q ->
  wpAny (model X.prog X.w) X.A (assignInOrder ((assignEach ts X.env).map (·.2)) us) (fun _ s'=>∃ σ' H',Inv X pins σ' H' s'/\Q σ' H') X.xe s
abbrev SX:=V->V->V->Hp->(Hp->Prop)->Prop
def WR (X:Cx) (t:SX):Prop :=
 ∀ (pins:List (Addr×Obj)) (s:Shared) (σ:St) (H:Hp) (o i v:V) (ov iv u:Value) (Q:Hp->Prop),Inv X pins σ H s->RelV o ov->RelV i iv->RelV v u->t o i v H Q ->
  wpAny (model X.prog X.w) X.A (setItem ov iv u) (fun _ s'=>∃ H',Inv X pins σ H' s'/\Q H') X.xe s
def pC (i:Nat):TG:=fun v σ H Q=>Q (σ.set i (some v)) H
theorem aO (hN:X.N.Nodup) (hi:X.N[i]?=some x) (hx:Loc X.env.scope x) (hf:X.fn x=true\/X.env.scope.names.lookup x=some .local:=by first | exact .inl rfl | exact .inr rfl | assumption):PG X (.Name x pos) (pC i):=by
 intro pins s σ H v u Q I r h
 exact wpAny_assign_Name (qR I hN hi hx r (fun s' I'=>⟨_,H,I',h⟩) hf)
def gNil:QL:=fun vs σ H Q=>vs=[]/\Q σ H
def WT (t:TG) (u:QL):QL:=fun vs σ H Q=>∃ v r,vs=v::r/\t v σ H fun σ' H'=>u r σ' H' Q
theorem cX:WQ X [] gNil:=by
 intro pins s σ H vs us Q I r h
 obtain ⟨e,h⟩:=h
 subst e
 cases r
 exact assignInOrder_nil ⟨σ,H,I,h⟩
theorem bA {t:TG}{u:QL} (h1:PG X e t) (h2:WQ X es u)
  (hs:(assignEach (e::es) X.env).map (·.2)=assign e X.env::(assignEach es X.env).map (·.2):=by rfl):WQ X (e::es) (WT t u):=by
 intro pins s σ H vs us Q I r h
 obtain ⟨v,vr,e1,h⟩:=h
 subst e1
 cases r with
 | cons r rr =>
  rw [hs]
  refine assignInOrder_cons (cF (h1 pins s σ H _ _ _ I r h) fun _ s1 zq=>?_)
  obtain ⟨σ1,H1,I1,q1⟩:=zq
  exact h2 pins s1 σ1 H1 _ _ Q I1 rr q1
def WW (K:PySem.W.Frag) (n:Nat) (t:QL):TG:=fun v σ H Q=>∃ a xs,v=.ref a/\bG K H a xs/\xs.length=n/\t xs σ H Q
theorem fQ {k:Nat}{t:QL} (hc:X.calm=true) (h:WQ X es t)
  (hn:(assignEach es X.env).length=n:=by rfl) (hst:(assignEach es X.env).findIdx? (·.1)=none:=by rfl):PG X (.Tuple es k pos) (WW X.K n t):=by
 intro pins s σ H v u Q I r hw
 obtain ⟨a,xs,e1,hq,hl,hw⟩:=hw
 subst e1
 cases r
 obtain ⟨its,rv,ht,hz⟩:=I.tuple hq
 refine assign_Tuple_tuple (I.ok.hd hc) ht (by simp [hn,<- hl,rv.length]) hst fun h' hx=>?_
 have I1:Inv X pins σ H { s with heap:=h' }:=I.kept (t':=s.toks) fun b o e=>hx b o (Nat.ne_of_lt (Heap.lt_size e)) e
 exact h pins _ σ H xs _ Q I1 (by simpa using rv) hw
def WX (to ti:TE) (t:SX):TG:=fun v σ H Q=>to σ H fun o H1=>ti σ H1 fun i H2=>t o i v H2 fun H3=>Q σ H3
theorem HD {o i:Expr}{ti:TE}{t:SX} (ho:PE X o to) (hi:PE X i ti) (hs:WR X t)
  (ha:∀ v,assign (.Subscript o i pos) X.env v=(do
   let ov <- holding [v] (eval o X.env)
   let iv <- holding [v,ov] (eval i X.env)
   standAt pos
   holding [v,ov,iv] (setItem ov iv v)
   release [v,ov,iv] []):=by intro _;rfl):PG X (.Subscript o i pos) (WX to ti t):=by
 intro pins s σ H v u Q I r h
 rw [ha]
 refine wpAny_bind (wpAny_holding (cF (ho pins s σ H _ I h) fun ov s1 zq=>?_))
 obtain ⟨x,H1,I1,r1,q1⟩:=zq
 refine wpAny_bind (wpAny_holding (cF (hi pins s1 σ H1 _ I1 q1) fun iv s2 zq=>?_))
 obtain ⟨y,H2,I2,r2,q2⟩:=zq
 refine wpAny_bind (wpAny_standAt (wpAny_bind (wpAny_holding (cF (hs pins s2 σ H2 x y v ov iv u _ I2 r1 r2 r q2) fun _ s3 zq=>?_))))
 obtain ⟨H3,I3,q3⟩:=zq
 exact wpAny_release ⟨σ,H3,I3,q3⟩
def Aa (te:TE) (g:TG):TS:=fun D σ H=>te σ H fun x H1=>g x σ H1 D.nx
theorem iR {g:TG} (he:PE X e te) (hg:PG X tg g) (hs:swapsWithSole [tg] e pos.line X.env=pure false:=by rfl) (hw:swappedStores [tg] e X.env=pure none:=by rfl)
  (h1:(assignEach [tg] X.env).map (·.2)=[assign tg X.env]:=by rfl):PS X (.Assign [tg] e pos) (Aa te g):=by
 intro pins s σ H D I h
 refine wpAny_Assign_stores (cF (he pins s σ H _ I h) fun v s1 ⟨x,H1,I1,r1,q1⟩=>?_) hs hw
 rw [h1]
 exact cF (hg pins s1 σ H1 x v _ I1 r1 q1) fun _ s2 q=>q
theorem bU (hN:X.N.Nodup) (hi:X.N[i]?=some x) (hx:Loc X.env.scope x) (he:PE X e te) (hs:swapsWith e (some (.Name x pos')) pos.line X.env=pure false:=by rfl) (hf:X.fn x=true\/X.env.scope.names.lookup x=some .local:=by first | exact .inl rfl | exact .inr rfl | assumption) :
  PS X (.Assign [.Name x pos'] e pos) (Aa te (pC i)):=by
 intro pins s σ H D I h
 refine wpAny_Assign_Name (cF (he pins s σ H _ I h) fun v s1 ⟨y,H1,I1,r1,q1⟩=>?_) hs
 exact qR I1 hN hi hx r1 (fun s2 I2=>⟨_,H1,I2,q1⟩) hf
structure It where
 go:Nat->Hp->Prop
 yr:Nat->Hp->V->Hp->Prop
 stop:Nat->Hp->Prop
variable {J:It}
def jN (X:Cx) (pins:List (Addr×Obj)) (H:Hp) (b:Addr):Prop :=
 H b=none/\b≠X.env.locals/\b∉X.fs/\(b∈X.ex\/X.s₀.heap.objs.size<=b)/\(∀ x c,X.env.cells.lookup x=some c->c≠b)/\∀ p∈X.pn++pins,p.1≠b
theorem Inv.tQ (I:Inv X pins σ H s) (hb:s.heap.objs.size<=b) (hn:H' b=none):jN X pins H' b:=by
 refine ⟨hn,Nat.ne_of_gt (Nat.lt_of_lt_of_le I.lt hb),I.nofs hb,.inr (Nat.le_trans I.sz hb),fun x c e z=>?_,fun p hp z=>?_⟩
 ·obtain ⟨v,q⟩:=I.cell x c e
  exact absurd (Nat.lt_of_lt_of_le q.lt (by rw [z];exact hb)) (Nat.lt_irrefl _)
 ·exact absurd (Nat.lt_of_lt_of_le (Heap.lt_size (I.pin p hp).1) (by rw [z];exact hb)) (Nat.lt_irrefl _)
structure Turn (P:Program) (w:World) (K:PySem.W.Frag) (tg:Expr) (J:It) (fp:List Addr) (it:Addr) (tn:Nat->Heap->Prop):Prop where
 mem:it∈fp
 obj:∀ i h,tn i h->∀ b∈fp,∃ o,h.get? b=some o/\∀ v,o.data≠.cell v
 keep:∀ i h h',tn i h->(∀ b∈fp,∀ o,h.get? b=some o->h'.get? b=some o)->tn i h'
 item:∀ (X:Cx),X.prog=P->X.w=w->X.K=K->X.calm=true->∀ (i:Nat) (pins:List (Addr×Obj)) (s:Shared) (σ:St) (H:Hp) (E:Value->Shared->Prop),Inv X pins σ H s->(∀ b∈fp,jN X pins H b)->tn i s.heap->J.go i H ->
  wpAny (model P w) X.A (pyNext (.ref it)) (fun r s1=>∃ u,r=some u /\
   wpAny (model P w) X.A (letOwnedTupleGo tg (.ref it) u) (fun _ s2=>∃ x H',Inv X pins σ H' s2/\RelV x u/\J.yr i H x H'/\tn (i+1) s2.heap/\∀ b∈fp,H' b=none) E s1) E s
 done:∀ (X:Cx),X.prog=P->X.w=w->X.K=K->X.calm=true->∀ (i:Nat) (pins:List (Addr×Obj)) (s:Shared) (σ:St) (H:Hp) (E:Value->Shared->Prop),Inv X pins σ H s->(∀ b∈fp,jN X pins H b)->tn i s.heap->J.stop i H ->
  wpAny (model P w) X.A (pyNext (.ref it)) (fun r s1=>r=none/\Inv X pins σ H s1) E s
 self:∀ (A:Around) (i:Nat) (s:Shared) (Q:Value->Shared->Prop) (E:Value->Shared->Prop),tn i s.heap->Q (.ref it) s->wpAny (model P w) A (pyIter (.ref it)) Q E s
abbrev TI:=St->Hp->(It->Hp->Prop)->Prop
variable {wi:TI}
def PIE (X:Cx) (pins:List (Addr×Obj)) (σ:St) (tg:Expr) (R:It->Hp->Prop) (itv:Value) (s2:Shared):Prop :=
 ∃ (it:Addr) (fp:List Addr) (tn:Nat->Heap->Prop) (J:It) (H':Hp),itv=.ref it/\Inv X pins σ H' s2/\Turn X.prog X.w X.K tg J fp it tn/\tn 0 s2.heap/\(∀ b∈fp,jN X pins H' b)/\R J H'
def PI (X:Cx) (tg iter:Expr) (wi:TI):Prop :=
 ∀ (pins:List (Addr×Obj)) (s:Shared) (σ:St) (H:Hp) (R:It->Hp->Prop),Inv X pins σ H s->wi σ H R ->
  wpAny (model X.prog X.w) X.A (eval iter X.env) (fun v s1=>wpAny (model X.prog X.w) X.A (pyIter v) (PIE X pins σ tg R) X.xe s1) X.xe s
theorem CQ {M:Model}{n:String}{vs:Array Value}{Q:Unit->Shared->Prop} (ho:s.heap.get? it=some o) (hc:o.cls=.type n) (hd:o.data=.fields vs)
  (hn:["enumerate", "zip", "dict_itemiterator", "dict_reverseitemiterator", "odict_iterator", "itertools.zip_longest", "itertools.pairwise"].contains n=false) (hQ:Q () s):wpAny M A (letOwnedTupleGo tg (.ref it) u) Q E s:=by
 unfold letOwnedTupleGo
 cases tg <;> first
  | exact wpAny_pure hQ
  | (cases u <;> first
    | exact wpAny_pure hQ
    | (refine wpAny_bind (wpAny_load ho ?_)
       rw [hc,hd]
       show wpAny M A (if (["enumerate", "zip", "dict_itemiterator", "dict_reverseitemiterator", "odict_iterator", "itertools.zip_longest", "itertools.pairwise"].contains n&&vs[0]?==some (rawInt _))=true then _ else _) Q E s
       rw [if_neg (by intro h;rw [hn,Bool.false_and] at h;cases h)]
       exact wpAny_pure hQ))
def QM (K:PySem.W.Frag) (a:Addr):It :=
 ⟨fun i H=>∃ xs x,bD K H a xs/\xs[i]?=some x,fun i H x H'=>H'=H/\∀ xs,bD K H a xs->xs[i]?=some x,fun i H=>∃ xs,bD K H a xs/\xs.length<=i⟩
def Itt (K:PySem.W.Frag) (a:Addr):It :=
 ⟨fun i H=>∃ xs x,bG K H a xs/\xs[i]?=some x,fun i H x H'=>H'=H/\∀ xs,bG K H a xs->xs[i]?=some x,fun i H=>∃ xs,bG K H a xs/\xs.length<=i⟩
def T3 (lo:Int) (n:Nat):It:=⟨fun i _=>i<n,fun i H x H'=>H'=H/\x=.int (lo+i),fun i _=>n<=i⟩
theorem um (a it:Addr):Turn P w K tg (QM K a) [it] it (fun i h=>h.IsListIter it a i) where
 mem:=by simp
 obj:=fun i h st b hb=>by
  have e:b=it:=by simpa using hb
  subst e
  obtain ⟨o,e,c,d⟩:=st
  exact ⟨o,e,fun v z=>by rw [d] at z;cases z⟩
 keep:=fun i h h' st k=>st.at fun o e=>k it (by simp) o e
 item:=by
  intro X hP hw hK hc i pins s σ H E I hf st hg
  subst hP hw hK
  obtain ⟨xs,x,hq,hx⟩:=hg
  obtain ⟨its,rv,p,hz⟩:=I.list hq
  obtain ⟨u,hu,ru⟩:=rv.get hx
  obtain ⟨f0,f1,f2,f3,f4,f5⟩:=hf it (by simp)
  refine wpAny_pyNext_list_item st p.isList (x:=u) (by simpa using hu) fun h' st' sb=>?_
  have I1:Inv X pins σ H { s with heap:=h' }:=I.turned (t':=s.toks) (fun b o hb e=>(sb.2 b hb).trans e) f0 f1 f3 f4 f5
  obtain ⟨o,e,c,d⟩:=id st'
  exact ⟨u,rfl,CQ (s:={ s with heap:=h' }) e c d (by decide) ⟨x,H,I1,ru,⟨rfl,fun ys hy=>by rw [I.qT hy hq];exact hx⟩,st',fun b hb=>(hf b hb).1⟩⟩
 done:=by
  intro X hP hw hK hc i pins s σ H E I hf st hg
  subst hP hw hK
  obtain ⟨xs,hq,hx⟩:=hg
  obtain ⟨its,rv,p,hz⟩:=I.list hq
  obtain ⟨f0,f1,f2,f3,f4,f5⟩:=hf it (by simp)
  have hl:=rv.length
  exact wpAny_pyNext_list_end (I.ok.hd hc) st p.isList (by simp;lia) fun h' eb=>⟨rfl,I.turned (t':=s.toks) (fun b o hb e=>eb b o hb e) f0 f1 f3 f4 f5⟩
 self:=fun _ _ _ _ _ st h=>wpAny_pyIter_listiter st h
theorem Ab (a it:Addr):Turn P w K tg (Itt K a) [it] it (fun i h=>h.IsTupleIter it a i) where
 mem:=by simp
 obj:=fun i h st b hb=>by
  have e:b=it:=by simpa using hb
  subst e
  obtain ⟨o,e,c,d⟩:=st
  exact ⟨o,e,fun v z=>by rw [d] at z;cases z⟩
 keep:=fun i h h' st k=>st.at fun o e=>k it (by simp) o e
 item:=by
  intro X hP hw hK hc i pins s σ H E I hf st hg
  subst hP hw hK
  obtain ⟨xs,x,hq,hx⟩:=hg
  obtain ⟨its,rv,p,hz⟩:=I.tuple hq
  obtain ⟨u,hu,ru⟩:=rv.get hx
  obtain ⟨f0,f1,f2,f3,f4,f5⟩:=hf it (by simp)
  refine wpAny_pyNext_tuple_item st (show s.heap.IsTuple a its.toArray from p) (x:=u) (by simpa using hu) fun h' st' sb=>?_
  have I1:Inv X pins σ H { s with heap:=h' }:=I.turned (t':=s.toks) (fun b o hb e=>(sb.2 b hb).trans e) f0 f1 f3 f4 f5
  obtain ⟨o,e,c,d⟩:=id st'
  exact ⟨u,rfl,CQ (s:={ s with heap:=h' }) e c d (by decide) ⟨x,H,I1,ru,⟨rfl,fun ys hy=>by rw [I.ug hy hq];exact hx⟩,st',fun b hb=>(hf b hb).1⟩⟩
 done:=by
  intro X hP hw hK hc i pins s σ H E I hf st hg
  subst hP hw hK
  obtain ⟨xs,hq,hx⟩:=hg
  obtain ⟨its,rv,p,hz⟩:=I.tuple hq
  obtain ⟨f0,f1,f2,f3,f4,f5⟩:=hf it (by simp)
  have hl:=rv.length
  exact wpAny_pyNext_tuple_end (I.ok.hd hc) st (show s.heap.IsTuple a its.toArray from p) (by simp;lia) fun h' eb=>⟨rfl,I.turned (t':=s.toks) (fun b o hb e=>eb b o hb e) f0 f1 f3 f4 f5⟩
 self:=fun _ _ _ _ _ st h=>wpAny_pyIter_tupleiter st h
theorem Ac (it:Addr) (lo:Int) (n:Nat):Turn P w K tg (T3 lo n) [it] it (fun i h=>IsRangeIter h it (lo+(i:Nat) * 1) ((n:Int) - (i:Nat)) 1) where
 mem:=by simp
 obj:=fun i h st b hb=>by
  have e:b=it:=by simpa using hb
  subst e
  exact ⟨_,st,fun v z=>by
   have z':Data.fields _=Data.cell v:=z
   cases z'⟩
 keep:=fun i h h' st k=>k it (by simp) _ st
 item:=by
  intro X hP hw hK hc i pins s σ H E I hf st hg
  subst hP hw hK
  obtain ⟨f0,f1,f2,f3,f4,f5⟩:=hf it (by simp)
  have W:=Walks.range (prog:=X.prog) (w:=X.w) (I.ok.hd hc) it lo 1 n
  refine W.item i s _ _ hg st fun v h' tk hv st' kk=>?_
  obtain ⟨t,rfl⟩:=hv
  have I1:Inv X pins σ H { s with heap:=h',toks:=tk }:=I.turned (fun b o hb e=>kk b o (by simpa using hb) e) f0 f1 f3 f4 f5
  refine ⟨_,rfl,CQ (s:={ s with heap:=h',toks:=tk }) (n:="range_iterator") st' rfl rfl (by decide) ⟨.int (lo+i),H,I1,⟨t,?_⟩,⟨rfl,rfl⟩,st',fun b hb=>(hf b hb).1⟩⟩
  rw [Int.mul_one]
 done:=by
  intro X hP hw hK hc i pins s σ H E I hf st hg
  subst hP hw hK
  obtain ⟨f0,f1,f2,f3,f4,f5⟩:=hf it (by simp)
  exact wpAny_pyNext_range_end (I.ok.hd hc) st (by have:n<=i:=hg;lia) fun h' eb=>⟨rfl,I.turned (t':=s.toks) (fun b o hb e=>eb b o hb e) f0 f1 f3 f4 f5⟩
 self:=fun _ _ _ _ _ st h=>wpAny_pyIter_rangeiter st h
def WY (K:PySem.W.Frag) (tl:TE):TI:=fun σ H R=>tl σ H fun x H1=>∃ a,x=.ref a/\(∃ xs,bD K H1 a xs)/\R (QM K a) H1
theorem gG {l:Expr} (hl:PE X l tl):PI X tg l (WY X.K tl):=by
 intro pins s σ H R I h
 refine cF (hl pins s σ H _ I h) fun v s1 zq=>?_
 obtain ⟨x,H1,I1,r1,q1⟩:=zq
 obtain ⟨a,e,⟨xs,hq⟩,q⟩:=q1
 subst e
 cases r1
 obtain ⟨its,rv,p,hz⟩:=I1.list hq
 refine wpAny_pyIter_list p.isList ?_
 refine ⟨s1.heap.objs.size,[s1.heap.objs.size],_,_,H1,rfl,I1.kept (t':=s1.toks) fun b o e=>Heap.get?_push_of_some _ e,um a _,⟨_,Heap.get?_push_size _ rfl,rfl,rfl⟩,fun b hb=>?_,q⟩
 have e:b=s1.heap.objs.size:=by simpa using hb
 subst e
 exact I1.tQ (Nat.le_refl _) (I1.hok.fresh (Nat.le_refl _))
theorem HF {R:It->Hp->Prop}{lo hi:Int}{t u v:Tok}{tk:Nat} (I:Inv X pins σ H s) (h1:-(2 ^ 62)<=lo) (h2:lo<2 ^ 62) (h3:-(2 ^ 62)<=hi) (h4:hi<2 ^ 62)
  (q:R (T3 lo (hi - lo).toNat) H):wpAny (model X.prog X.w) X.A (pyIter (.ref s.heap.objs.size)) (PIE X pins σ tg R) E { s with heap:=s.heap.push { cls:=.type "range",data:=.fields #[.int lo t,.int hi u,.int 1 v] },toks:=tk }:=by
 refine wpAny_pyIter_range (IsRange.new ..) (small_one h1 h2 h3 h4) ?_
 have I1:Inv X pins σ H { s with heap:=s.heap.push { cls:=.type "range",data:=.fields #[.int lo t,.int hi u,.int 1 v] },toks:=tk }:=I.kept fun b o e=>Heap.get?_push_of_some _ e
 refine ⟨(s.heap.push { cls:=.type "range",data:=.fields #[.int lo t,.int hi u,.int 1 v] }).objs.size,[(s.heap.push { cls:=.type "range",data:=.fields #[.int lo t,.int hi u,.int 1 v] }).objs.size],_,_,H,rfl,
  I1.kept (t':=tk) fun b o e=>Heap.get?_push_of_some _ e,Ac _ lo (hi - lo).toNat,?_,fun b hb=>?_,q⟩
 ·have e1:lo+((0:Nat):Int) * 1=lo:=by simp
  have e2:(((hi - lo).toNat:Nat):Int) - ((0:Nat):Int)=Builtin.Range.rangeSize lo hi 1:=by rw [rangeSize_one];split <;> lia
  show IsRangeIter _ _ (lo+((0:Nat):Int) * 1) ((((hi - lo).toNat:Nat):Int) - ((0:Nat):Int)) 1
  rw [e1,e2]
  exact Heap.get?_push_size _ rfl
 ·have e:b=(s.heap.push { cls:=.type "range",data:=.fields #[.int lo t,.int hi u,.int 1 v] }).objs.size:=by simpa using hb
  subst e
  exact I1.tQ (Nat.le_refl _) (I1.hok.fresh (Nat.le_refl _))
def X3 (ta:TA):TI:=fun σ H R=>ta σ H fun vs H1=>∃ j:Int,vs=[.int j]/\-(2 ^ 62)<=j/\j<2 ^ 62/\R (T3 0 j.toNat) H1
theorem eU {a:Expr}{ta:TA} (hg:Gl X "range") (hm:X.mg "range"=none) (ha:PA X [a] ta) (hs:starEach [a] X.env=[(false,eval a X.env)]:=by rfl):PI X tg (.Call (.Name "range" p) [a] [] pos) (X3 ta):=by
 intro pins s σ H R I h
 refine Call_ (jk I hg hm boot_range (PyProof.Rows.callWith_type1 (cF (ha pos pins s σ H _ I h) fun us s1 ⟨vs,H1,I1,r1,q1⟩=>?_) hs rfl))
 obtain ⟨j,e,q1,q2,q⟩:=q1
 subst e
 cases r1 with
 | cons r rr =>
  cases rr
  obtain ⟨t,rfl⟩:=r
  exact call_range_1 (HF I1 (by lia) (by lia) q1 q2 (by simpa using q))
def X4 (wi:TI) (g:TG) (tb:TS):TS:=fun D σ H=>wi σ H fun J H1=>∃ W:Nat->Nat->St->Hp->Prop,(∃ m,W 0 m σ H1)/\∀ i m σ H,W i m σ H ->
 (J.stop i H/\D.nx σ H)\/(J.go i H/\∃ N:St->Hp->Prop,(∀ σ' H',N σ' H'->∃ m',m'<m/\W (i+1) m' σ' H')/\∀ x H',J.yr i H x H'->g x σ H' fun σ2 H2=>tb { D with nx:=N,ct:=N,bk:=D.nx } σ2 H2)
def qU (fp:List Addr) (h:Heap):List (Addr×Obj):=fp.filterMap fun b=>(h.get? b).map fun o=>(b,o)
theorem jo (hb:b∈fp) (e:h.get? b=some o):(b,o)∈qU fp h:=List.mem_filterMap.mpr ⟨b,hb,by rw [e];rfl⟩
theorem Fd {p:Addr×Obj} (hp:p∈qU fp h):p.1∈fp/\h.get? p.1=some p.2:=by
 obtain ⟨b,hb,e⟩:=List.mem_filterMap.mp hp
 cases q:h.get? b with
 | none=>rw [q] at e;cases e
 | some o =>
  rw [q] at e
  have e':(b,o)=p:=Option.some.inj e
  subst e'
  exact ⟨hb,q⟩
theorem Inv.pinned (I:Inv X pins σ H s) (hf:∀ b∈fp,jN X pins H b) (ho:∀ b∈fp,∃ o,s.heap.get? b=some o/\∀ v,o.data≠.cell v):Inv X (pins++qU fp s.heap) σ H s :=
 I.CP fun p hp=>(List.mem_append.mp hp).elim (fun z=>I.pin p (List.mem_append_right _ z)) fun z=>by
  obtain ⟨hb,e⟩:=Fd z
  obtain ⟨f0,f1,f2,_⟩:=hf p.1 hb
  obtain ⟨o,e',d⟩:=ho p.1 hb
  rw [e] at e';cases e'
  exact ⟨e,f0,f1,f2,d⟩
theorem Inv.mY {pl:List (Addr×Obj)} (I:Inv X (pins++pl) σ H s):Inv X pins σ H s:=I.CP fun p hp=>I.pin p (List.mem_append_right _ (List.mem_append_left _ hp))
theorem gU {g:TG}{tb:TS} (hp:PassesOwn (model X.prog X.w) X.A X.env X.xe) (hc:X.calm=true) (hi:PI X tg iter wi) (hg:PG X tg g) (hb:xZ X body tb)
  (hs:∀ x,foldedSetIterable iter X.env x=pure x:=by intro _;rfl):PS X (.For tg iter body [] pos) (X4 wi g tb):=by
 intro pins s σ H D I h
 refine wpAny_For (cF (hi pins s σ H _ I h) fun v s1 h1=>cF h1 fun itv s2 h2=>?_) hs
 obtain ⟨it,fp,tn,J,H2,e,I2,T,st2,f2,W,⟨m0,w0⟩,turn⟩:=h2
 subst e
 have stat:∀ {H':Hp},(∀ b∈fp,H' b=none)->∀ b∈fp,jN X pins H' b:=fun hn b hb=>⟨hn b hb,(f2 b hb).2⟩
 refine codeAny_forLoop_any (fun n s'=>∃ i σ' H',Inv X pins σ' H' s'/\tn i s'.heap/\(∀ b∈fp,H' b=none)/\W i n σ' H') ?_ m0 ⟨0,σ,H2,I2,st2,fun b hb=>(f2 b hb).1,w0⟩
 rintro n s3 ⟨i,σ3,H3,I3,st3,X5,w3⟩
 rcases turn i n σ3 H3 w3 with ⟨stop,qn⟩ | ⟨go,N,hN,step⟩
 ·refine wpAny_passesOwn hp (cF (T.done X rfl rfl rfl hc i pins s3 σ3 H3 X.xe I3 (stat X5) st3 stop) fun r s4 zq=>?_)
  obtain ⟨hr,I4⟩:=zq
  subst hr
  exact wpAny_execs_nil ⟨σ3,H3,I4,qn⟩
 ·refine wpAny_passesOwn hp (cF (T.item X rfl rfl rfl hc i pins s3 σ3 H3 X.xe I3 (stat X5) st3 go) fun r s4 zq=>?_)
  obtain ⟨u,hr,h4⟩:=zq
  subst hr
  refine wpAny_passesOwn hp (cF h4 fun _ s5 zq=>?_)
  obtain ⟨x,H5,I5,r5,y5,T4,QS⟩:=zq
  have I5':=I5.pinned (stat QS) (T.obj _ _ T4)
  refine wpAny_passesOwn hp (cF (hg _ s5 σ3 H5 x u _ I5' r5 (step x H5 y5)) fun _ s6 zq=>?_)
  obtain ⟨σ6,H6,I6,q6⟩:=zq
  refine wpAny_passesOwn hp (cF (hb _ s6 σ6 H6 _ I6 q6) fun f s7 q7=>?_)
  have again:∀ {σ7:St}{H7:Hp},Inv X (pins++qU fp s5.heap) σ7 H7 s7->N σ7 H7->∃ m,m<n/\∃ i σ' H',Inv X pins σ' H' s7/\tn i s7.heap/\(∀ b∈fp,H' b=none)/\W i m σ' H':=fun {σ7 H7} I7 n7=>by
   obtain ⟨m',hm,w7⟩:=hN σ7 H7 n7
   refine ⟨m',hm,i+1,σ7,H7,I7.mY,T.keep _ _ _ T4 fun b hb o e=>(I7.pin (b,o) (List.mem_append_right _ (List.mem_append_right _ (jo hb e)))).1,fun b hb=>?_,w7⟩
   obtain ⟨o,e,d⟩:=T.obj _ _ T4 b hb
   exact (I7.pin (b,o) (List.mem_append_right _ (List.mem_append_right _ (jo hb e)))).2.1
  cases f with
  | next=>obtain ⟨σ7,H7,I7,n7⟩:=q7;exact again I7 n7
  | cont=>obtain ⟨σ7,H7,I7,n7⟩:=q7;exact again I7 n7
  | brk=>obtain ⟨σ7,H7,I7,q7⟩:=q7;exact ⟨σ7,H7,I7.mY,q7⟩
  | ret v=>obtain ⟨x7,σ7,H7,I7,r7,q7⟩:=q7;exact ⟨x7,σ7,H7,I7.mY,r7,q7⟩
theorem qW {g:TG}{tb:TS}{D:Ends} (Pv:Nat->St->Hp->Prop) (h0:Pv 0 σ H) (hl:∀ i σ H,i<=xs.length->Pv i σ H->bD K H a xs)
  (hs:∀ i x σ H,xs[i]?=some x->Pv i σ H->g x σ H fun σ2 H2=>tb { D with nx:=Pv (i+1),ct:=Pv (i+1),bk:=D.nx } σ2 H2) (hd:∀ σ H,Pv xs.length σ H->D.nx σ H) :
  ∃ W:Nat->Nat->St->Hp->Prop,(∃ m,W 0 m σ H)/\∀ i m σ H,W i m σ H ->
   ((QM K a).stop i H/\D.nx σ H)\/((QM K a).go i H/\∃ N:St->Hp->Prop,(∀ σ' H',N σ' H'->∃ m',m'<m/\W (i+1) m' σ' H')/\∀ x H',(QM K a).yr i H x H'->g x σ H' fun σ2 H2=>tb { D with nx:=N,ct:=N,bk:=D.nx } σ2 H2):=by
 refine ⟨fun i m σ H=>m=xs.length - i/\i<=xs.length/\Pv i σ H,⟨xs.length,by simp,Nat.zero_le _,h0⟩,?_⟩
 rintro i m σ H ⟨rfl,hi,p⟩
 have q:=hl i σ H hi p
 by_cases hlt:i<xs.length
 ·refine .inr ⟨⟨xs,xs[i],q,by simp [hlt]⟩,Pv (i+1),fun σ' H' p'=>⟨xs.length - (i+1),by lia,rfl,hlt,p'⟩,fun x H' y=>?_⟩
  obtain ⟨e,y⟩:=y
  subst e
  exact hs i x σ _ (y xs q) p
 ·have e:i=xs.length:=by lia
  subst e
  exact .inl ⟨⟨xs,q,Nat.le_refl _⟩,hd σ H p⟩
theorem iZ {lo:Int}{g:TG}{tb:TS}{D:Ends} (Pv:Nat->St->Hp->Prop) (h0:Pv 0 σ H)
  (hs:∀ i σ H,i<n->Pv i σ H->g (.int (lo+i)) σ H fun σ2 H2=>tb { D with nx:=Pv (i+1),ct:=Pv (i+1),bk:=D.nx } σ2 H2) (hd:∀ σ H,Pv n σ H->D.nx σ H) :
  ∃ W:Nat->Nat->St->Hp->Prop,(∃ m,W 0 m σ H)/\∀ i m σ H,W i m σ H ->
   ((T3 lo n).stop i H/\D.nx σ H)\/((T3 lo n).go i H/\∃ N:St->Hp->Prop,(∀ σ' H',N σ' H'->∃ m',m'<m/\W (i+1) m' σ' H')/\∀ x H',(T3 lo n).yr i H x H'->g x σ H' fun σ2 H2=>tb { D with nx:=N,ct:=N,bk:=D.nx } σ2 H2):=by
 refine ⟨fun i m σ H=>m=n - i/\i<=n/\Pv i σ H,⟨n,by simp,Nat.zero_le _,h0⟩,?_⟩
 rintro i m σ H ⟨rfl,hi,p⟩
 by_cases hlt:i<n
 ·refine .inr ⟨hlt,Pv (i+1),fun σ' H' p'=>⟨n - (i+1),by lia,rfl,hlt,p'⟩,fun x H' y=>?_⟩
  obtain ⟨e,y⟩:=y
  subst e y
  exact hs i σ _ hlt p
 ·have e:i=n:=by lia
  subst e
  exact .inl ⟨Nat.le_refl _,hd σ H p⟩
abbrev R2:=V->V->Hp->VK->Prop
def jC (X:Cx) (f:Value->Value->Sem Value) (r:R2):Prop :=
 ∀ (pins:List (Addr×Obj)) (s:Shared) (σ:St) (H:Hp) (x y:V) (v u:Value) (Q:VK),Inv X pins σ H s->RelV x v->RelV y u->r x y H Q ->
  wpAny (model X.prog X.w) X.A (f v u) (EP X pins σ Q) X.xe s
def UnR (X:Cx) (f:Value->Sem Value) (r:V->Hp->VK->Prop):Prop :=
 ∀ (pins:List (Addr×Obj)) (s:Shared) (σ:St) (H:Hp) (x:V) (v:Value) (Q:VK),Inv X pins σ H s->RelV x v->r x H Q ->
  wpAny (model X.prog X.w) X.A (f v) (EP X pins σ Q) X.xe s
def dB (X:Cx) (f:Value) (r:List V->Hp->VK->Prop):Prop :=
 ∀ (pins:List (Addr×Obj)) (s:Shared) (σ:St) (H:Hp) (xs:List V) (us:List Value) (Q:VK),Inv X pins σ H s->Vals xs us->r xs H Q ->
  wpAny (model X.prog X.w) X.A (call f us) (EP X pins σ Q) X.xe s
def TruR (X:Cx) (r:V->Hp->(Bool->Hp->Prop)->Prop):Prop :=
 ∀ (pins:List (Addr×Obj)) (s:Shared) (σ:St) (H:Hp) (x:V) (v:Value) (Q:Bool->Hp->Prop),Inv X pins σ H s->RelV x v->r x H Q ->
  wpAny (model X.prog X.w) X.A (truthy v) (TP X pins σ Q) X.xe s
def Mv (r:R2) (ta tb:TE):TE:=fun σ H Q=>ta σ H fun x H1=>tb σ H1 fun y H2=>r x y H2 Q
def tUn (r:V->Hp->VK->Prop) (ta:TE):TE:=fun σ H Q=>ta σ H fun x H1=>r x H1 Q
def rI (C:Int->Int->Prop) (g:Int->Int->V):R2:=fun x y H Q=>∃ i j,x=.int i/\y=.int j/\C i j/\Q (g i j) H
def T5 (g:Int->Int->V):R2:=fun x y H Q=>∃ i j,x=.int i/\y=.int j/\Q (g i j) H
def rU (g:Int->V):V->Hp->VK->Prop:=fun x H Q=>∃ i,x=.int i/\Q (g i) H
section
variable {a b c:Expr}{tc:TE}
theorem T6 (ha:PE X a ta) (hb:PE X b tb) {R:V->V->Hp->Prop} (I:Inv X pins σ H s)
  (h:ta σ H fun x H1=>tb σ H1 fun y H2=>R x y H2) {f:Value->Value->Sem Value}
  (hf:∀ v u s2 x y H2,Inv X pins σ H2 s2->RelV x v->RelV y u->R x y H2->wpAny (model X.prog X.w) X.A (f v u) Q X.xe s2) :
  wpAny (model X.prog X.w) X.A (eval a X.env) (fun v s₁=>wpAny (model X.prog X.w) X.A (eval b X.env) (fun u s₂=>wpAny (model X.prog X.w) X.A (f v u) Q X.xe s₂) X.xe s₁) X.xe s:=by
 refine cF (ha pins s σ H _ I h) fun v s1 zq=>?_
 obtain ⟨x,H1,I1,r1,q1⟩:=zq
 refine cF (hb pins s1 σ H1 _ I1 q1) fun u s2 zq=>?_
 obtain ⟨y,H2,I2,r2,q2⟩:=zq
 exact hf v u s2 x y H2 I2 r1 r2 q2
theorem aQ {op:Operator}{r:R2} (ho:jC X (binaryOp op) r) (ha:PE X a ta) (hb:PE X b tb):PE X (.BinOp a op b pos) (Mv r ta tb):=by
 intro pins s σ H Q I h
 exact wpAny_BinOp (T6 ha hb I h fun v u s2 x y H2 I2 rx ry q=>ho pins s2 σ H2 x y v u Q I2 rx ry q)
theorem QT {op:UnaryOp}{r:V->Hp->VK->Prop} (ho:UnR X (unaryOp op) r) (ha:PE X a ta):PE X (.UnaryOp op a pos) (tUn r ta):=by
 intro pins s σ H Q I h
 exact UnaryOp_ (cF (ha pins s σ H _ I h) fun v s1 ⟨x,H1,I1,r1,q1⟩=>ho pins s1 σ H1 x v Q I1 r1 q1)
theorem opI {f:Value->Value->Sem Value}{C:Int->Int->Prop}{g:Int->Int->Int}
  (rule:∀ (i j:Int) (t u:Tok) (s:Shared) (Q:Value->Shared->Prop) (E:Value->Shared->Prop),C i j->Q (.int (g i j) s.toks) { s with toks:=s.toks+1 }->wpAny (model X.prog X.w) X.A (f (.int i t) (.int j u)) Q E s) :
  jC X f (rI C fun i j=>.int (g i j)):=by
 intro pins s σ H x y v u Q I rx ry h
 obtain ⟨i,j,rfl,rfl,hc,q⟩:=h
 obtain ⟨t,rfl⟩:=rx
 obtain ⟨t',rfl⟩:=ry
 exact rule i j t t' s _ _ hc ⟨.int (g i j),H,I.tok _,⟨_,rfl⟩,q⟩
theorem X6 {f:Value->Value->Sem Value}{g:Int->Int->Int}
  (rule:∀ (i j:Int) (t u:Tok) (s:Shared) (Q:Value->Shared->Prop) (E:Value->Shared->Prop),Q (.int (g i j) s.toks) { s with toks:=s.toks+1 }->wpAny (model X.prog X.w) X.A (f (.int i t) (.int j u)) Q E s) :
  jC X f (T5 fun i j=>.int (g i j)):=by
 intro pins s σ H x y v u Q I rx ry h
 obtain ⟨i,j,rfl,rfl,q⟩:=h
 obtain ⟨t,rfl⟩:=rx
 obtain ⟨t',rfl⟩:=ry
 exact rule i j t t' s _ _ ⟨.int (g i j),H,I.tok _,⟨_,rfl⟩,q⟩
theorem T7 {f:Value->Value->Sem Value}{g:Int->Int->Bool}
  (rule:∀ (i j:Int) (t u:Tok) (s:Shared) (Q:Value->Shared->Prop) (E:Value->Shared->Prop),Q (.bool (g i j)) s->wpAny (model X.prog X.w) X.A (f (.int i t) (.int j u)) Q E s) :
  jC X f (T5 fun i j=>.bl (g i j)):=by
 intro pins s σ H x y v u Q I rx ry h
 obtain ⟨i,j,rfl,rfl,q⟩:=h
 obtain ⟨t,rfl⟩:=rx
 obtain ⟨t',rfl⟩:=ry
 exact rule i j t t' s _ _ ⟨.bl (g i j),H,I,rfl,q⟩
def CDiv (i j:Int):Prop:=0<j/\j<1073741824
def CPow (i j:Int):Prop:=0<=j/\j<=1000000/\i.natAbs<2 ^ 64
def T8 (i j:Int):Prop:=(-(2 ^ 64)<i/\i<2 ^ 64)\/(-(2 ^ 64)<j/\j<2 ^ 64)
theorem T8.ok {i j:Int} (h:T8 i j):IntMulOk i j:=by
 rcases h with ⟨h1,h2⟩ | ⟨h1,h2⟩
 ·exact .of_left (intBits_le_64 h1 h2)
 ·exact .of_right (intBits_le_64 h1 h2)
theorem cC:jC X (binaryOp .Add) (T5 fun i j=>.int (i+j)):=X6 fun _ _ _ _ _ _ _ q=>add_int q
theorem Ad:jC X (binaryOp .Sub) (T5 fun i j=>.int (i - j)):=X6 fun _ _ _ _ _ _ _ q=>sub_int q
theorem gW:jC X (binaryOp .Mult) (rI T8 fun i j=>.int (i * j)):=opI fun _ _ _ _ _ _ _ hc q=>mul_int q hc.ok
theorem qj:jC X (binaryOp .FloorDiv) (rI CDiv fun i j=>.int (i / j)):=opI fun i j _ _ _ _ _ hc q=>by
 have h1:(0:Int)<j:=hc.1
 have h2:j<1073741824:=hc.2
 exact floordiv_int (by lia) (by rw [Int.fdiv_eq_ediv_of_nonneg i (by lia)];exact q) (.inl (PyProof.noPylong_small (by lia)))
theorem bV:jC X (binaryOp .Mod) (rI (fun _ j=>0<j) fun i j=>.int (i % j)):=opI fun i j _ _ _ _ _ hc q=>by
 have h1:(0:Int)<j:=hc
 exact mod_int' (by lia) (by rw [Int.fmod_eq_emod_of_nonneg i (by lia)];exact q)
theorem T9:jC X (binaryOp .Pow) (rI CPow fun i j=>.int (i ^ j.toNat)):=opI fun _ _ _ _ _ _ _ hc q=>pow_int_small hc.1 hc.2.1 hc.2.2 q
theorem unI {f:Value->Sem Value}{g:Int->Int}
  (rule:∀ (i:Int) (t:Tok) (s:Shared) (Q:Value->Shared->Prop) (E:Value->Shared->Prop),Q (.int (g i) s.toks) { s with toks:=s.toks+1 }->wpAny (model X.prog X.w) X.A (f (.int i t)) Q E s) :
  UnR X f (rU fun i=>.int (g i)):=by
 intro pins s σ H x v Q I rx h
 obtain ⟨i,rfl,q⟩:=h
 obtain ⟨t,rfl⟩:=rx
 exact rule i t s _ _ ⟨.int (g i),H,I.tok _,⟨_,rfl⟩,q⟩
theorem HJ:UnR X (unaryOp .USub) (rU fun i=>.int (-i)):=unI fun _ _ _ _ _ q=>neg_int q
def X7:V->V->Bool
 | .non,.non=>true | .non,.int _=>true | .int _,.non=>true | .non,.bl _=>true | .bl _,.non=>true | .non,.str _=>true | .str _,.non=>true
 | .int _,.int _=>true | .bl _,.bl _=>true | .str _,.str _=>true | .xY _,.xY _=>true
 | .int _,.str _=>true | .str _,.int _=>true | .bl _,.str _=>true | .str _,.bl _=>true
 | _,_=>false
def rEq:R2:=fun x y H Q=>X7 x y=true/\Q (.bl (decide (x=y))) H
def rNe:R2:=fun x y H Q=>X7 x y=true/\Q (.bl (!decide (x=y))) H
theorem CV {i j:Int}:decide (V.int i=V.int j)=(i==j):=by
 rw [Bool.eq_iff_iff]
 simp
theorem HN {i j:Bool}:decide (V.bl i=V.bl j)=(i==j):=by
 rw [Bool.eq_iff_iff]
 simp
theorem mZ {i j:Str}:decide (V.str i=V.str j)=(i==j):=by
 rw [Bool.eq_iff_iff]
 simp
theorem CW {i j:Array UInt8}:decide (V.xY i=V.xY j)=(i.toList==j.toList):=by
 rw [Bool.eq_iff_iff]
 cases i
 cases j
 simp
theorem bQ {Q:VK}{k k':Bool} (I:Inv X pins σ H s) (q:Q (.bl k) H) (e:k=k'):EP X pins σ Q (.bool k') s:=by
 subst e
 exact ⟨.bl k,H,I,rfl,q⟩
theorem bZ:jC X (compareOp .Eq) rEq:=by
 intro pins s σ H x y v u Q I rx ry h
 obtain ⟨hs,q⟩:=h
 cases x with
 | non =>
  cases rx
  cases y with
  | non=>cases ry;exact PySem.EqNone.eq_none_none (bQ I q (by simp))
  | bl j=>cases ry;exact PySem.EqNone.eq_none_bool (bQ I q (by simp))
  | int j=>obtain ⟨t',rfl⟩:=ry;exact PySem.EqNone.eq_none_int (bQ I q (by simp))
  | str j=>obtain ⟨t',rfl⟩:=ry;exact PySem.EqNone.eq_none_str (bQ I q (by simp))
  | _=>exact absurd (show false=true from hs) Bool.false_ne_true
 | bl i =>
  cases rx
  cases y with
  | non=>cases ry;exact PySem.EqNone.eq_bool_none (bQ I q (by simp))
  | bl j=>cases ry;exact eq_bool (bQ I q HN)
  | str j=>obtain ⟨t',rfl⟩:=ry;exact PySem.EqMixed.eq_bool_str (bQ I q (by simp))
  | _=>exact absurd (show false=true from hs) Bool.false_ne_true
 | int i =>
  obtain ⟨t,rfl⟩:=rx
  cases y with
  | non=>cases ry;exact PySem.EqNone.eq_int_none (bQ I q (by simp))
  | int j=>obtain ⟨t',rfl⟩:=ry;exact eq_int (bQ I q CV)
  | str j=>obtain ⟨t',rfl⟩:=ry;exact PySem.EqMixed.eq_int_str (bQ I q (by simp))
  | _=>exact absurd (show false=true from hs) Bool.false_ne_true
 | str i =>
  obtain ⟨t,rfl⟩:=rx
  cases y with
  | non=>cases ry;exact PySem.EqNone.eq_str_none (bQ I q (by simp))
  | bl j=>cases ry;exact PySem.EqMixed.eq_str_bool (bQ I q (by simp))
  | int j=>obtain ⟨t',rfl⟩:=ry;exact PySem.EqMixed.eq_str_int (bQ I q (by simp))
  | str j=>obtain ⟨t',rfl⟩:=ry;exact eq_str (bQ I q mZ)
  | _=>exact absurd (show false=true from hs) Bool.false_ne_true
 | xY i =>
  obtain ⟨t,rfl⟩:=rx
  cases y with
  | xY j=>obtain ⟨t',rfl⟩:=ry;exact PySem.W.eq_bytes (bQ I q CW)
  | _=>exact absurd (show false=true from hs) Bool.false_ne_true
 | _=>cases y <;> exact absurd (show false=true from hs) Bool.false_ne_true
theorem lX:jC X (compareOp .NotEq) rNe:=by
 intro pins s σ H x y v u Q I rx ry h
 obtain ⟨hs,q⟩:=h
 cases x with
 | non =>
  cases rx
  cases y with
  | non=>cases ry;exact PySem.EqNone.ne_none_none (bQ I q (by simp))
  | bl j=>cases ry;exact PySem.EqNone.ne_none_bool (bQ I q (by simp))
  | int j=>obtain ⟨t',rfl⟩:=ry;exact PySem.EqNone.ne_none_int (bQ I q (by simp))
  | str j=>obtain ⟨t',rfl⟩:=ry;exact PySem.EqNone.ne_none_str (bQ I q (by simp))
  | _=>exact absurd (show false=true from hs) Bool.false_ne_true
 | bl i =>
  cases rx
  cases y with
  | non=>cases ry;exact PySem.EqNone.ne_bool_none (bQ I q (by simp))
  | bl j=>cases ry;exact ne_bool (bQ I q (congrArg not HN))
  | str j=>obtain ⟨t',rfl⟩:=ry;exact PySem.EqMixed.ne_bool_str (bQ I q (by simp))
  | _=>exact absurd (show false=true from hs) Bool.false_ne_true
 | int i =>
  obtain ⟨t,rfl⟩:=rx
  cases y with
  | non=>cases ry;exact PySem.EqNone.ne_int_none (bQ I q (by simp))
  | int j=>obtain ⟨t',rfl⟩:=ry;exact ne_int (bQ I q (congrArg not CV))
  | str j=>obtain ⟨t',rfl⟩:=ry;exact PySem.EqMixed.ne_int_str (bQ I q (by simp))
  | _=>exact absurd (show false=true from hs) Bool.false_ne_true
 | str i =>
  obtain ⟨t,rfl⟩:=rx
  cases y with
  | non=>cases ry;exact PySem.EqNone.ne_str_none (bQ I q (by simp))
  | bl j=>cases ry;exact PySem.EqMixed.ne_str_bool (bQ I q (by simp))
  | int j=>obtain ⟨t',rfl⟩:=ry;exact PySem.EqMixed.ne_str_int (bQ I q (by simp))
  | str j=>obtain ⟨t',rfl⟩:=ry;exact ne_str (bQ I q (congrArg not mZ))
  | _=>exact absurd (show false=true from hs) Bool.false_ne_true
 | xY i =>
  obtain ⟨t,rfl⟩:=rx
  cases y with
  | xY j=>obtain ⟨t',rfl⟩:=ry;exact PySem.W.ne_bytes (bQ I q (congrArg not CW))
  | _=>exact absurd (show false=true from hs) Bool.false_ne_true
 | _=>cases y <;> exact absurd (show false=true from hs) Bool.false_ne_true
theorem X8:jC X (compareOp .Lt) (T5 fun i j=>.bl (decide (i<j))):=T7 fun _ _ _ _ _ _ _ q=>lt_int q
theorem pD:jC X (compareOp .LtE) (T5 fun i j=>.bl (decide (i<=j))):=T7 fun _ _ _ _ _ _ _ q=>le_int q
theorem Xa:jC X (compareOp .Gt) (T5 fun i j=>.bl (decide (j<i))):=T7 fun _ _ _ _ _ _ _ q=>gt_int q
theorem Fe:jC X (compareOp .Lt) (fun x y H Q=>∃ i j,x=.str i/\y=.str j/\Q (.bl (decide (i.cps.toList<j.cps.toList))) H):=by
 intro pins s σ H x y v u Q I rx ry h
 obtain ⟨i,j,rfl,rfl,q⟩:=h
 obtain ⟨t,rfl⟩:=rx
 obtain ⟨t',rfl⟩:=ry
 exact lt_str (bQ I q rfl)
theorem o9:jC X (compareOp .In) (fun x y H Q=>∃ i j,x=.str i/\y=.str j/\Q (.bl (!(Builtin.Str.occurrences j i 0 j.length 1).isEmpty)) H):=by
 intro pins s σ H x y v u Q I rx ry h
 obtain ⟨i,j,rfl,rfl,q⟩:=h
 obtain ⟨t,rfl⟩:=rx
 obtain ⟨t',rfl⟩:=ry
 exact in_str (bQ I q rfl)
theorem aX (b:Expr)  (h:op≠.In:=by decide) (h2:op≠.NotIn:=by decide):behindInMarks op b=false:=by
 have e1:(op==CmpOp.In)=false:=by cases op <;> first | rfl | exact absurd rfl h
 have e2:(op==CmpOp.NotIn)=false:=by cases op <;> first | rfl | exact absurd rfl h2
 cases b <;> simp [behindInMarks,e1,e2]
theorem fu {r:R2} (ho:jC X (compareOp op) r) (ha:PE X a ta) (hb:PE X b tb) (hm:behindInMarks op b=false):PE X (.Compare a [op] [b] pos) (Mv r ta tb):=by
 intro pins s σ H Q I h
 exact wpAny_Compare1 (T6 ha hb I h fun v u s2 x y H2 I2 rx ry q=>ho pins s2 σ H2 x y v u Q I2 rx ry q) hm
def HS (t:TE):TT:=fun σ H Q=>t σ H fun x H'=>∃ k,x=.bl k/\Q k H'
theorem aL {r:R2} (ho:jC X (compareOp op) r) (ha:PE X a ta) (hb:PE X b tb) (hm:behindInMarks op b=false):PT X (.Compare a [op] [b] pos) (HS (Mv r ta tb)):=by
 intro pins s σ H Q I h
 refine wpAny_isTrue_Compare1 (cF (ha pins s σ H _ I h) fun v s1 ⟨x,H1,I1,r1,q1⟩=>cF (hb pins s1 σ H1 _ I1 q1) fun u s2 ⟨y,H2,I2,r2,q2⟩ =>
  cF (ho pins s2 σ H2 x y v u _ I2 r1 r2 q2) fun c s3 ⟨z,H3,I3,r3,k,e,q3⟩=>?_) hm
 subst e
 cases r3
 exact wpAny_truthy_bool ⟨H3,I3,q3⟩
def HW (r r':R2) (ta tb tc:TE):TE:=fun σ H Q=>ta σ H fun x H1=>tb σ H1 fun y H2=>r x y H2 fun z H3=>∃ k,z=.bl k /\
 (if k=true then tc σ H3 fun w' H4=>r' y w' H4 Q else Q (.bl false) H3)
theorem qX {op':CmpOp}{r r':R2} (ho:jC X (compareOp op) r) (ho':jC X (compareOp op') r') (ha:PE X a ta) (hb:PE X b tb) (hc:PE X c tc)
  (hm:lastMarks [op,op'] [b,c]=false:=by with_unfolding_all rfl):PE X (.Compare a [op,op'] [b,c] pos) (HW r r' ta tb tc):=by
 intro pins s σ H Q I h
 refine Compare_chain (cF (ha pins s σ H _ I h) fun v s1 ⟨x,H1,I1,r1,q1⟩=>chain_link (cF (hb pins s1 σ H1 _ I1 q1) fun u s2 ⟨y,H2,I2,r2,q2⟩ =>
  cF (ho pins s2 σ H2 x y v u _ I2 r1 r2 q2) fun d s3 ⟨z,H3,I3,r3,k,e,q3⟩=>?_)) hm
 subst e
 cases r3
 refine wpAny_truthy_bool ?_
 cases k with
 | false=>exact ite_ff ⟨.bl false,H3,I3,rfl,q3⟩
 | true=>exact ite_tt (chain_last (cF (hc pins s3 σ H3 _ I3 q3) fun w' s4 ⟨z',H4,I4,r4,q4⟩=>ho' pins s4 σ H4 y z' u w' Q I4 r2 r4 q4))
theorem HX {op':CmpOp}{r r':R2} (ho:jC X (compareOp op) r) (ho':jC X (compareOp op') r') (ha:PE X a ta) (hb:PE X b tb) (hc:PE X c tc)
  (hm:lastMarks [op,op'] [b,c]=false:=by with_unfolding_all rfl):PT X (.Compare a [op,op'] [b,c] pos) (HS (HW r r' ta tb tc)):=by
 intro pins s σ H Q I h
 refine isTrue_chain (cF (ha pins s σ H _ I h) fun v s1 ⟨x,H1,I1,r1,q1⟩=>test_link (cF (hb pins s1 σ H1 _ I1 q1) fun u s2 ⟨y,H2,I2,r2,q2⟩ =>
  cF (ho pins s2 σ H2 x y v u _ I2 r1 r2 q2) fun d s3 ⟨z,H3,I3,r3,k,e,q3⟩=>?_)) hm
 subst e
 cases r3
 refine wpAny_truthy_bool ?_
 cases k with
 | false =>
  obtain ⟨k',e',q'⟩:=q3
  cases e'
  exact ite_ff ⟨H3,I3,q'⟩
 | true =>
  refine ite_tt (test_last (cF (hc pins s3 σ H3 _ I3 q3) fun w' s4 ⟨z',H4,I4,r4,q4⟩=>cF (ho' pins s4 σ H4 y z' u w' _ I4 r2 r4 q4) fun d' s5 zq=>?_))
  obtain ⟨z2,H5,I5,r5,k2,e2,q5⟩:=zq
  subst e2
  cases r5
  exact wpAny_truthy_bool ⟨H5,I5,q5⟩
def Xb (K:PySem.W.Frag) (x:V) (H:Hp) (k:Bool):Prop :=
 match x with
 | .non=>k=false
 | .bl b=>k=b
 | .int i=>k=(i != 0)
 | .str y=>y.length<=sizeLine/\k=((y.length:Int) != 0)
 | .xY y=>y.size<=sizeLine/\k=((y.size:Int) != 0)
 | .ref p=>(∃ xs,bD K H p xs/\k=!xs.isEmpty)\/(∃ xs,bG K H p xs/\k=!xs.isEmpty)\/∃ kvs,H p=some (.dK kvs)/\k=!kvs.isEmpty
 | _=>False
theorem Ae {κ:Type}{kvs:List (κ×V)}{vs:List (κ×Value)} (r:KV kvs vs):(!vs.isEmpty)=!kvs.isEmpty:=by
 cases r <;> rfl
theorem qY (r:Vals xs its):(!its.toArray.isEmpty)=!xs.isEmpty:=by
 cases r <;> simp
theorem mG:(sizeLine:Nat)<2 ^ 63:=by rw [sizeLine_eq];decide
theorem Tc:TruR X (fun x H Q=>∃ k,Xb X.K x H k/\Q k H):=by
 intro pins s σ H x v Q I rx h
 obtain ⟨k,e,q⟩:=h
 have hl:=mG
 have hs:sizeLine=16777216:=sizeLine_eq
 cases x with
 | non =>
  cases rx
  have e':k=false:=e
  subst e'
  exact truthy_none ⟨H,I,q⟩
 | bl b =>
  cases rx
  have e':k=b:=e
  subst e'
  exact wpAny_truthy_bool ⟨H,I,q⟩
 | int i =>
  obtain ⟨t,rfl⟩:=rx
  have e':k=(i != 0):=e
  subst e'
  exact PySem.P.truthy_int ⟨H,I,q⟩
 | str y =>
  obtain ⟨t,rfl⟩:=rx
  obtain ⟨hy,e'⟩:y.length<=sizeLine/\k=((y.length:Int) != 0):=e
  subst e'
  exact PySem.P.truthy_str (by lia) ⟨H,I.tok _,q⟩
 | xY y =>
  obtain ⟨t,rfl⟩:=rx
  obtain ⟨hy,e'⟩:y.size<=sizeLine/\k=((y.size:Int) != 0):=e
  subst e'
  exact PySem.W.truthy_bytes (by lia) ⟨H,I.tok _,q⟩
 | ref p =>
  cases rx
  have e':(∃ xs,bD X.K H p xs/\k=!xs.isEmpty)\/(∃ xs,bG X.K H p xs/\k=!xs.isEmpty)\/∃ kvs,H p=some (.dK kvs)/\k=!kvs.isEmpty:=e
  rcases e' with ⟨xs,hx,e'⟩ | ⟨xs,hx,e'⟩ | ⟨kvs,hx,e'⟩
  ·subst e'
   obtain ⟨its,r,pl,hz⟩:=I.list hx
   have hlen:=r.length
   exact wpAny_truthy_list pl.isList (by simp only [List.size_toArray];lia) ⟨H,I.tok _,by rw [qY r];exact q⟩
  ·subst e'
   obtain ⟨its,r,pl,hz⟩:=I.tuple hx
   have hlen:=r.length
   exact truthy_tuple pl (by simp only [List.size_toArray];lia) ⟨H,I.tok _,by rw [qY r];exact q⟩
  ·subst e'
   obtain ⟨hz,hS,vs,r,m⟩:kvs.length<=sizeLine/\(p==sysModules)=false/\∃ vs,KV kvs vs/\s.heap.DictOf (bJ X.prog X.w) p vs:=I.hok p _ hx
   have hlen:kvs.length=vs.length:=Paired.length r
   exact wpAny_truthy_dict hS m (by lia) ⟨H,I.tok _,by rw [Ae r];exact q⟩
 | _=>exact (show False from e).elim
theorem yt (ha:PE X a ta) (he:∀ whole,isTrue a X.env whole=(do let v <- whole;standAt a.pos;holding [v] (truthy v))) :
  PT X a (fun σ H Q=>ta σ H fun x H'=>∃ k,Xb X.K x H' k/\Q k H'):=by
 intro pins s σ H Q I h
 exact isTrue_plain (cF (ha pins s σ H _ I h) fun v s1 ⟨x,H1,I1,r1,q1⟩=>Tc pins s1 σ H1 x v Q I1 r1 q1) (he _)
theorem qZ:jC X (binaryOp .Add) (fun x y H Q=>∃ i j,x=.str i/\y=.str j/\i.length+j.length<=sizeLine/\Q (.str (i++j)) H):=by
 intro pins s σ H x y v u Q I rx ry h
 obtain ⟨i,j,rfl,rfl,hz,q⟩:=h
 obtain ⟨t,rfl⟩:=rx
 obtain ⟨t',rfl⟩:=ry
 exact add_str (fun t' tk=>⟨.str (i++j),H,I.tok _,⟨_,rfl⟩,q⟩) hz
theorem vals1 {x:V} (r:Vals [x] us):∃ u,us=[u]/\RelV x u:=by
 cases r with
 | cons r1 r2=>cases r2;exact ⟨_,rfl,r1⟩
theorem vals2 {x:V} (r:Vals [x,y] us):∃ u w',us=[u,w']/\RelV x u/\RelV y w':=by
 cases r with
 | cons r1 r2 =>
  cases r2 with
  | cons r3 r4=>cases r4;exact ⟨_,_,rfl,r1,r3⟩
theorem Fg (hc:X.calm=true):dB X (.builtin "max") (fun xs H Q=>∃ i j,xs=[.int i,.int j]/\Q (.int (if j > i then j else i)) H):=by
 intro pins s σ H xs us Q I r h
 obtain ⟨i,j,rfl,q⟩:=h
 obtain ⟨u,w',rfl,⟨t,rfl⟩,⟨t',rfl⟩⟩:=vals2 r
 refine max_two_ints (I.ok.hd hc) fun h' tk k=>⟨_,H,I.kept k,?_,q⟩
 by_cases hj:j > i
 ·rw [if_pos hj,if_pos hj];exact ⟨_,rfl⟩
 ·rw [if_neg hj,if_neg hj];exact ⟨_,rfl⟩
theorem oh:dB X (.type "int") (fun xs H Q=>(∃ i,xs=[.int i]/\Q (.int i) H)\/∃ k,xs=[.bl k]/\Q (.int (if k then 1 else 0)) H):=by
 intro pins s σ H xs us Q I r h
 rcases h with ⟨i,rfl,q⟩ | ⟨k,rfl,q⟩
 ·obtain ⟨u,rfl,t,rfl⟩:=vals1 r
  exact call_int_int ⟨.int i,H,I,⟨_,rfl⟩,q⟩
 ·obtain ⟨u,rfl,r1⟩:=vals1 r
  cases r1
  exact call_int_bool ⟨.int (if k then 1 else 0),H,I.tok _,⟨_,rfl⟩,q⟩
end
structure Af (h:Heap) (x dx C:Addr) (mA:Str->Option Value):Prop where
 obj:h.get? x=some (PySem.W.instObj C dx)
 ns:h.Ns1 dx mA
 ne:dx≠x
theorem Fi (n:h.Ns1 dx mA):∃ od,h.get? dx=some od/\∀ name,PySem.W.lookIn name od=some (mA name):=by
 obtain ⟨o,es,ep,ho,hd,hk,_,hm⟩:=n
 refine ⟨o,ho,fun name=>?_⟩
 have e:=hm name
 unfold nsFind findBy at e
 rw [<- Array.find?_toList] at e
 unfold PySem.W.lookIn
 rw [hd]
 dsimp only
 split
 ·rename_i y q
  rw [q] at e
  exact congrArg some e
 ·rename_i q
  rw [q] at e
  have a:es.toList.any (·.refKey)=false:=by
   rw [List.any_eq_false]
   intro y hy
   obtain ⟨z,t,hkey⟩:=hk y (Array.mem_toList_iff.mp hy)
   simp [DictEntry.refKey,hkey]
  have a':¬ es.toList.any (·.refKey)=true:=by rw [a];exact Bool.false_ne_true
  rw [if_neg a']
  exact congrArg some e
theorem Af.look {x:Addr} (I:Af h x dx C mA):∃ od,PySem.W.InstAt h x (PySem.W.instObj C dx) C (some od)/\∀ name,PySem.W.lookIn name od=some (mA name) :=
 let ⟨od,ho,hl⟩:=Fi I.ns
 ⟨od,⟨I.obj,rfl,rfl,ho⟩,hl⟩
section
variable {x:Addr}{v:Value}
theorem get_map {expr:Bool} (X:K.In s.heap) (I:Af s.heap x dx C mA) (hg:PySem.W.plainGet K C name=true) (hh:PySem.W.hasDictIn K C=true)
  (ha:PySem.W.findIn K (.ref C) name=some none) (hv:mA name=some v) (hv':PySem.W.handedIn v=true) (h:Q v { s with toks:=s.toks+1 }) :
  wpAny (model prog w) A (getAttr (.ref x) name expr) Q E s:=by
 obtain ⟨od,J,hl⟩:=I.look
 exact PySem.W.get_value X J (PySem.W.plainGet_of hg).1 (PySem.W.findObj_own hh ha rfl (by rw [hl,hv])) hv' h
theorem HY {Q:Value×List Value->Shared->Prop} (X:K.In s.heap) (I:Af s.heap x dx C mA) (hg:PySem.W.plainGet K C name=true)
  (hf:PySem.W.findIn K (.ref C) name=some (some (.ref f))) (ht:PySem.W.isFn K (.ref f)=true) (hv:mA name=none) (h:Q (.ref f,[.ref x]) s) :
  wpAny (model prog w) A (getMethod (.ref x) name pl) Q E s:=by
 obtain ⟨od,J,hl⟩:=I.look
 exact PySem.W.method_fn X J (PySem.W.plainGet_of hg).1 (PySem.W.plainGet_of hg).2 hf (beq_iff_eq.mp ht) (by show (PySem.W.lookIn name od).map (·.isSome)=some false;rw [hl,hv];rfl) h
theorem Nh {ns:List Str}{Q:Unit->Shared->Prop} (X:K.In s.heap) (I:Af s.heap x dx C mA)
  (hs:PySem.W.findIn K (.ref C) "__setattr__"=some (some (.builtin "object.__setattr__"))) (hp:PySem.W.plainOver K C=true) (ht:PySem.W.takerIn K C name=some none) (hh:PySem.W.hasDictIn K C=true)
  (hw:PySem.Within mA ns) (hsz:ns.length<=sizeLine)
  (h:∀ h',Af h' x dx C (fun y=>if y=name then some v else mA y)->Heap.SameBut dx s.heap h'->Q () { s with heap:=h',toks:=s.toks+2 }) :
  wpAny (model prog w) A (setAttr (.ref x) name v) Q E s:=by
 obtain ⟨od,J,hl⟩:=I.look
 refine PySem.W.set_plain X J hs (PySem.W.osa_open (s:={ s with toks:=s.toks+1 }) (r:=none) X J hp ht fun b=>?_)
 obtain ⟨cd,hc,hd'⟩:=PySem.W.any_some hh
 have hx:s.heap.get? x=some ⟨.ref C,some dx,.plain,#[]⟩:=I.obj
 refine wpAny_bind (wpAny_pure (wpAny_bind (wpAny_bind (wpAny_loadPart hx (wpAny_bind (PySem.W.Looks.here (s:={ s with toks:=s.toks+1 }) (PySem.W.looks_clsIn X hc) ?_))))))
 rw [hd']
 refine wpAny_pure (a:=some dx) (wpAny_bind (wpAny_pure (wpAny_bind ?_)))
 refine wpAny_nsSet1 (s:={ s with toks:=s.toks+1 }) I.ns fun h' hn2 hs2=>?_
 obtain ⟨oD,esD,epD,hoD,hdD,hcD⟩:=hn2.count (PySem.Within.cons name v hw)
 refine wpAny_bind (wpAny_lookBehind hoD (by rw [hdD];exact pastItsLine_dict (Nat.le_trans hcD (by rw [jK];lia))) ?_)
 exact wpAny_pure (h _ ⟨(hs2.2 _ (Ne.symm I.ne)).trans I.obj,hn2,I.ne⟩ hs2)
theorem Ia {R:Result->Shared->Prop}{vs:List Value} (X:K.In s.heap) (hm:PySem.W.makesIn K C=true)
  (hi:PySem.W.findIn K (.ref C) "__init__"=some (some (.ref f))) (hf:PySem.W.typeIn K (.ref f)=some (.type "function"))
  (h:codeAny (model prog w) (A.under (.builtin "type.__call__" ⟨.ref C::vs,kw⟩)) (.call (.ref f) ⟨.ref (s.heap.objs.size+1)::vs,kw⟩) (PySem.W.InitBack (s.heap.objs.size+1) R)
   { s with heap:=(s.heap.push PySem.W.emptyDict).push (PySem.W.instObj C s.heap.objs.size) }) :
  codeAny (model prog w) A (.call (.ref C) ⟨vs,kw⟩) R s:=by
 obtain ⟨hh,g,d,t,os⟩:=s
 exact PySem.W.make_core (PySem.W.makes_of X hm) (PySem.W.looks_findIn X hi) (fun self=>PySem.W.bind_fn X self hf) (.inl rfl) h
end
def jH (f:Str) (v:V):List (Str×V)->List (Str×V)
 | []=>[(f,v)]
 | (g,x)::r=>if g=f then (g,v)::r else (g,x)::jH f v r
theorem pF (f g:Str) (v:V):∀ fs:List (Str×V),(jH f v fs).lookup g=if g=f then some v else fs.lookup g
 | []=>by
  show List.lookup g [(f,v)]=_
  by_cases h:g=f
  ·have hb:(g==f)=true:=beq_iff_eq.mpr h
   simp only [List.lookup,hb,if_pos h]
  ·have hb:(g==f)=false:=beq_eq_false_iff_ne.mpr h
   simp only [List.lookup,hb,if_neg h]
 | (k,x)::r=>by
  have ih:=pF f g v r
  rw [show jH f v ((k,x)::r)=(if k=f then (k,v)::r else (k,x)::jH f v r) from rfl]
  by_cases hk:k=f
  ·rw [if_pos hk]
   by_cases h:g=k
   ·have hb:(g==k)=true:=beq_iff_eq.mpr h
    simp only [List.lookup,hb,if_pos (h.trans hk)]
   ·have hb:(g==k)=false:=beq_eq_false_iff_ne.mpr h
    simp only [List.lookup,hb,if_neg (fun e:g=f=>h (e.trans hk.symm))]
  ·rw [if_neg hk]
   by_cases h:g=k
   ·have hb:(g==k)=true:=beq_iff_eq.mpr h
    simp only [List.lookup,hb,if_neg (fun e:g=f=>hk (h.symm.trans e))]
   ·have hb:(g==k)=false:=beq_eq_false_iff_ne.mpr h
    simp only [List.lookup,hb]
    exact ih
theorem ou (f:Str) (v:V):∀ fs:List (Str×V),f∈(jH f v fs).map (·.1)/\∀ g,g∈fs.map (·.1)->g∈(jH f v fs).map (·.1)
 | []=>⟨by simp [jH],fun g h=>by simp at h⟩
 | (k,x)::r=>by
  obtain ⟨i1,i2⟩:=ou f v r
  rw [show jH f v ((k,x)::r)=(if k=f then (k,v)::r else (k,x)::jH f v r) from rfl]
  by_cases hk:k=f
  ·rw [if_pos hk]
   subst hk
   exact ⟨by simp,fun g h=>by simpa using h⟩
  ·rw [if_neg hk]
   refine ⟨?_,fun g h=>?_⟩
   ·rw [List.map_cons]
    exact mD _ i1
   ·rw [List.map_cons] at h ⊢
    rcases List.mem_cons.mp h with e | e
    ·exact List.mem_cons.mpr (.inl e)
    ·exact mD _ (i2 g e)
theorem pG (f:Str) (v:V):∀ fs:List (Str×V),(jH f v fs).length<=fs.length+1
 | []=>by simp [jH]
 | (k,x)::r=>by
  have ih:=pG f v r
  rw [show jH f v ((k,x)::r)=(if k=f then (k,v)::r else (k,x)::jH f v r) from rfl]
  by_cases hk:k=f
  ·rw [if_pos hk,jK,jK];lia
  ·rw [if_neg hk,jK,jK];lia
theorem iQ.some_of {o:Option Value} (r:iQ (some v) o):∃ u,o=some u/\RelV v u:=by
 cases o with
 | none=>exact (show False from r).elim
 | some u=>exact ⟨u,rfl,r⟩
theorem iQ.none_of {o:Option Value} (r:iQ none o):o=none:=by
 cases o with
 | none=>rfl
 | some u=>exact (show False from r).elim
theorem Fj (r:RelV v u):PySem.W.handedIn u=true:=by
 cases v with
 | non=>cases (show u=Value.none from r);rfl
 | bl b=>cases (show u=Value.bool b from r);rfl
 | int i=>obtain ⟨t,e⟩:=(show ∃ t,u=Value.int i t from r);cases e;rfl
 | str x=>obtain ⟨t,e⟩:=(show ∃ t,u=Value.str x t from r);cases e;rfl
 | xY b=>obtain ⟨t,e⟩:=(show ∃ t,u=Value.bytes b t from r);cases e;rfl
 | flt b=>obtain ⟨t,e⟩:=(show ∃ t,u=Value.float b t from r);cases e;rfl
 | ref a=>cases (show u=Value.ref a from r);rfl
 | ty n=>cases (show u=Value.type n from r);rfl
section
variable {fs fs':List (Str×V)}
theorem ql (hok:jG P w H h) (e:H a=some (.ins C dx fs)):∃ mA,Af h a dx C mA/\(∀ f,iQ (fs.lookup f) (mA f))/\PySem.Within mA (fs.map (·.1))/\fs.length<=1000/\H dx=some (.own a):=by
 obtain ⟨d,z,ne,ob,mA,n,r,q⟩:=(show cA P w H h a (.ins C dx fs) from hok a _ e)
 exact ⟨mA,⟨ob,n,ne⟩,r,q,z,d⟩
end
structure Cls (K:PySem.W.Frag) (C:Addr):Prop where
 pg:PySem.W.plainGet K C Str.empty=true
 hd:PySem.W.hasDictIn K C=true
 po:PySem.W.plainOver K C=true
 sa:PySem.W.findIn K (.ref C) "__setattr__"=some (some (.builtin "object.__setattr__"))
theorem Cls.get (c:Cls K C) (f:Str):PySem.W.plainGet K C f=true:=c.pg
def gY (K:PySem.W.Frag) (C:Addr) (f:Str):Prop:=PySem.W.findIn K (.ref C) f=some none
theorem gY.taker {f:Str} (n:gY K C f):PySem.W.takerIn K C f=some none:=by
 unfold PySem.W.takerIn
 rw [show PySem.W.findIn K (.ref C) f=some none from n]
 rfl
structure Con (K:PySem.W.Frag) (C:Addr) (f:Str) (v:V) (u:Value):Prop where
 at_:PySem.W.findIn K (.ref C) f=some (some u)
 rel:RelV v u
 get:PySem.W.specialIn K u "__get__"=some none
 cp:PySem.W.copiedNames.contains f=false
structure Meth (K:PySem.W.Frag) (C:Addr) (m:Str) (f:Addr):Prop where
 at_:PySem.W.findIn K (.ref C) m=some (some (.ref f))
 fn:PySem.W.isFn K (.ref f)=true
 kp:PySem.W.keepIn K (.ref f)=true
section
variable {fs:List (Str×V)}{f:Str}
theorem Ag {b:Bool} (I:Inv X pins σ H s) (e:H a=some (.ins C dx fs)) (c:Cls X.K C) (n:gY X.K C f) (l:fs.lookup f=some v)
  (h:∀ u s',Inv X pins σ H s'->RelV v u->Q u s'):wpAny (model X.prog X.w) A (getAttr (.ref a) f b) Q E s:=by
 obtain ⟨mA,O,r,_,_,_⟩:=ql I.hok e
 obtain ⟨u,hu,ru⟩:=iQ.some_of (v:=v) (o:=mA f) (by rw [<- l];exact r f)
 exact get_map I.lV O (c.get f) c.hd n hu (Fj ru) (h u _ (I.tok _) ru)
theorem rm {m:Str}{g:Addr}{Q:Value×List Value->Shared->Prop} (I:Inv X pins σ H s) (e:H a=some (.ins C dx fs)) (c:Cls X.K C) (k:Meth X.K C m g) (l:fs.lookup m=none)
  (h:Q (.ref g,[.ref a]) s):wpAny (model X.prog X.w) A (getMethod (.ref a) m pl) Q E s:=by
 obtain ⟨mA,O,r,_,_,_⟩:=ql I.hok e
 have hn:mA m=none:=iQ.none_of (by rw [<- l];exact r m)
 exact HY I.lV O (c.get m) k.at_ k.fn hn h
theorem Ah {Q:Unit->Shared->Prop} (I:Inv X pins σ H s) (e:H a=some (.ins C dx fs)) (c:Cls X.K C) (n:gY X.K C f) (hl:fs.length<1000) (ry:RelV y u)
  (h:∀ s',Inv X pins σ (upd H a (.ins C dx (jH f y fs))) s'->Q () s'):wpAny (model X.prog X.w) A (setAttr (.ref a) f u) Q E s:=by
 obtain ⟨mA,O,r,wi,_,ho⟩:=ql I.hok e
 have hz:(fs.map (·.1)).length<=sizeLine:=by rw [bR,sizeLine_eq];lia
 refine Nh I.lV O c.sa c.po n.taker c.hd wi hz fun h' O' sb=>h _ ?_
 have hd:∃ o,h'.get? dx=some o:=let ⟨o,_,_,e',_⟩:=O'.ns;⟨o,e'⟩
 refine I.write (x:=a) (e:=dx) (by rw [e];exact True.intro) (.inr ho) (fun b q hb z=>(sb.2 b hb).trans z) hd ?_
 refine ⟨by rw [aC O.ne];exact ho,?_,O.ne,O'.obj,_,O'.ns,fun g=>?_,fun g hg=>?_⟩
 ·have:=pG f y fs;lia
 ·show iQ ((jH f y fs).lookup g) (if g=f then some u else mA g)
  rw [pF]
  by_cases q:g=f
  ·rw [if_pos q,if_pos q];exact ry
  ·rw [if_neg q,if_neg q];exact r g
 ·by_cases q:g=f
  ·rw [q];exact (ou f y fs).1
  ·refine (ou f y fs).2 g (wi g fun z=>hg ?_)
   show (if g=f then some u else mA g)=none
   rw [if_neg q];exact z
theorem Inv.made (I:Inv X pins σ H s):Inv X pins σ (upd (upd H s.heap.objs.size (.own (s.heap.objs.size+1))) (s.heap.objs.size+1) (.ins C s.heap.objs.size []))
  { s with heap:=(s.heap.push PySem.W.emptyDict).push (PySem.W.instObj C s.heap.objs.size) }:=by
 have e1:(s.heap.push PySem.W.emptyDict).get? s.heap.objs.size=some PySem.W.emptyDict:=Heap.get?_push_size s.heap rfl
 have e2:((s.heap.push PySem.W.emptyDict).push (PySem.W.instObj C s.heap.objs.size)).get? (s.heap.objs.size+1)=some (PySem.W.instObj C s.heap.objs.size):=by
  have:=Heap.get?_push_size (s.heap.push PySem.W.emptyDict) (o:=PySem.W.instObj C s.heap.objs.size) rfl
  rwa [Heap.size_push] at this
 have e3:(s.heap.push PySem.W.emptyDict).Ns s.heap.objs.size (fun _=>none):=⟨PySem.W.emptyDict,#[],_,e1,rfl,(fun e he=>absurd he (by simp)),fun _=>rfl⟩
 have I1:=I.laid (a:=s.heap.objs.size) (o:=.own (s.heap.objs.size+1)) (h':=s.heap.push PySem.W.emptyDict) (t':=s.toks) (fun b u q=>Heap.get?_push_of_some _ q) (Nat.le_refl _) ⟨_,e1⟩
 refine I1.laid (a:=s.heap.objs.size+1) (o:=.ins C s.heap.objs.size []) (t':=s.toks) (fun b u q=>Heap.get?_push_of_some _ q) (Nat.le_of_eq (Heap.size_push _ _)) ?_
 have ne:s.heap.objs.size≠s.heap.objs.size+1:=Nat.ne_of_lt (Nat.lt_succ_self _)
 refine ⟨by rw [aC ne,ak],Nat.zero_le _,ne,e2,fun _=>none,(Heap.Ns1.of_empty e3).at fun o q=>Heap.get?_push_of_some _ q,fun _=>True.intro,fun y hy=>absurd rfl hy⟩
theorem Ni {f:Str} (hb:attributeBase e f env (eval e env)=eval e env)
  (h:wpAny (model prog w) A (eval e env) (fun o s₁=>wpAny (model prog w) A (getAttr o f true) Q E s₁) E s):wpAny (model prog w) A (eval (.Attribute e f pos) env) Q E s :=
 Attribute_any_ h (by rw [arm_eval_Attribute,hb])
end
def tFld (K:PySem.W.Frag) (ta:TE) (f:Str):TE:=fun σ H Q=>ta σ H fun x H1=>∃ a C dx fs v,x=.ref a/\H1 a=some (.ins C dx fs)/\Cls K C/\gY K C f/\fs.lookup f=some v/\Q v H1
def sFld (K:PySem.W.Frag) (ta tv:TE) (f:Str):TS:=fun D σ H=>tv σ H fun y H1=>ta σ H1 fun x H2=>∃ a C dx fs,x=.ref a/\H2 a=some (.ins C dx fs)/\Cls K C/\gY K C f/\fs.length<1000 /\
 D.nx σ (upd H2 a (.ins C dx (jH f y fs)))
section
variable {o:Expr}{f:Str}{tpos:Pos}
theorem dD (he:PE X e ta) (hb:attributeBase e f X.env (eval e X.env)=eval e X.env):PE X (.Attribute e f pos) (tFld X.K ta f):=by
 intro pins s σ H Q I h
 refine Ni hb (cF (he pins s σ H _ I h) fun u s1 zq=>?_)
 obtain ⟨x,H1,I1,rx,a,C,dx,fs,v,ex,ea,c,n,l,q⟩:=zq
 subst ex
 obtain rfl:u=Value.ref a:=rx
 exact Ag I1 ea c n l fun u' s2 I2 ru=>⟨v,H1,I2,ru,q⟩
theorem jq (ha:PE X o ta) (hv:PE X value tv) (hs:swapsWith value (some (.Attribute o f pos')) pos.line X.env=pure false):PS X (.Assign [.Attribute o f pos'] value pos) (sFld X.K ta tv f):=by
 intro pins s σ H D I h
 refine plainObj_wpAny_Assign_Attribute (cF (hv pins s σ H _ I h) fun u s1 ⟨y,H1,I1,ry,q⟩=>cF (ha pins s1 σ H1 _ I1 q) fun ov s2 ⟨x,H2,I2,rx,a,C,dx,fs,ex,ea,c,n,l,q2⟩=>?_) hs
 subst ex
 obtain rfl:ov=Value.ref a:=rx
 exact Ah I2 ea c n l ry fun s3 I3=>⟨σ,_,I3,q2⟩
end
section
variable {c:Value}{b:Bool}
inductive n6 (K:PySem.W.Frag) (H:Hp):V->Value->Prop where
 | non:n6 K H .non (.type "NoneType")
 | bl (x:Bool):n6 K H (.bl x) (.type "bool")
 | int (i:Int):n6 K H (.int i) (.type "int")
 | str (x:Str):n6 K H (.str x) (.type "str")
 | flt (x:UInt64):n6 K H (.flt x) (.type "float")
 | lst {a:Addr}{xs:List V} (e:H a=some (.lst xs)):n6 K H (.ref a) (.type "list")
 | zV {a:Addr}{o:Obj}{xs:List V} (e:H a=some (.zV o (.lst xs))):n6 K H (.ref a) (.type "list")
 | tup {a:Addr}{xs:List V} (e:H a=some (.tup xs)):n6 K H (.ref a) (.type "tuple")
 | dK {a:Addr}{kvs:List (Key×V)} (e:H a=some (.dK kvs)):n6 K H (.ref a) (.type "dict")
 | dT {a:Addr}{kvs:List (List Key×V)} (e:H a=some (.dT kvs)):n6 K H (.ref a) (.type "dict")
 | ins {a C dx:Addr}{fs:List (Str×V)} (e:H a=some (.ins C dx fs)) (cl:Cls K C) (ha:PySem.W.findIn K (.ref C) "__class__"=some (some (.builtin "object.__class__")))
   (hn:PySem.W.specialIn K (.builtin "object.__class__") "__get__"=some (some (.builtin "getset_descriptor.__get__"))) (htk:PySem.W.takesIn K (.builtin "object.__class__")=some true)
   (hm:PySem.W.mroIn K C (.type "object")=some true):n6 K H (.ref a) (.ref C)
theorem Fl {x:V}{t:Value} (I:Inv X pins σ H s) (rx:RelV x u) (ty:n6 X.K H x t) (e:PySem.W.kitOne X.K t c=some b) (h:∀ tk,Q (.bool b) { s with toks:=tk }) :
  wpAny (model X.prog X.w) A (call (.builtin "isinstance") [u,c]) Q E s:=by
 cases ty with
 | non=>cases (show u=Value.none from rx);exact PySem.W.kia_one PySem.W.kitx_none I.lV True.intro e (fun z=>nomatch z) h
 | bl y=>cases (show u=Value.bool y from rx);exact PySem.W.kia_one PySem.W.kitx_bool I.lV True.intro e (fun z=>nomatch z) h
 | int i=>obtain ⟨t,q⟩:=(show ∃ t,u=Value.int i t from rx);cases q;exact PySem.W.kia_one PySem.W.kitx_int I.lV True.intro e (fun z=>nomatch z) h
 | str y=>obtain ⟨t,q⟩:=(show ∃ t,u=Value.str y t from rx);cases q;exact PySem.W.kia_one PySem.W.kitx_str I.lV True.intro e (fun z=>nomatch z) h
 | flt y=>obtain ⟨t,q⟩:=(show ∃ t,u=Value.float y t from rx);cases q;exact PySem.W.kia_one PySem.W.kitx_float I.lV True.intro e (fun z=>nomatch z) h
 | @lst a xs ea =>
  cases (show u=Value.ref a from rx)
  obtain ⟨_,_,n,_,h1⟩:=(show cA X.prog X.w H s.heap a (.lst xs) from I.hok a _ ea)
  exact PySem.W.kia_one PySem.W.kitx_list I.lV ⟨_,h1,rfl⟩ e (fun z=>nomatch z) h
 | @zV a ob xs ea =>
  cases (show u=Value.ref a from rx)
  obtain ⟨_,_,_,n,_,h1⟩:=(show cA X.prog X.w H s.heap a (.zV ob (.lst xs)) from I.hok a _ ea)
  exact PySem.W.kia_one PySem.W.kitx_list I.lV ⟨_,h1,rfl⟩ e (fun z=>nomatch z) h
 | @tup a xs ea =>
  cases (show u=Value.ref a from rx)
  obtain ⟨_,_,_,p⟩:=(show cA X.prog X.w H s.heap a (.tup xs) from I.hok a _ ea)
  obtain ⟨o,h1,h2,_⟩:=p
  exact PySem.W.kia_one PySem.W.kitx_tuple I.lV ⟨o,h1,h2⟩ e (fun z=>nomatch z) h
 | @dK a kvs ea =>
  cases (show u=Value.ref a from rx)
  obtain ⟨_,_,vs,_,p⟩:=(show cA X.prog X.w H s.heap a (.dK kvs) from I.hok a _ ea)
  obtain ⟨o,es,ep,h1,h2,_⟩:=p
  exact PySem.W.kia_one PySem.W.kitx_dict I.lV ⟨o,h1,h2.1⟩ e (fun z=>nomatch z) h
 | @dT a kvs ea =>
  cases (show u=Value.ref a from rx)
  obtain ⟨_,_,xs,_,o,es,ep,h1,h2,_⟩:=(show cA X.prog X.w H s.heap a (.dT kvs) from I.hok a _ ea)
  exact PySem.W.kia_one PySem.W.kitx_dict I.lV ⟨o,h1,h2.1⟩ e (fun z=>nomatch z) h
 | @ins a C dx fs ea cl ha hn htk hm =>
  cases (show u=Value.ref a from rx)
  obtain ⟨mA,O,_⟩:=ql I.hok ea
  obtain ⟨od,J,_⟩:=O.look
  exact PySem.W.kia_one (PySem.W.kitx_own (cl.get _) cl.hd ha hn htk hm) I.lV J e (fun z=>nomatch z) h
end
structure cM (k:Nat) (A:Around):Prop where
 hd:A.handled=none
 dp:A.depth+3 * k+5<recursionLimit
 un:A.units+16 * k+200<cLine
theorem cM.mono {k:Nat} (r:cM k A) (h:j<=k):cM j A:=⟨r.hd,by have:=r.dp;lia,by have:=r.un;lia⟩
theorem cM.deeper {k:Nat} (r:cM (k+1) A) (env:Env):cM k (A.deeper env) :=
 ⟨r.hd,by have:=r.dp;show A.depth+1+3 * k+5<_;lia,by have:=r.un;show A.units+3+16 * k+200<_;lia⟩
theorem Ai:(A.under (.builtin "type.__call__" ⟨.ref C::us,kw⟩)).depth=A.depth+1:=by
 first | rfl | simp [Around.under,Code.weight,Code.isCreation,Code.isGuard,Code.isCaller,Code.frames,Code.isFrame,guardIds]
theorem Aj:(A.under (.builtin "type.__call__" ⟨.ref C::us,kw⟩)).units=A.units+1:=by
 first | rfl | simp [Around.under,Code.cUnits,Code.frames,Code.isFrame]
theorem cM.make {k:Nat} (r:cM (k+1) A) (C:Addr) (us:List Value) (kw:List (Str×Value)):cM k (A.under (.builtin "type.__call__" ⟨.ref C::us,kw⟩)) :=
 ⟨r.hd,by have:=r.dp;rw [Ai];lia,by have:=r.un;rw [Aj];lia⟩
theorem cM.depth {k:Nat} (r:cM k A):A.depth<recursionLimit:=by have:=r.dp;lia
theorem cM.units {k:Nat} (r:cM k A):A.units+64<cLine:=by have:=r.un;lia
def oA:TA:=fun _ H Q=>Q [] H
def fB (ta:TE) (tr:TA):TA:=fun σ H Q=>ta σ H fun x H1=>tr σ H1 fun xs H2=>Q (x::xs) H2
theorem aq:PA X [] oA:=fun _ _ _ _ H Q I h=>Calls.spliced_nil ⟨[],H,I,.nil,h⟩
theorem aj (ha:PE X e te) (hr:PA X es t) (hs:starEach (e::es) X.env=(false,eval e X.env)::starEach es X.env:=by rfl):PA X (e::es) (fB te t):=by
 intro pos pins s σ H Q I h
 rw [hs]
 show wpAny _ _ (spliced ((false,eval e X.env)::backTo pos (starEach es X.env))) _ _ s
 refine Calls.spliced_cons (cF (ha pins s σ H _ I h) fun u s1 zq=>?_)
 obtain ⟨x,H1,I1,r1,q1⟩:=zq
 exact cF (hr pos pins s1 σ H1 _ I1 q1) fun us s2 ⟨xs,H2,I2,r2,q2⟩=>⟨x::xs,H2,I2,.cons r1 r2,q2⟩
def Nj (t:TA):TE:=fun σ H Q=>t σ H fun xs H1=>xs.length<=sizeLine/\∀ p,H1 p=none->Q (.ref p) (upd H1 p (.tup xs))
def Td (t:TA):TE:=fun σ H Q=>t σ H fun xs H1=>xs.length<=sizeLine/\∀ p,H1 p=none->Q (.ref p) (upd H1 p (.lst xs))
theorem dh {x1} (h:PA X es t):PE X (.Tuple es x1 pos) (Nj t):=by
 intro pins s σ H Q I hq
 refine wpAny_Tuple_spliced (cF (h pos pins s σ H _ I hq) fun us s1 ⟨xs,H1,I1,r,z,q⟩=>⟨by rw [<- r.length];exact z,?_⟩)
 have hf:H1 s1.heap.objs.size=none:=I1.hok.fresh (Nat.le_refl _)
 refine ⟨.ref s1.heap.objs.size,upd H1 s1.heap.objs.size (.tup xs),I1.laid (t':=s1.toks) (fun b u e=>Heap.get?_push_of_some _ e) (Nat.le_refl _) ?_,rfl,q _ hf⟩
 exact ⟨z,us,r,⟨_,Heap.get?_push_size _ rfl,rfl,_,rfl⟩⟩
theorem cP (h:PA X es t):PE X (.List es pos) (Td t):=by
 intro pins s σ H Q I hq
 refine wpAny_List_spliced (cF (h pos pins s σ H _ I hq) fun us s1 ⟨xs,H1,I1,r,z,q⟩=>⟨by rw [<- r.length];exact z,?_⟩)
 have hf:H1 s1.heap.objs.size=none:=I1.hok.fresh (Nat.le_refl _)
 refine ⟨.ref s1.heap.objs.size,upd H1 s1.heap.objs.size (.lst xs),I1.laid (t':=s1.toks) (fun b u e=>Heap.get?_push_of_some _ e) (Nat.le_refl _) ?_,rfl,q _ hf⟩
 exact ⟨z,us,0,r,Heap.get?_push_size _ rfl⟩
abbrev Sp:=List V->Hp->VK->XK->Prop
variable {sp:Sp}
abbrev CZ:=List Env->Hp->Shared->XK->Value->Shared->Prop
variable {CX:CZ}
structure Ak (P:Program) (w:World) (K:PySem.W.Frag) (mg:Str->Option Value) (base:Heap) (A:Around) (outer:List Env) (s:Shared) (H:Hp):Prop where
 frames:A.frames=some outer
 mod:Mod K mg base
 bs:∀ b o,base.get? b=some o->s.heap.get? b=some o/\H b=none
 Hr:base.objs.size<=s.heap.objs.size
 lU:s.heap.FunFrames base outer
 Nf:∀ b∈frs outer,H b=none
 hok:jG P w H s.heap
 bare:AllBare s.gens
def CE (outer:List Env) (P:Program) (w:World) (H:Hp) (s:Shared) (Q:VK) (u:Value) (s':Shared):Prop :=
 ∃ v H',s'.os=s.os/\AllBare s'.gens/\Un (frs outer) [] H H' s.heap s'.heap/\jG P w H' s'.heap/\RelV v u/\Q v H'
def CR (CX:CZ) (outer:List Env) (P:Program) (w:World) (H:Hp) (s:Shared) (Q:VK) (E:XK) (r:Result) (s':Shared):Prop :=
 match r with
 | .ok (.ret u)=>CE outer P w H s Q u s'
 | .ok _=>False
 | .error e=>CX outer H s E e s'
structure bf (P:Program) (w:World) (K:PySem.W.Frag) (mg:Str->Option Value) (base:Heap) (CX:CZ) (k:Nat) (f:Addr) (fd:FuncData) (ps:List Str) (sp:Sp):Prop where
 len:∀ vs H Q E,sp vs H Q E->vs.length=ps.length
 run:∀ (A:Around) (outer:List Env) (s:Shared) (H:Hp) (args:Args) (us:List Value) (vs:List V) (Q:VK) (E:XK),cM k A->Ak P w K mg base A outer s H->BindsTo s fd args (ps.zip us)->Vals vs us->sp vs H Q E ->
  codeAny (model P w) A (.call (.ref f) args) (CR CX outer P w H s Q E) s
theorem Ak.make (e:Ak P w K mg base A outer s H) (C:Addr) (us:List Value) (kw:List (Str×Value)) :
  Ak P w K mg base (A.under (.builtin "type.__call__" ⟨.ref C::us,kw⟩)) outer s H:=⟨by first | exact e.frames | (simpa [Around.under,Code.envs,Code.isFrame,pushEnvs] using e.frames),e.mod,e.bs,e.Hr,e.lU,e.Nf,e.hok,e.bare⟩
theorem Inv.env0 (I:Inv X pins σ H s):Ak X.prog X.w X.K X.mg X.base X.A X.stack s H :=
 ⟨I.ok.frames,I.ok.mod,I.bs,Nat.le_trans I.ok.Hr I.sz,I.stack,I.vK,I.hok,I.bare⟩
theorem Inv.after {Q:VK} (I:Inv X pins σ H s) (h:CE X.stack X.prog X.w H s Q u s'):EP X pins σ Q u s':=by
 obtain ⟨v,H',os,bare,un,hok,r,q⟩:=h
 obtain ⟨hh,g,d,t,os'⟩:=s'
 obtain rfl:os'=s.os:=os
 exact ⟨v,H',I.call (h':=hh) (g':=g) (d':=d) (t':=t) (ch:=[]) un hok bare (fun b z=>absurd z (by simp)),r,q⟩
def Ib (sp:Sp) (lY:List V) (E:XK) (t:TA):TE:=fun σ H Q=>t σ H fun vs H1=>sp (vs++lY) H1 Q E
def QV (C:Addr) (m:Str) (sp:Sp) (lY:List V) (E:XK) (ta:TE) (t:TA):TE:=fun σ H Q=>ta σ H fun x H1=>∃ a dx fs,x=.ref a/\H1 a=some (.ins C dx fs)/\fs.lookup m=none /\
 t σ H1 fun vs H2=>sp (x::(vs++lY)) H2 Q E
def Xc (C:Addr) (sp:Sp) (lY:List V) (E:XK) (t:TA):TE:=fun σ H Q=>t σ H fun vs H1=>∀ x dx,H1 x=none->H1 dx=none->dx≠x ->
 sp (.ref x::(vs++lY)) (upd (upd H1 dx (.own x)) x (.ins C dx [])) (fun v H2=>v=.non/\Q (.ref x) H2) E
def Binds (K:PySem.W.Frag) (fd:FuncData) (ps:List Str) (ds:List Value):Prop :=
 ∀ (s:Shared) (us:List Value),K.In s.heap->(us++ds).length=ps.length->BindsTo s fd ⟨us,[]⟩ (ps.zip (us++ds))
theorem Binds.all (h:∀ us:List Value,us.length=ps.length->bindArgs fd ⟨us,[]⟩=pure (ps.zip us)):Binds K fd ps []:=fun s us _ hl=>by
 rw [List.append_nil] at hl ⊢
 exact .of_eq (h us hl)
def Passes (CX:CZ) (X:Cx) (E:XK):Prop:=∀ (pins:List (Addr×Obj)) (σ:St) (H:Hp) (s:Shared) (e:Value) (s':Shared),Inv X pins σ H s->CX X.stack H s E e s'->X.xe e s'
section
variable {k:Nat}{lY:List V}{ds:List Value}{E:XK}{m:Str}{o:Expr}
theorem vN {Q:VK}{vs:List V} (F:bf X.prog X.w X.K X.mg X.base CX k f fd ps sp) (hr:cM k X.A) (hb:Binds X.K fd ps ds) (hd:Vals lY ds) (hx:Passes CX X E)
  (I:Inv X pins σ H s) (r:Vals vs us) (h:sp (vs++lY) H Q E):wpAny (model X.prog X.w) X.A (call (.ref f) us) (EP X pins σ Q) X.xe s:=by
 have r2:Vals (vs++lY) (us++ds):=r.append hd
 have hl:(us++ds).length=ps.length:=by rw [<- r2.length];exact F.len _ _ _ _ h
 refine wpAny_call (codeAny_mono (F.run X.A X.stack s H ⟨us,[]⟩ (us++ds) (vs++lY) Q E hr I.env0 (hb s us I.lV hl) r2 h) fun r s' hq=>?_)
 cases r with
 | error e=>exact hx pins σ H s e s' I hq
 | ok fl =>
  cases fl with
  | ret u=>exact I.after hq
  | next=>exact False.elim hq
  | brk=>exact False.elim hq
  | cont=>exact False.elim hq
theorem bF (F:bf X.prog X.w X.K X.mg X.base CX k f fd ps sp) (hr:cM k X.A) (hg:Gl X x) (hm:X.mg x=some (.ref f)) (hk:PySem.W.keepIn X.K (.ref f)=true) (hb:Binds X.K fd ps ds) (hd:Vals lY ds) (hx:Passes CX X E)
  (ha:PA X (e::es) t) (hdb:(x==("__debug__" : Str))=false:=by decide) (he:starEach (e::es) X.env=(false,eval e X.env)::starEach es X.env:=by rfl) (hpl:(backTo pos (starEach es X.env)).any (·.1)=false:=by rfl) :
  PE X (.Call (.Name x p) (e::es) [] pos) (Ib sp lY E t):=by
 intro pins s σ H Q I h
 refine wpAny_Call_Name_kw (jj I hg hm ?_ hdb)
 refine PySem.W.callWith_K (h₀:=X.base) I.ok.mod.kin hk (cF (ha pos pins s σ H _ I h) fun us s1 ⟨vs,H1,I1,r,q⟩=>⟨I1.lV,?_⟩) he hpl
 exact vN F hr hb hd hx I1 r q
theorem ni (F:bf X.prog X.w X.K X.mg X.base CX k f fd ps sp) (hr:cM k X.A) (hg:Gl X x) (hm:X.mg x=some (.ref f)) (hk:PySem.W.keepIn X.K (.ref f)=true) (hb:Binds X.K fd ps ds) (hd:Vals lY ds) (hx:Passes CX X E)
  (hdb:(x==("__debug__" : Str))=false:=by decide):PE X (.Call (.Name x p) [] [] pos) (Ib sp lY E oA):=by
 intro pins s σ H Q I h
 refine wpAny_Call_Name_kw (jj I hg hm ?_ hdb)
 exact PySem.W.callWith_K0 I.lV hk (vN (us:=[]) F hr hb hd hx I .nil h)
theorem fX (he:PE X o ta) (c:Cls X.K C) (hm:Meth X.K C m f) (F:bf X.prog X.w X.K X.mg X.base CX k f fd ps sp) (hr:cM k X.A) (hb:Binds X.K fd ps ds) (hd:Vals lY ds) (hx:Passes CX X E) (ha:PA X (e::es) t)
  (hst:starEach (e::es) X.env=(false,eval e X.env)::starEach es X.env:=by rfl) (hpl:(backTo pos (starEach es X.env)).any (·.1)=false:=by rfl)
  (ht:eval (.Call (.Attribute o m apos) (e::es) [] pos) X.env=(do
   let ov <- eval o X.env
   standAt apos.atName
   let (f,first) <- holding [ov] (getMethod ov m pl)
   callWith pos f first (backTo pos (starEach (e::es) X.env)) (backToKw pos (keywordEach [] X.env))):=by rfl) :
  PE X (.Call (.Attribute o m apos) (e::es) [] pos) (QV C m sp lY E ta t):=by
 intro pins s σ H Q I h
 refine PySem.W.methodCall_KW (pl:=pl) (cF (he pins s σ H _ I h) fun u s1 ⟨x,H1,I1,rx,a,dx,fs,ex,ea,l,q⟩=>?_) ht
 subst ex
 obtain rfl:u=Value.ref a:=rx
 refine rm I1 ea c hm l ?_
 refine PySem.W.callWith_K (first:=[.ref a]) (h₀:=X.base) I.ok.mod.kin hm.kp (cF (ha pos pins s1 σ H1 _ I1 q) fun us s2 ⟨vs,H2,I2,r,q2⟩=>⟨I2.lV,?_⟩) hst hpl
 exact vN (us:=.ref a::us) (vs:=.ref a::vs) F hr hb hd hx I2 (.cons rfl r) q2
theorem nj (he:PE X o ta) (c:Cls X.K C) (hm:Meth X.K C m f) (F:bf X.prog X.w X.K X.mg X.base CX k f fd ps sp) (hr:cM k X.A) (hb:Binds X.K fd ps ds) (hd:Vals lY ds) (hx:Passes CX X E)
  (ht:eval (.Call (.Attribute o m apos) [] [] pos) X.env=(do
   let ov <- eval o X.env
   standAt apos.atName
   let (f,first) <- holding [ov] (getMethod ov m pl)
   callWith pos f first (backTo pos (starEach [] X.env)) (backToKw pos (keywordEach [] X.env))):=by rfl) :
  PE X (.Call (.Attribute o m apos) [] [] pos) (QV C m sp lY E ta oA):=by
 intro pins s σ H Q I h
 refine PySem.W.methodCall_KW (pl:=pl) (cF (he pins s σ H _ I h) fun u s1 ⟨x,H1,I1,rx,a,dx,fs,ex,ea,l,q⟩=>?_) ht
 subst ex
 obtain rfl:u=Value.ref a:=rx
 refine rm I1 ea c hm l ?_
 exact PySem.W.callWith_K0 (first:=[.ref a]) I1.lV hm.kp (vN (us:=[.ref a]) (vs:=[.ref a]) F hr hb hd hx I1 (.cons rfl .nil) q)
structure Mk (K:PySem.W.Frag) (C f:Addr):Prop where
 makes:PySem.W.makesIn K C=true
 init:PySem.W.findIn K (.ref C) "__init__"=some (some (.ref f))
 fn:PySem.W.isFn K (.ref f)=true
 kp:PySem.W.keepIn K (.ref C)=true
theorem Ie {Q:VK}{vs:List V} (M:Mk X.K C f) (F:bf X.prog X.w X.K X.mg X.base CX k f fd ps sp) (hr:cM (k+1) X.A) (hb:Binds X.K fd ps ds) (hd:Vals lY ds)
  (hx:Passes CX X E) (I:Inv X pins σ H s) (r:Vals vs us)
  (h:∀ x dx,H x=none->H dx=none->dx≠x->sp (.ref x::(vs++lY)) (upd (upd H dx (.own x)) x (.ins C dx [])) (fun v H2=>v=.non/\Q (.ref x) H2) E) :
  wpAny (model X.prog X.w) X.A (call (.ref C) us) (EP X pins σ Q) X.xe s:=by
 have hq:=h (s.heap.objs.size+1) s.heap.objs.size (I.hok.fresh (Nat.le_succ _)) (I.hok.fresh (Nat.le_refl _)) (Nat.ne_of_lt (Nat.lt_succ_self _))
 have I2:=Inv.made (C:=C) I
 have r2:Vals (V.ref (s.heap.objs.size+1)::(vs++lY)) (Value.ref (s.heap.objs.size+1)::(us++ds)):=.cons rfl (r.append hd)
 have hl:(Value.ref (s.heap.objs.size+1)::us++ds).length=ps.length:=by
  have e:=r2.length
  rw [F.len _ _ _ _ hq] at e
  exact e.symm
 refine wpAny_call (Ia (f:=f) I.lV M.makes M.init (beq_iff_eq.mp M.fn) (codeAny_mono (F.run _ X.stack _ _ ⟨Value.ref (s.heap.objs.size+1)::us,[]⟩ (Value.ref (s.heap.objs.size+1)::(us++ds)) _ _ E (hr.make C us [])
  (I2.env0.make C us []) (hb _ (Value.ref (s.heap.objs.size+1)::us) I2.lV hl) r2 hq) fun r s' hq'=>?_))
 cases r with
 | error e=>exact hx pins σ _ _ e s' I2 hq'
 | ok fl =>
  cases fl with
  | ret u =>
   obtain ⟨v,H',I3,rv,ev,q3⟩:=I2.after hq'
   subst ev
   exact ⟨rv,⟨V.ref (s.heap.objs.size+1),H',I3,rfl,q3⟩⟩
  | next=>exact False.elim hq'
  | brk=>exact False.elim hq'
  | cont=>exact False.elim hq'
theorem Nk (M:Mk X.K C f) (F:bf X.prog X.w X.K X.mg X.base CX k f fd ps sp) (hr:cM (k+1) X.A) (hg:Gl X x) (hm:X.mg x=some (.ref C)) (hb:Binds X.K fd ps ds) (hd:Vals lY ds) (hx:Passes CX X E)
  (ha:PA X (e::es) t) (hdb:(x==("__debug__" : Str))=false:=by decide) (he:starEach (e::es) X.env=(false,eval e X.env)::starEach es X.env:=by rfl) (hpl:(backTo pos (starEach es X.env)).any (·.1)=false:=by rfl) :
  PE X (.Call (.Name x p) (e::es) [] pos) (Xc C sp lY E t):=by
 intro pins s σ H Q I h
 refine wpAny_Call_Name_kw (jj I hg hm ?_ hdb)
 refine PySem.W.callWith_K (h₀:=X.base) I.ok.mod.kin M.kp (cF (ha pos pins s σ H _ I h) fun us s1 ⟨vs,H1,I1,r,q⟩=>⟨I1.lV,?_⟩) he hpl
 exact Ie M F hr hb hd hx I1 r q
end
def PK (X:Cx) (kws:List Keyword) (t:TA):Prop :=
 ∀ (pos:Pos) (pins:List (Addr×Obj)) (s:Shared) (σ:St) (H:Hp) (Q:List V->Hp->Prop),Inv X pins σ H s->t σ H Q->wpAny (model X.prog X.w) X.A (evalAll ((backToKw pos (keywordEach kws X.env)).map (·.2))) (AP X pins σ Q) X.xe s
section
variable {k:Nat}{ks:List Str}{E:XK}{m:Str}{kpos:Pos}{o:Expr}{kws:List Keyword}{tk:TA}{nm:Option Str}
theorem Te:PK X [] oA:=fun _ _ _ _ H Q I h=>wpAny_evalAll_nil ⟨[],H,I,.nil,h⟩
theorem Nm (ha:PE X e te) (hr:PK X kws t):PK X (⟨nm,e,kpos⟩::kws) (fB te t):=by
 intro pos pins s σ H Q I h
 show wpAny _ _ (evalAll ((do let v <- eval e X.env;standAt pos;pure v)::(backToKw pos (keywordEach kws X.env)).map (·.2))) _ _ s
 refine wpAny_evalAll_cons (wpAny_bind (cF (ha pins s σ H _ I h) fun u s1 ⟨x,H1,I1,r1,q1⟩=>wpAny_bind (wpAny_standAt (wpAny_pure ?_))))
 exact cF (hr pos pins s1 σ H1 _ I1 q1) fun us s2 ⟨xs,H2,I2,r2,q2⟩=>⟨x::xs,H2,I2,.cons r1 r2,q2⟩
structure KBinds (K:PySem.W.Frag) (fd:FuncData) (ps ks:List Str) (g:List Value->List Value->List Value) (gV:List V->List V->List V):Prop where
 to:∀ (s:Shared) (us ws:List Value),K.In s.heap->(g us ws).length=ps.length->BindsTo s fd ⟨us,ks.zip ws⟩ (ps.zip (g us ws))
 rel:∀ {vs:List V}{us:List Value}{zs:List V}{ws:List Value},Vals vs us->Vals zs ws->Vals (gV vs zs) (g us ws)
variable {g:List Value->List Value->List Value}{gV:List V->List V->List V}
end
structure aY (N P:List Str) (sc:Scope):Prop where
 kind:sc.kind=.function
 co:sc.isCoroutine=false
 gen:sc.isGenerator=false
 nd:N.Nodup
 pre:N.take P.length=P
 par:∀ x∈P,sc.names.lookup x=some .local\/sc.names.lookup x=some .cell
 Tf:∀ y∈sc.names,y.2≠.free
theorem uo {kindOf:Str->Option NameKind}:∀ {binds:List (Str×Value)}{m:Str->Option Value},(∀ v,(x,v)∉binds)->bindL kindOf binds m x=m x
 | [],_,_=>rfl
 | (n,v)::r,m,h=>by
  unfold bindL
  rw [uo fun w hw=>h w (mD _ hw)]
  split
  ·have:x≠n:=by rintro rfl;exact h v List.mem_cons_self
   simp [this]
  ·rfl
theorem uq {kindOf:Str->Option NameKind}:∀ {binds:List (Str×Value)}{m:Str->Option Value},(∀ v,(x,v)∉binds)->bindC kindOf binds m x=m x
 | [],_,_=>rfl
 | (n,v)::r,m,h=>by
  unfold bindC
  rw [uq fun w hw=>h w (mD _ hw)]
  split
  ·rfl
  ·have:x≠n:=by rintro rfl;exact h v List.mem_cons_self
   simp [this]
theorem ur {kindOf:Str->Option NameKind}{x:Str}{v:Value}:∀ {P:List Str}{vs:List Value}{i:Nat}{m:Str->Option Value},P.Nodup->P[i]?=some x->vs[i]?=some v->kindOf x=some .local ->
  bindL kindOf (P.zip vs) m x=some v
 | [],_,_,_,_,h,_,_=>by simp at h
 | _::_,[],_,_,_,_,h,_=>by simp at h
 | p::P,w::vs,0,m,nd,h1,h2,hk=>by
  simp at h1 h2;subst h1;subst h2
  show bindL kindOf ((p,w)::P.zip vs) m p=_
  unfold bindL
  rw [uo fun v hv=>(List.nodup_cons.mp nd).1 (List.of_mem_zip hv).1,if_pos hk]
  simp
 | p::P,w::vs,i+1,m,nd,h1,h2,hk=>by
  show bindL kindOf ((p,w)::P.zip vs) m x=_
  unfold bindL
  exact ur (i:=i) (List.nodup_cons.mp nd).2 (by simpa using h1) (by simpa using h2) hk
theorem uw {kindOf:Str->Option NameKind}{x:Str}{v:Value}:∀ {P:List Str}{vs:List Value}{i:Nat}{m:Str->Option Value},P.Nodup->P[i]?=some x->vs[i]?=some v->kindOf x≠some .local ->
  bindC kindOf (P.zip vs) m x=some v
 | [],_,_,_,_,h,_,_=>by simp at h
 | _::_,[],_,_,_,_,h,_=>by simp at h
 | p::P,w::vs,0,m,nd,h1,h2,hk=>by
  simp at h1 h2;subst h1;subst h2
  show bindC kindOf ((p,w)::P.zip vs) m p=_
  unfold bindC
  rw [uq fun v hv=>(List.nodup_cons.mp nd).1 (List.of_mem_zip hv).1,if_neg hk]
  simp
 | p::P,w::vs,i+1,m,nd,h1,h2,hk=>by
  show bindC kindOf ((p,w)::P.zip vs) m x=_
  unfold bindC
  exact uw (i:=i) (List.nodup_cons.mp nd).2 (by simpa using h1) (by simpa using h2) hk
def start (N:List Str) (vs:List V):St:=vs.map some++List.replicate (N.length - vs.length) none
def oE (CX:CZ) (P:Program) (w:World) (K:PySem.W.Frag) (mg:Str->Option Value) (base:Heap) (N:List Str) (qual:Str) (scope:Scope) (f:Addr) (cd:Value) (A:Around) (outer:List Env) (s:Shared) (H:Hp) (E:XK):Cx where
 prog:=P
 w:=w
 K:=K
 mg:=mg
 base:=base
 A:=A.deeper (envOfC qual scope s.heap.objs.size f cd)
 N:=N
 s₀:=s
 H₀:=H
 env:=envOfC qual scope s.heap.objs.size f cd
 outer:=outer
 stack:=envOfC qual scope s.heap.objs.size f cd::outer
 ex:=[]
 calm:=true
 fn:=fun _=>true
 pn:=[]
 xe:=fun e s'=>wpAny (model P w) (A.deeper (envOfC qual scope s.heap.objs.size f cd)) (leaving (envOfC qual scope s.heap.objs.size f cd) e) (fun _ s''=>CX outer H s E e s'') (fun e' s''=>CX outer H s E e' s'') s'
theorem yu {sc:Scope} (h:sc.names.lookup x=some .cell):∃ c,(cellsFrom n sc.names []).lookup x=some c:=by
 have q:=PySem.W.cellsFrom_some sc.names n [] (.inl h)
 exact Option.isSome_iff_exists.mp q
theorem Fo {cd:Value}{s1:Shared}{E:XK}{vs:List V}
  (S:aY N ps scope) (hd:A.handled=none) (e0:Ak P w K mg base A outer s H) (hl:vs.length=ps.length) (r:Vals vs us)
  (x:InCallC s s.heap.objs.size (bindL (envOfC qual scope s.heap.objs.size f cd).kindOf (ps.zip us) fun _=>none) (cellsFrom (s.heap.objs.size+1) scope.names []) (bindC (envOfC qual scope s.heap.objs.size f cd).kindOf (ps.zip us) fun _=>none) s1) :
  Inv (oE CX P w K mg base N qual scope f cd A outer s H E) [] (start N vs) H s1:=by
 have hpl:ps.length<=N.length:=by have:=congrArg List.length S.pre;rw [List.length_take] at this;lia
 obtain ⟨h1,tk,rfl,hk⟩:=x.done
 have Xd:∀ b:Addr,b∉(oE CX P w K mg base N qual scope f cd A outer s H E).ex:=fun b z=>absurd (show b∈([]:List Addr) from z) (by simp)
 refine ⟨⟨e0.mod,S.kind,rfl,rfl,Nat.le_refl _,fun y z c h1 h2=>?_,fun y hy=>?_,fun y c _ h=>?_,fun _=>hd,Around.frames_deeper e0.frames,.inr ⟨rfl,rfl⟩,fun b z=>absurd z (Xd b),e0.bs,e0.Hr,fun b _ _=>Xd b,fun b z=>absurd z (Xd b),e0.lU,e0.Nf⟩,
  rfl,e0.bare,Un.kept hk,⟨_,x.toInCall.ns,fun i y v h1 h2 h3=>?_⟩,fun y c h=>⟨_,x.cell y c h⟩,e0.hok.fresh (Nat.le_refl _),fun y c h=>?_,fun p hp=>absurd (show p∈([]:List (Addr×Obj)) from hp) (by simp),e0.hok.kept hk,?_⟩
 ·exact name_of_addr x.apart (PySem.mem_of_lookup h1) (PySem.mem_of_lookup h2)
 ·have hy:scope.names.lookup y=some .cell\/scope.names.lookup y=some .free:=hy
  rcases hy with hy | hy
  ·exact yu hy
  ·exact absurd rfl (S.Tf _ (PySem.mem_of_lookup hy))
 ·exact Nat.le_of_lt (x.above y c (PySem.mem_of_lookup h))
 ·have hi:i<vs.length:=by
   unfold start at h2
   by_cases hi:i<vs.length
   ·exact hi
   ·rw [List.getElem?_append_right (by simpa using hi)] at h2
    rw [List.getElem?_replicate] at h2
    split at h2 <;> cases h2
  have ha:vs[i]?=some v:=by
   unfold start at h2
   rw [List.getElem?_append_left (by simpa using hi),lW] at h2
   cases e:vs[i]? with
   | none=>rw [e] at h2;cases h2
   | some a=>rw [e] at h2;cases h2;rfl
  obtain ⟨u,hu,rv⟩:=r.get ha
  have hp:ps[i]?=some y:=by
   rw [<- S.pre,List.getElem?_take_of_lt (by lia)];exact h1
  have ndP:ps.Nodup:=by rw [<- S.pre];exact S.nd.sublist (List.take_sublist _ _)
  refine ⟨u,rv,?_⟩
  rcases S.par y (qN hp) with k | k
  ·exact .inl ⟨k,ur ndP hp hu k⟩
  ·obtain ⟨c,e⟩:=yu (n:=s.heap.objs.size+1) k
   refine .inr ⟨.inl k,c,e,?_⟩
   have q:=x.cell y c e
   rw [uw ndP hp hu (by show scope.names.lookup y≠_;rw [k];decide)] at q
   exact q
 ·exact e0.hok.fresh (Nat.le_of_lt (x.above y c (PySem.mem_of_lookup h)))
 ·unfold start
  show _=N.length
  rw [iY,bR,List.length_replicate]
  lia
theorem jO {k:Nat}{params:Arguments}{dV kV doc pm cdv ct oc:Value}{an od:Option Addr}
  {osl:Array (Option Value)} (lk:K.lookup f=some ⟨oc,od,.func (PySem.W.fnOf name qual params body scope dV kV doc pm an cdv ct),osl⟩) (hcd:PySem.W.codeIn K cdv qual=true) (S:aY N ps scope)
  (len:∀ vs H Q E,sp vs H Q E->vs.length=ps.length)
  (hbody:∀ (A:Around) (outer:List Env) (s:Shared) (H:Hp) (vs:List V) (Q:VK) (E:XK),cM k (A.deeper (envOfC qual scope s.heap.objs.size f cdv))->sp vs H Q E ->
   ∃ t,xZ (oE CX P w K mg base N qual scope f cdv A outer s H E) body t/\t { nx:=fun _ H'=>Q .non H',rt:=Q } (start N vs) H) :
  bf P w K mg base CX (k+1) f (PySem.W.fnOf name qual params body scope dV kV doc pm an cdv ct) ps sp:=by
 refine ⟨len,fun A outer s H args us vs Q E hr e0 hb r hsp=>?_⟩
 have hl:=len _ _ _ _ hsp
 have KX:K.In s.heap:=e0.mod.kin.keeps fun b o e=>(e0.bs b o e).1
 have lim:s.heap.NoLimit:=e0.mod.nolimit.keeps fun b o e=>(e0.bs b o e).1
 have hkind:∀ y∈ps.zip us,scope.names.lookup y.1=some .local\/(scope.names.lookup y.1=some .cell/\((cellsFrom (s.heap.objs.size+1) scope.names []).lookup y.1).isSome=true):=fun ⟨n,v⟩ hy=>by
  rcases S.par n (List.of_mem_zip hy).1 with q | q
  ·exact .inl q
  ·exact .inr ⟨q,PySem.W.cellsFrom_some _ _ _ (.inl q)⟩
 refine codeAny_call_function hr.depth (KX _ _ lk) rfl S.co S.gen rfl (PySem.W.codeRec_of KX hcd) (hb _ _ _ _ ?_)
 refine wpAny_newFunctionEnv_cells S.kind hkind fun env he s1 x=>?_
 subst he
 refine ⟨lim.keeps x.toInCall.keep,codeAny_func ?_⟩
 obtain ⟨t,ht,hq⟩:=hbody A outer s H vs Q E (hr.deeper _) hsp
 have I:Inv (oE CX P w K mg base N qual scope f cdv A outer s H E) [] (start N vs) H s1:=Fo S hr.hd e0 hl r x
 refine wpAny_mono (ht [] s1 (start N vs) H _ I hq) (fun fl s' hs=>?_) fun e s' hs=>hs
 have fin:∀ {σ':St}{H':Hp}{v:V}{u:Value},Inv (oE CX P w K mg base N qual scope f cdv A outer s H E) [] σ' H' s'->RelV v u->Q v H'->CE outer P w H s Q u s' :=
  fun {σ' H' v u} J rv q=>⟨v,H',J.os,J.bare,J.base,J.hok,rv,q⟩
 cases fl with
 | ret u =>
  obtain ⟨v,σ',H',J,rv,q⟩:=hs
  exact fin J rv q
 | next =>
  obtain ⟨σ',H',J,q⟩:=hs
  exact fin (v:=V.non) (u:=Value.none) J rfl q
 | brk =>
  obtain ⟨_,_,_,q⟩:=hs
  exact False.elim q
 | cont =>
  obtain ⟨_,_,_,q⟩:=hs
  exact False.elim q
section
variable {id:String}{r:List V->Hp->VK->Prop}
def tCB (r:List V->Hp->VK->Prop) (t:TA):TE:=fun σ H Q=>t σ H fun vs H1=>r vs H1 Q
theorem aP (hc:dB X (.builtin id) r) (hg:Gl X x) (hm:X.mg x=none) (hv:bootBuiltins x=some (.builtin id)) (ha:PA X (e::es) t) (hn:x≠"__name__":=by decide) (hdb:(x==("__debug__" : Str))=false:=by decide)
  (he:starEach (e::es) X.env=(false,eval e X.env)::starEach es X.env:=by rfl) (hpl:(backTo pos (starEach es X.env)).any (·.1)=false:=by rfl):PE X (.Call (.Name x p) (e::es) [] pos) (tCB r t):=by
 intro pins s σ H Q I h
 refine wpAny_Call_Name_kw (jk I hg hm hv ?_ hn hdb)
 exact PyProof.Rows.callWith_builtin1 (cF (ha pos pins s σ H _ I h) fun us s1 ⟨vs,H1,I1,r1,q1⟩=>hc pins s1 σ H1 vs us Q I1 r1 q1) he hpl
theorem bT (hc:dB X (.type T) r) (hg:Gl X x) (hm:X.mg x=none) (hv:bootBuiltins x=some (.type T)) (ha:PA X (e::es) t) (hn:x≠"__name__":=by decide) (hdb:(x==("__debug__" : Str))=false:=by decide)
  (he:starEach (e::es) X.env=(false,eval e X.env)::starEach es X.env:=by rfl) (hpl:(backTo pos (starEach es X.env)).any (·.1)=false:=by rfl):PE X (.Call (.Name x p) (e::es) [] pos) (tCB r t):=by
 intro pins s σ H Q I h
 refine wpAny_Call_Name_kw (jk I hg hm hv ?_ hn hdb)
 exact PyProof.Rows.callWith_type1 (cF (ha pos pins s σ H _ I h) fun us s1 ⟨vs,H1,I1,r1,q1⟩=>hc pins s1 σ H1 vs us Q I1 r1 q1) he hpl
end
end L2
variable {ls r rest rs xs ys:List L2.V}{H H' H1 H2 H4:L2.Hp}{X:L2.Cx}{v y:L2.V}{σ:L2.St}{t1 t2 t3 ta tb te tl to tv:L2.TE}{t:L2.TA}{wi:L2.TI}{CX:L2.CZ}{sp:L2.Sp}{tt:L2.TT}{J:L2.It}{ts:L2.TS}{kvs:List (Int×L2.V)}{Ho:List (L2.TE×L2.TE)}{pool:List (List L2.V)}
namespace HT
open PySem PyProof.Rows
section
open PySem.SeqAt
open PySem.AutoSeq1 (wpAny_loadPart')
open PySem.MeetsSeq PySem.MeetsSeq2 PySem.MeetsSeq3
end
theorem Np {t:Addr}{vs ws:List Value} (ht:IsTup s.heap t vs.toArray) (hb:IsTup s.heap b ws.toArray) (hv:vs≠[])
  (h1:ws=[]->Q (.ref t) s) (h2:ws≠[]->Q (.ref s.heap.objs.size) { s with heap:=s.heap.push { cls:=.type "tuple",data:=.seq (vs++ws).toArray } })
  (hsz:vs.length+ws.length<=sizeLine):wpAny (model prog w) A (binaryOp .Add (.ref t) (.ref b)) Q E s:=by
 obtain ⟨⟨cls,dd,data,sl⟩,ho,hc,n,hd⟩:=id ht
 obtain ⟨⟨cls2,dd2,data2,sl2⟩,ho2,hc2,n2,hd2⟩:=id hb
 simp only at hc hd hc2 hd2
 subst hc hd hc2 hd2
 have e:vs.toArray++ws.toArray=(vs++ws).toArray:=by simp
 by_cases hw:ws=[]
 ·exact concat_meets ⟨_,ho,rfl⟩ ⟨_,ho2,rfl⟩ noFill_tuple_add seq_tuple_add PySem.F.slot_tuple_add PySem.F.entry_tuple_add (PySem.F.args_tuple_add_2 _ _)
   (tuple_addW1 t b vs.toArray ws.toArray n n2 dd dd2 sl sl2 (by simpa using hv) (by simp [hw])) ⟨ho,ho2,h1 hw⟩
 ·refine concat_meets ⟨_,ho,rfl⟩ ⟨_,ho2,rfl⟩ noFill_tuple_add seq_tuple_add PySem.F.slot_tuple_add PySem.F.entry_tuple_add (PySem.F.args_tuple_add_2 _ _)
   (tuple_addW2 t b vs.toArray ws.toArray n n2 dd dd2 sl sl2 (by simpa using hv) (by simpa using hw) (by rw [List.size_toArray,List.size_toArray];exact hsz)) ⟨ho,ho2,?_⟩
  rw [e]
  exact h2 hw
def cW (n d:Nat):Option Int->Nat
 | none=>d
 | some v=>if v<0 then (v+(n:Int)).toNat else min v.toNat n
theorem fD (n d k:Nat):cW n d (some (k:Int))=min k n:=by
 show (if (k:Int)<0 then ((k:Int)+(n:Int)).toNat else min (k:Int).toNat n)=min k n
 rw [if_neg (by lia),Int.toNat_natCast]
theorem Ig (n d:Nat) (hd:d<=n) (o:Option Int):cW n d o<=n:=by
 cases o with
 | none=>exact hd
 | some v =>
  show (if v<0 then (v+(n:Int)).toNat else min v.toNat n)<=n
  by_cases hv:v<0
  ·rw [if_pos hv];lia
  ·rw [if_neg hv];exact Nat.min_le_right _ _
theorem Dc (v:Int) (n d:Nat):(if v<0 then max (v+(n:Int)) 0 else min v (n:Int))=((cW n d (some v):Nat):Int):=by
 show (if v<0 then max (v+(n:Int)) 0 else min v (n:Int))=(((if v<0 then (v+(n:Int)).toNat else min v.toNat n):Nat):Int)
 by_cases hv:v<0
 ·simp only [if_pos hv];lia
 ·simp only [if_neg hv];lia
theorem Al (lo hi:Option Int) (n:Nat):Builtin.Slice.sliceAdjust lo hi 1 (n:Int)=(((cW n 0 lo:Nat):Int),((cW n n hi:Nat):Int)):=by
 have h1:¬ ((1:Int)<0):=by lia
 unfold Builtin.Slice.sliceAdjust
 simp only [h1,if_false]
 refine Prod.ext ?_ ?_
 ·cases lo with
  | none=>rfl
  | some v=>exact Dc v n 0
 ·cases hi with
  | none=>rfl
  | some v=>exact Dc v n n
theorem Am (i j:Nat):Builtin.Slice.slicePlaces (i:Int) (j:Int) 1=j - i:=by
 unfold Builtin.Slice.slicePlaces
 have h1:(1:Int) > 0:=by lia
 simp only [h1,if_true,Int.ediv_one]
 split <;> lia
theorem rA {v:Value}{o:Option Int}{Q:Option Int->Shared->Prop} (p:IsPart v o) (h:Q o s):wpAny (model prog w) A (Builtin.Slice.slicePartIndex v) Q E s:=by
 cases p with
 | none=>exact slicePart_none h
 | int i t=>exact slicePart_int h
theorem oF {sl:Addr}{vl vu:Value}{Q:Int×Int×Nat->Shared->Prop} (hs:s.heap.IsSliceOf sl vl vu .none) (pl:IsPart vl lo) (pu:IsPart vu hi)
  (h:Q (((cW n 0 lo:Nat):Int),1,cW n n hi - cW n 0 lo) s):wpAny (model prog w) A (Builtin.Slice.sliceApplied (.ref sl) (pure (n:Int))) Q E s:=by
 obtain ⟨os,hos,hcs,hds⟩:=id hs
 unfold Builtin.Slice.sliceApplied Builtin.Slice.sliceFields
 refine wpAny_bind (wpAny_bind (wpAny_field hos hds (x:=vl) rfl (wpAny_bind (wpAny_field hos hds (x:=vu) rfl (wpAny_bind (wpAny_field hos hds (x:=.none) rfl (wpAny_pure ?_)))))))
 refine wpAny_bind (slicePart_none ?_)
 show wpAny _ _ (if ((1:Int)==0)=true then _ else _) _ _ s
 rw [if_neg (by decide)]
 refine wpAny_bind (rA pl (wpAny_bind (rA pu (wpAny_bind (wpAny_pure ?_)))))
 show wpAny _ _ (match Builtin.Slice.sliceAdjust lo hi 1 (n:Int) with | (lo,hi)=>pure (lo,(1:Int),Builtin.Slice.slicePlaces lo hi 1)) _ _ s
 rw [Al lo hi n]
 show wpAny _ _ (pure (((cW n 0 lo:Nat):Int),(1:Int),Builtin.Slice.slicePlaces ((cW n 0 lo:Nat):Int) ((cW n n hi:Nat):Int) 1)) _ _ s
 rw [Am]
 exact wpAny_pure h
theorem Ih (xs:Array Value) (i k:Nat):((List.range k).filterMap fun (m:Nat)=>xs[((i:Int)+(m:Int) * 1).toNat]?).toArray=((xs.toList.drop i).take k).toArray:=by
 have e:(fun (m:Nat)=>xs[((i:Int)+(m:Int) * 1).toNat]?)=fun m=>xs[i+m]?:=by
  funext m
  have:((i:Int)+(m:Int) * 1).toNat=i+m:=by lia
  rw [this]
 rw [e]
 have:=pick_run xs i k
 rw [List.filterMap_map] at this
 have e2:((fun x=>xs[x]?)∘fun x=>i+x)=fun m=>xs[i+m]?:=rfl
 rw [e2] at this
 rw [this]
theorem nq {t sl:Addr}{items:Array Value}{vl vu:Value} (ht:IsTup s.heap t items) (hs:s.heap.IsSliceOf sl vl vu .none) (pl:IsPart vl lo) (pu:IsPart vu hi)
  (hw:¬ (cW items.size 0 lo=0/\cW items.size items.size hi=items.size))
  (h:Q (.ref s.heap.objs.size) { s with heap:=s.heap.push { cls:=.type "tuple",data:=.seq ((items.toList.drop (cW items.size 0 lo)).take (cW items.size items.size hi - cW items.size 0 lo)).toArray } })
  (hsz:items.size<=sizeLine):wpAny (model prog w) A (getItem (.ref t) (.ref sl)) Q E s:=by
 have Dd:sizeOk (.seq ((items.toList.drop (cW items.size 0 lo)).take (cW items.size items.size hi - cW items.size 0 lo)).toArray):=by
  show ((items.toList.drop (cW items.size 0 lo)).take (cW items.size items.size hi - cW items.size 0 lo)).toArray.size<=sizeLine
  rw [List.size_toArray,List.length_take,List.length_drop,Array.length_toList]
  lia
 have hj:cW items.size items.size hi<=items.size:=Ig _ _ (Nat.le_refl _) hi
 obtain ⟨os,hos,hcs,hds⟩:=id hs
 have hTs:s.TypeIs (.ref sl) "slice":=⟨os,hos,hcs⟩
 unfold getItem
 try with_reducible refine wpAny_holding ?_
 first | refine wpAny_bind (wpAny_pure ?_) | skip
 refine wpAny_bind (wpAny_sequenceKey ht.typeIs (by decide) ?_)
 refine wpAny_bind (wpAny_callSpecial?_slot (name:=Str.ofString "__getitem__") ht.typeIs PyProof.Rows.slot_tuple_getitem
  (wpAny_call_entry PyProof.Rows.slot_tuple_getitem ht.typeIs entry_tuple_getitem ?_ (args_tuple_getitem _ _)))
 show wpAny _ _ (Builtin.Tuple.tupleItemsOf (.ref t) >>= _) _ _ s
 refine wpAny_bind (tupleItemsOf_ ht ?_)
 refine wpAny_bind (wpAny_typeOf hTs ?_)
 rw [if_pos (by decide)]
 refine wpAny_bind (oF hs pl pu ?_)
 have hno:¬ ((((cW items.size 0 lo:Nat):Int)==0&&(1:Int)==1&&(cW items.size items.size hi - cW items.size 0 lo)==items.size)=true):=by
  intro q
  rw [Bool.and_eq_true,Bool.and_eq_true] at q
  have q1:((cW items.size 0 lo:Nat):Int)=0:=eq_of_beq q.1.1
  have q2:cW items.size items.size hi - cW items.size 0 lo=items.size:=eq_of_beq q.2
  exact hw ⟨by lia,by lia⟩
 show wpAny _ _ (if (((cW items.size 0 lo:Nat):Int)==0&&(1:Int)==1&&(cW items.size items.size hi - cW items.size 0 lo)==items.size)=true then _ else _) _ _ s
 rw [if_neg hno,Ih]
 first
  | exact wpAny_bind (m:=Builtin.Tuple.tupleExact _) (wpAny_newObj_type (wpAny_pure ⟨_,rfl,wpAny_pure h⟩) Dd)
  | exact wpAny_bind (m:=Builtin.Tuple.tupleExact _) (wpAny_newObj_type (wpAny_bind (wpAny_pure (wpAny_pure ⟨_,rfl,wpAny_pure h⟩))) Dd)
  | exact wpAny_bind (wpAny_bind (m:=Builtin.Tuple.tupleExact _) (wpAny_newObj_type (wpAny_pure (wpAny_pure ⟨_,rfl,wpAny_pure h⟩)) Dd))
  | exact wpAny_bind (wpAny_bind (m:=Builtin.Tuple.tupleExact _) (wpAny_newObj_type (wpAny_pure ⟨_,rfl,wpAny_pure h⟩) Dd))
end HT
namespace L2
open PySem PySem.Spec PyProof.Rows
abbrev TO:=St->Hp->(Option Int->Hp->Prop)->Prop
def PO (X:Cx) (e:Option Expr) (t:TO):Prop :=
 ∀ (pins:List (Addr×Obj)) (s:Shared) (σ:St) (H:Hp) (Q:Option Int->Hp->Prop),Inv X pins σ H s->t σ H Q ->
  wpAny (model X.prog X.w) X.A (evalPart e X.env) (fun u s'=>∃ o H',Inv X pins σ H' s'/\IsPart u o/\Q o H') X.xe s
def nu:TO:=fun _ H Q=>Q none H
def yw (t:TE):TO:=fun σ H Q=>t σ H fun x H1=>∃ i,x=.int i/\Q (some i) H1
section
variable {lo hi:Option Expr}{tl th:TO}
theorem fY:PO X none nu:=by
 intro pins s σ H Q I h
 rw [evalPart_none]
 exact wpAny_pure ⟨none,H,I,.none,h⟩
theorem cR (h:PE X e te):PO X (some e) (yw te):=by
 intro pins s σ H Q I hw
 rw [evalPart_some]
 refine cF (h pins s σ H _ I hw) fun u s1 zq=>?_
 obtain ⟨x,H1,I1,r1,q1⟩:=zq
 obtain ⟨i,rfl,q⟩:=q1
 obtain ⟨t,rfl⟩:=r1
 exact ⟨some i,H1,I1,.int i t,q⟩
def Wh (X:Cx) (r:V->Option Int->Option Int->Hp->VK->Prop):Prop :=
 ∀ (pins:List (Addr×Obj)) (s:Shared) (σ:St) (H:Hp) (x:V) (v vl vu:Value) (lo hi:Option Int) (sl:Addr) (Q:VK),Inv X pins σ H s->RelV x v->s.heap.IsSliceOf sl vl vu .none->IsPart vl lo->IsPart vu hi->r x lo hi H Q ->
  ∃ T id,typeLookup (.type T) "__getitem__"=pure (some (.builtin id))/\s.TypeIs v T/\wpAny (model X.prog X.w) X.A (getItem v (.ref sl)) (EP X pins σ Q) X.xe s
def Xe (r:V->Option Int->Option Int->Hp->VK->Prop) (te:TE) (tl th:TO):TE:=fun σ H Q=>te σ H fun x H1=>tl σ H1 fun l H2=>th σ H2 fun u H3=>r x l u H3 Q
theorem cT {r:V->Option Int->Option Int->Hp->VK->Prop} (hr:Wh X r) (he:PE X e te) (hl:PO X lo tl) (hu:PO X hi th):PE X (.Subscript e (.Slice lo hi none p2) pos) (Xe r te tl th):=by
 intro pins s σ H Q I h
 refine Subscript_ (cF (he pins s σ H _ I h) fun v s1 zq=>?_)
 obtain ⟨x,H1,I1,r1,q1⟩:=zq
 refine wpAny_Slice (cF (hl pins s1 σ H1 _ I1 q1) fun vl s2 ⟨l,H2,I2,pl,q2⟩=>cF (hu pins s2 σ H2 _ I2 q2) fun vu s3 zq=>?_)
 obtain ⟨u,H3,I3,pu,q3⟩:=zq
 rw [evalPart_none]
 refine wpAny_pure ?_
 have I4:Inv X pins σ H3 { s3 with heap:=s3.heap.push { cls:=.type "slice",data:=.fields #[vl,vu,.none] } }:=I3.kept (t':=s3.toks) fun b ob q=>Heap.get?_push_of_some _ q
 obtain ⟨T,id,hT,ht,hg⟩:=hr pins { s3 with heap:=s3.heap.push { cls:=.type "slice",data:=.fields #[vl,vu,.none] } } σ H3 x v vl vu l u s3.heap.objs.size Q I4 r1 (Heap.IsSliceOf.new ..) pl pu q3
 show wpAny (model X.prog X.w) X.A (subscriptTail e (.Slice lo hi none p2) v (.ref s3.heap.objs.size)) (EP X pins σ Q) X.xe { s3 with heap:=s3.heap.push { cls:=.type "slice",data:=.fields #[vl,vu,.none] } }
 exact tail_any (ops:=[.ref s3.heap.objs.size,v]) ht hT hg (by with_unfolding_all rfl)
def dg (xs:List V) (lo hi:Option Int):List V:=(xs.drop (HT.cW xs.length 0 lo)).take (HT.cW xs.length xs.length hi - HT.cW xs.length 0 lo)
theorem iG (xs:List V) (lo hi:Option Int):(dg xs lo hi).length<=xs.length:=by
 unfold dg
 rw [List.length_take,List.length_drop]
 lia
def Nq (K:PySem.W.Frag):V->Option Int->Option Int->Hp->VK->Prop:=fun x lo hi H Q=>∃ a xs,x=.ref a/\bG K H a xs /\
 ¬ (HT.cW xs.length 0 lo=0/\HT.cW xs.length xs.length hi=xs.length)/\∀ p,H p=none->Q (.ref p) (upd H p (.tup (dg xs lo hi)))
theorem iT:Wh X (Nq X.K):=by
 intro pins s σ H x v vl vu lo hi sl Q I rx hs pl pu h
 obtain ⟨a,xs,rfl,hx,hw,q⟩:=h
 cases rx
 obtain ⟨its,r,ht,hz⟩:=I.tuple hx
 have hlen:its.toArray.size=xs.length:=by rw [List.size_toArray];exact r.length.symm
 refine ⟨"tuple",_,PyProof.Rows.slot_tuple_getitem.lookup,ht.typeIs,?_⟩
 refine HT.nq ht hs pl pu (by rw [hlen];exact hw) ?_ (by rw [hlen];exact hz)
 rw [hlen]
 refine ⟨.ref s.heap.objs.size,_,I.laid (t':=s.toks) (o:=.tup (dg xs lo hi)) (fun b ob q=>Heap.get?_push_of_some _ q) (Nat.le_refl _) ?_,rfl,q _ (I.hok.fresh (Nat.le_refl _))⟩
 exact ⟨Nat.le_trans (iG xs lo hi) hz,_,(r.drop (HT.cW xs.length 0 lo)).take (HT.cW xs.length xs.length hi - HT.cW xs.length 0 lo),IsTup.new _ _⟩
def QW (K:PySem.W.Frag):R2:=fun x y H Q=>∃ a b xs ys,x=.ref a/\y=.ref b/\bG K H a xs/\bG K H b ys/\xs≠[]/\xs.length+ys.length<=sizeLine /\
 (ys=[]->Q (.ref a) H)/\(ys≠[]->∀ p,H p=none->Q (.ref p) (upd H p (.tup (xs++ys))))
theorem Vals.vO (r:Vals xs us):us=[]↔xs=[]:=by
 cases r with
 | nil=>simp
 | cons _ _=>simp
theorem jr:jC X (binaryOp .Add) (QW X.K):=by
 intro pins s σ H x y v u Q I rx ry h
 obtain ⟨a,b,xs,ys,rfl,rfl,ha,hb,hx,hz,q1,q2⟩:=h
 cases rx
 cases ry
 obtain ⟨its,r1,p1,_⟩:=I.tuple ha
 obtain ⟨its2,r2,p2,_⟩:=I.tuple hb
 refine HT.Np p1 p2 (fun z=>hx (r1.vO.mp z)) (fun z=>⟨.ref a,H,I,rfl,q1 (r2.vO.mp z)⟩) (fun z=>?_) (by rw [<- r1.length,<- r2.length];exact hz)
 refine ⟨.ref s.heap.objs.size,_,I.laid (t':=s.toks) (o:=.tup (xs++ys)) (fun b ob q=>Heap.get?_push_of_some _ q) (Nat.le_refl _) ?_,rfl,q2 (fun w=>z (r2.vO.mpr w)) _ (I.hok.fresh (Nat.le_refl _))⟩
 exact ⟨by rw [iY];exact hz,_,r1.append r2,IsTup.new _ _⟩
end
def QX (n:Nat) (i:Int):Option Nat:=if 0<=i then (if i<n then some i.toNat else none) else if -(n:Int)<=i then some (i+n).toNat else none
def tO {α:Type} (xs:List α) (i:Int):Option α:=(QX xs.length i).bind fun j=>xs[j]?
theorem Df {i:Int} (h:QX n i=some j):seqIndex? i n=some j/\j<n/\-(n:Int)<=i/\i<n:=by
 unfold QX at h
 by_cases h0:0<=i
 ·rw [if_pos h0] at h
  by_cases h1:i<n
  ·rw [if_pos h1] at h
   have e:i.toNat=j:=Option.some.inj h
   exact ⟨by rw [seqIndex_of h0 h1,e],by lia,by lia,h1⟩
  ·rw [if_neg h1] at h;cases h
 ·rw [if_neg h0] at h
  by_cases h1:-(n:Int)<=i
  ·rw [if_pos h1] at h
   have e:(i+n).toNat=j:=Option.some.inj h
   exact ⟨by rw [seqIndex_neg (by lia) h1,e],by lia,h1,by lia⟩
  ·rw [if_neg h1] at h;cases h
theorem vP {α:Type}{xs:List α}{i:Int}{v:α} (h:tO xs i=some v):∃ j,seqIndex? i xs.length=some j/\xs[j]?=some v/\j<xs.length/\-(xs.length:Int)<=i/\i<xs.length:=by
 unfold tO at h
 cases e:QX xs.length i with
 | none=>rw [e] at h;cases h
 | some j =>
  rw [e] at h
  obtain ⟨h1,h2,h3,h4⟩:=Df e
  exact ⟨j,h1,h,h2,h3,h4⟩
theorem bH {α:Type}{xs:List α}{v:α} (h:xs[j]?=some v):tO xs (j:Int)=some v:=by
 have hj:j<xs.length:=(List.getElem?_eq_some_iff.mp h).1
 have e:QX xs.length (j:Int)=some j:=by
  unfold QX
  rw [if_pos (by lia),if_pos (by lia)];simp
 unfold tO;rw [e];exact h
def qm (b:Expr):Prop:=∀ o i,subscripted b false o i=operate [o,i] (getItem o i)
def QZ (X:Cx) (r:R2):Prop :=
 ∀ (value slice:Expr) (pins:List (Addr×Obj)) (s:Shared) (σ:St) (H:Hp) (x y:V) (v u:Value) (Q:VK),Inv X pins σ H s->RelV x v->RelV y u->r x y H Q ->
  subscripted slice false v u=operate [v,u] (getItem v u)->wpAny (model X.prog X.w) X.A (subscriptTail value slice v u) (EP X pins σ Q) X.xe s
def MtR (X:Cx) (id:String) (r:V->List V->Hp->VK->Prop):Prop :=
 ∀ (pins:List (Addr×Obj)) (s:Shared) (σ:St) (H:Hp) (x:V) (xs:List V) (v:Value) (us:List Value) (Q:VK),Inv X pins σ H s->RelV x v->Vals xs us->r x xs H Q ->
  wpAny (model X.prog X.w) X.A (call (.builtin id) (v::us)) (EP X pins σ Q) X.xe s
section
variable {a b:Expr}
theorem aM {r:R2} (hr:QZ X r) (ha:PE X a ta) (hb:PE X b tb) (hs:qm b):PE X (.Subscript a b pos) (Mv r ta tb):=by
 intro pins s σ H Q I h
 exact Subscript_ (T6 ha hb I h fun v u s2 x y H2 I2 rx ry q=>hr a b pins s2 σ H2 x y v u Q I2 rx ry q (hs _ _))
def Xf (K:PySem.W.Frag):R2:=fun x y H Q=>∃ p xs i v,x=.ref p/\y=.int i/\bD K H p xs/\tO xs i=some v/\Q v H
def Nr (K:PySem.W.Frag):R2:=fun x y H Q=>∃ p xs i v,x=.ref p/\y=.int i/\bG K H p xs/\tO xs i=some v/\Q v H
def rIxS:R2:=fun x y H Q=>∃ z i c,x=.str z/\y=.int i/\z.length<=sizeLine/\tO z.cps.toList i=some c/\Q (.str ⟨#[c]⟩) H
theorem bB:QZ X (Xf X.K):=by
 intro value slice pins s σ H x y v u Q I rx ry h hs
 obtain ⟨p,xs,i,z,rfl,rfl,hq,he,q⟩:=h
 cases rx
 obtain ⟨t,rfl⟩:=ry
 obtain ⟨its,r,pl,hz⟩:=I.list hq
 obtain ⟨j,h1,h2,h3,h4,h5⟩:=vP he
 obtain ⟨w,ew,Fp⟩:=r.get h2
 have hl:=r.length
 have hn:=mG
 have fin:EP X pins σ Q w s:=⟨z,H,I,Fp,q⟩
 by_cases h0:0<=i
 ·have hj:i.toNat=j:=by
   rw [seqIndex_of h0 h5] at h1
   exact Option.some.inj h1
  exact item_listR pl.isList h0 (by lia) (by rw [hj];simpa using ew) fin hs
 ·have hj:(i+(its.toArray.size:Int)).toNat=j:=by
   rw [seqIndex_neg (by lia) h4] at h1
   rw [List.size_toArray,<- hl]
   exact Option.some.inj h1
  exact subscriptTail_builtinR (x:=w) pl.isList.typeIs slot_list_getitem.lookup
   (wpAny_getItem_list_neg (Q:=fun r s'=>r=w/\EP X pins σ Q r s') pl.isList (by lia) (by rw [List.size_toArray] <;> lia) (by lia) (by rw [hj];simpa using ew) ⟨rfl,fin⟩) hs
theorem bh:QZ X (Nr X.K):=by
 intro value slice pins s σ H x y v u Q I rx ry h hs
 obtain ⟨p,xs,i,z,rfl,rfl,hq,he,q⟩:=h
 cases rx
 obtain ⟨t,rfl⟩:=ry
 obtain ⟨its,r,pl,hz⟩:=I.tuple hq
 obtain ⟨j,h1,h2,h3,h4,h5⟩:=vP he
 obtain ⟨w,ew,Fp⟩:=r.get h2
 have hl:=r.length
 have hn:=mG
 have fin:EP X pins σ Q w s:=⟨z,H,I,Fp,q⟩
 exact subscriptTail_builtinR (x:=w) pl.typeIs slot_tuple_getitem.lookup
  (getItem_tuple (j:=j) (Q:=fun r s'=>r=w/\EP X pins σ Q r s') pl (by lia) (by lia) (by rw [List.size_toArray,<- hl];exact h1) (by simpa using ew) ⟨rfl,fin⟩) hs
theorem Ii:QZ X rIxS:=by
 intro value slice pins s σ H x y v u Q I rx ry h hs
 obtain ⟨z,i,c,rfl,rfl,hz,he,q⟩:=h
 obtain ⟨t,rfl⟩:=rx
 obtain ⟨t',rfl⟩:=ry
 obtain ⟨j,h1,h2,h3,h4,h5⟩:=vP he
 have hl:z.cps.toList.length=z.length:=by simp [Str.length]
 rw [hl] at h1 h4 h5
 have hn:=mG
 exact tail_any (typeIs_str s z t) slot_str_getitem.lookup (getItem_str (c:=c) (by
  have e1:decide (i < -(2 ^ 63:Int))=false:=decide_eq_false (by lia)
  have e2:decide (i>=2 ^ 63)=false:=decide_eq_false (by lia)
  rw [e1,e2,Bool.or_false]) (by rw [h1];simpa using h2) ⟨.str ⟨#[c]⟩,H,I.tok _,⟨_,rfl⟩,q⟩) hs
theorem Ao (its:List Value) (n j:Nat) (u:Value):Obj.mapSeq (·.setIfInBounds j u) { cls:=.type "list",data:=.seq its.toArray n }={ cls:=.type "list",data:=.seq (its.set j u).toArray n }:=by
 simp [Obj.mapSeq]
theorem Inv.lst {p:Addr} (I:Inv X pins σ H s) (h:H p=some (.lst xs)) :
  ∃ (its:List Value) (n:Nat),Vals xs its/\s.heap.get? p=some { cls:=.type "list",data:=.seq its.toArray n }/\xs.length<=sizeLine:=by
 obtain ⟨z,its,n,r,e⟩:=I.hok p _ h
 exact ⟨its,n,r,e,z⟩
theorem Inv.Tg {p:Addr}{its':List Value}{n':Nat}{f:Obj->Obj} (I:Inv X pins σ H s) (h:H p=some (.lst xs))
  (ho:s.heap.get? p=some { cls:=.type "list",data:=.seq its.toArray n }) (hf:f { cls:=.type "list",data:=.seq its.toArray n }={ cls:=.type "list",data:=.seq its'.toArray n' }) (r:Vals ys its') (hz:ys.length<=sizeLine) (t:Nat) :
  Inv X pins σ (upd H p (.lst ys)) { s with heap:=s.heap.update p f,toks:=t }:=by
 have e:(s.heap.update p f).get? p=some { cls:=.type "list",data:=.seq its'.toArray n' }:=by
  rw [Heap.get?_update_self f ho (by rw [hf] <;> rfl),hf]
 refine I.write (x:=p) (e:=p) (by rw [h];trivial) (.inl rfl) (fun b u hb q=>(Heap.get?_update_other _ _ (Ne.symm hb)).trans q) ⟨_,e⟩ ?_
 exact ⟨hz,its',n',r,e⟩
def R5:V->V->V->Hp->(Hp->Prop)->Prop:=fun o i v H Q=>∃ p xs k j,o=.ref p/\i=.int k/\H p=some (.lst xs)/\QX xs.length k=some j/\Q (upd H p (.lst (xs.set j v)))
theorem set_list:WR X R5:=by
 intro pins s σ H o i v ov iv u Q I ro ri rv h
 obtain ⟨p,xs,k,j,rfl,rfl,hp,hj,q⟩:=h
 cases ro
 obtain ⟨t,rfl⟩:=ri
 obtain ⟨its,n,r,ho,hz⟩:=I.lst hp
 obtain ⟨h1,h2,h3,h4⟩:=Df hj
 have hl:=r.length
 have hn:=mG
 have I':Inv X pins σ (upd H p (.lst (xs.set j v))) { s with heap:=s.heap.update p (Obj.mapSeq (·.setIfInBounds j u)) } :=
  I.Tg hp ho (Ao its n j u) (r.set rv j) (by rw [List.length_set];exact hz) s.toks
 by_cases h0:0<=k
 ·have hk:k.toNat=j:=by
   rw [seqIndex_of h0 h4] at h1
   exact Option.some.inj h1
  exact PySem.W.ki_setAt ho h0 (by lia) (by rw [List.size_toArray,<- hl];exact h4) (by rw [hk];exact ⟨_,I',q⟩)
 ·have hk:(k+(its.toArray.size:Int)).toNat=j:=by
   rw [seqIndex_neg (by lia) h3] at h1
   rw [List.size_toArray,<- hl]
   exact Option.some.inj h1
  exact PySem.W.ki_setBack ho (by lia) (by rw [List.size_toArray,<- hl];exact h3) (by lia) (by rw [hk];exact ⟨_,I',q⟩)
theorem vQ (lo hi:Option Int) (n:Nat):(sliceBounds lo hi none n).1=((HT.cW n 0 lo:Nat):Int)/\(sliceBounds lo hi none n).2.1=((HT.cW n n hi:Nat):Int)/\(sliceBounds lo hi none n).2.2=1:=by
 refine ⟨?_,?_,rfl⟩
 ·cases lo with
  | none=>simp [sliceBounds,HT.cW]
  | some i =>
   simp only [sliceBounds,HT.cW,Option.getD_none,show (1:Int) > 0 by decide,if_true]
   by_cases h:i<0
   ·simp only [h,if_true] <;> lia
   ·simp only [h,if_false] <;> lia
 ·cases hi with
  | none=>simp [sliceBounds,HT.cW]
  | some i =>
   simp only [sliceBounds,HT.cW,Option.getD_none,show (1:Int) > 0 by decide,if_true]
   by_cases h:i<0
   ·simp only [h,if_true] <;> lia
   ·simp only [h,if_false] <;> lia
theorem tR (its:List Value) (lo hi:Option Int):slicePick its.toArray lo hi none=((its.drop (HT.cW its.length 0 lo)).take (HT.cW its.length its.length hi - HT.cW its.length 0 lo)).toArray:=by
 obtain ⟨h1,h2,h3⟩:=vQ lo hi its.toArray.size
 unfold slicePick
 rw [h1,h2,h3]
 simp only [sliceRange_one,pick_run,List.size_toArray] <;> rfl
def Xg (K:PySem.W.Frag):V->Option Int->Option Int->Hp->VK->Prop:=fun x lo hi H Q=>∃ a xs,x=.ref a/\bD K H a xs/\∀ p,H p=none->Q (.ref p) (upd H p (.lst (dg xs lo hi)))
theorem nA:Wh X (Xg X.K):=by
 intro pins s σ H x v vl vu lo hi sl Q I rx hs pl pu h
 obtain ⟨a,xs,rfl,hx,q⟩:=h
 cases rx
 obtain ⟨its,r,ht,hz⟩:=I.list hx
 have hlen:=r.length
 refine ⟨"list",_,slot_list_getitem.lookup,ht.isList.typeIs,?_⟩
 refine wpAny_getItem_list_slice ht.isList hs pl pu .none (by simp) ?_ (by rw [List.size_toArray] <;> lia)
 rw [tR,<- hlen]
 refine ⟨.ref s.heap.objs.size,_,I.laid (t':=s.toks) (o:=.lst (dg xs lo hi)) (fun b ob q=>Heap.get?_push_of_some _ q) (Nat.le_refl _) ?_,rfl,q _ (I.hok.fresh (Nat.le_refl _))⟩
 exact ⟨Nat.le_trans (iG xs lo hi) hz,_,0,(r.drop (HT.cW xs.length 0 lo)).take (HT.cW xs.length xs.length hi - HT.cW xs.length 0 lo),Heap.get?_push_size _ rfl⟩
def lZ:V->Bool
 | .non=>true
 | .bl _=>true
 | .int _=>true
 | .str _=>true
 | _=>false
def R6:V->V->Bool
 | .non,.non=>true
 | .bl a,.bl b=>a==b
 | .bl a,.int b=>(if a then 1 else 0)==b
 | .int a,.bl b=>a==(if b then 1 else 0)
 | .int a,.int b=>a==b
 | .str a,.str b=>a==b
 | _,_=>false
theorem Ti {x:V}{v:Value} (ry:RelV y u) (rx:RelV x v) (fy:lZ y=true) (fx:lZ x=true):SeqAt.EqAt A s u v (R6 y x):=by
 cases y with
 | non =>
  cases ry
  cases x with
  | non=>cases rx;exact SeqAt.EqAt.same _
  | bl b=>cases rx;exact SeqAt.EqAt.none_bool b
  | int b=>obtain ⟨t,rfl⟩:=rx;exact SeqAt.EqAt.none_int b t
  | str b=>obtain ⟨t,rfl⟩:=rx;exact SeqAt.EqAt.none_str b t
  | _=>exact absurd (show false=true from fx) Bool.false_ne_true
 | bl a =>
  cases ry
  cases x with
  | non=>cases rx;exact SeqAt.EqAt.bool_none a
  | bl b=>cases rx;exact SeqAt.EqAt.bool_bool a b
  | int b=>obtain ⟨t,rfl⟩:=rx;exact SeqAt.EqAt.bool_int a b t
  | str b=>obtain ⟨t,rfl⟩:=rx;exact SeqAt.EqAt.bool_str a b t
  | _=>exact absurd (show false=true from fx) Bool.false_ne_true
 | int a =>
  obtain ⟨t',rfl⟩:=ry
  cases x with
  | non=>cases rx;exact SeqAt.EqAt.int_none a t'
  | bl b=>cases rx;exact SeqAt.EqAt.int_bool a t' b
  | int b=>obtain ⟨t,rfl⟩:=rx;exact SeqAt.EqAt.int_int a t' b t
  | str b=>obtain ⟨t,rfl⟩:=rx;exact SeqAt.EqAt.int_str a t' b t
  | _=>exact absurd (show false=true from fx) Bool.false_ne_true
 | str a =>
  obtain ⟨t',rfl⟩:=ry
  cases x with
  | non=>cases rx;exact SeqAt.EqAt.str_none a t'
  | bl b=>cases rx;exact SeqAt.EqAt.str_bool a t' b
  | int b=>obtain ⟨t,rfl⟩:=rx;exact SeqAt.EqAt.str_int a t' b t
  | str b=>obtain ⟨t,rfl⟩:=rx;exact SeqAt.EqAt.str_str a t' b t
  | _=>exact absurd (show false=true from fx) Bool.false_ne_true
 | _=>exact absurd (show false=true from fy) Bool.false_ne_true
def Aq (x:V) (u:Value):Bool:=match u with
 | .none=>R6 .non x
 | .bool b=>R6 (.bl b) x
 | .int i _=>R6 (.int i) x
 | .str z _=>R6 (.str z) x
 | _=>false
theorem Ij {x:V} (r:RelV y u) (f:lZ y=true):Aq x u=R6 y x:=by
 cases y with
 | non=>cases r;rfl
 | bl b=>cases r;rfl
 | int i=>obtain ⟨t,rfl⟩:=r;rfl
 | str z=>obtain ⟨t,rfl⟩:=r;rfl
 | _=>exact absurd (show false=true from f) Bool.false_ne_true
theorem nD {x:V}:∀ {xs:List V}{us:List Value},Vals xs us->xs.all lZ=true->us.any (Aq x)=xs.any fun y=>R6 y x
 | _,_,.nil,_=>rfl
 | y::xs,u::us,.cons r t,f=>by
  rw [List.all_cons,Bool.and_eq_true] at f
  rw [List.any_cons,List.any_cons,Ij r f.1,nD t f.2]
theorem jP {x:V}{v:Value} (rx:RelV x v) (fx:lZ x=true):∀ {xs:List V}{us:List Value},Vals xs us->xs.all lZ=true->∀ u∈us,SeqAt.EqAt A s u v (Aq x u)
 | _,_,.nil,_=>fun u hu=>by cases hu
 | y::xs,u::us,.cons r t,f=>fun u' hu=>by
  rw [List.all_cons,Bool.and_eq_true] at f
  rcases List.mem_cons.mp hu with rfl | hu
  ·rw [Ij r f.1];exact Ti r rx f.1 fx
  ·exact jP rx fx t f.2 u' hu
def inV (x:V) (xs:List V):Bool:=xs.any fun y=>R6 y x
def rIn (K:PySem.W.Frag) (neg:Bool):R2:=fun x y H Q=>∃ p xs,y=.ref p/\(bD K H p xs\/bG K H p xs)/\lZ x=true/\xs.all lZ=true/\Q (.bl (if neg then !inV x xs else inV x xs)) H
theorem lg:jC X (compareOp .In) (rIn X.K false):=by
 intro pins s σ H x y v u Q I rx ry h
 obtain ⟨p,xs,rfl,hq,fx,fs,q⟩:=h
 cases ry
 rcases hq with hq | hq
 ·obtain ⟨its,r,pl,hz⟩:=I.list hq
  refine SeqAt.in_listAt (Aq x) pl.isList (fun w hw=>jP rx fx r fs w (by simpa using hw)) ⟨.bl _,H,I,rfl,?_⟩
  rw [show its.toArray.any (Aq x)=its.any (Aq x) by simp,nD r fs]
  exact q
 ·obtain ⟨its,r,pl,hz⟩:=I.tuple hq
  refine SeqAt.in_tupleAt (Aq x) pl (fun w hw=>jP rx fx r fs w (by simpa using hw)) ⟨.bl _,H,I,rfl,?_⟩
  rw [show its.toArray.any (Aq x)=its.any (Aq x) by simp,nD r fs]
  exact q
theorem jt:jC X (compareOp .NotIn) (rIn X.K true):=by
 intro pins s σ H x y v u Q I rx ry h
 obtain ⟨p,xs,rfl,hq,fx,fs,q⟩:=h
 cases ry
 rcases hq with hq | hq
 ·obtain ⟨its,r,pl,hz⟩:=I.list hq
  refine SeqAt.notIn_listAt (Aq x) pl.isList (fun w hw=>jP rx fx r fs w (by simpa using hw)) ⟨.bl _,H,I,rfl,?_⟩
  rw [show its.toArray.any (Aq x)=its.any (Aq x) by simp,nD r fs]
  exact q
 ·obtain ⟨its,r,pl,hz⟩:=I.tuple hq
  refine SeqAt.notIn_tupleAt (Aq x) pl (fun w hw=>jP rx fx r fs w (by simpa using hw)) ⟨.bl _,H,I,rfl,?_⟩
  rw [show its.toArray.any (Aq x)=its.any (Aq x) by simp,nD r fs]
  exact q
theorem bY:dB X (.builtin "len") (fun xs H Q=>∃ p ys,xs=[.ref p]/\(bD X.K H p ys\/bG X.K H p ys)/\Q (.int ys.length) H):=by
 intro pins s σ H xs us Q I r h
 obtain ⟨p,ys,rfl,hq,q⟩:=h
 obtain ⟨u,rfl,rx⟩:=vals1 r
 cases rx
 have hn:=mG
 rcases hq with hq | hq
 ·obtain ⟨its,r',pl,hz⟩:=I.list hq
  have hlen:=r'.length
  exact Calls.call_len_list pl.isList (by simp only [List.size_toArray] <;> lia) ⟨.int ys.length,H,I.tok _,⟨s.toks+1,by rw [List.size_toArray,hlen]⟩,q⟩
 ·obtain ⟨its,r',pl,hz⟩:=I.tuple hq
  have hlen:=r'.length
  exact len_tuple pl (by simp only [List.size_toArray] <;> lia) ⟨.int ys.length,H,I.tok _,⟨s.toks+1,by rw [List.size_toArray,hlen]⟩,q⟩
theorem gH:dB X (.builtin "len") (fun xs H Q=>∃ z,xs=[.str z]/\z.length<=sizeLine/\Q (.int z.length) H):=by
 intro pins s σ H xs us Q I r h
 obtain ⟨z,rfl,hz,q⟩:=h
 obtain ⟨u,rfl,t,rfl⟩:=vals1 r
 have hn:=mG
 exact len_str (by lia) ⟨.int z.length,H,I.tok _,⟨_,rfl⟩,q⟩
theorem dM:dB X (.type "list") (fun xs H Q=>∃ p ys,xs=[.ref p]/\(bD X.K H p ys\/bG X.K H p ys)/\∀ l,H l=none->Q (.ref l) (upd H l (.lst ys))):=by
 intro pins s σ H xs us Q I r h
 obtain ⟨p,ys,rfl,hq,q⟩:=h
 obtain ⟨u,rfl,rx⟩:=vals1 r
 cases rx
 have fin:∀ (its:List Value),Vals ys its->ys.length<=sizeLine->∀ (h':Heap) (c':Nat),(∀ b o',s.heap.get? b=some o'->h'.get? b=some o') ->
   h'.get? s.heap.objs.size=some { cls:=.type "list",dict:=none,data:=.seq its.toArray c',slots:=#[] }->EP X pins σ Q (.ref s.heap.objs.size) { s with heap:=h' }:=fun its r' hz h' c' kp e =>
  ⟨.ref s.heap.objs.size,_,I.laid (t':=s.toks) kp (Nat.le_refl _) (show cA X.prog X.w _ h' _ (.lst ys) from ⟨hz,its,c',r',e⟩),rfl,q _ (I.hok.fresh (Nat.le_refl _))⟩
 rcases hq with hq | hq
 ·obtain ⟨its,r',pl,hz⟩:=I.list hq
  have hlen:=r'.length
  obtain ⟨o,ho,hc,n,hd⟩:=pl.isList
  exact call_list_seq p (.inl rfl) ho hc hd (fun h' c' kp e=>fin its r' hz h' c' kp e) (by simp only [List.size_toArray] <;> lia)
 ·obtain ⟨its,r',pl,hz⟩:=I.tuple hq
  have hlen:=r'.length
  obtain ⟨o,ho,hc,n,hd⟩:=pl
  exact call_list_seq p (.inr rfl) ho hc hd (fun h' c' kp e=>fin its r' hz h' c' kp e) (by simp only [List.size_toArray] <;> lia)
theorem tU:dB X (.type "tuple") (fun xs H Q=>∃ p ys,xs=[.ref p]/\((bD X.K H p ys/\∀ l,H l=none->Q (.ref l) (upd H l (.tup ys)))\/(bG X.K H p ys/\Q (.ref p) H))):=by
 intro pins s σ H xs us Q I r h
 obtain ⟨p,ys,rfl,h⟩:=h
 obtain ⟨u,rfl,rx⟩:=vals1 r
 cases rx
 rcases h with ⟨hq,q⟩ | ⟨hq,q⟩
 ·obtain ⟨its,r',pl,hz⟩:=I.list hq
  have hlen:=r'.length
  refine call_tuple_list pl.isList (fun h' kp=>?_) (by simp only [List.size_toArray] <;> lia)
  have I1:Inv X pins σ H { s with heap:=h' }:=I.kept (t':=s.toks) kp
  have I2:Inv X pins σ (upd H h'.objs.size (.tup ys)) { s with heap:=h'.push { cls:=.type "tuple",data:=.seq its.toArray } } :=
   I1.laid (t':=s.toks) (fun b o e=>Heap.get?_push_of_some _ e) (Nat.le_refl _) (show cA X.prog X.w _ _ _ (.tup ys) from ⟨hz,its,r',IsTup.new _ _⟩)
  exact ⟨.ref h'.objs.size,_,I2,rfl,q _ (I1.hok.fresh (Nat.le_refl _))⟩
 ·obtain ⟨its,r',pl,hz⟩:=I.tuple hq
  exact call_tuple_same pl ⟨.ref p,H,I,rfl,q⟩
def tyV (K:PySem.W.Frag) (T:String) (x:V) (H:Hp):Prop:=match x with
 | .str _=>T="str"
 | .int _=>T="int"
 | .ref p=>(T="list"/\∃ xs,bD K H p xs)\/(T="tuple"/\∃ o,K.lookup p=some o/\o.cls=.type "tuple"/\o.dict=none) \/
   (T="dict"/\((∃ kvs,H p=some (.dK kvs))\/∃ kvs,H p=some (.dT kvs)))\/(T="set"/\∃ S n,H p=some (.set S n))
 | _=>False
theorem Ik {x:V}{v:Value} (I:Inv X pins σ H s) (r:RelV x v) (ty:tyV X.K T x H) :
  s.TypeIs v T/\∀ a,v=.ref a->∃ ob,s.heap.get? a=some ob/\ob.dict=none:=by
 cases x with
 | str z =>
  obtain ⟨t,rfl⟩:=r
  cases (show T="str" from ty)
  exact ⟨typeIs_str s z t,fun _ e=>nomatch e⟩
 | int i =>
  obtain ⟨t,rfl⟩:=r
  cases (show T="int" from ty)
  exact ⟨typeIs_int s i t,fun _ e=>nomatch e⟩
 | ref p =>
  cases r
  rcases ty with ⟨rfl,xs,hq⟩ | ⟨rfl,o,hk,hc,hd⟩ | ⟨rfl,hk⟩ | ⟨rfl,S,n,hk⟩
  ·obtain ⟨its,_,pl,_⟩:=I.list hq
   refine ⟨pl.isList.typeIs,fun a e=>?_⟩
   cases e
   obtain ⟨o,n,e,c,hd,_⟩:=pl
   exact ⟨o,e,hd⟩
  ·refine ⟨⟨o,I.lV p o hk,hc⟩,fun a e=>?_⟩
   cases e
   exact ⟨o,I.lV _ o hk,hd⟩
  ·have z:∃ o,s.heap.get? p=some o/\o.ExactDict:=by
    rcases hk with ⟨kvs,hk⟩ | ⟨kvs,hk⟩
    ·obtain ⟨_,_,_,_,o,_,_,e,ex,_⟩:=I.hok p _ hk
     exact ⟨o,e,ex⟩
    ·obtain ⟨_,_,_,_,o,_,_,e,ex,_⟩:=I.hok p _ hk
     exact ⟨o,e,ex⟩
   obtain ⟨o,e,ex⟩:=z
   refine ⟨⟨o,e,ex.1⟩,fun a e2=>?_⟩
   cases e2
   exact ⟨o,e,ex.2.1⟩
  ·obtain ⟨o,_,_,_,e,ex,_⟩:=I.hok p _ hk
   refine ⟨⟨o,e,ex.1⟩,fun a e2=>?_⟩
   cases e2
   exact ⟨o,e,ex.2.1⟩
 | _=>exact False.elim ty
def tBM0 (K:PySem.W.Frag) (T:String) (r:V->List V->Hp->VK->Prop) (to:TE):TE:=fun σ H Q=>to σ H fun x H1=>tyV K T x H1/\r x [] H1 Q
def tBM (K:PySem.W.Frag) (T:String) (r:V->List V->Hp->VK->Prop) (to:TE) (t:TA):TE:=fun σ H Q=>to σ H fun x H1=>tyV K T x H1/\t σ H1 fun xs H2=>r x xs H2 Q
variable {o:Expr}{id:String}{r:V->List V->Hp->VK->Prop}
theorem rB (pa:PlainAttrs T) (slot:Slot T name id) (hty:typeOf (.builtin id)=pure (.type "method_descriptor")) (hm:MtR X id r) (ho:PE X o to)
  (hbase:attributeBase o name X.env (eval o X.env)=eval o X.env:=by rfl) (hline:(apos.endLine==cpos.line)=true:=by rfl):PE X (.Call (.Attribute o name apos) [] [] cpos) (tBM0 X.K T r to):=by
 intro pins s σ H Q I h
 refine wpAny_Call_method0_late hbase hline (cF (ho pins s σ H _ I h) fun v s1 zq=>?_)
 obtain ⟨x,H1,I1,r1,ty,q1⟩:=zq
 obtain ⟨h1,h2⟩:=Ik I1 r1 ty
 exact ⟨T,id,pa,slot,hty,h1,h2,Calls.callWith_builtin rfl (PySem.evalArgs_none (hm pins s1 σ H1 x [] v [] Q I1 r1 .nil q1))⟩
theorem iH (pa:PlainAttrs T) (slot:Slot T name id) (hty:typeOf (.builtin id)=pure (.type "method_descriptor")) (hm:MtR X id r) (ho:PE X o to) (ha:PA X (e::es) t)
  (hbase:attributeBase o name X.env (eval o X.env)=eval o X.env:=by rfl)
  (hfew:((backTo cpos (starEach (e::es) X.env)).all (fun x=>!x.1)&&(backToKw cpos (keywordEach [] X.env)).all (fun x=>x.1.isSome)
   &&decide ((e::es).length+([]:List Keyword).length+(if ([]:List Keyword).isEmpty then 0 else 1)<30))=true:=by rfl)
  (hline:(apos.endLine==cpos.line)=true:=by rfl) (hs:starEach (e::es) X.env=(false,eval e X.env)::starEach es X.env:=by rfl) (hplain:(backTo cpos (starEach es X.env)).any (·.1)=false:=by rfl) :
  PE X (.Call (.Attribute o name apos) (e::es) [] cpos) (tBM X.K T r to t):=by
 intro pins s σ H Q I h
 refine wpAny_Call_method_late hbase hfew hline rfl (cF (ho pins s σ H _ I h) fun v s1 zq=>?_)
 obtain ⟨x,H1,I1,r1,ty,q1⟩:=zq
 obtain ⟨h1,h2⟩:=Ik I1 r1 ty
 refine ⟨T,id,pa,slot,hty,h1,h2,?_⟩
 have hA:=ha cpos pins s1 σ H1 _ I1 q1
 rw [hs] at hA ⊢
 refine Calls.callWith_builtin (by show (false||(backTo cpos (starEach es X.env)).any (·.1))=false;rw [hplain] <;> rfl) (Calls.evalArgs_plain ?_)
 exact cF hA fun us s2 ⟨vs,H2,I2,r2,q2⟩=>hm pins s2 σ H2 x vs v us Q I2 r1 r2 q2
end
def MtM (X:Cx) (id:String) (r:V->List V->Hp->VK->Prop):Prop :=
 ∀ (pins:List (Addr×Obj)) (s:Shared) (σ:St) (H:Hp) (x:V) (xs:List V) (v:Value) (us:List Value) (Q:VK),Inv X pins σ H s->RelV x v->Vals xs us->r x xs H Q ->
  wpAny (model X.prog X.w) X.A (call (.builtin id) (v::us)) (EP X pins σ Q) X.xe s
theorem Vals.one:∀ {x:V}{us:List Value},Vals [x] us->∃ u,us=[u]/\RelV x u
 | _,_,.cons r .nil=>⟨_,rfl,r⟩
theorem Vals.zero:∀ {us:List Value},Vals [] us->us=[]
 | _,.nil=>rfl
theorem Vals.dropLast (h:Vals xs us):Vals xs.dropLast us.dropLast:=by
 induction h with
 | nil=>exact .nil
 | cons r t ih =>
  cases t with
  | nil=>exact .nil
  | cons q t'=>exact .cons r ih
theorem Vals.rep (h:Vals xs us):∀ k:Nat,Vals (List.replicate k xs).flatten (List.replicate k us).flatten
 | 0=>.nil
 | k+1=>by
  rw [List.replicate_succ,List.replicate_succ,List.flatten_cons,List.flatten_cons]
  exact Vals.append h (Vals.rep h k)
theorem Ar {α:Type} (l:List α):l.eraseIdx (l.length - 1)=l.dropLast:=by
 induction l with
 | nil=>rfl
 | cons a r ih =>
  cases r with
  | nil=>rfl
  | cons b r =>
   have e:(a::b::r).length - 1=((b::r).length - 1)+1:=by
    have h1:(a::b::r).length=r.length+2:=rfl
    have h2:(b::r).length=r.length+1:=rfl
    lia
   rw [e,List.eraseIdx_cons_succ,ih]
   all_goals rfl
theorem foldl_rep (its:List Value):∀ (k:Nat) (acc:List Value),
  List.foldl (fun x1 x2=>x1++x2) acc.toArray (List.replicate k its.toArray)=(acc++(List.replicate k its).flatten).toArray
 | 0,acc=>by simp
 | k+1,acc=>by
  have e:acc.toArray++its.toArray=(acc++its).toArray:=by simp
  have e2:(acc++its)++(List.replicate k its).flatten=acc++(List.replicate (k+1) its).flatten:=by
   rw [List.replicate_succ,List.flatten_cons,List.append_assoc]
  rw [<- e2,<- foldl_rep its k (acc++its),<- e,List.replicate_succ,List.foldl_cons]
section
variable {zs:List V}
theorem Inv.Tj {its':List Value}{f:Array Value->Array Value} (I:Inv X pins σ H s) (hH:H l=some (.lst xs))
  (e:s.heap.get? l=some { cls:=.type "list",data:=.seq its.toArray n }) (hf:f its.toArray=its'.toArray) (hv:Vals ys its') (hz:ys.length<=sizeLine) :
  Inv X pins σ (upd H l (.lst ys)) { s with heap:=s.heap.update l (Obj.mapSeq f),toks:=t' }:=by
 have q:=PySem.IsL.update e f
 rw [hf] at q
 refine I.write (x:=l) (e:=l) (by rw [hH];exact trivial) (.inl rfl) (fun b' u hb hu=>(Heap.get?_update_other s.heap (Obj.mapSeq f) (Ne.symm hb)).trans hu) ⟨_,q⟩ ?_
 exact ⟨hz,its',_,hv,q⟩
theorem Inv.Xh (I:Inv X pins σ H s) (hv:Vals ys its) (hz:ys.length<=sizeLine) :
  Inv X pins σ (upd H s.heap.objs.size (.lst ys)) { s with heap:=s.heap.push { cls:=.type "list",data:=.seq its.toArray },toks:=t' } :=
 I.laid (fun _ _ q=>Heap.get?_push_of_some _ q) (Nat.le_refl _) ⟨hz,its,0,hv,Heap.get?_push_size _ rfl⟩
theorem Inv.fresh (I:Inv X pins σ H s):H s.heap.objs.size=none:=I.hok.fresh (Nat.le_refl _)
theorem Inv.Fq (I:Inv X pins σ H s) (hH:H l=some (.lst xs)):xs.length<=sizeLine/\∃ (its:List Value) (n:Nat),Vals xs its/\xs.length=its.length/\s.heap.get? l=some { cls:=.type "list",data:=.seq its.toArray n }:=by
 obtain ⟨z,its,n,r,e⟩:=I.hok l _ hH
 exact ⟨z,its,n,r,r.length,e⟩
theorem Il (h:n<=sizeLine):Builtin.List.listTooLong n=false:=by
 unfold Builtin.List.listTooLong
 exact decide_eq_false (by lia)
end
def Nt:V->List V->Hp->VK->Prop:=fun x vs H Q=>∃ l xs y,x=.ref l/\vs=[y]/\H l=some (.lst xs)/\xs.length<sizeLine/\Q .non (upd H l (.lst (xs++[y])))
theorem cL:MtM X "list.append" Nt:=by
 intro pins s σ H x vs v us Q I rx rv h
 obtain ⟨l,xs,y,rfl,rfl,hH,hz,q⟩:=h
 cases rx
 obtain ⟨u,rfl,ru⟩:=rv.one
 obtain ⟨z,its,n,r,hl,e⟩:=I.Fq hH
 refine call_meets F.slot_list_append ⟨_,e,rfl⟩ F.entry_list_append (F.args_list_append_2 _ _) (PySem.list_append l its.toArray n u (by rw [List.size_toArray];lia)) ⟨e,?_⟩
 refine ⟨.non,_,I.Tj (its':=its++[u]) hH e (by simp) (r.append (.cons ru .nil)) ?_,rfl,q⟩
 rw [iY,List.length_singleton]
 lia
def rPop:V->List V->Hp->VK->Prop:=fun x vs H Q=>∃ l xs y,x=.ref l/\vs=[]/\H l=some (.lst xs)/\xs[xs.length - 1]?=some y/\Q y (upd H l (.lst xs.dropLast))
theorem vR:MtM X "list.pop" rPop:=by
 intro pins s σ H x vs v us Q I rx rv h
 obtain ⟨l,xs,y,rfl,rfl,hH,hy,q⟩:=h
 cases rx
 have hus:=rv.zero
 subst hus
 obtain ⟨z,its,n,r,hl,e⟩:=I.Fq hH
 obtain ⟨u,hu,ru⟩:=r.get hy
 have hy':its.toArray[its.toArray.size - 1]?=some u:=by
  show its.toArray[its.length - 1]?=some u
  rw [<- Array.getElem?_toList,<- hl]
  exact hu
 refine call_meets F.slot_list_pop ⟨_,e,rfl⟩ F.entry_list_pop (F.args_list_pop_1 _) (MeetsSeq.list_pop_last l its.toArray n u hy' (by rw [List.size_toArray];lia)) ⟨e,?_⟩
 refine ⟨y,_,I.Tj (its':=its.dropLast) hH e ?_ r.dropLast ?_,ru,q⟩
 ·show its.toArray.eraseIdxIfInBounds (its.toArray.size - 1)=its.dropLast.toArray
  rw [List.size_toArray,List.eraseIdxIfInBounds_toArray,Ar]
 ·rw [List.length_dropLast]
  lia
def Tp:V->List V->Hp->VK->Prop:=fun x vs H Q=>∃ l xs,x=.ref l/\vs=[]/\H l=some (.lst xs)/\Q .non (upd H l (.lst []))
theorem Im:MtM X "list.clear" Tp:=by
 intro pins s σ H x vs v us Q I rx rv h
 obtain ⟨l,xs,rfl,rfl,hH,q⟩:=h
 cases rx
 have hus:=rv.zero
 subst hus
 obtain ⟨z,its,n,r,hl,e⟩:=I.Fq hH
 refine call_meets F.slot_list_clear ⟨_,e,rfl⟩ F.entry_list_clear (F.args_list_clear_1 _) (AutoSeq1.list_clear_list_0 l its.toArray n (by rw [List.size_toArray];lia)) ⟨e,?_⟩
 exact ⟨.non,_,I.Tj (its':=[]) (ys:=[]) hH e rfl .nil (Nat.zero_le _),rfl,q⟩
def rCat:R2:=fun x y H Q=>∃ l b xs zs,x=.ref l/\y=.ref b/\H l=some (.lst xs)/\H b=some (.lst zs)/\xs.length+zs.length<=sizeLine/\∀ p,H p=none->Q (.ref p) (upd H p (.lst (xs++zs)))
theorem vU:jC X (binaryOp .Add) rCat:=by
 intro pins s σ H x y v u Q I rx ry h
 obtain ⟨l,b,xs,zs,rfl,rfl,hH,hB,hz,q⟩:=h
 cases rx
 cases ry
 obtain ⟨z,its,n,r,hl,e⟩:=I.Fq hH
 obtain ⟨z2,its2,n2,r2,hl2,e2⟩:=I.Fq hB
 refine PySem.P.add_list e e2 ?_ (by rw [List.size_toArray,List.size_toArray];lia)
 have ea:its.toArray++its2.toArray=(its++its2).toArray:=by simp
 rw [ea]
 exact ⟨.ref _,_,I.Xh (t':=s.toks) (r.append r2) (by rw [iY];lia),rfl,q _ I.fresh⟩
def rRep:R2:=fun x y H Q=>∃ l k xs,x=.ref l/\y=.int k/\H l=some (.lst xs)/\-(2 ^ 63)<=k/\k<2 ^ 63/\xs.length * k.toNat<=sizeLine /\
 ∀ p,H p=none->Q (.ref p) (upd H p (.lst (List.replicate k.toNat xs).flatten))
theorem len_rep {α:Type} (xs:List α) (k:Nat):(List.replicate k xs).flatten.length=k * xs.length:=by
 induction k with
 | zero=>simp
 | succ k ih=>rw [List.replicate_succ,List.flatten_cons,iY,ih,Nat.succ_mul,Nat.add_comm]
theorem Tq:jC X (binaryOp .Mult) rRep:=by
 intro pins s σ H x y v u Q I rx ry h
 obtain ⟨l,k,xs,rfl,rfl,hH,h1,h2,hz,q⟩:=h
 cases rx
 obtain ⟨t,rfl⟩:=ry
 obtain ⟨z,its,n,r,hl,e⟩:=I.Fq hH
 have hlen:its.toArray.size * k.toNat<=sizeLine:=by rw [List.size_toArray,<- hl];exact hz
 have hcap:¬ its.toArray.size * k.toNat > (2 ^ 63 - 1) / 8:=by
  have:(sizeLine:Nat)<=(2 ^ 63 - 1) / 8:=by decide
  lia
 have hfit:¬ (!Builtin.List.listFitsIndex k)=true:=by
  rw [fitsIndex_both h1 h2]
  exact Bool.false_ne_true
 have Xi:¬ Builtin.List.listTooLong (its.toArray.size * k.toNat)=true:=by
  rw [Il hlen]
  exact Bool.false_ne_true
 have hnew:List.foldl (fun x1 x2=>x1++x2) #[] (List.replicate (if its.toArray.isEmpty=true then 0 else k.toNat) its.toArray)=(List.replicate k.toNat its).flatten.toArray:=by
  have f0:∀ m:Nat,List.foldl (fun x1 x2=>x1++x2) #[] (List.replicate m its.toArray)=(List.replicate m its).flatten.toArray:=fun m=>by
   have:=foldl_rep its m []
   rw [List.nil_append] at this
   exact this
  rw [f0]
  cases its with
  | nil=>simp
  | cons a r'=>rw [if_neg (by simp)]
 refine wpAny_binaryOp_repeat_ref (T:="list") (U:="int") (by decide) ⟨_,e,rfl⟩ (fun s'=>typeIs_int s' k t) noFill_list_mul F.fills_int_mul F.slot_int_rmul repeat_list F.slot_int_index.lookup
  (call_meets F.slot_int_rmul (typeIs_int s k t) F.entry_int_rmul (F.args_int_rmul_2 _ _) (int___rmul___int_list k t l its.toArray n)
   ⟨e,rfl,⟨_,e,rfl⟩,call_meets F.slot_list_mul ⟨_,e,rfl⟩ F.entry_list_mul (F.args_list_mul_2 _ _) (AutoListH.list___mul___list_int_3 l its.toArray n k t hfit hcap Xi) ⟨e,?_⟩⟩)
 rw [hnew]
 exact ⟨.ref _,_,I.Xh (t':=s.toks) (r.rep k.toNat) (by rw [len_rep,Nat.mul_comm];exact hz),rfl,q _ I.fresh⟩
end L2
namespace Att
open PySem PySem.W PySem.Calls PyProof.Rows
theorem pY {P:Params}:∀ (ns:List Int) (vs:List Value),WellAll P h vs (ns.map WData.int)->IntsAre vs ns:=by
 intro ns
 induction ns with
 | nil =>
  intro vs w
  rw [List.map_nil] at w
  cases w
  exact .nil
 | cons n ns ih =>
  intro vs w
  rw [List.map_cons] at w
  cases w with
  | cons a b =>
   cases a
   exact .cons _ _ (ih _ b)
theorem Ft {l:OpenLaw} (hn:l.most=some n) {P:Params}{args:List WData}{vals:List Value}
  (hpre:l.row.toRowW.claim.pre args=true) (hwl:WellAll P h vals args) :
  ∃ a vs ns,vals=[Value.ref a]/\args=[WData.list (ns.map WData.int)]/\h.get? a=some { cls:=.type "list",data:=.seq vs.toArray }/\IntsAre vs ns/\ns.length<=n:=by
 have hsh:WShape.hasAll [] args [.list .int]=true:=(pre_splitW hpre).1
 have hc:l.pre.holds [] { args:=args }=true:=(pre_splitW hpre).2
 obtain ⟨d,r,rfl,h1,h2⟩:=hasAllW_cons hsh
 obtain rfl:=hasAllW_nil h2
 obtain ⟨xs,rfl,h3⟩:=hasW_list h1
 obtain ⟨ns,rfl⟩:=items_int h3
 have hlen:ns.length<=n:=by
  unfold OpenLaw.pre at hc
  have h4:(WTm.not (.lt (.lit (.int (n:Int))) (.len (.arg 0)))).holds [] { args:=[.list (ns.map .int)] }=true:=by
   have h4:=(holds_andW hc).1
   rw [hn] at h4
   exact h4
  have h5:=condW_of h4 (w_not (w_lt w_lit (w_len_list (w_arg rfl))))
  rw [bR] at h5
  refine Nat.le_of_not_lt fun q=>?_
  have q':(n:Int)<((ns.length:Nat):Int):=by lia
  first
   | (rw [decide_eq_true q'] at h5;exact absurd h5 (by decide))
   | (simp at h5;lia)
 cases hwl with
 | cons w1 w2 =>
  cases w2
  cases w1 with
  | list ho hall=>exact ⟨_,_,ns,rfl,rfl,ho,pY ns _ hall,hlen⟩
theorem Fv (l:OpenLaw) (args:List WData):l.row.toRowW.claim.post args (.bool true) args=true :=
 postW_of (r:=l.row.toRowW) (X:=(true==true))
  (show WShape.has [] (.bool true) .bool=true by first | rfl | decide | simp [WShape.has,WShape.arms,WShape.armsAll])
  (show (WTm.eq .res (.lit (.bool true))).value [] { args:=args,res:=some (.bool true),after:=args }=some (.bool (true==true)) from w_eq_bool (w_res rfl) w_lit) rfl
theorem yx {l:OpenLaw}{q:Program}{d:DefRec}
  (hn:l.most=some n) (hdf:d.params.defaults=[])
  (call:∀ (w:World) (s₀ s₁:Shared) (mg mb:Str->Option Value) (fa:Addr) (o:Obj) (pm cd doc:Value) (a:Addr) (vs:List Value) (ns:List Int),
   Ground q loose [] XP w s₀ mg mb s₁.heap->YP w s₁.heap ->
   s₁.heap.get? fa=some o->o.data=.func (docDef d.name d.params d.body d.scope pm cd doc)->s₁.heap.CodeRec cd d.name->mg d.name=some (.ref fa) ->
   s₁.heap.get? a=some { cls:=.type "list",data:=.seq vs.toArray }->IntsAre vs ns->ns.length<=n->s₁.gens=#[] ->
   codeAny (model l.prog w) callerA (.call (.ref fa) ⟨[.ref a],[]⟩) (fun r s'=>r=.ok (.ret (.bool true))/\OldK s₁.heap s'.heap/\s'.os=s₁.os/\AllBare s'.gens) s₁) :
  WalkO q loose XP YP l.row.toRowW d [] (fun f vs=>PySem.call f vs):=by
 intro w s₀ s₁ mg mb G Y fa o pm cd doc dV kV ho hd hcd hD hmg hg args vals as hpre hlay hrd hwl hlo
 obtain rfl:dV=.none:=Dflts.none hD hdf
 obtain rfl:kV=.none:=Dflts.noKw hD
 obtain ⟨a,vs,ns,rfl,rfl,hobj,hints,hlen⟩:=Ft hn hpre hwl
 refine enter_call (codeAny_mono (call w s₀ s₁ mg mb fa o pm cd doc a vs ns G Y ho (fd_plain hd) hcd hmg hobj hints hlen hg) fun r s' hq=>?_)
 obtain ⟨rfl,h2,h3,h4⟩:=hq
 exact ⟨.inl ⟨.bool true,.bool true,[],rfl,fun _=>rfl,.bool true,Fv l _,fun _=>⟨List.Pairwise.nil,fun _ hm=>(nomatch hm)⟩⟩,h2,h3,h4⟩
end Att
namespace L2
open PySem PySem.Spec PyProof.Rows
theorem uy:∀ {vs:List Value}{ns:List Int},IntsAre vs ns->Vals (ns.map V.int) vs
 | _,_,.nil=>.nil
 | _,_,.cons n t h=>.cons ⟨t,rfl⟩ (uy h)
def Only (H:Hp):Prop:=∀ b,H b=none\/∃ o xs,H b=some (.zV o (.lst xs))
theorem Io {mb:Str->Option Value}{k:Nat}{s₁:Shared}{vs:List Value}{ns:List Int}
  (KX:K.In s₁.heap) (hns:s₁.heap.Ns mainGlobals mg) (hb:s₁.heap.Ns builtinsNs mb) (hbb:∀ x:Str,x≠"__name__"->mb x=bootBuiltins x) (hlim:s₁.heap.NoLimit) (hg:s₁.gens=#[])
  (ha:s₁.heap.get? a=some { cls:=.type "list",data:=.seq vs.toArray }) (hi:IntsAre vs ns) (hl:ns.length<=sizeLine) (hr:cM k callerA)
  (F:∀ base:Heap,K.In base->base.Ns mainGlobals mg->bf P w K mg base CX k fa fd [x] sp) (hbind:∀ (s:Shared) (u:Value),BindsTo s fd ⟨[u],[]⟩ [(x,u)])
  (hsp:∀ H:Hp,Only H->bD K H a (ns.map V.int)->sp [.ref a] H (fun v _=>v=.bl true) fun _ _ _=>False)
  (hCX:∀ H e s',CX [] H s₁ (fun _ _ _=>False) e s'->False) :
  codeAny (model P w) callerA (.call (.ref fa) ⟨[.ref a],[]⟩) (fun r s'=>r=.ok (.ret (.bool true))/\OldK s₁.heap s'.heap/\s'.os=s₁.os/\AllBare s'.gens) s₁:=by
 have rv:=uy hi
 have lenV:=hi.length
 have core:∀ H:Hp,Only H->bD K H a (ns.map V.int)->jG P w H s₁.heap->(∀ b,H b≠none->b=a)->(H a≠none->K.lookup a=none) ->
   codeAny (model P w) callerA (.call (.ref fa) ⟨[.ref a],[]⟩) (fun r s'=>r=.ok (.ret (.bool true))/\OldK s₁.heap s'.heap/\s'.os=s₁.os/\AllBare s'.gens) s₁:=by
  intro H hO hS hok hA hK
  have Dg:∀ {b:Addr}{o:Obj},s₁.heap.get? b=some o->H b=none->(vJ s₁.heap H).get? b=some o:=fun e n=>Hq e n
  have Xd:∀ {b:Addr}{o:Obj}{es:Array DictEntry}{ep:Nat},s₁.heap.get? b=some o->o.data=.dict es ep->H b=none:=fun {b o es ep} e d=>by
   cases q:H b with
   | none=>rfl
   | some u =>
    have e':b=a:=hA b (by rw [q];simp)
    subst e'
    rw [ha] at e;cases e
    have d':Data.seq vs.toArray _=Data.dict es ep:=d
    cases d'
  have nsK:∀ {b:Addr}{m:Str->Option Value},s₁.heap.Ns b m->(vJ s₁.heap H).Ns b m:=fun {b m} ⟨o,es,ep,e,d,r⟩=>⟨o,es,ep,Dg e (Xd e d),d,r⟩
  have hKb:K.In (vJ s₁.heap H):=fun b o e=>Dg (KX b o e) (by
   cases q:H b with
   | none=>rfl
   | some u =>
    have e':b=a:=hA b (by rw [q];simp)
    subst e'
    rw [hK (by rw [q];simp)] at e;cases e)
  have hM:Mod K mg (vJ s₁.heap H):=⟨hKb,nsK hns,⟨mb,nsK hb,hbb⟩,let ⟨mc,h1,h2⟩:=hlim;⟨mc,nsK h1,h2⟩⟩
  have e0:Ak P w K mg (vJ s₁.heap H) callerA [] s₁ H:=⟨rfl,hM,fun b o e=>Nb e,Nat.le_of_eq (Fb _ _),trivial,fun b hb=>absurd (show b∈([]:List Addr) from hb) (by simp),hok,.of_eq hg⟩
  refine codeAny_mono ((F _ hKb (nsK hns)).run callerA [] s₁ H ⟨[.ref a],[]⟩ [.ref a] [.ref a] _ _ hr e0 (hbind s₁ (.ref a)) (.cons rfl .nil) (hsp H hO hS)) fun r s' h=>?_
  cases r with
  | error e=>exact (hCX H e s' h).elim
  | ok fl =>
   cases fl with
   | next=>exact False.elim h
   | brk=>exact False.elim h
   | cont=>exact False.elim h
   | ret u =>
    obtain ⟨v,H',os,bare,un,hok',r',q⟩:=h
    have q':v=.bl true:=q
    subst q'
    obtain rfl:u=Value.bool true:=r'
    refine ⟨rfl,OldK.of_keep fun b o e=>?_,os,bare⟩
    cases q:H b with
    | none=>exact un.keep b o e q (by intro z;exact absurd (show b∈([]:List Addr) from z) (by simp)) (by simp)
    | some u =>
     rcases hO b with z | ⟨ob,xs,z⟩
     ·rw [q] at z;cases z
     ·have z2:=un.nY b ob _ z
      obtain ⟨e1,_⟩:=hok b _ z
      obtain ⟨e2,_⟩:=hok' b _ z2
      rw [e] at e1;cases e1
      exact e2
 cases hk:K.lookup a with
 | some o =>
  have e:=KX a o hk
  rw [ha] at e
  cases e
  refine core (fun _=>none) (fun _=>.inl rfl) (.inr ⟨_,vs.toArray,_,hk,rfl,rfl,rfl,by rw [List.size_toArray,lenV];exact hl,by simpa using rv⟩) (fun b u z=>by have z':(none:Option HO)=some u:=z;cases z') (fun b z=>absurd rfl z) fun z=>absurd rfl z
 | none =>
  refine core (fun b=>if b=a then some (.zV { cls:=.type "list",data:=.seq vs.toArray } (.lst (ns.map V.int))) else none) (fun b=>?_) (.inl (.inr ⟨{ cls:=.type "list",data:=.seq vs.toArray },if_pos rfl⟩)) (fun b u z=>?_) (fun b z=>?_) fun _=>hk
  ·by_cases hb:b=a
   ·exact .inr ⟨_,_,if_pos hb⟩
   ·exact .inl (if_neg hb)
  ·by_cases hb:b=a
   ·have z':=(if_pos hb).symm.trans z
    cases z'
    subst hb
    exact ⟨ha,by rw [bR];exact hl,vs,_,rv,ha⟩
   ·have z':=(if_neg hb).symm.trans z
    cases z'
  ·by_cases hb:b=a
   ·exact hb
   ·exact absurd (if_neg hb) z
theorem Nu {l:PySem.W.OpenLaw}{k:Nat}{q:Program}{d:DefRec}{K:Params->PySem.W.Frag}{CX:World->CZ}{sp:World->Sp}
  (hn:l.most=some n) (hn2:n<=sizeLine) (hdf:d.params.defaults=[]) (hr:cM k callerA)
  (hY:∀ (w:World) (h:Heap),YP w h->(K w.params).In h)
  (F:∀ (w:World) (mg:Str->Option Value) (fa:Addr) (h:Heap),(K w.params).In h->h.Ns mainGlobals mg->mg d.name=some (.ref fa) ->
   ∃ fd:FuncData,(∀ (s:Shared) (u:Value),BindsTo s fd ⟨[u],[]⟩ [(x,u)]) /\
    ∀ base:Heap,(K w.params).In base->base.Ns mainGlobals mg->bf l.prog w (K w.params) mg base (CX w) k fa fd [x] (sp w))
  (hsp:∀ (w:World) (H:Hp) (a:Addr) (ns:List Int),ns.length<=n->Only H->bD (K w.params) H a (ns.map V.int)->sp w [.ref a] H (fun v _=>v=.bl true) fun _ _ _=>False)
  (hCX:∀ (w:World) (H:Hp) (s:Shared) (e:Value) (s':Shared),CX w [] H s (fun _ _ _=>False) e s'->False) :
  PySem.W.WalkO q loose XP YP l.row.toRowW d [] (fun f vs=>PySem.call f vs):=by
 refine Att.yx hn hdf fun w s₀ s₁ mg mb fa o pm cd doc a vs ns G Y ho hd hcd hmg hobj hints hlen hg=>?_
 have KX:=hY w _ Y
 obtain ⟨fd,hb,hF⟩:=F w mg fa _ KX G.T.g hmg
 exact Io KX G.T.g G.T.b G.T.builtins G.T.nolimit hg hobj hints (Nat.le_trans hlen hn2) hr hF hb (fun H hO hS=>hsp w H a ns hlen hO hS) fun H e s'=>hCX w H s₁ e s'
def inClass (s:Stmt) (j:Nat):Stmt:=match s with
 | .ClassDef _ _ _ body _ _ _ _ _ _ _=>body.getD j (.Pass ⟨0,0,0,0⟩)
 | _=>.Pass ⟨0,0,0,0⟩
def aW (s:Stmt):Arguments:=match s with
 | .FunctionDef _ a _ _ _ _ _ _ _ _=>a
 | _=>{ posonlyargs:=[],args:=[],vararg:=none,kwonlyargs:=[],kw_defaults:=[],kwarg:=none,defaults:=[] }
def aR (s:Stmt):List Stmt:=match s with
 | .FunctionDef _ _ b _ _ _ _ _ _ _=>b
 | _=>[]
def aA (s:Stmt):Scope:=match s with
 | .FunctionDef _ _ _ _ _ _ sc _ _ _=>sc
 | _=>{ kind:=.function,names:=[],isGenerator:=false,isCoroutine:=false }
abbrev dj:CZ:=fun _ _ _ _ _ _=>False
abbrev E0:XK:=fun _ _ _=>False
theorem bW:Passes dj X E0:=fun _ _ _ _ _ _ _ h=>h.elim
structure iC (K:PySem.W.Frag) (x qual:Str) (st:Stmt) (f:Addr) (fd:FuncData):Prop where
 ex:∃ (oc:Value) (od:Option Addr) (kV doc pm:Value) (an:Option Addr) (cdv ct:Value) (osl:Array (Option Value)),
  fd=PySem.W.fnOf x qual (aW st) (aR st) (aA st) .none kV doc pm an cdv ct/\K.lookup f=some ⟨oc,od,.func fd,osl⟩/\PySem.W.codeIn K cdv qual=true
 kp:PySem.W.keepIn K (.ref f)=true
theorem iC.ok {k:Nat} (F:iC K x qual st f fd) (S:aY N ps (aA st)) (len:∀ vs H Q E,sp vs H Q E->vs.length=ps.length)
  (hbody:∀ (cdv:Value) (A:Around) (outer:List Env) (s:Shared) (H:Hp) (vs:List V) (Q:VK) (E:XK),cM k (A.deeper (envOfC qual (aA st) s.heap.objs.size f cdv))->sp vs H Q E ->
   ∃ t,xZ (oE dj P w K mg base N qual (aA st) f cdv A outer s H E).nox (aR st) t/\t { nx:=fun _ H'=>Q .non H',rt:=Q } (start N vs) H):bf P w K mg base dj (k+1) f fd ps sp:=by
 obtain ⟨oc,od,kV,doc,pm,an,cdv,ct,osl,rfl,lk,hcd⟩:=F.ex
 refine jO lk hcd S len fun A outer s H vs Q E hr hsp=>?_
 obtain ⟨t,h,q⟩:=hbody cdv A outer s H vs Q E hr hsp
 exact ⟨t,h.nox,q⟩
theorem iC.binds (F:iC K x qual st f fd)
  (h:∀ (kV doc pm:Value) (an:Option Addr) (cdv ct:Value) (us:List Value),us.length=ps.length->bindArgs (PySem.W.fnOf x qual (aW st) (aR st) (aA st) .none kV doc pm an cdv ct) ⟨us,[]⟩=pure (ps.zip us)):Binds K fd ps []:=by
 obtain ⟨oc,od,kV,doc,pm,an,cdv,ct,osl,rfl,lk,hcd⟩:=F.ex
 exact .all (h kV doc pm an cdv ct)
theorem bI {oc:Value}{od an:Option Addr}{osl:Array (Option Value)}{kV doc pm cdv ct:Value} (l:K.lookup f=some ⟨oc,od,.func (PySem.W.fnOf x qual (aW st) (aR st) (aA st) .none kV doc pm an cdv ct),osl⟩)
  (c:PySem.W.codeIn K cdv qual=true) (k:PySem.W.keepIn K (.ref f)=true):iC K x qual st f (PySem.W.fnOf x qual (aW st) (aR st) (aA st) .none kV doc pm an cdv ct):=⟨⟨oc,od,kV,doc,pm,an,cdv,ct,osl,rfl,l,c⟩,k⟩
theorem eV (h:n<=1000):n<sizeLine:=Nat.lt_of_le_of_lt h (by decide)
theorem pv (i:Nat)  (hN:X.N[i]?=some x:=by rfl) (hv:Vis X.env.scope x:=by first | exact Or.inl rfl | exact Or.inr (Or.inl rfl) | exact Or.inr (Or.inr rfl)) (hd:(x==("__debug__" : Str))=false:=by decide)
  (hcd:(x==("__classdict__" : Str))=false:=by decide):PE X (.Name x pos) (pX i):=Ht hN hv hd hcd
theorem aK {A:Prop} (h:B):if false=true then A else B:=by
 rw [if_neg Bool.false_ne_true]
 exact h
theorem bO {A:Prop} (h:A):if true=true then A else B:=by
 rw [if_pos rfl]
 exact h
theorem iD {c A:Prop} [Decidable c] (h1:c->A) (h2:¬ c->B):if c then A else B:=by
 by_cases h:c
 ·rw [if_pos h]
  exact h1 h
 ·rw [if_neg h]
  exact h2 h
theorem uz {c A:Prop} [Decidable c] (hc:c) (h:B):if (!decide c)=true then A else B:=by
 rw [decide_eq_true hc]
 exact aK h
def Same (H H':Hp):Prop:=∀ b o,H b=some o->H' b=some o
theorem Same.refl (H:Hp):Same H H:=fun _ _ h=>h
theorem Same.trans (a:Same H H1) (b:Same H1 H2):Same H H2:=fun c o h=>b c o (a c o h)
theorem Same.free (e:Same H H')  (h:H' l=Option.none):H l=Option.none:=by
 cases q:H l with
 | none=>rfl
 | some o =>
  rw [e l o q] at h
  cases h
theorem Same.seq (e:Same H H') (h:bD K H a xs):bD K H' a xs:=by
 rcases h with (h | ⟨o,h⟩) | h
 ·exact .inl (.inl (e _ _ h))
 ·exact .inl (.inr ⟨o,e _ _ h⟩)
 ·exact .inr h
def gq (env:Env):List (Str×NameKind)->List (Str×Addr)->List (Str×Addr)
 | [],cs=>cs
 | (n,k)::r,cs=>gq env r (if k==.free then (n,(env.cells.lookup n).getD 0)::cs else cs)
theorem uD:∀ (l:List (Str×NameKind)) (cs:List (Str×Addr)) (p:Str×Addr),p∈gq env l cs->p∈cs\/((p.1,NameKind.free)∈l/\p.2=(env.cells.lookup p.1).getD 0)
 | [],_,_,h=>.inl h
 | (n,k)::r,cs,p,h=>by
  rcases uD r _ p h with q | ⟨q,e⟩
  ·by_cases hk:k=.free
   ·subst hk
    rw [if_pos (by rfl)] at q
    rcases List.mem_cons.mp q with z | z
    ·subst z;exact .inr ⟨List.mem_cons_self,rfl⟩
    ·exact .inl z
   ·rw [if_neg (by simpa using hk)] at q
    exact .inl q
  ·exact .inr ⟨mD _ q,e⟩
theorem uE:∀ (l:List (Str×NameKind)) (cs:List (Str×Addr)) (p:Str×Addr),p∈cs->p∈gq env l cs
 | [],_,_,h=>h
 | (n,k)::r,cs,p,h=>by
  refine uE r _ p ?_
  split
  ·exact mD _ h
  ·exact h
theorem uF:∀ (l:List (Str×NameKind)) (cs:List (Str×Addr)),(x,NameKind.free)∈l->∃ c,(x,c)∈gq env l cs
 | [],_,h=>nomatch h
 | (n,k)::r,cs,h=>by
  rcases List.mem_cons.mp h with z | z
  ·cases z
   exact ⟨_,uE r _ _ (by rw [if_pos (by rfl)];exact List.mem_cons_self)⟩
  ·exact uF r _ z
theorem m8 {α:Type}:∀ {l:List (Str×α)}{c:α},(x,c)∈l->∃ c',l.lookup x=some c'
 | [],_,h=>nomatch h
 | (n,d)::r,c,h=>by
  by_cases e:x=n
  ·subst e;exact ⟨d,by simp [List.lookup_cons]⟩
  ·have:(x==n)=false:=by simpa using e
   simp only [List.lookup_cons,this]
   rcases List.mem_cons.mp h with z | z
   ·cases z;exact absurd rfl e
   ·exact m8 z
theorem rC:∀ (l:List (Str×NameKind)) (cs:List (Str×Addr)),(∀ x∈l,x.2=.free->(env.cells.lookup x.1).isSome=true) ->
  (forIn l cs fun (x:Str×NameKind) (r:List (Str×Addr))=>(match x with
   | (name,kind)=>if (kind==NameKind.free)=true then do let a <- cellOf env name;pure (ForInStep.yield ((name,a)::r)) else pure (ForInStep.yield r):Sem (ForInStep (List (Str×Addr)))))=pure (gq env l cs)
 | [],cs,_=>rfl
 | (n,k)::r,cs,h=>by
  rw [List.forIn_cons]
  have ih:=fun cs'=>rC r cs' fun x hx=>h x (mD _ hx)
  by_cases hk:k=.free
  ·subst hk
   obtain ⟨a,ha⟩:=Option.isSome_iff_exists.mp (h (n,.free) List.mem_cons_self rfl)
   have hca:cellOf env n=pure a:=by unfold cellOf;rw [ha]
   have hn:gq env ((n,.free)::r) cs=gq env r ((n,a)::cs):=by
    show gq env r (if (NameKind.free==NameKind.free)=true then (n,(env.cells.lookup n).getD 0)::cs else cs)=_
    rw [if_pos (by rfl),ha];rfl
   rw [hn]
   simp only [beq_self_eq_true,if_true,hca,pure_bind]
   exact ih _
  ·have hb:(k==NameKind.free)=false:=by simpa using hk
   have hn:gq env ((n,k)::r) cs=gq env r cs:=by
    show gq env r (if (k==NameKind.free)=true then (n,(env.cells.lookup n).getD 0)::cs else cs)=_
    rw [if_neg (by simp [hb])]
   rw [hn]
   simp only [hb,Bool.false_eq_true,if_false,pure_bind]
   exact ih _
theorem pZ (h:∀ x∈scope.names,x.2=.free->(env.cells.lookup x.1).isSome=true):closureFor scope env=pure (gq env scope.names []):=by
 simp only [closureFor]
 have:=rC (env:=env) scope.names [] h
 first
  | (rw [this];rfl)
  | (erw [this];rfl)
  | (exact (congrArg (· >>= pure) this))
theorem cY {l:List (Str×NameKind)} (h:∀ x∈l,x.2=.free->(env.cells.lookup x.1).isSome=true) {c:Addr} (e:(gq env l []).lookup x=some c):env.cells.lookup x=some c:=by
 rcases uD l [] (x,c) (PySem.mem_of_lookup e) with q | ⟨q,e'⟩
 ·exact nomatch q
 ·obtain ⟨a,ha⟩:=Option.isSome_iff_exists.mp (h _ q rfl)
  have ha':env.cells.lookup x=some a:=ha
  have e2:c=(env.cells.lookup x).getD 0:=e'
  rw [ha'] at e2
  rw [ha',e2];rfl
theorem jQ {k':NameKind} (h:(relabel scope env).names.lookup x=some k'):∃ k,scope.names.lookup x=some k/\(k'=k\/(k=.free/\k'=.cell)):=by
 unfold relabel at h
 dsimp only at h
 generalize scope.names=l at h ⊢
 induction l with
 | nil=>simp at h
 | cons p r ih =>
  obtain ⟨n,k⟩:=p
  rw [List.map_cons] at h
  by_cases e:x=n
  ·subst e
   refine ⟨k,by simp [List.lookup_cons],?_⟩
   by_cases hc:(k==NameKind.free&&env.scope.kind==.function&&env.kindOf x==some .cell)=true
   ·simp only [hc,if_true,List.lookup_cons,beq_self_eq_true] at h
    have hk:k=.free:=by
     have:=(Bool.and_eq_true_iff.mp (Bool.and_eq_true_iff.mp hc).1).1
     simpa using this
    exact .inr ⟨hk,(Option.some.inj h).symm⟩
   ·simp only [hc,if_false,List.lookup_cons,beq_self_eq_true,Bool.false_eq_true] at h
    exact .inl (Option.some.inj h).symm
  ·have hb:(x==n)=false:=by simpa using e
   have h':List.lookup x (List.map (fun x=>match x with | (n,k)=>if (k==NameKind.free&&env.scope.kind==ScopeKind.function&&env.kindOf n==some NameKind.cell)=true then (n,NameKind.cell) else (n,k)) r)=some k':=by
    by_cases hc:(k==NameKind.free&&env.scope.kind==.function&&env.kindOf n==some .cell)=true
    ·simpa only [hc,if_true,List.lookup_cons,hb] using h
    ·simpa only [hc,if_false,List.lookup_cons,hb,Bool.false_eq_true] using h
   obtain ⟨k0,e0,q⟩:=ih h'
   exact ⟨k0,by simp only [List.lookup_cons,hb];exact e0,q⟩
theorem vV (h:scope.names.lookup x=some .free):(relabel scope env).names.lookup x=some .cell\/(relabel scope env).names.lookup x=some .free:=by
 unfold relabel
 dsimp only
 generalize scope.names=l at h ⊢
 induction l with
 | nil=>simp at h
 | cons p r ih =>
  obtain ⟨n,k⟩:=p
  rw [List.map_cons]
  by_cases e:x=n
  ·subst e
   simp only [List.lookup_cons,beq_self_eq_true] at h
   cases h
   generalize List.map _ r=r'
   show List.lookup x ((if (NameKind.free==NameKind.free&&env.scope.kind==.function&&env.kindOf x==some .cell)=true then (x,NameKind.cell) else (x,NameKind.free))::r')=_\/List.lookup x ((if (NameKind.free==NameKind.free&&env.scope.kind==.function&&env.kindOf x==some .cell)=true then (x,NameKind.cell) else (x,NameKind.free))::r')=_
   by_cases hc:(NameKind.free==NameKind.free&&env.scope.kind==.function&&env.kindOf x==some .cell)=true
   ·rw [if_pos hc];exact .inl (by simp [List.lookup_cons])
   ·rw [if_neg hc];exact .inr (by simp [List.lookup_cons])
  ·have hb:(x==n)=false:=by simpa using e
   simp only [List.lookup_cons,hb] at h
   by_cases hc:(k==NameKind.free&&env.scope.kind==.function&&env.kindOf n==some .cell)=true
   ·simp only [hc,if_true,List.lookup_cons,hb];exact ih h
   ·simp only [hc,if_false,List.lookup_cons,hb,Bool.false_eq_true];exact ih h
def Hj (X:Cx) (N':List Str) (scope:Scope) (s:Shared) (H:Hp) (fp:List Addr) (C:Addr):Cx where
 prog:=X.prog
 w:=X.w
 K:=X.K
 mg:=X.mg
 base:=X.base
 A:=X.A
 N:=N'
 s₀:=s
 H₀:=H
 env:=compEnvC scope (gq X.env scope.names []) C X.env
 outer:=X.stack
 stack:=X.stack
 ex:=fp
 fn:=fun _=>false
 calm:=X.calm
 pn:=[]
 xe:=fun _ _=>False
structure dF (N:List Str) (sc scope:Scope) (ts fr:List Str) (ix:List Nat):Prop where
 kind:scope.kind=.function
 Ip:∀ y∈scope.names,y.2≠.cell
 nms:∀ y∈scope.names,y.2=.local->scope.names.lookup y.1=some .local
 frs:∀ y∈scope.names,y.2=.free->sc.names.lookup y.1=some .cell\/sc.names.lookup y.1=some .free
 cap:fr.map some=ix.map fun i=>N[i]?
 capf:∀ x∈fr,scope.names.lookup x=some .free
def qb (σ:St) (k:Nat) (ix:List Nat):St:=List.replicate k none++ix.map fun i=>(σ[i]?).join
def Kp (σ σ':St):Prop:=∀ (j:Nat) (v:V),σ[j]?=some (some v)->σ'[j]?=some (some v)
theorem Kp.refl (σ:St):Kp σ σ:=fun _ _ h=>h
theorem Kp.set {σ1:St}{x:Option V} (h:σ[i]?=some none) (q:Kp σ σ1):Kp σ (σ1.set i x):=fun j v e=>by
 by_cases hj:j=i
 ·subst hj;rw [h] at e;cases e
 ·rw [List.getElem?_set_ne (Ne.symm hj)];exact q j v e
def Xj (X:Cx) (ifs:List Expr) (t:TT):Prop :=
 ∀ (pins:List (Addr×Obj)) (s:Shared) (σ:St) (H:Hp) (Q:Bool->Hp->Prop),Inv X pins σ H s->t σ H Q ->
  wpAny (model X.prog X.w) X.A (forIn ifs true fun c r=>if r=true then do let ok <- isTrue c X.env (eval c X.env);pure (ForInStep.yield ok) else pure (ForInStep.yield r)) (TP X pins σ Q) X.xe s
def Dh:TT:=fun _ H Q=>Q true H
theorem dY {A B:Hp->Prop} (h:A H):Dh σ H (fun b H5=>if b=true then A H5 else B H5):=by
 show if true=true then A H else B H
 rw [if_pos rfl]
 exact h
theorem dZ:Xj X [] Dh:=fun _ _ _ H _ I h=>wpAny_tests_nil ⟨H,I,h⟩
theorem vW {c:Expr}{t:TT} (h:PT X c t):Xj X [c] t:=fun pins s σ H Q I q=>wpAny_tests_one (h pins s σ H Q I q)
def jR (J:It) (D:Addr) (σ:St) (k:Nat) (ix:List Nat) (g:TG) (tt:TT) (te:TE) (Q:VK) (H1:Hp):Prop:=∃ W:Nat->Nat->List V->Hp->Prop,(∃ m,W 0 m [] (upd H1 D (.lst []))) /\
 ∀ i m ys H2,W i m ys H2->H2 D=some (.lst ys)/\((J.stop i H2/\Q (.ref D) H2)\/(J.go i H2/\∃ N:List V->Hp->Prop,(∀ zs H',N zs H'->∃ m',m'<m/\W (i+1) m' zs H')/\∀ x H3,J.yr i H2 x H3->g x (qb σ k ix) H3 fun σ2 H4=>Kp (qb σ k ix) σ2 /\
  tt σ2 H4 fun b H5=>if b=true then te σ2 H5 fun y H6=>H6 D=some (.lst ys)/\ys.length<sizeLine/\N (ys++[y]) (upd H6 D (.lst (ys++[y]))) else N ys H5))
def Ir (k:Nat) (ix:List Nat) (wi:TI) (g:TG) (tt:TT) (te:TE):TE:=fun σ H Q=>wi σ H fun J H1=>∀ D,H1 D=none->jR J D σ k ix g tt te Q H1
section
variable {elt:Expr}{ifs:List Expr}{ts fr:List Str}{g:TG}
theorem Iu {k:Nat} (h:(qb σ k ix)[j]?=some (some v)):∃ a i,j=k+a/\ix[a]?=some i/\σ[i]?=some (some v):=by
 unfold qb at h
 by_cases hj:j<k
 ·rw [List.getElem?_append_left (by simpa using hj),List.getElem?_replicate,if_pos hj] at h
  cases h
 ·rw [List.getElem?_append_right (by simpa using hj),List.length_replicate,lW] at h
  cases e:ix[j - k]? with
  | none=>rw [e] at h;cases h
  | some i =>
   rw [e] at h
   refine ⟨j - k,i,by lia,e,?_⟩
   have h':(σ[i]?).join=some v:=Option.some.inj h
   cases e2:σ[i]? with
   | none=>rw [e2] at h';cases h'
   | some o=>rw [e2] at h';exact congrArg some h'
theorem yC {k:Nat}:(qb σ k ix).length=k+ix.length:=by unfold qb;simp
theorem Iv {h1:Heap}{tk:Nat} (S:dF X.N X.env.scope scope ts fr ix) (I:Inv X pins σ H s) (hf:∀ b∈fp,jN X pins H b) (hfp:∀ b∈fp,b<s.heap.objs.size)
  (hD:s.heap.objs.size<=D) (hC:s.heap.objs.size<=C) (hDC:D≠C) (hk:∀ b o,s.heap.get? b=some o->h1.get? b=some o) (ho:h1.get? D=some { cls:=.type "list",data:=.seq #[] }) {m0:Str->Option Value} (hn:h1.Ns C m0) :
  Inv (Hj X (ts++fr) scope s H fp C) [] (qb σ ts.length ix) (upd H D (.lst [])) { s with heap:=h1,toks:=tk }:=by
 have hcl:∀ x∈scope.names,x.2=.free->(X.env.cells.lookup x.1).isSome=true:=fun x hx hfx=>by
  obtain ⟨c,hc⟩:=I.ok.has x.1 (S.frs x hx hfx)
  rw [hc];rfl
 have Xk:∀ b,s.heap.objs.size<=b->∀ x c,X.env.cells.lookup x=some c->c≠b:=fun b hb x c e z=>by
  obtain ⟨v,q⟩:=I.cell x c e
  exact absurd (Nat.lt_of_lt_of_le q.lt (by rw [z];exact hb)) (Nat.lt_irrefl _)
 have Xl:∀ x,scope.names.lookup x=some .free->∃ c,(gq X.env scope.names []).lookup x=some c/\X.env.cells.lookup x=some c:=fun x hx=>by
  obtain ⟨c,hc⟩:=uF (env:=X.env) scope.names [] (PySem.mem_of_lookup hx)
  obtain ⟨c',hc'⟩:=m8 hc
  exact ⟨c',hc',cY hcl hc'⟩
 have hfrs:∀ b∈fp,b∉frs X.stack:=fun b hb z=>by
  obtain ⟨_,f1,f2,_⟩:=hf b hb
  rcases List.mem_cons.mp (I.qP b z) with e | e
  ·exact f1 e
  ·exact f2 e
 have hCn:H C=none:=I.hok.fresh hC
 have hDn:H D=none:=I.hok.fresh hD
 refine ⟨⟨I.ok.mod,?_,I.ok.glob,I.ok.blt,hC,fun x y c h1 h2=>?_,fun x hx=>?_,fun x c hfx=>?_,I.ok.hd,I.ok.frames,.inl rfl,fun b hb=>⟨?_,fun x c e=>?_⟩,I.bs,Nat.le_trans I.ok.Hr I.sz,fun b o e hb=>?_,hfrs,I.stack,I.vK⟩,
  rfl,I.bare,Un.laid hk hD hDn,⟨m0,hn,fun i x v e1 e2 e3=>?_⟩,fun x c e=>?_,?_,fun x c e=>?_,fun p hp=>?_,I.hok.laid hk hD ⟨?_,[],0,.nil,ho⟩,?_⟩
 ·show (relabel scope X.env).kind=_
  exact S.kind
 ·exact I.ok.inj x y c (cY hcl h1) (cY hcl h2)
 ·have hx':(relabel scope X.env).names.lookup x=some .cell\/(relabel scope X.env).names.lookup x=some .free:=hx
  have hfree:scope.names.lookup x=some .free:=by
   rcases hx' with q | q
   ·obtain ⟨k,e,z⟩:=jQ q
    rcases z with z | ⟨z,_⟩
    ·subst z;exact absurd rfl (S.Ip _ (PySem.mem_of_lookup e))
    ·rw [e,z]
   ·obtain ⟨k,e,z⟩:=jQ q
    rcases z with z | ⟨_,z⟩
    ·rw [e,<- z]
    ·cases z
  obtain ⟨c,hc,_⟩:=Xl x hfree
  exact ⟨c,hc⟩
 ·exact absurd (show false=true from hfx) (by decide)
 ·exact Nat.ne_of_lt (Nat.lt_of_lt_of_le (hfp b hb) hC)
 ·exact (hf b hb).2.2.2.2.1 x c (cY hcl e)
 ·have f:=hf b hb
  rcases f.2.2.2.1 with z | z
  ·exact I.ok.yh b o e z
  ·exact absurd (Nat.lt_of_lt_of_le (Heap.lt_size (I.ok.bs b o e).1) z) (Nat.lt_irrefl _)
 ·obtain ⟨a,i',hj,hi,hσ⟩:=Iu e2
  subst hj
  have e1':(ts++fr)[ts.length+a]?=some x:=e1
  rw [List.getElem?_append_right (by lia),Nat.add_sub_cancel_left] at e1'
  have hN:X.N[i']?=some x:=by
   have q:=congrArg (fun l=>l[a]?) S.cap
   simp only [lW,e1',hi] at q
   exact (Option.some.inj q).symm
  have hfree:=S.capf x (qN e1')
  have hk':=S.frs (x,.free) (PySem.mem_of_lookup hfree) rfl
  obtain ⟨m,hnm,hl⟩:=I.loc
  obtain ⟨u,r,lk⟩:=hl i' x v hN hσ (.inr hk')
  refine ⟨u,r,?_⟩
  obtain ⟨c,hc,hc'⟩:=Xl x hfree
  rcases lk with ⟨z,_⟩ | ⟨_,c2,e4,z⟩
  ·have z':X.env.scope.names.lookup x=some .local:=z
   rcases hk' with y | y
   ·have y':X.env.scope.names.lookup x=some .cell:=y
    rw [z'] at y';cases y'
   ·have y':X.env.scope.names.lookup x=some .free:=y
    rw [z'] at y';cases y'
  ·have hcc:c2=c:=Option.some.inj (e4.symm.trans hc')
   rw [hcc] at z
   obtain ⟨o,ho2,hd2⟩:=z
   exact .inr ⟨vV hfree,c,hc,o,hk _ _ ho2,hd2⟩
 ·obtain ⟨v,o,ho2,hd2⟩:=I.cell x c (cY hcl e)
  exact ⟨v,o,hk _ _ ho2,hd2⟩
 ·show upd H D (.lst []) C=none
  rw [aC (Ne.symm hDC)];exact hCn
 ·show upd H D (.lst []) c=none
  rw [aC (Xk D hD x c (cY hcl e))]
  exact I.gC x c (cY hcl e)
 ·exact absurd (show p∈([]:List (Addr×Obj)) from hp) (by simp)
 ·exact Nat.zero_le _
 ·have e:=congrArg List.length S.cap
  simp only [bR] at e
  rw [yC]
  show _=(ts++fr).length
  rw [iY,e]
theorem uG {Q:VK}{use:Option (Value->Sem Unit)}{Qv:Value->Shared->Prop} (hc:X.calm=true) (S:dF X.N X.env.scope scope ts fr ix) (hi:PI X tg iter wi)
  (hb:∀ s H fp C,PG (Hj X (ts++fr) scope s H fp C) tg g/\Xj (Hj X (ts++fr) scope s H fp C) ifs tt/\PE (Hj X (ts++fr) scope s H fp C) elt te)
  (hs:∀ x,foldedSetIterable iter X.env x=pure x) (I:Inv X pins σ H s) (h:Ir ts.length ix wi g tt te σ H Q)
  (fin:∀ (D C:Addr) (H':Hp) (s':Shared),Inv X pins σ H' s'->jN X pins H' C->(∃ m,s'.heap.Ns C m)->Q (.ref D) H'->compPost (model X.prog X.w) X.A X.xe use Qv (.ref D) C (.ok .next) s') :
  wpAny (model X.prog X.w) X.A (comprehension (.ListComp elt [⟨tg,iter,ifs,0⟩] scope pos) scope X.env (firstIterPos [⟨tg,iter,ifs,0⟩] pos) (newList []) false (eval iter X.env) use) Qv X.xe s:=by
 have hcl:∀ x∈scope.names,x.2=.free->(X.env.cells.lookup x.1).isSome=true:=fun x hx hfx=>by
  obtain ⟨c,hc⟩:=I.ok.has x.1 (S.frs x hx hfx)
  rw [hc];rfl
 refine wpAny_comprehension_free (use:=use) rfl hs (pZ hcl) S.kind S.nms (cF (hi pins s σ H _ I h) fun v s1 h1=>cF h1 fun itv s2 h2=>?_)
 obtain ⟨it,fp,tn,J,H2,rfl,I2,T,st2,f2,hW⟩:=h2
 refine wpAny_newObj_type (wpAny_newFunctionEnv S.Ip (by intro y hy;simp at hy) (fun h₁ hns₁ hsb₁=>?_) S.kind)
 dsimp only at hns₁ hsb₁ ⊢
 generalize hH2:s2.heap.push { cls:=.type "list",dict:=none,data:=.seq ([]:List Value).toArray }=G2 at hns₁ hsb₁ ⊢
 have hCs:G2.objs.size=s2.heap.objs.size+1:=by rw [<- hH2,Heap.size_push]
 have hDC:s2.heap.objs.size≠G2.objs.size:=by rw [hCs];exact Nat.ne_of_lt (Nat.lt_succ_self _)
 have hCle:s2.heap.objs.size<=G2.objs.size:=by rw [hCs];exact Nat.le_succ _
 have old:∀ b o,s2.heap.get? b=some o->h₁.get? b=some o:=fun b o e=>hsb₁.extBut b o (by rw [hCs];exact Nat.ne_of_lt (Nat.lt_succ_of_lt (Heap.lt_size e))) (Heap.get?_push_of_some _ (hH2 ▸ Heap.get?_push_of_some _ e))
 have hacc:h₁.get? s2.heap.objs.size=some { cls:=.type "list",data:=.seq #[] }:=hsb₁.extBut _ _ hDC (Heap.get?_push_of_some _ (hH2 ▸ Heap.get?_push_size _ rfl))
 have hfp:∀ b∈fp,b<s2.heap.objs.size:=fun b hb'=>by
  obtain ⟨o,e,_⟩:=T.obj _ _ st2 b hb'
  exact Heap.lt_size e
 have IC:Inv (Hj X (ts++fr) scope s2 H2 fp G2.objs.size) [] (qb σ ts.length ix) (upd H2 s2.heap.objs.size (.lst [])) { s2 with heap:=h₁,toks:=s2.toks+([]:List (Str×Value)).length } :=
  Iv S I2 f2 hfp (Nat.le_refl _) hCle hDC old hacc hns₁
 have st1:tn 0 h₁:=T.keep _ _ _ st2 fun b hb' o e=>old b o e
 obtain ⟨W,⟨m0,w0⟩,turn⟩:=hW s2.heap.objs.size I2.fresh
 obtain ⟨bg,bt,be⟩:=hb s2 H2 fp G2.objs.size
 generalize hX:Hj X (ts++fr) scope s2 H2 fp G2.objs.size=Y at IC bg bt be
 have eP:Y.prog=X.prog:=by rw [<- hX];rfl
 have eW:Y.w=X.w:=by rw [<- hX];rfl
 have eK:Y.K=X.K:=by rw [<- hX];rfl
 have eC:Y.calm=true:=by rw [<- hX];exact hc
 have eA:Y.A=X.A:=by rw [<- hX];rfl
 have eE:Y.env=compEnvC scope (gq X.env scope.names []) G2.objs.size X.env:=by rw [<- hX];rfl
 have eX:Y.xe=fun _ _=>False:=by rw [<- hX];rfl
 have stat:∀ {H':Hp},(∀ b∈fp,H' b=none)->∀ b∈fp,jN Y [] H' b:=fun hn b hb'=>by
  rw [<- hX]
  have z:=IC.ok
  rw [<- hX] at z
  refine ⟨hn b hb',(z.Wg b hb').1,z.zX b hb',.inl hb',(z.Wg b hb').2,fun p hp=>absurd (show p∈([]:List (Addr×Obj)) from hp) (by simp)⟩
 have fr0:∀ b∈fp,upd H2 s2.heap.objs.size (.lst []) b=none:=fun b hb'=>by rw [aC (Nat.ne_of_lt (hfp b hb'))];exact (f2 b hb').1
 have bot:∀ {α:Type}{t:Sem α}{R:α->Shared->Prop}{E:Value->Shared->Prop}{z:Shared},wpAny (model Y.prog Y.w) Y.A t R Y.xe z->wpAny (model X.prog X.w) X.A t R E z:=fun {α t R E z} q=>by
  rw [eP,eW,eA,eX] at q
  exact wpAny_mono q (fun _ _ y=>y) fun _ _ y=>y.elim
 have loop:codeAny (model X.prog X.w) X.A (.compLoop (.ListComp elt [⟨tg,iter,ifs,0⟩] scope pos) 0 (.ref it) (.ref s2.heap.objs.size) (compEnvC scope (gq X.env scope.names []) G2.objs.size X.env))
   (compPost (model X.prog X.w) X.A X.xe use Qv (.ref s2.heap.objs.size) G2.objs.size) { s2 with heap:=h₁,toks:=s2.toks+([]:List (Str×Value)).length }:=by
  rw [<- eE]
  refine codeAny_loop rfl (fun n s'=>∃ i ys H',Inv Y [] (qb σ ts.length ix) H' s'/\tn i s'.heap/\(∀ b∈fp,H' b=none)/\W i n ys H') (fun n s3 hI=>?_) m0 ⟨0,[],_,IC,st1,fr0,w0⟩
  obtain ⟨i,ys,H3,I3,st3,X5,w3⟩:=hI
  show wpAny _ _ ((compTurn (.ListComp elt [⟨tg,iter,ifs,0⟩] scope pos) 0 (.ref it) (.ref s2.heap.objs.size) Y.env).onRaise (fun x=>do noteFrame x Y.env;theTreesLotGoes x)) _ _ s3
  refine wpAny_noted ?_
  rw [compTurn_list]
  obtain ⟨Nv,hcase⟩:=turn i n ys H3 w3
  rcases hcase with ⟨stop,qn⟩ | ⟨go,N,hN,step⟩
  ·have q:=T.done Y eP eW eK eC i [] s3 _ H3 (fun _ _=>False) I3 (stat X5) st3 stop
   rw [eA] at q
   refine wpAny_bind (wpAny_standAt (wpAny_bind (wpAny_mono q (fun r s4 ⟨hr,I4⟩=>?_) fun _ _ y=>y.elim)))
   subst hr
   refine wpAny_pure ?_
   have b4:Un (frs X.stack) fp H2 H3 s2.heap s4.heap:=by have z:=I4.base;rw [<- hX] at z;exact z
   have ok4:jG X.prog X.w H3 s4.heap:=by have z:=I4.hok;rw [eP,eW] at z;exact z
   have os4:s4.os=s2.os:=by have z:=I4.os;rw [<- hX] at z;exact z
   have I5:Inv X pins σ H3 s4:=I2.call' os4 b4 ok4 I4.bare fun b hb'=>⟨(f2 b hb').2.2.2.1,(f2 b hb').2.1,(f2 b hb').2.2.2.2.1,(f2 b hb').2.2.2.2.2⟩
   have fC:H3 G2.objs.size=none:=by have z:=I4.free;rw [eE] at z;exact z
   have nC:∃ m,s4.heap.Ns G2.objs.size m:=by obtain ⟨m,z,_⟩:=I4.loc;rw [eE] at z;exact ⟨m,z⟩
   exact fin _ _ H3 s4 I5 (I2.tQ hCle fC) nC qn
  ·have q:=T.item Y eP eW eK eC i [] s3 _ H3 (fun _ _=>False) I3 (stat X5) st3 go
   rw [eA] at q
   refine wpAny_bind (wpAny_standAt (wpAny_bind (wpAny_mono q (fun r s4 ⟨u,hr,h4⟩=>?_) fun _ _ y=>y.elim)))
   subst hr
   refine wpAny_bind (wpAny_mono h4 (fun _ s5 ⟨x,H5,I5,r5,y5,T4,QS⟩=>?_) fun _ _ y=>y.elim)
   have I5':=I5.pinned (stat QS) (T.obj _ _ T4)
   refine wpAny_bind (bot (cF (bg _ s5 _ H5 x u _ I5' r5 (step x H5 y5)) fun _ s6 zq=>?_))
   obtain ⟨σ6,H6,I6,kp6,q6⟩:=zq
   refine wpAny_bind (bot (cF (bt _ s6 σ6 H6 _ I6 q6) fun ok s7 zq=>?_))
   obtain ⟨H7,I7,q7⟩:=zq
   have again:∀ {H8:Hp}{s8:Shared}{zs:List V}{m':Nat},Inv Y ([]++qU fp s5.heap) σ6 H8 s8->m'<n->W (i+1) m' zs H8->∃ m,m<n/\∃ i ys H',Inv Y [] (qb σ ts.length ix) H' s8/\tn i s8.heap/\(∀ b∈fp,H' b=none)/\W i m ys H':=fun {H8 s8 zs m'} I8 hm w8=>by
    refine ⟨m',hm,i+1,zs,H8,(I8.mY).weak ?_ kp6,T.keep _ _ _ T4 fun b hb' o e=>(I8.pin (b,o) (List.mem_append_right _ (List.mem_append_right _ (jo hb' e)))).1,fun b hb'=>?_,w8⟩
    ·rw [I8.len,I3.len]
    ·obtain ⟨o,e,d⟩:=T.obj _ _ T4 b hb'
     exact (I8.pin (b,o) (List.mem_append_right _ (List.mem_append_right _ (jo hb' e)))).2.1
   cases ok with
   | false =>
    rw [if_neg (by decide)] at q7
    obtain ⟨m',hm,w8⟩:=hN _ _ q7
    exact wpAny_pure ⟨rfl,again I7 hm w8⟩
   | true =>
    rw [if_pos rfl] at q7
    refine wpAny_bind (wpAny_bind (bot (cF (be _ s7 σ6 H7 _ I7 q7) fun u8 s8 zq=>?_)))
    obtain ⟨y8,H8,I8,r8,hD8,hz,n8⟩:=zq
    obtain ⟨m',hm,w8⟩:=hN _ _ n8
    refine wpAny_bind (bot (cF (cL _ s8 σ6 H8 (.ref s2.heap.objs.size) [y8] _ [u8] (fun _ H9=>H9=upd H8 s2.heap.objs.size (.lst (ys++[y8]))) I8 rfl (.cons r8 .nil) ⟨_,ys,y8,rfl,rfl,hD8,hz,rfl⟩) fun _ s9 zq=>?_))
    obtain ⟨_,H9,I9,_,e9⟩:=zq
    subst e9
    exact wpAny_pure (wpAny_pure ⟨rfl,again I9 hm w8⟩)
 exact codeAny_compStart_list loop (T.self _ 0 _ _ _ st1 loop)
theorem fG (hc:X.calm=true) (S:dF X.N X.env.scope scope ts fr ix) (hi:PI X tg iter wi)
  (hb:∀ s H fp C,PG (Hj X (ts++fr) scope s H fp C) tg g/\Xj (Hj X (ts++fr) scope s H fp C) ifs tt/\PE (Hj X (ts++fr) scope s H fp C) elt te)
  (hs:∀ x,foldedSetIterable iter X.env x=pure x:=by intro _;rfl):PE X (.ListComp elt [⟨tg,iter,ifs,0⟩] scope pos) (Ir ts.length ix wi g tt te):=by
 intro pins s σ H Q I h
 rw [eval_ListComp]
 refine uG (use:=none) (Qv:=EP X pins σ Q) hc S hi hb hs I h fun D C H' s' I' f' n' q'=>?_
 obtain ⟨m,hm⟩:=n'
 refine ⟨m,hm,fun h' sb=>⟨.ref D,H',?_,rfl,q'⟩⟩
 exact I'.turned (t':=s'.toks) (fun b o hb' e=>(sb.2 b hb').trans e) f'.1 f'.2.1 f'.2.2.2.1 f'.2.2.2.2.1 f'.2.2.2.2.2
theorem qp {pos2:Pos} (hc:X.calm=true) (S:dF X.N X.env.scope scope ts fr ix) (hi:PI X tg iter wi)
  (hb:∀ s H fp C,PG (Hj X (ts++fr) scope s H fp C) tg g/\Xj (Hj X (ts++fr) scope s H fp C) ifs tt/\PE (Hj X (ts++fr) scope s H fp C) elt te)
  (hN:X.N.Nodup) (hix:X.N[i]?=some x) (hx:Loc X.env.scope x)
  (hw:swapsWith (.ListComp elt [⟨tg,iter,ifs,0⟩] scope pos) (some (.Name x pos')) pos2.line X.env=pure true:=by rfl)
  (hf:X.fn x=true\/X.env.scope.names.lookup x=some .local:=by first | exact .inl rfl | exact .inr rfl | assumption)
  (hs:∀ x,foldedSetIterable iter X.env x=pure x:=by intro _;rfl) :
  PS X (.Assign [.Name x pos'] (.ListComp elt [⟨tg,iter,ifs,0⟩] scope pos) pos2) (fun D σ H=>Ir ts.length ix wi g tt te σ H fun v H'=>D.nx (σ.set i (some v)) H'):=by
 intro pins s σ H D I h
 rw [exec_Assign_Name_used _ _ _ _ hw]
 refine wpAny_bind (wpAny_standAt (wpAny_bind ?_))
 show wpAny _ X.A (do let _ <- comprehension (.ListComp elt [⟨tg,iter,ifs,0⟩] scope pos) scope X.env _ (newList []) false (eval iter X.env) (some (assign (.Name x pos') X.env))) _ _ s
 refine wpAny_bind (wpAny_mono (uG (use:=some (assign (.Name x pos') X.env)) (Qv:=fun _ s'=>SP X pins D .next s') hc S hi hb hs I h fun D' C H' s' I' f' n' q'=>?_) (fun _ s' hq=>wpAny_pure (wpAny_pure hq)) fun _ _ e=>e)
 obtain ⟨m,hm⟩:=n'
 refine wpAny_assign_Name (ud I' hN hix hx (v:=.ref D') rfl (fun s'' I'' ⟨a,sb,ha⟩=>?_) hf)
 have hCa:C≠a:=by
  rcases ha with rfl | ha
  ·exact f'.2.1
  ·exact fun z=>f'.2.2.2.2.1 _ _ ha z.symm
 refine ⟨m,hm.sameBut sb hCa,fun h' sb'=>⟨_,H',?_,q'⟩⟩
 exact I''.turned (t':=s''.toks) (fun b o hb' e=>(sb'.2 b hb').trans e) f'.1 f'.2.1 f'.2.2.2.1 f'.2.2.2.2.1 f'.2.2.2.2.2
end
abbrev rD (D:Addr) (σ:St) (k:Nat) (ix:List Nat) (g:TG) (tt:TT) (te:TE) (x:V) (ys:List V) (H:Hp) (N:List V->Hp->Prop):Prop :=
 g x (qb σ k ix) H fun σ2 H4=>Kp (qb σ k ix) σ2/\tt σ2 H4 fun b H5=>if b=true then te σ2 H5 fun y H6=>H6 D=some (.lst ys)/\ys.length<sizeLine/\N (ys++[y]) (upd H6 D (.lst (ys++[y]))) else N ys H5
theorem qt {item:Nat->V}{k:Nat}{g:TG}{Q:VK} (Pv:Nat->List V->Hp->Prop)
  (hJ:∀ i ys H,Pv i ys H->(i<n->J.go i H/\∀ x H',J.yr i H x H'->H'=H/\x=item i)/\(n<=i->J.stop i H)) (h0:Pv 0 [] (upd H1 D (.lst []))) (hD:∀ i ys H,Pv i ys H->H D=some (.lst ys))
  (hs:∀ i ys H,i<n->Pv i ys H->rD D σ k ix g tt te (item i) ys H (Pv (i+1))) (hd:∀ ys H,Pv n ys H->Q (.ref D) H):jR J D σ k ix g tt te Q H1:=by
 refine ⟨fun i m ys H=>m=n - i/\i<=n/\Pv i ys H,⟨n,by simp,Nat.zero_le _,h0⟩,?_⟩
 rintro i m ys H ⟨rfl,hi,p⟩
 refine ⟨hD i ys H p,?_⟩
 obtain ⟨h1,h2⟩:=hJ i ys H p
 by_cases hlt:i<n
 ·obtain ⟨hg,hy⟩:=h1 hlt
  refine .inr ⟨hg,Pv (i+1),fun zs H' p'=>⟨n - (i+1),by lia,rfl,hlt,p'⟩,fun x H' y=>?_⟩
  obtain ⟨rfl,rfl⟩:=hy x H' y
  exact hs i ys H' hlt p
 ·have e:i=n:=by lia
  subst e
  exact .inl ⟨h2 (Nat.le_refl _),hd ys H p⟩
theorem ju {lo:Int}{k:Nat}{g:TG}{Q:VK} (Pv:Nat->List V->Hp->Prop) (h0:Pv 0 [] (upd H1 D (.lst []))) (hD:∀ i ys H,Pv i ys H->H D=some (.lst ys))
  (hs:∀ i ys H,i<n->Pv i ys H->rD D σ k ix g tt te (.int (lo+i)) ys H (Pv (i+1))) (hd:∀ ys H,Pv n ys H->Q (.ref D) H):jR (T3 lo n) D σ k ix g tt te Q H1 :=
 qt (item:=fun i=>.int (lo+i)) Pv (fun i ys H _=>⟨fun h=>⟨h,fun x H' y=>y⟩,fun h=>h⟩) h0 hD hs hd
theorem jc {k:Nat}{g:TG}{Q:VK} (Pv:Nat->List V->Hp->Prop) (hl:∀ i ys H,Pv i ys H->bD K H a xs) (h0:Pv 0 [] (upd H1 D (.lst []))) (hD:∀ i ys H,Pv i ys H->H D=some (.lst ys))
  (hs:∀ i ys H x,xs[i]?=some x->Pv i ys H->rD D σ k ix g tt te x ys H (Pv (i+1))) (hd:∀ ys H,Pv xs.length ys H->Q (.ref D) H):jR (QM K a) D σ k ix g tt te Q H1 :=
 qt (n:=xs.length) (item:=fun i=>xs.getD i .non) Pv (fun i ys H p=>⟨fun h=>⟨⟨xs,xs[i],hl i ys H p,by simp [h]⟩,fun x H' y=>⟨y.1,by
  have:=y.2 xs (hl i ys H p)
  rw [iz,this];rfl⟩⟩,fun h=>⟨xs,hl i ys H p,h⟩⟩) h0 hD (fun i ys H h p=>hs i ys H _ (by rw [iz,dI h];rfl) p) hd
theorem Iw {k:Nat}{g:TG}{Q:VK} (Pv:Nat->List V->Hp->Prop) (hl:∀ i ys H,Pv i ys H->bG K H a xs) (h0:Pv 0 [] (upd H1 D (.lst []))) (hD:∀ i ys H,Pv i ys H->H D=some (.lst ys))
  (hs:∀ i ys H x,xs[i]?=some x->Pv i ys H->rD D σ k ix g tt te x ys H (Pv (i+1))) (hd:∀ ys H,Pv xs.length ys H->Q (.ref D) H):jR (Itt K a) D σ k ix g tt te Q H1 :=
 qt (n:=xs.length) (item:=fun i=>xs.getD i .non) Pv (fun i ys H p=>⟨fun h=>⟨⟨xs,xs[i],hl i ys H p,by simp [h]⟩,fun x H' y=>⟨y.1,by
  have:=y.2 xs (hl i ys H p)
  rw [iz,this];rfl⟩⟩,fun h=>⟨xs,hl i ys H p,h⟩⟩) h0 hD (fun i ys H h p=>hs i ys H _ (by rw [iz,dI h];rfl) p) hd
abbrev dO (l:List Nat):Str:=⟨l.toArray⟩
theorem jT (x:Str):dO x.cps.toList=x:=by cases x;simp [dO]
theorem fZ (l:List Nat):(dO l).length=l.length:=by simp [dO,Str.length]
theorem Nx {y:Str} (h:x.cps.toList=y.cps.toList):x=y:=by
 rw [<- jT x,<- jT y,h]
def qd {α:Type} (xs:List α) (lo hi:Option Int):List α:=(xs.drop (HT.cW xs.length 0 lo)).take (HT.cW xs.length xs.length hi - HT.cW xs.length 0 lo)
theorem rE (lo hi:Option Int) (n:Nat):Builtin.Str.strSliceIndices lo hi 1 n=(List.range (HT.cW n n hi - HT.cW n 0 lo)).map (HT.cW n 0 lo+·):=by
 rw [<- sliceRange_one]
 unfold Builtin.Str.strSliceIndices
 simp only [show (1:Int) > 0 by decide,if_true]
 congr 1
 ·cases lo with
  | none=>simp [HT.cW]
  | some i=>simp only [HT.cW];by_cases h:i<0 <;> simp only [h,if_true,if_false] <;> lia
 ·cases hi with
  | none=>simp [HT.cW]
  | some i=>simp only [HT.cW];by_cases h:i<0 <;> simp only [h,if_true,if_false] <;> lia
theorem Av (x:Str) (lo hi:Option Int):Txt.slice x lo hi=dO (qd x.cps.toList lo hi):=by
 have e:(Builtin.Str.strSliceIndices lo hi 1 x.length).filterMap (x.cps[·]?)=qd x.cps.toList lo hi:=by
  rw [rE,pick_run]
  unfold qd
  simp only [Str.length,Array.length_toList]
 unfold Txt.slice
 split
 ·rename_i h
  have hl:(Builtin.Str.strSliceIndices lo hi 1 x.length).length=x.length:=by simpa using h
  have h1:qd x.cps.toList lo hi=x.cps.toList:=by
   rw [rE,bR,List.length_range] at hl
   have hn:x.length=x.cps.toList.length:=by simp [Str.length]
   rw [hn] at hl
   have b1:=HT.Ig x.cps.toList.length x.cps.toList.length (Nat.le_refl _) hi
   unfold qd
   by_cases h0:HT.cW x.cps.toList.length 0 lo=0
   ·rw [h0,List.drop_zero,List.take_of_length_le (by lia)]
   ·have:x.cps.toList.length=0:=by lia
    have h2:x.cps.toList=[]:=List.length_eq_zero_iff.mp this
    rw [h2];simp
  rw [h1,jT]
 ·rw [e]
theorem Fw:jC X (compareOp .Gt) (fun x y H Q=>∃ i j,x=.str i/\y=.str j/\Q (.bl (decide (j.cps.toList<i.cps.toList))) H):=by
 intro pins s σ H x y v u Q I rx ry h
 obtain ⟨i,j,rfl,rfl,q⟩:=h
 obtain ⟨t,rfl⟩:=rx
 obtain ⟨t',rfl⟩:=ry
 exact PySem.P.gt_str (bQ I q rfl)
def rSlS:V->Option Int->Option Int->Hp->VK->Prop:=fun x lo hi H Q=>∃ z,x=.str z/\z.length<=sizeLine/\Q (.str (dO (qd z.cps.toList lo hi))) H
theorem Iz:Wh X rSlS:=by
 intro pins s σ H x v vl vu lo hi sl Q I rx hs pl pu h
 obtain ⟨z,rfl,Ra,q⟩:=h
 obtain ⟨t,rfl⟩:=rx
 obtain ⟨l,rfl,el⟩:∃ l:Option (Int×Tok),vl=partValue l/\l.map (·.1)=lo:=by
  cases pl with
  | none=>exact ⟨none,rfl,rfl⟩
  | int i t=>exact ⟨some (i,t),rfl,rfl⟩
 obtain ⟨u,rfl,eu⟩:∃ l:Option (Int×Tok),vu=partValue l/\l.map (·.1)=hi:=by
  cases pu with
  | none=>exact ⟨none,rfl,rfl⟩
  | int i t=>exact ⟨some (i,t),rfl,rfl⟩
 subst el eu
 refine ⟨"str",_,F.slot_str_getitem.lookup,typeIs_str s z t,wpAny_getItem_str_slice (l:=l) (u:=u) (st:=none) hs rfl ?_⟩
 have e:=Av z (l.map (·.1)) (u.map (·.1))
 unfold Txt.slice at e
 unfold sliceMade
 have hp:slicePicked z l u none=Builtin.Str.strSliceIndices (l.map (·.1)) (u.map (·.1)) 1 z.length:=rfl
 rw [hp]
 have h1:(((none:Option (Int×Tok)).map (·.1)).getD 1==1&&(Builtin.Str.strSliceIndices (l.map (·.1)) (u.map (·.1)) 1 z.length).length==z.length)=((1:Int)==1&&(Builtin.Str.strSliceIndices (l.map (·.1)) (u.map (·.1)) 1 z.length).length==z.length):=rfl
 rw [h1]
 by_cases hc:((1:Int)==1&&(Builtin.Str.strSliceIndices (l.map (·.1)) (u.map (·.1)) 1 z.length).length==z.length)=true
 ·rw [if_pos hc] at e ⊢
  exact ⟨.str z,H,I,⟨t,rfl⟩,by rw [<- e] at q;exact q⟩
 ·rw [if_neg hc] at e ⊢
  rw [<- e] at q
  refine ⟨?_,⟨.str _,H,I.tok _,⟨_,rfl⟩,q⟩⟩
  have hle:=Txt.slice_le z (l.map (·.1)) (u.map (·.1))
  unfold Txt.slice at hle
  rw [if_neg hc] at hle
  exact Nat.le_trans hle Ra
def Its (x:Str):It:=⟨fun i _=>i<x.cps.toList.length,fun i H v H'=>H'=H/\∃ c,x.cps.toList[i]?=some c/\v=.str (dO [c]),fun i _=>x.cps.toList.length<=i⟩
theorem yD (it:Addr) (x:Str) (t:Tok) (ty:String)
  (hn:["enumerate", "zip", "dict_itemiterator", "dict_reverseitemiterator", "odict_iterator", "itertools.zip_longest", "itertools.pairwise"].contains ty=false)
  (W:∀ A':Around,A'.handled=none->Walks P w A' it [it] [it] x.cps.size (SignAt x) (fun i h=>h.IsStrIter it ty x t i))
  (hself:∀ (A:Around) (i:Nat) (s:Shared) (Q:Value->Shared->Prop) (E:Value->Shared->Prop),s.heap.IsStrIter it ty x t i->Q (.ref it) s->wpAny (model P w) A (pyIter (.ref it)) Q E s)
  (hend:∀ (A:Around) (i:Nat) (s:Shared) (Q:Option Value->Shared->Prop) (E:Value->Shared->Prop),A.handled=none->s.heap.IsStrIter it ty x t i->x.cps[i]?=none->(∀ h',Heap.ExtBut it s.heap h'->Q none { s with heap:=h' })->wpAny (model P w) A (pyNext (.ref it)) Q E s) :
  Turn P w K tg (Its x) [it] it (fun i h=>h.IsStrIter it ty x t i) where
 mem:=by simp
 obj:=fun i h st b hb=>by
  have e:b=it:=by simpa using hb
  subst e
  obtain ⟨o,e,c,d⟩:=st
  exact ⟨o,e,fun v z=>by rw [d] at z;cases z⟩
 keep:=fun i h h' st k=>by
  obtain ⟨o,e,r⟩:=st
  exact ⟨o,k it (by simp) o e,r⟩
 item:=by
  intro X hP hw hK hc i pins s σ H E I hf st hg
  subst hP hw hK
  obtain ⟨f0,f1,f2,f3,f4,f5⟩:=hf it (by simp)
  have hg':i<x.cps.toList.length:=hg
  have hi:i<x.cps.size:=by simpa using hg'
  refine (W X.A (I.ok.hd hc)).item i s _ _ hi st fun v h' tk hv st' kk=>?_
  obtain ⟨c,u,hcx,rfl⟩:=hv
  have I1:Inv X pins σ H { s with heap:=h',toks:=tk }:=I.turned (fun b o hb e=>kk b o (by simpa using hb) e) f0 f1 f3 f4 f5
  obtain ⟨o,e,cc,d⟩:=id st'
  refine ⟨_,rfl,CQ (s:={ s with heap:=h',toks:=tk }) e cc d hn ⟨.str (dO [c]),H,I1,⟨u,rfl⟩,⟨rfl,c,by simpa using hcx,rfl⟩,st',fun b hb=>(hf b hb).1⟩⟩
 done:=by
  intro X hP hw hK hc i pins s σ H E I hf st hg
  subst hP hw hK
  obtain ⟨f0,f1,f2,f3,f4,f5⟩:=hf it (by simp)
  have hg':x.cps.toList.length<=i:=hg
  have hi:x.cps.size<=i:=by simpa using hg'
  have hnone:x.cps[i]?=none:=by simpa using hi
  exact hend X.A i s _ _ (I.ok.hd hc) st hnone fun h' eb=>⟨rfl,I.turned (t':=s.toks) (fun b o hb e=>eb b o hb e) f0 f1 f3 f4 f5⟩
 self:=fun A i s Q E st h=>hself A i s Q E st h
def iStr (tl:TE):TI:=fun σ H R=>tl σ H fun x H1=>∃ z,x=.str z/\R (Its z) H1
theorem IK {l:Expr} (hl:PE X l tl):PI X tg l (iStr tl):=by
 intro pins s σ H R I h
 refine cF (hl pins s σ H _ I h) fun v s1 zq=>?_
 obtain ⟨x,H1,I1,r1,q1⟩:=zq
 obtain ⟨z,rfl,q⟩:=q1
 obtain ⟨t,rfl⟩:=r1
 have fin:∀ ty:String,Turn X.prog X.w X.K tg (Its z) [s1.heap.objs.size] s1.heap.objs.size (fun i h=>h.IsStrIter s1.heap.objs.size ty z t i) ->
   PIE X pins σ tg R (.ref s1.heap.objs.size) { s1 with heap:=s1.heap.push { cls:=.type ty,data:=.fields #[.str z t,.int 0 0] } }:=fun ty T=>by
  refine ⟨s1.heap.objs.size,[s1.heap.objs.size],_,_,H1,rfl,I1.kept (t':=s1.toks) fun b o e=>Heap.get?_push_of_some _ e,T,⟨_,Heap.get?_push_size _ rfl,rfl,rfl⟩,fun b hb=>?_,q⟩
  have e:b=s1.heap.objs.size:=by simpa using hb
  subst e
  exact I1.tQ (Nat.le_refl _) (I1.hok.fresh (Nat.le_refl _))
 cases ha:z.cps.all (·<128)
 ·exact wpAny_pyIter_wide ha (fin _ (yD _ z t _ (by decide) (fun A' hA=>Walks.strWide hA _ z t) (fun A i s Q E st h=>wpAny_pyIter_striter_wide st h) fun A i s Q E hh st hx hQ=>wpAny_pyNext_wide_end hh st hx hQ))
 ·exact wpAny_pyIter_ascii ha (fin _ (yD _ z t _ (by decide) (fun A' hA=>Walks.strAscii hA _ z t) (fun A i s Q E st h=>wpAny_pyIter_striter_ascii st h) fun A i s Q E hh st hx hQ=>wpAny_pyNext_ascii_end hh st hx hQ))
theorem Ny {g:TG}{tb:TS}{D:Ends} (Pv:Nat->St->Hp->Prop) (h0:Pv 0 σ H)
  (hs:∀ i c σ H,x.cps.toList[i]?=some c->Pv i σ H->g (.str (dO [c])) σ H fun σ2 H2=>tb { D with nx:=Pv (i+1),ct:=Pv (i+1),bk:=D.nx } σ2 H2) (hd:∀ σ H,Pv x.cps.toList.length σ H->D.nx σ H) :
  ∃ W:Nat->Nat->St->Hp->Prop,(∃ m,W 0 m σ H)/\∀ i m σ H,W i m σ H ->
   ((Its x).stop i H/\D.nx σ H)\/((Its x).go i H/\∃ N:St->Hp->Prop,(∀ σ' H',N σ' H'->∃ m',m'<m/\W (i+1) m' σ' H')/\∀ v H',(Its x).yr i H v H'->g v σ H' fun σ2 H2=>tb { D with nx:=N,ct:=N,bk:=D.nx } σ2 H2):=by
 refine ⟨fun i m σ H=>m=x.cps.toList.length - i/\i<=x.cps.toList.length/\Pv i σ H,⟨_,rfl,Nat.zero_le _,h0⟩,?_⟩
 rintro i m σ H ⟨rfl,hi,p⟩
 by_cases hlt:i<x.cps.toList.length
 ·refine .inr ⟨hlt,Pv (i+1),fun σ' H' p'=>⟨_,by lia,rfl,hlt,p'⟩,fun v H' y=>?_⟩
  obtain ⟨rfl,c,hc,rfl⟩:=y
  exact hs i c σ _ hc p
 ·have e:i=x.cps.toList.length:=by lia
  subst e
  exact .inl ⟨Nat.le_refl _,hd σ H p⟩
theorem IV {k:Nat}{g:TG}{Q:VK} (Pv:Nat->List V->Hp->Prop) (h0:Pv 0 [] (upd H1 D (.lst []))) (hD:∀ i ys H,Pv i ys H->H D=some (.lst ys))
  (hs:∀ i ys H c,x.cps.toList[i]?=some c->Pv i ys H->rD D σ k ix g tt te (.str (dO [c])) ys H (Pv (i+1))) (hd:∀ ys H,Pv x.cps.toList.length ys H->Q (.ref D) H):jR (Its x) D σ k ix g tt te Q H1 :=
 qt (n:=x.cps.toList.length) (item:=fun i=>.str (dO [x.cps.toList.getD i 0])) Pv (fun i ys H p=>⟨fun h=>⟨h,fun v H' y=>by
  obtain ⟨e,c,hc,rfl⟩:=y
  exact ⟨e,by rw [iz,hc];rfl⟩⟩,fun h=>h⟩) h0 hD (fun i ys H h p=>hs i ys H _ (by rw [iz,dI h];rfl) p) hd
theorem uH:∀ {ts:List Str}{us:List Value},Vals (ts.map V.str) us->∃ l:List (Str×Tok),us=strValues l/\l.map (·.1)=ts
 | [],_,r=>by
  rw [List.map_nil] at r
  cases r
  exact ⟨[],rfl,rfl⟩
 | t::ts,_,r=>by
  rw [List.map_cons] at r
  cases r with
  | cons r1 r2 =>
   obtain ⟨k,rfl⟩:=r1
   obtain ⟨l,rfl,e⟩:=uH r2
   exact ⟨(t,k)::l,rfl,by rw [List.map_cons,e]⟩
def rJoin (K:PySem.W.Frag):V->List V->Hp->VK->Prop:=fun x vs H Q=>∃ sep l ts,x=.str sep/\vs=[.ref l]/\bD K H l (ts.map V.str)/\JoinOk sep ts=true/\Q (.str (Txt.join sep ts)) H
theorem Di:MtR X "str.join" (rJoin X.K):=by
 intro pins s σ H x vs v us Q I rx rv h
 obtain ⟨sep,l,ts,rfl,rfl,hq,ok,q⟩:=h
 obtain ⟨t,rfl⟩:=rx
 obtain ⟨u,rfl,ru⟩:=rv.one
 cases ru
 obtain ⟨its,r,p,hz⟩:=I.list hq
 obtain ⟨l',rfl,el⟩:=uH r
 exact SC.join p.isList el ok fun t' k=>⟨.str _,H,I.tok _,⟨_,rfl⟩,q⟩
theorem Aw (hc:X.calm=true) (hin:X.A.in1.handled=none):dB X (.builtin "all") (fun xs H Q=>∃ (p:Addr) (bs:List Bool),xs=[.ref p]/\bD X.K H p (bs.map V.bl)/\Q (.bl (bs.all id)) H):=by
 intro pins s σ H xs us Q I r h
 obtain ⟨p,bs,rfl,hq,q⟩:=h
 obtain ⟨u,rfl,ru⟩:=vals1 r
 cases ru
 obtain ⟨its,rv,pl,hz⟩:=I.list hq
 have hlen:=rv.length
 rw [bR] at hlen
 have hne:p≠s.heap.objs.size:=by
  obtain ⟨o,n,e,_⟩:=pl
  exact Nat.ne_of_lt (Heap.lt_size e)
 refine call_all_walk (wpAny_pyIter_list pl.isList ?_)
 refine ⟨s.heap.objs.size,_,_,its.toArray.size,_,_,fun i=>bs.getD i true,rfl,Walks.list hin s.heap.objs.size p hne its.toArray,⟨⟨_,Heap.get?_push_size _ rfl,rfl,rfl⟩,?_⟩,?_,?_⟩
 ·obtain ⟨o,n,e,c,d,dd⟩:=pl
  exact ⟨o,Heap.get?_push_of_some _ e,c,n,dd⟩
 ·intro i v s' Q' E' hv hQ'
  have hv':its[i]?=some v:=by simpa using hv
  have hi:i<its.length:=(List.getElem?_eq_some_iff.mp hv').1
  have hb:(bs.map V.bl)[i]?=some (V.bl (bs.getD i true)):=by
   rw [lW,dI (by lia),iz,dI (by lia)];rfl
  obtain ⟨u,hu,ru⟩:=rv.get hb
  rw [hv'] at hu
  cases hu
  cases ru
  exact wpAny_truthy_bool hQ'
 ·intro h' tk kk
  have e:(List.range its.toArray.size).all (fun i=>bs.getD i true)=bs.all id:=by
   rw [List.size_toArray,<- hlen,Bool.eq_iff_iff,List.all_eq_true,List.all_eq_true]
   constructor
   ·intro z b hb
    obtain ⟨i,hi,rfl⟩:=List.mem_iff_getElem.mp hb
    have:=z i (List.mem_range.mpr hi)
    rw [iz,dI hi] at this
    exact this
   ·intro z i hi
    have hi':=List.mem_range.mp hi
    rw [iz,dI hi']
    exact z _ (List.getElem_mem hi')
  rw [e]
  have I1:Inv X pins σ H { s with heap:=s.heap.push { cls:=.type "list_iterator",data:=.fields #[.ref p,.int 0 0] } }:=I.kept (t':=s.toks) fun b o e=>Heap.get?_push_of_some _ e
  obtain ⟨f0,f1,f2,f3,f4,f5⟩:=I.tQ (Nat.le_refl _) (I.hok.fresh (Nat.le_refl _))
  exact ⟨.bl (bs.all id),H,I1.turned (fun b o hb e=>kk b o (by simpa using hb) e) f0 f1 f3 f4 f5,rfl,q⟩
theorem yE:dB X (.builtin "isinstance") (fun xs H Q=>∃ x T t b,xs=[x,.ty T]/\n6 X.K H x t/\PySem.W.kitOne X.K t (.type T)=some b/\Q (.bl b) H):=by
 intro pins s σ H xs us Q I r h
 obtain ⟨x,T,t,b,rfl,ty,e,q⟩:=h
 obtain ⟨u,u',rfl,ru,Hl⟩:=vals2 r
 cases Hl
 exact Fl I ru ty e fun tk=>⟨.bl b,H,I.tok _,rfl,q⟩
theorem jU (h:X.K=K:=by rfl):QZ X (Xf K):=h ▸ bB
theorem gb (h:X.K=K:=by rfl):QZ X (Nr K):=h ▸ bh
theorem yF (h:X.K=K:=by rfl):Wh X (Xg K):=h ▸ nA
def Xm (K:PySem.W.Frag):List V->Hp->VK->Prop:=fun xs H Q=>∃ p ys,xs=[.ref p]/\(bD K H p ys\/bG K H p ys)/\Q (.int ys.length) H
theorem lu (h:X.K=K:=by rfl):dB X (.builtin "len") (Xm K):=h ▸ bY
def rIsi (K:PySem.W.Frag):List V->Hp->VK->Prop:=fun xs H Q=>∃ x T t b,xs=[x,.ty T]/\n6 K H x t/\PySem.W.kitOne K t (.type T)=some b/\Q (.bl b) H
theorem cB (h:X.K=K:=by rfl):dB X (.builtin "isinstance") (rIsi K):=h ▸ yE
def rAll (K:PySem.W.Frag):List V->Hp->VK->Prop:=fun xs H Q=>∃ (p:Addr) (bs:List Bool),xs=[.ref p]/\bD K H p (bs.map V.bl)/\Q (.bl (bs.all id)) H
theorem lA (hc:X.calm=true) (hin:X.A.in1.handled=none) (h:X.K=K:=by rfl):dB X (.builtin "all") (rAll K):=h ▸ Aw hc hin
theorem bw:bootBuiltins "isinstance"=some (.builtin "isinstance"):=by decide +kernel
theorem vX:bootBuiltins "all"=some (.builtin "all"):=by decide +kernel
theorem Tr:bootBuiltins "max"=some (.builtin "max"):=by decide +kernel
theorem Fx:bootBuiltins "sorted"=some (.builtin "sorted"):=by decide +kernel
theorem vY:bootBuiltins "bool"=some (.type "bool"):=by decide +kernel
theorem vZ:bootBuiltins "int"=some (.type "int"):=by decide +kernel
theorem IW:bootBuiltins "str"=some (.type "str"):=by decide +kernel
theorem gj:bootBuiltins "list"=some (.type "list"):=by decide +kernel
theorem rF:bootBuiltins "tuple"=some (.type "tuple"):=by decide +kernel
theorem Ax:bootBuiltins "zip"=some (.type "zip"):=by decide +kernel
theorem nG:bootBuiltins "enumerate"=some (.type "enumerate"):=by decide +kernel
theorem Tt {t:Addr}{its:Array Value}{x:Value} (hit:s.heap.IsTupleIter it t i) (ht:s.heap.IsTuple t its) (hx:its[i]?=some x)
  (hQ:∀ h',h'.IsTupleIter it t (i+1)->Heap.SameBut it s.heap h'->Q x { s with heap:=h' }):wpAny (model prog w) A (Builtin.SmallTypes.nextOf (.ref it)) Q E s:=by
 obtain ⟨o,ho,hc,hd⟩:=id hit
 obtain ⟨ot,hot,_,nt,hdt⟩:=ht
 unfold Builtin.SmallTypes.nextOf
 refine wpAny_bind (wpAny_callSpecial?_slot (name:=Str.ofString "__next__") hit.typeIs F.slot_tuple_iterator_next (wpAny_call_entry F.slot_tuple_iterator_next hit.typeIs F.entry_tuple_iterator_next ?_ (F.args_tuple_iterator_next_1 _)))
 show wpAny _ _ (field (.ref it) 0 >>= _) _ _ s;refine wpAny_bind (wpAny_field ho hd (x:=.ref t) rfl ?_)
 show wpAny _ _ (if (Value.ref t==Value.none)=true then _ else _) _ _ s;rw [if_neg (show ¬ ((Value.ref t==Value.none)=true) from fun z=>Bool.false_ne_true z)]
 show wpAny _ _ (field (.ref it) 1 >>= _) _ _ s;refine wpAny_bind (wpAny_field ho hd (x:=.int i 0) rfl ?_)
 show wpAny _ _ (seqItems? (.ref t) >>= _) _ _ s;refine wpAny_bind (wpAny_seqItems hot hdt ?_);simp only [Int.toNat_natCast,hx]
 refine wpAny_bind (wpAny_setField ho hd (by simp) (wpAny_pure ⟨x,rfl,wpAny_pure (hQ _ ⟨_,Heap.get?_update_self _ ho (Obj.isFreed_of_fields (Obj.data_mapFields hd _)),(Obj.cls_mapFields ..).trans hc,by rw [Obj.data_mapFields hd];simp [rawInt]⟩ (Heap.SameBut.update ..))⟩))
theorem Ay {t:Addr}{its:Array Value} (hh:A.handled=none) (hit:s.heap.IsTupleIter it t i) (ht:s.heap.IsTuple t its) (hx:its[i]?=none)
  (hE:∀ h' e,Heap.ExtBut it s.heap h'->(∃ o,h'.get? e=some o/\o.cls=.type "StopIteration")->E (.ref e) { s with heap:=h' }):wpAny (model prog w) A (Builtin.SmallTypes.nextOf (.ref it)) Q E s:=by
 obtain ⟨o,ho,hc,hd⟩:=id hit
 obtain ⟨ot,hot,_,nt,hdt⟩:=ht
 unfold Builtin.SmallTypes.nextOf
 refine wpAny_bind (wpAny_callSpecial?_slot (name:=Str.ofString "__next__") hit.typeIs F.slot_tuple_iterator_next (wpAny_call_entry F.slot_tuple_iterator_next hit.typeIs F.entry_tuple_iterator_next ?_ (F.args_tuple_iterator_next_1 _)))
 show wpAny _ _ (field (.ref it) 0 >>= _) _ _ s;refine wpAny_bind (wpAny_field ho hd (x:=.ref t) rfl ?_)
 show wpAny _ _ (if (Value.ref t==Value.none)=true then _ else _) _ _ s;rw [if_neg (show ¬ ((Value.ref t==Value.none)=true) from fun z=>Bool.false_ne_true z)]
 show wpAny _ _ (field (.ref it) 1 >>= _) _ _ s;refine wpAny_bind (wpAny_field ho hd (x:=.int i 0) rfl ?_)
 show wpAny _ _ (seqItems? (.ref t) >>= _) _ _ s;refine wpAny_bind (wpAny_seqItems hot hdt ?_);simp only [Int.toNat_natCast,hx]
 refine wpAny_bind (wpAny_rule (wpAny_bind (wpAny_setField ho hd (by simp) ?_)));show wpAny _ _ (newExc (.type "StopIteration") [] >>= _) _ _ _
 refine wpAny_bind ?_;simp only [newExc,newTuple];refine wpAny_bind (wpAny_newObj_type ?_ (by size_fits))
 refine wpAny_bind (m:=firstArgMember _ _) (wpAny_of_eq (a:=Value.none) (by first | rfl | (simp only [firstArgMember];rfl)) ?_);refine wpAny_newObj_type ?_ (by size_fits)
 simp only [raiseNew];refine wpAny_bind (wpAny_handled ?_);first | rw [show A.in1.handled=none from hh] | rw [hh]
 refine wpAny_bind (wpAny_pure (wpAny_throw (hE _ _ (((Heap.SameBut.update ..).extBut.push _).push _) ⟨_,Heap.get?_push_size _ rfl,rfl⟩)))
structure rG (P:Program) (w:World) (K:PySem.W.Frag) (it:Addr) (go stop:Nat->Hp->Prop) (yr:Nat->Hp->V->Prop) (tn:Nat->Heap->Prop):Prop where
 obj:∀ i h,tn i h->∃ o,h.get? it=some o/\∀ v,o.data≠.cell v
 keep:∀ i h h',tn i h->(∀ o,h.get? it=some o->h'.get? it=some o)->tn i h'
 item:∀ (X:Cx) (pins:List (Addr×Obj)) (σ:St) (H:Hp) (s₀:Shared) (i:Nat) (fp:List Addr),X.prog=P->X.w=w->X.K=K->Inv X pins σ H s₀->(∀ b∈fp,jN X pins H b)->go i H ->
  ∃ U:Heap->Prop,U s₀.heap/\(∀ h h',U h->(∀ b o,b∉fp->h.get? b=some o->h'.get? b=some o)->U h')/\∃ x,yr i H x /\
   ∀ (A:Around) (s:Shared) (Q:Value->Shared->Prop) (E:Value->Shared->Prop),U s.heap->tn i s.heap->(∀ u h' tk,RelV x u->tn (i+1) h'->Heap.SameBut it s.heap h'->Q u { s with heap:=h',toks:=tk }) ->
    wpAny (model P w) A (Builtin.SmallTypes.nextOf (.ref it)) Q E s
 done:∀ (X:Cx) (pins:List (Addr×Obj)) (σ:St) (H:Hp) (s₀:Shared) (i:Nat) (fp:List Addr),X.prog=P->X.w=w->X.K=K->Inv X pins σ H s₀->(∀ b∈fp,jN X pins H b)->stop i H ->
  ∃ U:Heap->Prop,U s₀.heap/\(∀ h h',U h->(∀ b o,b∉fp->h.get? b=some o->h'.get? b=some o)->U h') /\
   ∀ (A:Around) (s:Shared) (Q:Value->Shared->Prop) (E:Value->Shared->Prop),A.handled=none->U s.heap->tn i s.heap->(∀ h' e,Heap.ExtBut it s.heap h'->(∃ o,h'.get? e=some o/\o.cls=.type "StopIteration")->E (.ref e) { s with heap:=h' }) ->
    wpAny (model P w) A (Builtin.SmallTypes.nextOf (.ref it)) Q E s
theorem rH (I:Inv X pins σ H s) (hf:∀ b∈fp,jN X pins H b)  (e:X.base.get? a=some o):a∉fp:=fun hb=>by
 rcases (hf a hb).2.2.2.1 with z | z
 ·exact I.ok.yh a o e z
 ·exact absurd (Nat.lt_of_lt_of_le (Heap.lt_size (I.ok.bs a o e).1) z) (Nat.lt_irrefl _)
theorem uI (I:Inv X pins σ H s) (hf:∀ b∈fp,jN X pins H b) (h:bG X.K H a xs):a∉fp:=by
 rcases h with (h | ⟨o,h⟩) | ⟨o,its,n,hk,_⟩
 ·exact fun hb=>by rw [(hf a hb).1] at h;cases h
 ·exact fun hb=>by rw [(hf a hb).1] at h;cases h
 ·exact rH I hf (I.ok.mod.kin a o hk)
theorem lC (I:Inv X pins σ H s) (hf:∀ b∈fp,jN X pins H b) (h:bD X.K H a xs):a∉fp:=by
 rcases h with (h | ⟨o,h⟩) | ⟨o,its,n,hk,_⟩
 ·exact fun hb=>by rw [(hf a hb).1] at h;cases h
 ·exact fun hb=>by rw [(hf a hb).1] at h;cases h
 ·exact rH I hf (I.ok.mod.kin a o hk)
theorem qu (a it:Addr):rG P w K it (fun i H=>∃ xs x,bG K H a xs/\xs[i]?=some x) (fun i H=>∃ xs,bG K H a xs/\xs.length<=i) (fun i H x=>∀ xs,bG K H a xs->xs[i]?=some x) (fun i h=>h.IsTupleIter it a i) where
 obj:=fun i h ⟨o,e,c,d⟩=>⟨o,e,fun v z=>by rw [d] at z;cases z⟩
 keep:=fun i h h' ⟨o,e,r⟩ k=>⟨o,k o e,r⟩
 item:=fun X pins σ H s₀ i fp hP hw hK I hf ⟨xs,x,hq,hx⟩=>by
  subst hP hw hK
  obtain ⟨its,rv,p,_⟩:=I.tuple hq
  have na:=uI I hf hq
  obtain ⟨u,hu,ru⟩:=rv.get hx
  refine ⟨fun h=>h.IsTuple a its.toArray,p,fun h h' ⟨o,e,r⟩ k=>⟨o,k a o na e,r⟩,x,fun ys hy=>by rw [I.ug hy hq];exact hx,fun A s Q E hU st hQ=>?_⟩
  exact Tt st hU (x:=u) (by simpa using hu) fun h' st' sb=>hQ u h' s.toks ru st' sb
 done:=fun X pins σ H s₀ i fp hP hw hK I hf ⟨xs,hq,hx⟩=>by
  subst hP hw hK
  obtain ⟨its,rv,p,_⟩:=I.tuple hq
  have na:=uI I hf hq
  have hl:=rv.length
  exact ⟨fun h=>h.IsTuple a its.toArray,p,fun h h' ⟨o,e,r⟩ k=>⟨o,k a o na e,r⟩,fun A s Q E hh hU st hE=>Ay hh st hU (by simp;lia) hE⟩
theorem Dj (a it:Addr):rG P w K it (fun i H=>∃ xs x,bD K H a xs/\xs[i]?=some x) (fun i H=>∃ xs,bD K H a xs/\xs.length<=i) (fun i H x=>∀ xs,bD K H a xs->xs[i]?=some x) (fun i h=>h.IsListIter it a i) where
 obj:=fun i h ⟨o,e,c,d⟩=>⟨o,e,fun v z=>by rw [d] at z;cases z⟩
 keep:=fun i h h' ⟨o,e,r⟩ k=>⟨o,k o e,r⟩
 item:=fun X pins σ H s₀ i fp hP hw hK I hf ⟨xs,x,hq,hx⟩=>by
  subst hP hw hK
  obtain ⟨its,rv,p,_⟩:=I.list hq
  have na:=lC I hf hq
  obtain ⟨u,hu,ru⟩:=rv.get hx
  refine ⟨fun h=>h.IsList a its.toArray,p.isList,fun h h' ⟨o,e,r⟩ k=>⟨o,k a o na e,r⟩,x,fun ys hy=>by rw [I.qT hy hq];exact hx,fun A s Q E hU st hQ=>?_⟩
  exact wpAny_nextOf_list_item st hU (x:=u) (by simpa using hu) fun h' st' sb=>hQ u h' s.toks ru st' sb
 done:=fun X pins σ H s₀ i fp hP hw hK I hf ⟨xs,hq,hx⟩=>by
  subst hP hw hK
  obtain ⟨its,rv,p,_⟩:=I.list hq
  have na:=lC I hf hq
  have hl:=rv.length
  exact ⟨fun h=>h.IsList a its.toArray,p.isList,fun h h' ⟨o,e,r⟩ k=>⟨o,k a o na e,r⟩,fun A s Q E hh hU st hE=>wpAny_nextOf_list_end hh st hU (by simp;lia) hE⟩
structure ZA (z TI TO i1 i2:Addr):Prop where
 p1:TI≠z
 p2:TO≠z
 p3:i1≠z
 p4:i2≠z
 p5:TI≠TO
 p6:TI≠i1
 p7:TI≠i2
 p8:TO≠i1
 p9:TO≠i2
 p0:i1≠i2
theorem Nz {z TI TO:Addr}{x:V}{a b:Value}{U1 U2 T1 T2 NK Xn:Heap->Prop} (D:ZA z TI TO i1 i2)
  (hz:IsZip s.heap z TI TO .none) (hTI:IsPair s.heap TI (.ref i1) (.ref i2)) (hTO:IsPair s.heap TO a b) (u1:U1 s.heap) (u2:U2 s.heap) (t1:T1 s.heap) (t2:T2 s.heap)
  (k1:∀ h h',U1 h->(∀ b o,b∉[z,TI,TO,i1,i2]->h.get? b=some o->h'.get? b=some o)->U1 h') (k2:∀ h h',U2 h->(∀ b o,b∉[z,TI,TO,i1,i2]->h.get? b=some o->h'.get? b=some o)->U2 h')
  (q1:∀ h h',T1 h->(∀ o,h.get? i1=some o->h'.get? i1=some o)->T1 h') (q2:∀ h h',T2 h->(∀ o,h.get? i2=some o->h'.get? i2=some o)->T2 h')
  (q1':∀ h h',NK h->(∀ o,h.get? i1=some o->h'.get? i1=some o)->NK h') (q2':∀ h h',Xn h->(∀ o,h.get? i2=some o->h'.get? i2=some o)->Xn h')
  (d1:∀ (A:Around) (s:Shared) (Q:Value->Shared->Prop) (E:Value->Shared->Prop),U1 s.heap->T1 s.heap->(∀ u h' tk,RelV x u->NK h'->Heap.SameBut i1 s.heap h'->Q u { s with heap:=h',toks:=tk })->wpAny (model prog w) A (Builtin.SmallTypes.nextOf (.ref i1)) Q E s)
  (d2:∀ (A:Around) (s:Shared) (Q:Value->Shared->Prop) (E:Value->Shared->Prop),U2 s.heap->T2 s.heap->(∀ u h' tk,RelV y u->Xn h'->Heap.SameBut i2 s.heap h'->Q u { s with heap:=h',toks:=tk })->wpAny (model prog w) A (Builtin.SmallTypes.nextOf (.ref i2)) Q E s)
  (hQ:∀ u v h' tk,RelV x u->RelV y v->IsZip h' z TI TO (rawInt s.heap.objs.size)->IsPair h' TI (.ref i1) (.ref i2)->IsPair h' TO u v->NK h'->Xn h'->IsPair h' s.heap.objs.size u v ->
   (∀ c o,c≠z->c≠TO->c≠i1->c≠i2->s.heap.get? c=some o->h'.get? c=some o)->Q (.ref s.heap.objs.size) { s with heap:=h',toks:=tk }) :
  wpAny (model prog w) A (Builtin.«zip.__next__» ⟨[.ref z],[]⟩) (fun fin s'=>∃ v,fin=.done (.ret v)/\Q v s') E s:=by
 have mz:∀ {c:Addr},c∉[z,TI,TO,i1,i2]->c≠z/\c≠TO/\c≠i1/\c≠i2:=fun {c} h=>by simp at h;exact ⟨h.1,h.2.2.1,h.2.2.2.1,h.2.2.2.2⟩
 show wpAny _ _ (field (.ref z) 2 >>= _) _ _ _;refine wpAny_bind (wpAny_field hz rfl (x:=.bool false) rfl ?_)
 show wpAny _ _ (field (.ref z) 3 >>= _) _ _ _;refine wpAny_bind (wpAny_field hz rfl (x:=.ref TI) rfl (wpAny_bind (wpAny_seqItems hTI rfl ?_)))
 show wpAny _ _ (Builtin.SmallTypes.ownedTupleIsFree (.ref z) >>= _) _ _ _;refine wpAny_bind ?_;unfold Builtin.SmallTypes.ownedTupleIsFree
 refine wpAny_bind (wpAny_field hz rfl (x:=.none) rfl (wpAny_pure ?_));simp only [if_true]
 refine wpAny_bind (wpAny_rule (wpAny_bind (wpAny_field hz rfl (x:=.ref TO) rfl (wpAny_bind (wpAny_setField_rec hz (by simp) fun g1 hz1 hs1=>?_)))))
 replace hz1:IsZip g1 z TI TO .ellipsis:=hz1
 refine wpAny_bind ?_;simp only [List.zipIdx_cons,List.zipIdx_nil,List.forIn_cons,List.forIn_nil]
 refine wpAny_bind (wpAny_bind (wpAny_onRaise ?_));show wpAny _ _ (Builtin.SmallTypes.nextOf (.ref i1) >>= _) _ _ _
 refine wpAny_bind (d1 _ _ _ _ (k1 _ _ u1 fun c o hc e=>hs1.extBut _ _ (mz hc).1 e) (q1 _ _ t1 fun o e=>hs1.extBut _ _ D.p3 e) fun u g2 tk2 ru t1b hs2=>wpAny_pure ?_)
 have J0:IsPair g2 TO a b:=hs2.extBut _ _ D.p8 (hs1.extBut _ _ D.p2 hTO)
 refine wpAny_bind (wpAny_seqItems J0 rfl (wpAny_bind (wpAny_updateSeq_pair J0 fun g3 NP hs3=>?_)))
 replace NP:IsPair g3 TO u b:=NP
 refine wpAny_bind (wpAny_letGo (wpAny_pure (wpAny_bind (wpAny_bind (wpAny_onRaise ?_)))));show wpAny _ _ (Builtin.SmallTypes.nextOf (.ref i2) >>= _) _ _ _
 refine wpAny_bind (d2 _ _ _ _ (k2 _ _ u2 fun c o hc e=>hs3.extBut _ _ (mz hc).2.1 (hs2.extBut _ _ (mz hc).2.2.1 (hs1.extBut _ _ (mz hc).1 e))) (q2 _ _ t2 fun o e=>hs3.extBut _ _ D.p9.symm (hs2.extBut _ _ D.p0.symm (hs1.extBut _ _ D.p4 e))) fun v g4 tk4 rv t2b Rb=>wpAny_pure ?_)
 have Xo:IsPair g4 TO u b:=Rb.extBut _ _ D.p9 NP
 refine wpAny_bind (wpAny_seqItems Xo rfl (wpAny_bind (wpAny_updateSeq_pair Xo fun g5 NQ Rf=>?_)))
 replace NQ:IsPair g5 TO u v:=NQ
 refine wpAny_bind (wpAny_letGo (wpAny_pure (wpAny_pure (wpAny_bind (wpAny_seqItems NQ rfl (wpAny_bind (wpAny_newTuple ?_)))))))
 have sz:g5.objs.size=s.heap.objs.size:=by rw [Rf.1,Rb.1,hs3.1,hs2.1,hs1.1]
 have Xp:∀ c o,c≠z->c≠TO->c≠i1->c≠i2->s.heap.get? c=some o->g5.get? c=some o:=fun c o c1 c2 c3 c4 e=>Rf.extBut _ _ c2 (Rb.extBut _ _ c4 (hs3.extBut _ _ c2 (hs2.extBut _ _ c3 (hs1.extBut _ _ c1 e))))
 have hz5:IsZip g5 z TI TO .ellipsis:=Rf.extBut _ _ D.p2.symm (Rb.extBut _ _ D.p4.symm (hs3.extBut _ _ D.p2.symm (hs2.extBut _ _ D.p3.symm hz1)))
 have t15:NK g5:=q1' _ _ t1b fun o e=>Rf.extBut _ _ D.p8.symm (Rb.extBut _ _ D.p0 (hs3.extBut _ _ D.p8.symm e))
 have t25:Xn g5:=q2' _ _ t2b fun o e=>Rf.extBut _ _ D.p9.symm e
 have zlt:z<g5.objs.size:=Heap.lt_size hz5
 show wpAny _ _ (Builtin.SmallTypes.ownedTupleHandOut (.ref z) (.ref g5.objs.size) >>= _) _ _ _;refine wpAny_bind ?_;unfold Builtin.SmallTypes.ownedTupleHandOut
 have hz6:IsZip (g5.push { cls:=.type "tuple",data:=.seq #[u,v] }) z TI TO .ellipsis:=Heap.get?_push_of_some _ hz5
 refine wpAny_bind (wpAny_setField_rec hz6 (by simp) fun g7 hz7 hs7=>?_)
 replace hz7:IsZip g7 z TI TO (rawInt g5.objs.size):=hz7
 refine wpAny_setField_rec hz7 (by simp) fun g8 hz8 hs8=>?_
 replace hz8:IsZip g8 z TI TO (rawInt g5.objs.size):=hz8
 have Xq:∀ c o,c≠z->g5.get? c=some o->g8.get? c=some o:=fun c o c1 e=>hs8.extBut _ _ c1 (hs7.extBut _ _ c1 (Heap.get?_push_of_some _ e))
 have hT8:IsPair g8 g5.objs.size u v:=hs8.extBut _ _ (Nat.ne_of_gt zlt) (hs7.extBut _ _ (Nat.ne_of_gt zlt) (Heap.get?_push_size _ rfl))
 rw [sz] at hz8 hT8
 refine wpAny_pure ⟨_,rfl,?_⟩
 show Q (.ref g5.objs.size) _;rw [sz]
 exact hQ u v g8 _ ru rv hz8 (Xq _ _ D.p1 (Xp _ _ D.p1 D.p5 D.p6 D.p7 hTI)) (Xq _ _ D.p2 NQ) (q1' _ _ t15 fun o e=>Xq _ o D.p3 e) (q2' _ _ t25 fun o e=>Xq _ o D.p4 e) hT8 fun c o c1 c2 c3 c4 e=>Xq c o c1 (Xp c o c1 c2 c3 c4 e)
theorem yG {z TI TO:Addr}{x:V}{a b:Value}{U1 U2 T1 T2 NK:Heap->Prop}{Q:Fin->Shared->Prop} (hh:A.handled=none) (D:ZA z TI TO i1 i2)
  (hz:IsZip s.heap z TI TO .none) (hTI:IsPair s.heap TI (.ref i1) (.ref i2)) (hTO:IsPair s.heap TO a b) (u1:U1 s.heap) (t1:T1 s.heap)
  (k1:∀ h h',U1 h->(∀ b o,b∉[z,TI,TO,i1,i2]->h.get? b=some o->h'.get? b=some o)->U1 h')
  (q1:∀ h h',T1 h->(∀ o,h.get? i1=some o->h'.get? i1=some o)->T1 h')
  (hd:(∀ (A:Around) (s:Shared) (Q:Value->Shared->Prop) (E:Value->Shared->Prop),A.handled=none->U1 s.heap->T1 s.heap->(∀ h' e,Heap.ExtBut i1 s.heap h'->(∃ o,h'.get? e=some o/\o.cls=.type "StopIteration")->E (.ref e) { s with heap:=h' })->wpAny (model prog w) A (Builtin.SmallTypes.nextOf (.ref i1)) Q E s) \/
   ((∀ (A:Around) (s:Shared) (Q:Value->Shared->Prop) (E:Value->Shared->Prop),U1 s.heap->T1 s.heap->(∀ u h' tk,RelV x u->NK h'->Heap.SameBut i1 s.heap h'->Q u { s with heap:=h',toks:=tk })->wpAny (model prog w) A (Builtin.SmallTypes.nextOf (.ref i1)) Q E s) /\
    U2 s.heap/\T2 s.heap/\(∀ h h',U2 h->(∀ b o,b∉[z,TI,TO,i1,i2]->h.get? b=some o->h'.get? b=some o)->U2 h')/\(∀ h h',T2 h->(∀ o,h.get? i2=some o->h'.get? i2=some o)->T2 h') /\
    ∀ (A:Around) (s:Shared) (Q:Value->Shared->Prop) (E:Value->Shared->Prop),A.handled=none->U2 s.heap->T2 s.heap->(∀ h' e,Heap.ExtBut i2 s.heap h'->(∃ o,h'.get? e=some o/\o.cls=.type "StopIteration")->E (.ref e) { s with heap:=h' })->wpAny (model prog w) A (Builtin.SmallTypes.nextOf (.ref i2)) Q E s))
  (hE:∀ h' tk e,(∀ c o,c≠z->c≠TO->c≠i1->c≠i2->s.heap.get? c=some o->h'.get? c=some o)->(∃ o,h'.get? e=some o/\o.cls=.type "StopIteration")->E (.ref e) { s with heap:=h',toks:=tk }) :
  wpAny (model prog w) A (Builtin.«zip.__next__» ⟨[.ref z],[]⟩) Q E s:=by
 have mz:∀ {c:Addr},c∉[z,TI,TO,i1,i2]->c≠z/\c≠TO/\c≠i1/\c≠i2:=fun {c} h=>by simp at h;exact ⟨h.1,h.2.2.1,h.2.2.2.1,h.2.2.2.2⟩
 show wpAny _ _ (field (.ref z) 2 >>= _) _ _ _;refine wpAny_bind (wpAny_field hz rfl (x:=.bool false) rfl ?_)
 show wpAny _ _ (field (.ref z) 3 >>= _) _ _ _;refine wpAny_bind (wpAny_field hz rfl (x:=.ref TI) rfl (wpAny_bind (wpAny_seqItems hTI rfl ?_)))
 show wpAny _ _ (Builtin.SmallTypes.ownedTupleIsFree (.ref z) >>= _) _ _ _;refine wpAny_bind ?_;unfold Builtin.SmallTypes.ownedTupleIsFree
 refine wpAny_bind (wpAny_field hz rfl (x:=.none) rfl (wpAny_pure ?_));simp only [if_true]
 refine wpAny_bind (wpAny_rule (wpAny_bind (wpAny_field hz rfl (x:=.ref TO) rfl (wpAny_bind (wpAny_setField_rec hz (by simp) fun g1 hz1 hs1=>?_)))))
 replace hz1:IsZip g1 z TI TO .ellipsis:=hz1
 refine wpAny_bind ?_;simp only [List.zipIdx_cons,List.zipIdx_nil,List.forIn_cons,List.forIn_nil]
 refine wpAny_bind (wpAny_bind (wpAny_onRaise ?_));show wpAny _ _ (Builtin.SmallTypes.nextOf (.ref i1) >>= _) _ _ _
 rcases hd with e1 | ⟨d1,u2,t2,k2,q2,e2⟩
 ·refine wpAny_bind (e1 _ _ _ _ hh (k1 _ _ u1 fun c o hc e=>hs1.extBut _ _ (mz hc).1 e) (q1 _ _ t1 fun o e=>hs1.extBut _ _ D.p3 e) fun g2 e hs2 he=>?_)
  obtain ⟨oe,hoe,hce⟩:=he
  have hz2:IsZip g2 z TI TO .ellipsis:=hs2 _ _ D.p3.symm hz1
  have nez:e≠z:=fun q=>by subst q;rw [hz2] at hoe;cases hoe;simp at hce
  exact wpAny_setField_rec hz2 (by simp) fun g3 _ hs3=>hE g3 _ e (fun c o c1 _ c3 _ q=>hs3.extBut _ _ c1 (hs2 _ _ c3 (hs1.extBut _ _ c1 q))) ⟨oe,hs3.extBut _ _ nez hoe,hce⟩
 ·refine wpAny_bind (d1 _ _ _ _ (k1 _ _ u1 fun c o hc e=>hs1.extBut _ _ (mz hc).1 e) (q1 _ _ t1 fun o e=>hs1.extBut _ _ D.p3 e) fun u g2 tk2 ru t1b hs2=>wpAny_pure ?_)
  have J0:IsPair g2 TO a b:=hs2.extBut _ _ D.p8 (hs1.extBut _ _ D.p2 hTO)
  refine wpAny_bind (wpAny_seqItems J0 rfl (wpAny_bind (wpAny_updateSeq_pair J0 fun g3 NP hs3=>?_)))
  refine wpAny_bind (wpAny_letGo (wpAny_pure (wpAny_bind (wpAny_bind (wpAny_onRaise ?_)))));show wpAny _ _ (Builtin.SmallTypes.nextOf (.ref i2) >>= _) _ _ _
  refine wpAny_bind (e2 _ _ _ _ hh (k2 _ _ u2 fun c o hc e=>hs3.extBut _ _ (mz hc).2.1 (hs2.extBut _ _ (mz hc).2.2.1 (hs1.extBut _ _ (mz hc).1 e))) (q2 _ _ t2 fun o e=>hs3.extBut _ _ D.p9.symm (hs2.extBut _ _ D.p0.symm (hs1.extBut _ _ D.p4 e))) fun g4 e Rb he=>?_)
  obtain ⟨oe,hoe,hce⟩:=he
  have hz4:IsZip g4 z TI TO .ellipsis:=Rb _ _ D.p4.symm (hs3.extBut _ _ D.p2.symm (hs2.extBut _ _ D.p3.symm hz1))
  have nez:e≠z:=fun q=>by subst q;rw [hz4] at hoe;cases hoe;simp at hce
  exact wpAny_setField_rec hz4 (by simp) fun g5 _ Rf=>hE g5 _ e (fun c o c1 c2 c3 c4 q=>Rf.extBut _ _ c1 (Rb _ _ c4 (hs3.extBut _ _ c2 (hs2.extBut _ _ c3 (hs1.extBut _ _ c1 q))))) ⟨oe,Rf.extBut _ _ nez hoe,hce⟩
theorem Inv.nfp (I:Inv X pins σ H s) (hf:∀ b∈fp,jN X pins H b) {u:HO} (e:H b=some u):b∉fp:=fun hb=>by rw [(hf b hb).1] at e;cases e
theorem Inv.w5 (I:Inv X pins σ H s) (hf:∀ b∈fp,jN X pins H b) (k:∀ b o,b∉fp->s.heap.get? b=some o->h'.get? b=some o):Inv X pins σ H { s with heap:=h',toks:=t' }:=by
 refine I.step (g':=s.gens) (d':=s.drawn) (ch:=fp) (fun b hb=>⟨(hf b hb).2.2.2.1,(hf b hb).2.1,(hf b hb).2.2.2.2.1,(hf b hb).2.2.2.2.2⟩) (fun b o _ _ hc e _=>k b o hc e) (fun b o _ _ hc e _=>⟨o.slots,k b o hc e⟩) (fun _ _ _ _ n=>n)
  (fun b o hc e=>⟨o,k b o hc e⟩) (fun _ _ e=>e) (fun _ _ _ e=>e) (fun b ps e=>⟨#[],by rw [e];simp⟩) (fun m hm=>?_) (fun b u e=>?_) I.bare
 ·obtain ⟨o,es,ep,ho,r⟩:=hm
  exact ⟨o,es,ep,k _ o (fun z=>(hf _ z).2.1 rfl) ho,r⟩
 ·refine (I.hok b u e).stay (fun c v hc q=>k c v ?_ q) (fun _ q=>q) fun _ _ q=>q
  rcases hc with z | z
  ·rw [z];exact I.nfp hf e
  ·exact I.nfp hf z
theorem Inv.wg {p:Addr}{o:HO} (I:Inv X pins σ H s) (hf:∀ b∈fp,jN X pins H b) (k:∀ b o,b∉fp->s.heap.get? b=some o->h'.get? b=some o) (hp:s.heap.objs.size<=p) (new:cA X.prog X.w (upd H p o) h' p o) :
  Inv X pins σ (upd H p o) { s with heap:=h',toks:=t' }:=by
 have hn:H p=none:=I.hok.fresh hp
 refine I.step (g':=s.gens) (d':=s.drawn) (ch:=fp) (fun b hb=>⟨(hf b hb).2.2.2.1,(hf b hb).2.1,(hf b hb).2.2.2.2.1,(hf b hb).2.2.2.2.2⟩) (fun b o _ _ hc e _=>k b o hc e) (fun b o _ _ hc e _=>⟨o.slots,k b o hc e⟩)
  (fun b o _ e n=>by rw [aC (Nat.ne_of_lt (Nat.lt_of_lt_of_le (Heap.lt_size e) hp))];exact n)
  (fun b o hc e=>⟨o,k b o hc e⟩) (fun b xs e=>by rw [aC (aN e hn)];exact e) (fun b u xs e=>by rw [aC (aN e hn)];exact e) (fun b ps e=>⟨#[],by rw [aC (aN e hn),e];simp⟩) (fun m hm=>?_) (fun b u e=>?_) I.bare
 ·obtain ⟨o,es,ep,ho,r⟩:=hm
  exact ⟨o,es,ep,k _ o (fun z=>(hf _ z).2.1 rfl) ho,r⟩
 ·by_cases hb:b=p
  ·subst hb
   rw [ak] at e
   cases e
   exact new
  ·rw [aC hb] at e
   refine (I.hok b u e).stay (fun c v hc q=>k c v ?_ q) (fun c q=>?_) fun c xs q=>?_
   ·rcases hc with z | z
    ·rw [z];exact I.nfp hf e
    ·exact I.nfp hf z
   ·first
     | (rw [aC (aN q hn)];exact q)
     | exact q
   ·first
     | (rw [aC (aN q hn)];exact q)
     | exact q
def Xr (g1 g2 s1 s2:Nat->Hp->Prop) (y1 y2:Nat->Hp->V->Prop):It :=
 ⟨fun i H=>g1 i H/\g2 i H,fun i H v H'=>∃ p x y,v=.ref p/\H p=none/\H'=upd H p (.tup [x,y])/\y1 i H x/\y2 i H y,fun i H=>s1 i H\/(g1 i H/\s2 i H)⟩
theorem J1 {z TI TO:Addr}{g1 g2 s1 s2:Nat->Hp->Prop}{y1 y2:Nat->Hp->V->Prop}{t1 t2:Nat->Heap->Prop} (D:ZA z TI TO i1 i2)
  (S1:rG P w K i1 g1 s1 y1 t1) (S2:rG P w K i2 g2 s2 y2 t2) :
  Turn P w K (.Tuple elts x1 tp) (Xr g1 g2 s1 s2 y1 y2) [z,TI,TO,i1,i2] z (fun i h=>IsZip h z TI TO .none/\IsPair h TI (.ref i1) (.ref i2)/\(∃ a b,IsPair h TO a b)/\t1 i h/\t2 i h) where
 mem:=by simp
 obj:=fun i h ⟨hz,hTI,⟨a,b,hTO⟩,st1,st2⟩ c hc=>by
  simp only [List.mem_cons,List.not_mem_nil,or_false] at hc
  rcases hc with rfl | rfl | rfl | rfl | rfl
  ·exact ⟨_,hz,fun v e=>by cases e⟩
  ·exact ⟨_,hTI,fun v e=>by cases e⟩
  ·exact ⟨_,hTO,fun v e=>by cases e⟩
  ·exact S1.obj i h st1
  ·exact S2.obj i h st2
 keep:=fun i h h' ⟨hz,hTI,⟨a,b,hTO⟩,st1,st2⟩ k=>⟨k z (by simp) _ hz,k TI (by simp) _ hTI,⟨a,b,k TO (by simp) _ hTO⟩,S1.keep _ _ _ st1 fun o e=>k i1 (by simp) o e,S2.keep _ _ _ st2 fun o e=>k i2 (by simp) o e⟩
 item:=by
  intro X hP hw hK hc i pins s σ H E I hf ⟨hz,hTI,⟨a,b,hTO⟩,st1,st2⟩ ⟨hg1,hg2⟩
  obtain ⟨U1,u1,k1,x,hx,d1⟩:=S1.item X pins σ H s i [z,TI,TO,i1,i2] hP hw hK I hf hg1
  obtain ⟨U2,u2,k2,y,hy,d2⟩:=S2.item X pins σ H s i [z,TI,TO,i1,i2] hP hw hK I hf hg2
  subst hP hw hK
  have hT:s.TypeIs (.ref z) "zip":=⟨_,hz,rfl⟩
  unfold pyNext
  refine wpAny_bind (wpAny_attempt (wpAny_callSpecial?_slot (name:=Str.ofString "__next__") hT F.slot_zip_next (wpAny_call_entry F.slot_zip_next hT F.entry_zip_next
   (Nz (x:=x) (y:=y) D hz hTI hTO u1 u2 st1 st2 k1 k2 (S1.keep i) (S2.keep i) (S1.keep (i+1)) (S2.keep (i+1)) d1 d2 fun u v h' tk ru rv hz' hTI' hTO' st1' st2' hp kk=>wpAny_pure ⟨_,rfl,?_⟩) (F.args_zip_next_1 _))))
  refine wpAny_letOwnedTupleGo_zip hz' fun h2 hz2 sb=>?_
  have lt:∀ {c o},s.heap.get? c=some o->c≠s.heap.objs.size:=fun e=>Nat.ne_of_lt (Heap.lt_size e)
  have nz:z≠s.heap.objs.size:=lt hz
  have Xu:∀ c o,c∉[z,TI,TO,i1,i2]->s.heap.get? c=some o->h2.get? c=some o:=fun c o hc e=>by
   simp only [List.mem_cons,List.not_mem_nil,or_false,not_or] at hc
   exact sb.extBut _ _ hc.1 (kk c o hc.1 hc.2.2.1 hc.2.2.2.1 hc.2.2.2.2 e)
  have hp2:IsPair h2 s.heap.objs.size u v:=sb.extBut _ _ nz.symm hp
  refine ⟨.ref s.heap.objs.size,_,I.wg (o:=.tup [x,y]) hf Xu (Nat.le_refl _) ⟨eV (by simp) |> Nat.le_of_lt,[u,v],.cons ru (.cons rv .nil),⟨_,hp2,rfl,_,rfl⟩⟩,rfl,⟨_,x,y,rfl,I.fresh,rfl,hx,hy⟩,⟨hz2,sb.extBut _ _ D.p1 hTI',⟨_,_,sb.extBut _ _ D.p2 hTO'⟩,S1.keep _ _ _ st1' fun o e=>sb.extBut _ _ D.p3 e,S2.keep _ _ _ st2' fun o e=>sb.extBut _ _ D.p4 e⟩,fun c hc=>?_⟩
  have:∃ o,s.heap.get? c=some o:=by
   simp only [List.mem_cons,List.not_mem_nil,or_false] at hc
   rcases hc with rfl | rfl | rfl | rfl | rfl
   ·exact ⟨_,hz⟩
   ·exact ⟨_,hTI⟩
   ·exact ⟨_,hTO⟩
   ·obtain ⟨o,e,_⟩:=S1.obj _ _ st1;exact ⟨o,e⟩
   ·obtain ⟨o,e,_⟩:=S2.obj _ _ st2;exact ⟨o,e⟩
  obtain ⟨o,e⟩:=this
  rw [aC (lt e)]
  exact (hf c hc).1
 done:=by
  intro X hP hw hK hc i pins s σ H E I hf ⟨hz,hTI,⟨a,b,hTO⟩,st1,st2⟩ hs
  have hT:s.TypeIs (.ref z) "zip":=⟨_,hz,rfl⟩
  have fin:∀ (h':Heap) (tk:Nat),(∀ c o,c≠z->c≠TO->c≠i1->c≠i2->s.heap.get? c=some o->h'.get? c=some o)->Inv X pins σ H { s with heap:=h',toks:=tk }:=fun h' tk kk=>I.w5 hf fun c o hc e=>by
   simp only [List.mem_cons,List.not_mem_nil,or_false,not_or] at hc
   exact kk c o hc.1 hc.2.2.1 hc.2.2.2.1 hc.2.2.2.2 e
  have hh:=I.ok.hd hc
  rcases hs with hs1 | ⟨hg1,hs2⟩
  ·obtain ⟨U1,u1,k1,d1⟩:=S1.done X pins σ H s i [z,TI,TO,i1,i2] hP hw hK I hf hs1
   subst hP hw hK
   unfold pyNext
   refine wpAny_bind (wpAny_attempt (wpAny_callSpecial?_slot (name:=Str.ofString "__next__") hT F.slot_zip_next (wpAny_call_entry F.slot_zip_next hT F.entry_zip_next
    (yG (x:=.non) (U2:=fun _=>True) (T2:=fun _=>True) (NK:=fun _=>True) hh D hz hTI hTO u1 st1 k1 (S1.keep i) (.inl d1) fun h' tk e kk he=>?_) (F.args_zip_next_1 _))))
   obtain ⟨o,ho,hc'⟩:=he
   exact wpAny_bind (wpAny_isInstance (T:="StopIteration") (b:=true) ⟨o,ho,hc'⟩ isSubtype_stop (wpAny_pure ⟨rfl,fin _ _ kk⟩))
  ·obtain ⟨U1,u1,k1,x,hx,d1⟩:=S1.item X pins σ H s i [z,TI,TO,i1,i2] hP hw hK I hf hg1
   obtain ⟨U2,u2,k2,d2⟩:=S2.done X pins σ H s i [z,TI,TO,i1,i2] hP hw hK I hf hs2
   subst hP hw hK
   unfold pyNext
   refine wpAny_bind (wpAny_attempt (wpAny_callSpecial?_slot (name:=Str.ofString "__next__") hT F.slot_zip_next (wpAny_call_entry F.slot_zip_next hT F.entry_zip_next
    (yG (x:=x) (NK:=t1 (i+1)) hh D hz hTI hTO u1 st1 k1 (S1.keep i) (.inr ⟨d1,u2,st2,k2,S2.keep i,d2⟩) fun h' tk e kk he=>?_) (F.args_zip_next_1 _))))
   obtain ⟨o,ho,hc'⟩:=he
   exact wpAny_bind (wpAny_isInstance (T:="StopIteration") (b:=true) ⟨o,ho,hc'⟩ isSubtype_stop (wpAny_pure ⟨rfl,fin _ _ kk⟩))
 self:=fun _ _ _ _ _ st h=>wpAny_pyIter_zip st.1 h
theorem Fy (v1 v2:Value) (o1 o2:Obj) (U:Heap->Prop) (hU:∀ h o,U h->U (h.push o))
  (h1:∀ (prog:Program) (w:World) (A:Around) (Q:Value->Shared->Prop) (E:Value->Shared->Prop) (s:Shared),U s.heap->Q (.ref s.heap.objs.size) { s with heap:=s.heap.push o1 }->wpAny (model prog w) A (pyIter v1) Q E s)
  (h2:∀ (prog:Program) (w:World) (A:Around) (Q:Value->Shared->Prop) (E:Value->Shared->Prop) (s:Shared),U s.heap->Q (.ref s.heap.objs.size) { s with heap:=s.heap.push o2 }->wpAny (model prog w) A (pyIter v2) Q E s) :
  Meets (Builtin.«zip.__new__» ⟨[.type "zip",v1,v2],[]⟩) (fun _ R s=>U s.heap /\
   R (.ok (.ret (.ref ((((s.heap.push o1).push o2).push { cls:=.type "tuple",data:=.seq #[.ref s.heap.objs.size,.ref (s.heap.push o1).objs.size] }).push { cls:=.type "tuple",data:=.seq #[.none,.none] }).objs.size)))
    { s with heap:=((((s.heap.push o1).push o2).push { cls:=.type "tuple",data:=.seq #[.ref s.heap.objs.size,.ref (s.heap.push o1).objs.size] }).push { cls:=.type "tuple",data:=.seq #[.none,.none] }).push { cls:=.type "zip",data:=.fields #[.none,.bool false,.bool false,.ref ((s.heap.push o1).push o2).objs.size,.ref (((s.heap.push o1).push o2).push { cls:=.type "tuple",data:=.seq #[.ref s.heap.objs.size,.ref (s.heap.push o1).objs.size] }).objs.size] } }) :=
 .of_wp fun prog w A R s h=>by
  obtain ⟨hp,g,d,tk,os⟩:=s;obtain ⟨hu,h⟩:=h
  have hsub:=sub_zip
  have hu2:U (hp.push o1):=hU _ _ hu
  wp_walk using h1 prog w _ _ _ ⟨hp,g,d,tk,os⟩ hu,h2 prog w _ _ _ ⟨hp.push o1,g,d,tk,os⟩ hu2
  exact ⟨_,rfl,h⟩
theorem Dk (x:Str) (t:Tok) (it:Addr) (ty:String)
  (d:∀ (A:Around),A.handled=none->Draws P w A it [it] x.cps.size (fun i v=>∃ c u,x.cps[i]?=some c/\v=.str ⟨#[c]⟩ u) (fun i h=>h.IsStrIter it ty x t i))
  (d':∀ (A:Around) (i c:Nat) (s:Shared) (Q:Value->Shared->Prop) (E:Value->Shared->Prop),s.heap.IsStrIter it ty x t i->x.cps[i]?=some c->(∀ h',h'.IsStrIter it ty x t (i+1)->Heap.SameBut it s.heap h'->Q (.str ⟨#[c]⟩ s.toks) { s with heap:=h',toks:=s.toks+1 })->wpAny (model P w) A (Builtin.SmallTypes.nextOf (.ref it)) Q E s)
  (e':∀ (A:Around) (i:Nat) (s:Shared) (Q:Value->Shared->Prop) (E:Value->Shared->Prop),A.handled=none->s.heap.IsStrIter it ty x t i->x.cps[i]?=none->(∀ h' e,Heap.ExtBut it s.heap h'->(∃ o,h'.get? e=some o/\o.cls=.type "StopIteration")->E (.ref e) { s with heap:=h' })->wpAny (model P w) A (Builtin.SmallTypes.nextOf (.ref it)) Q E s) :
  rG P w K it (fun i _=>i<x.cps.toList.length) (fun i _=>x.cps.toList.length<=i) (fun i _ v=>∃ c,x.cps.toList[i]?=some c/\v=.str (dO [c])) (fun i h=>h.IsStrIter it ty x t i) where
 obj:=fun i h ⟨o,e,c,dd⟩=>⟨o,e,fun v z=>by rw [dd] at z;cases z⟩
 keep:=fun i h h' ⟨o,e,r⟩ k=>⟨o,k o e,r⟩
 item:=fun X pins σ H s₀ i fp hP hw hK I hf hg=>by
  have hi:i<x.cps.size:=by simpa using hg
  refine ⟨fun _=>True,trivial,fun _ _ _ _=>trivial,.str (dO [x.cps[i]]),⟨x.cps[i],by simp [hi],rfl⟩,fun A s Q E _ st hQ=>?_⟩
  exact d' A i x.cps[i] s Q E st (by simp [hi]) fun h' st' sb=>hQ _ h' _ ⟨_,rfl⟩ st' sb
 done:=fun X pins σ H s₀ i fp hP hw hK I hf hg=>by
  have hi:x.cps.size<=i:=by simpa using hg
  exact ⟨fun _=>True,trivial,fun _ _ _ _=>trivial,fun A s Q E hh _ st hE=>e' A i s Q E hh st (by simpa using hi) hE⟩
section
theorem wj {R:It->Hp->Prop}{v1 v2:Value}{o1 o2:Obj}{U:Heap->Prop}{g1 g2 s1 s2:Nat->Hp->Prop}{y1 y2:Nat->Hp->V->Prop}{t1 t2:Nat->Heap->Prop} (I:Inv X pins σ H s)
  (hu:U s.heap) (hU:∀ h o,U h->U (h.push o))
  (h1:∀ (prog:Program) (w:World) (A:Around) (Q:Value->Shared->Prop) (E:Value->Shared->Prop) (s:Shared),U s.heap->Q (.ref s.heap.objs.size) { s with heap:=s.heap.push o1 }->wpAny (model prog w) A (pyIter v1) Q E s)
  (h2:∀ (prog:Program) (w:World) (A:Around) (Q:Value->Shared->Prop) (E:Value->Shared->Prop) (s:Shared),U s.heap->Q (.ref s.heap.objs.size) { s with heap:=s.heap.push o2 }->wpAny (model prog w) A (pyIter v2) Q E s)
  (S1:rG X.prog X.w X.K s.heap.objs.size g1 s1 y1 t1) (S2:rG X.prog X.w X.K (s.heap.objs.size+1) g2 s2 y2 t2) (b1:∀ h:Heap,h.get? s.heap.objs.size=some o1->t1 0 h) (b2:∀ h:Heap,h.get? (s.heap.objs.size+1)=some o2->t2 0 h) (f1:o1.isFreed=false) (f2:o2.isFreed=false)
  (q:R (Xr g1 g2 s1 s2 y1 y2) H):wpAny (model X.prog X.w) X.A (call (.type "zip") [v1,v2]) (fun v s1=>wpAny (model X.prog X.w) X.A (pyIter v) (PIE X pins σ (.Tuple elts x1 tp) R) E s1) E s:=by
 refine callType_new F.called_zip (by decide) (F.typeCall_zip_2 _ _) (F.newCall_zip_2 _ _) (fun obj=>F.args_object_init_3 obj _ _) F.entry_zip_new (Fy v1 v2 o1 o2 U hU h1 h2) ⟨hu,?_⟩
 generalize hG1:s.heap.push o1=G1
 have z1:G1.objs.size=s.heap.objs.size+1:=by rw [<- hG1];exact Heap.size_push ..
 generalize hG2:G1.push o2=G2
 have z2:G2.objs.size=s.heap.objs.size+2:=by rw [<- hG2,Heap.size_push,z1]
 rw [z1,z2]
 generalize hG3:G2.push { cls:=.type "tuple",data:=.seq #[.ref s.heap.objs.size,.ref (s.heap.objs.size+1)] }=G3
 have z3:G3.objs.size=s.heap.objs.size+3:=by rw [<- hG3,Heap.size_push,z2]
 rw [z3]
 generalize hG4:G3.push { cls:=.type "tuple",data:=.seq #[.none,.none] }=G4
 have z4:G4.objs.size=s.heap.objs.size+4:=by rw [<- hG4,Heap.size_push,z3]
 rw [z4]
 generalize hG5:G4.push { cls:=.type "zip",data:=.fields #[.none,.bool false,.bool false,.ref (s.heap.objs.size+2),.ref (s.heap.objs.size+3)] }=G5
 have e5:IsZip G5 (s.heap.objs.size+4) (s.heap.objs.size+2) (s.heap.objs.size+3) .none:=by rw [<- z4,<- hG5];exact Heap.get?_push_size _ rfl
 have e4:IsPair G5 (s.heap.objs.size+3) .none .none:=by rw [<- z3,<- hG5];exact Heap.get?_push_of_some _ (by rw [<- hG4];exact Heap.get?_push_size _ rfl)
 have e3:IsPair G5 (s.heap.objs.size+2) (.ref s.heap.objs.size) (.ref (s.heap.objs.size+1)):=by rw [<- z2,<- hG5];exact Heap.get?_push_of_some _ (by rw [<- hG4];exact Heap.get?_push_of_some _ (by rw [<- hG3];exact Heap.get?_push_size _ rfl))
 have up2:∀ c o,G2.get? c=some o->G5.get? c=some o:=fun c o e=>by rw [<- hG5];exact Heap.get?_push_of_some _ (by rw [<- hG4];exact Heap.get?_push_of_some _ (by rw [<- hG3];exact Heap.get?_push_of_some _ e))
 have e2:G5.get? (s.heap.objs.size+1)=some o2:=up2 _ _ (by rw [<- z1,<- hG2];exact Heap.get?_push_size _ f2)
 have e1:G5.get? s.heap.objs.size=some o1:=up2 _ _ (by rw [<- hG2];exact Heap.get?_push_of_some _ (by rw [<- hG1];exact Heap.get?_push_size _ f1))
 have all:∀ c o,s.heap.get? c=some o->G5.get? c=some o:=fun c o e=>up2 _ _ (by rw [<- hG2];exact Heap.get?_push_of_some _ (by rw [<- hG1];exact Heap.get?_push_of_some _ e))
 refine ⟨⟨_,e5,rfl⟩,wpAny_pyIter_zip e5 ?_⟩
 have ne:∀ {m n:Nat},m≠n->s.heap.objs.size+m≠s.heap.objs.size+n:=fun h z=>h (Nat.add_left_cancel z)
 refine ⟨_,_,_,_,H,rfl,I.kept (t':=s.toks) all,J1 ⟨ne (by decide),ne (by decide),ne (m:=0) (by decide),ne (by decide),ne (by decide),ne (n:=0) (by decide),ne (by decide),ne (n:=0) (by decide),ne (by decide),ne (m:=0) (by decide)⟩ S1 S2,⟨e5,e3,⟨_,_,e4⟩,b1 _ e1,b2 _ e2⟩,fun b hb=>?_,q⟩
 have hle:s.heap.objs.size<=b:=by
  simp only [List.mem_cons,List.not_mem_nil,or_false] at hb
  rcases hb with rfl | rfl | rfl | rfl | rfl <;> lia
 exact I.tQ hle (I.hok.fresh hle)
abbrev Dl (K:PySem.W.Frag) (a b:Addr):It:=Xr (fun i H=>∃ xs x,bG K H a xs/\xs[i]?=some x) (fun i H=>∃ xs x,bG K H b xs/\xs[i]?=some x) (fun i H=>∃ xs,bG K H a xs/\xs.length<=i) (fun i H=>∃ xs,bG K H b xs/\xs.length<=i)
 (fun i H x=>∀ xs,bG K H a xs->xs[i]?=some x) (fun i H x=>∀ xs,bG K H b xs->xs[i]?=some x)
abbrev Dm (K:PySem.W.Frag) (a b:Addr):It:=Xr (fun i H=>∃ xs x,bD K H a xs/\xs[i]?=some x) (fun i H=>∃ xs x,bD K H b xs/\xs[i]?=some x) (fun i H=>∃ xs,bD K H a xs/\xs.length<=i) (fun i H=>∃ xs,bD K H b xs/\xs.length<=i)
 (fun i H x=>∀ xs,bD K H a xs->xs[i]?=some x) (fun i H x=>∀ xs,bD K H b xs->xs[i]?=some x)
abbrev Dn (K:PySem.W.Frag) (a:Addr) (z:Str):It:=Xr (fun i H=>∃ xs x,bG K H a xs/\xs[i]?=some x) (fun i _=>i<z.cps.toList.length) (fun i H=>∃ xs,bG K H a xs/\xs.length<=i) (fun i _=>z.cps.toList.length<=i)
 (fun i H x=>∀ xs,bG K H a xs->xs[i]?=some x) (fun i _ v=>∃ c,z.cps.toList[i]?=some c/\v=.str (dO [c]))
def Tv (K:PySem.W.Frag) (ta:TA):TI:=fun σ H R=>ta σ H fun vs H1=>∃ a b,vs=[.ref a,.ref b]/\(∃ xs,bG K H1 a xs)/\(∃ xs,bG K H1 b xs)/\R (Dl K a b) H1
def Tw (K:PySem.W.Frag) (ta:TA):TI:=fun σ H R=>ta σ H fun vs H1=>∃ a b,vs=[.ref a,.ref b]/\(∃ xs,bD K H1 a xs)/\(∃ xs,bD K H1 b xs)/\R (Dm K a b) H1
def Tz (K:PySem.W.Frag) (ta:TA):TI:=fun σ H R=>ta σ H fun vs H1=>∃ a z,vs=[.ref a,.str z]/\(∃ xs,bG K H1 a xs)/\R (Dn K a z) H1
variable {a b:Expr}{ta:TA}
theorem yH (hg:Gl X "zip") (hm:X.mg "zip"=none) (ha:PA X [a,b] ta) (hs:starEach [a,b] X.env=[(false,eval a X.env),(false,eval b X.env)]:=by rfl) (hs2:starEach [b] X.env=[(false,eval b X.env)]:=by rfl) :
  PI X (.Tuple elts x1 tp) (.Call (.Name "zip" p) [a,b] [] pos) (Tv X.K ta):=by
 intro pins s σ H R I h
 refine Call_ (jk I hg hm Ax (PyProof.Rows.callWith_type1 (cF (ha pos pins s σ H _ I h) fun us s1 ⟨vs,H1,I1,r1,q1⟩=>?_) (by rw [hs,hs2]) (by rw [hs2];rfl)))
 obtain ⟨c,d,rfl,⟨xs,hx⟩,⟨ys,hy⟩,q⟩:=q1
 obtain ⟨u,u',rfl,ru,Hl⟩:=vals2 r1
 cases ru;cases Hl
 obtain ⟨its,rv,p1,_⟩:=I1.tuple hx
 obtain ⟨its2,rv2,p2,_⟩:=I1.tuple hy
 exact wj (U:=fun h=>h.IsTuple c its.toArray/\h.IsTuple d its2.toArray) I1 ⟨p1,p2⟩ (fun h o ⟨⟨oc,e,r⟩,⟨od,e',r'⟩⟩=>⟨⟨oc,Heap.get?_push_of_some _ e,r⟩,⟨od,Heap.get?_push_of_some _ e',r'⟩⟩)
  (fun prog w A Q E s hu hQ=>wpAny_pyIter_tuple hu.1 hQ) (fun prog w A Q E s hu hQ=>wpAny_pyIter_tuple hu.2 hQ) (qu c _) (qu d _) (fun h e=>⟨_,e,rfl,rfl⟩) (fun h e=>⟨_,e,rfl,rfl⟩) rfl rfl q
theorem yI (hg:Gl X "zip") (hm:X.mg "zip"=none) (ha:PA X [a,b] ta) (hs:starEach [a,b] X.env=[(false,eval a X.env),(false,eval b X.env)]:=by rfl) (hs2:starEach [b] X.env=[(false,eval b X.env)]:=by rfl) :
  PI X (.Tuple elts x1 tp) (.Call (.Name "zip" p) [a,b] [] pos) (Tw X.K ta):=by
 intro pins s σ H R I h
 refine Call_ (jk I hg hm Ax (PyProof.Rows.callWith_type1 (cF (ha pos pins s σ H _ I h) fun us s1 ⟨vs,H1,I1,r1,q1⟩=>?_) (by rw [hs,hs2]) (by rw [hs2];rfl)))
 obtain ⟨c,d,rfl,⟨xs,hx⟩,⟨ys,hy⟩,q⟩:=q1
 obtain ⟨u,u',rfl,ru,Hl⟩:=vals2 r1
 cases ru;cases Hl
 obtain ⟨its,rv,p1,_⟩:=I1.list hx
 obtain ⟨its2,rv2,p2,_⟩:=I1.list hy
 exact wj (U:=fun h=>h.IsList c its.toArray/\h.IsList d its2.toArray) I1 ⟨p1.isList,p2.isList⟩ (fun h o ⟨⟨oc,e,r⟩,⟨od,e',r'⟩⟩=>⟨⟨oc,Heap.get?_push_of_some _ e,r⟩,⟨od,Heap.get?_push_of_some _ e',r'⟩⟩)
  (fun prog w A Q E s hu hQ=>wpAny_pyIter_list hu.1 hQ) (fun prog w A Q E s hu hQ=>wpAny_pyIter_list hu.2 hQ) (Dj c _) (Dj d _) (fun h e=>⟨_,e,rfl,rfl⟩) (fun h e=>⟨_,e,rfl,rfl⟩) rfl rfl q
end
theorem rJ {fx fy:Nat->V}{k:Nat}{g:TG}{Q:VK} (Pv:Nat->List V->Hp->Prop)
  (hJ:∀ i ys H,Pv i ys H->(i<n->J.go i H/\∀ v H',J.yr i H v H'->∃ p,v=.ref p/\H p=none/\H'=upd H p (.tup [fx i,fy i]))/\(n<=i->J.stop i H)) (h0:Pv 0 [] (upd H1 D (.lst []))) (hD:∀ i ys H,Pv i ys H->H D=some (.lst ys))
  (hs:∀ i ys H p,i<n->Pv i ys H->H p=none->rD D σ k ix g tt te (.ref p) ys (upd H p (.tup [fx i,fy i])) (Pv (i+1))) (hd:∀ ys H,Pv n ys H->Q (.ref D) H):jR J D σ k ix g tt te Q H1:=by
 refine ⟨fun i m ys H=>m=n - i/\i<=n/\Pv i ys H,⟨n,by simp,Nat.zero_le _,h0⟩,?_⟩
 rintro i m ys H ⟨rfl,hi,p⟩
 refine ⟨hD i ys H p,?_⟩
 obtain ⟨h1,h2⟩:=hJ i ys H p
 by_cases hlt:i<n
 ·obtain ⟨hg,hy⟩:=h1 hlt
  refine .inr ⟨hg,Pv (i+1),fun zs H' p'=>⟨n - (i+1),by lia,rfl,hlt,p'⟩,fun x H' y=>?_⟩
  obtain ⟨q,rfl,hq,rfl⟩:=hy x H' y
  exact hs i ys H q hlt p hq
 ·have e:i=n:=by lia
  subst e
  exact .inl ⟨h2 (Nat.le_refl _),hd ys H p⟩
theorem pH (ha:bG K H a xs) (hb:bG K H b ys) (hl:xs.length=ys.length) :
  (i<xs.length->(Dl K a b).go i H/\∀ v H',(Dl K a b).yr i H v H'->∃ p,v=.ref p/\H p=none/\H'=upd H p (.tup [xs.getD i .non,ys.getD i .non]))/\(xs.length<=i->(Dl K a b).stop i H):=by
 refine ⟨fun hi=>⟨⟨⟨xs,xs[i],ha,by simp [hi]⟩,⟨ys,ys[i]'(by lia),hb,by simp [hl ▸ hi]⟩⟩,fun v H' ⟨p,x,y,e1,e2,e3,e4,e5⟩=>⟨p,e1,e2,?_⟩⟩,fun hi=>.inl ⟨xs,ha,hi⟩⟩
 rw [e3,iz,iz,e4 xs ha,e5 ys hb];rfl
theorem pI (ha:bD K H a xs) (hb:bD K H b ys) (hl:xs.length=ys.length) :
  (i<xs.length->(Dm K a b).go i H/\∀ v H',(Dm K a b).yr i H v H'->∃ p,v=.ref p/\H p=none/\H'=upd H p (.tup [xs.getD i .non,ys.getD i .non]))/\(xs.length<=i->(Dm K a b).stop i H):=by
 refine ⟨fun hi=>⟨⟨⟨xs,xs[i],ha,by simp [hi]⟩,⟨ys,ys[i]'(by lia),hb,by simp [hl ▸ hi]⟩⟩,fun v H' ⟨p,x,y,e1,e2,e3,e4,e5⟩=>⟨p,e1,e2,?_⟩⟩,fun hi=>.inl ⟨xs,ha,hi⟩⟩
 rw [e3,iz,iz,e4 xs ha,e5 ys hb];rfl
theorem wk {k:Nat}{t:QL} (hc:X.calm=true) (h:WQ X es t) (hK:X.K=K:=by rfl)
  (hn:(assignEach es X.env).length=n:=by rfl) (hst:(assignEach es X.env).findIdx? (·.1)=none:=by rfl):PG X (.Tuple es k pos) (WW K n t):=hK ▸ fQ hc h hn hst
def nH (n:Nat) (l:List Nat):List Nat:=(List.replicate n l).flatten
theorem yJ (l:Array Nat):∀ (n:Nat) (acc:Array Nat),((List.replicate n l).foldl (·++·) acc).toList=acc.toList++nH n l.toList
 | 0,acc=>by simp [nH]
 | n+1,acc=>by
  rw [List.replicate_succ,List.foldl_cons,yJ l n]
  simp [nH,List.replicate_succ]
theorem NT (n:Nat) (l:List Nat):(nH n l).length=n * l.length:=by
 unfold nH
 induction n with
 | zero=>simp
 | succ n ih=>rw [List.replicate_succ,List.flatten_cons,iY,ih,Nat.succ_mul];lia
theorem Az:jC X (binaryOp .Mult) (fun x y H Q=>∃ z n,x=.str z/\y=.int n/\0<=n/\n<=1000/\z.length<=1000/\Q (.str (dO (nH n.toNat z.cps.toList))) H):=by
 intro pins s σ H x y v u Q I rx ry h
 obtain ⟨z,n,rfl,rfl,h0,h1,hz,q⟩:=h
 obtain ⟨t,rfl⟩:=rx
 obtain ⟨t',rfl⟩:=ry
 have hl:z.length * n.toNat<=1000000:=Nat.le_trans (Nat.mul_le_mul hz (show n.toNat<=1000 by lia)) (by decide)
 have hsl:z.length * n.toNat<=sizeLine:=Nat.le_trans hl (by decide)
 refine PySem.P.mul_str (by rw [decide_eq_false (by lia),decide_eq_false (by lia)];rfl) (fun hn _=>?_) (fun _ _=>by unfold Builtin.Str.tooLong;simp;lia) ?_
 ·have:(1000:Int)<=(2 ^ 63 - 1) / n:=Int.le_ediv_of_mul_le (by lia) (by lia)
  lia
 ·by_cases hn:n<1
  ·rw [if_pos hn]
   have e:n.toNat=0:=by lia
   refine ⟨by decide,.str _,H,I.tok _,⟨_,rfl⟩,?_⟩
   have e2:dO (nH n.toNat z.cps.toList)=Str.empty:=by rw [e];rfl
   rw [<- e2];exact q
  ·rw [if_neg hn]
   by_cases hc:(n==1||z.length==0)=true
   ·rw [if_pos hc]
    refine ⟨.str z,H,I,⟨t,rfl⟩,?_⟩
    have e2:dO (nH n.toNat z.cps.toList)=z:=by
     rcases Bool.or_eq_true_iff.mp hc with e | e
     ·have e':n=1:=by simpa using e
      subst e'
      simp [nH,jT]
     ·have e':z.cps.toList=[]:=by
       have:z.length=0:=by simpa using e
       simp only [Str.length] at this
       simpa using this
      have:∀ k,nH k ([]:List Nat)=[]:=fun k=>by simp [nH]
      rw [e',this,<- e',jT]
    rw [<- e2];exact q
   ·rw [if_neg hc]
    have e2:(⟨(List.replicate n.toNat z.cps).foldl (·++·) #[]⟩:Str)=dO (nH n.toNat z.cps.toList):=Nx (by
     show ((List.replicate n.toNat z.cps).foldl (·++·) #[]).toList=_
     rw [yJ];simp)
    rw [e2]
    refine ⟨?_,.str _,H,I.tok _,⟨_,rfl⟩,q⟩
    rw [fZ,NT]
    have:z.cps.toList.length=z.length:=by simp [Str.length]
    rw [this,Nat.mul_comm];exact hsl
mutual
inductive eN (H:Hp):V->PyData->Prop
 | non:eN H .non .none
 | bl (b:_):eN H (.bl b) (.bool b)
 | int (i:_):eN H (.int i) (.int i)
 | str (x:_):eN H (.str x) (.str x)
 | lst {p xs ds:_}:H p=some (.lst xs)->cN H xs ds->eN H (.ref p) (.list ds)
 | tup {p xs ds:_}:H p=some (.tup xs)->cN H xs ds->eN H (.ref p) (.tuple ds)
inductive cN (H:Hp):List V->List PyData->Prop
 | nil:cN H [] []
 | cons {v vs d ds:_}:eN H v d->cN H vs ds->cN H (v::vs) (d::ds)
end
mutual
theorem eN.same {H H':Hp} (s:Same H H'):∀ {v:V}{d:PyData},eN H v d->eN H' v d
 | _,_,.non=>.non
 | _,_,.bl b=>.bl b
 | _,_,.int i=>.int i
 | _,_,.str x=>.str x
 | _,_,.lst h r=>.lst (s _ _ h) (cN.same s r)
 | _,_,.tup h r=>.tup (s _ _ h) (cN.same s r)
theorem cN.same {H H':Hp} (s:Same H H'):∀ {vs:List V}{ds:List PyData},cN H vs ds->cN H' vs ds
 | _,_,.nil=>.nil
 | _,_,.cons h r=>.cons (eN.same s h) (cN.same s r)
end
mutual
theorem eN.reads (I:Inv X pins σ H s):∀ {v:V}{d:PyData}{u:Value},eN H v d->RelV v u->∃ as,Reads s.heap u d as
 | _,_,_,.non,r=>by cases r;exact ⟨_,.none⟩
 | _,_,_,.bl b,r=>by cases r;exact ⟨_,.bool b⟩
 | _,_,_,.int i,r=>by obtain ⟨t,rfl⟩:=r;exact ⟨_,.int i t⟩
 | _,_,_,.str x,r=>by obtain ⟨t,rfl⟩:=r;exact ⟨_,.str x t⟩
 | _,_,_,.lst h q,r=>by
  cases r
  obtain ⟨_,its,n,rv,e⟩:=(I.hok _ _ h)
  obtain ⟨as,ra⟩:=cN.reads I q rv
  exact ⟨_,.list e rfl rfl (by simpa using ra)⟩
 | _,_,_,.tup h q,r=>by
  cases r
  obtain ⟨_,its,rv,o,e,c,n,dd⟩:=(I.hok _ _ h)
  obtain ⟨as,ra⟩:=cN.reads I q rv
  exact ⟨_,.tuple e c dd (by simpa using ra)⟩
theorem cN.reads (I:Inv X pins σ H s):∀ {vs:List V}{ds:List PyData}{us:List Value},cN H vs ds->Vals vs us->∃ as,ReadsAll s.heap us ds as
 | _,_,_,.nil,r=>by cases r;exact ⟨_,.nil⟩
 | _,_,_,.cons h q,r=>by
  cases r with
  | cons r1 r2 =>
   obtain ⟨as,ra⟩:=eN.reads I h r1
   obtain ⟨bs,rb⟩:=cN.reads I q r2
   exact ⟨_,.cons ra rb⟩
end
open PySem.W PySem.Builtin.ObjectAttr PySem.Builtin.Getset_descriptor
structure XC (K:PySem.W.Frag) (D:Addr):Prop where
 ga:findIn K (.ref D) "__getattribute__"=some (some (.builtin "BaseException.__getattribute__"))
 gh:findIn K (.ref D) "__getattr__"=some none
 cl:(clsIn K D).isSome=true
 ca:findIn K (.ref D) "__class__"=some (some (.builtin "object.__class__"))
 gs:specialIn K (.builtin "object.__class__") "__get__"=some (some (.builtin "getset_descriptor.__get__"))
 tk:takesIn K (.builtin "object.__class__")=some true
 ob:mroIn K D (.type "object")=some true
 be:mroIn K D (.type "BaseException")=some true
def Mw (x D:Addr) (h:Heap):Prop:=∃ o,h.get? x=some o/\o.cls=.ref D
theorem Mw.ty {M:Model}{x:Addr} (I:Mw x D h):Looks M h (typeOf (.ref x)) (.ref D):=by
 obtain ⟨o,e,c⟩:=I
 exact c ▸ (Looks.ld e).andThen .now
section
variable {x:Addr}
theorem J2 {M:Model} (C:XC K D) (X:K.In h):Looks M h (find (.ref x) (.ref D) "__class__") (.bind (.builtin "getset_descriptor.__get__") (.builtin "object.__class__")):=by
 have L1:=looks_findIn (M:=M) X C.ca
 have L2:Looks M h (getOf (some (.builtin "object.__class__"))) _:=looks_specialIn X C.gs
 have L3:=looks_takesIn (M:=M) X C.tk
 exact L1.andThen (L2.andThen ((show Looks M h (dataDescriptor? (some _) (some _)) (some (_,_)) from L3.andThen .now).andThen (Looks.tag .now)))
theorem NZ {tp:Value}{R:Result->Shared->Prop} (C:XC K D) (X:K.In s.heap) (I:Mw x D s.heap) (h:R (.ok (.ret (.ref D))) s) :
  codeAny (model prog w) A (.call (.builtin "getset_descriptor.__get__") ⟨[.builtin "object.__class__",.ref x,tp],[]⟩) R s:=by
 obtain ⟨hh,g,dr,t,os⟩:=s
 have L0:=I.ty (M:=model prog w)
 have L1:=looks_mroIn (M:=model prog w) X C.ob
 refine codeAny_call_builtin KF.slot_gs.plain KF.entry_gs (KF.slot_gs.check _ _ _ _ _ _ _ _ KF.type_class (KF.args_gs _ _ _) ?_)
 unfold Builtin.«getset_descriptor.__get__» descrGet
 rw [dga_obj]
 refine wpAny_bind (wpAny_pure ?_)
 unfold descrGetter descrCheckInstance descrNameAndClass isInstance
 simp only [KF.owner_class]
 repeat lk
 refine ⟨Code.quiet_builtin _ (by decide +kernel),codeAny_builtin KF.entry_class ?_⟩
 unfold Builtin.«object.__class__» shownTypeOf
 repeat lk
 exact h
theorem Fz {tk:Tok}{Q:Fin->Shared->Prop} (C:XC K D) (X:K.In s.heap) (I:Mw x D s.heap) (h:Q (.done (.ret (.ref D))) s) :
  wpAny (model prog w) A (Builtin.«object.__getattribute__» ⟨[.ref x,.str "__class__" tk],[]⟩) Q E s:=by
 obtain ⟨hh,g,d,t,os⟩:=s
 have L0:=I.ty (M:=model prog w)
 have L1:=J2 (M:=model prog w) (x:=x) C X
 unfold Builtin.«object.__getattribute__»
 refine wpAny_bind (wpAny_pure (wpAny_bind (wpAny_pure (wpAny_bind (L0.at (wpAny_bind (L1.at ?_)))))))
 show wpAny _ _ (holding [.builtin "object.__class__"] (call (.builtin "getset_descriptor.__get__") [.builtin "object.__class__",.ref x,.ref D]) >>= ret) _ _ _
 exact wpAny_bind (wpAny_holding (wpAny_call (NZ (s:=⟨hh,g,d,t,os⟩) C X I (wpAny_pure h))))
theorem FJ {nameV:Value}{Q:Unit->Shared->Prop} (C:XC K D) (X:K.In s.heap) (I:Mw x D s.heap) (hq:Q () s) :
  wpAny (model prog w) A (checkBuiltinCall "BaseException.__getattribute__" ⟨[.ref x,nameV],[]⟩) Q E s:=by
 obtain ⟨hh,g,d,t,os⟩:=s
 have hk:builtinKind "BaseException.__getattribute__"=some .slot:=by decide +kernel
 have hsplit:splitId "BaseException.__getattribute__"=some ("BaseException", "__getattribute__"):=by decide +kernel
 have L0:=I.ty (M:=model prog w)
 have LI:Looks (model prog w) hh (isInstance (.ref x) (.type "BaseException")) true:=L0.andThen (looks_mroIn X C.be)
 have ha:=F.args_bexc_ga (.ref x) nameV
 simp only [checkBuiltinCall,hk,hsplit]
 refine wpAny_bind (LI.at ?_)
 repeat (any_goals (first | assumption | wp_step))
theorem FN {Q:Option Value->Shared->Prop} (C:XC K D) (X:K.In s.heap) (I:Mw x D s.heap) (h:Q (some (.ref D)) { s with toks:=s.toks+1 }) :
  wpAny (model prog w) A (getAttr? (.ref x) "__class__") Q E s:=by
 obtain ⟨hh,g,d,t,os⟩:=s
 have L0:=I.ty (M:=model prog w)
 have L1:=looks_findIn (M:=model prog w) X C.ga
 have L2:=looks_findIn (M:=model prog w) X C.gh
 unfold getAttr? getAttrBy? getAttrBy
 refine wpAny_bind (wpAny_mkText (wpAny_bind (wpAny_attempt (wpAny_holding (wpAny_bind (L0.at (wpAny_bind (L1.at ?_))))))))
 show wpAny _ _ (getAttrByItsOwn _ _ _ _ _ _) _ _ _
 unfold getAttrByItsOwn hookBefore
 have hon:onTheHeap (Value.ref D)=true:=rfl
 rw [if_pos hon]
 refine wpAny_bind (L2.at (wpAny_bind (wpAny_attempt (wpAny_holding ?_))))
 show wpAny _ _ (boundAndCalled (.builtin "BaseException.__getattribute__") (.ref x) _) _ _ _
 unfold boundAndCalled
 have f3:=PySem.F.excAttr_ValueError.ga.bind (.ref x)
 rw [f3]
 refine wpAny_bind (wpAny_pure (wpAny_call (codeAny_call_builtin PySem.F.excAttr_ValueError.ga.plain F.entry_bexc_ga (FJ (s:=⟨hh,g,d,t+1,os⟩) C X I (Fz (s:=⟨hh,g,d,t+1,os⟩) C X I ?_)))))
 refine handed_on rfl ?_
 exact wpAny_pure h
theorem J3 (C:XC K D):KitX K (.ref x) (.ref D) (Mw x D) where
 ty:=fun _ _ _ I=>I.ty
 it:=fun _ _ X _=>by
  obtain ⟨cdD,hcD⟩:=Option.isSome_iff_exists.mp C.cl
  unfold clsIn at hcD
  split at hcD
  ·rename_i c' d' cd' sl' ho
   intro A' Q' E' s' k q
   unfold isType loadHead
   exact wpAny_bind (wpAny_loadPart (k _ _ (X _ _ ho)) (wpAny_pure q))
  ·cases hcD
 ne:=fun h tp dd its n sl X htp=>by
  obtain ⟨cdD,hcD⟩:=Option.isSome_iff_exists.mp C.cl
  refine Bool.eq_false_iff.mpr fun q=>?_
  have e:D=tp:=Value.ref.inj (beq_iff_eq.mp q)
  subst e
  unfold clsIn at hcD
  split at hcD
  ·rename_i c' d' cd' sl' ho
   have z:=(X _ _ ho).symm.trans htp
   cases z
  ·cases hcD
 ca:=fun X I k=>FN C X I k
end
def Mx (C a:Addr):HO:=.ext (Mw a C)
def cV:V->Value
 | .ty T=>.type T
 | .ref a=>.ref a
 | _=>.none
def Xv (K:PySem.W.Frag):List V->Hp->VK->Prop:=fun xs H Q=>∃ a C cv b,xs=[.ref a,cv]/\H a=some (Mx C a)/\XC K C/\((∃ T,cv=.ty T)\/∃ D,cv=.ref D)/\kitOne K (.ref C) (cV cv)=some b/\Q (.bl b) H
theorem J4:dB X (.builtin "isinstance") (Xv X.K):=by
 intro pins s σ H xs us Q I r h
 obtain ⟨a,C,cv,b,rfl,ha,xc,hcv,e,q⟩:=h
 obtain ⟨u,u',rfl,ru,Hl⟩:=vals2 r
 cases ru
 have hu:u'=cV cv:=by
  rcases hcv with ⟨T,rfl⟩ | ⟨D,rfl⟩
  ·exact Hl
  ·exact Hl
 subst hu
 obtain ⟨hO,_⟩:=(show cA X.prog X.w H s.heap a (.ext (Mw a C)) from I.hok a _ ha)
 exact kia_one (J3 xc) I.lV hO e (fun z=>nomatch z) fun tk=>⟨.bl b,H,I.tok _,rfl,q⟩
structure Fly (B h0 h:Heap) (outer:List Env) (H':Hp) (ea:Addr) (C a0:Value):Prop where
 fl:Heap.FlyingW B outer ea C a0 h
 tr:∀ b o,H' b=some o->∃ u,B.get? b=some u
 old:∀ b o,h0.get? b=some o->b∉frs outer->∃ u,B.get? b=some u
def gZ (P:Program) (w:World):CZ:=fun outer H s E e s' =>
 ∃ (ea:Addr) (C a0:Value) (B:Heap) (H':Hp),e=.ref ea/\s'.os=s.os/\AllBare s'.gens/\Un (frs outer) [] H H' s.heap s'.heap/\jG P w H' s'.heap/\Fly B s.heap s'.heap outer H' ea C a0/\E C none H'
theorem qw {B:Heap} (hok:jG P w H' h) (tr:∀ b o,H' b=some o->∃ u,B.get? b=some u) (b0:B.StaysIn h) (st:B.StaysIn h2):jG P w H' h2:=fun b u q=>by
 have key:∀ c o v,H' c=some o->h.get? c=some v->h2.get? c=some v:=fun c o v q e=>by
  obtain ⟨u,hu⟩:=tr c o q
  rw [b0 c u hu] at e;cases e;exact st c _ hu
 refine (hok b u q).stay (fun c v hc e=>?_) (fun _ z=>z) fun _ _ z=>z
 rcases hc with rfl | hc
 ·exact key _ _ _ q e
 ·exact key _ _ _ hc e
theorem wu {h0 B:Heap} (un:Un (frs outer) [] H H' h0 h) (ff:h.FunFrames base outer) (old:∀ b o,h0.get? b=some o->b∉frs outer->∃ u,B.get? b=some u) (b0:B.StaysIn h) (st:B.StaysIn h2) (up:h.UpToSlots h2) :
  Un (frs outer) [] H H' h0 h2 where
 keep:=fun b o e n hb hx=>by
  obtain ⟨u,hu⟩:=old b o e hb
  have e1:=un.keep b o e n hb hx
  rw [b0 b u hu] at e1;cases e1;exact st b _ hu
 slot:=fun b o e n hb hx=>by
  obtain ⟨sl,e1⟩:=un.slot b o e n hb hx
  obtain ⟨_,o',ho',hd⟩:=ff.mem hb
  rw [e1] at ho';cases ho'
  obtain ⟨sl2,e2⟩:=up b _ e1 hd
  exact ⟨sl2,e2⟩
 free:=un.free
 there:=fun b o e hx=>by
  by_cases hb:b∈frs outer
  ·obtain ⟨_,o',ho',hd⟩:=ff.mem hb
   obtain ⟨sl2,e2⟩:=up b _ ho' hd
   exact ⟨_,e2⟩
  ·obtain ⟨u,hu⟩:=old b o e hb
   exact ⟨u,st b u hu⟩
 tups:=un.tups
 nY:=un.nY
 pW:=un.pW
theorem FP {o:HO} (x:cA P w H h a o):∃ u,h.get? a=some u:=by
 cases o with
 | lst xs=>obtain ⟨_,_,_,_,e⟩:=x;exact ⟨_,e⟩
 | tup xs=>obtain ⟨_,_,_,o,e,_⟩:=x;exact ⟨_,e⟩
 | dK kvs=>obtain ⟨_,_,_,_,o,_,_,e,_⟩:=x;exact ⟨_,e⟩
 | dT kvs=>obtain ⟨_,_,_,_,o,_,_,e,_⟩:=x;exact ⟨_,e⟩
 | set S n=>obtain ⟨o,_,_,_,e,_⟩:=x;exact ⟨_,e⟩
 | ins C dx fs=>obtain ⟨_,_,_,e,_⟩:=x;exact ⟨_,e⟩
 | own y=>exact x
 | xd fs=>obtain ⟨_,⟨o,_,_,e,_⟩,_⟩:=x;exact ⟨_,e⟩
 | met f y=>exact ⟨_,x⟩
 | rng lo hi=>obtain ⟨_,_,_,e⟩:=x;exact ⟨_,e⟩
 | zV ob u=>exact ⟨_,x.1⟩
 | N8 ps=>exact ⟨_,x⟩
 | ext φ=>exact x.2.1
section
variable {cd:Value}{E:XK}
theorem fH {s1:Shared}{e:Addr}{vs:List Value} (I:Inv (oE (gZ P w) P w K mg base N qual scope f cd A outer s H E) pins σ H1 s1) (hx:Heap.MadeExcOf s1.heap h' e (.ref C) vs) (q:E (.ref C) none H1) :
  (oE (gZ P w) P w K mg base N qual scope f cd A outer s H E).xe (.ref e) { s1 with heap:=h' }:=by
 have fr:=I.ok.frames
 have ff:=funFrames_hide (as:=frs (oE (gZ P w) P w K mg base N qual scope f cd A outer s H E).stack) I.stack fun env he a hf=>List.mem_filterMap.mpr ⟨env,he,hf⟩
 refine wpAny_leaves_madeW (h:=s1.heap) fr rfl (fun b o q=>of_hideAll _ q) ff hx fun h'' t fl tup bt up=>?_
 have b0:(hideAll s1.heap (frs (oE (gZ P w) P w K mg base N qual scope f cd A outer s H E).stack)).StaysIn s1.heap:=fun b o q=>of_hideAll _ q
 have tr:∀ b o,H1 b=some o->∃ u,(hideAll s1.heap (frs (oE (gZ P w) P w K mg base N qual scope f cd A outer s H E).stack)).get? b=some u:=fun b o e=>by
  obtain ⟨u,hu⟩:=FP (I.hok b o e)
  exact ⟨u,hideAll_get _ hu fun z=>by rw [I.vK b z] at e;cases e⟩
 have old:∀ b o,s.heap.get? b=some o->b∉frs outer->∃ u,(hideAll s1.heap (frs (oE (gZ P w) P w K mg base N qual scope f cd A outer s H E).stack)).get? b=some u:=fun b o e hb=>by
  obtain ⟨u,hu⟩:=I.base.there b o e (fun z=>nomatch z)
  refine ⟨u,hideAll_get _ hu fun z=>?_⟩
  rcases List.mem_cons.mp (I.qP b z) with q | q
  ·have h1:=Heap.lt_size e
   have h2:s.heap.objs.size<=b:=by rw [q];exact I.ok.above
   exact absurd (Nat.lt_of_lt_of_le h1 h2) (Nat.lt_irrefl _)
  ·exact hb q
 exact ⟨e,.ref C,.ref t,_,H1,rfl,I.os,I.bare,wu I.base I.lU old b0 fl.1 ((Heap.UpToSlots.of_keeps hx.keeps).trans up),qw I.hok tr b0 fl.1,⟨fl,tr,old⟩,q⟩
theorem dN:Passes (gZ P w) (oE (gZ P w) P w K mg base N qual scope f cd A outer s H E) E:=by
 rintro pins σ H1 s1 e s' I ⟨ea,C,a0,B,H',rfl,os,bare,un,hok,fly,q⟩
 have J:=I.call' os un hok bare (fun b z=>nomatch z)
 refine wpAny_leaves_onW J.ok.frames rfl fly.fl fun h'' fl up=>?_
 have old:∀ b o,s.heap.get? b=some o->b∉frs outer->∃ u,B.get? b=some u:=fun b o e hb=>by
  obtain ⟨o1,e1⟩:=I.base.there b o e (fun z=>nomatch z)
  refine fly.old b o1 e1 fun z=>?_
  rcases List.mem_cons.mp (I.qP b z) with q | q
  ·have h1:=Heap.lt_size e
   have h2:s.heap.objs.size<=b:=by rw [q];exact I.ok.above
   exact absurd (Nat.lt_of_lt_of_le h1 h2) (Nat.lt_irrefl _)
  ·exact hb q
 exact ⟨ea,C,a0,B,H',rfl,J.os,J.bare,wu J.base J.lU old fly.fl.1 fl.1 up,qw hok fly.tr fly.fl.1 fl.1,⟨fl,fly.tr,old⟩,q⟩
end
def wz (CX:CZ) (X:Cx) (E:St->XK):Prop:=∀ (pins:List (Addr×Obj)) (σ:St) (H:Hp) (s:Shared) (e:Value) (s':Shared),Inv X pins σ H s->CX X.stack H s (E σ) e s'->X.xe e s'
def TF (sp:Sp) (lY:List V) (E:St->XK) (t:TA):TE:=fun σ H Q=>t σ H fun vs H1=>sp (vs++lY) H1 Q (E σ)
section
variable {k:Nat}{lY:List V}{ds:List Value}{E:St->XK}{m:Str}{o:Expr}
theorem O1 {Q:VK}{vs:List V} (F:bf X.prog X.w X.K X.mg X.base CX k f fd ps sp) (hr:cM k X.A) (hb:Binds X.K fd ps ds) (hd:Vals lY ds) (hx:wz CX X E)
  (I:Inv X pins σ H s) (r:Vals vs us) (h:sp (vs++lY) H Q (E σ)):wpAny (model X.prog X.w) X.A (call (.ref f) us) (EP X pins σ Q) X.xe s:=by
 have r2:Vals (vs++lY) (us++ds):=r.append hd
 have hl:(us++ds).length=ps.length:=by rw [<- r2.length];exact F.len _ _ _ _ h
 refine wpAny_call (codeAny_mono (F.run X.A X.stack s H ⟨us,[]⟩ (us++ds) (vs++lY) Q (E σ) hr I.env0 (hb s us I.lV hl) r2 h) fun r s' hq=>?_)
 cases r with
 | error e=>exact hx pins σ H s e s' I hq
 | ok fl =>
  cases fl with
  | ret u=>exact I.after hq
  | next=>exact False.elim hq
  | brk=>exact False.elim hq
  | cont=>exact False.elim hq
theorem Ja (F:bf X.prog X.w X.K X.mg X.base CX k f fd ps sp) (hr:cM k X.A) (hg:Gl X x) (hm:X.mg x=some (.ref f)) (hk:PySem.W.keepIn X.K (.ref f)=true) (hb:Binds X.K fd ps ds) (hd:Vals lY ds) (hx:wz CX X E)
  (ha:PA X (e::es) t) (hdb:(x==("__debug__" : Str))=false:=by decide) (he:starEach (e::es) X.env=(false,eval e X.env)::starEach es X.env:=by rfl) (hpl:(backTo pos (starEach es X.env)).any (·.1)=false:=by rfl) :
  PE X (.Call (.Name x p) (e::es) [] pos) (TF sp lY E t):=by
 intro pins s σ H Q I h
 refine wpAny_Call_Name_kw (jj I hg hm ?_ hdb)
 refine PySem.W.callWith_K (h₀:=X.base) I.ok.mod.kin hk (cF (ha pos pins s σ H _ I h) fun us s1 ⟨vs,H1,I1,r,q⟩=>⟨I1.lV,?_⟩) he hpl
 exact O1 F hr hb hd hx I1 r q
end
def Jb (X:Cx) (E:XK):Prop:=∀ (pins:List (Addr×Obj)) (σ:St) (H:Hp) (s:Shared) (h':Heap) (e C:Addr) (vs:List Value),Inv X pins σ H s->Heap.MadeExcOf s.heap h' e (.ref C) vs->E (.ref C) none H->X.xe (.ref e) { s with heap:=h' }
abbrev tV:List Value:=[.type "ValueError",.type "Exception",.type "BaseException",.type "object"]
theorem O4 {bmB:List Value}{newId:String} (X:K.In h) (q:excIn K C bmB newId=true) :
  ∃ bm N nm q bs hdct sn sub ab col dd k0 k1 k2 k3 k5 mN,h.get? C=some (excClassObj nm q C N bs bm hdct sn sub ab col dd k0 k1 k2 k3 k5 newId)/\h.Ns N mN/\mN "__init__"=none/\OwnTail h bmB bm:=by
 unfold excIn at q
 split at q
 ·rename_i dd cd sl ho
  split at q
  ·rename_i C' bm k0 k1 k2 k3 n k5 hm hs
   simp only [Bool.and_eq_true,beq_iff_eq,Bool.not_eq_true'] at q
   obtain ⟨⟨⟨⟨⟨rfl,rfl⟩,hdel⟩,ht⟩,hok⟩,hni⟩:=q
   obtain ⟨nm,bs,mro,ns,qn,hd,sn,sub,ab,col,del⟩:=cd
   dsimp only at hm hdel hok hni
   subst hm hdel
   have hsl:sl=#[k0,k1,k2,k3,some (.builtin n),k5]:=by
    obtain ⟨l⟩:=sl
    simp only at hs
    rw [hs]
   subst hsl
   exact ⟨bm,ns,nm,qn,bs,hd,sn,sub,ab,col,dd,k0,k1,k2,k3,k5,_,X _ _ ho,.of_isNs (isNs_of_in X hok),nsMap_none_of_in X hok hni,tail_of_in X ht⟩
  ·cases q
 ·cases q
def TJ (C:Addr) (E:XK) (t:TA):TS:=fun _ σ H=>t σ H fun vs H1=>vs.length<=sizeLine/\E (.ref C) none H1
theorem jV {E:XK}{np:Pos} (hc:X.calm=true) (hr:Jb X E) (hg:Gl X x) (hm:X.mg x=some (.ref C)) (hq:excIn X.K C tV "ValueError.__new__"=true)
  (ha:PA X (e::es) t) (hdb:(x==("__debug__" : Str))=false:=by decide) (he:starEach (e::es) X.env=(false,eval e X.env)::starEach es X.env:=by rfl) (hpl:(backTo cpos (starEach es X.env)).any (·.1)=false:=by rfl) :
  PS X (.Raise (some (.Call (.Name x np) (e::es) [] cpos)) none pos) (TJ C E t):=by
 intro pins s σ H D I h
 obtain ⟨tl,N,nm,q,bs,hdct,sn,sub,ab,col,dd,k0,k1,k2,k3,k5,mN,hC,hN,hni,T⟩:=O4 I.mod.kin hq
 refine wpAny_Raise_call_subT (C:=C) (nm:=nm) (q:=q) (N:=N) (bs:=bs) (bm:=tl) (hdct:=hdct) (sn:=sn) (sub:=sub) (ab:=ab) (col:=col) (dd:=dd) (k0:=k0) (k1:=k1) (k2:=k2) (k3:=k3) (k5:=k5)
  PySem.F.excBase_ValueError (mN:=mN) (T.hasType PySem.F.excBase_ValueError.hasBase) (I.ok.hd hc) (by rw [he];show (false||(backTo cpos (starEach es X.env)).any (·.1))=false;rw [hpl];rfl) hni (jj I hg hm ⟨rfl,?_⟩ hdb)
 have h2:=ha cpos pins s σ H _ I h
 rw [he] at h2 ⊢
 refine Calls.evalArgs_plain (wpAny_mono h2 (fun us s2 hs=>?_) fun _ _ y=>y)
 obtain ⟨vs,H1,I1,r,hl,hE⟩:=hs
 exact ⟨rfl,by rw [<- r.length];exact hl,I1.bk _ _ hC,hN.keeps I1.bk,T.keeps I1.bk,fun h' e' hx=>hr pins σ H1 s2 h' e' C us I1 hx hE⟩
abbrev Cx.hand (X:Cx) (ea:Addr):Cx:={ X with A:=X.A.mark (some (.ref ea)),calm:=false,xe:=fun _ _=>False }
abbrev Cx.Dp (X:Cx) (pn:List (Addr×Obj)) (xe:Value->Shared->Prop):Cx:={ X with pn:=pn,xe:=xe }
section
variable {yj:List (Addr×Obj)}{xe:Value->Shared->Prop}{ea:Addr}
theorem Inv.Xw (I:Inv X pins σ H s):Inv (X.Dp (X.pn++pins) xe) [] σ H s :=
 ⟨⟨I.ok.mod,I.ok.kind,I.ok.glob,I.ok.blt,I.ok.above,I.ok.inj,I.ok.has,I.ok.cab,I.ok.hd,I.ok.frames,I.ok.stk,I.ok.Wg,I.ok.bs,I.ok.Hr,I.ok.yh,I.ok.zX,I.ok.lU,I.ok.Nf⟩,I.os,I.bare,I.base,I.loc,I.cell,I.free,I.gC,fun p hp=>I.pin p (by simpa using hp),I.hok,I.len⟩
theorem Inv.uJ (ok:X.Ok) (I:Inv (X.Dp (X.pn++pins) xe) yj σ H s):Inv X pins σ H s :=
 ⟨ok,I.os,I.bare,I.base,I.loc,I.cell,I.free,I.gC,fun p hp=>I.pin p (List.mem_append_left _ hp),I.hok,I.len⟩
theorem Inv.Jc (I:Inv X pins σ H s):Inv (X.hand ea) pins σ H s :=
 ⟨⟨I.ok.mod,I.ok.kind,I.ok.glob,I.ok.blt,I.ok.above,I.ok.inj,I.ok.has,I.ok.cab,(fun z=>nomatch z),I.ok.frames,I.ok.stk,I.ok.Wg,I.ok.bs,I.ok.Hr,I.ok.yh,I.ok.zX,I.ok.lU,I.ok.Nf⟩,I.os,I.bare,I.base,I.loc,I.cell,I.free,I.gC,I.pin,I.hok,I.len⟩
theorem Inv.wA (ok:X.Ok) (I:Inv (X.hand ea) pins σ H s):Inv X pins σ H s :=
 ⟨ok,I.os,I.bare,I.base,I.loc,I.cell,I.free,I.gC,I.pin,I.hok,I.len⟩
theorem qx {M:Model}{n:Str}{Q:Unit->Shared->Prop} (I:Inv X pins σ H s) (hN:X.N.Nodup) (hi:X.N[i]?=some n) (hk:X.env.scope.names.lookup n=some .local)
  (h:∀ s',Inv X pins (σ.set i none) H s'->Q () s'):wpAny M A (do bindName X.env n .none;unbindBehindTheSuite X.env n pos) Q E s:=by
 obtain ⟨m,hn,hl⟩:=id I.loc
 have hcls:(X.env.scope.kind==.class||(X.env.scope.kind==.module&&X.env.locals != X.env.globals))=false:=by rw [I.ok.kind];rfl
 have hiσ:i<σ.length:=by rw [I.len];exact (List.getElem?_eq_some_iff.mp hi).1
 have Hs:=I.Hs
 refine wpAny_nameGoes_keeps hk hn hcls fun h' v hn' hs=>?_
 obtain ⟨oL,_,_,hoL,_⟩:=id hn
 have tracked:jG X.prog X.w H h':=fun b ob e=>by
  refine (I.hok b ob e).stay (fun c w' hc q=>(hs.2 c ?_).trans q) (fun _ q=>q) fun _ _ q=>q
  rintro rfl
  rcases hc with rfl | hc
  ·rw [I.free] at e;cases e
  ·rw [I.free] at hc;cases hc
 refine h _ ⟨I.ok,I.os,I.bare,⟨fun b o e n hb hx=>?_,fun b o e n hb hx=>?_,I.base.free,fun b o e hx=>?_,I.base.tups,I.base.nY,I.base.pW⟩,⟨_,hn',fun j y v' e1 e2 e3=>?_⟩,fun y c e=>?_,I.free,I.gC,fun p hp=>?_,tracked,by simpa using I.len⟩
 ·exact (hs.2 b (Nat.ne_of_lt (Nat.lt_of_lt_of_le (Heap.lt_size e) I.ok.above))).trans (I.base.keep b o e n hb hx)
 ·obtain ⟨sl,e1⟩:=I.base.slot b o e n hb hx
  exact ⟨sl,(hs.2 b (Nat.ne_of_lt (Nat.lt_of_lt_of_le (Heap.lt_size e) I.ok.above))).trans e1⟩
 ·obtain ⟨o',e1⟩:=I.base.there b o e hx
  exact ⟨o',(hs.2 b (Nat.ne_of_lt (Nat.lt_of_lt_of_le (Heap.lt_size e) I.ok.above))).trans e1⟩
 ·by_cases hj:j=i
  ·subst hj
   rw [List.getElem?_set_self hiσ] at e2
   cases e2
  ·rw [List.getElem?_set_ne (Ne.symm hj)] at e2
   obtain ⟨u',r',q⟩:=hl j y v' e1 e2 e3
   refine ⟨u',r',?_⟩
   rcases q with ⟨k,e⟩ | ⟨k,c,e,z⟩
   ·refine .inl ⟨k,?_⟩
    have:y≠n:=fun e=>hj (qQ hN e1 (e ▸ hi))
    simp [this,e]
   ·exact .inr ⟨k,c,e,z.sameBut hs (Hs y c e)⟩
 ·obtain ⟨w',z⟩:=I.cell y c e
  exact ⟨w',z.sameBut hs (Hs y c e)⟩
 ·obtain ⟨e,n,ne,nf,d⟩:=I.pin p hp
  exact ⟨(hs.2 p.1 ne).trans e,n,ne,nf,d⟩
end
def Jd (i:Nat) (D:Ends):Ends:={ nx:=fun σ H=>D.nx (σ.set i none) H,rt:=D.rt,bk:=fun σ H=>D.bk (σ.set i none) H,ct:=fun σ H=>D.ct (σ.set i none) H }
def Rg (K:PySem.W.Frag) (L:Addr) (i:Nat) (ts:TS) (D:Ends):St->XK:=fun σ1 Cv _ H1=>∃ C,Cv=.ref C/\exmOne K (.ref C) (.ref L)=some true/\∀ ea,H1 ea=none->ts (Jd i D) (σ1.set i (some (.ref ea))) (upd H1 ea (Mx C ea))
def Xx (K:PySem.W.Frag) (L:Addr) (i:Nat) (tb:(St->XK)->TS) (ts:TS):TS:=fun D σ H=>tb (Rg K L i ts D) D σ H
theorem TQ {n:Str}{np hpos:Pos}{b0:Stmt}{suite:List Stmt}{tb:(St->XK)->TS} (Xy:X.stack=X.env::X.outer) (hfr:X.env.frame=some X.env.locals)
  (hN:X.N.Nodup) (hi:X.N[i]?=some n) (hk:X.env.scope.names.lookup n=some .local) (hg:Gl X x) (hm:X.mg x=some (.ref L))
  (hb:∀ pn xe E,wz (gZ X.prog X.w) (X.Dp pn xe) E->xZ (X.Dp pn xe) body (tb E)) (hs:∀ ea,xZ (X.hand ea) (b0::suite) ts) (hdb:(x==("__debug__" : Str))=false:=by decide) :
  PS X (.Try body [.ExceptHandler (some (.Name x np)) (some n) (b0::suite) hpos] [] [] pos) (Xx X.K L i tb ts):=by
 intro pins s σ H D I h
 have ok:=I.ok
 refine wpAny_Try_except (wpAny_mono (hb (X.pn++pins) (fun e s₁=>wpAny (model X.prog X.w) X.A (noteFrame e X.env) (fun _ s₂=>wpAny (model X.prog X.w) X.A (setFlight e none) (fun _ s₃=>wpAny (model X.prog X.w) X.A (handleBy e X.env [.ExceptHandler (some (.Name x np)) (some n) (b0::suite) hpos]) (SP X pins D) X.xe s₃) X.xe s₂) X.xe s₁)
  (Rg X.K L i ts D) ?_ [] s σ H D I.Xw h) (fun f s1 hq=>?_) fun e s1 he=>he)
 ·rintro yj σ1 H1 s1 e s' J ⟨ea,C,a0,B,H',rfl,os,bare,un,hok,fly,C',rfl,hex,hts⟩
  have fl:=fly.fl
  have ff:s'.heap.FunFrames B X.stack:=fl.2.2.1
  have frm:X.A.frames=some (X.env::X.outer):=by rw [<- Xy];exact ok.frames
  have fl':Heap.FlyingW B (X.env::X.outer) ea (.ref C') a0 s'.heap:=by rw [<- Xy];exact fl
  have at_:∀ h5,Heap.FlyingW B (X.env::X.outer) ea (.ref C') a0 h5->s'.heap.UpToSlots h5->Inv X pins σ1 H' { s' with heap:=h5 }:=fun h5 f5 up =>
   Inv.uJ ok (J.call' (s':={ s' with heap:=h5 }) os (wu un ff fly.old fl.1 f5.1 up) (qw hok fly.tr fl.1 f5.1) bare (fun b z=>nomatch z))
  have eaB:B.get? ea=none:=fl.2.1
  have eaH:H' ea=none:=by
   cases q:H' ea with
   | none=>rfl
   | some o=>obtain ⟨u,hu⟩:=fly.tr ea o q;rw [eaB] at hu;cases hu
  have ea1:s1.heap.get? ea=none:=by
   cases q:s1.heap.get? ea with
   | none=>rfl
   | some o =>
    by_cases hb':ea∈frs X.stack
    ·obtain ⟨_,o',ho',hd⟩:=ff.mem hb'
     obtain ⟨oe,vs,_,_,_,he,_,hde,_⟩:=fl.2.2.2
     rw [he] at ho';cases ho'
     exact absurd hde (hd vs)
    ·obtain ⟨u,hu⟩:=fly.old ea o q hb'
     rw [eaB] at hu;cases hu
  have at2:∀ h5,Heap.FlyingW B (X.env::X.outer) ea (.ref C') a0 h5->s'.heap.UpToSlots h5->Inv X pins σ1 (upd H' ea (Mx C' ea)) { s' with heap:=h5 }:=fun h5 f5 up=>by
   have u5:=wu un ff fly.old fl.1 f5.1 up
   have ne:∀ b o,s1.heap.get? b=some o->b≠ea:=fun b o e z=>by rw [z,ea1] at e;cases e
   have Xz:∀ b o,H' b=some o->b≠ea:=fun b o e z=>by rw [z,eaH] at e;cases e
   have u6:Un (frs X.stack) [] H1 (upd H' ea (Mx C' ea)) s1.heap h5:=⟨u5.keep,u5.slot,fun b o e q hx=>by rw [aC (ne b o e)];exact u5.free b o e q hx,u5.there,
    fun b xs e=>by have z:=u5.tups b xs e;rw [aC (Xz b _ z)];exact z,fun b o u e=>by have z:=u5.nY b o u e;rw [aC (Xz b _ z)];exact z,
    fun b ps e=>by obtain ⟨more,z⟩:=u5.pW b ps e;exact ⟨more,by rw [aC (Xz b _ z)];exact z⟩⟩
   have k5:jG X.prog X.w (upd H' ea (Mx C' ea)) h5:=fun b u e=>by
    by_cases hbe:b=ea
    ·subst hbe
     rw [ak] at e;cases e
     obtain ⟨ob,hob,hobc⟩:=f5.there
     exact ⟨⟨ob,hob,hobc⟩,⟨ob,hob⟩,fun g1 g2 ⟨o,e1,e2⟩ kk=>⟨o,kk o e1,e2⟩⟩
    ·rw [aC hbe] at e
     refine (qw hok fly.tr fl.1 f5.1 b u e).stay (fun _ _ _ q=>q) (fun c q=>by rw [aC (Xz c _ q)];exact q) fun c xs q=>by rw [aC (Xz c _ q)];exact q
   exact Inv.uJ ok (J.call' (s':={ s' with heap:=h5 }) os u6 k5 bare (fun b z=>nomatch z))
  refine wpAny_looks_onW frm hfr fl' fun h4 held up4=>?_
  refine wpAny_landsW held fun h5 fl5 up5=>?_
  have J5:Inv (X.hand ea) pins σ1 H' { s' with heap:=h5 }:=(at_ h5 fl5 (up4.trans up5)).Jc
  refine wpAny_handleBy_cons (codeAny_handlers_test (jj (X:=X.hand ea) J5 hg hm ?_ hdb)) (by intro q;cases q)
  obtain ⟨ob,hob,hobc⟩:=fl5.there
  have LT:Looks (model X.prog X.w) h5 (typeOf (.ref ea)) (.ref C'):=Mw.ty ⟨ob,hob,hobc⟩
  refine (exm_one (K:=X.K) J5.lV LT hex).at ?_
  refine codeAny_handlers_suite_as ?_
  refine lands_againW fl5 fun h6 fl6 up6=>?_
  have J6:Inv (X.hand ea) pins σ1 (upd H' ea (Mx C' ea)) { s' with heap:=h6 }:=(at2 h6 fl6 ((up4.trans up5).trans up6)).Jc
  refine qR (X:=X.hand ea) (v:=.ref ea) J6 hN hi (.inl hk) rfl (fun s7 J7=>?_) (.inr hk)
  refine wpAny_mono (hs ea pins s7 _ _ (Jd i D) J7 (hts ea eaH)) (fun f s8 q8=>?_) fun _ _ z=>z.elim
  cases f with
  | next =>
   obtain ⟨σ2,H2,J8,q⟩:=q8
   exact qx (J8.wA ok) hN hi hk fun s9 J9=>⟨_,H2,J9,q⟩
  | brk =>
   obtain ⟨σ2,H2,J8,q⟩:=q8
   exact qx (J8.wA ok) hN hi hk fun s9 J9=>⟨_,H2,J9,q⟩
  | cont =>
   obtain ⟨σ2,H2,J8,q⟩:=q8
   exact qx (J8.wA ok) hN hi hk fun s9 J9=>⟨_,H2,J9,q⟩
  | ret u =>
   obtain ⟨v,σ2,H2,J8,r,q⟩:=q8
   exact qx (J8.wA ok) hN hi hk fun s9 J9=>⟨v,_,H2,J9,r,q⟩
 ·cases f with
  | next =>
   obtain ⟨σ2,H2,J8,q⟩:=hq
   exact wpAny_execs_nil ⟨σ2,H2,Inv.uJ ok J8,q⟩
  | brk =>
   obtain ⟨σ2,H2,J8,q⟩:=hq
   exact ⟨σ2,H2,Inv.uJ ok J8,q⟩
  | cont =>
   obtain ⟨σ2,H2,J8,q⟩:=hq
   exact ⟨σ2,H2,Inv.uJ ok J8,q⟩
  | ret u =>
   obtain ⟨v,σ2,H2,J8,r,q⟩:=hq
   exact ⟨v,σ2,H2,Inv.uJ ok J8,r,q⟩
section
variable {κ:Type} [DecidableEq κ]
def jw (kvs:List (κ×V)) (k:κ):Option V:=(kvs.find? fun kv=>decide (kv.1=k)).map (·.2)
def putK (kvs:List (κ×V)) (k:κ) (v:V):List (κ×V) :=
 if (kvs.any fun kv=>decide (kv.1=k))=true then kvs.map (fun kv=>if kv.1=k then (kv.1,v) else kv) else kvs++[(k,v)]
def rK (kvs:List (κ×V)) (k:κ):List (κ×V):=kvs.filter fun kv=>decide (kv.1≠k)
theorem jW {p:κ×V}{r:List (κ×V)}{k:κ} (e:p.1=k):jw (p::r) k=some p.2:=by simp [jw,List.find?_cons,e]
theorem jX {p:κ×V}{r:List (κ×V)}{k:κ} (e:¬ p.1=k):jw (p::r) k=jw r k:=by simp [jw,List.find?_cons,e]
theorem yK (k:κ):∀ kvs:List (κ×V),(kvs.any fun kv=>decide (kv.1=k))=(jw kvs k).isSome
 | []=>rfl
 | p::r=>by
  rw [List.any_cons]
  by_cases e:p.1=k
  ·simp only [jW e,decide_eq_true e,Bool.true_or,Option.isSome_some]
  ·rw [jX e,decide_eq_false e,Bool.false_or];exact yK k r
theorem jY (kvs:List (κ×V)) (k:κ) (v:V):(putK kvs k v).length<=kvs.length+1:=by
 unfold putK
 split
 ·rw [bR];lia
 ·rw [iY,jK,List.length_nil];lia
theorem iQ.gO {o:Option V}{u:Option Value} (r:iQ o u):o.isSome=u.isSome:=by
 cases o with
 | none=>cases u with
  | none=>rfl
  | some _=>exact (show False from r).elim
 | some _=>cases u with
  | none=>exact (show False from r).elim
  | some _=>rfl
theorem iQ.getD {o:Option V}{u:Option Value}{d:V}{d':Value} (r:iQ o u) (rd:RelV d d'):RelV (o.getD d) (u.getD d'):=by
 cases o with
 | none=>cases u with
  | none=>exact rd
  | some _=>exact (show False from r).elim
 | some _=>cases u with
  | none=>exact (show False from r).elim
  | some _=>exact r
theorem KV.val {kvs:List (κ×V)}{vs:List (κ×Value)} (r:KV kvs vs) (k:κ):iQ (jw kvs k) (valueAt vs k):=by
 unfold KV at r
 induction r with
 | nil=>exact True.intro
 | @cons p q ps qs h t ih =>
  obtain ⟨h1,h2⟩:=h
  by_cases e:p.1=k
  ·have e':q.1=k:=h1.symm.trans e
   have b:valueAt (q::qs) k=some q.2:=by simp [valueAt,List.find?_cons,e']
   rw [jW e,b];exact h2
  ·have e':¬ q.1=k:=fun z=>e (h1.trans z)
   have b:valueAt (q::qs) k=valueAt qs k:=by simp [valueAt,List.find?_cons,e']
   rw [jX e,b];exact ih
theorem KV.any {kvs:List (κ×V)}{vs:List (κ×Value)} (r:KV kvs vs) (k:κ):(kvs.any fun kv=>decide (kv.1=k))=vs.any fun kv=>decide (kv.1=k):=by
 unfold KV at r
 induction r with
 | nil=>rfl
 | cons h t ih=>rw [List.any_cons,List.any_cons,ih,h.1]
theorem KV.repl {kvs:List (κ×V)}{vs:List (κ×Value)} (r:KV kvs vs) (k:κ)  (ry:RelV y u) :
  KV (kvs.map fun kv=>if kv.1=k then (kv.1,y) else kv) (vs.map fun kv=>if kv.1=k then (kv.1,u) else kv):=by
 unfold KV at r ⊢
 induction r with
 | nil=>exact .nil
 | @cons p q ps qs h t ih =>
  rw [List.map_cons,List.map_cons]
  refine .cons ?_ ih
  obtain ⟨h1,h2⟩:=h
  by_cases e:p.1=k
  ·rw [if_pos e,if_pos (h1.symm.trans e)];exact ⟨h1,ry⟩
  ·rw [if_neg e,if_neg (fun z=>e (h1.trans z))];exact ⟨h1,h2⟩
theorem KV.put {kvs:List (κ×V)}{vs:List (κ×Value)} (r:KV kvs vs) (k:κ)  (ry:RelV y u):KV (putK kvs k y) (stored vs k u):=by
 unfold putK stored
 rw [r.any k]
 by_cases e:(vs.any fun kv=>decide (kv.1=k))=true
 ·rw [if_pos e,if_pos e];exact r.repl k ry
 ·rw [if_neg e,if_neg e];exact Paired.snoc r ⟨rfl,ry⟩
theorem KV.drop {kvs:List (κ×V)}{vs:List (κ×Value)} (r:KV kvs vs) (k:κ):KV (rK kvs k) (without vs k):=by
 unfold KV at r ⊢
 unfold rK without
 induction r with
 | nil=>exact .nil
 | @cons p q ps qs h t ih =>
  obtain ⟨h1,h2⟩:=h
  rw [List.filter_cons,List.filter_cons]
  by_cases e:p.1=k
  ·have a:¬ decide (p.1≠k)=true:=by simp [e]
   have b:¬ decide (q.1≠k)=true:=by simp [h1.symm.trans e]
   rw [if_neg a,if_neg b];exact ih
  ·have e':¬ q.1=k:=fun z=>e (h1.trans z)
   have a:decide (p.1≠k)=true:=by simp [e]
   have b:decide (q.1≠k)=true:=by simp [e']
   rw [if_pos a,if_pos b];exact .cons ⟨h1,h2⟩ ih
theorem KV.length {kvs:List (κ×V)}{vs:List (κ×Value)} (r:KV kvs vs):kvs.length=vs.length:=Paired.length r
theorem Je (kvs:List (κ×V)) (k:κ):(rK kvs k).length<=kvs.length:=List.length_filter_le _ _
end
theorem pJ {k:Key} (r:RelV (kV k) u):(bJ P w).is k u=true:=by
 cases k with
 | inl i=>obtain ⟨t,e⟩:=(show ∃ t,u=Value.int i t from r);subst e;exact yd P w i t
 | inr x=>obtain ⟨t,e⟩:=(show ∃ t,u=Value.str x t from r);subst e;exact yg P w x t
theorem uK:∀ {ks:List Key}{us:List Value},Vals (ks.map kV) us->ItemsAre (bJ P w) ks us
 | [],_,r=>by rw [List.map_nil] at r;cases r;exact .nil
 | k::ks,_,r=>by
  rw [List.map_cons] at r
  cases r with
  | cons h t=>exact .cons (pJ h) (uK t)
abbrev KT (H:Hp):List (List Key×V)->List (List Key×Addr×Value)->Prop:=Paired fun p q=>p.1=q.1/\H q.2.1=some (.tup (p.1.map kV))/\RelV p.2 q.2.2
theorem KT.val {kvs:List (List Key×V)}{xs:List (List Key×Addr×Value)} (r:KT H kvs xs) (k:List Key):iQ (jw kvs k) ((atKey xs k).map (·.2)):=by
 induction r with
 | nil=>exact True.intro
 | @cons p q ps qs h t ih =>
  obtain ⟨h1,_,h2⟩:=h
  by_cases e:p.1=k
  ·have e':q.1=k:=h1.symm.trans e
   have b:atKey (q::qs) k=some q.2:=by simp [atKey,List.find?_cons,e']
   rw [jW e,b];exact h2
  ·have e':¬ q.1=k:=fun z=>e (h1.trans z)
   have b:atKey (q::qs) k=atKey qs k:=by simp [atKey,List.find?_cons,e']
   rw [jX e,b];exact ih
theorem KT.repl {kvs:List (List Key×V)}{xs:List (List Key×Addr×Value)} (r:KT H kvs xs) (k:List Key)  (ry:RelV y u) :
  KT H (kvs.map fun kv=>if kv.1=k then (kv.1,y) else kv) (xs.map (putAt k u)):=by
 induction r with
 | nil=>exact .nil
 | @cons p q ps qs h t ih =>
  rw [List.map_cons,List.map_cons]
  refine .cons ?_ ih
  obtain ⟨h1,h2,h3⟩:=h
  unfold putAt
  by_cases e:p.1=k
  ·rw [if_pos e,if_pos (h1.symm.trans e)];exact ⟨h1,h2,ry⟩
  ·rw [if_neg e,if_neg (fun z=>e (h1.trans z))];exact ⟨h1,h2,h3⟩
theorem KT.put {kvs:List (List Key×V)}{xs:List (List Key×Addr×Value)} (r:KT H kvs xs) (k:List Key)  (hb:H b=some (.tup (k.map kV))) (ry:RelV y u) :
  KT H (putK kvs k y) (storedH xs k b u):=by
 have e:(kvs.any fun kv=>decide (kv.1=k))=(atKey xs k).isSome:=by
  rw [yK,(r.val k).gO,Option.isSome_map]
 unfold putK storedH
 rw [e]
 by_cases q:(atKey xs k).isSome=true
 ·rw [if_pos q,if_pos q];exact r.repl k ry
 ·rw [if_neg q,if_neg q];exact Paired.snoc r ⟨rfl,hb,ry⟩
theorem KT.keeps {kvs:List (List Key×V)}{xs:List (List Key×Addr×Value)} (r:KT H kvs xs) (ht:∀ b ys,H b=some (.tup ys)->H' b=some (.tup ys)):KT H' kvs xs :=
 Paired.iB r fun _ _ z=>⟨z.1,ht _ _ z.2.1,z.2.2⟩
theorem Rh {u:HO} (ok:jG P w H h) (e:Rd H a u):cA P w H h a u:=e.ok ok
theorem uL {kvs:List (Key×V)} (ok:jG P w H h) (e:Rd H a (.dK kvs)):kvs.length<=sizeLine/\(a==sysModules)=false/\∃ vs,KV kvs vs/\h.DictOf (bJ P w) a vs :=
 show cA P w H h a (.dK kvs) from Rh ok e
theorem yL {kvs:List (Key×V)} (ok:jG P w H h) (e:H a=some (.dK kvs)):kvs.length<=sizeLine/\(a==sysModules)=false/\∃ vs,KV kvs vs/\h.DictOf (bJ P w) a vs:=uL ok (.inl e)
theorem oG {ks:List Key} (ok:jG P w H h) (e:H a=some (.tup (ks.map kV))):(tupleKind (bJ P w)).is h ks a:=by
 obtain ⟨_,its,r,o,h1,h2,n,h3⟩:=(show cA P w H h a (.tup (ks.map kV)) from ok a _ e)
 exact ⟨o,its.toArray,n,h1,h2,h3,by simpa using uK r⟩
theorem uM {kvs:List (List Key×V)} (ok:jG P w H h) (e:Rd H a (.dT kvs)):kvs.length<=sizeLine/\(a==sysModules)=false /\
  ∃ xs,KT H kvs xs/\h.DictOfH (tupleKind (bJ P w)) a xs:=by
 obtain ⟨z,y,xs,r,o,es,ep,h1,h2,h3,h4,h5⟩:=(show cA P w H h a (.dT kvs) from Rh ok e)
 refine ⟨z,y,xs,r,o,es,ep,h1,h2,h3,h4,fun x hx=>?_,h5⟩
 have all:∀ {l:List (List Key×V)}{m:List (List Key×Addr×Value)},KT H l m->∀ x∈m,(tupleKind (bJ P w)).is h x.1 x.2.1:=by
  intro l m q
  induction q with
  | nil=>intro x hx;exact nomatch hx
  | @cons p q ps qs hq t ih =>
   intro x hx
   rcases List.mem_cons.mp hx with e | hx
   ·subst e
    exact oG ok (by rw [<- hq.1];exact hq.2.1)
   ·exact ih x hx
 exact all r x hx
theorem XD {kvs:List (List Key×V)} (ok:jG P w H h) (e:H a=some (.dT kvs)):kvs.length<=sizeLine/\(a==sysModules)=false /\
  ∃ xs,KT H kvs xs/\h.DictOfH (tupleKind (bJ P w)) a xs:=uM ok (.inl e)
def gJ (H:Hp) (a:Addr) (y:V) (r:Option V):Prop :=
 (∃ kvs k,Rd H a (.dK kvs)/\y=kV k/\r=jw kvs k)\/∃ kvs k b,Rd H a (.dT kvs)/\y=.ref b/\H b=some (.tup (k.map kV))/\r=jw kvs k
def FQ (H:Hp) (a:Addr) (y v:V) (H':Hp):Prop :=
 (∃ kvs k,H a=some (.dK kvs)/\y=kV k/\kvs.length<sizeLine/\H'=upd H a (.dK (putK kvs k v))) \/
 ∃ kvs k b,H a=some (.dT kvs)/\y=.ref b/\H b=some (.tup (k.map kV))/\kvs.length<sizeLine/\H'=upd H a (.dT (putK kvs k v))
theorem gJ.k {kvs:List (Key×V)}{k:Key} (e:H a=some (.dK kvs)):gJ H a (kV k) (jw kvs k):=.inl ⟨kvs,k,.inl e,rfl,rfl⟩
theorem FQ.k {kvs:List (Key×V)}{k:Key} (e:H a=some (.dK kvs)) (hl:kvs.length<sizeLine):FQ H a (kV k) v (upd H a (.dK (putK kvs k v))):=.inl ⟨kvs,k,e,rfl,hl,rfl⟩
section
variable {r:Value}{o:Option V}
theorem Inv.big (I:Inv X pins σ H s):sysModules<s.heap.objs.size:=by
 have h:mainGlobals<s.heap.objs.size:=(I.mod.glob.keeps I.bk).lt
 exact Nat.lt_trans (by decide) h
theorem FT (hu:A.units+1<cLine) (I:Inv X pins σ H s) (g:gJ H a y (some v)) (ry:RelV y u) (h:∀ w' s',Inv X pins σ H s'->RelV v w'->Q w' s') :
  wpAny (model X.prog X.w) A (getItem (.ref a) u) Q E s:=by
 rcases g with ⟨kvs,k,e,ey,l⟩ | ⟨kvs,k,b,e,ey,eb,l⟩
 ·subst ey
  obtain ⟨z,hd,vs,rel,dd⟩:=uL I.hok e
  obtain ⟨w',hw,Fp⟩:=iQ.some_of (v:=v) (o:=valueAt vs k) (by rw [l];exact rel.val k)
  exact wpAny_getItem_of (pJ ry) dd.mapOf hw (h w' _ (I.tok _) Fp)
 ·subst ey
  cases (show u=Value.ref b from ry)
  obtain ⟨z,hd,xs,rel,dd⟩:=uM I.hok e
  obtain ⟨w',hw,Fp⟩:=iQ.some_of (v:=v) (o:=(atKey xs k).map (·.2)) (by rw [l];exact rel.val k)
  obtain ⟨p,hp,hp2⟩:=Option.map_eq_some_iff.mp hw
  refine wpAny_getItem_heap (tupleKind_room_in1 hu) (oG I.hok eb) dd hp ?_
  rw [hp2]
  exact h w' _ (I.tok _) Fp
theorem O5 (hu:A.units+1<cLine) (I:Inv X pins σ H s) (g:gJ H a y o) (ry:RelV y u) (h:∀ s',Inv X pins σ H s'->Q (.bool (!o.isSome)) s') :
  wpAny (model X.prog X.w) A (compareOp .NotIn u (.ref a)) Q E s:=by
 rcases g with ⟨kvs,k,e,ey,l⟩ | ⟨kvs,k,b,e,ey,eb,l⟩
 ·subst ey
  obtain ⟨z,hd,vs,rel,dd⟩:=uL I.hok e
  refine wpAny_notIn_of (pJ ry) hd dd.mapOf ?_
  rw [<- (rel.val k).gO,<- l]
  exact h _ (I.tok _)
 ·subst ey
  cases (show u=Value.ref b from ry)
  obtain ⟨z,hd,xs,rel,dd⟩:=uM I.hok e
  refine wpAny_notIn_heap (tupleKind_room_in1 hu) (oG I.hok eb) hd dd ?_
  have q:=(rel.val k).gO
  rw [Option.isSome_map] at q
  rw [<- q,<- l]
  exact h _ (I.tok _)
theorem qy {ob:HO} (I:Inv X pins σ H s) (mu:Wx (H a)) (hs:Heap.SameBut a s.heap h') (he:∃ q,h'.get? a=some q) (new:cA X.prog X.w (upd H a ob) h' a ob) :
  Inv X pins σ (upd H a ob) { s with heap:=h',toks:=t' } :=
 I.write (x:=a) (e:=a) mu (.inl rfl) (fun b q hb z=>(hs.2 b hb).trans z) he new
theorem Ba {kvs:List (Key×V)}{vs:List (Key×Value)} (z:kvs.length<=sizeLine) (hd:(a==sysModules)=false) (rel:KV kvs vs) (dd:h'.DictOf (bJ P w) a vs) :
  cA P w H' h' a (.dK kvs):=⟨z,hd,vs,rel,dd⟩
theorem FW {Q:Unit->Shared->Prop} (hu:A.units+1<cLine) (I:Inv X pins σ H s) (g:FQ H a y v H') (ry:RelV y u) (rv:RelV v r) (h:∀ s',Inv X pins σ H' s'->Q () s') :
  wpAny (model X.prog X.w) A (setItem (.ref a) u r) Q E s:=by
 rcases g with ⟨kvs,k,e,ey,l,eH⟩ | ⟨kvs,k,b,e,ey,eb,l,eH⟩
 ·subst ey eH
  obtain ⟨z,hd,vs,rel,dd⟩:=yL I.hok e
  have hz:vs.length<=sizeLine:=by rw [<- rel.length];exact z
  have hl:(putK kvs k v).length<=sizeLine:=by have:=jY kvs k v;lia
  refine wpAny_setItem_pairs (hsz:=hz) (pJ ry) dd fun h' Mz hs=>h _ ?_
  have he:∃ q,h'.get? a=some q:=let ⟨q,_,_,hq,_⟩:=Mz;⟨q,hq⟩
  exact qy I (by rw [e];exact True.intro) hs he (Ba hl hd (rel.put k rv) Mz)
 ·subst ey eH
  cases (show u=Value.ref b from ry)
  obtain ⟨z,hd,xs,rel,dd⟩:=XD I.hok e
  have hz:xs.length<=sizeLine:=by rw [<- Paired.length rel];exact z
  have hl:(putK kvs k v).length<=sizeLine:=by have:=jY kvs k v;lia
  refine wpAny_setItem_heap (hsz:=hz) (tupleKind_room_in1 hu) (oG I.hok eb) dd fun h' Mz hs=>h _ ?_
  obtain ⟨q,es,ep,hq,h2,h3,h4,_,h5⟩:=Mz
  refine qy I (by rw [e];exact True.intro) hs ⟨q,hq⟩ ⟨hl,hd,_,(rel.put k eb rv).keeps fun c ys ec=>?_,q,es,ep,hq,h2,h3,h4,h5⟩
  rw [aC (Ww ec e (fun z=>nomatch z))]
  exact ec
end
section
variable {kvs:List (Key×V)}{k:Key}
theorem FZ {Q:Unit->Shared->Prop} (I:Inv X pins σ H s) (e:H a=some (.dK kvs)) (ry:RelV (kV k) u) (l:(jw kvs k).isSome=true) (h:∀ s',Inv X pins σ (upd H a (.dK (rK kvs k))) s'->Q () s') :
  wpAny (model X.prog X.w) A (delItem (.ref a) u) Q E s:=by
 obtain ⟨z,hd,vs,rel,dd⟩:=yL I.hok e
 refine wpAny_delItem_slot dd.typeIs (by decide) PySem.F.slot_dict_delitem
  (call_meetsIn PySem.F.slot_dict_delitem dd.typeIs PySem.F.entry_dict_delitem (PySem.F.args_dict_delitem_2 _ _) (meets_dict_delitem_pairs (bJ X.prog X.w) a (pJ ry)) ⟨vs,dd,by rw [<- rel.length];exact z,by rw [<- (rel.val k).gO];exact l,fun h' Mz hs=>h _ ?_⟩)
 have he:∃ q,h'.get? a=some q:=let ⟨q,_,_,hq,_⟩:=Mz;⟨q,hq⟩
 exact qy I (by rw [e];exact True.intro) hs he (Ba (Nat.le_trans (Je kvs k) z) hd (rel.drop k) Mz)
end
def XF (i:Expr):Prop:=∀ ov iv,subscripted i false ov iv=operate [ov,iv] (getItem ov iv)
theorem O6 {slice:Expr}{id:String}
  (hl:typeLookup (.type T) "__getitem__"=pure (some (.builtin id))) (hs:XF slice)
  (h:wpAny (model prog w) A (eval value env) (fun o s₁=>wpAny (model prog w) A (eval slice env) (fun i s₂=>s₂.TypeIs o T/\wpAny (model prog w) A (getItem o i) Q E s₂) E s₁) E s) :
  wpAny (model prog w) A (eval (.Subscript value slice pos) env) Q E s:=by
 refine Subscript_ (wpAny_mono h (fun o s₁ h₁=>wpAny_mono h₁ (fun i s₂ h₂=>?_) fun _ _ x=>x) fun _ _ x=>x)
 obtain ⟨hT,h₂⟩:=h₂
 unfold subscriptTail
 refine wpAny_bind ?_
 rw [getitemInPython_of_ne hT.not_modules]
 refine wpAny_bind (wpAny_specialOf hT hl ?_)
 have fin:wpAny (model prog w) A (subscripted slice false o i) (fun r s₃=>wpAny (model prog w) A (letTemporaryGo value o r >>= fun _=>pure r) Q E s₃) E s₂:=by
  rw [hs o i]
  exact wpAny_operating (wpAny_mono h₂ (fun r s₃ h₃=>wpAny_bind (wpAny_letTemporaryGo (wpAny_pure h₃))) fun _ _ x=>x)
 first
  | exact wpAny_pure (wpAny_bind fin)
  | exact wpAny_bind (wpAny_pure (wpAny_bind fin))
  | exact wpAny_bind fin
theorem yM {o:Option V} (I:Inv X pins σ H s) (g:gJ H a y o):s.TypeIs (.ref a) "dict":=by
 rcases g with ⟨kvs,k,e,_,_⟩ | ⟨kvs,k,b,e,_,_,_⟩
 ·obtain ⟨_,_,vs,_,dd⟩:=uL I.hok e
  exact dd.typeIs
 ·obtain ⟨_,_,xs,_,dd⟩:=uM I.hok e
  exact dd.typeIs
def XH (td ty:TE):TE:=fun σ H Q=>td σ H fun x H1=>ty σ H1 fun y H2=>∃ a v,x=.ref a/\gJ H2 a y (some v)/\Q v H2
def O7 (ty td:TE):TE:=fun σ H Q=>ty σ H fun y H1=>td σ H1 fun x H2=>∃ a o,x=.ref a/\gJ H2 a y o/\Q (.bl (!o.isSome)) H2
def XJ (td ty tv:TE):TS:=fun D σ H=>tv σ H fun v H1=>td σ H1 fun x H2=>ty σ H2 fun y H3=>∃ a H4,x=.ref a/\FQ H3 a y v H4/\D.nx σ H4
def XM (td ty:TE):TS:=fun D σ H=>td σ H fun x H1=>ty σ H1 fun y H2=>∃ a kvs k,x=.ref a/\H2 a=some (.dK kvs)/\y=kV k/\(jw kvs k).isSome=true/\D.nx σ (upd H2 a (.dK (rK kvs k)))
section
variable {o i:Expr}{tpos:Pos}{td ty:TE}
theorem cG (hu:X.A.units+1<cLine) (ho:PE X o td) (hi:PE X i ty) (hs:XF i):PE X (.Subscript o i pos) (XH td ty):=by
 intro pins s σ H Q I h
 refine O6 PySem.F.slot_dict_getitem.lookup hs (cF (ho pins s σ H _ I h) fun u s1 ⟨x,H1,I1,rx,q1⟩=>cF (hi pins s1 σ H1 _ I1 q1) fun iv s2 zq=>?_)
 obtain ⟨y,H2,I2,ry,a,v,ex,g,q2⟩:=zq
 subst ex
 obtain rfl:u=Value.ref a:=rx
 exact ⟨yM I2 g,FT hu I2 g ry fun w' s3 I3 Fp=>⟨v,H2,I3,Fp,q2⟩⟩
theorem Ga (hu:X.A.units+1<cLine) (hi:PE X i ty) (ho:PE X o td):PC X .NotIn i o (O7 ty td):=by
 intro pins s σ H Q I h
 refine cF (hi pins s σ H _ I h) fun iv s1 ⟨y,H1,I1,ry,q1⟩=>cF (ho pins s1 σ H1 _ I1 q1) fun u s2 zq=>?_
 obtain ⟨x,H2,I2,rx,a,ov,ex,g,q2⟩:=zq
 subst ex
 obtain rfl:u=Value.ref a:=rx
 exact O5 hu I2 g ry fun s3 I3=>⟨.bl (!ov.isSome),H2,I3,rfl,q2⟩
theorem Dq (hu:X.A.units+1<cLine) (ho:PE X o td) (hi:PE X i ty) (hv:PE X value tv) (hs:swapsWith value (some (.Subscript o i pos')) pos.line X.env=pure false) :
  PS X (.Assign [.Subscript o i pos'] value pos) (XJ td ty tv):=by
 intro pins s σ H D I h
 refine wpAny_Assign_Subscript (cF (hv pins s σ H _ I h) fun r s1 ⟨v,H1,I1,rv,q1⟩=>cF (ho pins s1 σ H1 _ I1 q1) fun u s2 ⟨x,H2,I2,rx,q2⟩=>cF (hi pins s2 σ H2 _ I2 q2) fun iv s3 ⟨y,H3,I3,ry,a,H4,ex,g,q3⟩=>?_) hs
 subst ex
 obtain rfl:u=Value.ref a:=rx
 exact FW hu I3 g ry rv fun s4 I4=>⟨σ,H4,I4,q3⟩
theorem Dr (ho:PE X o td) (hi:PE X i ty):PS X (.Delete [.Subscript o i tpos] pos) (XM td ty):=by
 intro pins s σ H D I h
 refine wpAny_Delete (wpAny_deleteEach_cons (wpAny_delete_Subscript (cF (ho pins s σ H _ I h) fun u s1 ⟨x,H1,I1,rx,q1⟩=>cF (hi pins s1 σ H1 _ I1 q1) fun iv s2 zq=>?_)))
 obtain ⟨y,H2,I2,ry,a,kvs,k,ex,e,ey,l,q2⟩:=zq
 subst ex ey
 obtain rfl:u=Value.ref a:=rx
 exact FZ I2 e ry l fun s3 I3=>wpAny_deleteEach_nil ⟨σ,_,I3,q2⟩
end
theorem yN (h:Heap) (hb:sysModules<h.objs.size):cA P w H (h.push { cls:=.type "dict",data:=.dict #[] }) h.objs.size (.dK []) :=
 ⟨Nat.zero_le _,beq_eq_false_iff_ne.mpr (Ne.symm (Nat.ne_of_lt hb)),[],.nil,Heap.DictOf.new h⟩
def TV:TE:=fun _ H Q=>∀ p,H p=none->Q (.ref p) (upd H p (.dK []))
theorem Jf:PE X (.Dict [] [] pos) TV:=fun pins s σ H Q I h =>
 wpAny_Dict_empty ⟨.ref s.heap.objs.size,_,I.laid (a:=s.heap.objs.size) (o:=.dK []) (t':=s.toks) (fun _ _ q=>Heap.get?_push_of_some _ q) (Nat.le_refl _) (yN s.heap I.big),rfl,h _ (I.hok.fresh (Nat.le_refl _))⟩
def mJ:List (TE×TE)->St->Hp->(List (V×V)->Hp->Prop)->Prop
 | [],_,H,Q=>Q [] H
 | (tk,tv)::r,σ,H,Q=>tk σ H fun x H1=>tv σ H1 fun y H2=>mJ r σ H2 fun ps H3=>Q ((x,y)::ps) H3
abbrev VV:List (V×V)->List (Value×Value)->Prop:=Paired fun p q=>RelV p.1 q.1/\RelV p.2 q.2
def PPs (X:Cx) (pos:Pos) (keys:List (Option Expr)) (values:List Expr) (Ho:List (TE×TE)):Prop :=
 ∀ (pins:List (Addr×Obj)) (s:Shared) (σ:St) (H:Hp) (Q:List (V×V)->Hp->Prop),Inv X pins σ H s->mJ Ho σ H Q ->
  wpAny (model X.prog X.w) X.A (evalPairs (pairTrees keys values X.env pos)) (fun vs s'=>∃ ps H',Inv X pins σ H' s'/\VV ps vs/\Q ps H') X.xe s
theorem wB:PPs X pos [] [] []:=fun pins s σ H Q I h=>pairTrees_nil_walk ⟨[],H,I,.nil,h⟩
theorem cO {k v:Expr}{ks:List (Option Expr)}{vs:List Expr}{tk:TE} (hk:PE X k tk) (hv:PE X v tv) (hr:PPs X pos ks vs Ho) :
  PPs X pos (some k::ks) (v::vs) ((tk,tv)::Ho):=fun pins s σ H Q I h =>
 pairTrees_cons_walk (cF (hk pins s σ H _ I h) fun u s1 ⟨x,H1,I1,rx,q1⟩=>cF (hv pins s1 σ H1 _ I1 q1) fun w2 s2 ⟨y,H2,I2,ry,q2⟩ =>
  cF (hr pins s2 σ H2 _ I2 q2) fun ws s3 ⟨ps,H3,I3,rel,q3⟩=>⟨(x,y)::ps,H3,I3,.cons ⟨rx,ry⟩ rel,q3⟩)
def dR (kvs more:List (Key×V)):List (Key×V):=more.foldl (fun acc kv=>putK acc kv.1 kv.2) kvs
theorem KV.merge:∀ {more:List (Key×V)}{rs:List (Key×Value)}{kvs:List (Key×V)}{vs:List (Key×Value)},KV more rs->KV kvs vs->KV (dR kvs more) (merged vs rs):=by
 intro more rs kvs vs r
 unfold KV at r
 induction r generalizing kvs vs with
 | nil=>intro q;exact q
 | @cons p q ps qs h t ih =>
  intro r0
  have e:KV (putK kvs p.1 p.2) (stored vs q.1 q.2):=by
   have:=r0.put p.1 h.2
   rw [<- h.1];exact this
  exact ih e
theorem iU:∀ (more kvs:List (Key×V)),(dR kvs more).length<=kvs.length+more.length
 | [],kvs=>by show kvs.length<=kvs.length+0;lia
 | p::r,kvs=>by
  have h1:=iU r (putK kvs p.1 p.2)
  have h2:=jY kvs p.1 p.2
  show (dR (putK kvs p.1 p.2) r).length<=_
  rw [jK];lia
theorem rM {P:Program}{w:World}:∀ {kvs:List (Key×V)}{ws:List (Value×Value)},VV (kvs.map fun kv=>(kV kv.1,kv.2)) ws->∃ rs,Carries (bJ P w) ws rs/\KV kvs rs
 | [],_,r=>by rw [List.map_nil] at r;cases r;exact ⟨[],True.intro,.nil⟩
 | p::kvs,_,r=>by
  rw [List.map_cons] at r
  cases r with
  | @cons a b as bs h t =>
   obtain ⟨rs,c,q⟩:=rM (P:=P) (w:=w) t
   obtain ⟨b1,b2⟩:=b
   exact ⟨(p.1,b2)::rs,⟨pJ h.1,rfl,c⟩,.cons ⟨rfl,h.2⟩ q⟩
def nJ (Ho:List (TE×TE)):TE:=fun σ H Q=>∀ p,H p=none->mJ Ho σ (upd H p (.dK [])) fun ps H2=>H2 p=some (.dK [])/\∃ kvs:List (Key×V),ps=kvs.map (fun kv=>(kV kv.1,kv.2))/\kvs.length<=15/\Q (.ref p) (upd H2 p (.dK (dR [] kvs)))
theorem wC {keys:List (Option Expr)}{values:List Expr} (h:PPs X pos keys values Ho) (hall:keys.all (·.isSome)=true) (hl:keys.length=values.length) (h0:keys≠[])
  (h15:keys.length<=15):PE X (.Dict keys values pos) (nJ Ho):=by
 intro pins s σ H Q I q
 have hn:=I.hok.fresh (Nat.le_refl s.heap.objs.size)
 have I1:=I.laid (a:=s.heap.objs.size) (o:=.dK []) (h':=s.heap.push { cls:=.type "dict",data:=.dict #[] }) (t':=s.toks) (fun _ _ q=>Heap.get?_push_of_some _ q) (Nat.le_refl _) (yN s.heap I.big)
 refine wpAny_Dict_walk (knd:=bJ X.prog X.w) hall hl h0 h15 (cF (h pins _ σ _ _ I1 (q _ hn)) fun ws s2 zq=>?_)
 obtain ⟨ps,H2,I2,rel,e,kvs,ep,lk,q2⟩:=zq
 subst ep
 obtain ⟨rs,c,rk⟩:=rM (P:=X.prog) (w:=X.w) rel
 obtain ⟨z,hd,vs0,r0,dd⟩:=yL I2.hok e
 cases r0
 refine ⟨rs,c,dd,fun h' Mz hs=>⟨.ref s.heap.objs.size,_,?_,rfl,q2⟩⟩
 have hz:(dR [] kvs).length<=sizeLine:=by
  have h1:=iU kvs []
  rw [List.length_nil] at h1
  rw [sizeLine_eq];lia
 have he:∃ q,h'.get? s.heap.objs.size=some q:=let ⟨q,_,_,hq,_⟩:=Mz;⟨q,hq⟩
 exact qy I2 (by rw [e];exact True.intro) hs he (Ba hz hd (rk.merge .nil) Mz)
structure M1 (X:Cx) (o:Expr) (m:Str) (apos:Pos) (e:Expr) (cpos:Pos):Prop where
 base:attributeBase o m X.env (eval o X.env)=eval o X.env
 few:((backTo cpos (starEach [e] X.env)).all (fun x=>!x.1)&&(backToKw cpos (keywordEach [] X.env)).all (fun x=>x.1.isSome)
  &&decide (([e]:List Expr).length+([]:List Keyword).length+(if ([]:List Keyword).isEmpty then 0 else 1)<30))=true
 line:(apos.endLine==cpos.line)=true
 trees:backTo cpos (starEach [e] X.env)=[(false,eval e X.env)]
structure M2 (X:Cx) (o:Expr) (m:Str) (apos:Pos) (e f:Expr) (cpos:Pos):Prop where
 base:attributeBase o m X.env (eval o X.env)=eval o X.env
 few:((backTo cpos (starEach [e,f] X.env)).all (fun x=>!x.1)&&(backToKw cpos (keywordEach [] X.env)).all (fun x=>x.1.isSome)
  &&decide (([e,f]:List Expr).length+([]:List Keyword).length+(if ([]:List Keyword).isEmpty then 0 else 1)<30))=true
 line:(apos.endLine==cpos.line)=true
 trees:backTo cpos (starEach [e,f] X.env)=[(false,eval e X.env),(false,eval f X.env)]
def IsD (H:Hp) (a:Addr):Prop:=(∃ kvs,Rd H a (.dK kvs))\/∃ kvs,Rd H a (.dT kvs)
theorem TX (I:Inv X pins σ H s) (d:IsD H a) :
  s.TypeIs (.ref a) "dict"/\(∀ b,Value.ref a=.ref b->∃ ob,s.heap.get? b=some ob/\ob.dict=none)/\(a==sysModules)=false:=by
 rcases d with ⟨kvs,e⟩ | ⟨kvs,e⟩
 ·obtain ⟨_,hd,vs,_,dd⟩:=uL I.hok e
  refine ⟨dd.typeIs,fun b q=>?_,hd⟩
  cases q
  obtain ⟨ob,_,_,h1,h2,_⟩:=dd
  exact ⟨ob,h1,h2.2.1⟩
 ·obtain ⟨_,hd,xs,_,dd⟩:=uM I.hok e
  refine ⟨dd.typeIs,fun b q=>?_,hd⟩
  cases q
  obtain ⟨ob,_,_,h1,h2,_⟩:=dd
  exact ⟨ob,h1,h2.2.1⟩
section
variable {d:V}{r:Value}{o:Option V}
theorem TY (hu:A.units+1<cLine) (I:Inv X pins σ H s) (g:gJ H a y o) (ry:RelV y u) (rd:RelV d r) (h:∀ w' s',Inv X pins σ H s'->RelV (o.getD d) w'->Q w' s') :
  wpAny (model X.prog X.w) A (call (.builtin "dict.get") [.ref a,u,r]) Q E s:=by
 rcases g with ⟨kvs,k,e,ey,l⟩ | ⟨kvs,k,b,e,ey,eb,l⟩
 ·subst ey
  obtain ⟨z,hd,vs,rel,dd⟩:=uL I.hok e
  refine call_meetsIn PySem.F.slot_dict_get dd.typeIs PySem.F.entry_dict_get (PySem.F.args_dict_get_3 _ _ _) (meets_dict_get_default (bJ X.prog X.w) a (pJ ry) hd r) ⟨_,dd.mapOf,h _ _ (I.tok _) ?_⟩
  rw [l]
  exact (rel.val k).getD rd
 ·subst ey
  cases (show u=Value.ref b from ry)
  obtain ⟨z,hd,xs,rel,dd⟩:=uM I.hok e
  refine call_meetsIn PySem.F.slot_dict_get dd.typeIs PySem.F.entry_dict_get (PySem.F.args_dict_get_3 _ _ _) (meetsH_dict_get_default (tupleKind (bJ X.prog X.w)) a b hd r) ⟨tupleKind_room_in1 hu,k,xs,oG I.hok eb,dd,h _ _ (I.tok _) ?_⟩
  rw [l]
  exact (rel.val k).getD rd
end
def Jg (td ty tx:TE):TE:=fun σ H Q=>td σ H fun x H1=>∃ a,x=.ref a/\IsD H1 a/\ty σ H1 fun y H2=>tx σ H2 fun z H3=>∃ o,gJ H3 a y o/\Q (o.getD z) H3
section
variable {o f:Expr}{td ty tx:TE}
theorem yO (hu:X.A.units+1<cLine) (ho:PE X o td) (he:PE X e ty) (hf:PE X f tx) (m:M2 X o "get" apos e f cpos):PE X (.Call (.Attribute o "get" apos) [e,f] [] cpos) (Jg td ty tx):=by
 intro pins s σ H Q I h
 refine wpAny_Call_method m.base m.few m.line PySem.F.plainAttrs_dict PySem.F.slot_dict_get PySem.F.type_dict_get (cF (ho pins s σ H _ I h) fun u s1 zq=>?_)
 obtain ⟨x,H1,I1,rx,a,ex,d,q1⟩:=zq
 subst ex
 obtain rfl:u=Value.ref a:=rx
 obtain ⟨t1,t2,_⟩:=TX I1 d
 refine ⟨t1,t2,?_⟩
 rw [m.trees]
 refine Calls.callWith_builtin rfl (Calls.evalArgs_plain (Calls.spliced_cons (cF (he pins s1 σ H1 _ I1 q1) fun iv s2 ⟨y,H2,I2,ry,q2⟩ =>
  Calls.spliced_cons (cF (hf pins s2 σ H2 _ I2 q2) fun fv s3 ⟨z,H3,I3,rz,ov,g,q3⟩=>Calls.spliced_nil ?_))))
 exact TY hu I3 g ry rz fun w' s4 I4 Fp=>⟨_,H3,I4,Fp,q3⟩
end
section
variable {kvs:List (Key×V)}
end
section
variable {a b:Expr}{ta:TA}
theorem Jh (hg:Gl X "zip") (hm:X.mg "zip"=none) (ha:PA X [a,b] ta) (hs:starEach [a,b] X.env=[(false,eval a X.env),(false,eval b X.env)]:=by rfl) (hs2:starEach [b] X.env=[(false,eval b X.env)]:=by rfl) :
  PI X (.Tuple elts x1 tp) (.Call (.Name "zip" p) [a,b] [] pos) (Tz X.K ta):=by
 intro pins s σ H R I h
 refine Call_ (jk I hg hm Ax (PyProof.Rows.callWith_type1 (cF (ha pos pins s σ H _ I h) fun us s1 ⟨vs,H1,I1,r1,q1⟩=>?_) (by rw [hs,hs2]) (by rw [hs2];rfl)))
 obtain ⟨c,z,rfl,⟨xs,hx⟩,q⟩:=q1
 obtain ⟨u,u',rfl,ru,Hl⟩:=vals2 r1
 cases ru
 obtain ⟨t,rfl⟩:=Hl
 obtain ⟨its,rv,p1,_⟩:=I1.tuple hx
 cases ha':z.cps.all (·<128)
 ·exact wj (U:=fun h=>h.IsTuple c its.toArray) I1 p1 (fun h o ⟨oc,e,r⟩=>⟨oc,Heap.get?_push_of_some _ e,r⟩)
   (fun prog w A Q E s hu hQ=>wpAny_pyIter_tuple hu hQ) (fun prog w A Q E s hu hQ=>wpAny_pyIter_wide ha' hQ) (qu c _) (Dk z t _ "str_iterator" (fun A hA=>Draws.strWide hA _ z t) (fun A i c s Q E st hc h=>wpAny_nextOf_wide_item st hc h) fun A i s Q E hh st hx hE=>wpAny_nextOf_wide_end hh st hx hE)
   (fun h e=>⟨_,e,rfl,rfl⟩) (fun h e=>⟨_,e,rfl,rfl⟩) rfl rfl q
 ·exact wj (U:=fun h=>h.IsTuple c its.toArray) I1 p1 (fun h o ⟨oc,e,r⟩=>⟨oc,Heap.get?_push_of_some _ e,r⟩)
   (fun prog w A Q E s hu hQ=>wpAny_pyIter_tuple hu hQ) (fun prog w A Q E s hu hQ=>wpAny_pyIter_ascii ha' hQ) (qu c _) (Dk z t _ "str_ascii_iterator" (fun A hA=>Draws.strAscii hA _ z t) (fun A i c s Q E st hc h=>wpAny_nextOf_ascii_item st hc h) fun A i s Q E hh st hx hE=>wpAny_nextOf_ascii_end hh st hx hE)
   (fun h e=>⟨_,e,rfl,rfl⟩) (fun h e=>⟨_,e,rfl,rfl⟩) rfl rfl q
end
theorem yP (ha:bG K H a xs) :
  (i<min xs.length z.cps.toList.length->(Dn K a z).go i H/\∀ v H',(Dn K a z).yr i H v H'->∃ p,v=.ref p/\H p=none/\H'=upd H p (.tup [xs.getD i .non,.str (dO [z.cps.toList.getD i 0])]))/\(min xs.length z.cps.toList.length<=i->(Dn K a z).stop i H):=by
 refine ⟨fun hi=>⟨⟨⟨xs,xs[i]'(by lia),ha,by rw [dI]⟩,by show i<_;lia⟩,fun v H' ⟨p,x,y,e1,e2,e3,e4,c,hc,e5⟩=>⟨p,e1,e2,?_⟩⟩,fun hi=>?_⟩
 ·rw [e3,iz,iz,e4 xs ha,e5,hc];rfl
 ·by_cases h1:xs.length<=i
  ·exact .inl ⟨xs,ha,h1⟩
  ·exact .inr ⟨⟨xs,xs[i]'(by lia),ha,by rw [dI]⟩,by show _<=i;lia⟩
theorem qz {fx fy:Nat->V}{g:TG}{tb:TS}{D:Ends} (Pv:Nat->St->Hp->Prop)
  (hJ:∀ i σ H,Pv i σ H->(i<n->J.go i H/\∀ v H',J.yr i H v H'->∃ p,v=.ref p/\H p=none/\H'=upd H p (.tup [fx i,fy i]))/\(n<=i->J.stop i H)) (h0:Pv 0 σ H)
  (hs:∀ i σ H p,i<n->Pv i σ H->H p=none->g (.ref p) σ (upd H p (.tup [fx i,fy i])) fun σ2 H2=>tb { D with nx:=Pv (i+1),ct:=Pv (i+1),bk:=D.nx } σ2 H2) (hd:∀ σ H,Pv n σ H->D.nx σ H) :
  ∃ W:Nat->Nat->St->Hp->Prop,(∃ m,W 0 m σ H)/\∀ i m σ H,W i m σ H ->
   (J.stop i H/\D.nx σ H)\/(J.go i H/\∃ N:St->Hp->Prop,(∀ σ' H',N σ' H'->∃ m',m'<m/\W (i+1) m' σ' H')/\∀ v H',J.yr i H v H'->g v σ H' fun σ2 H2=>tb { D with nx:=N,ct:=N,bk:=D.nx } σ2 H2):=by
 refine ⟨fun i m σ H=>m=n - i/\i<=n/\Pv i σ H,⟨_,rfl,Nat.zero_le _,h0⟩,?_⟩
 rintro i m σ H ⟨rfl,hi,p⟩
 obtain ⟨h1,h2⟩:=hJ i σ H p
 by_cases hlt:i<n
 ·obtain ⟨hg,hy⟩:=h1 hlt
  refine .inr ⟨hg,Pv (i+1),fun σ' H' p'=>⟨_,by lia,rfl,hlt,p'⟩,fun v H' y=>?_⟩
  obtain ⟨q,rfl,hq,rfl⟩:=hy v H' y
  exact hs i σ H q hlt p hq
 ·have e:i=n:=by lia
  subst e
  exact .inl ⟨h2 (Nat.le_refl _),hd σ H p⟩
def Ite (x:Str):It:=⟨fun i _=>i<x.cps.toList.length,fun i H v H'=>∃ p c,x.cps.toList[i]?=some c/\v=.ref p/\H p=none/\H'=upd H p (.tup [.int i,.str (dO [c])]),fun i _=>x.cps.toList.length<=i⟩
theorem Gb {e:Addr}{t:Tok}{ty:String} (hne:e≠it)
  (D:∀ A:Around,A.handled=none->Draws P w A it [it] x.cps.size (fun i v=>∃ c u,x.cps[i]?=some c/\v=.str ⟨#[c]⟩ u) (fun i h=>h.IsStrIter it ty x t i)) :
  Turn P w K (.Tuple elts x1 tp) (Ite x) [e,it] e (fun i h=>(∃ old,IsEnum h e it i old)/\h.IsStrIter it ty x t i/\i<=x.cps.size) where
 mem:=by simp
 obj:=fun i h ⟨⟨old,he⟩,⟨o,ho,hc,hd⟩,_⟩ c hc'=>by
  simp only [List.mem_cons,List.not_mem_nil,or_false] at hc'
  rcases hc' with rfl | rfl
  ·exact ⟨_,he,fun v z=>by cases z⟩
  ·exact ⟨o,ho,fun v z=>by rw [hd] at z;cases z⟩
 keep:=fun i h h' ⟨⟨old,he⟩,⟨o,ho,r⟩,z⟩ k=>⟨⟨old,k e (by simp) _ he⟩,⟨o,k it (by simp) o ho,r⟩,z⟩
 item:=by
  intro X hP hw hK hc i pins s σ H E I hf ⟨⟨old,he⟩,st,hle⟩ hg
  subst hP hw hK
  have hi:i<x.cps.size:=by have:i<x.cps.toList.length:=hg;simpa using this
  refine wpAny_pyNext_enum_itemD (D X.A.in1 (I.ok.hd hc)) he st hi hne (by simpa using hne) fun v h' tk hP ho st' hT hsz hk=>⟨_,rfl,?_⟩
  obtain ⟨c,u,hcx,rfl⟩:=hP
  refine wpAny_letOwnedTupleGo_enum ho fun h2 he2 sb=>?_
  have helt:e<s.heap.objs.size:=Heap.lt_size he
  obtain ⟨oit,U0,_⟩:=id st
  have hilt:it<s.heap.objs.size:=Heap.lt_size U0
  have hT2:h2.get? s.heap.objs.size=some { cls:=.type "tuple",data:=.seq #[.int i tk,.str ⟨#[c]⟩ u] }:=sb.extBut _ _ (Nat.ne_of_gt helt) hT
  have kk:∀ b o,b∉[e,it]->s.heap.get? b=some o->h2.get? b=some o:=fun b o hb q=>by
   simp only [List.mem_cons,List.not_mem_nil,or_false,not_or] at hb
   exact sb.extBut _ _ hb.1 (hk b o hb.1 hb.2 q)
  refine ⟨.ref s.heap.objs.size,upd H s.heap.objs.size (.tup [.int i,.str (dO [c])]),I.wg (t':=tk+1) hf kk (Nat.le_refl _) ⟨eV (by simp) |> Nat.le_of_lt,[.int i tk,.str ⟨#[c]⟩ u],.cons ⟨tk,rfl⟩ (.cons ⟨u,rfl⟩ .nil),⟨_,hT2,rfl,_,rfl⟩⟩,rfl,⟨_,c,by simpa using hcx,rfl,I.fresh,rfl⟩,⟨⟨_,by simpa using he2⟩,?_,hi⟩,fun b hb=>?_⟩
  ·obtain ⟨o,ho',r⟩:=st'
   exact ⟨o,sb.extBut _ _ (Ne.symm hne) ho',r⟩
  ·simp only [List.mem_cons,List.not_mem_nil,or_false] at hb
   rcases hb with rfl | rfl
   ·rw [aC (Nat.ne_of_lt helt)];exact (hf _ (by simp)).1
   ·rw [aC (Nat.ne_of_lt hilt)];exact (hf _ (by simp)).1
 done:=by
  intro X hP hw hK hc i pins s σ H E I hf ⟨⟨old,he⟩,st,hle⟩ hg
  subst hP hw hK
  have hi:x.cps.size<=i:=by have:x.cps.toList.length<=i:=hg;simpa using this
  have e0:i=x.cps.size:=Nat.le_antisymm hle hi
  subst e0
  exact wpAny_pyNext_enum_endD (D X.A.in1 (I.ok.hd hc)) he st fun h' eb=>⟨rfl,I.w5 (t':=s.toks) hf fun b o hb q=>eb b o (fun z=>hb (by simp [z])) q⟩
 self:=fun A i s Q E ⟨⟨old,he⟩,_⟩ h=>wpAny_pyIter_enum he h
def U3 (ta:TA):TI:=fun σ H R=>ta σ H fun vs H1=>∃ z,vs=[.str z]/\R (Ite z) H1
theorem Ji {a:Expr}{ta:TA} (hg:Gl X "enumerate") (hm:X.mg "enumerate"=none) (ha:PA X [a] ta) (hs:starEach [a] X.env=[(false,eval a X.env)]:=by rfl) :
  PI X (.Tuple elts x1 tp) (.Call (.Name "enumerate" p) [a] [] pos) (U3 ta):=by
 intro pins s σ H R I h
 refine Call_ (jk I hg hm nG (PyProof.Rows.callWith_type1 (cF (ha pos pins s σ H _ I h) fun us s1 ⟨vs,H1,I1,r1,q1⟩=>?_) (by rw [hs];rfl) (by rfl)))
 obtain ⟨z,rfl,q⟩:=q1
 obtain ⟨u,rfl,ru⟩:=vals1 r1
 obtain ⟨t,rfl⟩:=ru
 refine call_enumerate_str fun h' he hit hsz hk=>wpAny_pyIter_enum he ?_
 have hne:s1.heap.objs.size+1≠s1.heap.objs.size:=Nat.succ_ne_self _
 have fin:∀ ty:String,(∀ A:Around,A.handled=none->Draws X.prog X.w A s1.heap.objs.size [s1.heap.objs.size] z.cps.size (fun i v=>∃ c u,z.cps[i]?=some c/\v=.str ⟨#[c]⟩ u) (fun i h=>h.IsStrIter s1.heap.objs.size ty z t i))->h'.IsStrIter s1.heap.objs.size ty z t 0 ->
   PIE X pins σ (.Tuple elts x1 tp) R (.ref (s1.heap.objs.size+1)) { s1 with heap:=h' }:=fun ty D hit'=>by
  refine ⟨_,_,_,_,H1,rfl,I1.kept (t':=s1.toks) hk,Gb hne D,⟨⟨_,he⟩,hit',Nat.zero_le _⟩,fun b hb=>?_,q⟩
  have hle:s1.heap.objs.size<=b:=by
   simp only [List.mem_cons,List.not_mem_nil,or_false] at hb
   rcases hb with rfl | rfl <;> lia
  exact I1.tQ hle (I1.hok.fresh hle)
 cases ha':z.cps.all (·<128)
 ·exact fin _ (fun A hA=>Draws.strWide hA _ z t) (by simpa [strIterType,ha'] using hit)
 ·exact fin _ (fun A hA=>Draws.strAscii hA _ z t) (by simpa [strIterType,ha'] using hit)
theorem Bb:
  (i<z.cps.toList.length->(Ite z).go i H/\∀ v H',(Ite z).yr i H v H'->∃ p,v=.ref p/\H p=none/\H'=upd H p (.tup [.int i,.str (dO [z.cps.toList.getD i 0])]))/\(z.cps.toList.length<=i->(Ite z).stop i H):=by
 refine ⟨fun hi=>⟨hi,fun v H' ⟨p,c,hc,e1,e2,e3⟩=>⟨p,e1,e2,?_⟩⟩,fun hi=>hi⟩
 rw [e3,iz,hc];rfl
def iI (P:Params):List DictEntry->List (Str×V)->Prop
 | [],[]=>True
 | e::r,(k,v)::q=>((∃ t,e.key=.str k t)/\e.hash=PyData.keyHash P k/\RelV v e.val)/\iI P r q
 | _,_=>False
theorem iI.lit {P:Params}:∀ {es:List DictEntry}{kvs:List (Str×V)},iI P es kvs->KeysLit P es
 | [],[],_=>trivial
 | e::r,(k,v)::q,⟨⟨⟨t,h1⟩,h2,_⟩,h⟩=>⟨⟨k,t,h1,h2⟩,h.lit⟩
theorem iI.rel {P:Params} (x:Str):∀ {es:List DictEntry}{kvs:List (Str×V)},iI P es kvs->iQ (kvs.lookup x) ((es.find? fun e=>Value.isStrOf x e.key).map (·.val))
 | [],[],_=>trivial
 | e::r,(k,v)::q,⟨⟨⟨t,h1⟩,h2,h3⟩,h⟩=>by
  have hk:Value.isStrOf x e.key=(k==x):=by rw [h1];rfl
  by_cases hx:x=k
  ·subst hx
   have:Value.isStrOf x e.key=true:=by rw [hk];simp
   rw [List.find?_cons,this,List.lookup_cons]
   simp only [beq_self_eq_true]
   exact h3
  ·have h4:Value.isStrOf x e.key=false:=by rw [hk];simpa using fun z:k=x=>hx z.symm
   have h5:(x==k)=false:=by simpa using hx
   rw [List.find?_cons,h4,List.lookup_cons,h5]
   exact h.rel x
structure KD (K:PySem.W.Frag) (P:Params) (a:Addr) (kvs:List (Str×V)):Prop where
 ex:∃ es n,K.lookup a=some ⟨.type "dict",none,.dict es n,#[]⟩/\iI P es.toList kvs
 lo:(a==sysModules)=false
theorem KD.map {kvs:List (Str×V)} (d:KD K w.params a kvs)  (X:K.In h):∃ f,h.MapOf (strKind prog w) a f/\∀ x,iQ (kvs.lookup x) (f x):=by
 obtain ⟨es,n,hl,he⟩:=d.ex
 refine ⟨_,mapOf_K X hl he.lit,fun x=>?_⟩
 obtain ⟨l⟩:=es
 have:=he.rel x
 unfold findBy
 rw [List.find?_toArray]
 exact this
def Ri (K:PySem.W.Frag) (P:Params) (neg:Bool):R2:=fun x y H Q=>∃ z a kvs,x=.str z/\y=.ref a/\KD K P a kvs/\Q (.bl (neg != (kvs.lookup z).isSome)) H
theorem O8:jC X (compareOp .In) (Ri X.K X.w.params false):=by
 intro pins s σ H x y v u Q I rx ry h
 obtain ⟨z,a,kvs,rfl,rfl,d,q⟩:=h
 obtain ⟨t,rfl⟩:=rx
 cases ry
 obtain ⟨f,hm,hr⟩:=d.map (prog:=X.prog) I.lV
 refine wpAny_in_of (strKind_is X.prog X.w z t) d.lo hm ?_
 rw [<- (hr z).gO]
 exact ⟨.bl _,H,I.tok _,rfl,by simpa using q⟩
theorem Bc:jC X (compareOp .NotIn) (Ri X.K X.w.params true):=by
 intro pins s σ H x y v u Q I rx ry h
 obtain ⟨z,a,kvs,rfl,rfl,d,q⟩:=h
 obtain ⟨t,rfl⟩:=rx
 cases ry
 obtain ⟨f,hm,hr⟩:=d.map (prog:=X.prog) I.lV
 refine wpAny_notIn_of (strKind_is X.prog X.w z t) d.lo hm ?_
 rw [<- (hr z).gO]
 exact ⟨.bl _,H,I.tok _,rfl,by simpa using q⟩
def XQ (K:PySem.W.Frag) (P:Params):R2:=fun x y H Q=>∃ a kvs z v,x=.ref a/\y=.str z/\KD K P a kvs/\kvs.lookup z=some v/\Q v H
theorem Rj:QZ X (XQ X.K X.w.params):=by
 intro value slice pins s σ H x y v u Q I rx ry h hs
 obtain ⟨a,kvs,z,w',rfl,rfl,d,hl,q⟩:=h
 cases rx
 obtain ⟨t,rfl⟩:=ry
 obtain ⟨f,hm,hr⟩:=d.map (prog:=X.prog) I.lV
 obtain ⟨u',hu,ru⟩:=iQ.some_of (v:=w') (o:=f z) (by rw [<- hl];exact hr z)
 exact tail_any hm.typeIs slot_dict_getitem.lookup (wpAny_getItem_of (strKind_is X.prog X.w z t) hm hu ⟨w',H,I.tok _,ru,q⟩) hs
end L2
namespace HT
open PySem PySem.Spec PyProof.Rows
end HT
namespace L2
open PySem PySem.Spec PyProof.Rows PySem.W
theorem Same.wD (e:Same H H') (h:bG K H a xs):bG K H' a xs:=by
 rcases h with (h | ⟨o,h⟩) | h
 ·exact .inl (.inl (e _ _ h))
 ·exact .inl (.inr ⟨o,e _ _ h⟩)
 ·exact .inr h
section
variable {kvs:List (Key×V)}
theorem XR {k:Key} (h:(bJ P w).is k u=true):RelV (kV k) u:=by
 rcases cI (show qO k u=true from h) with ⟨i,t,rfl,rfl⟩ | ⟨x,t,rfl,rfl⟩
 ·exact ⟨t,rfl⟩
 ·exact ⟨t,rfl⟩
theorem KV.at {κ:Type}:∀ {kvs:List (κ×V)}{vs:List (κ×Value)},KV kvs vs->∀ {i:Nat}{kv:κ×V},kvs[i]?=some kv->∃ u,vs[i]?=some (kv.1,u)/\RelV kv.2 u:=by
 intro kvs vs r
 unfold KV at r
 induction r with
 | nil=>intro i kv h;simp at h
 | @cons p q ps qs h t ih =>
  intro i kv hi
  cases i with
  | zero =>
   simp only [List.getElem?_cons_zero,Option.some.injEq] at hi
   subst hi
   obtain ⟨q1,q2⟩:=q
   obtain ⟨h1,h2⟩:=h
   simp only at h1
   subst h1
   exact ⟨q2,rfl,h2⟩
  | succ j =>
   simp only [List.getElem?_cons_succ] at hi ⊢
   exact ih hi
end
end L2
namespace PySem
end PySem
namespace L2
open PySem PySem.Spec PyProof.Rows PySem.W
section
variable {kvs:List (Key×V)}
end
def pat (p:Array Nat) (k:Nat):Nat:=p.getD k 0
structure Ord (n:Nat) (lt:Nat->Nat->Bool):Prop where
 tr:∀ i j k,i<n->j<n->k<n->lt i j=true->lt j k=true->lt i k=true
 tot:∀ i j,i<n->j<n->i≠j->lt i j=false->lt j i=true
def Wi (n:Nat) (lt:Nat->Nat->Bool) (cmp:Nat->Nat->(Bool->Shared->Prop)->Shared->Prop) (J:Shared->Prop):Prop :=
 ∀ i j C s,i<n->j<n->i≠j->J s->(∀ s',J s'->C (lt i j) s')->cmp i j C s
def Pm (n:Nat) (p:Array Nat):Prop:=p.Perm (List.range n).toArray
theorem Pm.size {p:Array Nat} (h:Pm n p):p.size=n:=by
 have:=h.size_eq
 simpa using this
theorem Pm.lt {p:Array Nat} (h:Pm n p) {k:Nat} (hk:k<n):pat p k<n:=by
 have hs:=h.size
 have hk':k<p.size:=by lia
 have hm:p[k]∈p.toList:=by simp
 have:=(Array.perm_iff_toList_perm.mp h).mem_iff.mp hm
 simp at this
 unfold pat
 rw [Array.getD,dif_pos hk']
 exact this
theorem Pm.ne {p:Array Nat} (h:Pm n p)  (hi:i<n) (hj:j<n) (hij:i≠j):pat p i≠pat p j:=by
 have hs:=h.size
 have hi':i<p.size:=by lia
 have hj':j<p.size:=by lia
 have nd:p.toList.Nodup:=(Array.perm_iff_toList_perm.mp h).nodup_iff.mpr (by simpa using List.nodup_range)
 unfold pat
 rw [Array.getD,dif_pos hi',Array.getD,dif_pos hj']
 intro e
 have pw:=List.pairwise_iff_getElem.mp nd
 rcases Nat.lt_or_gt_of_ne hij with h1 | h1
 ·exact pw i j (by simpa using hi') (by simpa using hj') h1 (by simpa using e)
 ·exact pw j i (by simpa using hj') (by simpa using hi') h1 (by simpa using e.symm)
theorem rN {p q:Array Nat} (h:p[i]?=q[j]?):pat p i=pat q j:=by
 unfold pat
 rw [Array.getD_eq_getD_getElem?,Array.getD_eq_getD_getElem?,h]
def Up (lt:Nat->Nat->Bool) (p:Array Nat) (m:Nat):Prop:=∀ i j,i<j->j<m->lt (pat p i) (pat p j)=true
def Down (lt:Nat->Nat->Bool) (p:Array Nat) (m:Nat):Prop:=∀ i j,i<j->j<m->lt (pat p j) (pat p i)=true
section
variable {lt:Nat->Nat->Bool}{cmp:Nat->Nat->(Bool->Shared->Prop)->Shared->Prop}{J:Shared->Prop}{p:Array Nat}
theorem Up.snoc (O:Ord n lt) (P:Pm n p)  (h1:1<=m) (hm:m<n) (h:Up lt p m) (hl:lt (pat p (m - 1)) (pat p m)=true):Up lt p (m+1):=by
 intro i j hij hj
 by_cases e:j=m
 ·subst e
  by_cases e2:i=j - 1
  ·subst e2;exact hl
  ·exact O.tr _ _ _ (P.lt (by lia)) (P.lt (by lia)) (P.lt (by lia)) (h i (j - 1) (by lia) (by lia)) hl
 ·exact h i j hij (by lia)
theorem Down.snoc (O:Ord n lt) (P:Pm n p)  (h1:1<=m) (hm:m<n) (h:Down lt p m) (hl:lt (pat p m) (pat p (m - 1))=true):Down lt p (m+1):=by
 intro i j hij hj
 by_cases e:j=m
 ·subst e
  by_cases e2:i=j - 1
  ·subst e2;exact hl
  ·exact O.tr _ _ _ (P.lt (by lia)) (P.lt (by lia)) (P.lt (by lia)) hl (h i (j - 1) (by lia) (by lia))
 ·exact h i j hij (by lia)
theorem Bd (O:Ord n lt) (hc:Wi n lt cmp J) (P:Pm n p) {G:Nat->Shared->Prop}:∀ (f m:Nat) (s:Shared),1<=m->m+f<=n->Up lt p m->J s ->
  (∀ r s',m<=r->r<=m+f->Up lt p r->(r<m+f->lt (pat p r) (pat p (r - 1))=true)->J s'->G r s')->(kas_asc p f m).kasWp cmp G s
 | 0,m,s,h1,hf,hU,hJ,k=>k m s (Nat.le_refl _) (Nat.le_refl _) hU (fun h=>absurd h (Nat.lt_irrefl _)) hJ
 | f+1,m,s,h1,hf,hU,hJ,k=>by
  show cmp (p.getD m 0) (p.getD (m - 1) 0) _ s
  refine hc _ _ _ s (P.lt (k:=m) (by lia)) (P.lt (k:=m - 1) (by lia)) (P.ne (by lia) (by lia) (by lia)) hJ fun s' hJ'=>?_
  show KasT.kasWp cmp (if lt (pat p m) (pat p (m - 1))=true then .ret m else kas_asc p f (m+1)) G s'
  cases e:lt (pat p m) (pat p (m - 1)) with
  | true =>
   rw [if_pos rfl]
   exact k m s' (Nat.le_refl _) (by lia) hU (fun _=>e) hJ'
  | false =>
   rw [if_neg Bool.false_ne_true]
   have hl:=O.tot _ _ (P.lt (k:=m) (by lia)) (P.lt (k:=m - 1) (by lia)) (P.ne (by lia) (by lia) (by lia)) e
   exact Bd O hc P f (m+1) s' (by lia) (by lia) (hU.snoc O P h1 (by lia) hl) hJ' fun r s'' a b c d e'=>k r s'' (by lia) (by lia) c (fun h=>d (by lia)) e'
theorem Ds (O:Ord n lt) (hc:Wi n lt cmp J) (P:Pm n p) {G:Array Nat×Nat×Nat->Shared->Prop}:∀ (f m:Nat) (s:Shared),1<=m->m+f<=n->Down lt p m->J s ->
  (∀ r s',m<=r->r<=m+f->Down lt p r->J s'->G (p,r,0) s')->(kas_desc f p m 0).kasWp cmp G s
 | 0,m,s,h1,hf,hU,hJ,k=>k m s (Nat.le_refl _) (Nat.le_refl _) hU hJ
 | f+1,m,s,h1,hf,hU,hJ,k=>by
  show cmp (p.getD m 0) (p.getD (m - 1) 0) _ s
  refine hc _ _ _ s (P.lt (k:=m) (by lia)) (P.lt (k:=m - 1) (by lia)) (P.ne (by lia) (by lia) (by lia)) hJ fun s' hJ'=>?_
  cases e:lt (pat p m) (pat p (m - 1)) with
  | true =>
   have e':lt (p.getD m 0) (p.getD (m - 1) 0)=true:=e
   rw [e']
   dsimp only
   rw [if_pos rfl,if_neg (Nat.lt_irrefl 0)]
   exact Ds O hc P f (m+1) s' (by lia) (by lia) (hU.snoc O P h1 (by lia) e) hJ' fun r s'' a b c d=>k r s'' (by lia) (by lia) c d
  | false =>
   have e':lt (p.getD m 0) (p.getD (m - 1) 0)=false:=e
   rw [e']
   dsimp only
   rw [if_neg Bool.false_ne_true]
   have hl:=O.tot _ _ (P.lt (k:=m) (by lia)) (P.lt (k:=m - 1) (by lia)) (P.ne (by lia) (by lia) (by lia)) e
   refine hc _ _ _ s' (P.lt (k:=m - 1) (by lia)) (P.lt (k:=m) (by lia)) (P.ne (by lia) (by lia) (by lia)) hJ' fun s'' U4=>?_
   have hl':lt (p.getD (m - 1) 0) (p.getD m 0)=true:=hl
   rw [hl']
   dsimp only
   rw [if_pos rfl]
   exact k m s'' (Nat.le_refl _) (by lia) hU U4
theorem Jj (P:Pm n p) (i j:Nat):Pm n (kas_rev p i j):=(mirror_perm p i j _).trans P
theorem Jk (P:Pm n p) {r:Nat} (hr:r<=n) (k:Nat):pat (kas_rev p 0 r) k=if k<r then pat p (r - 1 - k) else pat p k:=by
 have h:=getElem?_mirror_all (xs:=p) (i:=0) (j:=r) (by rw [P.size];exact hr) k
 by_cases hk:k<r
 ·rw [if_pos hk]
  rw [if_pos ⟨Nat.zero_le _,hk⟩,Nat.zero_add] at h
  exact rN h
 ·rw [if_neg hk]
  rw [if_neg (fun z=>hk z.2)] at h
  exact rN h
theorem U5 (P:Pm n p) {r:Nat} (hr:r<=n) (h:Down lt p r):Up lt (kas_rev p 0 r) r:=by
 intro i j hij hj
 rw [Jk P hr,Jk P hr,if_pos (by lia),if_pos hj]
 exact h _ _ (by lia) (by lia)
def O9 (n:Nat) (lt:Nat->Nat->Bool) (J:Shared->Prop) (G:Nat×Array Nat->Shared->Prop):Prop:=∀ q p' s',Pm n p'->1<=q->q<=n->Up lt p' q->J s'->G (q,p') s'
theorem Jl (O:Ord n lt) (hc:Wi n lt cmp J) (P:Pm n p) (h2:2<=n) {G:Nat×Array Nat->Shared->Prop} (hJ:J s) (k:O9 n lt J G):(kas_count n p).kasWp cmp G s:=by
 unfold kas_count
 rw [KasT.kasWp_bind]
 refine Bd O hc P (n - 1) 1 s (Nat.le_refl _) (by lia) (fun i j hij hj=>by lia) hJ fun r s' h1 hr hU hstop hJ'=>?_
 by_cases e:r=n
 ·subst e
  rw [if_pos (by simp)]
  exact k r p s' P h1 (Nat.le_refl _) hU hJ'
 ·rw [if_neg (by simpa using e)]
  by_cases e1:r > 1
  ·rw [if_pos e1]
   refine hc _ _ _ s' (P.lt (k:=0) (by lia)) (P.lt (k:=r - 1) (by lia)) (P.ne (by lia) (by lia) (by lia)) hJ' fun s'' U4=>?_
   have hl:lt (p.getD 0 0) (p.getD (r - 1) 0)=true:=hU 0 (r - 1) (by lia) (by lia)
   rw [hl]
   dsimp only
   rw [if_pos rfl]
   exact k r p s'' P h1 (by lia) hU U4
  ·rw [if_neg e1]
   have er:r=1:=by lia
   subst er
   have h0:=hstop (by lia)
   unfold kas_descPart
   rw [KasT.kasWp_bind]
   refine Ds O hc P (n - (1+1)) (1+1) s' (by lia) (by lia) (fun i j hij hj=>?_) hJ' fun r s'' a b c d=>?_
   ·have ei:i=0:=by lia
    have ej:j=1:=by lia
    subst ei ej
    exact h0
   ·rw [if_neg (Nat.lt_irrefl 0)]
    unfold kas_tail3
    rw [KasT.kasWp_bind]
    refine Bd O hc (Jj P 0 r) (n - r) r s'' (by lia) (by lia) (U5 P (by lia) c) d fun q s3 h3 h4 h5 _ h6=>?_
    exact k q _ s3 (Jj P 0 r) (by lia) (by lia) h5 h6
theorem rO (O:Ord n lt) (hc:Wi n lt cmp J) (P:Pm n p) {k:Nat} (hk:k<n) (hU:Up lt p k) {G:Nat->Shared->Prop}:∀ (f l r:Nat) (s:Shared),r - l<=f->l<=r->r<=k->(∀ i,i<l->lt (pat p i) (pat p k)=true)->(∀ i,r<=i->i<k->lt (pat p k) (pat p i)=true)->J s ->
  (∀ l' s',l'<=k->(∀ i,i<l'->lt (pat p i) (pat p k)=true)->(∀ i,l'<=i->i<k->lt (pat p k) (pat p i)=true)->J s'->G l' s')->(kas_place p k f l r).kasWp cmp G s
 | 0,l,r,s,h0,h1,h2,hlo,hhi,hJ,w=>w l s (by lia) hlo (fun i hi=>hhi i (by lia)) hJ
 | f+1,l,r,s,h0,h1,h2,hlo,hhi,hJ,w=>by
  unfold kas_place
  by_cases e:l>=r
  ·rw [if_pos e]
   exact w l s (by lia) hlo (fun i hi=>hhi i (by lia)) hJ
  ·rw [if_neg e]
   have hm1:l<=(l+r) / 2:=by lia
   have hm2:(l+r) / 2<r:=by lia
   generalize hmd:(l+r) / 2=md at hm1 hm2
   refine hc _ _ _ s (P.lt (k:=k) hk) (P.lt (k:=md) (by lia)) (P.ne hk (by lia) (by lia)) hJ fun s' hJ'=>?_
   cases c:lt (pat p k) (pat p md) with
   | true =>
    have c':lt (p.getD k 0) (p.getD md 0)=true:=c
    rw [c']
    dsimp only
    rw [if_pos rfl]
    refine rO O hc P hk hU f l md s' (by lia) hm1 (by lia) hlo (fun i hi hik=>?_) hJ' w
    by_cases ei:i=md
    ·subst ei;exact c
    ·exact O.tr _ _ _ (P.lt hk) (P.lt (by lia)) (P.lt (by lia)) c (hU md i (by lia) hik)
   | false =>
    have c':lt (p.getD k 0) (p.getD md 0)=false:=c
    rw [c']
    dsimp only
    rw [if_neg Bool.false_ne_true]
    have hl:=O.tot _ _ (P.lt hk) (P.lt (k:=md) (by lia)) (P.ne hk (by lia) (by lia)) c
    refine rO O hc P hk hU f (md+1) r s' (by lia) (by lia) h2 (fun i hi=>?_) hhi hJ' w
    by_cases ei:i=md
    ·subst ei;exact hl
    ·exact O.tr _ _ _ (P.lt (by lia)) (P.lt (by lia)) (P.lt hk) (hU i md (by lia) (by lia)) hl
theorem Jm (P:Pm n p) {k l:Nat} (hk:k<n) (hl:l<=k) (i:Nat):pat (bubble p k (k - l)) i=if i=l then pat p k else if l<i/\i<=k then pat p (i - 1) else pat p i:=by
 have h:=getElem?_bubble (xs:=p) (src:=k) (by rw [P.size];exact hk) (k - l) (by lia) i
 rw [show k - (k - l)=l by lia] at h
 by_cases e:i=l
 ·rw [if_pos e] at h ⊢
  exact rN h
 ·rw [if_neg e] at h ⊢
  by_cases e2:l<i/\i<=k
  ·rw [if_pos e2] at h ⊢
   exact rN h
  ·rw [if_neg e2] at h ⊢
   exact rN h
theorem Jo (O:Ord n lt) (hc:Wi n lt cmp J) {G:Array Nat->Shared->Prop}:∀ (f k:Nat) (p:Array Nat) (s:Shared),k+f=n->Pm n p->Up lt p k->J s->(∀ p' s',Pm n p'->Up lt p' n->J s'->G p' s')->(kas_bin f p k).kasWp cmp G s
 | 0,k,p,s,hk,P,hU,hJ,w=>by
  have:k=n:=by lia
  subst this
  exact w p s P hU hJ
 | f+1,k,p,s,hk,P,hU,hJ,w=>by
  unfold kas_bin
  rw [KasT.kasWp_bind]
  refine rO O hc P (by lia) hU k 0 k s (by lia) (Nat.zero_le _) (Nat.le_refl _) (fun i hi=>absurd hi (Nat.not_lt_zero _)) (fun i h1 h2=>by lia) hJ fun l s' hl hlo hhi hJ'=>?_
  refine Jo O hc f (k+1) _ s' (by lia) ((bubble_perm p k _).trans P) (fun i j hij hj=>?_) hJ' w
  rw [Jm P (by lia) hl,Jm P (by lia) hl]
  by_cases a1:i=l
  ·rw [if_pos a1,if_neg (by lia),if_pos (by lia)]
   exact hhi _ (by lia) (by lia)
  ·rw [if_neg a1]
   by_cases a2:l<i
   ·rw [if_pos (by lia),if_neg (by lia),if_pos (by lia)]
    exact hU _ _ (by lia) (by lia)
   ·rw [if_neg (by lia)]
    by_cases a3:j=l
    ·rw [if_pos a3]
     exact hlo i (by lia)
    ·rw [if_neg a3]
     by_cases a4:l<j
     ·rw [if_pos (by lia)]
      by_cases a5:i=j - 1
      ·lia
      ·exact hU _ _ (by lia) (by lia)
     ·rw [if_neg (by lia)]
      exact hU _ _ hij (by lia)
theorem Oa (O:Ord n lt) (hc:Wi n lt cmp J) (h2:2<=n) {G:Array Nat->Shared->Prop} (hJ:J s) (w:∀ p' s',Pm n p'->Up lt p' n->J s'->G p' s'):(kas_sort n).kasWp cmp G s:=by
 unfold kas_sort
 rw [KasT.kasWp_bind]
 refine Jl O hc (Array.Perm.refl _) h2 hJ fun q p' s' P h1 hq hU hJ'=>?_
 by_cases e:q<n
 ·rw [if_pos e,show max q 1=q by lia]
  exact Jo O hc (n - q) q p' s' (by lia) P hU hJ' w
 ·rw [if_neg e]
  have:q=n:=by lia
  subst this
  exact w p' s' P hU hJ'
end
section
variable {lt:Nat->Nat->Bool}{κ:SortKind}
def Keep (a:Addr) (s s':Shared):Prop:=∀ b o,b≠a->s.heap.get? b=some o->s'.heap.get? b=some o
theorem Gd (vs:List Value):((List.range vs.length).toArray.toList.map fun i=>vs.getD i Value.none)=vs:=by
 apply List.ext_getElem
 ·simp
 ·intro i h1 h2
  simp only [List.getElem_map,List.getElem_range]
  rw [iz,dI h2];rfl
theorem Jp {vs:List Value}{n0:Nat}{P:PySem.Fin->Shared->Prop} (ho:s.heap.get? a=some (seqObj "list" vs.toArray n0)) (h64:vs.length<64) (O:Ord vs.length lt)
  (hk:2<=vs.length->∀ (s':Shared) (Q:SortKind->Shared->Prop),Keep a s s'->Q κ s'->wpAny (model prog w) A (keyKind' vs.toArray) Q (fun _ _=>False) s')
  (hl:∀ (i j:Nat) (s':Shared) (C:Bool->Shared->Prop),i<vs.length->j<vs.length->i≠j->Keep a s s'->(∀ tk,C (lt i j) { s' with toks:=tk })->wpAny (model prog w) A (keyLt' κ (vs.getD i Value.none) (vs.getD j Value.none)) C (fun _ _=>False) s')
  (h:∀ (p:Array Nat) (tk:Nat),Pm vs.length p->Up lt p vs.length->P (.done (.ret .none)) { s with toks:=tk,heap:=sortedHeap s.heap a vs (p.toList.map fun i=>vs.getD i Value.none).toArray }) :
  wpAny (model prog w) A (Builtin.«list.sort» ⟨[.ref a],[]⟩) P E s:=by
 have ha:a<s.heap.objs.size:=Heap.lt_size ho
 rw [list_sort_plain]
 refine wpAny_bind (listItems_at ho rfl ?_)
 refine wpAny_bind (listUpdate_at ho rfl ?_ (by rw [List.size_toArray,sizeLine_eq];lia) (Nat.zero_le _))
 obtain ⟨ep,hz⟩:∃ ep,(s.heap.update a (Obj.mapSeq fun _=>#[])).get? a=some (seqObj "list" #[] ep):=⟨_,get?_update_seq ho (fun _=>#[])⟩
 refine wpAny_bind (seqEpoch_at hz rfl ?_)
 refine wpAny_bind (wpAny_newTuple ?_ (by show vs.length<=sizeLine;rw [sizeLine_eq];lia))
 refine wpAny_bind (wpAny_newList ?_ (Nat.zero_le _))
 refine wpAny_holding ?_
 have hz2:(((s.heap.update a (Obj.mapSeq fun _=>#[])).push (seqObj "tuple" vs.toArray 0)).push (seqObj "list" #[] 0)).get? a=some (seqObj "list" #[] ep):=Heap.get?_push_of_some _ (Heap.get?_push_of_some _ hz)
 have kp:Keep a s { s with heap:=((s.heap.update a (Obj.mapSeq fun _=>#[])).push (seqObj "tuple" vs.toArray 0)).push (seqObj "list" #[] 0) }:=fun b o hb q =>
  Heap.get?_push_of_some _ (Heap.get?_push_of_some _ ((Heap.get?_update_ne _ _ _ _ hb).trans q))
 show wpAny (model prog w) A _ P E { s with heap:=((s.heap.update a (Obj.mapSeq fun _=>#[])).push (seqObj "tuple" vs.toArray 0)).push (seqObj "list" #[] 0) }
 dsimp only
 have hsz:vs.toArray.size=vs.length:=by simp
 by_cases h2:vs.toArray.size<2
 ·rw [if_pos h2,if_pos h2]
  refine wpAny_bind (wpAny_pure ?_)
  rw [StateT.run_pure]
  refine wpAny_bind (wpAny_pure ?_)
  dsimp only
  refine wpAny_bind (seqEpoch_at hz2 rfl ?_)
  have eo:(arrOf (SortSt.mk' general' (vs.toArray.zip vs.toArray) #[] 7 none)).map (·.2)=vs.toArray:=by
   exact Array.map_snd_zip (as:=vs.toArray) (bs:=vs.toArray) (Nat.le_refl _)
  rw [eo]
  refine wpAny_bind (listUpdate_at hz2 rfl ?_ (hsz2:=by rw [List.size_toArray,sizeLine_eq];lia))
  simp only [bne_self_eq_false,Bool.false_eq_true,if_false]
  have g:=h (List.range vs.length).toArray s.toks (Array.Perm.refl _) (fun i j hij hj=>by lia)
  rw [Gd] at g
  exact wpAny_pure g
 ·rw [if_neg h2,if_neg h2]
  have h2':2<=vs.length:=by lia
  refine wpAny_bind (wpAny_mono (hk h2' _ (fun κ' s'=>κ'=κ/\s'={ s with heap:=((s.heap.update a (Obj.mapSeq fun _=>#[])).push (seqObj "tuple" vs.toArray 0)).push (seqObj "list" #[] 0) }) kp ⟨rfl,rfl⟩) (fun κ' s' hκ=>?_) fun _ _ x=>x.elim)
  obtain ⟨rfl,rfl⟩:=hκ
  refine wpAny_bind (wpAny_mono (kat_run (κ:=κ') (ks:=vs) (vs:=vs) (Q:=fun st' s'=>∃ (p:Array Nat) (tk:Nat),Pm vs.length p/\Up lt p vs.length/\arrOf st'=p.map (kas_item (vs.toArray.zip vs.toArray))/\failedOf st'=none/\s'={ s with toks:=tk,heap:=((s.heap.update a (Obj.mapSeq fun _=>#[])).push (seqObj "tuple" vs.toArray 0)).push (seqObj "list" #[] 0) })
   (G:=fun p s'=>∃ tk:Nat,Pm vs.length p/\Up lt p vs.length/\s'={ s with toks:=tk,heap:=((s.heap.update a (Obj.mapSeq fun _=>#[])).push (seqObj "tuple" vs.toArray 0)).push (seqObj "list" #[] 0) })
   rfl h2' h64 (fun p st' s' _ a2 a3 ⟨tk,b1,b2,b3⟩=>⟨p,tk,b1,b2,a2,a3,b3⟩)
   (Oa (J:=fun s'=>∃ tk:Nat,s'={ s with toks:=tk,heap:=((s.heap.update a (Obj.mapSeq fun _=>#[])).push (seqObj "tuple" vs.toArray 0)).push (seqObj "list" #[] 0) }) O (fun i j C s' hi hj hij hJ hC=>?_) h2' ⟨s.toks,rfl⟩ fun p' s' hP hU ⟨tk,e⟩=>⟨tk,hP,hU,e⟩)) ?_ fun _ _ e=>e)
  ·obtain ⟨tk,rfl⟩:=hJ
   exact hl i j _ C hi hj hij kp fun tk'=>hC _ ⟨tk',rfl⟩
  rintro ⟨⟨⟩,st'⟩ s' ⟨p,tk,hP,hU,har,hf,rfl⟩
  dsimp only
  refine wpAny_bind (seqEpoch_at hz2 rfl ?_)
  rw [kat_snds rfl har]
  have lp:p.toList.length=vs.length:=by rw [Array.length_toList];exact hP.size
  refine wpAny_bind (listUpdate_at hz2 rfl ?_ (hsz2:=by rw [List.size_toArray,bR,lp,sizeLine_eq];lia))
  rw [hf]
  simp only [bne_self_eq_false,Bool.false_eq_true,if_false]
  exact wpAny_pure (h p tk hP hU)
theorem Ge {x:Value}
  (hc:wpAny (model prog w) A.in1 (collect x) (fun vs s1=>vs.length<64/\∃ (lt:Nat->Nat->Bool) (κ:SortKind),Ord vs.length lt /\
   (2<=vs.length->∀ (s':Shared) (R:SortKind->Shared->Prop),(∀ b o,s1.heap.get? b=some o->s'.heap.get? b=some o)->R κ s'->wpAny (model prog w) A.in1.in1 (keyKind' vs.toArray) R (fun _ _=>False) s') /\
   (∀ (i j:Nat) (s':Shared) (C:Bool->Shared->Prop),i<vs.length->j<vs.length->i≠j->(∀ b o,s1.heap.get? b=some o->s'.heap.get? b=some o)->(∀ tk,C (lt i j) { s' with toks:=tk })->wpAny (model prog w) A.in1.in1 (keyLt' κ (vs.getD i Value.none) (vs.getD j Value.none)) C (fun _ _=>False) s') /\
   ∀ (p:Array Nat) (tk:Nat) (h':Heap) (e:Nat),Pm vs.length p->Up lt p vs.length->(∀ b o,s1.heap.get? b=some o->h'.get? b=some o)->h'.get? s1.heap.objs.size=some (seqObj "list" (p.toList.map fun i=>vs.getD i Value.none).toArray e)->Q (.ref s1.heap.objs.size) { s1 with toks:=tk,heap:=h' }) (fun _ _=>False) s) :
  wpAny (model prog w) A (call (.builtin "sorted") [x]) Q E s:=by
 refine Calls.call_function_entry kind_sorted plain_sorted entry_sorted (args_sorted1 _) ?_
 unfold Builtin.«sorted»
 refine wpAny_bind (m:=checkCount "sorted" 1 1 _) (wpAny_pure ?_)
 refine wpAny_bind (wpAny_mono hc (fun vs s1 ⟨h64,lt,κ,O,hk,hl,hq⟩=>?_) fun _ _ z=>z.elim)
 refine wpAny_bind (wpAny_newList ?_ (by show vs.length<=sizeLine;rw [sizeLine_eq];lia))
 have hn:(s1.heap.push (seqObj "list" vs.toArray 0)).get? s1.heap.objs.size=some (seqObj "list" vs.toArray 0):=Heap.get?_push_size _ rfl
 have old:∀ b o,s1.heap.get? b=some o->b≠s1.heap.objs.size/\(s1.heap.push (seqObj "list" vs.toArray 0)).get? b=some o:=fun b o q=>⟨Nat.ne_of_lt (Heap.lt_size q),Heap.get?_push_of_some _ q⟩
 show wpAny _ _ _ _ _ { s1 with heap:=s1.heap.push (seqObj "list" vs.toArray 0) }
 refine wpAny_bind (wpAny_holding (wpAny_call_entry slot_list_sort ⟨_,hn,rfl⟩ entry_list_sort ?body (args_list_sort _)))
 case body =>
  refine Jp (s:={ s1 with heap:=s1.heap.push (seqObj "list" vs.toArray 0) }) hn h64 O (fun h2 s' R kp hR=>hk h2 s' R (fun b o q=>kp b o (old b o q).1 (old b o q).2) hR)
   (fun i j s' C hi hj hij kp hC=>hl i j s' C hi hj hij (fun b o q=>kp b o (old b o q).1 (old b o q).2) hC) fun p tk hP hU=>⟨_,rfl,wpAny_pure ⟨_,rfl,?_⟩⟩
  obtain ⟨e,he⟩:=sortedHeap_at (h:=s1.heap.push (seqObj "list" vs.toArray 0)) (a:=s1.heap.objs.size) (vs:=vs) (out:=(p.toList.map fun i=>vs.getD i Value.none).toArray) hn
  refine hq p tk _ e hP hU (fun b o q=>?_) he
  rw [sortedHeap_old (old b o q).1 (by have:=Heap.lt_size q;rw [size_push'];exact Nat.lt_succ_of_lt this)]
  exact (old b o q).2
end
theorem cA.obj {o:HO} (x:cA P w H h a o):∃ ob,h.get? a=some ob:=by
 cases o with
 | lst xs=>obtain ⟨_,_,_,_,e⟩:=x;exact ⟨_,e⟩
 | tup xs=>obtain ⟨_,_,_,ob,e,_⟩:=x;exact ⟨ob,e⟩
 | dK kvs=>obtain ⟨_,_,_,_,ob,_,_,e,_⟩:=x;exact ⟨ob,e⟩
 | dT kvs=>obtain ⟨_,_,_,_,ob,_,_,e,_⟩:=x;exact ⟨ob,e⟩
 | set S n=>obtain ⟨ob,_,_,_,e,_⟩:=x;exact ⟨ob,e⟩
 | ins C dx fs=>obtain ⟨_,_,_,e,_⟩:=x;exact ⟨_,e⟩
 | own y=>exact x
 | xd fs=>obtain ⟨_,⟨ob,_,_,e,_⟩,_⟩:=x;exact ⟨ob,e⟩
 | rng lo hi=>obtain ⟨_,_,_,e⟩:=x;exact ⟨_,e⟩
 | zV ob u=>obtain ⟨e,_⟩:=x;exact ⟨ob,e⟩
 | N8 ps=>exact ⟨_,x⟩
 | met f y=>exact ⟨_,x⟩
 | ext φ=>obtain ⟨_,e,_⟩:=x;exact e
theorem Inv.XS (H':Hp) (I:Inv X pins σ H s) (k:∀ b u,s.heap.get? b=some u->h'.get? b=some u) (hs:∀ b u,H b=some u->H' b=some u) (hn:∀ b u,H' b=some u->H b=none->(∀ o,s.heap.get? b≠some o)/\cA X.prog X.w H' h' b u) :
  Inv X pins σ H' { s with heap:=h',toks:=t' }:=by
 have hf:∀ b o,s.heap.get? b=some o->H b=none->H' b=none:=fun b o q n=>by
  cases e:H' b with
  | none=>rfl
  | some u=>exact absurd q ((hn b u e n).1 o)
 refine I.un ⟨fun b u q _ _ _=>k b u q,fun b u q _ _ _=>⟨u.slots,k b u q⟩,fun b u q n _=>hf b u q n,fun b u q _=>⟨u,k b u q⟩,fun b xs q=>hs b _ q,fun b o u q=>hs b _ q,fun b ps q=>⟨#[],by rw [hs b _ q];simp⟩⟩ fun b u e=>?_
 cases q:H b with
 | none=>exact (hn b u e q).2
 | some v =>
  have e2:=hs b v q
  rw [e] at e2
  cases e2
  exact (I.hok b _ q).stay (fun c z _ r=>k c z r) (fun c r=>hs c _ r) fun c xs r=>hs c _ r
def rP (p d:Addr):HO:=.ext fun h=>h.IsItemsView p d
def nO (p d:Addr):HO:=.ext fun h=>h.IsValuesView p d
theorem Gf {p:Addr} (hv:h.IsItemsView p d):cA P w H h p (rP p d) :=
 ⟨hv,(let ⟨o,ho,_⟩:=hv;⟨o,ho⟩),fun h1 h2 ⟨o,ho,r⟩ k=>⟨o,k _ ho,r⟩⟩
theorem Bf {p:Addr} (hv:h.IsValuesView p d):cA P w H h p (nO p d) :=
 ⟨hv,(let ⟨o,ho,_⟩:=hv;⟨o,ho⟩),fun h1 h2 ⟨o,ho,r⟩ k=>⟨o,k _ ho,r⟩⟩
theorem Dt {kvs:List (Key×V)} (I:Inv X pins σ H s) (e:H a=some (.dK kvs)):kvs.length<=sizeLine/\(a==sysModules)=false/\∃ vs ep,KV kvs vs/\s.heap.DictAt (bJ X.prog X.w) a vs ep:=by
 obtain ⟨z,hs,vs,rel,o,es,ep,r⟩:=yL I.hok e
 exact ⟨z,hs,vs,ep,rel,o,es,r⟩
def U6 (td:TE):TE:=fun σ H Q=>td σ H fun x H1=>∃ a kvs,x=.ref a/\H1 a=some (.dK kvs)/\∀ p,H1 p=none->Q (.ref p) (upd H1 p (rP p a))
theorem Jq {l:Expr} (hl:PE X l tl) (hbase:attributeBase l "items" X.env (eval l X.env)=eval l X.env:=by rfl) (hline:(apos.endLine==cpos.line)=true:=by rfl) :
  PE X (.Call (.Attribute l "items" apos) [] [] cpos) (U6 tl):=by
 intro pins s σ H Q I h
 refine wpAny_Call_method0_late hbase hline (cF (hl pins s σ H _ I h) fun v s1 zq=>?_)
 obtain ⟨x,H1,I1,r1,a,kvs,ex,ea,q⟩:=zq
 subst ex
 cases r1
 obtain ⟨z,hs,vs,ep,rel,dat⟩:=Dt I1 ea
 have hT:s1.TypeIs (.ref a) "dict":=dat.dictOf.typeIs
 obtain ⟨o,es,ho,hx,r⟩:=id dat
 refine ⟨"dict", "dict.items",PySem.F.plainAttrs_dict,PySem.F.slot_dict_items,PySem.F.type_dict_items,hT,(fun b e=>by injection e with e;subst e;exact ⟨o,ho,hx.2.1⟩),?_⟩
 refine Calls.callWith_builtin rfl (PySem.evalArgs_none ?_)
 refine call_meetsIn PySem.F.slot_dict_items hT PySem.F.entry_dict_items (PySem.F.args_dict_items_1 _) (meets_dict_items (bJ X.prog X.w) a hs) ⟨⟨vs,dat.dictOf⟩,?_⟩
 exact ⟨.ref s1.heap.objs.size,_,I1.laid (o:=rP s1.heap.objs.size a) (t':=s1.toks) (fun b o q=>Heap.get?_push_of_some _ q) (Nat.le_refl _) (Gf ⟨_,Heap.get?_push_size _ rfl,rfl,rfl⟩),rfl,q _ (I1.hok.fresh (Nat.le_refl _))⟩
def Ob (td:TE):TE:=fun σ H Q=>td σ H fun x H1=>∃ a kvs,x=.ref a/\H1 a=some (.dK kvs)/\∀ p,H1 p=none->Q (.ref p) (upd H1 p (nO p a))
theorem Gg {l:Expr} (hl:PE X l tl) (hbase:attributeBase l "values" X.env (eval l X.env)=eval l X.env:=by rfl) (hline:(apos.endLine==cpos.line)=true:=by rfl) :
  PE X (.Call (.Attribute l "values" apos) [] [] cpos) (Ob tl):=by
 intro pins s σ H Q I h
 refine wpAny_Call_method0_late hbase hline (cF (hl pins s σ H _ I h) fun v s1 zq=>?_)
 obtain ⟨x,H1,I1,r1,a,kvs,ex,ea,q⟩:=zq
 subst ex
 cases r1
 obtain ⟨z,hs,vs,ep,rel,dat⟩:=Dt I1 ea
 have hT:s1.TypeIs (.ref a) "dict":=dat.dictOf.typeIs
 obtain ⟨o,es,ho,hx,r⟩:=id dat
 refine ⟨"dict", "dict.values",PySem.F.plainAttrs_dict,PySem.F.slot_dict_values,PySem.F.type_dict_values,hT,(fun b e=>by injection e with e;subst e;exact ⟨o,ho,hx.2.1⟩),?_⟩
 refine Calls.callWith_builtin rfl (PySem.evalArgs_none ?_)
 refine call_meetsIn PySem.F.slot_dict_values hT PySem.F.entry_dict_values (PySem.F.args_dict_values_1 _) (meets_dict_values (bJ X.prog X.w) a hs) ⟨⟨vs,dat.dictOf⟩,?_⟩
 exact ⟨.ref s1.heap.objs.size,_,I1.laid (o:=nO s1.heap.objs.size a) (t':=s1.toks) (fun b o q=>Heap.get?_push_of_some _ q) (Nat.le_refl _) (Bf ⟨_,Heap.get?_push_size _ rfl,rfl,rfl⟩),rfl,q _ (I1.hok.fresh (Nat.le_refl _))⟩
theorem Du:∀ {κ:Type}{kvs:List (κ×V)}{vs:List (κ×Value)},KV kvs vs->Vals (kvs.map (·.2)) (vs.map (·.2))
 | _,[],[],_=>.nil
 | _,_::_,_::_,.cons h t=>.cons h.2 (Du t)
def U7:List V->Hp->VK->Prop:=fun xs H Q=>∃ v a kvs,xs=[.ref v]/\H v=some (nO v a)/\H a=some (.dK kvs)/\∀ p,H p=none->Q (.ref p) (upd H p (.lst (kvs.map (·.2))))
theorem Bg (hin:X.A.handled=none):dB X (.type "list") U7:=by
 intro pins s σ H xs us Q I r h
 obtain ⟨v,a,kvs,rfl,hv,ha,q⟩:=h
 obtain ⟨u,rfl,ru⟩:=vals1 r
 cases ru
 obtain ⟨z,hs,vs,ep,rel,dat⟩:=Dt I ha
 have vw:s.heap.IsValuesView v a:=(I.hok _ _ hv).1
 have hlen:vs.length=kvs.length:=rel.length.symm
 refine kdl_call (kdl_values (knd:=bJ X.prog X.w) (kvs:=vs) (ep:=ep)) hin ⟨vw,dat⟩ (by lia) fun h' tk acc c hk hS hI=>?_
 have ev:acc.toList=vs.map (·.2):=kdl_vals_eq acc.toList (by rw [Array.length_toList,hI.1]) fun j w hj=>hI.2 j w (by simpa using hj)
 have hl:(kvs.map (·.2)).length<=sizeLine:=by rw [bR];exact z
 have hv2:=Du rel
 rw [<- ev] at hv2
 exact ⟨.ref s.heap.objs.size,_,I.laid (o:=.lst (kvs.map (·.2))) (t':=tk) hk (Nat.le_refl _) ⟨hl,acc.toList,c,hv2,hS⟩,rfl,q _ (I.hok.fresh (Nat.le_refl _))⟩
def U8:List V->Hp->VK->Prop:=fun xs H Q=>∃ a kvs,xs=[.ref a]/\H a=some (.dK kvs)/\∀ p,H p=none->Q (.ref p) (upd H p (.dK kvs))
theorem mK:dB X (.type "dict") U8:=by
 intro pins s σ H xs us Q I r h
 obtain ⟨a,kvs,rfl,ha,q⟩:=h
 obtain ⟨u,rfl,ru⟩:=vals1 r
 cases ru
 obtain ⟨z,hs,vs,rel,dd⟩:=yL I.hok ha
 have hlen:vs.length=kvs.length:=rel.length.symm
 have low:(s.heap.objs.size==sysModules)=false:=by
  obtain ⟨m,F⟩:=I.fr
  have h1:sysModules<X.base.objs.size:=modules_low I.mod.nolimit
  have h2:X.base.objs.size<=X.env.locals:=F.above
  have h3:X.env.locals<s.heap.objs.size:=F.ns.lt
  exact beq_eq_false_iff_ne.mpr (Nat.ne_of_gt (Nat.lt_trans (Nat.lt_of_lt_of_le h1 h2) h3))
 refine kt_call_dict (knd:=bJ X.prog X.w) hs dd (by lia) fun h' hd hb=>?_
 exact ⟨.ref s.heap.objs.size,_,I.laid (o:=.dK kvs) (t':=s.toks) (fun b o e=>hb.extBut _ _ (Nat.ne_of_lt (Heap.lt_size e)) (Heap.get?_push_of_some _ e)) (Nat.le_refl _) ⟨z,low,vs,rel,hd⟩,rfl,q _ (I.hok.fresh (Nat.le_refl _))⟩
def eY (kvs:List (Int×V)):List (Key×V):=kvs.map fun p=>(Sum.inl p.1,p.2)
def Items (H:Hp) (as:List Addr) (ys:List (Int×V)):Prop:=as.length=ys.length/\∀ (j:Nat) (a:Addr) (y:Int×V),as[j]?=some a->ys[j]?=some y->H a=some (.tup [.int y.1,y.2])
theorem rQ {α β:Type} [DecidableEq α]:∀ {as:List α}{ys:List β}{j:Nat}{a:α}{y:β},as.Nodup->as[j]?=some a->ys[j]?=some y->(as.zip ys).lookup a=some y
 | [],_,_,_,_,_,h,_=>by simp at h
 | _::_,[],_,_,_,_,_,h=>by simp at h
 | x::as,z::ys,0,a,y,_,h1,h2=>by
  have e1:x=a:=by simpa using h1
  have e2:z=y:=by simpa using h2
  subst e1 e2
  rw [List.zip_cons_cons,List.lookup_cons,beq_self_eq_true]
 | x::as,z::ys,j+1,a,y,nd,h1,h2=>by
  have n1:=List.nodup_cons.mp nd
  have ha:as[j]?=some a:=by simpa using h1
  have ne:(a==x)=false:=by
   rw [beq_eq_false_iff_ne]
   intro e
   exact n1.1 (e ▸ qN ha)
  rw [List.zip_cons_cons,List.lookup_cons,ne]
  exact rQ n1.2 ha (by simpa using h2)
theorem lookup_mem {α β:Type} [DecidableEq α]:∀ {as:List α}{ys:List β}{a:α}{y:β},(as.zip ys).lookup a=some y->∃ j:Nat,as[j]?=some a/\ys[j]?=some y
 | [],_,_,_,h=>by simp at h
 | _::_,[],_,_,h=>by simp at h
 | x::as,z::ys,a,y,h=>by
  rw [List.zip_cons_cons,List.lookup_cons] at h
  cases e:a==x with
  | true =>
   rw [e] at h
   have:z=y:=by simpa using h
   subst this
   exact ⟨0,by simp [eq_of_beq e],by simp⟩
  | false =>
   rw [e] at h
   obtain ⟨j,h1,h2⟩:=lookup_mem h
   exact ⟨j+1,by simpa using h1,by simpa using h2⟩
def layT (H:Hp) (as:List Addr) (ys:List (Int×V)) (l:Addr) (o:HO):Hp:=fun b=>if b=l then some o else match (as.zip ys).lookup b with
 | some y=>some (.tup [.int y.1,y.2])
 | none=>H b
theorem Dv:∀ as:List Addr,(∀ a∈as,∃ k t x,h.get? a=some { cls:=.type "tuple",data:=.seq #[Value.int k t,x] })->∃ fs,KatTups h (as.map Value.ref) fs/\fs.length=as.length/\∀ v∈fs,∃ k t,v=Value.int k t
 | [],_=>⟨[],.nil,rfl,fun v hv=>nomatch hv⟩
 | a::as,ha=>by
  obtain ⟨fs,t,hl,hf⟩:=Dv as fun b hb=>ha b (mD _ hb)
  obtain ⟨k,tk,x,e⟩:=ha a List.mem_cons_self
  exact ⟨.int k tk::fs,.cons e rfl rfl rfl t,by rw [jK,hl,jK],fun v hv=>by
   rcases List.mem_cons.mp hv with rfl | hv
   ·exact ⟨k,tk,rfl⟩
   ·exact hf v hv⟩
def U9:List V->Hp->VK->Prop:=fun xs H Q=>∃ v a kvs,xs=[.ref v]/\H v=some (rP v a)/\H a=some (.dK (eY kvs))/\kvs.length<64 /\
 ∀ (l:Addr) (as:List Addr) (ys:List (Int×V)) (H':Hp),(∀ b u,H b=some u->H' b=some u)->H l=none->H' l=some (.lst (as.map V.ref))->ys.Perm kvs->ys.Pairwise (fun x y=>x.1<y.1)->Items H' as ys->Q (.ref l) H'
theorem uN:∀ as:List Addr,Vals (as.map V.ref) (as.map Value.ref)
 | []=>.nil
 | _::r=>.cons rfl (uN r)
theorem Bh (hin:X.A.handled=none):dB X (.builtin "sorted") U9:=by
 intro pins s σ H xs us Q I r h
 obtain ⟨v,a,kvs,rfl,hv,ha,h64,q⟩:=h
 obtain ⟨u,rfl,ru⟩:=vals1 r
 cases ru
 obtain ⟨z,hs,vs,ep,rel,dat⟩:=Dt I ha
 have vw:s.heap.IsItemsView v a:=(I.hok _ _ hv).1
 have hlk:(eY kvs).length=kvs.length:=bR _
 have hlen:vs.length=kvs.length:=by rw [<- hlk];exact rel.length.symm
 have nd:(vs.map (·.1)).Nodup:=by
  obtain ⟨_,_,_,_,_,_,_,hn⟩:=dat
  exact hn
 refine Ge (kdx_collect (knd:=bJ X.prog X.w) (E:=fun _ _=>False) hin vw dat (by rw [hlen];lia) fun h1 tk as hk hl hG=>?_)
 have at_:∀ (j:Nat) (b:Addr),as[j]?=some b->∃ k x t u,kvs[j]?=some (k,x)/\RelV x u/\vs[j]?=some (.inl k,u)/\h1.get? b=some { cls:=.type "tuple",data:=.seq #[Value.int k t,u] }:=by
  intro j b hb
  obtain ⟨key,k,u,e1,e2,e3⟩:=hG.pairs j b hb
  have hj:j<kvs.length:=by rw [<- hlen];exact (List.getElem?_eq_some_iff.mp e1).1
  obtain ⟨u',hu',Hl⟩:=rel.at (show (eY kvs)[j]?=some (Sum.inl (kvs[j]).1,(kvs[j]).2) by
   unfold eY
   rw [lW,dI hj];rfl)
  rw [e1] at hu'
  have e4:k=Sum.inl (kvs[j]).1/\u=u':=by simpa using hu'
  obtain ⟨rfl,rfl⟩:=e4
  obtain ⟨t,rfl⟩:∃ t,key=Value.int (kvs[j]).1 t:=XR e2
  exact ⟨_,_,t,u,dI hj,Hl,e1,e3⟩
 have asN:as.Nodup:=hG.rise.imp fun h=>Nat.ne_of_lt h
 have hlv:(as.map Value.ref).length=kvs.length:=by rw [bR,hl,hlen]
 refine ⟨by rw [hlv];exact h64,fun i j=>decide ((kvs.getD i (0,.non)).1<(kvs.getD j (0,.non)).1),tuples' true,?_,fun h2 s' R hk' hR=>?_,fun i j s' C hi hj hij hk' hC=>?_,fun p tk2 h2 e hP hU hk' hS=>?_⟩
 ·rw [hlv]
  refine ⟨fun i j k _ _ _ a b=>?_,fun i j hi hj hij c=>?_⟩
  ·have a':=xX a
   have b':=xX b
   exact decide_eq_true (Int.lt_trans a' b')
  ·have c':=of_decide_eq_false c
   refine decide_eq_true ?_
   have hne:(kvs.getD i (0,.non)).1≠(kvs.getD j (0,.non)).1:=by
    intro e
    have e1:kvs.getD i (0,.non)=kvs[i]:=by rw [iz,dI hi];rfl
    have e2:kvs.getD j (0,.non)=kvs[j]:=by rw [iz,dI hj];rfl
    rw [e1,e2] at e
    have key:∀ m (hm:m<kvs.length),(vs.map (·.1))[m]?=some (Sum.inl (kvs[m]).1):=fun m hm=>by
     have hm':m<as.length:=by lia
     obtain ⟨k,x,t,u,g1,_,g2,_⟩:=at_ m as[m] (dI hm')
     rw [dI hm] at g1
     have:kvs[m]=(k,x):=by simpa using g1
     rw [lW,g2,this];rfl
    have pw:=List.pairwise_iff_getElem.mp nd
    have li:i<(vs.map (·.1)).length:=by rw [bR,hlen];exact hi
    have lj:j<(vs.map (·.1)).length:=by rw [bR,hlen];exact hj
    have ki:=key i hi
    have kj:=key j hj
    rw [dI li] at ki
    rw [dI lj] at kj
    have hee:(vs.map (·.1))[i]=(vs.map (·.1))[j]:=by rw [Option.some.inj ki,Option.some.inj kj,e]
    rcases Nat.lt_or_gt_of_ne hij with g | g
    ·exact pw i j li lj g hee
    ·exact pw j i lj li g hee.symm
   lia
 ·obtain ⟨fs,t,hlf,hf⟩:=Dv (h:=s'.heap) as fun b hb=>by
   obtain ⟨j,hj⟩:=List.mem_iff_getElem?.mp hb
   obtain ⟨k,x,t,u,_,_,_,g⟩:=at_ j b hj
   exact ⟨k,t,u,hk' _ _ g⟩
  have hz:0<fs.length:=by rw [hlf];rw [bR] at h2;lia
  refine kat_kind (T:=Value.type "int") t hz (fun w hw=>?_) (by rfl) ?_
  ·obtain ⟨k,tk',rfl⟩:=hf w hw
   exact fun A Q E s _ q=>wpAny_pure q
  ·exact hR
 ·rw [hlv] at hi hj
  have hi':i<as.length:=by lia
  have hj':j<as.length:=by lia
  obtain ⟨k1,x1,t1,u1,a1,_,_,g1⟩:=at_ i as[i] (dI hi')
  obtain ⟨k2,x2,t2,u2,a2,_,_,g2⟩:=at_ j as[j] (dI hj')
  have b1:(as.map Value.ref).getD i Value.none=Value.ref as[i]:=by rw [iz,lW,dI hi'];rfl
  have b2:(as.map Value.ref).getD j Value.none=Value.ref as[j]:=by rw [iz,lW,dI hj'];rfl
  have c1:kvs.getD i (0,.non)=(k1,x1):=by rw [iz,a1];rfl
  have c2:kvs.getD j (0,.non)=(k2,x2):=by rw [iz,a2];rfl
  have hne:k1≠k2:=by
   intro e
   have nd':=List.pairwise_iff_getElem.mp nd
   obtain ⟨_,_,_,_,p1,_,p2,_⟩:=at_ i as[i] (dI hi')
   obtain ⟨_,_,_,_,p3,_,p4,_⟩:=at_ j as[j] (dI hj')
   rw [a1] at p1
   rw [a2] at p3
   cases p1
   cases p3
   have li:i<(vs.map (·.1)).length:=by rw [bR,hlen];exact hi
   have lj:j<(vs.map (·.1)).length:=by rw [bR,hlen];exact hj
   have ki:(vs.map (·.1))[i]?=some (Sum.inl k1):=by rw [lW,p2];rfl
   have kj:(vs.map (·.1))[j]?=some (Sum.inl k2):=by rw [lW,p4];rfl
   rw [dI li] at ki
   rw [dI lj] at kj
   have hee:(vs.map (·.1))[i]=(vs.map (·.1))[j]:=by rw [Option.some.inj ki,Option.some.inj kj,e]
   rcases Nat.lt_or_gt_of_ne hij with g | g
   ·exact nd' i j li lj g hee
   ·exact nd' j i lj li g hee.symm
  rw [b1,b2]
  refine kat_lt (hk' _ _ g1) rfl (hk' _ _ g2) rfl ?_
  refine kat_cons (wpAny_eqBool_int ?_)
  have hb:(k1==k2)=false:=by rw [beq_eq_false_iff_ne];exact hne
  rw [hb]
  refine kat_no (oneLt_int ?_)
  have g:=hC s'.toks
  dsimp only at g
  rw [c1,c2] at g
  exact g
 ·rw [hlv] at hP hU
  have hpl:p.toList.length=kvs.length:=by rw [Array.length_toList];exact hP.size
  have hpi:∀ m,m<kvs.length->∃ i,p.toList[m]?=some i/\i<kvs.length/\i=pat p m:=fun m hm=>by
   have hm':m<p.toList.length:=by lia
   refine ⟨p.toList[m],dI hm',?_,?_⟩
   ·have:=hP.lt hm
    unfold pat at this
    rw [Array.getD,dif_pos (by rw [hP.size];exact hm)] at this
    simpa using this
   ·unfold pat
    rw [Array.getD,dif_pos (by rw [hP.size];exact hm)]
    simp
  have hout:(p.toList.map fun i=>(as.map Value.ref).getD i Value.none)=(p.toList.map fun i=>as.getD i 0).map Value.ref:=by
   rw [List.map_map]
   refine List.map_congr_left fun i hi=>?_
   obtain ⟨m,hm⟩:=List.mem_iff_getElem?.mp hi
   obtain ⟨i',g1,g2,_⟩:=hpi m (by have:=(List.getElem?_eq_some_iff.mp hm).1;lia)
   rw [hm] at g1
   cases g1
   have hi':i<as.length:=by lia
   show (as.map Value.ref).getD i Value.none=Value.ref (as.getD i 0)
   rw [iz,lW,dI hi',iz,dI hi'];rfl
  rw [hout] at hS
  have lsz:∀ b∈as,b<h1.objs.size:=fun b hb=>hG.there hb
  have up:∀ b∈as,s.heap.objs.size<=b:=fun b hb=>Nat.le_of_lt (hG.above b hb)
  have gl:∀ o,s.heap.get? h1.objs.size≠some o:=fun o e=>absurd (Heap.lt_size (hk _ _ e)) (Nat.lt_irrefl _)
  have gu:∀ b∈as,∀ o,s.heap.get? b≠some o:=fun b hb o e=>absurd (Nat.lt_of_lt_of_le (Heap.lt_size e) (up b hb)) (Nat.lt_irrefl _)
  have hLn:H h1.objs.size=none:=by
   cases e:H h1.objs.size with
   | none=>rfl
   | some u =>
    obtain ⟨ob,e2⟩:=(I.hok _ _ e).obj
    exact absurd e2 (gl ob)
  have hNl:∀ b∈as,b≠h1.objs.size:=fun b hb=>Nat.ne_of_lt (lsz b hb)
  let H2:Hp:=layT H as kvs h1.objs.size (.lst ((p.toList.map fun i=>as.getD i 0).map V.ref))
  have old:∀ b u,H b=some u->H2 b=some u:=fun b u e=>by
   obtain ⟨ob,eb⟩:=(I.hok _ _ e).obj
   show (if b=h1.objs.size then _ else _)=_
   rw [if_neg (show ¬ b=h1.objs.size from fun z=>gl ob (by rw [<- z];exact eb))]
   cases g:(as.zip kvs).lookup b with
   | none=>exact e
   | some y =>
    obtain ⟨j,g1,_⟩:=lookup_mem g
    exact absurd eb (gu b (qN g1) ob)
  have tup:∀ (j:Nat) (b:Addr) (y:Int×V),as[j]?=some b->kvs[j]?=some y->H2 b=some (.tup [.int y.1,y.2]):=fun j b y g1 g2=>by
   show (if b=h1.objs.size then _ else _)=_
   rw [if_neg (hNl b (qN g1)),rQ asN g1 g2]
  refine ⟨.ref h1.objs.size,H2,I.XS (t':=tk2) H2 (fun b u g=>hk' b u (hk b u g)) old (fun b u e n=>?_),rfl,?_⟩
  ·have e':(if b=h1.objs.size then some (HO.lst ((p.toList.map fun i=>as.getD i 0).map V.ref)) else match (as.zip kvs).lookup b with | some y=>some (.tup [.int y.1,y.2]) | none=>H b)=some u:=e
   by_cases hb:b=h1.objs.size
   ·rw [if_pos hb] at e'
    cases e'
    subst hb
    refine ⟨gl,?_,_,_,uN _,hS⟩
    rw [bR,bR,hpl,sizeLine_eq];lia
   ·rw [if_neg hb] at e'
    cases g:(as.zip kvs).lookup b with
    | none=>rw [g] at e';rw [n] at e';cases e'
    | some y =>
     rw [g] at e'
     cases e'
     obtain ⟨j,g1,g2⟩:=lookup_mem g
     obtain ⟨k,x,t,u,a1,ru,_,g3⟩:=at_ j b g1
     rw [g2] at a1
     cases a1
     exact ⟨gu b (qN g1),(by show 2<=sizeLine;decide),[Value.int k t,u],.cons ⟨t,rfl⟩ (.cons ru .nil),⟨_,hk' _ _ g3,rfl,_,rfl⟩⟩
  ·refine q h1.objs.size (p.toList.map fun i=>as.getD i 0) (p.toList.map fun i=>kvs.getD i (0,.non)) H2 old hLn ?_ ?_ ?_ ⟨by rw [bR,bR],fun j b y g1 g2=>?_⟩
   ·show (if h1.objs.size=h1.objs.size then _ else _)=_
    rw [if_pos rfl]
   ·have e1:((List.range kvs.length).map fun i=>kvs.getD i (0,.non))=kvs:=by
     apply List.ext_getElem
     ·simp
     ·intro i g1 g2
      simp only [List.getElem_map,List.getElem_range]
      rw [iz,dI g2];rfl
    have g:=(Array.perm_iff_toList_perm.mp hP).map fun i=>kvs.getD i ((0:Int),V.non)
    rw [show (List.range kvs.length).toArray.toList=List.range kvs.length from rfl,e1] at g
    exact g
   ·rw [List.pairwise_iff_getElem]
    intro i j g1 g2 g3
    rw [bR,hpl] at g1 g2
    have:=hU i j g3 g2
    have c:=xX this
    obtain ⟨i',w1,_,w3⟩:=hpi i g1
    obtain ⟨j',w4,_,w6⟩:=hpi j g2
    have l1:i<p.toList.length:=by lia
    have l2:j<p.toList.length:=by lia
    rw [dI l1] at w1
    rw [dI l2] at w4
    rw [<- w3,<- w6] at c
    simp only [List.getElem_map]
    rw [Option.some.inj w1,Option.some.inj w4]
    exact c
   ·rw [lW] at g1 g2
    obtain ⟨i,w1,w2⟩:=Option.map_eq_some_iff.mp g1
    rw [w1] at g2
    have hj:j<kvs.length:=by have:=(List.getElem?_eq_some_iff.mp w1).1;lia
    obtain ⟨i',w3,w4,_⟩:=hpi j hj
    rw [w1] at w3
    cases w3
    have e1:kvs.getD i (0,.non)=y:=by simpa using g2
    have ei:i<as.length:=by lia
    refine tup i b y ?_ ?_
    ·rw [<- w2,iz,dI ei];rfl
    ·rw [<- e1,iz,dI w4];rfl
open AutoSeq1 (wpAny_loadPart')
theorem qe (l:Addr) (items:Array Value) (n:Nat) (dct:Option Addr) (sl:Array (Option Value)) (c:Int) (tc:Tok) (hf:Builtin.SmallTypes.fitsIndex c=true) :
  Meets (Builtin.«enumerate.__new__» ⟨[.type "enumerate",.ref l],[(Str.ofString "start",.int c tc)]⟩) (fun _ R s=>s.heap.get? l=some { cls:=.type "list",dict:=dct,data:=.seq items n,slots:=sl } /\
   R (.ok (.ret (.ref (s.heap.push { cls:=.type "list_iterator",data:=.fields #[.ref l,.int 0 0] }).objs.size)))
    { s with heap:=(s.heap.push { cls:=.type "list_iterator",data:=.fields #[.ref l,.int 0 0] }).push { cls:=.type "enumerate",data:=.fields #[.none,.bool false,.ref s.heap.objs.size,rawInt c,.none,.none] } }) :=
 .of_wp fun prog w A R s h=>by
  obtain ⟨hp,g,d,tk,os⟩:=s;obtain ⟨hl,h⟩:=h
  have hsb:=sub_enumerate
  have hq:Heap.IsList (Shared.heap ⟨hp,g,d,tk,os⟩) l items:=⟨_,hl,rfl,n,rfl⟩
  wp_walk using wpAny_loadPart' hl
  refine wpAny_stack_any fun fr=>wpAny_pure ?_
  split
  ·rename_i cc _ _ _ _ _
   cases (cc==Value.type "enumerate")
   ·wp_walk using wpAny_loadPart' hl,wpAny_pyIter_list hq
    exact ⟨_,rfl,h⟩
   ·wp_walk using wpAny_loadPart' hl,wpAny_pyIter_list hq
    exact ⟨_,rfl,h⟩
  ·wp_walk using wpAny_loadPart' hl,wpAny_pyIter_list hq
   exact ⟨_,rfl,h⟩
def stN:Str:=Str.ofString "start"
theorem Oc (a v:Value):checkTypeCall "enumerate" ⟨[a],[(stN,v)]⟩=pure ():=by kernel_rfl
theorem Ua (a v:Value):checkBuiltinCall "enumerate.__new__" ⟨[.type "enumerate",a],[(stN,v)]⟩=pure ():=by kernel_rfl
theorem Od (o a v:Value):argsOk "object.__init__" ⟨[o,a],[(stN,v)]⟩:=by unfold argsOk;kernel_rfl
theorem Ub {o a v:Value}:Meets (Builtin.«object.__init__» ⟨[o,a],[(stN,v)]⟩) (fun _ R s=>s.TypeIs o "enumerate"/\R (.ok (.ret .none)) s):=by
 refine Meets.of_wp fun prog w A R s hs=>?_
 obtain ⟨hT,hq⟩:=hs
 have hl:=(F.called_enumerate).init.lookup
 have hm:=(F.called_enumerate).made
 have hne:(some "enumerate.__new__" != some "object.__new__")=true:=by decide
 repeat (any_goals (first | assumption | wp_step))
 exact ⟨_,rfl,hq⟩
theorem rR {items:Array Value}{c:Int}{tc:Tok} (hL:s.heap.IsList l items) (hf:Builtin.SmallTypes.fitsIndex c=true)
  (k:∀ h',IsEnum h' (s.heap.objs.size+1) s.heap.objs.size c .none->h'.IsListIter s.heap.objs.size l 0->(∀ b o,s.heap.get? b=some o->h'.get? b=some o)->Q (.ref (s.heap.objs.size+1)) { s with heap:=h' }) :
  wpAny (model prog w) A (call (.type "enumerate") [.ref l] [(stN,.int c tc)]) Q E s:=by
 obtain ⟨⟨cl,dct,dt,sl⟩,hl,hc,n,hd⟩:=hL
 obtain rfl:cl=.type "list":=hc
 obtain rfl:dt=.seq items n:=hd
 have ft:=F.called_enumerate
 obtain ⟨c0,tl,hmro⟩:=ft.mro
 have hmade:=ft.made
 have hsub:=ft.sub
 have hct:=Oc (.ref l) (.int c tc)
 refine wpAny_call (codeAny_of_tree (show wpAny _ _ (callAny (.type "enumerate") _) _ _ _ from ?_))
 refine wpAny_pure ⟨Code.quiet_builtin _ (by decide +kernel),codeAny_builtin F.entry_type_call ?_⟩
 rw [Around.under_plain (weight_type_call_type "enumerate" [.ref l] [(stN,.int c tc)]) (units_type_call_type "enumerate" [.ref l] [(stN,.int c tc)])]
 have hnt:=ft.notType
 have hcc:=ft.canCreate
 repeat (any_goals (first | assumption | wp_step))
 refine codeAny_mono (codeAny_call_builtin ft.plain F.entry_enumerate_new (wpAny_of_eq (Ua (.ref l) (.int c tc)) (qe l items n dct sl c tc hf prog w A.in1 (wants (fun obj s1=>s1.TypeIs obj "enumerate"/\Q obj s1) E) s ⟨hl,?_⟩))) fun r s1 hr=>?_
 ·have hz:(s.heap.push { cls:=.type "list_iterator",data:=.fields #[.ref l,.int 0 0] }).objs.size=s.heap.objs.size+1:=Heap.size_push ..
  show _/\_
  rw [hz]
  have he:IsEnum ((s.heap.push { cls:=.type "list_iterator",data:=.fields #[.ref l,.int 0 0] }).push { cls:=.type "enumerate",data:=.fields #[.none,.bool false,.ref s.heap.objs.size,rawInt c,.none,.none] }) (s.heap.objs.size+1) s.heap.objs.size c .none:=by
   have g:=Heap.get?_push_size (s.heap.push { cls:=.type "list_iterator",data:=.fields #[.ref l,.int 0 0] }) (o:={ cls:=.type "enumerate",data:=.fields #[.none,.bool false,.ref s.heap.objs.size,rawInt c,.none,.none] }) rfl
   rw [hz] at g;exact g
  exact ⟨⟨_,he,rfl⟩,k _ he ⟨_,Heap.get?_push_of_some _ (Heap.get?_push_size _ rfl),rfl,rfl⟩ fun b o x=>Heap.get?_push_of_some _ (Heap.get?_push_of_some _ x)⟩
 cases r with
 | error e=>exact hr
 | ok fl =>
  cases fl with
  | ret obj =>
   obtain ⟨hT,hQ⟩:=hr
   have hli:=ft.init.lookup
   have hbi:=ft.init.bind obj
   repeat (any_goals (first | assumption | wp_step))
   refine codeAny_mono (codeAny_call_builtin ft.init.plain F.entry_object_init (ft.init.check _ _ _ _ _ _ _ _ hT (Od obj (.ref l) (.int c tc)) (Ub prog w A.in1 (wants (fun r s2=>r=.none/\Q obj s2) E) s1 ⟨hT,rfl,hQ⟩))) fun r2 s2 hr2=>?_
   cases r2 with
   | error e=>exact hr2
   | ok f2 =>
    cases f2 with
    | ret r =>
     obtain ⟨rfl,hq⟩:=hr2
     repeat (any_goals (first | assumption | wp_step))
    | _=>exact hr2.elim
  | _=>exact hr.elim
theorem yQ {P:Nat->Value->Prop}{St:Nat->Heap->Prop} (D:Draws prog w A it fp n P St) (c:Nat) :
  Draws prog w A it fp (n+c) (fun i v=>P (i - c) v) (fun i h=>c<=i/\St (i - c) h) where
 live:=fun i h ⟨_,st⟩=>D.live _ h st
 frame:=fun i h h' ⟨z,st⟩ k=>⟨z,D.frame _ h h' st k⟩
 item:=fun i s Q E hi ⟨z,st⟩ hQ=>D.item (i - c) s Q E (by lia) st fun x h' tk p st' sb=>hQ x h' tk p ⟨by lia,by rw [show i+1 - c=i - c+1 by lia];exact st'⟩ sb
 done:=fun s Q E ⟨z,st⟩ hE=>D.done s Q E (by rw [show n+c - c=n by lia] at st;exact st) hE
def Wj (K:PySem.W.Frag) (l:Addr) (c:Nat):It:=⟨fun i H=>∃ xs x,bD K H l xs/\xs[i]?=some x,fun i H v H'=>∃ p x,(∀ xs,bD K H l xs->xs[i]?=some x)/\v=.ref p/\H p=none/\H'=upd H p (.tup [.int ((c+i:Nat):Int),x]),fun i H=>∃ xs,bD K H l xs/\xs.length<=i⟩
theorem Gh {e:Addr}{c:Nat} (hne:e≠it) :
  Turn P w K (.Tuple elts x1 tp) (Wj K l c) [e,it] e (fun i h=>(∃ old,IsEnum h e it ((c+i:Nat):Int) old)/\h.IsListIter it l i) where
 mem:=by simp
 obj:=fun i h ⟨⟨old,he⟩,⟨o,ho,hc,hd⟩⟩ b hb=>by
  simp only [List.mem_cons,List.not_mem_nil,or_false] at hb
  rcases hb with rfl | rfl
  ·exact ⟨_,he,fun v z=>by cases z⟩
  ·exact ⟨o,ho,fun v z=>by rw [hd] at z;cases z⟩
 keep:=fun i h h' ⟨⟨old,he⟩,⟨o,ho,r⟩⟩ k=>⟨⟨old,k e (by simp) _ he⟩,⟨o,k it (by simp) o ho,r⟩⟩
 item:=by
  intro X hP hw hK hc i pins s σ H E I hf ⟨⟨old,he⟩,st⟩ ⟨xs,x,hq,hx⟩
  subst hP hw hK
  obtain ⟨its,rv,p,_⟩:=I.list hq
  have nl:=lC I hf hq
  obtain ⟨u,hu,ru⟩:=rv.get hx
  have nle:l≠e:=fun z=>nl (by simp [z])
  have nli:l≠it:=fun z=>nl (by simp [z])
  have hi:i<its.length:=(List.getElem?_eq_some_iff.mp hu).1
  refine wpAny_pyNext_enum_itemD (yQ (Draws.list (prog:=X.prog) (w:=X.w) (A:=X.A.in1) (I.ok.hd hc) it l nli its.toArray) c) he ⟨by lia,by rw [show c+i - c=i by lia];exact ⟨st,p.isList⟩⟩ (by rw [List.size_toArray];lia) hne (by simp [hne,Ne.symm nle]) fun v h' tk hP ho st' hT hsz hk=>⟨_,rfl,?_⟩
  have hv:v=u:=by
   have:its.toArray[c+i - c]?=some v:=hP
   rw [show c+i - c=i by lia] at this
   rw [show its.toArray[i]?=its[i]? by simp,hu] at this
   exact (Option.some.inj this).symm
  subst hv
  refine wpAny_letOwnedTupleGo_enum ho fun h2 he2 sb=>?_
  have helt:e<s.heap.objs.size:=Heap.lt_size he
  obtain ⟨oit,U0,_⟩:=id st
  have hilt:it<s.heap.objs.size:=Heap.lt_size U0
  have hT2:h2.get? s.heap.objs.size=some { cls:=.type "tuple",data:=.seq #[.int ((c+i:Nat):Int) tk,v] }:=sb.extBut _ _ (Nat.ne_of_gt helt) hT
  have kk:∀ b o,b∉[e,it]->s.heap.get? b=some o->h2.get? b=some o:=fun b o hb q=>by
   simp only [List.mem_cons,List.not_mem_nil,or_false,not_or] at hb
   exact sb.extBut _ _ hb.1 (hk b o hb.1 hb.2 q)
  refine ⟨.ref s.heap.objs.size,upd H s.heap.objs.size (.tup [.int ((c+i:Nat):Int),x]),I.wg (t':=tk+1) hf kk (Nat.le_refl _) ⟨eV (by simp) |> Nat.le_of_lt,[.int ((c+i:Nat):Int) tk,v],.cons ⟨tk,rfl⟩ (.cons ru .nil),⟨_,hT2,rfl,_,rfl⟩⟩,rfl,⟨_,x,fun ys hy=>by rw [I.qT hy hq];exact hx,rfl,I.fresh,rfl⟩,⟨⟨_,he2⟩,?_⟩,fun b hb=>?_⟩
  ·obtain ⟨_,⟨o,ho',r⟩,_⟩:=st'
   rw [show c+i+1 - c=i+1 by lia] at r
   exact ⟨o,sb.extBut _ _ (Ne.symm hne) ho',r⟩
  ·simp only [List.mem_cons,List.not_mem_nil,or_false] at hb
   rcases hb with rfl | rfl
   ·rw [aC (Nat.ne_of_lt helt)];exact (hf _ (by simp)).1
   ·rw [aC (Nat.ne_of_lt hilt)];exact (hf _ (by simp)).1
 done:=by
  intro X hP hw hK hc i pins s σ H E I hf ⟨⟨old,he⟩,st⟩ ⟨xs,hq,hx⟩
  subst hP hw hK
  obtain ⟨its,rv,p,_⟩:=I.list hq
  have nl:=lC I hf hq
  have nli:l≠it:=fun z=>nl (by simp [z])
  have hlen:=rv.length
  have hno:its.toArray[i]?=none:=by simp;lia
  have D:Draws X.prog X.w X.A.in1 it [it,l] 0 (fun _ _=>True) (fun _ h=>h.IsListIter it l i/\h.IsList l its.toArray) :=
   { live:=(fun _ _ z=>let ⟨o,ho,_⟩:=z.1;⟨o,ho⟩),frame:=fun _ _ _ z hk=>⟨z.1.at fun o e=>hk it (by simp) o e,z.2.at fun o e=>hk l (by simp) o e⟩,item:=fun _ _ _ _ z=>absurd z (Nat.not_lt_zero _),done:=fun s Q E z hE=>wpAny_nextOf_list_end (I.ok.hd hc) z.1 z.2 hno hE }
  exact wpAny_pyNext_enum_endD D he ⟨st,p.isList⟩ fun h' eb=>⟨rfl,I.w5 (t':=s.toks) hf fun b o hb q=>eb b o (fun z=>hb (by simp [z])) q⟩
 self:=fun A i s Q E ⟨⟨old,he⟩,_⟩ h=>wpAny_pyIter_enum he h
section
variable {M:Model}
theorem wF {rest:List Expr}{kws:List Keyword}
  (h:wpAny M A (spliced (backTo pos (starEach (e::rest) env))) (fun vs s1=>wpAny M A (evalAll ((backToKw pos (keywordEach kws env)).map (·.2))) (fun kvs s2=>wpAny M A (call (.type T) vs (((backToKw pos (keywordEach kws env)).filterMap (·.1)).zip kvs)) Q E s2) E s1) E s)
  (he:backTo pos (starEach (e::rest) env)=(false,eval e env)::backTo pos (starEach rest env)) (hp:(backTo pos (starEach (e::rest) env)).any (·.1)=false)
  (ha:(backToKw pos (keywordEach kws env)).all (·.1.isSome)=true) (hk:(backToKw pos (keywordEach kws env)).any (·.1.isNone)=false) :
  wpAny M A (callWith pos (.type T) [] (backTo pos (starEach (e::rest) env)) (backToKw pos (keywordEach kws env))) Q E s:=by
 have g:wpAny M A (evalArgs (.type T) true (backTo pos (starEach (e::rest) env)) (backToKw pos (keywordEach kws env))) (fun a s1=>wpAny M A (call (.type T) ([]++a.pos) a.kw) Q E s1) E s:=by
  rw [he] at h ⊢
  exact evalArgs_kwB ha h
 unfold callWith
 refine wpAny_bind (wpAny_holding (wpAny_mono g (fun a s1 h1=>wpAny_bind (wpAny_standAt ?_)) fun _ _ z=>z))
 simp only [hp,hk,Bool.or_false]
 exact wpAny_bind (wpAny_pure (wpAny_bind (wpAny_mono h1 (fun r s2 hr=>wpAny_bind (wpAny_holding (wpAny_point (wpAny_pure hr)))) fun _ _ z=>z)))
end
def Uc (K:PySem.W.Frag) (ta:TA) (tb:TE):TI:=fun σ H R=>ta σ H fun vs H1=>tb σ H1 fun y H2=>∃ (l:Addr) (xs:List V) (c:Nat),vs=[.ref l]/\y=.int (c:Int)/\c<2 ^ 62/\bD K H2 l xs/\R (Wj K l c) H2
theorem Jr {a b:Expr}{ta:TA}{kpos:Pos} (hg:Gl X "enumerate") (hm:X.mg "enumerate"=none) (ha:PA X [a] ta) (hb:PE X b tb) (hs:starEach [a] X.env=[(false,eval a X.env)]:=by rfl) :
  PI X (.Tuple elts x1 tp) (.Call (.Name "enumerate" p) [a] [⟨some (Str.ofString "start"),b,kpos⟩] pos) (Uc X.K ta tb):=by
 intro pins s σ H R I h
 refine wpAny_Call_Name_kw (jk I hg hm nG (wF (cF (ha pos pins s σ H _ I h) fun us s1 ⟨vs,H1,I1,r1,q1⟩=>cF (Nm hb Te pos pins s1 σ H1 (fun zs H2=>match zs with | [y]=>∃ (l:Addr) (xs:List V) (c:Nat),vs=[.ref l]/\y=.int (c:Int)/\c<2 ^ 62/\bD X.K H2 l xs/\R (Wj X.K l c) H2 | _=>False) I1 q1) fun ws s2 ⟨zs,H2,I2,r2,q2⟩=>?_) (by rw [hs];rfl) (by rw [hs];rfl) (by rfl) (by rfl)))
 match zs,r2,q2 with
 | [y],r2,q2 =>
  obtain ⟨l,xs,c,rfl,rfl,hc,hq,q⟩:=q2
  obtain ⟨u,rfl,ru⟩:=vals1 r1
  cases ru
  obtain ⟨w,rfl,Fp⟩:=vals1 r2
  obtain ⟨tc,rfl⟩:=Fp
  obtain ⟨its,rv,pl,_⟩:=I2.list hq
  show wpAny _ _ (call (.type "enumerate") [.ref l] [(stN,.int c tc)]) _ _ s2
  refine rR pl.isList (by
   unfold Builtin.SmallTypes.fitsIndex
   rw [Bool.and_eq_true]
   exact ⟨decide_eq_true (by lia),decide_eq_true (by lia)⟩) fun h' he hit hk=>wpAny_pyIter_enum he ?_
  have hne:s2.heap.objs.size+1≠s2.heap.objs.size:=Nat.succ_ne_self _
  refine ⟨_,[s2.heap.objs.size+1,s2.heap.objs.size],_,_,H2,rfl,I2.kept (t':=s2.toks) hk,Gh hne,⟨⟨_,he⟩,hit⟩,fun b hb=>?_,q⟩
  have hle:s2.heap.objs.size<=b:=by
   simp only [List.mem_cons,List.not_mem_nil,or_false] at hb
   rcases hb with rfl | rfl <;> lia
  exact I2.tQ hle (I2.hok.fresh hle)
 | [],_,q2=>exact q2.elim
 | _::_::_,_,q2=>exact q2.elim
theorem Bj {c:Nat} (h:bD K H l xs) :
  (i<xs.length->(Wj K l c).go i H/\∀ v H',(Wj K l c).yr i H v H'->∃ p,v=.ref p/\H p=none/\H'=upd H p (.tup [.int ((c+i:Nat):Int),xs.getD i .non]))/\(xs.length<=i->(Wj K l c).stop i H):=by
 refine ⟨fun hi=>⟨⟨xs,xs[i],h,by simp [hi]⟩,fun v H' ⟨p,x,e1,e2,e3,e4⟩=>⟨p,e2,e3,?_⟩⟩,fun hi=>⟨xs,h,hi⟩⟩
 rw [e4,iz,e1 xs h];rfl
def rRng:List V->Hp->VK->Prop:=fun xs H Q=>∃ i j:Int,xs=[.int i,.int j]/\∀ p,H p=none->Q (.ref p) (upd H p (.rng i j))
theorem Js:dB X (.type "range") rRng:=by
 intro pins s σ H xs us Q I r h
 obtain ⟨i,j,rfl,q⟩:=h
 obtain ⟨u,u',rfl,⟨t,rfl⟩,⟨t',rfl⟩⟩:=vals2 r
 exact call_range_2 ⟨.ref s.heap.objs.size,_,I.laid (o:=.rng i j) (t':=s.toks+1) (fun b o e=>Heap.get?_push_of_some _ e) (Nat.le_refl _) ⟨t,t',s.toks,Heap.get?_push_size _ rfl⟩,rfl,q _ (I.hok.fresh (Nat.le_refl _))⟩
def Ud:List V->Hp->VK->Prop:=fun xs H Q=>∃ (a:Addr) (lo hi:Int),xs=[.ref a]/\H a=some (.rng lo hi)/\-(2 ^ 62)<=lo/\lo<=hi/\hi<2 ^ 62/\hi - lo<=1000/\∀ p,H p=none->Q (.ref p) (upd H p (.lst ((List.range (hi - lo).toNat).map fun i=>V.int (lo+(i:Nat)))))
theorem rT:∀ (n:Nat) (lo:Int) (us:List Value),us.length=n->(∀ (j:Nat) (v:Value),us[j]?=some v->∃ t,v=.int (lo+j) t)->Vals ((List.range n).map fun i=>V.int (lo+(i:Nat))) us
 | 0,_,[],_,_=>.nil
 | n+1,lo,us,hl,h=>by
  have hlt:n<us.length:=by lia
  have e:us=us.take n++[us[n]]:=by
   rw [List.take_append_getElem hlt,List.take_of_length_le (by lia)]
  rw [List.range_succ,lR,e]
  refine Vals.append (rT n lo (us.take n) (by rw [List.length_take];lia) fun j v hj=>?_) ?_
  ·rw [List.getElem?_take] at hj
   split at hj
   ·exact h j v hj
   ·cases hj
  ·obtain ⟨t,ht⟩:=h n us[n] (dI hlt)
   exact .cons ⟨t,ht⟩ .nil
theorem Bk (hin:X.A.handled=none):dB X (.type "list") Ud:=by
 intro pins s σ H xs us Q I r h
 obtain ⟨a,lo,hi,rfl,ha,l1,l2,l3,l4,q⟩:=h
 obtain ⟨u,rfl,ru⟩:=vals1 r
 cases ru
 obtain ⟨t,t',t'',e⟩:=I.hok _ _ ha
 refine call_list_range (n:=(hi - lo).toNat) hin e (small_one l1 (by lia) (by lia) l3) (by rw [rangeSize_one];split <;> lia) (by lia) fun h' tk acc c hk hS hI=>?_
 have hv:=rT (hi - lo).toNat lo acc.toList (by rw [Array.length_toList];exact hI.1) fun j v hj=>by
  obtain ⟨t,ht⟩:=hI.2 j v (by simpa using hj)
  exact ⟨t,by rw [ht,Int.mul_one]⟩
 exact ⟨.ref s.heap.objs.size,_,I.laid (o:=.lst _) (t':=tk) hk (Nat.le_refl _) ⟨by rw [bR,List.length_range,sizeLine_eq];lia,acc.toList,c,hv,hS⟩,rfl,q _ (I.hok.fresh (Nat.le_refl _))⟩
def jx:V->Bool
 | .int _=>true
 | .str x=>PyData.strOk x
 | _=>false
def jy:V->PyData
 | .int i=>.int i
 | .str x=>.str x
 | _=>.none
theorem yR:∀ xs:List V,xs.all jx=true->cN H xs (xs.map jy)
 | [],_=>.nil
 | x::xs,h=>by
  rw [List.all_cons,Bool.and_eq_true] at h
  refine .cons ?_ (yR xs h.2)
  cases x with
  | int i=>exact .int i
  | str z=>exact .str z
  | _=>cases h.1
theorem Jt {a b:V} (ha:jx a=true) (hb:jx b=true):PyData.eqv (jy a) (jy b)=decide (a=b):=by
 cases a with
 | int i =>
  cases b with
  | int j =>
   show (i==j)=decide (V.int i=V.int j)
   rw [Bool.eq_iff_iff];simp
  | str z=>exact (decide_eq_false (show ¬ V.int i=V.str z from fun e=>by cases e)).symm
  | _=>cases hb
 | str x =>
  cases b with
  | int j=>exact (decide_eq_false (show ¬ V.str x=V.int j from fun e=>by cases e)).symm
  | str z =>
   show (x==z)=decide (V.str x=V.str z)
   rw [Bool.eq_iff_iff];simp
  | _=>cases hb
 | _=>cases ha
theorem pK:∀ xs ys:List V,xs.all jx=true->ys.all jx=true->PyData.eqvAll (xs.map jy) (ys.map jy)=decide (xs=ys)
 | [],[],_,_=>rfl
 | [],_::_,_,_=>(decide_eq_false (fun e=>by cases e)).symm
 | _::_,[],_,_=>(decide_eq_false (fun e=>by cases e)).symm
 | x::xs,y::ys,hx,hy=>by
  rw [List.all_cons,Bool.and_eq_true] at hx hy
  show (PyData.eqv (jy x) (jy y)&&PyData.eqvAll (xs.map jy) (ys.map jy))=_
  rw [Jt hx.1 hy.1,pK xs ys hx.2 hy.2,Bool.eq_iff_iff]
  simp
theorem rW:∀ xs:List V,xs.all jx=true->PyData.canLayAll0 (xs.map jy)=true
 | [],_=>rfl
 | x::xs,h=>by
  rw [List.all_cons,Bool.and_eq_true] at h
  rw [List.map_cons,PyData.canLayAll0,rW xs h.2]
  cases x with
  | int i=>rfl
  | str z =>
   show (PyData.strOk z&&true)=true
   rw [show PyData.strOk z=true from h.1];rfl
  | _=>cases h.1
theorem yS:∀ xs:List V,PyData.depthAll (xs.map jy)<=1
 | []=>by decide
 | x::xs=>by
  rw [List.map_cons,PyData.depthAll]
  have:=yS xs
  have e:PyData.depth (jy x)<=1:=by cases x <;> exact Nat.le_of_ble_eq_true rfl
  lia
def bC (H:Hp):List Addr->List (List V)->Prop:=Paired fun a r=>H a=some (.tup r)
theorem lE:∀ {as:List Addr}{us:List Value},Vals (as.map V.ref) us->us=as.map Value.ref
 | [],_,r=>by cases r;rfl
 | a::as,_,r=>by
  rw [List.map_cons] at r
  cases r with
  | cons r1 r2=>cases r1;rw [lE r2];rfl
def rInR (K:PySem.W.Frag):R2:=fun x y H Q=>∃ p l as r rows,x=.ref p/\y=.ref l/\bD K H l (as.map V.ref)/\H p=some (.tup r)/\r.all jx=true/\bC H as rows/\(∀ q∈rows,q.all jx=true)/\Q (.bl (rows.any fun q=>decide (q=r))) H
theorem any_rows:∀ {as:List Addr}{rows:List (List V)},bC H as rows->(as.map Value.ref).any (fun u=>match u with | .ref a=>(match H a with | some (.tup q)=>decide (q=r) | _=>false) | _=>false)=rows.any fun q=>decide (q=r)
 | _,_,.nil=>rfl
 | a::as,q::rows,.cons h t=>by
  rw [List.map_cons,List.any_cons,List.any_cons,any_rows t]
  show ((match H a with | some (.tup q)=>decide (q=r) | _=>false)||_)=_
  rw [h]
theorem yU:∀ {as:List Addr}{rows:List (List V)},bC H as rows->∀ a∈as,∃ q∈rows,H a=some (.tup q)
 | _,_,.nil,a,h=>nomatch h
 | _::_,q::_,.cons h t,a,ha=>by
  rcases List.mem_cons.mp ha with rfl | ha
  ·exact ⟨q,List.mem_cons_self,h⟩
  ·obtain ⟨q',m,e⟩:=yU t a ha
   exact ⟨q',mD _ m,e⟩
theorem Ue (hu:X.A.units+64<cLine):jC X (compareOp .In) (rInR X.K):=by
 intro pins s σ H x y v u Q I rx ry h
 obtain ⟨p,l,as,r,rows,rfl,rfl,hq,hp,hr,hR,hrs,q⟩:=h
 cases rx
 cases ry
 obtain ⟨its,rv,pl,hz⟩:=I.list hq
 have Ju:=lE rv
 subst Ju
 have read:∀ (a:Addr) (z:List V),H a=some (.tup z)->z.all jx=true->∃ bs,Reads s.heap (.ref a) (.tuple (z.map jy)) bs:=fun a z ha hz=>eN.reads I (.tup ha (yR z hz)) rfl
 refine SeqAt.in_listAt (fun u=>match u with | .ref a=>(match H a with | some (.tup q)=>decide (q=r) | _=>false) | _=>false) pl.isList (fun w hw=>?_) ⟨.bl _,H,I,rfl,?_⟩
 ·have hw':w∈as.map Value.ref:=by simpa using hw
  obtain ⟨a,ha,rfl⟩:=List.mem_map.mp hw'
  obtain ⟨z,hz1,hz2⟩:=yU hR a ha
  obtain ⟨bs,rb⟩:=read a z hz2 (hrs z hz1)
  obtain ⟨cs,rc⟩:=read p r hp hr
  have g:=SeqAt.eqAt_reads (.tuple (z.map jy)) (.tuple (r.map jy)) X.A.in1 s _ _ bs cs rb rc (rW z (hrs z hz1)) (rW r hr) (by
   have h1:=yS z
   have h2:PyData.depth (.tuple (z.map jy))<=3:=by show PyData.depthAll (z.map jy)+1<=3;lia
   have h3:X.A.in1.units<=X.A.units+32:=by show X.A.units+1<=X.A.units+32;lia
   lia)
  have e:PyData.eqv (.tuple (z.map jy)) (.tuple (r.map jy))=decide (z=r):=pK z r (hrs z hz1) hr
  rw [e] at g
  show SeqAt.EqAt _ _ _ _ (match H a with | some (.tup q)=>decide (q=r) | _=>false)
  rw [hz2]
  exact g
 ·have e:=any_rows (r:=r) hR
  have e2:((as.map Value.ref).toArray.any fun u=>match u with | .ref a=>(match H a with | some (.tup q)=>decide (q=r) | _=>false) | _=>false)=rows.any fun q=>decide (q=r):=by rw [<- e];simp
  rw [e2]
  exact q
section
variable {a b:Expr}{ta:TA}
end
section
variable {a b:Expr}{op:Operator}
theorem Ug (ha:PE X (.Subscript a b p) te) (hr:PA X es t):PA X (.Subscript a b p::es) (fB te t):=aj ha hr
theorem Uh {c:Const} (ha:PE X (.Constant c j p) te) (hr:PA X es t):PA X (.Constant c j p::es) (fB te t):=aj ha hr
theorem wG:qm (.BinOp a op b p):=fun _ _=>rfl
structure WE (X:Cx) (e:Expr) (t:TE):Prop where
 h:PE X e t
structure WA (X:Cx) (es:List Expr) (t:TA):Prop where
 h:PA X es t
structure WO (X:Cx) (o:Option Expr) (t:_):Prop where
 h:PO X o t
structure WS (X:Cx) (st:Stmt) (t:TS):Prop where
 h:PS X st t
structure tW (X:Cx) (sts:List Stmt) (t:TS):Prop where
 h:xZ X sts t
theorem tW.out {D:Ends} (w:∃ t,tW X sts t/\t D σ H):∃ t,xZ X sts t/\t D σ H:=by
 obtain ⟨t,⟨h⟩,k⟩:=w
 exact ⟨t,h,k⟩
theorem jZ:WE X (.Constant (.str x) j p) (tC (.str x)):=⟨aG⟩
theorem cZ {i:Int}:WE X (.Constant (.int i) j p) (tC (.int i)):=⟨au⟩
theorem wv (i:Nat)  (hN:X.N[i]?=some x:=by rfl) (hv:Vis X.env.scope x:=by first | exact Or.inl rfl | exact Or.inr (Or.inl rfl) | exact Or.inr (Or.inr rfl)) (hd:(x==("__debug__" : Str))=false:=by decide)
  (hcd:(x==("__classdict__" : Str))=false:=by decide):WE X (.Name x p) (pX i):=⟨Ht hN hv hd hcd⟩
theorem lG:WO X none nu:=⟨fY⟩
theorem lH (h:WE X e te):WO X (some e) (yw te):=⟨cR h.h⟩
theorem dU:WA X [] oA:=⟨aq⟩
theorem rY {c:Const} (ha:WE X (.Constant c j p) te) (hr:WA X es t):WA X (.Constant c j p::es) (fB te t):=⟨Uh ha.h hr.h⟩
theorem wH (ha:WE X (.Subscript a b p) te) (hr:WA X es t):WA X (.Subscript a b p::es) (fB te t):=⟨Ug ha.h hr.h⟩
theorem wI (ha:WE X (.Name x p) te) (hr:WA X es t):WA X (.Name x p::es) (fB te t):=⟨aj ha.h hr.h⟩
theorem iV (h:WA X es t):WE X (.List es p) (Td t):=⟨cP h.h⟩
theorem fJ {r:R2} (ho:jC X (binaryOp op) r) (ha:WE X a ta) (hb:WE X b tb):WE X (.BinOp a op b p) (Mv r ta tb):=⟨aQ ho ha.h hb.h⟩
theorem kh {r:R2} (hr:QZ X r) (ha:WE X a ta) (hb:WE X b tb) (hs:qm b):WE X (.Subscript a b p) (Mv r ta tb):=⟨aM hr ha.h hb.h hs⟩
theorem aU {c:Const}:qm (.Constant c j p):=fun _ _=>rfl
theorem uO {lo hi:Option Expr}{tl th:_}{r:V->Option Int->Option Int->Hp->VK->Prop} (hr:Wh X r) (he:WE X e te) (hl:WO X lo tl) (hu:WO X hi th):WE X (.Subscript e (.Slice lo hi none q) p) (Xe r te tl th):=⟨cT hr he.h hl.h hu.h⟩
theorem wJ (hg:Gl X "len") (hm:X.mg "len"=none) (ha:WE X (.Name x p2) te):WE X (.Call (.Name "len" p) [.Name x p2] [] q) (tCB (fun xs H Q=>∃ p ys,xs=[.ref p]/\(bD X.K H p ys\/bG X.K H p ys)/\Q (.int ys.length) H) (fB te oA)) :=
 ⟨aP bY hg hm PySem.boot_len (aj ha.h aq)⟩
theorem cD (hN:X.N.Nodup) (hi:X.N[i]?=some x) (hx:Loc X.env.scope x) (he:WE X e te) (hs:swapsWith e (some (.Name x pos')) pos.line X.env=pure false:=by rfl) (hf:X.fn x=true\/X.env.scope.names.lookup x=some .local:=by first | exact .inl rfl | exact .inr rfl) :
  WS X (.Assign [.Name x pos'] e pos) (Aa te (pC i)):=⟨bU hN hi hx he.h hs hf⟩
theorem bM (he:WE X e te):WS X (.Return (some e) p) (HB te):=⟨bL he.h⟩
theorem bN:tW X [] Hw:=⟨bK⟩
theorem aZ (h:WS X st ts):tW X [st] ts:=⟨aJ h.h⟩
theorem aH {us:TS} (h:WS X st ts) (r:tW X sts us):tW X (st::sts) (Ng ts us):=⟨aD h.h r.h⟩
end
structure WG (X:Cx) (tg:Expr) (g:TG):Prop where
 h:PG X tg g
section
variable {a b c:Expr}{op:Operator}{ti:TE}
theorem rZ (ha:WE X (.BinOp a op b p) te) (hr:WA X es t):WA X (.BinOp a op b p::es) (fB te t):=⟨aj ha.h hr.h⟩
theorem oH (h:WA X es t):WE X (.Tuple es x1 p) (Nj t):=⟨dh h.h⟩
theorem Jv (ha:WE X a ta):WE X (.UnaryOp .USub a p) (tUn (rU fun i=>.int (-i)) ta):=⟨QT HJ ha.h⟩
end
theorem Jw {g:TG}{tb:TS} (hp:PassesOwn (model X.prog X.w) X.A X.env X.xe) (hc:X.calm=true) (hi:PI X tg iter wi) (hg:PG X tg g) (hb:tW X body tb)
  (hs:∀ x,foldedSetIterable iter X.env x=pure x:=by intro _;rfl):WS X (.For tg iter body [] pos) (X4 wi g tb):=⟨gU hp hc hi hg hb.h hs⟩
theorem cQ {c:Expr}{a b:List Stmt}{tc:TT}{t u:TS} (hc:PT X c tc) (ha:tW X a t) (hb:tW X b u):WS X (.If c a b pos) (yq tc t u):=⟨cJ hc ha.h hb.h⟩
end L2
namespace M
open PySem L2
def top (i:Nat):Stmt:=PySem.Challenge.pw_manrent_k45_rows_struck_and_corrected.main.body.getD i (.Pass ⟨0,0,0,0⟩)
abbrev uP:Stmt:=top 16
abbrev oJ:Stmt:=top 17
abbrev uQ:Stmt:=top 18
abbrev uR:Stmt:=top 19
abbrev Gi:Stmt:=top 30
abbrev Gj:Stmt:=top 52
abbrev oK:Stmt:=top 56
abbrev uT:Stmt:=top 58
abbrev pL:Stmt:=top 59
abbrev mO:Stmt:=top 60
abbrev oM:Stmt:=top 61
abbrev iJ:Stmt:=top 62
abbrev mQ:Stmt:=top 63
abbrev uU:Stmt:=top 64
abbrev Bl:Stmt:=top 65
abbrev Gk:Stmt:=top 66
abbrev uV:Stmt:=top 67
abbrev pN:Stmt:=top 68
abbrev pO:Stmt:=top 69
abbrev kE:Stmt:=top 70
abbrev su:Stmt:=top 71
abbrev oN:Stmt:=top 72
abbrev Gm:Stmt:=top 73
abbrev sE:Stmt:=top 74
abbrev Gn:Stmt:=top 75
abbrev oO:Stmt:=top 76
abbrev uW:Stmt:=top 77
abbrev tX:Stmt:=top 78
abbrev oR:Stmt:=inClass (top 55) 0
abbrev uX:Stmt:=inClass (top 55) 3
abbrev uY:Stmt:=inClass (top 55) 4
abbrev oU:Stmt:=inClass (top 55) 5
abbrev gP:Stmt:=inClass (top 55) 6
abbrev lJ:Stmt:=inClass (top 55) 7
abbrev jd:Stmt:=inClass (top 55) 8
abbrev uZ:Stmt:=inClass (top 55) 9
abbrev oV:Stmt:=inClass (top 55) 10
abbrev oW:Stmt:=inClass (top 55) 14
abbrev lK:Stmt:=inClass (top 55) 15
theorem ao {p:Addr} (h:H p=none) (o:HO):Same H (upd H p o):=fun b u q=>by rw [aC (aN q h)];exact q
theorem aV {o:HO} (s:Same H H2) (h:H l=none):Same H (upd H2 l o):=fun b u q=>by rw [aC (aN q h)];exact s b u q
theorem small (h:n<=1000000):n<=sizeLine:=Nat.le_trans h (by decide)
theorem cj (h:n<1000000):n<sizeLine:=Nat.lt_of_lt_of_le h (by decide)
def Dw (v:Int):Prop:=0<=v/\v<1000003
theorem wK {fs:List Int}{v:Int} (h:∀ x∈fs,Dw x) (hv:Dw v):∀ x∈fs++[v],Dw x:=fun x hx=>by
 rcases List.mem_append.mp hx with z | z
 ·exact h x z
 ·rw [List.mem_singleton.mp z];exact hv
theorem qC (fs:List Int) (v:Int):fs.map V.int++[V.int v]=(fs++[v]).map V.int:=by simp
def Jx (K:PySem.W.Frag):Sp:=fun vs H Q _=>∃ (a:Addr) (ns:List Int) (many:Int),vs=[.ref a,.int many]/\bD K H a (ns.map V.int)/\ns.length<=63/\0<=many/\many<=100000 /\
 ∀ (r:Addr) (H':Hp) (fs:List Int),Same H H'->H r=none->H' r=some (.lst (fs.map V.int))->(fs.length:Int)=many->(∀ v∈fs,Dw v)->Q (.ref r) H'
section
theorem iW:aY ["_law_script", "_law_many", "_law_feed_here", "_law_salt", "_law_cell", "_law_rest", "_law_k"] ["_law_script", "_law_many"] (aA uT):=⟨rfl,rfl,rfl,by decide +kernel,rfl,by decide +kernel,by decide +kernel⟩
theorem Oe (F:iC K "_law_feed" "_law_feed" uT f fd) (mr:mg "range"=none) (ml:mg "len"=none):bf P w K mg base dj 1 f fd ["_law_script", "_law_many"] (Jx K):=by
 refine F.ok iW (fun vs H Q E h=>?_) (fun cdv A outer s H vs Q E hr h=>?_)
 ·obtain ⟨a,ns,many,rfl,_⟩:=h
  rfl
 obtain ⟨a,ns,many,rfl,hS,h63,hm0,hm1,k⟩:=h
 refine ⟨_,aD (bU (i:=2) iW.nd rfl (Or.inl rfl) (cP aq))
  (aD (bU (i:=3) iW.nd rfl (Or.inl rfl) au)
  (aD (gU PassesOwn.never rfl (gG (cT nA (pv 0) fY (cR au))) (aO (i:=4) iW.nd rfl (Or.inl rfl))
   (aD (bU (i:=3) iW.nd rfl (Or.inl rfl) (aQ bV (aQ cC (aQ cC (aQ gW (pv 3) au) (aQ bV (pv 4) au)) au) au))
   (aD (bU (i:=5) iW.nd rfl (Or.inl rfl) (aQ Ad (pv 4) (aQ T9 au au)))
   (aD (cJ (aL X8 (pv 5) au (aX _))
     (aJ (cg (iH PySem.F.plainAttrs_list PySem.F.slot_list_append PySem.F.type_list_append cL (pv 2) (aj (aQ bV (pv 4) au) aq)))) bK)
   (aJ (gU PassesOwn.never rfl (eU rfl mr (aj au aq)) (aO (i:=6) iW.nd rfl (Or.inl rfl))
    (aJ (cJ (aL Xa (pv 5) au (aX _))
     (aD (cg (iH PySem.F.plainAttrs_list PySem.F.slot_list_append PySem.F.type_list_append cL (pv 2) (aj (aQ bV (pv 5) au) aq)))
     (aJ (bU (i:=5) iW.nd rfl (Or.inl rfl) (aQ qj (pv 5) au)))) bK))))))))
  (aD (gU PassesOwn.never rfl (eU rfl mr (aj (aQ Ad (pv 1) (aP bY rfl ml PySem.boot_len (aj (pv 2) aq))) aq)) (aO (i:=6) iW.nd rfl (Or.inl rfl))
   (aD (bU (i:=3) iW.nd rfl (Or.inl rfl) (aQ bV (aQ cC (aQ cC (aQ cC (aQ gW (aQ gW (pv 3) (pv 3)) (pv 3)) (aQ gW au (pv 3))) (aQ gW au (pv 6))) au) au))
   (aJ (cg (iH PySem.F.plainAttrs_list PySem.F.slot_list_append PySem.F.type_list_append cL (pv 2) (aj (aQ bV (aQ qj (pv 3) au) au) aq))))))
  (aJ (bL (cT nA (pv 2) fY (cR (pv 1)))))))),?_⟩
 refine ⟨small (by simp),fun l hl=>?_⟩
 have s1:Same H (upd H l (.lst [])):=ao hl _
 refine ⟨_,rfl,_,rfl,a,_,rfl,s1.seq hS,fun p hp=>?_⟩
 have Y0:p≠l:=fun e=>by rw [e,ak] at hp;cases hp
 have hp0:H p=none:=by rw [aC Y0] at hp;exact hp
 refine ⟨p,rfl,⟨_,bD.of ak⟩,qW (K:=K) (a:=p) (xs:=dg (ns.map V.int) none (some 63)) (fun i σ H2=>∃ (fs:List Int) (salt:Int) (c r k:Option V),σ=[some (.ref a),some (.int many),some (.ref l),some (.int salt),c,r,k]/\Same H H2 /\
   H2 p=some (.lst (dg (ns.map V.int) none (some 63)))/\H2 l=some (.lst (fs.map V.int))/\fs.length<=61 * i/\(∀ v∈fs,Dw v)/\0<=salt/\salt<2147483647)
  ⟨[],29,none,none,none,rfl,aV s1 hp0,ak,by rw [aC (Ne.symm Y0),ak];rfl,Nat.zero_le _,(fun v hv=>nomatch hv),by decide,by decide⟩ (fun i σ H2 _ ⟨_,_,_,_,_,_,_,hq,_⟩=>bD.of hq) ?_ ?_⟩
 ·rintro i y σ H2 hi ⟨fs,salt,c,r,kk,rfl,s2,hq,hL,hlen,hok,z0,z1⟩
  have hil:i<(dg (ns.map V.int) none (some 63)).length:=(List.getElem?_eq_some_iff.mp hi).1
  have hcl:=iG (ns.map V.int) none (some 63)
  rw [bR] at hcl
  obtain ⟨cell,rfl⟩:∃ z,y=V.int z:=by
   have hm:y∈dg (ns.map V.int) none (some 63):=qN hi
   have hm2:y∈ns.map V.int:=List.mem_of_mem_drop (List.mem_of_mem_take hm)
   obtain ⟨z,_,rfl⟩:=List.mem_map.mp hm2
   exact ⟨z,rfl⟩
  refine ⟨_,rfl,_,_,rfl,rfl,.inl ⟨by lia,by lia⟩,_,rfl,_,_,rfl,rfl,(by show (0:Int)<2147483629;decide),_,_,rfl,rfl,_,_,rfl,rfl,_,_,rfl,rfl,(by show (0:Int)<2147483647;decide),?_⟩
  refine ⟨_,rfl,_,_,rfl,rfl,⟨by decide,by decide,by decide⟩,_,_,rfl,rfl,?_⟩
  have z0':0<=(salt * 69621+cell % 2147483629+11) % 2147483647:=Int.emod_nonneg _ (by decide)
  have z1':(salt * 69621+cell % 2147483629+11) % 2147483647<2147483647:=Int.emod_lt_of_pos _ (by decide)
  refine ⟨_,rfl,_,_,rfl,rfl,_,rfl,?_⟩
  refine iD (fun c=>?_) (fun c=>?_)
  ·refine ⟨_,rfl,.inl ⟨rfl,_,bD.of hL⟩,_,rfl,_,_,rfl,rfl,(by show (0:Int)<1000003;decide),l,_,_,rfl,rfl,hL,(by rw [bR];exact cj (by lia)),?_⟩
   have hgs:∃ gs:List Int,(upd H2 l (.lst (fs.map V.int++[V.int (cell % 1000003)]))) l=some (.lst (gs.map V.int))/\gs.length<=61 * i+1/\∀ v∈gs,Dw v :=
    ⟨fs++[cell % 1000003],by rw [ak,qC],by rw [iY,List.length_singleton];lia,wK hok ⟨Int.emod_nonneg _ (by decide),Int.emod_lt_of_pos _ (by decide)⟩⟩
   have s3:Same H (upd H2 l (.lst (fs.map V.int++[V.int (cell % 1000003)]))):=aV s2 hl
   have hq3:(upd H2 l (.lst (fs.map V.int++[V.int (cell % 1000003)]))) p=some (.lst (dg (ns.map V.int) none (some 63))):=by rw [aC Y0];exact hq
   generalize upd H2 l (.lst (fs.map V.int++[V.int (cell % 1000003)]))=H3 at hgs s3 hq3
   obtain ⟨gs,Y4,hg1,hg2⟩:=hgs
   refine ⟨60,rfl,by decide,by decide,iZ (lo:=0) (n:=60) (fun j σ H4=>∃ (hs:List Int) (rest kI:Int) (k:Option V),σ=[some (.ref a),some (.int many),some (.ref l),some (.int kI),some (.int cell),some (.int rest),k]/\0<=kI/\kI<2147483647/\Same H H4 /\
    H4 p=some (.lst (dg (ns.map V.int) none (some 63)))/\H4 l=some (.lst (hs.map V.int))/\hs.length<=61 * i+1+j/\(∀ v∈hs,Dw v)) ⟨gs,_,_,kk,rfl,z0',z1',s3,hq3,Y4,hg1,hg2⟩ ?_ ?_⟩
   ·rintro j σ H4 hj ⟨hs,rest,kI,k',rfl,x0,x1,s4,Gp,zW,hh1,Gq⟩
    refine ⟨_,rfl,_,_,rfl,rfl,_,rfl,?_⟩
    refine iD (fun c=>?_) (fun c=>?_)
    ·refine ⟨_,rfl,.inl ⟨rfl,_,bD.of zW⟩,_,rfl,_,_,rfl,rfl,(by show (0:Int)<1009;decide),l,_,_,rfl,rfl,zW,(by rw [bR];exact cj (by lia)),?_⟩
     refine ⟨_,rfl,_,_,rfl,rfl,⟨by decide,by decide⟩,?_⟩
     exact ⟨hs++[rest % 1009],_,_,_,rfl,x0,x1,aV s4 hl,by rw [aC Y0];exact Gp,by rw [ak,qC],by rw [iY,List.length_singleton];lia,
      wK Gq ⟨Int.emod_nonneg _ (by decide),by have:=Int.emod_lt_of_pos rest (show (0:Int)<1009 by decide);lia⟩⟩
    ·exact ⟨hs,_,_,_,rfl,x0,x1,s4,Gp,zW,by lia,Gq⟩
   ·rintro σ H4 ⟨hs,rest,kI,k',rfl,x0,x1,s4,Gp,zW,hh1,Gq⟩
    exact ⟨hs,_,_,_,_,rfl,s4,Gp,zW,by lia,Gq,x0,x1⟩
  ·obtain ⟨gs,Y4,hg1,hg2⟩:∃ gs:List Int,H2 l=some (.lst (gs.map V.int))/\gs.length<=61 * i+1/\∀ v∈gs,Dw v:=⟨fs,hL,by lia,hok⟩
   refine ⟨60,rfl,by decide,by decide,iZ (lo:=0) (n:=60) (fun j σ H4=>∃ (hs:List Int) (rest kI:Int) (k:Option V),σ=[some (.ref a),some (.int many),some (.ref l),some (.int kI),some (.int cell),some (.int rest),k]/\0<=kI/\kI<2147483647/\Same H H4 /\
    H4 p=some (.lst (dg (ns.map V.int) none (some 63)))/\H4 l=some (.lst (hs.map V.int))/\hs.length<=61 * i+1+j/\(∀ v∈hs,Dw v)) ⟨gs,_,_,kk,rfl,z0',z1',s2,hq,Y4,hg1,hg2⟩ ?_ ?_⟩
   ·rintro j σ H4 hj ⟨hs,rest,kI,k',rfl,x0,x1,s4,Gp,zW,hh1,Gq⟩
    refine ⟨_,rfl,_,_,rfl,rfl,_,rfl,?_⟩
    refine iD (fun c=>?_) (fun c=>?_)
    ·refine ⟨_,rfl,.inl ⟨rfl,_,bD.of zW⟩,_,rfl,_,_,rfl,rfl,(by show (0:Int)<1009;decide),l,_,_,rfl,rfl,zW,(by rw [bR];exact cj (by lia)),?_⟩
     refine ⟨_,rfl,_,_,rfl,rfl,⟨by decide,by decide⟩,?_⟩
     exact ⟨hs++[rest % 1009],_,_,_,rfl,x0,x1,aV s4 hl,by rw [aC Y0];exact Gp,by rw [ak,qC],by rw [iY,List.length_singleton];lia,
      wK Gq ⟨Int.emod_nonneg _ (by decide),by have:=Int.emod_lt_of_pos rest (show (0:Int)<1009 by decide);lia⟩⟩
    ·exact ⟨hs,_,_,_,rfl,x0,x1,s4,Gp,zW,by lia,Gq⟩
   ·rintro σ H4 ⟨hs,rest,kI,k',rfl,x0,x1,s4,Gp,zW,hh1,Gq⟩
    exact ⟨hs,_,_,_,_,rfl,s4,Gp,zW,by lia,Gq,x0,x1⟩
 ·rintro σ H2 ⟨fs,salt,c,r,kk,rfl,s2,hq,hL,hlen,hok,z0,z1⟩
  have hcl:=iG (ns.map V.int) none (some 63)
  rw [bR] at hcl
  refine ⟨_,rfl,_,rfl,l,_,rfl,.inl (bD.of hL),_,_,rfl,rfl,many - (fs.length:Int),(by rw [bR]),by lia,by lia,?_⟩
  refine iZ (lo:=0) (n:=(many - (fs.length:Int)).toNat) (fun j σ H4=>∃ (hs:List Int) (salt:Int) (k:Option V),σ=[some (.ref a),some (.int many),some (.ref l),some (.int salt),c,r,k]/\Same H H4 /\
    H4 l=some (.lst (hs.map V.int))/\hs.length=fs.length+j/\(∀ v∈hs,Dw v)/\0<=salt/\salt<2147483647) ⟨fs,salt,kk,rfl,s2,hL,rfl,hok,z0,z1⟩ ?_ ?_
  ·rintro j σ H4 hj ⟨hs,salt,k',rfl,s4,zW,hh1,Gq,y0,y1⟩
   refine ⟨_,rfl,_,rfl,_,_,rfl,rfl,.inl ⟨by lia,by lia⟩,_,rfl,_,_,rfl,rfl,.inr ⟨by lia,by lia⟩,_,rfl,_,_,rfl,rfl,.inl ⟨by decide,by decide⟩,_,_,rfl,rfl,_,rfl,_,_,rfl,rfl,.inl ⟨by decide,by decide⟩,_,_,rfl,rfl,_,_,rfl,rfl,_,_,rfl,rfl,(by show (0:Int)<2147483629;decide),?_⟩
   refine ⟨_,rfl,.inl ⟨rfl,_,bD.of zW⟩,_,rfl,_,_,rfl,rfl,⟨by decide,by decide⟩,_,_,rfl,rfl,(by show (0:Int)<1009;decide),l,_,_,rfl,rfl,zW,(by rw [bR];exact cj (by lia)),?_⟩
   refine ⟨hs++[_],_,_,rfl,aV s4 hl,by rw [ak,qC],by rw [iY,List.length_singleton];lia,wK Gq ⟨Int.emod_nonneg _ (by decide),?_⟩,Int.emod_nonneg _ (by decide),?_⟩
   ·have:=Int.emod_lt_of_pos ((salt * salt * salt+48271 * salt+13 * (0+(j:Int))+5) % 2147483629 / 1013) (show (0:Int)<1009 by decide)
    lia
   ·have:=Int.emod_lt_of_pos (salt * salt * salt+48271 * salt+13 * (0+(j:Int))+5) (show (0:Int)<2147483629 by decide)
    lia
  ·rintro σ H4 ⟨hs,salt,k',rfl,s4,zW,hh1,Gq,y0,y1⟩
   refine ⟨_,rfl,_,rfl,many,rfl,l,_,rfl,bD.of zW,fun q hq'=>?_⟩
   have hcut:dg (hs.map V.int) none (some many)=(hs.take many.toNat).map V.int:=by
    unfold dg
    have e1:HT.cW (hs.map V.int).length 0 none=0:=rfl
    have e2:HT.cW (hs.map V.int).length (hs.map V.int).length (some many)=min many.toNat (hs.map V.int).length:=by
     have em:many=((many.toNat:Nat):Int):=by lia
     generalize many.toNat=mm at em ⊢
     rw [em,HT.fD]
    rw [e1,e2,List.drop_zero,List.map_take,Nat.sub_zero,bR]
    rw [List.take_eq_take_iff,bR]
    lia
   refine k q _ (hs.take many.toNat) (aV s4 (s4.free hq')) (s4.free hq') (by rw [ak,hcut]) ?_ fun v hv=>Gq v (List.mem_of_mem_take hv)
   rw [List.length_take]
   lia
theorem Y5 (a b:Nat):decide ((dO [a]).cps.toList<[b])=decide (a<b):=by
 simp [List.cons_lt_cons_iff]
theorem Y6 (a b:Nat):decide ([b]<(dO [a]).cps.toList)=decide (b<a):=by
 simp [List.cons_lt_cons_iff]
def az:Str:="abcdefghijklmnopqrstuvwxyz"
def low (c:Nat):Bool:=decide (97<=c)&&decide (c<=122)
theorem Ui:∀ c:_root_.Fin 128,(!(Builtin.Str.occurrences az (dO [c.val]) 0 az.length 1).isEmpty)=low c.val:=by decide +kernel
theorem Y7 {c:Nat} (h:c<128):(!(Builtin.Str.occurrences az (dO [c]) 0 az.length 1).isEmpty)=low c:=Ui ⟨c,h⟩
def nameB (l:List Nat):Bool:=l.all low&&(decide (1<=l.length)&&decide (l.length<=8))
structure Ms (K:PySem.W.Frag) (mg:Str->Option Value) (x:Str) (g:Addr) (gd:FuncData) (ps:List Str):Prop where
 b:Binds K gd ps []
 k:PySem.W.keepIn K (.ref g)=true
 m:mg x=some (.ref g)
theorem gk {α:Type}{xs:List α}{i:Int} (h0:0<=i) (h1:i<xs.length):∃ v,tO xs i=some v/\v∈xs:=by
 have hi:i.toNat<xs.length:=by lia
 have e:i=((i.toNat:Nat):Int):=by lia
 refine ⟨xs[i.toNat],?_,List.getElem_mem hi⟩
 have q:tO xs ((i.toNat:Nat):Int)=some xs[i.toNat]:=bH (by simp [hi])
 rw [<- e] at q
 exact q
theorem Bm (cs:List Nat):(Txt.join (Str.ofString "") (cs.map fun c=>dO [c]))=dO cs:=by
 have e:(Str.ofString "").cps=#[]:=by decide +kernel
 have fo:∀ (ds:List Nat) (acc:Array Nat),(ds.map fun c=>dO [c]).foldl (fun acc p=>acc++(Str.ofString "").cps++p.cps) acc=acc++ds.toArray:=by
  intro ds
  induction ds with
  | nil=>intro acc;simp
  | cons d r ih =>
   intro acc
   rw [List.map_cons,List.foldl_cons,ih,e]
   simp
 show Builtin.Str.glued (Str.ofString "") (cs.map fun c=>dO [c])=_
 cases cs with
 | nil=>rfl
 | cons c r =>
  unfold Builtin.Str.glued
  rw [List.map_cons,List.drop_one,List.tail_cons,fo,List.headD_cons]
  simp [dO]
theorem Og {cs:List Nat} (h:cs.length<=1000):JoinOk (Str.ofString "") (cs.map fun c=>dO [c])=true:=by
 have e:(Str.ofString "").length=0:=by decide +kernel
 have fo:∀ (ds:List Nat) (n:Nat),(ds.map fun c=>dO [c]).foldl (fun a p=>a+p.length+(Str.ofString "").length) n=n+ds.length:=by
  intro ds
  induction ds with
  | nil=>intro n;simp
  | cons d r ih =>
   intro n
   rw [List.map_cons,List.foldl_cons,ih,e,fZ]
   simp;lia
 unfold JoinOk
 rw [List.foldl_toArray',fo]
 ·unfold Builtin.Str.tooLong
  have:=small (n:=cs.length) (by lia)
  simp;lia
 ·rfl
theorem app_list (x y:Str):(x++y).cps.toList=x.cps.toList++y.cps.toList:=by
 show (x.cps++y.cps).toList=_
 simp
theorem Oh (x y:Str):(x++y).length=x.length+y.length:=by
 have e:∀ z:Str,z.length=z.cps.toList.length:=fun z=>by simp [Str.length]
 rw [e,e,e,app_list,iY]
theorem je {fs:List Int} (h:∀ v∈fs,Dw v) {i:Int} (h0:0<=i) (h1:i<fs.length):∃ v:Int,tO (fs.map V.int) i=some (.int v)/\Dw v:=by
 obtain ⟨x,e,m⟩:=gk (xs:=fs.map V.int) h0 (by rw [bR];exact h1)
 obtain ⟨v,hv,rfl⟩:=List.mem_map.mp m
 exact ⟨v,e,h v hv⟩
def Jy:Sp:=fun vs H Q _=>∃ z:Str,vs=[.str z]/\z.length<=1000/\Q (.bl (nameB z.cps.toList)) H
theorem Jz:aY ["text", "sign"] ["text"] (aA uP):=⟨rfl,rfl,rfl,by decide +kernel,rfl,by decide +kernel,by decide +kernel⟩
theorem Oi (F:iC K "is_name" "is_name" uP f fd) {tL:Tok} (mL:mg "LONGEST_NAME"=some (.int 8 tL)) (ml:mg "len"=none):bf P w K mg base dj 1 f fd ["text"] Jy:=by
 refine F.ok Jz (fun vs H Q E h=>?_) (fun cdv A outer s H vs Q E hr h=>?_)
 ·obtain ⟨z,rfl,_⟩:=h
  rfl
 obtain ⟨z,rfl,hz,k⟩:=h
 refine ⟨_,aD (gU PassesOwn.never rfl (IK (pv 0)) (aO (i:=1) Jz.nd rfl (Or.inl rfl))
   (aJ (cJ (uf (aL Fe (pv 1) aG (aX _)) (nZ (aL Fw (pv 1) aG (aX _)))).pt (aJ (bL dX)) bK)))
  (aJ (bL (qX pD pD au (aP gH rfl ml PySem.boot_len (aj (pv 0) aq)) (dJ rfl mL ⟨_,rfl⟩ (v:=.int 8))))),?_⟩
 refine ⟨_,rfl,z,rfl,Ny (x:=z) (fun i σ H2=>(∃ v,σ=[some (.str z),v])/\H2=H/\(z.cps.toList.take i).all low=true) ⟨⟨none,rfl⟩,rfl,by simp⟩ ?_ ?_⟩
 ·rintro i c σ H2 hc ⟨⟨v,rfl⟩,rfl,ha⟩
  have Ra:z.cps.toList.all low=true->low c=true:=fun h=>List.all_eq_true.mp h c (qN hc)
  have e1:decide ((dO [c]).cps.toList<(("a" : Str)).cps.toList)=decide (c<97):=Y5 c 97
  have e2:decide ((("z" : Str)).cps.toList<(dO [c]).cps.toList)=decide (122<c):=Y6 c 122
  have no:low c=false->nameB z.cps.toList=false:=fun h=>by
   unfold nameB
   cases q:z.cps.toList.all low with
   | false=>rfl
   | true=>rw [Ra q] at h;cases h
  refine ⟨_,rfl,_,_,rfl,rfl,_,rfl,?_⟩
  rw [e1]
  refine iD (fun h=>?_) (fun h=>?_)
  ·have h1:=xX h
   refine bO ?_
   have:low c=false:=by simp [low];lia
   show Q (.bl false) H2
   rw [<- no this];exact k
  ·have h1:=of_decide_eq_false (Bool.eq_false_iff.mpr h)
   refine ⟨_,rfl,_,_,rfl,rfl,_,rfl,?_⟩
   rw [e2]
   refine iD (fun h=>?_) (fun h=>?_)
   ·have h1:=xX h
    have:low c=false:=by simp [low];lia
    show Q (.bl false) H2
    rw [<- no this];exact k
   ·have h2:=of_decide_eq_false (Bool.eq_false_iff.mpr h)
    refine ⟨⟨_,rfl⟩,rfl,?_⟩
    rw [List.take_add_one,hc,List.all_append,ha]
    simp [low];lia
 ·rintro σ H2 ⟨⟨v,rfl⟩,rfl,ha⟩
  rw [List.take_length] at ha
  refine ⟨_,rfl,z,rfl,small (by lia),_,_,rfl,rfl,_,rfl,?_⟩
  have hl:z.length=z.cps.toList.length:=by simp [Str.length]
  refine iD (fun h=>?_) (fun h=>?_)
  ·have h1:=xX h
   refine ⟨_,_,rfl,rfl,?_⟩
   have e:nameB z.cps.toList=decide ((z.length:Int)<=8):=by
    unfold nameB
    rw [ha,hl,decide_eq_true (show 1<=z.cps.toList.length by lia),Bool.true_and,Bool.true_and]
    exact decide_eq_decide.mpr (by lia)
   show Q (.bl (decide ((z.length:Int)<=8))) H2
   rw [<- e];exact k
  ·have h1:=of_decide_eq_false (Bool.eq_false_iff.mpr h)
   have e:nameB z.cps.toList=false:=by
    unfold nameB
    rw [decide_eq_false (show ¬ 1<=z.cps.toList.length by lia)]
    simp
   show Q (.bl false) H2
   rw [<- e];exact k
def cU.code:cU->Nat
 | .d=>100 | .n=>110 | .c=>99 | .a=>97 | .s=>115 | .b=>115 | .e=>115
def cU.word:cU->Str
 | .d=>"day" | .n=>"name" | .c=>"name or crown" | .a=>"acres" | .s=>"service" | .b=>"bears" | .e=>"entry"
def cU.num:cU->Bool
 | .d=>true | .n=>false | .c=>false | .a=>true | .s=>true | .b=>true | .e=>true
def cU.row:cU->Bool
 | .b=>false | .e=>false | _=>true
def forms:List (Str×List cU):=[("heir",[.d,.n,.n]),("grant",[.d,.c,.n,.n,.a,.s]),("part",[.d,.n,.n,.n,.a]),("convey",[.d,.n,.n]),("liege",[.d,.n,.c]),("surrender",[.d,.n]),("death",[.d,.n])]
def form (k:Str):Option (List cU):=forms.lookup k
def qD (l:List cU):Str:=dO (l.map cU.code)
def isI:V->Bool
 | .int _=>true
 | _=>false
def MF (B:Nat) (v:V):Prop:=(∃ n,v=.int n)\/∃ z:Str,v=.str z/\z.length<=B/\∀ c∈z.cps.toList,c<128
def jf:cU->V->Bool
 | .d,.int n=>decide (0<=n)&&decide (n<=9999)
 | .s,.int n=>decide (0<=n)&&decide (n<=9999)
 | .a,.int n=>decide (1<=n)&&decide (n<=9999)
 | .b,.int n=>decide (0<=n)&&decide (n<=99)
 | .e,.int n=>decide (1<=n)&&decide (n<=999999)
 | .n,.str z=>nameB z.cps.toList
 | .c,.str z=>decide (z="")||nameB z.cps.toList
 | _,_=>false
def pP (l:List cU) (rest:List V):Prop:=∀ (i:Nat) (s:cU) (v:V),l[i]?=some s->rest[i]?=some v->isI v=s.num
def two (k:Str):Bool:=decide (k="heir")||decide (k="liege")
def mU (p:cU×V):Bool:=jf p.1 p.2
def pQ (k:Str) (rest:List V):Bool:=match form k with
 | none=>false
 | some l=>decide (rest.length=l.length)&&(((l.zip rest).all mU)&&!(two k&&decide (rest[1]?=rest[2]?)))
def wm:List V->Bool
 | .str k::rest=>pQ k rest
 | _=>false
structure Row (B:Nat) (k:Str) (rest:List V):Prop where
 len:rest.length<=9
 ok:∀ v∈rest,MF B v
 kept:∀ l,form k=some l->pP l rest
def JB (xs:List V) (_:Hp):Prop:=∃ k rest,xs=.str k::rest/\Row 1000 k rest
theorem dG {k:Str}{l:List cU} (h:form k=some l):(k,l)∈forms:=by
 unfold form at h
 revert h
 generalize forms=fs
 induction fs with
 | nil=>intro h;cases h
 | cons p r ih =>
  obtain ⟨k',l'⟩:=p
  intro h
  rw [List.lookup_cons] at h
  by_cases e:k=k'
  ·subst e
   simp at h
   subst h
   exact List.mem_cons_self
  ·have e':(k==k')=false:=by simpa using e
   rw [e'] at h
   exact mD _ (ih h)
theorem nP {k:Str}{l:List cU} (h:form k=some l):2<=l.length/\l.length<=6:=(show ∀ p∈forms,2<=p.2.length/\p.2.length<=6 by decide) _ (dG h)
theorem yV {k:Str}{l:List cU} (h:form k=some l) {s:cU} (e:l[i]?=some s):s.row=true:=by
 have h0:∀ p∈forms,p.2.all cU.row=true:=by decide
 exact List.all_eq_true.mp (h0 _ (dG h)) s (qN e)
def wL:Option cU->Bool
 | some s=>!s.num
 | none=>true
theorem sG {k:Str}{l:List cU} (h:form k=some l) (h2:two k=true):l.length=3/\(∀ s,l[1]?=some s->s.num=false)/\∀ s,l[2]?=some s->s.num=false:=by
 have h0:(k,l)∈forms:=dG h
 have:∀ p∈forms,two p.1=true->p.2.length=3/\wL p.2[1]?=true/\wL p.2[2]?=true:=by decide
 obtain ⟨a,b,c⟩:=this _ h0 h2
 refine ⟨a,fun s e=>?_,fun s e=>?_⟩
 ·simp only at b;rw [e] at b;simpa [wL] using b
 ·simp only at c;rw [e] at c;simpa [wL] using c
theorem Y8 (v:V) (rest:List V):dg (v::rest) (some 1) none=rest:=by
 unfold dg
 have e1:HT.cW (v::rest).length 0 (some 1)=1:=by
  rw [show (1:Int)=((1:Nat):Int) by rfl,HT.fD]
  simp
 have e2:HT.cW (v::rest).length (v::rest).length none=(v::rest).length:=rfl
 rw [e1,e2,List.drop_one,List.tail_cons,List.take_of_length_le (by simp)]
theorem nw1 (v:V) (rest:List V) :¬ (HT.cW (v::rest).length 0 (some 1)=0/\HT.cW (v::rest).length (v::rest).length hi=(v::rest).length):=by
 have e1:HT.cW (v::rest).length 0 (some 1)=1:=by
  rw [show (1:Int)=((1:Nat):Int) by rfl,HT.fD]
  simp
 rw [e1]
 exact fun h=>absurd h.1 (by decide)
def Gr (K:PySem.W.Frag) (a:Addr) (xs:List V):Prop:=∃ (o:Obj) (its:Array Value) (n:Nat),K.lookup a=some o/\o.cls=.type "tuple"/\o.data=.seq its n/\its.size<=sizeLine/\Vals xs its.toList
theorem Gr.sq (h:Gr K a xs) (H:Hp):bG K H a xs:=.inr h
def Y9:V->Bool
 | .non | .bl _ | .int _ | .str _=>true
 | _=>false
def MJ (H:Hp):Nat->V->V->Prop
 | 0,_,_=>False
 | n+1,x,y=>(x=y/\Y9 x=true)\/(∃ p q xs ys,x=.ref p/\y=.ref q/\H p=some (.tup xs)/\H q=some (.tup ys)/\xs.length=ys.length/\xs.length<=1000/\∀ (i:Nat) (x y:V),xs[i]?=some x->ys[i]?=some y->MJ H n x y) \/
  (∃ p q xs ys,x=.ref p/\y=.ref q/\H p=some (.lst xs)/\H q=some (.lst ys)/\xs.length=ys.length/\xs.length<=1000/\∀ (i:Nat) (x y:V),xs[i]?=some x->ys[i]?=some y->MJ H n x y)
theorem MJ.same (s:Same H H'):∀ {n:Nat}{x y:V},MJ H n x y->MJ H' n x y
 | 0,_,_,h=>h
 | n+1,x,y,h=>by
  rcases h with h | ⟨p,q,xs,ys,e1,e2,e3,e4,e5,e6,e7⟩ | ⟨p,q,xs,ys,e1,e2,e3,e4,e5,e6,e7⟩
  ·exact .inl h
  ·exact .inr (.inl ⟨p,q,xs,ys,e1,e2,s _ _ e3,s _ _ e4,e5,e6,fun i x y h1 h2=>(e7 i x y h1 h2).same s⟩)
  ·exact .inr (.inr ⟨p,q,xs,ys,e1,e2,s _ _ e3,s _ _ e4,e5,e6,fun i x y h1 h2=>(e7 i x y h1 h2).same s⟩)
def sH (n:Nat):Sp:=fun vs H Q _=>∃ x y,vs=[x,y]/\MJ H n x y/\∀ H',Same H H'->Q (.bl true) H'
structure MgS (mg:Str->Option Value):Prop where
 MK:mg "isinstance"=none
 bool:mg "bool"=none
 int:mg "int"=none
 str:mg "str"=none
 list:mg "list"=none
 tuple:mg "tuple"=none
 len:mg "len"=none
 all:mg "all"=none
 zip:mg "zip"=none
theorem Uj:aY ["_law_found", "_law_due"] ["_law_found", "_law_due"] (aA pL):=⟨rfl,rfl,rfl,by decide +kernel,rfl,by decide +kernel,by decide +kernel⟩
def scS1:Scope:={ kind:=.function,names:=[(".0",.local),("_law_one",.local),("_law_other",.local),("_law_same",.globalImplicit)],isGenerator:=false,isCoroutine:=false }
theorem Yb:dF ["_law_found", "_law_due"] (aA pL) scS1 ["_law_one", "_law_other"] [] []:=⟨rfl,by decide +kernel,by decide +kernel,by decide +kernel,rfl,by decide +kernel⟩
theorem Oj:((["_law_one", "_law_other"]:List Str)++([]:List Str)).Nodup:=by decide +kernel
theorem all_true {bs:List Bool} (h:∀ b∈bs,b=true):bs.all id=true:=List.all_eq_true.mpr fun b hb=>h b hb
theorem JC (n:Nat):List.replicate n (V.bl true)=(List.replicate n true).map V.bl:=by rw [List.map_replicate]
theorem JD (F:iC K "_law_same" "_law_same" pL f fd) (m:MgS mg) (M:Ms K mg "_law_same" f fd ["_law_found", "_law_due"]) (G:bf P w K mg base dj n f fd ["_law_found", "_law_due"] (sH n)):bf P w K mg base dj (n+1) f fd ["_law_found", "_law_due"] (sH (n+1)):=by
 refine F.ok Uj (fun vs H Q E h=>?_) (fun cdv A outer s H vs Q E hr h=>?_)
 ·obtain ⟨x,y,rfl,_⟩:=h
  rfl
 obtain ⟨x,y,rfl,heq,k⟩:=h
 refine ⟨_,aD (cJ (zZ (zY (pv 1))) (aJ (bL (SN (zY (pv 0))))) bK)
  (aD (cJ (eG (aP (cB (K:=K)) rfl m.MK bw (aj (pv 1) (aj (fW rfl m.bool vY rfl (v:=.ty "bool")) aq))))
   (aJ (bL (jm (aP (cB (K:=K)) rfl m.MK bw (aj (pv 0) (aj (fW rfl m.bool vY rfl (v:=.ty "bool")) aq))) (jL (fu bZ (pv 0) (pv 1) (aX _)))))) bK)
  (aD (cJ (eG (aP (cB (K:=K)) rfl m.MK bw (aj (pv 1) (aj (fW rfl m.tuple rF rfl (v:=.ty "tuple")) aq))))
   (aD (cJ (PW.pt (uf (fj (eG (aP (cB (K:=K)) rfl m.MK bw (aj (pv 0) (aj (fW rfl m.tuple rF rfl (v:=.ty "tuple")) aq))))) (nZ (aL lX (aP (lu (K:=K)) rfl m.len PySem.boot_len (aj (pv 0) aq)) (aP (lu (K:=K)) rfl m.len PySem.boot_len (aj (pv 1) aq)) (aX _))))) (aJ (bL dX)) bK)
   (aJ (bL (aP (lA (K:=K) rfl hr.hd) rfl m.all vX (aj (fG rfl Yb (yH rfl m.zip (aj (pv 0) (aj (pv 1) aq)))
    (fun s H fp C=>⟨wk (K:=K) (n:=2) rfl (bA (aO (i:=0) Oj rfl (Or.inl rfl)) (bA (aO (i:=1) Oj rfl (Or.inl rfl)) cX)),dZ,bF G hr rfl M.m M.k M.b .nil bW (aj (pv 0) (aj (pv 1) aq))⟩)) aq))))) bK)
  (aD (cJ (eG (aP (cB (K:=K)) rfl m.MK bw (aj (pv 1) (aj (fW rfl m.list gj rfl (v:=.ty "list")) aq))))
   (aD (cJ (PW.pt (uf (fj (eG (aP (cB (K:=K)) rfl m.MK bw (aj (pv 0) (aj (fW rfl m.list gj rfl (v:=.ty "list")) aq))))) (nZ (aL lX (aP (lu (K:=K)) rfl m.len PySem.boot_len (aj (pv 0) aq)) (aP (lu (K:=K)) rfl m.len PySem.boot_len (aj (pv 1) aq)) (aX _))))) (aJ (bL dX)) bK)
   (aJ (bL (aP (lA (K:=K) rfl hr.hd) rfl m.all vX (aj (fG rfl Yb (yI rfl m.zip (aj (pv 0) (aj (pv 1) aq)))
    (fun s H fp C=>⟨wk (K:=K) (n:=2) rfl (bA (aO (i:=0) Oj rfl (Or.inl rfl)) (bA (aO (i:=1) Oj rfl (Or.inl rfl)) cX)),dZ,bF G hr rfl M.m M.k M.b .nil bW (aj (pv 0) (aj (pv 1) aq))⟩)) aq))))) bK)
  (aD (cJ (eG (aP (cB (K:=K)) rfl m.MK bw (aj (pv 1) (aj (fW rfl m.str IW rfl (v:=.ty "str")) aq))))
   (aJ (bL (jm (aP (cB (K:=K)) rfl m.MK bw (aj (pv 0) (aj (fW rfl m.str IW rfl (v:=.ty "str")) aq))) (jL (fu bZ (pv 0) (pv 1) (aX _)))))) bK)
  (aJ (bL (jm (aP (cB (K:=K)) rfl m.MK bw (aj (pv 0) (aj (fW rfl m.int vZ rfl (v:=.ty "int")) aq)))
   (jm (vM (aP (cB (K:=K)) rfl m.MK bw (aj (pv 0) (aj (fW rfl m.bool vY rfl (v:=.ty "bool")) aq)))) (jL (fu bZ (pv 0) (pv 1) (aX _))))))))))),?_⟩
 rcases heq with ⟨rfl,hsc⟩ | ⟨p,q,xs,ys,rfl,rfl,hp,hq,hl,hz,hi⟩ | ⟨p,q,xs,ys,rfl,rfl,hp,hq,hl,hz,hi⟩
 ·cases x with
  | non=>exact ⟨_,rfl,_,rfl,bO ⟨_,rfl,k _ (Same.refl _)⟩⟩
  | bl b =>
   refine ⟨_,rfl,_,rfl,aK ?_⟩
   refine ⟨_,rfl,_,_,_,true,rfl,.bl b,rfl,_,rfl,bO ?_⟩
   refine ⟨_,rfl,_,_,_,true,rfl,.bl b,rfl,_,rfl,bO ?_⟩
   refine ⟨_,rfl,_,rfl,rfl,?_⟩
   show Q (.bl (decide (V.bl b=V.bl b))) H
   rw [decide_eq_true rfl];exact k _ (Same.refl _)
  | int i =>
   refine ⟨_,rfl,_,rfl,aK ?_⟩
   refine ⟨_,rfl,_,_,_,false,rfl,.int i,rfl,_,rfl,aK ?_⟩
   refine ⟨_,rfl,_,_,_,false,rfl,.int i,rfl,_,rfl,aK ?_⟩
   refine ⟨_,rfl,_,_,_,false,rfl,.int i,rfl,_,rfl,aK ?_⟩
   refine ⟨_,rfl,_,_,_,false,rfl,.int i,rfl,_,rfl,aK ?_⟩
   refine ⟨_,rfl,_,_,_,true,rfl,.int i,rfl,_,rfl,bO ?_⟩
   refine ⟨_,rfl,_,_,_,false,rfl,.int i,rfl,_,rfl,_,rfl,bO ?_⟩
   refine ⟨_,rfl,_,rfl,rfl,?_⟩
   show Q (.bl (decide (V.int i=V.int i))) H
   rw [decide_eq_true rfl];exact k _ (Same.refl _)
  | str z =>
   refine ⟨_,rfl,_,rfl,aK ?_⟩
   refine ⟨_,rfl,_,_,_,false,rfl,.str z,rfl,_,rfl,aK ?_⟩
   refine ⟨_,rfl,_,_,_,false,rfl,.str z,rfl,_,rfl,aK ?_⟩
   refine ⟨_,rfl,_,_,_,false,rfl,.str z,rfl,_,rfl,aK ?_⟩
   refine ⟨_,rfl,_,_,_,true,rfl,.str z,rfl,_,rfl,bO ?_⟩
   refine ⟨_,rfl,_,_,_,true,rfl,.str z,rfl,_,rfl,bO ?_⟩
   refine ⟨_,rfl,_,rfl,rfl,?_⟩
   show Q (.bl (decide (V.str z=V.str z))) H
   rw [decide_eq_true rfl];exact k _ (Same.refl _)
  | xY _=>cases hsc
  | flt _=>cases hsc
  | ref _=>cases hsc
  | ty _=>cases hsc
 ·refine ⟨_,rfl,_,rfl,aK ?_⟩
  refine ⟨_,rfl,_,_,_,false,rfl,.tup hq,rfl,_,rfl,aK ?_⟩
  refine ⟨_,rfl,_,_,_,true,rfl,.tup hq,rfl,_,rfl,bO ?_⟩
  refine ⟨_,rfl,_,_,_,true,rfl,.tup hp,rfl,_,rfl,aK ?_⟩
  refine ⟨_,rfl,p,xs,rfl,.inr (bG.of hp),_,rfl,q,ys,rfl,.inr (bG.of hq),rfl,_,rfl,?_⟩
  refine uz (by rw [hl]) ?_
  refine ⟨_,rfl,_,rfl,p,q,rfl,⟨_,bG.of hp⟩,⟨_,bG.of hq⟩,fun D hD=>?_⟩
  refine rJ (n:=xs.length) (fx:=fun i=>xs.getD i .non) (fy:=fun i=>ys.getD i .non) (fun i zs H2=>zs=List.replicate i (V.bl true)/\Same H H2/\H2 D=some (.lst zs)) (fun i zs H2 ⟨_,s2,_⟩=>pH (bG.of (s2 _ _ hp)) (bG.of (s2 _ _ hq)) hl) ⟨rfl,ao hD _,ak⟩ (fun i zs H2 h=>h.2.2) ?_ ?_
  ·rintro i zs H2 r Yc ⟨rfl,s2,hD2⟩ hr2
   have Yd:D≠r:=aN hD2 hr2
   have e1:xs[i]?=some (xs.getD i .non):=by rw [iz,dI Yc];rfl
   have e2:ys[i]?=some (ys.getD i .non):=by rw [iz,dI (by lia)];rfl
   have s3:Same H (upd H2 r (.tup [xs.getD i .non,ys.getD i .non])):=aV s2 (s2.free hr2)
   refine ⟨r,_,rfl,bG.of ak,rfl,_,_,rfl,_,_,rfl,rfl,Kp.set rfl (Kp.set rfl (Kp.refl _)),?_⟩
   refine dY ?_
   refine ⟨_,rfl,_,rfl,_,_,rfl,(hi i _ _ e1 e2).same s3,fun H4 s4=>⟨s4 _ _ (by rw [aC Yd];exact hD2),?_,?_,aV (s3.trans s4) hD,ak⟩⟩
   ·rw [List.length_replicate];exact cj (by lia)
   ·rw [List.replicate_succ']
  ·rintro zs H2 ⟨rfl,s2,hD2⟩
   refine ⟨D,List.replicate xs.length true,rfl,bD.of (by rw [<- JC];exact hD2),?_⟩
   rw [all_true fun b hb=>List.eq_of_mem_replicate hb]
   exact k _ s2
 ·refine ⟨_,rfl,_,rfl,aK ?_⟩
  refine ⟨_,rfl,_,_,_,false,rfl,.lst hq,rfl,_,rfl,aK ?_⟩
  refine ⟨_,rfl,_,_,_,false,rfl,.lst hq,rfl,_,rfl,aK ?_⟩
  refine ⟨_,rfl,_,_,_,true,rfl,.lst hq,rfl,_,rfl,bO ?_⟩
  refine ⟨_,rfl,_,_,_,true,rfl,.lst hp,rfl,_,rfl,aK ?_⟩
  refine ⟨_,rfl,p,xs,rfl,.inl (bD.of hp),_,rfl,q,ys,rfl,.inl (bD.of hq),rfl,_,rfl,?_⟩
  refine uz (by rw [hl]) ?_
  refine ⟨_,rfl,_,rfl,p,q,rfl,⟨_,bD.of hp⟩,⟨_,bD.of hq⟩,fun D hD=>?_⟩
  refine rJ (n:=xs.length) (fx:=fun i=>xs.getD i .non) (fy:=fun i=>ys.getD i .non) (fun i zs H2=>zs=List.replicate i (V.bl true)/\Same H H2/\H2 D=some (.lst zs)) (fun i zs H2 ⟨_,s2,_⟩=>pI (bD.of (s2 _ _ hp)) (bD.of (s2 _ _ hq)) hl) ⟨rfl,ao hD _,ak⟩ (fun i zs H2 h=>h.2.2) ?_ ?_
  ·rintro i zs H2 r Yc ⟨rfl,s2,hD2⟩ hr2
   have Yd:D≠r:=aN hD2 hr2
   have e1:xs[i]?=some (xs.getD i .non):=by rw [iz,dI Yc];rfl
   have e2:ys[i]?=some (ys.getD i .non):=by rw [iz,dI (by lia)];rfl
   have s3:Same H (upd H2 r (.tup [xs.getD i .non,ys.getD i .non])):=aV s2 (s2.free hr2)
   refine ⟨r,_,rfl,bG.of ak,rfl,_,_,rfl,_,_,rfl,rfl,Kp.set rfl (Kp.set rfl (Kp.refl _)),?_⟩
   refine dY ?_
   refine ⟨_,rfl,_,rfl,_,_,rfl,(hi i _ _ e1 e2).same s3,fun H4 s4=>⟨s4 _ _ (by rw [aC Yd];exact hD2),?_,?_,aV (s3.trans s4) hD,ak⟩⟩
   ·rw [List.length_replicate];exact cj (by lia)
   ·rw [List.replicate_succ']
  ·rintro zs H2 ⟨rfl,s2,hD2⟩
   refine ⟨D,List.replicate xs.length true,rfl,bD.of (by rw [<- JC];exact hD2),?_⟩
   rw [all_true fun b hb=>List.eq_of_mem_replicate hb]
   exact k _ s2
theorem Dy (F:iC K "_law_same" "_law_same" pL f fd) (m:MgS mg) (M:Ms K mg "_law_same" f fd ["_law_found", "_law_due"]):∀ n:Nat,bf P w K mg base dj n f fd ["_law_found", "_law_due"] (sH n)
 | 0=>⟨fun vs H Q E ⟨x,y,_,h,_⟩=>h.elim,fun A outer s H args us vs Q E _ _ _ _ ⟨x,y,_,h,_⟩=>h.elim⟩
 | n+1=>JD F m M (Dy F m M n)
structure Uk (K:PySem.W.Frag) (P:Params) (mg:Str->Option Value):Prop where
 bounds:∃ a b1 b2 b3 b4 b5 b6 b7,mg "BOUNDS"=some (.ref a)/\KD K P a [("day",.ref b1),("acres",.ref b2),("service",.ref b3),("bears",.ref b4),("edge",.ref b5),("number",.ref b6),("entry",.ref b7)]/\Gr K b1 [.int 0,.int 9999]/\Gr K b2 [.int 1,.int 9999]/\Gr K b3 [.int 0,.int 9999]/\Gr K b4 [.int 0,.int 99]/\Gr K b7 [.int 1,.int 999999]
 forms:∃ a kvs,mg "FORMS"=some (.ref a)/\KD K P a kvs/\∀ k,(form k=none->kvs.lookup k=none)/\∀ l,form k=some l->∃ b,kvs.lookup k=some (.ref b)/\Gr K b (l.map fun s=>.str s.word)
 two:∃ a,mg "OF_TWO_MEN"=some (.ref a)/\Gr K a [.str "heir",.str "liege"]
 crown:∃ t,mg "CROWN"=some (.str "" t)
def wM:Sp:=fun vs H Q _=>∃ (s:cU) (v:V),vs=[.str s.word,v]/\isI v=s.num/\MF 1000 v/\Q (.bl (jf s v)) H
theorem Bo:aY ["sort", "piece", "least", "greatest"] ["sort", "piece"] (aA uR):=⟨rfl,rfl,rfl,by decide +kernel,rfl,by decide +kernel,by decide +kernel⟩
theorem Ol (F:iC K "fits" "fits" uR f fd) (mo:Uk K w.params mg)  (G1:bf P w K mg base dj 1 g1 d1 ["text"] Jy) (M1:Ms K mg "is_name" g1 d1 ["text"]):bf P w K mg base dj 2 f fd ["sort", "piece"] wM:=by
 obtain ⟨aB,b1,b2,b3,b4,b5,b6,b7,mB,kB,t1,t2,t3,t4,t7⟩:=mo.bounds
 obtain ⟨tc,mC⟩:=mo.crown
 refine F.ok Bo (fun vs H Q E h=>?_) (fun cdv A outer s H vs Q E hr h=>?_)
 ·obtain ⟨s,v,rfl,_⟩:=h
  rfl
 obtain ⟨s,v,rfl,hi,hv,k⟩:=h
 refine ⟨_,aD (cJ (aL O8 (pv 0) (dJ rfl mB rfl (v:=.ref aB)) (by with_unfolding_all rfl))
   (aD (iR (aM Rj (dJ rfl mB rfl (v:=.ref aB)) (pv 0) (fun _ _=>rfl)) (fQ rfl (bA (aO (i:=2) Bo.nd rfl (Or.inl rfl)) (bA (aO (i:=3) Bo.nd rfl (Or.inl rfl)) cX))))
   (aJ (bL (qX pD pD (pv 2) (pv 1) (pv 3))))) bK)
  (aD (cJ (PW.pt (jl (aL bZ (pv 0) aG (aX _)) (gD (aL bZ (pv 1) (dJ rfl mC ⟨_,rfl⟩ (v:=.str "")) (aX _))))) (aJ (bL dX)) bK)
  (aJ (bL (bF G1 hr rfl M1.m M1.k M1.b .nil bW (aj (pv 1) aq))))),?_⟩
 refine ⟨_,rfl,_,aB,_,rfl,rfl,kB,_,rfl,?_⟩
 have hB:s.num=true->∃ b lo hi,([("day",V.ref b1),("acres",V.ref b2),("service",V.ref b3),("bears",V.ref b4),("edge",V.ref b5),("number",V.ref b6),("entry",V.ref b7)]:List (Str×V)).lookup s.word=some (.ref b)/\Gr K b [.int lo,.int hi]/\∀ n,jf s (.int n)=(decide (lo<=n)&&decide (n<=hi)):=by
  cases s with
  | d=>exact fun _=>⟨b1,0,9999,rfl,t1,fun n=>rfl⟩
  | a=>exact fun _=>⟨b2,1,9999,rfl,t2,fun n=>rfl⟩
  | s=>exact fun _=>⟨b3,0,9999,rfl,t3,fun n=>rfl⟩
  | b=>exact fun _=>⟨b4,0,99,rfl,t4,fun n=>rfl⟩
  | e=>exact fun _=>⟨b7,1,999999,rfl,t7,fun n=>rfl⟩
  | n=>exact fun h=>nomatch h
  | c=>exact fun h=>nomatch h
 have hN:s.num=false->([("day",V.ref b1),("acres",V.ref b2),("service",V.ref b3),("bears",V.ref b4),("edge",V.ref b5),("number",V.ref b6),("entry",V.ref b7)]:List (Str×V)).lookup s.word=none:=by
  cases s <;> first | exact fun _=>rfl | (intro h;cases h)
 cases hn:s.num with
 | true =>
  obtain ⟨b,lo,hi',hb,hk,hf⟩:=hB hn
  obtain ⟨n,rfl⟩:∃ n,v=.int n:=by
   rw [hn] at hi
   cases v <;> first | exact ⟨_,rfl⟩ | cases hi
  have hf':=hf n
  rw [hb]
  refine bO ?_
  refine ⟨_,rfl,aB,_,_,_,rfl,rfl,kB,hb,?_⟩
  refine ⟨b,_,rfl,hk.sq _,rfl,_,_,rfl,_,_,rfl,rfl,?_⟩
  refine ⟨_,rfl,_,rfl,_,_,rfl,rfl,_,rfl,?_⟩
  refine iD (fun h1=>?_) (fun h1=>?_)
  ·refine ⟨_,rfl,_,_,rfl,rfl,?_⟩
   rw [h1,Bool.true_and] at hf'
   rw [hf'] at k;exact k
  ·rw [Bool.eq_false_iff.mpr h1,Bool.false_and] at hf'
   rw [hf'] at k;exact k
 | false =>
  rw [hN hn]
  obtain ⟨z,rfl,hl,hc⟩:∃ z:Str,v=.str z/\z.length<=1000/\∀ c∈z.cps.toList,c<128:=by
   rcases hv with ⟨n,rfl⟩ | h
   ·rw [hn] at hi;cases hi
   ·exact h
  refine aK ?_
  cases s with
  | d=>cases hn
  | a=>cases hn
  | s=>cases hn
  | b=>cases hn
  | e=>cases hn
  | n =>
   refine ⟨_,rfl,rfl,_,rfl,aK (aK ?_)⟩
   exact ⟨_,rfl,z,rfl,hl,k⟩
  | c =>
   refine ⟨_,rfl,rfl,_,rfl,bO ?_⟩
   refine ⟨_,rfl,rfl,_,rfl,?_⟩
   have e0:jf .c (.str z)=(decide (z="")||nameB z.cps.toList):=rfl
   rw [e0] at k
   refine iD (fun h1=>?_) (fun h1=>?_)
   ·have h2:z="":=by
     have:=xX h1
     injection this
    rw [decide_eq_true h2,Bool.true_or] at k
    exact k
   ·have h2:¬ z="":=fun e=>h1 (by rw [e];rfl)
    rw [decide_eq_false h2,Bool.false_or] at k
    exact ⟨_,rfl,z,rfl,hl,k⟩
def wN (C:Addr) (good:List V->Hp->Prop) (wm:List V->Bool) (K:PySem.W.Frag):Sp:=fun vs H Q E=>∃ a xs,vs=[.ref a]/\bG K H a xs/\good xs H/\if wm xs=true then (∀ H',Same H H'->Q .non H') else ∀ H',Same H H'->E (.ref C) none H'
def JF (good:List V->Hp->Prop) (wm:List V->Bool) (K:PySem.W.Frag):Sp:=fun vs H Q _=>∃ a xs,vs=[.ref a]/\bG K H a xs/\good xs H/\∀ H',Same H H'->Q (.bl (wm xs)) H'
theorem yW {l:List (cU×V)}{p:cU×V} (h:l[i]?=some p) (h0:(l.take i).all mU=true) (h1:mU p=true):(l.take (i+1)).all mU=true:=by
 rw [List.take_add_one,h,List.all_append,h0]
 simp [h1]
theorem Bp {l:List (cU×V)}{p:cU×V} (h:l[i]?=some p) (h1:mU p=false):l.all mU=false:=by
 cases e:l.all mU with
 | false=>rfl
 | true=>rw [List.all_eq_true.mp e p (qN h)] at h1;cases h1
theorem wO {l:List cU}{s:cU} (h1:l[i]?=some s) (h2:rest[i]?=some v):(l.zip rest)[i]?=some (s,v):=by
 rw [List.getElem?_zip_eq_some];exact ⟨h1,h2⟩
theorem at_getD {α:Type}{l:List α}{x d:α} (h:l[i]?=some x):l.getD i d=x:=by rw [iz,h];rfl
theorem yX (a b:Str):(a==b)=decide (b=a):=by
 rw [Bool.eq_iff_iff]
 simp only [beq_iff_eq,decide_eq_true_eq]
 exact eq_comm
theorem JG (k:Str):inV (V.str k) [V.str "heir",V.str "liege"]=two k:=by
 show ((("heir" : Str)==k)||((("liege" : Str)==k)||false))=two k
 unfold two
 rw [Bool.or_false,yX,yX]
theorem sI:aY ["row", "form", "pieces", "sort", "piece"] ["row"] (aA uQ):=⟨rfl,rfl,rfl,by decide +kernel,rfl,by decide +kernel,by decide +kernel⟩
theorem at0 (v:V) (rest:List V):tO (v::rest) 0=some v:=bH (j:=0) rfl
theorem mV {x:V} (h:rest[j]?=some x) (i:Int) (hi:i=((j+1:Nat):Int)):tO (v::rest) i=some x:=by
 rw [hi];exact bH (by simpa using h)
theorem Om (F:iC K "is_well_made" "is_well_made" uQ f fd) (mo:Uk K w.params mg) (ml:mg "len"=none) (mz:mg "zip"=none)  (G1:bf P w K mg base dj 2 g1 d1 ["sort", "piece"] wM) (M1:Ms K mg "fits" g1 d1 ["sort", "piece"]):bf P w K mg base dj 3 f fd ["row"] (JF JB wm K):=by
 obtain ⟨aF,kvs,mF,kF,hF⟩:=mo.forms
 obtain ⟨a2,m2,t2⟩:=mo.two
 refine F.ok sI (fun vs H Q E h=>?_) (fun cdv A outer s H vs Q E hr h=>?_)
 ·obtain ⟨a,xs,rfl,_⟩:=h
  rfl
 obtain ⟨a,xs,rfl,hS,⟨k,rest,rfl,R⟩,kk⟩:=h
 refine ⟨_,aD (cJ (aL Bc (aM bh (pv 0) au (fun _ _=>rfl)) (dJ rfl mF rfl (v:=.ref aF)) (by with_unfolding_all rfl)) (aJ (bL dX)) bK)
  (aD (bU (i:=1) sI.nd rfl (Or.inl rfl) (aM Rj (dJ rfl mF rfl (v:=.ref aF)) (aM bh (pv 0) au (fun _ _=>rfl)) (fun _ _=>rfl)))
  (aD (bU (i:=2) sI.nd rfl (Or.inl rfl) (cT iT (pv 0) (cR au) fY))
  (aD (cJ (aL lX (aP bY rfl ml PySem.boot_len (aj (pv 2) aq)) (aP bY rfl ml PySem.boot_len (aj (pv 1) aq)) (aX _)) (aJ (bL dX)) bK)
  (aD (gU PassesOwn.never rfl (yH rfl mz (aj (pv 1) (aj (pv 2) aq))) (fQ rfl (bA (aO (i:=3) sI.nd rfl (Or.inl rfl)) (bA (aO (i:=4) sI.nd rfl (Or.inl rfl)) cX)))
   (aJ (cJ (fj (eG (bF G1 hr rfl M1.m M1.k M1.b .nil bW (aj (pv 3) (aj (pv 4) aq))))) (aJ (bL dX)) bK)))
  (aJ (bL (WL (fu jt (aM bh (pv 0) au (fun _ _=>rfl)) (dJ rfl m2 rfl (v:=.ref a2)) (by with_unfolding_all rfl))
   (jL (fu lX (aM bh (pv 0) au (fun _ _=>rfl)) (aM bh (pv 0) au (fun _ _=>rfl)) (aX _)))))))))),?_⟩
 have ew:wm (.str k::rest)=pQ k rest:=rfl
 rw [ew] at kk
 refine ⟨_,rfl,a,_,_,_,rfl,rfl,hS,at0 _ _,k,aF,kvs,rfl,rfl,kF,_,rfl,?_⟩
 cases hf:form k with
 | none =>
  rw [(hF k).1 hf]
  have e:pQ k rest=false:=by unfold pQ;rw [hf]
  rw [e] at kk
  exact bO (kk H (Same.refl _))
 | some l =>
  obtain ⟨b,hb,hk⟩:=(hF k).2 l hf
  have tY:pQ k rest=(decide (rest.length=l.length)&&(((l.zip rest).all mU)&&!(two k&&decide (rest[1]?=rest[2]?)))):=by unfold pQ;rw [hf]
  rw [hb]
  refine aK ?_
  refine ⟨_,rfl,a,_,_,_,rfl,rfl,hS,at0 _ _,aF,kvs,k,_,rfl,rfl,kF,hb,?_⟩
  refine ⟨_,rfl,_,rfl,a,_,rfl,hS,nw1 _ _,fun p hp=>?_⟩
  rw [Y8]
  have s1:Same H (upd H p (.tup rest)):=ao hp _
  refine ⟨_,rfl,p,_,rfl,.inr (bG.of ak),_,rfl,b,_,rfl,.inr (hk.sq _),rfl,_,rfl,?_⟩
  by_cases hl:rest.length=l.length
  ·refine uz (by rw [bR,hl]) ?_
   rw [decide_eq_true hl,Bool.true_and] at tY
   refine ⟨_,rfl,_,rfl,b,p,rfl,⟨_,hk.sq _⟩,⟨_,bG.of ak⟩,qz (n:=l.length) (fx:=fun i=>V.str (l.getD i .d).word) (fy:=fun i=>rest.getD i .non)
    (fun i σ H2=>(∃ u v,σ=[some (.ref a),some (.ref b),some (.ref p),u,v])/\Same (upd H p (.tup rest)) H2/\((l.zip rest).take i).all mU=true) ?_ ⟨⟨none,none,rfl⟩,Same.refl _,rfl⟩ ?_ ?_⟩
   ·rintro i σ H2 ⟨_,sm,_⟩
    have st:=pH (i:=i) (hk.sq H2) (sm.wD (bG.of ak)) (by rw [bR];exact hl.symm)
    rw [bR] at st
    refine ⟨fun hi=>⟨(st.1 hi).1,fun v H' y=>?_⟩,st.2⟩
    obtain ⟨q,e1,e2,e3⟩:=(st.1 hi).2 v H' y
    refine ⟨q,e1,e2,?_⟩
    rw [e3]
    have e4:(l.map fun s=>V.str s.word).getD i .non=V.str (l.getD i .d).word:=by
     rw [iz,iz,lW,dI hi];rfl
    rw [e4]
   ·rintro i σ H2 q hi ⟨⟨u,v,rfl⟩,sm,ha⟩ hq
    have h1:l[i]?=some l[i]:=dI hi
    have hi2:i<rest.length:=by lia
    have h2:rest[i]?=some rest[i]:=dI hi2
    rw [at_getD h1,at_getD h2]
    have sq:Same H2 (upd H2 q (.tup [V.str (l[i]).word,rest[i]])):=ao hq _
    refine ⟨q,_,rfl,bG.of ak,rfl,_,_,rfl,_,_,rfl,rfl,?_⟩
    refine ⟨_,rfl,_,rfl,l[i],rest[i],rfl,R.kept l hf i _ _ h1 h2,R.ok _ (List.getElem_mem hi2),_,rfl,?_⟩
    cases hfit:jf l[i] rest[i] with
    | true=>exact aK ⟨⟨_,_,rfl⟩,sm.trans sq,yW (wO h1 h2) ha hfit⟩
    | false =>
     refine bO ?_
     rw [Bp (wO h1 h2) hfit,Bool.false_and] at tY
     rw [tY] at kk
     exact kk _ (s1.trans (sm.trans sq))
   ·rintro σ H2 ⟨⟨u,v,rfl⟩,sm,ha⟩
    rw [List.take_of_length_le (by rw [List.length_zip];lia)] at ha
    rw [ha,Bool.true_and] at tY
    have S2:=(s1.trans sm).wD hS
    refine ⟨_,rfl,a,_,_,_,rfl,rfl,S2,at0 _ _,a2,_,rfl,.inr (t2.sq _),rfl,rfl,_,rfl,?_⟩
    have e2:=JG k
    show if (!inV (V.str k) [V.str "heir",V.str "liege"])=true then _ else _
    rw [e2]
    cases h2:two k with
    | false =>
     rw [h2] at tY
     refine bO ?_
     have:pQ k rest=true:=tY
     rw [this] at kk
     exact kk _ (s1.trans sm)
    | true =>
     rw [h2,Bool.true_and] at tY
     obtain ⟨l3,n1,n2⟩:=sG hf h2
     refine aK ?_
     have i1:(1:Nat)<rest.length:=by lia
     have i2:(2:Nat)<rest.length:=by lia
     have r1:rest[1]?=some rest[1]:=dI i1
     have r2:rest[2]?=some rest[2]:=dI i2
     have q1:l[1]?=some l[1]:=dI (by lia)
     have q2:l[2]?=some l[2]:=dI (by lia)
     have v1:isI rest[1]=false:=(R.kept l hf 1 _ _ q1 r1).trans (n1 _ q1)
     have v2:isI rest[2]=false:=(R.kept l hf 2 _ _ q2 r2).trans (n2 _ q2)
     have o1:=R.ok _ (List.getElem_mem i1)
     have o2:=R.ok _ (List.getElem_mem i2)
     rw [r1,r2] at tY
     refine ⟨_,rfl,a,_,_,_,rfl,rfl,S2,mV r1 2 rfl,_,rfl,a,_,_,_,rfl,rfl,S2,mV r2 3 rfl,?_⟩
     generalize rest[1]=x1 at *
     generalize rest[2]=x2 at *
     rcases o1 with ⟨n,rfl⟩ | ⟨z1,rfl,_⟩
     ·cases v1
     rcases o2 with ⟨n,rfl⟩ | ⟨z2,rfl,_⟩
     ·cases v2
     refine ⟨rfl,?_⟩
     have e3:pQ k rest=!decide (V.str z1=V.str z2):=by
      rw [tY]
      congr 1
      exact decide_eq_decide.mpr ⟨fun e=>Option.some.inj e,fun e=>by rw [e]⟩
     rw [e3] at kk
     exact kk _ (s1.trans sm)
  ·have e:pQ k rest=false:=by rw [tY,decide_eq_false hl,Bool.false_and]
   rw [e] at kk
   have hne:(!decide (V.int ((rest.length:Nat):Int)=V.int (((l.map fun s=>V.str s.word).length:Nat):Int)))=true:=by
    rw [bR]
    have:¬ V.int ((rest.length:Nat):Int)=V.int ((l.length:Nat):Int):=fun e=>hl (by injection e with e;lia)
    rw [decide_eq_false this];rfl
   rw [hne]
   exact bO (kk _ s1)
theorem Oo:aY ["row"] ["row"] (aA oJ):=⟨rfl,rfl,rfl,by decide +kernel,rfl,by decide +kernel,by decide +kernel⟩
theorem JH {good:List V->Hp->Prop}{wm:List V->Bool} (F:iC K "check_row" "check_row" oJ f fd)  (mC:mg "NoForm"=some (.ref C)) (hC:PySem.W.excIn K C tV "ValueError.__new__"=true) {g:Addr} (G:bf P w K mg base dj 3 g gd ["row"] (JF good wm K))
  (MG:Ms K mg "is_well_made" g gd ["row"]):bf P w K mg base (gZ P w) 4 f fd ["row"] (wN C good wm K):=by
 obtain ⟨oc,od,kV,doc,pm,an,cdv,ct,osl,rfl,lk,hcd⟩:=F.ex
 refine jO lk hcd Oo (fun vs H Q E h=>?_) fun A outer s H vs Q E hr h=>?_
 ·obtain ⟨a,xs,rfl,_⟩:=h
  rfl
 obtain ⟨a,xs,rfl,hS,hg,h⟩:=h
 refine ⟨_,aJ (cJ (fj (eG (bF (E:=E0) G hr rfl MG.m MG.k MG.b .nil (fun _ _ _ _ _ _ _ z=>z.elim) (aj (pv 0) aq))))
  (aJ (jV (C:=C) (E:=E) rfl (fun pins σ H1 s1 h' e C' vs I hx q=>fH I hx q) rfl mC hC (aj aG aq))) bK),?_⟩
 refine ⟨_,rfl,a,xs,rfl,hS,hg,fun H' sm=>⟨_,rfl,?_⟩⟩
 cases e:wm xs with
 | true=>rw [e,if_pos rfl] at h;exact aK (h H' sm)
 | false=>rw [e,if_neg Bool.false_ne_true] at h;exact bO ⟨eV (by simp) |> Nat.le_of_lt,h H' sm⟩
theorem Ye:∀ i:_root_.Fin 26,az.cps.toList[i.val]?=some (97+i.val):=by decide +kernel
theorem JK {i:Int} (h0:0<=i) (h1:i<26):tO az.cps.toList i=some (97+i.toNat):=by
 have e:i=((i.toNat:Nat):Int):=by lia
 have q:tO az.cps.toList ((i.toNat:Nat):Int)=some (97+i.toNat):=bH (Ye ⟨i.toNat,by lia⟩)
 rw [<- e] at q
 exact q
theorem JL (h:i<26):low (97+i)=true:=by simp [low];lia
theorem rep1 (n c:Nat):nH n [c]=List.replicate n c:=by
 unfold nH
 induction n with
 | zero=>rfl
 | succ n ih=>rw [List.replicate_succ,List.flatten_cons,ih];rfl
theorem Oq {α:Type}{xs:List α} (h:j<=xs.length):qd xs none (some (j:Int))=xs.take j:=by
 unfold qd
 have e1:HT.cW xs.length 0 none=0:=rfl
 rw [e1,HT.fD,List.drop_zero,Nat.sub_zero,Nat.min_eq_left h]
theorem Gs {α:Type}{xs:List α} (h:j<=xs.length):qd xs (some (j:Int)) none=xs.drop j:=by
 unfold qd
 have e2:HT.cW xs.length xs.length none=xs.length:=rfl
 rw [e2,HT.fD,Nat.min_eq_left h,List.take_of_length_le (by rw [List.length_drop];exact Nat.le_refl _)]
def Told (p:Nat) (e:Int) (zs:List Str):Prop:=∀ (j:Nat) (z:Str),zs[j]?=some z->z.cps.toList[p]?=some (97+((e+7 * (j:Int)) % 26).toNat)/\nameB z.cps.toList=true
theorem Told.nodup {p:Nat}{e:Int}{zs:List Str} (h:Told p e zs) (hl:zs.length<=26):zs.Nodup:=by
 unfold List.Nodup
 rw [List.pairwise_iff_getElem]
 intro i j hi hj hij he
 have h1:=(h i _ (dI hi)).1
 have h2:=(h j _ (dI hj)).1
 rw [he,h2] at h1
 have h3:=Option.some.inj h1
 lia
theorem Told.snoc {p:Nat}{e:Int}{zs:List Str} (h:Told p e zs) (h1:z.cps.toList[p]?=some (97+((e+7 * (zs.length:Int)) % 26).toNat)) (h2:nameB z.cps.toList=true):Told p e (zs++[z]):=by
 intro j y hj
 by_cases hlt:j<zs.length
 ·rw [List.getElem?_append_left hlt] at hj;exact h j y hj
 ·have hj':j<(zs++[z]).length:=(List.getElem?_eq_some_iff.mp hj).1
  have e:j=zs.length:=by rw [iY,List.length_singleton] at hj';lia
  subst e
  rw [List.getElem?_append_right (Nat.le_refl _),Nat.sub_self] at hj
  have:z=y:=by simpa using hj
  subst this
  exact ⟨h1,h2⟩
theorem yZ {l:List Nat} (h:∀ c∈l,low c=true) (h1:1<=l.length) (h2:l.length<=8):nameB l=true:=by
 unfold nameB
 rw [List.all_eq_true.mpr h,decide_eq_true h1,decide_eq_true h2];rfl
def Dz (K:PySem.W.Frag):Sp:=fun vs H Q _=>∃ (a:Addr) (ds:List Int) (many:Int),vs=[.ref a,.int many]/\bD K H a (ds.map V.int)/\4<=ds.length/\(∀ v∈ds,Dw v)/\0<=many/\many<=26 /\
 ∀ (r:Addr) (H':Hp) (zs:List Str),Same H H'->H r=none->H' r=some (.lst (zs.map V.str))->zs.length=many.toNat->(∀ z∈zs,nameB z.cps.toList=true)->zs.Nodup->Q (.ref r) H'
theorem gK:aY ["_law_d", "_law_many", "_law_letters", "_law_k", "_law_base", "_law_at", "_law_names_here", "_law_sign", "_law_name"] ["_law_d", "_law_many"] (aA mO):=⟨rfl,rfl,rfl,by decide +kernel,rfl,by decide +kernel,by decide +kernel⟩
def scN1:Scope:={ kind:=.function,names:=[(".0",.local),("_law_k",.local),("_law_d",.free),("_law_letters",.free)],isGenerator:=false,isCoroutine:=false }
theorem csN1:dF ["_law_d", "_law_many", "_law_letters", "_law_k", "_law_base", "_law_at", "_law_names_here", "_law_sign", "_law_name"] (aA mO) scN1 ["_law_k"] ["_law_d", "_law_letters"] [0,2]:=⟨rfl,by decide +kernel,by decide +kernel,by decide +kernel,rfl,by decide +kernel⟩
theorem ndN1:((["_law_k"]:List Str)++(["_law_d", "_law_letters"]:List Str)).Nodup:=by decide +kernel
theorem JM (F:iC K "_law_names" "_law_names" mO f fd) (ml:mg "len"=none) (mr:mg "range"=none):bf P w K mg base dj 1 f fd ["_law_d", "_law_many"] (Dz K):=by
 refine F.ok gK (fun vs H Q E h=>?_) (fun cdv A outer s H vs Q E hr h=>?_)
 ·obtain ⟨a,ds,many,rfl,_⟩:=h
  rfl
 obtain ⟨a,ds,many,rfl,hS,hlen,hok,m0,m1,k⟩:=h
 refine ⟨_,aD (bU (i:=2) gK.nd rfl (Or.inr rfl) aG)
  (aD (bU (i:=4) gK.nd rfl (Or.inl rfl) (iH PySem.F.plainAttrs_str PySem.F.slot_str_join PySem.F.type_str_join Di aG (aj
    (fG rfl csN1
     (eU rfl mr (aj (aQ bV (aM bB (pv 0) au (fun _ _=>rfl)) au) aq))
     (fun s H fp C=>⟨aO (i:=0) ndN1 rfl (Or.inl rfl),dZ,aM Ii (pv 2) (aQ bV (aQ cC (aM (jU (K:=K)) (pv 1) au (fun _ _=>rfl))
      (aQ gW (aQ cC (pv 0) au) (aQ qj (aM (jU (K:=K)) (pv 1) au (fun _ _=>rfl)) au))) au) (fun _ _=>rfl)⟩)) aq)))
  (aD (bU (i:=5) gK.nd rfl (Or.inl rfl) (aQ bV (aM bB (pv 0) au (fun _ _=>rfl)) (aQ cC (aP gH rfl ml PySem.boot_len (aj (pv 4) aq)) au)))
  (aD (bU (i:=6) gK.nd rfl (Or.inl rfl) (cP aq))
  (aD (gU PassesOwn.never rfl (eU rfl mr (aj (pv 1) aq)) (aO (i:=3) gK.nd rfl (Or.inl rfl))
   (aD (bU (i:=7) gK.nd rfl (Or.inl rfl) (aM Ii (pv 2) (aQ bV (aQ cC (aM bB (pv 0) au (fun _ _=>rfl)) (aQ gW au (pv 3))) au) (fun _ _=>rfl)))
   (aD (bU (i:=8) gK.nd rfl (Or.inl rfl) (aQ qZ (aQ qZ (cT Iz (pv 4) fY (cR (pv 5))) (pv 7)) (cT Iz (pv 4) (cR (pv 5)) fY)))
   (aD (cJ (aL bZ (aQ bV (aQ qj (aM bB (pv 0) au (fun _ _=>rfl)) au) au) au (aX _))
    (aJ (bU (i:=8) gK.nd rfl (Or.inl rfl) (aQ Az (pv 7) (aQ cC au (aQ bV (aQ cC (aM bB (pv 0) au (fun _ _=>rfl)) (aQ gW au (pv 3))) au))))) bK)
   (aJ (cg (iH PySem.F.plainAttrs_list PySem.F.slot_list_append PySem.F.type_list_append cL (pv 6) (aj (pv 8) aq))))))))
  (aJ (bL (pv 6))))))),?_⟩
 obtain ⟨d0,e0,o0⟩:=je hok (i:=0) (by decide) (by lia)
 obtain ⟨d1,e1,o1⟩:=je hok (i:=1) (by decide) (by lia)
 obtain ⟨d2,e2,o2⟩:=je hok (i:=2) (by decide) (by lia)
 obtain ⟨d3,e3,o3⟩:=je hok (i:=3) (by decide) (by lia)
 obtain ⟨o0a,o0b⟩:=o0
 obtain ⟨o1a,o1b⟩:=o1
 obtain ⟨o2a,o2b⟩:=o2
 obtain ⟨o3a,o3b⟩:=o3
 refine ⟨rfl,_,rfl,a,_,_,_,rfl,rfl,hS,e1,_,_,rfl,rfl,(by show (0:Int)<8;decide),d1 % 8,rfl,by lia,by lia,fun D hD=>?_⟩
 refine ju (lo:=0) (n:=(d1 % 8).toNat) (fun i ys H2=>∃ cs:List Nat,ys=cs.map (fun c=>V.str (dO [c]))/\cs.length=i/\(∀ c∈cs,low c=true)/\Same H H2/\H2 D=some (.lst ys))
  ⟨[],rfl,rfl,(fun c hc=>nomatch hc),ao hD _,ak⟩ (fun i ys H2 ⟨cs,_,_,_,_,h⟩=>h) ?_ ?_
 ·rintro i ys H2 hi ⟨cs,rfl,hl,hc,s2,h2⟩
  have S2:=s2.seq hS
  refine ⟨Kp.set rfl (Kp.refl _),?_⟩
  refine dY ?_
  have hm0:=Int.emod_nonneg (d0+(0+(i:Int)+1) * (d1 / 8)) (show (26:Int)≠0 by decide)
  have hm1:=Int.emod_lt_of_pos (d0+(0+(i:Int)+1) * (d1 / 8)) (show (0:Int)<26 by decide)
  have hT:((d0+(0+(i:Int)+1) * (d1 / 8)) % 26).toNat<26:=by
   generalize (d0+(0+(i:Int)+1) * (d1 / 8)) % 26=T at hm0 hm1 ⊢
   lia
  refine ⟨_,rfl,_,rfl,a,_,_,_,rfl,rfl,S2,e0,_,rfl,_,_,rfl,rfl,_,rfl,a,_,_,_,rfl,rfl,S2,e1,_,_,rfl,rfl,⟨by decide,by decide⟩,_,_,rfl,rfl,.inl ⟨by lia,by lia⟩,_,_,rfl,rfl,_,_,rfl,rfl,(by show (0:Int)<26;decide),
   _,_,_,rfl,rfl,(by show az.length<=sizeLine;decide +kernel),JK hm0 hm1,h2,?_,?_⟩
  ·rw [bR];exact cj (by lia)
  ·exact ⟨cs++[97+((d0+(0+(i:Int)+1) * (d1 / 8)) % 26).toNat],by rw [lR];rfl,by simp [hl],(fun d hd=>by
    rcases List.mem_append.mp hd with z | z
    ·exact hc d z
    ·rw [List.mem_singleton.mp z];exact JL hT),aV s2 hD,ak⟩
 ·rintro ys H2 ⟨cs,rfl,hl,hc,s2,h2⟩
  have hm:cs.map (fun c=>V.str (dO [c]))=(cs.map (fun c=>dO [c])).map V.str:=by simp
  refine ⟨_,D,cs.map (fun c=>dO [c]),rfl,rfl,bD.of (by rw [<- hm];exact h2),Og (by lia),?_⟩
  rw [Bm]
  have S2:=s2.seq hS
  have lc:(dO cs).length=cs.length:=fZ cs
  refine ⟨_,rfl,a,_,_,_,rfl,rfl,S2,e2,_,rfl,_,rfl,(by rw [lc];exact small (by lia)),_,_,rfl,rfl,_,_,rfl,rfl,(by rw [lc];lia),?_⟩
  rw [lc]
  have q0:0<=d2 % ((cs.length:Int)+1):=Int.emod_nonneg _ (by lia)
  have q1:d2 % ((cs.length:Int)+1)<(cs.length:Int)+1:=Int.emod_lt_of_pos _ (by lia)
  obtain ⟨at_,hat⟩:∃ n:Nat,d2 % ((cs.length:Int)+1)=(n:Int):=⟨(d2 % ((cs.length:Int)+1)).toNat,by lia⟩
  rw [hat] at q0 q1
  refine ⟨small (by simp),fun l hl0=>?_⟩
  have hl1:H l=none:=s2.free hl0
  refine ⟨_,rfl,many,rfl,by lia,by lia,?_⟩
  refine iZ (lo:=0) (n:=many.toNat) (fun j σ H4=>∃ (zs:List Str) (u1 u2 u3:Option V),σ=[some (.ref a),some (.int many),some (.str az),u1,some (.str (dO cs)),some (.int (at_:Int)),some (.ref l),u2,u3]/\Same H H4/\H4 l=some (.lst (zs.map V.str))/\zs.length=j/\Told (if d2 / 8 % 2=1 then 0 else at_) d3 zs)
   ⟨[],none,none,none,(by rw [<- hat];rfl),aV s2 hl1,ak,rfl,fun j z h=>by simp at h⟩ ?_ ?_
  ·rintro j σ H4 hj ⟨zs,u1,u2,u3,rfl,s4,hL,hz,ht⟩
   have S4:=s4.seq hS
   have hm0:=Int.emod_nonneg (d3+7 * (0+(j:Int))) (show (26:Int)≠0 by decide)
   have hm1:=Int.emod_lt_of_pos (d3+7 * (0+(j:Int))) (show (0:Int)<26 by decide)
   refine ⟨_,rfl,_,rfl,a,_,_,_,rfl,rfl,S4,e3,_,rfl,_,_,rfl,rfl,.inl ⟨by decide,by decide⟩,_,_,rfl,rfl,_,_,rfl,rfl,(by show (0:Int)<26;decide),_,_,_,rfl,rfl,(by show az.length<=sizeLine;decide +kernel),JK hm0 hm1,?_⟩
   have hc0:low (97+((d3+7 * (0+(j:Int))) % 26).toNat)=true:=JL (by lia)
   have hcj:97+((d3+7 * (0+(j:Int))) % 26).toNat=97+((d3+7 * (zs.length:Int)) % 26).toNat:=by rw [hz,Int.zero_add]
   generalize 97+((d3+7 * (0+(j:Int))) % 26).toNat=c at hc0 hcj ⊢
   refine ⟨_,rfl,_,rfl,_,rfl,_,rfl,(by rw [lc];exact small (by lia)),_,rfl,?_⟩
   have f1:qd (dO cs).cps.toList none (some (at_:Int))=cs.take at_:=Oq (by show at_<=cs.length;lia)
   have f2:qd (dO cs).cps.toList (some (at_:Int)) none=cs.drop at_:=Gs (by show at_<=cs.length;lia)
   rw [f1]
   have l1:(dO (cs.take at_)++dO [c]).length=at_+1:=by rw [Oh,fZ,fZ,List.length_take,Nat.min_eq_left (by lia)];rfl
   refine ⟨_,_,rfl,rfl,(by rw [fZ,fZ,List.length_take];exact small (by simp;lia)),?_⟩
   refine ⟨_,rfl,_,rfl,_,rfl,_,rfl,(by rw [lc];exact small (by lia)),?_⟩
   rw [f2]
   refine ⟨_,_,rfl,rfl,(by rw [l1,fZ,List.length_drop];exact small (by lia)),?_⟩
   have en:(dO (cs.take at_)++dO [c]++dO (cs.drop at_)).cps.toList=cs.take at_++[c]++cs.drop at_:=by rw [app_list,app_list]
   refine ⟨_,rfl,a,_,_,_,rfl,rfl,S4,e2,_,_,rfl,rfl,⟨by decide,by decide⟩,_,_,rfl,rfl,(by show (0:Int)<2;decide),rfl,_,rfl,?_⟩
   refine iD (fun hb=>?_) (fun hb=>?_)
   ·have hb1:d2 / 8 % 2=1:=by
     have:=xX hb
     injection this
    rw [if_pos hb1] at ht ⊢
    refine ⟨_,rfl,_,rfl,a,_,_,_,rfl,rfl,S4,e0,_,rfl,_,_,rfl,rfl,.inl ⟨by decide,by decide⟩,_,_,rfl,rfl,_,_,rfl,rfl,(by show (0:Int)<8;decide),_,_,rfl,rfl,?_⟩
    have r0:=Int.emod_nonneg (d0+3 * (0+(j:Int))) (show (8:Int)≠0 by decide)
    have r1:=Int.emod_lt_of_pos (d0+3 * (0+(j:Int))) (show (0:Int)<8 by decide)
    refine ⟨_,_,rfl,rfl,by lia,by lia,(by show (dO [c]).length<=1000;rw [fZ];simp),?_⟩
    have ec:(dO [c]).cps.toList=[c]:=rfl
    rw [ec,rep1]
    refine ⟨_,rfl,.inl ⟨rfl,_,bD.of hL⟩,_,rfl,l,_,_,rfl,rfl,hL,(by rw [bR];exact cj (by lia)),?_⟩
    refine ⟨zs++[dO (List.replicate (1+(d0+3 * (0+(j:Int))) % 8).toNat c)],_,_,_,rfl,aV s4 hl1,by rw [ak,lR];rfl,by rw [iY,List.length_singleton,hz],ht.snoc ?_ ?_⟩
    ·rw [<- hcj]
     show (List.replicate _ c)[0]?=some c
     rw [List.getElem?_replicate,if_pos (by lia)]
    ·refine yZ (fun x hx=>?_) ?_ ?_
     ·have:=(List.mem_replicate.mp hx).2
      rw [this];exact hc0
     ·show 1<=(List.replicate _ c).length
      rw [List.length_replicate];lia
     ·show (List.replicate _ c).length<=8
      rw [List.length_replicate];lia
   ·have hb1:¬ d2 / 8 % 2=1:=fun e=>hb (by show decide (V.int (d2 / 8 % 2)=V.int 1)=true;rw [e];rfl)
    rw [if_neg hb1] at ht ⊢
    refine ⟨_,rfl,.inl ⟨rfl,_,bD.of hL⟩,_,rfl,l,_,_,rfl,rfl,hL,(by rw [bR];exact cj (by lia)),?_⟩
    refine ⟨zs++[dO (cs.take at_)++dO [c]++dO (cs.drop at_)],_,_,_,rfl,aV s4 hl1,by rw [ak,lR];rfl,by rw [iY,List.length_singleton,hz],ht.snoc ?_ ?_⟩
    ·rw [en,<- hcj,List.append_assoc,List.getElem?_append_right (by rw [List.length_take];lia),List.length_take,Nat.min_eq_left (by lia),Nat.sub_self]
     rfl
    ·rw [en]
     refine yZ (fun x hx=>?_) ?_ ?_
     ·rcases List.mem_append.mp hx with z | z
      ·rcases List.mem_append.mp z with z | z
       ·exact hc x (List.mem_of_mem_take z)
       ·rw [List.mem_singleton.mp z];exact hc0
      ·exact hc x (List.mem_of_mem_drop z)
     ·rw [iY,iY,List.length_singleton];lia
     ·rw [iY,iY,List.length_take,List.length_drop,List.length_singleton];lia
  ·rintro σ H4 ⟨zs,u1,u2,u3,rfl,s4,hL,hz,ht⟩
   refine ⟨_,rfl,k l H4 zs s4 hl1 hL hz (fun z hzm=>?_) (ht.nodup (by lia))⟩
   obtain ⟨i,hi,rfl⟩:=List.mem_iff_getElem.mp hzm
   exact (ht i _ (dI hi)).2
def oX:List V:=[.str "heir",.str "grant",.str "part",.str "convey",.str "liege",.str "surrender",.str "death"]
def DG:Sp:=fun vs H Q _=>vs=[]/\∀ p,H p=none->Q (.ref p) (upd H p (.lst oX))
theorem Ot:aY [] [] (aA oM):=⟨rfl,rfl,rfl,by decide +kernel,rfl,by decide +kernel,by decide +kernel⟩
theorem JN (F:iC K "_law_kinds" "_law_kinds" oM f fd):bf P w K mg base dj 1 f fd [] DG:=by
 refine F.ok Ot (fun vs H Q E h=>?_) (fun cdv A outer s H vs Q E hr h=>?_)
 ·obtain ⟨rfl,_⟩:=h
  rfl
 obtain ⟨rfl,k⟩:=h
 refine ⟨_,aJ (bL (cP (aj aG (aj aG (aj aG (aj aG (aj aG (aj aG (aj aG aq))))))))),?_⟩
 exact ⟨small (by simp),k⟩
def cH:List (Key×V):=[(.inr "heir",.str "dnn"),(.inr "grant",.str "dcnnas"),(.inr "part",.str "dnnna"),(.inr "convey",.str "dnn"),(.inr "liege",.str "dnc"),(.inr "surrender",.str "dn"),(.inr "death",.str "dn")]
theorem wQ:dR [] cH=cH:=by decide +kernel
theorem sJ (k:Str):jw cH (.inr k)=(form k).map fun l=>V.str (qD l):=by
 unfold form forms cH
 have key:∀ (r:List (Key×V)) (q:List (Str×List cU)) (x:Str) (t:Str) (l:List cU),t=qD l->jw r (.inr k)=(q.lookup k).map (fun l=>V.str (qD l))->jw ((Sum.inr x,V.str t)::r) (.inr k)=(((x,l)::q).lookup k).map fun l=>V.str (qD l):=by
  intro r q x t l ht h
  by_cases e:k=x
  ·subst e
   rw [jW rfl,List.lookup_cons]
   simp [ht]
  ·have e':(k==x)=false:=by simpa using e
   have e2:¬ (Sum.inr x:Key)=Sum.inr k:=fun h=>e (by injection h with h;exact h.symm)
   rw [jX e2,List.lookup_cons,e']
   exact h
 refine key _ _ _ _ _ (by decide +kernel) (key _ _ _ _ _ (by decide +kernel) (key _ _ _ _ _ (by decide +kernel) (key _ _ _ _ _ (by decide +kernel) (key _ _ _ _ _ (by decide +kernel) (key _ _ _ _ _ (by decide +kernel) (key _ _ _ _ _ (by decide +kernel) rfl))))))
def sO:Sp:=fun vs H Q _=>vs=[]/\∀ p,H p=none->Q (.ref p) (upd H p (.dK cH))
theorem JQ:aY [] [] (aA iJ):=⟨rfl,rfl,rfl,by decide +kernel,rfl,by decide +kernel,by decide +kernel⟩
theorem za:∃ j0 p0 j1 p1 j2 p2 j3 p3 j4 p4 j5 p5 j6 p6 j7 p7 j8 p8 j9 p9 j10 p10 j11 p11 j12 p12 j13 p13 q q',aR iJ=[.Return (some (.Dict [some (.Constant (.str "heir") j0 p0),some (.Constant (.str "grant") j1 p1),some (.Constant (.str "part") j2 p2),some (.Constant (.str "convey") j3 p3),some (.Constant (.str "liege") j4 p4),some (.Constant (.str "surrender") j5 p5),some (.Constant (.str "death") j6 p6)] [.Constant (.str "dnn") j7 p7,.Constant (.str "dcnnas") j8 p8,.Constant (.str "dnnna") j9 p9,.Constant (.str "dnn") j10 p10,.Constant (.str "dnc") j11 p11,.Constant (.str "dn") j12 p12,.Constant (.str "dn") j13 p13] q)) q']:=⟨_,_,_,_,_,_,_,_,_,_,_,_,_,_,_,_,_,_,_,_,_,_,_,_,_,_,_,_,_,_,rfl⟩
theorem Bq:xZ X (aR iJ) (HB (nJ [(tC (.str "heir"),tC (.str "dnn")),(tC (.str "grant"),tC (.str "dcnnas")),(tC (.str "part"),tC (.str "dnnna")),(tC (.str "convey"),tC (.str "dnn")),(tC (.str "liege"),tC (.str "dnc")),(tC (.str "surrender"),tC (.str "dn")),(tC (.str "death"),tC (.str "dn"))])):=by
 obtain ⟨j0,p0,j1,p1,j2,p2,j3,p3,j4,p4,j5,p5,j6,p6,j7,p7,j8,p8,j9,p9,j10,p10,j11,p11,j12,p12,j13,p13,q,q',h⟩:=za
 rw [h]
 refine aJ ?_
 refine bL ?_
 refine wC ?h ?a ?b ?c ?d
 case a=>exact rfl
 case b=>exact rfl
 case c=>exact List.cons_ne_nil _ _
 case d=>exact Nat.le_of_ble_eq_true rfl
 case h=>exact (cO aG aG (cO aG aG (cO aG aG (cO aG aG (cO aG aG (cO aG aG (cO aG aG wB)))))))
theorem ig {a b:V}{r:List (TE×TE)}{Q:List (V×V)->Hp->Prop} (h:mJ r σ H fun ps H3=>Q ((a,b)::ps) H3):mJ ((tC a,tC b)::r) σ H Q:=h
theorem JR {Q:List (V×V)->Hp->Prop} (h:Q [] H):mJ [] σ H Q:=h
theorem wR:([(.str "heir",.str "dnn"),(.str "grant",.str "dcnnas"),(.str "part",.str "dnnna"),(.str "convey",.str "dnn"),(.str "liege",.str "dnc"),(.str "surrender",.str "dn"),(.str "death",.str "dn")]:List (V×V))=cH.map fun kv=>(kV kv.1,kv.2):=rfl
theorem tRD {D:Ends} (h:∀ p,H p=none->mJ Ho σ (upd H p (.dK [])) fun ps H2=>H2 p=some (.dK [])/\∃ kvs:List (Key×V),ps=kvs.map (fun kv=>(kV kv.1,kv.2))/\kvs.length<=15/\D.rt (.ref p) (upd H2 p (.dK (dR [] kvs)))):HB (nJ Ho) D σ H:=h
theorem Gu (F:iC K "_law_shapes" "_law_shapes" iJ f fd):bf P w K mg base dj 1 f fd [] sO:=by
 refine F.ok JQ (fun vs H Q E h=>?_) (fun cdv A outer s H vs Q E hr h=>?_)
 ·obtain ⟨rfl,_⟩:=h
  rfl
 obtain ⟨rfl,k⟩:=h
 refine ⟨HB (nJ _),@Bq _,?y⟩
 refine tRD fun p hp=>?_
 refine ig (ig (ig (ig (ig (ig (ig (JR ?_)))))))
 refine ⟨ak,cH,wR,Nat.le_of_ble_eq_true rfl,?_⟩
 rw [qg,wQ]
 exact k p hp
theorem u1 {k:Nat} (r:cM k A):A.units+1<cLine:=by have:=r.un;lia
theorem JT (s:cU):(!(Builtin.Str.occurrences "das" (dO [s.code]) 0 (Str.length "das") 1).isEmpty)=s.num:=by cases s <;> decide +kernel
theorem JV (s:cU):decide (V.str (dO [s.code])=V.str "a")=decide (s=.a):=by cases s <;> decide +kernel
theorem JW (s:cU):decide (V.str (dO [s.code])=V.str "c")=decide (s=.c):=by cases s <;> decide +kernel
theorem kJ (l:List cU):(qD l).cps.toList=l.map cU.code:=by simp [qD]
theorem qF (l:List cU):(qD l).length=l.length:=by rw [qD,fZ,bR]
theorem zc {l:List cU} (h:i<l.length):(qD l).cps.toList.getD i 0=(l.getD i .d).code:=by
 rw [kJ,iz,iz,lW,dI h];rfl
theorem Ou (s:cU) (n:Int) (h:s.num=true) (hr:s.row=true):jf s (.int n)=(decide ((if decide (s=.a)=true then 1 else 0)<=n)&&decide (n<=9999)):=by
 cases s <;> first | rfl | (cases hr;done) | (cases h;done)
theorem DK (s:cU) (z:Str) (h:s.num=false):jf s (.str z)=(nameB z.cps.toList||(decide (s=.c)&&decide (z=""))):=by
 cases s with
 | n=>show nameB z.cps.toList=(nameB z.cps.toList||(false&&decide (z="")));simp
 | c=>show (decide (z="")||nameB z.cps.toList)=(nameB z.cps.toList||(true&&decide (z="")));rw [Bool.true_and,Bool.or_comm]
 | d=>cases h
 | a=>cases h
 | s=>cases h
 | b=>cases h
 | e=>cases h
theorem mZ {y:Str}:decide (V.str x=V.str y)=decide (x=y):=decide_eq_decide.mpr ⟨fun e=>by injection e,fun e=>by rw [e]⟩
def wU (l:List cU) (rest:List V):Prop:=∀ (i:Nat) (s:cU) (v:V),l[i]?=some s->rest[i]?=some v->jf s v=true
theorem JX {l:List cU}{s:cU} (h:wU l rest) (hs:l[rest.length]?=some s) (hv:jf s v=true):wU l (rest++[v]):=by
 intro j t u e1 e2
 by_cases hlt:j<rest.length
 ·rw [List.getElem?_append_left hlt] at e2;exact h j t u e1 e2
 ·have hj':j<(rest++[v]).length:=(List.getElem?_eq_some_iff.mp e2).1
  have e:j=rest.length:=by rw [iY,List.length_singleton] at hj';lia
  subst e
  rw [List.getElem?_append_right (Nat.le_refl _),Nat.sub_self] at e2
  have:v=u:=by simpa using e2
  subst this
  rw [hs] at e1
  cases e1
  exact hv
theorem Ov {l:List cU} (h:wU l rest) (hv:∀ s,l[j]?=some s->jf s v=true):wU l (rest.set j v):=by
 intro i t u e1 e2
 by_cases hij:i=j
 ·subst hij
  have hl:=(List.getElem?_eq_some_iff.mp e2).1
  rw [List.length_set] at hl
  rw [List.getElem?_set_self hl] at e2
  cases e2
  exact hv t e1
 ·rw [List.getElem?_set_ne (fun e=>hij e.symm)] at e2
  exact h i t u e1 e2
theorem Ow {l:List cU} (h:wU l rest):(l.zip rest).all mU=true:=by
 rw [List.all_eq_true]
 intro p hp
 obtain ⟨i,hi⟩:=List.mem_iff_getElem?.mp hp
 have h2:=List.getElem?_zip_eq_some.mp hi
 exact h i _ _ h2.1 h2.2
theorem sU {s:cU} (h:nameB z.cps.toList=true) (hs:s.num=false):jf s (.str z)=true:=by
 rw [DK s z hs,h];rfl
theorem Ul {k:Str}{l:List cU} (hf:form k=some l) (hl:rest.length=l.length) (h:wU l rest) (h2:two k=false\/rest[1]?≠rest[2]?):pQ k rest=true:=by
 unfold pQ
 rw [hf]
 show (decide (rest.length=l.length)&&(((l.zip rest).all mU)&&!(two k&&decide (rest[1]?=rest[2]?))))=true
 rw [decide_eq_true hl,Ow h]
 rcases h2 with h2 | h2
 ·rw [h2];rfl
 ·rw [decide_eq_false h2];simp
theorem kinds_ok:∀ i:_root_.Fin 7,(match oX[i.val]? with | some (.str k)=>(form k).isSome | _=>false)=true:=by decide +kernel
theorem JZ {i:Int} (h0:0<=i) (h1:i<7):∃ k l,tO oX i=some (.str k)/\form k=some l:=by
 have e:i=((i.toNat:Nat):Int):=by lia
 have h:=kinds_ok ⟨i.toNat,by lia⟩
 simp only at h
 split at h
 ·rename_i k hk
  obtain ⟨l,hl⟩:=Option.isSome_iff_exists.mp h
  refine ⟨k,l,?_,hl⟩
  have q:tO oX ((i.toNat:Nat):Int)=some (.str k):=bH hk
  rw [<- e] at q
  exact q
 ·cases h
theorem num5 {x:Int} (hx0:0<=x) (hx1:x<=9999) {j:Int} (h0:0<=j) (h1:j<5):∃ n,tO [V.int x,V.int x,V.int 9999,V.int 1,V.int 0] j=some (V.int n)/\0<=n/\n<=9999:=by
 obtain ⟨v,e,m⟩:=gk (xs:=[V.int x,V.int x,V.int 9999,V.int 1,V.int 0]) h0 h1
 simp only [List.mem_cons,List.not_mem_nil,or_false] at m
 rcases m with rfl | rfl | rfl | rfl | rfl
 ·exact ⟨_,e,hx0,hx1⟩
 ·exact ⟨_,e,hx0,hx1⟩
 ·exact ⟨_,e,by decide,by decide⟩
 ·exact ⟨_,e,by decide,by decide⟩
 ·exact ⟨_,e,by decide,by decide⟩
theorem Ox {s:cU}{n:Int} (hs:s.num=true) (hr:s.row=true) (h0:0<=n) (h1:n<=9999):jf s (.int (if (if decide (V.str (dO [s.code])=V.str "a") then (1:Int) else 0) > n then (if decide (V.str (dO [s.code])=V.str "a") then (1:Int) else 0) else n))=true:=by
 rw [JV]
 cases s with
 | n=>cases hs
 | c=>cases hs
 | b=>cases hr
 | e=>cases hr
 | d =>
  have e:decide (cU.d=cU.a)=false:=rfl
  rw [e,if_neg (show ¬ (if (false=true) then (1:Int) else 0) > n by rw [if_neg Bool.false_ne_true];lia)]
  show (decide (0<=n)&&decide (n<=9999))=true
  rw [decide_eq_true h0,decide_eq_true h1];rfl
 | s =>
  have e:decide (cU.s=cU.a)=false:=rfl
  rw [e,if_neg (show ¬ (if (false=true) then (1:Int) else 0) > n by rw [if_neg Bool.false_ne_true];lia)]
  show (decide (0<=n)&&decide (n<=9999))=true
  rw [decide_eq_true h0,decide_eq_true h1];rfl
 | a =>
  have e:decide (cU.a=cU.a)=true:=rfl
  rw [e,if_pos rfl]
  by_cases h:(1:Int) > n
  ·rw [if_pos h];rfl
  ·rw [if_neg h]
   show (decide (1<=n)&&decide (n<=9999))=true
   rw [decide_eq_true (show 1<=n by lia),decide_eq_true h1];rfl
theorem sV {α:Type} [DecidableEq α] (x:α):∀ (zs:List α),zs.Nodup->zs.length<=(zs.filter fun z=>!decide (z=x)).length+1
 | [],_=>by simp
 | z::zs,h=>by
  have h1:=List.nodup_cons.mp h
  by_cases e:z=x
  ·subst e
   have:(zs.filter fun y=>!decide (y=z))=zs:=by
    rw [List.filter_eq_self]
    intro y hy
    have:y≠z:=fun e=>h1.1 (e ▸ hy)
    simp [this]
   rw [List.filter_cons_of_neg (by simp),this,jK]
   exact Nat.le_refl _
  ·have ih:=sV x zs h1.2
   rw [List.filter_cons_of_pos (by simp [e]),jK,jK]
   lia
theorem Gw {l:List cU}{s:cU} (h:pP l rest) (hs:l[rest.length]?=some s) (hv:isI v=s.num):pP l (rest++[v]):=by
 intro j t u e1 e2
 by_cases hlt:j<rest.length
 ·rw [List.getElem?_append_left hlt] at e2;exact h j t u e1 e2
 ·have hj':j<(rest++[v]).length:=(List.getElem?_eq_some_iff.mp e2).1
  have e:j=rest.length:=by rw [iY,List.length_singleton] at hj';lia
  subst e
  rw [List.getElem?_append_right (Nat.le_refl _),Nat.sub_self] at e2
  have:v=u:=by simpa using e2
  subst this
  rw [hs] at e1
  cases e1
  exact hv
theorem K1 {l:List cU}{w:V} (h:pP l rest) (hw:rest[j]?=some w) (hv:isI v=isI w):pP l (rest.set j v):=by
 intro i t u e1 e2
 by_cases hij:i=j
 ·subst hij
  have hl:=(List.getElem?_eq_some_iff.mp hw).1
  rw [List.getElem?_set_self hl] at e2
  cases e2
  rw [hv];exact h i t w e1 hw
 ·rw [List.getElem?_set_ne (fun e=>hij e.symm)] at e2
  exact h i t u e1 e2
theorem wV (h:nameB z.cps.toList=true):MF 20 (.str z):=by
 unfold nameB at h
 rw [Bool.and_eq_true,Bool.and_eq_true] at h
 obtain ⟨h1,h2,h3⟩:=h
 have h3':=xX h3
 refine .inr ⟨z,rfl,(by have:z.length=z.cps.toList.length:=(by simp [Str.length]);lia),fun c hc=>?_⟩
 have:=List.all_eq_true.mp h1 c hc
 unfold low at this
 rw [Bool.and_eq_true] at this
 have:=xX this.2
 lia
def Rk (K:PySem.W.Frag):Sp:=fun vs H Q _=>∃ (a b:Addr) (ds:List Int) (zs:List Str),vs=[.ref a,.ref b]/\bD K H a (ds.map V.int)/\14<=ds.length/\(∀ v∈ds,Dw v)/\bD K H b (zs.map V.str)/\2<=zs.length/\zs.length<=7/\(∀ z∈zs,nameB z.cps.toList=true)/\zs.Nodup /\
 ∀ p k rest H',Same H H'->H' p=some (.tup (.str k::rest))->rest.length<=6->Row 20 k rest->pQ k rest=true->Q (.ref p) H'
theorem v7:aY ["_law_d", "_law_names_here", "_law_kind", "_law_row", "_law_k", "_law_sort", "_law_number"] ["_law_d", "_law_names_here"] (aA Bl):=⟨rfl,rfl,rfl,by decide +kernel,rfl,by decide +kernel,by decide +kernel⟩
def scY1:Scope:={ kind:=.function,names:=[(".0",.local),("_law_one",.local),("_law_row",.free)],isGenerator:=false,isCoroutine:=false }
theorem csY1:dF ["_law_d", "_law_names_here", "_law_kind", "_law_row", "_law_k", "_law_sort", "_law_number"] (aA Bl) scY1 ["_law_one"] ["_law_row"] [3]:=⟨rfl,by decide +kernel,by decide +kernel,by decide +kernel,rfl,by decide +kernel⟩
theorem ndY1:((["_law_one"]:List Str)++(["_law_row"]:List Str)).Nodup:=by decide +kernel
theorem Um (F:iC K "_law_any_row" "_law_any_row" Bl f fd) (ml:mg "len"=none) (mt:mg "int"=none) (me:mg "enumerate"=none) (mx:mg "max"=none) (mu:mg "tuple"=none)  (G1:bf P w K mg base dj 1 g1 d1 [] sO) (M1:Ms K mg "_law_shapes" g1 d1 [])
  (G2:bf P w K mg base dj 1 g2 d2 [] DG) (M2:Ms K mg "_law_kinds" g2 d2 []):bf P w K mg base dj 2 f fd ["_law_d", "_law_names_here"] (Rk K):=by
 refine F.ok v7 (fun vs H Q E h=>?_) (fun cdv A outer s H vs Q E hr h=>?_)
 ·obtain ⟨a,b,ds,zs,rfl,_⟩:=h
  rfl
 obtain ⟨a,b,ds,zs,rfl,hS,hlen,hok,hB,h7,h7',hnm,hnd,kk⟩:=h
 refine ⟨_,aD (bU (i:=2) v7.nd rfl (Or.inl rfl) (aM bB (ni G2 hr rfl M2.m M2.k M2.b .nil bW) (aQ bV (aM bB (pv 0) au (fun _ _=>rfl)) au) (fun _ _=>rfl)))
  (aD (bU (i:=3) v7.nd rfl (Or.inr rfl) (cP (aj (pv 2) aq)))
  (aD (gU PassesOwn.never rfl (Ji rfl me (aj (cG (u1 hr) (ni G1 hr rfl M1.m M1.k M1.b .nil bW) (pv 2) (fun _ _=>rfl)) aq)) (fQ rfl (bA (aO (i:=4) v7.nd rfl (Or.inl rfl)) (bA (aO (i:=5) v7.nd rfl (Or.inl rfl)) cX)))
   (aD (bU (i:=6) v7.nd rfl (Or.inl rfl) (aM bB (cP (aj (aQ bV (aM bB (pv 0) (aQ cC au (pv 4)) (fun _ _=>rfl)) au) (aj (aQ bV (aM bB (pv 0) (aQ cC au (pv 4)) (fun _ _=>rfl)) au)
     (aj au (aj au (aj au aq)))))) (aQ bV (aM bB (pv 0) (aQ cC au (pv 4)) (fun _ _=>rfl)) au) (fun _ _=>rfl)))
   (aJ (cJ (aL o9 (pv 5) aG (by with_unfolding_all rfl))
    (aJ (cg (iH PySem.F.plainAttrs_list PySem.F.slot_list_append PySem.F.type_list_append cL (pv 3) (aj (aP (Fg rfl) rfl mx Tr (aj (pv 6) (aj (bT oh rfl mt vZ (aj (fu bZ (pv 5) aG (aX _)) aq)) aq))) aq))))
    (aJ (cJ (PW.pt (jl (aL bZ (pv 5) aG (aX _)) (gD (aL bZ (aQ bV (aM bB (pv 0) (aQ cC au (pv 4)) (fun _ _=>rfl)) au) au (aX _)))))
     (aJ (cg (iH PySem.F.plainAttrs_list PySem.F.slot_list_append PySem.F.type_list_append cL (pv 3) (aj aG aq))))
     (aJ (cg (iH PySem.F.plainAttrs_list PySem.F.slot_list_append PySem.F.type_list_append cL (pv 3) (aj (aM bB (pv 1) (aQ bV (aM bB (pv 0) (aQ cC au (pv 4)) (fun _ _=>rfl)) (aP bY rfl ml PySem.boot_len (aj (pv 1) aq))) (fun _ _=>rfl)) aq))))))))))
  (aD (cJ (PW.pt (jl (aL lg (pv 2) (dh (aj aG (aj aG aq))) (by with_unfolding_all rfl)) (gD (aL bZ (aM bB (pv 3) au (fun _ _=>rfl)) (aM bB (pv 3) au (fun _ _=>rfl)) (aX _)))))
   (aJ (iR (aM bB (fG rfl csY1 (gG (pv 1)) (fun s H fp C=>⟨aO (i:=0) ndY1 rfl (Or.inl rfl),vW (aL lX (pv 0) (aM (jU (K:=K)) (pv 1) au (fun _ _=>rfl)) (aX _)),pv 0⟩))
     (aQ bV (aM bB (pv 0) au (fun _ _=>rfl)) (aQ Ad (aP bY rfl ml PySem.boot_len (aj (pv 1) aq)) au)) (fun _ _=>rfl)) (HD (pv 3) au set_list))) bK)
  (aJ (bL (bT tU rfl mu rF (aj (pv 3) aq))))))),?_⟩
 obtain ⟨d0,e0,o0⟩:=je hok (i:=0) (by decide) (by lia)
 obtain ⟨d7,e7,o7⟩:=je hok (i:=7) (by decide) (by lia)
 obtain ⟨k,l,ek,hf⟩:=JZ (i:=d0 % 7) (Int.emod_nonneg _ (by decide)) (Int.emod_lt_of_pos _ (by decide))
 obtain ⟨l2,l6⟩:=nP hf
 refine ⟨rfl,fun p hp=>?_⟩
 have s1:Same H (upd H p (.lst oX)):=ao hp _
 refine ⟨_,rfl,a,_,_,_,rfl,rfl,s1.seq hS,e0,_,_,rfl,rfl,(by show (0:Int)<7;decide),p,_,_,_,rfl,rfl,bD.of ak,ek,?_⟩
 generalize upd H p (.lst oX)=H1 at s1 ⊢
 refine ⟨_,rfl,small (by simp),fun r hr1=>?_⟩
 have hr0:H r=none:=s1.free hr1
 have s2:Same H (upd H1 r (.lst [V.str k])):=aV s1 hr0
 have r2:(upd H1 r (.lst [V.str k])) r=some (.lst [V.str k]):=ak
 generalize upd H1 r (.lst [V.str k])=H2 at s2 r2 ⊢
 refine ⟨rfl,fun q hq=>?_⟩
 have s3:Same H2 (upd H2 q (.dK cH)):=ao hq _
 have g3:gJ (upd H2 q (.dK cH)) q (V.str k) (some (V.str (qD l))):=by
  have:=gJ.k (k:=.inr k) (show (upd H2 q (.dK cH)) q=some (.dK cH) from ak)
  rw [sJ,hf] at this
  exact this
 refine ⟨_,rfl,q,_,rfl,g3,qD l,rfl,?_⟩
 have r3:=s3 _ _ r2
 have t3:=s2.trans s3
 generalize upd H2 q (.dK cH)=H3 at t3 r3 ⊢
 refine qz (n:=l.length) (fx:=fun i=>V.int (i:Int)) (fy:=fun i=>V.str (dO [(l.getD i .d).code]))
  (fun i σ Hx=>∃ (rest:List V) (u4 u5 u6:Option V),σ=[some (.ref a),some (.ref b),some (.str k),some (.ref r),u4,u5,u6]/\Same H Hx/\Hx r=some (.lst (.str k::rest))/\rest.length=i/\(∀ v∈rest,MF 20 v)/\pP l rest/\wU l rest) ?_
  ⟨[],none,none,none,rfl,t3,r3,rfl,(fun v hv=>nomatch hv),(fun i s v _ h=>by simp at h),fun i s v _ h=>by simp at h⟩ ?_ ?_
 ·rintro i σ Hx _
  have st:=Bb (z:=qD l) (H:=Hx) (i:=i)
  rw [kJ,bR] at st
  refine ⟨fun hi=>⟨(st.1 hi).1,fun v H' y=>?_⟩,st.2⟩
  obtain ⟨t,e1,e2,e3⟩:=(st.1 hi).2 v H' y
  refine ⟨t,e1,e2,?_⟩
  have e4:=zc hi
  rw [kJ] at e4
  rw [e3,e4]
 ·rintro i σ Hx t hi ⟨rest,u4,u5,u6,rfl,sx,rx,hl,hrk,hkp,hft⟩ ht
  have h1:l[i]?=some l[i]:=dI hi
  rw [at_getD h1]
  have s4:Same Hx (upd Hx t (.tup [V.int (i:Int),V.str (dO [(l[i]).code])])):=ao ht _
  refine ⟨t,_,rfl,bG.of ak,rfl,_,_,rfl,_,_,rfl,rfl,?_⟩
  have r4:=s4 _ _ rx
  have t4:=sx.trans s4
  generalize upd Hx t (.tup [V.int (i:Int),V.str (dO [(l[i]).code])])=H4 at t4 r4 ⊢
  obtain ⟨v1,e1,o1⟩:=je hok (i:=1+(i:Int)) (by lia) (by lia)
  obtain ⟨v8,e8,o8⟩:=je hok (i:=8+(i:Int)) (by lia) (by lia)
  obtain ⟨n,en,n0,n1⟩:=num5 (x:=v1 % 10000) (Int.emod_nonneg _ (by decide)) (by have:=Int.emod_lt_of_pos v1 (show (0:Int)<10000 by decide);lia) (j:=v8 % 5) (Int.emod_nonneg _ (by decide)) (Int.emod_lt_of_pos _ (by decide))
  refine ⟨_,rfl,_,rfl,_,_,rfl,rfl,a,_,_,_,rfl,rfl,t4.seq hS,e1,_,_,rfl,rfl,(by show (0:Int)<10000;decide),?_⟩
  refine ⟨_,rfl,_,rfl,_,_,rfl,rfl,a,_,_,_,rfl,rfl,t4.seq hS,e1,_,_,rfl,rfl,(by show (0:Int)<10000;decide),small (by simp),fun c hc=>?_⟩
  have s5:Same H4 (upd H4 c (.lst [V.int (v1 % 10000),V.int (v1 % 10000),V.int 9999,V.int 1,V.int 0])):=ao hc _
  refine ⟨_,rfl,_,rfl,_,_,rfl,rfl,a,_,_,_,rfl,rfl,(t4.trans s5).seq hS,e8,_,_,rfl,rfl,(by show (0:Int)<5;decide),c,_,_,_,rfl,rfl,bD.of ak,en,?_⟩
  have r5:=s5 _ _ r4
  have t5:=t4.trans s5
  generalize upd H4 c (.lst [V.int (v1 % 10000),V.int (v1 % 10000),V.int 9999,V.int 1,V.int 0])=H5 at t5 r5 ⊢
  have fin:∀ v,MF 20 v->isI v=(l[i]).num->jf (l[i]) v=true->∃ (rest':List V) (u4 u5 u6:Option V),([some (V.ref a),some (V.ref b),some (V.str k),some (V.ref r),some (V.int (i:Int)),some (V.str (dO [(l[i]).code])),some (V.int n)]:List (Option V))=[some (.ref a),some (.ref b),some (.str k),some (.ref r),u4,u5,u6]/\Same H (upd H5 r (.lst (V.str k::rest++[v]))) /\
    (upd H5 r (.lst (V.str k::rest++[v]))) r=some (.lst (.str k::rest'))/\rest'.length=i+1/\(∀ v∈rest',MF 20 v)/\pP l rest'/\wU l rest':=fun v hv hvi hvf =>
   ⟨rest++[v],_,_,_,rfl,aV t5 hr0,ak,by rw [iY,List.length_singleton,hl],fun u hu=>by
    rcases List.mem_append.mp hu with z | z
    ·exact hrk u z
    ·rw [List.mem_singleton.mp z];exact hv,Gw hkp (by rw [hl];exact h1) hvi,JX hft (by rw [hl];exact h1) hvf⟩
  have sz:(V.str k::rest).length<sizeLine:=by rw [jK];exact cj (by lia)
  refine ⟨_,rfl,_,_,rfl,rfl,_,rfl,?_⟩
  rw [JT]
  have S5:=t5.seq hS
  have B5:=t5.seq hB
  refine iD (fun c1=>?_) (fun c1=>?_)
  ·exact ⟨_,rfl,.inl ⟨rfl,_,bD.of r5⟩,_,rfl,_,rfl,rfl,.inr ⟨_,rfl,_,_,rfl,r,_,_,rfl,rfl,r5,sz,fin _ (.inl ⟨_,rfl⟩) (by rw [c1];rfl) (Ox c1 (yV hf h1) n0 n1)⟩⟩
  ·have c1':(l[i]).num=false:=Bool.eq_false_iff.mpr c1
   have nam:∃ z,tO (zs.map V.str) (v1 % ((zs.map V.str).length:Int))=some (V.str z)/\nameB z.cps.toList=true:=by
    have hl7:2<=(zs.map V.str).length:=by rw [bR];exact h7
    obtain ⟨x,ex,mx'⟩:=gk (xs:=zs.map V.str) (i:=v1 % ((zs.map V.str).length:Int)) (Int.emod_nonneg _ (by lia)) (Int.emod_lt_of_pos _ (by lia))
    obtain ⟨z,hz,rfl⟩:=List.mem_map.mp mx'
    exact ⟨z,ex,hnm z hz⟩
   obtain ⟨z,ez,hz⟩:=nam
   refine ⟨_,rfl,rfl,_,rfl,?_⟩
   refine iD (fun c2=>?_) (fun c2=>?_)
   ·have hcf:jf (l[i]) (V.str "")=true:=by
     have hcc:l[i]=cU.c:=xX ((JW _).symm.trans c2)
     rw [hcc];decide +kernel
    refine ⟨_,rfl,_,rfl,_,_,rfl,rfl,a,_,_,_,rfl,rfl,S5,e8,_,_,rfl,rfl,(by show (0:Int)<3;decide),rfl,_,rfl,?_⟩
    refine iD (fun c3=>?_) (fun c3=>?_)
    ·exact ⟨_,rfl,.inl ⟨rfl,_,bD.of r5⟩,r,_,_,rfl,rfl,r5,sz,fin _ (.inr ⟨_,rfl,by decide +kernel,by decide +kernel⟩) (by rw [c1'];rfl) hcf⟩
    ·exact ⟨_,rfl,.inl ⟨rfl,_,bD.of r5⟩,_,rfl,_,rfl,_,rfl,_,_,rfl,rfl,a,_,_,_,rfl,rfl,S5,e1,_,rfl,b,_,rfl,.inl B5,_,_,rfl,rfl,(by show (0:Int)<((zs.map V.str).length:Int);rw [bR];lia),b,_,_,_,rfl,rfl,B5,ez,r,_,_,rfl,rfl,r5,sz,fin _ (wV hz) (by rw [c1'];rfl) (sU hz c1')⟩
   ·refine aK ?_
    exact ⟨_,rfl,.inl ⟨rfl,_,bD.of r5⟩,_,rfl,_,rfl,_,rfl,_,_,rfl,rfl,a,_,_,_,rfl,rfl,S5,e1,_,rfl,b,_,rfl,.inl B5,_,_,rfl,rfl,(by show (0:Int)<((zs.map V.str).length:Int);rw [bR];lia),b,_,_,_,rfl,rfl,B5,ez,r,_,_,rfl,rfl,r5,sz,fin _ (wV hz) (by rw [c1'];rfl) (sU hz c1')⟩
 ·rintro σ Hx ⟨rest,u4,u5,u6,rfl,sx,rx,hl,hrk,hkp,hft⟩
  have done:∀ (rest':List V) (Hy:Hp),Same H Hy->Hy r=some (.lst (.str k::rest'))->rest'.length=l.length->(∀ v∈rest',MF 20 v)->pP l rest'->wU l rest'->(two k=false\/rest'[1]?≠rest'[2]?)->∀ p,Hy p=none->Q (.ref p) (upd Hy p (.tup (.str k::rest'))):=fun rest' Hy sy ry hly hry hky hfy h2y p hp =>
   kk p k rest' _ (aV sy (sy.free hp)) ak (by lia) ⟨by lia,hry,fun l' hl'=>by rw [hf] at hl';cases hl';exact hky⟩ (Ul hf hly hfy h2y)
  refine ⟨_,rfl,small (by simp),fun t ht=>?_⟩
  have st:Same Hx (upd Hx t (.tup [V.str "heir",V.str "liege"])):=ao ht _
  refine ⟨t,_,rfl,.inr (bG.of ak),rfl,rfl,_,rfl,?_⟩
  show if inV (V.str k) [V.str "heir",V.str "liege"]=true then _ else _
  rw [JG]
  have ry:=st _ _ rx
  have sy:=sx.trans st
  generalize upd Hx t (.tup [V.str "heir",V.str "liege"])=Hy at ry sy ⊢
  refine iD (fun h2=>?_) (fun h2=>?_)
  ·obtain ⟨l3,n1,n2⟩:=sG hf h2
   have i1:(1:Nat)<rest.length:=by lia
   have i2:(2:Nat)<rest.length:=by lia
   have q1:rest[1]?=some rest[1]:=dI i1
   have q2:rest[2]?=some rest[2]:=dI i2
   have w1:l[1]?=some l[1]:=dI (by lia)
   have w2:l[2]?=some l[2]:=dI (by lia)
   have v1:isI rest[1]=false:=(hkp 1 _ _ w1 q1).trans (n1 _ w1)
   have v2:isI rest[2]=false:=(hkp 2 _ _ w2 q2).trans (n2 _ w2)
   have o1:=hrk _ (List.getElem_mem i1)
   have o2:=hrk _ (List.getElem_mem i2)
   refine ⟨_,rfl,r,_,_,_,rfl,rfl,bD.of ry,mV q1 2 rfl,_,rfl,r,_,_,_,rfl,rfl,bD.of ry,mV q2 3 rfl,?_⟩
   generalize rest[1]=x1 at *
   generalize rest[2]=x2 at *
   rcases o1 with ⟨n,rfl⟩ | ⟨z1,rfl,_⟩
   ·cases v1
   rcases o2 with ⟨n,rfl⟩ | ⟨z2,rfl,_⟩
   ·cases v2
   refine ⟨rfl,_,rfl,?_⟩
   refine iD (fun c1=>?_) (fun c1=>?_)
   ·refine ⟨_,rfl,b,rfl,⟨_,sy.seq hB⟩,fun D hD=>?_⟩
    have ney:r≠D:=aN ry hD
    refine jc (K:=K) (a:=b) (xs:=zs.map V.str) (fun i ys Hz=>ys=((zs.take i).filter fun z=>!decide (z=z1)).map V.str/\Same Hy Hz/\Hz D=some (.lst ys)) (fun i ys Hz h=>(sy.trans h.2.1).seq hB)
     ⟨by simp,ao hD _,ak⟩ (fun i ys Hz h=>h.2.2) ?_ ?_
    ·rintro i ys Hz x hx ⟨rfl,sz,Yg⟩
     rw [lW] at hx
     obtain ⟨z,hz,rfl⟩:=Option.map_eq_some_iff.mp hx
     refine ⟨Kp.set rfl (Kp.refl _),?_⟩
     refine ⟨_,rfl,_,rfl,r,_,_,_,rfl,rfl,bD.of (sz _ _ ry),mV q1 2 rfl,rfl,_,rfl,?_⟩
     have et:(zs.take (i+1)).filter (fun z=>!decide (z=z1))=(zs.take i).filter (fun z=>!decide (z=z1))++(if (!decide (z=z1))=true then [z] else []):=by
      rw [List.take_add_one,hz,List.filter_append]
      congr 1
      by_cases e:z=z1 <;> simp [e]
     rw [mZ]
     refine iD (fun c=>?_) (fun c=>?_)
     ·refine ⟨_,rfl,Yg,?_,?_,aV sz hD,ak⟩
      ·rw [bR]
       have:=List.length_filter_le (fun z=>!decide (z=z1)) (zs.take i)
       rw [List.length_take] at this
       exact cj (by lia)
      ·rw [et,if_pos c,lR];rfl
     ·refine ⟨?_,sz,Yg⟩
      rw [et,if_neg c,List.append_nil]
    ·rintro ys Hz ⟨rfl,sz,Yg⟩
     rw [bR,List.take_length] at Yg
     have S7:=(sy.trans sz).seq hS
     have B7:=(sy.trans sz).seq hB
     have hfl:=sV z1 zs hnd
     have Uo:(0:Int)<((zs.map V.str).length:Int) - 1:=by rw [bR];lia
     refine ⟨_,rfl,a,_,_,_,rfl,rfl,S7,e7,_,rfl,b,_,rfl,.inl B7,_,_,rfl,rfl,_,_,rfl,rfl,Uo,?_⟩
     have m0:=Int.emod_nonneg d7 (Int.ne_of_gt Uo)
     have m1:=Int.emod_lt_of_pos d7 Uo
     obtain ⟨x,ex,mx'⟩:=gk (xs:=((zs.filter fun z=>!decide (z=z1)).map V.str)) (i:=d7 % (((zs.map V.str).length:Int) - 1)) m0 (by
      have e1:(zs.map V.str).length=zs.length:=bR ..
      generalize d7 % (((zs.map V.str).length:Int) - 1)=dd at m0 m1 ⊢
      have e2:((zs.filter fun z=>!decide (z=z1)).map V.str).length=(zs.filter fun z=>!decide (z=z1)).length:=bR ..
      rw [e2]
      rw [e1] at m1
      lia)
     obtain ⟨z,hz,rfl⟩:=List.mem_map.mp mx'
     refine ⟨D,_,_,_,rfl,rfl,bD.of Yg,ex,?_⟩
     have hzn:=hnm z (List.mem_filter.mp hz).1
     refine ⟨_,rfl,r,_,_,3,rfl,rfl,sz _ _ ry,(by unfold QX;rw [if_pos (by decide),if_pos (by rw [jK];lia)];rfl),?_⟩
     have tz:=sy.trans sz
     have ex3:(V.str k::rest).set 3 (V.str z)=V.str k::rest.set 2 (V.str z):=rfl
     rw [ex3]
     refine ⟨_,rfl,r,_,rfl,.inl ⟨bD.of ak,fun p hp=>?_⟩⟩
     refine done (rest.set 2 (V.str z)) _ (aV tz hr0) ak (by rw [List.length_set];exact hl) (fun v hv=>?_) (K1 hkp q2 rfl) (Ov hft fun s hs=>sU hzn (n2 s hs)) (.inr (by
      rw [List.getElem?_set_ne (by decide),q1,List.getElem?_set_self (by lia)]
      intro e
      have e':=Option.some.inj e
      injection e' with e'
      have hne:=(List.mem_filter.mp hz).2
      rw [<- e',decide_eq_true rfl] at hne
      cases hne)) p hp
     rcases List.mem_or_eq_of_mem_set hv with h | h
     ·exact hrk v h
     ·rw [h];exact wV hzn
   ·refine ⟨_,rfl,r,_,rfl,.inl ⟨bD.of ry,fun p hp=>?_⟩⟩
    refine done rest Hy sy ry hl hrk hkp hft (.inr ?_) p hp
    rw [q1,q2]
    intro e
    exact c1 (decide_eq_true (Option.some.inj e))
  ·refine aK ?_
   refine ⟨_,rfl,r,_,rfl,.inl ⟨bD.of ry,fun p hp=>?_⟩⟩
   exact done rest Hy sy ry hl hrk hkp hft (.inl (Bool.eq_false_iff.mpr h2)) p hp
def DN:Sp:=fun vs H Q _=>∃ z:Str,vs=[.str z]/\z.length<=1000/\(∀ c∈z.cps.toList,c<128)/\∀ H',Same H H'->Q (.bl (nameB z.cps.toList)) H'
theorem Oz:aY ["_law_word"] ["_law_word"] (aA mQ):=⟨rfl,rfl,rfl,by decide +kernel,rfl,by decide +kernel,by decide +kernel⟩
def scM1:Scope:={ kind:=.function,names:=[(".0",.local),("_law_sign",.local)],isGenerator:=false,isCoroutine:=false }
theorem csM1:dF ["_law_word"] (aA mQ) scM1 ["_law_sign"] [] []:=⟨rfl,by decide +kernel,by decide +kernel,by decide +kernel,rfl,by decide +kernel⟩
theorem ndM1:((["_law_sign"]:List Str)++([]:List Str)).Nodup:=by decide +kernel
theorem K3 (F:iC K "_law_named" "_law_named" mQ f fd) (ml:mg "len"=none) (ma:mg "all"=none):bf P w K mg base dj 1 f fd ["_law_word"] DN:=by
 refine F.ok Oz (fun vs H Q E h=>?_) (fun cdv A outer s H vs Q E hr h=>?_)
 ·obtain ⟨z,rfl,_⟩:=h
  rfl
 obtain ⟨z,rfl,Ra,hzc,k⟩:=h
 refine ⟨_,aJ (bL (jm (qX pD pD au (aP gH rfl ml PySem.boot_len (aj (pv 0) aq)) au)
  (jL (aP (lA (K:=K) rfl hr.hd) rfl ma vX (aj (fG rfl csM1 (IK (pv 0)) (fun s H fp C=>⟨aO (i:=0) ndM1 rfl (Or.inl rfl),dZ,fu o9 (pv 0) aG (by with_unfolding_all rfl)⟩)) aq))))),?_⟩
 have ez:z.length=z.cps.toList.length:=by simp [Str.length]
 refine ⟨_,rfl,z,rfl,small (by lia),_,_,rfl,rfl,_,rfl,?_⟩
 have no:¬ (1<=z.cps.toList.length/\z.cps.toList.length<=8)->nameB z.cps.toList=false:=fun h=>by
  unfold nameB
  by_cases h1:1<=z.cps.toList.length
  ·rw [decide_eq_false (show ¬ z.cps.toList.length<=8 from fun h2=>h ⟨h1,h2⟩)];simp
  ·rw [decide_eq_false h1];simp
 refine iD (fun h1=>?_) (fun h1=>?_)
 ·have h1':=xX h1
  refine ⟨_,_,rfl,rfl,_,rfl,?_⟩
  refine iD (fun h2=>?_) (fun h2=>?_)
  ·have h2':=xX h2
   refine ⟨_,rfl,z,rfl,fun D' hD'=>?_⟩
   refine IV (x:=z) (fun i ys H4=>ys=((z.cps.toList.take i).map low).map V.bl/\Same H H4/\H4 D'=some (.lst ys)) ⟨rfl,ao hD' _,ak⟩ (fun i ys H4 h=>h.2.2) ?_ ?_
   ·rintro j ys H4 c hc ⟨rfl,Gp,DP⟩
    refine ⟨Kp.set rfl (Kp.refl _),?_⟩
    refine dY ?_
    refine ⟨_,rfl,_,_,rfl,rfl,DP,?_,?_,aV Gp hD',ak⟩
    ·rw [bR,bR,List.length_take]
     exact cj (by lia)
    ·have e:=Y7 (hzc c (qN hc))
     rw [List.take_add_one,hc,lR,lR]
     show _++[V.bl (!(Builtin.Str.occurrences az (dO [c]) 0 az.length 1).isEmpty)]=_
     rw [e];rfl
   ·rintro ys H4 ⟨rfl,Gp,DP⟩
    rw [List.take_length] at DP
    refine ⟨D',_,rfl,bD.of DP,?_⟩
    have eall:(z.cps.toList.map low).all id=z.cps.toList.all low:=by rw [List.all_map];rfl
    rw [eall]
    have e:nameB z.cps.toList=z.cps.toList.all low:=by
     unfold nameB
     rw [decide_eq_true (show 1<=z.cps.toList.length by lia),decide_eq_true (show z.cps.toList.length<=8 by lia)];simp
    rw [<- e];exact k _ Gp
  ·have h2':=of_decide_eq_false (Bool.eq_false_iff.mpr h2)
   rw [no (by lia)] at k
   exact k _ (Same.refl _)
 ·have h1':=of_decide_eq_false (Bool.eq_false_iff.mpr h1)
  rw [no (by lia)] at k
  exact ⟨_,rfl,aK (k _ (Same.refl _))⟩
def Br (K:PySem.W.Frag):Sp:=fun vs H Q _=>∃ a k rest,vs=[.ref a]/\bG K H a (.str k::rest)/\Row 1000 k rest/\∀ H',Same H H'->Q (.bl (pQ k rest)) H'
theorem Yh {l:List cU} (h:2<=l.length):decide (V.str (qD l)=V.str "?")=false:=by
 refine decide_eq_false fun e=>?_
 have e2:qD l="?":=by injection e
 have:=congrArg Str.length e2
 rw [qF] at this
 have e3:Str.length "?"=1:=by decide +kernel
 lia
theorem wW:aY ["_law_row", "_law_shape", "_law_thing", "_law_kind"] ["_law_row"] (aA uU):=⟨rfl,rfl,rfl,by decide +kernel,rfl,by decide +kernel,by decide +kernel⟩
theorem OD (F:iC K "_law_good" "_law_good" uU f fd) (ml:mg "len"=none) (mt:mg "int"=none) (mz:mg "zip"=none)  (G1:bf P w K mg base dj 1 g1 d1 [] sO) (M1:Ms K mg "_law_shapes" g1 d1 [])
  (G2:bf P w K mg base dj 1 g2 d2 ["_law_word"] DN) (M2:Ms K mg "_law_named" g2 d2 ["_law_word"]):bf P w K mg base dj 2 f fd ["_law_row"] (Br K):=by
 refine F.ok wW (fun vs H Q E h=>?_) (fun cdv A outer s H vs Q E hr h=>?_)
 ·obtain ⟨a,k,rest,rfl,_⟩:=h
  rfl
 obtain ⟨a,k,rest,rfl,hS,R,kk⟩:=h
 refine ⟨_,aD (bU (i:=1) wW.nd rfl (Or.inl rfl) (yO (u1 hr) (ni G1 hr rfl M1.m M1.k M1.b .nil bW) (aM bh (pv 0) au (fun _ _=>rfl)) aG ⟨rfl,rfl,rfl,rfl⟩))
  (aD (cJ (PW.pt (uf (aL lX (aP bY rfl ml PySem.boot_len (aj (pv 0) aq)) (aQ cC au (aP gH rfl ml PySem.boot_len (aj (pv 1) aq))) (aX _))
    (nZ (aL bZ (pv 1) aG (aX _))))) (aJ (bL dX)) bK)
  (aD (gU PassesOwn.never rfl (Jh rfl mz (aj (cT iT (pv 0) (cR au) fY) (aj (pv 1) aq))) (fQ rfl (bA (aO (i:=2) wW.nd rfl (Or.inl rfl)) (bA (aO (i:=3) wW.nd rfl (Or.inl rfl)) cX)))
   (aJ (cJ (aL o9 (pv 3) aG (by with_unfolding_all rfl))
    (aJ (cJ (fj (HX pD pD (bT oh rfl mt vZ (aj (fu bZ (pv 3) aG (aX _)) aq)) (pv 2) au)) (aJ (bL dX)) bK))
    (aJ (cJ (PW.pt (jl (fj (eG (bF G2 hr rfl M2.m M2.k M2.b .nil bW (aj (pv 2) aq)))) (gD (fj (PW.pt (jl (aL bZ (pv 3) aG (aX _)) (gD (aL bZ (pv 2) aG (aX _))))))))) (aJ (bL dX)) bK)))))
  (aJ (bL (vM (jm (fu lg (aM bh (pv 0) au (fun _ _=>rfl)) (dh (aj aG (aj aG aq))) (by with_unfolding_all rfl))
   (jL (fu bZ (aM bh (pv 0) au (fun _ _=>rfl)) (aM bh (pv 0) au (fun _ _=>rfl)) (aX _))))))))),?_⟩
 refine ⟨rfl,fun p hp=>⟨p,rfl,.inl ⟨_,.inl ak⟩,?_⟩⟩
 have s1:Same H (upd H p (.dK cH)):=ao hp _
 refine ⟨_,rfl,a,_,_,_,rfl,rfl,s1.wD hS,at0 _ _,jw cH (.inr k),gJ.k (k:=.inr k) ak,?_⟩
 rw [sJ]
 cases hf:form k with
 | none =>
  have e:pQ k rest=false:=by unfold pQ;rw [hf]
  rw [e] at kk
  refine ⟨_,rfl,a,_,rfl,.inr (s1.wD hS),_,rfl,_,rfl,(by show Str.length "?"<=sizeLine;decide +kernel),_,_,rfl,rfl,rfl,_,rfl,?_⟩
  refine iD (fun _=>bO (kk _ s1)) (fun _=>?_)
  exact ⟨_,rfl,rfl,_,rfl,bO (kk _ s1)⟩
 | some l =>
  have tY:pQ k rest=(decide (rest.length=l.length)&&(((l.zip rest).all mU)&&!(two k&&decide (rest[1]?=rest[2]?)))):=by unfold pQ;rw [hf]
  obtain ⟨l2,l6⟩:=nP hf
  have lq:(qD l).length<=sizeLine:=by rw [qF];exact small (by lia)
  refine ⟨_,rfl,a,_,rfl,.inr (s1.wD hS),_,rfl,qD l,rfl,lq,_,_,rfl,rfl,rfl,_,rfl,?_⟩
  by_cases hl:rest.length=l.length
  ·have hn:V.int (((V.str k::rest).length:Nat):Int)=V.int (1+((qD l).length:Int)):=by
    rw [qF,jK,hl];congr 1;lia
   refine uz hn ?_
   refine ⟨_,rfl,rfl,_,rfl,?_⟩
   rw [show decide ((Option.map (fun l=>V.str (qD l)) (some l)).getD (V.str "?")=V.str "?")=false from Yh l2]
   refine aK ?_
   rw [decide_eq_true hl,Bool.true_and] at tY
   refine ⟨_,rfl,_,rfl,a,_,rfl,s1.wD hS,nw1 _ _,fun q hq=>?_⟩
   rw [Y8]
   have hq0:H q=none:=s1.free hq
   have s2:Same H (upd (upd H p (.dK cH)) q (.tup rest)):=aV s1 hq0
   generalize hHc:upd (upd H p (.dK cH)) q (.tup rest)=Hc at s2 ⊢
   have hqc:Hc q=some (.tup rest):=by rw [<- hHc];exact ak
   refine ⟨_,rfl,q,qD l,rfl,⟨_,bG.of hqc⟩,qz (n:=l.length) (fx:=fun i=>rest.getD i .non) (fy:=fun i=>V.str (dO [(l.getD i .d).code]))
    (fun i σ H2=>(∃ u v,σ=[some (.ref a),some (.str (qD l)),u,v])/\Same Hc H2/\((l.zip rest).take i).all mU=true) ?_ ⟨⟨none,none,rfl⟩,Same.refl _,rfl⟩ ?_ ?_⟩
   ·rintro i σ H2 ⟨_,sm,_⟩
    have st:=yP (K:=K) (z:=qD l) (i:=i) (bG.of (sm _ _ hqc))
    rw [kJ,bR,hl,Nat.min_self] at st
    refine ⟨fun hi=>⟨(st.1 hi).1,fun v H' y=>?_⟩,st.2⟩
    obtain ⟨r,e1,e2,e3⟩:=(st.1 hi).2 v H' y
    refine ⟨r,e1,e2,?_⟩
    have e4:=zc hi
    rw [kJ] at e4
    rw [e3,e4]
   ·rintro i σ H2 r hi ⟨⟨u,v,rfl⟩,sm,ha⟩ Rm
    have h1:l[i]?=some l[i]:=dI hi
    have hi2:i<rest.length:=by lia
    have h2:rest[i]?=some rest[i]:=dI hi2
    rw [at_getD h1,at_getD h2]
    have sq:Same H2 (upd H2 r (.tup [rest[i],V.str (dO [(l[i]).code])])):=ao Rm _
    have hkp:=R.kept l hf i _ _ h1 h2
    have hz:=wO h1 h2
    refine ⟨r,_,rfl,bG.of ak,rfl,_,_,rfl,_,_,rfl,rfl,?_⟩
    refine ⟨_,rfl,_,_,rfl,rfl,_,rfl,?_⟩
    rw [JT]
    have yes:jf l[i] rest[i]=true->∀ H3,Same H2 H3->(∃ u v,([some (V.ref a),some (V.str (qD l)),some rest[i],some (V.str (dO [(l[i]).code]))]:List (Option V))=[some (.ref a),some (.str (qD l)),u,v])/\Same Hc H3/\((l.zip rest).take (i+1)).all mU=true :=
     fun e H3 s3=>⟨⟨_,_,rfl⟩,sm.trans s3,yW hz ha e⟩
    have no:jf l[i] rest[i]=false->∀ H3,Same H2 H3->Q (V.bl false) H3:=fun e H3 s3=>by
     rw [Bp hz e,Bool.false_and] at tY
     rw [tY] at kk
     exact kk _ (s2.trans (sm.trans s3))
    have hrw:(l[i]).row=true:=yV hf h1
    generalize l[i]=si at *
    rcases R.ok _ (List.getElem_mem hi2) with ⟨n,hn⟩ | ⟨z,hz',Ra,hzc⟩
    ·rw [hn] at hkp yes no sq ⊢
     have hnum:si.num=true:=hkp.symm
     rw [hnum]
     refine bO ?_
     rw [Ou si n hnum hrw] at yes no
     refine ⟨_,rfl,rfl,.inr ⟨_,rfl,_,rfl,_,_,rfl,rfl,_,rfl,?_⟩⟩
     rw [JV]
     refine iD (fun c1=>?_) (fun c1=>?_)
     ·rw [c1,Bool.true_and] at yes no
      refine ⟨_,_,rfl,rfl,_,rfl,?_⟩
      cases c2:decide (n<=9999) with
      | true=>exact aK (yes c2 _ sq)
      | false=>exact bO (no c2 _ sq)
     ·rw [Bool.eq_false_iff.mpr c1,Bool.false_and] at no
      exact ⟨_,rfl,bO (no rfl _ sq)⟩
    ·rw [hz'] at hkp yes no sq ⊢
     have hnum:si.num=false:=hkp.symm
     rw [hnum]
     refine aK ?_
     rw [DK si z hnum] at yes no
     refine ⟨_,rfl,z,rfl,Ra,hzc,fun H3 s3=>⟨_,rfl,?_⟩⟩
     cases c1:nameB z.cps.toList with
     | true =>
      rw [c1,Bool.true_or] at yes
      exact aK (aK (yes rfl _ (sq.trans s3)))
     | false =>
      rw [c1,Bool.false_or] at yes no
      refine bO ⟨_,rfl,rfl,_,rfl,?_⟩
      rw [JW]
      refine iD (fun c2=>?_) (fun c2=>?_)
      ·rw [c2,Bool.true_and] at yes no
       refine ⟨_,rfl,rfl,_,rfl,?_⟩
       rw [mZ]
       cases c3:decide (z=("" : Str)) with
       | true=>exact aK (yes c3 _ (sq.trans s3))
       | false=>exact bO (no c3 _ (sq.trans s3))
      ·rw [Bool.eq_false_iff.mpr c2,Bool.false_and] at no
       exact bO (no rfl _ (sq.trans s3))
   ·rintro σ H2 ⟨⟨u,v,rfl⟩,sm,ha⟩
    rw [List.take_of_length_le (by rw [List.length_zip];lia)] at ha
    rw [ha,Bool.true_and] at tY
    have S2:=(s2.trans sm).wD hS
    refine ⟨_,rfl,a,_,_,_,rfl,rfl,S2,at0 _ _,small (by simp),fun t ht=>?_⟩
    have st:Same H2 (upd H2 t (.tup [V.str "heir",V.str "liege"])):=ao ht _
    refine ⟨t,_,rfl,.inr (bG.of ak),rfl,rfl,_,rfl,?_⟩
    have e2:=JG k
    show if inV (V.str k) [V.str "heir",V.str "liege"]=true then _ else _
    rw [e2]
    have S3:=st.wD S2
    cases h2:two k with
    | false =>
     rw [h2] at tY
     have:pQ k rest=true:=tY
     rw [this] at kk
     exact aK ⟨_,rfl,kk _ (s2.trans (sm.trans st))⟩
    | true =>
     rw [h2,Bool.true_and] at tY
     obtain ⟨l3,n1,n2⟩:=sG hf h2
     refine bO ?_
     have i1:(1:Nat)<rest.length:=by lia
     have i2:(2:Nat)<rest.length:=by lia
     have r1:rest[1]?=some rest[1]:=dI i1
     have r2:rest[2]?=some rest[2]:=dI i2
     have q1:l[1]?=some l[1]:=dI (by lia)
     have q2:l[2]?=some l[2]:=dI (by lia)
     have v1:isI rest[1]=false:=(R.kept l hf 1 _ _ q1 r1).trans (n1 _ q1)
     have v2:isI rest[2]=false:=(R.kept l hf 2 _ _ q2 r2).trans (n2 _ q2)
     have o1:=R.ok _ (List.getElem_mem i1)
     have o2:=R.ok _ (List.getElem_mem i2)
     rw [r1,r2] at tY
     refine ⟨_,rfl,a,_,_,_,rfl,rfl,S3,mV r1 2 rfl,_,rfl,a,_,_,_,rfl,rfl,S3,mV r2 3 rfl,?_⟩
     generalize rest[1]=x1 at *
     generalize rest[2]=x2 at *
     rcases o1 with ⟨n,rfl⟩ | ⟨z1,rfl,_⟩
     ·cases v1
     rcases o2 with ⟨n,rfl⟩ | ⟨z2,rfl,_⟩
     ·cases v2
     refine ⟨rfl,_,rfl,?_⟩
     have e3:pQ k rest=!decide (V.str z1=V.str z2):=by
      rw [tY]
      congr 1
      exact decide_eq_decide.mpr ⟨fun e=>Option.some.inj e,fun e=>by rw [e]⟩
     rw [e3] at kk
     exact kk _ (s2.trans (sm.trans st))
  ·have e:pQ k rest=false:=by rw [tY,decide_eq_false hl,Bool.false_and]
   rw [e] at kk
   have hne:(!decide (V.int (((V.str k::rest).length:Nat):Int)=V.int (1+((qD l).length:Int))))=true:=by
    rw [qF,jK]
    have:¬ V.int (((rest.length+1:Nat)):Int)=V.int (1+(l.length:Int)):=fun e=>hl (by injection e with e;lia)
    rw [decide_eq_false this];rfl
   rw [hne]
   exact bO (bO (kk _ s1))
open PyProof.Rows
theorem qG:bootBuiltins "dict"=some (.type "dict"):=by decide +kernel
def DQ (n:Int):Bool:=decide (1<=n)&&decide (n<=9999)
def okB (n:Int):Bool:=decide (0<=n)&&decide (n<=99)
def Rn:Sp:=fun vs H Q _=>∃ n:Int,vs=[.int n]/\DQ n=true/\Q .non H
def Ro:Sp:=fun vs H Q _=>∃ n m:Int,vs=[.int n,.int m]/\(DQ n&&okB m)=true/\Q .non H
theorem Yi:aY ["acres"] ["acres"] (aA Gi):=⟨rfl,rfl,rfl,by decide +kernel,rfl,by decide +kernel,by decide +kernel⟩
theorem Uq (F:iC K "check_acres" "check_acres" Gi f fd) {g:Addr} (G:bf P w K mg base dj 2 g gd ["sort", "piece"] wM) (MG:Ms K mg "fits" g gd ["sort", "piece"]):bf P w K mg base dj 3 f fd ["acres"] Rn:=by
 refine F.ok Yi (fun vs H Q E h=>?_) (fun cdv A outer s H vs Q E hr h=>?_)
 ·obtain ⟨n,rfl,_⟩:=h
  rfl
 obtain ⟨n,rfl,hn,k⟩:=h
 refine ⟨_,aJ (cJ (fj (eG (bF G hr rfl MG.m MG.k MG.b .nil bW (aj aG (aj (pv 0) aq))))) uh bK),?_⟩
 refine ⟨_,rfl,.a,.int n,rfl,rfl,.inl ⟨n,rfl⟩,_,rfl,?_⟩
 rw [show jf .a (.int n)=DQ n from rfl,hn]
 exact aK k
theorem Yj:aY ["acres", "bears"] ["acres", "bears"] (aA Gj):=⟨rfl,rfl,rfl,by decide +kernel,rfl,by decide +kernel,by decide +kernel⟩
theorem Ur (F:iC K "check_land" "check_land" Gj f fd) {g:Addr} (G:bf P w K mg base dj 2 g gd ["sort", "piece"] wM) (MG:Ms K mg "fits" g gd ["sort", "piece"])
  (G1:bf P w K mg base dj 3 g1 d1 ["acres"] Rn) (M1:Ms K mg "check_acres" g1 d1 ["acres"]):bf P w K mg base dj 4 f fd ["acres", "bears"] Ro:=by
 refine F.ok Yj (fun vs H Q E h=>?_) (fun cdv A outer s H vs Q E hr h=>?_)
 ·obtain ⟨n,m,rfl,_⟩:=h
  rfl
 obtain ⟨n,m,rfl,hnm,k⟩:=h
 obtain ⟨hn,hm⟩:=Bool.and_eq_true_iff.mp hnm
 refine ⟨_,aD (cg (bF G1 hr rfl M1.m M1.k M1.b .nil bW (aj (pv 0) aq)))
  (aJ (cJ (fj (eG (bF G (hr.mono (by decide)) rfl MG.m MG.k MG.b .nil bW (aj aG (aj (pv 1) aq))))) uh bK)),?_⟩
 refine ⟨_,rfl,n,rfl,hn,?_⟩
 refine ⟨_,rfl,.b,.int m,rfl,rfl,.inl ⟨m,rfl⟩,_,rfl,?_⟩
 rw [show jf .b (.int m)=okB m from rfl,hm]
 exact aK k
end
structure iK (K:PySem.W.Frag) (C:Addr):Prop where
 cl:Cls K C
 n1:gY K C "many_acres"
 n2:gY K C "coins"
 n3:gY K C "standing"
 n4:gY K C "earlier"
 n5:gY K C "later"
abbrev FR (n m:Int) (st e l:Addr):List (Str×V):=[("many_acres",.int n),("coins",.int m),("standing",.ref st),("earlier",.ref e),("later",.ref l)]
structure cu (C:Addr) (H:Hp) (x dx st d e l:Addr) (n m fr:Int) (kvs:List (Int×V)) (es ls:List V):Prop where
 o:H x=some (.ins C dx (FR n m st e l))
 s:H st=some (.tup [.int fr,.ref d])
 k:H d=some (.dK (eY kvs))
 e:H e=some (.lst es)
 l:H l=some (.lst ls)
theorem cu.same {x st e:Addr}{n m fr:Int}{es:List V} (r:cu C H x dx st d e l n m fr kvs es ls) (s:∀ b u,H b=some u->H' b=some u):cu C H' x dx st d e l n m fr kvs es ls:=⟨s _ _ r.o,s _ _ r.s,s _ _ r.k,s _ _ r.e,s _ _ r.l⟩
def DR (C:Addr):Sp:=fun vs H Q _=>∃ x dx,∃ n m:Int,vs=[.ref x,.int n,.int m]/\H x=some (.ins C dx [])/\(DQ n&&okB m)=true /\
  ∀ st d e l H',(∀ c o,c≠x->H c=some o->H' c=some o)->cu C H' x dx st d e l n m 1 [] [] []->H st=none->H d=none->H e=none->H l=none->x≠e->x≠l->x≠st->x≠d->e≠l->Q .non H'
def Rp (C:Addr):Sp:=fun vs H Q _=>∃ x dx st d e l n m fr kvs es ls,vs=[.ref x]/\cu C H x dx st d e l n m fr kvs es ls/\Q (.int fr) H
def DW (C:Addr):Sp:=fun vs H Q _=>∃ x dx st d e l n m fr kvs es ls,vs=[.ref x]/\cu C H x dx st d e l n m fr kvs es ls/\kvs.length<64 /\
 ∀ (q:Addr) (as:List Addr) (ys:List (Int×V)) (H':Hp),(∀ b u,H b=some u->H' b=some u)->H q=none->H' q=some (.lst (as.map V.ref))->ys.Perm kvs->ys.Pairwise (fun x y=>x.1<y.1)->Items H' as ys->Q (.ref q) H'
theorem OJ:aY ["self", "acres", "bears"] ["self", "acres", "bears"] (aA oR):=⟨rfl,rfl,rfl,by decide +kernel,rfl,by decide +kernel,by decide +kernel⟩
theorem K4 (T:iK K C) (F:iC K "__init__" "Roll.__init__" oR f fd)  (G1:bf P w K mg base dj 4 g1 d1 ["acres", "bears"] Ro) (M1:Ms K mg "check_land" g1 d1 ["acres", "bears"]):bf P w K mg base dj 5 f fd ["self", "acres", "bears"] (DR C):=by
 refine F.ok OJ (fun vs H Q E h=>?_) (fun cdv A outer s H vs Q E hr h=>?_)
 ·obtain ⟨x,dx,n,m,rfl,_⟩:=h
  rfl
 obtain ⟨x,dx,n,m,rfl,hx,hnm,h⟩:=h
 refine ⟨_,aD (cg (bF G1 hr rfl M1.m M1.k M1.b .nil bW (aj (pv 1) (aj (pv 2) aq))))
  (aD (jq (pv 0) (pv 1) rfl)
  (aD (jq (pv 0) (pv 2) rfl)
  (aD (jq (pv 0) (dh (aj au (aj Jf aq))) rfl)
  (aD (jq (pv 0) (cP aq) rfl)
  (aJ (jq (pv 0) (cP aq) rfl)))))),?_⟩
 refine ⟨_,rfl,_,rfl,n,m,rfl,hnm,?_⟩
 refine ⟨_,rfl,_,rfl,x,C,dx,_,rfl,hx,T.cl,T.n1,Nat.lt_of_sub_eq_succ rfl,?_⟩
 refine ⟨_,rfl,_,rfl,x,C,dx,_,rfl,ak,T.cl,T.n2,Nat.lt_of_sub_eq_succ rfl,?_⟩
 rw [qg,show jH "coins" (V.int m) (jH "many_acres" (V.int n) [])=([("many_acres",V.int n),("coins",V.int m)]:List (Str×V)) from rfl]
 have x2:(upd H x (.ins C dx [("many_acres",.int n),("coins",.int m)])) x=some (.ins C dx [("many_acres",.int n),("coins",.int m)]):=ak
 have f2:∀ c o,c≠x->H c=some o->(upd H x (.ins C dx [("many_acres",.int n),("coins",.int m)])) c=some o:=fun c o hc ho=>by rw [aC hc];exact ho
 have z2:∀ c,(upd H x (.ins C dx [("many_acres",.int n),("coins",.int m)])) c=none->H c=none/\x≠c:=fun c hc=>by
  have hne:x≠c:=aN x2 hc
  rw [aC (Ne.symm hne)] at hc
  exact ⟨hc,hne⟩
 generalize upd H x (.ins C dx [("many_acres",.int n),("coins",.int m)])=H2 at x2 f2 z2 ⊢
 refine fun d hd=>⟨small (by simp),fun st hst=>?_⟩
 have nd:x≠d:=aN x2 hd
 have d3:(upd H2 d (.dK [])) d=some (.dK []):=ak
 have nst:st≠d:=Ne.symm (aN d3 hst)
 have hst2:H2 st=none:=by rw [aC nst] at hst;exact hst
 have Gx:x≠st:=aN x2 hst2
 refine ⟨_,rfl,x,C,dx,_,rfl,by rw [aC Gx,aC nd];exact x2,T.cl,T.n3,Nat.lt_of_sub_eq_succ rfl,?_⟩
 generalize MN:upd _ x _=H3
 have x3:H3 x=some (.ins C dx [("many_acres",.int n),("coins",.int m),("standing",.ref st)]):=by rw [<- MN,ak];rfl
 have s3:H3 st=some (.tup [.int 1,.ref d]):=by rw [<- MN,aC (Ne.symm Gx),ak]
 have k3:H3 d=some (.dK []):=by rw [<- MN,aC (Ne.symm nd),aC (Ne.symm nst),ak]
 have f3:∀ c o,c≠x->H2 c=some o->H3 c=some o:=fun c o hc ho=>by rw [<- MN,aC hc,aC (aN ho hst2),aC (aN ho hd)];exact ho
 clear MN
 refine ⟨small (by simp),fun e he=>?_⟩
 have ne:x≠e:=aN x3 he
 refine ⟨_,rfl,x,C,dx,_,rfl,by rw [aC ne];exact x3,T.cl,T.n4,Nat.lt_of_sub_eq_succ rfl,?_⟩
 generalize hH4:upd _ x _=H4
 have x4:H4 x=some (.ins C dx [("many_acres",.int n),("coins",.int m),("standing",.ref st),("earlier",.ref e)]):=by rw [<- hH4,ak];rfl
 have e4:H4 e=some (.lst []):=by rw [<- hH4,aC (Ne.symm ne),ak]
 have f4:∀ c o,c≠x->H3 c=some o->H4 c=some o:=fun c o hc ho=>by rw [<- hH4,aC hc,aC (aN ho he)];exact ho
 clear hH4
 refine ⟨small (by simp),fun l hl=>?_⟩
 have nl:x≠l:=aN x4 hl
 refine ⟨_,rfl,x,C,dx,_,rfl,by rw [aC nl];exact x4,T.cl,T.n5,Nat.lt_of_sub_eq_succ rfl,?_⟩
 generalize hH5:upd _ x _=H5
 have x5:H5 x=some (.ins C dx (FR n m st e l)):=by rw [<- hH5,ak];rfl
 have l5:H5 l=some (.lst []):=by rw [<- hH5,aC (Ne.symm nl),ak]
 have f5:∀ c o,c≠x->H4 c=some o->H5 c=some o:=fun c o hc ho=>by rw [<- hH5,aC hc,aC (aN ho hl)];exact ho
 clear hH5
 have back:∀ (Ha Hb:Hp),(∀ c o,c≠x->Ha c=some o->Hb c=some o)->∀ c,c≠x->Hb c=none->Ha c=none:=fun Ha Hb ff c hc hb=>by
  cases q:Ha c with
  | none=>rfl
  | some u=>rw [ff c u hc q] at hb;cases hb
 refine h st d e l H5 (fun c o hc ho=>f5 _ _ hc (f4 _ _ hc (f3 _ _ hc (f2 _ _ hc ho)))) ⟨x5,f5 _ _ (Ne.symm Gx) (f4 _ _ (Ne.symm Gx) s3),f5 _ _ (Ne.symm nd) (f4 _ _ (Ne.symm nd) k3),f5 _ _ (Ne.symm ne) e4,l5⟩
  (z2 st hst2).1 (z2 d hd).1 (z2 e (back H2 H3 f3 e (Ne.symm ne) he)).1 (z2 l (back H2 H3 f3 l (Ne.symm nl) (back H3 H4 f4 l (Ne.symm nl) hl))).1 ne nl Gx nd (aN e4 hl)
theorem Yk:aY ["self"] ["self"] (aA uX):=⟨rfl,rfl,rfl,by decide +kernel,rfl,by decide +kernel,by decide +kernel⟩
theorem Us (T:iK K C) (F:iC K "free" "Roll.free" uX f fd):bf P w K mg base dj 1 f fd ["self"] (Rp C):=by
 refine F.ok Yk (fun vs H Q E h=>?_) (fun cdv A outer s H vs Q E hr h=>?_)
 ·obtain ⟨x,dx,st,d,e,l,n,m,fr,kvs,es,ls,rfl,_⟩:=h
  rfl
 obtain ⟨x,dx,st,d,e,l,n,m,fr,kvs,es,ls,rfl,R,k⟩:=h
 refine ⟨_,aJ (bL (aM bh (dD (pv 0) rfl) au (fun _ _=>rfl))),?_⟩
 exact ⟨_,rfl,x,C,dx,_,_,rfl,R.o,T.cl,T.n3,rfl,st,_,_,_,rfl,rfl,bG.of R.s,bH (j:=0) rfl,k⟩
theorem P0:aY ["self"] ["self"] (aA uY):=⟨rfl,rfl,rfl,by decide +kernel,rfl,by decide +kernel,by decide +kernel⟩
theorem K5 (T:iK K C) (F:iC K "rows" "Roll.rows" uY f fd) (ms:mg "sorted"=none):bf P w K mg base dj 1 f fd ["self"] (DW C):=by
 refine F.ok P0 (fun vs H Q E h=>?_) (fun cdv A outer s H vs Q E hr h=>?_)
 ·obtain ⟨x,dx,st,d,e,l,n,m,fr,kvs,es,ls,rfl,_⟩:=h
  rfl
 obtain ⟨x,dx,st,d,e,l,n,m,fr,kvs,es,ls,rfl,R,h64,k⟩:=h
 refine ⟨_,aJ (bL (aP (Bh hr.hd) rfl ms Fx (aj (Jq (aM bh (dD (pv 0) rfl) au (fun _ _=>rfl))) aq))),?_⟩
 refine ⟨_,rfl,x,C,dx,_,_,rfl,R.o,T.cl,T.n3,rfl,st,_,_,_,rfl,rfl,bG.of R.s,bH (j:=1) rfl,d,_,rfl,R.k,fun v hv=>?_⟩
 have s1:=ao hv (rP v d)
 exact ⟨v,d,kvs,rfl,ak,s1 _ _ R.k,h64,fun q as ys H' hs hq hl hp hw hi=>k q as ys H' (fun b u e=>hs b u (s1 b u e)) (by
  cases e:H q with
  | none=>rfl
  | some u=>rw [s1 q u e] at hq;cases hq) hl hp hw hi⟩
end M
namespace L2
open PySem
open PySem.SetTable (Probe Slot Met)
def Rq (l:List Nat):Prop:=l.Pairwise (·<·)
theorem sW {xs:Array Nat} (hs:Rq xs.toList):∀ (fuel lo hi:Nat),lo<=hi->hi<=xs.size->hi - lo<=fuel->(∀ m,m<lo->xs.getD m 0<j)->(∀ m,hi<=m->m<xs.size->j<=xs.getD m 0) ->
  let r:=SetTable.below.go xs j fuel lo hi
  r<=xs.size/\(∀ m,m<r->xs.getD m 0<j)/\∀ m,r<=m->m<xs.size->j<=xs.getD m 0
 | 0,lo,hi,h1,h2,h3,h4,h5=>by
  have e:lo=hi:=by lia
  subst e
  exact ⟨h2,h4,h5⟩
 | fuel+1,lo,hi,h1,h2,h3,h4,h5=>by
  have mono:∀ a b,a<=b->b<xs.size->xs.getD a 0<=xs.getD b 0:=fun a b hab hb=>by
   by_cases e:a=b
   ·rw [e];exact Nat.le_refl _
   ·have:=List.pairwise_iff_getElem.mp hs a b (by simpa using (by lia:a<xs.size)) (by simpa using hb) (by lia)
    simp only [Array.getElem_toList] at this
    have ha:a<xs.size:=by lia
    rw [Array.getD_eq_getD_getElem?,Array.getD_eq_getD_getElem?,Array.getElem?_eq_getElem ha,Array.getElem?_eq_getElem hb]
    exact Nat.le_of_lt this
  show let r:=(if lo<hi then (if xs.getD ((lo+hi) / 2) j<j then SetTable.below.go xs j fuel ((lo+hi) / 2+1) hi else SetTable.below.go xs j fuel lo ((lo+hi) / 2)) else lo);r<=xs.size/\(∀ m,m<r->xs.getD m 0<j)/\∀ m,r<=m->m<xs.size->j<=xs.getD m 0
  by_cases hlt:lo<hi
  ·rw [if_pos hlt]
   have hm:(lo+hi) / 2<xs.size:=by lia
   have eg:xs.getD ((lo+hi) / 2) j=xs.getD ((lo+hi) / 2) 0:=by
    rw [Array.getD_eq_getD_getElem?,Array.getD_eq_getD_getElem?,Array.getElem?_eq_getElem hm];rfl
   by_cases hc:xs.getD ((lo+hi) / 2) j<j
   ·rw [if_pos hc]
    refine sW hs fuel _ hi (by lia) h2 (by lia) (fun m hm'=>?_) h5
    have:=mono m ((lo+hi) / 2) (by lia) hm
    lia
   ·rw [if_neg hc]
    refine sW hs fuel lo _ (by lia) (by lia) (by lia) h4 (fun m hm1 hm2=>?_)
    have:=mono ((lo+hi) / 2) m hm1 hm2
    lia
  ·rw [if_neg hlt]
   have e:lo=hi:=by lia
   subst e
   exact ⟨h2,h4,h5⟩
theorem sX {xs:Array Nat} (j:Nat) (hs:Rq xs.toList):SetTable.below xs j<=xs.size/\(∀ m,m<SetTable.below xs j->xs.getD m 0<j)/\∀ m,SetTable.below xs j<=m->m<xs.size->j<=xs.getD m 0 :=
 sW hs xs.size 0 xs.size (Nat.zero_le _) (Nat.le_refl _) (by lia) (fun m h=>by lia) (fun m h1 h2=>by lia)
theorem below_at {xs:Array Nat} (hs:Rq xs.toList) (h:xs[i]?=some j):SetTable.below xs j=i:=by
 obtain ⟨b1,b2,b3⟩:=sX j hs
 have hi:i<xs.size:=(Array.getElem?_eq_some_iff.mp h).1
 have ei:xs.getD i 0=j:=by rw [Array.getD_eq_getD_getElem?,h];rfl
 have inj:∀ a b,a<b->b<xs.size->xs.getD a 0<xs.getD b 0:=fun a b hab hb=>by
  have:=List.pairwise_iff_getElem.mp hs a b (by simpa using (by lia:a<xs.size)) (by simpa using hb) hab
  simp only [Array.getElem_toList] at this
  have ha:a<xs.size:=by lia
  rw [Array.getD_eq_getD_getElem?,Array.getD_eq_getD_getElem?,Array.getElem?_eq_getElem ha,Array.getElem?_eq_getElem hb]
  exact this
 by_cases h1:SetTable.below xs j<i
 ·have:=b3 (SetTable.below xs j) (Nat.le_refl _) (by lia)
  have:=inj _ _ h1 hi
  lia
 ·by_cases h2:i<SetTable.below xs j
  ·have:=b2 i h2
   lia
  ·lia
def kO (m:Nat):Prop:=m=7\/m=31\/m=127\/m=511
structure Tab (t:SetTable):Prop where
 Wk:Rq t.place.toList
 bnd:∀ j∈t.place.toList,j<=t.mask
 Ut:t.dummies=#[]
 Uu:kO t.mask
 few:t.place.size<=t.mask
theorem Tab.live {t:SetTable} (h:Tab t)  (e:t.place[i]?=some j):t.slot j=.live i:=by
 unfold SetTable.slot
 rw [below_at h.Wk e]
 simp [e]
theorem Tab.empty {t:SetTable} (h:Tab t)  (e:j∉t.place.toList):t.slot j=.empty:=by
 unfold SetTable.slot
 have h1:(t.place[SetTable.below t.place j]?==some j)=false:=by
  rw [Bool.eq_false_iff]
  intro hc
  have hc':=eq_of_beq hc
  exact e (List.mem_iff_getElem?.mpr ⟨_,by rw [Array.getElem?_toList];exact hc'⟩)
 have h2:SetTable.has t.dummies j=false:=by
  rw [h.Ut]
  unfold SetTable.has
  simp
 simp only [h1,h2]
 rfl
theorem Tab.cases {t:SetTable} (h:Tab t) (j:Nat):(j∉t.place.toList/\t.slot j=.empty)\/∃ i,t.place[i]?=some j/\t.slot j=.live i:=by
 by_cases e:j∈t.place.toList
 ·obtain ⟨i,hi⟩:=List.mem_iff_getElem?.mp e
  rw [Array.getElem?_toList] at hi
  exact .inr ⟨i,hi,h.live hi⟩
 ·exact .inl ⟨e,h.empty e⟩
def eO (m:Nat) (p:Probe):Probe:=if p.more > 0 then { p with j:=p.j+1,more:=p.more - 1 } else { p with j:=(SetTable.leap m p.i p.perturb).1,more:=SetTable.runEnd m (SetTable.leap m p.i p.perturb).1 - (SetTable.leap m p.i p.perturb).1,i:=(SetTable.leap m p.i p.perturb).1,perturb:=(SetTable.leap m p.i p.perturb).2 }
theorem K6 (t:SetTable) (p:Probe):t.advance p=eO t.mask p:=by
 unfold SetTable.advance eO
 split <;> rfl
def prs (m:Nat) (p:Probe):Nat->Probe
 | 0=>p
 | n+1=>prs m (eO m p) n
theorem sY (m:Nat):∀ (n:Nat) (p:Probe),prs m p (n+1)=eO m (prs m p n)
 | 0,p=>rfl
 | n+1,p=>by
  show prs m (eO m p) (n+1)=eO m (prs m (eO m p) n)
  exact sY m n (eO m p)
theorem fK (m:Nat) (p:Probe):∀ (a b:Nat),prs m p (a+b)=prs m (prs m p a) b
 | 0,b=>by rw [Nat.zero_add];rfl
 | a+1,b=>by
  rw [show a+1+b=(a+b)+1 by lia]
  show prs m (eO m p) (a+b)=prs m (prs m (eO m p) a) b
  exact fK m (eO m p) a b
def stM (m:Nat) (h:Int):Probe:={ j:=SetTable.bits h % (m+1),more:=SetTable.runEnd m (SetTable.bits h % (m+1)) - SetTable.bits h % (m+1),i:=SetTable.bits h % (m+1),perturb:=SetTable.bits h,dummy:=none }
def Pa (m i pt:Nat) (p:Probe):Prop:=p.j=i/\p.more=SetTable.runEnd m i - i/\p.i=i/\p.perturb=pt
theorem Uv (m i:Nat):SetTable.runEnd m i - i<=9:=by unfold SetTable.runEnd;split <;> lia
theorem wX (m:Nat):∀ (k:Nat) (p:Probe),p.more=k->(prs m p k).more=0/\(prs m p k).i=p.i/\(prs m p k).perturb=p.perturb
 | 0,p,h=>⟨h,rfl,rfl⟩
 | k+1,p,h=>by
  have e:eO m p={ p with j:=p.j+1,more:=p.more - 1 }:=by unfold eO;rw [if_pos (by lia)]
  have ih:=wX m k (eO m p) (by rw [e];show p.more - 1=k;lia)
  rw [e] at ih
  show (prs m (eO m p) k).more=0/\(prs m (eO m p) k).i=p.i/\(prs m (eO m p) k).perturb=p.perturb
  rw [e]
  exact ih
theorem wY {pt:Nat}{p:Probe} (h:Pa m i pt p):∃ n,n<=10/\Pa m ((i * 5+1+pt / 32) % (m+1)) (pt / 32) (prs m p n):=by
 obtain ⟨h1,h2,h3,h4⟩:=h
 obtain ⟨r1,r2,r3⟩:=wX m p.more p rfl
 refine ⟨p.more+1,by rw [h2];have:=Uv m i;lia,?_⟩
 rw [sY]
 unfold eO
 rw [if_neg (by lia)]
 have e1:(SetTable.leap m (prs m p p.more).i (prs m p p.more).perturb)=((i * 5+1+pt / 32) % (m+1),pt / 32):=by
  rw [r2,r3,h3,h4];rfl
 refine ⟨?_,?_,?_,?_⟩
 ·show (SetTable.leap m (prs m p p.more).i (prs m p p.more).perturb).1=_
  rw [e1]
 ·show SetTable.runEnd m (SetTable.leap m (prs m p p.more).i (prs m p p.more).perturb).1 - (SetTable.leap m (prs m p p.more).i (prs m p p.more).perturb).1=_
  rw [e1]
 ·show (SetTable.leap m (prs m p p.more).i (prs m p p.more).perturb).1=_
  rw [e1]
 ·show (SetTable.leap m (prs m p p.more).i (prs m p p.more).perturb).2=_
  rw [e1]
def K7 (m:Nat):Nat->Nat->Nat
 | 0,i=>i
 | n+1,i=>K7 m n ((i * 5+1) % (m+1))
theorem qH (m:Nat):∀ (a b i:Nat),K7 m (a+b) i=K7 m b (K7 m a i)
 | 0,b,i=>by rw [Nat.zero_add];rfl
 | a+1,b,i=>by
  rw [show a+1+b=(a+b)+1 by lia]
  exact qH m a b _
theorem Rt:∀ (L i pt:Nat) (p:Probe),Pa m i pt p->∃ n i',n<=10 * L/\Pa m i' (pt / 32 ^ L) (prs m p n)/\(0<L->i'<=m)
 | 0,i,pt,p,h=>⟨0,i,by lia,by rw [Nat.pow_zero,Nat.div_one];exact h,fun z=>absurd z (Nat.lt_irrefl _)⟩
 | L+1,i,pt,p,h=>by
  obtain ⟨n,hn,h1⟩:=wY h
  obtain ⟨n',i',hn',h2,h3⟩:=Rt L _ _ _ h1
  refine ⟨n+n',i',by lia,?_,fun _=>?_⟩
  ·rw [fK,Nat.pow_succ,Nat.mul_comm,<- Nat.div_div_eq_div_mul]
   exact h2
  ·by_cases hL:0<L
   ·exact h3 hL
   ·have e:L=0:=by lia
    subst e
    have e0:n'=0:=by lia
    subst e0
    have:=h2.1
    rw [show (prs m (prs m p n) 0)=prs m p n from rfl,h1.1] at this
    rw [<- this]
    exact Nat.lt_succ_iff.mp (Nat.mod_lt _ (Nat.succ_pos _))
theorem zeros:∀ (L i:Nat) (p:Probe),Pa m i 0 p->∃ n,n<=10 * L/\Pa m (K7 m L i) 0 (prs m p n)
 | 0,i,p,h=>⟨0,by lia,h⟩
 | L+1,i,p,h=>by
  obtain ⟨n,hn,h1⟩:=wY h
  rw [Nat.zero_div,Nat.add_zero] at h1
  obtain ⟨n',hn',h2⟩:=zeros L _ _ h1
  exact ⟨n+n',by lia,by rw [fK];exact h2⟩
def orb (m:Nat):Nat->Nat->List Nat
 | 0,_=>[]
 | n+1,i=>i::orb m n ((i * 5+1) % (m+1))
theorem K8 (m:Nat):∀ {n i x:Nat},x∈orb m n i->∃ a,a<n/\K7 m a i=x
 | 0,i,x,h=>by cases h
 | n+1,i,x,h=>by
  rcases List.mem_cons.mp h with e | h
  ·exact ⟨0,Nat.succ_pos _,e.symm⟩
  ·obtain ⟨a,ha,e⟩:=K8 m h
   exact ⟨a+1,by lia,e⟩
def Ru (m:Nat):Bool:=(List.range (m+1)).all (fun x=>(orb m (m+1) 0).contains x)&&K7 m (m+1) 0==0
theorem DX:Ru 511=true:=by decide +kernel
theorem Rv:Ru 7=true:=by decide +kernel
theorem K9:Ru 31=true:=by decide +kernel
theorem DY:Ru 127=true:=by decide +kernel
theorem Ka (h:Ru m=true) {x y:Nat} (hx:x<=m) (hy:y<=m):∃ q,q<=m/\K7 m q x=y:=by
 unfold Ru at h
 rw [Bool.and_eq_true] at h
 obtain ⟨h1,h2⟩:=h
 have h2':K7 m (m+1) 0=0:=eq_of_beq h2
 have get:∀ x,x<=m->∃ a,a<=m/\K7 m a 0=x:=fun x hx=>by
  have:=List.all_eq_true.mp h1 x (List.mem_range.mpr (by lia))
  obtain ⟨a,ha,e⟩:=K8 m (List.contains_iff_mem.mp this)
  exact ⟨a,by lia,e⟩
 obtain ⟨a,ha,ea⟩:=get x hx
 obtain ⟨b,hb,eb⟩:=get y hy
 by_cases hab:a<=b
 ·refine ⟨b - a,by lia,?_⟩
  rw [<- ea,<- qH,show a+(b - a)=b by lia]
  exact eb
 ·refine ⟨m+1 - a+b,by lia,?_⟩
  rw [<- ea,<- qH,show a+(m+1 - a+b)=(m+1)+b by lia,qH,h2']
  exact eb
theorem Ea (h:Int):SetTable.bits h<2 ^ 64:=by
 unfold SetTable.bits
 have h1:=Int.emod_nonneg h (show (2 ^ 64:Int)≠0 by decide)
 have h2:=Int.emod_lt_of_pos h (show (0:Int)<2 ^ 64 by decide)
 have h3:(2:Int) ^ 64=((2 ^ 64:Nat):Int):=by decide
 lia
theorem Gy (hm:kO m) (h:Int) {y:Nat} (hy:y<=m):∃ n,n<10 * (m+15)/\(prs m (stM m h) n).j=y:=by
 have hc:Ru m=true:=by
  rcases hm with e | e | e | e <;> rw [e]
  ·exact Rv
  ·exact K9
  ·exact DY
  ·exact DX
 have s0:Pa m (SetTable.bits h % (m+1)) (SetTable.bits h) (stM m h):=⟨rfl,rfl,rfl,rfl⟩
 obtain ⟨n1,i1,hn1,h1,hi1⟩:=Rt 13 _ _ _ s0
 have z:SetTable.bits h / 32 ^ 13=0:=Nat.div_eq_of_lt (Nat.lt_trans (Ea h) (by decide))
 rw [z] at h1
 obtain ⟨q,hq,eq⟩:=Ka hc (hi1 (by decide)) hy
 obtain ⟨n2,hn2,h2⟩:=zeros q _ _ h1
 rw [eq] at h2
 exact ⟨n1+n2,by lia,by rw [fK];exact h2.1⟩
theorem sub_len {xs ys:List Nat} (hx:xs.Nodup) (h:∀ x∈xs,x∈ys):xs.length<=ys.length:=by
 induction xs generalizing ys with
 | nil=>exact Nat.zero_le _
 | cons x r ih =>
  have h1:=List.nodup_cons.mp hx
  have hm:=h x List.mem_cons_self
  have:=ih (ys:=ys.erase x) h1.2 fun y hy=>by
   have hne:y≠x:=fun e=>h1.1 (e ▸ hy)
   exact (List.mem_erase_of_ne hne).mpr (h y (mD _ hy))
  rw [List.length_erase_of_mem hm] at this
  have hp:=List.length_pos_of_mem hm
  rw [jK]
  lia
theorem Tab.hole {t:SetTable} (h:Tab t):∃ y,y<=t.mask/\y∉t.place.toList:=by
 apply Classical.byContradiction
 intro hn
 have all:∀ x∈List.range (t.mask+1),x∈t.place.toList:=fun x hx=>by
  apply Classical.byContradiction
  intro hx'
  exact hn ⟨x,by have:=List.mem_range.mp hx;lia,hx'⟩
 have:=sub_len List.nodup_range all
 rw [List.length_range,Array.length_toList] at this
 have:=h.few
 lia
theorem v9 (m:Nat) (p:Probe):(eO m p).dummy=p.dummy:=by unfold eO;split <;> rfl
theorem vd (m:Nat):∀ (n:Nat) (p:Probe),(prs m p n).dummy=p.dummy
 | 0,p=>rfl
 | n+1,p=>by
  show (prs m (eO m p) n).dummy=p.dummy
  rw [vd m n,v9]
theorem Eb {t:SetTable} (T:Tab t) (hashAt:Nat->Int) (h:Int):∀ (fuel:Nat) (p:Probe),p.dummy=none->(∃ n,n<fuel/\(prs t.mask p n).j∉t.place.toList) ->
  ∃ n,n<fuel/\(∀ k,k<n->∃ i,t.place[i]?=some (prs t.mask p k).j/\hashAt i≠h) /\
   (((prs t.mask p n).j∉t.place.toList/\SetTable.probe.go t hashAt h fuel p=some (.empty (prs t.mask p n).j none)) \/
    ∃ i,t.place[i]?=some (prs t.mask p n).j/\hashAt i=h/\SetTable.probe.go t hashAt h fuel p=some (.candidate (prs t.mask p n).j i (prs t.mask p (n+1))))
 | 0,p,hd,⟨n,hn,_⟩=>absurd hn (Nat.not_lt_zero _)
 | fuel+1,p,hd,⟨n,hn,he⟩=>by
  rcases T.cases p.j with ⟨h1,h2⟩ | ⟨i,h1,h2⟩
  ·refine ⟨0,Nat.succ_pos _,fun k hk=>absurd hk (Nat.not_lt_zero _),.inl ⟨h1,?_⟩⟩
   show SetTable.probe.go t hashAt h (fuel+1) p=_
   rw [SetTable.probe.go,h2,hd];rfl
  ·by_cases hh:hashAt i=h
   ·refine ⟨0,Nat.succ_pos _,fun k hk=>absurd hk (Nat.not_lt_zero _),.inr ⟨i,h1,hh,?_⟩⟩
    rw [SetTable.probe.go,h2]
    show (if (hashAt i==h)=true then _ else _)=_
    rw [if_pos (by rw [hh];exact beq_self_eq_true _),K6];rfl
   ·have hn0:n≠0:=fun e=>by
     subst e
     exact he (List.mem_iff_getElem?.mpr ⟨i,by rw [Array.getElem?_toList];exact h1⟩)
    obtain ⟨n',rfl⟩:∃ n',n=n'+1:=⟨n - 1,by lia⟩
    obtain ⟨k,hk,hk1,hk2⟩:=Eb T hashAt h fuel (eO t.mask p) (by rw [v9];exact hd) ⟨n',by lia,he⟩
    have eg:SetTable.probe.go t hashAt h (fuel+1) p=SetTable.probe.go t hashAt h fuel (eO t.mask p):=by
     rw [SetTable.probe.go,h2]
     show (if (hashAt i==h)=true then _ else _)=_
     rw [if_neg (by simpa using hh),K6]
    refine ⟨k+1,by lia,fun k' hk'=>?_,?_⟩
    ·cases k' with
     | zero=>exact ⟨i,h1,hh⟩
     | succ k''=>exact hk1 k'' (by lia)
    ·rw [eg]
     exact hk2
def Wm (m:Nat) (O:List Nat) (h:Int) (y:Nat):Prop:=∃ n,(prs m (stM m h) n).j=y/\∀ k,k<n->(prs m (stM m h) k).j∈O
theorem Wm.mono {O O':List Nat}{h:Int}{y:Nat} (r:Wm m O h y) (s:∀ x∈O,x∈O'):Wm m O' h y:=by
 obtain ⟨n,h1,h2⟩:=r
 exact ⟨n,h1,fun k hk=>s _ (h2 k hk)⟩
structure Gz (t:SetTable) (hs:List Int):Prop where
 tab:Tab t
 len:hs.length=t.place.size
 rch:∀ (i:Nat) (h:Int) (y:Nat),hs[i]?=some h->t.place[i]?=some y->Wm t.mask t.place.toList h y
theorem Tab.first {t:SetTable} (T:Tab t) (h:Int):∃ n,n<10 * (t.mask+15)/\(prs t.mask (stM t.mask h) n).j∉t.place.toList/\∀ k,k<n->(prs t.mask (stM t.mask h) k).j∈t.place.toList:=by
 obtain ⟨y,hy,hny⟩:=T.hole
 obtain ⟨n,hn,e⟩:=Gy T.Uu h hy
 have key:∀ n,(prs t.mask (stM t.mask h) n).j∉t.place.toList->∃ m,m<=n/\(prs t.mask (stM t.mask h) m).j∉t.place.toList/\∀ k,k<m->(prs t.mask (stM t.mask h) k).j∈t.place.toList:=by
  intro n
  induction n using Nat.strongRecOn with
  | _ n ih =>
   intro hn
   by_cases hall:∀ k,k<n->(prs t.mask (stM t.mask h) k).j∈t.place.toList
   ·exact ⟨n,Nat.le_refl _,hn,hall⟩
   ·obtain ⟨k,hk⟩:=Classical.not_forall.mp hall
    obtain ⟨hk1,hk2⟩:=Classical.not_imp.mp hk
    obtain ⟨m,hm,h1,h2⟩:=ih k hk1 hk2
    exact ⟨m,by lia,h1,h2⟩
 obtain ⟨m,hm,h1,h2⟩:=key n (by rw [e];exact hny)
 exact ⟨m,by lia,h1,h2⟩
theorem jg {α:Type} (xs:Array α) (p:Nat) (x:α):(SetTable.insertAt xs p x).toList=xs.toList.take p++x::xs.toList.drop p:=SetTable.toList_insertAt xs p x
theorem Bs {xs:Array Nat} (hs:Rq xs.toList) (hj:j∉xs.toList):Rq (SetTable.insertAt xs (SetTable.below xs j) j).toList:=by
 obtain ⟨b1,b2,b3⟩:=sX j hs
 have gd:∀ m (hm:m<xs.size),xs.getD m 0=xs[m]:=fun m hm=>by rw [Array.getD_eq_getD_getElem?,Array.getElem?_eq_getElem hm];rfl
 rw [jg]
 have e:xs.toList=xs.toList.take (SetTable.below xs j)++xs.toList.drop (SetTable.below xs j):=(List.take_append_drop _ _).symm
 unfold Rq at hs ⊢
 rw [e] at hs
 obtain ⟨p1,p2,p3⟩:=List.pairwise_append.mp hs
 refine List.pairwise_append.mpr ⟨p1,List.pairwise_cons.mpr ⟨fun y hy=>?_,p2⟩,fun x hx y hy=>?_⟩
 ·obtain ⟨m,hm⟩:=List.mem_iff_getElem?.mp hy
  rw [List.getElem?_drop,Array.getElem?_toList] at hm
  obtain ⟨hlt,hv⟩:=Array.getElem?_eq_some_iff.mp hm
  have:=b3 (SetTable.below xs j+m) (by lia) hlt
  rw [gd _ hlt,hv] at this
  have hne:y≠j:=fun e=>hj (e ▸ (List.mem_iff_getElem?.mpr ⟨_,by rw [Array.getElem?_toList];exact hm⟩))
  lia
 ·have hxj:x<j:=by
   obtain ⟨m,hm⟩:=List.mem_iff_getElem?.mp hx
   rw [List.getElem?_take] at hm
   split at hm
   ·rename_i hlt
    rw [Array.getElem?_toList] at hm
    obtain ⟨hl,hv⟩:=Array.getElem?_eq_some_iff.mp hm
    have:=b2 m hlt
    rw [gd _ hl,hv] at this
    exact this
   ·cases hm
  rcases List.mem_cons.mp hy with e | hy
  ·rw [e];exact hxj
  ·exact p3 x hx y hy
theorem Pb {t:SetTable} (T:Gz t hs) {h:Int} (hj:j<=t.mask) (hnew:j∉t.place.toList) (hr:Wm t.mask t.place.toList h j) (hroom:t.place.size+1<=t.mask) :
  Gz (t.put j).1 (hs.take (t.put j).2++h::hs.drop (t.put j).2)/\(t.put j).1.mask=t.mask/\(t.put j).1.led=t.led/\(t.put j).1.plain=t.plain/\(t.put j).1.place.size=t.place.size+1/\(t.put j).2<=hs.length:=by
 have hd:SetTable.has t.dummies j=false:=by
  rw [T.tab.Ut];unfold SetTable.has;simp
 have e1:(t.put j).1={ t with place:=SetTable.insertAt t.place (SetTable.below t.place j) j }:=by
  unfold SetTable.put
  simp only [hd]
  rfl
 have e2:(t.put j).2=SetTable.below t.place j:=rfl
 obtain ⟨b1,b2,b3⟩:=sX j T.tab.Wk
 have hl:=T.len
 have psz:(SetTable.insertAt t.place (SetTable.below t.place j) j).size=t.place.size+1:=by
  rw [<- Array.length_toList,jg,iY,jK,List.length_take,List.length_drop,Array.length_toList]
  lia
 rw [e1,e2]
 refine ⟨⟨⟨Bs T.tab.Wk hnew,fun x hx=>?_,T.tab.Ut,T.tab.Uu,?_⟩,?_,fun i h' y hh hy=>?_⟩,rfl,rfl,rfl,psz,by lia⟩
 ·rw [jg] at hx
  rcases List.mem_append.mp hx with hx | hx
  ·exact T.tab.bnd x (List.mem_of_mem_take hx)
  ·rcases List.mem_cons.mp hx with e | hx
   ·rw [e];exact hj
   ·exact T.tab.bnd x (List.mem_of_mem_drop hx)
 ·show (SetTable.insertAt t.place (SetTable.below t.place j) j).size<=t.mask
  rw [psz];exact hroom
 ·show (hs.take (SetTable.below t.place j)++h::hs.drop (SetTable.below t.place j)).length=(SetTable.insertAt t.place (SetTable.below t.place j) j).size
  rw [psz,iY,jK,List.length_take,List.length_drop]
  lia
 ·have hy':(t.place.toList.take (SetTable.below t.place j)++j::t.place.toList.drop (SetTable.below t.place j))[i]?=some y:=by
   rw [<- jg,Array.getElem?_toList];exact hy
  have sub:∀ x∈t.place.toList,x∈(SetTable.insertAt t.place (SetTable.below t.place j) j).toList:=fun x hx=>by
   rw [jg]
   have e:t.place.toList=t.place.toList.take (SetTable.below t.place j)++t.place.toList.drop (SetTable.below t.place j):=(List.take_append_drop _ _).symm
   rw [e] at hx
   rcases List.mem_append.mp hx with hx | hx
   ·exact List.mem_append_left _ hx
   ·exact List.mem_append_right _ (mD _ hx)
  show Wm t.mask (SetTable.insertAt t.place (SetTable.below t.place j) j).toList h' y
  have lt1:(hs.take (SetTable.below t.place j)).length=SetTable.below t.place j:=by rw [List.length_take];lia
  have lt2:(t.place.toList.take (SetTable.below t.place j)).length=SetTable.below t.place j:=by rw [List.length_take,Array.length_toList];lia
  by_cases c1:i<SetTable.below t.place j
  ·rw [List.getElem?_append_left (by lia),List.getElem?_take,if_pos c1] at hh hy'
   exact (T.rch i h' y hh (by rw [<- Array.getElem?_toList];exact hy')).mono sub
  ·rw [List.getElem?_append_right (by lia)] at hh hy'
   rw [lt1] at hh
   rw [lt2] at hy'
   by_cases c2:i=SetTable.below t.place j
   ·rw [c2,Nat.sub_self,List.getElem?_cons_zero] at hh hy'
    rw [<- Option.some.inj hh,<- Option.some.inj hy']
    exact hr.mono sub
   ·obtain ⟨k,hk⟩:∃ k,i - SetTable.below t.place j=k+1:=⟨i - SetTable.below t.place j - 1,by lia⟩
    rw [hk,List.getElem?_cons_succ,List.getElem?_drop] at hh hy'
    exact (T.rch _ h' y hh (by rw [<- Array.getElem?_toList];exact hy')).mono sub
def hdI (m:Nat):Nat->Nat->Nat->Nat×Nat
 | 0,i,pt=>(i,pt)
 | L+1,i,pt=>hdI m L ((i * 5+1+pt / 32) % (m+1)) (pt / 32)
theorem Ec (m:Nat):∀ (a b i pt:Nat),hdI m (a+b) i pt=hdI m b (hdI m a i pt).1 (hdI m a i pt).2
 | 0,b,i,pt=>by rw [Nat.zero_add];rfl
 | a+1,b,i,pt=>by
  rw [show a+1+b=(a+b)+1 by lia]
  exact Ec m a b _ _
theorem Kc (m:Nat):∀ (L i pt:Nat),(hdI m L i pt).2=pt / 32 ^ L
 | 0,i,pt=>by rw [Nat.pow_zero,Nat.div_one];rfl
 | L+1,i,pt=>by
  show (hdI m L _ (pt / 32)).2=_
  rw [Kc m L,Nat.div_div_eq_div_mul,Nat.pow_succ,Nat.mul_comm]
theorem zf (m:Nat):∀ (L i:Nat),hdI m L i 0=(K7 m L i,0)
 | 0,i=>rfl
 | L+1,i=>by
  show hdI m L ((i * 5+1+0 / 32) % (m+1)) (0 / 32)=_
  rw [Nat.zero_div,Nat.add_zero,zf m L];rfl
theorem Kd (m:Nat):∀ (L i pt:Nat),i<=m->(hdI m L i pt).1<=m
 | 0,i,pt,h=>h
 | L+1,i,pt,h=>Kd m L _ _ (Nat.lt_succ_iff.mp (Nat.mod_lt _ (Nat.succ_pos _)))
theorem Ke (hm:kO m) (h:Int) {y:Nat} (hy:y<=m):∃ L,L<m+15/\(hdI m L (SetTable.bits h % (m+1)) (SetTable.bits h)).1=y:=by
 have hc:Ru m=true:=by
  rcases hm with e | e | e | e <;> rw [e]
  ·exact Rv
  ·exact K9
  ·exact DY
  ·exact DX
 have h0:SetTable.bits h % (m+1)<=m:=Nat.lt_succ_iff.mp (Nat.mod_lt _ (Nat.succ_pos _))
 have z:SetTable.bits h / 32 ^ 13=0:=Nat.div_eq_of_lt (Nat.lt_trans (Ea h) (by decide))
 obtain ⟨q,hq,eq⟩:=Ka hc (Kd m 13 _ (SetTable.bits h) h0) hy
 refine ⟨13+q,by lia,?_⟩
 rw [Ec,Kc,z,zf]
 exact eq
theorem Ed (m:Nat):∀ (k:Nat) (p:Probe),k<=p.more->(prs m p k).j=p.j+k
 | 0,p,_=>rfl
 | k+1,p,h=>by
  have e:eO m p={ p with j:=p.j+1,more:=p.more - 1 }:=by unfold eO;rw [if_pos (by lia)]
  show (prs m (eO m p) k).j=_
  rw [Ed m k (eO m p) (by rw [e];show k<=p.more - 1;lia),e]
  show p.j+1+k=p.j+(k+1)
  lia
theorem wZ (h:i<=m):SetTable.runEnd m i<=m/\i<=SetTable.runEnd m i:=by unfold SetTable.runEnd;split <;> lia
def RchP (m:Nat) (O:Nat->Prop) (h:Int) (y:Nat):Prop:=∃ n,(prs m (stM m h) n).j=y/\∀ k,k<n->O (prs m (stM m h) k).j
def taken (o:Array (Option Nat)) (j:Nat):Prop:=(o.getD j (some 0)).isNone=false
theorem zj {o:Array (Option Nat)}:∀ (fuel i pt:Nat) (p:Probe) (y:Nat),i<=m->Pa m i pt p->SetTable.layClean.free m o fuel i pt=some y->y<=m/\(o.getD y (some 0)).isNone=true/\∃ n,(prs m p n).j=y/\∀ k,k<n->taken o (prs m p k).j
 | 0,i,pt,p,y,_,_,h=>by cases h
 | fuel+1,i,pt,p,y,hi,ha,h=>by
  obtain ⟨a1,a2,a3,a4⟩:=ha
  obtain ⟨r1,r2⟩:=wZ hi
  rw [SetTable.layClean.free] at h
  split at h
  ·rename_i k hk
   injection h with h
   subst h
   have hmem:=List.mem_of_find?_eq_some hk
   have hkr:=List.mem_range.mp hmem
   have hpk:=List.find?_some hk
   refine ⟨by lia,hpk,k,by rw [Ed m k p (by lia),a1],fun k' hk'=>?_⟩
   rw [Ed m k' p (by lia),a1]
   have:=List.find?_range_eq_some.mp hk
   have h3:=this.2.2 k' hk'
   unfold taken
   simpa using h3
  ·rename_i hn
   have hall:=List.find?_eq_none.mp hn
   have hoff:=wY (m:=m) (i:=i) (pt:=pt) (p:=p) ⟨a1,a2,a3,a4⟩
   have hlp:(SetTable.leap m i pt)=((i * 5+1+pt / 32) % (m+1),pt / 32):=rfl
   obtain ⟨ro1,ro2,ro3⟩:=wX m p.more p rfl
   have hat:Pa m ((i * 5+1+pt / 32) % (m+1)) (pt / 32) (prs m p (p.more+1)):=by
    rw [sY]
    unfold eO
    rw [if_neg (by lia)]
    have e1:(SetTable.leap m (prs m p p.more).i (prs m p p.more).perturb)=((i * 5+1+pt / 32) % (m+1),pt / 32):=by
     rw [ro2,ro3,a3,a4];rfl
    exact ⟨by rw [e1],by rw [e1],by rw [e1],by rw [e1]⟩
   obtain ⟨c1,c2,n,c3,c4⟩:=zj fuel _ _ (prs m p (p.more+1)) y (Nat.lt_succ_iff.mp (Nat.mod_lt _ (Nat.succ_pos _))) hat h
   refine ⟨c1,c2,(p.more+1)+n,by rw [fK];exact c3,fun k hk=>?_⟩
   by_cases hkl:k<p.more+1
   ·rw [Ed m k p (by lia),a1]
    exact Bool.eq_false_iff.mpr (hall k (List.mem_range.mpr (by lia)))
   ·obtain ⟨k',rfl⟩:∃ k',k=(p.more+1)+k':=⟨k - (p.more+1),by lia⟩
    rw [fK]
    exact c4 k' (by lia)
theorem vf {o:Array (Option Nat)}:∀ (L fuel i pt:Nat),i<=m->L<fuel->(o.getD (hdI m L i pt).1 (some 0)).isNone=true->∃ y,SetTable.layClean.free m o fuel i pt=some y
 | L,0,i,pt,_,hL,_=>absurd hL (Nat.not_lt_zero _)
 | L,fuel+1,i,pt,hi,hL,h=>by
  obtain ⟨r1,r2⟩:=wZ hi
  rw [SetTable.layClean.free]
  split
  ·exact ⟨_,rfl⟩
  ·rename_i hn
   have hall:=List.find?_eq_none.mp hn
   cases L with
   | zero =>
    have:=hall 0 (List.mem_range.mpr (by lia))
    exact absurd (show (o.getD (i+0) (some 0)).isNone=true from h) this
   | succ L=>exact vf L fuel _ _ (Nat.lt_succ_iff.mp (Nat.mod_lt _ (Nat.succ_pos _))) (by lia) h
def cnt (l:List (Option Nat)):Nat:=(l.filter Option.isSome).length
theorem Ef:∀ {l:List (Option Nat)}{y k:Nat},l[y]?=some none->cnt (l.set y (some k))=cnt l+1
 | [],y,k,h=>by cases h
 | x::r,0,k,h=>by
  have e:x=none:=by simpa using h
  subst e
  rfl
 | x::r,y+1,k,h=>by
  have ih:=Ef (l:=r) (y:=y) (k:=k) (by simpa using h)
  unfold cnt at ih ⊢
  show (List.filter Option.isSome (x::r.set y (some k))).length=_
  cases x with
  | none=>simpa using ih
  | some v=>simp [ih]
theorem Uw {l:List (Option Nat)} (h:cnt l<l.length):∃ y:Nat,l[y]?=some none:=by
 induction l with
 | nil=>cases h
 | cons x r ih =>
  cases x with
  | none=>exact ⟨0,rfl⟩
  | some v =>
   have:cnt (some v::r)=cnt r+1:=rfl
   rw [this,jK] at h
   obtain ⟨y,hy⟩:=ih (by lia)
   exact ⟨y+1,by simpa using hy⟩
theorem getD_at {o:Array (Option Nat)}{y:Nat} (hy:y<o.size):o.getD y (some 0)=o[y]:=by
 rw [Array.getD_eq_getD_getElem?,Array.getElem?_eq_getElem hy];rfl
structure Own (m:Nat) (hs:List Int) (o:Array (Option Nat)):Prop where
 size:o.size=m+1
 cnt:cnt o.toList=hs.length
 at_:∀ (y k:Nat),o[y]?=some (some k)->∃ h,hs[k]?=some h/\RchP m (taken o) h y
 all:∀ k,k<hs.length->∃ y:Nat,o[y]?=some (some k)
theorem vg {o:Array (Option Nat)}{y k:Nat} (h:taken o j):taken (o.setIfInBounds y (some k)) j:=by
 unfold taken at h ⊢
 rw [Array.getD_eq_getD_getElem?] at h ⊢
 rw [Array.getElem?_setIfInBounds]
 split
 ·split
  ·rfl
  ·rfl
 ·exact h
theorem Kf (hm:kO m) {o:Array (Option Nat)} (O:Own m hs o) (h:Int) (hl:hs.length<m+1):∃ y,SetTable.layClean.free m o (SetTable.turns m) (SetTable.bits h % (m+1)) (SetTable.bits h)=some y/\Own m (hs++[h]) (o.setIfInBounds y (some hs.length)):=by
 have h0:SetTable.bits h % (m+1)<=m:=Nat.lt_succ_iff.mp (Nat.mod_lt _ (Nat.succ_pos _))
 obtain ⟨y0,hy0⟩:=Uw (l:=o.toList) (by rw [O.cnt];have:=O.size;rw [show o.toList.length=o.size from Array.length_toList];lia)
 have hy0l:y0<o.size:=by
  rw [Array.getElem?_toList] at hy0
  exact (Array.getElem?_eq_some_iff.mp hy0).1
 have hy0n:(o.getD y0 (some 0)).isNone=true:=by
  rw [Array.getElem?_toList] at hy0
  rw [Array.getD_eq_getD_getElem?,hy0];rfl
 obtain ⟨L,hL,eL⟩:=Ke hm h (y:=y0) (by have:=O.size;lia)
 obtain ⟨y,hy⟩:=vf L (SetTable.turns m) (SetTable.bits h % (m+1)) (SetTable.bits h) h0 hL (by rw [eL];exact hy0n)
 obtain ⟨w1,w2,n,w3,w4⟩:=zj _ _ _ (stM m h) y h0 ⟨rfl,rfl,rfl,rfl⟩ hy
 have hyl:y<o.size:=by have:=O.size;lia
 have hyn:o[y]?=some none:=by
  rw [getD_at hyl] at w2
  rw [Array.getElem?_eq_getElem hyl]
  cases e:o[y] with
  | none=>rfl
  | some v=>rw [e] at w2;cases w2
 refine ⟨y,hy,⟨by rw [Array.size_setIfInBounds];exact O.size,?_,fun y' k hk=>?_,fun k hk=>?_⟩⟩
 ·rw [Array.toList_setIfInBounds,Ef (by rw [Array.getElem?_toList];exact hyn),O.cnt,iY];rfl
 ·rw [Array.getElem?_setIfInBounds] at hk
  split at hk
  ·rename_i e
   subst e
   injection hk with hk
   injection hk with hk
   subst hk
   exact ⟨h,by simp,n,w3,fun k hk=>vg (w4 k hk)⟩
  ·obtain ⟨h',e1,n',e2,e3⟩:=O.at_ y' k hk
   have hkl:k<hs.length:=(List.getElem?_eq_some_iff.mp e1).1
   exact ⟨h',by rw [List.getElem?_append_left hkl];exact e1,n',e2,fun q hq=>vg (e3 q hq)⟩
 ·rw [iY,List.length_singleton] at hk
  by_cases e:k=hs.length
  ·exact ⟨y,by rw [Array.getElem?_setIfInBounds,if_pos rfl,if_pos hyl,e]⟩
  ·obtain ⟨y',hy'⟩:=O.all k (by lia)
   refine ⟨y',?_⟩
   rw [Array.getElem?_setIfInBounds]
   have hne:¬ y=y':=fun e2=>by subst e2;rw [hyn] at hy';injection hy' with hy';cases hy'
   rw [if_neg hne]
   exact hy'
theorem Pg (m:Nat):Own m [] (Array.replicate (m+1) none):=by
 refine ⟨by simp,?_,fun y k h=>?_,fun k hk=>absurd hk (Nat.not_lt_zero _)⟩
 ·rw [Array.toList_replicate]
  unfold cnt
  rw [List.filter_replicate]
  rfl
 ·rw [Array.getElem?_replicate] at h
  split at h
  ·injection h with h;cases h
  ·cases h
def nQ (m:Nat) (acc:Option (Array (Option Nat)×Nat)) (h:Int):Option (Array (Option Nat)×Nat):=do
  let (owner,k) <- acc
  let j <- SetTable.layClean.free m owner (SetTable.turns m) (SetTable.bits h % (m+1)) (SetTable.bits h)
  pure (owner.setIfInBounds j (some k),k+1)
theorem zm (hm:kO m):∀ (more hs:List Int) (o:Array (Option Nat)),Own m hs o->hs.length+more.length<=m+1->∃ o',more.foldl (nQ m) (some (o,hs.length))=some (o',(hs++more).length)/\Own m (hs++more) o'
 | [],hs,o,O,_=>⟨o,by simp,by rw [List.append_nil];exact O⟩
 | h::r,hs,o,O,hl=>by
  rw [jK] at hl
  obtain ⟨y,hy,O'⟩:=Kf hm O h (by lia)
  obtain ⟨o',e,O2⟩:=zm hm r (hs++[h]) _ O' (by rw [iY,List.length_singleton];lia)
  refine ⟨o',?_,?_⟩
  ·have es:nQ m (some (o,hs.length)) h=some (o.setIfInBounds y (some hs.length),(hs++[h]).length):=by
    unfold nQ
    show (SetTable.layClean.free m o (SetTable.turns m) (SetTable.bits h % (m+1)) (SetTable.bits h)).bind _=_
    rw [hy,iY];rfl
   rw [List.foldl_cons,es,e,List.append_assoc];rfl
  ·rw [List.append_assoc] at O2;exact O2
theorem GC (hm:kO m) {hs:Array Int} (hl:hs.size<=m+1):∃ o,SetTable.layClean m hs=some o/\Own m hs.toList o:=by
 obtain ⟨o,e,O⟩:=zm hm hs.toList [] _ (Pg m) (by rw [Array.length_toList];simpa using hl)
 refine ⟨o,?_,by simpa using O⟩
 unfold SetTable.layClean
 have e':hs.foldl (nQ m) (some (Array.replicate (m+1) none,0))=some (o,([]++hs.toList).length):=by
  rw [<- Array.foldl_toList];exact e
 show (hs.foldl (nQ m) (some (Array.replicate (m+1) none,0))).map (·.1)=some o
 rw [e'];rfl
def gw (o:Array (Option Nat)) (n:Nat):List (Nat×Nat):=(List.range n).filterMap fun j=>(o.getD j none).map (j,·)
theorem kW {o:Array (Option Nat)}{y k:Nat}:(y,k)∈gw o n↔y<n/\o[y]?=some (some k):=by
 unfold gw
 rw [List.mem_filterMap]
 constructor
 ·rintro ⟨j,hj,e⟩
  rw [Array.getD_eq_getD_getElem?] at e
  cases h:o[j]? with
  | none=>rw [h] at e;cases e
  | some v =>
   rw [h] at e
   cases v with
   | none=>cases e
   | some w =>
    injection e with e
    injection e with e1 e2
    subst e1 e2
    exact ⟨List.mem_range.mp hj,h⟩
 ·rintro ⟨h1,h2⟩
  exact ⟨y,List.mem_range.mpr h1,by rw [Array.getD_eq_getD_getElem?,h2];rfl⟩
theorem pR (o:Array (Option Nat)):∀ n,((gw o n).map (·.1)).Pairwise (·<·)
 | 0=>List.Pairwise.nil
 | n+1=>by
  have e:gw o (n+1)=gw o n++(match (o.getD n none).map (n,·) with | some v=>[v] | none=>[]):=by
   unfold gw
   rw [List.range_succ,List.filterMap_append]
   congr 1
   rw [List.filterMap_cons,List.filterMap_nil]
   cases (o.getD n none).map (n,·) <;> rfl
  rw [e,lR]
  refine List.pairwise_append.mpr ⟨pR o n,?_,fun x hx y hy=>?_⟩
  ·cases (o.getD n none).map (n,·) <;> simp
  ·obtain ⟨⟨a,b⟩,ha,rfl⟩:=List.mem_map.mp hx
   have:=(kW.mp ha).1
   cases h:o.getD n none with
   | none=>rw [h] at hy;cases hy
   | some v =>
    rw [h] at hy
    have:y=n:=by simpa using hy
    lia
theorem zp {o:Array (Option Nat)}:∀ n,n<=o.size->(gw o n).length=cnt (o.toList.take n)
 | 0,_=>rfl
 | n+1,h=>by
  have hn:n<o.size:=by lia
  have e:gw o (n+1)=gw o n++(match (o.getD n none).map (n,·) with | some v=>[v] | none=>[]):=by
   unfold gw
   rw [List.range_succ,List.filterMap_append]
   congr 1
   rw [List.filterMap_cons,List.filterMap_nil]
   cases (o.getD n none).map (n,·) <;> rfl
  have eg:o.getD n none=o[n]:=by rw [Array.getD_eq_getD_getElem?,Array.getElem?_eq_getElem hn];rfl
  rw [e,iY,zp n (by lia),List.take_add_one,Array.getElem?_toList,Array.getElem?_eq_getElem hn]
  unfold cnt
  rw [List.filter_append,iY,eg]
  cases o[n] with
  | none=>rfl
  | some v=>rfl
theorem zu:∀ {xs ys:List Nat},xs.Nodup->(∀ x∈xs,x∈ys)->ys.length<=xs.length->xs.Perm ys
 | [],ys,_,_,hl=>by
  have e:ys=[]:=List.length_eq_zero_iff.mp (Nat.le_zero.mp hl)
  rw [e]
 | x::r,ys,hx,h,hl=>by
  have h1:=List.nodup_cons.mp hx
  have hm:=h x List.mem_cons_self
  have ih:=zu (xs:=r) (ys:=ys.erase x) h1.2 (fun y hy=>by
   have hne:y≠x:=fun e=>h1.1 (e ▸ hy)
   exact (List.mem_erase_of_ne hne).mpr (h y (mD _ hy))) (by
   rw [List.length_erase_of_mem hm]
   rw [jK] at hl
   lia)
  exact (List.Perm.cons x ih).trans (List.perm_cons_erase hm).symm
theorem Ux {p:Probe} (h:p.j+p.more<=m):(eO m p).j+(eO m p).more<=m:=by
 unfold eO
 split
 ·show p.j+1+(p.more - 1)<=m
  lia
 ·have hi:(SetTable.leap m p.i p.perturb).1<=m:=Nat.lt_succ_iff.mp (Nat.mod_lt _ (Nat.succ_pos _))
  have:=wZ hi
  show (SetTable.leap m p.i p.perturb).1+(SetTable.runEnd m (SetTable.leap m p.i p.perturb).1 - (SetTable.leap m p.i p.perturb).1)<=m
  lia
theorem Kg:∀ (n:Nat) {p:Probe},p.j+p.more<=m->(prs m p n).j+(prs m p n).more<=m
 | 0,p,h=>h
 | n+1,p,h=>Kg n (Ux h)
theorem Yl (m:Nat) (h:Int):(stM m h).j+(stM m h).more<=m:=by
 have hi:SetTable.bits h % (m+1)<=m:=Nat.lt_succ_iff.mp (Nat.mod_lt _ (Nat.succ_pos _))
 have:=wZ hi
 show SetTable.bits h % (m+1)+(SetTable.runEnd m (SetTable.bits h % (m+1)) - SetTable.bits h % (m+1))<=m
 lia
theorem Kh (m:Nat) (h:Int) (n:Nat):(prs m (stM m h) n).j<=m:=by
 have:=Kg n (Yl m h)
 lia
theorem m9 {α β:Type}{f:α->Option β}{g:α->β}:∀ {l:List α},(∀ x∈l,f x=some (g x))->l.filterMap f=l.map g
 | [],_=>rfl
 | x::r,h=>by
  rw [List.filterMap_cons,h x List.mem_cons_self,List.map_cons,m9 fun y hy=>h y (mD _ hy)]
theorem Ph {finger moves:Nat}{led plain:Bool} (hm:kO m) {es:Array (Int×Value)} (hl:es.size<=m) :
  ∃ t order,SetTable.laid m finger moves led plain (es.map (·.1))=some (t,order)/\t.mask=m/\t.led=led/\t.plain=plain/\t.moves=moves/\(order.filterMap (es[·]?)).size=es.size/\(order.filterMap (es[·]?)).toList.Perm es.toList/\Gz t ((order.filterMap (es[·]?)).toList.map (·.1)):=by
 obtain ⟨o,ho,O⟩:=GC hm (hs:=es.map (·.1)) (by rw [Array.size_map];lia)
 have hK:(es.map (·.1)).toList.length=es.size:=by rw [Array.length_toList,Array.size_map]
 have hlen:(gw o (m+1)).length=es.size:=by
  rw [zp (m+1) (by rw [O.size];exact Nat.le_refl _),List.take_of_length_le (by rw [Array.length_toList,O.size];exact Nat.le_refl _),O.cnt,hK]
 have perm:((gw o (m+1)).map (·.2)).Perm (List.range es.size):=by
  refine (zu List.nodup_range (fun k hk=>?_) (by rw [bR,hlen,List.length_range];exact Nat.le_refl _)).symm
  have hk':=List.mem_range.mp hk
  obtain ⟨y,hy⟩:=O.all k (by rw [hK];exact hk')
  have hyl:y<o.size:=(Array.getElem?_eq_some_iff.mp hy).1
  exact List.mem_map.mpr ⟨(y,k),kW.mpr ⟨by rw [O.size] at hyl;exact hyl,hy⟩,rfl⟩
 refine ⟨{ mask:=m,place:=((gw o (m+1)).map (·.1)).toArray,dummies:=#[],finger,led,moves,plain },((gw o (m+1)).map (·.2)).toArray,?_,rfl,rfl,rfl,rfl,?_⟩
 ·unfold SetTable.laid
  show (SetTable.layClean m (es.map (·.1))).bind _=_
  rw [ho]
  rfl
 have eL:(((gw o (m+1)).map (·.2)).toArray.filterMap (es[·]?)).toList=((gw o (m+1)).map (·.2)).filterMap (es[·]?):=by
  rw [Array.toList_filterMap]
 have Rw:∀ k∈(gw o (m+1)).map (·.2),k<es.size:=fun k hk=>List.mem_range.mp (perm.mem_iff.mp hk)
 have hp:(((gw o (m+1)).map (·.2)).toArray.filterMap (es[·]?)).toList.Perm es.toList:=by
  rw [eL]
  refine (perm.filterMap (es[·]?)).trans ?_
  rw [filterMap_getElem?_range]
 refine ⟨?_,hp,?_⟩
 ·have:=hp.length_eq
  rw [Array.length_toList,Array.length_toList] at this
  exact this
 have hne:∀ k∈(gw o (m+1)).map (·.2),es[k]?=some (es.getD k (0,.none)):=fun k hk=>by
  have:=Rw k hk
  rw [Array.getD_eq_getD_getElem?,Array.getElem?_eq_getElem this];rfl
 rw [eL,m9 hne]
 refine ⟨⟨?_,fun j hj=>?_,rfl,hm,?_⟩,?_,fun i h y hh hy=>?_⟩
 ·show Rq ((gw o (m+1)).map (·.1)).toArray.toList
  exact pR o (m+1)
 ·have hj':j∈(gw o (m+1)).map (·.1):=hj
  obtain ⟨⟨a,b⟩,hab,rfl⟩:=List.mem_map.mp hj'
  have:=(kW.mp hab).1
  show a<=m
  lia
 ·show ((gw o (m+1)).map (·.1)).toArray.size<=m
  rw [List.size_toArray,bR,hlen];exact hl
 ·show _=((gw o (m+1)).map (·.1)).toArray.size
  rw [List.size_toArray,bR,bR,bR,bR]
 ·have hy':((gw o (m+1)).map (·.1))[i]?=some y:=by
   have:((gw o (m+1)).map (·.1)).toArray[i]?=some y:=hy
   rw [List.getElem?_toArray] at this;exact this
  rw [lW] at hy'
  obtain ⟨⟨a,b⟩,hab,rfl⟩:=Option.map_eq_some_iff.mp hy'
  have hmem:=qN hab
  rw [lW,lW,lW,hab] at hh
  have hh':(es.getD b (0,.none)).1=h:=by simpa using hh
  obtain ⟨hlt,hob⟩:=kW.mp hmem
  obtain ⟨h',e1,n,e2,e3⟩:=O.at_ a b hob
  have hbl:b<es.size:=Rw b (List.mem_map.mpr ⟨(a,b),hmem,rfl⟩)
  have eh:h'=h:=by
   rw [Array.getElem?_toList,Array.getElem?_map,Array.getElem?_eq_getElem hbl] at e1
   rw [<- hh',Array.getD_eq_getD_getElem?,Array.getElem?_eq_getElem hbl]
   exact (Option.some.inj e1).symm
  subst eh
  refine ⟨n,e2,fun k hk=>?_⟩
  show (prs m (stM m h') k).j∈(gw o (m+1)).map (·.1)
  have hk3:=e3 k hk
  have hin:=Kh m h' k
  generalize (prs m (stM m h') k).j=j at hk3 hin
  unfold taken at hk3
  have hjs:j<o.size:=by rw [O.size];lia
  rw [getD_at hjs] at hk3
  cases ej:o[j] with
  | none=>rw [ej] at hk3;cases hk3
  | some v=>exact List.mem_map.mpr ⟨(j,v),kW.mpr ⟨by lia,by rw [Array.getElem?_eq_getElem hjs,ej]⟩,rfl⟩
section
variable {K:Type} [DecidableEq K] {knd:KeyKind prog w K}
theorem zx (n:Nat) {v:Value} (h:carriedByValue v=true):ofAClassStatement n v=pure false:=by
 cases v with
 | ref a=>simp [carriedByValue] at h
 | _=>cases n <;> rfl
theorem vh {ks:List K}{Q:Bool->Shared->Prop} (hk:IsTupleKey knd s.heap ks a) (h:Q false s):wpAny (model prog w) A (ofAClassStatement 8 (.ref a)) Q E s:=by
 have hT:=hk.typeIs
 obtain ⟨o,items,n,ho,_,hd,hi⟩:=hk
 unfold ofAClassStatement
 refine wpAny_bind (wpAny_typeOf hT ?_)
 dsimp only
 rw [if_pos (by decide)]
 refine wpAny_bind (wpAny_pure ?_)
 simp only [Bool.not_true,Bool.false_eq_true,if_false]
 refine wpAny_bind (wpAny_seqItems ho hd ?_)
 dsimp only
 refine wpAny_bind ?_
 show wpAny _ _ (forIn items _ _) _ _ s
 rw [<- Array.forIn_toList]
 refine wpAny_forIn_list _ (fun rest r s'=>r.1=none/\s'=s/\∀ v∈rest,carriedByValue v=true) _ ?_ ?_ _ _ ⟨rfl,rfl,hi.byValue⟩
 ·rintro v rest r s' ⟨hr,rfl,hall⟩
  rw [zx _ (hall v List.mem_cons_self)]
  refine wpAny_bind (wpAny_pure ?_)
  simp only [Bool.false_eq_true,if_false]
  exact wpAny_pure ⟨rfl,rfl,fun u hu'=>hall u (mD _ hu')⟩
 ·rintro ⟨r1,r2⟩ s' ⟨hr,rfl,_⟩
  simp only at hr
  subst hr
  exact wpAny_pure h
theorem Uy {kx:List K} (hx:IsTupleKey knd s.heap kx ax) {st:List Value} (hst:∀ v∈st,∃ k b,v=.ref b/\IsTupleKey knd s.heap k b) {Q:Bool->Shared->Prop} (h:Q false s) :
  wpAny (model prog w) A (searchCouldBeSeen (.ref ax) st) Q E s:=by
 unfold searchCouldBeSeen
 refine wpAny_bind ?_
 refine wpAny_forIn_list _ (fun rest r s'=>r.1=none/\s'=s/\∀ v∈rest,∃ k b,v=.ref b/\IsTupleKey knd s.heap k b) _ ?_ ?_ _ _ ⟨rfl,rfl,hst⟩
 ·rintro v rest r s' ⟨hr,rfl,hall⟩
  obtain ⟨k,b,rfl,hb⟩:=hall v List.mem_cons_self
  have rest':∀ v∈rest,∃ k b,v=.ref b/\IsTupleKey knd s'.heap k b:=fun u hu=>hall u (mD _ hu)
  dsimp only
  by_cases hv:(ax==b||(carriedByValue (.ref ax)&&carriedByValue (.ref b)))=true
  ·rw [if_pos hv]
   exact wpAny_pure ⟨rfl,rfl,rest'⟩
  ·rw [if_neg hv]
   refine wpAny_bind (wpAny_eqIsQuiet_tuple hx ?_)
   simp only [Bool.not_true,Bool.false_eq_true,if_false]
   refine wpAny_bind (wpAny_eqIsQuiet_tuple hb ?_)
   simp only [Bool.not_true,Bool.false_eq_true,if_false]
   refine wpAny_bind (vh hx ?_)
   simp only [Bool.false_eq_true,if_false]
   refine wpAny_bind (vh hb ?_)
   simp only [Bool.false_eq_true,if_false]
   exact wpAny_pure ⟨rfl,rfl,rest'⟩
 ·rintro ⟨r1,r2⟩ s' ⟨hr,rfl,_⟩
  simp only at hr
  subst hr
  exact wpAny_pure h
theorem vm {t:SetTable} (T:Tab t) {i':Nat} (h1:t.place[i]?=some j) (h2:t.place[i']?=some j):i=i':=(below_at T.Wk h1).symm.trans (below_at T.Wk h2)
theorem Kl {t:SetTable}{es:Array (Int×Value)} (T:Tab t) {sh:Nat->Int}{h:Int}{p:Probe}{r:Option Met} (hr:t.probe sh h p=r) (hsh:∀ (i:Nat) (e:Int×Value),es[i]?=some e->sh i=e.1) (hd:p.dummy=none) {n0:Nat} (hn0:n0<10 * (t.mask+15))
  (hole:(prs t.mask p n0).j∉t.place.toList) (way:∀ k,k<n0->(prs t.mask p k).j∈t.place.toList) (hsz:es.size=t.place.size) :
  (r=some (.empty (prs t.mask p n0).j none)/\∀ (i k:Nat) (e:Int×Value),k<n0->t.place[i]?=some (prs t.mask p k).j->es[i]?=some e->e.1≠h) \/
  ∃ (n i:Nat) (e:Int×Value),n<n0/\t.place[i]?=some (prs t.mask p n).j/\es[i]?=some e/\e.1=h/\r=some (.candidate (prs t.mask p n).j i (prs t.mask p (n+1)))/\∀ (i' k:Nat) (e':Int×Value),k<n->t.place[i']?=some (prs t.mask p k).j->es[i']?=some e'->e'.1≠h:=by
 obtain ⟨n,hn,h1,h2⟩:=Eb T sh h (10 * SetTable.turns t.mask) p hd ⟨n0,hn0,hole⟩
 have skip:∀ (i k:Nat) (e:Int×Value),k<n->t.place[i]?=some (prs t.mask p k).j->es[i]?=some e->e.1≠h:=fun i k e hk hp he=>by
  obtain ⟨i',hi',hne⟩:=h1 k hk
  have ei:=vm T hp hi'
  subst ei
  rw [<- hsh i e he]
  exact hne
 have hle:n<=n0:=by
  apply Classical.byContradiction
  intro hc
  obtain ⟨i',hi',_⟩:=h1 n0 (by lia)
  exact hole (List.mem_iff_getElem?.mpr ⟨i',by rw [Array.getElem?_toList];exact hi'⟩)
 have er:SetTable.probe.go t sh h (10 * SetTable.turns t.mask) p=r:=hr
 rcases h2 with ⟨g1,g2⟩ | ⟨i,g1,g2,g3⟩
 ·have e:n=n0:=by
   apply Classical.byContradiction
   intro hc
   exact g1 (way n (by lia))
  subst e
  exact .inl ⟨by rw [<- er,g2],skip⟩
 ·have hlt:n<n0:=by
   apply Classical.byContradiction
   intro hc
   have e:n=n0:=by lia
   subst e
   exact hole (List.mem_iff_getElem?.mpr ⟨i,by rw [Array.getElem?_toList];exact g1⟩)
  have hil:i<es.size:=by
   rw [hsz]
   exact (Array.getElem?_eq_some_iff.mp g1).1
  have hei:es[i]?=some es[i]:=Array.getElem?_eq_getElem hil
  exact .inr ⟨n,i,es[i],hlt,g1,hei,by rw [<- hsh i _ hei];exact g2,by rw [<- er,g3],skip⟩
def Ym (knd:KeyKind prog w K) (h:Heap) (es:Array (Int×Value)) (kk:List (List K)):Prop:=kk.length=es.size/\∀ (i:Nat) (e:Int×Value),es[i]?=some e->∃ k b,kk[i]?=some k/\e=(tupleKeyHash knd k,.ref b)/\IsTupleKey knd h k b
theorem Km (h:kO m):(m % 2==0)=false:=by rcases h with e | e | e | e <;> rw [e] <;> rfl
theorem fits_of {t:SetTable} (T:Gz t hs) (hn:hs.length=n):t.fits n=true:=by
 unfold SetTable.fits SetTable.fill
 have h1:=T.len
 have h2:=T.tab.few
 rw [T.tab.Ut]
 simp
 lia
theorem Ko {es:Array (Int×Value)}{t:SetTable}{kk:List (List K)}{kx:List K} (ho:s.heap.get? a=some o) (hd:o.data=.set es ep t) (T:Gz t (es.toList.map (·.1))) (hes:Ym knd s.heap es kk)
  (hu:A.units<cLine) (hx:IsTupleKey knd s.heap kx ax) {Q:SetFound->Shared->Prop} :
  ∀ (n0 fuel:Nat) (stand:Option Probe) (p:Probe),stand.getD (t.probeStart (tupleKeyHash knd kx))=p->p.dummy=none->n0<fuel->n0<10 * (t.mask+15)->(prs t.mask p n0).j∉t.place.toList->(∀ k,k<n0->(prs t.mask p k).j∈t.place.toList) ->
   ((∃ (i k:Nat),k<n0/\t.place[i]?=some (prs t.mask p k).j/\kk[i]?=some kx)->Q (.there none) s) ->
   ((∀ (i k:Nat),k<n0->t.place[i]?=some (prs t.mask p k).j->kk[i]?≠some kx)->Q (.free (prs t.mask p n0).j false) s) ->
   wpAny (model prog w) A (setSearchFrom a (.ref ax) (tupleKeyHash knd kx) true fuel stand) Q E s:=by
 intro n0
 induction n0 using Nat.strongRecOn with
 | _ n0 ih =>
  intro fuel stand p hp hdm hfu hn0 hole way hthere hfree
  obtain ⟨f,rfl⟩:∃ f,fuel=f+1:=⟨fuel - 1,by lia⟩
  have hfit:t.fits es.size=true:=fits_of T (by rw [bR,Array.length_toList])
  unfold setSearchFrom
  refine wpAny_bind (wpAny_setState_of ho hd hfit ?_)
  dsimp only
  have hgw:t.gaveWay=false:=Km T.tab.Uu
  rw [hgw]
  simp only [Bool.false_eq_true,if_false]
  refine wpAny_bind (wpAny_pure ?_)
  rw [hp]
  have hsz:es.size=t.place.size:=by have:=T.len;rw [bR,Array.length_toList] at this;exact this
  have Kq:=fun {sh:Nat->Int}{r:Option Met} (hr:t.probe sh (tupleKeyHash knd kx) p=r) (hsh:∀ (i:Nat) (e:Int×Value),es[i]?=some e->sh i=e.1)=>Kl (es:=es) T.tab hr hsh hdm hn0 hole way hsz
  split
  ·rename_i met hmet
   rcases Kq hmet (fun i e he=>by
     show (es[i]?.map (·.1)).getD 0=e.1
     rw [he];rfl) with ⟨e1,sk⟩ | ⟨n,i,e,hn,hpl,hei,heh,e1,sk⟩
   ·injection e1 with e1
    subst e1
    dsimp only
    refine wpAny_pure (hfree fun i k hk hpl hki=>?_)
    have hil:i<es.size:=by rw [hsz];exact (Array.getElem?_eq_some_iff.mp hpl).1
    obtain ⟨k',b,g1,g2,g3⟩:=hes.2 i es[i] (Array.getElem?_eq_getElem hil)
    have ek:k'=kx:=by rw [hki] at g1;exact (Option.some.inj g1).symm
    exact sk i k es[i] hk hpl (Array.getElem?_eq_getElem hil) (by rw [g2,ek])
   ·injection e1 with e1
    subst e1
    dsimp only
    obtain ⟨ki,b,g1,g2,g3⟩:=hes.2 i e hei
    have Rx:wpAny (model prog w) A (match es[i]? with
       | some (_,y)=>do
        let equal <- holding [y] (eqBool y (Value.ref ax))
        let __x <- setState a
        if (true&&equal)=true then pure (SetFound.there none)
         else
          match __x.2.snd.sameMemory t.moves t.mask with
          | some same=>do
           let still <- match (if same=true then __x.2.snd.slot (prs t.mask p n).j else Slot.empty) with
            | Slot.live i'=>match __x.fst[i']? with
             | some (_,y')=>do pure (if <- isSame y' y then some i' else none)
             | none=>pure none
            | _=>pure none
           match still with
            | none=>do
             rule "set.search.anew"
             setSearchFrom a (Value.ref ax) (tupleKeyHash knd kx) true f none
            | some i' =>
             if equal=true then pure (SetFound.there (some i'))
             else setSearchFrom a (Value.ref ax) (tupleKeyHash knd kx) true f (some (prs t.mask p (n+1)))
          | x=>unsupported "set.changed-during-lookup:is-the-new-block-at-the-old-address"
       | x=>unsupported "internal:set-entry") Q E s:=by
     rw [hei,g2]
     dsimp only
     refine wpAny_bind (wpAny_holding (wpAny_eqBool_tuple hu g3 hx ?_))
     refine wpAny_bind (wpAny_setState_of ho hd hfit ?_)
     dsimp only
     by_cases hk:ki=kx
     ·rw [decide_eq_true hk]
      rw [if_pos (show (true&&true)=true from rfl)]
      exact wpAny_pure (hthere ⟨i,n,hn,hpl,by rw [<- hk];exact g1⟩)
     ·rw [decide_eq_false hk]
      rw [if_neg (show ¬ (true&&false)=true by decide)]
      have hsm:t.sameMemory t.moves t.mask=some true:=by
       unfold SetTable.sameMemory
       rw [if_pos (beq_self_eq_true _)]
      rw [hsm]
      dsimp only
      rw [if_pos rfl,T.tab.live hpl]
      dsimp only
      rw [hei,g2]
      dsimp only
      refine wpAny_bind (wpAny_isSame_ref_self ?_)
      refine wpAny_bind (wpAny_pure ?_)
      rw [if_pos rfl]
      dsimp only
      rw [if_neg (by simp)]
      refine ih (n0 - (n+1)) (by lia) f _ (prs t.mask p (n+1)) rfl (by rw [vd];exact hdm) (by lia) (by lia) ?_ (fun k hk'=>?_) (fun ⟨i',k',a1,a2,a3⟩=>hthere ⟨i',n+1+k',by lia,by rw [fK];exact a2,a3⟩) (fun hn'=>?_)
      ·rw [<- fK,show n+1+(n0 - (n+1))=n0 by lia];exact hole
      ·rw [<- fK];exact way _ (by lia)
      ·rw [<- fK,show n+1+(n0 - (n+1))=n0 by lia]
       refine hfree fun i' k' hk' hpl' Pj=>?_
       have hil:i'<es.size:=by rw [hsz];exact (Array.getElem?_eq_some_iff.mp hpl').1
       by_cases c1:k'<n
       ·obtain ⟨k'',b'',q1,q2,q3⟩:=hes.2 i' es[i'] (Array.getElem?_eq_getElem hil)
        have ek:k''=kx:=by rw [Pj] at q1;exact (Option.some.inj q1).symm
        exact sk i' k' es[i'] c1 hpl' (Array.getElem?_eq_getElem hil) (by rw [q2,ek])
       ·by_cases c2:k'=n
        ·subst c2
         have ei:=vm T.tab hpl' hpl
         subst ei
         rw [g1] at Pj
         exact hk (Option.some.inj Pj)
        ·obtain ⟨q,rfl⟩:∃ q,k'=n+1+q:=⟨k' - (n+1),by lia⟩
         rw [fK] at hpl'
         exact hn' i' q (by lia) hpl' Pj
    cases hled:t.led with
    | true =>
     rw [if_neg (show ¬ (!true)=true by decide)]
     exact Rx
    | false =>
     rw [if_pos (show (!false)=true by decide)]
     refine wpAny_bind (Uy hx (fun v hv=>?_) ?_)
     ·obtain ⟨e',he',rfl⟩:=List.mem_map.mp hv
      have hm:e'∈es.toList:=by
       have:=List.mem_filter.mp (by rw [<- Array.toList_filter];exact he')
       exact this.1
      obtain ⟨i',hi'⟩:=List.mem_iff_getElem?.mp hm
      obtain ⟨k',b',_,q2,q3⟩:=hes.2 i' e' (by rw [<- Array.getElem?_toList];exact hi')
      exact ⟨k',b',by rw [q2],q3⟩
     ·rw [if_neg (by simp)]
      exact Rx
  ·rename_i x hno
   have none_:∀ {sh:Nat->Int},(∀ met,t.probe sh (tupleKeyHash knd kx) p=some met->False)->(∀ (i:Nat) (e:Int×Value),es[i]?=some e->sh i=e.1)->False:=fun {sh} hno hsh=>by
    rcases Kq (sh:=sh) rfl hsh with ⟨e1,_⟩ | ⟨_,_,_,_,_,_,_,e1,_⟩
    ·exact hno _ e1
    ·exact hno _ e1
   exact (none_ hno (fun i e he=>by
     show (es[i]?.map (·.1)).getD 0=e.1
     rw [he];rfl)).elim
theorem xg (n:Nat) {v:Value} (h:carriedByValue v=true):∃ b,∀ {Q:Bool->Shared->Prop}{s:Shared},Q b s->wpAny (model prog w) A (hashByValue n v) Q E s:=by
 cases v with
 | ref a=>simp [carriedByValue] at h
 | none=>cases n <;> exact ⟨true,fun h=>wpAny_pure h⟩
 | bool _=>cases n <;> exact ⟨true,fun h=>wpAny_pure h⟩
 | int _ _=>cases n <;> exact ⟨true,fun h=>wpAny_pure h⟩
 | float b t=>cases n <;> exact ⟨_,fun h=>wpAny_pure h⟩
 | _=>cases n <;> exact ⟨false,fun h=>wpAny_pure h⟩
theorem xq {ks:List K}{Q:Bool->Shared->Prop} (hk:IsTupleKey knd s.heap ks a) (h:∀ b,Q b s):wpAny (model prog w) A (hashByValue 8 (.ref a)) Q E s:=by
 have hT:=hk.typeIs
 obtain ⟨o,items,n,ho,_,hd,hi⟩:=hk
 unfold hashByValue
 refine wpAny_bind (wpAny_specialOf hT F.slot_tuple_hash.lookup ?_)
 dsimp only
 refine wpAny_bind (wpAny_seqItems ho hd ?_)
 refine wpAny_bind ?_
 show wpAny _ _ (forIn items _ _) _ _ s
 rw [<- Array.forIn_toList]
 refine wpAny_forIn_list _ (fun rest r s'=>s'=s/\∀ v∈rest,carriedByValue v=true) _ ?_ ?_ _ _ ⟨rfl,hi.byValue⟩
 ·rintro v rest r s' ⟨rfl,hall⟩
  obtain ⟨b,hb⟩:=xg (prog:=prog) (w:=w) (A:=A) (E:=E) 7 (hall v List.mem_cons_self)
  refine wpAny_bind (hb ?_)
  cases b with
  | true =>
   simp only [Bool.not_true,Bool.false_eq_true,if_false]
   exact wpAny_pure ⟨rfl,fun u hu'=>hall u (mD _ hu')⟩
  | false =>
   simp only [Bool.not_false,if_true]
   first | exact wpAny_pure (wpAny_pure (h false)) | exact wpAny_pure (h false) | exact wpAny_bind (wpAny_pure (wpAny_pure (wpAny_pure (h false))))
 ·rintro ⟨r1,r2⟩ s' ⟨rfl,_⟩
  cases r1 with
  | none=>exact wpAny_pure (h true)
  | some b=>exact wpAny_pure (h b)
def Ry (knd:KeyKind prog w K) (h:Heap) (e:Int×Value) (k:List K):Prop:=∃ b,e=(tupleKeyHash knd k,.ref b)/\IsTupleKey knd h k b
inductive EL (knd:KeyKind prog w K) (h:Heap):List (Int×Value)->List (List K)->Prop
 | nil:EL knd h [] []
 | cons {e k l kk:_}:Ry knd h e k->EL knd h l kk->EL knd h (e::l) (k::kk)
theorem EL.len:∀ {l:List (Int×Value)}{kk:List (List K)},EL knd h l kk->kk.length=l.length
 | _,_,.nil=>rfl
 | _,_,.cons _ t=>by rw [jK,jK,t.len]
theorem EL.get:∀ {l:List (Int×Value)}{kk:List (List K)}{i:Nat}{e:Int×Value},EL knd h l kk->l[i]?=some e->∃ k,kk[i]?=some k/\Ry knd h e k
 | _,_,0,e,.cons x t,he=>by
  rw [List.getElem?_cons_zero] at he
  injection he with he
  subst he
  exact ⟨_,rfl,x⟩
 | _,_,i+1,e,.cons x t,he=>by
  rw [List.getElem?_cons_succ] at he
  obtain ⟨k,h1,h2⟩:=t.get he
  exact ⟨k,by rw [List.getElem?_cons_succ];exact h1,h2⟩
theorem EL.ents {es:Array (Int×Value)}{kk:List (List K)} (x:EL knd h es.toList kk):Ym knd h es kk:=by
 refine ⟨by rw [x.len,Array.length_toList],fun i e he=>?_⟩
 obtain ⟨k,h1,b,h2,h3⟩:=x.get (by rw [Array.getElem?_toList];exact he)
 exact ⟨k,b,h1,h2,h3⟩
theorem EL.perm {l l':List (Int×Value)} (p:l'.Perm l):∀ {kk:List (List K)},EL knd h l kk->∃ Pk,EL knd h l' Pk/\Pk.Perm kk:=by
 induction p with
 | nil=>intro kk x;exact ⟨kk,x,List.Perm.refl _⟩
 | cons e p ih =>
  intro kk x
  cases x with
  | cons a t =>
   obtain ⟨Pk,y,q⟩:=ih t
   exact ⟨_,.cons a y,q.cons _⟩
 | swap a b l =>
  intro kk x
  cases x with
  | cons u t =>
   cases t with
   | cons v r=>exact ⟨_,.cons v (.cons u r),List.Perm.swap _ _ _⟩
 | trans p1 p2 ih1 ih2 =>
  intro kk x
  obtain ⟨Pk,y,q⟩:=ih2 x
  obtain ⟨kk'',z,q'⟩:=ih1 y
  exact ⟨kk'',z,q'.trans q⟩
theorem EL.app:∀ {l l':List (Int×Value)}{kk Pk:List (List K)},EL knd h l kk->EL knd h l' Pk->EL knd h (l++l') (kk++Pk)
 | _,_,_,_,.nil,y=>y
 | _,_,_,_,.cons a t,y=>.cons a (t.app y)
theorem EL.take:∀ (n:Nat) {l:List (Int×Value)}{kk:List (List K)},EL knd h l kk->EL knd h (l.take n) (kk.take n)
 | 0,_,_,_=>by rw [List.take_zero,List.take_zero];exact .nil
 | n+1,_,_,.nil=>.nil
 | n+1,_,_,.cons a t=>.cons a (t.take n)
theorem EL.drop:∀ (n:Nat) {l:List (Int×Value)}{kk:List (List K)},EL knd h l kk->EL knd h (l.drop n) (kk.drop n)
 | 0,_,_,x=>x
 | n+1,_,_,.nil=>.nil
 | n+1,_,_,.cons a t=>t.drop n
theorem EL.at (k:∀ b ks,IsTupleKey knd h ks b->IsTupleKey knd h' ks b):∀ {l:List (Int×Value)}{kk:List (List K)},EL knd h l kk->EL knd h' l kk
 | _,_,.nil=>.nil
 | _,_,.cons ⟨b,e,x⟩ t=>.cons ⟨b,e,k _ _ x⟩ (t.at k)
theorem zy {es:Array (Int×Value)}{t:SetTable} (ho:h.get? a=some o) (hd:o.data=.set es ep t) (sb:Heap.SameBut a h h'):∀ (b:Addr) (ks:List K),IsTupleKey knd h ks b->IsTupleKey knd h' ks b:=fun b ks ⟨ob,items,n,hb,hc,hdb,hi⟩=>by
 have hne:b≠a:=fun e=>by
  subst e
  rw [ho] at hb
  injection hb with hb
  subst hb
  rw [hd] at hdb
  cases hdb
 exact ⟨ob,items,n,sb.extBut _ _ hne hb,hc,hdb,hi⟩
def jD (knd:KeyKind prog w K) (h:Heap) (a:Addr) (ks:List (List K)):Prop :=
 ∃ o es ep t kk,h.get? a=some o/\o.ExactSet/\o.data=.set es ep t/\Gz t (es.toList.map (·.1))/\t.place.size * 5<t.mask * 3/\EL knd h es.toList kk/\kk.Nodup/\kk.Perm ks
def jJ (ks:List (List K)) (k:List K):List (List K):=if k∈ks then ks else ks++[k]
theorem Eh {es es':Array (Int×Value)}{t t':SetTable} (ho:h.get? a=some o) (hd:o.data=.set es ep t):(h.update a (Obj.putSet es' t')).get? a=some { o with data:=.set es' (ep+1) t' }:=by
 have:=Heap.get?_update_self (Obj.putSet es' t') ho (by rw [putSet_of es' t' hd];rfl)
 rw [putSet_of es' t' hd] at this;exact this
theorem Pn {N:Nat} (hm:kO m) (h1:N * 5>=m * 3) (h2:(N - 1) * 5<m * 3) (h3:N<=300):kO (SetTable.sizeAbove (SetTable.grown N) - 1)/\N<=SetTable.sizeAbove (SetTable.grown N) - 1/\N * 5<(SetTable.sizeAbove (SetTable.grown N) - 1) * 3/\SetTable.sizeAbove (SetTable.grown N)<=sizeLine:=by
 rcases hm with e | e | e | e
 ·have:N=5:=by lia
  subst this
  exact ⟨.inr (.inl (by decide)),by decide,by decide,by decide⟩
 ·have:N=19:=by lia
  subst this
  exact ⟨.inr (.inr (.inl (by decide))),by decide,by decide,by decide⟩
 ·have:N=77:=by lia
  subst this
  exact ⟨.inr (.inr (.inr (by decide))),by decide,by decide,by decide⟩
 ·lia
theorem Gz.plain {t:SetTable} (T:Gz t hs) (b:Bool):Gz { t with plain:=b } hs:=⟨⟨T.tab.Wk,T.tab.bnd,T.tab.Ut,T.tab.Uu,T.tab.few⟩,T.len,T.rch⟩
theorem Pq {es:Array (Int×Value)}{t:SetTable} (ho:s.heap.get? a=some o) (hd:o.data=.set es ep t) (T:Gz t (es.toList.map (·.1))) {W:Nat} (hW:kO (SetTable.sizeAbove W - 1)) (hl:es.size<=SetTable.sizeAbove W - 1) (hz:SetTable.sizeAbove W<=sizeLine) {Q:Unit->Shared->Prop}
  (h:∀ es' t',es'.toList.Perm es.toList->Gz t' (es'.toList.map (·.1))->t'.mask=SetTable.sizeAbove W - 1->Q () { s with heap:=s.heap.update a (Obj.putSet es' t') }):wpAny (model prog w) A (setRelay a W) Q E s:=by
 have hfit:t.fits es.size=true:=fits_of T (by rw [bR,Array.length_toList])
 unfold setRelay
 refine wpAny_bind (wpAny_setState_of ho hd hfit ?_)
 dsimp only
 rw [if_neg (by lia)]
 obtain ⟨t',order,e1,e2,e3,e4,e5,e6,e7,e8⟩:=Ph (finger:=t.finger) (moves:=t.movedTo (SetTable.sizeAbove W - 1)) (led:=t.led) (plain:=t.plain) hW (es:=es) hl
 have er:t.relaid (es.map (·.1)) W=some (t',order):=e1
 rw [er]
 refine wpAny_bind ?_
 show wpAny _ _ (if ((order.filterMap (es[·]?)).size != es.size)=true then _ else _) _ _ _
 rw [if_neg (by rw [e6];simp)]
 first | refine wpAny_pure ?_ | refine wpAny_bind (wpAny_pure (wpAny_pure ?_))
 dsimp only
 have hsz:(order.filterMap (es[·]?)).size<=sizeLine:=by rw [e6];lia
 exact wpAny_storeSet_of ho hd (h _ _ e7 e8 e2) hsz
theorem Uz {ks:List (List K)}{kx:List K}{Q:Bool->Shared->Prop} (hs:jD knd s.heap a ks) (hroom:ks.length+1<=300) (hu:A.units<cLine) (hx:IsTupleKey knd s.heap kx ax)
  (h:∀ h' b,Heap.SameBut a s.heap h'->jD knd h' a (jJ ks kx)->Q b { s with heap:=h' }):wpAny (model prog w) A (setAddHashed a (.ref ax) (tupleKeyHash knd kx)) Q E s:=by
 obtain ⟨o,es,ep,t,kk,ho,hex,hd,T,few,el,nd,pm⟩:=hs
 have hfit:t.fits es.size=true:=fits_of T (by rw [bR,Array.length_toList])
 have hsz:es.size=t.place.size:=by have:=T.len;rw [bR,Array.length_toList] at this;exact this
 have hkl:kk.length=es.size:=by rw [el.len,Array.length_toList]
 have hksl:ks.length=es.size:=by rw [<- pm.length_eq];exact hkl
 unfold setAddHashed setAddHashedIn
 refine wpAny_holding (wpAny_bind (wpAny_setState_of ho hd hfit ?_))
 dsimp only
 have hbs:byScan (.ref ax) es=false:=rfl
 rw [hbs]
 simp only [Bool.false_eq_true,if_false]
 unfold setSearch
 obtain ⟨n0,hn0,hole,way⟩:=T.tab.first (tupleKeyHash knd kx)
 have hmk:t.mask<=511:=by rcases T.tab.Uu with e | e | e | e <;> lia
 refine wpAny_bind (Ko ho hd T el.ents hu hx n0 100000 none (stM t.mask (tupleKeyHash knd kx)) rfl rfl (by lia) hn0 hole way (fun ⟨i,k,hk,hp,hki⟩=>?_) (fun hno=>?_))
 ·dsimp only
  have hm:kx∈ks:=pm.mem_iff.mp (qN hki)
  have e:jJ ks kx=ks:=by unfold jJ;rw [if_pos hm]
  have:=h s.heap false (Heap.SameBut.refl _ _) (by rw [e];exact ⟨o,es,ep,t,kk,ho,hex,hd,T,few,el,nd,pm⟩)
  exact wpAny_pure this
 ·dsimp only
  have hnm:kx∉kk:=fun hm=>by
   obtain ⟨i,hi⟩:=List.mem_iff_getElem?.mp hm
   have hil:i<es.size:=by rw [<- hkl];exact (List.getElem?_eq_some_iff.mp hi).1
   obtain ⟨k',hk',b,he,hb⟩:=el.get (i:=i) (e:=es[i]) (by rw [Array.getElem?_toList];exact Array.getElem?_eq_getElem hil)
   have ek:k'=kx:=by rw [hi] at hk';exact (Option.some.inj hk').symm
   subst ek
   have hip:i<t.place.size:=by lia
   obtain ⟨n,e1,e2⟩:=T.rch i (tupleKeyHash knd k') t.place[i] (by rw [lW,Array.getElem?_toList,Array.getElem?_eq_getElem hil,he];rfl) (Array.getElem?_eq_getElem hip)
   have hlt:n<n0:=by
    apply Classical.byContradiction
    intro hc
    by_cases hc2:n0<n
    ·exact hole (e2 n0 hc2)
    ·have e3:n=n0:=by lia
     subst e3
     exact hole (by rw [e1];exact List.mem_iff_getElem?.mpr ⟨i,by rw [Array.getElem?_toList];exact Array.getElem?_eq_getElem hip⟩)
   exact hno i n hlt (by rw [e1];exact Array.getElem?_eq_getElem hip) hi
  have hnks:kx∉ks:=fun hm=>hnm (pm.mem_iff.mpr hm)
  have Yn:jJ ks kx=ks++[kx]:=by unfold jJ;rw [if_neg hnks]
  refine wpAny_bind (wpAny_setState_of ho hd hfit ?_)
  dsimp only
  have hjm:=Kh t.mask (tupleKeyHash knd kx) n0
  have hrm:t.place.size+1<=t.mask:=by rcases T.tab.Uu with e | e | e | e <;> lia
  obtain ⟨T1,m1,_,_,s1,p1⟩:=Pb T hjm hole ⟨n0,rfl,way⟩ hrm
  generalize hj:(prs t.mask (stM t.mask (tupleKeyHash knd kx)) n0).j=j at *
  generalize hput:t.put j=pt at *
  obtain ⟨t1,p⟩:=pt
  dsimp only at T1 m1 s1 p1 ⊢
  have eL:(SetTable.insertAt es p (tupleKeyHash knd kx,Value.ref ax)).toList=es.toList.take p++(tupleKeyHash knd kx,Value.ref ax)::es.toList.drop p:=jg _ _ _
  have esz:(SetTable.insertAt es p (tupleKeyHash knd kx,Value.ref ax)).size=es.size+1:=by
   rw [<- Array.length_toList,eL,iY,jK,List.length_take,List.length_drop,Array.length_toList]
   rw [bR,Array.length_toList] at p1
   lia
  have ehs:(SetTable.insertAt es p (tupleKeyHash knd kx,Value.ref ax)).toList.map (·.1)=(es.toList.map (·.1)).take p++tupleKeyHash knd kx::(es.toList.map (·.1)).drop p:=by
   rw [eL,lR,List.map_cons,List.map_take,List.map_drop]
  have pk:(kk.take p++kx::kk.drop p).Perm (ks++[kx]):=by
   refine List.perm_middle.trans ?_
   rw [List.take_append_drop]
   exact ((pm.cons kx).trans (List.perm_append_singleton kx ks).symm)
  have ndk:(kk.take p++kx::kk.drop p).Nodup:=by
   refine (List.perm_middle.nodup_iff).mpr ?_
   rw [List.take_append_drop]
   exact List.nodup_cons.mpr ⟨hnm,nd⟩
  have tail:∀ pl:Bool,wpAny (model prog w) A (do
    storeSet a (SetTable.insertAt es p (tupleKeyHash knd kx,Value.ref ax)) { t1 with plain:=pl }
    if (!false&&({ t1 with plain:=pl }:SetTable).tooFull)=true then do
      setRelay a (SetTable.grown (es.size+1))
      pure true
     else pure true) Q E s:=fun pl=>by
   have hzz:(SetTable.insertAt es p (tupleKeyHash knd kx,Value.ref ax)).size<=sizeLine:=by rw [esz,sizeLine_eq];lia
   refine wpAny_bind (wpAny_storeSet_of ho hd ?_ hzz)
   have ho1:=Eh (es':=SetTable.insertAt es p (tupleKeyHash knd kx,Value.ref ax)) (t':={ t1 with plain:=pl }) ho hd
   have sb1:=Heap.SameBut.update s.heap a (Obj.putSet (SetTable.insertAt es p (tupleKeyHash knd kx,Value.ref ax)) { t1 with plain:=pl })
   have T2:Gz { t1 with plain:=pl } ((SetTable.insertAt es p (tupleKeyHash knd kx,Value.ref ax)).toList.map (·.1)):=by rw [ehs];exact T1.plain pl
   have el1:EL knd (s.heap.update a (Obj.putSet (SetTable.insertAt es p (tupleKeyHash knd kx,Value.ref ax)) { t1 with plain:=pl })) (SetTable.insertAt es p (tupleKeyHash knd kx,Value.ref ax)).toList (kk.take p++kx::kk.drop p):=by
    rw [eL]
    exact ((el.take p).app (.cons ⟨ax,rfl,hx⟩ (el.drop p))).at (zy ho hd sb1)
   generalize hH:s.heap.update a (Obj.putSet (SetTable.insertAt es p (tupleKeyHash knd kx,Value.ref ax)) { t1 with plain:=pl })=h1 at ho1 sb1 el1
   by_cases hf:(!false&&({ t1 with plain:=pl }:SetTable).tooFull)=true
   ·rw [if_pos hf]
    have hf':t1.place.size * 5>=t1.mask * 3:=by
     unfold SetTable.tooFull SetTable.fill at hf
     have hdm:=T1.tab.Ut
     rw [hdm] at hf
     simpa using hf
    obtain ⟨g1,g2,g3,g4⟩:=Pn (m:=t.mask) (N:=es.size+1) T.tab.Uu (by rw [<- hsz] at s1;rw [s1,m1] at hf';exact hf') (by show (es.size+1 - 1) * 5<_;rw [Nat.add_sub_cancel,hsz];exact few) (by lia)
    refine wpAny_bind (Pq (s:={ s with heap:=h1 }) ho1 rfl T2 g1 (by rw [esz];exact g2) g4 fun es' t' pe T' em=>?_)
    have ho2:=Eh (es':=es') (t':=t') ho1 rfl
    have sb2:=Heap.SameBut.update h1 a (Obj.putSet es' t')
    obtain ⟨Pk,el2,pk2⟩:=EL.perm pe (el1.at (zy ho1 rfl sb2))
    refine wpAny_pure (h _ true (sb1.trans sb2) ?_)
    rw [Yn]
    have hsz':es'.size=es.size+1:=by rw [<- Array.length_toList,pe.length_eq,Array.length_toList,esz]
    refine ⟨_,es',_,t',Pk,ho2,hex,rfl,T',?_,el2,(pk2.nodup_iff).mpr ndk,pk2.trans pk⟩
    have:=T'.len
    rw [bR,Array.length_toList,hsz'] at this
    rw [<- this,em]
    exact g3
   ·rw [if_neg hf]
    refine wpAny_pure (h _ true sb1 ?_)
    rw [Yn]
    refine ⟨_,_,_,_,_,ho1,hex,rfl,T2,?_,el1,ndk,pk⟩
    have hf':¬ t1.place.size * 5>=t1.mask * 3:=by
     intro hc
     apply hf
     unfold SetTable.tooFull SetTable.fill
     have hdm:=T1.tab.Ut
     rw [hdm]
     simpa using hc
    show t1.place.size * 5<t1.mask * 3
    lia
  cases hpl:t1.plain with
  | true =>
   rw [if_pos rfl]
   refine wpAny_bind (xq hx fun b=>?_)
   cases b with
   | true =>
    rw [if_pos rfl]
    have e:t1={ t1 with plain:=true }:=by rw [<- hpl]
    rw [e]
    exact tail true
   | false =>
    rw [if_neg (by simp)]
    exact tail false
  | false =>
   rw [if_neg (by simp)]
   refine wpAny_bind (wpAny_pure ?_)
   rw [if_pos rfl]
   have e:t1={ t1 with plain:=false }:=by rw [<- hpl]
   rw [e]
   exact tail false
end
open PySem.Spec PySem.W PySem.Calls PyProof.Rows
theorem zA {α:Type}{P:List α->Prop} (h0:P []) (h1:∀ r a,P r->P (r++[a])) (l:List α):P l:=by
 have:∀ (n:Nat) (l:List α),l.length=n->P l:=by
  intro n
  induction n with
  | zero=>intro l h;rw [List.length_eq_zero_iff.mp h];exact h0
  | succ n ih =>
   intro l h
   rcases List.eq_nil_or_concat l with e | ⟨r,a,e⟩
   ·rw [e] at h;cases h
   ·rw [List.concat_eq_append] at e
    subst e
    exact h1 r a (ih r (by simpa using h))
 exact this _ l rfl
def fL {K:Type} [DecidableEq K] (l:List (List K)):List (List K):=l.foldl jJ []
section
variable {K:Type} [DecidableEq K]
theorem Kr {ks:List (List K)}{k x:List K}:x∈jJ ks k↔x∈ks\/x=k:=by
 unfold jJ
 split
 ·rename_i h
  exact ⟨.inl,fun q=>q.elim id fun e=>by rw [e];exact h⟩
 ·simp
theorem oY (l:List (List K)) (k:List K):fL (l++[k])=jJ (fL l) k:=by unfold fL;rw [List.foldl_append];rfl
theorem Ks {l:List (List K)}{x:List K}:x∈fL l↔x∈l:=by
 have g:∀ (l:List (List K)) (a:List (List K)),x∈l.foldl jJ a↔x∈a\/x∈l:=by
  intro l
  induction l with
  | nil=>intro a;simp
  | cons y r ih =>
   intro a
   rw [List.foldl_cons,ih,Kr,List.mem_cons,or_assoc]
 have:=g l []
 unfold fL
 simpa using this
theorem Ku {ks:List (List K)}{k:List K}:(jJ ks k).length<=ks.length+1:=by
 unfold jJ
 split
 ·lia
 ·simp
theorem sZ (l:List (List K)):(fL l).length<=l.length:=by
 have g:∀ (l:List (List K)) (a:List (List K)),(l.foldl jJ a).length<=a.length+l.length:=by
  intro l
  induction l with
  | nil=>intro a;exact Nat.le_refl _
  | cons x r ih =>
   intro a
   rw [List.foldl_cons,jK]
   have h1:=ih (jJ a x)
   have h2:=Ku (ks:=a) (k:=x)
   lia
 have:=g l []
 unfold fL
 simpa using this
theorem Kv {l:List (List K)}:(fL l).length=l.length↔l.Nodup:=by
 have g:∀ (l:List (List K)),(fL l).length=l.length->l.Nodup:=by
  intro l
  refine zA (P:=fun l=>(fL l).length=l.length->l.Nodup) (fun _=>List.nodup_nil) (fun r k ih=>?_) l
  ·intro h
   rw [oY,iY,List.length_singleton] at h
   have h1:=sZ r
   have hn:k∉fL r:=fun hm=>by
    unfold jJ at h
    rw [if_pos hm] at h
    lia
   have h2:(fL r).length=r.length:=by
    unfold jJ at h
    rw [if_neg hn,iY,List.length_singleton] at h
    lia
   rw [List.nodup_append]
   refine ⟨ih h2,by simp,fun a ha b hb=>?_⟩
   rw [List.mem_singleton.mp hb]
   exact fun e=>hn (Ks.mpr (by rw [<- e];exact ha))
 refine ⟨g l,fun h=>?_⟩
 have g2:∀ (l:List (List K)),l.Nodup->fL l=l:=by
  intro l
  refine zA (P:=fun l=>l.Nodup->fL l=l) (fun _=>rfl) (fun r k ih=>?_) l
  ·intro h
   rw [List.nodup_append] at h
   obtain ⟨h1,_,h3⟩:=h
   rw [oY,ih h1]
   unfold jJ
   rw [if_neg (fun hm=>h3 k hm k (List.mem_singleton.mpr rfl) rfl)]
 rw [g2 l h]
end
section
variable {K:Type} [DecidableEq K] {knd:KeyKind prog w K}
theorem jD.at {ks:List (List K)} (x:jD knd h a ks) (k:∀ b o,h.get? b=some o->(b=a\/o.cls=.type "tuple")->h'.get? b=some o):jD knd h' a ks:=by
 obtain ⟨o,es,ep,t,kk,ho,hex,hd,T,few,el,q⟩:=x
 refine ⟨o,es,ep,t,kk,k a o ho (.inl rfl),hex,hd,T,few,el.at fun b ks ⟨ob,items,n,hb,hc,r⟩=>⟨ob,items,n,k b ob hb (.inr hc),hc,r⟩,q⟩
theorem UG {ks:List (List K)}{kx:List K}{Q:Bool->Shared->Prop} (hs:jD knd s.heap a ks) (hroom:ks.length+1<=300) (hu:A.units<cLine) (hx:IsTupleKey knd s.heap kx ax)
  (h:∀ h' b,Heap.SameBut a s.heap h'->jD knd h' a (jJ ks kx)->Q b { s with heap:=h',toks:=s.toks+(kx.length+1) }):wpAny (model prog w) A (setAdd a (.ref ax)) Q E s:=by
 unfold setAdd
 refine wpAny_holding (wpAny_bind (wpAny_pyHash_tuple hu hx ?_))
 exact Uz (s:={ s with toks:=s.toks+(kx.length+1) }) hs hroom hu hx h
def iu (w:World):Obj:={ cls:=.type "set",dict:=none,data:=.set #[] 0 (.fresh 0 0 (!w.params.followText "set-order")) }
theorem Pr (led:Bool):Gz (.fresh 0 0 led) []:=by
 refine ⟨⟨List.Pairwise.nil,(fun j hj=>by cases hj),rfl,.inl rfl,Nat.zero_le _⟩,rfl,(fun i h y hh=>by cases hh)⟩
theorem Pu (e:h.get? a=some (iu w)):jD knd h a [] :=
 ⟨_,#[],0,_,[],e,⟨rfl,rfl,rfl⟩,rfl,Pr _,by show 0 * 5<7 * 3;decide,.nil,List.nodup_nil,List.Perm.refl _⟩
theorem zB (l:List (List K)) (i:Nat):(fL (l.take i)).length<=l.length:=Nat.le_trans (sZ _) (by rw [List.length_take];lia)
def mW (knd:KeyKind prog w K) (h:Heap) (its:List Value) (l:List (List K)):Prop:=its.length=l.length/\∀ (i:Nat) (v:Value),its[i]?=some v->∃ k b,l[i]?=some k/\v=.ref b/\IsTupleKey knd h k b
theorem mW.at {l:List (List K)} (x:mW knd h its l) (k:∀ b o,h.get? b=some o->o.cls=.type "tuple"->h'.get? b=some o):mW knd h' its l:=by
 refine ⟨x.1,fun i v hv=>?_⟩
 obtain ⟨kk,b,h1,h2,ob,items,n,hb,hc,r⟩:=x.2 i v hv
 exact ⟨kk,b,h1,h2,ob,items,n,k b ob hb hc,hc,r⟩
variable {R:Result->Shared->Prop}{I:Addr}{wr:List Addr}{G:Array GenState->Array GenState->Prop}{P:Nat->Value->Prop}{St:Nat->Shared->Prop}
theorem GD (W:WalksS prog w A.in1 I fp wr G n P St) (S:Addr) (hSf:S∉fp) (its:List Value) (l:List (List K)) (hn:l.length=n) (hval:∀ i v,P i v->its[i]?=some v) (hb:n+1<=300) (hu:A.in1.units<cLine)
  (hwr:∀ (s:Shared) (i:Nat),St i s->∀ b∈wr,∃ o,s.heap.get? b=some o/\o.cls≠.type "tuple") :
  ∀ (k i:Nat) (s:Shared),n - i=k->i<=n->St i s->jD knd s.heap S (fL (l.take i))->mW knd s.heap its l->(∀ s',Moved (S::wr) G s s'->jD knd s'.heap S (fL l)->R (.ok (.ret .none)) s') ->
   codeAny (model prog w) A (.builtin "set.update.loop" ⟨[.ref S,.ref I],[]⟩) R s:=by
 have hSw:S∉wr:=fun h=>hSf (W.sub _ h)
 have sub:∀ b∈wr,b∈S::wr:=fun b hb=>mD _ hb
 intro k
 induction k with
 | zero =>
  intro i s hk hi st hS hT hR
  have hin:i=n:=by lia
  subst hin
  refine codeAny_builtin PyProof.Rows.F.entry_set_update_loop ?_
  rw [Around.under_plainId PyProof.Rows.F.plain_set_update_loop _]
  show wpAny _ A.in1 (pyNext (.ref I) >>= _) _ _ s
  refine wpAny_bind (W.done s _ _ st fun s' hm=>?_)
  rw [<- hn,List.take_length] at hS
  have nw:∀ b o,s.heap.get? b=some o->(b=S\/o.cls=.type "tuple")->b∉wr:=fun b o hbo hc hbw=>by
   rcases hc with e | hc
   ·exact hSw (e ▸ hbw)
   ·obtain ⟨o',ho',hne⟩:=hwr s i st b hbw
    rw [hbo] at ho'
    injection ho' with ho'
    exact hne (by rw [<- ho'];exact hc)
  exact wpAny_pure (hR s' (hm.mono sub) (hS.at fun b o hbo hc=>hm.heap b _ (nw b o hbo hc) hbo))
 | succ k ih =>
  intro i s hk hi st hS hT hR
  have hlt:i<n:=by lia
  have nw:∀ b o,s.heap.get? b=some o->(b=S\/o.cls=.type "tuple")->b∉wr:=fun b o hbo hc hbw=>by
   rcases hc with e | hc
   ·exact hSw (e ▸ hbw)
   ·obtain ⟨o',ho',hne⟩:=hwr s i st b hbw
    rw [hbo] at ho'
    injection ho' with ho'
    exact hne (by rw [<- ho'];exact hc)
  refine codeAny_builtin PyProof.Rows.F.entry_set_update_loop ?_
  rw [Around.under_plainId PyProof.Rows.F.plain_set_update_loop _]
  show wpAny _ A.in1 (pyNext (.ref I) >>= _) _ _ s
  refine wpAny_bind (W.item i s _ _ hlt st fun v s' hP st' hm=>?_)
  have hS':=hS.at fun b o hbo hc=>hm.heap b _ (nw b o hbo hc) hbo
  have hT':=hT.at fun b o hbo hc=>hm.heap b _ (nw b o hbo (.inr hc)) hbo
  obtain ⟨kx,bx,hk1,rfl,hk2⟩:=hT'.2 i v (hval i v hP)
  show wpAny _ A.in1 (holding [Value.ref bx] (setAdd S (.ref bx)) >>= _) _ _ s'
  have tb:=zB l i
  refine wpAny_bind (wpAny_holding (UG hS' (by lia) hu hk2 fun h' b sb hT2=>?_))
  rw [<- oY] at hT2
  have e1:l.take i++[kx]=l.take (i+1):=by rw [List.take_add_one,hk1];rfl
  rw [e1] at hT2
  obtain ⟨oS,_,_,_,_,hoS,hexS,hdS,_⟩:=id hS'
  have UJ:mW knd h' its l:=hT'.at fun b o hbo hc=>by
   have hne:b≠S:=fun e=>by
    subst e
    rw [hoS] at hbo
    injection hbo with hbo
    rw [<- hbo,hexS.1] at hc
    injection hc with hc
    exact absurd hc (by decide)
   exact sb.extBut _ _ hne hbo
  refine wpAny_pure ⟨plainId_quiet PyProof.Rows.F.plain_set_update_loop _,ih (i+1) _ (by lia) hlt (W.frame _ s' _ _ st' (Nat.le_add_right _ _) fun b hb o e=>?_) hT2 UJ fun s2 hm2 hS2=>?_⟩
  ·rw [sb.2 b (fun h:b=S=>hSf (by rw [<- h];exact hb))];exact e
  ·refine hR s2 (Moved.trans W.gtrans ((hm.mono sub).then_heap (Nat.le_add_right _ _) fun b o hb e=>?_) hm2) hS2
   rw [sb.2 b (fun h:b=S=>hb (by rw [h];exact List.mem_cons_self))];exact e
theorem Kw (a:Value) {Q₁:Value->Shared->Prop} (h:Q₁ (.ref s.heap.objs.size) { s with heap:=s.heap.push (iu w) }) :
  codeAny (model prog w) A (.call (.builtin "set.__new__") ⟨[.type "set",a],[]⟩) (wants Q₁ E) s:=by
 refine codeAny_of_tree ?_
 show wpAny _ A.in1 (do checkBuiltinCall "set.__new__" ⟨[.type "set",a],[]⟩;again (.builtin "set.__new__" ⟨[.type "set",a],[]⟩)) _ _ s
 refine wpAny_bind (wpAny_of_eq (PySem.F.newCall_set_1 a) (wpAny_pure ⟨plainId_quiet PySem.F.plain_set_new _,codeAny_builtin PySem.F.entry_set_new ?_⟩))
 rw [Around.under_plainId PySem.F.plain_set_new _]
 unfold Builtin.«set.__new__» Builtin.Frozenset.newClass
 have hsub:=sub_set_self
 obtain ⟨hp,g,d,tk,os⟩:=s
 dsimp only
 wp_walk
 refine wpAny_askSetting (wpAny_pure ?_)
 dsimp only
 simp only [newObj]
 exact wpAny_bind (wpAny_alloc (wpAny_pure (wpAny_pure h)))
set_option maxRecDepth 100000 in
theorem GF {zs:List (List K)} (hh:A.handled=none) (hu:A.units+8<cLine) (hl:s.heap.IsList l its.toArray) (hi:mW knd s.heap its zs) (hb:zs.length+1<=300)
  (h:∀ (h':Heap) (tk:Nat),jD knd h' s.heap.objs.size (fL zs)->(∀ b o,s.heap.get? b=some o->h'.get? b=some o)->Q (.ref s.heap.objs.size) { s with heap:=h',toks:=tk }) :
  wpAny (model prog w) A (call (.type "set") [.ref l]) Q E s:=by
 obtain ⟨c,tl,hmro⟩:=PySem.F.called_set.mro
 have m1:=PySem.F.called_set.made
 have m2:=PySem.F.called_set.sub
 refine wpAny_call (codeAny_of_tree ?_)
 show wpAny (model prog w) _ (callAny (.type "set") ⟨[.ref l],[]⟩) _ _ _
 refine wpAny_pure ⟨Code.quiet_builtin _ (by decide +kernel),codeAny_builtin PySem.F.entry_type_call ?_⟩
 rw [Around.under_plain (weight_type_call_type "set" [.ref l] []) rfl]
 have m3:=PySem.F.called_set.notType
 have m4:=PySem.F.called_set.canCreate
 have m5:=PySem.F.typeCall_set_1 (.ref l)
 repeat (any_goals (first | assumption | wp_step))
 refine codeAny_mono (Kw (.ref l) (E:=E) (Q₁:=fun obj s₁=>obj=.ref s.heap.objs.size/\s₁={ s with heap:=s.heap.push (iu w) }) ⟨rfl,rfl⟩) fun r s₁ hr=>?_
 rcases r with e | fl
 ·exact hr
 rcases fl with _ | _ | _ | obj
 rotate_right
 ·obtain ⟨rfl,rfl⟩:=hr
  have hS:(s.heap.push (iu w)).get? s.heap.objs.size=some (iu w):=Heap.get?_push_size _ rfl
  have hT:Shared.TypeIs { s with heap:=s.heap.push (iu w) } (.ref s.heap.objs.size) "set":=⟨_,hS,rfl⟩
  have i1:=PySem.F.called_set.init.lookup
  have i2:=PySem.F.called_set.init.bind (.ref s.heap.objs.size)
  repeat (any_goals (first | assumption | wp_step))
  refine codeAny_mono (codeAny_call_builtin (R:=wants (fun r s₂=>r=.none/\∃ h' tk,s₂={ s with heap:=h',toks:=tk }/\jD knd h' s.heap.objs.size (fL zs)/\(∀ b o,s.heap.get? b=some o->h'.get? b=some o)) E) PySem.F.called_set.init.plain PySem.F.entry_set_init (check_set_init_1 hT ?_)) fun r₂ s₂ hr₂=>?_
  ·obtain ⟨ol,hol,hcl,nl,hdl⟩:=hl
   obtain ⟨ocls,odict,odata,oslots⟩:=ol
   simp only at hcl hdl
   subst hcl;subst hdl
   have hol':(s.heap.push (iu w)).get? l=some { cls:=.type "list",dict:=odict,data:=.seq its.toArray nl,slots:=oslots }:=Heap.get?_push_of_some _ hol
   have u1:=PySem.F.sub_list_set
   have u2:=PySem.F.sub_list_frozenset
   have u3:(Value.type "list"==Value.type "dict")=false:=by decide
   have hl1:(s.heap.push (iu w)).IsList l its.toArray:=⟨_,hol',rfl,nl,rfl⟩
   unfold Builtin.«set.__init__» noKeywords Builtin.Frozenset.updateFrom
   generalize hPI:pyIter=PI
   wp_walk
   subst hPI
   refine wpAny_pyIter_list hl1 ?_
   refine wpAny_bind (wpAny_runValue ?_)
   have lS:l<s.heap.objs.size:=Heap.lt_size hol
   have h3:A.in1.in1.in1.handled=none:=by simp [hh]
   have ne_:l≠(s.heap.push (iu w)).objs.size:=by
    rw [Heap.size_push];exact Nat.ne_of_lt (Nat.lt_succ_of_lt lS)
   have nS:s.heap.objs.size∉[(s.heap.push (iu w)).objs.size,l]:=by
    rw [Heap.size_push];simp only [List.mem_cons,List.mem_singleton,List.not_mem_nil,or_false,not_or]
    exact ⟨Nat.ne_of_lt (Nat.lt_succ_self _),Nat.ne_of_gt lS⟩
   have hz:its.length=zs.length:=hi.1
   refine GD (knd:=knd) ((Walks.list h3 _ l ne_ its.toArray).toS) s.heap.objs.size nS its zs (by simp [hz]) (fun i v hv=>by simpa using hv) (by simpa [hz] using hb) (by show A.units+1+1+1<cLine;lia) ?hwr _ 0 _ rfl (Nat.zero_le _) ⟨⟨_,Heap.get?_push_size _ rfl,rfl,rfl⟩,(hl1.push _)⟩ ?hS0 ?hT0 ?hR
   case hwr =>
    intro s' i st b hb
    obtain ⟨⟨o,ho,hc,_⟩,_⟩:=st
    rw [List.mem_singleton.mp hb]
    refine ⟨o,ho,fun e=>?_⟩
    rw [hc] at e
    injection e with e
    exact absurd e (by decide)
   case hT0=>exact hi.at fun b o hbo _=>Heap.get?_push_of_some _ (Heap.get?_push_of_some _ hbo)
   case hS0=>exact Pu (Heap.get?_push_of_some _ hS)
   case hR =>
    intro s' hm hS'
    obtain ⟨h',g',d',tk',os'⟩:=s'
    have eg:g'=s.gens:=hm.gens
    have ed:d'=s.drawn:=hm.drawn
    have eo:os'=s.os:=hm.os
    subst eg;subst ed;subst eo
    refine wpAny_pure ?_
    show wpAny _ _ (ret Value.none) _ _ _
    refine wpAny_pure ⟨rfl,h',tk',rfl,hS',fun b o e=>?_⟩
    have hlt:=Heap.lt_size e
    have b1:b≠s.heap.objs.size:=Nat.ne_of_lt hlt
    have b2:b≠(s.heap.push (iu w)).objs.size:=by
     rw [Heap.size_push];exact Nat.ne_of_lt (Nat.lt_succ_of_lt hlt)
    exact hm.heap b o (by simp only [List.mem_cons,List.mem_singleton,List.not_mem_nil,or_false,not_or];exact ⟨b1,b2⟩) (Heap.get?_push_of_some _ (Heap.get?_push_of_some _ e))
  ·rcases r₂ with e | fl₂
   ·exact hr₂
   rcases fl₂ with _ | _ | _ | r
   rotate_right
   ·obtain ⟨rfl,h',tk,rfl,hS',hk'⟩:=hr₂
    repeat (any_goals (first | assumption | wp_step))
    exact h _ _ hS' hk'
   all_goals exact hr₂.elim
 all_goals exact hr.elim
end
def zE (a:Addr) (n:Nat):HO:=.ext fun h=>∃ o es ep t,h.get? a=some o/\o.ExactSet/\o.data=.set es ep t/\t.fits es.size=true/\es.size=n
theorem Px (x:∃ o es ep t,h.get? a=some o/\o.ExactSet/\o.data=.set es ep t/\t.fits es.size=true/\es.size=n):cA P w H h a (zE a n) :=
 ⟨x,(let ⟨o,_,_,_,ho,_⟩:=x;⟨o,ho⟩),fun h1 h2 ⟨o,es,ep,t,ho,r⟩ k=>⟨o,es,ep,t,k _ ho,r⟩⟩
def Yo (K:PySem.W.Frag):List V->Hp->VK->Prop:=fun xs H Q=>∃ (p:Addr) (as:List Addr) (rows:List (List Key)),xs=[.ref p]/\bD K H p (as.map V.ref)/\Paired (fun a r=>H a=some (.tup (r.map kV))) as rows/\rows.length<300/\∀ l,H l=none->Q (.ref l) (upd H l (zE l (fL rows).length))
theorem GJ (hin:X.A.handled=none) (hu:X.A.units+64<cLine):dB X (.type "set") (Yo X.K):=by
 intro pins s σ H xs us Q I r h
 obtain ⟨p,as,rows,rfl,hq,hP,hl,q⟩:=h
 obtain ⟨u,rfl,ru⟩:=vals1 r
 cases ru
 obtain ⟨its,rv,pl,hz⟩:=I.list hq
 have Ju:=lE rv
 subst Ju
 have hT:mW (bJ X.prog X.w) s.heap (as.map Value.ref) rows:=by
  clear hq rv pl hz q hl
  induction hP with
  | nil=>exact ⟨rfl,fun i v hv=>by simp at hv⟩
  | cons ha t ih =>
   refine ⟨by rw [List.map_cons,jK,jK,ih.1],fun i v hv=>?_⟩
   cases i with
   | zero =>
    rw [List.map_cons,List.getElem?_cons_zero] at hv
    injection hv with hv
    subst hv
    exact ⟨_,_,rfl,rfl,oG I.hok ha⟩
   | succ j =>
    rw [List.map_cons,List.getElem?_cons_succ] at hv
    obtain ⟨k,b,h1,h2,h3⟩:=ih.2 j v hv
    exact ⟨k,b,by rw [List.getElem?_cons_succ];exact h1,h2,h3⟩
 refine GF hin (by lia) pl.isList hT (by lia) fun h' tk hS hk=>?_
 obtain ⟨o,es,ep,t,kk,ho,hex,hd,T,few,el,nd,pm⟩:=hS
 have hn:es.size=(fL rows).length:=by rw [<- pm.length_eq,el.len,Array.length_toList]
 exact ⟨.ref s.heap.objs.size,_,I.laid (o:=zE s.heap.objs.size (fL rows).length) (t':=tk) hk (Nat.le_refl _) (Px ⟨o,es,ep,t,ho,hex,hd,fits_of T (by rw [bR,Array.length_toList]),hn⟩),rfl,q _ (I.hok.fresh (Nat.le_refl _))⟩
def Yp:List V->Hp->VK->Prop:=fun xs H Q=>∃ a n,xs=[V.ref a]/\H a=some (zE a n)/\n<1000/\Q (.int (n:Int)) H
theorem GK:dB X (.builtin "len") Yp:=by
 intro pins s σ H xs us Q I r h
 obtain ⟨a,n,rfl,ha,hl,q⟩:=h
 obtain ⟨u,rfl,ru⟩:=vals1 r
 cases ru
 obtain ⟨⟨o,es,ep,t,ho,hx,hd,hf,hn⟩,_⟩:=I.hok _ _ ha
 refine call_len_set ho hx hd hf (by lia) ?_
 exact ⟨.int _,H,(I.tok _).tok _,⟨_,rfl⟩,by rw [hn];exact q⟩
end L2
namespace M
open PySem L2 PyProof.Rows
def tD (x e:Addr) (H H':Hp):Prop:=∀ c o,c≠x->c≠e->H c=some o->H' c=some o
theorem Ky:bootBuiltins "range"=some (.type "range"):=by decide +kernel
def nR (C:Addr):Sp:=fun vs H Q _=>∃ x dx st d e l n m fr kvs es ls d' fr' kvs',vs=[.ref x,.int fr',.ref d']/\cu C H x dx st d e l n m fr kvs es ls/\H d'=some (.dK (eY kvs'))/\es.length<1000/\x≠e /\
 ∀ st' l' H',tD x e H H'->cu C H' x dx st' d' e l' n m fr' kvs' (es++[.ref st]) []->H st'=none->H l'=none->Q .non H'
theorem Ei {n:Int} (h:∀ p∈kvs,p.1<n):putK (eY kvs) (.inl n) v=eY (kvs++[(n,v)]):=by
 unfold putK
 have e:((eY kvs).any fun kv=>decide (kv.1=Sum.inl n))=false:=by
  rw [List.any_eq_false]
  intro kv hkv e
  unfold eY at hkv
  obtain ⟨p,hp,rfl⟩:=List.mem_map.mp hkv
  have e':=xX e
  injection e' with e'
  have:=h p hp
  lia
 rw [e,if_neg Bool.false_ne_true]
 unfold eY
 rw [lR];rfl
def news (fr:Nat) (ps:List Addr):List (Int×V):=(List.range ps.length).map fun i=>(((fr+i:Nat):Int),V.ref (ps.getD i 0))
theorem GP {fr:Nat}{ps:List Addr} (hi:i<ps.length):news fr (ps.take (i+1))=news fr (ps.take i)++[(((fr+i:Nat):Int),V.ref ps[i])]:=by
 unfold news
 have l1:(ps.take (i+1)).length=i+1:=by rw [List.length_take];lia
 have l2:(ps.take i).length=i:=by rw [List.length_take];lia
 rw [l1,l2,List.range_succ,lR]
 congr 1
 ·refine List.map_congr_left fun j hj=>?_
  have hj':=List.mem_range.mp hj
  rw [iz,iz,List.getElem?_take,List.getElem?_take,if_pos (by lia),if_pos (by lia)]
 ·simp only [List.map_cons,List.map_nil]
  rw [iz,List.getElem?_take,if_pos (by lia),dI hi];rfl
theorem GQ {fr:Nat} (ps:List Addr):(news fr ps).map (·.2)=ps.map V.ref:=by
 unfold news
 apply List.ext_getElem
 ·simp
 ·intro i h1 h2
  simp only [bR,List.length_range] at h1
  simp only [List.getElem_map,List.getElem_range]
  rw [iz,dI h1];rfl
theorem Py {fr:Nat}{ps:List Addr}{p:Int×V} (h:p∈news fr ps):((fr:Nat):Int)<=p.1/\p.1<((fr+ps.length:Nat):Int):=by
 unfold news at h
 obtain ⟨i,hi,rfl⟩:=List.mem_map.mp h
 have:=List.mem_range.mp hi
 constructor
 ·show ((fr:Nat):Int)<=((fr+i:Nat):Int);lia
 ·show ((fr+i:Nat):Int)<_;lia
theorem zF:∀ {as bs:List Addr}{rs qs:List (List V)},bC H as rs->bC H bs qs->bC H (as++bs) (rs++qs)
 | _,_,_,_,.nil,h=>h
 | _,_,_,_,.cons h t,g=>.cons h (zF t g)
theorem vo:∀ {as:List Addr}{rs:List (List V)} (i:Nat),bC H as rs->bC H (as.take i) (rs.take i)
 | _,_,0,_=>.nil
 | _,_,_+1,.nil=>.nil
 | _,_,i+1,.cons h t=>.cons h (vo i t)
theorem xr {H:Hp}:∀ {as:List Addr}{rs:List (List V)}{i:Nat}{a:Addr},bC H as rs->as[i]?=some a->∃ r,rs[i]?=some r/\H a=some (.tup r)
 | _,_,_,_,.nil,h=>by simp at h
 | _,_,0,_,.cons h t,e=>by simp at e;subst e;exact ⟨_,rfl,h⟩
 | _,_,i+1,a,.cons h t,e=>by
  obtain ⟨r,e1,e2⟩:=xr (i:=i) (a:=a) t (by simpa using e)
  exact ⟨r,by simpa using e1,e2⟩
theorem Kz {rs:List (List V)} (h:bC H as rs):as.length=rs.length:=h.length
def dw (r:List V):Prop:=(∃ k rest,r=.str k::rest/\Row 1000 k rest)/\r.all jx=true
def xu (CT:Addr):Sp:=fun vs H Q E=>∃ p d r kvs as rows,vs=[.ref p,.ref d]/\H p=some (.tup r)/\r.all jx=true/\H d=some (.dK (eY kvs))/\kvs.map (·.2)=as.map V.ref/\bC H as rows/\(∀ q∈rows,q.all jx=true)/\(r∉rows->∀ H',Same H H'->Q .non H')/\(r∈rows->∀ H',Same H H'->E (.ref CT) none H')
def nums (fr:Nat) (n:Nat):List V:=(List.range n).map fun i=>V.int ((fr:Int)+(i:Nat))
def tZ (rows rs:List (List V)):Prop:=∃ (i:Nat) (r:List V),rs[i]?=some r/\r∈rows++rs.take i
def jz (C CF CT:Addr) (K:PySem.W.Frag):Sp:=fun vs H Q E=>∃ x dx st d e l n m kvs es ls rl,∃ fr:Nat,∃ (ps as:List Addr) (rs rows:List (List V)),vs=[.ref x,.ref rl]/\cu C H x dx st d e l n m (fr:Int) kvs es ls/\bD K H rl (ps.map V.ref)/\bC H ps rs/\(∀ r∈rs,dw r) /\
 kvs.map (·.2)=as.map V.ref/\bC H as rows/\(∀ q∈rows,q.all jx=true)/\(∀ p∈kvs,p.1<(fr:Int))/\es.length<1000/\x≠e/\fr<=1000000/\ps.length<=500/\kvs.length<=1000 /\
 ((∃ r∈rs,wm r=false)->∀ H',Same H H'->E (.ref CF) none H') /\
 ((∀ r∈rs,wm r=true)->tZ rows rs->∀ H',Same H H'->E (.ref CT) none H') /\
 ((∀ r∈rs,wm r=true)->¬ tZ rows rs->∀ q d' st' l' H',tD x e H H'->cu C H' x dx st' d' e l' n m ((fr+ps.length:Nat):Int) (kvs++news fr ps) (es++[.ref st]) []->H q=none->q≠l'->H' q=some (.lst (nums fr ps.length))->H st'=none->H l'=none->H d'=none->Q (.ref q) H')
theorem KC:aY ["self", "free", "held"] ["self", "free", "held"] (aA lK):=⟨rfl,rfl,rfl,by decide +kernel,rfl,by decide +kernel,by decide +kernel⟩
theorem GR (T:iK K C) (F:iC K "settle" "Roll.settle" lK f fd):bf P w K mg base dj 1 f fd ["self", "free", "held"] (nR C):=by
 refine F.ok KC (fun vs H Q E h=>?_) (fun cdv A outer s H vs Q E hr h=>?_)
 ·obtain ⟨x,dx,st,d,e,l,n,m,fr,kvs,es,ls,d',fr',kvs',rfl,_⟩:=h
  rfl
 obtain ⟨x,dx,st,d,e,l,n,m,fr,kvs,es,ls,d',fr',kvs',rfl,R,hd',hes,xG,k⟩:=h
 refine ⟨_,aD (cg (iH PySem.F.plainAttrs_list PySem.F.slot_list_append PySem.F.type_list_append cL (dD (pv 0) rfl) (aj (dD (pv 0) rfl) aq)))
  (aD (jq (pv 0) (dh (aj (pv 1) (aj (pv 2) aq))) rfl)
  (aJ (jq (pv 0) (cP aq) rfl))),?_⟩
 refine ⟨_,rfl,x,C,dx,_,_,rfl,R.o,T.cl,T.n4,rfl,.inl ⟨rfl,_,bD.of R.e⟩,_,rfl,x,C,dx,_,_,rfl,R.o,T.cl,T.n3,rfl,e,_,_,rfl,rfl,R.e,cj (by lia),?_⟩
 have nde:d'≠e:=fun z=>by rw [z,R.e] at hd';cases hd'
 have ndx:d'≠x:=fun z=>by rw [z,R.o] at hd';cases hd'
 have e1:(upd H e (.lst (es++[.ref st]))) e=some (.lst (es++[.ref st])):=ak
 have x1:(upd H e (.lst (es++[.ref st]))) x=some (.ins C dx (FR n m st e l)):=by rw [aC xG];exact R.o
 have k1:(upd H e (.lst (es++[.ref st]))) d'=some (.dK (eY kvs')):=by rw [aC nde];exact hd'
 have f1:tD x e H (upd H e (.lst (es++[.ref st]))):=fun c o _ hc ho=>by rw [aC hc];exact ho
 have z1:∀ c,(upd H e (.lst (es++[.ref st]))) c=none->H c=none:=fun c hc=>by
  have:c≠e:=fun z=>by rw [z,ak] at hc;cases hc
  rw [aC this] at hc;exact hc
 generalize upd H e (.lst (es++[.ref st]))=H1 at e1 x1 k1 f1 z1 ⊢
 refine ⟨_,rfl,_,rfl,small (by simp),fun st' hst=>?_⟩
 have nxs:x≠st':=aN x1 hst
 refine ⟨_,rfl,x,C,dx,_,rfl,by rw [aC nxs];exact x1,T.cl,T.n3,Nat.lt_of_sub_eq_succ rfl,?_⟩
 generalize hH2:upd _ x _=H2
 have x2:H2 x=some (.ins C dx (FR n m st' e l)):=by rw [<- hH2,ak];rfl
 have s2:H2 st'=some (.tup [.int fr',.ref d']):=by rw [<- hH2,aC (Ne.symm nxs),ak]
 have f2:∀ c o,c≠x->H1 c=some o->H2 c=some o:=fun c o hc ho=>by rw [<- hH2,aC hc,aC (aN ho hst)];exact ho
 clear hH2
 refine ⟨small (by simp),fun l' hl=>?_⟩
 have KH:x≠l':=aN x2 hl
 refine ⟨_,rfl,x,C,dx,_,rfl,by rw [aC KH];exact x2,T.cl,T.n5,Nat.lt_of_sub_eq_succ rfl,?_⟩
 generalize MN:upd _ x _=H3
 have x3:H3 x=some (.ins C dx (FR n m st' e l')):=by rw [<- MN,ak];rfl
 have l3:H3 l'=some (.lst []):=by rw [<- MN,aC (Ne.symm KH),ak]
 have f3:∀ c o,c≠x->H2 c=some o->H3 c=some o:=fun c o hc ho=>by rw [<- MN,aC hc,aC (aN ho hl)];exact ho
 clear MN
 have zl:H1 l'=none:=by
  cases q:H1 l' with
  | none=>rfl
  | some u=>rw [f2 l' u (Ne.symm KH) q] at hl;cases hl
 exact k st' l' H3 (fun c o hc hce ho=>f3 _ _ hc (f2 _ _ hc (f1 _ _ hc hce ho))) ⟨x3,f3 _ _ (Ne.symm nxs) s2,f3 _ _ ndx (f2 _ _ ndx k1),f3 _ _ (Ne.symm xG) (f2 _ _ (Ne.symm xG) e1),l3⟩ (z1 _ hst) (z1 _ zl)
theorem KJ (kvs:List (Int×V)):(eY kvs).map (·.2)=kvs.map (·.2):=by unfold eY;rw [List.map_map];rfl
theorem Pz:aY ["row", "held"] ["row", "held"] (aA oK):=⟨rfl,rfl,rfl,by decide +kernel,rfl,by decide +kernel,by decide +kernel⟩
theorem KN (F:iC K "check_alone" "check_alone" oK f fd) (ml:mg "list"=none) (mT:mg "Twice"=some (.ref CT)) (hT:PySem.W.excIn K CT tV "ValueError.__new__"=true):bf P w K mg base (gZ P w) 1 f fd ["row", "held"] (xu CT):=by
 obtain ⟨oc,od,kV,doc,pm,an,cdv,ct,osl,rfl,lk,hcd⟩:=F.ex
 refine jO lk hcd Pz (fun vs H Q E h=>?_) fun A outer s H vs Q E hr h=>?_
 ·obtain ⟨p,d,r,kvs,as,rows,rfl,_⟩:=h
  rfl
 obtain ⟨p,d,r,kvs,as,rows,rfl,hp,hr',hd,hv,hR,hrs,k0,k1⟩:=h
 refine ⟨_,aJ (cJ (aL (Ue hr.units) (pv 0) (bT (Bg hr.hd) rfl ml gj (aj (Gg (pv 1)) aq)) (by with_unfolding_all rfl))
  (aJ (jV (C:=CT) (E:=E) rfl (fun pins σ H1 s1 h' e C' vs I hx q=>fH I hx q) rfl mT hT (aj aG aq))) bK),?_⟩
 refine ⟨_,rfl,_,rfl,d,_,rfl,hd,fun v hv'=>?_⟩
 have s1:=ao hv' (nO v d)
 refine ⟨v,d,_,rfl,ak,s1 _ _ hd,fun q hq=>?_⟩
 rw [KJ,hv]
 have s2:=ao hq (.lst (as.map V.ref))
 have s12:=s1.trans s2
 refine ⟨p,q,as,r,rows,rfl,rfl,bD.of ak,s12 _ _ hp,hr',L2.Paired.iB hR fun a b h=>s12 _ _ h,hrs,_,rfl,?_⟩
 refine iD (fun c=>?_) (fun c=>?_)
 ·obtain ⟨q',hq',e⟩:=List.any_eq_true.mp c
  have hm:r∈rows:=(xX e) ▸ hq'
  exact ⟨eV (by simp) |> Nat.le_of_lt,k1 hm _ s12⟩
 ·exact k0 (fun hm=>c (List.any_eq_true.mpr ⟨r,hm,decide_eq_true rfl⟩)) _ s12
theorem dH:aY ["self", "rows", "row", "first", "held", "entered", "number", "free"] ["self", "rows"] (aA gP):=⟨rfl,rfl,rfl,by decide +kernel,rfl,by decide +kernel,by decide +kernel⟩
theorem zG (T:iK K C) (F:iC K "enter_all" "Roll.enter_all" gP f fd) (md:mg "dict"=none) (me:mg "enumerate"=none) (mn:mg "len"=none) (ml:mg "list"=none) (mr:mg "range"=none) 
  (G1:bf P w K mg base (gZ P w) 4 g1 d1 ["row"] (wN CF JB wm K)) (M1:Ms K mg "check_row" g1 d1 ["row"])
  (G2:bf P w K mg base (gZ P w) 1 g2 d2 ["row", "held"] (xu CT)) (M2:Ms K mg "check_alone" g2 d2 ["row", "held"])
  (G3:bf P w K mg base dj 1 g3 d3 ["self", "free", "held"] (nR C)) (m3:Meth K C "settle" g3) (b3:Binds K d3 ["self", "free", "held"] []):bf P w K mg base (gZ P w) 5 f fd ["self", "rows"] (jz C CF CT K):=by
 obtain ⟨oc,od,kV,doc,pm,an,cdv,ct,osl,rfl,lk,hcd⟩:=F.ex
 refine jO lk hcd dH (fun vs H Q E h=>?_) fun A outer s H vs Q E hr h=>?_
 ·obtain ⟨x,dx,st,d,e,l,n,m,kvs,es,ls,rl,fr,ps,as,rs,rows,rfl,_⟩:=h
  rfl
 obtain ⟨x,dx,st,d,e,l,n,m,kvs,es,ls,rl,fr,ps,as,rs,rows,rfl,R,hL,hps,hgood,hvals,has,zH,hlt,hes,xG,hfr,hpl,hkl,k1,k2,k⟩:=h
 have hr1:cM 1 _:=hr.mono (by decide)
 refine ⟨_,aD (gU (fun e s' h=>wpAny_leaving_again (SameStack.refl _) h) rfl (gG (pv 1)) (aO (i:=2) dH.nd rfl (Or.inl rfl))
   (aJ (cg (bF (CX:=gZ P w) (E:=E) G1 hr rfl M1.m M1.k M1.b .nil dN (aj (pv 2) aq)))))
  (aD (iR (dD (pv 0) rfl) (fQ rfl (bA (aO (i:=3) dH.nd rfl (Or.inl rfl)) (bA (aO (i:=4) dH.nd rfl (Or.inl rfl)) cX))))
  (aD (bU (i:=5) dH.nd rfl (Or.inl rfl) (bT mK rfl md qG (aj (pv 4) aq)))
  (aD (gU (fun e s' h=>wpAny_leaving_again (SameStack.refl _) h) rfl (Jr rfl me (aj (pv 1) aq) (pv 3)) (fQ rfl (bA (aO (i:=6) dH.nd rfl (Or.inl rfl)) (bA (aO (i:=2) dH.nd rfl (Or.inl rfl)) cX)))
   (aD (cg (bF (CX:=gZ P w) (E:=E) G2 hr1 rfl M2.m M2.k M2.b .nil dN (aj (pv 2) (aj (pv 5) aq))))
   (aJ (Dq (u1 hr) (pv 5) (pv 6) (pv 2) rfl))))
  (aD (bU (i:=7) dH.nd rfl (Or.inl rfl) (aQ cC (pv 3) (aP bY rfl mn PySem.boot_len (aj (pv 1) aq))))
  (aD (cg (fX (E:=E0) (pv 0) T.cl m3 G3 hr1 b3 .nil bW (aj (pv 7) (aj (pv 5) aq))))
  (aJ (bL (bT (Bk hr.hd) rfl ml gj (aj (bT Js rfl mr Ky (aj (pv 3) (aj (pv 7) aq))) aq))))))))),?_⟩
 have lps:ps.length=rs.length:=Kz hps
 refine ⟨_,rfl,rl,rfl,⟨_,hL⟩,qW (K:=K) (a:=rl) (xs:=ps.map V.ref) (fun i σ H2=>(∃ u,σ=[some (.ref x),some (.ref rl),u,none,none,none,none,none])/\Same H H2/\∀ r∈rs.take i,wm r=true) ⟨⟨none,rfl⟩,Same.refl _,fun r hr'=>by simp at hr'⟩ (fun i σ H2 _ h=>h.2.1.seq hL) ?_ ?_⟩
 ·rintro i v σ H2 hv ⟨⟨u,rfl⟩,s2,hw2⟩
  rw [lW] at hv
  obtain ⟨a,ha,rfl⟩:=Option.map_eq_some_iff.mp hv
  obtain ⟨r,e1,e2⟩:=xr hps ha
  obtain ⟨hg1,_⟩:=hgood r (qN e1)
  refine ⟨_,rfl,a,r,rfl,bG.of (s2 _ _ e2),hg1,?_⟩
  cases hwm:wm r with
  | true =>
   refine bO fun H3 s3=>⟨⟨_,rfl⟩,s2.trans s3,fun r' hr'=>?_⟩
   rw [List.take_add_one,e1] at hr'
   rcases List.mem_append.mp hr' with h | h
   ·exact hw2 r' h
   ·have:r'=r:=by simpa using h
    rw [this];exact hwm
  | false=>exact aK fun H3 s3=>k1 ⟨r,qN e1,hwm⟩ H3 (s2.trans s3)
 rintro σ H2 ⟨⟨u,rfl⟩,s2,hw2⟩
 rw [bR,lps,List.take_length] at hw2
 have k2':=k2 hw2
 have k':=k hw2
 have R2:=R.same s2
 refine ⟨_,rfl,x,C,dx,_,_,rfl,R2.o,T.cl,T.n3,rfl,st,_,rfl,bG.of R2.s,rfl,_,_,rfl,_,_,rfl,rfl,?_⟩
 refine ⟨_,rfl,d,_,rfl,R2.k,fun d' hd'=>?_⟩
 have s3:Same H (upd H2 d' (.dK (eY kvs))):=s2.trans (ao hd' _)
 have k3:(upd H2 d' (.dK (eY kvs))) d'=some (.dK (eY kvs)):=ak
 have hd0:H d'=none:=s2.free hd'
 have Y4:=s3.seq hL
 refine ⟨_,rfl,_,rfl,rl,_,fr,rfl,rfl,by lia,Y4,?_⟩
 have kpt:∀ {H':Hp},(∀ c o,H c=some o->H' c=some o)->bC H' ps rs/\bC H' as rows:=fun hk=>⟨L2.Paired.iB hps fun a b h=>hk _ _ h,L2.Paired.iB has fun a b h=>hk _ _ h⟩
 refine qz (n:=ps.length) (fx:=fun i=>V.int ((fr+i:Nat):Int)) (fy:=fun i=>(ps.map V.ref).getD i .non)
  (fun i σ Hx=>∃ u6 u2:Option V,σ=[some (.ref x),some (.ref rl),u2,some (.int (fr:Int)),some (.ref d),some (.ref d'),u6,none]/\Same H Hx/\Hx d'=some (.dK (eY (kvs++news fr (ps.take i))))/\∀ (j:Nat) (r:List V),j<i->rs[j]?=some r->r∉rows++rs.take j) ?_
  ⟨none,u,rfl,s3,by rw [k3];unfold news;simp,fun j r hj=>absurd hj (Nat.not_lt_zero _)⟩ ?_ ?_
 ·rintro i σ Hx ⟨u6,u2,rfl,sx,kx,_⟩
  have st':=Bj (K:=K) (l:=rl) (xs:=ps.map V.ref) (c:=fr) (H:=Hx) (i:=i) (sx.seq hL)
  rw [bR] at st'
  exact st'
 ·rintro i σ Hx t hi ⟨u6,u2,rfl,sx,kx,hno⟩ ht
  have ei:(ps.map V.ref).getD i .non=V.ref ps[i]:=by rw [iz,lW,dI hi];rfl
  rw [ei]
  have s4:Same Hx (upd Hx t (.tup [V.int ((fr+i:Nat):Int),V.ref ps[i]])):=ao ht _
  refine ⟨t,_,rfl,bG.of ak,rfl,_,_,rfl,_,_,rfl,rfl,?_⟩
  have t4:=sx.trans s4
  have k4:=s4 _ _ kx
  generalize upd Hx t (.tup [V.int ((fr+i:Nat):Int),V.ref ps[i]])=H4 at t4 k4 ⊢
  obtain ⟨r,e1,e2⟩:=xr hps (dI hi)
  obtain ⟨r4,a4⟩:=kpt t4
  obtain ⟨_,hflr⟩:=hgood r (qN e1)
  refine ⟨_,rfl,_,rfl,ps[i],d',r,_,as++ps.take i,rows++rs.take i,rfl,t4 _ _ e2,hflr,k4,by rw [lR,hvals,GQ,lR],zF a4 (vo i r4),fun q hq=>?_,fun hm H5 s5=>?_,fun hm H5 s5=>k2' ⟨i,r,e1,hm⟩ H5 (t4.trans s5)⟩
  ·rcases List.mem_append.mp hq with z | z
   ·exact zH q z
   ·exact (hgood q (List.mem_of_mem_take z)).2
  ·have k5:=s5 _ _ k4
   have t5:=t4.trans s5
   refine ⟨_,rfl,_,rfl,_,rfl,d',_,rfl,FQ.k (k:=.inl ((fr+i:Nat):Int)) k5 (by
    unfold eY
    rw [bR,iY]
    unfold news
    rw [bR,List.length_range,List.length_take]
    exact cj (by lia)),?_⟩
   rw [Ei (fun p hp=>by
    rcases List.mem_append.mp hp with z | z
    ·have:=hlt p z;lia
    ·have:=(Py z).2
     rw [List.length_take] at this
     lia),List.append_assoc,<- GP hi]
   refine ⟨_,_,rfl,aV t5 hd0,ak,fun j r' hj hr'=>?_⟩
   by_cases ej:j=i
   ·subst ej
    have:r'=r:=by rw [e1] at hr';exact (Option.some.inj hr').symm
    rw [this];exact hm
   ·exact hno j r' (by lia) hr'
 ·rintro σ Hx ⟨u6,u2,rfl,sx,kx,hno⟩
  have hnd:¬ tZ rows rs:=fun ⟨j,r,h1,h2⟩=>hno j r (by rw [lps];exact (List.getElem?_eq_some_iff.mp h1).1) h1 h2
  rw [List.take_of_length_le (Nat.le_refl _)] at kx
  refine ⟨_,rfl,_,rfl,rl,_,rfl,.inl (sx.seq hL),_,_,rfl,rfl,?_⟩
  rw [bR]
  dsimp only
  have ef:(fr:Int)+((ps.length:Nat):Int)=((fr+ps.length:Nat):Int):=by lia
  rw [ef]
  refine ⟨_,rfl,x,dx,_,rfl,sx _ _ R.o,rfl,_,rfl,_,rfl,x,dx,st,d,e,l,n,m,_,kvs,es,ls,d',_,_,rfl,R.same sx,kx,hes,xG,fun st' l' H' hK hR' hst' hl'=>?_⟩
  refine ⟨_,rfl,_,rfl,_,_,rfl,fun p hp=>?_⟩
  have s6:=ao hp (.rng (fr:Int) ((fr+ps.length:Nat):Int))
  refine ⟨p,_,_,rfl,ak,by lia,by lia,by lia,by lia,fun q hq=>?_⟩
  have s7:=s6.trans (ao hq (.lst ((List.range (((fr+ps.length:Nat):Int) - (fr:Int)).toNat).map fun i=>V.int ((fr:Int)+(i:Nat)))))
  have er:(((fr+ps.length:Nat):Int) - (fr:Int)).toNat=ps.length:=by lia
  have hq0:H q=none:=by
   cases hqq:H q with
   | none=>rfl
   | some u =>
    by_cases c1:q=x
    ·have:=hR'.o
     rw [<- c1] at this
     rw [s6 _ _ this] at hq;cases hq
    ·by_cases c2:q=e
     ·have:=hR'.e
      rw [<- c2] at this
      rw [s6 _ _ this] at hq;cases hq
     ·rw [s6 _ _ (hK q u c1 c2 (sx _ _ hqq))] at hq;cases hq
  refine k' hnd q d' st' l' _ (fun c o h1 h2 h3=>s7 _ _ (hK c o h1 h2 (sx _ _ h3))) (hR'.same s7) hq0 (fun e=>by have:=hR'.l;rw [<- e] at this;rw [s6 _ _ this] at hq;cases hq) (by rw [ak];unfold nums;rw [er]) (sx.free hst') (sx.free hl') hd0
def fP (kvs:List (Int×V)) (k:Int):Option V:=(kvs.find? fun p=>decide (p.1=k)).map (·.2)
def fO (kvs:List (Int×V)) (k:Int):List (Int×V):=kvs.filter fun p=>decide (p.1≠k)
theorem nT (k:Int):∀ kvs:List (Int×V),jw (eY kvs) (.inl k)=fP kvs k
 | []=>rfl
 | p::r=>by
  have ih:=nT k r
  have e:eY (p::r)=(Sum.inl p.1,p.2)::eY r:=rfl
  rw [e]
  by_cases h:p.1=k
  ·rw [jW (by rw [h])]
   unfold fP
   rw [List.find?_cons_of_pos (by simpa using h)]
   rfl
  ·rw [jX (fun q=>h (by injection q)),ih]
   unfold fP
   rw [List.find?_cons_of_neg (by simpa using h)]
theorem tE (k:Int):∀ kvs:List (Int×V),rK (eY kvs) (.inl k)=eY (fO kvs k)
 | []=>rfl
 | p::r=>by
  have ih:=tE k r
  have e:eY (p::r)=(Sum.inl p.1,p.2)::eY r:=rfl
  unfold rK fO at ih ⊢
  rw [e]
  by_cases h:p.1=k
  ·rw [List.filter_cons_of_neg (by simp [h]),List.filter_cons_of_neg (by simp [h])]
   exact ih
  ·have h1:¬ (Sum.inl p.1:Key)=Sum.inl k:=fun q=>h (by injection q)
   rw [List.filter_cons_of_pos (by simpa using h1),List.filter_cons_of_pos (by simpa using h),ih]
   rfl
theorem PB {n:Int} (h:∀ p∈kvs,p.1≠n):putK (eY kvs) (.inl n) v=eY (kvs++[(n,v)]):=by
 unfold putK
 have e:((eY kvs).any fun kv=>decide (kv.1=Sum.inl n))=false:=by
  rw [List.any_eq_false]
  intro kv hkv e
  unfold eY at hkv
  obtain ⟨p,hp,rfl⟩:=List.mem_map.mp hkv
  have e':=xX e
  injection e' with e'
  exact h p hp e'
 rw [e,if_neg Bool.false_ne_true]
 unfold eY
 rw [lR];rfl
theorem off_ne {k:Int}:∀ p∈fO kvs k,p.1≠k:=fun p hp=>xX (List.mem_filter.mp hp).2
def eZ (x e l:Addr) (H H':Hp):Prop:=∀ c o,c≠x->c≠e->c≠l->H c=some o->H' c=some o
def xH (C CF CT:Addr) (K:PySem.W.Frag):Sp:=fun vs H Q E=>∃ x dx st d e l n m kvs es ls p r,∃ fr:Nat,∃ (as:List Addr) (rows:List (List V)),vs=[.ref x,.ref p]/\cu C H x dx st d e l n m (fr:Int) kvs es ls/\H p=some (.tup r)/\dw r /\
 kvs.map (·.2)=as.map V.ref/\bC H as rows/\(∀ q∈rows,q.all jx=true)/\(∀ p∈kvs,p.1<(fr:Int))/\es.length<1000/\x≠e/\fr<=1000000/\kvs.length<=1000 /\
 (wm r=false->∀ H',Same H H'->E (.ref CF) none H')/\(wm r=true->r∈rows->∀ H',Same H H'->E (.ref CT) none H') /\
 (wm r=true->r∉rows->∀ d' st' l' H',tD x e H H'->cu C H' x dx st' d' e l' n m ((fr+1:Nat):Int) (kvs++[((fr:Int),.ref p)]) (es++[.ref st]) []->H st'=none->H l'=none->H d'=none->Q (.int (fr:Int)) H')
def xJ (C CN:Addr):Sp:=fun vs H Q E=>∃ x dx st d e l n m fr kvs es ls k,vs=[.ref x,.int k]/\cu C H x dx st d e l n m fr kvs es ls/\(∀ v,fP kvs k=some v->Q v H)/\(fP kvs k=none->E (.ref CN) none H)
def tG (C CN:Addr):Sp:=fun vs H Q E=>∃ x dx st d e l n m fr kvs es ls k,vs=[.ref x,.int k]/\cu C H x dx st d e l n m fr kvs es ls/\es.length<1000/\x≠e/\(fP kvs k=none->E (.ref CN) none H) /\
 ∀ v,fP kvs k=some v->∀ d' st' l' H',tD x e H H'->cu C H' x dx st' d' e l' n m fr (fO kvs k) (es++[.ref st]) []->H st'=none->H l'=none->H d'=none->Q v H'
def oZ (C CF CN CT:Addr) (K:PySem.W.Frag):Sp:=fun vs H Q E=>∃ x dx st d e l n m fr kvs es ls k p r,∃ (as:List Addr) (rows:List (List V)),vs=[.ref x,.int k,.ref p]/\cu C H x dx st d e l n m fr kvs es ls/\H p=some (.tup r)/\dw r /\
 (fO kvs k).map (·.2)=as.map V.ref/\bC H as rows/\(∀ q∈rows,q.all jx=true)/\es.length<1000/\x≠e/\kvs.length<=1000 /\
 (wm r=false->∀ H',Same H H'->E (.ref CF) none H')/\(wm r=true->fP kvs k=none->∀ H',Same H H'->E (.ref CN) none H') /\
 ∀ v,wm r=true->fP kvs k=some v->(r∈rows->∀ H',Same H H'->E (.ref CT) none H') /\
  (r∉rows->∀ d' st' l' H',tD x e H H'->cu C H' x dx st' d' e l' n m fr (fO kvs k++[(k,.ref p)]) (es++[.ref st]) []->H st'=none->H l'=none->H d'=none->Q v H')
def Std (H:Hp) (v:V) (fr:Int) (kvs:List (Int×V)) (st d:Addr):Prop:=v=.ref st/\H st=some (.tup [.int fr,.ref d])/\H d=some (.dK (eY kvs))
def Bt (C CH:Addr):Sp:=fun vs H Q E=>∃ x dx st d e l n m fr kvs es ls,vs=[.ref x]/\cu C H x dx st d e l n m fr kvs es ls/\x≠e/\x≠l/\e≠l/\ls.length<1000/\(es=[]->E (.ref CH) none H) /\
 ∀ zJ v,es=zJ++[v]->∃ KQ fM st2 d2,Std H v KQ fM st2 d2/\∀ H',eZ x e l H H'->cu C H' x dx st2 d2 e l n m KQ fM zJ (ls++[.ref st])->Q .non H'
def xK (C CH:Addr):Sp:=fun vs H Q E=>∃ x dx st d e l n m fr kvs es ls,vs=[.ref x]/\cu C H x dx st d e l n m fr kvs es ls/\x≠e/\x≠l/\e≠l/\es.length<1000/\(ls=[]->E (.ref CH) none H) /\
 ∀ MP v,ls=MP++[v]->∃ KQ fM st2 d2,Std H v KQ fM st2 d2/\∀ H',eZ x e l H H'->cu C H' x dx st2 d2 e l n m KQ fM (es++[.ref st]) MP->Q .non H'
theorem PJ:aY ["self", "row"] ["self", "row"] (aA oU):=⟨rfl,rfl,rfl,by decide +kernel,rfl,by decide +kernel,by decide +kernel⟩
theorem KR (T:iK K C) (F:iC K "enter" "Roll.enter" oU f fd)  (G1:bf P w K mg base (gZ P w) 5 g1 d1 ["self", "rows"] (jz C CF CT K)) (m1:Meth K C "enter_all" g1) (b1:Binds K d1 ["self", "rows"] []):bf P w K mg base (gZ P w) 6 f fd ["self", "row"] (xH C CF CT K):=by
 obtain ⟨oc,od,kV,doc,pm,an,cdv,ct,osl,rfl,lk,hcd⟩:=F.ex
 refine jO lk hcd PJ (fun vs H Q E h=>?_) fun A outer s H vs Q E hr h=>?_
 ·obtain ⟨x,dx,st,d,e,l,n,m,kvs,es,ls,p,r,fr,as,rows,rfl,_⟩:=h
  rfl
 obtain ⟨x,dx,st,d,e,l,n,m,kvs,es,ls,p,r,fr,as,rows,rfl,R,hp,hg,hvals,has,zH,hlt,hes,xG,hfr,hkl,k1,k2,k⟩:=h
 refine ⟨_,aJ (bL (aM bB (fX (CX:=gZ P w) (E:=E) (pv 0) T.cl m1 G1 hr b1 .nil dN (aj (cP (aj (pv 1) aq)) aq)) au aU)),?_⟩
 refine ⟨_,rfl,x,dx,_,rfl,R.o,rfl,_,rfl,small (by simp),fun rl hrl=>?_⟩
 have s1:=ao hrl (.lst [V.ref p])
 have l1:(upd H rl (.lst [V.ref p])) rl=some (.lst ([p].map V.ref)):=ak
 generalize upd H rl (.lst [V.ref p])=H1 at s1 l1 ⊢
 have dup:tZ rows [r]↔r∈rows:=by
  constructor
  ·rintro ⟨i,q,h1,h2⟩
   cases i with
   | zero =>
    have:r=q:=by simpa using h1
    subst this
    simpa using h2
   | succ j=>simp at h1
  ·intro h
   exact ⟨0,r,rfl,by simpa using h⟩
 refine ⟨x,dx,st,d,e,l,n,m,kvs,es,ls,rl,fr,[p],as,[r],rows,rfl,R.same s1,bD.of l1,.cons (s1 _ _ hp) .nil,(fun q hq=>by rw [List.mem_singleton.mp hq];exact hg),hvals,L2.Paired.iB has fun a b h=>s1 _ _ h,zH,hlt,hes,xG,hfr,by simp,hkl,?_,?_,?_⟩
 ·rintro ⟨q,hq,hw⟩ H' s'
  rw [List.mem_singleton.mp hq] at hw
  exact k1 hw H' (s1.trans s')
 ·intro hw hd H' s'
  exact k2 (hw r (List.mem_singleton.mpr rfl)) (dup.mp hd) H' (s1.trans s')
 ·intro hw hd q d' st' l' H' kp R' hq0 _ hq hst hl' hd'
  refine ⟨q,_,_,_,rfl,rfl,bD.of hq,at0 _ _,?_⟩
  have e0:((fr:Int)+((0:Nat):Int))=(fr:Int):=by lia
  have hn:news fr [p]=[((fr:Int),V.ref p)]:=by
   unfold news
   simp
  rw [hn] at R'
  have:=k (hw r (List.mem_singleton.mpr rfl)) (fun h=>hd (dup.mpr h)) d' st' l' H' (fun c o h1 h2 h3=>kp c o h1 h2 (s1 _ _ h3)) R' (s1.free hst) (s1.free hl') (s1.free hd')
  show Q (.int ((fr:Int)+((0:Nat):Int))) H'
  rw [e0];exact this
theorem PL:aY ["self", "number"] ["self", "number"] (aA oW):=⟨rfl,rfl,rfl,by decide +kernel,rfl,by decide +kernel,by decide +kernel⟩
theorem KY (T:iK K C) (F:iC K "row_at" "Roll.row_at" oW f fd) (mN:mg "NoEntry"=some (.ref CN)) (hN:PySem.W.excIn K CN tV "ValueError.__new__"=true):bf P w K mg base (gZ P w) 1 f fd ["self", "number"] (xJ C CN):=by
 obtain ⟨oc,od,kV,doc,pm,an,cdv,ct,osl,rfl,lk,hcd⟩:=F.ex
 refine jO lk hcd PL (fun vs H Q E h=>?_) fun A outer s H vs Q E hr h=>?_
 ·obtain ⟨x,dx,st,d,e,l,n,m,fr,kvs,es,ls,k,rfl,_⟩:=h
  rfl
 obtain ⟨x,dx,st,d,e,l,n,m,fr,kvs,es,ls,k,rfl,R,k0,k1⟩:=h
 refine ⟨_,aD (cJ (zZ (Ga (u1 hr) (pv 1) (aM bh (dD (pv 0) rfl) au aU))) (aJ (jV (C:=CN) (E:=E) rfl (fun pins σ H1 s1 h' e C' vs I hx q=>fH I hx q) rfl mN hN (aj aG aq))) bK)
  (aJ (bL (cG (u1 hr) (aM bh (dD (pv 0) rfl) au aU) (pv 1) (fun _ _=>rfl)))),?_⟩
 have g:=gJ.k (k:=.inl k) R.k
 rw [nT] at g
 refine ⟨_,rfl,_,rfl,x,C,dx,_,_,rfl,R.o,T.cl,T.n3,rfl,st,_,_,_,rfl,rfl,bG.of R.s,bH (j:=1) rfl,d,_,rfl,g,_,rfl,?_⟩
 cases hlk:fP kvs k with
 | none=>exact bO ⟨eV (by simp) |> Nat.le_of_lt,k1 hlk⟩
 | some v =>
  rw [hlk] at g
  refine aK ?_
  exact ⟨_,rfl,x,C,dx,_,_,rfl,R.o,T.cl,T.n3,rfl,st,_,_,_,rfl,rfl,bG.of R.s,bH (j:=1) rfl,_,rfl,d,_,rfl,g,k0 v hlk⟩
theorem kY:aY ["self", "number", "old", "free", "held", "left"] ["self", "number"] (aA lJ):=⟨rfl,rfl,rfl,by decide +kernel,rfl,by decide +kernel,by decide +kernel⟩
theorem GX (T:iK K C) (F:iC K "strike" "Roll.strike" lJ f fd) (md:mg "dict"=none)  (G1:bf P w K mg base (gZ P w) 1 g1 d1 ["self", "number"] (xJ C CN)) (m1:Meth K C "row_at" g1) (b1:Binds K d1 ["self", "number"] [])
  (G3:bf P w K mg base dj 1 g3 d3 ["self", "free", "held"] (nR C)) (m3:Meth K C "settle" g3) (b3:Binds K d3 ["self", "free", "held"] []):bf P w K mg base (gZ P w) 2 f fd ["self", "number"] (tG C CN):=by
 obtain ⟨oc,od,kV,doc,pm,an,cdv,ct,osl,rfl,lk,hcd⟩:=F.ex
 refine jO lk hcd kY (fun vs H Q E h=>?_) fun A outer s H vs Q E hr h=>?_
 ·obtain ⟨x,dx,st,d,e,l,n,m,fr,kvs,es,ls,k,rfl,_⟩:=h
  rfl
 obtain ⟨x,dx,st,d,e,l,n,m,fr,kvs,es,ls,k,rfl,R,hes,xG,k0,k1⟩:=h
 refine ⟨_,aD (bU (i:=2) kY.nd rfl (Or.inl rfl) (fX (CX:=gZ P w) (E:=E) (pv 0) T.cl m1 G1 hr b1 .nil dN (aj (pv 1) aq)))
  (aD (iR (dD (pv 0) rfl) (fQ rfl (bA (aO (i:=3) kY.nd rfl (Or.inl rfl)) (bA (aO (i:=4) kY.nd rfl (Or.inl rfl)) cX))))
  (aD (bU (i:=5) kY.nd rfl (Or.inl rfl) (bT mK rfl md qG (aj (pv 4) aq)))
  (aD (Dr (pv 5) (pv 1))
  (aD (cg (fX (E:=E0) (pv 0) T.cl m3 G3 hr b3 .nil bW (aj (pv 3) (aj (pv 5) aq))))
  (aJ (bL (pv 2))))))),?_⟩
 refine ⟨_,rfl,x,dx,_,rfl,R.o,rfl,_,rfl,x,dx,st,d,e,l,n,m,fr,kvs,es,ls,k,rfl,R,fun v hv=>?_,k0⟩
 refine ⟨_,rfl,x,C,dx,_,_,rfl,R.o,T.cl,T.n3,rfl,st,_,rfl,bG.of R.s,rfl,_,_,rfl,_,_,rfl,rfl,?_⟩
 refine ⟨_,rfl,d,_,rfl,R.k,fun d' hd'=>?_⟩
 have s1:=ao hd' (.dK (eY kvs))
 refine ⟨_,rfl,_,rfl,d',_,.inl k,rfl,ak,rfl,by rw [nT,hv];rfl,?_⟩
 rw [tE,qg]
 have s2:Same H (upd H d' (.dK (eY (fO kvs k)))):=ao hd' _
 have k2:(upd H d' (.dK (eY (fO kvs k)))) d'=some (.dK (eY (fO kvs k))):=ak
 generalize upd H d' (.dK (eY (fO kvs k)))=H2 at s2 k2 ⊢
 refine ⟨_,rfl,x,dx,_,rfl,s2 _ _ R.o,rfl,_,rfl,_,rfl,x,dx,st,d,e,l,n,m,_,kvs,es,ls,d',_,_,rfl,R.same s2,k2,hes,xG,fun st' l' H' hK hR' hst' hl'=>?_⟩
 exact ⟨_,rfl,k1 v hv d' st' l' H' (fun c o h1 h2 h3=>hK c o h1 h2 (s2 _ _ h3)) hR' (s2.free hst') (s2.free hl') hd'⟩
theorem jh:aY ["self", "number", "row", "old", "free", "held", "corrected"] ["self", "number", "row"] (aA jd):=⟨rfl,rfl,rfl,by decide +kernel,rfl,by decide +kernel,by decide +kernel⟩
theorem Bu (T:iK K C) (F:iC K "correct" "Roll.correct" jd f fd) (md:mg "dict"=none)  (G1:bf P w K mg base (gZ P w) 1 g1 d1 ["self", "number"] (xJ C CN)) (m1:Meth K C "row_at" g1) (b1:Binds K d1 ["self", "number"] [])
  (G2:bf P w K mg base (gZ P w) 4 g2 d2 ["row"] (wN CF JB wm K)) (M2:Ms K mg "check_row" g2 d2 ["row"])
  (G4:bf P w K mg base (gZ P w) 1 g4 d4 ["row", "held"] (xu CT)) (M4:Ms K mg "check_alone" g4 d4 ["row", "held"])
  (G3:bf P w K mg base dj 1 g3 d3 ["self", "free", "held"] (nR C)) (m3:Meth K C "settle" g3) (b3:Binds K d3 ["self", "free", "held"] []):bf P w K mg base (gZ P w) 5 f fd ["self", "number", "row"] (oZ C CF CN CT K):=by
 obtain ⟨oc,od,kV,doc,pm,an,cdv,ct,osl,rfl,lk,hcd⟩:=F.ex
 refine jO lk hcd jh (fun vs H Q E h=>?_) fun A outer s H vs Q E hr h=>?_
 ·obtain ⟨x,dx,st,d,e,l,n,m,fr,kvs,es,ls,k,p,r,as,rows,rfl,_⟩:=h
  rfl
 obtain ⟨x,dx,st,d,e,l,n,m,fr,kvs,es,ls,k,p,r,as,rows,rfl,R,hp,hg,hvals,has,zH,hes,xG,hkl,k1,k2,k3⟩:=h
 have hr1:cM 1 _:=hr.mono (by decide)
 refine ⟨_,aD (cg (bF (CX:=gZ P w) (E:=E) G2 hr rfl M2.m M2.k M2.b .nil dN (aj (pv 2) aq)))
  (aD (bU (i:=3) jh.nd rfl (Or.inl rfl) (fX (CX:=gZ P w) (E:=E) (pv 0) T.cl m1 G1 hr1 b1 .nil dN (aj (pv 1) aq)))
  (aD (iR (dD (pv 0) rfl) (fQ rfl (bA (aO (i:=4) jh.nd rfl (Or.inl rfl)) (bA (aO (i:=5) jh.nd rfl (Or.inl rfl)) cX))))
  (aD (bU (i:=6) jh.nd rfl (Or.inl rfl) (bT mK rfl md qG (aj (pv 5) aq)))
  (aD (Dr (pv 6) (pv 1))
  (aD (cg (bF (CX:=gZ P w) (E:=E) G4 hr1 rfl M4.m M4.k M4.b .nil dN (aj (pv 2) (aj (pv 6) aq))))
  (aD (Dq (u1 hr) (pv 6) (pv 1) (pv 2) rfl)
  (aD (cg (fX (E:=E0) (pv 0) T.cl m3 G3 hr1 b3 .nil bW (aj (pv 4) (aj (pv 6) aq))))
  (aJ (bL (pv 3)))))))))),?_⟩
 refine ⟨_,rfl,p,r,rfl,bG.of hp,hg.1,?_⟩
 cases hw:wm r with
 | false=>exact aK (k1 hw)
 | true =>
  refine bO fun H1 s1=>?_
  have R1:=R.same s1
  refine ⟨_,rfl,x,dx,_,rfl,R1.o,rfl,_,rfl,x,dx,st,d,e,l,n,m,fr,kvs,es,ls,k,rfl,R1,fun v hv=>?_,fun hn=>k2 hw hn H1 s1⟩
  obtain ⟨k4,k5⟩:=k3 v hw hv
  refine ⟨_,rfl,x,C,dx,_,_,rfl,R1.o,T.cl,T.n3,rfl,st,_,rfl,bG.of R1.s,rfl,_,_,rfl,_,_,rfl,rfl,?_⟩
  refine ⟨_,rfl,d,_,rfl,R1.k,fun d' hd'=>?_⟩
  refine ⟨_,rfl,_,rfl,d',_,.inl k,rfl,ak,rfl,by rw [nT,hv];rfl,?_⟩
  rw [tE,qg]
  have hd0:H d'=none:=s1.free hd'
  have s2:Same H (upd H1 d' (.dK (eY (fO kvs k)))):=s1.trans (ao hd' _)
  have Xu:(upd H1 d' (.dK (eY (fO kvs k)))) d'=some (.dK (eY (fO kvs k))):=ak
  generalize upd H1 d' (.dK (eY (fO kvs k)))=H2 at s2 Xu ⊢
  refine ⟨_,rfl,_,rfl,p,d',r,_,as,rows,rfl,s2 _ _ hp,hg.2,Xu,hvals,L2.Paired.iB has fun a b h=>s2 _ _ h,zH,fun hm H3 s3=>?_,fun hm H3 s3=>k4 hm H3 (s2.trans s3)⟩
  have kk3:=s3 _ _ Xu
  have s23:=s2.trans s3
  have lo:(fO kvs k).length<=kvs.length:=List.length_filter_le _ _
  refine ⟨_,rfl,_,rfl,_,rfl,d',_,rfl,FQ.k (k:=.inl k) kk3 (by unfold eY;rw [bR];exact cj (by lia)),?_⟩
  rw [PB off_ne]
  have s4:Same H (upd H3 d' (.dK (eY (fO kvs k++[(k,V.ref p)])))):=aV s23 hd0
  have kk4:(upd H3 d' (.dK (eY (fO kvs k++[(k,V.ref p)])))) d'=some (.dK (eY (fO kvs k++[(k,V.ref p)]))):=ak
  generalize upd H3 d' (.dK (eY (fO kvs k++[(k,V.ref p)])))=H4 at s4 kk4 ⊢
  refine ⟨_,rfl,x,dx,_,rfl,s4 _ _ R.o,rfl,_,rfl,_,rfl,x,dx,st,d,e,l,n,m,_,kvs,es,ls,d',_,_,rfl,R.same s4,kk4,hes,xG,fun st' l' H' hK hR' hst' hl'=>?_⟩
  exact ⟨_,rfl,k5 hm d' st' l' H' (fun c o h1 h2 h3=>hK c o h1 h2 (s4 _ _ h3)) hR' (s4.free hst') (s4.free hl') hd0⟩
theorem Ej {zJ:List V}:(zJ++[v])[(zJ++[v]).length - 1]?=some v:=by
 rw [iY,List.length_singleton,Nat.add_sub_cancel,List.getElem?_append_right (Nat.le_refl _),Nat.sub_self];rfl
theorem UL:aY ["self"] ["self"] (aA uZ):=⟨rfl,rfl,rfl,by decide +kernel,rfl,by decide +kernel,by decide +kernel⟩
theorem PN (T:iK K C) (F:iC K "back" "Roll.back" uZ f fd) (mH:mg "NothingThere"=some (.ref CH)) (hH:PySem.W.excIn K CH tV "ValueError.__new__"=true):bf P w K mg base (gZ P w) 1 f fd ["self"] (Bt C CH):=by
 obtain ⟨oc,od,kV,doc,pm,an,cdv,ct,osl,rfl,lk,hcd⟩:=F.ex
 refine jO lk hcd UL (fun vs H Q E h=>?_) fun A outer s H vs Q E hr h=>?_
 ·obtain ⟨x,dx,st,d,e,l,n,m,fr,kvs,es,ls,rfl,_⟩:=h
  rfl
 obtain ⟨x,dx,st,d,e,l,n,m,fr,kvs,es,ls,rfl,R,xG,KH,UW,hll,k0,k1⟩:=h
 refine ⟨_,aD (cJ (fj (yt (dD (pv 0) rfl) (fun _=>rfl))) (aJ (jV (C:=CH) (E:=E) rfl (fun pins σ H1 s1 h' e C' vs I hx q=>fH I hx q) rfl mH hH (aj aG aq))) bK)
  (aD (cg (iH PySem.F.plainAttrs_list PySem.F.slot_list_append PySem.F.type_list_append cL (dD (pv 0) rfl) (aj (dD (pv 0) rfl) aq)))
  (aJ (jq (pv 0) (rB (name:="pop") PySem.F.plainAttrs_list PySem.F.slot_list_pop PySem.F.type_list_pop vR (dD (pv 0) rfl)) rfl))),?_⟩
 refine ⟨_,rfl,x,C,dx,_,_,rfl,R.o,T.cl,T.n4,rfl,_,.inl ⟨_,bD.of R.e,rfl⟩,?_⟩
 rcases List.eq_nil_or_concat es with e0 | ⟨zJ,v,e0⟩
 ·subst e0
  exact bO ⟨eV (by simp) |> Nat.le_of_lt,k0 rfl⟩
 ·rw [List.concat_eq_append] at e0
  obtain ⟨KQ,fM,st2,d2,⟨rfl,hst2,hd2⟩,k⟩:=k1 zJ v e0
  subst e0
  have ne0:(!(!(zJ++[V.ref st2]).isEmpty))=false:=by simp
  rw [ne0]
  refine aK ?_
  refine ⟨_,rfl,x,C,dx,_,_,rfl,R.o,T.cl,T.n5,rfl,.inl ⟨rfl,_,bD.of R.l⟩,_,rfl,x,C,dx,_,_,rfl,R.o,T.cl,T.n3,rfl,l,_,_,rfl,rfl,R.l,cj (by lia),?_⟩
  have x1:(upd H l (.lst (ls++[.ref st]))) x=some (.ins C dx (FR n m st e l)):=by rw [aC KH];exact R.o
  have e1:(upd H l (.lst (ls++[.ref st]))) e=some (.lst (zJ++[.ref st2])):=by rw [aC UW];exact R.e
  refine ⟨_,rfl,x,C,dx,_,_,rfl,x1,T.cl,T.n4,rfl,.inl ⟨rfl,_,bD.of e1⟩,e,_,_,rfl,rfl,e1,Ej,?_⟩
  rw [List.dropLast_concat]
  refine ⟨_,rfl,x,C,dx,_,rfl,by rw [aC xG];exact x1,T.cl,T.n3,Nat.lt_of_sub_eq_succ rfl,?_⟩
  have ns:∀ (c:Addr) (o:HO),H c=some o->c≠x->c≠e->c≠l->∀ (a b g:HO),(upd (upd (upd H l a) e b) x g) c=some o:=fun c o h h1 h2 h3 a b g=>by rw [aC h1,aC h2,aC h3];exact h
  have nt:∀ {c:Addr}{xs:List V},H c=some (.tup xs)->c≠x/\c≠e/\c≠l:=fun h=>⟨fun z=>(by rw [z,R.o] at h;cases h),fun z=>(by rw [z,R.e] at h;cases h),fun z=>(by rw [z,R.l] at h;cases h)⟩
  have nd:∀ {c:Addr}{q},H c=some (.dK q)->c≠x/\c≠e/\c≠l:=fun h=>⟨fun z=>(by rw [z,R.o] at h;cases h),fun z=>(by rw [z,R.e] at h;cases h),fun z=>(by rw [z,R.l] at h;cases h)⟩
  obtain ⟨t1,t2,t3⟩:=nt hst2
  obtain ⟨u1,u2,u3⟩:=nd hd2
  refine k _ (fun c o h1 h2 h3 h4=>ns _ _ h4 h1 h2 h3 _ _ _) ⟨by rw [ak];rfl,ns _ _ hst2 t1 t2 t3 _ _ _,ns _ _ hd2 u1 u2 u3 _ _ _,by rw [aC (Ne.symm xG),ak],by rw [aC (Ne.symm KH),aC (Ne.symm UW),ak]⟩
theorem PX:aY ["self"] ["self"] (aA oV):=⟨rfl,rfl,rfl,by decide +kernel,rfl,by decide +kernel,by decide +kernel⟩
theorem KZ (T:iK K C) (F:iC K "again" "Roll.again" oV f fd) (mH:mg "NothingThere"=some (.ref CH)) (hH:PySem.W.excIn K CH tV "ValueError.__new__"=true):bf P w K mg base (gZ P w) 1 f fd ["self"] (xK C CH):=by
 obtain ⟨oc,od,kV,doc,pm,an,cdv,ct,osl,rfl,lk,hcd⟩:=F.ex
 refine jO lk hcd PX (fun vs H Q E h=>?_) fun A outer s H vs Q E hr h=>?_
 ·obtain ⟨x,dx,st,d,e,l,n,m,fr,kvs,es,ls,rfl,_⟩:=h
  rfl
 obtain ⟨x,dx,st,d,e,l,n,m,fr,kvs,es,ls,rfl,R,xG,KH,UW,hll,k0,k1⟩:=h
 refine ⟨_,aD (cJ (fj (yt (dD (pv 0) rfl) (fun _=>rfl))) (aJ (jV (C:=CH) (E:=E) rfl (fun pins σ H1 s1 h' e C' vs I hx q=>fH I hx q) rfl mH hH (aj aG aq))) bK)
  (aD (cg (iH PySem.F.plainAttrs_list PySem.F.slot_list_append PySem.F.type_list_append cL (dD (pv 0) rfl) (aj (dD (pv 0) rfl) aq)))
  (aJ (jq (pv 0) (rB (name:="pop") PySem.F.plainAttrs_list PySem.F.slot_list_pop PySem.F.type_list_pop vR (dD (pv 0) rfl)) rfl))),?_⟩
 refine ⟨_,rfl,x,C,dx,_,_,rfl,R.o,T.cl,T.n5,rfl,_,.inl ⟨_,bD.of R.l,rfl⟩,?_⟩
 rcases List.eq_nil_or_concat ls with e0 | ⟨MP,v,e0⟩
 ·subst e0
  exact bO ⟨eV (by simp) |> Nat.le_of_lt,k0 rfl⟩
 ·rw [List.concat_eq_append] at e0
  obtain ⟨KQ,fM,st2,d2,⟨rfl,hst2,hd2⟩,k⟩:=k1 MP v e0
  subst e0
  have ne0:(!(!(MP++[V.ref st2]).isEmpty))=false:=by simp
  rw [ne0]
  refine aK ?_
  refine ⟨_,rfl,x,C,dx,_,_,rfl,R.o,T.cl,T.n4,rfl,.inl ⟨rfl,_,bD.of R.e⟩,_,rfl,x,C,dx,_,_,rfl,R.o,T.cl,T.n3,rfl,e,_,_,rfl,rfl,R.e,cj (by lia),?_⟩
  have x1:(upd H e (.lst (es++[.ref st]))) x=some (.ins C dx (FR n m st e l)):=by rw [aC xG];exact R.o
  have e1:(upd H e (.lst (es++[.ref st]))) l=some (.lst (MP++[.ref st2])):=by rw [aC (Ne.symm UW)];exact R.l
  refine ⟨_,rfl,x,C,dx,_,_,rfl,x1,T.cl,T.n5,rfl,.inl ⟨rfl,_,bD.of e1⟩,l,_,_,rfl,rfl,e1,Ej,?_⟩
  rw [List.dropLast_concat]
  refine ⟨_,rfl,x,C,dx,_,rfl,by rw [aC KH];exact x1,T.cl,T.n3,Nat.lt_of_sub_eq_succ rfl,?_⟩
  have ns:∀ (c:Addr) (o:HO),H c=some o->c≠x->c≠e->c≠l->∀ (a b g:HO),(upd (upd (upd H e a) l b) x g) c=some o:=fun c o h h1 h2 h3 a b g=>by rw [aC h1,aC h3,aC h2];exact h
  have nt:∀ {c:Addr}{xs:List V},H c=some (.tup xs)->c≠x/\c≠e/\c≠l:=fun h=>⟨fun z=>(by rw [z,R.o] at h;cases h),fun z=>(by rw [z,R.e] at h;cases h),fun z=>(by rw [z,R.l] at h;cases h)⟩
  have nd:∀ {c:Addr}{q},H c=some (.dK q)->c≠x/\c≠e/\c≠l:=fun h=>⟨fun z=>(by rw [z,R.o] at h;cases h),fun z=>(by rw [z,R.e] at h;cases h),fun z=>(by rw [z,R.l] at h;cases h)⟩
  obtain ⟨t1,t2,t3⟩:=nt hst2
  obtain ⟨u1,u2,u3⟩:=nd hd2
  refine k _ (fun c o h1 h2 h3 h4=>ns _ _ h4 h1 h2 h3 _ _ _) ⟨by rw [ak];rfl,ns _ _ hst2 t1 t2 t3 _ _ _,ns _ _ hd2 u1 u2 u3 _ _ _,by rw [aC (Ne.symm xG),aC UW,ak],by rw [aC (Ne.symm KH),ak]⟩
end M
namespace L2
open PySem PySem.Spec
theorem V0 {es2:List Expr}{k:Nat} (ha:WE X (.Tuple es2 k p) te) (hr:WA X es t):WA X (.Tuple es2 k p::es) (fB te t):=⟨aj ha.h hr.h⟩
theorem Yq {o:UnaryOp}{a:Expr} (ha:WE X (.UnaryOp o a p) te) (hr:WA X es t):WA X (.UnaryOp o a p::es) (fB te t):=⟨aj ha.h hr.h⟩
end L2
namespace M
open PySem L2 PyProof.Rows
def zK (r:List V):Prop:=∃ k rest,r=.str k::rest/\rest.length<=6/\Row 20 k rest/\pQ k rest=true
def Gv (t:TE) (σ:L2.St) (H:Hp) (r:List V):Prop:=∀ Q:VK,(∀ p H',Same H H'->H' p=some (.tup r)->Q (.ref p) H')->t σ H Q
theorem V1 (xs:List V) (j:Nat) (h:j<=xs.length):dg xs (some (j:Int)) none=xs.drop j:=by
 unfold dg
 have e2:HT.cW xs.length xs.length none=xs.length:=rfl
 rw [e2,HT.fD,Nat.min_eq_left h,List.take_of_length_le (by rw [List.length_drop];exact Nat.le_refl _)]
theorem cutT (xs:List V) (j:Nat) (h:j<=xs.length):dg xs none (some (j:Int))=xs.take j:=by
 unfold dg
 have e1:HT.cW xs.length 0 none=0:=rfl
 rw [e1,HT.fD,List.drop_zero,Nat.sub_zero,Nat.min_eq_left h]
theorem Rz (n:Nat) (h:1<=n):HT.cW n n (some (-1))=n - 1:=by
 show (if (-1:Int)<0 then ((-1:Int)+(n:Int)).toNat else min (-1:Int).toNat n)=n - 1
 rw [if_pos (by decide)];lia
theorem cutM (xs:List V) (h:1<=xs.length):dg xs none (some (-1))=xs.dropLast:=by
 unfold dg
 have e1:HT.cW xs.length 0 none=0:=rfl
 rw [e1,Rz _ h,List.drop_zero,Nat.sub_zero,List.dropLast_eq_take]
theorem nwN (h:1<=j) (h2:1<=n):¬ (HT.cW n 0 (some (j:Int))=0/\HT.cW n n hi=n):=by
 rw [HT.fD];lia
theorem nwT (h:j<n):¬ (HT.cW n 0 lo=0/\HT.cW n n (some (j:Int))=n):=by
 rw [HT.fD];lia
theorem nwM (h:1<=n):¬ (HT.cW n 0 lo=0/\HT.cW n n (some (-1))=n):=by
 rw [Rz _ h];lia
section
variable {r1 r2:List V}
theorem pq (h1:Gv ta σ H r1) (h2:∀ H',Same H H'->Gv tb σ H' r2) (n1:r1≠[]) (hl:r1.length+r2.length<=1000):Gv (Mv (QW K) ta tb) σ H (r1++r2):=by
 intro Q q
 refine h1 _ fun p H1 s1 e1=>?_
 refine h2 H1 s1 _ fun p2 H2 s2 e2=>?_
 have e1':=s2 _ _ e1
 refine ⟨p,p2,r1,r2,rfl,rfl,bG.of e1',bG.of e2,n1,small (by lia),fun z=>?_,fun _ p3 h3=>q p3 _ ((s1.trans s2).trans (ao h3 _)) ak⟩
 refine q p H2 (s1.trans s2) ?_
 rw [z,List.append_nil];exact e1'
theorem V2 (hσ:σ[i]?=some (some (.ref a))) (h:H a=some (.tup r1)):Gv (pX i) σ H r1:=fun Q q=>⟨_,hσ,q a H (Same.refl _) h⟩
theorem qI (hσ:σ[i]?=some (some (.ref a))) (h:H a=some (.tup r1)) (hj:1<=j) (hl:j<=r1.length):Gv (Xe (Nq K) (pX i) (yw (tC (.int (j:Int)))) nu) σ H (r1.drop j):=by
 intro Q q
 refine ⟨_,hσ,_,rfl,a,r1,rfl,bG.of h,nwN hj (by lia),fun p hp=>?_⟩
 rw [V1 _ _ hl]
 exact q p _ (ao hp _) ak
theorem Yr (hσ:σ[i]?=some (some (.ref a))) (h:H a=some (.tup r1)) (hl:j<r1.length):Gv (Xe (Nq K) (pX i) nu (yw (tC (.int (j:Int))))) σ H (r1.take j):=by
 intro Q q
 refine ⟨_,hσ,_,rfl,a,r1,rfl,bG.of h,nwT hl,fun p hp=>?_⟩
 rw [cutT _ _ (Nat.le_of_lt hl)]
 exact q p _ (ao hp _) ak
theorem Ys (hσ:σ[i]?=some (some (.ref a))) (h:H a=some (.tup r1)) (hl:1<=r1.length):Gv (Xe (Nq K) (pX i) nu (yw (tUn (rU fun i=>.int (-i)) (tC (.int 1))))) σ H r1.dropLast:=by
 intro Q q
 refine ⟨_,hσ,1,rfl,_,rfl,a,r1,rfl,bG.of h,nwM hl,fun p hp=>?_⟩
 have e:=cutM _ hl
 rw [show (-1:Int)=-(1:Int) from rfl] at e
 rw [e]
 exact q p _ (ao hp _) ak
theorem xM:Gv (Nj (fB (tC v) oA)) σ H [v]:=fun Q q=>⟨small (by simp),fun p hp=>q p _ (ao hp _) ak⟩
theorem La {u:V}{tu:TE} (hσ:σ[i]?=some (some (.ref a))) (h:H a=some (.tup (v::rest))) (hu:∀ Q:VK,Q u H->tu σ H Q):Gv (Nj (fB (Mv (Nr K) (pX i) (tC (.int 0))) (fB tu oA))) σ H [v,u]:=fun Q q =>
 ⟨_,hσ,a,_,_,_,rfl,rfl,bG.of h,at0 _ _,hu _ ⟨small (by simp),fun p hp=>q p _ (ao hp _) ak⟩⟩
end
theorem Lb {k:Str}{l:List cU} (h:form k=some l):∀ s,l[0]?=some s->s.num=true:=by
 have:∀ p∈forms,(p.2[0]?.map cU.num)=some true:=by decide
 intro s e
 have:=this _ (dG h)
 simp only [e] at this
 injection this
theorem Ld {k:Str}{l:List cU} (h:form k=some l):∀ s,l[1]?=some s->s.num=false:=by
 have:∀ p∈forms,(p.2[1]?.map cU.num)=some false:=by decide
 intro s e
 have:=this _ (dG h)
 simp only [e] at this
 injection this
theorem Le (h:∀ c∈z.cps.toList,c<128):PyData.strOk z=true:=by
 unfold PyData.strOk
 rw [<- Array.all_toList,List.all_eq_true]
 intro c hc
 have:=h c hc
 exact decide_eq_true (by lia)
theorem Q0 {B:Nat} (h:MF B v):jx v=true:=by
 rcases h with ⟨n,rfl⟩ | ⟨z,rfl,_,h⟩
 ·rfl
 ·exact Le h
theorem jA {k:Str} (hk:PyData.strOk k=true) (h:Row 1000 k rest):dw (.str k::rest):=by
 refine ⟨⟨k,rest,rfl,h⟩,?_⟩
 rw [List.all_eq_true]
 intro v hv
 rcases List.mem_cons.mp hv with rfl | hv
 ·exact hk
 ·exact Q0 (h.ok v hv)
theorem V3 {B B2:Nat} (h:MF B v) (l:B<=B2):MF B2 v:=by
 rcases h with ⟨n,rfl⟩ | ⟨z,rfl,h1,h2⟩
 ·exact .inl ⟨n,rfl⟩
 ·exact .inr ⟨z,rfl,by lia,h2⟩
theorem nU {k:Str}{l:List cU} (h:form k=some l):PyData.strOk k=true :=
 (show ∀ p∈forms,PyData.strOk p.1=true by decide +kernel) _ (dG h)
theorem zK.ex (h:zK r):∃ k l v u rest,r=.str k::v::u::rest/\form k=some l/\(v::u::rest).length=l.length/\l.length<=6/\Row 1000 k (v::u::rest):=by
 obtain ⟨k,rest,rfl,h1,h2,h3⟩:=h
 unfold pQ at h3
 cases hf:form k with
 | none=>rw [hf] at h3;cases h3
 | some l =>
  rw [hf] at h3
  simp only [Bool.and_eq_true,decide_eq_true_eq] at h3
  obtain ⟨l2,l6⟩:=nP hf
  have R:Row 1000 k rest:=⟨h2.len,fun v hv=>V3 (h2.ok v hv) (by decide),h2.kept⟩
  match rest,h3.1,R with
  | [],e,_=>simp at e;lia
  | [_],e,_=>simp at e;lia
  | v::u::rest,e,R=>exact ⟨k,l,v,u,rest,rfl,hf,e,l6,R⟩
theorem zK.g (h:zK r):dw r:=by
 obtain ⟨k,l,v,u,rest,rfl,hf,e,l6,R⟩:=h.ex
 exact jA (nU hf) R
theorem ill0 {k:Str} (R:Row 1000 k rest):dw ([V.str "grants"]++rest) :=
 jA (by decide +kernel) ⟨R.len,R.ok,fun l h=>by cases (show form "grants"=none by decide +kernel).symm.trans h⟩
theorem ill1 {k:Str}{l:List cU} (hf:form k=some l) (hl:rest.length=l.length) (h6:l.length<=6) (R:Row 1000 k rest):dw (V.str k::(rest++[V.int 1])):=by
 refine jA (nU hf) ⟨by simp;lia,fun v hv=>?_,fun l2 h2 i s v h3 h4=>?_⟩
 ·rcases List.mem_append.mp hv with z | z
  ·exact R.ok v z
  ·rw [List.mem_singleton.mp z];exact .inl ⟨1,rfl⟩
 ·have hi:i<l2.length:=(List.getElem?_eq_some_iff.mp h3).1
  have:l=l2:=by rw [hf] at h2;injection h2
  subst this
  rw [List.getElem?_append_left (by lia)] at h4
  exact R.kept _ hf i s v h3 h4
theorem ill2 {k:Str}{l:List cU} (hf:form k=some l) (R:Row 1000 k rest):dw (V.str k::rest.dropLast):=by
 refine jA (nU hf) ⟨by have:=R.len;simp;lia,fun v hv=>R.ok v ((List.dropLast_sublist _).subset hv),fun l2 h2 i s v h3 h4=>?_⟩
 rw [List.dropLast_eq_take,List.getElem?_take] at h4
 split at h4
 ·exact R.kept _ h2 i s v h3 h4
 ·cases h4
theorem Yt {k:Str}{l:List cU}{n:Int} (hf:form k=some l) (R:Row 1000 k (v::rest)):dw ([V.str k,V.int n]++rest):=by
 refine jA (nU hf) ⟨by have:=R.len;simpa using this,fun u hu=>?_,fun l2 h2 i s u h3 h4=>?_⟩
 ·rcases List.mem_cons.mp hu with rfl | z
  ·exact .inl ⟨n,rfl⟩
  ·exact R.ok u (mD _ z)
 ·cases i with
  | zero =>
   have:u=V.int n:=by simpa using h4.symm
   subst this
   exact (Lb h2 s h3).symm
  | succ i=>exact R.kept _ h2 (i+1) s u h3 (by simpa using h4)
theorem ill5:dw [V.str "heir"]:=jA (by decide +kernel) ⟨by simp,(fun v hv=>nomatch hv),fun l h i s v h3 h4=>by simp at h4⟩
theorem ill6 {k:Str}{l:List cU}{u:V} (hf:form k=some l) (R:Row 1000 k (v::u::rest)):dw (([V.str k,v]++[V.str "Not one"])++rest):=by
 refine jA (rest:=v::V.str "Not one"::rest) (nU hf) ⟨by have:=R.len;simpa using this,fun x hx=>?_,fun l2 h2 i s x h3 h4=>?_⟩
 ·rcases List.mem_cons.mp hx with rfl | z
  ·exact R.ok _ (List.mem_cons_self ..)
  ·rcases List.mem_cons.mp z with rfl | z
   ·exact .inr ⟨_,rfl,by decide +kernel,by decide +kernel⟩
   ·exact R.ok x (mD _ (mD _ z))
 ·match i,h3,h4 with
  | 0,h3,h4=>exact R.kept _ h2 0 s x h3 (by simpa using h4)
  | 1,h3,h4 =>
   have:x=V.str "Not one":=by simpa using h4.symm
   subst this
   exact (Ld h2 s h3).symm
  | i+2,h3,h4=>exact R.kept _ h2 (i+2) s x h3 (by simpa using h4)
theorem jll0:wm ([V.str "grants"]++rest)=false:=by
 show pQ "grants" rest=false
 unfold pQ
 rw [show form "grants"=none by decide +kernel]
theorem xO {k:Str}{l:List cU} (hf:form k=some l):wm (.str k::rest)=(decide (rest.length=l.length)&&(((l.zip rest).all mU)&&!(two k&&decide (rest[1]?=rest[2]?)))):=by
 show pQ k rest=_
 unfold pQ;rw [hf]
theorem jll1 {k:Str}{l:List cU} (hf:form k=some l) (hl:rest.length=l.length):wm (V.str k::(rest++[V.int 1]))=false:=by
 rw [xO hf,decide_eq_false (by simp;lia),Bool.false_and]
theorem jll2 {k:Str}{l:List cU} (hf:form k=some l) (hl:rest.length=l.length):wm (V.str k::rest.dropLast)=false:=by
 have:=(nP hf).1
 rw [xO hf,decide_eq_false (by simp;lia),Bool.false_and]
theorem Lf {k:Str}{l:List cU} (hf:form k=some l) {s:cU} (h1:l[i]?=some s) (h2:rest[i]?=some v) (h:jf s v=false):wm (V.str k::rest)=false:=by
 rw [xO hf,Bp (wO h1 h2) h,Bool.false_and,Bool.and_false]
theorem Yu {k:Str}{l:List cU}{n:Int} (hf:form k=some l) (hn:jf .d (.int n)=false):wm ([V.str k,V.int n]++rest)=false:=by
 have:∀ p∈forms,p.2[0]?=some cU.d:=by decide
 exact Lf (rest:=V.int n::rest) hf (i:=0) (this _ (dG hf)) rfl hn
theorem jll6 {k:Str}{l:List cU} (hf:form k=some l):wm (([V.str k,v]++[V.str "Not one"])++rest)=false:=by
 have:∀ p∈forms,p.2[1]?=some cU.n\/p.2[1]?=some cU.c:=by decide
 rcases this _ (dG hf) with h | h
 ·exact Lf (rest:=v::V.str "Not one"::rest) hf (i:=1) h rfl (by decide +kernel)
 ·exact Lf (rest:=v::V.str "Not one"::rest) hf (i:=1) h rfl (by decide +kernel)
def RD:Sp:=fun vs H Q _=>∃ a r,∃ n:Int,vs=[.ref a,.int n]/\H a=some (.tup r)/\zK r/\∀ p r' H',Same H H'->H' p=some (.tup r')->dw r'->wm r'=false->Q (.ref p) H'
theorem seven {ps:List Addr}{i:Int} (hl:ps.length=7) (h0:0<=i) (h1:i<7):∃ p∈ps,tO (ps.map V.ref) i=some (.ref p):=by
 obtain ⟨x,e,m⟩:=gk (xs:=ps.map V.ref) h0 (by rw [bR,hl];exact h1)
 obtain ⟨p,hp,rfl⟩:=List.mem_map.mp m
 exact ⟨p,hp,e⟩
def Lg (K:PySem.W.Frag):Sp:=fun vs H Q _=>∃ (a b:Addr) (ps:List Addr) (rs:List (List V)) (ds:List Int),vs=[.ref a,.ref b]/\bD K H a (ps.map V.ref)/\bC H ps rs/\0<ps.length/\(∀ r∈rs,zK r)/\bD K H b (ds.map V.int)/\5<=ds.length /\
 ∀ p r H',Same H H'->H' p=some (.tup r)->dw r->(wm r=false\/r∈rs)->Q (.ref p) H'
theorem vp {α β:Type}{F:α->β->Prop}:∀ {l:List α}{l2:List β},Paired F l l2->∀ {a:α},a∈l->∃ b∈l2,F a b
 | _,_,.nil,_,h=>nomatch h
 | _,_,.cons h hs,a,m=>by
  rcases List.mem_cons.mp m with rfl | m
  ·exact ⟨_,List.mem_cons_self ..,h⟩
  ·obtain ⟨b,hb,q⟩:=vp hs m
   exact ⟨b,mD _ hb,q⟩
theorem lM (ds:List Int) {i:Int} (h0:0<=i) (h1:i<ds.length):∃ v:Int,tO (ds.map V.int) i=some (.int v)/\v∈ds:=by
 obtain ⟨x,e,m⟩:=gk (xs:=ds.map V.int) h0 (by rw [bR];exact h1)
 obtain ⟨v,hv,rfl⟩:=List.mem_map.mp m
 exact ⟨v,e,hv⟩
theorem Yv:aY ["_law_row", "_law_number"] ["_law_row", "_law_number"] (aA Gk):=⟨rfl,rfl,rfl,by decide +kernel,rfl,by decide +kernel,by decide +kernel⟩
theorem V4 (F:iC K "_law_ill" "_law_ill" Gk f fd):bf P w K mg base dj 1 f fd ["_law_row", "_law_number"] RD:=by
 refine F.ok Yv (fun vs H Q E h=>?_) (fun cdv A outer s H vs Q E hr h=>?_)
 ·obtain ⟨a,r,n,rfl,_⟩:=h
  rfl
 obtain ⟨a,r,n,rfl,ha,hP,kk⟩:=h
 refine tW.out ⟨_,aZ (bM (kh bB (iV (rZ (fJ jr (oH (rY jZ dU)) (uO iT (wv 0) (lH cZ) lG))
  (rZ (fJ jr (wv 0) (oH (rY cZ dU)))
  (wH (uO iT (wv 0) lG (lH (Jv cZ)))
  (rZ (fJ jr (oH (wH (kh bh (wv 0) cZ aU) (Yq (Jv cZ) dU))) (uO iT (wv 0) (lH cZ) lG))
  (rZ (fJ jr (oH (wH (kh bh (wv 0) cZ aU) (rY cZ dU))) (uO iT (wv 0) (lH cZ) lG))
  (V0 (oH (rY jZ dU))
  (rZ (fJ jr (fJ jr (uO iT (wv 0) lG (lH cZ)) (oH (rY jZ dU))) (uO iT (wv 0) (lH cZ) lG))
   dU)))))))) (fJ bV (wv 1) cZ) wG)),?_⟩
 obtain ⟨k,l,v,u,rest,rfl,hf,hl,l6,R⟩:=hP.ex
 have hlen:(V.str k::v::u::rest).length=l.length+1:=by rw [jK,hl]
 have hs:∀ n:V,([some (V.ref a),some n]:L2.St)[0]?=some (some (.ref a)):=fun _=>rfl
 have hrl:rest.length<=4:=by simp at hl;lia
 refine pq (r1:=[V.str "grants"]) xM (fun H' s'=>qI (j:=1) (hs _) (s' _ _ ha) (by decide) (by simp)) (by simp) (by simp;lia) _ fun p0 H0 s0 e0=>?_
 refine pq (V2 (hs _) (s0 _ _ ha)) (fun H' s'=>xM) (by simp) (by simp;lia) _ fun p1 H1 s1 e1=>?_
 have t1:=s0.trans s1
 refine Ys (hs _) (t1 _ _ ha) (by simp) _ fun p2 H2 s2 e2=>?_
 have t2:=t1.trans s2
 refine pq (La (u:=V.int (-1)) (hs _) (t2 _ _ ha) fun Q q=>⟨_,rfl,q⟩) (fun H' s'=>qI (j:=2) (hs _) (s' _ _ (t2 _ _ ha)) (by decide) (by simp)) (by simp) (by simp;lia) _ fun p3 H3 s3 e3=>?_
 have t3:=t2.trans s3
 refine pq (La (u:=V.int 10000) (hs _) (t3 _ _ ha) fun Q q=>q) (fun H' s'=>qI (j:=2) (hs _) (s' _ _ (t3 _ _ ha)) (by decide) (by simp)) (by simp) (by simp;lia) _ fun p4 H4 s4 e4=>?_
 have t4:=t3.trans s4
 refine xM _ fun p5 H5 s5 e5=>?_
 have t5:=t4.trans s5
 refine pq (pq (Yr (j:=2) (hs _) (t5 _ _ ha) (by simp)) (fun H' s'=>xM) (by simp) (by simp)) (fun H' s'=>qI (j:=3) (hs _) (s' _ _ (t5 _ _ ha)) (by decide) (by simp)) (by simp) (by simp;lia) _ fun p6 H6 s6 e6=>?_
 have t6:=t5.trans s6
 refine ⟨small (by simp),fun q hq=>?_⟩
 have t7:=t6.trans (ao hq (.lst [V.ref p0,V.ref p1,V.ref p2,V.ref p3,V.ref p4,V.ref p5,V.ref p6]))
 obtain ⟨p,hp,ep⟩:=seven (ps:=[p0,p1,p2,p3,p4,p5,p6]) rfl (Int.emod_nonneg n (by decide:(7:Int)≠0)) (Int.emod_lt_of_pos n (by decide))
 refine ⟨_,rfl,_,_,rfl,rfl,(by show (0:Int)<7;decide),q,_,_,_,rfl,rfl,bD.of ak,ep,?_⟩
 have u6:=ao hq (.lst [V.ref p0,V.ref p1,V.ref p2,V.ref p3,V.ref p4,V.ref p5,V.ref p6])
 simp only [List.mem_cons,List.not_mem_nil,or_false] at hp
 rcases hp with rfl | rfl | rfl | rfl | rfl | rfl | rfl
 ·exact kk _ _ _ t7 (u6 _ _ (s6 _ _ (s5 _ _ (s4 _ _ (s3 _ _ (s2 _ _ (s1 _ _ e0))))))) (ill0 R) jll0
 ·exact kk _ _ _ t7 (u6 _ _ (s6 _ _ (s5 _ _ (s4 _ _ (s3 _ _ (s2 _ _ e1)))))) (ill1 hf hl l6 R) (jll1 hf hl)
 ·exact kk _ _ _ t7 (u6 _ _ (s6 _ _ (s5 _ _ (s4 _ _ (s3 _ _ e2))))) (ill2 hf R) (jll2 hf hl)
 ·exact kk _ _ _ t7 (u6 _ _ (s6 _ _ (s5 _ _ (s4 _ _ e3)))) (Yt hf R) (Yu hf (by decide))
 ·exact kk _ _ _ t7 (u6 _ _ (s6 _ _ (s5 _ _ e4))) (Yt hf R) (Yu hf (by decide))
 ·exact kk _ _ _ t7 (u6 _ _ (s6 _ _ e5)) ill5 (by decide +kernel)
 ·exact kk _ _ _ t7 (u6 _ _ e6) (ill6 hf R) (jll6 hf)
theorem Lh:aY ["_law_rows", "_law_d", "_law_row"] ["_law_rows", "_law_d"] (aA uV):=⟨rfl,rfl,rfl,by decide +kernel,rfl,by decide +kernel,by decide +kernel⟩
theorem Q5 (F:iC K "_law_pick" "_law_pick" uV f fd) (ml:mg "len"=none)  (G1:bf P w K mg base dj 1 g1 d1 ["_law_row", "_law_number"] RD) (M1:Ms K mg "_law_ill" g1 d1 ["_law_row", "_law_number"]):bf P w K mg base dj 2 f fd ["_law_rows", "_law_d"] (Lg K):=by
 refine F.ok Lh (fun vs H Q E h=>?_) (fun cdv A outer s H vs Q E hr h=>?_)
 ·obtain ⟨a,b,ps,rs,ds,rfl,_⟩:=h
  rfl
 obtain ⟨a,b,ps,rs,ds,rfl,ha,hps,hr0,Wn,hb,hd,kk⟩:=h
 refine tW.out ⟨_,aH (cD (i:=2) Lh.nd rfl (Or.inl rfl) (kh bB (wv 0) (fJ bV (kh bB (wv 1) cZ aU) (wJ rfl ml (wv 0))) wG))
  (aH (cQ (aL bZ (aQ bV (aM bB (pv 1) au aU) au) au (aX _)) (aZ (bM ⟨bF G1 hr rfl M1.m M1.k M1.b .nil bW (aj (pv 2) (aj (aM bB (pv 1) au aU) aq))⟩)) bN)
  (aZ (bM (wv 2)))),?_⟩
 have hl:ps.length=rs.length:=hps.length
 obtain ⟨v1,e1,_⟩:=lM ds (i:=1) (by decide) (by lia)
 obtain ⟨v3,e3,_⟩:=lM ds (i:=3) (by decide) (by lia)
 obtain ⟨v4,e4,_⟩:=lM ds (i:=4) (by decide) (by lia)
 have pos:(0:Int)<((ps.map V.ref).length:Int):=by rw [bR];lia
 obtain ⟨x,ex,mx⟩:=gk (xs:=ps.map V.ref) (Int.emod_nonneg v1 (Int.ne_of_gt pos)) (Int.emod_lt_of_pos v1 pos)
 obtain ⟨p,hp,rfl⟩:=List.mem_map.mp mx
 obtain ⟨r,hr1,hpr⟩:=vp hps hp
 refine ⟨_,rfl,_,rfl,b,_,_,_,rfl,rfl,hb,e1,_,rfl,a,_,rfl,.inl ha,_,_,rfl,rfl,pos,a,_,_,_,rfl,rfl,ha,ex,?_⟩
 refine ⟨_,rfl,b,_,_,_,rfl,rfl,hb,e3,_,_,rfl,rfl,(by show (0:Int)<7;decide),rfl,_,rfl,?_⟩
 refine iD (fun c=>?_) (fun c=>?_)
 ·exact ⟨_,rfl,_,rfl,b,_,_,_,rfl,rfl,hb,e4,p,r,_,rfl,hpr,Wn r hr1,fun q r' H' s' eq g w'=>kk q r' H' s' eq g (.inl w')⟩
 ·exact ⟨_,rfl,kk p r H (Same.refl _) hpr (Wn r hr1).g (.inr hr1)⟩
structure Ent where
 q:Addr
 n:Int
 p:Addr
 r:List V
structure kZ where
 t:Addr
 en:Addr
 fr:Nat
 es:List Ent
def Bv (H:Hp) (e:Ent):Prop:=H e.q=some (.tup [.int e.n,.ref e.p])/\H e.p=some (.tup e.r)
def jE (H:Hp) (a:Addr) (es:List Ent):Prop:=H a=some (.lst (es.map fun e=>V.ref e.q))/\∀ e∈es,Bv H e
def mj (H:Hp) (s:kZ):Prop:=H s.t=some (.tup [.ref s.en,.int (s.fr:Int)])/\jE H s.en s.es
def Yw (en b a:Addr) (fr:Nat):List (Key×V):=[(.inr "entries",.ref en),(.inr "free",.int (fr:Int)),(.inr "behind",.ref b),(.inr "ahead",.ref a)]
structure gM (H:Hp) (m en b a:Addr) (fr:Nat) (es:List Ent) (bs as:List kZ):Prop where
 m:H m=some (.dK (Yw en b a fr))
 en:jE H en es
 b:H b=some (.lst (bs.map fun s=>V.ref s.t))
 a:H a=some (.lst (as.map fun s=>V.ref s.t))
 bs:∀ s∈bs,mj H s
 as:∀ s∈as,mj H s
theorem jE.same {es:List Ent} (h:jE H a es) (s:Same H H'):jE H' a es:=⟨s _ _ h.1,fun e he=>⟨s _ _ (h.2 e he).1,s _ _ (h.2 e he).2⟩⟩
theorem gM.same {m:Addr}{fr:Nat}{es:List Ent}{bs as:List kZ} (h:gM H m en b a fr es bs as) (s:Same H H'):gM H' m en b a fr es bs as :=
 ⟨s _ _ h.m,h.en.same s,s _ _ h.b,s _ _ h.a,fun x hx=>⟨s _ _ (h.bs x hx).1,(h.bs x hx).2.same s⟩,fun x hx=>⟨s _ _ (h.as x hx).1,(h.as x hx).2.same s⟩⟩
section
variable {m:Addr}{fr:Nat}{es:List Ent}{bs as:List kZ}
theorem gM.gE (h:gM H m en b a fr es bs as):gJ H m (V.str "entries") (some (.ref en)):=gJ.k (k:=.inr "entries") h.m
theorem gM.gF (h:gM H m en b a fr es bs as):gJ H m (V.str "free") (some (.int (fr:Int))):=gJ.k (k:=.inr "free") h.m
theorem gM.gB (h:gM H m en b a fr es bs as):gJ H m (V.str "behind") (some (.ref b)):=gJ.k (k:=.inr "behind") h.m
theorem gM.gA (h:gM H m en b a fr es bs as):gJ H m (V.str "ahead") (some (.ref a)):=gJ.k (k:=.inr "ahead") h.m
end
inductive Tn where
 | en (p:Addr) (r:List V)
 | al (l:Addr) (ps:List Addr) (rs:List (List V))
 | st (n:Int)
 | co (n:Int) (p:Addr) (r:List V)
 | ba
 | ag
def Tn.vs:Tn->List V
 | .en p _=>[.str "enter",.ref p]
 | .al l _ _=>[.str "all",.ref l]
 | .st n=>[.str "strike",.int n]
 | .co n p _=>[.str "correct",.int n,.ref p]
 | .ba=>[.str "back"]
 | .ag=>[.str "again"]
def Tn.At (pool:List (List V)) (H:Hp):Tn->Prop
 | .en p r=>H p=some (.tup r)/\dw r/\(wm r=false\/r∈pool)
 | .al l ps rs=>H l=some (.lst (ps.map V.ref))/\bC H ps rs/\(∀ r∈rs,dw r/\(wm r=false\/r∈pool))/\ps.length<=3
 | .co _ p r=>H p=some (.tup r)/\dw r/\(wm r=false\/r∈pool)
 | _=>True
theorem lN {Q:VK}{es:List Ent} (j:Nat) (g:Ent->V) (hg:∀ e:Ent,([V.int e.n,V.ref e.p])[j]?=some (g e)) (hL:H L=some (.lst (es.map fun e=>V.ref e.q))) (hes:∀ e∈es,Bv H e) (hl:es.length<=1000) (hD:H D=none)
  (k:∀ H',Same H H'->H' D=some (.lst (es.map g))->Q (.ref D) H'):jR (QM K L) D σ 1 [] (pC 0) Dh (Mv (Nr K) (pX 0) (tC (.int (j:Int)))) Q H:=by
 refine jc (K:=K) (a:=L) (xs:=es.map fun e=>V.ref e.q) (fun i ys H7=>ys=(es.take i).map g/\Same H H7/\H7 D=some (.lst ys)) (fun i ys H7 h=>bD.of (h.2.1 _ _ hL)) ⟨rfl,ao hD _,ak⟩ (fun i ys H7 h=>h.2.2) ?_ ?_
 ·rintro i ys H7 x hx ⟨rfl,s7,Li⟩
  rw [lW] at hx
  obtain ⟨t,ht,rfl⟩:=Option.map_eq_some_iff.mp hx
  have hi:i<es.length:=(List.getElem?_eq_some_iff.mp ht).1
  refine ⟨Kp.set rfl (Kp.refl _),?_⟩
  refine dY ?_
  refine ⟨_,rfl,t.q,_,_,_,rfl,rfl,bG.of (s7 _ _ (hes t (qN ht)).1),bH (hg t),Li,?_,?_,aV s7 hD,ak⟩
  ·rw [bR,List.length_take];exact cj (by lia)
  ·rw [List.take_add_one,ht,lR];rfl
 rintro ys H7 ⟨rfl,s7,Li⟩
 rw [bR,List.take_length] at Li
 exact k H7 s7 Li
theorem gQ {α β:Type}{F:α->β->Prop}{x:α}{y:β}:∀ {l:List α}{l2:List β},Paired F l l2->F x y->Paired F (l++[x]) (l2++[y])
 | _,_,.nil,h=>.cons h .nil
 | _,_,.cons h hs,q=>.cons h (gQ hs q)
def RG:List Str:=["enter", "all", "strike", "correct", "back", "again"]
def Lj (K:PySem.W.Frag):Sp:=fun vs H Q _=>∃ (m rw_ d y en b a:Addr) (fr:Nat) (es:List Ent) (bs as:List kZ) (ps:List Addr) (rs:List (List V)) (ds:List Int) (ws:List Str),vs=[.ref m,.ref rw_,.ref d,.ref y]/\gM H m en b a fr es bs as/\es.length<=1000/\bD K H rw_ (ps.map V.ref)/\bC H ps rs/\0<ps.length/\(∀ r∈rs,zK r) /\
 bD K H d (ds.map V.int)/\ds.length=8/\bD K H y (ws.map V.str)/\0<ws.length/\(∀ z∈ws,z∈RG)/\∀ t T H',Same H H'->H' t=some (.tup (Tn.vs T))->T.At rs H'->(∀ l qs us,T=.al l qs us->H l=none)->Q (.ref t) H'
theorem xP:aY ["_law_model", "_law_rows", "_law_d", "_law_ways", "_law_way", "_law_numbers", "_law_number"] ["_law_model", "_law_rows", "_law_d", "_law_ways"] (aA pN):=⟨rfl,rfl,rfl,by decide +kernel,rfl,by decide +kernel,by decide +kernel⟩
def scT1:Scope:={ kind:=.function,names:=[(".0",.local),("_law_entry",.local)],isGenerator:=false,isCoroutine:=false }
theorem csT1:dF ["_law_model", "_law_rows", "_law_d", "_law_ways", "_law_way", "_law_numbers", "_law_number"] (aA pN) scT1 ["_law_entry"] [] []:=⟨rfl,by decide +kernel,by decide +kernel,by decide +kernel,rfl,by decide +kernel⟩
theorem V5:((["_law_entry"]:List Str)++([]:List Str)).Nodup:=by decide +kernel
def scT2:Scope:={ kind:=.function,names:=[(".0",.local),("_law_k",.local),("_law_pick",.globalImplicit),("_law_d",.free),("_law_rows",.free)],isGenerator:=false,isCoroutine:=false }
theorem csT2:dF ["_law_model", "_law_rows", "_law_d", "_law_ways", "_law_way", "_law_numbers", "_law_number"] (aA pN) scT2 ["_law_k"] ["_law_d", "_law_rows"] [2,1]:=⟨rfl,by decide +kernel,by decide +kernel,by decide +kernel,rfl,by decide +kernel⟩
theorem ndT2:((["_law_k"]:List Str)++(["_law_d", "_law_rows"]:List Str)).Nodup:=by decide +kernel
theorem Q6 (F:iC K "_law_turn" "_law_turn" pN f fd) (ml:mg "len"=none) (mr:mg "range"=none)  (G1:bf P w K mg base dj 2 g1 d1 ["_law_rows", "_law_d"] (Lg K)) (M1:Ms K mg "_law_pick" g1 d1 ["_law_rows", "_law_d"]):bf P w K mg base dj 3 f fd ["_law_model", "_law_rows", "_law_d", "_law_ways"] (Lj K):=by
 refine F.ok xP (fun vs H Q E h=>?_) (fun cdv A outer s H vs Q E hr h=>?_)
 ·obtain ⟨m,rw_,d,y,en,b,a,fr,es,bs,as,ps,rs,ds,ws,rfl,_⟩:=h
  rfl
 obtain ⟨m,rw_,d,y,en,b,a,fr,es,bs,as,ps,rs,ds,ws,rfl,R,hes,hrw,hps,hp0,Wn,hd,hdl,hy,hw0,hwz,kk⟩:=h
 refine tW.out ⟨_,aH (cD (i:=4) xP.nd rfl (Or.inl rfl) (kh bB (wv 3) (fJ bV (kh bB (wv 2) cZ aU) (wJ rfl ml (wv 3))) wG))
  (aH (cD (i:=5) xP.nd rfl (Or.inl rfl) ⟨aQ vU (aQ Tq (fG rfl csT1 (gG (cG (u1 hr) (pv 0) aG (fun _ _=>rfl))) (fun s H fp C=>⟨aO (i:=0) V5 rfl (Or.inl rfl),dZ,aM (gb (K:=K)) (pv 0) au aU⟩)) au)
   (cP (aj (cG (u1 hr) (pv 0) aG (fun _ _=>rfl)) (aj au (aj (QT HJ au) (aj (aQ cC (cG (u1 hr) (pv 0) aG (fun _ _=>rfl)) (aQ bV (aM bB (pv 2) au aU) au)) aq)))))⟩)
  (aH (cD (i:=6) xP.nd rfl (Or.inl rfl) (kh bB (wv 5) (fJ bV (kh bB (wv 2) cZ aU) (wJ rfl ml (wv 5))) wG))
  (aH (cQ (aL bZ (pv 4) aG (aX _)) (aZ (bM ⟨dh (aj (pv 4) (aj (bF G1 hr rfl M1.m M1.k M1.b .nil bW (aj (pv 1) (aj (pv 2) aq))) aq))⟩)) bN)
  (aH (cQ (aL bZ (pv 4) aG (aX _)) (aZ (bM ⟨dh (aj (pv 4) (aj (fG rfl csT2 (eU rfl mr (aj (aQ bV (aM bB (pv 2) au aU) au) aq)) (fun s H fp C=>⟨aO (i:=0) ndT2 rfl (Or.inl rfl),dZ,bF G1 hr rfl M1.m M1.k M1.b .nil bW (aj (pv 2) (aj (cT (yF (K:=K)) (pv 1) (cR (pv 0)) fY) aq))⟩)) aq))⟩)) bN)
  (aH (cQ (aL bZ (pv 4) aG (aX _)) (aZ (bM ⟨dh (aj (pv 4) (aj (pv 6) aq))⟩)) bN)
  (aH (cQ (aL bZ (pv 4) aG (aX _)) (aZ (bM ⟨dh (aj (pv 4) (aj (pv 6) (aj (bF G1 hr rfl M1.m M1.k M1.b .nil bW (aj (pv 1) (aj (pv 2) aq))) aq)))⟩)) bN)
  (aZ (bM ⟨dh (aj (pv 4) aq)⟩)))))))),?_⟩
 have wpos:(0:Int)<((ws.map V.str).length:Int):=by rw [bR];lia
 obtain ⟨v0,e0,_⟩:=lM ds (i:=0) (by decide) (by lia)
 obtain ⟨v2,e2,_⟩:=lM ds (i:=2) (by decide) (by lia)
 obtain ⟨v5,e5,_⟩:=lM ds (i:=5) (by decide) (by lia)
 obtain ⟨x,ex,mx⟩:=gk (xs:=ws.map V.str) (Int.emod_nonneg v0 (Int.ne_of_gt wpos)) (Int.emod_lt_of_pos v0 wpos)
 obtain ⟨z,hz,rfl⟩:=List.mem_map.mp mx
 refine ⟨_,rfl,_,rfl,d,_,_,_,rfl,rfl,hd,e0,_,rfl,y,_,rfl,.inl hy,_,_,rfl,rfl,wpos,y,_,_,_,rfl,rfl,hy,ex,?_⟩
 refine ⟨_,rfl,m,_,rfl,R.gE,en,rfl,⟨_,bD.of R.en.1⟩,fun D hD=>?_⟩
 refine lN 0 (fun e=>V.int e.n) (fun e=>rfl) R.en.1 R.en.2 hes hD fun H1 s1 hD1=>?_
 refine ⟨D,3,_,rfl,rfl,hD1,by decide,by decide,by rw [bR];exact small (by show _ * 3<=_;lia),fun D2 hD2=>?_⟩
 have s2:=s1.trans (ao hD2 (.lst (List.replicate (3:Int).toNat (es.map fun e=>V.int e.n)).flatten))
 have l2:(upd H1 D2 (.lst (List.replicate (3:Int).toNat (es.map fun e=>V.int e.n)).flatten)) D2=some (.lst (List.replicate (3:Int).toNat (es.map fun e=>V.int e.n)).flatten):=ak
 generalize upd H1 D2 (.lst (List.replicate (3:Int).toNat (es.map fun e=>V.int e.n)).flatten)=H2 at s2 l2 ⊢
 have R2:=R.same s2
 refine ⟨_,rfl,m,_,rfl,R2.gF,1,rfl,_,rfl,m,_,rfl,R2.gF,_,rfl,d,_,_,_,rfl,rfl,s2.seq hd,e2,_,_,rfl,rfl,(by show (0:Int)<9;decide),_,_,rfl,rfl,small (by simp),fun D3 Nv=>?_⟩
 have s3:=ao Nv (.lst [V.int (fr:Int),V.int 0,V.int (-1),V.int ((fr:Int)+v2 % 9)])
 have l3:(upd H2 D3 (.lst [V.int (fr:Int),V.int 0,V.int (-1),V.int ((fr:Int)+v2 % 9)])) D3=some (.lst [V.int (fr:Int),V.int 0,V.int (-1),V.int ((fr:Int)+v2 % 9)]):=ak
 refine ⟨D2,D3,_,_,rfl,rfl,s3 _ _ l2,l3,by rw [len_rep,bR];exact small (by show 3 * _+4<=_;lia),fun D4 DP=>?_⟩
 have t3:=s2.trans s3
 generalize upd H2 D3 (.lst [V.int (fr:Int),V.int 0,V.int (-1),V.int ((fr:Int)+v2 % 9)])=H3 at t3 DP ⊢
 obtain ⟨ns,hns⟩:∃ ns:List Int,(List.replicate (3:Int).toNat (es.map fun e=>V.int e.n)).flatten++[V.int (fr:Int),V.int 0,V.int (-1),V.int ((fr:Int)+v2 % 9)]=ns.map V.int :=
  ⟨es.map (·.n)++(es.map (·.n)++(es.map (·.n)++[(fr:Int),0,-1,(fr:Int)+v2 % 9])),by simp [List.replicate,Function.comp_def]⟩
 have npos:0<ns.length:=by
  have:=congrArg List.length hns
  rw [bR,iY] at this
  simp at this
  lia
 rw [hns]
 have s4:=t3.trans (ao DP (.lst (ns.map V.int)))
 have l4:(upd H3 D4 (.lst (ns.map V.int))) D4=some (.lst (ns.map V.int)):=ak
 generalize upd H3 D4 (.lst (ns.map V.int))=H4 at s4 l4 ⊢
 have Lk:(0:Int)<((ns.map V.int).length:Int):=by rw [bR];lia
 obtain ⟨nn,en',mn⟩:=gk (xs:=ns.map V.int) (Int.emod_nonneg v2 (Int.ne_of_gt Lk)) (Int.emod_lt_of_pos v2 Lk)
 obtain ⟨num,_,rfl⟩:=List.mem_map.mp mn
 refine ⟨_,rfl,_,rfl,d,_,_,_,rfl,rfl,s4.seq hd,e2,_,rfl,D4,_,rfl,.inl (bD.of l4),_,_,rfl,rfl,Lk,D4,_,_,_,rfl,rfl,bD.of l4,en',?_⟩
 have V6:bC H4 ps rs:=L2.Paired.iB hps fun a b h=>s4 _ _ h
 have hzw:=hwz z hz
 unfold RG at hzw
 simp only [List.mem_cons,List.not_mem_nil,or_false] at hzw
 refine ⟨_,rfl,rfl,_,rfl,?_⟩
 rcases hzw with rfl | rfl | rfl | rfl | rfl | rfl
 ·refine bO ?_
  refine ⟨_,rfl,_,rfl,_,rfl,rw_,d,ps,rs,ds,rfl,s4.seq hrw,V6,hp0,Wn,s4.seq hd,by lia,fun p r H5 s5 e5 g5 q5=>⟨small (by simp),fun t ht=>?_⟩⟩
  exact kk t (.en p r) _ ((s4.trans s5).trans (ao ht _)) ak ⟨(ao ht _) _ _ e5,g5,q5⟩ (fun _ _ _ e=>by cases e)
 ·refine aK ?_
  refine ⟨_,rfl,rfl,_,rfl,bO ?_⟩
  refine ⟨_,rfl,_,rfl,d,_,_,_,rfl,rfl,s4.seq hd,e5,_,_,rfl,rfl,(by show (0:Int)<4;decide),_,rfl,?_⟩
  have b0:=Int.emod_nonneg v5 (show (4:Int)≠0 by decide)
  have b1:=Int.emod_lt_of_pos v5 (show (0:Int)<4 by decide)
  refine ⟨by lia,by lia,fun D5 RJ=>?_⟩
  refine ju (lo:=0) (n:=(v5 % 4).toNat) (fun i ys H5=>∃ (qs:List Addr) (us:List (List V)),ys=qs.map V.ref/\qs.length=i/\bC H5 qs us/\(∀ r∈us,dw r/\(wm r=false\/r∈rs))/\Same H4 H5/\H5 D5=some (.lst ys)) ⟨[],[],rfl,rfl,.nil,(fun r hr=>nomatch hr),ao RJ _,ak⟩ (fun i ys H5 h=>by obtain ⟨qs,us,_,_,_,_,_,h⟩:=h;exact h) ?_ ?_
  ·rintro i ys H5 hi ⟨qs,us,rfl,hql,Yx,hus,s5,zL⟩
   refine ⟨Kp.set rfl (Kp.refl _),?_⟩
   refine dY ?_
   refine ⟨_,rfl,_,rfl,_,rfl,_,rfl,d,_,rfl,(s4.trans s5).seq hd,fun D6 Wo=>?_⟩
   have s6:=ao Wo (.lst (dg (ds.map V.int) (some (0+(i:Int))) none))
   have e6:dg (ds.map V.int) (some (0+(i:Int))) none=(ds.drop i).map V.int:=by
    rw [Int.zero_add,V1 _ _ (by rw [bR];lia),List.map_drop]
   rw [e6] at s6 ⊢
   have D56:D5≠D6:=aN zL Wo
   refine ⟨rw_,D6,ps,rs,ds.drop i,rfl,(s4.trans (s5.trans s6)).seq hrw,L2.Paired.iB V6 fun a b h=>s6 _ _ (s5 _ _ h),hp0,Wn,bD.of ak,by rw [List.length_drop];lia,fun p r H7 s7 e7 g7 q7=>⟨s7 _ _ (s6 _ _ zL),?_,?_⟩⟩
   ·rw [bR];exact cj (by lia)
   ·have Q8:Same H5 H7:=s6.trans s7
    have hD0:H4 D5=none:=RJ
    refine ⟨qs++[p],us++[r],by simp,by simp [hql],?_,?_,aV (s5.trans Q8) RJ,ak⟩
    ·have nt:∀ c r,H7 c=some (.tup r)->c≠D5:=fun c r h e=>by rw [e,Q8 _ _ zL] at h;cases h
     refine gQ (L2.Paired.iB Yx fun c r h=>?_) ?_
     ·rw [aC (nt c r (Q8 _ _ h))];exact Q8 _ _ h
     ·rw [aC (nt p r e7)];exact e7
    ·intro r' hr'
     rcases List.mem_append.mp hr' with h | h
     ·exact hus r' h
     ·rw [List.mem_singleton.mp h];exact ⟨g7,q7⟩
  ·rintro ys H5 ⟨qs,us,rfl,hql,Yx,hus,s5,zL⟩
   refine ⟨small (by simp),fun t ht=>?_⟩
   have s6:=ao ht (.tup [V.str "all",V.ref D5])
   exact kk t (.al D5 qs us) _ ((s4.trans s5).trans s6) ak ⟨s6 _ _ zL,L2.Paired.iB Yx fun a b h=>s6 _ _ h,hus,by lia⟩ (fun _ _ _ e=>by cases e;exact s4.free RJ)
 ·refine aK ?_
  refine ⟨_,rfl,rfl,_,rfl,aK ?_⟩
  refine ⟨_,rfl,rfl,_,rfl,bO ?_⟩
  refine ⟨_,rfl,_,rfl,small (by simp),fun t ht=>?_⟩
  exact kk t (.st num) _ (s4.trans (ao ht _)) ak trivial (fun _ _ _ e=>by cases e)
 ·refine aK ?_
  refine ⟨_,rfl,rfl,_,rfl,aK ?_⟩
  refine ⟨_,rfl,rfl,_,rfl,aK ?_⟩
  refine ⟨_,rfl,rfl,_,rfl,bO ?_⟩
  refine ⟨_,rfl,_,rfl,_,rfl,_,rfl,rw_,d,ps,rs,ds,rfl,s4.seq hrw,V6,hp0,Wn,s4.seq hd,by lia,fun p r H5 s5 e5 g5 q5=>⟨small (by simp),fun t ht=>?_⟩⟩
  exact kk t (.co num p r) _ ((s4.trans s5).trans (ao ht _)) ak ⟨(ao ht _) _ _ e5,g5,q5⟩ (fun _ _ _ e=>by cases e)
 ·refine aK ?_
  refine ⟨_,rfl,rfl,_,rfl,aK ?_⟩
  refine ⟨_,rfl,rfl,_,rfl,aK ?_⟩
  refine ⟨_,rfl,rfl,_,rfl,aK ?_⟩
  refine ⟨_,rfl,small (by simp),fun t ht=>?_⟩
  exact kk t .ba _ (s4.trans (ao ht _)) ak trivial (fun _ _ _ e=>by cases e)
 ·refine aK ?_
  refine ⟨_,rfl,rfl,_,rfl,aK ?_⟩
  refine ⟨_,rfl,rfl,_,rfl,aK ?_⟩
  refine ⟨_,rfl,rfl,_,rfl,aK ?_⟩
  refine ⟨_,rfl,small (by simp),fun t ht=>?_⟩
  exact kk t .ag _ (s4.trans (ao ht _)) ak trivial (fun _ _ _ e=>by cases e)
end M
namespace L2
open PySem
theorem grab {a b:TS}{D:Ends} (Pv:L2.St->Hp->Prop) (h2:∀ σ' H',Pv σ' H'->b D σ' H') (h1:(∀ σ' H',Pv σ' H'->b D σ' H')->a { D with nx:=fun σ' H'=>b D σ' H' } σ H):Ng a b D σ H:=h1 h2
end L2
namespace M
open PySem L2 PyProof.Rows
abbrev Ct:=Int×Addr×List V
def Ent.c (e:Ent):Ct:=(e.n,e.p,e.r)
def newL (fr:Nat):List Addr->List (List V)->List Ct
 | p::ps,r::rs=>((fr:Int),p,r)::newL (fr+1) ps rs
 | _,_=>[]
def Tn.mp:Tn->List Addr
 | .en p _=>[p]
 | .al _ ps _=>ps
 | _=>[]
def Tn.mr:Tn->List (List V)
 | .en _ r=>[r]
 | .al _ _ rs=>rs
 | _=>[]
def Tn.sel (T:Tn) (l:List Ct):List Ct:=match T with
 | .st n=>l.filter fun x=>decide (x.1≠n)
 | .co n p r=>l.map fun x=>if x.1=n then (x.1,p,r) else x
 | _=>l
def Tn.kd:Tn->Str
 | .en _ _=>"enter" | .al _ _ _=>"all" | .st _=>"strike" | .co _ _ _=>"correct" | .ba=>"back" | .ag=>"again"
theorem Tn.v0 (T:Tn):tO T.vs 0=some (.str T.kd):=by cases T <;> exact bH (j:=0) rfl
def Tn.new (T:Tn) (fr:Nat) (l:List Ct):List Ct:=T.sel (l++newL fr T.mp T.mr)
theorem Tn.rows {T:Tn} (h:T.At pool H):bC H T.mp T.mr:=by
 cases T with
 | en p r=>exact .cons h.1 .nil
 | al l ps rs=>exact h.2.1
 | _=>exact .nil
theorem tH:∀ {fr:Nat}{ps:List Addr}{rs:List (List V)}{H:Hp},bC H ps rs->(newL fr ps rs).length=ps.length
 | _,_,_,_,.nil=>rfl
 | fr,_,_,H,.cons h hs=>by
  show (newL (fr+1) _ _).length+1=_
  rw [tH hs];rfl
theorem Ek {H:Hp}:∀ {ps:List Addr}{rs:List (List V)}{fr i:Nat}{p:Addr},bC H ps rs->ps[i]?=some p->∃ r,(newL fr ps rs)[i]?=some (((fr+i:Nat):Int),p,r)/\H p=some (.tup r)
 | _,_,_,_,_,.nil,h=>by simp at h
 | _,_,fr,0,p,.cons (b:=r) h hs,e=>by
  have e':=Option.some.inj ((List.getElem?_cons_zero ..).symm.trans e)
  subst e'
  exact ⟨r,rfl,h⟩
 | _,_,fr,i+1,p,.cons h hs,e=>by
  obtain ⟨r,e1,e2⟩:=Ek (fr:=fr+1) (i:=i) hs (by simpa using e)
  refine ⟨r,?_,e2⟩
  show (newL (fr+1) _ _)[i]?=_
  rw [e1]
  congr 3
  lia
theorem Tn.At.same {T:Tn} (h:T.At pool H) (s:Same H H'):T.At pool H':=by
 cases T with
 | en p r=>exact ⟨s _ _ h.1,h.2⟩
 | al l ps rs=>exact ⟨s _ _ h.1,L2.Paired.iB h.2.1 fun a b h=>s _ _ h,h.2.2⟩
 | co n p r=>exact ⟨s _ _ h.1,h.2⟩
 | _=>exact h
theorem Tn.Bw {T:Tn} (h:T.At pool H):T.mp.length<=3:=by
 cases T with
 | en p r=>simp [Tn.mp]
 | al l ps rs=>exact h.2.2.2
 | _=>simp [Tn.mp]
def Bx:Sp:=fun vs H Q _=>∃ (m t en b a:Addr) (fr:Nat) (es:List Ent) (bs as:List kZ) (T:Tn) (pool:List (List V)),vs=[.ref m,.ref t]/\gM H m en b a fr es bs as/\es.length<=900/\H t=some (.tup T.vs)/\T.At pool H /\
 ∀ u en' es' H',Same H H'->H' u=some (.tup [.ref en',.int ((fr+T.mp.length:Nat):Int)])->jE H' en' es'->H en'=none->es'.map Ent.c=T.new fr (es.map Ent.c)->Q (.ref u) H'
abbrev nNE:List Str:=["_law_model", "_law_turn_here", "_law_entries", "_law_free", "_law_more", "_law_row"]
theorem u9:aY nNE ["_law_model", "_law_turn_here"] (aA pO):=⟨rfl,rfl,rfl,by decide +kernel,rfl,by decide +kernel,by decide +kernel⟩
def scK1:Scope:={ kind:=.function,names:=[(".0",.local),("_law_entry",.local),("_law_turn_here",.free)],isGenerator:=false,isCoroutine:=false }
theorem csK1:dF nNE (aA pO) scK1 ["_law_entry"] ["_law_turn_here"] [1]:=⟨rfl,by decide +kernel,by decide +kernel,by decide +kernel,rfl,by decide +kernel⟩
theorem Yy:((["_law_entry"]:List Str)++(["_law_turn_here"]:List Str)).Nodup:=by decide +kernel
def scK2:Scope:={ kind:=.function,names:=[(".0",.local),("_law_entry",.local),("int",.globalImplicit),("_law_turn_here",.free)],isGenerator:=false,isCoroutine:=false }
theorem csK2:dF nNE (aA pO) scK2 ["_law_entry"] ["_law_turn_here"] [1]:=⟨rfl,by decide +kernel,by decide +kernel,by decide +kernel,rfl,by decide +kernel⟩
theorem Q9 (F:iC K "_law_new_entries" "_law_new_entries" pO f fd) (Qa:mg "list"=none) (mt:mg "int"=none):bf P w K mg base dj 1 f fd ["_law_model", "_law_turn_here"] Bx:=by
 refine F.ok u9 (fun vs H Q E h=>?_) (fun cdv A outer s H vs Q E hr h=>?_)
 ·obtain ⟨m,t,en,b,a,fr,es,bs,as,T,pool,rfl,_⟩:=h
  rfl
 obtain ⟨m,t,en,b,a,fr,es,bs,as,T,pool,rfl,R,hes,ht,hT,kk⟩:=h
 refine tW.out ⟨_,aH (cD (i:=2) u9.nd rfl (Or.inl rfl) ⟨bT dM rfl Qa gj (aj (cG (u1 hr) (pv 0) aG (fun _ _=>rfl)) aq)⟩)
  (aH (cD (i:=3) u9.nd rfl (Or.inl rfl) ⟨cG (u1 hr) (pv 0) aG (fun _ _=>rfl)⟩)
  (aH (cD (i:=4) u9.nd rfl (Or.inl rfl) (iV dU))
  (aH (cQ (aL bZ (aM bh (pv 1) au aU) aG (aX _)) (aZ (cD (i:=4) u9.nd rfl (Or.inl rfl) (iV (wH (kh bh (wv 1) cZ aU) dU)))) bN)
  (aH (cQ (aL bZ (aM bh (pv 1) au aU) aG (aX _)) (aZ (cD (i:=4) u9.nd rfl (Or.inl rfl) (kh bh (wv 1) cZ aU))) bN)
  (aH (Jw PassesOwn.never rfl (gG (pv 4)) (aO (i:=5) u9.nd rfl (Or.inl rfl))
   (aH ⟨cg (iH PySem.F.plainAttrs_list PySem.F.slot_list_append PySem.F.type_list_append cL (pv 2) (aj (dh (aj (pv 3) (aj (pv 5) aq))) aq))⟩
   (aZ (cD (i:=3) u9.nd rfl (Or.inl rfl) (fJ cC (wv 3) cZ)))))
  (aH (cQ (aL bZ (aM bh (pv 1) au aU) aG (aX _)) (aZ ⟨qp (i:=2) rfl csK1 (gG (pv 2)) (fun s H fp C=>⟨aO (i:=0) Yy rfl (Or.inl rfl),vW (aL lX (aM (gb (K:=K)) (pv 0) au aU) (aM (gb (K:=K)) (pv 1) au aU) (aX _)),pv 0⟩) u9.nd rfl (Or.inl rfl)⟩) bN)
  (aH (cQ (aL bZ (aM bh (pv 1) au aU) aG (aX _)) (aZ ⟨qp (i:=2) rfl csK2 (gG (pv 2)) (fun s H fp C=>⟨aO (i:=0) Yy rfl (Or.inl rfl),dZ,dh (aj (aM (gb (K:=K)) (pv 0) au aU) (aj
    (aM (jU (K:=K)) (cP (aj (aM (gb (K:=K)) (pv 0) au aU) (aj (aM (gb (K:=K)) (pv 1) au aU) aq))) (bT oh rfl mt vZ (aj (fu bZ (aM (gb (K:=K)) (pv 0) au aU) (aM (gb (K:=K)) (pv 1) au aU) (aX _)) aq)) (fun _ _=>rfl)) aq))⟩) u9.nd rfl (Or.inl rfl)⟩) bN)
  (aZ (bM ⟨dh (aj (pv 2) (aj (pv 3) aq))⟩))))))))),?_⟩
 refine ⟨_,rfl,m,_,rfl,R.gE,en,_,rfl,.inl (bD.of R.en.1),fun L hL=>?_⟩
 have s1:=ao hL (.lst (es.map fun e=>V.ref e.q))
 have L1:(upd H L (.lst (es.map fun e=>V.ref e.q))) L=some (.lst (es.map fun e=>V.ref e.q)):=ak
 generalize upd H L (.lst (es.map fun e=>V.ref e.q))=H1 at s1 L1 ⊢
 refine ⟨_,rfl,m,_,rfl,(R.same s1).gF,?_⟩
 refine ⟨small (by simp),fun M0 hM0=>?_⟩
 have s2:=s1.trans (ao hM0 (.lst []))
 have RK:(upd H1 M0 (.lst [])) L=some (.lst (es.map fun e=>V.ref e.q)):=(ao hM0 _) _ _ L1
 have M2:(upd H1 M0 (.lst [])) M0=some (.lst []):=ak
 have nM:M0≠L:=fun e=>by rw [e,L1] at hM0;cases hM0
 generalize upd H1 M0 (.lst [])=H2 at s2 RK M2 ⊢
 have t2:=s2 _ _ ht
 dsimp only [pC]
 refine grab (a:=yq _ _ _) (fun σ' H'=>∃ mo,σ'=[some (.ref m),some (.ref t),some (.ref L),some (.int (fr:Int)),some (.ref mo),none]/\Same H H'/\H' L=some (.lst (es.map fun e=>V.ref e.q))/\mo≠L/\((∀ l ps rs,T≠.al l ps rs)->H' mo=some (.lst (T.mp.map V.ref)))) ?_ fun go=>?_
 rotate_left
 ·refine ⟨_,rfl,t,_,_,_,rfl,rfl,bG.of t2,T.v0,rfl,_,rfl,?_⟩
  cases T with
  | en p r=>exact bO ⟨_,rfl,t,_,_,_,rfl,rfl,bG.of t2,bH (j:=1) rfl,small (by simp),fun M1 hM1=>go _ _ ⟨M1,rfl,s2.trans (ao hM1 _),(ao hM1 _) _ _ RK,(fun e=>by rw [e,RK] at hM1;cases hM1),fun _=>ak⟩⟩
  | al l ps rs=>exact aK (go _ _ ⟨M0,rfl,s2,RK,nM,fun h=>absurd rfl (h l ps rs)⟩)
  | st n=>exact aK (go _ _ ⟨M0,rfl,s2,RK,nM,fun _=>M2⟩)
  | co n p r=>exact aK (go _ _ ⟨M0,rfl,s2,RK,nM,fun _=>M2⟩)
  | ba=>exact aK (go _ _ ⟨M0,rfl,s2,RK,nM,fun _=>M2⟩)
  | ag=>exact aK (go _ _ ⟨M0,rfl,s2,RK,nM,fun _=>M2⟩)
 rintro σ' H3 ⟨mo,rfl,s3,L3,nm,hmo⟩
 refine grab (a:=yq _ _ _) (fun σ' H'=>∃ mo,σ'=[some (.ref m),some (.ref t),some (.ref L),some (.int (fr:Int)),some (.ref mo),none]/\Same H H'/\H' L=some (.lst (es.map fun e=>V.ref e.q))/\mo≠L/\H' mo=some (.lst (T.mp.map V.ref))) ?_ fun go=>?_
 rotate_left
 ·refine ⟨_,rfl,t,_,_,_,rfl,rfl,bG.of (s3 _ _ ht),T.v0,rfl,_,rfl,?_⟩
  cases T with
  | en p r=>exact aK (go _ _ ⟨mo,rfl,s3,L3,nm,hmo (by intros;nofun)⟩)
  | al l ps rs=>exact bO ⟨_,rfl,t,_,_,_,rfl,rfl,bG.of (s3 _ _ ht),bH (j:=1) rfl,go _ _ ⟨l,rfl,s3,L3,(fun e=>by rw [<- e,hT.1] at hL;cases hL),s3 _ _ hT.1⟩⟩
  | st n=>exact aK (go _ _ ⟨mo,rfl,s3,L3,nm,hmo (by intros;nofun)⟩)
  | co n p r=>exact aK (go _ _ ⟨mo,rfl,s3,L3,nm,hmo (by intros;nofun)⟩)
  | ba=>exact aK (go _ _ ⟨mo,rfl,s3,L3,nm,hmo (by intros;nofun)⟩)
  | ag=>exact aK (go _ _ ⟨mo,rfl,s3,L3,nm,hmo (by intros;nofun)⟩)
 clear hmo nm mo L3 s3 H3
 rintro σ' H4 ⟨mo,rfl,s4,L4,nm,hmo⟩
 have hml:=Tn.Bw hT
 refine ⟨_,rfl,mo,rfl,⟨_,bD.of hmo⟩,qW (K:=K) (a:=mo) (xs:=T.mp.map V.ref) (fun i σ Hx=>∃ (ns:List Ent) (u:Option V),σ=[some (.ref m),some (.ref t),some (.ref L),some (.int ((fr+i:Nat):Int)),some (.ref mo),u]/\Same H Hx/\Hx L=some (.lst ((es++ns).map fun e=>V.ref e.q))/\Hx mo=some (.lst (T.mp.map V.ref)) /\
  ns.map Ent.c=(newL fr T.mp T.mr).take i/\(∀ e∈ns,Bv Hx e)/\ns.length=i) ⟨[],none,rfl,s4,by rw [List.append_nil];exact L4,hmo,rfl,(fun e he=>nomatch he),rfl⟩ (fun i σ Hx _ h=>by obtain ⟨ns,u,_,_,_,h,_⟩:=h;exact bD.of h) ?_ ?_⟩
 ·rintro i x σ Hx hx ⟨ns,u,rfl,sx,Lx,mx,hns,oks,hnl⟩
  rw [lW] at hx
  obtain ⟨p,hp,rfl⟩:=Option.map_eq_some_iff.mp hx
  have hi:i<T.mp.length:=(List.getElem?_eq_some_iff.mp hp).1
  obtain ⟨r,er,hpr⟩:=Ek (fr:=fr) (Tn.rows hT) hp
  refine ⟨_,rfl,.inl ⟨rfl,_,bD.of Lx⟩,_,rfl,_,rfl,small (by simp),fun q hq=>?_⟩
  have s5:=ao hq (.tup [V.int ((fr+i:Nat):Int),V.ref p])
  have q5:(upd Hx q (.tup [V.int ((fr+i:Nat):Int),V.ref p])) q=some (.tup [V.int ((fr+i:Nat):Int),V.ref p]):=ak
  generalize upd Hx q (.tup [V.int ((fr+i:Nat):Int),V.ref p])=H5 at s5 q5 ⊢
  refine ⟨L,_,_,rfl,rfl,s5 _ _ Lx,by rw [bR,iY];exact cj (by lia),?_⟩
  have nt:∀ c r,H5 c=some (.tup r)->c≠L:=fun c r h e=>by rw [e,s5 _ _ Lx] at h;cases h
  refine ⟨_,rfl,_,_,rfl,rfl,ns++[⟨q,((fr+i:Nat):Int),p,r⟩],some (.ref p),?_,aV (sx.trans s5) hL,?_,?_,?_,?_,by simp [hnl]⟩
  ·rw [<- show (((fr+i:Nat):Int)+1)=((fr+(i+1):Nat):Int) by lia];rfl
  ·rw [ak];simp
  ·rw [aC nm];exact s5 _ _ mx
  ·rw [lR,hns,List.take_add_one,er];rfl
  ·intro e he
   rcases List.mem_append.mp he with h | h
   ·have o:=oks e h
    exact ⟨by rw [aC (nt _ _ (s5 _ _ o.1))];exact s5 _ _ o.1,by rw [aC (nt _ _ (s5 _ _ o.2))];exact s5 _ _ o.2⟩
   ·rw [List.mem_singleton.mp h]
    have o2:=s5 _ _ (sx _ _ hpr)
    exact ⟨by rw [aC (nt _ _ q5)];exact q5,by rw [aC (nt _ _ o2)];exact o2⟩
 rintro σ Hx ⟨ns,u,rfl,sx,Lx,mx,hns,oks,hnl⟩
 rw [bR] at hns hnl
 rw [List.take_of_length_le (by rw [tH (Tn.rows hT)];exact Nat.le_refl _)] at hns
 have DQ:∀ e∈es++ns,Bv Hx e:=fun e he=>by
  rcases List.mem_append.mp he with h | h
  ·exact ⟨sx _ _ (R.en.2 e h).1,sx _ _ (R.en.2 e h).2⟩
  ·exact oks e h
 have ec:(es++ns).map Ent.c=es.map Ent.c++newL fr T.mp T.mr:=by rw [lR,hns]
 have hlen:(es++ns).length<=903:=by rw [iY];lia
 generalize es++ns=fs at Lx DQ ec hlen
 rw [bR]
 have tx:=sx _ _ ht
 have fin:∀ (en':Addr) (fs':List Ent) (Hy:Hp),Same Hx Hy->Hy en'=some (.lst (fs'.map fun e=>V.ref e.q))->(∀ e∈fs',Bv Hy e)->H en'=none->fs'.map Ent.c=T.sel (fs.map Ent.c)->∀ t',Hy t'=none->Q (.ref t') (upd Hy t' (.tup [V.ref en',V.int ((fr+T.mp.length:Nat):Int)])):=fun en' fs' Hy sy h1 h2 h3 h4 t' ht' =>
  kk t' en' fs' _ ((sx.trans sy).trans (ao ht' _)) ak ⟨(ao ht' _) _ _ h1,fun e he=>⟨(ao ht' _) _ _ (h2 e he).1,(ao ht' _) _ _ (h2 e he).2⟩⟩ h3 (by rw [h4,ec];rfl)
 refine ⟨_,rfl,t,_,_,_,rfl,rfl,bG.of tx,T.v0,rfl,_,rfl,?_⟩
 cases T with
 | en p r=>exact aK ⟨_,rfl,t,_,_,_,rfl,rfl,bG.of tx,at0 _ _,rfl,_,rfl,aK ⟨_,rfl,_,rfl,small (by simp),fin L fs Hx (Same.refl _) Lx DQ hL rfl⟩⟩
 | al l ps rs=>exact aK ⟨_,rfl,t,_,_,_,rfl,rfl,bG.of tx,at0 _ _,rfl,_,rfl,aK ⟨_,rfl,_,rfl,small (by simp),fin L fs Hx (Same.refl _) Lx DQ hL rfl⟩⟩
 | ba=>exact aK ⟨_,rfl,t,_,_,_,rfl,rfl,bG.of tx,at0 _ _,rfl,_,rfl,aK ⟨_,rfl,_,rfl,small (by simp),fin L fs Hx (Same.refl _) Lx DQ hL rfl⟩⟩
 | ag=>exact aK ⟨_,rfl,t,_,_,_,rfl,rfl,bG.of tx,at0 _ _,rfl,_,rfl,aK ⟨_,rfl,_,rfl,small (by simp),fin L fs Hx (Same.refl _) Lx DQ hL rfl⟩⟩
 | st n =>
  refine bO ?_
  refine ⟨_,rfl,L,rfl,⟨_,bD.of Lx⟩,fun D hD=>?_⟩
  refine jc (K:=K) (a:=L) (xs:=fs.map fun e=>V.ref e.q) (fun i ys H7=>ys=((fs.take i).filter fun e=>decide (e.n≠n)).map (fun e=>V.ref e.q)/\Same Hx H7/\H7 D=some (.lst ys)) (fun i ys H7 h=>bD.of (h.2.1 _ _ Lx)) ⟨rfl,ao hD _,ak⟩ (fun i ys H7 h=>h.2.2) ?_ ?_
  ·rintro i ys H7 x hx ⟨rfl,s7,Li⟩
   rw [lW] at hx
   obtain ⟨e,he,rfl⟩:=Option.map_eq_some_iff.mp hx
   have hi:i<fs.length:=(List.getElem?_eq_some_iff.mp he).1
   refine ⟨Kp.set rfl (Kp.refl _),?_⟩
   refine ⟨_,rfl,e.q,_,_,_,rfl,rfl,bG.of (s7 _ _ (DQ e (qN he)).1),at0 _ _,_,rfl,t,_,_,_,rfl,rfl,bG.of (s7 _ _ tx),bH (j:=1) rfl,rfl,_,rfl,?_⟩
   have et:(fs.take (i+1))=fs.take i++[e]:=by rw [List.take_add_one,he];rfl
   by_cases hn:e.n=n
   ·refine uz (show V.int e.n=V.int n by rw [hn]) ?_
    refine ⟨?_,s7,Li⟩
    rw [et,List.filter_append,List.filter_cons_of_neg (by simp [hn]),List.filter_nil,List.append_nil]
   ·rw [show (!decide (V.int e.n=V.int n))=true by rw [decide_eq_false fun h=>hn (by injection h)];rfl]
    refine bO ?_
    refine ⟨_,rfl,Li,?_,?_,aV s7 hD,ak⟩
    ·rw [bR]
     have:=List.length_filter_le (fun e:Ent=>decide (e.n≠n)) (fs.take i)
     rw [List.length_take] at this
     exact cj (by lia)
    ·rw [et,List.filter_append,List.filter_cons_of_pos (by simp [hn]),List.filter_nil,lR];rfl
  rintro ys Hy ⟨rfl,sy,hDy⟩
  rw [bR,List.take_length] at hDy
  have ty:=sy _ _ tx
  refine ⟨_,rfl,t,_,_,_,rfl,rfl,bG.of ty,at0 _ _,rfl,_,rfl,aK ⟨_,rfl,_,rfl,small (by simp),fin D _ Hy sy hDy (fun e he=>?_) (sx.free hD) ?_⟩⟩
  ·have o:=DQ e (List.mem_filter.mp he).1
   exact ⟨sy _ _ o.1,sy _ _ o.2⟩
  ·show _=List.filter _ _
   rw [List.filter_map];rfl
 | co n p r =>
  refine aK ?_
  refine ⟨_,rfl,t,_,_,_,rfl,rfl,bG.of tx,at0 _ _,rfl,_,rfl,bO ?_⟩
  refine ⟨_,rfl,L,rfl,⟨_,bD.of Lx⟩,fun D hD=>?_⟩
  have hpr:Hx p=some (.tup r):=sx _ _ hT.1
  refine jc (K:=K) (a:=L) (xs:=fs.map fun e=>V.ref e.q) (fun i ys H7=>∃ gs:List Ent,ys=gs.map (fun e=>V.ref e.q)/\gs.map Ent.c=((fs.take i).map Ent.c).map (fun x=>if x.1=n then (x.1,p,r) else x)/\(∀ e∈gs,Bv H7 e)/\gs.length=min i fs.length/\Same Hx H7/\H7 D=some (.lst ys)) (fun i ys H7 h=>by obtain ⟨gs,_,_,_,_,h,_⟩:=h;exact bD.of (h _ _ Lx)) ⟨[],rfl,rfl,(fun e he=>nomatch he),by simp,ao hD _,ak⟩ (fun i ys H7 h=>by obtain ⟨gs,_,_,_,_,_,h⟩:=h;exact h) ?_ ?_
  ·rintro i ys H7 x hx ⟨gs,rfl,hgs,ogs,hgl,s7,Li⟩
   rw [lW] at hx
   obtain ⟨e,he,rfl⟩:=Option.map_eq_some_iff.mp hx
   have hi:i<fs.length:=(List.getElem?_eq_some_iff.mp he).1
   have oe:=DQ e (qN he)
   refine ⟨Kp.set rfl (Kp.refl _),?_⟩
   refine dY ?_
   refine ⟨_,rfl,e.q,_,_,_,rfl,rfl,bG.of (s7 _ _ oe.1),at0 _ _,_,rfl,e.q,_,_,_,rfl,rfl,bG.of (s7 _ _ oe.1),bH (j:=1) rfl,_,rfl,t,_,_,_,rfl,rfl,bG.of (s7 _ _ tx),bH (j:=2) rfl,small (by simp),fun l8 h8=>?_⟩
   have s8:=ao h8 (.lst [V.ref e.p,V.ref p])
   have e8:(upd H7 l8 (.lst [V.ref e.p,V.ref p])) l8=some (.lst [V.ref e.p,V.ref p]):=ak
   generalize upd H7 l8 (.lst [V.ref e.p,V.ref p])=H8 at s8 e8 ⊢
   refine ⟨_,rfl,e.q,_,_,_,rfl,rfl,bG.of (s8 _ _ (s7 _ _ oe.1)),at0 _ _,_,rfl,t,_,_,_,rfl,rfl,bG.of (s8 _ _ (s7 _ _ tx)),bH (j:=1) rfl,rfl,.inr ⟨_,rfl,l8,_,_,V.ref (if e.n=n then p else e.p),rfl,rfl,bD.of e8,?_,small (by simp),fun q hq=>?_⟩⟩
   ·by_cases hn:e.n=n
    ·rw [if_pos hn,hn,decide_eq_true rfl];exact bH (j:=1) rfl
    ·rw [if_neg hn,decide_eq_false fun h=>hn (by injection h)];exact bH (j:=0) rfl
   ·have s9:=s8.trans (ao hq (.tup [V.int e.n,V.ref (if e.n=n then p else e.p)]))
    have q9:(upd H8 q (.tup [V.int e.n,V.ref (if e.n=n then p else e.p)])) q=some (.tup [V.int e.n,V.ref (if e.n=n then p else e.p)]):=ak
    generalize upd H8 q (.tup [V.int e.n,V.ref (if e.n=n then p else e.p)])=H9 at s9 q9 ⊢
    have D9:=s9 _ _ Li
    have nt:∀ c r,H9 c=some (.tup r)->c≠D:=fun c r h e=>by rw [e,D9] at h;cases h
    have up:∀ c r,H9 c=some (.tup r)->∀ o,(upd H9 D o) c=some (.tup r):=fun c r h o=>by rw [aC (nt c r h)];exact h
    refine ⟨D9,by rw [bR];exact cj (by lia),gs++[⟨q,e.n,if e.n=n then p else e.p,if e.n=n then r else e.r⟩],by simp,?_,?_,by simp;lia,aV (s7.trans s9) hD,ak⟩
    ·rw [lR,hgs,List.take_add_one,he]
     simp only [Option.toList_some,lR,List.map_cons,List.map_nil,Ent.c]
     by_cases hn:e.n=n
     ·simp [hn]
     ·simp [hn]
    ·intro e' he'
     rcases List.mem_append.mp he' with h | h
     ·have o:=ogs e' h
      exact ⟨up _ _ (s9 _ _ o.1) _,up _ _ (s9 _ _ o.2) _⟩
     ·rw [List.mem_singleton.mp h]
      refine ⟨up _ _ q9 _,?_⟩
      by_cases hn:e.n=n
      ·simp only [if_pos hn];exact up _ _ (s9 _ _ (s7 _ _ hpr)) _
      ·simp only [if_neg hn];exact up _ _ (s9 _ _ (s7 _ _ oe.2)) _
  rintro ys Hy ⟨gs,rfl,hgs,ogs,hgl,sy,hDy⟩
  rw [bR,List.take_length] at hgs
  exact ⟨_,rfl,_,rfl,small (by simp),fin D gs Hy sy hDy ogs (sx.free hD) hgs⟩
end M
namespace L2
open PySem
section
variable {j0 j1 j2 j3:Nat}{p0 p1 p3:Pos}{e1 e2 e3 e4:Expr}{t4:TE}
abbrev Ln (t1 t2 t3 t4:TE):List (TE×TE):=[(tC (.str "entries"),t1),(tC (.str "free"),t2),(tC (.str "behind"),t3),(tC (.str "ahead"),t4)]
theorem Qd (h1:PE X e1 t1) (h2:PE X e2 t2) (h3:PE X e3 t3) (h4:PE X e4 t4):PE X (.Dict [some (.Constant (.str "entries") j0 p0),some (.Constant (.str "free") j1 p1),some (.Constant (.str "behind") j2 p2),some (.Constant (.str "ahead") j3 p3)] [e1,e2,e3,e4] q) (nJ (Ln t1 t2 t3 t4)):=by
 refine wC ?h ?a ?b ?c ?d
 case a=>exact rfl
 case b=>exact rfl
 case c=>exact List.cons_ne_nil _ _
 case d=>exact Nat.le_of_ble_eq_true rfl
 case h=>exact cO aG h1 (cO aG h2 (cO aG h3 (cO aG h4 wB)))
theorem qJ (h1:WE X e1 t1) (h2:WE X e2 t2) (h3:WE X e3 t3) (h4:WE X e4 t4):WE X (.Dict [some (.Constant (.str "entries") j0 p0),some (.Constant (.str "free") j1 p1),some (.Constant (.str "behind") j2 p2),some (.Constant (.str "ahead") j3 p3)] [e1,e2,e3,e4] q) (nJ (Ln t1 t2 t3 t4)):=⟨Qd h1.h h2.h h3.h h4.h⟩
end
end L2
namespace M
open PySem L2 PyProof.Rows
def F4 (Q:VK) (d:Addr) (v1 v2 v3 v4:V) (H4:Hp):Prop:=H4 d=some (.dK [])/\∃ kvs:List (Key×V),[(V.str "entries",v1),(V.str "free",v2),(V.str "behind",v3),(V.str "ahead",v4)]=kvs.map (fun kv=>(kV kv.1,kv.2))/\kvs.length<=15/\Q (.ref d) (upd H4 d (.dK (dR [] kvs)))
theorem F4.mk {Q:VK}{v1 v2 v3 v4:V} (h:H4 d=some (.dK [])) (q:Q (.ref d) (upd H4 d (.dK [(.inr "entries",v1),(.inr "free",v2),(.inr "behind",v3),(.inr "ahead",v4)]))):F4 Q d v1 v2 v3 v4 H4 :=
 ⟨h,[(.inr "entries",v1),(.inr "free",v2),(.inr "behind",v3),(.inr "ahead",v4)],rfl,Nat.le_of_ble_eq_true rfl,q⟩
theorem qK {t4:TE}{Q:VK} (h:∀ d,H d=none->t1 σ (upd H d (.dK [])) fun v1 H1=>t2 σ H1 fun v2 H2=>t3 σ H2 fun v3 H3=>t4 σ H3 fun v4 H4=>F4 Q d v1 v2 v3 v4 H4):nJ (Ln t1 t2 t3 t4) σ H Q:=h
theorem xQ {fr:Nat}{es:List Ent}{bs as:List kZ} (hd:H d=none) (s:Same H H4) (h4:H4 d=some (.dK [])) (he:jE H4 en es) (hb:H4 b=some (.lst (bs.map fun s=>V.ref s.t))) (ha:H4 a=some (.lst (as.map fun s=>V.ref s.t))) (kb:∀ s∈bs,mj H4 s) (ka:∀ s∈as,mj H4 s) :
  Same H (upd H4 d (.dK (Yw en b a fr)))/\gM (upd H4 d (.dK (Yw en b a fr))) d en b a fr es bs as:=by
 have up:∀ c o,H4 c=some o->(∀ k,o≠.dK k)->(upd H4 d (.dK (Yw en b a fr))) c=some o:=fun c o h hn=>by
  rw [aC fun e=>?_]
  ·exact h
  ·rw [e,h4] at h;injection h with h;exact hn _ h.symm
 have en':∀ {en:Addr}{es:List Ent},jE H4 en es->jE (upd H4 d (.dK (Yw _ b a fr))) en es:=fun h=>⟨up _ _ h.1 (by nofun),fun e he=>⟨up _ _ (h.2 e he).1 (by nofun),up _ _ (h.2 e he).2 (by nofun)⟩⟩
 exact ⟨aV s hd,⟨ak,en' he,up _ _ hb (by nofun),up _ _ ha (by nofun),fun x hx=>⟨up _ _ (kb x hx).1 (by nofun),en' (kb x hx).2⟩,fun x hx=>⟨up _ _ (ka x hx).1 (by nofun),en' (ka x hx).2⟩⟩⟩
def El:Sp:=fun vs H Q _=>vs=[]/\∀ m en b a H',Same H H'->H en=none->H b=none->H a=none->gM H' m en b a 1 [] [] []->Q (.ref m) H'
theorem mj.same {s:kZ} (h:mj H s) (sm:Same H H'):mj H' s:=⟨sm _ _ h.1,h.2.same sm⟩
theorem Qe:aY [] [] (aA oO):=⟨rfl,rfl,rfl,by decide +kernel,rfl,by decide +kernel,by decide +kernel⟩
theorem Lp (F:iC K "_law_plain_model" "_law_plain_model" oO f fd):bf P w K mg base dj 1 f fd [] El:=by
 refine F.ok Qe (fun vs H Q E h=>?_) (fun cdv A outer s H vs Q E hr h=>?_)
 ·obtain ⟨rfl,_⟩:=h
  rfl
 obtain ⟨rfl,k⟩:=h
 refine tW.out ⟨_,aZ (bM (qJ (iV dU) cZ (iV dU) (iV dU))),?_⟩
 refine qK fun d hd=>?_
 have s0:=ao hd (.dK [])
 refine ⟨small (by simp),fun en he=>⟨small (by simp),fun b hb=>⟨small (by simp),fun a ha=>?_⟩⟩⟩
 have s1:=ao he (.lst [])
 have s2:=ao hb (.lst [])
 have s3:=ao ha (.lst [])
 have d3:=s3 _ _ (s2 _ _ (s1 _ _ (show (upd H d (.dK [])) d=some (.dK []) from ak)))
 obtain ⟨r1,r2⟩:=xQ (fr:=1) (en:=en) (b:=b) (a:=a) (es:=[]) (bs:=[]) (as:=[]) hd (s0.trans (s1.trans (s2.trans s3))) d3 ⟨s3 _ _ (s2 _ _ ak),(fun e he=>nomatch he)⟩ (s3 _ _ ak) ak (fun e he=>nomatch he) (fun e he=>nomatch he)
 exact F4.mk d3 (k d en b a _ r1 (s0.free he) (s0.free (s1.free hb)) (s0.free (s1.free (s2.free ha))) r2)
def RL (H:Hp) (en:Addr) (fr:Nat) (es:List Ent) (bs as:List kZ) (en':Addr) (fr':Nat) (es':List Ent) (bs' as':List kZ):Tn->Prop
 | .ba=>∃ uc s t,bs=uc++[s]/\en'=s.en/\fr'=s.fr/\es'=s.es/\bs'=uc/\as'=as++[⟨t,en,fr,es⟩]
 | .ag=>∃ as0 s t,as=as0++[s]/\en'=s.en/\fr'=s.fr/\es'=s.es/\bs'=bs++[⟨t,en,fr,es⟩]/\as'=as0
 | T=>∃ t,H en'=none/\fr'=fr+T.mp.length/\es'.map Ent.c=T.new fr (es.map Ent.c)/\bs'=bs++[⟨t,en,fr,es⟩]/\as'=[]
theorem Tn.Qf {T:Tn} (h:T≠.ba):decide (V.str T.kd=V.str "back")=false:=by
 cases T with
 | ba=>exact absurd rfl h
 | _=>rfl
theorem Tn.Lq {T:Tn} (h:T≠.ag):decide (V.str T.kd=V.str "again")=false:=by
 cases T with
 | ag=>exact absurd rfl h
 | _=>rfl
theorem RL.mk {fr:Nat}{es es':List Ent}{bs as bs' as':List kZ}{T:Tn} (h1:T≠.ba) (h2:T≠.ag) (h:∃ t,H en'=none/\fr'=fr+T.mp.length/\es'.map Ent.c=T.new fr (es.map Ent.c)/\bs'=bs++[⟨t,en,fr,es⟩]/\as'=[]):RL H en fr es bs as en' fr' es' bs' as' T:=by
 cases T with
 | ba=>exact absurd rfl h1
 | ag=>exact absurd rfl h2
 | _=>exact h
theorem Lr {α β:Type}{f:α->β}{l:List α}{x:α}:((l++[x]).map f)[((l++[x]).map f).length - 1]?=some (f x):=by
 rw [bR,iY,List.length_singleton,Nat.add_sub_cancel,lR,List.getElem?_append_right (by rw [bR];exact Nat.le_refl _),bR,Nat.sub_self];rfl
theorem Ls {α β:Type}{f:α->β}{l:List α}{x:α}:((l++[x]).map f).dropLast=l.map f:=by
 rw [lR];exact List.dropLast_concat
def xR:Sp:=fun vs H Q _=>∃ (m t en b a:Addr) (fr:Nat) (es:List Ent) (bs as:List kZ) (T:Tn) (pool:List (List V)),vs=[.ref m,.ref t]/\gM H m en b a fr es bs as/\es.length<=900/\bs.length<=900/\as.length<=900/\H t=some (.tup T.vs)/\T.At pool H/\(T=.ba->bs≠[])/\(T=.ag->as≠[]) /\
 ∀ m' en' b' a' fr' es' bs' as' H',Same H H'->gM H' m' en' b' a' fr' es' bs' as'->H b'=none->H a'=none->RL H en fr es bs as en' fr' es' bs' as' T->Q (.ref m') H'
theorem gn:aY ["_law_model", "_law_turn_here", "_law_now", "_law_behind", "_law_ahead", "_law_entries", "_law_free"] ["_law_model", "_law_turn_here"] (aA oN):=⟨rfl,rfl,rfl,by decide +kernel,rfl,by decide +kernel,by decide +kernel⟩
theorem Lw (F:iC K "_law_moved" "_law_moved" oN f fd) (Qa:mg "list"=none)  (G1:bf P w K mg base dj 1 g1 d1 ["_law_model", "_law_turn_here"] Bx) (M1:Ms K mg "_law_new_entries" g1 d1 ["_law_model", "_law_turn_here"]):bf P w K mg base dj 2 f fd ["_law_model", "_law_turn_here"] xR:=by
 refine F.ok gn (fun vs H Q E h=>?_) (fun cdv A outer s H vs Q E hr h=>?_)
 ·obtain ⟨m,t,en,b,a,fr,es,bs,as,T,pool,rfl,_⟩:=h
  rfl
 obtain ⟨m,t,en,b,a,fr,es,bs,as,T,pool,rfl,R,hes,hbl,hal,ht,hT,hba,hag,kk⟩:=h
 refine tW.out ⟨_,aH (cD (i:=2) gn.nd rfl (Or.inl rfl) ⟨dh (aj (cG (u1 hr) (pv 0) aG (fun _ _=>rfl)) (aj (cG (u1 hr) (pv 0) aG (fun _ _=>rfl)) aq))⟩)
  (aH (cD (i:=3) gn.nd rfl (Or.inl rfl) ⟨bT dM rfl Qa gj (aj (cG (u1 hr) (pv 0) aG (fun _ _=>rfl)) aq)⟩)
  (aH (cD (i:=4) gn.nd rfl (Or.inl rfl) ⟨bT dM rfl Qa gj (aj (cG (u1 hr) (pv 0) aG (fun _ _=>rfl)) aq)⟩)
  (aH (cQ (aL bZ (aM bh (pv 1) au aU) aG (aX _))
   (aH ⟨iR (rB (name:="pop") PySem.F.plainAttrs_list PySem.F.slot_list_pop PySem.F.type_list_pop vR (pv 3)) (fQ rfl (bA (aO (i:=5) gn.nd rfl (Or.inl rfl)) (bA (aO (i:=6) gn.nd rfl (Or.inl rfl)) cX)))⟩
   (aZ (bM (qJ (wv 5) (wv 6) (wv 3) (fJ vU (wv 4) (iV (wI (wv 2) dU))))))) bN)
  (aH (cQ (aL bZ (aM bh (pv 1) au aU) aG (aX _))
   (aH ⟨iR (rB (name:="pop") PySem.F.plainAttrs_list PySem.F.slot_list_pop PySem.F.type_list_pop vR (pv 4)) (fQ rfl (bA (aO (i:=5) gn.nd rfl (Or.inl rfl)) (bA (aO (i:=6) gn.nd rfl (Or.inl rfl)) cX)))⟩
   (aZ (bM (qJ (wv 5) (wv 6) (fJ vU (wv 3) (iV (wI (wv 2) dU))) (wv 4))))) bN)
  (aH ⟨iR (bF G1 hr rfl M1.m M1.k M1.b .nil bW (aj (pv 0) (aj (pv 1) aq))) (fQ rfl (bA (aO (i:=5) gn.nd rfl (Or.inl rfl)) (bA (aO (i:=6) gn.nd rfl (Or.inl rfl)) cX)))⟩
  (aZ (bM (qJ (wv 5) (wv 6) (fJ vU (wv 3) (iV (wI (wv 2) dU))) (iV dU))))))))),?_⟩
 refine ⟨_,rfl,m,_,rfl,R.gE,_,rfl,m,_,rfl,R.gF,small (by simp),fun nw hnw=>?_⟩
 have s1:=ao hnw (.tup [V.ref en,V.int (fr:Int)])
 have n1:(upd H nw (.tup [V.ref en,V.int (fr:Int)])) nw=some (.tup [V.ref en,V.int (fr:Int)]):=ak
 generalize upd H nw (.tup [V.ref en,V.int (fr:Int)])=H1 at s1 n1 ⊢
 have R1:=R.same s1
 refine ⟨_,rfl,m,_,rfl,R1.gB,b,_,rfl,.inl (bD.of R1.b),fun b2 hb2=>?_⟩
 have s2:=s1.trans (ao hb2 (.lst (bs.map fun s=>V.ref s.t)))
 have b2v:(upd H1 b2 (.lst (bs.map fun s=>V.ref s.t))) b2=some (.lst (bs.map fun s=>V.ref s.t)):=ak
 have n2:=(ao hb2 (.lst (bs.map fun s=>V.ref s.t))) _ _ n1
 generalize upd H1 b2 (.lst (bs.map fun s=>V.ref s.t))=H2 at s2 b2v n2 ⊢
 have hb0:H b2=none:=s1.free hb2
 have R2:=R.same s2
 refine ⟨_,rfl,m,_,rfl,R2.gA,a,_,rfl,.inl (bD.of R2.a),fun a2 ha2=>?_⟩
 have s3:=s2.trans (ao ha2 (.lst (as.map fun s=>V.ref s.t)))
 have Yz:(upd H2 a2 (.lst (as.map fun s=>V.ref s.t))) a2=some (.lst (as.map fun s=>V.ref s.t)):=ak
 have n3:=(ao ha2 (.lst (as.map fun s=>V.ref s.t))) _ _ n2
 have Wq:=(ao ha2 (.lst (as.map fun s=>V.ref s.t))) _ _ b2v
 have nab:a2≠b2:=fun e=>by rw [e,b2v] at ha2;cases ha2
 generalize upd H2 a2 (.lst (as.map fun s=>V.ref s.t))=H3 at s3 Yz n3 Wq ⊢
 have ha0:H a2=none:=s2.free ha2
 have R3:=R.same s3
 refine ⟨_,rfl,t,_,_,_,rfl,rfl,bG.of (s3 _ _ ht),T.v0,rfl,_,rfl,?_⟩
 have nk:∀ {Hx:Hp},Same H3 Hx->mj Hx ⟨nw,en,fr,es⟩:=fun sx=>⟨sx _ _ n3,R3.en.same sx⟩
 by_cases h1:T=.ba
 ·subst h1
  refine bO ?_
  rcases List.eq_nil_or_concat bs with e0 | ⟨uc,s0,e0⟩
  ·exact absurd e0 (hba rfl)
  rw [List.concat_eq_append] at e0
  subst e0
  refine ⟨_,rfl,.inl ⟨rfl,_,bD.of Wq⟩,b2,_,_,rfl,rfl,Wq,Lr,?_⟩
  rw [Ls]
  have s4:Same H (upd H3 b2 (.lst (uc.map fun s=>V.ref s.t))):=aV s3 hb0
  have YB:(upd H3 b2 (.lst (uc.map fun s=>V.ref s.t))) b2=some (.lst (uc.map fun s=>V.ref s.t)):=ak
  have YC:(upd H3 b2 (.lst (uc.map fun s=>V.ref s.t))) a2=some (.lst (as.map fun s=>V.ref s.t)):=by rw [aC nab];exact Yz
  have n4:(upd H3 b2 (.lst (uc.map fun s=>V.ref s.t))) nw=some (.tup [V.ref en,V.int (fr:Int)]):=by rw [aC fun e=>by rw [e,Wq] at n3;cases n3];exact n3
  generalize upd H3 b2 (.lst (uc.map fun s=>V.ref s.t))=H4 at s4 YB YC n4 ⊢
  have k0:mj H s0:=R.bs s0 (by simp)
  refine ⟨s0.t,_,rfl,bG.of (s4 _ _ k0.1),rfl,_,_,rfl,_,_,rfl,rfl,?_⟩
  refine qK fun d hd=>?_
  have s5:=ao hd (.dK [])
  have d5:(upd H4 d (.dK [])) d=some (.dK []):=ak
  generalize upd H4 d (.dK [])=H5 at s5 d5 ⊢
  refine ⟨_,rfl,_,rfl,_,rfl,_,rfl,_,rfl,small (by simp),fun l6 h6=>?_⟩
  have s6:=ao h6 (.lst [V.ref nw])
  have RM:(upd H5 l6 (.lst [V.ref nw])) l6=some (.lst [V.ref nw]):=ak
  generalize upd H5 l6 (.lst [V.ref nw])=H6 at s6 RM ⊢
  refine ⟨a2,l6,_,_,rfl,rfl,s6 _ _ (s5 _ _ YC),RM,by rw [bR];exact small (by simp;lia),fun a7 h7=>?_⟩
  have s7:=ao h7 (.lst ((as.map fun s=>V.ref s.t)++[V.ref nw]))
  have RN:(upd H6 a7 (.lst ((as.map fun s=>V.ref s.t)++[V.ref nw]))) a7=some (.lst ((as++[(⟨nw,en,fr,es⟩:kZ)]).map fun s:kZ=>V.ref s.t)):=by rw [ak,lR];rfl
  generalize upd H6 a7 (.lst ((as.map fun s=>V.ref s.t)++[V.ref nw]))=H7 at s7 RN ⊢
  have t7:=s5.trans (s6.trans s7)
  have g7:=s4.trans t7
  have d7:=s7 _ _ (s6 _ _ d5)
  obtain ⟨r1,r2⟩:=xQ (H:=H) (fr:=s0.fr) (en:=s0.en) (b:=b2) (a:=a7) (es:=s0.es) (bs:=uc) (as:=as++[⟨nw,en,fr,es⟩]) (s4.free hd) g7 d7 (k0.2.same g7) (t7 _ _ YB) RN (fun x hx=>(R.bs x (by simp [hx])).same g7) (fun x hx=>by
   rcases List.mem_append.mp hx with h | h
   ·exact (R.as x h).same g7
   ·rw [List.mem_singleton.mp h];exact ⟨t7 _ _ n4,R.en.same g7⟩)
  exact F4.mk d7 (kk d s0.en b2 a7 s0.fr s0.es uc _ _ r1 r2 hb0 (s4.free (s5.free (s6.free h7))) ⟨uc,s0,nw,rfl,rfl,rfl,rfl,rfl,rfl⟩)
 ·rw [Tn.Qf h1]
  refine aK ?_
  refine ⟨_,rfl,t,_,_,_,rfl,rfl,bG.of (s3 _ _ ht),T.v0,rfl,_,rfl,?_⟩
  by_cases h2:T=.ag
  ·subst h2
   refine bO ?_
   rcases List.eq_nil_or_concat as with e0 | ⟨as0,s0,e0⟩
   ·exact absurd e0 (hag rfl)
   rw [List.concat_eq_append] at e0
   subst e0
   refine ⟨_,rfl,.inl ⟨rfl,_,bD.of Yz⟩,a2,_,_,rfl,rfl,Yz,Lr,?_⟩
   rw [Ls]
   have s4:Same H (upd H3 a2 (.lst (as0.map fun s=>V.ref s.t))):=aV s3 ha0
   have YC:(upd H3 a2 (.lst (as0.map fun s=>V.ref s.t))) a2=some (.lst (as0.map fun s=>V.ref s.t)):=ak
   have YB:(upd H3 a2 (.lst (as0.map fun s=>V.ref s.t))) b2=some (.lst (bs.map fun s=>V.ref s.t)):=by rw [aC (Ne.symm nab)];exact Wq
   have n4:(upd H3 a2 (.lst (as0.map fun s=>V.ref s.t))) nw=some (.tup [V.ref en,V.int (fr:Int)]):=by rw [aC fun e=>by rw [e,Yz] at n3;cases n3];exact n3
   generalize upd H3 a2 (.lst (as0.map fun s=>V.ref s.t))=H4 at s4 YB YC n4 ⊢
   have k0:mj H s0:=R.as s0 (by simp)
   refine ⟨s0.t,_,rfl,bG.of (s4 _ _ k0.1),rfl,_,_,rfl,_,_,rfl,rfl,?_⟩
   refine qK fun d hd=>?_
   have s5:=ao hd (.dK [])
   have d5:(upd H4 d (.dK [])) d=some (.dK []):=ak
   generalize upd H4 d (.dK [])=H5 at s5 d5 ⊢
   refine ⟨_,rfl,_,rfl,_,rfl,_,rfl,small (by simp),fun l6 h6=>?_⟩
   have s6:=ao h6 (.lst [V.ref nw])
   have RM:(upd H5 l6 (.lst [V.ref nw])) l6=some (.lst [V.ref nw]):=ak
   generalize upd H5 l6 (.lst [V.ref nw])=H6 at s6 RM ⊢
   refine ⟨b2,l6,_,_,rfl,rfl,s6 _ _ (s5 _ _ YB),RM,by rw [bR];exact small (by simp;lia),fun a7 h7=>?_⟩
   have s7:=ao h7 (.lst ((bs.map fun s=>V.ref s.t)++[V.ref nw]))
   have RN:(upd H6 a7 (.lst ((bs.map fun s=>V.ref s.t)++[V.ref nw]))) a7=some (.lst ((bs++[(⟨nw,en,fr,es⟩:kZ)]).map fun s:kZ=>V.ref s.t)):=by rw [ak,lR];rfl
   generalize upd H6 a7 (.lst ((bs.map fun s=>V.ref s.t)++[V.ref nw]))=H7 at s7 RN ⊢
   have t7:=s5.trans (s6.trans s7)
   have g7:=s4.trans t7
   have d7:=s7 _ _ (s6 _ _ d5)
   refine ⟨_,rfl,?_⟩
   obtain ⟨r1,r2⟩:=xQ (H:=H) (fr:=s0.fr) (en:=s0.en) (b:=a7) (a:=a2) (es:=s0.es) (bs:=bs++[⟨nw,en,fr,es⟩]) (as:=as0) (s4.free hd) g7 d7 (k0.2.same g7) RN (t7 _ _ YC) (fun x hx=>by
    rcases List.mem_append.mp hx with h | h
    ·exact (R.bs x h).same g7
    ·rw [List.mem_singleton.mp h];exact ⟨t7 _ _ n4,R.en.same g7⟩) (fun x hx=>(R.as x (by simp [hx])).same g7)
   exact F4.mk d7 (kk d s0.en a7 a2 s0.fr s0.es _ as0 _ r1 r2 (s4.free (s5.free (s6.free h7))) ha0 ⟨as0,s0,nw,rfl,rfl,rfl,rfl,rfl,rfl⟩)
  ·rw [Tn.Lq h2]
   refine aK ?_
   refine ⟨_,rfl,_,rfl,m,t,en,b,a,fr,es,bs,as,T,pool,rfl,R3,hes,s3 _ _ ht,hT.same s3,fun u en' es' H4 s4 hu hen' hn4 hc=>?_⟩
   refine ⟨u,_,rfl,bG.of hu,rfl,_,_,rfl,_,_,rfl,rfl,?_⟩
   refine qK fun d hd=>?_
   have s5:=ao hd (.dK [])
   have d5:(upd H4 d (.dK [])) d=some (.dK []):=ak
   generalize upd H4 d (.dK [])=H5 at s5 d5 ⊢
   refine ⟨_,rfl,_,rfl,_,rfl,_,rfl,small (by simp),fun l6 h6=>?_⟩
   have s6:=ao h6 (.lst [V.ref nw])
   have RM:(upd H5 l6 (.lst [V.ref nw])) l6=some (.lst [V.ref nw]):=ak
   generalize upd H5 l6 (.lst [V.ref nw])=H6 at s6 RM ⊢
   refine ⟨b2,l6,_,_,rfl,rfl,s6 _ _ (s5 _ _ (s4 _ _ Wq)),RM,by rw [bR];exact small (by simp;lia),fun a7 h7=>?_⟩
   have s7:=ao h7 (.lst ((bs.map fun s=>V.ref s.t)++[V.ref nw]))
   have RN:(upd H6 a7 (.lst ((bs.map fun s=>V.ref s.t)++[V.ref nw]))) a7=some (.lst ((bs++[(⟨nw,en,fr,es⟩:kZ)]).map fun s:kZ=>V.ref s.t)):=by rw [ak,lR];rfl
   generalize upd H6 a7 (.lst ((bs.map fun s=>V.ref s.t)++[V.ref nw]))=H7 at s7 RN ⊢
   refine ⟨small (by simp),fun a8 h8=>?_⟩
   have s8:=ao h8 (.lst [])
   have a8v:(upd H7 a8 (.lst [])) a8=some (.lst []):=ak
   generalize upd H7 a8 (.lst [])=H8 at s8 a8v ⊢
   have t8:=s5.trans (s6.trans (s7.trans s8))
   have g8:=s3.trans (s4.trans t8)
   have d8:=s8 _ _ (s7 _ _ (s6 _ _ d5))
   obtain ⟨r1,r2⟩:=xQ (H:=H) (fr:=fr+T.mp.length) (en:=en') (b:=a7) (a:=a8) (es:=es') (bs:=bs++[⟨nw,en,fr,es⟩]) (as:=[]) (s3.free (s4.free hd)) g8 d8 (hen'.same t8) (s8 _ _ RN) a8v (fun x hx=>by
    rcases List.mem_append.mp hx with h | h
    ·exact (R.bs x h).same g8
    ·rw [List.mem_singleton.mp h];exact nk (s4.trans t8)) (fun x hx=>nomatch hx)
   exact F4.mk d8 (kk d en' a7 a8 _ es' _ [] _ r1 r2 (s3.free (s4.free (s5.free (s6.free h7)))) (s3.free (s4.free (s5.free (s6.free (s7.free h8))))) (RL.mk h1 h2 ⟨nw,s3.free hn4,rfl,hc,rfl,rfl⟩))
end M
namespace L2
open PySem PySem.Spec PyProof.Rows
def iSeq (K:PySem.W.Frag) (tl:TE):TI:=fun σ H R=>tl σ H fun x H1=>∃ a,x=.ref a/\(((∃ xs,bD K H1 a xs)/\R (QM K a) H1)\/((∃ xs,bG K H1 a xs)/\R (Itt K a) H1))
theorem V7 {l:Expr} (hl:PE X l tl):PI X tg l (iSeq X.K tl):=by
 intro pins s σ H R I h
 refine cF (hl pins s σ H _ I h) fun v s1 zq=>?_
 obtain ⟨x,H1,I1,r1,q1⟩:=zq
 obtain ⟨a,e,h2⟩:=q1
 subst e
 cases r1
 rcases h2 with ⟨⟨xs,hq⟩,q⟩ | ⟨⟨xs,hq⟩,q⟩
 ·obtain ⟨its,rv,p,hz⟩:=I1.list hq
  refine wpAny_pyIter_list p.isList ?_
  refine ⟨s1.heap.objs.size,[s1.heap.objs.size],_,_,H1,rfl,I1.kept (t':=s1.toks) fun b o e=>Heap.get?_push_of_some _ e,um a _,⟨_,Heap.get?_push_size _ rfl,rfl,rfl⟩,fun b hb=>?_,q⟩
  have e:b=s1.heap.objs.size:=by simpa using hb
  subst e
  exact I1.tQ (Nat.le_refl _) (I1.hok.fresh (Nat.le_refl _))
 ·obtain ⟨its,rv,p,hz⟩:=I1.tuple hq
  refine wpAny_pyIter_tuple (show s1.heap.IsTuple a its.toArray from p) ?_
  refine ⟨s1.heap.objs.size,[s1.heap.objs.size],_,_,H1,rfl,I1.kept (t':=s1.toks) fun b o e=>Heap.get?_push_of_some _ e,Ab a _,⟨_,Heap.get?_push_size _ rfl,rfl,rfl⟩,fun b hb=>?_,q⟩
  have e:b=s1.heap.objs.size:=by simpa using hb
  subst e
  exact I1.tQ (Nat.le_refl _) (I1.hok.fresh (Nat.le_refl _))
def rEqE (K:PySem.W.Frag):R2:=fun x y H Q=>∃ a b xs,x=.ref a/\y=.ref b/\bD K H a xs/\bD K H b []/\Q (.bl xs.isEmpty) H
theorem Ly (hu:X.A.units<cLine):jC X (compareOp .Eq) (rEqE X.K):=by
 intro pins s σ H x y v u Q I rx ry h
 obtain ⟨a,b,xs,rfl,rfl,ha,hb,q⟩:=h
 cases rx
 cases ry
 obtain ⟨its,r1,p1,_⟩:=I.list ha
 obtain ⟨its2,r2,p2,_⟩:=I.list hb
 cases r2
 cases r1 with
 | nil=>exact SeqAt.eq_listAt (e:=fun _=>true) p1.isList p2.isList rfl hu (fun i hi=>absurd hi (by simp)) ⟨.bl true,H,I,rfl,q⟩
 | cons r1 rs=>exact SeqAt.eq_list_lengthsAt p1.isList p2.isList (by simp) hu ⟨.bl false,H,I,rfl,q⟩
section
variable {j0 j1 j2:Nat}{p0 p1:Pos}{e1 e2 e3:Expr}
abbrev Lz (t1 t2 t3:TE):List (TE×TE):=[(tC (.str "enter"),t1),(tC (.str "all"),t2),(tC (.str "correct"),t3)]
theorem LC (h1:PE X e1 t1) (h2:PE X e2 t2) (h3:PE X e3 t3):PE X (.Dict [some (.Constant (.str "enter") j0 p0),some (.Constant (.str "all") j1 p1),some (.Constant (.str "correct") j2 p2)] [e1,e2,e3] q) (nJ (Lz t1 t2 t3)):=by
 refine wC ?h ?a ?b ?c ?d
 case a=>exact rfl
 case b=>exact rfl
 case c=>exact List.cons_ne_nil _ _
 case d=>exact Nat.le_of_ble_eq_true rfl
 case h=>exact cO aG h1 (cO aG h2 (cO aG h3 wB))
end
end L2
namespace M
open PySem L2 PyProof.Rows
def F3 (Q:VK) (d:Addr) (v1 v2 v3:V) (H4:Hp):Prop:=H4 d=some (.dK [])/\∃ kvs:List (Key×V),[(V.str "enter",v1),(V.str "all",v2),(V.str "correct",v3)]=kvs.map (fun kv=>(kV kv.1,kv.2))/\kvs.length<=15/\Q (.ref d) (upd H4 d (.dK (dR [] kvs)))
def V8 (v1 v2 v3:V):List (Key×V):=[(.inr "enter",v1),(.inr "all",v2),(.inr "correct",v3)]
theorem F3.mk {Q:VK}{v1 v2 v3:V} (h:H4 d=some (.dK [])) (q:Q (.ref d) (upd H4 d (.dK (V8 v1 v2 v3)))):F3 Q d v1 v2 v3 H4 :=
 ⟨h,[(.inr "enter",v1),(.inr "all",v2),(.inr "correct",v3)],rfl,Nat.le_of_ble_eq_true rfl,q⟩
theorem LK {Q:VK} (h:∀ d,H d=none->t1 σ (upd H d (.dK [])) fun v1 H1=>t2 σ H1 fun v2 H2=>t3 σ H2 fun v3 H3=>F3 Q d v1 v2 v3 H3):nJ (Lz t1 t2 t3) σ H Q:=h
abbrev nRf:List Str:=["_law_model", "_law_turn_here", "_law_handed", "_law_rows"]
theorem V9:aY nRf ["_law_model", "_law_turn_here"] (aA kE):=⟨rfl,rfl,rfl,by decide +kernel,rfl,by decide +kernel,by decide +kernel⟩
def YD:Scope:={ kind:=.function,names:=[(".0",.local),("_law_row",.local),("_law_good",.globalImplicit)],isGenerator:=false,isCoroutine:=false }
theorem YF:dF nRf (aA kE) YD ["_law_row"] [] []:=⟨rfl,by decide +kernel,by decide +kernel,by decide +kernel,rfl,by decide +kernel⟩
theorem YG:((["_law_row"]:List Str)++([]:List Str)).Nodup:=by decide +kernel
def YH:Scope:={ kind:=.function,names:=[(".0",.local),("_law_entry",.local)],isGenerator:=false,isCoroutine:=false }
theorem RP:dF nRf (aA kE) YH ["_law_entry"] [] []:=⟨rfl,by decide +kernel,by decide +kernel,by decide +kernel,rfl,by decide +kernel⟩
def Tn.hd:Tn->List (List V)
 | .en _ r=>[r]
 | .al _ _ rs=>rs
 | .co _ _ r=>[r]
 | _=>[]
def Tn.num:Tn->Option Int
 | .st n=>some n
 | .co n _ _=>some n
 | _=>none
theorem Va:bootBuiltins "set"=some (.type "set"):=by decide +kernel
theorem u0 (h:n+64<cLine):n<cLine:=by lia
def dz (T:Tn) (fr:Nat) (es:List Ent) (bs as:List kZ):Str :=
 if T.hd.all wm=false then "NoForm" else if (T.num.any fun n=>!(es.map (·.n)).contains n)=true then "NoEntry" else if (T.kd="back"/\bs.isEmpty=true)\/(T.kd="again"/\as.isEmpty=true) then "NothingThere" else if ¬ ((T.new fr (es.map Ent.c)).map (·.2.2)).Nodup then "Twice" else ""
def Em:Sp:=fun vs H Q _=>∃ (m t en b a:Addr) (fr:Nat) (es:List Ent) (bs as:List kZ) (T:Tn) (pool:List (List V)),vs=[.ref m,.ref t]/\gM H m en b a fr es bs as/\es.length<=250/\(∀ e∈es,dw e.r)/\H t=some (.tup T.vs)/\T.At pool H/\∀ H',Same H H'->Q (.str (dz T fr es bs as)) H'
theorem Tn.Vb (T:Tn):1<=T.vs.length/\T.vs.length<=3:=by cases T <;> simp [Tn.vs]
def YJ:V->Key
 | .int i=>.inl i
 | .str z=>.inr z
 | _=>.inl 0
def kR (r:List V):List Key:=r.map YJ
theorem BJ (h:dw r):(kR r).map kV=r:=by
 have h2:=List.all_eq_true.mp h.2
 unfold kR
 rw [List.map_map]
 have:∀ l:List V,(∀ v∈l,jx v=true)->l.map (kV∘YJ)=l:=by
  intro l
  induction l with
  | nil=>exact fun _=>rfl
  | cons x t ih =>
   intro hx
   rw [List.map_cons,ih fun v hv=>hx v (mD _ hv)]
   congr 1
   have:=hx x (List.mem_cons_self ..)
   cases x with
   | int i=>rfl
   | str z=>rfl
   | non=>cases this
   | bl _=>cases this
   | xY _=>cases this
   | flt _=>cases this
   | ref _=>cases this
   | ty _=>cases this
 exact this r h2
theorem LQ {es:List Ent} (h:∀ e∈es,dw e.r):(es.map fun e=>kR e.r).Nodup↔(es.map ((·.2.2)∘Ent.c)).Nodup:=by
 unfold List.Nodup
 rw [List.pairwise_map,List.pairwise_map]
 constructor
 ·intro hp
  refine List.Pairwise.imp_of_mem (fun {a b} ha hb hab e=>hab ?_) hp
  have:a.r=b.r:=e
  rw [this]
 ·intro hp
  refine List.Pairwise.imp_of_mem (fun {a b} ha hb hab e=>hab ?_) hp
  show a.r=b.r
  rw [<- BJ (h a ha),<- BJ (h b hb),e]
theorem Tn.Qg {T:Tn}{fr:Nat}{l:List Ct} (h:bC H T.mp T.mr):(T.new fr l).length<=l.length+T.mp.length:=by
 have e:(l++newL fr T.mp T.mr).length=l.length+T.mp.length:=by rw [iY,tH h]
 unfold Tn.new
 cases T with
 | st n =>
  refine Nat.le_trans (List.length_filter_le _ _) (Nat.le_of_eq e)
 | co n p r =>
  refine Nat.le_of_eq ?_
  show (List.map _ _).length=_
  rw [bR];exact e
 | _=>exact Nat.le_of_eq e
theorem BK:∀ {ps:List Addr}{rs:List (List V)}{fr:Nat}{x:Ct},bC H ps rs->x∈newL fr ps rs->x.2.2∈rs
 | _,_,_,_,.nil,h=>nomatch h
 | _,_,fr,x,.cons h hs,m=>by
  rcases List.mem_cons.mp m with rfl | m
  ·exact List.mem_cons_self ..
  ·exact mD _ (BK hs m)
theorem Tn.YK {T:Tn}{fr:Nat}{l:List Ct}{x:Ct} (hT:T.At pool H) (hl:∀ x∈l,dw x.2.2) (hx:x∈T.new fr l):dw x.2.2:=by
 have hm:∀ x∈l++newL fr T.mp T.mr,dw x.2.2:=fun x hx=>by
  rcases List.mem_append.mp hx with h | h
  ·exact hl x h
  ·have h2:=BK (Tn.rows hT) h
   cases T with
   | en p r=>rw [List.mem_singleton.mp h2];exact hT.2.1
   | al q ps rs=>exact (hT.2.2.1 _ h2).1
   | _=>cases h2
 unfold Tn.new at hx
 cases T with
 | st n=>exact hm x (List.mem_filter.mp hx).1
 | co n p r =>
  obtain ⟨y,hy,rfl⟩:=List.mem_map.mp hx
  by_cases e:y.1=n
  ·rw [if_pos e];exact hT.2.1
  ·rw [if_neg e];exact hm y hy
 | _=>exact hm x hx
theorem zM {n:Int}:∀ {es:List Ent},inV (V.int n) (es.map fun e=>V.int e.n)=(es.map (·.n)).contains n
 | []=>rfl
 | e::r=>by
  have ih:=zM (n:=n) (es:=r)
  unfold inV at ih ⊢
  rw [List.map_cons,List.any_cons,ih,List.map_cons,List.contains_cons]
  congr 1
  show decide (e.n=n)=(n==e.n)
  rw [Bool.eq_iff_iff]
  simp only [decide_eq_true_eq,beq_iff_eq]
  exact eq_comm
theorem vq {es:List Ent}:(es.map fun e=>V.int e.n).all lZ=true:=by
 rw [List.all_eq_true]
 intro v hv
 obtain ⟨e,_,rfl⟩:=List.mem_map.mp hv
 rfl
theorem En {α β:Type}{F:α->β->Prop}:∀ {l:List α}{l2:List β}{i:Nat}{a:α},Paired F l l2->l[i]?=some a->∃ b,l2[i]?=some b/\F a b
 | _,_,_,_,.nil,h=>by simp at h
 | _,_,0,a,.cons (b:=b) h hs,e=>by
  have e':=Option.some.inj ((List.getElem?_cons_zero ..).symm.trans e)
  subst e'
  exact ⟨b,rfl,h⟩
 | _,_,i+1,a,.cons h hs,e=>En (i:=i) hs (by simpa using e)
theorem vA {qs:List Addr}{rs:List (List V)} (hr:bC H qs rs) (hg:∀ r∈rs,dw r) (hl:qs.length<=3) (hD:H D=none) (i:Nat) (ys:List V) (H7:Hp) (x:V) (hx:(qs.map V.ref)[i]?=some x) (h:ys=(rs.take i).map (fun r=>V.bl (wm r))/\Same H H7/\H7 D=some (.lst ys)) :
  rD D σ 1 [] (pC 0) Dh (Ib (Br K) [] E0 (fB (pX 0) oA)) x ys H7 (fun ys H7=>ys=(rs.take (i+1)).map (fun r=>V.bl (wm r))/\Same H H7/\H7 D=some (.lst ys)):=by
 obtain ⟨rfl,s7,Li⟩:=h
 rw [lW] at hx
 obtain ⟨q,hq,rfl⟩:=Option.map_eq_some_iff.mp hx
 obtain ⟨r,hri,hqr⟩:=En hr hq
 obtain ⟨⟨k,rest,rfl,Rr⟩,_⟩:=hg r (qN hri)
 have hi:i<qs.length:=(List.getElem?_eq_some_iff.mp hq).1
 refine ⟨Kp.set rfl (Kp.refl _),?_⟩
 refine dY ?_
 refine ⟨_,rfl,q,k,rest,rfl,bG.of (s7 _ _ hqr),Rr,fun H8 s8=>⟨s8 _ _ Li,?_,?_,aV (s7.trans s8) hD,ak⟩⟩
 ·rw [bR,List.length_take];exact cj (by lia)
 ·rw [List.take_add_one,hri,lR];rfl
theorem LR (F:iC K "_law_refusal" "_law_refusal" kE f fd) (ml:mg "len"=none) (ma:mg "all"=none) (ms:mg "set"=none)  (G1:bf P w K mg base dj 2 g1 d1 ["_law_row"] (Br K)) (M1:Ms K mg "_law_good" g1 d1 ["_law_row"])
  (G2:bf P w K mg base dj 1 g2 d2 ["_law_model", "_law_turn_here"] Bx) (M2:Ms K mg "_law_new_entries" g2 d2 ["_law_model", "_law_turn_here"]):bf P w K mg base dj 3 f fd ["_law_model", "_law_turn_here"] (Em):=by
 refine F.ok V9 (fun vs H Q E h=>?_) (fun cdv A outer s H vs Q E hr h=>?_)
 ·obtain ⟨m,t,en,b,a,fr,es,bs,as,T,pool,rfl,_⟩:=h
  rfl
 obtain ⟨m,t,en,b,a,fr,es,bs,as,T,pool,rfl,R,hes,hrw,ht,hT,kk⟩:=h
 have hr1:cM 1 _:=hr.mono (by decide)
 refine tW.out ⟨_,aH (cD (i:=2) V9.nd rfl (Or.inl rfl) ⟨yO (u1 hr) (LC (cT iT (pv 1) (cR au) (cR au)) (aM bh (aQ jr (pv 1) (dh (aj (cP aq) aq))) au aU) (cT iT (pv 1) (cR au) fY)) (aM bh (pv 1) au aU) (cP aq) ⟨rfl,rfl,rfl,rfl⟩⟩)
  (aH (cQ (fj (eG (aP (lA (K:=K) rfl hr.hd) rfl ma vX (aj (fG rfl YF (V7 (pv 2)) (fun s H fp C=>⟨aO (i:=0) YG rfl (Or.inl rfl),dZ,bF G1 hr rfl M1.m M1.k M1.b .nil bW (aj (pv 0) aq)⟩)) aq)))) (aZ (bM jZ)) bN)
  (aH (cQ (PW.pt (jl (aL lg (aM bh (pv 1) au aU) (dh (aj aG (aj aG aq))) (by with_unfolding_all rfl)) (gD (aL jt (aM bh (pv 1) au aU) (fG rfl RP (gG (cG (u1 hr) (pv 0) aG (fun _ _=>rfl))) (fun s H fp C=>⟨aO (i:=0) V5 rfl (Or.inl rfl),dZ,aM (gb (K:=K)) (pv 0) au aU⟩)) (by with_unfolding_all rfl))))) (aZ (bM jZ)) bN)
  (aH (cQ (PW.pt (uf (PW.pt (jl (aL bZ (aM bh (pv 1) au aU) aG (aX _)) (gD (aL (Ly (u0 hr.units)) (cG (u1 hr) (pv 0) aG (fun _ _=>rfl)) (cP aq) (aX _))))) (nZ (PW.pt (jl (aL bZ (aM bh (pv 1) au aU) aG (aX _)) (gD (aL (Ly (u0 hr.units)) (cG (u1 hr) (pv 0) aG (fun _ _=>rfl)) (cP aq) (aX _)))))))) (aZ (bM jZ)) bN)
  (aH ⟨qp (i:=3) rfl RP (gG (aM bh (bF G2 hr1 rfl M2.m M2.k M2.b .nil bW (aj (pv 0) (aj (pv 1) aq))) au aU)) (fun s H fp C=>⟨aO (i:=0) V5 rfl (Or.inl rfl),dZ,aM (gb (K:=K)) (pv 0) au aU⟩) V9.nd rfl (Or.inl rfl)⟩
  (aH (cQ (aL lX (aP GK rfl ml PySem.boot_len (aj (bT (GJ hr.hd hr.units) rfl ms Va (aj (pv 3) aq)) aq)) (aP bY rfl ml PySem.boot_len (aj (pv 3) aq)) (aX _)) (aZ (bM jZ)) bN)
  (aZ (bM jZ))))))),?_⟩
 obtain ⟨l1,l3⟩:=T.Vb
 refine grab (a:=Aa _ _) (fun σ' H'=>∃ (hx:Addr) (qs:List Addr),σ'=[some (.ref m),some (.ref t),some (.ref hx),none]/\Same H H'/\(bD K H' hx (qs.map V.ref)\/bG K H' hx (qs.map V.ref))/\bC H' qs T.hd/\qs.length<=3) ?_ fun go=>?_
 rotate_left
 ·dsimp only [Aa,Jg]
  refine LK fun d hd=>?_
  have s0:=ao hd (.dK [])
  have d0:(upd H d (.dK [])) d=some (.dK []):=ak
  generalize upd H d (.dK [])=H0 at s0 d0 ⊢
  refine ⟨_,rfl,_,rfl,_,rfl,t,_,rfl,bG.of (s0 _ _ ht),nwN (j:=1) (by decide) l1,fun p1 hp1=>?_⟩
  have s1:=ao hp1 (.tup (dg T.vs (some 1) (some 2)))
  have p1v:(upd H0 p1 (.tup (dg T.vs (some 1) (some 2)))) p1=some (.tup (dg T.vs (some 1) (some 2))):=ak
  generalize upd H0 p1 (.tup (dg T.vs (some 1) (some 2)))=H1 at s1 p1v ⊢
  refine ⟨_,rfl,small (by simp),fun l0 hl0=>?_⟩
  have s2:=ao hl0 (.lst [])
  generalize upd H1 l0 (.lst [])=H2 at s2 ⊢
  refine ⟨small (by simp),fun p2 hp2=>?_⟩
  have s3:=ao hp2 (.tup [V.ref l0])
  have p2v:(upd H2 p2 (.tup [V.ref l0])) p2=some (.tup [V.ref l0]):=ak
  generalize upd H2 p2 (.tup [V.ref l0])=H3 at s3 p2v ⊢
  have g3:=s0.trans (s1.trans (s2.trans s3))
  refine ⟨t,p2,_,_,rfl,rfl,bG.of (g3 _ _ ht),bG.of p2v,(fun e=>by rw [e] at l1;simp at l1),small (by simp;lia),(fun e=>by cases e),fun _ p3 hp3=>?_⟩
  have s4:=ao hp3 (.tup (T.vs++[V.ref l0]))
  have p3v:(upd H3 p3 (.tup (T.vs++[V.ref l0]))) p3=some (.tup (T.vs++[V.ref l0])):=ak
  generalize upd H3 p3 (.tup (T.vs++[V.ref l0]))=H4 at s4 p3v ⊢
  obtain ⟨v2,hv2,_⟩:=gk (xs:=T.vs++[V.ref l0]) (i:=1) (by decide) (by simp;lia)
  refine ⟨p3,_,_,_,rfl,rfl,bG.of p3v,hv2,?_⟩
  have g4:=g3.trans s4
  refine ⟨_,rfl,_,rfl,t,_,rfl,bG.of (g4 _ _ ht),nwN (j:=2) (by decide) l1,fun p4 hp4=>?_⟩
  have s5:=ao hp4 (.tup (dg T.vs (some 2) none))
  have p4v:(upd H4 p4 (.tup (dg T.vs (some 2) none))) p4=some (.tup (dg T.vs (some 2) none)):=ak
  generalize upd H4 p4 (.tup (dg T.vs (some 2) none))=H5 at s5 p4v ⊢
  have g5:=g4.trans s5
  have t5:Same H0 H5:=s1.trans (s2.trans (s3.trans (s4.trans s5)))
  have d5:=t5 _ _ d0
  refine F3.mk d5 ?_
  have g6:Same H (upd H5 d (.dK (V8 (.ref p1) v2 (.ref p4)))):=aV g5 hd
  have d6:(upd H5 d (.dK (V8 (.ref p1) v2 (.ref p4)))) d=some (.dK (V8 (.ref p1) v2 (.ref p4))):=ak
  have k6:∀ c r,H5 c=some (.tup r)->(upd H5 d (.dK (V8 (.ref p1) v2 (.ref p4)))) c=some (.tup r):=fun c r h=>by
   rw [aC fun e=>by rw [e,d5] at h;cases h];exact h
  generalize upd H5 d (.dK (V8 (.ref p1) v2 (.ref p4)))=H6 at g6 d6 k6 ⊢
  refine ⟨d,rfl,.inl ⟨_,.inl d6⟩,?_⟩
  refine ⟨_,rfl,t,_,_,_,rfl,rfl,bG.of (g6 _ _ ht),T.v0,small (by simp),fun l5 hl5=>?_⟩
  have s7:=ao hl5 (.lst [])
  have l5v:(upd H6 l5 (.lst [])) l5=some (.lst []):=ak
  generalize upd H6 l5 (.lst [])=H7 at s7 l5v ⊢
  have g7:=g6.trans s7
  refine ⟨jw (V8 (.ref p1) v2 (.ref p4)) (.inr T.kd),gJ.k (k:=.inr T.kd) (s7 _ _ d6),?_⟩
  have YL:=hT.same g7
  have p1w:=s7 _ _ (k6 _ _ (s5 _ _ (s4 _ _ (s3 _ _ (s2 _ _ p1v)))))
  have p4w:=s7 _ _ (k6 _ _ p4v)
  cases T with
  | en p r=>exact go _ _ ⟨p1,[p],rfl,g7,.inr (bG.of p1w),.cons YL.1 .nil,by simp⟩
  | al l ps rs =>
   have e2:v2=.ref l:=by
    have e:=hv2
    rw [show tO ((Tn.al l ps rs).vs++[V.ref l0]) 1=some (V.ref l) from bH (j:=1) rfl] at e
    injection e with e;exact e.symm
   subst e2
   exact go _ _ ⟨l,ps,rfl,g7,.inl (bD.of YL.1),YL.2.1,YL.2.2.2⟩
  | st n=>exact go _ _ ⟨l5,[],rfl,g7,.inl (bD.of l5v),.nil,by simp⟩
  | co n p r=>exact go _ _ ⟨p4,[p],rfl,g7,.inr (bG.of p4w),.cons YL.1 .nil,by simp⟩
  | ba=>exact go _ _ ⟨l5,[],rfl,g7,.inl (bD.of l5v),.nil,by simp⟩
  | ag=>exact go _ _ ⟨l5,[],rfl,g7,.inl (bD.of l5v),.nil,by simp⟩
 rintro σ' H1 ⟨hx,qs,rfl,s1,hq,hrs,hql⟩
 have hgd:∀ r∈T.hd,dw r:=fun r hr=>by
  cases T with
  | en p r'=>rw [List.mem_singleton.mp hr];exact hT.2.1
  | al l ps rs=>exact (hT.2.2.1 r hr).1
  | co n p r'=>rw [List.mem_singleton.mp hr];exact hT.2.1
  | st n=>cases hr
  | ba=>cases hr
  | ag=>cases hr
 have hll:T.hd.length=qs.length:=hrs.length.symm
 refine grab (a:=yq _ _ _) (fun σ' H'=>σ'=[some (.ref m),some (.ref t),some (.ref hx),none]/\Same H H'/\T.hd.all wm=true) ?_ fun go=>?_
 rotate_left
 ·have fin:∀ D H2,H2 D=some (.lst ((T.hd.take qs.length).map fun r=>V.bl (wm r)))->∃ (p:Addr) (bs:List Bool),[V.ref D]=[V.ref p]/\bD K H2 p (bs.map V.bl)/\bs.all id=T.hd.all wm:=fun D H2 h=>by
   rw [List.take_of_length_le (Nat.le_of_eq hll)] at h
   exact ⟨D,T.hd.map wm,rfl,bD.of (by rw [h,List.map_map];rfl),by rw [List.all_map];rfl⟩
  have last:∀ H2,Same H1 H2->∀ c:Bool,c=T.hd.all wm->if (!c)=true then Q (V.str "NoForm") H2 else _:=fun H2 s2 c hc=>by
   cases c with
   | true=>exact aK (go _ _ ⟨rfl,s1.trans s2,hc.symm⟩)
   | false =>
    have:=kk H2 (s1.trans s2)
    unfold dz at this
    rw [if_pos hc.symm] at this
    exact bO this
  refine ⟨_,rfl,hx,rfl,?_⟩
  rcases hq with hq | hq
  ·refine .inl ⟨⟨_,hq⟩,fun D hD=>?_⟩
   refine jc (K:=K) (a:=hx) (xs:=qs.map V.ref) (fun i ys H7=>ys=(T.hd.take i).map (fun r=>V.bl (wm r))/\Same H1 H7/\H7 D=some (.lst ys)) (fun i ys H7 h=>h.2.1.seq hq) ⟨rfl,ao hD _,ak⟩ (fun i ys H7 h=>h.2.2) (vA hrs hgd hql hD) ?_
   rintro ys H2 ⟨rfl,s2,hD2⟩
   rw [bR] at hD2
   obtain ⟨p,bs',e1,e2,e3⟩:=fin D H2 hD2
   exact ⟨p,bs',e1,e2,_,rfl,last H2 s2 _ e3⟩
  ·refine .inr ⟨⟨_,hq⟩,fun D hD=>?_⟩
   refine Iw (K:=K) (a:=hx) (xs:=qs.map V.ref) (fun i ys H7=>ys=(T.hd.take i).map (fun r=>V.bl (wm r))/\Same H1 H7/\H7 D=some (.lst ys)) (fun i ys H7 h=>h.2.1.wD hq) ⟨rfl,ao hD _,ak⟩ (fun i ys H7 h=>h.2.2) (vA hrs hgd hql hD) ?_
   rintro ys H2 ⟨rfl,s2,hD2⟩
   rw [bR] at hD2
   obtain ⟨p,bs',e1,e2,e3⟩:=fin D H2 hD2
   exact ⟨p,bs',e1,e2,_,rfl,last H2 s2 _ e3⟩
 rintro σ' H2 ⟨rfl,s2,hall⟩
 refine grab (a:=yq _ _ _) (fun σ' H'=>σ'=[some (.ref m),some (.ref t),some (.ref hx),none]/\Same H H'/\(T.num.any fun n=>!(es.map (·.n)).contains n)=false) ?_ fun go=>?_
 rotate_left
 ·refine ⟨_,rfl,t,_,_,_,rfl,rfl,bG.of (s2 _ _ ht),T.v0,small (by simp),fun q hq=>⟨q,_,rfl,.inr (bG.of ak),rfl,rfl,_,rfl,?_⟩⟩
  have s3:=s2.trans (ao hq (.tup [V.str "strike",V.str "correct"]))
  generalize upd H2 q (.tup [V.str "strike",V.str "correct"])=H3 at s3 ⊢
  have R3:=R.same s3
  have two:∀ n:Int,T.num=some n->∀ H4,Same H3 H4->∀ c:Bool,c=!inV (V.int n) (es.map fun e=>V.int e.n)->if c=true then Q (V.str "NoEntry") H4 else _:=fun n hn H4 s4 c hc=>by
   rw [zM] at hc
   have ea:(T.num.any fun n=>!(es.map (·.n)).contains n)=c:=by rw [hn,hc];rfl
   cases c with
   | false=>exact aK (go _ _ ⟨rfl,s3.trans s4,ea⟩)
   | true =>
    have:=kk H4 (s3.trans s4)
    unfold dz at this
    rw [if_neg (by rw [hall];decide),if_pos ea] at this
    exact bO this
  cases T with
  | en p r=>exact aK (go _ _ ⟨rfl,s3,rfl⟩)
  | al l ps rs=>exact aK (go _ _ ⟨rfl,s3,rfl⟩)
  | ba=>exact aK (go _ _ ⟨rfl,s3,rfl⟩)
  | ag=>exact aK (go _ _ ⟨rfl,s3,rfl⟩)
  | st n =>
   refine bO ⟨_,rfl,t,_,_,_,rfl,rfl,bG.of (s3 _ _ ht),bH (j:=1) rfl,_,rfl,m,_,rfl,R3.gE,en,rfl,⟨_,bD.of R3.en.1⟩,fun D hD=>?_⟩
   refine lN 0 (fun e=>V.int e.n) (fun e=>rfl) R3.en.1 R3.en.2 (by lia) hD fun H4 s4 DP=>?_
   exact ⟨D,_,rfl,.inl (bD.of DP),rfl,vq,_,rfl,two n rfl H4 s4 _ rfl⟩
  | co n p r =>
   refine bO ⟨_,rfl,t,_,_,_,rfl,rfl,bG.of (s3 _ _ ht),bH (j:=1) rfl,_,rfl,m,_,rfl,R3.gE,en,rfl,⟨_,bD.of R3.en.1⟩,fun D hD=>?_⟩
   refine lN 0 (fun e=>V.int e.n) (fun e=>rfl) R3.en.1 R3.en.2 (by lia) hD fun H4 s4 DP=>?_
   exact ⟨D,_,rfl,.inl (bD.of DP),rfl,vq,_,rfl,two n rfl H4 s4 _ rfl⟩
 rintro σ' H3 ⟨rfl,s3,hnum⟩
 have R3:=R.same s3
 refine grab (a:=yq _ _ _) (fun σ' H'=>σ'=[some (.ref m),some (.ref t),some (.ref hx),none]/\Same H H'/\¬ ((T.kd="back"/\bs.isEmpty=true)\/(T.kd="again"/\as.isEmpty=true))) ?_ fun go=>?_
 rotate_left
 ·have yes:∀ H5,Same H3 H5->((T.kd="back"/\bs.isEmpty=true)\/(T.kd="again"/\as.isEmpty=true))->Q (V.str "NothingThere") H5:=fun H5 s5 hy=>by
   have:=kk H5 (s3.trans s5)
   unfold dz at this
   rw [if_neg (by rw [hall];decide),if_neg (by rw [hnum];decide),if_pos hy] at this
   exact this
  refine ⟨_,rfl,t,_,_,_,rfl,rfl,bG.of (s3 _ _ ht),T.v0,rfl,_,rfl,?_⟩
  have plain:T.kd≠"back"->T.kd≠"again"->¬ ((T.kd="back"/\bs.isEmpty=true)\/(T.kd="again"/\as.isEmpty=true)):=fun h1 h2 h=>by
   rcases h with ⟨h,_⟩ | ⟨h,_⟩
   ·exact h1 h
   ·exact h2 h
  cases T with
  | en p r=>exact aK (aK ⟨_,rfl,t,_,_,_,rfl,rfl,bG.of (s3 _ _ ht),at0 _ _,rfl,_,rfl,aK (aK (go _ _ ⟨rfl,s3,plain (show ("enter" : Str)≠"back" by decide +kernel) (show ("enter" : Str)≠"again" by decide +kernel)⟩))⟩)
  | al l ps rs=>exact aK (aK ⟨_,rfl,t,_,_,_,rfl,rfl,bG.of (s3 _ _ ht),at0 _ _,rfl,_,rfl,aK (aK (go _ _ ⟨rfl,s3,plain (show ("all" : Str)≠"back" by decide +kernel) (show ("all" : Str)≠"again" by decide +kernel)⟩))⟩)
  | st n=>exact aK (aK ⟨_,rfl,t,_,_,_,rfl,rfl,bG.of (s3 _ _ ht),at0 _ _,rfl,_,rfl,aK (aK (go _ _ ⟨rfl,s3,plain (show ("strike" : Str)≠"back" by decide +kernel) (show ("strike" : Str)≠"again" by decide +kernel)⟩))⟩)
  | co n p r=>exact aK (aK ⟨_,rfl,t,_,_,_,rfl,rfl,bG.of (s3 _ _ ht),at0 _ _,rfl,_,rfl,aK (aK (go _ _ ⟨rfl,s3,plain (show ("correct" : Str)≠"back" by decide +kernel) (show ("correct" : Str)≠"again" by decide +kernel)⟩))⟩)
  | ba =>
   refine bO ⟨_,rfl,m,_,rfl,R3.gB,small (by simp),fun l hl=>?_⟩
   have s5:=ao hl (.lst [])
   refine ⟨b,l,_,rfl,rfl,bD.of (s5 _ _ R3.b),bD.of ak,_,rfl,?_⟩
   have Qh:=s3.trans s5
   generalize upd H3 l (.lst [])=H5 at s5 Qh ⊢
   cases bs with
   | nil=>exact bO (yes H5 s5 (.inl ⟨rfl,rfl⟩))
   | cons x r=>exact aK ⟨_,rfl,t,_,_,_,rfl,rfl,bG.of (Qh _ _ ht),at0 _ _,rfl,_,rfl,aK (aK (go _ _ ⟨rfl,Qh,fun h=>by
     rcases h with ⟨_,h⟩ | ⟨h,_⟩
     ·cases h
     ·exact absurd h (show ("back" : Str)≠"again" by decide +kernel)⟩))⟩
  | ag =>
   refine aK (aK ⟨_,rfl,t,_,_,_,rfl,rfl,bG.of (s3 _ _ ht),at0 _ _,rfl,_,rfl,bO ⟨_,rfl,m,_,rfl,R3.gA,small (by simp),fun l hl=>?_⟩⟩)
   have s5:=ao hl (.lst [])
   refine ⟨a,l,_,rfl,rfl,bD.of (s5 _ _ R3.a),bD.of ak,_,rfl,?_⟩
   have Qh:=s3.trans s5
   generalize upd H3 l (.lst [])=H5 at s5 Qh ⊢
   cases as with
   | nil=>exact bO (yes H5 s5 (.inr ⟨rfl,rfl⟩))
   | cons x r=>exact aK (go _ _ ⟨rfl,Qh,fun h=>by
     rcases h with ⟨h,_⟩ | ⟨_,h⟩
     ·exact absurd h (show ("again" : Str)≠"back" by decide +kernel)
     ·cases h⟩)
 rintro σ' H4 ⟨rfl,s4,hno⟩
 have R4:=R.same s4
 refine ⟨_,rfl,_,rfl,m,t,en,b,a,fr,es,bs,as,T,pool,rfl,R4,by lia,s4 _ _ ht,hT.same s4,fun u en' es' H5 s5 hu hen hn5 hc=>⟨u,_,_,_,rfl,rfl,bG.of hu,at0 _ _,en',rfl,⟨_,bD.of hen.1⟩,fun D hD=>?_⟩⟩
 have hlen:es'.length<=253:=by
  have h1:=congrArg List.length hc
  rw [bR] at h1
  have h2:=Tn.Qg (T:=T) (fr:=fr) (l:=es.map Ent.c) (Tn.rows hT)
  have h3:=Tn.Bw hT
  rw [bR] at h2
  lia
 have hgs:∀ e∈es',dw e.r:=fun e he=>by
  have hm:e.c∈T.new fr (es.map Ent.c):=by rw [<- hc];exact List.mem_map_of_mem he
  exact Tn.YK hT (fun x hx=>by obtain ⟨e0,h0,rfl⟩:=List.mem_map.mp hx;exact hrw e0 h0) hm
 refine lN 1 (fun e=>V.ref e.p) (fun e=>rfl) hen.1 hen.2 (by lia) hD fun H6 s6 Wo=>?_
 have g6:=s4.trans (s5.trans s6)
 have hrk:Paired (fun a r=>H6 a=some (.tup (r.map kV))) (es'.map (·.p)) (es'.map fun e=>kR e.r):=by
  have:∀ l:List Ent,(∀ e∈l,dw e.r/\H6 e.p=some (.tup e.r))->Paired (fun a r=>H6 a=some (.tup (r.map kV))) (l.map (·.p)) (l.map fun e=>kR e.r):=by
   intro l
   induction l with
   | nil=>exact fun _=>.nil
   | cons x r ih=>exact fun h=>.cons (by rw [BJ (h x (List.mem_cons_self ..)).1];exact (h x (List.mem_cons_self ..)).2) (ih fun e he=>h e (mD _ he))
  exact this es' fun e he=>⟨hgs e he,s6 _ _ (hen.2 e he).2⟩
 have YM:H6 D=some (.lst ((es'.map (·.p)).map V.ref)):=by rw [Wo,List.map_map];rfl
 refine ⟨_,rfl,D,es'.map (·.p),es'.map (fun e=>kR e.r),rfl,bD.of YM,hrk,by rw [bR];lia,fun l hl=>?_⟩
 have s7:=ao hl (zE l (fL (es'.map fun e=>kR e.r)).length)
 have l7:(upd H6 l (zE l (fL (es'.map fun e=>kR e.r)).length)) l=some (zE l (fL (es'.map fun e=>kR e.r)).length):=ak
 generalize upd H6 l (zE l (fL (es'.map fun e=>kR e.r)).length)=H7 at s7 l7 ⊢
 have g7:=g6.trans s7
 have hle:(fL (es'.map fun e=>kR e.r)).length<=es'.length:=by
  have:=sZ (es'.map fun e=>kR e.r)
  rw [bR] at this;exact this
 have hnd:(fL (es'.map fun e=>kR e.r)).length=es'.length↔((T.new fr (es.map Ent.c)).map (·.2.2)).Nodup:=by
  rw [<- hc,List.map_map]
  have e1:=Kv (l:=es'.map fun e=>kR e.r)
  rw [bR] at e1
  rw [e1]
  exact LQ hgs
 refine ⟨l,_,rfl,l7,by lia,_,rfl,D,_,rfl,.inl (bD.of (s7 _ _ YM)),rfl,_,rfl,?_⟩
 have fin:=kk H7 g7
 unfold dz at fin
 rw [if_neg (by rw [hall];decide),if_neg (by rw [hnum];decide),if_neg hno] at fin
 by_cases nd:((T.new fr (es.map Ent.c)).map (·.2.2)).Nodup
 ·rw [if_neg (not_not_intro nd)] at fin
  refine uz (by rw [hnd.mpr nd,bR,bR]) fin
 ·rw [if_pos nd] at fin
  have hne:¬ V.int (((fL (es'.map fun e=>kR e.r)).length:Nat):Int)=V.int ((((es'.map (·.p)).map V.ref).length:Nat):Int):=fun e=>nd (hnd.mp (by
   injection e with e
   rw [bR,bR] at e
   lia))
  rw [decide_eq_false hne]
  exact bO fin
theorem Qi {l1 l2:List (Int×V)} (h:l1.Perm l2) (h1:l1.Pairwise fun x y=>x.1<y.1) (h2:l2.Pairwise fun x y=>x.1<y.1):l1=l2 :=
 List.Perm.eq_of_pairwise (le:=fun x y:Int×V=>x.1<y.1) (fun a b _ _ h3 h4=>by lia) h1 h2 h
def pr (e:Ent):Int×V:=(e.n,.ref e.p)
theorem xT {p:Addr} (h:H p=some (.tup r)) (hg:dw r):MJ H (n+2) (.ref p) (.ref p):=by
 refine .inr (.inl ⟨p,p,r,r,rfl,rfl,h,h,rfl,?_,fun i x y hx hy=>?_⟩)
 ·obtain ⟨⟨k,rest,rfl,R⟩,_⟩:=hg
  have:=R.len
  rw [jK];lia
 ·rw [hx] at hy
  injection hy with hy
  refine .inl ⟨hy,?_⟩
  have:=List.all_eq_true.mp hg.2 x (qN hx)
  cases x with
  | int i=>rfl
  | str z=>rfl
  | non=>rfl
  | bl _=>rfl
  | xY _=>cases this
  | flt _=>cases this
  | ref _=>cases this
  | ty _=>cases this
theorem Ma {q:Addr}{es:List Ent} (hq:H q=some (.lst (as.map V.ref))) (hi:Items H as (es.map pr)) (hL:jE H L es) (hg:∀ e∈es,dw e.r) (hl:es.length<=1000):MJ H (n+4) (.ref q) (.ref L):=by
 refine .inr (.inr ⟨q,L,_,_,rfl,rfl,hq,hL.1,?_,?_,fun i x y hx hy=>?_⟩)
 ·rw [bR,bR,hi.1,bR]
 ·rw [bR,hi.1,bR];exact hl
 ·rw [lW] at hx hy
  obtain ⟨a,ha,rfl⟩:=Option.map_eq_some_iff.mp hx
  obtain ⟨e,he,rfl⟩:=Option.map_eq_some_iff.mp hy
  have me:=qN he
  have h1:=hi.2 i a (pr e) ha (by rw [lW,he];rfl)
  obtain ⟨h2,h3⟩:=hL.2 e me
  refine .inr (.inl ⟨a,e.q,_,_,rfl,rfl,h1,h2,rfl,by simp,fun j x y hx hy=>?_⟩)
  match j,hx,hy with
  | 0,hx,hy =>
   have ex:x=V.int e.n:=by simpa [pr] using hx.symm
   have ey:y=V.int e.n:=by simpa using hy.symm
   subst ex;subst ey
   exact .inl ⟨rfl,rfl⟩
  | 1,hx,hy =>
   have ex:x=V.ref e.p:=by simpa [pr] using hx.symm
   have ey:y=V.ref e.p:=by simpa using hy.symm
   subst ex;subst ey
   exact xT h3 (hg e me)
  | j+2,hx,hy=>simp at hx
def Vc (C:Addr):Sp:=fun vs H Q _=>∃ (x dx st d e l:Addr) (n k:Int) (kvs:List (Int×V)) (rs ls:List V) (m en b a:Addr) (fr:Nat) (es:List Ent) (bs as:List kZ),vs=[.ref x,.ref m]/\cu C H x dx st d e l n k (fr:Int) kvs rs ls/\gM H m en b a fr es bs as /\
 kvs.Perm (es.map pr)/\es.Pairwise (fun x y=>x.n<y.n)/\es.length<64/\(∀ e∈es,dw e.r)/\∀ H',Same H H'->Q (.bl true) H'
theorem scIs:aY ["_law_roll", "_law_model"] ["_law_roll", "_law_model"] (aA Gn):=⟨rfl,rfl,rfl,by decide +kernel,rfl,by decide +kernel,by decide +kernel⟩
theorem YQ (T:iK K C) (F:iC K "_law_roll_is" "_law_roll_is" Gn f fd) (Qa:mg "list"=none)  (G1:bf P w K mg base dj 4 g1 d1 ["_law_found", "_law_due"] (sH 4)) (M1:Ms K mg "_law_same" g1 d1 ["_law_found", "_law_due"])
  {k2 k3:Nat} (h2:k2<=4) (h3:k3<=4) (G2:bf P w K mg base dj k2 g2 d2 ["self"] (DW C)) (m2:Meth K C "rows" g2) (b2:Binds K d2 ["self"] []) (G3:bf P w K mg base dj k3 g3 d3 ["self"] (Rp C)) (m3:Meth K C "free" g3) (b3:Binds K d3 ["self"] []):bf P w K mg base dj 5 f fd ["_law_roll", "_law_model"] (Vc C):=by
 refine F.ok scIs (fun vs H Q E h=>?_) (fun cdv A outer s H vs Q E hr h=>?_)
 ·obtain ⟨x,dx,st,d,e,l,n,k,kvs,rs,ls,m,en,b,a,fr,es,bs,as,rfl,_⟩:=h
  rfl
 obtain ⟨x,dx,st,d,e,l,n,k,kvs,rs,ls,m,en,b,a,fr,es,bs,as,rfl,R,B,hp,hup,hl,hg,kk⟩:=h
 have hr2:cM k2 _:=hr.mono h2
 have Rm:cM k3 _:=hr.mono h3
 refine tW.out ⟨_,aZ (bM ⟨jm (bF G1 hr rfl M1.m M1.k M1.b .nil bW (aj (nj (E:=E0) (pv 0) T.cl m2 G2 hr2 b2 .nil bW) (aj (bT dM rfl Qa gj (aj (cG (u1 hr) (pv 1) aG (fun _ _=>rfl)) aq)) aq)))
  (jL (bF G1 hr rfl M1.m M1.k M1.b .nil bW (aj (nj (E:=E0) (pv 0) T.cl m3 G3 Rm b3 .nil bW) (aj (cG (u1 hr) (pv 1) aG (fun _ _=>rfl)) aq))))⟩),?_⟩
 have hkl:kvs.length<64:=by have:=hp.length_eq;rw [bR] at this;lia
 refine ⟨_,rfl,x,dx,_,rfl,R.o,rfl,x,dx,st,d,e,l,n,k,_,kvs,rs,ls,rfl,R,hkl,fun q as' ys H1 s1 hq0 hq1 hperm hys hit=>?_⟩
 have B1:=B.same s1
 refine ⟨_,rfl,m,_,rfl,B1.gE,en,_,rfl,.inl (bD.of B1.en.1),fun L hL=>?_⟩
 have s2:=ao hL (.lst (es.map fun e=>V.ref e.q))
 have L2v:(upd H1 L (.lst (es.map fun e=>V.ref e.q))) L=some (.lst (es.map fun e=>V.ref e.q)):=ak
 generalize upd H1 L (.lst (es.map fun e=>V.ref e.q))=H2 at s2 L2v ⊢
 have eys:ys=es.map pr:=Qi (hperm.trans hp) hys (by rw [List.pairwise_map];exact hup)
 subst eys
 have it2:Items H2 as' (es.map pr):=⟨hit.1,fun j a y h1 h2=>s2 _ _ (hit.2 j a y h1 h2)⟩
 have B2:=B1.same s2
 refine ⟨_,_,rfl,Ma (n:=0) (s2 _ _ hq1) it2 ⟨L2v,B2.en.2⟩ hg (by lia),fun H3 s3=>?_⟩
 have g3:=(show Same H H1 from s1).trans (s2.trans s3)
 have R3:=R.same g3
 refine ⟨_,rfl,bO ?_⟩
 refine ⟨_,rfl,x,dx,_,rfl,R3.o,rfl,x,dx,st,d,e,l,n,k,_,kvs,rs,ls,rfl,R3,?_⟩
 exact ⟨_,rfl,m,_,rfl,(B2.same s3).gF,_,_,rfl,.inl ⟨rfl,rfl⟩,fun H4 s4=>kk H4 (g3.trans s4)⟩
end M
namespace L2
open PySem PySem.Spec PyProof.Rows
def rEqS (K:PySem.W.Frag):R2:=fun x y H Q=>∃ (a b:Addr) (as:List Addr),x=.ref a/\y=.ref b/\bD K H a (as.map V.ref)/\bD K H b (as.map V.ref)/\Q (.bl true) H
theorem Vd (hu:X.A.units<cLine):jC X (compareOp .Eq) (rEqS X.K):=by
 intro pins s σ H x y v u Q I rx ry h
 obtain ⟨a,b,as,rfl,rfl,ha,hb,q⟩:=h
 cases rx
 cases ry
 obtain ⟨its,r1,p1,_⟩:=I.list ha
 obtain ⟨its2,r2,p2,_⟩:=I.list hb
 have e1:=lE r1
 have e2:=lE r2
 subst e1;subst e2
 refine SeqAt.eq_listAt (e:=fun _=>true) p1.isList p2.isList rfl hu (fun j h1 h2=>SeqAt.EqAt.same _) ?_
 have:(List.range (as.map Value.ref).toArray.size).all (fun _=>true)=true:=by simp
 rw [this]
 exact ⟨.bl true,H,I,rfl,q⟩
end L2
namespace M
open PySem L2 PyProof.Rows
def GZ (C CF CN CT CH:Addr) (K:PySem.W.Frag) (x t:Addr) (H:Hp) (Q:VK) (E:XK):Tn->Prop
 | .en p _=>xH C CF CT K [.ref x,.ref p] H Q E
 | .st n=>tG C CN [.ref x,.int n] H Q E
 | .co n p _=>oZ C CF CN CT K [.ref x,.int n,.ref p] H Q E
 | .ba=>Bt C CH [.ref x] H Q E
 | .ag=>xK C CH [.ref x] H Q E
 | .al l ps _=>H l=some (.lst (ps.map V.ref))/\∀ h,H h=none->∀ Q1:VK,(∀ q ns H1,H1 q=some (.lst ns)->ns.length<=1000->q≠h->H1 h=some (.lst (ps.map V.ref))->H1 l=some (.lst (ps.map V.ref))->H1 t=some (.tup [.str "all",.ref l]) ->
   (∀ k,H1 k=none->Q (.ref k) (upd (upd (upd H1 k (.lst ns)) h (.lst [])) q (.lst (ns++[.int 0]))))->Q1 (.ref q) H1)->jz C CF CT K [.ref x,.ref h] (upd H h (.lst (ps.map V.ref))) Q1 E
def YS (C CF CN CT CH:Addr) (K:PySem.W.Frag):Sp:=fun vs H Q E=>∃ (x dx t st e l:Addr) (n m:Int) (T:Tn),vs=[.ref x,.ref t]/\H x=some (.ins C dx (FR n m st e l))/\H t=some (.tup T.vs)/\GZ C CF CN CT CH K x t H Q E T
theorem Qj:aY ["_law_roll", "_law_turn_here", "_law_handed", "_law_told_here", "_law_kept"] ["_law_roll", "_law_turn_here"] (aA Gm):=⟨rfl,rfl,rfl,by decide +kernel,rfl,by decide +kernel,by decide +kernel⟩
theorem YT (T0:iK K C) (F:iC K "_law_roll_do" "_law_roll_do" Gm f fd) (Qa:mg "list"=none) {g6:Addr}{d6:FuncData}
  (G1:bf P w K mg base (gZ P w) 6 g1 d1 ["self", "row"] (xH C CF CT K)) (m1:Meth K C "enter" g1) (b1:Binds K d1 ["self", "row"] [])
  (G2:bf P w K mg base (gZ P w) 5 g2 d2 ["self", "rows"] (jz C CF CT K)) (m2:Meth K C "enter_all" g2) (b2:Binds K d2 ["self", "rows"] [])
  (G3:bf P w K mg base (gZ P w) 2 g3 d3 ["self", "number"] (tG C CN)) (m3:Meth K C "strike" g3) (b3:Binds K d3 ["self", "number"] [])
  (G4:bf P w K mg base (gZ P w) 5 g4 d4 ["self", "number", "row"] (oZ C CF CN CT K)) (m4:Meth K C "correct" g4) (b4:Binds K d4 ["self", "number", "row"] [])
  (G5:bf P w K mg base (gZ P w) 1 g5 d5 ["self"] (Bt C CH)) (m5:Meth K C "back" g5) (b5:Binds K d5 ["self"] [])
  (G6:bf P w K mg base (gZ P w) 1 g6 d6 ["self"] (xK C CH)) (m6:Meth K C "again" g6) (b6:Binds K d6 ["self"] []):bf P w K mg base (gZ P w) 7 f fd ["_law_roll", "_law_turn_here"] (YS C CF CN CT CH K):=by
 obtain ⟨oc,od,kV,doc,pm,an,cdv,ct,osl,rfl,lk,hcd⟩:=F.ex
 refine jO lk hcd Qj (fun vs H Q E h=>?_) fun A outer s H vs Q E hr h=>?_
 ·obtain ⟨x,dx,t,st,e,l,n,m,T,rfl,_⟩:=h
  rfl
 obtain ⟨x,dx,t,st,e0,l0,n0,m0,T,rfl,hx,ht,k⟩:=h
 have YW:cM 5 _:=hr.mono (by decide)
 have hr2:cM 2 _:=hr.mono (by decide)
 have hr1:cM 1 _:=hr.mono (by decide)
 refine tW.out ⟨_,aH (cQ (aL bZ (aM bh (pv 1) au aU) aG (aX _)) (aZ (bM ⟨fX (CX:=gZ P w) (E:=E) (pv 0) T0.cl m1 G1 hr b1 .nil dN (aj (aM bh (pv 1) au aU) aq)⟩)) bN)
  (aH (cQ (aL bZ (aM bh (pv 1) au aU) aG (aX _))
   (aH (cD (i:=2) Qj.nd rfl (Or.inl rfl) ⟨bT dM rfl Qa gj (aj (aM bh (pv 1) au aU) aq)⟩)
   (aH (cD (i:=3) Qj.nd rfl (Or.inl rfl) ⟨fX (CX:=gZ P w) (E:=E) (pv 0) T0.cl m2 G2 YW b2 .nil dN (aj (pv 2) aq)⟩)
   (aH (cD (i:=4) Qj.nd rfl (Or.inl rfl) ⟨Hv (aL (Vd (u0 hr.units)) (pv 2) (aM bh (pv 1) au aU) (aX _)) (bT dM rfl Qa gj (aj (pv 3) aq)) aG⟩)
   (aH ⟨cg (rB (name:="clear") PySem.F.plainAttrs_list PySem.F.slot_list_clear PySem.F.type_list_clear Im (pv 2))⟩
   (aH ⟨cg (iH PySem.F.plainAttrs_list PySem.F.slot_list_append PySem.F.type_list_append cL (pv 3) (aj au aq))⟩
   (aZ (bM (wv 4)))))))) bN)
  (aH (cQ (aL bZ (aM bh (pv 1) au aU) aG (aX _)) (aZ (bM ⟨fX (CX:=gZ P w) (E:=E) (pv 0) T0.cl m3 G3 hr2 b3 .nil dN (aj (aM bh (pv 1) au aU) aq)⟩)) bN)
  (aH (cQ (aL bZ (aM bh (pv 1) au aU) aG (aX _)) (aZ (bM ⟨fX (CX:=gZ P w) (E:=E) (pv 0) T0.cl m4 G4 YW b4 .nil dN (aj (aM bh (pv 1) au aU) (aj (aM bh (pv 1) au aU) aq))⟩)) bN)
  (aH (cQ (aL bZ (aM bh (pv 1) au aU) aG (aX _)) (aZ (bM ⟨nj (CX:=gZ P w) (E:=E) (pv 0) T0.cl m5 G5 hr1 b5 .nil dN⟩)) bN)
  (aZ (bM ⟨nj (CX:=gZ P w) (E:=E) (pv 0) T0.cl m6 G6 hr1 b6 .nil dN⟩)))))),?_⟩
 refine ⟨_,rfl,t,_,_,_,rfl,rfl,bG.of ht,T.v0,rfl,_,rfl,?_⟩
 cases T with
 | en p r=>exact bO ⟨_,rfl,x,dx,_,rfl,hx,rfl,_,rfl,t,_,_,_,rfl,rfl,bG.of ht,bH (j:=1) rfl,k⟩
 | al l ps rs =>
  refine aK ⟨_,rfl,t,_,_,_,rfl,rfl,bG.of ht,at0 _ _,rfl,_,rfl,bO ?_⟩
  obtain ⟨hl,k⟩:=k
  refine ⟨_,rfl,t,_,_,_,rfl,rfl,bG.of ht,bH (j:=1) rfl,l,_,rfl,.inl (bD.of hl),fun h hh=>?_⟩
  have x1:=(ao hh (.lst (ps.map V.ref))) _ _ hx
  refine ⟨_,rfl,x,dx,_,rfl,x1,rfl,_,rfl,?_⟩
  dsimp only [oA,List.cons_append,List.nil_append]
  refine k h hh _ fun q ns H1 hq hn nqh hh1 hl1 ht1 kq=>?_
  refine ⟨_,rfl,_,rfl,t,_,_,_,rfl,rfl,bG.of ht1,bH (j:=1) rfl,h,l,ps,rfl,rfl,bD.of hh1,bD.of hl1,_,rfl,bO ?_⟩
  refine ⟨_,rfl,q,_,rfl,.inl (bD.of hq),fun k2 hk2=>?_⟩
  have s2:=ao hk2 (.lst ns)
  have h2:=s2 _ _ hh1
  have q2:=s2 _ _ hq
  have fin:=kq k2 hk2
  generalize upd H1 k2 (.lst ns)=H2 at s2 h2 q2 fin ⊢
  refine ⟨_,rfl,.inl ⟨rfl,_,bD.of h2⟩,h,_,rfl,rfl,h2,?_⟩
  have q3:(upd H2 h (.lst [])) q=some (.lst ns):=by rw [aC nqh];exact q2
  refine ⟨_,rfl,.inl ⟨rfl,_,bD.of q3⟩,q,_,_,rfl,rfl,q3,cj (by lia),?_⟩
  exact ⟨_,rfl,fin⟩
 | st n=>exact aK ⟨_,rfl,t,_,_,_,rfl,rfl,bG.of ht,at0 _ _,rfl,_,rfl,aK ⟨_,rfl,t,_,_,_,rfl,rfl,bG.of ht,at0 _ _,rfl,_,rfl,bO ⟨_,rfl,x,dx,_,rfl,hx,rfl,_,rfl,t,_,_,_,rfl,rfl,bG.of ht,bH (j:=1) rfl,k⟩⟩⟩
 | co n p r=>exact aK ⟨_,rfl,t,_,_,_,rfl,rfl,bG.of ht,at0 _ _,rfl,_,rfl,aK ⟨_,rfl,t,_,_,_,rfl,rfl,bG.of ht,at0 _ _,rfl,_,rfl,aK ⟨_,rfl,t,_,_,_,rfl,rfl,bG.of ht,at0 _ _,rfl,_,rfl,bO ⟨_,rfl,x,dx,_,rfl,hx,rfl,_,rfl,t,_,_,_,rfl,rfl,bG.of ht,bH (j:=1) rfl,_,rfl,t,_,_,_,rfl,rfl,bG.of ht,bH (j:=2) rfl,k⟩⟩⟩⟩
 | ba=>exact aK ⟨_,rfl,t,_,_,_,rfl,rfl,bG.of ht,at0 _ _,rfl,_,rfl,aK ⟨_,rfl,t,_,_,_,rfl,rfl,bG.of ht,at0 _ _,rfl,_,rfl,aK ⟨_,rfl,t,_,_,_,rfl,rfl,bG.of ht,at0 _ _,rfl,_,rfl,aK ⟨_,rfl,t,_,_,_,rfl,rfl,bG.of ht,at0 _ _,rfl,_,rfl,bO ⟨_,rfl,x,dx,_,rfl,hx,rfl,k⟩⟩⟩⟩⟩
 | ag=>exact aK ⟨_,rfl,t,_,_,_,rfl,rfl,bG.of ht,at0 _ _,rfl,_,rfl,aK ⟨_,rfl,t,_,_,_,rfl,rfl,bG.of ht,at0 _ _,rfl,_,rfl,aK ⟨_,rfl,t,_,_,_,rfl,rfl,bG.of ht,at0 _ _,rfl,_,rfl,aK ⟨_,rfl,t,_,_,_,rfl,rfl,bG.of ht,at0 _ _,rfl,_,rfl,aK ⟨_,rfl,x,dx,_,rfl,hx,rfl,k⟩⟩⟩⟩⟩
end M
namespace L2
open PySem PySem.Spec PySem.W PySem.Calls PyProof.Rows
theorem Hf:typeLookup (.type "list") "keys"=pure none:=am_miss_of_fast (by decide +kernel)
theorem vB:entryFor table "dict.update.loop"=some Builtin.«dict.update.loop»:=entryFor_of_tree (by kernel_rfl)
theorem lO:plainId "dict.update.loop"=true:=by decide +kernel
theorem Hg {xs:Array Value}{k:Nat}{Q:Option Value->Shared->Prop}
  (hx:s.heap.get? a=some o) (hc:o.cls=.type "list") (hdat:o.data=.seq xs k) (hd:o.dict=none) (hA:A.handled=none)
  (h:∀ h' tk e,Heap.NewExcOf s.heap h' e "AttributeError"->Q none { s with heap:=h',toks:=tk }) :
  wpAny (model prog w) A (getAttr? (.ref a) "keys") Q E s:=by
 obtain ⟨c,dct,dat,sl⟩:=o
 simp only at hc hdat hd
 subst hc hdat hd
 obtain ⟨hp,g,d,tk,os⟩:=s
 have hT:∀ tk',(⟨hp,g,d,tk',os⟩:Shared).TypeIs (.ref a) "list":=fun _=>⟨_,hx,rfl⟩
 have f1:=sub_AttributeError
 have f3:=PySem.F.slot_list_getattribute.lookup
 have f4:=PySem.F.slot_list_getattribute.bind (.ref a)
 have f5:=am_list_getattr_none
 unfold getAttr? getAttrBy? getAttrBy
 repeat (any_goals (first | assumption | exact hT _ | ((with_reducible show wpAny _ _ (call (Value.builtin "list.__getattribute__") _ _) _ _ _);refine call_meets PySem.F.slot_list_getattribute (hT _) am_entry_list_getattribute (PySem.F.args_list_getattribute_2 _ _) (meets_getattribute_miss_list a xs k sl "keys" _ Hf (by decide +kernel) (by decide +kernel)) ⟨hx,hA,fun h' tk' e hx'=>?_⟩) | wp_step))
 obtain ⟨t',u',he⟩:=hx'.there
 show wpAny _ _ (getattributeRaised _ _ _ _ _ _ _) _ _ _
 unfold getattributeRaised
 repeat (any_goals (first | assumption | wp_step))
 exact h _ _ _ hx'.of
def iM {K:Type} [DecidableEq K] (knd:KeyKind prog w K) (h:Heap) (its:List Value) (ps:List (K×Value)):Prop :=
 its.length=ps.length/\∀ (i:Nat) v,its[i]?=some v->∃ k u b key o n,ps[i]?=some (k,u)/\v=Value.ref b/\h.get? b=some o/\o.cls=.type "tuple"/\o.data=.seq #[key,u] n/\knd.is k key=true
theorem iM.at {K:Type} [DecidableEq K] {knd:KeyKind prog w K}{ps:List (K×Value)} (x:iM knd h its ps) (k:∀ b o,h.get? b=some o->o.cls=.type "tuple"->h'.get? b=some o):iM knd h' its ps :=
 ⟨x.1,fun i v hv=>by
  obtain ⟨kk,u,b,key,o,n,h1,h2,h3,h4,h5⟩:=x.2 i v hv
  exact ⟨kk,u,b,key,o,n,h1,h2,k b o h3 h4,h4,h5⟩⟩
theorem BL {K:Type} [DecidableEq K] (kvs:List (K×Value)) (k:K) (v:Value):(stored kvs k v).length<=kvs.length+1:=by
 unfold stored
 split <;> simp
section
variable {K:Type} [DecidableEq K] {knd:KeyKind prog w K}
theorem pair_items {key:Value}{Q:List Value->Shared->Prop} (hb:s.heap.get? b=some o) (hc:o.cls=.type "tuple") (hd:o.data=.seq #[key,u] n) (h:Q [key,u] s):wpAny (model prog w) A (Builtin.Dict.pairItems (.ref b)) Q E s:=by
 obtain ⟨c,dct,dat,sl⟩:=o
 simp only at hc hd
 subst hc hd
 obtain ⟨hp,g,d,tk,os⟩:=s
 have hT:(⟨hp,g,d,tk,os⟩:Shared).TypeIs (.ref b) "tuple":=⟨_,hb,rfl⟩
 unfold Builtin.Dict.pairItems
 repeat (any_goals (first | assumption | wp_step))
variable {R:Result->Shared->Prop}{I:Addr}{wr:List Addr}{G:Array GenState->Array GenState->Prop}{P:Nat->Value->Prop}{St:Nat->Shared->Prop}
theorem BP (W:WalksS prog w A.in1 I fp wr G n P St) (S:Addr) (hSf:S∉fp) (its:List Value) (l:List (K×Value)) (hn:l.length=n) (hval:∀ i v,P i v->its[i]?=some v) (hb:n<=1000)
  (hwr:∀ (s:Shared) (i:Nat),St i s->∀ b∈wr,∃ o,s.heap.get? b=some o/\o.cls≠.type "tuple") :
  ∀ (k i:Nat) (j:Int) (t:Tok) (s:Shared) (acc:List (K×Value)),n - i=k->i<=n->acc.length<=i->St i s->s.heap.DictOf knd S acc->iM knd s.heap its l->(∀ s',Moved (S::wr) G s s'->s'.heap.DictOf knd S ((l.drop i).foldl (fun a p=>stored a p.1 p.2) acc)->R (.ok (.ret .none)) s') ->
   codeAny (model prog w) A (.builtin "dict.update.loop" ⟨[.ref S,.ref I,.int j t,.none],[]⟩) R s:=by
 have hSw:S∉wr:=fun h=>hSf (W.sub _ h)
 have sub:∀ b∈wr,b∈S::wr:=fun b hb=>mD _ hb
 intro k
 induction k with
 | zero =>
  intro i j t s acc hk hi ha st hS hT hR
  have hin:i=n:=by lia
  subst hin
  refine codeAny_builtin vB ?_
  rw [Around.under_plainId lO _]
  show wpAny _ A.in1 (pyNext (.ref I) >>= _) _ _ s
  refine wpAny_bind (W.done s _ _ st fun s' hm=>?_)
  rw [<- hn,List.drop_length] at hR
  have hS':s'.heap.DictOf knd S acc:=by
   obtain ⟨o,es,ep,ho,r⟩:=hS
   exact ⟨o,es,ep,hm.heap _ _ hSw ho,r⟩
  exact wpAny_bind (wpAny_pure (wpAny_pure (hR s' (hm.mono sub) hS')))
 | succ k ih =>
  intro i j t s acc hk hi ha st hS hT hR
  have hlt:i<n:=by lia
  refine codeAny_builtin vB ?_
  rw [Around.under_plainId lO _]
  show wpAny _ A.in1 (pyNext (.ref I) >>= _) _ _ s
  refine wpAny_bind (W.item i s _ _ hlt st fun v s' hP st' hm=>?_)
  have hS':s'.heap.DictOf knd S acc:=by
   obtain ⟨o,es,ep,ho,r⟩:=hS
   exact ⟨o,es,ep,hm.heap _ _ hSw ho,r⟩
  have hT':iM knd s'.heap its l:=hT.at fun b o hbo hc=>by
   refine hm.heap b _ (fun hbw=>?_) hbo
   obtain ⟨o',ho',hne⟩:=hwr s i st b hbw
   rw [hbo] at ho'
   injection ho' with ho'
   exact hne (by rw [<- ho'];exact hc)
  obtain ⟨kx,ux,bx,key,ob,nb,hk1,rfl,hk2,hk3,hk4,hk5⟩:=hT'.2 i v (hval i v hP)
  show wpAny _ A.in1 (holding [Value.ref bx] _ >>= _) _ _ s'
  refine wpAny_bind (wpAny_holding (wpAny_bind (wpAny_tryCatch (pair_items hk2 hk3 hk4 ?_))))
  refine wpAny_holding (wpAny_dictSet_pairs hk5 hS' (fun h' hD sb=>?_) ?hsz)
  case hsz=>exact Nat.le_trans ha (Nat.le_trans (Nat.le_of_lt hlt) (Nat.le_trans hb (by decide +kernel)))
  have eI:l.drop i=(kx,ux)::l.drop (i+1):=by
   have hi':i<l.length:=by lia
   rw [List.drop_eq_getElem_cons hi']
   rw [dI hi'] at hk1
   injection hk1 with hk1
   rw [hk1]
  rw [eI,List.foldl_cons] at hR
  have UJ:iM knd h' its l:=hT'.at fun b o hbo hc=>by
   have hne:b≠S:=fun e=>by
    subst e
    obtain ⟨oS,es,ep,hoS,hcS,r⟩:=hS'
    rw [hoS] at hbo
    injection hbo with hbo
    rw [<- hbo,hcS.1] at hc
    injection hc with hc
    exact absurd hc (by decide)
   exact sb.extBut _ _ hne hbo
  refine wpAny_pure ⟨plainId_quiet lO _,ih (i+1) _ _ _ _ (by lia) hlt (Nat.le_trans (BL ..) (by lia)) (W.frame _ s' _ _ st' (Nat.le_add_right _ _) fun b hb o e=>?_) hD UJ fun s2 hm2 hS2=>?_⟩
  ·rw [sb.2 b (fun h:b=S=>hSf (by rw [<- h];exact hb))];exact e
  ·refine hR s2 (Moved.trans W.gtrans ((hm.mono sub).then_heap (Nat.le_add_right _ _) fun b o hb e=>?_) hm2) hS2
   rw [sb.2 b (fun h:b=S=>hb (by rw [h];exact List.mem_cons_self))];exact e
set_option maxRecDepth 100000 in
theorem BR {o:Addr}{l:List (K×Value)} (hh:A.handled=none) (hl:PlainL s.heap o its.toArray) (hi:iM knd s.heap its l) (hb:l.length<=1000)
  (h:∀ (h':Heap) (tk:Nat),h'.DictOf knd s.heap.objs.size (l.foldl (fun a p=>stored a p.1 p.2) [])->(∀ b o,s.heap.get? b=some o->h'.get? b=some o)->Q (.ref s.heap.objs.size) { s with heap:=h',toks:=tk }) :
  wpAny (model prog w) A (call (.type "dict") [.ref o]) Q E s:=by
 refine callType_codes (Q₁:=fun obj s₁=>obj=.ref s.heap.objs.size/\s₁={ s with heap:=s.heap.push { cls:=.type "dict",data:=.dict #[] } }) PySem.F.kt_called_dict (PySem.F.kt_typeCall_dict_1 _) PySem.F.entry_dict_init (kt_code_dict_new _ ⟨rfl,rfl⟩) ?_
 rintro obj s₁ ⟨rfl,rfl⟩
 have hnew:(s.heap.push { cls:=.type "dict",data:=.dict #[] }).DictOf knd s.heap.objs.size []:=Heap.DictOf.new s.heap
 obtain ⟨ol,nl,hol,hc,hd,hs⟩:=hl
 have hol':(s.heap.push { cls:=.type "dict",data:=.dict #[] }).get? o=some ol:=Heap.get?_push_of_some _ hol
 have hT:Shared.TypeIs { s with heap:=s.heap.push { cls:=.type "dict",data:=.dict #[] } } (.ref o) "list":=⟨_,hol',hc⟩
 refine ⟨hnew.typeIs,PySem.F.args_dict_init_2 _ _,?_⟩
 unfold Builtin.«dict.__init__»
 refine wpAny_bind ?_
 unfold Builtin.Dict.selfAndRest
 refine wpAny_bind (wpAny_notOrdered_dict hnew.typeIs ?_)
 show wpAny _ _ (pure (s.heap.objs.size,[Value.ref o])) _ _ _
 refine wpAny_pure ?_
 show wpAny _ _ (Builtin.Dict.updateFrom "dict.__init__" s.heap.objs.size (.ref o) [] .none) _ _ _
 unfold Builtin.Dict.updateFrom
 refine wpAny_bind (wpAny_typeOf hT ?_)
 rw [if_pos (by decide)]
 refine wpAny_bind (Hg hol' hc hs hd (by simp [hh]) fun h' tk e hx=>?_)
 rw [if_pos (show (none:Option Value).isNone=true from rfl)]
 have RQ:h'.DictOf knd s.heap.objs.size []:=by
  obtain ⟨o,es,ep,ho,r⟩:=hnew
  exact ⟨o,es,ep,hx.keeps _ _ ho,r⟩
 have hl1:h'.IsList o its.toArray:=⟨_,hx.keeps _ _ hol',hc,nl,hs⟩
 refine wpAny_bind (wpAny_rule (wpAny_bind (wpAny_pyIter_list hl1 ?_)))
 have lS:o<s.heap.objs.size:=Heap.lt_size hol
 have sS:s.heap.objs.size<h'.objs.size:=by
  obtain ⟨o,es,ep,ho,r⟩:=RQ
  exact Heap.lt_size ho
 have ne_:o≠h'.objs.size:=Nat.ne_of_lt (Nat.lt_trans lS sS)
 have h3:A.in1.in1.handled=none:=by simp [hh]
 have nS:s.heap.objs.size∉[h'.objs.size,o]:=by
  simp only [List.mem_cons,List.mem_singleton,List.not_mem_nil,or_false,not_or]
  exact ⟨Nat.ne_of_lt sS,Nat.ne_of_gt lS⟩
 have hz:its.length=l.length:=hi.1
 refine wpAny_pure ⟨plainId_quiet lO _,?_⟩
 refine BP (knd:=knd) (l:=l) ((Walks.list h3 _ o ne_ its.toArray).toS) s.heap.objs.size nS its (by simp [hz]) (fun i v hv=>by simpa using hv) (by simpa [hz] using hb) ?hwr _ 0 _ _ _ [] rfl (Nat.zero_le _) (Nat.le_refl _) ⟨⟨_,Heap.get?_push_size _ rfl,rfl,rfl⟩,(hl1.push _)⟩ (RQ.push _) (hi.at fun b o hbo _=>Heap.get?_push_of_some _ (hx.keeps _ _ (Heap.get?_push_of_some _ hbo))) ?hR
 case hwr =>
  intro s' i st b hb
  obtain ⟨⟨o,ho,hc,_⟩,_⟩:=st
  rw [List.mem_singleton.mp hb]
  refine ⟨o,ho,fun e=>?_⟩
  rw [hc] at e
  injection e with e
  exact absurd e (by decide)
 case hR =>
  intro s' hm hS'
  obtain ⟨h2,g',d',tk',os'⟩:=s'
  have eg:g'=s.gens:=hm.gens
  have ed:d'=s.drawn:=hm.drawn
  have eo:os'=s.os:=hm.os
  subst eg;subst ed;subst eo
  refine ⟨rfl,h h2 tk' hS' fun b o e=>?_⟩
  have hlt:=Heap.lt_size e
  have b1:b≠s.heap.objs.size:=Nat.ne_of_lt hlt
  have b2:b≠h'.objs.size:=Nat.ne_of_lt (Nat.lt_trans hlt sS)
  exact hm.heap b o (by simp only [List.mem_cons,List.mem_singleton,List.not_mem_nil,or_false,not_or];exact ⟨b1,b2⟩) (Heap.get?_push_of_some _ (hx.keeps _ _ (Heap.get?_push_of_some _ e)))
end
def Ve (K:PySem.W.Frag):List V->Hp->VK->Prop:=fun xs H Q=>∃ (p:Addr) (as:List Addr) (ps:List (Key×V)),xs=[.ref p]/\bD K H p (as.map V.ref)/\Paired (fun a q=>H a=some (.tup [kV q.1,q.2])) as ps/\ps.length<=1000/\∀ l,H l=none->Q (.ref l) (upd H l (.dK (dR [] ps)))
theorem Mf {ps:List (Key×V)} (ok:jG P w H h) (hP:Paired (fun a q=>H a=some (.tup [kV q.1,q.2])) as ps):∃ rs,iM (bJ P w) h (as.map Value.ref) rs/\KV ps rs:=by
 induction hP with
 | nil=>exact ⟨[],⟨rfl,fun i v hv=>by simp at hv⟩,.nil⟩
 | @cons a q as ps ha t ih =>
  obtain ⟨rs,⟨i1,i2⟩,r⟩:=ih
  obtain ⟨z,its,rv,⟨o,ho,hc,n,hd⟩⟩:=Rd.ok (.inl ha) ok
  cases rv with
  | cons hk rv =>
   cases rv with
   | cons hv rv =>
    cases rv
    refine ⟨(q.1,_)::rs,⟨by rw [List.map_cons,jK,jK,i1],fun i v hv'=>?_⟩,.cons ⟨rfl,hv⟩ r⟩
    cases i with
    | zero =>
     rw [List.map_cons,List.getElem?_cons_zero] at hv'
     injection hv' with hv'
     exact ⟨_,_,_,_,o,n,rfl,hv'.symm,ho,hc,hd,pJ hk⟩
    | succ j =>
     rw [List.map_cons,List.getElem?_cons_succ] at hv'
     obtain ⟨k,u,b,key,o',n',h1,h2⟩:=i2 j v hv'
     exact ⟨k,u,b,key,o',n',by rw [List.getElem?_cons_succ];exact h1,h2⟩
theorem BW (hin:X.A.handled=none):dB X (.type "dict") (Ve X.K):=by
 intro pins s σ H xs us Q I r h
 obtain ⟨p,as,ps,rfl,hq,hP,hl,q⟩:=h
 obtain ⟨u,rfl,ru⟩:=vals1 r
 cases ru
 obtain ⟨its,rv,pl,hz⟩:=I.list hq
 have Ju:=lE rv
 subst Ju
 obtain ⟨rs,hT,rel⟩:=Mf I.hok hP
 have low:(s.heap.objs.size==sysModules)=false:=by
  obtain ⟨m,F⟩:=I.fr
  have h1:sysModules<X.base.objs.size:=modules_low I.mod.nolimit
  have h2:X.base.objs.size<=X.env.locals:=F.above
  have h3:X.env.locals<s.heap.objs.size:=F.ns.lt
  exact beq_eq_false_iff_ne.mpr (Nat.ne_of_gt (Nat.lt_trans (Nat.lt_of_lt_of_le h1 h2) h3))
 refine BR (knd:=bJ X.prog X.w) hin pl hT (by rw [<- rel.length];exact hl) fun h' tk hS hk=>?_
 have hm:=KV.merge rel (.nil:KV ([]:List (Key×V)) [])
 have h0:(dR [] ps).length<=sizeLine:=by
  have:=iU ps []
  exact Nat.le_trans this (Nat.le_trans (by simpa using hl) (by decide +kernel))
 exact ⟨.ref s.heap.objs.size,_,I.laid (o:=.dK (dR [] ps)) (t':=tk) hk (Nat.le_refl _) ⟨h0,low,_,hm,hS⟩,rfl,q _ (I.hok.fresh (Nat.le_refl _))⟩
end L2
namespace M
open PySem L2 PyProof.Rows
theorem zN:∀ {l acc:List (Int×V)},(acc++l).Pairwise (fun x y=>x.1<y.1)->dR (eY acc) (eY l)=eY (acc++l)
 | [],acc,_=>by rw [List.append_nil];rfl
 | p::l,acc,h=>by
  have h0:∀ q∈acc,q.1<p.1:=fun q hq=>(List.pairwise_append.mp h).2.2 q hq p (List.mem_cons_self ..)
  have e:dR (eY acc) (eY (p::l))=dR (putK (eY acc) (.inl p.1) p.2) (eY l):=rfl
  rw [e,Ei h0]
  have e2:acc++p::l=(acc++[p])++l:=by simp
  rw [e2] at h ⊢
  exact zN h
theorem Qk {l:List (Int×V)}{n:Int} (h:l.Pairwise (fun x y=>x.1<y.1)) (hm:(n,v)∈l):fP l n=some v:=by
 induction l with
 | nil=>cases hm
 | cons p l ih =>
  unfold fP
  rcases List.mem_cons.mp hm with e | hm'
  ·rw [<- e,List.find?_cons_of_pos (by simp)];rfl
  ·have h1:=(List.pairwise_cons.mp h).1 _ hm'
   rw [List.find?_cons_of_neg (by simp;lia)]
   exact ih (List.pairwise_cons.mp h).2 hm'
def RT (fr:Nat) (es:List Ent) (H:Hp) (Q:VK):Tn->Prop
 | .en _ _=>∀ H',Same H H'->Q (.int (fr:Int)) H'
 | .al _ ps _=>∀ q H',Same H H'->H' q=some (.lst (nums fr ps.length))->Q (.ref q) H'
 | .st n=>∃ e∈es,e.n=n/\∀ H',Same H H'->Q (.ref e.p) H'
 | .co n _ _=>∃ e∈es,e.n=n/\∀ H',Same H H'->Q (.ref e.p) H'
 | .ba=>∀ H',Same H H'->Q .non H'
 | .ag=>∀ H',Same H H'->Q .non H'
def Mg:Sp:=fun vs H Q _=>∃ (m t en b a:Addr) (fr:Nat) (es:List Ent) (bs as:List kZ) (T:Tn) (pool:List (List V)),vs=[.ref m,.ref t]/\gM H m en b a fr es bs as/\es.length<=900/\H t=some (.tup T.vs)/\T.At pool H/\es.Pairwise (fun x y=>x.n<y.n)/\RT fr es H Q T
abbrev nTo:List Str:=["_law_model", "_law_turn_here", "_law_old"]
theorem YX:aY nTo ["_law_model", "_law_turn_here"] (aA su):=⟨rfl,rfl,rfl,by decide +kernel,rfl,by decide +kernel,by decide +kernel⟩
def YZ:Scope:={ kind:=.function,names:=[(".0",.local),("_law_k",.local),("_law_model",.free)],isGenerator:=false,isCoroutine:=false }
theorem Z0:dF nTo (aA su) YZ ["_law_k"] ["_law_model"] [0]:=⟨rfl,by decide +kernel,by decide +kernel,by decide +kernel,rfl,by decide +kernel⟩
theorem Z1:((["_law_k"]:List Str)++(["_law_model"]:List Str)).Nodup:=by decide +kernel
theorem Ql (F:iC K "_law_told" "_law_told" su f fd) (md:mg "dict"=none) (ml:mg "len"=none) (mr:mg "range"=none):bf P w K mg base dj 1 f fd ["_law_model", "_law_turn_here"] Mg:=by
 refine F.ok YX (fun vs H Q E h=>?_) (fun cdv A outer s H vs Q E hr h=>?_)
 ·obtain ⟨m,t,en,b,a,fr,es,bs,as,T,pool,rfl,_⟩:=h
  rfl
 obtain ⟨m,t,en,b,a,fr,es,bs,as,T,pool,rfl,R,hes,ht,hT,hup,kk⟩:=h
 refine tW.out ⟨_,aH (cD (i:=2) YX.nd rfl (Or.inl rfl) ⟨bT (BW hr.hd) rfl md qG (aj (cG (u1 hr) (pv 0) aG (fun _ _=>rfl)) aq)⟩)
  (aH (cQ (aL bZ (aM bh (pv 1) au aU) aG (aX _)) (aZ (bM ⟨cG (u1 hr) (pv 0) aG (fun _ _=>rfl)⟩)) bN)
  (aH (cQ (aL bZ (aM bh (pv 1) au aU) aG (aX _)) (aZ (bM ⟨fG rfl Z0 (eU rfl mr (aj (aP bY rfl ml PySem.boot_len (aj (aM bh (pv 1) au aU) aq)) aq)) (fun s H fp C=>⟨aO (i:=0) Z1 rfl (Or.inl rfl),dZ,aQ cC (cG (u1 hr) (pv 1) aG (fun _ _=>rfl)) (pv 0)⟩)⟩)) bN)
  (aH (cQ (aL lg (aM bh (pv 1) au aU) (dh (aj aG (aj aG aq))) (by with_unfolding_all rfl)) (aZ (bM ⟨cG (u1 hr) (pv 2) (aM bh (pv 1) au aU) (fun _ _=>rfl)⟩)) bN)
  (aZ (bM ⟨vL⟩))))),?_⟩
 have hP:Paired (fun a q=>H a=some (.tup [kV q.1,q.2])) (es.map Ent.q) (eY (es.map pr)):=by
  have h2:=R.en.2
  clear kk hup R hes
  induction es with
  | nil=>exact .nil
  | cons e es ih=>exact .cons (h2 e (List.mem_cons_self ..)).1 (ih fun x hx=>h2 x (mD _ hx))
 have eL:(es.map fun e=>V.ref e.q)=(es.map Ent.q).map V.ref:=by rw [List.map_map];rfl
 have Z2:(es.map pr).Pairwise fun x y=>x.1<y.1:=by rw [List.pairwise_map];exact hup
 refine ⟨_,rfl,m,_,rfl,R.gE,en,_,_,rfl,bD.of (by rw [<- eL];exact R.en.1),hP,by simp [eY];lia,fun d hd=>?_⟩
 have em:dR [] (eY (es.map pr))=eY (es.map pr):=zN (acc:=[]) Z2
 rw [em]
 have s1:=ao hd (.dK (eY (es.map pr)))
 have d1:(upd H d (.dK (eY (es.map pr)))) d=some (.dK (eY (es.map pr))):=ak
 generalize upd H d (.dK (eY (es.map pr)))=H1 at s1 d1 ⊢
 have R1:=R.same s1
 have t1:=s1 _ _ ht
 have find:∀ e∈es,∀ H',Same H1 H'->gJ H' d (V.int e.n) (some (.ref e.p)):=fun e he H' s'=>by
  have:=gJ.k (k:=.inl e.n) (s' _ _ d1)
  rw [nT,Qk Z2 (List.mem_map.mpr ⟨e,he,rfl⟩)] at this
  exact this
 refine ⟨_,rfl,t,_,_,_,rfl,rfl,bG.of t1,T.v0,rfl,_,rfl,?_⟩
 cases T with
 | en p r=>exact bO ⟨_,rfl,m,_,rfl,R1.gF,kk _ s1⟩
 | al l ps rs =>
  refine aK ⟨_,rfl,t,_,_,_,rfl,rfl,bG.of t1,at0 _ _,rfl,_,rfl,bO ?_⟩
  have hl1:=s1 _ _ hT.1
  have h3:=hT.2.2.2
  refine ⟨_,rfl,t,_,_,_,rfl,rfl,bG.of t1,bH (j:=1) rfl,l,_,rfl,.inl (bD.of hl1),?_⟩
  rw [bR]
  refine ⟨_,rfl,by lia,by lia,fun D hD=>?_⟩
  refine ju (lo:=0) (n:=ps.length) (fun i ys H5=>ys=nums fr i/\Same H1 H5/\H5 D=some (.lst ys)) ⟨rfl,ao hD _,ak⟩ (fun i ys H5 h=>h.2.2) ?_ ?_
  ·rintro i ys H5 hi ⟨rfl,s5,RJ⟩
   refine ⟨Kp.set rfl (Kp.refl _),?_⟩
   refine dY ?_
   refine ⟨_,rfl,m,_,rfl,(R1.same s5).gF,_,rfl,_,_,rfl,rfl,RJ,?_,?_,aV s5 hD,ak⟩
   ·unfold nums;rw [bR,List.length_range];exact cj (by lia)
   ·unfold nums;rw [List.range_succ,lR,Int.zero_add];rfl
  ·rintro ys H5 ⟨rfl,s5,RJ⟩
   exact kk D H5 (s1.trans s5) RJ
 | st n =>
  obtain ⟨e,he,rfl,kq⟩:=kk
  exact aK ⟨_,rfl,t,_,_,_,rfl,rfl,bG.of t1,at0 _ _,rfl,_,rfl,aK ⟨_,rfl,t,_,_,_,rfl,rfl,bG.of t1,at0 _ _,small (by simp),fun q hq=>⟨q,_,rfl,.inr (bG.of ak),rfl,rfl,_,rfl,bO ⟨_,rfl,_,rfl,t,_,_,_,rfl,rfl,bG.of ((ao hq _) _ _ t1),bH (j:=1) rfl,d,_,rfl,find e he _ (ao hq _),kq _ (s1.trans (ao hq _))⟩⟩⟩⟩
 | co n p r =>
  obtain ⟨e,he,rfl,kq⟩:=kk
  exact aK ⟨_,rfl,t,_,_,_,rfl,rfl,bG.of t1,at0 _ _,rfl,_,rfl,aK ⟨_,rfl,t,_,_,_,rfl,rfl,bG.of t1,at0 _ _,small (by simp),fun q hq=>⟨q,_,rfl,.inr (bG.of ak),rfl,rfl,_,rfl,bO ⟨_,rfl,_,rfl,t,_,_,_,rfl,rfl,bG.of ((ao hq _) _ _ t1),bH (j:=1) rfl,d,_,rfl,find e he _ (ao hq _),kq _ (s1.trans (ao hq _))⟩⟩⟩⟩
 | ba =>
  exact aK ⟨_,rfl,t,_,_,_,rfl,rfl,bG.of t1,at0 _ _,rfl,_,rfl,aK ⟨_,rfl,t,_,_,_,rfl,rfl,bG.of t1,at0 _ _,small (by simp),fun q hq=>⟨q,_,rfl,.inr (bG.of ak),rfl,rfl,_,rfl,aK (kk _ (s1.trans (ao hq _)))⟩⟩⟩
 | ag =>
  exact aK ⟨_,rfl,t,_,_,_,rfl,rfl,bG.of t1,at0 _ _,rfl,_,rfl,aK ⟨_,rfl,t,_,_,_,rfl,rfl,bG.of t1,at0 _ _,small (by simp),fun q hq=>⟨q,_,rfl,.inr (bG.of ak),rfl,rfl,_,rfl,aK (kk _ (s1.trans (ao hq _)))⟩⟩⟩
theorem gR (h:X.K=K:=by rfl):dB X (.builtin "isinstance") (Xv K):=h ▸ J4
theorem Hh (h:X.K=K:=by rfl):jC X (compareOp .NotIn) (rIn K true):=h ▸ jt
def d9:List Str:=["NoForm", "NoEntry", "Twice", "NothingThere"]
def hot (i:Nat):List Bool:=[decide (i=0),decide (i=1),decide (i=2),decide (i=3)]
def zO (bs:List Bool):List Str:=((d9.zip bs).filter (·.2)).map (·.1)
structure Z4 (K:PySem.W.Frag) (mg:Str->Option Value) (L CF CN CT CH c5 c6:Addr):Prop where
 mL:mg "LandError"=some (.ref L)
 m1:mg "NoForm"=some (.ref CF)
 m2:mg "NoEntry"=some (.ref CN)
 m3:mg "Twice"=some (.ref CT)
 m4:mg "NothingThere"=some (.ref CH)
 m5:mg "NoLand"=some (.ref c5)
 m6:mg "NoText"=some (.ref c6)
 x:∀ (i:Nat) c,[CF,CN,CT,CH][i]?=some c->XC K c/\PySem.W.exmOne K (.ref c) (.ref L)=some true/\∀ (j:Nat) d,[CF,CN,CT,CH][j]?=some d->PySem.W.kitOne K (.ref c) (.ref d)=some (decide (i=j))
 k5:PySem.W.kitOne K (.ref CF) (.ref c5)=some false
 k6:PySem.W.kitOne K (.ref CF) (.ref c6)=some false
def iw:List Bool:=[false,false,false,false]
theorem GZ.mono {x t:Addr}{Q Q':VK}{E E':XK} (hQ:∀ v H1,Q v H1->Q' v H1) (hE:∀ c d H1,E c d H1->E' c d H1):∀ {T:Tn},GZ C CF CN CT CH K x t H Q E T->GZ C CF CN CT CH K x t H Q' E' T
 | .en p r,h=>by
  obtain ⟨x,dx,st,d,e,l,n,m,kvs,es,ls,p,r,fr,as,rows,h1,h2,h3,h4,h5,h6,h7,h8,h9,h10,h11,h12,a,b,c⟩:=h
  exact ⟨x,dx,st,d,e,l,n,m,kvs,es,ls,p,r,fr,as,rows,h1,h2,h3,h4,h5,h6,h7,h8,h9,h10,h11,h12,fun u H' s=>hE _ _ _ (a u H' s),fun u v H' s=>hE _ _ _ (b u v H' s),fun u v d' st' l' H' y1 y2 y3 y4 y5=>hQ _ _ (c u v d' st' l' H' y1 y2 y3 y4 y5)⟩
 | .st n,h=>by
  obtain ⟨x,dx,st,d,e,l,n,m,fr,kvs,es,ls,k,h1,h2,h3,h4,a,b⟩:=h
  exact ⟨x,dx,st,d,e,l,n,m,fr,kvs,es,ls,k,h1,h2,h3,h4,fun u=>hE _ _ _ (a u),fun v u d' st' l' H' y1 y2 y3 y4 y5=>hQ _ _ (b v u d' st' l' H' y1 y2 y3 y4 y5)⟩
 | .co n p r,h=>by
  obtain ⟨x,dx,st,d,e,l,n,m,fr,kvs,es,ls,k,p,r,as,rows,h1,h2,h3,h4,h5,h6,h7,h8,h9,h10,a,b,c⟩:=h
  exact ⟨x,dx,st,d,e,l,n,m,fr,kvs,es,ls,k,p,r,as,rows,h1,h2,h3,h4,h5,h6,h7,h8,h9,h10,fun u H' s=>hE _ _ _ (a u H' s),fun u v H' s=>hE _ _ _ (b u v H' s),fun v u1 u2=>⟨fun z H' s=>hE _ _ _ ((c v u1 u2).1 z H' s),fun z d' st' l' H' y1 y2 y3 y4 y5=>hQ _ _ ((c v u1 u2).2 z d' st' l' H' y1 y2 y3 y4 y5)⟩⟩
 | .ba,h=>by
  obtain ⟨x,dx,st,d,e,l,n,m,fr,kvs,es,ls,h1,h2,h3,h4,h5,h6,a,b⟩:=h
  refine ⟨x,dx,st,d,e,l,n,m,fr,kvs,es,ls,h1,h2,h3,h4,h5,h6,fun u=>hE _ _ _ (a u),fun zJ v u=>?_⟩
  obtain ⟨KQ,fM,st2,d2,z,c⟩:=b zJ v u
  exact ⟨KQ,fM,st2,d2,z,fun H' y1 y2=>hQ _ _ (c H' y1 y2)⟩
 | .ag,h=>by
  obtain ⟨x,dx,st,d,e,l,n,m,fr,kvs,es,ls,h1,h2,h3,h4,h5,h6,a,b⟩:=h
  refine ⟨x,dx,st,d,e,l,n,m,fr,kvs,es,ls,h1,h2,h3,h4,h5,h6,fun u=>hE _ _ _ (a u),fun zJ v u=>?_⟩
  obtain ⟨KQ,fM,st2,d2,z,c⟩:=b zJ v u
  exact ⟨KQ,fM,st2,d2,z,fun H' y1 y2=>hQ _ _ (c H' y1 y2)⟩
 | .al l ps rs,h=>by
  obtain ⟨hl,k⟩:=h
  refine ⟨hl,fun h hh Q1 q1=>?_⟩
  obtain ⟨x,dx,st,d,e,l,n,m,kvs,es,ls,rl,fr,ps,as,rs,rows,h1,h2,h3,h4,h5,h6,h7,h8,h9,h10,h11,h12,h13,h14,a,b,c⟩:=k h hh Q1 fun q ns H1 y1 y2 y3 y4 y5 y6 y7=>q1 q ns H1 y1 y2 y3 y4 y5 y6 fun k2 hk2=>hQ _ _ (y7 k2 hk2)
  exact ⟨x,dx,st,d,e,l,n,m,kvs,es,ls,rl,fr,ps,as,rs,rows,h1,h2,h3,h4,h5,h6,h7,h8,h9,h10,h11,h12,h13,h14,fun u H' s=>hE _ _ _ (a u H' s),fun u v H' s=>hE _ _ _ (b u v H' s),c⟩
def TryQ (Q:VK) (lm:Addr):VK:=fun v H1=>H1 lm=some (.lst (iw.map V.bl))/\∀ p H2,Same H1 H2->H2 p=some (.tup [.str "",v])->Q (.ref p) H2
def TryE (CF CN CT CH:Addr) (Q:VK):XK:=fun c _ H1=>∃ (i:Nat) (a:Addr) (w:Str),c=.ref a/\[CF,CN,CT,CH][i]?=some a/\d9[i]?=some w/\∀ p H2,Same H1 H2->H2 p=some (.tup [.str w,.non])->Q (.ref p) H2
def RV (C CF CN CT CH:Addr) (K:PySem.W.Frag):Sp:=fun vs H Q _=>∃ (x dx t st e l:Addr) (n m:Int) (T:Tn),vs=[.ref x,.ref t]/\H x=some (.ins C dx (FR n m st e l))/\H t=some (.tup T.vs) /\
 ∀ lm,H lm=none->GZ C CF CN CT CH K x t (upd H lm (.lst (iw.map V.bl))) (TryQ Q lm) (TryE CF CN CT CH Q) T
section
variable {c5 c6:Addr}
abbrev nTr:List Str:=["_law_roll", "_law_turn_here", "_law_marks", "_law_told_here", "e", "_law_words"]
theorem zP:aY nTr ["_law_roll", "_law_turn_here"] (aA sE):=⟨rfl,rfl,rfl,by decide +kernel,rfl,by decide +kernel,by decide +kernel⟩
def Z5:Scope:={ kind:=.function,names:=[(".0",.local),("_law_word",.local),("_law_mark",.local)],isGenerator:=false,isCoroutine:=false }
theorem Z6:dF nTr (aA sE) Z5 ["_law_word", "_law_mark"] [] []:=⟨rfl,by decide +kernel,by decide +kernel,by decide +kernel,rfl,by decide +kernel⟩
theorem RW:((["_law_word", "_law_mark"]:List Str)++([]:List Str)).Nodup:=by decide +kernel
theorem Vf (F:iC K "_law_roll_try" "_law_roll_try" sE f fd) (mi:mg "isinstance"=none) (mz:mg "zip"=none) (cl:Z4 K mg L CF CN CT CH c5 c6) 
  (G1:bf P w K mg base (gZ P w) 7 g1 d1 ["_law_roll", "_law_turn_here"] (YS C CF CN CT CH K)) (M1:Ms K mg "_law_roll_do" g1 d1 ["_law_roll", "_law_turn_here"]):bf P w K mg base dj 8 f fd ["_law_roll", "_law_turn_here"] (RV C CF CN CT CH K):=by
 refine F.ok zP (fun vs H Q E h=>?_) (fun cdv A outer s H vs Q E hr h=>?_)
 ·obtain ⟨x,dx,t,st,e,l,n,m,T,rfl,_⟩:=h
  rfl
 obtain ⟨x,dx,t,st,e,l,n,m,T,rfl,hx,ht,k⟩:=h
 have hr7:cM 7 _:=hr.mono (by decide)
 refine ⟨_,aD (bU (i:=2) zP.nd rfl (Or.inl rfl) (cP (aj dX (aj dX (aj dX (aj dX aq))))))
  (aD (bU (i:=3) zP.nd rfl (Or.inl rfl) vL)
  (aD (TQ (i:=4) (L:=L) rfl rfl zP.nd rfl rfl rfl cl.mL
    (fun pn xe E hp=>aJ (bU (i:=3) zP.nd rfl (Or.inl rfl) (Ja (CX:=gZ P w) (E:=E) G1 hr7 rfl M1.m M1.k M1.b .nil hp (aj (pv 0) (aj (pv 1) aq)))))
    (fun ea=>aD (bU (i:=2) zP.nd rfl (Or.inl rfl) (cP (aj (aP (gR (K:=K)) rfl mi bw (aj (pv 4) (aj (dJ rfl cl.m1 rfl (v:=.ref CF)) aq)))
      (aj (aP (gR (K:=K)) rfl mi bw (aj (pv 4) (aj (dJ rfl cl.m2 rfl (v:=.ref CN)) aq))) (aj (aP (gR (K:=K)) rfl mi bw (aj (pv 4) (aj (dJ rfl cl.m3 rfl (v:=.ref CT)) aq))) (aj (aP (gR (K:=K)) rfl mi bw (aj (pv 4) (aj (dJ rfl cl.m4 rfl (v:=.ref CH)) aq))) aq))))))
     (aD (iR (jm (aM (jU (K:=K)) (pv 2) au aU) (jm (vM (aP (gR (K:=K)) rfl mi bw (aj (pv 4) (aj (dJ rfl cl.m5 rfl (v:=.ref c5)) aq)))) (jL (vM (aP (gR (K:=K)) rfl mi bw (aj (pv 4) (aj (dJ rfl cl.m6 rfl (v:=.ref c6)) aq))))))) (HD (pv 2) au set_list))
     (aJ (cJ (aL (Hh (K:=K)) dX (pv 2) (by with_unfolding_all rfl)) (aJ (bU (i:=2) zP.nd rfl (Or.inl rfl) (cP (aj dX (aj dX (aj dX (aj dX aq))))))) bK)))))
  (aD (bU (i:=5) zP.nd rfl (Or.inl rfl) (cP (aj aG (aj aG (aj aG (aj aG aq))))))
  (aJ (bL (dh (aj (iH PySem.F.plainAttrs_str PySem.F.slot_str_join PySem.F.type_str_join Di aG (aj (fG rfl Z6 (yI rfl mz (aj (pv 5) (aj (pv 2) aq))) (fun s H fp C=>⟨wk (K:=K) (n:=2) rfl (bA (aO (i:=0) RW rfl (Or.inl rfl)) (bA (aO (i:=1) RW rfl (Or.inl rfl)) cX)),vW (eG (pv 1)),pv 0⟩)) aq)) (aj (pv 3) aq)))))))),?_⟩
 refine ⟨small (by simp),fun lm N5=>?_⟩
 have k1:=k lm N5
 have s1:Same H (upd H lm (.lst (iw.map V.bl))):=ao N5 _
 have m1:(upd H lm (.lst (iw.map V.bl))) lm=some (.lst (iw.map V.bl)):=ak
 have x1:=s1 _ _ hx
 have t1:=s1 _ _ ht
 have e0:upd H lm (.lst (iw.map V.bl))=upd H lm (.lst [V.bl false,V.bl false,V.bl false,V.bl false]):=rfl
 rw [e0] at s1 m1 x1 t1 k1
 generalize upd H lm (.lst [V.bl false,V.bl false,V.bl false,V.bl false])=H1 at s1 m1 x1 t1 k1 ⊢
 dsimp only [pC,Ng,Aa,tC,Ends.nx]
 refine grab (a:=Xx _ _ _ _ _) (fun σ' H'=>∃ (mk:Addr) (bs:List Bool) (v:V) (wd:Str),σ'=[some (.ref x),some (.ref t),some (.ref mk),some v,none,none]/\H' mk=some (.lst (bs.map V.bl))/\bs.length=4/\Txt.join "" (zO bs)=wd/\JoinOk "" (zO bs)=true/\∀ p H2,Same H' H2->H2 p=some (.tup [.str wd,v])->Q (.ref p) H2) ?_ fun go=>?_
 ·rintro σ' H' ⟨mk,bs,v,wd,rfl,hmk,hbs,hj,hjo,kq⟩
  refine ⟨small (by simp),fun W hW=>?_⟩
  have s2:=ao hW (.lst (d9.map V.str))
  have w2:(upd H' W (.lst (d9.map V.str))) W=some (.lst (d9.map V.str)):=ak
  have e1:upd H' W (.lst (d9.map V.str))=upd H' W (.lst [V.str "NoForm",V.str "NoEntry",V.str "Twice",V.str "NothingThere"]):=rfl
  rw [e1] at s2 w2
  generalize upd H' W (.lst [V.str "NoForm",V.str "NoEntry",V.str "Twice",V.str "NothingThere"])=H2 at s2 w2 ⊢
  have m2:=s2 _ _ hmk
  have hl4:(d9.map V.str).length=(bs.map V.bl).length:=by rw [bR,bR,hbs];rfl
  refine ⟨rfl,_,rfl,_,rfl,W,mk,rfl,⟨_,bD.of w2⟩,⟨_,bD.of m2⟩,fun D hD=>?_⟩
  refine rJ (n:=4) (fx:=fun i=>(d9.map V.str).getD i .non) (fy:=fun i=>(bs.map V.bl).getD i .non) (fun i zs H3=>zs=(((d9.zip bs).take i).filter (·.2)).map (fun q=>V.str q.1)/\Same H2 H3/\H3 D=some (.lst zs)) (fun i zs H3 h=>pI (bD.of (h.2.1 _ _ w2)) (bD.of (h.2.1 _ _ m2)) hl4) ⟨rfl,ao hD _,ak⟩ (fun i zs H2 h=>h.2.2) ?_ ?_
  ·rintro i zs H3 r Yc ⟨rfl,s3,Nv⟩ Rm
   have Yd:D≠r:=aN Nv Rm
   obtain ⟨wi,hwi⟩:∃ wi,d9[i]?=some wi:=⟨_,dI Yc⟩
   obtain ⟨bi,hbi⟩:∃ bi,bs[i]?=some bi:=⟨_,dI (by lia)⟩
   have f1:(d9.map V.str).getD i .non=V.str wi:=by rw [iz,lW,hwi];rfl
   have f2:(bs.map V.bl).getD i .non=V.bl bi:=by rw [iz,lW,hbi];rfl
   rw [f1,f2]
   have s4:Same H2 (upd H3 r (.tup [V.str wi,V.bl bi])):=aV s3 (s3.free Rm)
   have hz:(d9.zip bs)[i]?=some (wi,bi):=by rw [List.getElem?_zip_eq_some];exact ⟨hwi,hbi⟩
   refine ⟨r,_,rfl,bG.of ak,rfl,_,_,rfl,_,_,rfl,rfl,Kp.set rfl (Kp.set rfl (Kp.refl _)),?_⟩
   refine ⟨_,rfl,bi,rfl,?_⟩
   have DP:(upd H3 r (.tup [V.str wi,V.bl bi])) D=some (.lst ((((d9.zip bs).take i).filter (·.2)).map (fun q=>V.str q.1))):=by rw [aC Yd];exact Nv
   have e9:((d9.zip bs).take (i+1)).filter (·.2)=((d9.zip bs).take i).filter (·.2)++if bi=true then [(wi,bi)] else []:=by
    rw [List.take_add_one,hz,List.filter_append]
    cases bi <;> rfl
   rw [e9]
   cases bi with
   | true =>
    refine bO ⟨_,rfl,DP,?_,?_,aV s4 hD,ak⟩
    ·rw [bR]
     exact cj (Nat.le_trans (Nat.succ_le_succ (List.length_filter_le ..)) (by rw [List.length_take];lia))
    ·rw [lR];rfl
   | false =>
    refine aK ⟨?_,s4,DP⟩
    simp
  ·rintro zs H3 ⟨rfl,s3,Nv⟩
   have et:(d9.zip bs).take 4=d9.zip bs:=List.take_of_length_le (by rw [List.length_zip];exact Nat.min_le_left ..)
   rw [et] at Nv
   have em:((d9.zip bs).filter (·.2)).map (fun q=>V.str q.1)=(zO bs).map V.str:=by unfold zO;rw [List.map_map];rfl
   rw [em] at Nv
   refine ⟨_,D,zO bs,rfl,rfl,bD.of Nv,hjo,?_⟩
   rw [hj]
   refine ⟨_,rfl,small (by simp),fun p hp=>?_⟩
   exact kq p _ (s2.trans (s3.trans (ao hp _))) ak
 ·refine ⟨_,rfl,_,rfl,x,dx,t,st,e,l,n,m,T,rfl,x1,t1,?_⟩
  refine GZ.mono (fun v H2 h2=>go _ _ ⟨lm,iw,v, "",rfl,h2.1,rfl,by decide +kernel,by decide +kernel,h2.2⟩) (fun c d H2 h2=>?_) k1
  obtain ⟨i,a,wd,rfl,ha,hw,kq⟩:=h2
  obtain ⟨xc,ex,kt⟩:=cl.x i a ha
  refine ⟨a,rfl,ex,fun ea he=>?_⟩
  have s3:Same H2 (upd H2 ea (Mx a ea)):=ao he _
  have e3:(upd H2 ea (Mx a ea)) ea=some (Mx a ea):=ak
  generalize upd H2 ea (Mx a ea)=H3 at s3 e3 ⊢
  refine ⟨_,rfl,ea,a,_,_,rfl,e3,xc,.inr ⟨_,rfl⟩,kt 0 CF rfl,?_⟩
  refine ⟨_,rfl,ea,a,_,_,rfl,e3,xc,.inr ⟨_,rfl⟩,kt 1 CN rfl,?_⟩
  refine ⟨_,rfl,ea,a,_,_,rfl,e3,xc,.inr ⟨_,rfl⟩,kt 2 CT rfl,?_⟩
  refine ⟨_,rfl,ea,a,_,_,rfl,e3,xc,.inr ⟨_,rfl⟩,kt 3 CH rfl,?_⟩
  refine ⟨small (by simp),fun q1 h1=>?_⟩
  have s4:=ao h1 (.lst [V.bl (decide (i=0)),V.bl (decide (i=1)),V.bl (decide (i=2)),V.bl (decide (i=3))])
  have l4:(upd H3 q1 (.lst [V.bl (decide (i=0)),V.bl (decide (i=1)),V.bl (decide (i=2)),V.bl (decide (i=3))])) q1=some (.lst [V.bl (decide (i=0)),V.bl (decide (i=1)),V.bl (decide (i=2)),V.bl (decide (i=3))]):=ak
  have e4:=s4 _ _ e3
  have s24:Same H2 _:=s3.trans s4
  have q10:H2 q1=none:=s3.free h1
  generalize upd H3 q1 (.lst [V.bl (decide (i=0)),V.bl (decide (i=1)),V.bl (decide (i=2)),V.bl (decide (i=3))])=H4 at e4 l4 s24 ⊢
  have hi:i<4:=(List.getElem?_eq_some_iff.mp hw).1
  have fin:∀ (bs:List Bool),bs=hot i->∀ H5,Same H2 H5->H5 q1=some (.lst (bs.map V.bl))->_:=fun bs eb H5 s5 l5=>go [some (.ref x),some (.ref t),some (.ref q1),some .non,none,none] H5 ⟨q1,bs,.non,wd,rfl,l5,by rw [eb];rfl,by
    rw [eb]
    match i,hi,hw with
    | 0,_,hw=>injection hw
    | 1,_,hw=>injection hw
    | 2,_,hw=>injection hw
    | 3,_,hw=>injection hw,by
    rw [eb]
    match i,hi with
    | 0,_=>decide +kernel
    | 1,_=>decide +kernel
    | 2,_=>decide +kernel
    | 3,_=>decide +kernel,fun p H6 s6 h6=>kq p H6 (s5.trans s6) h6⟩
  refine ⟨_,rfl,q1,_,_,_,rfl,rfl,bD.of l4,bH (j:=0) rfl,decide (i=0),rfl,?_⟩
  have two:∀ (b:Bool) (D:Ends),b=decide (i=0)->(∀ H5,Same H2 H5->H5 q1=some (.lst ((hot i).map V.bl))->D.nx [some (.ref x),some (.ref t),some (.ref q1),some .non,none,none] H5)->(fun (y:V) (H5:Hp)=>WX (pX 2) (tC (V.int 0)) R5 y [some (.ref x),some (.ref t),some (.ref q1),some .non,some (.ref ea),none] H5 fun σ6 H6=>yq (HS (Mv (rIn K true) (tC (V.bl true)) (pX 2))) (Aa (Td (fB (tC (V.bl true)) (fB (tC (V.bl true)) (fB (tC (V.bl true)) (fB (tC (V.bl true)) oA))))) (pC 2)) Hw (Jd 4 D) σ6 H6) (.bl b) H4:=fun b D hb kD=>by
   subst hb
   refine ⟨_,rfl,q1,_,_,0,rfl,rfl,l4,rfl,?_⟩
   have l5:(upd H4 q1 (.lst ((hot i).map V.bl))) q1=some (.lst ((hot i).map V.bl)):=ak
   have s5:Same H2 (upd H4 q1 (.lst ((hot i).map V.bl))):=aV s24 q10
   have hin:inV (V.bl true) ((hot i).map V.bl)=true:=by
    match i,hi with
    | 0,_=>rfl
    | 1,_=>rfl
    | 2,_=>rfl
    | 3,_=>rfl
   have hfl:((hot i).map V.bl).all lZ=true:=rfl
   refine ⟨_,rfl,q1,_,rfl,.inl (bD.of l5),rfl,hfl,_,rfl,?_⟩
   show (if (!inV (V.bl true) ((hot i).map V.bl))=true then _ else _)
   rw [hin]
   exact aK (kD _ s5 l5)
  have hi4:i=0\/i≠0:=by lia
  rcases hi4 with h0 | h0
  ·subst h0
   injection ha with ha
   subst ha
   exact bO ⟨_,rfl,ea,CF,_,_,rfl,e4,xc,.inr ⟨_,rfl⟩,cl.k5,false,rfl,true,rfl,bO ⟨_,rfl,ea,CF,_,_,rfl,e4,xc,.inr ⟨_,rfl⟩,cl.k6,false,rfl,two true _ rfl fun H5 s5 l5=>fin _ rfl H5 s5 l5⟩⟩
  ·have hd:decide (i=0)=false:=decide_eq_false h0
   rw [hd]
   exact aK (two false _ hd.symm fun H5 s5 l5=>fin _ rfl H5 s5 l5)
end
def BX (x:Ct):Int×V:=(x.1,.ref x.2.1)
theorem pA {α β:Type}{f:α->β}:∀ {l:List α}{k:List β},k.Perm (l.map f)->∃ l':List α,l'.Perm l/\k=l'.map f
 | [],k,h=>⟨[],.refl _,by rw [List.map_nil] at h;exact h.eq_nil⟩
 | a::l,k,h=>by
  have hm:f a∈k:=h.mem_iff.mpr (by simp)
  obtain ⟨s,t,rfl⟩:=List.append_of_mem hm
  have h2:(f a::(s++t)).Perm (f a::l.map f):=List.perm_middle.symm.trans h
  obtain ⟨l',p',e⟩:=pA h2.cons_inv
  obtain ⟨l1,l2,rfl,e1,e2⟩:=List.map_eq_append_iff.mp e.symm
  exact ⟨l1++a::l2,List.perm_middle.trans (p'.cons a),by rw [lR,List.map_cons,e1,e2]⟩
theorem vC {A B:List (List V)}:(A++B).Nodup↔A.Nodup/\¬ tZ A B:=by
 unfold tZ List.Nodup
 rw [List.pairwise_append]
 constructor
 ·rintro ⟨h1,h2,h3⟩
  refine ⟨h1,?_⟩
  rintro ⟨i,r,hi,hr⟩
  rcases List.mem_append.mp hr with h | h
  ·exact h3 r h r (qN hi) rfl
  ·obtain ⟨j,hj⟩:=List.mem_iff_getElem?.mp h
   rw [List.getElem?_take] at hj
   split at hj
   ·rename_i hji
    obtain ⟨a1,b1⟩:=List.getElem?_eq_some_iff.mp hj
    obtain ⟨a2,b2⟩:=List.getElem?_eq_some_iff.mp hi
    exact List.pairwise_iff_getElem.mp h2 j i a1 a2 hji (b1.trans b2.symm)
   ·cases hj
 ·rintro ⟨h1,h2⟩
  refine ⟨h1,List.pairwise_iff_getElem.mpr fun i j hi hj hij e=>h2 ⟨j,_,dI hj,?_⟩,fun a ha b hb e=>?_⟩
  ·refine List.mem_append.mpr (.inr (List.mem_iff_getElem?.mpr ⟨i,?_⟩))
   rw [List.getElem?_take,if_pos hij,dI hi,e]
  ·obtain ⟨i,hi⟩:=List.mem_iff_getElem?.mp hb
   exact h2 ⟨i,b,hi,List.mem_append.mpr (.inl (e ▸ ha))⟩
theorem vD {A A' B:List (List V)} (h:∀ r,r∈A↔r∈A'):tZ A B↔tZ A' B:=by
 unfold tZ
 constructor
 ·rintro ⟨i,r,hi,hr⟩
  refine ⟨i,r,hi,?_⟩
  rcases List.mem_append.mp hr with z | z
  ·exact List.mem_append.mpr (.inl ((h r).mp z))
  ·exact List.mem_append.mpr (.inr z)
 ·rintro ⟨i,r,hi,hr⟩
  refine ⟨i,r,hi,?_⟩
  rcases List.mem_append.mp hr with z | z
  ·exact List.mem_append.mpr (.inl ((h r).mpr z))
  ·exact List.mem_append.mpr (.inr z)
theorem vG:∀ {ps:List Addr}{rs:List (List V)}{fr:Nat},bC H ps rs->(newL fr ps rs).map (·.2.2)=rs
 | _,_,_,.nil=>rfl
 | _,_,fr,.cons h hs=>by
  show _::(newL (fr+1) _ _).map _=_
  rw [vG hs]
theorem Hi {fr:Nat}{p:Addr}{ps:List Addr}:news fr (p::ps)=((fr:Int),V.ref p)::news (fr+1) ps:=by
 unfold news
 rw [jK,List.range_succ_eq_map,List.map_cons,List.map_map]
 refine congr (congrArg List.cons ?_) ?_
 ·rfl
 ·refine List.map_congr_left fun i _=>?_
  show ((((fr+(i+1):Nat)):Int),V.ref ((p::ps).getD (i+1) 0))=_
  have:fr+(i+1)=fr+1+i:=by lia
  rw [this]
  rfl
theorem Eo:∀ {ps:List Addr}{rs:List (List V)}{fr:Nat},bC H ps rs->(newL fr ps rs).map BX=news fr ps
 | _,_,_,.nil=>rfl
 | _,_,fr,.cons h hs=>by
  rw [Hi]
  show _::(newL (fr+1) _ _).map _=_
  rw [Eo hs]
  rfl
theorem qL:∀ {ps:List Addr}{rs:List (List V)}{fr:Nat}{x:Ct},bC H ps rs->x∈newL fr ps rs->(fr:Int)<=x.1/\x.1<((fr+ps.length:Nat):Int)
 | _,_,_,_,.nil,h=>nomatch h
 | _,_,fr,x,.cons (l₁:=ps) h hs,m=>by
  rcases List.mem_cons.mp m with rfl | m
  ·rw [jK]
   constructor
   ·show (fr:Int)<=fr;lia
   ·show (fr:Int)<_;lia
  ·have:=qL hs m
   rw [jK];lia
theorem Ep:∀ {ps:List Addr}{rs:List (List V)}{fr:Nat},bC H ps rs->(newL fr ps rs).Pairwise (fun x y=>x.1<y.1)
 | _,_,_,.nil=>.nil
 | _,_,fr,.cons h hs=>by
  refine List.pairwise_cons.mpr ⟨fun y hy=>?_,Ep hs⟩
  have:=(qL hs hy).1
  show (fr:Int)<y.1
  lia
structure yc (pool:List (List V)) (F fr:Nat) (kvs:List (Int×V)) (l:List Ct):Prop where
 pm:kvs.Perm (l.map BX)
 up:l.Pairwise (fun x y=>x.1<y.1)
 lt:∀ x∈l,x.1<(fr:Int)
 ok:∀ x∈l,dw x.2.2/\wm x.2.2=true/\x.2.2∈pool
 nd:(l.map (·.2.2)).Nodup
 fr:fr<=F
theorem Vg {l:List Ct} (up:l.Pairwise (fun x y=>x.1<y.1)) {x y:Ct} (hx:x∈l) (hy:y∈l) (e:x.1=y.1):x=y:=by
 obtain ⟨i,hi⟩:=List.mem_iff_getElem?.mp hx
 obtain ⟨j,hj⟩:=List.mem_iff_getElem?.mp hy
 obtain ⟨a1,b1⟩:=List.getElem?_eq_some_iff.mp hi
 obtain ⟨a2,b2⟩:=List.getElem?_eq_some_iff.mp hj
 rcases Nat.lt_trichotomy i j with h | h | h
 ·have:=List.pairwise_iff_getElem.mp up i j a1 a2 h
  rw [b1,b2] at this;lia
 ·subst h;exact b1.symm.trans b2
 ·have:=List.pairwise_iff_getElem.mp up j i a2 a1 h
  rw [b1,b2] at this;lia
theorem Qm {l:List Ct} (pm:kvs.Perm (l.map BX)) (up:l.Pairwise (fun x y=>x.1<y.1)) {x:Ct} (hx:x∈l):fP kvs x.1=some (.ref x.2.1):=by
 have hm:(x.1,V.ref x.2.1)∈kvs:=pm.mem_iff.mpr (List.mem_map.mpr ⟨x,hx,rfl⟩)
 unfold fP
 cases e:kvs.find? fun p=>decide (p.1=x.1) with
 | none =>
  have:=List.find?_eq_none.mp e _ hm
  simp at this
 | some p =>
  have h1:=List.mem_of_find?_eq_some e
  have h2:p.1=x.1:=by simpa using List.find?_some e
  obtain ⟨y,hy,rfl⟩:=List.mem_map.mp (pm.mem_iff.mp h1)
  have e':y=x:=Vg up hy hx h2
  rw [e'];rfl
theorem Qn {l:List Ct} (pm:kvs.Perm (l.map BX)) {n:Int} (hn:∀ x∈l,x.1≠n):fP kvs n=none:=by
 unfold fP
 rw [Option.map_eq_none_iff,List.find?_eq_none]
 intro p hp
 obtain ⟨y,hy,rfl⟩:=List.mem_map.mp (pm.mem_iff.mp hp)
 exact fun e=>hn y hy (xX e)
def Tn.kv (T:Tn) (fr:Nat) (kvs:List (Int×V)):List (Int×V):=match T with
 | .en p _=>kvs++[((fr:Int),.ref p)]
 | .al _ ps _=>kvs++news fr ps
 | .st n=>fO kvs n
 | .co n p _=>fO kvs n++[(n,.ref p)]
 | _=>kvs
theorem BZ {l:List Ct}{n:Int}:fO (l.map BX) n=(l.filter fun x=>decide (x.1≠n)).map BX:=by
 unfold fO
 rw [List.filter_map];rfl
theorem Ca {kvs':List (Int×V)}{n:Int} (h:kvs.Perm kvs'):(fO kvs n).Perm (fO kvs' n):=h.filter _
theorem Vh {γ:Type}{g:Ct->γ}{n:Int}{p:Addr}:∀ {l:List Ct},l.Pairwise (fun x y=>x.1<y.1)->(∃ x∈l,x.1=n)->(((l.filter fun x=>decide (x.1≠n)).map g)++[g (n,p,r)]).Perm ((l.map fun x=>if x.1=n then (x.1,p,r) else x).map g)
 | [],_,⟨x,hx,_⟩=>nomatch hx
 | y::l,up,⟨x,hx,ex⟩=>by
  obtain ⟨u1,u2⟩:=List.pairwise_cons.mp up
  by_cases e:y.1=n
  ·have hl:∀ z∈l,z.1≠n:=fun z hz=>by have:=u1 z hz;lia
   have f1:(l.filter fun x=>decide (x.1≠n))=l:=List.filter_eq_self.mpr fun z hz=>by simpa using hl z hz
   have f2:(l.map fun x=>if x.1=n then (x.1,p,r) else x)=l:=by
    have:∀ z∈l,(if z.1=n then (z.1,p,r) else z)=z:=fun z hz=>if_neg (hl z hz)
    exact (List.map_congr_left this).trans (List.map_id' l)
   rw [List.filter_cons_of_neg (by simpa using e),f1,List.map_cons,f2,if_pos e,List.map_cons]
   rw [e]
   exact List.perm_append_singleton ..
  ·rw [List.filter_cons_of_pos (by simpa using e),List.map_cons,List.map_cons,List.map_cons,if_neg e,List.cons_append]
   refine (Vh u2 ⟨x,?_,ex⟩).cons _
   rcases List.mem_cons.mp hx with h | h
   ·exact absurd (h ▸ ex) e
   ·exact h
theorem Z7 {n:Int}{p:Addr}{l:List Ct} (h:l.Pairwise (fun x y=>x.1<y.1)) (he:∃ x∈l,x.1=n):(((l.filter fun x=>decide (x.1≠n)).map BX)++[(n,V.ref p)]).Perm ((l.map fun x=>if x.1=n then (x.1,p,r) else x).map BX):=Vh (g:=BX) h he
theorem yc.step {fr:Nat}{l:List Ct}{T:Tn} (S:yc pool F fr kvs l) (hT:T.At pool H) (hw:T.hd.all wm=true) (hn:∀ n,T.num=some n->∃ x∈l,x.1=n) (nd:((T.new fr l).map (·.2.2)).Nodup) (hb:T≠.ba) (hg:T≠.ag):yc pool (F+3) (fr+T.mp.length) (T.kv fr kvs) (T.new fr l):=by
 have hR:=Tn.rows hT
 have h3:=Tn.Bw hT
 have base:∀ x∈l++newL fr T.mp T.mr,(dw x.2.2/\wm x.2.2=true/\x.2.2∈pool)/\x.1<((fr+T.mp.length:Nat):Int):=fun x hx=>by
  rcases List.mem_append.mp hx with h | h
  ·have:=S.lt x h
   exact ⟨S.ok x h,by lia⟩
  ·refine ⟨?_,(qL hR h).2⟩
   have h2:=BK hR h
   cases T with
   | en p r =>
    have e:=List.mem_singleton.mp h2
    rw [e]
    have w1:wm r=true:=by simpa [Tn.hd] using hw
    exact ⟨hT.2.1,w1,hT.2.2.resolve_left (by rw [w1];decide)⟩
   | al q ps rs =>
    have w1:wm x.2.2=true:=List.all_eq_true.mp hw _ h2
    obtain ⟨g1,g2⟩:=hT.2.2.1 _ h2
    exact ⟨g1,w1,g2.resolve_left (by rw [w1];decide)⟩
   | _=>cases h2
 have upb:(l++newL fr T.mp T.mr).Pairwise (fun x y=>x.1<y.1):=List.pairwise_append.mpr ⟨S.up,Ep hR,fun x hx y hy=>by have:=S.lt x hx;have:=(qL hR hy).1;lia⟩
 have hF:=S.fr
 refine ⟨?_,?_,?_,?_,nd,by lia⟩
 ·cases T with
  | en p r =>
   show (kvs++[((fr:Int),V.ref p)]).Perm ((l++newL fr [p] [r]).map BX)
   rw [lR]
   exact S.pm.append_right _
  | al q ps rs =>
   show (kvs++news fr ps).Perm ((l++newL fr ps rs).map BX)
   rw [lR,Eo hT.2.1]
   exact S.pm.append_right _
  | st n =>
   show (fO kvs n).Perm (((l++[]).filter fun x:Ct=>decide (x.1≠n)).map BX)
   rw [List.append_nil,<- BZ]
   exact Ca S.pm
  | co n p r =>
   show (fO kvs n++[(n,V.ref p)]).Perm (((l++[]).map fun x:Ct=>if x.1=n then (x.1,p,r) else x).map BX)
   rw [List.append_nil]
   refine ((Ca S.pm).append_right _).trans ?_
   rw [BZ]
   exact Z7 S.up (hn n rfl)
  | ba=>exact absurd rfl hb
  | ag=>exact absurd rfl hg
 ·unfold Tn.new
  cases T with
  | st n=>exact upb.filter _
  | co n p r =>
   show (List.map _ _).Pairwise _
   rw [List.pairwise_map]
   refine upb.imp fun {x y} h=>?_
   by_cases e1:x.1=n <;> by_cases e2:y.1=n <;> simp only [e1,e2,if_true,if_false] <;> lia
  | _=>exact upb
 ·intro x hx
  unfold Tn.new at hx
  cases T with
  | st n=>exact (base x (List.mem_filter.mp hx).1).2
  | co n p r =>
   obtain ⟨y,hy,rfl⟩:=List.mem_map.mp hx
   have:=(base y hy).2
   by_cases e:y.1=n
   ·rw [if_pos e];exact this
   ·rw [if_neg e];exact this
  | _=>exact (base x hx).2
 ·intro x hx
  unfold Tn.new at hx
  cases T with
  | st n=>exact (base x (List.mem_filter.mp hx).1).1
  | co n p r =>
   obtain ⟨y,hy,rfl⟩:=List.mem_map.mp hx
   by_cases e:y.1=n
   ·rw [if_pos e]
    have w1:wm r=true:=by simpa [Tn.hd] using hw
    exact ⟨hT.2.1,w1,hT.2.2.resolve_left (by rw [w1];decide)⟩
   ·rw [if_neg e];exact (base y hy).1
  | _=>exact (base x hx).1
theorem yc.mono {F' fr:Nat}{l:List Ct} (S:yc pool F fr kvs l) (h:F<=F'):yc pool F' fr kvs l:=⟨S.pm,S.up,S.lt,S.ok,S.nd,Nat.le_trans S.fr h⟩
theorem sub_len {α:Type}:∀ {l m:List α},l.Nodup->(∀ x∈l,x∈m)->l.length<=m.length
 | [],_,_,_=>Nat.zero_le _
 | x::l,m,h,hs=>by
  obtain ⟨s,t,rfl⟩:=List.append_of_mem (hs x (List.mem_cons_self ..))
  obtain ⟨h1,h2⟩:=List.pairwise_cons.mp h
  have:=sub_len (l:=l) (m:=s++t) h2 fun y hy=>by
   have:=hs y (mD _ hy)
   rcases List.mem_append.mp this with z | z
   ·exact List.mem_append.mpr (.inl z)
   ·rcases List.mem_cons.mp z with z | z
    ·exact absurd z.symm (h1 y hy)
    ·exact List.mem_append.mpr (.inr z)
  simp at this ⊢
  lia
theorem yc.len {fr:Nat}{l:List Ct} (S:yc pool F fr kvs l):l.length<=pool.length:=by
 have:=sub_len S.nd fun r hr=>by
  obtain ⟨x,hx,rfl⟩:=List.mem_map.mp hr
  exact (S.ok x hx).2.2
 rwa [bR] at this
def N6 (pool:List (List V)) (F:Nat) (H:Hp) (v:V) (s:kZ):Prop:=∃ st d kvs,Std H v (s.fr:Int) kvs st d/\yc pool F s.fr kvs (s.es.map Ent.c)
structure RB (C:Addr) (pool:List (List V)) (H:Hp) (x dx e l:Addr) (n k:Int) (m:Addr) (N:Nat) (st d:Addr) (kvs:List (Int×V)) (rs ls:List V) (en b a:Addr) (fr:Nat) (es:List Ent) (bs as:List kZ):Prop where
 r:cu C H x dx st d e l n k (fr:Int) kvs rs ls
 m:gM H m en b a fr es bs as
 s:yc pool (1+3 * N) fr kvs (es.map Ent.c)
 kb:Paired (N6 pool (1+3 * N) H) rs bs
 ka:Paired (N6 pool (1+3 * N) H) ls as
 len:rs.length+ls.length<=N
 xe:x≠e
 xl:x≠l
 el:e≠l
 Wr:en≠e/\en≠l
 nb:b≠e/\b≠l
 na:a≠e/\a≠l
 ns:∀ s,s∈bs\/s∈as->s.en≠e/\s.en≠l
def Vi (C:Addr) (pool:List (List V)) (H:Hp) (x dx e l:Addr) (n k:Int) (m:Addr) (N:Nat):Prop:=∃ st d kvs rs ls en b a fr es bs as,RB C pool H x dx e l n k m N st d kvs rs ls en b a fr es bs as
theorem N6.at {F':Nat}{s:kZ} (h:N6 pool F H v s) (kt:∀ c u,H c=some (.tup u)->H' c=some (.tup u)) (kd:∀ c u,H c=some (.dK u)->H' c=some (.dK u)) (hF:F<=F'):N6 pool F' H' v s:=by
 obtain ⟨st,d,kvs,⟨h1,h2,h3⟩,S⟩:=h
 exact ⟨st,d,kvs,⟨h1,kt _ _ h2,kd _ _ h3⟩,S.mono hF⟩
theorem RB.same {x e:Addr}{n k:Int}{m:Addr}{N:Nat}{st:Addr}{fr:Nat}{es:List Ent}{bs as:List kZ} (h:RB C pool H x dx e l n k m N st d kvs rs ls en b a fr es bs as) (s:Same H H'):RB C pool H' x dx e l n k m N st d kvs rs ls en b a fr es bs as :=
 ⟨h.r.same s,h.m.same s,h.s,L2.Paired.iB h.kb fun v q z=>z.at (fun c u=>s c _) (fun c u=>s c _) (Nat.le_refl _),L2.Paired.iB h.ka fun v q z=>z.at (fun c u=>s c _) (fun c u=>s c _) (Nat.le_refl _),h.len,h.xe,h.xl,h.el,h.Wr,h.nb,h.na,h.ns⟩
theorem Paired.snoc_inv {α β:Type}{F:α->β->Prop}:∀ {l:List α}{x:α}{l2:List β},Paired F (l++[x]) l2->∃ l3 y,l2=l3++[y]/\Paired F l l3/\F x y
 | [],x,_,.cons h .nil=>⟨[],_,rfl,.nil,h⟩
 | a::l,x,_,.cons h t=>by
  obtain ⟨l3,y,rfl,h1,h2⟩:=Paired.snoc_inv t
  exact ⟨_::l3,y,rfl,.cons h h1,h2⟩
def xU (pool:List (List V)) (F:Nat) (H:Hp) (x dx e l:Addr) (C:Addr) (n k:Int) (st:Addr) (kvs:List (Int×V)) (rs ls:List V) (fr:Nat) (es:List Ent) (bs as:List kZ) (v:V) (H':Hp):Tn->Prop
 | .ba=>v=.non/\∃ Vj v0 uc s fM st2 d2,rs=Vj++[v0]/\bs=uc++[s]/\Paired (N6 pool F H) Vj uc/\Std H v0 (s.fr:Int) fM st2 d2/\yc pool F s.fr fM (s.es.map Ent.c)/\cu C H' x dx st2 d2 e l n k (s.fr:Int) fM Vj (ls++[.ref st])
 | .ag=>v=.non/\∃ MP v0 as0 s fM st2 d2,ls=MP++[v0]/\as=as0++[s]/\Paired (N6 pool F H) MP as0/\Std H v0 (s.fr:Int) fM st2 d2/\yc pool F s.fr fM (s.es.map Ent.c)/\cu C H' x dx st2 d2 e l n k (s.fr:Int) fM (rs++[.ref st]) MP
 | T=>(match T with | .en _ _=>v=.int (fr:Int) | .al _ ps _=>∃ q,v=.ref q/\H' q=some (.lst (nums fr ps.length)) | .st i=>∃ u∈es,u.n=i/\v=.ref u.p | .co i _ _=>∃ u∈es,u.n=i/\v=.ref u.p | _=>True) /\
   ∃ st' d' l',H l'=none/\cu C H' x dx st' d' e l' n k ((fr+T.mp.length:Nat):Int) (T.kv fr kvs) (rs++[.ref st]) []
theorem vH {l':List Ct} (h:∀ x∈l',H x.2.1=some (.tup x.2.2)):bC H (l'.map (·.2.1)) (l'.map (·.2.2)):=by
 induction l' with
 | nil=>exact .nil
 | cons x l ih=>exact .cons (h x (List.mem_cons_self ..)) (ih fun y hy=>h y (mD _ hy))
theorem Qo {l:List Ct} (pm:kvs.Perm (l.map BX)) (hin:∀ x∈l,H x.2.1=some (.tup x.2.2)/\dw x.2.2):∃ as rows,kvs.map (·.2)=as.map V.ref/\bC H as rows/\(∀ q∈rows,q.all jx=true)/\∀ r,r∈rows↔r∈l.map (·.2.2):=by
 obtain ⟨l',p',e⟩:=pA pm
 refine ⟨l'.map (·.2.1),l'.map (·.2.2),?_,vH fun x hx=>(hin x (p'.mem_iff.mp hx)).1,fun q hq=>?_,fun r=>(p'.map _).mem_iff⟩
 ·rw [e,List.map_map,List.map_map];rfl
 ·obtain ⟨x,hx,rfl⟩:=List.mem_map.mp hq
  exact (hin x (p'.mem_iff.mp hx)).2.2
theorem yc.pull {fr:Nat}{es:List Ent} (S:yc pool F fr kvs (es.map Ent.c)) (hE:∀ e∈es,Bv H e):∃ as rows,kvs.map (·.2)=as.map V.ref/\bC H as rows/\(∀ q∈rows,q.all jx=true)/\rows.Nodup/\∀ r,r∈rows↔r∈(es.map Ent.c).map (·.2.2):=by
 obtain ⟨l',p',e⟩:=pA S.pm
 have hin:∀ x∈l',H x.2.1=some (.tup x.2.2)/\dw x.2.2:=fun x hx=>by
  have:=p'.mem_iff.mp hx
  refine ⟨?_,(S.ok x this).1⟩
  obtain ⟨u,hu,rfl⟩:=List.mem_map.mp this
  exact (hE u hu).2
 refine ⟨l'.map (·.2.1),l'.map (·.2.2),?_,vH fun x hx=>(hin x hx).1,fun q hq=>?_,((p'.map _).nodup_iff).mpr S.nd,fun r=>(p'.map _).mem_iff⟩
 ·rw [e,List.map_map,List.map_map];rfl
 ·obtain ⟨x,hx,rfl⟩:=List.mem_map.mp hq
  exact (hin x hx).2.2
theorem yc.klt {fr:Nat}{l:List Ct} (S:yc pool F fr kvs l):∀ p∈kvs,p.1<(fr:Int):=fun p hp=>by
 obtain ⟨x,hx,rfl⟩:=List.mem_map.mp (S.pm.mem_iff.mp hp)
 exact S.lt x hx
theorem yc.Vk {fr:Nat}{l:List Ct} (S:yc pool F fr kvs l):kvs.length<=pool.length:=by
 have:=S.pm.length_eq
 rw [bR] at this
 rw [this];exact S.len
theorem bC.Qp {rows:List (List V)} (h:bC H as rows) (s:Same H H'):bC H' as rows:=L2.Paired.iB h fun a b z=>s _ _ z
section
variable {T:Tn}{fr:Nat}{es:List Ent}{bs as:List kZ}
theorem pB (h:T.hd.all wm=false):dz T fr es bs as="NoForm":=by unfold dz;rw [if_pos h]
theorem tK (h:T.hd.all wm=true) {i:Int} (hi:T.num=some i) (hn:∀ u∈es,u.n≠i):dz T fr es bs as="NoEntry":=by
 unfold dz
 have e:(T.num.any fun n=>!(es.map (·.n)).contains n)=true:=by
  rw [hi]
  show (!(es.map (·.n)).contains i)=true
  rw [Bool.not_eq_true',List.contains_eq_mem,decide_eq_false_iff_not]
  intro hm
  obtain ⟨u,hu,e⟩:=List.mem_map.mp hm
  exact hn u hu e
 rw [if_neg (by rw [h];decide),if_pos e]
theorem Cd {i:Int} (hi:T.num=some i) {u:Ent} (hu:u∈es) (e:u.n=i):(T.num.any fun n=>!(es.map (·.n)).contains n)=false:=by
 rw [hi]
 show (!(es.map (·.n)).contains i)=false
 rw [Bool.not_eq_false',List.contains_eq_mem,decide_eq_true_eq]
 exact List.mem_map.mpr ⟨u,hu,e⟩
theorem Tn.kd_b (hb:T≠.ba):T.kd≠"back":=by
 cases T with
 | ba=>exact absurd rfl hb
 | en _ _=>exact (by decide +kernel:(("enter" : Str))≠"back")
 | al _ _ _=>exact (by decide +kernel:(("all" : Str))≠"back")
 | st _=>exact (by decide +kernel:(("strike" : Str))≠"back")
 | co _ _ _=>exact (by decide +kernel:(("correct" : Str))≠"back")
 | ag =>exact (by decide +kernel:(("again" : Str))≠"back")
theorem Tn.kd_g (hg:T≠.ag):T.kd≠"again":=by
 cases T with
 | ag=>exact absurd rfl hg
 | en _ _=>exact (by decide +kernel:(("enter" : Str))≠"again")
 | al _ _ _=>exact (by decide +kernel:(("all" : Str))≠"again")
 | st _=>exact (by decide +kernel:(("strike" : Str))≠"again")
 | co _ _ _=>exact (by decide +kernel:(("correct" : Str))≠"again")
 | ba =>exact (by decide +kernel:(("back" : Str))≠"again")
theorem fU (hb:T≠.ba) (hg:T≠.ag) (hw:T.hd.all wm=true) (hn:(T.num.any fun n=>!(es.map (·.n)).contains n)=false):dz T fr es bs as=(if ¬ ((T.new fr (es.map Ent.c)).map (·.2.2)).Nodup then ("Twice" : Str) else ("" : Str)):=by
 unfold dz
 rw [if_neg (by rw [hw];decide),if_neg (by rw [hn];decide),if_neg]
 rintro (⟨h,_⟩ | ⟨h,_⟩)
 ·exact Tn.kd_b hb h
 ·exact Tn.kd_g hg h
theorem Er (h:dz T fr es bs as=""):T.hd.all wm=true/\(∀ i,T.num=some i->∃ u∈es,u.n=i)/\(T=.ba->bs≠[])/\(T=.ag->as≠[])/\((T.new fr (es.map Ent.c)).map (·.2.2)).Nodup:=by
 unfold dz at h
 split at h
 ·exact absurd h (by decide +kernel)
 rename_i h1
 split at h
 ·exact absurd h (by decide +kernel)
 rename_i h2
 split at h
 ·exact absurd h (by decide +kernel)
 rename_i h3
 split at h
 ·exact absurd h (by decide +kernel)
 rename_i h4
 refine ⟨by simpa using h1,fun i hi=>?_,fun e hb=>h3 (.inl ?_),fun e hb=>h3 (.inr ?_),Classical.not_not.mp h4⟩
 ·rw [hi] at h2
  have:(es.map (·.n)).contains i=true:=by simpa using h2
  rw [List.contains_eq_mem,decide_eq_true_eq] at this
  obtain ⟨u,hu,e⟩:=List.mem_map.mp this
  exact ⟨u,hu,e⟩
 ·subst e;exact ⟨rfl,by rw [hb];rfl⟩
 ·subst e;exact ⟨rfl,by rw [hb];rfl⟩
end
theorem Ce {x e:Addr} (h:tD x e H H'):eZ x e l H H':=fun c o h1 h2 _ h4=>h c o h1 h2 h4
section
variable {t:Addr}{Q:VK}{E:XK}{x e:Addr}{n k:Int}{m:Addr}{N:Nat}{st:Addr}{fr:Nat}{es:List Ent}{bs as:List kZ}
def Cg (CF CN CT CH:Addr) (E:XK) (H:Hp) (w:Str):Prop:=∀ (i:Nat) c,[CF,CN,CT,CH][i]?=some c->d9[i]?=some w->∀ H',Same H H'->E (.ref c) none H'
theorem Z8 {p:Addr} (R:RB C pool H x dx e l n k m N st d kvs rs ls en b a fr es bs as) (hT:(Tn.en p r).At pool H) (hN:N<=250) (hp:pool.length<=16) (hE:Cg CF CN CT CH E H (dz (.en p r) fr es bs as))
  (hQ:dz (.en p r) fr es bs as=""->∀ v H',eZ x e l H H'->xU pool (1+3 * N) H x dx e l C n k st kvs rs ls fr es bs as v H' (.en p r)->Q v H'):GZ C CF CN CT CH K x t H Q E (.en p r):=by
 obtain ⟨qs,rows,hv,hR,hfl,hnd,hmem⟩:=R.s.pull R.m.en.2
 have hlen:=R.len
 have hfr:=R.s.fr
 have hkl:=R.s.Vk
 have hall:(Tn.en p r).hd.all wm=wm r:=by simp [Tn.hd]
 have hnew:((Tn.en p r).new fr (es.map Ent.c)).map (·.2.2)=(es.map Ent.c).map (·.2.2)++[r]:=by
  show ((es.map Ent.c)++newL fr [p] [r]).map (·.2.2)=_
  rw [lR];rfl
 have Mh:((es.map Ent.c).map (·.2.2)++[r]).Nodup↔r∉rows:=by
  rw [vC,vD fun q=>(hmem q).symm]
  constructor
  ·rintro ⟨_,h⟩ hr
   exact h ⟨0,r,rfl,by simpa using hr⟩
  ·intro h
   refine ⟨R.s.nd,?_⟩
   rintro ⟨i,q,h1,h2⟩
   cases i with
   | zero =>
    have e:r=q:=by simpa using h1
    subst e
    exact h (by simpa using h2)
   | succ j=>simp at h1
 refine ⟨x,dx,st,d,e,l,n,k,kvs,rs,ls,p,r,fr,qs,rows,rfl,R.r,hT.1,hT.2.1,hv,hR,hfl,R.s.klt,by lia,R.xe,by lia,by lia,fun hw H' s'=>?_,fun hw hr H' s'=>?_,fun hw hr d' st' l' H' kp R' hst hl' hd'=>?_⟩
 ·exact hE 0 CF rfl (by rw [pB (hall.trans hw)];rfl) H' s'
 ·refine hE 2 CT rfl ?_ H' s'
  rw [fU (T:=.en p r) (fun e=>by cases e) (fun e=>by cases e) (hall.trans hw) rfl,if_pos (by rw [hnew,Mh];exact fun h=>h hr)];rfl
 ·refine hQ ?_ _ H' (Ce kp) ⟨rfl,st',d',l',hl',R'⟩
  rw [fU (T:=.en p r) (fun e=>by cases e) (fun e=>by cases e) (hall.trans hw) rfl,if_neg (by rw [hnew,Mh];exact fun h=>h hr)]
theorem qM (R:RB C pool H x dx e l n k m N st d kvs rs ls en b a fr es bs as) {u:Ent} (hu:u∈es):fP kvs u.n=some (.ref u.p):=Qm R.s.pm R.s.up (List.mem_map.mpr ⟨u,hu,rfl⟩)
theorem zQ (R:RB C pool H x dx e l n k m N st d kvs rs ls en b a fr es bs as) {i:Int} (hi:∀ u∈es,u.n≠i):fP kvs i=none:=Qn R.s.pm fun y hy=>by
 obtain ⟨u,hu,rfl⟩:=List.mem_map.mp hy
 exact hi u hu
theorem Z9 {i:Int} (R:RB C pool H x dx e l n k m N st d kvs rs ls en b a fr es bs as) (hN:N<=250) (hE:Cg CF CN CT CH E H (dz (.st i) fr es bs as))
  (hQ:dz (.st i) fr es bs as=""->∀ v H',eZ x e l H H'->xU pool (1+3 * N) H x dx e l C n k st kvs rs ls fr es bs as v H' (.st i)->Q v H'):GZ C CF CN CT CH K x t H Q E (.st i):=by
 have hlen:=R.len
 by_cases hi:∃ u∈es,u.n=i
 ·obtain ⟨u,hu,rfl⟩:=hi
  refine ⟨x,dx,st,d,e,l,n,k,_,kvs,rs,ls,u.n,rfl,R.r,by lia,R.xe,fun h=>?_,fun v hv d' st' l' H' kp R' hst hl' hd'=>?_⟩
  ·rw [qM R hu] at h;cases h
  ·rw [qM R hu] at hv
   injection hv with hv
   refine hQ ?_ _ H' (Ce kp) ⟨⟨u,hu,rfl,hv.symm⟩,st',d',l',hl',R'⟩
   rw [fU (T:=.st u.n) (fun e=>by cases e) (fun e=>by cases e) rfl (Cd (T:=.st u.n) rfl hu rfl),if_neg]
   refine Classical.not_not.mpr ?_
   refine List.Nodup.sublist (List.Sublist.map _ ?_) R.s.nd
   show List.Sublist (((es.map Ent.c)++[]).filter _) _
   rw [List.append_nil]
   exact List.filter_sublist
 ·have hi':∀ u∈es,u.n≠i:=fun u hu e=>hi ⟨u,hu,e⟩
  refine ⟨x,dx,st,d,e,l,n,k,_,kvs,rs,ls,i,rfl,R.r,by lia,R.xe,fun h=>?_,fun v hv=>?_⟩
  ·exact hE 1 CN rfl (by rw [tK (T:=.st i) rfl rfl hi'];rfl) H (Same.refl _)
  ·rw [zQ R hi'] at hv;cases hv
theorem Za (R:RB C pool H x dx e l n k m N st d kvs rs ls en b a fr es bs as) (hN:N<=250) (hE:Cg CF CN CT CH E H (dz .ba fr es bs as))
  (hQ:dz .ba fr es bs as=""->∀ v H',eZ x e l H H'->xU pool (1+3 * N) H x dx e l C n k st kvs rs ls fr es bs as v H' .ba->Q v H'):GZ C CF CN CT CH K x t H Q E .ba:=by
 have hlen:=R.len
 have hnd:((Tn.ba.new fr (es.map Ent.c)).map (·.2.2)).Nodup:=by
  show (((es.map Ent.c)++[]).map (fun y:Ct=>y.2.2)).Nodup
  rw [List.append_nil];exact R.s.nd
 refine ⟨x,dx,st,d,e,l,n,k,_,kvs,rs,ls,rfl,R.r,R.xe,R.xl,R.el,by lia,fun h=>?_,fun zJ v0 h=>?_⟩
 ·subst h
  have hb:bs=[]:=by have:=R.kb.length;cases bs with | nil=>rfl | cons=>simp at this
  refine hE 3 CH rfl ?_ H (Same.refl _)
  unfold dz
  rw [if_neg (by decide),if_neg (show ¬ (Tn.ba.num.any fun n=>!(es.map (·.n)).contains n)=true from fun h=>Bool.false_ne_true h),if_pos (.inl ⟨rfl,by rw [hb];rfl⟩)];rfl
 ·subst h
  obtain ⟨uc,s,hbs,hpb,⟨st2,d2,fM,hS,Vl⟩⟩:=Paired.snoc_inv R.kb
  refine ⟨_,fM,st2,d2,hS,fun H' kp R'=>hQ ?_ _ H' kp ⟨rfl,zJ,v0,uc,s,fM,st2,d2,rfl,hbs,hpb,hS,Vl,R'⟩⟩
  unfold dz
  rw [if_neg (by decide),if_neg (show ¬ (Tn.ba.num.any fun n=>!(es.map (·.n)).contains n)=true from fun h=>Bool.false_ne_true h),if_neg,if_neg (Classical.not_not.mpr hnd)]
  rintro (⟨_,h⟩ | ⟨h,_⟩)
  ·rw [hbs] at h;simp at h
  ·exact absurd h (by decide +kernel)
theorem Zb (R:RB C pool H x dx e l n k m N st d kvs rs ls en b a fr es bs as) (hN:N<=250) (hE:Cg CF CN CT CH E H (dz .ag fr es bs as))
  (hQ:dz .ag fr es bs as=""->∀ v H',eZ x e l H H'->xU pool (1+3 * N) H x dx e l C n k st kvs rs ls fr es bs as v H' .ag->Q v H'):GZ C CF CN CT CH K x t H Q E .ag:=by
 have hlen:=R.len
 have hnd:((Tn.ag.new fr (es.map Ent.c)).map (·.2.2)).Nodup:=by
  show (((es.map Ent.c)++[]).map (fun y:Ct=>y.2.2)).Nodup
  rw [List.append_nil];exact R.s.nd
 refine ⟨x,dx,st,d,e,l,n,k,_,kvs,rs,ls,rfl,R.r,R.xe,R.xl,R.el,by lia,fun h=>?_,fun zJ v0 h=>?_⟩
 ·subst h
  have hb:as=[]:=by have:=R.ka.length;cases as with | nil=>rfl | cons=>simp at this
  refine hE 3 CH rfl ?_ H (Same.refl _)
  unfold dz
  rw [if_neg (by decide),if_neg (show ¬ (Tn.ag.num.any fun n=>!(es.map (·.n)).contains n)=true from fun h=>Bool.false_ne_true h),if_pos (.inr ⟨rfl,by rw [hb];rfl⟩)];rfl
 ·subst h
  obtain ⟨uc,s,hbs,hpb,⟨st2,d2,fM,hS,Vl⟩⟩:=Paired.snoc_inv R.ka
  refine ⟨_,fM,st2,d2,hS,fun H' kp R'=>hQ ?_ _ H' kp ⟨rfl,zJ,v0,uc,s,fM,st2,d2,rfl,hbs,hpb,hS,Vl,R'⟩⟩
  unfold dz
  rw [if_neg (by decide),if_neg (show ¬ (Tn.ag.num.any fun n=>!(es.map (·.n)).contains n)=true from fun h=>Bool.false_ne_true h),if_neg,if_neg (Classical.not_not.mpr hnd)]
  rintro (⟨h,_⟩ | ⟨_,h⟩)
  ·exact absurd h (by decide +kernel)
  ·rw [hbs] at h;simp at h
theorem Zc {i:Int}{p:Addr} (R:RB C pool H x dx e l n k m N st d kvs rs ls en b a fr es bs as) (hT:(Tn.co i p r).At pool H) (hN:N<=250) (hp:pool.length<=16) (hE:Cg CF CN CT CH E H (dz (.co i p r) fr es bs as))
  (hQ:dz (.co i p r) fr es bs as=""->∀ v H',eZ x e l H H'->xU pool (1+3 * N) H x dx e l C n k st kvs rs ls fr es bs as v H' (.co i p r)->Q v H'):GZ C CF CN CT CH K x t H Q E (.co i p r):=by
 have hlen:=R.len
 have hkl:=R.s.Vk
 have hall:(Tn.co i p r).hd.all wm=wm r:=by simp [Tn.hd]
 have hpm:(fO kvs i).Perm (((es.map Ent.c).filter fun y=>decide (y.1≠i)).map BX):=(Ca R.s.pm).trans (by rw [BZ])
 obtain ⟨qs,rows,hv,hR,hfl,hmem⟩:=Qo hpm (H:=H) fun y hy=>by
  obtain ⟨hy,_⟩:=List.mem_filter.mp hy
  refine ⟨?_,(R.s.ok y hy).1⟩
  obtain ⟨u,hu,rfl⟩:=List.mem_map.mp hy
  exact (R.m.en.2 u hu).2
 have key:∀ u∈es,u.n=i->((((Tn.co i p r).new fr (es.map Ent.c)).map (·.2.2)).Nodup↔r∉rows):=fun u hu eu=>by
  have h1:=Vh (γ:=List V) (g:=fun y:Ct=>y.2.2) (n:=i) (p:=p) (r:=r) R.s.up ⟨_,List.mem_map.mpr ⟨u,hu,rfl⟩,eu⟩
  have h2:((Tn.co i p r).new fr (es.map Ent.c)).map (·.2.2)=(((es.map Ent.c).map fun y:Ct=>if y.1=i then (y.1,p,r) else y).map fun y:Ct=>y.2.2):=by
   show (((es.map Ent.c)++[]).map _).map _=_
   rw [List.append_nil]
  rw [h2,<- h1.nodup_iff,List.nodup_append]
  constructor
  ·rintro ⟨_,_,h⟩ hr
   exact h r ((hmem r).mp hr) r (List.mem_singleton.mpr rfl) rfl
  ·intro h
   refine ⟨List.Nodup.sublist (List.Sublist.map _ List.filter_sublist) R.s.nd,by simp,fun q hq q' hq' e=>h ((hmem r).mpr ?_)⟩
   rw [List.mem_singleton.mp hq'] at e
   have e2:q=r:=e
   rw [<- e2];exact hq
 refine ⟨x,dx,st,d,e,l,n,k,_,kvs,rs,ls,i,p,r,qs,rows,rfl,R.r,hT.1,hT.2.1,hv,hR,hfl,by lia,R.xe,by lia,fun hw H' s'=>?_,fun hw hno H' s'=>?_,fun v hw hlk=>?_⟩
 ·exact hE 0 CF rfl (by rw [pB (hall.trans hw)];rfl) H' s'
 ·refine hE 1 CN rfl ?_ H' s'
  rw [tK (T:=.co i p r) (hall.trans hw) rfl fun u hu e=>?_]
  ·rfl
  ·have:=qM R hu
   rw [e,hno] at this;cases this
 ·have hex:∃ u∈es,u.n=i:=by
   by_cases h:∃ u∈es,u.n=i
   ·exact h
   ·rw [zQ R fun u hu e=>h ⟨u,hu,e⟩] at hlk;cases hlk
  obtain ⟨u,hu,eu⟩:=hex
  have hv:v=.ref u.p:=by
   have:=qM R hu
   rw [eu,hlk] at this
   exact Option.some.inj this
  refine ⟨fun hr H' s'=>?_,fun hr d' st' l' H' kp R' hst hl' hd'=>?_⟩
  ·refine hE 2 CT rfl ?_ H' s'
   rw [fU (T:=.co i p r) (fun e=>by cases e) (fun e=>by cases e) (hall.trans hw) (Cd (T:=.co i p r) rfl hu eu),if_pos (by rw [key u hu eu];exact fun h=>h hr)];rfl
  ·refine hQ ?_ _ H' (Ce kp) ⟨⟨u,hu,eu,hv⟩,st',d',l',hl',R'⟩
   rw [fU (T:=.co i p r) (fun e=>by cases e) (fun e=>by cases e) (hall.trans hw) (Cd (T:=.co i p r) rfl hu eu),if_neg (by rw [key u hu eu];exact fun h=>h hr)]
theorem Zd {l0:Addr}{ps:List Addr}{rr:List (List V)} (R:RB C pool H x dx e l n k m N st d kvs rs ls en b a fr es bs as) (ht:H t=some (.tup [.str "all",.ref l0])) (hT:(Tn.al l0 ps rr).At pool H) (hl0:l0≠e) (hN:N<=250) (hp:pool.length<=16) (hE:Cg CF CN CT CH E H (dz (.al l0 ps rr) fr es bs as))
  (hQ:dz (.al l0 ps rr) fr es bs as=""->∀ v H',eZ x e l H H'->xU pool (1+3 * N) H x dx e l C n k st kvs rs ls fr es bs as v H' (.al l0 ps rr)->Q v H'):GZ C CF CN CT CH K x t H Q E (.al l0 ps rr):=by
 obtain ⟨qs,rows,hv,hR,hfl,hnd,hmem⟩:=R.s.pull R.m.en.2
 have hlen:=R.len
 have hfr:=R.s.fr
 have hkl:=R.s.Vk
 have hpl:=hT.2.2.2
 have hnew:((Tn.al l0 ps rr).new fr (es.map Ent.c)).map (·.2.2)=(es.map Ent.c).map (·.2.2)++rr:=by
  show ((es.map Ent.c)++newL fr ps rr).map (fun y:Ct=>y.2.2)=_
  rw [lR,vG hT.2.1]
 have Mh:((es.map Ent.c).map (·.2.2)++rr).Nodup↔¬ tZ rows rr:=by
  rw [vC,vD fun q=>(hmem q).symm]
  exact ⟨fun h=>h.2,fun h=>⟨R.s.nd,h⟩⟩
 refine ⟨hT.1,fun h hh Q1 q1=>?_⟩
 have s0:=ao hh (.lst (ps.map V.ref))
 have h0:(upd H h (.lst (ps.map V.ref))) h=some (.lst (ps.map V.ref)):=ak
 have nf:∀ c,(upd H h (.lst (ps.map V.ref))) c=none->H c=none:=fun c hc=>s0.free hc
 generalize upd H h (.lst (ps.map V.ref))=H0 at s0 h0 nf ⊢
 have R0:=R.same s0
 refine ⟨x,dx,st,d,e,l,n,k,kvs,rs,ls,h,fr,ps,qs,rr,rows,rfl,R0.r,bD.of h0,bC.Qp hT.2.1 s0,fun r hr=>(hT.2.2.1 r hr).1,hv,bC.Qp hR s0,hfl,R.s.klt,by lia,R.xe,by lia,by lia,by lia,?_,?_,?_⟩
 ·rintro ⟨r,hr,hw⟩ H' s'
  refine hE 0 CF rfl ?_ H' (s0.trans s')
  rw [pB]
  ·rfl
  ·show rr.all wm=false
   rw [List.all_eq_false]
   exact ⟨r,hr,by rw [hw];decide⟩
 ·intro hw hd H' s'
  refine hE 2 CT rfl ?_ H' (s0.trans s')
  rw [fU (T:=.al l0 ps rr) (fun e=>by cases e) (fun e=>by cases e) (List.all_eq_true.mpr hw) rfl,if_pos (by rw [hnew,Mh];exact fun h=>h hd)];rfl
 ·intro hw hd q d' st' l' H1 kp R1 hq0 hql hq hst hl' hd'
  have hxh:h≠x:=fun z=>by rw [z,R.r.o] at hh;cases hh
  have heh:h≠e:=fun z=>by rw [z,R.r.e] at hh;cases hh
  have h1:H1 h=some (.lst (ps.map V.ref)):=kp h _ hxh heh h0
  have hqh:q≠h:=fun z=>by rw [z,h0] at hq0;cases hq0
  have nl0:l0≠x:=fun z=>by have:=hT.1;rw [z,R.r.o] at this;cases this
  have ntx:t≠x:=fun z=>by rw [z,R.r.o] at ht;cases ht
  have nte:t≠e:=fun z=>by rw [z,R.r.e] at ht;cases ht
  refine q1 q _ H1 hq (by unfold nums;rw [bR,List.length_range];lia) hqh h1 (kp _ _ nl0 hl0 (s0 _ _ hT.1)) (kp _ _ ntx nte (s0 _ _ ht)) fun k2 hk2=>?_
  have eqh:e≠q:=fun z=>by have:=s0 _ _ R.r.e;rw [z,hq0] at this;cases this
  have nk:∀ c o,H1 c=some o->c≠k2:=fun c o hc z=>by rw [z,hk2] at hc;cases hc
  have fin:∀ c o,H1 c=some o->c≠h->c≠q->(upd (upd (upd H1 k2 (.lst (nums fr ps.length))) h (.lst [])) q (.lst (nums fr ps.length++[.int 0]))) c=some o:=fun c o hc z1 z2=>by
   rw [aC z2,aC z1,aC (nk c o hc)];exact hc
  have Ci:∀ {c:Addr}{o:HO},H1 c=some o->(∀ v,o≠.lst v)->c≠h/\c≠q:=fun {c o} hc hn=>⟨fun z=>by rw [z,h1] at hc;injection hc with hc;exact hn _ hc.symm,fun z=>by rw [z,hq] at hc;injection hc with hc;exact hn _ hc.symm⟩
  refine hQ ?_ _ _ (fun c o c1 c2 _ hc=>?_) ⟨⟨k2,rfl,?_⟩,st',d',l',nf _ hl',?_⟩
  ·rw [fU (T:=.al l0 ps rr) (fun e=>by cases e) (fun e=>by cases e) (List.all_eq_true.mpr hw) rfl,if_neg (by rw [hnew,Mh];exact fun h=>h hd)]
  ·exact fin c o (kp c o c1 c2 (s0 _ _ hc)) (fun z=>by rw [z,hh] at hc;cases hc) (fun z=>by rw [z,nf _ hq0] at hc;cases hc)
  ·rw [aC (fun z=>by rw [z,hq] at hk2;cases hk2),aC (fun z=>by rw [z,h1] at hk2;cases hk2),ak]
  ·obtain ⟨o1,o2⟩:=Ci R1.o (fun v z=>by cases z)
   obtain ⟨o3,o4⟩:=Ci R1.s (fun v z=>by cases z)
   obtain ⟨o5,o6⟩:=Ci R1.k (fun v z=>by cases z)
   exact ⟨fin _ _ R1.o o1 o2,fin _ _ R1.s o3 o4,fin _ _ R1.k o5 o6,fin _ _ R1.e (Ne.symm heh) eqh,fin _ _ R1.l (fun z=>by rw [z,h0] at hl';cases hl') (Ne.symm hql)⟩
end
section
variable {t:Addr}{x e:Addr}{n k:Int}{m:Addr}{N:Nat}{st:Addr}{fr:Nat}{es:List Ent}{bs as:List kZ}{T:Tn}
theorem RB.kt (R:RB C pool H x dx e l n k m N st d kvs rs ls en b a fr es bs as) (kp:eZ x e l H H'):∀ c u,H c=some (.tup u)->H' c=some (.tup u):=fun c u h=>kp c _ (fun z=>by rw [z,R.r.o] at h;cases h) (fun z=>by rw [z,R.r.e] at h;cases h) (fun z=>by rw [z,R.r.l] at h;cases h) h
theorem RB.kd (R:RB C pool H x dx e l n k m N st d kvs rs ls en b a fr es bs as) (kp:eZ x e l H H'):∀ c u,H c=some (.dK u)->H' c=some (.dK u):=fun c u h=>kp c _ (fun z=>by rw [z,R.r.o] at h;cases h) (fun z=>by rw [z,R.r.e] at h;cases h) (fun z=>by rw [z,R.r.l] at h;cases h) h
theorem RB.kl (R:RB C pool H x dx e l n k m N st d kvs rs ls en b a fr es bs as) (kp:eZ x e l H H'):∀ c u,c≠e->c≠l->H c=some (.lst u)->H' c=some (.lst u):=fun c u h1 h2 h=>kp c _ (fun z=>by rw [z,R.r.o] at h;cases h) h1 h2 h
theorem RB.Mi (R:RB C pool H x dx e l n k m N st d kvs rs ls en b a fr es bs as) (kp:eZ x e l H H') {c:Addr}{us:List Ent} (h:jE H c us) (h1:c≠e/\c≠l):jE H' c us :=
 ⟨R.kl kp _ _ h1.1 h1.2 h.1,fun u hu=>⟨R.kt kp _ _ (h.2 u hu).1,R.kt kp _ _ (h.2 u hu).2⟩⟩
theorem RB.Ze (R:RB C pool H x dx e l n k m N st d kvs rs ls en b a fr es bs as) (kp:eZ x e l H H'):gM H' m en b a fr es bs as :=
 ⟨R.kd kp _ _ R.m.m,R.Mi kp R.m.en R.Wr,R.kl kp _ _ R.nb.1 R.nb.2 R.m.b,R.kl kp _ _ R.na.1 R.na.2 R.m.a,
  fun s hs=>⟨R.kt kp _ _ (R.m.bs s hs).1,R.Mi kp (R.m.bs s hs).2 (R.ns s (.inl hs))⟩,fun s hs=>⟨R.kt kp _ _ (R.m.as s hs).1,R.Mi kp (R.m.as s hs).2 (R.ns s (.inr hs))⟩⟩
theorem zR {α:Type}{l l':List α}{x y:α} (h:l++[x]=l'++[y]):l=l'/\x=y:=by
 have:=List.append_inj' h rfl
 exact ⟨this.1,by simpa using this.2⟩
theorem RB.after {m' b' a':Addr}{es':List Ent}{bs' as':List kZ} (R:RB C pool H x dx e l n k m N st d kvs rs ls en b a fr es bs as) (hT:T.At pool H) (ok:dz T fr es bs as="") (kp:eZ x e l H H')
  (o:xU pool (1+3 * N) H x dx e l C n k st kvs rs ls fr es bs as v H' T) (s2:Same H' H2) (M:gM H2 m' en' b' a' fr' es' bs' as') (hb':H' b'=none) (ha':H' a'=none) (mv:RL H' en fr es bs as en' fr' es' bs' as' T) :
  ∃ l',(l'=l\/H l'=none)/\Vi C pool H2 x dx e l' n k m' (N+1):=by
 obtain ⟨o1,o2,o3,o4,o5⟩:=Er ok
 have hF:1+3 * N<=1+3 * (N+1):=by lia
 have kt2:∀ c u,H c=some (.tup u)->H2 c=some (.tup u):=fun c u h=>s2 _ _ (R.kt kp c u h)
 have kd2:∀ c u,H c=some (.dK u)->H2 c=some (.dK u):=fun c u h=>s2 _ _ (R.kd kp c u h)
 have up:∀ {vs:List V}{ss:List kZ},Paired (N6 pool (1+3 * N) H) vs ss->Paired (N6 pool (1+3 * (N+1)) H2) vs ss:=fun h=>L2.Paired.iB h fun v s z=>z.at kt2 kd2 hF
 have now:∀ q,N6 pool (1+3 * (N+1)) H2 (.ref st) ⟨q,en,fr,es⟩:=fun q=>⟨st,d,kvs,⟨rfl,kt2 _ _ R.r.s,kd2 _ _ R.r.k⟩,R.s.mono hF⟩
 have hlen:=R.len
 by_cases hba:T=.ba
 ·subst hba
  obtain ⟨_,Vj,v0,uc,s,fM,st2,d2,rfl,rfl,hpb,hS,Vl,R'⟩:=o
  obtain ⟨bs1,s1,q,hbs,rfl,rfl,rfl,rfl,rfl⟩:=mv
  obtain ⟨rfl,rfl⟩:=zR hbs
  have fe:b'≠e:=fun z=>by rw [z,R'.e] at hb';cases hb'
  have fl:b'≠l:=fun z=>by rw [z,R'.l] at hb';cases hb'
  have ge:a'≠e:=fun z=>by rw [z,R'.e] at ha';cases ha'
  have gl:a'≠l:=fun z=>by rw [z,R'.l] at ha';cases ha'
  refine ⟨l,.inl rfl,st2,d2,fM,Vj,_,_,b',a',_,_,_,_,R'.same s2,M,Vl.mono hF,up hpb,gQ (up R.ka) (now q),?_,R.xe,R.xl,R.el,R.ns _ (.inl (by simp)),⟨fe,fl⟩,⟨ge,gl⟩,fun z hz=>?_⟩
  ·simp at hlen ⊢;lia
  ·rcases hz with hz | hz
   ·exact R.ns z (.inl (List.mem_append.mpr (.inl hz)))
   ·rcases List.mem_append.mp hz with hz | hz
    ·exact R.ns z (.inr hz)
    ·rw [List.mem_singleton.mp hz];exact R.Wr
 by_cases hag:T=.ag
 ·subst hag
  obtain ⟨_,Vj,v0,uc,s,fM,st2,d2,rfl,rfl,hpb,hS,Vl,R'⟩:=o
  obtain ⟨bs1,s1,q,hbs,rfl,rfl,rfl,rfl,rfl⟩:=mv
  obtain ⟨rfl,rfl⟩:=zR hbs
  have fe:b'≠e:=fun z=>by rw [z,R'.e] at hb';cases hb'
  have fl:b'≠l:=fun z=>by rw [z,R'.l] at hb';cases hb'
  have ge:a'≠e:=fun z=>by rw [z,R'.e] at ha';cases ha'
  have gl:a'≠l:=fun z=>by rw [z,R'.l] at ha';cases ha'
  refine ⟨l,.inl rfl,st2,d2,fM,_,Vj,_,b',a',_,_,_,_,R'.same s2,M,Vl.mono hF,gQ (up R.kb) (now q),up hpb,?_,R.xe,R.xl,R.el,R.ns _ (.inr (by simp)),⟨fe,fl⟩,⟨ge,gl⟩,fun z hz=>?_⟩
  ·simp at hlen ⊢;lia
  ·rcases hz with hz | hz
   ·rcases List.mem_append.mp hz with hz | hz
    ·exact R.ns z (.inl hz)
    ·rw [List.mem_singleton.mp hz];exact R.Wr
   ·exact R.ns z (.inr (List.mem_append.mpr (.inl hz)))
 have oo:∃ st' d' l',H l'=none/\cu C H' x dx st' d' e l' n k ((fr+T.mp.length:Nat):Int) (T.kv fr kvs) (rs++[.ref st]) []:=by
  cases T with
  | ba=>exact absurd rfl hba
  | ag=>exact absurd rfl hag
  | _=>exact o.2
 have mm:∃ t,H' en'=none/\fr'=fr+T.mp.length/\es'.map Ent.c=T.new fr (es.map Ent.c)/\bs'=bs++[⟨t,en,fr,es⟩]/\as'=[]:=by
  cases T with
  | ba=>exact absurd rfl hba
  | ag=>exact absurd rfl hag
  | _=>exact mv
 obtain ⟨st',d',l',hl',R'⟩:=oo
 obtain ⟨q,hen,rfl,hes,rfl,rfl⟩:=mm
 have S:=R.s.step hT o1 (fun i hi=>by obtain ⟨u,hu,e⟩:=o2 i hi;exact ⟨_,List.mem_map.mpr ⟨u,hu,rfl⟩,e⟩) o5 hba hag
 have fr1:∀ c,H' c=none->c≠e/\c≠l':=fun c hc=>⟨fun z=>(by rw [z,R'.e] at hc;cases hc),fun z=>(by rw [z,R'.l] at hc;cases hc)⟩
 have ol:∀ c o,H c=some o->c≠l':=fun c o hc z=>by rw [z,hl'] at hc;cases hc
 refine ⟨l',.inr hl',st',d',_,_,[],en',b',a',_,es',_,[],R'.same s2,M,?_,gQ (up R.kb) (now q),.nil,?_,R.xe,ol _ _ R.r.o,ol _ _ R.r.e,fr1 _ hen,fr1 _ hb',fr1 _ ha',fun z hz=>?_⟩
 ·rw [hes]
  have e4:1+3 * (N+1)=1+3 * N+3:=by lia
  rw [e4];exact S
 ·simp at hlen ⊢;lia
 ·rcases hz with hz | hz
  ·rcases List.mem_append.mp hz with hz | hz
   ·exact ⟨(R.ns z (.inl hz)).1,ol _ _ (R.m.bs z hz).2.1⟩
   ·rw [List.mem_singleton.mp hz];exact ⟨R.Wr.1,ol _ _ R.m.en.1⟩
  ·cases hz
end
section
variable {t:Addr}{Q:VK}{E:XK}{x e:Addr}{n k:Int}{m:Addr}{N:Nat}{st:Addr}{fr:Nat}{es:List Ent}{bs as:List kZ}
theorem Vm {T:Tn} (R:RB C pool H x dx e l n k m N st d kvs rs ls en b a fr es bs as) (ht:H t=some (.tup T.vs)) (hT:T.At pool H) (hl0:∀ l0 ps us,T=.al l0 ps us->l0≠e) (hN:N<=250) (hp:pool.length<=16) (hE:Cg CF CN CT CH E H (dz T fr es bs as))
  (hQ:dz T fr es bs as=""->∀ v H',eZ x e l H H'->xU pool (1+3 * N) H x dx e l C n k st kvs rs ls fr es bs as v H' T->Q v H'):GZ C CF CN CT CH K x t H Q E T:=by
 cases T with
 | en p r=>exact Z8 R hT hN hp hE hQ
 | al l0 ps us=>exact Zd R ht hT (hl0 _ _ _ rfl) hN hp hE hQ
 | st i=>exact Z9 R hN hE hQ
 | co i p r=>exact Zc R hT hN hp hE hQ
 | ba=>exact Za R hN hE hQ
 | ag=>exact Zb R hN hE hQ
theorem RB.mono (R:RB C pool H x dx e l n k m N st d kvs rs ls en b a fr es bs as):RB C pool H x dx e l n k m (N+1) st d kvs rs ls en b a fr es bs as :=
 have hF:1+3 * N<=1+3 * (N+1):=by lia
 ⟨R.r,R.m,R.s.mono hF,L2.Paired.iB R.kb fun v s z=>z.at (fun _ _ h=>h) (fun _ _ h=>h) hF,L2.Paired.iB R.ka fun v s z=>z.at (fun _ _ h=>h) (fun _ _ h=>h) hF,Nat.le_succ_of_le R.len,R.xe,R.xl,R.el,R.Wr,R.nb,R.na,R.ns⟩
end
theorem Mj {p q:Addr}{fr:Nat} (hp:H p=some (.lst (nums fr j))) (hq:H q=some (.lst (nums fr j))) (hj:j<=1000):MJ H (n+2) (.ref p) (.ref q):=by
 refine .inr (.inr ⟨p,q,_,_,rfl,rfl,hp,hq,rfl,?_,fun i u w hu hw=>?_⟩)
 ·unfold nums;rw [bR,List.length_range];exact hj
 ·rw [hu] at hw
  injection hw with hw
  unfold nums at hu
  rw [lW] at hu
  obtain ⟨z,_,rfl⟩:=Option.map_eq_some_iff.mp hu
  exact .inl ⟨hw,rfl⟩
theorem Qq {H3:Hp}{x e st:Addr}{n k:Int}{fr:Nat}{es:List Ent}{bs as:List kZ}{T:Tn}{Qc:VK} (out:xU pool F H x dx e l C n k st kvs rs ls fr es bs as v H' T) (s3:Same H' H3) (hT:T.At pool H3) (hr:∀ u∈es,H3 u.p=some (.tup u.r)/\dw u.r)
  (go:∀ w H4,Same H3 H4->MJ H4 4 v w->Qc w H4):RT fr es H3 Qc T:=by
 cases T with
 | en p r =>
  obtain ⟨rfl,_⟩:=out
  exact fun H4 s4=>go _ _ s4 (.inl ⟨rfl,rfl⟩)
 | al l0 ps us =>
  obtain ⟨⟨q,rfl,hq⟩,_⟩:=out
  have:=hT.2.2.2
  exact fun q' H4 s4 hq'=>go _ _ s4 (Mj (n:=2) (s4 _ _ (s3 _ _ hq)) hq' (by lia))
 | st i =>
  obtain ⟨⟨u,hu,e,rfl⟩,_⟩:=out
  exact ⟨u,hu,e,fun H4 s4=>go _ _ s4 (xT (n:=2) (s4 _ _ (hr u hu).1) (hr u hu).2)⟩
 | co i p r =>
  obtain ⟨⟨u,hu,e,rfl⟩,_⟩:=out
  exact ⟨u,hu,e,fun H4 s4=>go _ _ s4 (xT (n:=2) (s4 _ _ (hr u hu).1) (hr u hu).2)⟩
 | ba =>
  obtain ⟨rfl,_⟩:=out
  exact fun H4 s4=>go _ _ s4 (.inl ⟨rfl,rfl⟩)
 | ag =>
  obtain ⟨rfl,_⟩:=out
  exact fun H4 s4=>go _ _ s4 (.inl ⟨rfl,rfl⟩)
theorem RL.free {fr:Nat}{es es':List Ent}{bs as bs' as':List kZ}{T:Tn} (h:RL H' en fr es bs as en' fr' es' bs' as' T) (s:Same H H'):RL H en fr es bs as en' fr' es' bs' as' T:=by
 cases T with
 | ba=>exact h
 | ag=>exact h
 | _=>obtain ⟨t,h1,h2⟩:=h;exact ⟨t,s.free h1,h2⟩
def Ml (C:Addr):Sp:=fun vs H Q _=>∃ (pool:List (List V)) (x dx e l m t:Addr) (n k:Int) (N:Nat) (T:Tn),vs=[.ref x,.ref m,.ref t]/\Vi C pool H x dx e l n k m N/\H t=some (.tup T.vs)/\T.At pool H/\(∀ l0 ps us,T=.al l0 ps us->l0≠e/\l0≠l)/\N<=250/\pool.length<=16 /\
 ∀ m' l' H',eZ x e l H H'->Vi C pool H' x dx e l' n k m' (N+1)->(l'=l\/H l'=none)->Q (.ref m') H'
abbrev nSt:List Str:=["_law_roll", "_law_model", "_law_turn_here", "_law_due", "_law_word", "_law_told_here"]
theorem Qs:aY nSt ["_law_roll", "_law_model", "_law_turn_here"] (aA uW):=⟨rfl,rfl,rfl,by decide +kernel,rfl,by decide +kernel,by decide +kernel⟩
theorem Qt (F:iC K "_law_step" "_law_step" uW f fd) 
  (G1:bf P w K mg base dj 3 g1 d1 ["_law_model", "_law_turn_here"] Em) (M1:Ms K mg "_law_refusal" g1 d1 ["_law_model", "_law_turn_here"])
  (G2:bf P w K mg base dj 8 g2 d2 ["_law_roll", "_law_turn_here"] (RV C CF CN CT CH K)) (M2:Ms K mg "_law_roll_try" g2 d2 ["_law_roll", "_law_turn_here"])
  (G3:bf P w K mg base dj 4 g3 d3 ["_law_found", "_law_due"] (sH 4)) (M3:Ms K mg "_law_same" g3 d3 ["_law_found", "_law_due"])
  (G4:bf P w K mg base dj 1 g4 d4 ["_law_model", "_law_turn_here"] Mg) (M4:Ms K mg "_law_told" g4 d4 ["_law_model", "_law_turn_here"])
  (G5:bf P w K mg base dj 2 g5 d5 ["_law_model", "_law_turn_here"] xR) (M5:Ms K mg "_law_moved" g5 d5 ["_law_model", "_law_turn_here"]):bf P w K mg base dj 9 f fd ["_law_roll", "_law_model", "_law_turn_here"] (Ml C):=by
 refine F.ok Qs (fun vs H Q E h=>?_) (fun cdv A outer s H vs Q E hr h=>?_)
 ·obtain ⟨pool,x,dx,e,l,m,t,n,k,N,T,rfl,_⟩:=h
  rfl
 obtain ⟨pool,x,dx,e,l,m,t,n,k,N,T,rfl,RX,ht,hT,hl0,hN,hpl,kk⟩:=h
 obtain ⟨st,d,kvs,rs,ls,en,b,a,fr,es,bs,as,R⟩:=RX
 have h3:cM 3 _:=hr.mono (by decide)
 have h4:cM 4 _:=hr.mono (by decide)
 have h1:cM 1 _:=hr.mono (by decide)
 have h2:cM 2 _:=hr.mono (by decide)
 refine tW.out ⟨_,aH (cD (i:=3) Qs.nd rfl (Or.inl rfl) ⟨bF G1 h3 rfl M1.m M1.k M1.b .nil bW (aj (pv 1) (aj (pv 2) aq))⟩)
  (aH ⟨iR (bF G2 hr rfl M2.m M2.k M2.b .nil bW (aj (pv 0) (aj (pv 2) aq))) (fQ rfl (bA (aO (i:=4) Qs.nd rfl (Or.inl rfl)) (bA (aO (i:=5) Qs.nd rfl (Or.inl rfl)) cX)))⟩
  (aH (cQ (aL lX (pv 4) (pv 3) (aX _)) (aZ (bM ⟨vL⟩)) bN)
  (aH (cQ (aL lX (pv 3) aG (aX _)) (aZ (bM (wv 1))) bN)
  (aH (cQ (fj (eG (bF G3 h4 rfl M3.m M3.k M3.b .nil bW (aj (pv 5) (aj (bF G4 h1 rfl M4.m M4.k M4.b .nil bW (aj (pv 1) (aj (pv 2) aq))) aq))))) (aZ (bM ⟨vL⟩)) bN)
  (aZ (bM ⟨bF G5 h2 rfl M5.m M5.k M5.b .nil bW (aj (pv 1) (aj (pv 2) aq))⟩)))))),?_⟩
 have hel:es.length<=16:=by
  have:=R.s.len
  rw [bR] at this;lia
 have hg:∀ u∈es,dw u.r:=fun u hu=>(R.s.ok _ (List.mem_map.mpr ⟨u,hu,rfl⟩)).1
 refine ⟨_,rfl,_,rfl,m,t,en,b,a,fr,es,bs,as,T,pool,rfl,R.m,by lia,hg,ht,hT,fun H1 s1=>?_⟩
 have R1:=R.same s1
 have ht1:=s1 _ _ ht
 refine ⟨_,rfl,_,rfl,x,dx,t,st,e,l,n,k,T,rfl,R1.r.o,ht1,fun lm N5=>?_⟩
 have s2:=ao N5 (.lst (iw.map V.bl))
 have m2:(upd H1 lm (.lst (iw.map V.bl))) lm=some (.lst (iw.map V.bl)):=ak
 have nlx:lm≠x:=fun z=>by rw [z,R1.r.o] at N5;cases N5
 have nle:lm≠e:=fun z=>by rw [z,R1.r.e] at N5;cases N5
 have nll:lm≠l:=fun z=>by rw [z,R1.r.l] at N5;cases N5
 generalize upd H1 lm (.lst (iw.map V.bl))=H2 at s2 m2 ⊢
 have R2:=R1.same s2
 have s12:=s1.trans s2
 refine Vm R2 (s2 _ _ ht1) (hT.same s12) (fun l0 ps us e=>(hl0 l0 ps us e).1) hN hpl (fun i c hc hw H' s'=>⟨i,c,_,rfl,hc,hw,fun p H3 s3 hp3=>?_⟩) (fun hok v H' kp out=>⟨kp _ _ nlx nle nll m2,fun p H3 s3 hp3=>?_⟩)
 ·refine ⟨p,_,rfl,bG.of hp3,rfl,_,_,rfl,_,_,rfl,?_⟩
  have hne:dz T fr es bs as≠"":=fun z=>by
   rw [z] at hw
   have hi:i<4:=(List.getElem?_eq_some_iff.mp hw).1
   match i,hi,hw with
   | 0,_,hw=>injection hw with hw;exact absurd hw (by decide +kernel)
   | 1,_,hw=>injection hw with hw;exact absurd hw (by decide +kernel)
   | 2,_,hw=>injection hw with hw;exact absurd hw (by decide +kernel)
   | 3,_,hw=>injection hw with hw;exact absurd hw (by decide +kernel)
  have g3:Same H H3:=s12.trans (s'.trans s3)
  refine ⟨rfl,_,rfl,_,rfl,rfl,_,rfl,?_⟩
  rw [decide_eq_true (rfl:V.str (dz T fr es bs as)=V.str (dz T fr es bs as))]
  refine aK ?_
  refine ⟨_,rfl,rfl,_,rfl,?_⟩
  rw [decide_eq_false (fun z=>hne (V.str.inj z):¬ V.str (dz T fr es bs as)=V.str "")]
  refine bO ⟨_,rfl,?_⟩
  exact kk m l H3 (fun c o _ _ _ h=>g3 _ _ h) ⟨st,d,kvs,rs,ls,en,b,a,fr,es,bs,as,(R.same g3).mono⟩ (.inl rfl)
 ·refine ⟨p,_,rfl,bG.of hp3,rfl,_,_,rfl,_,_,rfl,?_⟩
  have kp0:eZ x e l H H':=fun c o c1 c2 c3 h=>kp c o c1 c2 c3 (s12 _ _ h)
  have kp3:eZ x e l H H3:=fun c o c1 c2 c3 h=>s3 _ _ (kp0 c o c1 c2 c3 h)
  have M3:gM H3 m en b a fr es bs as:=(R2.Ze kp).same s3
  have ht3:H3 t=some (.tup T.vs):=s3 _ _ (R2.kt kp _ _ (s2 _ _ ht1))
  have UJ:T.At pool H3:=by
   cases T with
   | en p r=>exact ⟨s3 _ _ (R2.kt kp _ _ (s12 _ _ hT.1)),hT.2⟩
   | al l0 ps us=>exact ⟨s3 _ _ (R2.kl kp _ _ (hl0 _ _ _ rfl).1 (hl0 _ _ _ rfl).2 (s12 _ _ hT.1)),L2.Paired.iB hT.2.1 fun c r h=>s3 _ _ (R2.kt kp _ _ (s12 _ _ h)),hT.2.2⟩
   | co i p r=>exact ⟨s3 _ _ (R2.kt kp _ _ (s12 _ _ hT.1)),hT.2⟩
   | _=>exact hT
  have hup:es.Pairwise (fun x y=>x.n<y.n):=by
   have:=R.s.up
   rw [List.pairwise_map] at this
   exact this
  have hbl:bs.length<=N:=by have:=R.kb.length;have:=R.len;lia
  have hal:as.length<=N:=by have:=R.ka.length;have:=R.len;lia
  obtain ⟨o1,o2,o3,o4,o5⟩:=Er hok
  refine ⟨rfl,_,rfl,_,rfl,rfl,_,rfl,?_⟩
  rw [hok,decide_eq_true (rfl:V.str ""=V.str "")]
  refine aK ?_
  refine ⟨_,rfl,rfl,_,rfl,?_⟩
  rw [decide_eq_true (rfl:V.str ""=V.str "")]
  refine aK ?_
  have rest:∀ H4,Same H3 H4->xR [.ref m,.ref t] H4 Q E0:=fun H4 s4=>⟨m,t,en,b,a,fr,es,bs,as,T,pool,rfl,M3.same s4,by lia,by lia,by lia,s4 _ _ ht3,UJ.same s4,o3,o4,fun m' en' b' a' fr' es' bs' as' H5 s5 M5 hb5 ha5 mv=>by
   have Qh:=s3.trans (s4.trans s5)
   have s34:=s3.trans s4
   obtain ⟨l',hl',RX⟩:=R2.after (hT.same s12) hok kp out Qh M5 (s34.free hb5) (s34.free ha5) (mv.free s34)
   exact kk m' l' H5 (fun c o c1 c2 c3 h=>Qh _ _ (kp0 c o c1 c2 c3 h)) RX (hl'.imp id fun z=>s12.free z)⟩
  refine ⟨_,rfl,_,rfl,_,rfl,m,t,en,b,a,fr,es,bs,as,T,pool,rfl,M3,by lia,ht3,UJ,hup,?_⟩
  refine Qq out s3 UJ (fun u hu=>⟨(M3.en.2 u hu).2,hg u hu⟩) fun wv H4 s4 hq=>?_
  exact ⟨_,_,rfl,hq,fun H5 s5=>⟨true,rfl,aK ⟨_,rfl,_,rfl,rest H5 (s4.trans s5)⟩⟩⟩
def Es (K:PySem.W.Frag):Sp:=fun vs H Q _=>∃ (a:Addr) (ns:List Int),vs=[.ref a]/\bD K H a (ns.map V.int)/\ns.length<=63/\∀ H',Q (.bl true) H'
theorem Zf (xs:List V)  (h:j<=i) (hi:i<=xs.length):dg xs (some (j:Int)) (some (i:Int))=(xs.drop j).take (i - j):=by
 unfold dg
 rw [HT.fD,HT.fD,Nat.min_eq_left (Nat.le_trans h hi),Nat.min_eq_left hi]
def Ws:List Str:=["enter", "all", "strike", "correct", "correct"]
structure N7 (K:PySem.W.Frag) (H:Hp) (e l fa rl yl:Addr) (fs:List Int) (ps:List Addr) (pool:List (List V)):Prop where
 f:H fa=some (.lst (fs.map V.int))
 r:H rl=some (.lst (ps.map V.ref))
 y:H yl=some (.lst (Ws.map V.str))
 p:bC H ps pool
 nf:fa≠e/\fa≠l
 nr:rl≠e/\rl≠l
 ny:yl≠e/\yl≠l
theorem N7.same {e rl yl:Addr}{fs:List Int}{ps:List Addr} (h:N7 K H e l fa rl yl fs ps pool) (s:Same H H'):N7 K H' e l fa rl yl fs ps pool:=⟨s _ _ h.f,s _ _ h.r,s _ _ h.y,bC.Qp h.p s,h.nf,h.nr,h.ny⟩
theorem N7.keep {x e l' rl yl:Addr}{gs:List (Str×V)}{fs:List Int}{ps:List Addr} (h:N7 K H e l fa rl yl fs ps pool) (hx:H x=some (.ins C dx gs)) (he:H e=some (.lst rs)) (hl:H l=some (.lst ls)) (kp:eZ x e l H H') (hl':l'=l\/H l'=none):N7 K H' e l' fa rl yl fs ps pool:=by
 have go:∀ c v,c≠e/\c≠l->H c=some (.lst v)->H' c=some (.lst v)/\(c≠e/\c≠l'):=fun c v hc h=>⟨kp c _ (fun z=>by rw [z,hx] at h;cases h) hc.1 hc.2 h,hc.1,fun z=>by
  rcases hl' with e1 | e1
  ·exact hc.2 (z.trans e1)
  ·rw [z,e1] at h;cases h⟩
 obtain ⟨a1,b1⟩:=go _ _ h.nf h.f
 obtain ⟨a2,b2⟩:=go _ _ h.nr h.r
 obtain ⟨a3,b3⟩:=go _ _ h.ny h.y
 refine ⟨a1,a2,a3,L2.Paired.iB h.p fun c r hc=>kp c _ (fun z=>?_) (fun z=>?_) (fun z=>?_) hc,b1,b2,b3⟩
 ·rw [z,hx] at hc;cases hc
 ·rw [z,he] at hc;cases hc
 ·rw [z,hl] at hc;cases hc
abbrev nLw:List Str:=["_law_script", "_law_feed_here", "_law_names_here", "_law_k", "_law_rows", "_law_roll", "_law_model", "_law_ways", "_law_turn_here"]
theorem mq:aY nLw ["_law_script"] (aA tX):=⟨rfl,rfl,rfl,by decide +kernel,rfl,by decide +kernel,by decide +kernel⟩
def scL1:Scope:={ kind:=.function,names:=[(".0",.local),("_law_k",.local),("_law_any_row",.globalImplicit),("_law_feed_here",.free),("_law_names_here",.free)],isGenerator:=false,isCoroutine:=false }
theorem csL1:dF nLw (aA tX) scL1 ["_law_k"] ["_law_feed_here", "_law_names_here"] [1,2]:=⟨rfl,by decide +kernel,by decide +kernel,by decide +kernel,rfl,by decide +kernel⟩
theorem ndL1:((["_law_k"]:List Str)++(["_law_feed_here", "_law_names_here"]:List Str)).Nodup:=by decide +kernel
theorem Vn (F:iC K "law" "law" tX f fd) (mr:mg "range"=none) {g6 g7 g8:Addr}{d6 d7 d8:FuncData}
  (G1:bf P w K mg base dj 1 g1 d1 ["_law_script", "_law_many"] (Jx K)) (M1:Ms K mg "_law_feed" g1 d1 ["_law_script", "_law_many"])
  (G2:bf P w K mg base dj 1 g2 d2 ["_law_d", "_law_many"] (Dz K)) (M2:Ms K mg "_law_names" g2 d2 ["_law_d", "_law_many"])
  (G3:bf P w K mg base dj 2 g3 d3 ["_law_d", "_law_names_here"] (Rk K)) (M3:Ms K mg "_law_any_row" g3 d3 ["_law_d", "_law_names_here"])
  (G4:bf P w K mg base dj 5 g4 d4 ["self", "acres", "bears"] (DR C)) (MK4:Mk K C g4) (mR:mg "Roll"=some (.ref C)) (b4:Binds K d4 ["self", "acres", "bears"] [])
  (G5:bf P w K mg base dj 1 g5 d5 [] El) (M5:Ms K mg "_law_plain_model" g5 d5 [])
  (G6:bf P w K mg base dj 3 g6 d6 ["_law_model", "_law_rows", "_law_d", "_law_ways"] (Lj K)) (M6:Ms K mg "_law_turn" g6 d6 ["_law_model", "_law_rows", "_law_d", "_law_ways"])
  (G7:bf P w K mg base dj 9 g7 d7 ["_law_roll", "_law_model", "_law_turn_here"] (Ml C)) (M7:Ms K mg "_law_step" g7 d7 ["_law_roll", "_law_model", "_law_turn_here"])
  (G8:bf P w K mg base dj 5 g8 d8 ["_law_roll", "_law_model"] (Vc C)) (M8:Ms K mg "_law_roll_is" g8 d8 ["_law_roll", "_law_model"]):bf P w K mg base dj 10 f fd ["_law_script"] (Es K):=by
 refine F.ok mq (fun vs H Q E h=>?_) (fun cdv A outer s H vs Q E hr h=>?_)
 ·obtain ⟨a,ns,rfl,_⟩:=h
  rfl
 obtain ⟨a0,ns,rfl,hS,h63,kk⟩:=h
 have hr1:cM 1 _:=hr.mono (by decide)
 have hr2:cM 2 _:=hr.mono (by decide)
 have Rm:cM 3 _:=hr.mono (by decide)
 have YW:cM 5 _:=hr.mono (by decide)
 have hr6:cM 6 _:=hr.mono (by decide)
 refine tW.out ⟨_,aH (cD (i:=1) mq.nd rfl (Or.inr rfl) ⟨bF G1 hr1 rfl M1.m M1.k M1.b .nil bW (aj (pv 0) (aj au aq))⟩)
  (aH (cD (i:=2) mq.nd rfl (Or.inr rfl) ⟨bF G2 hr1 rfl M2.m M2.k M2.b .nil bW (aj (cT nA (pv 1) (cR au) (cR au)) (aj au aq))⟩)
  (aH ⟨qp (i:=4) rfl csL1 (eU rfl mr (aj (aQ cC au (aQ bV (aM bB (pv 1) au aU) au)) aq)) (fun s H fp C=>⟨aO (i:=0) ndL1 rfl (Or.inl rfl),dZ,bF G3 hr2 rfl M3.m M3.k M3.b .nil bW (aj (cT (yF (K:=K)) (pv 1) (cR (aQ cC au (aQ gW au (pv 0)))) fY) (aj (pv 2) aq))⟩) mq.nd rfl (Or.inl rfl)⟩
  (aH (cD (i:=5) mq.nd rfl (Or.inl rfl) ⟨Nk (CX:=dj) (E:=E0) MK4 G4 hr6 rfl mR b4 .nil bW (aj (aQ cC au (aQ bV (aM bB (pv 1) au aU) au)) (aj (aQ bV (aM bB (pv 1) au aU) au) aq))⟩)
  (aH (cD (i:=6) mq.nd rfl (Or.inl rfl) ⟨ni G5 hr1 rfl M5.m M5.k M5.b .nil bW⟩)
  (aH (cD (i:=7) mq.nd rfl (Or.inl rfl) ⟨cP (aj aG (aj aG (aj aG (aj aG (aj aG aq)))))⟩)
  (aH (Jw PassesOwn.never rfl (eU rfl mr (aj (aQ bV (aM bB (pv 1) au aU) au) aq)) (aO (i:=3) mq.nd rfl (Or.inl rfl))
   (aH (cD (i:=8) mq.nd rfl (Or.inl rfl) ⟨bF G6 Rm rfl M6.m M6.k M6.b .nil bW (aj (pv 6) (aj (pv 4) (aj (cT nA (pv 1) (cR (aQ cC au (aQ gW au (pv 3)))) (cR (aQ cC au (aQ gW au (pv 3))))) (aj (pv 7) aq))))⟩)
   (aH (cD (i:=6) mq.nd rfl (Or.inl rfl) ⟨bF G7 hr rfl M7.m M7.k M7.b .nil bW (aj (pv 5) (aj (pv 6) (aj (pv 8) aq)))⟩)
   (aH (cQ (zZ (zY (pv 6))) (aZ (bM ⟨dX⟩)) bN)
   (aZ (cQ (PW.pt (jl (PW.pt (uf (aL bZ (aQ bV (pv 3) au) au (aX _)) (nZ (aL bZ (aQ bV (aM bB (pv 1) au aU) au) au (aX _))))) (gD (fj (eG (bF G8 YW rfl M8.m M8.k M8.b .nil bW (aj (pv 5) (aj (pv 6) aq)))))))) (aZ (bM ⟨dX⟩)) bN))))))
  (aZ (bM ⟨bF G8 YW rfl M8.m M8.k M8.b .nil bW (aj (pv 5) (aj (pv 6) aq))⟩)))))))),?_⟩
 refine ⟨_,rfl,a0,ns,360,rfl,hS,h63,by decide,by decide,fun fa H1 fs s1 hfa0 hfa hfl hfo=>?_⟩
 have hlen:fs.length=360:=by lia
 obtain ⟨v0,e0,o0⟩:=je hfo (i:=0) (by decide) (by lia)
 obtain ⟨v1,e1,o1⟩:=je hfo (i:=1) (by decide) (by lia)
 obtain ⟨v2,e2,o2⟩:=je hfo (i:=2) (by decide) (by lia)
 obtain ⟨Wt,e12,o12⟩:=je hfo (i:=12) (by decide) (by lia)
 obtain ⟨Wu,e15,o15⟩:=je hfo (i:=15) (by decide) (by lia)
 refine ⟨_,rfl,_,rfl,_,rfl,fa,_,rfl,bD.of hfa,fun D hD=>?_⟩
 have c48:dg (fs.map V.int) (some 4) (some 8)=((fs.drop 4).take 4).map V.int:=by
  rw [show (4:Int)=((4:Nat):Int) from rfl,show (8:Int)=((8:Nat):Int) from rfl,Zf _ (by decide) (by rw [bR];lia),List.map_take,List.map_drop]
 rw [c48]
 have sD:=ao hD (.lst (((fs.drop 4).take 4).map V.int))
 refine ⟨D,(fs.drop 4).take 4,4,rfl,bD.of ak,by rw [List.length_take,List.length_drop];lia,fun v hv=>hfo v (List.mem_of_mem_drop (List.mem_of_mem_take hv)),by decide,by decide,fun nm H2 zs s2' hn0 hnm Ra hzn hzd=>?_⟩
 have s2:Same H1 H2:=sD.trans s2'
 have Vo:=s2 _ _ hfa
 have z4:zs.length=4:=Ra
 clear s2' sD hD c48 hn0
 have b0:=Int.emod_nonneg v0 (show (16:Int)≠0 by decide)
 have b1:=Int.emod_lt_of_pos v0 (show (0:Int)<16 by decide)
 refine ⟨_,rfl,fa,_,_,_,rfl,rfl,bD.of Vo,e0,_,_,rfl,rfl,(by show (0:Int)<16;decide),_,_,rfl,rfl,1+v0 % 16,rfl,by lia,by lia,fun rl hrl=>?_⟩
 refine ju (lo:=0) (n:=(1+v0 % 16).toNat) (fun i ys H5=>∃ (qs:List Addr) (us:List (List V)),ys=qs.map V.ref/\qs.length=i/\bC H5 qs us/\(∀ r∈us,zK r)/\Same H2 H5/\H5 rl=some (.lst ys)) ⟨[],[],rfl,rfl,.nil,(fun r hr=>nomatch hr),ao hrl _,ak⟩ (fun i ys H5 h=>by obtain ⟨qs,us,_,_,_,_,_,h⟩:=h;exact h) ?_ ?_
 ·rintro i ys H5 hi ⟨qs,us,rfl,hql,Yx,hus,s5,zL⟩
  refine ⟨Kp.set rfl (Kp.refl _),?_⟩
  refine dY ?_
  refine ⟨_,rfl,_,rfl,_,_,rfl,rfl,.inl ⟨by decide,by decide⟩,_,_,rfl,rfl,_,rfl,fa,_,rfl,bD.of (s5 _ _ Vo),fun D6 Wo=>?_⟩
  have hi20:i<=16:=by lia
  have e6:dg (fs.map V.int) (some (20+5 * (0+(i:Int)))) none=(fs.drop (20+5 * i)).map V.int:=by
   rw [show (20+5 * (0+(i:Int)):Int)=((20+5 * i:Nat):Int) by lia,V1 _ _ (by rw [bR];lia),List.map_drop]
  rw [e6]
  have s6:=ao Wo (.lst ((fs.drop (20+5 * i)).map V.int))
  have l6:(upd H5 D6 (.lst ((fs.drop (20+5 * i)).map V.int))) D6=some (.lst ((fs.drop (20+5 * i)).map V.int)):=ak
  generalize upd H5 D6 (.lst ((fs.drop (20+5 * i)).map V.int))=H6 at s6 l6 ⊢
  refine ⟨_,rfl,D6,nm,fs.drop (20+5 * i),zs,rfl,bD.of l6,by rw [List.length_drop];lia,fun v hv=>hfo v (List.mem_of_mem_drop hv),bD.of (s6 _ _ (s5 _ _ hnm)),by lia,by lia,hzn,hzd,fun p k rest H7 s7 hp7 h6 hR hw=>⟨s7 _ _ (s6 _ _ zL),?_,?_⟩⟩
  ·rw [bR];exact cj (by lia)
  ·have Q8:Same H5 H7:=s6.trans s7
   refine ⟨qs++[p],us++[.str k::rest],by simp,by simp [hql],?_,?_,aV (s5.trans Q8) hrl,ak⟩
   ·have nt:∀ c r,H7 c=some (.tup r)->c≠rl:=fun c r h e=>by rw [e,Q8 _ _ zL] at h;cases h
    refine gQ (L2.Paired.iB Yx fun c r h=>?_) ?_
    ·rw [aC (nt c r (Q8 _ _ h))];exact Q8 _ _ h
    ·rw [aC (nt p _ hp7)];exact hp7
   ·intro r' hr'
    rcases List.mem_append.mp hr' with h | h
    ·exact hus r' h
    ·rw [List.mem_singleton.mp h];exact ⟨k,rest,rfl,h6,hR,hw⟩
 rintro ys H3 ⟨ps,pool,rfl,hpl,hps,Zg,s3,Zh⟩
 have lpool:pool.length=ps.length:=(PySem.Paired.length hps).symm
 have Qu:=s3 _ _ Vo
 have c0:=Int.emod_nonneg Wt (show (9999:Int)≠0 by decide)
 have c1:=Int.emod_lt_of_pos Wt (show (0:Int)<9999 by decide)
 have c2:=Int.emod_nonneg Wu (show (100:Int)≠0 by decide)
 have c3:=Int.emod_lt_of_pos Wu (show (0:Int)<100 by decide)
 refine ⟨_,rfl,fa,_,_,_,rfl,rfl,bD.of Qu,e12,_,_,rfl,rfl,(by show (0:Int)<9999;decide),_,_,rfl,rfl,_,rfl,fa,_,_,_,rfl,rfl,bD.of Qu,e15,_,_,rfl,rfl,(by show (0:Int)<100;decide),fun x dx hx0 Vp hne=>?_⟩
 refine ⟨x,dx,_,_,rfl,ak,?_,fun st d e l H4 kx RA hst0 hd0 he0 hl0 xG KH Gx nxd UW=>⟨rfl,?_⟩⟩
 ·unfold DQ okB
  simp only [Bool.and_eq_true,decide_eq_true_eq]
  lia
 have s4:Same H3 H4:=fun c o hc=>kx c o (fun z=>by rw [z,hx0] at hc;cases hc) (by
  rw [aC (fun z=>by rw [z,hx0] at hc;cases hc),aC (fun z=>by rw [z,Vp] at hc;cases hc)];exact hc)
 have old:∀ c o,H3 c=some o->c≠e/\c≠l:=fun c o hc=>by
  have hx:c≠x:=fun z=>by rw [z,hx0] at hc;cases hc
  have hd:c≠dx:=fun z=>by rw [z,Vp] at hc;cases hc
  refine ⟨fun z=>?_,fun z=>?_⟩
  ·rw [<- z,aC hx,aC hd,hc] at he0;cases he0
  ·rw [<- z,aC hx,aC hd,hc] at hl0;cases hl0
 clear kx hst0 hd0 he0 hl0 hx0 Vp hne
 refine ⟨rfl,fun m en b a H5 s5 hen hb ha MD=>?_⟩
 have QS:∀ c,H4 c=none->c≠e/\c≠l:=fun c hc=>⟨fun z=>(by rw [z,RA.e] at hc;cases hc),fun z=>(by rw [z,RA.l] at hc;cases hc)⟩
 refine ⟨small (by simp),fun yl hyl=>?_⟩
 have s6:=ao hyl (.lst (Ws.map V.str))
 have y6:(upd H5 yl (.lst (Ws.map V.str))) yl=some (.lst (Ws.map V.str)):=ak
 have ny:yl≠e/\yl≠l:=QS _ (s5.free hyl)
 have e6:upd H5 yl (.lst (Ws.map V.str))=upd H5 yl (.lst [V.str "enter",V.str "all",V.str "strike",V.str "correct",V.str "correct"]):=rfl
 rw [e6] at s6 y6
 generalize upd H5 yl (.lst [V.str "enter",V.str "all",V.str "strike",V.str "correct",V.str "correct"])=H6 at s6 y6 ⊢
 have s46:=s5.trans s6
 have RX0:Vi C pool H6 x dx e l (1+Wt % 9999) (Wu % 100) m 0:=⟨st,d,[],[],[],en,b,a,1,[],[],[],RA.same s46,MD.same s6,⟨.refl _,.nil,(fun x hx=>nomatch hx),(fun x hx=>nomatch hx),.nil,Nat.le_refl _⟩,.nil,.nil,Nat.le_refl _,xG,KH,UW,QS _ hen,QS _ hb,QS _ ha,fun s hs=>by
  rcases hs with hs | hs <;> cases hs⟩
 have SD0:N7 K H6 e l fa rl yl fs ps pool:=⟨s46 _ _ (s4 _ _ Qu),s46 _ _ (s4 _ _ Zh),y6,bC.Qp hps (s4.trans s46),old _ _ Qu,old _ _ Zh,ny⟩
 have hp16:pool.length<=16:=by lia
 have hp0:0<ps.length:=by lia
 have fin:∀ {H7:Hp}{l7 m7:Addr}{N:Nat}{Q7:VK},Vi C pool H7 x dx e l7 (1+Wt % 9999) (Wu % 100) m7 N->(∀ H8,Same H7 H8->Q7 (.bl true) H8)->Vc C [.ref x,.ref m7] H7 Q7 E0:=fun {H7 l7 m7 N Q7} RX k7=>by
  obtain ⟨st,d,kvs,rs,ls,en,b,a,fr,es,bs,as,R⟩:=RX
  have hpm:=R.s.pm
  rw [List.map_map] at hpm
  have hup:=R.s.up
  rw [List.pairwise_map] at hup
  have hl:=R.s.len
  rw [bR] at hl
  exact ⟨x,dx,st,d,e,l7,_,_,kvs,rs,ls,m7,en,b,a,fr,es,bs,as,rfl,R.r,R.m,hpm,hup,by lia,fun u hu=>(R.s.ok _ (List.mem_map.mpr ⟨u,hu,rfl⟩)).1,k7⟩
 have w0:=Int.emod_nonneg v1 (show (25:Int)≠0 by decide)
 have w1:=Int.emod_lt_of_pos v1 (show (0:Int)<25 by decide)
 refine ⟨_,rfl,fa,_,_,_,rfl,rfl,bD.of SD0.f,e1,_,_,rfl,rfl,(by show (0:Int)<25;decide),v1 % 25,rfl,by lia,by lia,?_⟩
 refine iZ (lo:=0) (n:=(v1 % 25).toNat) (fun i σ7 H7=>∃ (m7 l7:Addr) (vk vt:Option V),σ7=[some (.ref a0),some (.ref fa),some (.ref nm),vk,some (.ref rl),some (.ref x),some (.ref m7),some (.ref yl),vt]/\Vi C pool H7 x dx e l7 (1+Wt % 9999) (Wu % 100) m7 i/\N7 K H7 e l7 fa rl yl fs ps pool) ⟨m,l,none,none,rfl,RX0,SD0⟩ ?_ ?_
 ·rintro i σ7 H7 hi ⟨m7,l7,vk,vt,rfl,RX,SD⟩
  have hi24:i<25:=by lia
  refine ⟨_,rfl,_,rfl,_,rfl,_,rfl,_,_,rfl,rfl,.inl ⟨by decide,by decide⟩,_,_,rfl,rfl,_,rfl,_,rfl,_,_,rfl,rfl,.inl ⟨by decide,by decide⟩,_,_,rfl,rfl,_,rfl,fa,_,rfl,bD.of SD.f,fun D hD=>?_⟩
  have ec:dg (fs.map V.int) (some (110+8 * (0+(i:Int)))) (some (118+8 * (0+(i:Int))))=((fs.drop (110+8 * i)).take 8).map V.int:=by
   rw [show (110+8 * (0+(i:Int)):Int)=((110+8 * i:Nat):Int) by lia,show (118+8 * (0+(i:Int)):Int)=((118+8 * i:Nat):Int) by lia,Zf _ (by lia) (by rw [bR];lia),List.map_take,List.map_drop,show 118+8 * i - (110+8 * i)=8 by lia]
  rw [ec]
  have sD:=ao hD (.lst (((fs.drop (110+8 * i)).take 8).map V.int))
  have lD:(upd H7 D (.lst (((fs.drop (110+8 * i)).take 8).map V.int))) D=some (.lst (((fs.drop (110+8 * i)).take 8).map V.int)):=ak
  generalize upd H7 D (.lst (((fs.drop (110+8 * i)).take 8).map V.int))=H8 at sD lD ⊢
  have SD8:=SD.same sD
  obtain ⟨st,d,kvs,rs,ls,en,b,a,fr,es,bs,as,R7⟩:=RX
  have R8:=R7.same sD
  have hel:=R8.s.len
  rw [bR] at hel
  refine ⟨_,rfl,m7,rl,D,yl,en,b,a,fr,es,bs,as,ps,pool,(fs.drop (110+8 * i)).take 8,Ws,rfl,R8.m,by lia,bD.of SD8.r,SD8.p,hp0,Zg,bD.of lD,by rw [List.length_take,List.length_drop];lia,bD.of SD8.y,by decide,by decide +kernel,fun t T H9 s9 ht hT hfr=>?_⟩
  have R9:=R8.same s9
  have SD9:=SD8.same s9
  refine ⟨_,rfl,_,rfl,_,rfl,pool,x,dx,e,l7,m7,t,_,_,i,T,rfl,⟨st,d,kvs,rs,ls,en,b,a,fr,es,bs,as,R9⟩,ht,hT,fun l0 qs us eT=>?_,by lia,hp16,fun m' l' H10 kp RX' hl'=>?_⟩
  ·have h0:=hfr l0 qs us eT
   exact ⟨fun z=>(by rw [z,R8.r.e] at h0;cases h0),fun z=>(by rw [z,R8.r.l] at h0;cases h0)⟩
  have Zi:N7 K H10 e l' fa rl yl fs ps pool:=SD9.keep R9.r.o R9.r.e R9.r.l kp hl'
  refine ⟨_,rfl,_,rfl,?_⟩
  refine aK ?_
  have done:∀ RZ,Same H10 RZ->∃ (m7 l7:Addr) (vk vt:Option V),[some (V.ref a0),some (.ref fa),some (.ref nm),some (.int (0+(i:Int))),some (.ref rl),some (.ref x),some (.ref m'),some (.ref yl),some (.ref t)]=[some (V.ref a0),some (.ref fa),some (.ref nm),vk,some (.ref rl),some (.ref x),some (.ref m7),some (.ref yl),vt]/\Vi C pool RZ x dx e l7 (1+Wt % 9999) (Wu % 100) m7 (i+1)/\N7 K RZ e l7 fa rl yl fs ps pool:=fun RZ Wv=>by
   obtain ⟨st,d,kvs,rs,ls,en,b,a,fr,es,bs,as,R10⟩:=RX'
   exact ⟨m',l',_,_,rfl,⟨st,d,kvs,rs,ls,en,b,a,fr,es,bs,as,R10.same Wv⟩,Zi.same Wv⟩
  refine ⟨_,rfl,_,_,rfl,rfl,(by show (0:Int)<3;decide),rfl,_,rfl,?_⟩
  cases hc:decide (V.int ((0+(i:Int)) % 3)=V.int 2) with
  | true =>
   refine bO (bO ⟨_,rfl,_,rfl,?_⟩)
   dsimp only [oA,List.cons_append,List.nil_append]
   refine fin RX' fun RZ Wv=>?_
   exact ⟨_,rfl,aK (done RZ Wv)⟩
  | false =>
   refine aK ⟨_,rfl,fa,_,_,_,rfl,rfl,bD.of Zi.f,e2,_,_,rfl,rfl,(by show (0:Int)<2;decide),rfl,_,rfl,?_⟩
   cases hc2:decide (V.int (v2 % 2)=V.int 0) with
   | true =>
    refine bO ⟨_,rfl,_,rfl,?_⟩
    dsimp only [oA,List.cons_append,List.nil_append]
    refine fin RX' fun RZ Wv=>?_
    exact ⟨_,rfl,aK (done RZ Wv)⟩
   | false=>exact aK (aK (done H10 (Same.refl _)))
 ·rintro σ7 H7 ⟨m7,l7,vk,vt,rfl,RX,SD⟩
  exact ⟨_,rfl,_,rfl,fin RX fun H8 s8=>kk H8⟩
theorem jF {P:List Value->Prop} (h:P []):∀ us:List Value,us.length=0->P us
 | [],_=>h
theorem dW {P:List Value->Prop} (h:∀ (a:Value) (us:List Value),us.length=n->P (a::us)):∀ us:List Value,us.length=n+1->P us
 | a::us,e=>h a us (Nat.succ.inj e)
theorem fV {dd:Option Addr}{its:Array Value}{sl:Array (Option Value)} (h:K.lookup a=some ⟨.type "tuple",dd,.seq its n,sl⟩) (hz:its.size<=sizeLine) (v:Vals xs its.toList):Gr K a xs:=⟨_,its,n,h,rfl,rfl,hz,v⟩
def Vq (K:PySem.W.Frag) (q:List (Str×List cU)) (kvs:List (Str×V)):Prop:=∀ k,(q.lookup k=none->kvs.lookup k=none)/\∀ l,q.lookup k=some l->∃ b,kvs.lookup k=some (.ref b)/\Gr K b (l.map fun s=>.str s.word)
theorem Vr:Vq K [] []:=fun k=>⟨fun _=>rfl,fun l h=>nomatch h⟩
theorem jB {l:List cU}{q:List (Str×List cU)}{kvs:List (Str×V)} (h:Gr K b (l.map fun s=>.str s.word)) (ih:Vq K q kvs):Vq K ((x,l)::q) ((x,.ref b)::kvs):=fun k=>by
 rw [List.lookup_cons,List.lookup_cons]
 by_cases e:k=x
 ·subst e
  rw [beq_self_eq_true]
  exact ⟨fun z=>by simp at z,fun l' z=>by
   have:l=l':=by simpa using z
   subst this
   exact ⟨b,rfl,h⟩⟩
 ·have e':(k==x)=false:=by simpa using e
  rw [e']
  exact ih k
theorem Vs {c:Addr} (xa:XC K a) (xb:XC K b) (xc:XC K c) (xd:XC K d) (ea:PySem.W.exmOne K (.ref a) (.ref L)=some true) (eb:PySem.W.exmOne K (.ref b) (.ref L)=some true) (ec:PySem.W.exmOne K (.ref c) (.ref L)=some true) (ed:PySem.W.exmOne K (.ref d) (.ref L)=some true) (yaa:PySem.W.kitOne K (.ref a) (.ref a)=some true) (yab:PySem.W.kitOne K (.ref a) (.ref b)=some false) (yac:PySem.W.kitOne K (.ref a) (.ref c)=some false) (yad:PySem.W.kitOne K (.ref a) (.ref d)=some false) (yba:PySem.W.kitOne K (.ref b) (.ref a)=some false) (ybb:PySem.W.kitOne K (.ref b) (.ref b)=some true) (ybc:PySem.W.kitOne K (.ref b) (.ref c)=some false) (ybd:PySem.W.kitOne K (.ref b) (.ref d)=some false) (yca:PySem.W.kitOne K (.ref c) (.ref a)=some false) (ycb:PySem.W.kitOne K (.ref c) (.ref b)=some false) (ycc:PySem.W.kitOne K (.ref c) (.ref c)=some true) (ycd:PySem.W.kitOne K (.ref c) (.ref d)=some false) (yda:PySem.W.kitOne K (.ref d) (.ref a)=some false) (ydb:PySem.W.kitOne K (.ref d) (.ref b)=some false) (ydc:PySem.W.kitOne K (.ref d) (.ref c)=some false) (ydd:PySem.W.kitOne K (.ref d) (.ref d)=some true):∀ (i:Nat) q,[a,b,c,d][i]?=some q->XC K q/\PySem.W.exmOne K (.ref q) (.ref L)=some true/\∀ (j:Nat) r,[a,b,c,d][j]?=some r->PySem.W.kitOne K (.ref q) (.ref r)=some (decide (i=j)):=by
 intro i q hq
 match i,hq with
 | 0,hq =>
  injection hq with hq
  subst hq
  refine ⟨xa,ea,fun j r hr=>?_⟩
  match j,hr with
  | 0,hr=>injection hr with hr;subst hr;exact yaa
  | 1,hr=>injection hr with hr;subst hr;exact yab
  | 2,hr=>injection hr with hr;subst hr;exact yac
  | 3,hr=>injection hr with hr;subst hr;exact yad
  | j+4,hr=>simp at hr
 | 1,hq =>
  injection hq with hq
  subst hq
  refine ⟨xb,eb,fun j r hr=>?_⟩
  match j,hr with
  | 0,hr=>injection hr with hr;subst hr;exact yba
  | 1,hr=>injection hr with hr;subst hr;exact ybb
  | 2,hr=>injection hr with hr;subst hr;exact ybc
  | 3,hr=>injection hr with hr;subst hr;exact ybd
  | j+4,hr=>simp at hr
 | 2,hq =>
  injection hq with hq
  subst hq
  refine ⟨xc,ec,fun j r hr=>?_⟩
  match j,hr with
  | 0,hr=>injection hr with hr;subst hr;exact yca
  | 1,hr=>injection hr with hr;subst hr;exact ycb
  | 2,hr=>injection hr with hr;subst hr;exact ycc
  | 3,hr=>injection hr with hr;subst hr;exact ycd
  | j+4,hr=>simp at hr
 | 3,hq =>
  injection hq with hq
  subst hq
  refine ⟨xd,ed,fun j r hr=>?_⟩
  match j,hr with
  | 0,hr=>injection hr with hr;subst hr;exact yda
  | 1,hr=>injection hr with hr;subst hr;exact ydb
  | 2,hr=>injection hr with hr;subst hr;exact ydc
  | 3,hr=>injection hr with hr;subst hr;exact ydd
  | j+4,hr=>simp at hr
 | i+4,hq=>simp at hq
theorem all_mk {l:PySem.W.OpenLaw}{f1 f2 f3 f4 f5 f6 f7 f8 f9 f10 f11 f12 f13 f14 f15 f16 f17 f18 f19 f20 f21 f22 f23 f24 f25 f26 f27 f28:Addr} (X:K.In h) (G:h.Ns mainGlobals mg) (hfa:mg "law"=some (.ref fa))
  {od1 an1 od2 an2 od3 an3 od4 an4 od5 an5 od6 an6 od7 an7 od8 an8 od9 an9 od10 an10 od11 an11 od12 an12 od13 an13 od14 an14 od15 an15 od16 an16 od17 an17 od18 an18 od19 an19 od20 an20 od21 an21 od22 an22 od23 an23 od24 an24 od25 an25 od26 an26 od27 an27 od28 Zj:Option Addr}{sl1 sl2 sl3 sl4 sl5 sl6 sl7 sl8 sl9 sl10 sl11 sl12 sl13 sl14 sl15 sl16 sl17 sl18 sl19 sl20 sl21 sl22 sl23 sl24 sl25 sl26 sl27 sl28:Array (Option Value)}{oc1 kV1 dc1 pm1 cd1 ct1 oc2 kV2 dc2 pm2 cd2 ct2 oc3 kV3 dc3 pm3 cd3 ct3 oc4 kV4 dc4 pm4 cd4 ct4 oc5 kV5 dc5 pm5 cd5 ct5 oc6 kV6 dc6 pm6 cd6 ct6 oc7 kV7 dc7 pm7 cd7 ct7 oc8 kV8 dc8 pm8 cd8 ct8 oc9 kV9 dc9 pm9 cd9 ct9 oc10 kV10 dc10 pm10 Zk ct10 oc11 kV11 dc11 pm11 Zm ct11 oc12 kV12 dc12 pm12 Zn ct12 oc13 kV13 dc13 pm13 Zo ct13 oc14 kV14 dc14 pm14 Zq ct14 oc15 kV15 dc15 pm15 Zr ct15 oc16 kV16 dc16 pm16 Zt ct16 oc17 kV17 dc17 pm17 Zu ct17 oc18 kV18 dc18 pm18 Zv ct18 oc19 kV19 dc19 pm19 Zw ct19 oc20 kV20 dc20 pm20 Zx ct20 oc21 kV21 dc21 pm21 Zy ct21 oc22 kV22 dc22 pm22 Zz ct22 oc23 kV23 dc23 pm23 ZC ct23 oc24 kV24 dc24 pm24 ZD ct24 oc25 kV25 dc25 pm25 ZF ct25 oc26 kV26 dc26 pm26 ZG ct26 oc27 kV27 dc27 pm27 ZJ ct27 oc28 ZK ZL ZM Vt ZP:Value}{tL:Tok}{tC:Tok}{R ZQ Qw Qx Qy Qz QB QC QD QF QG QH aF aB tw_ b5_ b6_ f1_ f2_ f3_ f4_ f5_ f6_ f7_ b1_ b2_ b3_ b4_ b7_ c5_ c6_:Addr}{cdCF cdCN cdCT cdCH:ClassData}{od_I an_I ZR ZS ZV ZW ZX a0a a0b a0c a0d a0e a0f a0g a0h a0i a0j a0k a0l a0m a0n a0o:Option Addr}{sl_I a0p a0q a0r a0s a0t a0u a0v a0w a0x a0y:Array (Option Value)}{oc_I kV_I dc_I pm_I cd_I ct_I a0z a0A a0B a0C S6 a0D a0E a0F a0G a0H S8 a0I a0J a0K a0L a0M S9 a0N a0O a0P a0Q a0R Sd a0S a0T a0U a0V a0W Sg a0X a0Y a0Z a00 a01 Sh a02 a03 a04 a05 a06 Sq a07 a08 a09 a1a a1b Ss a1c a1d a1e a1f a1g Sv a1h a1i a1j a1k a1l Sw a1m:Value}{Cj Ck Cm Cp Cq Cr Cu Cw Cy Cz CG CJ CK:Array Value}{a1n a1o a1p a1q a1r a1s a1t a1u a1v a1w a1x a1y a1z:Nat}{Vu Vv Vw Vx Vy Vz VB VD VF VG VH VJ VL:Option Addr}{VN VP VR W0 W2 W3 W4 W5 W6 W7 W8 W9 Wa:Array (Option Value)}{esF esB:Array DictEntry}{nF nB:Nat}
  (a1:PySem.W.nsIn K mainGlobals "is_name"=some (some (.ref f1))) (l1:K.lookup f1=some ⟨oc1,od1,.func (PySem.W.fnOf "is_name" "is_name" (aW uP) (aR uP) (aA uP) .none kV1 dc1 pm1 an1 cd1 ct1),sl1⟩) (c1:PySem.W.codeIn K cd1 "is_name"=true) (k1:PySem.W.keepIn K (.ref f1)=true)
  (a2:PySem.W.nsIn K mainGlobals "check_row"=some (some (.ref f2))) (l2:K.lookup f2=some ⟨oc2,od2,.func (PySem.W.fnOf "check_row" "check_row" (aW oJ) (aR oJ) (aA oJ) .none kV2 dc2 pm2 an2 cd2 ct2),sl2⟩) (c2:PySem.W.codeIn K cd2 "check_row"=true) (k2:PySem.W.keepIn K (.ref f2)=true)
  (a3:PySem.W.nsIn K mainGlobals "is_well_made"=some (some (.ref f3))) (l3:K.lookup f3=some ⟨oc3,od3,.func (PySem.W.fnOf "is_well_made" "is_well_made" (aW uQ) (aR uQ) (aA uQ) .none kV3 dc3 pm3 an3 cd3 ct3),sl3⟩) (c3:PySem.W.codeIn K cd3 "is_well_made"=true) (k3:PySem.W.keepIn K (.ref f3)=true)
  (a4:PySem.W.nsIn K mainGlobals "fits"=some (some (.ref f4))) (l4:K.lookup f4=some ⟨oc4,od4,.func (PySem.W.fnOf "fits" "fits" (aW uR) (aR uR) (aA uR) .none kV4 dc4 pm4 an4 cd4 ct4),sl4⟩) (c4:PySem.W.codeIn K cd4 "fits"=true) (k4:PySem.W.keepIn K (.ref f4)=true)
  (a5:PySem.W.nsIn K mainGlobals "check_acres"=some (some (.ref f5))) (l5:K.lookup f5=some ⟨oc5,od5,.func (PySem.W.fnOf "check_acres" "check_acres" (aW Gi) (aR Gi) (aA Gi) .none kV5 dc5 pm5 an5 cd5 ct5),sl5⟩) (c5:PySem.W.codeIn K cd5 "check_acres"=true) (k5:PySem.W.keepIn K (.ref f5)=true)
  (a6:PySem.W.nsIn K mainGlobals "check_land"=some (some (.ref f6))) (l6:K.lookup f6=some ⟨oc6,od6,.func (PySem.W.fnOf "check_land" "check_land" (aW Gj) (aR Gj) (aA Gj) .none kV6 dc6 pm6 an6 cd6 ct6),sl6⟩) (c6:PySem.W.codeIn K cd6 "check_land"=true) (k6:PySem.W.keepIn K (.ref f6)=true)
  (a7:PySem.W.nsIn K mainGlobals "check_alone"=some (some (.ref f7))) (l7:K.lookup f7=some ⟨oc7,od7,.func (PySem.W.fnOf "check_alone" "check_alone" (aW oK) (aR oK) (aA oK) .none kV7 dc7 pm7 an7 cd7 ct7),sl7⟩) (c7:PySem.W.codeIn K cd7 "check_alone"=true) (k7:PySem.W.keepIn K (.ref f7)=true)
  (a8:PySem.W.nsIn K mainGlobals "_law_feed"=some (some (.ref f8))) (l8:K.lookup f8=some ⟨oc8,od8,.func (PySem.W.fnOf "_law_feed" "_law_feed" (aW uT) (aR uT) (aA uT) .none kV8 dc8 pm8 an8 cd8 ct8),sl8⟩) (c8:PySem.W.codeIn K cd8 "_law_feed"=true) (k8:PySem.W.keepIn K (.ref f8)=true)
  (a9:PySem.W.nsIn K mainGlobals "_law_same"=some (some (.ref f9))) (l9:K.lookup f9=some ⟨oc9,od9,.func (PySem.W.fnOf "_law_same" "_law_same" (aW pL) (aR pL) (aA pL) .none kV9 dc9 pm9 an9 cd9 ct9),sl9⟩) (c9:PySem.W.codeIn K cd9 "_law_same"=true) (k9:PySem.W.keepIn K (.ref f9)=true)
  (a10:PySem.W.nsIn K mainGlobals "_law_names"=some (some (.ref f10))) (l10:K.lookup f10=some ⟨oc10,od10,.func (PySem.W.fnOf "_law_names" "_law_names" (aW mO) (aR mO) (aA mO) .none kV10 dc10 pm10 an10 Zk ct10),sl10⟩) (c10:PySem.W.codeIn K Zk "_law_names"=true) (k10:PySem.W.keepIn K (.ref f10)=true)
  (a11:PySem.W.nsIn K mainGlobals "_law_kinds"=some (some (.ref f11))) (l11:K.lookup f11=some ⟨oc11,od11,.func (PySem.W.fnOf "_law_kinds" "_law_kinds" (aW oM) (aR oM) (aA oM) .none kV11 dc11 pm11 an11 Zm ct11),sl11⟩) (c11:PySem.W.codeIn K Zm "_law_kinds"=true) (k11:PySem.W.keepIn K (.ref f11)=true)
  (a12:PySem.W.nsIn K mainGlobals "_law_shapes"=some (some (.ref f12))) (l12:K.lookup f12=some ⟨oc12,od12,.func (PySem.W.fnOf "_law_shapes" "_law_shapes" (aW iJ) (aR iJ) (aA iJ) .none kV12 dc12 pm12 an12 Zn ct12),sl12⟩) (c12:PySem.W.codeIn K Zn "_law_shapes"=true) (k12:PySem.W.keepIn K (.ref f12)=true)
  (a13:PySem.W.nsIn K mainGlobals "_law_named"=some (some (.ref f13))) (l13:K.lookup f13=some ⟨oc13,od13,.func (PySem.W.fnOf "_law_named" "_law_named" (aW mQ) (aR mQ) (aA mQ) .none kV13 dc13 pm13 an13 Zo ct13),sl13⟩) (c13:PySem.W.codeIn K Zo "_law_named"=true) (k13:PySem.W.keepIn K (.ref f13)=true)
  (a14:PySem.W.nsIn K mainGlobals "_law_good"=some (some (.ref f14))) (l14:K.lookup f14=some ⟨oc14,od14,.func (PySem.W.fnOf "_law_good" "_law_good" (aW uU) (aR uU) (aA uU) .none kV14 dc14 pm14 an14 Zq ct14),sl14⟩) (c14:PySem.W.codeIn K Zq "_law_good"=true) (k14:PySem.W.keepIn K (.ref f14)=true)
  (a15:PySem.W.nsIn K mainGlobals "_law_any_row"=some (some (.ref f15))) (l15:K.lookup f15=some ⟨oc15,od15,.func (PySem.W.fnOf "_law_any_row" "_law_any_row" (aW Bl) (aR Bl) (aA Bl) .none kV15 dc15 pm15 an15 Zr ct15),sl15⟩) (c15:PySem.W.codeIn K Zr "_law_any_row"=true) (k15:PySem.W.keepIn K (.ref f15)=true)
  (a16:PySem.W.nsIn K mainGlobals "_law_ill"=some (some (.ref f16))) (l16:K.lookup f16=some ⟨oc16,od16,.func (PySem.W.fnOf "_law_ill" "_law_ill" (aW Gk) (aR Gk) (aA Gk) .none kV16 dc16 pm16 an16 Zt ct16),sl16⟩) (c16:PySem.W.codeIn K Zt "_law_ill"=true) (k16:PySem.W.keepIn K (.ref f16)=true)
  (a17:PySem.W.nsIn K mainGlobals "_law_pick"=some (some (.ref f17))) (l17:K.lookup f17=some ⟨oc17,od17,.func (PySem.W.fnOf "_law_pick" "_law_pick" (aW uV) (aR uV) (aA uV) .none kV17 dc17 pm17 an17 Zu ct17),sl17⟩) (c17:PySem.W.codeIn K Zu "_law_pick"=true) (k17:PySem.W.keepIn K (.ref f17)=true)
  (a18:PySem.W.nsIn K mainGlobals "_law_turn"=some (some (.ref f18))) (l18:K.lookup f18=some ⟨oc18,od18,.func (PySem.W.fnOf "_law_turn" "_law_turn" (aW pN) (aR pN) (aA pN) .none kV18 dc18 pm18 an18 Zv ct18),sl18⟩) (c18:PySem.W.codeIn K Zv "_law_turn"=true) (k18:PySem.W.keepIn K (.ref f18)=true)
  (a19:PySem.W.nsIn K mainGlobals "_law_new_entries"=some (some (.ref f19))) (l19:K.lookup f19=some ⟨oc19,od19,.func (PySem.W.fnOf "_law_new_entries" "_law_new_entries" (aW pO) (aR pO) (aA pO) .none kV19 dc19 pm19 an19 Zw ct19),sl19⟩) (c19:PySem.W.codeIn K Zw "_law_new_entries"=true) (k19:PySem.W.keepIn K (.ref f19)=true)
  (a20:PySem.W.nsIn K mainGlobals "_law_refusal"=some (some (.ref f20))) (l20:K.lookup f20=some ⟨oc20,od20,.func (PySem.W.fnOf "_law_refusal" "_law_refusal" (aW kE) (aR kE) (aA kE) .none kV20 dc20 pm20 an20 Zx ct20),sl20⟩) (c20:PySem.W.codeIn K Zx "_law_refusal"=true) (k20:PySem.W.keepIn K (.ref f20)=true)
  (a21:PySem.W.nsIn K mainGlobals "_law_told"=some (some (.ref f21))) (l21:K.lookup f21=some ⟨oc21,od21,.func (PySem.W.fnOf "_law_told" "_law_told" (aW su) (aR su) (aA su) .none kV21 dc21 pm21 an21 Zy ct21),sl21⟩) (c21:PySem.W.codeIn K Zy "_law_told"=true) (k21:PySem.W.keepIn K (.ref f21)=true)
  (a22:PySem.W.nsIn K mainGlobals "_law_moved"=some (some (.ref f22))) (l22:K.lookup f22=some ⟨oc22,od22,.func (PySem.W.fnOf "_law_moved" "_law_moved" (aW oN) (aR oN) (aA oN) .none kV22 dc22 pm22 an22 Zz ct22),sl22⟩) (c22:PySem.W.codeIn K Zz "_law_moved"=true) (k22:PySem.W.keepIn K (.ref f22)=true)
  (a23:PySem.W.nsIn K mainGlobals "_law_roll_do"=some (some (.ref f23))) (l23:K.lookup f23=some ⟨oc23,od23,.func (PySem.W.fnOf "_law_roll_do" "_law_roll_do" (aW Gm) (aR Gm) (aA Gm) .none kV23 dc23 pm23 an23 ZC ct23),sl23⟩) (c23:PySem.W.codeIn K ZC "_law_roll_do"=true) (k23:PySem.W.keepIn K (.ref f23)=true)
  (a24:PySem.W.nsIn K mainGlobals "_law_roll_try"=some (some (.ref f24))) (l24:K.lookup f24=some ⟨oc24,od24,.func (PySem.W.fnOf "_law_roll_try" "_law_roll_try" (aW sE) (aR sE) (aA sE) .none kV24 dc24 pm24 an24 ZD ct24),sl24⟩) (c24:PySem.W.codeIn K ZD "_law_roll_try"=true) (k24:PySem.W.keepIn K (.ref f24)=true)
  (a25:PySem.W.nsIn K mainGlobals "_law_roll_is"=some (some (.ref f25))) (l25:K.lookup f25=some ⟨oc25,od25,.func (PySem.W.fnOf "_law_roll_is" "_law_roll_is" (aW Gn) (aR Gn) (aA Gn) .none kV25 dc25 pm25 an25 ZF ct25),sl25⟩) (c25:PySem.W.codeIn K ZF "_law_roll_is"=true) (k25:PySem.W.keepIn K (.ref f25)=true)
  (a26:PySem.W.nsIn K mainGlobals "_law_plain_model"=some (some (.ref f26))) (l26:K.lookup f26=some ⟨oc26,od26,.func (PySem.W.fnOf "_law_plain_model" "_law_plain_model" (aW oO) (aR oO) (aA oO) .none kV26 dc26 pm26 an26 ZG ct26),sl26⟩) (c26:PySem.W.codeIn K ZG "_law_plain_model"=true) (k26:PySem.W.keepIn K (.ref f26)=true)
  (a27:PySem.W.nsIn K mainGlobals "_law_step"=some (some (.ref f27))) (l27:K.lookup f27=some ⟨oc27,od27,.func (PySem.W.fnOf "_law_step" "_law_step" (aW uW) (aR uW) (aA uW) .none kV27 dc27 pm27 an27 ZJ ct27),sl27⟩) (c27:PySem.W.codeIn K ZJ "_law_step"=true) (k27:PySem.W.keepIn K (.ref f27)=true)
  (a28:PySem.W.nsIn K mainGlobals "law"=some (some (.ref f28))) (l28:K.lookup f28=some ⟨oc28,od28,.func (PySem.W.fnOf "law" "law" (aW tX) (aR tX) (aA tX) .none ZK ZL ZM Zj Vt ZP),sl28⟩) (c28:PySem.W.codeIn K Vt "law"=true) (k28:PySem.W.keepIn K (.ref f28)=true)
  (q1:PySem.W.nsIn K mainGlobals "LONGEST_NAME"=some (some (.int 8 tL)))
  (q2:PySem.W.nsIn K mainGlobals "CROWN"=some (some (.str "" tC)))
  (q3:PySem.W.nsIn K mainGlobals "FORMS"=some (some (.ref aF)))
  (q4:PySem.W.nsIn K mainGlobals "BOUNDS"=some (some (.ref aB)))
  (q5:PySem.W.nsIn K mainGlobals "OF_TWO_MEN"=some (some (.ref tw_)))
  (q6:PySem.W.nsIn K mainGlobals "Roll"=some (some (.ref R)))
  (q7:PySem.W.nsIn K mainGlobals "NoForm"=some (some (.ref CF)))
  (q8:PySem.W.nsIn K mainGlobals "NoEntry"=some (some (.ref CN)))
  (q9:PySem.W.nsIn K mainGlobals "Twice"=some (some (.ref CT)))
  (q10:PySem.W.nsIn K mainGlobals "NothingThere"=some (some (.ref CH)))
  (q11:PySem.W.nsIn K mainGlobals "LandError"=some (some (.ref L)))
  (q12:PySem.W.nsIn K mainGlobals "NoLand"=some (some (.ref c5_)))
  (q13:PySem.W.nsIn K mainGlobals "NoText"=some (some (.ref c6_)))
  (z1:PySem.W.nsIn K mainGlobals "isinstance"=some none)
  (z2:PySem.W.nsIn K mainGlobals "int"=some none)
  (z3:PySem.W.nsIn K mainGlobals "str"=some none)
  (z4:PySem.W.nsIn K mainGlobals "len"=some none)
  (z5:PySem.W.nsIn K mainGlobals "all"=some none)
  (z6:PySem.W.nsIn K mainGlobals "zip"=some none)
  (z7:PySem.W.nsIn K mainGlobals "range"=some none)
  (z8:PySem.W.nsIn K mainGlobals "enumerate"=some none)
  (z9:PySem.W.nsIn K mainGlobals "max"=some none)
  (z10:PySem.W.nsIn K mainGlobals "tuple"=some none)
  (z11:PySem.W.nsIn K mainGlobals "bool"=some none)
  (z12:PySem.W.nsIn K mainGlobals "list"=some none)
  (z13:PySem.W.nsIn K mainGlobals "dict"=some none)
  (z14:PySem.W.nsIn K mainGlobals "sorted"=some none)
  (z15:PySem.W.nsIn K mainGlobals "set"=some none)
  (sg:PySem.W.specialIn K (.builtin "object.__class__") "__get__"=some (some (.builtin "getset_descriptor.__get__")))
  (tg:PySem.W.takesIn K (.builtin "object.__class__")=some true)
  (hxCF:PySem.W.excIn K CF tV "ValueError.__new__"=true)
  (x1CF:PySem.W.findIn K (.ref CF) "__getattribute__"=some (some (.builtin "BaseException.__getattribute__")))
  (x2CF:PySem.W.findIn K (.ref CF) "__getattr__"=some none)
  (x3CF:PySem.W.clsIn K CF=some cdCF)
  (x4CF:PySem.W.findIn K (.ref CF) "__class__"=some (some (.builtin "object.__class__")))
  (x5CF:PySem.W.mroIn K CF (.type "object")=some true)
  (x6CF:PySem.W.mroIn K CF (.type "BaseException")=some true)
  (exCF:PySem.W.exmOne K (.ref CF) (.ref L)=some true)
  (yCFCF:PySem.W.kitOne K (.ref CF) (.ref CF)=some true)
  (yCFCN:PySem.W.kitOne K (.ref CF) (.ref CN)=some false)
  (yCFCT:PySem.W.kitOne K (.ref CF) (.ref CT)=some false)
  (yCFCH:PySem.W.kitOne K (.ref CF) (.ref CH)=some false)
  (hxCN:PySem.W.excIn K CN tV "ValueError.__new__"=true)
  (x1CN:PySem.W.findIn K (.ref CN) "__getattribute__"=some (some (.builtin "BaseException.__getattribute__")))
  (x2CN:PySem.W.findIn K (.ref CN) "__getattr__"=some none)
  (x3CN:PySem.W.clsIn K CN=some cdCN)
  (x4CN:PySem.W.findIn K (.ref CN) "__class__"=some (some (.builtin "object.__class__")))
  (x5CN:PySem.W.mroIn K CN (.type "object")=some true)
  (x6CN:PySem.W.mroIn K CN (.type "BaseException")=some true)
  (exCN:PySem.W.exmOne K (.ref CN) (.ref L)=some true)
  (yCNCF:PySem.W.kitOne K (.ref CN) (.ref CF)=some false)
  (yCNCN:PySem.W.kitOne K (.ref CN) (.ref CN)=some true)
  (yCNCT:PySem.W.kitOne K (.ref CN) (.ref CT)=some false)
  (yCNCH:PySem.W.kitOne K (.ref CN) (.ref CH)=some false)
  (hxCT:PySem.W.excIn K CT tV "ValueError.__new__"=true)
  (x1CT:PySem.W.findIn K (.ref CT) "__getattribute__"=some (some (.builtin "BaseException.__getattribute__")))
  (x2CT:PySem.W.findIn K (.ref CT) "__getattr__"=some none)
  (x3CT:PySem.W.clsIn K CT=some cdCT)
  (x4CT:PySem.W.findIn K (.ref CT) "__class__"=some (some (.builtin "object.__class__")))
  (x5CT:PySem.W.mroIn K CT (.type "object")=some true)
  (x6CT:PySem.W.mroIn K CT (.type "BaseException")=some true)
  (exCT:PySem.W.exmOne K (.ref CT) (.ref L)=some true)
  (yCTCF:PySem.W.kitOne K (.ref CT) (.ref CF)=some false)
  (yCTCN:PySem.W.kitOne K (.ref CT) (.ref CN)=some false)
  (yCTCT:PySem.W.kitOne K (.ref CT) (.ref CT)=some true)
  (yCTCH:PySem.W.kitOne K (.ref CT) (.ref CH)=some false)
  (hxCH:PySem.W.excIn K CH tV "ValueError.__new__"=true)
  (x1CH:PySem.W.findIn K (.ref CH) "__getattribute__"=some (some (.builtin "BaseException.__getattribute__")))
  (x2CH:PySem.W.findIn K (.ref CH) "__getattr__"=some none)
  (x3CH:PySem.W.clsIn K CH=some cdCH)
  (x4CH:PySem.W.findIn K (.ref CH) "__class__"=some (some (.builtin "object.__class__")))
  (x5CH:PySem.W.mroIn K CH (.type "object")=some true)
  (x6CH:PySem.W.mroIn K CH (.type "BaseException")=some true)
  (exCH:PySem.W.exmOne K (.ref CH) (.ref L)=some true)
  (yCHCF:PySem.W.kitOne K (.ref CH) (.ref CF)=some false)
  (yCHCN:PySem.W.kitOne K (.ref CH) (.ref CN)=some false)
  (yCHCT:PySem.W.kitOne K (.ref CH) (.ref CT)=some false)
  (yCHCH:PySem.W.kitOne K (.ref CH) (.ref CH)=some true)
  (y5:PySem.W.kitOne K (.ref CF) (.ref c5_)=some false)
  (y6:PySem.W.kitOne K (.ref CF) (.ref c6_)=some false)
  (fa_I:PySem.W.findIn K (.ref R) "__init__"=some (some (.ref ZQ)))
  (la_I:K.lookup ZQ=some ⟨oc_I,od_I,.func (PySem.W.fnOf "__init__" "Roll.__init__" (aW oR) (aR oR) (aA oR) .none kV_I dc_I pm_I an_I cd_I ct_I),sl_I⟩)
  (ca_I:PySem.W.codeIn K cd_I "Roll.__init__"=true)
  (ka_I:PySem.W.keepIn K (.ref ZQ)=true)
  (ia_I:PySem.W.isFn K (.ref ZQ)=true)
  (fa_Fr:PySem.W.findIn K (.ref R) "free"=some (some (.ref Qw)))
  (la_Fr:K.lookup Qw=some ⟨a0z,ZR,.func (PySem.W.fnOf "free" "Roll.free" (aW uX) (aR uX) (aA uX) .none a0A a0B a0C ZS S6 a0D),a0p⟩)
  (ca_Fr:PySem.W.codeIn K S6 "Roll.free"=true)
  (ka_Fr:PySem.W.keepIn K (.ref Qw)=true)
  (ia_Fr:PySem.W.isFn K (.ref Qw)=true)
  (fa_Rw:PySem.W.findIn K (.ref R) "rows"=some (some (.ref Qx)))
  (la_Rw:K.lookup Qx=some ⟨a0E,ZV,.func (PySem.W.fnOf "rows" "Roll.rows" (aW uY) (aR uY) (aA uY) .none a0F a0G a0H ZW S8 a0I),a0q⟩)
  (ca_Rw:PySem.W.codeIn K S8 "Roll.rows"=true)
  (ka_Rw:PySem.W.keepIn K (.ref Qx)=true)
  (ia_Rw:PySem.W.isFn K (.ref Qx)=true)
  (fa_En:PySem.W.findIn K (.ref R) "enter"=some (some (.ref Qy)))
  (la_En:K.lookup Qy=some ⟨a0J,ZX,.func (PySem.W.fnOf "enter" "Roll.enter" (aW oU) (aR oU) (aA oU) .none a0K a0L a0M a0a S9 a0N),a0r⟩)
  (ca_En:PySem.W.codeIn K S9 "Roll.enter"=true)
  (ka_En:PySem.W.keepIn K (.ref Qy)=true)
  (ia_En:PySem.W.isFn K (.ref Qy)=true)
  (fa_Ea:PySem.W.findIn K (.ref R) "enter_all"=some (some (.ref Qz)))
  (la_Ea:K.lookup Qz=some ⟨a0O,a0b,.func (PySem.W.fnOf "enter_all" "Roll.enter_all" (aW gP) (aR gP) (aA gP) .none a0P a0Q a0R a0c Sd a0S),a0s⟩)
  (ca_Ea:PySem.W.codeIn K Sd "Roll.enter_all"=true)
  (ka_Ea:PySem.W.keepIn K (.ref Qz)=true)
  (ia_Ea:PySem.W.isFn K (.ref Qz)=true)
  (fa_Sk:PySem.W.findIn K (.ref R) "strike"=some (some (.ref QB)))
  (la_Sk:K.lookup QB=some ⟨a0T,a0d,.func (PySem.W.fnOf "strike" "Roll.strike" (aW lJ) (aR lJ) (aA lJ) .none a0U a0V a0W a0e Sg a0X),a0t⟩)
  (ca_Sk:PySem.W.codeIn K Sg "Roll.strike"=true)
  (ka_Sk:PySem.W.keepIn K (.ref QB)=true)
  (ia_Sk:PySem.W.isFn K (.ref QB)=true)
  (fa_Co:PySem.W.findIn K (.ref R) "correct"=some (some (.ref QC)))
  (la_Co:K.lookup QC=some ⟨a0Y,a0f,.func (PySem.W.fnOf "correct" "Roll.correct" (aW jd) (aR jd) (aA jd) .none a0Z a00 a01 a0g Sh a02),a0u⟩)
  (ca_Co:PySem.W.codeIn K Sh "Roll.correct"=true)
  (ka_Co:PySem.W.keepIn K (.ref QC)=true)
  (ia_Co:PySem.W.isFn K (.ref QC)=true)
  (fa_Ba:PySem.W.findIn K (.ref R) "back"=some (some (.ref QD)))
  (la_Ba:K.lookup QD=some ⟨a03,a0h,.func (PySem.W.fnOf "back" "Roll.back" (aW uZ) (aR uZ) (aA uZ) .none a04 a05 a06 a0i Sq a07),a0v⟩)
  (ca_Ba:PySem.W.codeIn K Sq "Roll.back"=true)
  (ka_Ba:PySem.W.keepIn K (.ref QD)=true)
  (ia_Ba:PySem.W.isFn K (.ref QD)=true)
  (fa_Ag:PySem.W.findIn K (.ref R) "again"=some (some (.ref QF)))
  (la_Ag:K.lookup QF=some ⟨a08,a0j,.func (PySem.W.fnOf "again" "Roll.again" (aW oV) (aR oV) (aA oV) .none a09 a1a a1b a0k Ss a1c),a0w⟩)
  (ca_Ag:PySem.W.codeIn K Ss "Roll.again"=true)
  (ka_Ag:PySem.W.keepIn K (.ref QF)=true)
  (ia_Ag:PySem.W.isFn K (.ref QF)=true)
  (fa_Ra:PySem.W.findIn K (.ref R) "row_at"=some (some (.ref QG)))
  (la_Ra:K.lookup QG=some ⟨a1d,a0l,.func (PySem.W.fnOf "row_at" "Roll.row_at" (aW oW) (aR oW) (aA oW) .none a1e a1f a1g a0m Sv a1h),a0x⟩)
  (ca_Ra:PySem.W.codeIn K Sv "Roll.row_at"=true)
  (ka_Ra:PySem.W.keepIn K (.ref QG)=true)
  (ia_Ra:PySem.W.isFn K (.ref QG)=true)
  (fa_Se:PySem.W.findIn K (.ref R) "settle"=some (some (.ref QH)))
  (la_Se:K.lookup QH=some ⟨a1i,a0n,.func (PySem.W.fnOf "settle" "Roll.settle" (aW lK) (aR lK) (aA lK) .none a1j a1k a1l a0o Sw a1m),a0y⟩)
  (ca_Se:PySem.W.codeIn K Sw "Roll.settle"=true)
  (ka_Se:PySem.W.keepIn K (.ref QH)=true)
  (ia_Se:PySem.W.isFn K (.ref QH)=true)
  (pgR:PySem.W.plainGet K R Str.empty=true)
  (hdR:PySem.W.hasDictIn K R=true)
  (poR:PySem.W.plainOver K R=true)
  (saR:PySem.W.findIn K (.ref R) "__setattr__"=some (some (.builtin "object.__setattr__")))
  (mkR:PySem.W.makesIn K R=true)
  (kpR:PySem.W.keepIn K (.ref R)=true)
  (na1:PySem.W.findIn K (.ref R) "many_acres"=some none)
  (na2:PySem.W.findIn K (.ref R) "coins"=some none)
  (na3:PySem.W.findIn K (.ref R) "standing"=some none)
  (na4:PySem.W.findIn K (.ref R) "earlier"=some none)
  (na5:PySem.W.findIn K (.ref R) "later"=some none)
  (kF:K.lookup aF=some ⟨.type "dict",none,.dict esF nF,#[]⟩)
  (eF:iI w.params esF.toList [("heir",.ref f1_),("grant",.ref f2_),("part",.ref f3_),("convey",.ref f4_),("liege",.ref f5_),("surrender",.ref f6_),("death",.ref f7_)])
  (lF:(aF==sysModules)=false)
  (kB:K.lookup aB=some ⟨.type "dict",none,.dict esB nB,#[]⟩)
  (eB:iI w.params esB.toList [("day",.ref b1_),("acres",.ref b2_),("service",.ref b3_),("bears",.ref b4_),("edge",.ref b5_),("number",.ref b6_),("entry",.ref b7_)])
  (lB:(aB==sysModules)=false)
  (t_f1_:K.lookup f1_=some ⟨.type "tuple",Vu,.seq Cj a1n,VN⟩)
  (s_f1_:Cj.size<=sizeLine)
  (v_f1_:Vals [.str "day",.str "name",.str "name"] Cj.toList)
  (t_f2_:K.lookup f2_=some ⟨.type "tuple",Vv,.seq Ck a1o,VP⟩)
  (s_f2_:Ck.size<=sizeLine)
  (v_f2_:Vals [.str "day",.str "name or crown",.str "name",.str "name",.str "acres",.str "service"] Ck.toList)
  (t_f3_:K.lookup f3_=some ⟨.type "tuple",Vw,.seq Cm a1p,VR⟩)
  (s_f3_:Cm.size<=sizeLine)
  (v_f3_:Vals [.str "day",.str "name",.str "name",.str "name",.str "acres"] Cm.toList)
  (t_f4_:K.lookup f4_=some ⟨.type "tuple",Vx,.seq Cp a1q,W0⟩)
  (s_f4_:Cp.size<=sizeLine)
  (v_f4_:Vals [.str "day",.str "name",.str "name"] Cp.toList)
  (t_f5_:K.lookup f5_=some ⟨.type "tuple",Vy,.seq Cq a1r,W2⟩)
  (s_f5_:Cq.size<=sizeLine)
  (v_f5_:Vals [.str "day",.str "name",.str "name or crown"] Cq.toList)
  (t_f6_:K.lookup f6_=some ⟨.type "tuple",Vz,.seq Cr a1s,W3⟩)
  (s_f6_:Cr.size<=sizeLine)
  (v_f6_:Vals [.str "day",.str "name"] Cr.toList)
  (t_f7_:K.lookup f7_=some ⟨.type "tuple",VB,.seq Cu a1t,W4⟩)
  (s_f7_:Cu.size<=sizeLine)
  (v_f7_:Vals [.str "day",.str "name"] Cu.toList)
  (t_b1_:K.lookup b1_=some ⟨.type "tuple",VD,.seq Cw a1u,W5⟩)
  (s_b1_:Cw.size<=sizeLine)
  (v_b1_:Vals [.int 0,.int 9999] Cw.toList)
  (t_b2_:K.lookup b2_=some ⟨.type "tuple",VF,.seq Cy a1v,W6⟩)
  (s_b2_:Cy.size<=sizeLine)
  (v_b2_:Vals [.int 1,.int 9999] Cy.toList)
  (t_b3_:K.lookup b3_=some ⟨.type "tuple",VG,.seq Cz a1w,W7⟩)
  (s_b3_:Cz.size<=sizeLine)
  (v_b3_:Vals [.int 0,.int 9999] Cz.toList)
  (t_b4_:K.lookup b4_=some ⟨.type "tuple",VH,.seq CG a1x,W8⟩)
  (s_b4_:CG.size<=sizeLine)
  (v_b4_:Vals [.int 0,.int 99] CG.toList)
  (t_b7_:K.lookup b7_=some ⟨.type "tuple",VJ,.seq CJ a1y,W9⟩)
  (s_b7_:CJ.size<=sizeLine)
  (v_b7_:Vals [.int 1,.int 999999] CJ.toList)
  (t_tw_:K.lookup tw_=some ⟨.type "tuple",VL,.seq CK a1z,Wa⟩)
  (s_tw_:CK.size<=sizeLine)
  (v_tw_:Vals [.str "heir",.str "liege"] CK.toList) :
  ∃ fd:FuncData,(∀ (s:Shared) (v:Value),BindsTo s fd ⟨[v],[]⟩ [("_law_script",v)])/\∀ base:Heap,K.In base->base.Ns mainGlobals mg->bf l.prog w K mg base dj 10 fa fd ["_law_script"] (Es K):=by
 have e:=hfa.symm.trans (PySem.W.mg_of X G a28)
 cases e
 have F1:=bI (st:=uP) l1 c1 k1
 have M1:Ms K mg "is_name" f1 _ _:=⟨F1.binds (ps:=["text"]) fun _ _ _ _ _ _=>dW fun _=>jF rfl,k1,PySem.W.mg_of X G a1⟩
 have F2:=bI (st:=oJ) l2 c2 k2
 have M2:Ms K mg "check_row" f2 _ _:=⟨F2.binds (ps:=["row"]) fun _ _ _ _ _ _=>dW fun _=>jF rfl,k2,PySem.W.mg_of X G a2⟩
 have F3:=bI (st:=uQ) l3 c3 k3
 have M3:Ms K mg "is_well_made" f3 _ _:=⟨F3.binds (ps:=["row"]) fun _ _ _ _ _ _=>dW fun _=>jF rfl,k3,PySem.W.mg_of X G a3⟩
 have F4:=bI (st:=uR) l4 c4 k4
 have M4:Ms K mg "fits" f4 _ _:=⟨F4.binds (ps:=["sort", "piece"]) fun _ _ _ _ _ _=>dW fun _=>dW fun _=>jF rfl,k4,PySem.W.mg_of X G a4⟩
 have F5:=bI (st:=Gi) l5 c5 k5
 have M5:Ms K mg "check_acres" f5 _ _:=⟨F5.binds (ps:=["acres"]) fun _ _ _ _ _ _=>dW fun _=>jF rfl,k5,PySem.W.mg_of X G a5⟩
 have F6:=bI (st:=Gj) l6 c6 k6
 have M6:Ms K mg "check_land" f6 _ _:=⟨F6.binds (ps:=["acres", "bears"]) fun _ _ _ _ _ _=>dW fun _=>dW fun _=>jF rfl,k6,PySem.W.mg_of X G a6⟩
 have F7:=bI (st:=oK) l7 c7 k7
 have M7:Ms K mg "check_alone" f7 _ _:=⟨F7.binds (ps:=["row", "held"]) fun _ _ _ _ _ _=>dW fun _=>dW fun _=>jF rfl,k7,PySem.W.mg_of X G a7⟩
 have F8:=bI (st:=uT) l8 c8 k8
 have M8:Ms K mg "_law_feed" f8 _ _:=⟨F8.binds (ps:=["_law_script", "_law_many"]) fun _ _ _ _ _ _=>dW fun _=>dW fun _=>jF rfl,k8,PySem.W.mg_of X G a8⟩
 have F9:=bI (st:=pL) l9 c9 k9
 have M9:Ms K mg "_law_same" f9 _ _:=⟨F9.binds (ps:=["_law_found", "_law_due"]) fun _ _ _ _ _ _=>dW fun _=>dW fun _=>jF rfl,k9,PySem.W.mg_of X G a9⟩
 have F10:=bI (st:=mO) l10 c10 k10
 have M10:Ms K mg "_law_names" f10 _ _:=⟨F10.binds (ps:=["_law_d", "_law_many"]) fun _ _ _ _ _ _=>dW fun _=>dW fun _=>jF rfl,k10,PySem.W.mg_of X G a10⟩
 have F11:=bI (st:=oM) l11 c11 k11
 have M11:Ms K mg "_law_kinds" f11 _ _:=⟨F11.binds (ps:=[]) fun _ _ _ _ _ _=>jF rfl,k11,PySem.W.mg_of X G a11⟩
 have F12:=bI (st:=iJ) l12 c12 k12
 have M12:Ms K mg "_law_shapes" f12 _ _:=⟨F12.binds (ps:=[]) fun _ _ _ _ _ _=>jF rfl,k12,PySem.W.mg_of X G a12⟩
 have F13:=bI (st:=mQ) l13 c13 k13
 have M13:Ms K mg "_law_named" f13 _ _:=⟨F13.binds (ps:=["_law_word"]) fun _ _ _ _ _ _=>dW fun _=>jF rfl,k13,PySem.W.mg_of X G a13⟩
 have F14:=bI (st:=uU) l14 c14 k14
 have M14:Ms K mg "_law_good" f14 _ _:=⟨F14.binds (ps:=["_law_row"]) fun _ _ _ _ _ _=>dW fun _=>jF rfl,k14,PySem.W.mg_of X G a14⟩
 have F15:=bI (st:=Bl) l15 c15 k15
 have M15:Ms K mg "_law_any_row" f15 _ _:=⟨F15.binds (ps:=["_law_d", "_law_names_here"]) fun _ _ _ _ _ _=>dW fun _=>dW fun _=>jF rfl,k15,PySem.W.mg_of X G a15⟩
 have F16:=bI (st:=Gk) l16 c16 k16
 have M16:Ms K mg "_law_ill" f16 _ _:=⟨F16.binds (ps:=["_law_row", "_law_number"]) fun _ _ _ _ _ _=>dW fun _=>dW fun _=>jF rfl,k16,PySem.W.mg_of X G a16⟩
 have F17:=bI (st:=uV) l17 c17 k17
 have M17:Ms K mg "_law_pick" f17 _ _:=⟨F17.binds (ps:=["_law_rows", "_law_d"]) fun _ _ _ _ _ _=>dW fun _=>dW fun _=>jF rfl,k17,PySem.W.mg_of X G a17⟩
 have F18:=bI (st:=pN) l18 c18 k18
 have M18:Ms K mg "_law_turn" f18 _ _:=⟨F18.binds (ps:=["_law_model", "_law_rows", "_law_d", "_law_ways"]) fun _ _ _ _ _ _=>dW fun _=>dW fun _=>dW fun _=>dW fun _=>jF rfl,k18,PySem.W.mg_of X G a18⟩
 have F19:=bI (st:=pO) l19 c19 k19
 have M19:Ms K mg "_law_new_entries" f19 _ _:=⟨F19.binds (ps:=["_law_model", "_law_turn_here"]) fun _ _ _ _ _ _=>dW fun _=>dW fun _=>jF rfl,k19,PySem.W.mg_of X G a19⟩
 have F20:=bI (st:=kE) l20 c20 k20
 have M20:Ms K mg "_law_refusal" f20 _ _:=⟨F20.binds (ps:=["_law_model", "_law_turn_here"]) fun _ _ _ _ _ _=>dW fun _=>dW fun _=>jF rfl,k20,PySem.W.mg_of X G a20⟩
 have F21:=bI (st:=su) l21 c21 k21
 have M21:Ms K mg "_law_told" f21 _ _:=⟨F21.binds (ps:=["_law_model", "_law_turn_here"]) fun _ _ _ _ _ _=>dW fun _=>dW fun _=>jF rfl,k21,PySem.W.mg_of X G a21⟩
 have F22:=bI (st:=oN) l22 c22 k22
 have M22:Ms K mg "_law_moved" f22 _ _:=⟨F22.binds (ps:=["_law_model", "_law_turn_here"]) fun _ _ _ _ _ _=>dW fun _=>dW fun _=>jF rfl,k22,PySem.W.mg_of X G a22⟩
 have F23:=bI (st:=Gm) l23 c23 k23
 have M23:Ms K mg "_law_roll_do" f23 _ _:=⟨F23.binds (ps:=["_law_roll", "_law_turn_here"]) fun _ _ _ _ _ _=>dW fun _=>dW fun _=>jF rfl,k23,PySem.W.mg_of X G a23⟩
 have F24:=bI (st:=sE) l24 c24 k24
 have M24:Ms K mg "_law_roll_try" f24 _ _:=⟨F24.binds (ps:=["_law_roll", "_law_turn_here"]) fun _ _ _ _ _ _=>dW fun _=>dW fun _=>jF rfl,k24,PySem.W.mg_of X G a24⟩
 have F25:=bI (st:=Gn) l25 c25 k25
 have M25:Ms K mg "_law_roll_is" f25 _ _:=⟨F25.binds (ps:=["_law_roll", "_law_model"]) fun _ _ _ _ _ _=>dW fun _=>dW fun _=>jF rfl,k25,PySem.W.mg_of X G a25⟩
 have F26:=bI (st:=oO) l26 c26 k26
 have M26:Ms K mg "_law_plain_model" f26 _ _:=⟨F26.binds (ps:=[]) fun _ _ _ _ _ _=>jF rfl,k26,PySem.W.mg_of X G a26⟩
 have F27:=bI (st:=uW) l27 c27 k27
 have M27:Ms K mg "_law_step" f27 _ _:=⟨F27.binds (ps:=["_law_roll", "_law_model", "_law_turn_here"]) fun _ _ _ _ _ _=>dW fun _=>dW fun _=>dW fun _=>jF rfl,k27,PySem.W.mg_of X G a27⟩
 have F28:=bI (st:=tX) l28 c28 k28
 have tM:=PySem.W.mg_of X G q1
 have QJ:=PySem.W.mg_of X G q2
 have QK:=PySem.W.mg_of X G q3
 have Mp:=PySem.W.mg_of X G q4
 have xV:=PySem.W.mg_of X G q5
 have Wb:=PySem.W.mg_of X G q6
 have zT:=PySem.W.mg_of X G q7
 have vI:=PySem.W.mg_of X G q8
 have Et:=PySem.W.mg_of X G q9
 have iy:=PySem.W.mg_of X G q10
 have zU:=PySem.W.mg_of X G q11
 have Mq:=PySem.W.mg_of X G q12
 have Mr:=PySem.W.mg_of X G q13
 have nW:=PySem.W.mg_none_of X G z1
 have Eu:=PySem.W.mg_none_of X G z2
 have a1A:=PySem.W.mg_none_of X G z3
 have ji:=PySem.W.mg_none_of X G z4
 have Mt:=PySem.W.mg_none_of X G z5
 have Ew:=PySem.W.mg_none_of X G z6
 have lQ:=PySem.W.mg_none_of X G z7
 have pU:=PySem.W.mg_none_of X G z8
 have a1B:=PySem.W.mg_none_of X G z9
 have Ey:=PySem.W.mg_none_of X G z10
 have Wc:=PySem.W.mg_none_of X G z11
 have mX:=PySem.W.mg_none_of X G z12
 have xW:=PySem.W.mg_none_of X G z13
 have Mu:=PySem.W.mg_none_of X G z14
 have a1C:=PySem.W.mg_none_of X G z15
 refine ⟨PySem.W.fnOf "law" "law" (aW tX) (aR tX) (aA tX) .none ZK ZL ZM Zj Vt ZP,fun s v=>.of_eq rfl,fun base _ _=>?_⟩
 have mo:Uk K w.params mg:=⟨⟨aB,b1_,b2_,b3_,b4_,b5_,b6_,b7_,Mp,⟨⟨_,_,kB,eB⟩,lB⟩,fV t_b1_ s_b1_ v_b1_,fV t_b2_ s_b2_ v_b2_,fV t_b3_ s_b3_ v_b3_,fV t_b4_ s_b4_ v_b4_,fV t_b7_ s_b7_ v_b7_⟩,⟨aF,_,QK,⟨⟨_,_,kF,eF⟩,lF⟩,jB (fV t_f1_ s_f1_ v_f1_) (jB (fV t_f2_ s_f2_ v_f2_) (jB (fV t_f3_ s_f3_ v_f3_) (jB (fV t_f4_ s_f4_ v_f4_) (jB (fV t_f5_ s_f5_ v_f5_) (jB (fV t_f6_ s_f6_ v_f6_) (jB (fV t_f7_ s_f7_ v_f7_) (Vr)))))))⟩,⟨tw_,xV,fV t_tw_ s_tw_ v_tw_⟩,⟨_,QJ⟩⟩
 have ms:MgS mg:=⟨nW,Wc,Eu,a1A,mX,Ey,ji,Mt,Ew⟩
 have T:iK K R:=⟨⟨pgR,hdR,poR,saR⟩,na1,na2,na3,na4,na5⟩
 have XCCF:XC K CF:=⟨x1CF,x2CF,by rw [x3CF];rfl,x4CF,sg,tg,x5CF,x6CF⟩
 have XCCN:XC K CN:=⟨x1CN,x2CN,by rw [x3CN];rfl,x4CN,sg,tg,x5CN,x6CN⟩
 have XCCT:XC K CT:=⟨x1CT,x2CT,by rw [x3CT];rfl,x4CT,sg,tg,x5CT,x6CT⟩
 have XCCH:XC K CH:=⟨x1CH,x2CH,by rw [x3CH];rfl,x4CH,sg,tg,x5CH,x6CH⟩
 have cl:Z4 K mg L CF CN CT CH c5_ c6_:=⟨zU,zT,vI,Et,iy,Mq,Mr,Vs XCCF XCCN XCCT XCCH exCF exCN exCT exCH yCFCF yCFCN yCFCT yCFCH yCNCF yCNCN yCNCT yCNCH yCTCF yCTCN yCTCT yCTCH yCHCF yCHCN yCHCT yCHCH,y5,y6⟩
 have F_I:=bI (st:=oR) la_I ca_I ka_I
 have b_I:=F_I.binds (ps:=["self", "acres", "bears"]) fun _ _ _ _ _ _=>dW fun _=>dW fun _=>dW fun _=>jF rfl
 have F_Fr:=bI (st:=uX) la_Fr ca_Fr ka_Fr
 have b_Fr:=F_Fr.binds (ps:=["self"]) fun _ _ _ _ _ _=>dW fun _=>jF rfl
 have F_Rw:=bI (st:=uY) la_Rw ca_Rw ka_Rw
 have b_Rw:=F_Rw.binds (ps:=["self"]) fun _ _ _ _ _ _=>dW fun _=>jF rfl
 have F_En:=bI (st:=oU) la_En ca_En ka_En
 have b_En:=F_En.binds (ps:=["self", "row"]) fun _ _ _ _ _ _=>dW fun _=>dW fun _=>jF rfl
 have F_Ea:=bI (st:=gP) la_Ea ca_Ea ka_Ea
 have b_Ea:=F_Ea.binds (ps:=["self", "rows"]) fun _ _ _ _ _ _=>dW fun _=>dW fun _=>jF rfl
 have F_Sk:=bI (st:=lJ) la_Sk ca_Sk ka_Sk
 have b_Sk:=F_Sk.binds (ps:=["self", "number"]) fun _ _ _ _ _ _=>dW fun _=>dW fun _=>jF rfl
 have F_Co:=bI (st:=jd) la_Co ca_Co ka_Co
 have b_Co:=F_Co.binds (ps:=["self", "number", "row"]) fun _ _ _ _ _ _=>dW fun _=>dW fun _=>dW fun _=>jF rfl
 have F_Ba:=bI (st:=uZ) la_Ba ca_Ba ka_Ba
 have b_Ba:=F_Ba.binds (ps:=["self"]) fun _ _ _ _ _ _=>dW fun _=>jF rfl
 have F_Ag:=bI (st:=oV) la_Ag ca_Ag ka_Ag
 have b_Ag:=F_Ag.binds (ps:=["self"]) fun _ _ _ _ _ _=>dW fun _=>jF rfl
 have F_Ra:=bI (st:=oW) la_Ra ca_Ra ka_Ra
 have b_Ra:=F_Ra.binds (ps:=["self", "number"]) fun _ _ _ _ _ _=>dW fun _=>dW fun _=>jF rfl
 have F_Se:=bI (st:=lK) la_Se ca_Se ka_Se
 have Wd:=F_Se.binds (ps:=["self", "free", "held"]) fun _ _ _ _ _ _=>dW fun _=>dW fun _=>dW fun _=>jF rfl
 have G1:=Oi (P:=l.prog) (w:=w) (base:=base) F1 tM ji
 have G4:=Ol (P:=l.prog) (w:=w) (base:=base) F4 mo G1 M1
 have G3:=Om (P:=l.prog) (w:=w) (base:=base) F3 mo ji Ew G4 M4
 have G2:=JH (P:=l.prog) (w:=w) (base:=base) F2 zT hxCF G3 M3
 have G5:=Uq (P:=l.prog) (w:=w) (base:=base) F5 G4 M4
 have G6:=Ur (P:=l.prog) (w:=w) (base:=base) F6 G4 M4 G5 M5
 have G7:=KN (P:=l.prog) (w:=w) (base:=base) F7 mX Et hxCT
 have G_I:=K4 (P:=l.prog) (w:=w) (base:=base) T F_I G6 M6
 have MK1:Mk K R ZQ:=⟨mkR,fa_I,ia_I,kpR⟩
 have G_Fr:=Us (P:=l.prog) (w:=w) (mg:=mg) (base:=base) T F_Fr
 have G_Rw:=K5 (P:=l.prog) (w:=w) (base:=base) T F_Rw Mu
 have Wf:=GR (P:=l.prog) (w:=w) (mg:=mg) (base:=base) T F_Se
 have G_Ea:=zG (P:=l.prog) (w:=w) (base:=base) T F_Ea xW pU ji mX lQ G2 M2 G7 M7 Wf ⟨fa_Se,ia_Se,ka_Se⟩ Wd
 have G_En:=KR (P:=l.prog) (w:=w) (base:=base) T F_En G_Ea ⟨fa_Ea,ia_Ea,ka_Ea⟩ b_Ea
 have G_Ra:=KY (P:=l.prog) (w:=w) (base:=base) T F_Ra vI hxCN
 have G_Sk:=GX (P:=l.prog) (w:=w) (base:=base) T F_Sk xW G_Ra ⟨fa_Ra,ia_Ra,ka_Ra⟩ b_Ra Wf ⟨fa_Se,ia_Se,ka_Se⟩ Wd
 have G_Co:=Bu (P:=l.prog) (w:=w) (base:=base) T F_Co xW G_Ra ⟨fa_Ra,ia_Ra,ka_Ra⟩ b_Ra G2 M2 G7 M7 Wf ⟨fa_Se,ia_Se,ka_Se⟩ Wd
 have G_Ba:=PN (P:=l.prog) (w:=w) (base:=base) T F_Ba iy hxCH
 have G_Ag:=KZ (P:=l.prog) (w:=w) (base:=base) T F_Ag iy hxCH
 have G8:=Oe (P:=l.prog) (w:=w) (base:=base) F8 lQ ji
 have G9:=Dy (P:=l.prog) (w:=w) (base:=base) F9 ms M9 4
 have G10:=JM (P:=l.prog) (w:=w) (base:=base) F10 ji lQ
 have G11:=JN (P:=l.prog) (w:=w) (mg:=mg) (base:=base) F11
 have G12:=Gu (P:=l.prog) (w:=w) (mg:=mg) (base:=base) F12
 have G13:=K3 (P:=l.prog) (w:=w) (base:=base) F13 ji Mt
 have G14:=OD (P:=l.prog) (w:=w) (base:=base) F14 ji Eu Ew G12 M12 G13 M13
 have G15:=Um (P:=l.prog) (w:=w) (base:=base) F15 ji Eu pU a1B Ey G12 M12 G11 M11
 have G16:=V4 (P:=l.prog) (w:=w) (mg:=mg) (base:=base) F16
 have G17:=Q5 (P:=l.prog) (w:=w) (base:=base) F17 ji G16 M16
 have G18:=Q6 (P:=l.prog) (w:=w) (base:=base) F18 ji lQ G17 M17
 have G19:=Q9 (P:=l.prog) (w:=w) (base:=base) F19 mX Eu
 have G20:=LR (P:=l.prog) (w:=w) (base:=base) F20 ji Mt a1C G14 M14 G19 M19
 have G21:=Ql (P:=l.prog) (w:=w) (base:=base) F21 xW ji lQ
 have G22:=Lw (P:=l.prog) (w:=w) (base:=base) F22 mX G19 M19
 have G23:=YT (P:=l.prog) (w:=w) (base:=base) T F23 mX G_En ⟨fa_En,ia_En,ka_En⟩ b_En G_Ea ⟨fa_Ea,ia_Ea,ka_Ea⟩ b_Ea G_Sk ⟨fa_Sk,ia_Sk,ka_Sk⟩ b_Sk G_Co ⟨fa_Co,ia_Co,ka_Co⟩ b_Co G_Ba ⟨fa_Ba,ia_Ba,ka_Ba⟩ b_Ba G_Ag ⟨fa_Ag,ia_Ag,ka_Ag⟩ b_Ag
 have G24:=Vf (P:=l.prog) (w:=w) (base:=base) F24 nW Ew cl G23 M23
 have G25:=YQ (P:=l.prog) (w:=w) (base:=base) T F25 mX G9 M9 (by decide) (by decide) G_Rw ⟨fa_Rw,ia_Rw,ka_Rw⟩ b_Rw G_Fr ⟨fa_Fr,ia_Fr,ka_Fr⟩ b_Fr
 have G26:=Lp (P:=l.prog) (w:=w) (mg:=mg) (base:=base) F26
 have G27:=Qt (P:=l.prog) (w:=w) (base:=base) F27 G20 M20 G24 M24 G9 M9 G21 M21 G22 M22
 exact Vn F28 lQ G8 M8 G10 M10 G15 M15 G_I MK1 Wb b_I G26 M26 G18 M18 G27 M27 G25 M25
theorem walk {l:PySem.W.OpenLaw}{q:Program}{d:DefRec}{K:Params->PySem.W.Frag} (hn:l.most=some 63) (hdf:d.params.defaults=[])
  (hY:∀ (w:World) (h:Heap),YP w h->(K w.params).In h)
  (F:∀ (w:World) (mg:Str->Option Value) (fa:Addr) (h:Heap),(K w.params).In h->h.Ns mainGlobals mg->mg d.name=some (.ref fa) ->
   ∃ fd:FuncData,(∀ (s:Shared) (u:Value),BindsTo s fd ⟨[u],[]⟩ [("_law_script",u)])/\∀ base:Heap,(K w.params).In base->base.Ns mainGlobals mg->bf l.prog w (K w.params) mg base dj 10 fa fd ["_law_script"] (Es (K w.params))) :
  PySem.W.WalkO q loose XP YP l.row.toRowW d [] (fun f vs=>PySem.call f vs) :=
 L2.Nu (n:=63) (k:=10) (x:="_law_script") (CX:=fun _=>dj) (sp:=fun w=>Es (K w.params)) hn (by decide) hdf ⟨rfl,by decide,by decide⟩ hY F (fun _ _ a ns hl _ hS=>⟨a,ns,rfl,hS,hl,fun _=>rfl⟩) fun _ _ _ _ _ z=>z
end M
namespace PySem.W.Fast
def tw11696547742613536914:=0
def tw9632295744176995425:=0
def tw14995393507942088148:=0
def tw1198288449579660457:=0
def tw9016339230611807529:=0
def tw10429642888509338782:=0
def tw8583341200593601750:=0
def tw1693631869141100586:=0
def tw9297527729396993769:=0
def tw12341028882949394356:=0
def tw12137476501480602713:=0
def tw2326699918327981303:=0
def tw3803657052229988046:=0
def tw5889506941460036323:=0
def tw3869980769332908785:=0
def tw11953147637218567510:=0
def tw9558563011035235481:=0
def tw3788180265273093597:=0
def tw14701886176611714322:=0
def tw13834935401816913556:=0
def tw14489432954417806735:=0
def tw15433912878400461194:=0
def tw14885926634989536263:=0
def tw10908830069995157367:=0
def tw5144024304510445467:=0
def tw312495327556598966:=0
def tw6886915290172527205:=0
def tw16318450858863679680:=0
def tw11999913330605475686:=0
def tw16718658226275538850:=0
def tw10526384731834539383:=0
def tw6193864799193570985:=0
def tw17315389011434547692:=0
def tw6999918517452348698:=0
def tw5229253500823969646:=0
def tw18262550784320991588:=0
def tw7003613745816177360:=0
def tw17535279257342337641:=0
def tw674117581099559132:=0
def tw4623067499737716912:=0
def tw2115177517544569716:=0
def tw9894144911322782669:=0
def tw12559185139629959071:=0
def tw14856156641193374682:=0
def tw3831879374440467910:=0
def tw746526966471666368:=0
def tw9709090835267758320:=0
def tw18266284834091556121:=0
def tw3739192561584724644:=0
def tw16013279194249213848:=0
def tw17365659691894664008:=0
def tw3905154629842607693:=0
def tw14945359694896975616:=0
def tw17291130255302994069:=0
def tw11211327670732445272:=0
def tw2587090425677094943:=0
def tw4682623453058099118:=0
def tw10196705013310426720:=0
def tw9383811425741204878:=0
def tw16077991522857850006:=0
def tw2045245196174176563:=0
def tw2576580096059623253:=0
def tw2664359207622500724:=0
def tw17300892011188166851:=0
def tw3562705761148379994:=0
def tw166455869431466051:=0
def tw2496951943239852550:=0
def tw15973825175729854747:=0
def tw17912622128207140693:=0
def tw10265889023123480118:=0
def tw6652305204178357240:=0
def tw11767372777438730017:=0
def tw5223152619561770797:=0
def tw3256392462910114231:=0
def tw5044415648444482464:=0
def tw11395316276582509319:=0
def tw12857283090605827775:=0
def tw5332593032971092657:=0
def tw7588761189681170070:=0
def tw13930191335531581161:=0
def tw2408857068626133085:=0
def tw1423048221073756659:=0
def tw12219547785691001341:=0
def tw7932454066120342144:=0
def tw12479612408995865053:=0
def tw11603545422103082472:=0
def tw1085592195794887463:=0
def tw17695175219662385017:=0
def tw14392719472557876727:=0
def tw15135639252284603220:=0
def tw17877195470706125268:=0
def tw16971644597244478257:=0
def tw10486584752573325433:=0
def tw12651611985731553367:=0
def tw593298898897063911:=0
def tw15362238996880967744:=0
def tw12810808848012792198:=0
def tw10314383440577213511:=0
def tw15429137711493429095:=0
def tw18117292296336296351:=0
def tw1777641250531101285:=0
def tw11131696460261143781:=0
def tw18173096928417767823:=0
def tw14138508313759627342:=0
def tw7213457088788236572:=0
def tw9970220778599191494:=0
def tw17682623848261155694:=0
def tw8795121445180183302:=0
def tw399318540061332735:=0
def tw1751066049470431546:=0
def tw16819542106953688618:=0
def tw6702932634341328928:=0
def tw4747281672217784118:=0
def tw13305179267606387739:=0
def tw13199562382123039305:=0
def tw14998677414910224639:=0
def tw10157990525941287569:=0
def tw17383422914918117589:=0
def tw930262991329214391:=0
def tw11832946304530963075:=0
def tw4924255243061525739:=0
def tw15858647343863899279:=0
def tw18035423267116534582:=0
def tw17626210268184317860:=0
def tw30980403239674243:=0
def tw15847988525829821257:=0
def tw8129077582841373709:=0
def tw3204406516705201899:=0
def tw5825641340930420538:=0
def tw2912821690079832537:=0
def tw2603113994580538862:=0
def tw5542903689777320224:=0
def tw16935656954803595090:=0
def tw17830050441773387034:=0
def tw3392531130607569714:=0
def tw15735974663545181583:=0
def tw998475346698246136:=0
def tw11078249987290995375:=0
def tw16756618774844403110:=0
def tw3598757336921135154:=0
def tw7667316586220924516:=0
def tw12158798223508530440:=0
def tw14850095685122733714:=0
def tw18345448780848258345:=0
def tw15497997238508611227:=0
def tw14127584056005020221:=0
def tw11531212773330045757:=0
def tw7796654947522899879:=0
def tw15207906132867858518:=0
def tw17874615173825859921:=0
def tw1416609748769789266:=0
def tw8406928174690387553:=0
def tw3105631690076924390:=0
def tw18027201088092097598:=0
def tw16370988298019042128:=0
def tw10101923409184526739:=0
def tw2007999794455398482:=0
def tw1875101750900454712:=0
def tw12505047007685101971:=0
def tw15583323896768298984:=0
def tw5410633168010616441:=0
def tw16275516741670895050:=0
def tw5047863794800830057:=0
def tw12382578102832687902:=0
def tw5720995970537307726:=0
def tw10518444462022262419:=0
def tw7968040863187601346:=0
def tw3970993179841251361:=0
def tw11933513415515704772:=0
def tw10164967944373929100:=0
def tw5166827174009155623:=0
def tw5658448804870113992:=0
def tw16088463852042026394:=0
def tw18129999309231332041:=0
def tw4615315952888965452:=0
def tw9298164327403951440:=0
def tw5176415642344525129:=0
def tw7348910126634007795:=0
def tw13318497177127557997:=0
def tw2687761742751159348:=0
def tw12661180169952179419:=0
def tw10007401836425401673:=0
def tw18087179815643195339:=0
def tw745632363921284247:=0
def tw18352700002520966613:=0
def tw10124542041530077230:=0
def tw18394870571451769408:=0
def tw4725909240370249808:=0
def tw9884636927831134978:=0
def tw4269426816646774124:=0
def tw13244914101403688436:=0
def tw945723430959141220:=0
def tw15222522639024399618:=0
def tw10127109819381418584:=0
def tw11215631838049800910:=0
def tw18084682551704049751:=0
def tw14117375263668645881:=0
def tw10303523871742176114:=0
def tw9286839659161336528:=0
def tw10377286934434537327:=0
def tw4533844329005313671:=0
def tw7250574511592197285:=0
def tw5019377314148123448:=0
def tw8477846822110924349:=0
def tw17595922914478775047:=0
def tw2057904578664739379:=0
def tw16578659824331261815:=0
def tw7605564588743636159:=0
def tw8036392054715501165:=0
def tw5139958595972691545:=0
def tw10114179101418872216:=0
def tw2684843817335076783:=0
def tw18316017200543656893:=0
def tw15200202936278490483:=0
def tw17769554995758963850:=0
def tw3302191629720908846:=0
def tw9670222558121705502:=0
def tw6444097761462458403:=0
def tw15810409486908232308:=0
def tw2067698652358153066:=0
def tw12630730232859679452:=0
def tw13593231806631921624:=0
def tw7367966522093212549:=0
def tw10696956844816390228:=0
def tw8153666688060567656:=0
def tw13877168440764816956:=0
def tw7778838587838062107:=0
def tw620880664067511196:=0
def tw674037718376641293:=0
def tw3058334345360152777:=0
def tw16237964536951941345:=0
def tw11783516423583824008:=0
def tw9261886824575464702:=0
def tw10387499044203373807:=0
def tw6301415074210441633:=0
def tw5836300649306740825:=0
def tw7781666998371303870:=0
def tw8184629058868972826:=0
def tw15887811218775996397:=0
def tw18142580157477299622:=0
def tw13541788798546649125:=0
def tw2358521012270561910:=0
def tw10236564536733882664:=0
def tw17963977557826118863:=0
def tw6802473199027392122:=0
def tw422771753022346658:=0
def tw13421465921007758734:=0
def tw14951213957026930036:=0
def tw16556561257334478364:=0
def tw18176228807358750561:=0
def tw4128845819448969628:=0
def tw11595815203750461405:=0
def tw10497976392112722359:=0
def tw4869505998203152311:=0
def tw2574655686079067838:=0
def tw1979378803038839511:=0
def tw6298773308941703711:=0
def tw18181553394463150207:=0
def tw4612373581366437705:=0
def tw3150495425561856081:=0
def tw11967334593189389872:=0
def tw6922624669379865565:=0
def tw11678999965715486741:=0
def tw6659973995223281113:=0
def tw9940311300368927598:=0
def tw10532387019504016199:=0
def tw13478054484549505679:=0
def tw7454651472274233475:=0
def tw11675950135851182408:=0
def tw177038497077500290:=0
def tw7520673044296475829:=0
def tw5521855207576581657:=0
def tw2153736464890109929:=0
def tw145282803890544982:=0
def tw16064907606179899865:=0
def tw12707604715279847017:=0
def tw13436024052958653824:=0
def tw8359858372102260832:=0
def tw11282459958338012369:=0
def tw13279034373797931090:=0
def tw4789204846213038311:=0
def tw3075813176363175579:=0
def tw6086527339748919456:=0
def tw16544766049663227337:=0
def tw7618921774042616105:=0
def tw17404817147155020755:=0
def tw8383745418846539666:=0
def tw8783389484977536079:=0
def tw13456928614777001094:=0
def tw17788242786223216218:=0
def tw16911552735140829507:=0
def tw2398015612286923255:=0
def tw16429194337396124580:=0
def tw3366860646316653759:=0
def tw8130506868531374210:=0
def tw13626551264132085825:=0
def tw10563216412468768953:=0
def tw10104591634162745576:=0
def tw10179872920774099977:=0
def tw3212357607980272214:=0
def tw17173654872948215364:=0
def tw12071922434311679511:=0
def tw18301849201869208037:=0
def tw10532777988345452556:=0
def tw8495273851417908069:=0
def tw18236245715193884504:=0
def tw13917333978174217289:=0
def tw16652717701930930419:=0
def tw2054049337074524799:=0
def tw5115272535563240822:=0
def tw2469047181373836180:=0
def tw4385201074738579994:=0
def tw1735450472036502458:=0
def tw15068598773314928927:=0
def tw1836034184851911568:=0
def tw11256721126768952976:=0
def tw6114795640671426846:=0
def tw13652975918426543292:=0
def tw6199336724436346342:=0
def tw10275874372715140151:=0
def tw11665783290451663602:=0
def tw6393294576947986621:=0
def tw17789263722284504767:=0
def tw5934805241768362432:=0
def tw16963687333326536196:=0
def tw17849839512332828958:=0
def tw10252125541437304089:=0
def tw15325010829200706760:=0
def tw16823354843441285287:=0
def tw17840993566123790761:=0
def tw3719884884884227960:=0
def tw4618535723887013025:=0
def tw15999822186993541088:=0
def tw11830340612382377206:=0
def tw18297516172307799932:=0
def tw7627049088780058705:=0
def tw16903670395510326239:=0
def tw675077035235048701:=0
def tw4492273111167575891:=0
def tw8261525592061430320:=0
def tw1015228299051671326:=0
def tw4184454599937964297:=0
def tw17505691175298210912:=0
def tw13446656712425270426:=0
def tw6086390407764381277:=0
def tw1297942661310982135:=0
def tw12460391501496370953:=0
def tw6038351085670400787:=0
def tw6895285550802458647:=0
def tw7088881275201127885:=0
def tw9462613908654341150:=0
def tw8368380672779253950:=0
def tw12947683471967502836:=0
def tw7529732043786897107:=0
def tw11975787449682556452:=0
def tw266743041311060749:=0
def tw5030533619716617962:=0
def tw16428526371429499615:=0
def tw11359609196349633707:=0
def tw4084721247181243553:=0
def tw8327827171417939688:=0
def tw1647438700572798817:=0
def tw4752124802890806903:=0
def tw9669129443285895947:=0
def tw12734796326717776305:=0
def tw16578412539337196370:=0
def tw16762924883705623158:=0
def tw11233498631517493160:=0
def tw12671241343649389840:=0
def tw17063603938442896535:=0
def tw12624379999868311926:=0
def tw12893737128995778593:=0
def tw57081020006311748:=0
def tw14566952441259213364:=0
def tw1414124715624863357:=0
def tw15444656675176247720:=0
def tw17977538620629971430:=0
def tw9004348327014521728:=0
def tw10705992595613622401:=0
def tw17323634936119905915:=0
def tw13315414789956639815:=0
def tw16190238328973106956:=0
def tw17572253797073418562:=0
def tw18377703135665486425:=0
def tw1674050798428649047:=0
def tw4018305248484900946:=0
def tw7727496872798462368:=0
def tw13501016823323255371:=0
def tw467295989240997835:=0
def tw12392963843344438598:=0
def tw13449192949966667712:=0
def tw5658847346924563650:=0
def tw1757332460386021466:=0
def tw2650380613942713654:=0
def tw12888100802281984090:=0
def tw12203317243084912663:=0
def tw10714732782386762676:=0
def tw8446525279922945633:=0
def tw11474019766902605553:=0
def tw3213488605488263970:=0
def tw11118117475705218409:=0
def tw8441694671373639487:=0
def tw10560372491218092462:=0
def tw5326668100300330609:=0
def tw17226204484774064890:=0
def tw14150598976913449195:=0
def tw16541159475997053107:=0
def tw11235756115978305722:=0
def tw11559475733514444726:=0
def tw18236701791206790387:=0
def tw10552299369408394129:=0
def tw2430814839839865658:=0
def tw9220995094189858892:=0
def tw12665730347282088260:=0
def tw17063235378686755980:=0
def tw6105055269569099511:=0
def tw10291495123189957642:=0
def tw12892600057966487558:=0
def tw11406159139543830496:=0
def tw14323203850076757496:=0
def tw16487765722900322601:=0
def tw10339811666261938297:=0
def tw13109045058242899463:=0
def tw7742295060778546926:=0
def tw8795452571946060315:=0
def tw3162808610723712086:=0
def tw8764467164645423926:=0
def tw1265244241418188895:=0
def tw13152446373310965668:=0
def tw3869310164062704847:=0
def tw14559024832606814353:=0
def tw11438637372816737336:=0
def tw5016698975528782676:=0
def tw9432722873366463907:=0
def tw15693294718067040258:=0
def tw7771551278587564932:=0
def tw18290223191181254460:=0
def tw9153616159259809899:=0
def tw16206065988068070076:=0
def tw12522836589917104675:=0
def tw302195309937559609:=0
def tw3532500009826597525:=0
def tw17815999105309714827:=0
def tw2597760462545097799:=0
def tw15052536195715896576:=0
def tw3086955483166387543:=0
def tw2546797755900865442:=0
def tw17332143761869816647:=0
def tw6518000399520211473:=0
def tw5689030245215597579:=0
def tw10738265242608462637:=0
def tw17647212417225596861:=0
def tw7354929055682071748:=0
def tw10367006175827041430:=0
def tw13975170300032301850:=0
def tw6171293434387203239:=0
def tw15999129123411598235:=0
def tw33476681153931449:=0
def tw15338621890866098958:=0
def tw9107178155490523412:=0
def tw18323478194835981968:=0
def tw1460092874980329643:=0
def tw13595284982511053499:=0
def tw7051528259252994377:=0
def tw14163384502401667311:=0
def tw12017474124427250693:=0
def tw17142168673687690047:=0
def tw11587639771758013101:=0
def tw5052537403015564806:=0
def tw1091887229899605838:=0
def tw1500312802678584859:=0
def tw3039334699826427299:=0
def tw13575762007979490867:=0
def tw13639848785824789734:=0
def tw8490264771997898164:=0
def tw11872229688174518414:=0
def tw10262789400884755418:=0
def tw138826491606481894:=0
def tw8564556019082097246:=0
def tw10400283370731001182:=0
def tw11528829256954651066:=0
def tw17718072646081821363:=0
def tw6903939201709189078:=0
def tw9540697641081289306:=0
def tw7343998824925892639:=0
def tw4890728573065442740:=0
def tw3304144925271245827:=0
def tw6002679636219327878:=0
def tw2158222534961178381:=0
def tw232001309160946570:=0
def tw12591129344310000580:=0
def tw13949093188050320683:=0
def tw7247399907816326975:=0
def tw2827037710194139509:=0
def tw13767773945458029976:=0
def tw12682772465943396958:=0
def tw13694570326016398165:=0
def tw5341275901879175987:=0
def tw3529347211373978259:=0
def tw7444223613562425535:=0
def tw11174297883106991858:=0
def tw11561698104827271448:=0
def tw11951244924183108287:=0
def tw14161562991872101226:=0
def tw1688849412406346976:=0
def tw2345939265915040464:=0
def tw3287140616191325828:=0
def tw12974262079269875579:=0
def tw10440122848459723268:=0
def tw7742042509165754092:=0
def tw7069733674277891407:=0
def tw14895793653519338571:=0
def tw519136505226470484:=0
def tw11084338185983108133:=0
def tw1567535761414279878:=0
def tw12793474710950104226:=0
def tw3594704486461921832:=0
def tw6472493042025497162:=0
def tw9643658538282589237:=0
def tw7904237242565562327:=0
def tw8872724526297282390:=0
def tw9188442689743126692:=0
def tw14302989976672935029:=0
def tw7124175555214941853:=0
def tw13237611039738876731:=0
def tw6627826083843253287:=0
def tw14643943663641067800:=0
def tw14972639128840523938:=0
def tw439483474028016643:=0
def tw16493178187245079562:=0
def tw8734998045623565558:=0
def tw5292458426008553682:=0
def tw3717523290012076068:=0
def tw5072410242259247408:=0
def tw1189726510107932417:=0
def tw3724696125677915428:=0
def tw12673065179906341739:=0
def tw5069699892449158742:=0
def tw9085351580136718800:=0
def tw17359749875977332597:=0
def tw8016181762751359077:=0
def tw15872823196282991572:=0
def tw3978381067189181908:=0
def tw9118429519796602909:=0
def tw8190312418282544507:=0
def tw10383825016663165418:=0
def tw3954421954322363839:=0
def tw9867347961679297359:=0
def tw12465352331206106624:=0
def tw18128587006414893125:=0
def tw8102883199080670864:=0
def tw13805202581424391240:=0
def tw8827972966390507871:=0
def tw9586327147491408762:=0
def tw16520618532162663975:=0
def tw13664644243592284801:=0
def tw13584069704535417845:=0
def tw10355211245780305119:=0
def tw12813325705204096399:=0
def tw16404039898658891610:=0
def tw6551981049341222806:=0
def tw16102863591386183584:=0
def tw1856977060250311349:=0
def tw10664473912490379405:=0
def tw18085029972251446451:=0
def tw18180437287561894030:=0
def tw6254379914321445460:=0
def tw17962142234503157941:=0
def tw11574833989072855876:=0
def tw11256041592713041479:=0
def tw12556540625031458288:=0
def tw504047493410286710:=0
def tw3363239895939711749:=0
def tw8468689806930329740:=0
def tw3329962298008904432:=0
def tw6553096466315022263:=0
def tw16275233627389457220:=0
def tw12595760199653154972:=0
def tw2921094248017741402:=0
def tw12553769112029658616:=0
def tw1135672160600424649:=0
def tw13621141392393302117:=0
def tw623174772984705158:=0
def tw5888313854544425770:=0
def tw6093975835818546152:=0
def tw10402060835932980081:=0
def tw8640282951420795832:=0
def tw332823304901735991:=0
def tw97816185034512950:=0
def tw16935245893423928396:=0
def tw9655393265769634878:=0
def tw637515418380847164:=0
def tw12281919580624365936:=0
def tw3425941377178063510:=0
def tw14929375711476716036:=0
def tw5024282760817157801:=0
def tw11077824083909493479:=0
def tw8812011556133324002:=0
def tw10097351462557164100:=0
def tw13666005101568344924:=0
end PySem.W.Fast
open PySem PySem.W PyProof.Rows
set_option maxRecDepth 100000 in
set_option maxHeartbeats 0 in
theorem PySem.Challenge.cw_manrent_k45_rows_struck_and_corrected_holds : PySem.Challenge.rw_manrent_k45_rows_struck_and_corrected.Holds := by
 w_on;o_law;k_head;(case hw=>w_witness2)
 k_fill
 refine M.walk (l:=PySem.Challenge.rw_manrent_k45_rows_struck_and_corrected) rfl rfl (fun w h Y=>PySem.W.kIn_of Y) ?F
 case F =>
  intro w mg fa h KX G hmg
  refine' M.all_mk KX G hmg ?a1 ?l1 ?c1 ?k1 ?a2 ?l2 ?c2 ?k2 ?a3 ?l3 ?c3 ?k3 ?a4 ?l4 ?c4 ?k4 ?a5 ?l5 ?c5 ?k5 ?a6 ?l6 ?c6 ?k6 ?a7 ?l7 ?c7 ?k7 ?a8 ?l8 ?c8 ?k8 ?a9 ?l9 ?c9 ?k9 ?a10 ?l10 ?c10 ?k10 ?a11 ?l11 ?c11 ?k11 ?a12 ?l12 ?c12 ?k12 ?a13 ?l13 ?c13 ?k13 ?a14 ?l14 ?c14 ?k14 ?a15 ?l15 ?c15 ?k15 ?a16 ?l16 ?c16 ?k16 ?a17 ?l17 ?c17 ?k17 ?a18 ?l18 ?c18 ?k18 ?a19 ?l19 ?c19 ?k19 ?a20 ?l20 ?c20 ?k20 ?a21 ?l21 ?c21 ?k21 ?a22 ?l22 ?c22 ?k22 ?a23 ?l23 ?c23 ?k23 ?a24 ?l24 ?c24 ?k24 ?a25 ?l25 ?c25 ?k25 ?a26 ?l26 ?c26 ?k26 ?a27 ?l27 ?c27 ?k27 ?a28 ?l28 ?c28 ?k28 ?q1 ?q2 ?q3 ?q4 ?q5 ?q6 ?q7 ?q8 ?q9 ?q10 ?q11 ?q12 ?q13 ?z1 ?z2 ?z3 ?z4 ?z5 ?z6 ?z7 ?z8 ?z9 ?z10 ?z11 ?z12 ?z13 ?z14 ?z15 ?sg ?tg ?hxCF ?x1CF ?x2CF ?x3CF ?x4CF ?x5CF ?x6CF ?exCF ?yCFCF ?yCFCN ?yCFCT ?yCFCH ?hxCN ?x1CN ?x2CN ?x3CN ?x4CN ?x5CN ?x6CN ?exCN ?yCNCF ?yCNCN ?yCNCT ?yCNCH ?hxCT ?x1CT ?x2CT ?x3CT ?x4CT ?x5CT ?x6CT ?exCT ?yCTCF ?yCTCN ?yCTCT ?yCTCH ?hxCH ?x1CH ?x2CH ?x3CH ?x4CH ?x5CH ?x6CH ?exCH ?yCHCF ?yCHCN ?yCHCT ?yCHCH ?y5 ?y6 ?fa_I ?la_I ?ca_I ?ka_I ?ia_I ?fa_Fr ?la_Fr ?ca_Fr ?ka_Fr ?ia_Fr ?fa_Rw ?la_Rw ?ca_Rw ?ka_Rw ?ia_Rw ?fa_En ?la_En ?ca_En ?ka_En ?ia_En ?fa_Ea ?la_Ea ?ca_Ea ?ka_Ea ?ia_Ea ?fa_Sk ?la_Sk ?ca_Sk ?ka_Sk ?ia_Sk ?fa_Co ?la_Co ?ca_Co ?ka_Co ?ia_Co ?fa_Ba ?la_Ba ?ca_Ba ?ka_Ba ?ia_Ba ?fa_Ag ?la_Ag ?ca_Ag ?ka_Ag ?ia_Ag ?fa_Ra ?la_Ra ?ca_Ra ?ka_Ra ?ia_Ra ?fa_Se ?la_Se ?ca_Se ?ka_Se ?ia_Se ?pgR ?hdR ?poR ?saR ?mkR ?kpR ?na1 ?na2 ?na3 ?na4 ?na5 ?kF ?eF ?lF ?kB ?eB ?lB ?t_f1_ ?s_f1_ ?v_f1_ ?t_f2_ ?s_f2_ ?v_f2_ ?t_f3_ ?s_f3_ ?v_f3_ ?t_f4_ ?s_f4_ ?v_f4_ ?t_f5_ ?s_f5_ ?v_f5_ ?t_f6_ ?s_f6_ ?v_f6_ ?t_f7_ ?s_f7_ ?v_f7_ ?t_b1_ ?s_b1_ ?v_b1_ ?t_b2_ ?s_b2_ ?v_b2_ ?t_b3_ ?s_b3_ ?v_b3_ ?t_b4_ ?s_b4_ ?v_b4_ ?t_b7_ ?s_b7_ ?v_b7_ ?t_tw_ ?s_tw_ ?v_tw_
  case a1|l1|c1|k1|a2|l2|c2|k2|a3|l3|c3|k3|a4|l4|c4|k4|a5|l5|c5|k5|a6|l6|c6|k6|a7|l7|c7|k7|a8|l8|c8|k8|a9|l9|c9|k9|a10|l10|c10|k10|a11|l11|c11|k11|a12|l12|c12|k12|a13|l13|c13|k13|a14|l14|c14|k14|a15|l15|c15|k15|a16|l16|c16|k16|a17|l17|c17|k17|a18|l18|c18|k18|a19|l19|c19|k19|a20|l20|c20|k20|a21|l21|c21|k21|a22|l22|c22|k22|a23|l23|c23|k23|a24|l24|c24|k24|a25|l25|c25|k25|a26|l26|c26|k26|a27|l27|c27|k27|a28|l28|c28|k28|q1|q2|q3|q4|q5|q6|q7|q8|q9|q10|q11|q12|q13|z1|z2|z3|z4|z5|z6|z7|z8|z9|z10|z11|z12|z13|z14|z15|sg|tg=>k_is
  (case hxCF=>k_exc)
  case x1CF|x2CF|x3CF|x4CF|x5CF|x6CF=>k_is
  (case exCF=>kts_exm)
  case yCFCF|yCFCN|yCFCT|yCFCH=>kit_is
  (case hxCN=>k_exc)
  case x1CN|x2CN|x3CN|x4CN|x5CN|x6CN=>k_is
  (case exCN=>kts_exm)
  case yCNCF|yCNCN|yCNCT|yCNCH=>kit_is
  (case hxCT=>k_exc)
  case x1CT|x2CT|x3CT|x4CT|x5CT|x6CT=>k_is
  (case exCT=>kts_exm)
  case yCTCF|yCTCN|yCTCT|yCTCH=>kit_is
  (case hxCH=>k_exc)
  case x1CH|x2CH|x3CH|x4CH|x5CH|x6CH=>k_is
  (case exCH=>kts_exm)
  case yCHCF|yCHCN|yCHCT|yCHCH|y5|y6=>kit_is
  case fa_I|la_I|ca_I|ka_I|ia_I|fa_Fr|la_Fr|ca_Fr|ka_Fr|ia_Fr|fa_Rw|la_Rw|ca_Rw|ka_Rw|ia_Rw|fa_En|la_En|ca_En|ka_En|ia_En|fa_Ea|la_Ea|ca_Ea|ka_Ea|ia_Ea|fa_Sk|la_Sk|ca_Sk|ka_Sk|ia_Sk|fa_Co|la_Co|ca_Co|ka_Co|ia_Co|fa_Ba|la_Ba|ca_Ba|ka_Ba|ia_Ba|fa_Ag|la_Ag|ca_Ag|ka_Ag|ia_Ag|fa_Ra|la_Ra|ca_Ra|ka_Ra|ia_Ra|fa_Se|la_Se|ca_Se|ka_Se|ia_Se|pgR|hdR|poR|saR|mkR|kpR|na1|na2|na3|na4|na5|kF=>k_is
  (case eF=>exact ⟨⟨⟨_,rfl⟩,rfl,rfl⟩,⟨⟨_,rfl⟩,rfl,rfl⟩,⟨⟨_,rfl⟩,rfl,rfl⟩,⟨⟨_,rfl⟩,rfl,rfl⟩,⟨⟨_,rfl⟩,rfl,rfl⟩,⟨⟨_,rfl⟩,rfl,rfl⟩,⟨⟨_,rfl⟩,rfl,rfl⟩,True.intro⟩)
  (case lF=>rfl)
  case kB=>k_is
  (case eB=>exact ⟨⟨⟨_,rfl⟩,rfl,rfl⟩,⟨⟨_,rfl⟩,rfl,rfl⟩,⟨⟨_,rfl⟩,rfl,rfl⟩,⟨⟨_,rfl⟩,rfl,rfl⟩,⟨⟨_,rfl⟩,rfl,rfl⟩,⟨⟨_,rfl⟩,rfl,rfl⟩,⟨⟨_,rfl⟩,rfl,rfl⟩,True.intro⟩)
  (case lB=>rfl)
  case t_f1_=>k_is
  (case s_f1_=>exact M.small (Nat.le_of_ble_eq_true rfl))
  (case v_f1_=>exact .cons ⟨_,rfl⟩ (.cons ⟨_,rfl⟩ (.cons ⟨_,rfl⟩ (.nil))))
  case t_f2_=>k_is
  (case s_f2_=>exact M.small (Nat.le_of_ble_eq_true rfl))
  (case v_f2_=>exact .cons ⟨_,rfl⟩ (.cons ⟨_,rfl⟩ (.cons ⟨_,rfl⟩ (.cons ⟨_,rfl⟩ (.cons ⟨_,rfl⟩ (.cons ⟨_,rfl⟩ (.nil)))))))
  case t_f3_=>k_is
  (case s_f3_=>exact M.small (Nat.le_of_ble_eq_true rfl))
  (case v_f3_=>exact .cons ⟨_,rfl⟩ (.cons ⟨_,rfl⟩ (.cons ⟨_,rfl⟩ (.cons ⟨_,rfl⟩ (.cons ⟨_,rfl⟩ (.nil))))))
  case t_f4_=>k_is
  (case s_f4_=>exact M.small (Nat.le_of_ble_eq_true rfl))
  (case v_f4_=>exact .cons ⟨_,rfl⟩ (.cons ⟨_,rfl⟩ (.cons ⟨_,rfl⟩ (.nil))))
  case t_f5_=>k_is
  (case s_f5_=>exact M.small (Nat.le_of_ble_eq_true rfl))
  (case v_f5_=>exact .cons ⟨_,rfl⟩ (.cons ⟨_,rfl⟩ (.cons ⟨_,rfl⟩ (.nil))))
  case t_f6_=>k_is
  (case s_f6_=>exact M.small (Nat.le_of_ble_eq_true rfl))
  (case v_f6_=>exact .cons ⟨_,rfl⟩ (.cons ⟨_,rfl⟩ (.nil)))
  case t_f7_=>k_is
  (case s_f7_=>exact M.small (Nat.le_of_ble_eq_true rfl))
  (case v_f7_=>exact .cons ⟨_,rfl⟩ (.cons ⟨_,rfl⟩ (.nil)))
  case t_b1_=>k_is
  (case s_b1_=>exact M.small (Nat.le_of_ble_eq_true rfl))
  (case v_b1_=>exact .cons ⟨_,rfl⟩ (.cons ⟨_,rfl⟩ (.nil)))
  case t_b2_=>k_is
  (case s_b2_=>exact M.small (Nat.le_of_ble_eq_true rfl))
  (case v_b2_=>exact .cons ⟨_,rfl⟩ (.cons ⟨_,rfl⟩ (.nil)))
  case t_b3_=>k_is
  (case s_b3_=>exact M.small (Nat.le_of_ble_eq_true rfl))
  (case v_b3_=>exact .cons ⟨_,rfl⟩ (.cons ⟨_,rfl⟩ (.nil)))
  case t_b4_=>k_is
  (case s_b4_=>exact M.small (Nat.le_of_ble_eq_true rfl))
  (case v_b4_=>exact .cons ⟨_,rfl⟩ (.cons ⟨_,rfl⟩ (.nil)))
  case t_b7_=>k_is
  (case s_b7_=>exact M.small (Nat.le_of_ble_eq_true rfl))
  (case v_b7_=>exact .cons ⟨_,rfl⟩ (.cons ⟨_,rfl⟩ (.nil)))
  case t_tw_=>k_is
  (case s_tw_=>exact M.small (Nat.le_of_ble_eq_true rfl))
  (case v_tw_=>exact .cons ⟨_,rfl⟩ (.cons ⟨_,rfl⟩ (.nil)))
