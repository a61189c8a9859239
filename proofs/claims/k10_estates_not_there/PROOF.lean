import PyProof.Rows.All
import Wide.All
import OpenK.AllK
import Wide.FinOn
import Lean
import PyProof.EqAt
import PyProof.EqKinds
import PyProof.TupleCall
import PyProof.P3Eq
import PyProof.NeData
import KE.KTryDeep
import KE.KTryMore
import KE.KIsAll
import PyProof.NsDelKeeps
import PyProof.ExcArgsOwn
import OpenK.KTop
import PyProof.ExcBaseAll.ValueError
import PyProof.EnumMake
import PyProof.Draws
import KE.KSetDisp
import PyProof.SetRoads
import PyProof.Rows.SortStr
import PyProof.Rows.SortWalk
import PyProof.DictItems
import PyProof.DictValues
import KE.KSortTup
import KE.KItemsList
import KE.KDictOf
import KE.KDictList
import PyProof.ListRange
import PyProof.SetKind
import PyProof.Rows.SetFrom
import PyProof.DictTruth
import PyProof.Rows.SumAny
import KE.RegKIsAll
import KE.RegKTryMore
import PySem.Challenge.RW_manrent_k10_estates_not_there
set_option Elab.async false
set_option linter.all false
set_option maxRecDepth 100000
namespace L2
open PySem PySem.Spec PyProof.Rows
abbrev Key:=Sum Int Str
def qZ:Key→Value→Bool
 | .inl k,v=>Value.isInt k v
 | .inr x,v=>Value.isStrOf x v
def keyH (w:World):Key→Int
 | .inl k=>hashInt k
 | .inr x=>hashStr w x
theorem cU:∀ {k:Key}{v:Value},qZ k v=true→(∃ i t,k=Sum.inl i∧v=Value.int i t)∨(∃ x t,k=Sum.inr x∧v=Value.str x t)
 | .inl i,v,h=>by
  obtain ⟨t,e⟩:=Value.isInt_shape (k:=i) (v:=v) h
  exact .inl ⟨i,t,rfl,e⟩
 | .inr x,v,h=>by
  obtain ⟨t,e⟩:=Value.isStrOf_shape (x:=x) (v:=v) h
  exact .inr ⟨x,t,rfl,e⟩
theorem DQ (i:Int) (t:Tok):qZ (.inl i) (.int i t)=true:=by simp [qZ,Value.isInt]
theorem DR (x:Str) (t:Tok):qZ (.inr x) (.str x t)=true:=by simp [qZ,Value.isStrOf]
theorem Rk (a b:Int):decide ((Sum.inl a:Key)=Sum.inl b)=(a==b):=by
 by_cases e:a=b
 ·subst e;simp
 ·have h:¬ (Sum.inl a:Key)=Sum.inl b:=fun q=>e (Sum.inl.inj q)
  rw [decide_eq_false h]
  exact (beq_eq_false_iff_ne.mpr e).symm
theorem Rm (a b:Str):decide ((Sum.inr a:Key)=Sum.inr b)=decide (a=b):=by
 by_cases e:a=b
 ·subst e;simp
 ·have h:¬ (Sum.inr a:Key)=Sum.inr b:=fun q=>e (Sum.inr.inj q)
  rw [decide_eq_false h,decide_eq_false e]
theorem Rn (a:Int) (b:Str):decide ((Sum.inl a:Key)=Sum.inr b)=false:=decide_eq_false (fun q=>nomatch q)
theorem Ro (a:Str) (b:Int):decide ((Sum.inr a:Key)=Sum.inl b)=false:=decide_eq_false (fun q=>nomatch q)
def bU (prog:Program) (w:World):PySem.KeyKind prog w Key where
 is:=qZ
 hash:=keyH w
 inj:=fun v a b ha hb=>by
  rcases cU ha with ⟨i,t,rfl,rfl⟩ | ⟨x,t,rfl,rfl⟩
  ·rcases cU hb with ⟨j,u,rfl,e⟩ | ⟨y,u,rfl,e⟩
   ·injection e with e1 _;rw [e1]
   ·exact nomatch e
  ·rcases cU hb with ⟨j,u,rfl,e⟩ | ⟨y,u,rfl,e⟩
   ·exact nomatch e
   ·injection e with e1 _;rw [e1]
 byValue:=fun k v h=>by
  rcases cU h with ⟨i,t,rfl,rfl⟩ | ⟨x,t,rfl,rfl⟩ <;> rfl
 pyHash:=fun hv h=>by
  rcases cU hv with ⟨i,t,rfl,rfl⟩ | ⟨x,t,rfl,rfl⟩
  ·exact wpAny_pyHash_int h
  ·exact wpAny_pyHash_str h
 eqBool:=fun hu hv h=>by
  rcases cU hu with ⟨i,t,rfl,rfl⟩ | ⟨x,t,rfl,rfl⟩
  ·rcases cU hv with ⟨j,u,rfl,rfl⟩ | ⟨y,u,rfl,rfl⟩
   ·rw [Rk] at h;exact wpAny_eqBool_int h
   ·rw [Rn] at h;exact SeqAt.EqAt.int_str i t y u _ _ _ _ h
  ·rcases cU hv with ⟨j,u,rfl,rfl⟩ | ⟨y,u,rfl,rfl⟩
   ·rw [Ro] at h;exact SeqAt.EqAt.str_int x t j u _ _ _ _ h
   ·rw [Rm] at h;exact wpAny_eqBool_str h
 «strs»:=fun k x t v h=>by
  rcases cU h with ⟨i,u,rfl,e⟩ | ⟨y,u,rfl,e⟩
  ·exact nomatch e
  ·injection e with e1 _
   subst e1
   cases v <;> rfl
theorem wR (prog:Program) (w:World) (i:Int) (t:Tok):(bU prog w).is (.inl i) (.int i t)=true:=DQ i t
theorem wU (prog:Program) (w:World) (x:Str) (t:Tok):(bU prog w).is (.inr x) (.str x t)=true:=DR x t
end L2
namespace L2
open PySem PySem.Spec PyProof.Rows
inductive V where
 | non | bl (b:Bool) | int (i:Int) | str (x:Str) | BX (b:Array UInt8) | flt (b:UInt64) | ref (a:Addr) | ty (n:String)
 deriving DecidableEq
def RelV:V→Value→Prop
 | .non,u=>u=Value.none
 | .bl b,u=>u=Value.bool b
 | .int i,u=>∃ t,u=Value.int i t
 | .str x,u=>∃ t,u=Value.str x t
 | .BX b,u=>∃ t,u=Value.bytes b t
 | .flt b,u=>∃ t,u=Value.float b t
 | .ref a,u=>u=Value.ref a
 | .ty n,u=>u=Value.type n
abbrev Vals:List V→List Value→Prop:=Paired RelV
theorem Vals.length {xs:List V}{us:List Value} (r:Vals xs us):xs.length=us.length:=Paired.length r
theorem Vals.get:∀ {xs:List V}{us:List Value}{i:Nat}{x:V},Vals xs us→xs[i]?=some x→∃ u,us[i]?=some u∧RelV x u
 | _,_,_,_,.nil,e=>by simp at e
 | _,_,0,_,.cons r _,e=>by simp at e;subst e;exact ⟨_,rfl,r⟩
 | _,_,i+1,x,.cons _ t,e=>by
  obtain ⟨u,h1,h2⟩:=Vals.get (i:=i) (x:=x) t (by simpa using e)
  exact ⟨u,by simpa using h1,h2⟩
theorem Vals.append:∀ {xs ys:List V}{us ws:List Value},Vals xs us→Vals ys ws→Vals (xs++ys) (us++ws)
 | _,_,_,_,.nil,s=>s
 | _,_,_,_,.cons r t,s=>.cons r (Vals.append t s)
theorem Vals.take:∀ {xs:List V}{us:List Value} (n:Nat),Vals xs us→Vals (xs.take n) (us.take n)
 | _,_,0,_=>.nil
 | _,_,_+1,.nil=>.nil
 | _,_,n+1,.cons r t=>.cons r (Vals.take n t)
theorem Vals.drop:∀ {xs:List V}{us:List Value} (n:Nat),Vals xs us→Vals (xs.drop n) (us.drop n)
 | _,_,0,r=>r
 | _,_,_+1,.nil=>.nil
 | _,_,n+1,.cons _ t=>Vals.drop n t
theorem Vals.none_of:∀ {xs:List V}{us:List Value}{i:Nat},Vals xs us→xs[i]?=none→us[i]?=none:=fun {xs us i} r e=>by
 have h1:=r.length
 have h2:xs.length≤i:=List.getElem?_eq_none_iff.mp e
 exact List.getElem?_eq_none_iff.mpr (by omega)
def jd:Option V→Option Value→Prop
 | some v,some u=>RelV v u
 | none,none=>True
 | _,_=>False
def KV {κ:Type}:List (κ×V)→List (κ×Value)→Prop:=Paired fun (p:κ×V) (q:κ×Value)=>p.1=q.1∧RelV p.2 q.2
def kV:Key→V
 | .inl i=>.int i
 | .inr x=>.str x
inductive HO where
 | lst (xs:List V)
 | tup (xs:List V)
 | dK (kvs:List (Key×V)) | dT (kvs:List (List Key×V))
 | set (S:Int→Bool) (n:Nat)
 | ins (C dx:Addr) (fs:List (Str×V))
 | own (x:Addr)
 | xd (fs:List (Str×V))
 | met (f x:Addr)
 | rng (lo hi:Int)
 | fX (o:Obj) (u:HO)
 | KR (ps:Array Value)
 | ext (φ:Heap→Prop)
abbrev Hp:=Addr→Option HO
def upd (H:Hp) (a:Addr) (o:HO):Hp:=fun b=>if b=a then some o else H b
theorem ak {H:Hp}{a:Addr}{o:HO}:upd H a o a=some o:=by unfold upd;rw [if_pos rfl]
theorem ao {H:Hp}{a b:Addr}{o:HO} (h:b≠a):upd H a o b=H b:=by unfold upd;rw [if_neg h]
theorem bh {H:Hp}{a b:Addr}{o u:HO} (h:H a=some o) (h':H b=some u) (d:o≠u):a≠b:=by
 intro e;subst e;rw [h] at h';exact d (Option.some.inj h')
theorem aH {H:Hp}{a b:Addr}{o:HO} (h:H a=some o) (h':H b=none):a≠b:=by
 intro e;subst e;rw [h] at h';cases h'
section
variable (P:Program) (w:World)
def cJ (H:Hp) (h:Heap) (a:Addr):HO→Prop
 | .lst xs=>xs.length≤sizeLine∧∃ (its:List Value) (n:Nat),Vals xs its∧h.get? a=some { cls:=.type "list",data:=.seq its.toArray n }
 | .tup xs=>xs.length≤sizeLine∧∃ its:List Value,Vals xs its∧IsTup h a its.toArray
 | .dK kvs=>kvs.length≤sizeLine∧(a==sysModules)=false∧∃ vs,KV kvs vs∧h.DictOf (bU P w) a vs
 | .dT kvs=>kvs.length≤sizeLine∧(a==sysModules)=false∧∃ xs:List (List Key×Addr×Value),
   Paired (fun (p:List Key×V) (q:List Key×Addr×Value)=>p.1=q.1∧H q.2.1=some (.tup (p.1.map kV))∧RelV p.2 q.2.2) kvs xs ∧
   ∃ o es ep,h.get? a=some o∧o.ExactDict∧o.data=.dict es ep∧es.toList=xs.map (entryOfKey (tupleKind (bU P w)))∧(xs.map (·.1)).Nodup
 | .set S n=>h.SetOf (intKind P w) a S n
 | .ins C dx fs=>H dx=some (.own a)∧fs.length≤1000∧dx≠a∧h.get? a=some (PySem.W.instObj C dx) ∧
   ∃ mA,h.Ns1 dx mA∧(∀ f,jd (fs.lookup f) (mA f))∧PySem.Within mA (fs.map (·.1))
 | .own _=>∃ o,h.get? a=some o
 | .xd fs=>∃ mA,h.Ns1 a mA∧∀ f,jd (fs.lookup f) (mA f)
 | .rng lo hi=>∃ t u v,h.get? a=some { cls:=.type "range",data:=.fields #[.int lo t,.int hi u,.int 1 v] }
 | .fX o u=>h.get? a=some o∧cJ H h a u
 | .KR ps=>h.get? a=some { cls:=.none,data:=.fields ps }
 | .met f x=>h.get? a=some (PySem.W.methodObj (.ref f) (.ref x))
 | .ext φ=>φ h∧(∃ o,h.get? a=some o)∧∀ h1 h2:Heap,φ h1→(∀ o,h1.get? a=some o→h2.get? a=some o)→φ h2
def jX (H:Hp) (h:Heap):Prop:=∀ a o,H a=some o→cJ P w H h a o
end
section
variable {P:Program}{w:World}{H H':Hp}{h h':Heap}{a:Addr}{o:HO}
theorem cJ.lt (x:cJ P w H h a o):a<h.objs.size:=by
 cases o with
 | lst xs=>obtain ⟨_,_,_,_,e⟩:=x;exact Heap.lt_size e
 | tup xs=>obtain ⟨_,_,_,p⟩:=x;exact p.lt
 | dK kvs=>obtain ⟨_,_,_,_,o,_,_,e,_⟩:=x;exact Heap.lt_size e
 | dT kvs=>obtain ⟨_,_,_,_,o,_,_,e,_⟩:=x;exact Heap.lt_size e
 | set S n=>obtain ⟨o,_,_,_,e,_⟩:=x;exact Heap.lt_size e
 | ins C dx fs=>obtain ⟨_,_,_,e,_⟩:=x;exact Heap.lt_size e
 | own y=>obtain ⟨_,e⟩:=x;exact Heap.lt_size e
 | xd fs=>obtain ⟨_,⟨_,_,_,e,_⟩,_⟩:=x;exact Heap.lt_size e
 | rng lo hi=>obtain ⟨_,_,_,e⟩:=x;exact Heap.lt_size e
 | fX ob u=>obtain ⟨e,_⟩:=x;exact Heap.lt_size e
 | KR ps=>exact Heap.lt_size (show h.get? a=some _ from x)
 | met f y=>exact Heap.lt_size (show h.get? a=some _ from x)
 | ext φ=>obtain ⟨_,⟨_,e⟩,_⟩:=x;exact Heap.lt_size e
theorem Paired.Rp {α β:Type}{F G:α→β→Prop}:∀ {l₁:List α}{l₂:List β},Paired F l₁ l₂→(∀ a b,F a b→G a b)→Paired G l₁ l₂
 | _,_,.nil,_=>.nil
 | _,_,.cons r t,f=>.cons (f _ _ r) (Paired.Rp t f)
theorem cJ.stay (x:cJ P w H h a o) (k:∀ b u,(b=a∨H b=some (.own a))→h.get? b=some u→h'.get? b=some u)
  (ho:∀ b,H b=some (.own a)→H' b=some (.own a)) (ht:∀ b xs,H b=some (.tup xs)→H' b=some (.tup xs)):cJ P w H' h' a o:=by
 induction o with
 | lst xs=>obtain ⟨z,its,n,r,e⟩:=x;exact ⟨z,its,n,r,k _ _ (.inl rfl) e⟩
 | tup xs=>obtain ⟨z,its,r,ob,e,c⟩:=x;exact ⟨z,its,r,ob,k _ _ (.inl rfl) e,c⟩
 | dK kvs=>obtain ⟨z,y,vs,r,ob,es,ep,e,c⟩:=x;exact ⟨z,y,vs,r,ob,es,ep,k _ _ (.inl rfl) e,c⟩
 | dT kvs =>
  obtain ⟨z,y,xs,r,ob,es,ep,e,c⟩:=x
  exact ⟨z,y,xs,Paired.Rp r fun p q z=>⟨z.1,ht _ _ z.2.1,z.2.2⟩,ob,es,ep,k _ _ (.inl rfl) e,c⟩
 | set S n=>obtain ⟨ob,es,ep,t,e,c⟩:=x;exact ⟨ob,es,ep,t,k _ _ (.inl rfl) e,c⟩
 | ins C dx fs =>
  obtain ⟨d,z,ne,e,mA,⟨od,es,ep,e2,c⟩,r⟩:=x
  exact ⟨ho _ d,z,ne,k _ _ (.inl rfl) e,mA,⟨od,es,ep,k _ _ (.inr d) e2,c⟩,r⟩
 | own y=>obtain ⟨ob,e⟩:=x;exact ⟨ob,k _ _ (.inl rfl) e⟩
 | xd fs=>obtain ⟨mA,⟨od,es,ep,e,c⟩,r⟩:=x;exact ⟨mA,⟨od,es,ep,k _ _ (.inl rfl) e,c⟩,r⟩
 | rng lo hi=>obtain ⟨t,u,v,e⟩:=x;exact ⟨t,u,v,k _ _ (.inl rfl) e⟩
 | fX ob u ih=>obtain ⟨e,q⟩:=x;exact ⟨k _ _ (.inl rfl) e,ih q⟩
 | KR ps =>
  have e:h.get? a=some { cls:=.none,data:=.fields ps }:=x
  show h'.get? a=some { cls:=.none,data:=.fields ps }
  exact k a _ (.inl rfl) e
 | met f y =>
  have e:h.get? a=some (PySem.W.methodObj (.ref f) (.ref y)):=x
  show h'.get? a=some (PySem.W.methodObj (.ref f) (.ref y))
  exact k a _ (.inl rfl) e
 | ext φ=>obtain ⟨p,⟨o,e⟩,st⟩:=x;exact ⟨st _ _ p fun o q=>k _ _ (.inl rfl) q,⟨o,k _ _ (.inl rfl) e⟩,st⟩
theorem jX.lt (x:jX P w H h) (e:H a=some o):a<h.objs.size:=(x a o e).lt
theorem jX.fresh (x:jX P w H h) (e:h.objs.size≤a):H a=none:=by
 cases q:H a with
 | none=>rfl
 | some u=>exact absurd (Nat.lt_of_lt_of_le (x.lt q) e) (Nat.lt_irrefl _)
theorem jX.kept (x:jX P w H h) (k:∀ b u,h.get? b=some u→h'.get? b=some u):jX P w H h':=fun a o e =>
 (x a o e).stay (fun b u _ q=>k b u q) (fun _ q=>q) fun _ _ q=>q
theorem jX.laid (x:jX P w H h) (k:∀ b u,h.get? b=some u→h'.get? b=some u) (hp:h.objs.size≤a) (new:cJ P w (upd H a o) h' a o):jX P w (upd H a o) h':=fun b u e=>by
 have hn:=x.fresh hp
 by_cases hb:b=a
 ·subst hb;rw [ak] at e;cases e;exact new
 ·rw [ao hb] at e
  exact (x b u e).stay (fun c v _ q=>k c v q) (fun c q=>by rw [ao (aH q hn)];exact q) fun c xs q=>by rw [ao (aH q hn)];exact q
end
def Rd (H:Hp) (a:Addr) (u:HO):Prop:=H a=some u∨∃ o,H a=some (.fX o u)
theorem Rd.ok {P:Program}{w:World}{H:Hp}{h:Heap}{a:Addr}{u:HO} (r:Rd H a u) (x:jX P w H h):cJ P w H h a u:=by
 rcases r with r | ⟨o,r⟩
 ·exact x a u r
 ·obtain ⟨_,q⟩:=x a _ r
  exact q
def Vx:Option HO→Prop
 | some (.lst _)=>True
 | some (.dK _)=>True
 | some (.dT _)=>True
 | some (.set _ _)=>True
 | some (.ins _ _ _)=>True
 | some (.ext _)=>True
 | _=>False
section
variable {P:Program}{w:World}{H:Hp}{h h':Heap}{x e:Addr}{o':HO}
theorem jX.write (ok:jX P w H h) (mu:Vx (H x)) (he:e=x∨H e=some (.own x)) (k:∀ b u,b≠e→h.get? b=some u→h'.get? b=some u) (heo:∃ u,h'.get? e=some u)
  (new:cJ P w (upd H x o') h' x o'):jX P w (upd H x o') h':=fun b u q=>by
 have Vy:∀ c y,H c=some (.own y)→c≠x:=fun c y r z=>by subst z;rw [r] at mu;exact mu
 have ntup:∀ c xs,H c=some (.tup xs)→c≠x:=fun c xs r z=>by subst z;rw [r] at mu;exact mu
 by_cases hb:b=x
 ·subst hb;rw [ak] at q;cases q;exact new
 ·rw [ao hb] at q
  by_cases hbe:b=e
  ·have q':H b=some (.own x):=by
    rcases he with z | z
    ·exact absurd (hbe.trans z) hb
    ·rw [hbe];exact z
   rw [q] at q';cases q'
   obtain ⟨v,hv⟩:=heo
   exact ⟨v,by rw [hbe];exact hv⟩
  ·refine (ok b u q).stay (fun c v hc r=>k c v ?_ r) (fun c r=>by rw [ao (Vy c b r)];exact r) fun c xs r=>by rw [ao (ntup c xs r)];exact r
   rcases hc with rfl | hc
   ·exact hbe
   ·rintro rfl
    rcases he with z | z
    ·exact Vy c b hc z
    ·rw [hc] at z;cases z;exact hb rfl
end
structure Un (fs ex:List Addr) (H H':Hp) (h h':Heap):Prop where
 keep:∀ b o,h.get? b=some o→H b=none→b∉fs→b∉ex→h'.get? b=some o
 slot:∀ b o,h.get? b=some o→H b=none→b∈fs→b∉ex→∃ sl,h'.get? b=some { o with slots:=sl }
 free:∀ b o,h.get? b=some o→H b=none→b∉ex→H' b=none
 there:∀ b o,h.get? b=some o→b∉ex→∃ o',h'.get? b=some o'
 tups:∀ b xs,H b=some (.tup xs)→H' b=some (.tup xs)
 mV:∀ b o u,H b=some (.fX o u)→H' b=some (.fX o u)
 pq:∀ b ps,H b=some (.KR ps)→∃ more,H' b=some (.KR (ps++more))
section
variable {fs fs' ex ex':List Addr}{H H1 H2:Hp}{h h1 h2 h':Heap}{a x e:Addr}{o:HO}
theorem Un.any (u:Un fs ex H H1 h h1) {b:Addr}{ob:Obj} (q:h.get? b=some ob) (n:H b=none) (hx:b∉ex):∃ sl,h1.get? b=some { ob with slots:=sl }:=by
 by_cases hb:b∈fs
 ·exact u.slot b ob q n hb hx
 ·exact ⟨ob.slots,u.keep b ob q n hb hx⟩
theorem Un.kept (k:∀ b u,h.get? b=some u→h'.get? b=some u):Un fs ex H H h h' :=
 ⟨fun b ob q _ _ _=>k b ob q,fun b ob q _ _ _=>⟨ob.slots,k b ob q⟩,fun _ _ _ n _=>n,fun b ob q _=>⟨ob,k b ob q⟩,fun _ _ q=>q,fun _ _ _ q=>q,fun _ ps q=>⟨#[],by rw [q];simp⟩⟩
theorem Un.refl:Un fs ex H H h h:=Un.kept fun _ _ q=>q
theorem Un.laid (k:∀ b u,h.get? b=some u→h'.get? b=some u) (hp:h.objs.size≤a) (hn:H a=none):Un fs ex H (upd H a o) h h' where
 keep:=fun b u q _ _ _=>k b u q
 slot:=fun b u q _ _ _=>⟨u.slots,k b u q⟩
 free:=fun b u q n _=>by rw [ao (Nat.ne_of_lt (Nat.lt_of_lt_of_le (Heap.lt_size q) hp))];exact n
 there:=fun b u q _=>⟨u,k b u q⟩
 tups:=fun b xs q=>by rw [ao (aH q hn)];exact q
 mV:=fun b u xs q=>by rw [ao (aH q hn)];exact q
 pq:=fun b ps q=>⟨#[],by rw [ao (aH q hn),q];simp⟩
theorem Un.write (mu:Vx (H x)) (he:e=x∨H e=some (.own x)) (k:∀ b u,b≠e→h.get? b=some u→h'.get? b=some u) (heo:∃ u,h'.get? e=some u):Un fs ex H (upd H x o) h h':=by
 have hx:∀ b,H b=none→b≠x:=fun b n z=>by subst z;rw [n] at mu;exact mu
 have hb:∀ b,H b=none→b≠e:=fun b n z=>by
  subst z
  rcases he with r | r
  ·exact hx b n r
  ·rw [n] at r;cases r
 have hm:∀ b u,H b=some u→¬ Vx (some u)→b≠x:=fun b u q nm z=>by subst z;rw [q] at mu;exact nm mu
 refine ⟨fun b u q n _ _=>k b u (hb b n) q,fun b u q n _ _=>⟨u.slots,k b u (hb b n) q⟩,fun b u q n _=>by rw [ao (hx b n)];exact n,fun b u q _=>?_,
  fun b xs q=>by rw [ao (hm b _ q fun z=>z)];exact q,fun b u xs q=>by rw [ao (hm b _ q fun z=>z)];exact q,fun b ps q=>⟨#[],by rw [ao (hm b _ q fun z=>z),q];simp⟩⟩
 by_cases hbe:b=e
 ·subst hbe;exact heo
 ·exact ⟨u,k b u hbe q⟩
end
def trk (h:Heap) (H:Hp):List Addr:=(List.range h.objs.size).filter fun a=>(H a).isSome
def vH (h:Heap) (H:Hp):Heap:=PySem.W.hideAll h (trk h H)
theorem DW (h:Heap) (H:Hp):(vH h H).objs.size=h.objs.size:=PySem.W.hideAll_size _ _
theorem Gr {h:Heap}{H:Hp}{b:Addr}{o:Obj} (e:h.get? b=some o) (n:H b=none):(vH h H).get? b=some o :=
 PySem.W.hideAll_get _ e fun hm=>by
  have q:(H b).isSome=true:=(List.mem_filter.mp hm).2
  rw [n] at q;simp at q
theorem KY {h:Heap}{H:Hp}{b:Addr}{o:Obj} (e:(vH h H).get? b=some o):h.get? b=some o∧H b=none:=by
 have e':h.get? b=some o:=PySem.W.of_hideAll (trk h H) e
 refine ⟨e',?_⟩
 cases q:H b with
 | none=>rfl
 | some x =>
  have hm:b∈trk h H:=List.mem_filter.mpr ⟨List.mem_range.mpr (Heap.lt_size e'),by simp [q]⟩
  have z:(vH h H).get? b=none:=PySem.W.hideAll_none (trk h H) hm
  rw [z] at e;cases e
end L2
namespace L2
open PySem PySem.Spec PyProof.Rows
structure Mod (K:PySem.W.Frag) (mg:Str→Option Value) (base:Heap):Prop where
 kin:K.In base
 glob:base.Ns mainGlobals mg
 blt:∃ mb,base.Ns builtinsNs mb∧∀ x:Str,x≠"__name__"→mb x=bootBuiltins x
 nolimit:base.NoLimit
structure Cx where
 prog:Program
 w:World
 K:PySem.W.Frag
 mg:Str→Option Value
 base:Heap
 A:Around
 N:List Str
 s₀:Shared
 H₀:Hp
 env:Env
 outer:List Env
 stack:List Env
 ex:List Addr
 fn:Str→Bool
 calm:Bool
 pn:List (Addr×Obj)
 xe:Value→Shared→Prop
def frs (l:List Env):List Addr:=l.filterMap (·.frame)
abbrev Cx.fs (X:Cx):List Addr:=frs X.outer
def Vis (sc:Scope) (x:Str):Prop:=sc.names.lookup x=some .local∨sc.names.lookup x=some .cell∨sc.names.lookup x=some .free
def Loc (sc:Scope) (x:Str):Prop:=sc.names.lookup x=some .local∨sc.names.lookup x=some .cell
def Look (env:Env) (h:Heap) (m:Str→Option Value) (x:Str) (u:Value):Prop :=
 (env.kindOf x=some .local∧m x=some u)∨((env.kindOf x=some .cell∨env.kindOf x=some .free)∧∃ c,env.cells.lookup x=some c∧h.IsCell c (some u))
structure Cx.Ok (X:Cx):Prop where
 mod:Mod X.K X.mg X.base
 kind:X.env.scope.kind=.function
 glob:X.env.globals=mainGlobals
 blt:X.env.builtins=builtinsNs
 above:X.s₀.heap.objs.size≤X.env.locals
 inj:∀ x y c,X.env.cells.lookup x=some c→X.env.cells.lookup y=some c→x=y
 has:∀ x,(X.env.kindOf x=some .cell∨X.env.kindOf x=some .free)→∃ c,X.env.cells.lookup x=some c
 cab:∀ x c,X.fn x=true→X.env.cells.lookup x=some c→X.s₀.heap.objs.size≤c
 hd:X.calm=true→X.A.handled=none
 frames:X.A.frames=some X.stack
 stk:X.stack=X.outer∨(X.stack=X.env::X.outer∧X.env.frame=some X.env.locals)
 Pb:∀ b∈X.ex,b≠X.env.locals∧∀ x c,X.env.cells.lookup x=some c→c≠b
 bs:∀ b o,X.base.get? b=some o→X.s₀.heap.get? b=some o∧X.H₀ b=none
 Gs:X.base.objs.size≤X.s₀.heap.objs.size
 vI:∀ b o,X.base.get? b=some o→b∉X.ex
 wV:∀ b∈X.ex,b∉X.fs
 mJ:X.s₀.heap.FunFrames X.base X.outer
 KZ:∀ b∈X.fs,X.H₀ b=none
structure Inv (X:Cx) (pins:List (Addr×Obj)) (σ:List (Option V)) (H:Hp) (s:Shared):Prop where
 ok:X.Ok
 os:s.os=X.s₀.os
 bare:AllBare s.gens
 base:Un X.fs X.ex X.H₀ H X.s₀.heap s.heap
 loc:∃ m,s.heap.Ns X.env.locals m∧∀ (i:Nat) (x:Str) (v:V),X.N[i]?=some x→σ[i]?=some (some v)→Vis X.env.scope x→∃ u,RelV v u∧Look X.env s.heap m x u
 cell:∀ x c,X.env.cells.lookup x=some c→∃ v,s.heap.IsCell c v
 free:H X.env.locals=none
 fY:∀ x c,X.env.cells.lookup x=some c→H c=none
 pin:∀ p∈X.pn++pins,s.heap.get? p.1=some p.2∧H p.1=none∧p.1≠X.env.locals∧p.1∉X.fs∧∀ v,p.2.data≠.cell v
 hok:jX X.prog X.w H s.heap
 len:σ.length=X.N.length
section
variable {X:Cx}{pins:List (Addr×Obj)}{σ:List (Option V)}{H H':Hp}{s:Shared}{h':Heap}
theorem Cx.Ok.nofr (ok:X.Ok) {b:Addr}{o:Obj} (e:X.base.get? b=some o):b∉X.fs:=fun hb=>by
 have:=(ok.mJ.mem hb).1
 rw [e] at this;cases this
theorem Inv.bs (I:Inv X pins σ H s):∀ b o,X.base.get? b=some o→s.heap.get? b=some o∧H b=none:=fun b o e =>
 ⟨I.base.keep b o (I.ok.bs b o e).1 (I.ok.bs b o e).2 (I.ok.nofr e) (I.ok.vI b o e),I.base.free b o (I.ok.bs b o e).1 (I.ok.bs b o e).2 (I.ok.vI b o e)⟩
theorem Inv.bk (I:Inv X pins σ H s):∀ b o,X.base.get? b=some o→s.heap.get? b=some o:=fun b o e=>(I.bs b o e).1
theorem Inv.mod (I:Inv X pins σ H s):Mod X.K X.mg X.base:=I.ok.mod
theorem Inv.lM (I:Inv X pins σ H s):X.K.In s.heap:=I.ok.mod.kin.keeps I.bk
theorem Inv.lt (I:Inv X pins σ H s):X.env.locals<s.heap.objs.size:=let ⟨_,hn,_⟩:=I.loc;hn.lt
theorem Inv.sz (I:Inv X pins σ H s):X.s₀.heap.objs.size≤s.heap.objs.size:=Nat.le_trans I.ok.above (Nat.le_of_lt I.lt)
theorem Inv.nofs (I:Inv X pins σ H s) {a:Addr} (h:s.heap.objs.size≤a):a∉X.fs:=fun hb=>by
 obtain ⟨_,o,ho,_⟩:=I.ok.mJ.mem hb
 exact absurd (Nat.lt_of_lt_of_le (Heap.lt_size ho) (Nat.le_trans I.sz h)) (Nat.lt_irrefl _)
theorem Inv.Gu (I:Inv X pins σ H s):∀ x c,X.env.cells.lookup x=some c→c≠X.env.locals:=fun x c e z=>by
 obtain ⟨v,o,ho,hd⟩:=I.cell x c e
 obtain ⟨m,⟨o',es,ep,ho',hd',_⟩,_⟩:=I.loc
 rw [z,ho'] at ho;cases ho;rw [hd'] at hd;cases hd
theorem Inv.mJ (I:Inv X pins σ H s):s.heap.FunFrames X.base X.outer:=by
 have all:∀ (l:List Env),(∀ b∈frs l,b∈X.fs)→X.s₀.heap.FunFrames X.base l→s.heap.FunFrames X.base l:=by
  intro l
  induction l with
  | nil=>intro _ _;trivial
  | cons env r ih =>
   intro hs hl
   obtain ⟨hk,⟨L,o,hf,hn,ho,hd⟩,hr⟩:=hl
   have hL:L∈X.fs:=hs L (by unfold frs;rw [List.filterMap_cons,hf];exact List.mem_cons_self)
   obtain ⟨sl,e⟩:=I.base.slot L o ho (I.ok.KZ L hL) hL fun z=>I.ok.wV L z hL
   exact ⟨hk,⟨L,_,hf,hn,e,hd⟩,ih (fun b hb=>hs b (by unfold frs;rw [List.filterMap_cons,hf];exact List.mem_cons_of_mem _ hb)) hr⟩
 exact all X.outer (fun _ hb=>hb) I.ok.mJ
theorem Inv.stack (I:Inv X pins σ H s):s.heap.FunFrames X.base X.stack:=by
 rcases I.ok.stk with e | ⟨e,hf⟩
 ·rw [e];exact I.mJ
 ·rw [e]
  obtain ⟨m,hn,_⟩:=I.loc
  refine .cons (by rw [I.ok.kind];decide) hf hn ?_ I.mJ
  exact Heap.get?_none_of_le (Nat.le_trans I.ok.Gs I.ok.above)
theorem Inv.pA (I:Inv X pins σ H s):∀ b∈frs X.stack,b∈X.env.locals::X.fs:=fun b hb=>by
 rcases I.ok.stk with e | ⟨e,hf⟩
 ·rw [e] at hb;exact List.mem_cons_of_mem _ hb
 ·rw [e] at hb
  unfold frs at hb
  rw [List.filterMap_cons,hf] at hb
  exact hb
theorem Inv.qG (I:Inv X pins σ H s):∀ b∈frs X.stack,H b=none:=fun b hb=>by
 rcases List.mem_cons.mp (I.pA b hb) with e | hb
 ·rw [e];exact I.free
 ·obtain ⟨_,o,ho,_⟩:=I.ok.mJ.mem hb
  exact I.base.free b o ho (I.ok.KZ b hb) fun z=>I.ok.wV b z hb
theorem Inv.step {g':Array GenState}{t':Nat}{d':Drawn}{ch:List Addr} (I:Inv X pins σ H s)
  (hch:∀ b∈ch,(b∈X.ex∨X.s₀.heap.objs.size≤b)∧b≠X.env.locals∧(∀ x c,X.env.cells.lookup x=some c→c≠b)∧∀ p∈X.pn++pins,p.1≠b)
  (keep:∀ b o,b≠X.env.locals→b∉X.fs→b∉ch→s.heap.get? b=some o→H b=none→h'.get? b=some o)
  (slot:∀ b o,b≠X.env.locals→b∈X.fs→b∉ch→s.heap.get? b=some o→H b=none→∃ sl,h'.get? b=some { o with slots:=sl }) (free:∀ b o,b∉ch→s.heap.get? b=some o→H b=none→H' b=none)
  (there:∀ b o,b∉ch→s.heap.get? b=some o→∃ o',h'.get? b=some o')
  (tups:∀ b xs,H b=some (.tup xs)→H' b=some (.tup xs)) (mV:∀ b o u,H b=some (.fX o u)→H' b=some (.fX o u)) (pq:∀ b ps,H b=some (.KR ps)→∃ more,H' b=some (.KR (ps++more)))
  (ns:∀ m,s.heap.Ns X.env.locals m→h'.Ns X.env.locals m) (hok:jX X.prog X.w H' h') (hg:AllBare g') :
  Inv X pins σ H' { s with heap:=h',gens:=g',drawn:=d',toks:=t' }:=by
 have neL:∀ b o,X.s₀.heap.get? b=some o→b≠X.env.locals:=fun b o e=>Nat.ne_of_lt (Nat.lt_of_lt_of_le (Heap.lt_size e) I.ok.above)
 have neC:∀ b o,X.s₀.heap.get? b=some o→b∉X.ex→b∉ch:=fun b o e hx hb=>by
  rcases (hch b hb).1 with z | z
  ·exact hx z
  ·exact absurd (Nat.lt_of_lt_of_le (Heap.lt_size e) z) (Nat.lt_irrefl _)
 have cellK:∀ x c,X.env.cells.lookup x=some c→∀ v,s.heap.IsCell c v→h'.IsCell c v:=fun x c e v ⟨o,ho,hd⟩=>by
  have Vz:c∉ch:=fun z=>(hch c z).2.2.1 x c e rfl
  by_cases hc:c∈X.fs
  ·obtain ⟨sl,q⟩:=slot c o (I.Gu x c e) hc Vz ho (I.fY x c e)
   exact ⟨_,q,hd⟩
  ·exact ⟨o,keep c o (I.Gu x c e) hc Vz ho (I.fY x c e),hd⟩
 refine ⟨I.ok,I.os,hg,⟨fun b o e n hb hx=>?_,fun b o e n hb hx=>?_,fun b o e n hx=>?_,fun b o e hx=>?_,fun b xs e=>tups b xs (I.base.tups b xs e),fun b o xs e=>mV b o xs (I.base.mV b o xs e),fun b ps e=>?_⟩,?_,fun x c e=>?_,?_,fun x c e=>?_,fun p hp=>?_,hok,I.len⟩
 ·exact keep b o (neL b o e) hb (neC b o e hx) (I.base.keep b o e n hb hx) (I.base.free b o e n hx)
 ·obtain ⟨sl,e1⟩:=I.base.slot b o e n hb hx
  obtain ⟨sl',e2⟩:=slot b _ (neL b o e) hb (neC b o e hx) e1 (I.base.free b o e n hx)
  exact ⟨sl',e2⟩
 ·obtain ⟨o',e1⟩:=I.base.there b o e hx
  exact free b o' (neC b o e hx) e1 (I.base.free b o e n hx)
 ·obtain ⟨o',e1⟩:=I.base.there b o e hx
  exact there b o' (neC b o e hx) e1
 ·obtain ⟨m1,e1⟩:=I.base.pq b ps e
  obtain ⟨m2,e2⟩:=pq b _ e1
  exact ⟨m1++m2,by rw [e2,Array.append_assoc]⟩
 ·obtain ⟨m,hn,hl⟩:=I.loc
  refine ⟨m,ns m hn,fun i x v e1 e2 e3=>?_⟩
  obtain ⟨u,r,l⟩:=hl i x v e1 e2 e3
  refine ⟨u,r,?_⟩
  rcases l with l | ⟨k,c,e,z⟩
  ·exact .inl l
  ·exact .inr ⟨k,c,e,cellK x c e _ z⟩
 ·obtain ⟨v,z⟩:=I.cell x c e
  exact ⟨v,cellK x c e v z⟩
 ·obtain ⟨m,⟨o,_,_,ho,_⟩,_⟩:=I.loc
  exact free _ o (fun z=>(hch _ z).2.1 rfl) ho I.free
 ·obtain ⟨v,o,ho,hd⟩:=I.cell x c e
  exact free c o (fun z=>(hch c z).2.2.1 x c e rfl) ho (I.fY x c e)
 ·obtain ⟨e,n,ne,nf,d⟩:=I.pin p hp
  have Vz:p.1∉ch:=fun z=>(hch p.1 z).2.2.2 p hp rfl
  exact ⟨keep p.1 p.2 ne nf Vz e n,free p.1 p.2 Vz e n,ne,nf,d⟩
theorem Inv.un {t':Nat} (I:Inv X pins σ H s) (u:Un X.fs [] H H' s.heap h') (hok:jX X.prog X.w H' h'):Inv X pins σ H' { s with heap:=h',toks:=t' }:=by
 obtain ⟨m,⟨o,es,ep,ho,r⟩,_⟩:=id I.loc
 obtain ⟨sl,hL⟩:=u.any ho I.free (by simp)
 exact I.step (g':=s.gens) (d':=s.drawn) (ch:=[]) (fun _ z=>nomatch z) (fun b o _ hb _ e n=>u.keep b o e n hb (by simp)) (fun b o _ hb _ e n=>u.slot b o e n hb (by simp)) (fun b o _ e n=>u.free b o e n (by simp)) (fun b o _ e=>u.there b o e (by simp)) u.tups u.mV u.pq (fun m' hm=>by
  obtain ⟨o',es',ep',ho',r'⟩:=hm
  rw [ho] at ho';cases ho'
  exact ⟨_,es',ep',hL,r'⟩) hok I.bare
theorem Inv.call {g':Array GenState}{t':Nat}{d':Drawn}{ch:List Addr} (I:Inv X pins σ H s) (u:Un (frs X.stack) ch H H' s.heap h') (hok:jX X.prog X.w H' h') (hg:AllBare g')
  (hch:∀ b∈ch,(b∈X.ex∨X.s₀.heap.objs.size≤b)∧b≠X.env.locals∧(∀ x c,X.env.cells.lookup x=some c→c≠b)∧∀ p∈X.pn++pins,p.1≠b) :
  Inv X pins σ H' { s with heap:=h',gens:=g',drawn:=d',toks:=t' }:=by
 obtain ⟨m,⟨o,es,ep,ho,r⟩,_⟩:=id I.loc
 obtain ⟨sl,hL⟩:=u.any ho I.free fun z=>(hch _ z).2.1 rfl
 exact I.step (ch:=ch) hch (fun b o hL hb hc e n=>u.keep b o e n (fun z=>(List.mem_cons.mp (I.pA b z)).elim hL hb) hc) (fun b o _ _ hc e n=>u.any e n hc) (fun b o hc e n=>u.free b o e n hc) (fun b o hc e=>u.there b o e hc) u.tups u.mV u.pq (fun m' hm=>by
  obtain ⟨o',es',ep',ho',r'⟩:=hm
  rw [ho] at ho';cases ho'
  exact ⟨_,es',ep',hL,r'⟩) hok hg
theorem Inv.turned {t':Nat}{it:Addr} (I:Inv X pins σ H s) (k:∀ b o,b≠it→s.heap.get? b=some o→h'.get? b=some o) (hn:H it=none) (hL:it≠X.env.locals)
  (h1:it∈X.ex∨X.s₀.heap.objs.size≤it) (h2:∀ x c,X.env.cells.lookup x=some c→c≠it) (h3:∀ p∈X.pn++pins,p.1≠it):Inv X pins σ H { s with heap:=h',toks:=t' }:=by
 have Vi:∀ b u,H b=some u→b≠it:=fun b u e z=>by rw [z,hn] at e;cases e
 refine I.step (g':=s.gens) (d':=s.drawn) (ch:=[it]) (fun b hb=>?_) (fun b o _ _ hc e _=>k b o (fun z=>hc (by simp [z])) e) (fun b o _ _ hc e _=>⟨o.slots,k b o (fun z=>hc (by simp [z])) e⟩) (fun _ _ _ _ n=>n)
  (fun b o hc e=>⟨o,k b o (fun z=>hc (by simp [z])) e⟩) (fun _ _ e=>e) (fun _ _ _ e=>e) (fun b ps e=>⟨#[],by rw [e];simp⟩) (fun m hm=>?_) (fun b u e=>?_) I.bare
 ·have e:b=it:=by simpa using hb
  subst e
  exact ⟨h1,hL,h2,h3⟩
 ·obtain ⟨o,es,ep,ho,r⟩:=hm
  exact ⟨o,es,ep,k _ o (Ne.symm hL) ho,r⟩
 ·refine (I.hok b u e).stay (fun c v hc q=>k c v ?_ q) (fun _ q=>q) fun _ _ q=>q
  rcases hc with z | z
  ·rw [z];exact Vi b u e
  ·exact Vi c _ z
theorem Inv.tok (I:Inv X pins σ H s) (t:Nat):Inv X pins σ H { s with toks:=t }:=I.un (h':=s.heap) (t':=t) Un.refl I.hok
theorem Inv.kept {t':Nat} (I:Inv X pins σ H s) (k:∀ b u,s.heap.get? b=some u→h'.get? b=some u):Inv X pins σ H { s with heap:=h',toks:=t' }:=I.un (Un.kept k) (I.hok.kept k)
theorem Inv.laid {a:Addr}{o:HO}{t':Nat} (I:Inv X pins σ H s) (k:∀ b u,s.heap.get? b=some u→h'.get? b=some u) (hp:s.heap.objs.size≤a) (new:cJ X.prog X.w (upd H a o) h' a o) :
  Inv X pins σ (upd H a o) { s with heap:=h',toks:=t' }:=I.un (Un.laid k hp (I.hok.fresh hp)) (I.hok.laid k hp new)
theorem Inv.write {x e:Addr}{o:HO}{t':Nat} (I:Inv X pins σ H s) (mu:Vx (H x)) (he:e=x∨H e=some (.own x)) (k:∀ b u,b≠e→s.heap.get? b=some u→h'.get? b=some u) (heo:∃ u,h'.get? e=some u)
  (new:cJ X.prog X.w (upd H x o) h' x o):Inv X pins σ (upd H x o) { s with heap:=h',toks:=t' }:=I.un (Un.write mu he k heo) (I.hok.write mu he k heo new)
theorem Inv.weak {σ':List (Option V)} (I:Inv X pins σ H s) (hl:σ'.length=σ.length) (w:∀ (i:Nat) v,σ'[i]?=some (some v)→σ[i]?=some (some v)):Inv X pins σ' H s :=
 ⟨I.ok,I.os,I.bare,I.base,let ⟨m,hn,hl'⟩:=I.loc;⟨m,hn,fun i x v e1 e2 e3=>hl' i x v e1 (w i v e2) e3⟩,I.cell,I.free,I.fY,I.pin,I.hok,hl.trans I.len⟩
theorem Inv.BZ {wW:List (Addr×Obj)} (I:Inv X pins σ H s) (h:∀ p∈wW,s.heap.get? p.1=some p.2∧H p.1=none∧p.1≠X.env.locals∧p.1∉X.fs∧∀ v,p.2.data≠.cell v):Inv X wW σ H s :=
 ⟨I.ok,I.os,I.bare,I.base,I.loc,I.cell,I.free,I.fY,fun p hp=>(List.mem_append.mp hp).elim (fun z=>I.pin p (List.mem_append_left _ z)) (h p),I.hok,I.len⟩
theorem rm {N:List Str} (hN:N.Nodup) {i j:Nat}{x:Str} (a:N[i]?=some x) (b:N[j]?=some x):i=j:=by
 obtain ⟨h1,e1⟩:=List.getElem?_eq_some_iff.mp a
 obtain ⟨h2,e2⟩:=List.getElem?_eq_some_iff.mp b
 exact (List.getElem_inj hN).mp (e1.trans e2.symm)
theorem u0 {M:Model}{A:Around}{E:Value→Shared→Prop}{i:Nat}{x:Str}{v:V}{u:Value}{Q:Unit→Shared→Prop} (I:Inv X pins σ H s) (hN:X.N.Nodup) (hi:X.N[i]?=some x) (hx:Loc X.env.scope x) (r:RelV v u)
  (h:∀ s',Inv X pins (σ.set i (some v)) H s'→(∃ a,Heap.SameBut a s.heap s'.heap∧(a=X.env.locals∨X.env.cells.lookup x=some a))→Q () s') (hf:X.fn x=true∨X.env.scope.names.lookup x=some .local:=by first | exact .inl rfl | exact .inr rfl | assumption):wpAny M A (storeName X.env x u) Q E s:=by
 obtain ⟨m,hn,hl⟩:=id I.loc
 have hcls:(X.env.scope.kind==.class||(X.env.scope.kind==.module&&X.env.locals != X.env.globals))=false:=by rw [I.ok.kind];rfl
 have hiσ:i<σ.length:=by rw [I.len];exact (List.getElem?_eq_some_iff.mp hi).1
 have Gu:=I.Gu
 have tracked:∀ {a:Addr}{h':Heap},(∃ o,s.heap.get? a=some o∧H a=none)→Heap.SameBut a s.heap h'→jX X.prog X.w H h':=fun {a h'} ha hs b ob e=>by
  obtain ⟨_,_,hfree⟩:=ha
  refine (I.hok b ob e).stay (fun c w' hc q=>(hs.2 c ?_).trans q) (fun _ q=>q) fun _ _ q=>q
  rintro rfl
  rcases hc with rfl | hc
  ·rw [hfree] at e;cases e
  ·rw [hfree] at hc;cases hc
 rcases hx with hk | hk
 ·refine wpAny_storeName_local hk hn (fun h' hn' hs=>?_) hcls
  obtain ⟨oL,_,_,hoL,_⟩:=id hn
  refine h _ ⟨I.ok,I.os,I.bare,⟨fun b o e n hb hx=>?_,fun b o e n hb hx=>?_,I.base.free,fun b o e hx=>?_,I.base.tups,I.base.mV,I.base.pq⟩,⟨_,hn',fun j y v' e1 e2 e3=>?_⟩,fun y c e=>?_,I.free,I.fY,fun p hp=>?_,tracked ⟨oL,hoL,I.free⟩ hs,by simpa using I.len⟩ ⟨_,hs,.inl rfl⟩
  ·exact (hs.2 b (Nat.ne_of_lt (Nat.lt_of_lt_of_le (Heap.lt_size e) I.ok.above))).trans (I.base.keep b o e n hb hx)
  ·obtain ⟨sl,e1⟩:=I.base.slot b o e n hb hx
   exact ⟨sl,(hs.2 b (Nat.ne_of_lt (Nat.lt_of_lt_of_le (Heap.lt_size e) I.ok.above))).trans e1⟩
  ·obtain ⟨o',e1⟩:=I.base.there b o e hx
   exact ⟨o',(hs.2 b (Nat.ne_of_lt (Nat.lt_of_lt_of_le (Heap.lt_size e) I.ok.above))).trans e1⟩
  ·by_cases hj:j=i
   ·subst hj
    rw [hi] at e1;cases e1
    rw [List.getElem?_set_self hiσ] at e2
    cases e2
    exact ⟨u,r,.inl ⟨hk,by simp⟩⟩
   ·rw [List.getElem?_set_ne (Ne.symm hj)] at e2
    obtain ⟨u',r',q⟩:=hl j y v' e1 e2 e3
    refine ⟨u',r',?_⟩
    rcases q with ⟨k,e⟩ | ⟨k,c,e,z⟩
    ·refine .inl ⟨k,?_⟩
     have:y≠x:=fun e=>hj (rm hN e1 (e ▸ hi))
     simp [this,e]
    ·exact .inr ⟨k,c,e,z.sameBut hs (Gu y c e)⟩
  ·obtain ⟨w',z⟩:=I.cell y c e
   exact ⟨w',z.sameBut hs (Gu y c e)⟩
  ·obtain ⟨e,n,ne,nf,d⟩:=I.pin p hp
   exact ⟨(hs.2 p.1 ne).trans e,n,ne,nf,d⟩
 ·have hfn:X.fn x=true:=by
   rcases hf with z | z
   ·exact z
   ·rw [z] at hk;cases hk
  obtain ⟨c,hc⟩:=I.ok.has x (.inl hk)
  obtain ⟨w',z⟩:=I.cell x c hc
  refine wpAny_storeName_cell I.ok.kind hk hc z (fun h' hc' hs=>?_)
  obtain ⟨oc,hoc,hocd⟩:=id z
  refine h { s with heap:=h' } ⟨I.ok,I.os,I.bare,⟨fun b o e n hb hx=>?_,fun b o e n hb hx=>?_,I.base.free,fun b o e hx=>?_,I.base.tups,I.base.mV,I.base.pq⟩,⟨m,hn.sameBut hs (Ne.symm (Gu x c hc)),fun j y v' e1 e2 e3=>?_⟩,fun y c' e=>?_,I.free,I.fY,fun p hp=>?_,tracked ⟨oc,hoc,I.fY x c hc⟩ hs,by simpa using I.len⟩ ⟨c,hs,.inr hc⟩
  ·exact (hs.2 b (Nat.ne_of_lt (Nat.lt_of_lt_of_le (Heap.lt_size e) (I.ok.cab x c hfn hc)))).trans (I.base.keep b o e n hb hx)
  ·obtain ⟨sl,e1⟩:=I.base.slot b o e n hb hx
   exact ⟨sl,(hs.2 b (Nat.ne_of_lt (Nat.lt_of_lt_of_le (Heap.lt_size e) (I.ok.cab x c hfn hc)))).trans e1⟩
  ·obtain ⟨o',e1⟩:=I.base.there b o e hx
   exact ⟨o',(hs.2 b (Nat.ne_of_lt (Nat.lt_of_lt_of_le (Heap.lt_size e) (I.ok.cab x c hfn hc)))).trans e1⟩
  ·by_cases hj:j=i
   ·subst hj
    rw [hi] at e1;cases e1
    rw [List.getElem?_set_self hiσ] at e2
    cases e2
    exact ⟨u,r,.inr ⟨.inl hk,c,hc,hc'⟩⟩
   ·rw [List.getElem?_set_ne (Ne.symm hj)] at e2
    obtain ⟨u',r',q⟩:=hl j y v' e1 e2 e3
    refine ⟨u',r',?_⟩
    rcases q with q | ⟨k,c',e,z'⟩
    ·exact .inl q
    ·refine .inr ⟨k,c',e,z'.sameBut hs ?_⟩
     rintro rfl
     exact hj (rm hN e1 (I.ok.inj _ _ _ e hc ▸ hi))
  ·by_cases hcc:c'=c
   ·subst hcc;exact ⟨_,hc'⟩
   ·obtain ⟨w2,z2⟩:=I.cell y c' e
    exact ⟨w2,z2.sameBut hs hcc⟩
  ·obtain ⟨e,n,ne,nf,d⟩:=I.pin p hp
   refine ⟨(hs.2 p.1 ?_).trans e,n,ne,nf,d⟩
   intro q
   rw [q,hoc] at e
   have q':oc=p.2:=Option.some.inj e
   exact d w' (by rw [← q'];exact hocd)
theorem jZ {M:Model}{A:Around}{E:Value→Shared→Prop}{i:Nat}{x:Str}{v:V}{u:Value}{Q:Unit→Shared→Prop} (I:Inv X pins σ H s) (hN:X.N.Nodup) (hi:X.N[i]?=some x) (hx:Loc X.env.scope x) (r:RelV v u)
  (h:∀ s',Inv X pins (σ.set i (some v)) H s'→Q () s') (hf:X.fn x=true∨X.env.scope.names.lookup x=some .local:=by first | exact .inl rfl | exact .inr rfl | assumption):wpAny M A (storeName X.env x u) Q E s :=
 u0 I hN hi hx r (fun s' I' _=>h s' I') hf
theorem Inv.call' {s':Shared}{ch:List Addr} (I:Inv X pins σ H s) (ho:s'.os=s.os) (u:Un (frs X.stack) ch H H' s.heap s'.heap) (hok:jX X.prog X.w H' s'.heap) (hg:AllBare s'.gens)
  (hch:∀ b∈ch,(b∈X.ex∨X.s₀.heap.objs.size≤b)∧b≠X.env.locals∧(∀ x c,X.env.cells.lookup x=some c→c≠b)∧∀ p∈X.pn++pins,p.1≠b):Inv X pins σ H' s':=by
 obtain ⟨h',g',d',t',o'⟩:=s'
 have e:o'=s.os:=ho
 subst e
 exact I.call (g':=g') (t':=t') (d':=d') u hok hg hch
end
abbrev XK:=Value→Option Addr→Hp→Prop
abbrev St:=List (Option V)
abbrev VK:=V→Hp→Prop
abbrev TE:=St→Hp→VK→Prop
abbrev TT:=St→Hp→(Bool→Hp→Prop)→Prop
abbrev TA:=St→Hp→(List V→Hp→Prop)→Prop
structure Ends where
 nx:St→Hp→Prop
 rt:VK
 bk:St→Hp→Prop:=fun _ _=>False
 ct:St→Hp→Prop:=fun _ _=>False
abbrev TS:=Ends→St→Hp→Prop
def EP (X:Cx) (pins:List (Addr×Obj)) (σ:St) (Q:VK) (u:Value) (s':Shared):Prop:=∃ v H',Inv X pins σ H' s'∧RelV v u∧Q v H'
def TP (X:Cx) (pins:List (Addr×Obj)) (σ:St) (Q:Bool→Hp→Prop) (b:Bool) (s':Shared):Prop:=∃ H',Inv X pins σ H' s'∧Q b H'
def AP (X:Cx) (pins:List (Addr×Obj)) (σ:St) (Q:List V→Hp→Prop) (us:List Value) (s':Shared):Prop:=∃ vs H',Inv X pins σ H' s'∧Vals vs us∧Q vs H'
def SP (X:Cx) (pins:List (Addr×Obj)) (D:Ends) (f:Flow) (s':Shared):Prop :=
 match f with
 | .next=>∃ σ' H',Inv X pins σ' H' s'∧D.nx σ' H'
 | .brk=>∃ σ' H',Inv X pins σ' H' s'∧D.bk σ' H'
 | .cont=>∃ σ' H',Inv X pins σ' H' s'∧D.ct σ' H'
 | .ret u=>∃ v σ' H',Inv X pins σ' H' s'∧RelV v u∧D.rt v H'
def PE (X:Cx) (e:Expr) (t:TE):Prop :=
 ∀ (pins:List (Addr×Obj)) (s:Shared) (σ:St) (H:Hp) (Q:VK),Inv X pins σ H s→t σ H Q→wpAny (model X.prog X.w) X.A (eval e X.env) (EP X pins σ Q) X.xe s
def PT (X:Cx) (e:Expr) (t:TT):Prop :=
 ∀ (pins:List (Addr×Obj)) (s:Shared) (σ:St) (H:Hp) (Q:Bool→Hp→Prop),Inv X pins σ H s→t σ H Q→wpAny (model X.prog X.w) X.A (isTrue e X.env (eval e X.env)) (TP X pins σ Q) X.xe s
def PW (X:Cx) (e:Expr) (t:TT):Prop :=
 ∀ (whole:Sem Value) (pins:List (Addr×Obj)) (s:Shared) (σ:St) (H:Hp) (Q:Bool→Hp→Prop),Inv X pins σ H s→t σ H Q→wpAny (model X.prog X.w) X.A (isTrue e X.env whole) (TP X pins σ Q) X.xe s
theorem PW.pt {X:Cx}{e:Expr}{t:TT} (h:PW X e t):PT X e t:=h _
def PA (X:Cx) (es:List Expr) (t:TA):Prop :=
 ∀ (pos:Pos) (pins:List (Addr×Obj)) (s:Shared) (σ:St) (H:Hp) (Q:List V→Hp→Prop),Inv X pins σ H s→t σ H Q→wpAny (model X.prog X.w) X.A (spliced (backTo pos (starEach es X.env))) (AP X pins σ Q) X.xe s
def PS (X:Cx) (st:Stmt) (t:TS):Prop :=
 ∀ (pins:List (Addr×Obj)) (s:Shared) (σ:St) (H:Hp) (D:Ends),Inv X pins σ H s→t D σ H→wpAny (model X.prog X.w) X.A (exec st X.env) (SP X pins D) X.xe s
def wX (X:Cx) (st:List Stmt) (t:TS):Prop :=
 ∀ (pins:List (Addr×Obj)) (s:Shared) (σ:St) (H:Hp) (D:Ends),Inv X pins σ H s→t D σ H→wpAny (model X.prog X.w) X.A (execs st X.env) (SP X pins D) X.xe s
theorem cN {α:Type}{t:Sem α}{Q Q':α→Shared→Prop}{M:Model}{A:Around}{E:Value→Shared→Prop}{s:Shared} (h:wpAny M A t Q E s) (hQ:∀ a s,Q a s→Q' a s):wpAny M A t Q' E s:=wpAny_mono h hQ fun _ _ x=>x
end L2
namespace L2
open PySem PySem.Spec PyProof.Rows
section
variable {X:Cx}
def zf (i:Nat):TE:=fun σ H Q=>∃ v,σ[i]?=some (some v)∧Q v H
def tC (v:V):TE:=fun _ H Q=>Q v H
theorem Rq {i:Nat}{x:Str}{pos:Pos} (hN:X.N[i]?=some x) (hv:Vis X.env.scope x) (hd:(x==("__debug__" : Str))=false:=by decide) (hcd:(x==("__classdict__" : Str))=false:=by decide):PE X (.Name x pos) (zf i):=by
 intro pins s σ H Q I h
 obtain ⟨v,e,h⟩:=h
 obtain ⟨m,hn,hl⟩:=I.loc
 obtain ⟨u,r,l⟩:=hl i x v hN e hv
 have fin:EP X pins σ Q u s:=⟨v,H,I,r,h⟩
 rcases l with ⟨hk,hm⟩ | ⟨hk,c,hc,hcell⟩
 ·exact wpAny_Name (wpAny_loadName_local I.ok.kind hk hn hm fin) hd
 ·rcases hk with hk | hk
  ·exact wpAny_Name (wpAny_loadName_cell I.ok.kind hk hc hcell fin) hd
  ·exact wpAny_Name (wpAny_loadName_free I.ok.kind hk hc hcell fin hcd) hd
theorem au {i j pos}:PE X (.Constant (.int i) j pos) (tC (.int i)):=fun _ _ _ H _ I h=>wpAny_Constant_int ⟨.int i,H,I.tok _,⟨_,rfl⟩,h⟩
theorem kj {b j pos}:PE X (.Constant (.bool b) j pos) (tC (.bl b)):=fun _ _ _ H _ I h=>Constant_bool ⟨.bl b,H,I,rfl,h⟩
theorem rA {j pos}:PE X (.Constant .none j pos) (tC .non):=fun _ _ _ H _ I h=>Constant_none ⟨.non,H,I,rfl,h⟩
theorem aJ {x j pos}:PE X (.Constant (.str x) j pos) (tC (.str x)):=fun _ _ _ H _ I h=>Calls.Constant_str ⟨.str x,H,I.tok _,⟨_,rfl⟩,h⟩
def Gl (X:Cx) (x:Str):Prop:=X.env.kindOf x=some .globalImplicit
theorem jF {E:Value→Shared→Prop}{pins:List (Addr×Obj)}{s:Shared}{σ:St}{H:Hp}{x:Str}{u:Value}{pos:Pos}{Q:Value→Shared→Prop} (I:Inv X pins σ H s) (hg:Gl X x) (hm:X.mg x=some u) (h:Q u s)
  (hd:(x==("__debug__" : Str))=false:=by decide):wpAny (model X.prog X.w) X.A (eval (.Name x pos) X.env) Q E s :=
 Calls.Name_function_global I.ok.kind hg (Calls.loadGlobal_global (by rw [I.ok.glob];exact I.mod.glob.keeps I.bk) hm h) hd
theorem pB {E:Value→Shared→Prop}{pins:List (Addr×Obj)}{s:Shared}{σ:St}{H:Hp}{x:Str}{u:Value}{pos:Pos}{Q:Value→Shared→Prop} (I:Inv X pins σ H s) (hg:Gl X x) (hm:X.mg x=none) (hv:bootBuiltins x=some u) (h:Q u s)
  (hn:x≠"__name__":=by decide) (hd:(x==("__debug__" : Str))=false:=by decide):wpAny (model X.prog X.w) X.A (eval (.Name x pos) X.env) Q E s:=by
 obtain ⟨mb,h1,h2⟩:=I.mod.blt
 exact Calls.Name_function_global I.ok.kind hg (Calls.loadGlobal_builtin (by rw [I.ok.glob];exact I.mod.glob.keeps I.bk) hm (by rw [I.ok.blt];exact h1.keeps I.bk) ((h2 x hn).trans hv) h) hd
theorem dz {x:Str}{v:V}{u:Value}{pos:Pos} (hg:Gl X x) (hm:X.mg x=some u) (r:RelV v u) (hd:(x==("__debug__" : Str))=false:=by decide):PE X (.Name x pos) (tC v) :=
 fun _ _ _ H _ I h=>jF I hg hm ⟨v,H,I,r,h⟩ hd
theorem fZ {x:Str}{v:V}{u:Value}{pos:Pos} (hg:Gl X x) (hm:X.mg x=none) (hv:bootBuiltins x=some u) (r:RelV v u) (hn:x≠"__name__":=by decide) (hd:(x==("__debug__" : Str))=false:=by decide):PE X (.Name x pos) (tC v) :=
 fun _ _ _ H _ I h=>pB I hg hm hv ⟨v,H,I,r,h⟩ hn hd
variable {a b:Expr}{ta tb:TE}{pos:Pos}
def PC (X:Cx) (op:CmpOp) (a b:Expr) (t:TE):Prop :=
 ∀ (pins:List (Addr×Obj)) (s:Shared) (σ:St) (H:Hp) (Q:VK),Inv X pins σ H s→t σ H Q →
  wpAny (model X.prog X.w) X.A (eval a X.env) (fun v s₁=>wpAny (model X.prog X.w) X.A (eval b X.env) (fun u s₂=>wpAny (model X.prog X.w) X.A (compareOp op v u) (EP X pins σ Q) X.xe s₂) X.xe s₁) X.xe s
theorem wY (b:Expr) {op:CmpOp} (h:op≠.In) (h2:op≠.NotIn):behindInMarks op b=false:=by
 have e1:(op==CmpOp.In)=false:=by cases op <;> first | rfl | exact absurd rfl h
 have e2:(op==CmpOp.NotIn)=false:=by cases op <;> first | rfl | exact absurd rfl h2
 cases b <;> simp [behindInMarks,e1,e2]
def tIsN (ta:TE):TE:=fun σ H Q=>ta σ H fun x H1=>Q (.bl (decide (x=.non))) H1
theorem RelV.Gv {x:V}{v:Value} (r:RelV x v):(v==Value.none)=decide (x=.non):=by
 cases x with
 | non=>cases r;rfl
 | bl _=>cases r;rfl
 | int _=>obtain ⟨t,rfl⟩:=r;rfl
 | str _=>obtain ⟨t,rfl⟩:=r;rfl
 | BX _=>obtain ⟨t,rfl⟩:=r;rfl
 | flt _=>obtain ⟨t,rfl⟩:=r;rfl
 | ref _=>cases r;rfl
 | ty _=>cases r;rfl
theorem Gw {j pos'} (ha:PE X a ta):PC X .Is a (.Constant .none j pos') (tIsN ta):=by
 intro pins s σ H Q I h
 refine cN (ha pins s σ H _ I h) fun v s1 ⟨x,H1,I1,r1,q1⟩=>?_
 exact Constant_none (is_none_gen ⟨.bl _,H1,I1,by rw [r1.Gv];rfl,q1⟩)
def tB (t:TE):TT:=fun σ H Q=>t σ H fun x H1=>∃ c,x=.bl c∧Q c H1
theorem zj {op:CmpOp}{t:TE} (h:PC X op a b t) (h1:behindInMarks op b=false:=by first | exact wY _ (by decide) (by decide) | rfl):PE X (.Compare a [op] [b] pos) t:=fun pins s σ H Q I hw=>wpAny_Compare1 (h pins s σ H Q I hw) h1
theorem Gx {op:CmpOp}{t:TE} (h:PC X op a b t) (h1:behindInMarks op b=false:=by first | exact wY _ (by decide) (by decide) | rfl):PT X (.Compare a [op] [b] pos) (tB t):=by
 intro pins s σ H Q I hw
 refine wpAny_isTrue_Compare1 (cN (h pins s σ H _ I hw) fun v s1 h1=>cN h1 fun u s2 h2=>cN h2 fun c s3 ⟨x,H1,I1,r1,q1⟩=>?_) h1
 obtain ⟨d,rfl,q⟩:=q1
 cases r1
 exact wpAny_truthy_bool ⟨H1,I1,q⟩
theorem dU {e:Expr}{t:TE} (h:PE X e t) (he:∀ whole,isTrue e X.env whole=(do let v ← whole;standAt e.pos;holding [v] (truthy v)):=by intro _;rfl):PT X e (tB t):=by
 intro pins s σ H Q I hw
 refine isTrue_plain (cN (h pins s σ H _ I hw) fun v s1 ⟨x,H1,I1,r1,q1⟩=>?_) (he _)
 obtain ⟨d,rfl,q⟩:=q1
 cases r1
 exact wpAny_truthy_bool ⟨H1,I1,q⟩
variable {tA tB':TT}{rest:List Expr}
def tAnd (t u:TT):TT:=fun σ H Q=>t σ H fun c H1=>if c=true then u σ H1 Q else Q false H1
def tOr (t u:TT):TT:=fun σ H Q=>t σ H fun c H1=>if c=true then Q true H1 else u σ H1 Q
def tNot (t:TT):TT:=fun σ H Q=>t σ H fun c H1=>Q (!c) H1
theorem jG (ha:PT X a tA):PW X (.BoolOp .And [a] pos) tA:=by
 intro wh pins s σ H Q I h
 refine isTrue_and (cN (ha pins s σ H Q I h) fun c s1 e=>?_)
 cases c with
 | true=>exact isTrue_and_nil e
 | false=>exact e
theorem kE (ha:PT X a tA):PW X (.BoolOp .Or [a] pos) tA:=by
 intro wh pins s σ H Q I h
 refine isTrue_or (cN (ha pins s σ H Q I h) fun c s1 e=>?_)
 cases c with
 | false=>exact isTrue_or_nil e
 | true=>exact e
theorem mW (ha:PT X a tA) (hb:PW X (.BoolOp .And (b::rest) pos) tB'):PW X (.BoolOp .And (a::b::rest) pos) (tAnd tA tB'):=by
 intro wh pins s σ H Q I h
 refine isTrue_and (cN (ha pins s σ H _ I h) fun c s1 ⟨H1,I1,q1⟩=>?_)
 cases c with
 | true=>exact hb wh pins s1 σ H1 Q I1 q1
 | false=>exact ⟨H1,I1,q1⟩
theorem qe (ha:PT X a tA) (hb:PW X (.BoolOp .Or (b::rest) pos) tB'):PW X (.BoolOp .Or (a::b::rest) pos) (tOr tA tB'):=by
 intro wh pins s σ H Q I h
 refine isTrue_or (cN (ha pins s σ H _ I h) fun c s1 ⟨H1,I1,q1⟩=>?_)
 cases c with
 | true=>exact ⟨H1,I1,q1⟩
 | false=>exact hb wh pins s1 σ H1 Q I1 q1
theorem gb (ha:PT X a tA):PT X (.UnaryOp .Not a pos) (tNot tA):=by
 intro pins s σ H Q I h
 exact isTrue_not (ha pins s σ H (fun c H1=>Q (!c) H1) I h)
def VB (ta tb:TE):TE:=fun σ H Q=>ta σ H fun x H1=>∃ c,x=.bl c∧if c=true then tb σ H1 Q else Q (.bl false) H1
def VD (ta:TE):TE:=fun σ H Q=>ta σ H fun x H1=>∃ c,x=.bl c∧Q (.bl (!c)) H1
theorem rB {op}{t:TE} (h:PE X a t):PE X (.BoolOp op [a] pos) t:=fun pins s σ H Q I hw=>BoolOp_one (h pins s σ H Q I hw)
theorem pC (ha:PE X a ta) (hb:PE X (.BoolOp .And (b::rest) pos) tb):PE X (.BoolOp .And (a::b::rest) pos) (VB ta tb):=by
 intro pins s σ H Q I h
 refine BoolOp_and (cN (ha pins s σ H _ I h) fun v s1 ⟨x,H1,I1,r1,q1⟩=>?_)
 obtain ⟨c,rfl,q1⟩:=q1
 cases r1
 refine wpAny_truthy_bool ?_
 cases c with
 | true=>exact hb pins s1 σ H1 Q I1 q1
 | false=>exact ⟨.bl false,H1,I1,rfl,q1⟩
theorem Rt (ha:PE X a ta):PE X (.UnaryOp .Not a pos) (VD ta):=by
 intro pins s σ H Q I h
 refine UnaryOp_ (cN (ha pins s σ H _ I h) fun v s1 ⟨x,H1,I1,r1,q1⟩=>?_)
 obtain ⟨c,rfl,q1⟩:=q1
 cases r1
 exact not_of (wpAny_truthy_bool ⟨.bl (!c),H1,I1,rfl,q1⟩)
end
end L2
namespace L2
open PySem PySem.Spec PyProof.Rows
def bR (K:PySem.W.Frag) (H:Hp) (a:Addr) (xs:List V):Prop :=
 Rd H a (.lst xs) ∨
  ∃ (o:Obj) (its:Array Value) (n:Nat),K.lookup a=some o∧o.cls=.type "list"∧o.dict=none∧o.data=.seq its n∧its.size≤sizeLine∧Vals xs its.toList
def bM (K:PySem.W.Frag) (H:Hp) (a:Addr) (xs:List V):Prop :=
 Rd H a (.tup xs) ∨
  ∃ (o:Obj) (its:Array Value) (n:Nat),K.lookup a=some o∧o.cls=.type "tuple"∧o.data=.seq its n∧its.size≤sizeLine∧Vals xs its.toList
def absV:Value→Option V
 | .none=>some .non
 | .bool b=>some (.bl b)
 | .int i _=>some (.int i)
 | .str x _=>some (.str x)
 | .bytes b _=>some (.BX b)
 | .float b _=>some (.flt b)
 | .ref a=>some (.ref a)
 | .type n=>some (.ty n)
 | _=>none
theorem RelV.abs {x:V}{u:Value} (r:RelV x u):absV u=some x:=by
 cases x with
 | non=>cases r;rfl
 | bl _=>cases r;rfl
 | int _=>obtain ⟨t,rfl⟩:=r;rfl
 | str _=>obtain ⟨t,rfl⟩:=r;rfl
 | BX _=>obtain ⟨t,rfl⟩:=r;rfl
 | flt _=>obtain ⟨t,rfl⟩:=r;rfl
 | ref _=>cases r;rfl
 | ty _=>cases r;rfl
theorem RelV.inj {x y:V}{u:Value} (r:RelV x u) (q:RelV y u):x=y:=Option.some.inj (r.abs.symm.trans q.abs)
theorem Vals.inj:∀ {xs ys:List V}{us:List Value},Vals xs us→Vals ys us→xs=ys
 | _,_,_,.nil,.nil=>rfl
 | _,_,_,.cons r t,.cons r' t'=>by rw [r.inj r',Vals.inj t t']
section
variable {X:Cx}{pins:List (Addr×Obj)}{σ:St}{H:Hp}{s:Shared}{a:Addr}{xs ys:List V}
theorem bR.of {K:PySem.W.Frag} (h:H a=some (.lst xs)):bR K H a xs:=.inl (.inl h)
theorem bM.of {K:PySem.W.Frag} (h:H a=some (.tup xs)):bM K H a xs:=.inl (.inl h)
theorem Inv.list (I:Inv X pins σ H s) (h:bR X.K H a xs):∃ its:List Value,Vals xs its∧PlainL s.heap a its.toArray∧xs.length≤sizeLine:=by
 rcases h with h | ⟨o,its,n,hk,hc,hd,hs,hz,r⟩
 ·obtain ⟨z,its,n,r,e⟩:=h.ok I.hok
  exact ⟨its,r,⟨_,n,e,rfl,rfl,rfl⟩,z⟩
 ·refine ⟨its.toList,r,⟨o,n,I.lM a o hk,hc,hd,by simpa using hs⟩,?_⟩
  have e:=r.length
  simp only [Array.length_toList] at e
  omega
theorem Inv.tuple (I:Inv X pins σ H s) (h:bM X.K H a xs):∃ its:List Value,Vals xs its∧IsTup s.heap a its.toArray∧xs.length≤sizeLine:=by
 rcases h with h | ⟨o,its,n,hk,hc,hs,hz,r⟩
 ·obtain ⟨z,its,r,p⟩:=h.ok I.hok
  exact ⟨its,r,p,z⟩
 ·refine ⟨its.toList,r,⟨o,I.lM a o hk,hc,n,by simpa using hs⟩,?_⟩
  have e:=r.length
  simp only [Array.length_toList] at e
  omega
theorem Inv.wZ (I:Inv X pins σ H s) (h:bR X.K H a xs) (h':bR X.K H a ys):xs=ys:=by
 obtain ⟨its,r,⟨o,n,e,_,_,d⟩,_⟩:=I.list h
 obtain ⟨its',r',⟨o',n',e',_,_,d'⟩,_⟩:=I.list h'
 rw [e] at e';cases e'
 rw [d] at d'
 injection d' with d1 _
 have:its=its':=by simpa using congrArg Array.toList d1
 subst this
 exact r.inj r'
theorem Inv.DX (I:Inv X pins σ H s) (h:bM X.K H a xs) (h':bM X.K H a ys):xs=ys:=by
 obtain ⟨its,r,⟨o,e,_,n,d⟩,_⟩:=I.tuple h
 obtain ⟨its',r',⟨o',e',_,n',d'⟩,_⟩:=I.tuple h'
 rw [e] at e';cases e'
 rw [d] at d'
 injection d' with d1 _
 have:its=its':=by simpa using congrArg Array.toList d1
 subst this
 exact r.inj r'
end
abbrev Cx.wish (X:Cx) (E:Value→Shared→Prop):Cx:={ X with xe:=E }
abbrev Cx.nox (X:Cx):Cx:=X.wish fun _ _=>False
theorem Cx.Ok.wish {X:Cx} (ok:X.Ok) (E:Value→Shared→Prop):(X.wish E).Ok :=
 ⟨ok.mod,ok.kind,ok.glob,ok.blt,ok.above,ok.inj,ok.has,ok.cab,ok.hd,ok.frames,ok.stk,ok.Pb,ok.bs,ok.Gs,ok.vI,ok.wV,ok.mJ,ok.KZ⟩
theorem Cx.Ok.kI {X:Cx}{E:Value→Shared→Prop} (ok:(X.wish E).Ok):X.Ok :=
 ⟨ok.mod,ok.kind,ok.glob,ok.blt,ok.above,ok.inj,ok.has,ok.cab,ok.hd,ok.frames,ok.stk,ok.Pb,ok.bs,ok.Gs,ok.vI,ok.wV,ok.mJ,ok.KZ⟩
section
variable {X:Cx}{pins:List (Addr×Obj)}{σ:St}{H:Hp}{s:Shared}{E:Value→Shared→Prop}
theorem Inv.wish (I:Inv X pins σ H s) (E:Value→Shared→Prop):Inv (X.wish E) pins σ H s:=⟨I.ok.wish E,I.os,I.bare,I.base,I.loc,I.cell,I.free,I.fY,I.pin,I.hok,I.len⟩
theorem Inv.kI (I:Inv (X.wish E) pins σ H s):Inv X pins σ H s:=⟨I.ok.kI,I.os,I.bare,I.base,I.loc,I.cell,I.free,I.fY,I.pin,I.hok,I.len⟩
theorem SP.kI {D:Ends}{f:Flow}{s':Shared} (h:SP (X.wish E) pins D f s'):SP X pins D f s':=by
 cases f with
 | next=>obtain ⟨σ',H',I,q⟩:=h;exact ⟨σ',H',I.kI,q⟩
 | brk=>obtain ⟨σ',H',I,q⟩:=h;exact ⟨σ',H',I.kI,q⟩
 | cont=>obtain ⟨σ',H',I,q⟩:=h;exact ⟨σ',H',I.kI,q⟩
 | ret u=>obtain ⟨v,σ',H',I,r,q⟩:=h;exact ⟨v,σ',H',I.kI,r,q⟩
theorem wX.nox {st:List Stmt}{t:TS} (h:wX X.nox st t):wX X st t:=fun pins s σ H D I hw =>
 wpAny_mono (h pins s σ H D (I.wish _) hw) (fun _ _ q=>q.kI) fun _ _ z=>False.elim z
end
section
variable {X:Cx}{st:Stmt}{rest:List Stmt}{t u:TS}{e:Expr}{te:TE}{pos:Pos}
def VF:TS:=fun D σ H=>D.nx σ H
def Gy (t u:TS):TS:=fun D σ H=>t { D with nx:=u D } σ H
theorem aQ:wX X [] VF:=fun _ _ σ H _ I h=>wpAny_execs_nil ⟨σ,H,I,h⟩
theorem aq (h1:PS X st t) (h2:wX X rest u):wX X (st::rest) (Gy t u):=by
 intro pins s σ H D I h
 refine wpAny_execs_cons (cN (h1 pins s σ H { D with nx:=u D } I h) fun f s1 q=>?_)
 cases f with
 | next =>
  obtain ⟨σ',H',I',q⟩:=q
  exact h2 pins s1 σ' H' D I' q
 | ret v=>exact q
 | brk=>exact q
 | cont=>exact q
theorem aG (h1:PS X st t):wX X [st] t:=by
 intro pins s σ H D I h
 refine wpAny_execs_cons (cN (h1 pins s σ H D I h) fun f s1 q=>?_)
 cases f with
 | next=>exact wpAny_execs_nil q
 | ret v=>exact q
 | brk=>exact q
 | cont=>exact q
theorem Inv.quiet {pins:List (Addr×Obj)}{σ:St}{H:Hp}{s:Shared} (I:Inv X pins σ H s):interactive X.env=false:=by simp [interactive,I.ok.kind]
def VG (te:TE):TS:=fun D σ H=>te σ H fun _ H1=>D.nx σ H1
theorem bT (he:PE X e te) (hs:swapsWith e none pos.line X.env=pure false:=by rfl):PS X (.Expr e pos) (VG te):=by
 intro pins s σ H D I h
 exact wpAny_Expr_any (cN (he pins s σ H _ I h) fun v s1 ⟨x,H1,I1,r1,q1⟩=>⟨σ,H1,I1,q1⟩) I.quiet hs
def La (te:TE):TS:=fun D σ H=>te σ H D.rt
theorem aW (he:PE X e te):PS X (.Return (some e) pos) (La te):=by
 intro pins s σ H D I h
 exact wpAny_Return_some (cN (he pins s σ H _ I h) fun v s1 ⟨x,H1,I1,r1,q1⟩=>⟨x,σ,H1,I1,r1,q1⟩)
def Gz (c:TT) (t u:TS):TS:=fun D σ H=>c σ H fun b H1=>if b=true then t D σ H1 else u D σ H1
theorem bJ {c:Expr}{a b:List Stmt}{tc:TT} (hc:PT X c tc) (ha:wX X a t) (hb:wX X b u):PS X (.If c a b pos) (Gz tc t u):=by
 intro pins s σ H D I h
 refine wpAny_If (cN (hc pins s σ H _ I h) fun d s1 ⟨H1,I1,q1⟩=>?_)
 cases d with
 | true=>exact ha pins s1 σ H1 D I1 q1
 | false=>exact hb pins s1 σ H1 D I1 q1
def Ru:TS:=fun _ _ _=>False
theorem bN {sts:List Stmt}:wX X sts Ru:=fun _ _ _ _ _ _ h=>h.elim
end
abbrev TG:=V→St→Hp→(St→Hp→Prop)→Prop
abbrev Pg:=List V→St→Hp→(St→Hp→Prop)→Prop
def PG (X:Cx) (target:Expr) (t:TG):Prop :=
 ∀ (pins:List (Addr×Obj)) (s:Shared) (σ:St) (H:Hp) (v:V) (u:Value) (Q:St→Hp→Prop),Inv X pins σ H s→RelV v u→t v σ H Q →
  wpAny (model X.prog X.w) X.A (assign target X.env u) (fun _ s'=>∃ σ' H',Inv X pins σ' H' s'∧Q σ' H') X.xe s
def VH (X:Cx) (ts:List Expr) (t:Pg):Prop :=
 ∀ (pins:List (Addr×Obj)) (s:Shared) (σ:St) (H:Hp) (vs:List V) (us:List Value) (Q:St→Hp→Prop),Inv X pins σ H s→Vals vs us→t vs σ H Q →
  wpAny (model X.prog X.w) X.A (assignInOrder ((assignEach ts X.env).map (·.2)) us) (fun _ s'=>∃ σ' H',Inv X pins σ' H' s'∧Q σ' H') X.xe s
section
variable {X:Cx}{pos:Pos}
def nJ (i:Nat):TG:=fun v σ H Q=>Q (σ.set i (some v)) H
theorem bL {i:Nat}{x:Str} (hN:X.N.Nodup) (hi:X.N[i]?=some x) (hx:Loc X.env.scope x) (hf:X.fn x=true∨X.env.scope.names.lookup x=some .local:=by first | exact .inl rfl | exact .inr rfl | assumption):PG X (.Name x pos) (nJ i):=by
 intro pins s σ H v u Q I r h
 exact wpAny_assign_Name (jZ I hN hi hx r (fun s' I'=>⟨_,H,I',h⟩) hf)
def gNil:Pg:=fun vs σ H Q=>vs=[]∧Q σ H
def VJ (t:TG) (u:Pg):Pg:=fun vs σ H Q=>∃ v r,vs=v::r∧t v σ H fun σ' H'=>u r σ' H' Q
theorem lN:VH X [] gNil:=by
 intro pins s σ H vs us Q I r h
 obtain ⟨e,h⟩:=h
 subst e
 cases r
 exact assignInOrder_nil ⟨σ,H,I,h⟩
theorem dZ {e:Expr}{es:List Expr}{t:TG}{u:Pg} (h1:PG X e t) (h2:VH X es u)
  (hs:(assignEach (e::es) X.env).map (·.2)=assign e X.env::(assignEach es X.env).map (·.2):=by rfl):VH X (e::es) (VJ t u):=by
 intro pins s σ H vs us Q I r h
 obtain ⟨v,vr,e1,h⟩:=h
 subst e1
 cases r with
 | cons r rr =>
  rw [hs]
  refine assignInOrder_cons (cN (h1 pins s σ H _ _ _ I r h) fun _ s1 ⟨σ1,H1,I1,q1⟩=>?_)
  exact h2 pins s1 σ1 H1 _ _ Q I1 rr q1
def VL (K:PySem.W.Frag) (n:Nat) (t:Pg):TG:=fun v σ H Q=>∃ a xs,v=.ref a∧bM K H a xs∧xs.length=n∧t xs σ H Q
theorem zm {es:List Expr}{k:Nat}{t:Pg}{n:Nat} (hc:X.calm=true) (h:VH X es t)
  (hn:(assignEach es X.env).length=n:=by rfl) (hst:(assignEach es X.env).findIdx? (·.1)=none:=by rfl):PG X (.Tuple es k pos) (VL X.K n t):=by
 intro pins s σ H v u Q I r hw
 obtain ⟨a,xs,e1,hq,hl,hw⟩:=hw
 subst e1
 cases r
 obtain ⟨its,rv,ht,hz⟩:=I.tuple hq
 refine assign_Tuple_tuple (I.ok.hd hc) ht (by simp [hn,← hl,rv.length]) hst fun h' hx=>?_
 have I1:Inv X pins σ H { s with heap:=h' }:=I.kept (t':=s.toks) fun b o e=>hx b o (Nat.ne_of_lt (Heap.lt_size e)) e
 exact h pins _ σ H xs _ Q I1 (by simpa using rv) hw
def VN (te:TE) (g:TG):TS:=fun D σ H=>te σ H fun x H1=>g x σ H1 D.nx
theorem GC {tg e:Expr}{te:TE}{g:TG} (he:PE X e te) (hg:PG X tg g) (hs:swapsWithSole [tg] e pos.line X.env=pure false:=by rfl) (hw:swappedStores [tg] e X.env=pure none:=by rfl)
  (h1:(assignEach [tg] X.env).map (·.2)=[assign tg X.env]:=by rfl):PS X (.Assign [tg] e pos) (VN te g):=by
 intro pins s σ H D I h
 refine wpAny_Assign_stores (cN (he pins s σ H _ I h) fun v s1 ⟨x,H1,I1,r1,q1⟩=>?_) hs hw
 rw [h1]
 exact cN (hg pins s1 σ H1 x v _ I1 r1 q1) fun _ s2 q=>q
theorem aY {i:Nat}{x:Str}{e:Expr}{te:TE}{pos':Pos} (hN:X.N.Nodup) (hi:X.N[i]?=some x) (hx:Loc X.env.scope x) (he:PE X e te) (hs:swapsWith e (some (.Name x pos')) pos.line X.env=pure false:=by rfl) (hf:X.fn x=true∨X.env.scope.names.lookup x=some .local:=by first | exact .inl rfl | exact .inr rfl | assumption) :
  PS X (.Assign [.Name x pos'] e pos) (VN te (nJ i)):=by
 intro pins s σ H D I h
 refine wpAny_Assign_Name (cN (he pins s σ H _ I h) fun v s1 ⟨y,H1,I1,r1,q1⟩=>?_) hs
 exact jZ I1 hN hi hx r1 (fun s2 I2=>⟨_,H1,I2,q1⟩) hf
def tPar (i j:Nat) (ta:TA):TS:=fun D σ H=>ta σ H fun vs H1=>∃ v w,vs=[v,w]∧D.nx ((σ.set i (some v)).set j (some w)) H1
theorem GD {i j:Nat}{x y:Str}{a b:Expr}{ta:TA}{px py pt:Pos}{kt k2 pt2} (hc:X.calm=true) (hN:X.N.Nodup) (hi:X.N[i]?=some x) (hj:X.N[j]?=some y) (hij:i≠j)
  (hx:X.env.scope.names.lookup x=some .local) (hy:X.env.scope.names.lookup y=some .local) (ha:PA X [a,b] ta)
  (hw:swappedStores [.Tuple [.Name x px,.Name y py] kt pt] (.Tuple [a,b] k2 pt2) X.env=pure (some [x,y]))
  (hs:swapsWithSole [.Tuple [.Name x px,.Name y py] kt pt] (.Tuple [a,b] k2 pt2) pos.line X.env=pure false:=by rfl) :
  PS X (.Assign [.Tuple [.Name x px,.Name y py] kt pt] (.Tuple [a,b] k2 pt2) pos) (tPar i j ta):=by
 intro pins s σ H D I h
 rw [exec_Assign_arm]
 refine wpAny_bind (wpAny_standAt ?_)
 rw [hs]
 refine wpAny_bind (wpAny_pure ?_)
 rw [if_neg (by decide)]
 refine wpAny_bind (Tuple_ (cN (ha _ pins s σ H _ I h) fun us s1 ⟨vs,H1,I1,r1,q1⟩=>?_))
 obtain ⟨v,w,e1,q1⟩:=q1
 subst e1
 obtain ⟨u1,u2,rfl,rv,cD⟩:∃ u1 u2,us=[u1,u2]∧RelV v u1∧RelV w u2:=by
  cases r1 with
  | cons p q =>
   cases q with
   | cons p' q' =>
    cases q'
    exact ⟨_,_,rfl,p,p'⟩
 refine wpAny_newObj_type ?_ (by show 2≤sizeLine;decide)
 have I2:Inv X pins σ H1 { s1 with heap:=s1.heap.push { cls:=.type "tuple",data:=.seq [u1,u2].toArray } }:=I1.kept (t':=s1.toks) fun b o e=>Heap.get?_push_of_some _ e
 rw [hw]
 refine wpAny_bind (wpAny_pure ?_)
 show wpAny (model X.prog X.w) X.A (do rule "assign.swapped-stores";let items ← unpackItems (.ref s1.heap.objs.size) 2 none;assignInOrder [fun v=>bindName X.env y v,fun v=>bindName X.env x v] items.reverse;pure Flow.next) _ _ _
 refine wpAny_bind (wpAny_rule (wpAny_bind (unpackItems_tuple (items:=#[u1,u2]) (I.ok.hd hc) (IsTup.new s1.heap _) fun h' hx'=>?_)))
 have I3:=I2.kept (h':=h') (t':=s1.toks) fun b o e=>hx' b o (Nat.ne_of_lt (Heap.lt_size e)) e
 show wpAny _ _ (assignInOrder [fun v=>bindName X.env y v,fun v=>bindName X.env x v] [u2,u1] >>= fun _=>pure Flow.next) _ _ _
 refine wpAny_bind (assignInOrder_cons (wpAny_bindName (jZ I3 hN hj (.inl hy) cD (fun s2 I4=>?_) (.inr hy))))
 refine assignInOrder_cons (wpAny_bindName (jZ I4 hN hi (.inl hx) rv (fun s3 I5=>assignInOrder_nil (wpAny_pure ?_)) (.inr hx)))
 rw [List.set_comm _ _ (Ne.symm hij)] at I5
 exact ⟨_,H1,I5,q1⟩
end
section
variable {X:Cx}{pos:Pos}
def GF (c:TT) (tb:TS):TS:=fun D σ H=>∃ W:Nat→St→Hp→Prop,(∃ m,W m σ H)∧∀ m σ H,W m σ H →
 c σ H fun b H1=>if b=true then ∃ N:St→Hp→Prop,(∀ σ' H',N σ' H'→∃ m',m'<m∧W m' σ' H')∧tb { D with nx:=N,ct:=N,bk:=D.nx } σ H1 else D.nx σ H1
theorem kJ {c:Expr}{body:List Stmt}{tc:TT}{tb:TS} (hp:PassesOwn (model X.prog X.w) X.A X.env X.xe) (hc:PT X c tc) (hb:wX X body tb):PS X (.While c body [] pos) (GF tc tb):=by
 intro pins s σ H D I h
 obtain ⟨W,⟨m0,w0⟩,turn⟩:=h
 refine wpAny_While (codeAny_whileLoop (fun n s'=>∃ σ' H',Inv X pins σ' H' s'∧W n σ' H') ?_ m0 ⟨σ,H,I,w0⟩)
 rintro n s1 ⟨σ1,H1,I1,w1⟩
 refine wpAny_passesOwn hp (cN (hc pins s1 σ1 H1 _ I1 (turn n σ1 H1 w1)) fun b s2 ⟨H2,I2,q2⟩=>?_)
 cases b with
 | true =>
  obtain ⟨N,hN,q2⟩:=q2
  rw [if_pos rfl]
  refine wpAny_passesOwn hp (cN (hb pins s2 σ1 H2 _ I2 q2) fun f s3 q3=>?_)
  cases f with
  | next =>
   obtain ⟨σ3,H3,I3,n3⟩:=q3
   obtain ⟨m',hm,w3⟩:=hN σ3 H3 n3
   exact ⟨m',hm,σ3,H3,I3,w3⟩
  | cont =>
   obtain ⟨σ3,H3,I3,n3⟩:=q3
   obtain ⟨m',hm,w3⟩:=hN σ3 H3 n3
   exact ⟨m',hm,σ3,H3,I3,w3⟩
  | brk=>exact q3
  | ret v=>exact q3
 | false =>
  rw [if_neg Bool.false_ne_true]
  exact wpAny_execs_nil ⟨σ1,H2,I2,q2⟩
end
structure It where
 go:Nat→Hp→Prop
 DY:Nat→Hp→V→Hp→Prop
 stop:Nat→Hp→Prop
def jx (X:Cx) (pins:List (Addr×Obj)) (H:Hp) (b:Addr):Prop :=
 H b=none∧b≠X.env.locals∧b∉X.fs∧(b∈X.ex∨X.s₀.heap.objs.size≤b)∧(∀ x c,X.env.cells.lookup x=some c→c≠b)∧∀ p∈X.pn++pins,p.1≠b
theorem Inv.tR {X:Cx}{pins:List (Addr×Obj)}{σ:St}{H H':Hp}{s:Shared}{b:Addr} (I:Inv X pins σ H s) (hb:s.heap.objs.size≤b) (hn:H' b=none):jx X pins H' b:=by
 refine ⟨hn,Nat.ne_of_gt (Nat.lt_of_lt_of_le I.lt hb),I.nofs hb,.inr (Nat.le_trans I.sz hb),fun x c e z=>?_,fun p hp z=>?_⟩
 ·obtain ⟨v,q⟩:=I.cell x c e
  exact absurd (Nat.lt_of_lt_of_le q.lt (by rw [z];exact hb)) (Nat.lt_irrefl _)
 ·exact absurd (Nat.lt_of_lt_of_le (Heap.lt_size (I.pin p hp).1) (by rw [z];exact hb)) (Nat.lt_irrefl _)
structure Turn (P:Program) (w:World) (K:PySem.W.Frag) (tg:Expr) (J:It) (fp:List Addr) (it:Addr) (tn:Nat→Heap→Prop):Prop where
 mem:it∈fp
 obj:∀ i h,tn i h→∀ b∈fp,∃ o,h.get? b=some o∧∀ v,o.data≠.cell v
 keep:∀ i h h',tn i h→(∀ b∈fp,∀ o,h.get? b=some o→h'.get? b=some o)→tn i h'
 item:∀ (X:Cx),X.prog=P→X.w=w→X.K=K→X.calm=true→∀ (i:Nat) (pins:List (Addr×Obj)) (s:Shared) (σ:St) (H:Hp) (E:Value→Shared→Prop),Inv X pins σ H s→(∀ b∈fp,jx X pins H b)→tn i s.heap→J.go i H →
  wpAny (model P w) X.A (pyNext (.ref it)) (fun r s1=>∃ u,r=some u ∧
   wpAny (model P w) X.A (letOwnedTupleGo tg (.ref it) u) (fun _ s2=>∃ x H',Inv X pins σ H' s2∧RelV x u∧J.DY i H x H'∧tn (i+1) s2.heap∧∀ b∈fp,H' b=none) E s1) E s
 done:∀ (X:Cx),X.prog=P→X.w=w→X.K=K→X.calm=true→∀ (i:Nat) (pins:List (Addr×Obj)) (s:Shared) (σ:St) (H:Hp) (E:Value→Shared→Prop),Inv X pins σ H s→(∀ b∈fp,jx X pins H b)→tn i s.heap→J.stop i H →
  wpAny (model P w) X.A (pyNext (.ref it)) (fun r s1=>r=none∧Inv X pins σ H s1) E s
 self:∀ (A:Around) (i:Nat) (s:Shared) (Q:Value→Shared→Prop) (E:Value→Shared→Prop),tn i s.heap→Q (.ref it) s→wpAny (model P w) A (pyIter (.ref it)) Q E s
abbrev TI:=St→Hp→(It→Hp→Prop)→Prop
def PIE (X:Cx) (pins:List (Addr×Obj)) (σ:St) (tg:Expr) (R:It→Hp→Prop) (itv:Value) (s2:Shared):Prop :=
 ∃ (it:Addr) (fp:List Addr) (tn:Nat→Heap→Prop) (J:It) (H':Hp),itv=.ref it∧Inv X pins σ H' s2∧Turn X.prog X.w X.K tg J fp it tn∧tn 0 s2.heap∧(∀ b∈fp,jx X pins H' b)∧R J H'
def PI (X:Cx) (tg iter:Expr) (wi:TI):Prop :=
 ∀ (pins:List (Addr×Obj)) (s:Shared) (σ:St) (H:Hp) (R:It→Hp→Prop),Inv X pins σ H s→wi σ H R →
  wpAny (model X.prog X.w) X.A (eval iter X.env) (fun v s1=>wpAny (model X.prog X.w) X.A (pyIter v) (PIE X pins σ tg R) X.xe s1) X.xe s
theorem xg {M:Model}{A:Around}{E:Value→Shared→Prop}{s:Shared}{tg:Expr}{it:Addr}{u:Value}{o:Obj}{n:String}{vs:Array Value}{Q:Unit→Shared→Prop} (ho:s.heap.get? it=some o) (hc:o.cls=.type n) (hd:o.data=.fields vs)
  (hn:["enumerate", "zip", "dict_itemiterator", "dict_reverseitemiterator", "odict_iterator", "itertools.zip_longest", "itertools.pairwise"].contains n=false) (hQ:Q () s):wpAny M A (letOwnedTupleGo tg (.ref it) u) Q E s:=by
 unfold letOwnedTupleGo
 cases tg <;> first
  | exact wpAny_pure hQ
  | (cases u <;> first
    | exact wpAny_pure hQ
    | (refine wpAny_bind (wpAny_load ho ?_)
       rw [hc,hd]
       show wpAny M A (if (["enumerate", "zip", "dict_itemiterator", "dict_reverseitemiterator", "odict_iterator", "itertools.zip_longest", "itertools.pairwise"].contains n&&vs[0]?==some (rawInt _))=true then _ else _) Q E s
       rw [if_neg (by intro h;rw [hn,Bool.false_and] at h;cases h)]
       exact wpAny_pure hQ))
def Rv (K:PySem.W.Frag) (a:Addr):It :=
 ⟨fun i H=>∃ xs x,bR K H a xs∧xs[i]?=some x,fun i H x H'=>H'=H∧∀ xs,bR K H a xs→xs[i]?=some x,fun i H=>∃ xs,bR K H a xs∧xs.length≤i⟩
def Rx (lo:Int) (n:Nat):It:=⟨fun i _=>i<n,fun i H x H'=>H'=H∧x=.int (lo+i),fun i _=>n≤i⟩
theorem Ea {P:Program}{w:World}{K:PySem.W.Frag}{tg:Expr} (a it:Addr):Turn P w K tg (Rv K a) [it] it (fun i h=>h.IsListIter it a i) where
 mem:=by simp
 obj:=fun i h st b hb=>by
  have e:b=it:=by simpa using hb
  subst e
  obtain ⟨o,e,c,d⟩:=st
  exact ⟨o,e,fun v z=>by rw [d] at z;cases z⟩
 keep:=fun i h h' st k=>st.at fun o e=>k it (by simp) o e
 item:=by
  intro X hP hw hK hc i pins s σ H E I hf st hg
  subst hP hw hK
  obtain ⟨xs,x,hq,hx⟩:=hg
  obtain ⟨its,rv,p,hz⟩:=I.list hq
  obtain ⟨u,hu,ru⟩:=rv.get hx
  obtain ⟨f0,f1,f2,f3,f4,f5⟩:=hf it (by simp)
  refine wpAny_pyNext_list_item st p.isList (x:=u) (by simpa using hu) fun h' st' sb=>?_
  have I1:Inv X pins σ H { s with heap:=h' }:=I.turned (t':=s.toks) (fun b o hb e=>(sb.2 b hb).trans e) f0 f1 f3 f4 f5
  obtain ⟨o,e,c,d⟩:=id st'
  exact ⟨u,rfl,xg (s:={ s with heap:=h' }) e c d (by decide) ⟨x,H,I1,ru,⟨rfl,fun ys hy=>by rw [I.wZ hy hq];exact hx⟩,st',fun b hb=>(hf b hb).1⟩⟩
 done:=by
  intro X hP hw hK hc i pins s σ H E I hf st hg
  subst hP hw hK
  obtain ⟨xs,hq,hx⟩:=hg
  obtain ⟨its,rv,p,hz⟩:=I.list hq
  obtain ⟨f0,f1,f2,f3,f4,f5⟩:=hf it (by simp)
  have hl:=rv.length
  exact wpAny_pyNext_list_end (I.ok.hd hc) st p.isList (by simp;omega) fun h' eb=>⟨rfl,I.turned (t':=s.toks) (fun b o hb e=>eb b o hb e) f0 f1 f3 f4 f5⟩
 self:=fun _ _ _ _ _ st h=>wpAny_pyIter_listiter st h
theorem zp {P:Program}{w:World}{K:PySem.W.Frag}{tg:Expr} (it:Addr) (lo:Int) (n:Nat):Turn P w K tg (Rx lo n) [it] it (fun i h=>IsRangeIter h it (lo+(i:Nat) * 1) ((n:Int) - (i:Nat)) 1) where
 mem:=by simp
 obj:=fun i h st b hb=>by
  have e:b=it:=by simpa using hb
  subst e
  exact ⟨_,st,fun v z=>by
   have z':Data.fields _=Data.cell v:=z
   cases z'⟩
 keep:=fun i h h' st k=>k it (by simp) _ st
 item:=by
  intro X hP hw hK hc i pins s σ H E I hf st hg
  subst hP hw hK
  obtain ⟨f0,f1,f2,f3,f4,f5⟩:=hf it (by simp)
  have W:=Walks.range (prog:=X.prog) (w:=X.w) (I.ok.hd hc) it lo 1 n
  refine W.item i s _ _ hg st fun v h' tk hv st' kk=>?_
  obtain ⟨t,rfl⟩:=hv
  have I1:Inv X pins σ H { s with heap:=h',toks:=tk }:=I.turned (fun b o hb e=>kk b o (by simpa using hb) e) f0 f1 f3 f4 f5
  refine ⟨_,rfl,xg (s:={ s with heap:=h',toks:=tk }) (n:="range_iterator") st' rfl rfl (by decide) ⟨.int (lo+i),H,I1,⟨t,?_⟩,⟨rfl,rfl⟩,st',fun b hb=>(hf b hb).1⟩⟩
  rw [Int.mul_one]
 done:=by
  intro X hP hw hK hc i pins s σ H E I hf st hg
  subst hP hw hK
  obtain ⟨f0,f1,f2,f3,f4,f5⟩:=hf it (by simp)
  exact wpAny_pyNext_range_end (I.ok.hd hc) st (by have:n≤i:=hg;omega) fun h' eb=>⟨rfl,I.turned (t':=s.toks) (fun b o hb e=>eb b o hb e) f0 f1 f3 f4 f5⟩
 self:=fun _ _ _ _ _ st h=>wpAny_pyIter_rangeiter st h
end L2
namespace L2
open PySem PySem.Spec PyProof.Rows
section
variable {X:Cx}{tg:Expr}
def VP (K:PySem.W.Frag) (tl:TE):TI:=fun σ H R=>tl σ H fun x H1=>∃ a,x=.ref a∧(∃ xs,bR K H1 a xs)∧R (Rv K a) H1
theorem fD {l:Expr}{tl:TE} (hl:PE X l tl):PI X tg l (VP X.K tl):=by
 intro pins s σ H R I h
 refine cN (hl pins s σ H _ I h) fun v s1 ⟨x,H1,I1,r1,q1⟩=>?_
 obtain ⟨a,e,⟨xs,hq⟩,q⟩:=q1
 subst e
 cases r1
 obtain ⟨its,rv,p,hz⟩:=I1.list hq
 refine wpAny_pyIter_list p.isList ?_
 refine ⟨s1.heap.objs.size,[s1.heap.objs.size],_,_,H1,rfl,I1.kept (t':=s1.toks) fun b o e=>Heap.get?_push_of_some _ e,Ea a _,⟨_,Heap.get?_push_size _ rfl,rfl,rfl⟩,fun b hb=>?_,q⟩
 have e:b=s1.heap.objs.size:=by simpa using hb
 subst e
 exact I1.tR (Nat.le_refl _) (I1.hok.fresh (Nat.le_refl _))
theorem GJ {pins:List (Addr×Obj)}{σ:St}{H:Hp}{s:Shared}{R:It→Hp→Prop}{E:Value→Shared→Prop}{lo hi:Int}{t u v:Tok}{tk:Nat} (I:Inv X pins σ H s) (h1:-(2 ^ 62)≤lo) (h2:lo<2 ^ 62) (h3:-(2 ^ 62)≤hi) (h4:hi<2 ^ 62)
  (q:R (Rx lo (hi - lo).toNat) H):wpAny (model X.prog X.w) X.A (pyIter (.ref s.heap.objs.size)) (PIE X pins σ tg R) E { s with heap:=s.heap.push { cls:=.type "range",data:=.fields #[.int lo t,.int hi u,.int 1 v] },toks:=tk }:=by
 refine wpAny_pyIter_range (IsRange.new ..) (small_one h1 h2 h3 h4) ?_
 have I1:Inv X pins σ H { s with heap:=s.heap.push { cls:=.type "range",data:=.fields #[.int lo t,.int hi u,.int 1 v] },toks:=tk }:=I.kept fun b o e=>Heap.get?_push_of_some _ e
 refine ⟨(s.heap.push { cls:=.type "range",data:=.fields #[.int lo t,.int hi u,.int 1 v] }).objs.size,[(s.heap.push { cls:=.type "range",data:=.fields #[.int lo t,.int hi u,.int 1 v] }).objs.size],_,_,H,rfl,
  I1.kept (t':=tk) fun b o e=>Heap.get?_push_of_some _ e,zp _ lo (hi - lo).toNat,?_,fun b hb=>?_,q⟩
 ·have e1:lo+((0:Nat):Int) * 1=lo:=by simp
  have e2:(((hi - lo).toNat:Nat):Int) - ((0:Nat):Int)=Builtin.Range.rangeSize lo hi 1:=by rw [rangeSize_one];split <;> omega
  show IsRangeIter _ _ (lo+((0:Nat):Int) * 1) ((((hi - lo).toNat:Nat):Int) - ((0:Nat):Int)) 1
  rw [e1,e2]
  exact Heap.get?_push_size _ rfl
 ·have e:b=(s.heap.push { cls:=.type "range",data:=.fields #[.int lo t,.int hi u,.int 1 v] }).objs.size:=by simpa using hb
  subst e
  exact I1.tR (Nat.le_refl _) (I1.hok.fresh (Nat.le_refl _))
def VR (ta:TA):TI:=fun σ H R=>ta σ H fun vs H1=>∃ j:Int,vs=[.int j]∧-(2 ^ 62)≤j∧j<2 ^ 62∧R (Rx 0 j.toNat) H1
theorem iU {a:Expr}{ta:TA}{p pos:Pos} (hg:Gl X "range") (hm:X.mg "range"=none) (ha:PA X [a] ta) (hs:starEach [a] X.env=[(false,eval a X.env)]:=by rfl):PI X tg (.Call (.Name "range" p) [a] [] pos) (VR ta):=by
 intro pins s σ H R I h
 refine Call_ (pB I hg hm boot_range (PyProof.Rows.callWith_type1 (cN (ha pos pins s σ H _ I h) fun us s1 ⟨vs,H1,I1,r1,q1⟩=>?_) hs rfl))
 obtain ⟨j,e,q1,q2,q⟩:=q1
 subst e
 cases r1 with
 | cons r rr =>
  cases rr
  obtain ⟨t,rfl⟩:=r
  exact call_range_1 (GJ I1 (by omega) (by omega) q1 q2 (by simpa using q))
def tFor (wi:TI) (g:TG) (tb:TS):TS:=fun D σ H=>wi σ H fun J H1=>∃ W:Nat→Nat→St→Hp→Prop,(∃ m,W 0 m σ H1)∧∀ i m σ H,W i m σ H →
 (J.stop i H∧D.nx σ H)∨(J.go i H∧∃ N:St→Hp→Prop,(∀ σ' H',N σ' H'→∃ m',m'<m∧W (i+1) m' σ' H')∧∀ x H',J.DY i H x H'→g x σ H' fun σ2 H2=>tb { D with nx:=N,ct:=N,bk:=D.nx } σ2 H2)
def pD (fp:List Addr) (h:Heap):List (Addr×Obj):=fp.filterMap fun b=>(h.get? b).map fun o=>(b,o)
theorem gJ {fp:List Addr}{h:Heap}{b:Addr}{o:Obj} (hb:b∈fp) (e:h.get? b=some o):(b,o)∈pD fp h:=List.mem_filterMap.mpr ⟨b,hb,by rw [e];rfl⟩
theorem Eb {fp:List Addr}{h:Heap}{p:Addr×Obj} (hp:p∈pD fp h):p.1∈fp∧h.get? p.1=some p.2:=by
 obtain ⟨b,hb,e⟩:=List.mem_filterMap.mp hp
 cases q:h.get? b with
 | none=>rw [q] at e;cases e
 | some o =>
  rw [q] at e
  have e':(b,o)=p:=Option.some.inj e
  subst e'
  exact ⟨hb,q⟩
theorem Inv.pinned {pins:List (Addr×Obj)}{σ:St}{H:Hp}{s:Shared}{fp:List Addr} (I:Inv X pins σ H s) (hf:∀ b∈fp,jx X pins H b) (ho:∀ b∈fp,∃ o,s.heap.get? b=some o∧∀ v,o.data≠.cell v):Inv X (pins++pD fp s.heap) σ H s :=
 I.BZ fun p hp=>(List.mem_append.mp hp).elim (fun z=>I.pin p (List.mem_append_right _ z)) fun z=>by
  obtain ⟨hb,e⟩:=Eb z
  obtain ⟨f0,f1,f2,_⟩:=hf p.1 hb
  obtain ⟨o,e',d⟩:=ho p.1 hb
  rw [e] at e';cases e'
  exact ⟨e,f0,f1,f2,d⟩
theorem Inv.kO {pins pl:List (Addr×Obj)}{σ:St}{H:Hp}{s:Shared} (I:Inv X (pins++pl) σ H s):Inv X pins σ H s:=I.BZ fun p hp=>I.pin p (List.mem_append_right _ (List.mem_append_left _ hp))
theorem jk {iter:Expr}{body:List Stmt}{wi:TI}{g:TG}{tb:TS}{pos:Pos} (hp:PassesOwn (model X.prog X.w) X.A X.env X.xe) (hc:X.calm=true) (hi:PI X tg iter wi) (hg:PG X tg g) (hb:wX X body tb)
  (hs:∀ x,foldedSetIterable iter X.env x=pure x:=by intro _;rfl):PS X (.For tg iter body [] pos) (tFor wi g tb):=by
 intro pins s σ H D I h
 refine wpAny_For (cN (hi pins s σ H _ I h) fun v s1 h1=>cN h1 fun itv s2 h2=>?_) hs
 obtain ⟨it,fp,tn,J,H2,e,I2,T,st2,f2,W,⟨m0,w0⟩,turn⟩:=h2
 subst e
 have stat:∀ {H':Hp},(∀ b∈fp,H' b=none)→∀ b∈fp,jx X pins H' b:=fun hn b hb=>⟨hn b hb,(f2 b hb).2⟩
 refine codeAny_forLoop_any (fun n s'=>∃ i σ' H',Inv X pins σ' H' s'∧tn i s'.heap∧(∀ b∈fp,H' b=none)∧W i n σ' H') ?_ m0 ⟨0,σ,H2,I2,st2,fun b hb=>(f2 b hb).1,w0⟩
 rintro n s3 ⟨i,σ3,H3,I3,st3,Kz,w3⟩
 rcases turn i n σ3 H3 w3 with ⟨stop,qn⟩ | ⟨go,N,hN,step⟩
 ·refine wpAny_passesOwn hp (cN (T.done X rfl rfl rfl hc i pins s3 σ3 H3 X.xe I3 (stat Kz) st3 stop) fun r s4 ⟨hr,I4⟩=>?_)
  subst hr
  exact wpAny_execs_nil ⟨σ3,H3,I4,qn⟩
 ·refine wpAny_passesOwn hp (cN (T.item X rfl rfl rfl hc i pins s3 σ3 H3 X.xe I3 (stat Kz) st3 go) fun r s4 ⟨u,hr,h4⟩=>?_)
  subst hr
  refine wpAny_passesOwn hp (cN h4 fun _ s5 ⟨x,H5,I5,r5,y5,GK,Ry⟩=>?_)
  have W0:=I5.pinned (stat Ry) (T.obj _ _ GK)
  refine wpAny_passesOwn hp (cN (hg _ s5 σ3 H5 x u _ W0 r5 (step x H5 y5)) fun _ s6 ⟨σ6,H6,I6,q6⟩=>?_)
  refine wpAny_passesOwn hp (cN (hb _ s6 σ6 H6 _ I6 q6) fun f s7 q7=>?_)
  have again:∀ {σ7:St}{H7:Hp},Inv X (pins++pD fp s5.heap) σ7 H7 s7→N σ7 H7→∃ m,m<n∧∃ i σ' H',Inv X pins σ' H' s7∧tn i s7.heap∧(∀ b∈fp,H' b=none)∧W i m σ' H':=fun {σ7 H7} I7 n7=>by
   obtain ⟨m',hm,w7⟩:=hN σ7 H7 n7
   refine ⟨m',hm,i+1,σ7,H7,I7.kO,T.keep _ _ _ GK fun b hb o e=>(I7.pin (b,o) (List.mem_append_right _ (List.mem_append_right _ (gJ hb e)))).1,fun b hb=>?_,w7⟩
   obtain ⟨o,e,d⟩:=T.obj _ _ GK b hb
   exact (I7.pin (b,o) (List.mem_append_right _ (List.mem_append_right _ (gJ hb e)))).2.1
  cases f with
  | next=>obtain ⟨σ7,H7,I7,n7⟩:=q7;exact again I7 n7
  | cont=>obtain ⟨σ7,H7,I7,n7⟩:=q7;exact again I7 n7
  | brk=>obtain ⟨σ7,H7,I7,q7⟩:=q7;exact ⟨σ7,H7,I7.kO,q7⟩
  | ret v=>obtain ⟨x7,σ7,H7,I7,r7,q7⟩:=q7;exact ⟨x7,σ7,H7,I7.kO,r7,q7⟩
end
theorem kW {K:PySem.W.Frag}{a:Addr}{xs:List V}{g:TG}{tb:TS}{D:Ends}{σ:St}{H:Hp} (Pv:Nat→St→Hp→Prop) (h0:Pv 0 σ H) (hl:∀ i σ H,i≤xs.length→Pv i σ H→bR K H a xs)
  (hs:∀ i x σ H,xs[i]?=some x→Pv i σ H→g x σ H fun σ2 H2=>tb { D with nx:=Pv (i+1),ct:=Pv (i+1),bk:=D.nx } σ2 H2) (hd:∀ σ H,Pv xs.length σ H→D.nx σ H) :
  ∃ W:Nat→Nat→St→Hp→Prop,(∃ m,W 0 m σ H)∧∀ i m σ H,W i m σ H →
   ((Rv K a).stop i H∧D.nx σ H)∨((Rv K a).go i H∧∃ N:St→Hp→Prop,(∀ σ' H',N σ' H'→∃ m',m'<m∧W (i+1) m' σ' H')∧∀ x H',(Rv K a).DY i H x H'→g x σ H' fun σ2 H2=>tb { D with nx:=N,ct:=N,bk:=D.nx } σ2 H2):=by
 refine ⟨fun i m σ H=>m=xs.length - i∧i≤xs.length∧Pv i σ H,⟨xs.length,by simp,Nat.zero_le _,h0⟩,?_⟩
 rintro i m σ H ⟨rfl,hi,p⟩
 have q:=hl i σ H hi p
 by_cases hlt:i<xs.length
 ·refine .inr ⟨⟨xs,xs[i],q,by simp [hlt]⟩,Pv (i+1),fun σ' H' p'=>⟨xs.length - (i+1),by omega,rfl,hlt,p'⟩,fun x H' y=>?_⟩
  obtain ⟨e,y⟩:=y
  subst e
  exact hs i x σ _ (y xs q) p
 ·have e:i=xs.length:=by omega
  subst e
  exact .inl ⟨⟨xs,q,Nat.le_refl _⟩,hd σ H p⟩
theorem iV {lo:Int}{n:Nat}{g:TG}{tb:TS}{D:Ends}{σ:St}{H:Hp} (Pv:Nat→St→Hp→Prop) (h0:Pv 0 σ H)
  (hs:∀ i σ H,i<n→Pv i σ H→g (.int (lo+i)) σ H fun σ2 H2=>tb { D with nx:=Pv (i+1),ct:=Pv (i+1),bk:=D.nx } σ2 H2) (hd:∀ σ H,Pv n σ H→D.nx σ H) :
  ∃ W:Nat→Nat→St→Hp→Prop,(∃ m,W 0 m σ H)∧∀ i m σ H,W i m σ H →
   ((Rx lo n).stop i H∧D.nx σ H)∨((Rx lo n).go i H∧∃ N:St→Hp→Prop,(∀ σ' H',N σ' H'→∃ m',m'<m∧W (i+1) m' σ' H')∧∀ x H',(Rx lo n).DY i H x H'→g x σ H' fun σ2 H2=>tb { D with nx:=N,ct:=N,bk:=D.nx } σ2 H2):=by
 refine ⟨fun i m σ H=>m=n - i∧i≤n∧Pv i σ H,⟨n,by simp,Nat.zero_le _,h0⟩,?_⟩
 rintro i m σ H ⟨rfl,hi,p⟩
 by_cases hlt:i<n
 ·refine .inr ⟨hlt,Pv (i+1),fun σ' H' p'=>⟨n - (i+1),by omega,rfl,hlt,p'⟩,fun x H' y=>?_⟩
  obtain ⟨e,y⟩:=y
  subst e y
  exact hs i σ _ hlt p
 ·have e:i=n:=by omega
  subst e
  exact .inl ⟨Nat.le_refl _,hd σ H p⟩
theorem xq {c:TT}{tb:TS}{D:Ends}{σ:St}{H:Hp} (Pv:St→Hp→Prop) (μ:St→Hp→Nat) (h0:Pv σ H)
  (hs:∀ σ H,Pv σ H→c σ H fun b H1=>if b=true then tb { D with nx:=fun σ' H'=>Pv σ' H'∧μ σ' H'<μ σ H,ct:=fun σ' H'=>Pv σ' H'∧μ σ' H'<μ σ H,bk:=D.nx } σ H1 else D.nx σ H1)
  (mono:∀ σ H Q Q',(∀ b H1,Q b H1→Q' b H1)→c σ H Q→c σ H Q'):GF c tb D σ H:=by
 refine ⟨fun m σ H=>m=μ σ H∧Pv σ H,⟨_,rfl,h0⟩,?_⟩
 rintro m σ H ⟨rfl,p⟩
 refine mono σ H _ _ (fun b H1 q=>?_) (hs σ H p)
 cases b with
 | true=>exact ⟨_,fun σ' H' ⟨p',l⟩=>⟨_,l,rfl,p'⟩,q⟩
 | false=>exact q
end L2
namespace L2
open PySem PySem.Spec PyProof.Rows
abbrev R2:=V→V→Hp→VK→Prop
def mK (X:Cx) (f:Value→Value→Sem Value) (r:R2):Prop :=
 ∀ (pins:List (Addr×Obj)) (s:Shared) (σ:St) (H:Hp) (x y:V) (v u:Value) (Q:VK),Inv X pins σ H s→RelV x v→RelV y u→r x y H Q →
  wpAny (model X.prog X.w) X.A (f v u) (EP X pins σ Q) X.xe s
def UnR (X:Cx) (f:Value→Sem Value) (r:V→Hp→VK→Prop):Prop :=
 ∀ (pins:List (Addr×Obj)) (s:Shared) (σ:St) (H:Hp) (x:V) (v:Value) (Q:VK),Inv X pins σ H s→RelV x v→r x H Q →
  wpAny (model X.prog X.w) X.A (f v) (EP X pins σ Q) X.xe s
def fM (X:Cx) (f:Value) (r:List V→Hp→VK→Prop):Prop :=
 ∀ (pins:List (Addr×Obj)) (s:Shared) (σ:St) (H:Hp) (xs:List V) (us:List Value) (Q:VK),Inv X pins σ H s→Vals xs us→r xs H Q →
  wpAny (model X.prog X.w) X.A (call f us) (EP X pins σ Q) X.xe s
def tOp (r:R2) (ta tb:TE):TE:=fun σ H Q=>ta σ H fun x H1=>tb σ H1 fun y H2=>r x y H2 Q
def tUn (r:V→Hp→VK→Prop) (ta:TE):TE:=fun σ H Q=>ta σ H fun x H1=>r x H1 Q
def rI (C:Int→Int→Prop) (g:Int→Int→V):R2:=fun x y H Q=>∃ i j,x=.int i∧y=.int j∧C i j∧Q (g i j) H
def Rz (g:Int→Int→V):R2:=fun x y H Q=>∃ i j,x=.int i∧y=.int j∧Q (g i j) H
def rU (g:Int→V):V→Hp→VK→Prop:=fun x H Q=>∃ i,x=.int i∧Q (g i) H
section
variable {X:Cx}{a b c:Expr}{ta tb tc:TE}{pos:Pos}
theorem RB (ha:PE X a ta) (hb:PE X b tb) {pins:List (Addr×Obj)}{s:Shared}{σ:St}{H:Hp}{R:V→V→Hp→Prop} (I:Inv X pins σ H s)
  (h:ta σ H fun x H1=>tb σ H1 fun y H2=>R x y H2) {Q:Value→Shared→Prop}{f:Value→Value→Sem Value}
  (hf:∀ v u s2 x y H2,Inv X pins σ H2 s2→RelV x v→RelV y u→R x y H2→wpAny (model X.prog X.w) X.A (f v u) Q X.xe s2) :
  wpAny (model X.prog X.w) X.A (eval a X.env) (fun v s₁=>wpAny (model X.prog X.w) X.A (eval b X.env) (fun u s₂=>wpAny (model X.prog X.w) X.A (f v u) Q X.xe s₂) X.xe s₁) X.xe s:=by
 refine cN (ha pins s σ H _ I h) fun v s1 ⟨x,H1,I1,r1,q1⟩=>?_
 refine cN (hb pins s1 σ H1 _ I1 q1) fun u s2 ⟨y,H2,I2,r2,q2⟩=>?_
 exact hf v u s2 x y H2 I2 r1 r2 q2
theorem aN {op:Operator}{r:R2} (ho:mK X (binaryOp op) r) (ha:PE X a ta) (hb:PE X b tb):PE X (.BinOp a op b pos) (tOp r ta tb):=by
 intro pins s σ H Q I h
 exact wpAny_BinOp (RB ha hb I h fun v u s2 x y H2 I2 rx ry q=>ho pins s2 σ H2 x y v u Q I2 rx ry q)
theorem xr {op:UnaryOp}{r:V→Hp→VK→Prop} (ho:UnR X (unaryOp op) r) (ha:PE X a ta):PE X (.UnaryOp op a pos) (tUn r ta):=by
 intro pins s σ H Q I h
 exact UnaryOp_ (cN (ha pins s σ H _ I h) fun v s1 ⟨x,H1,I1,r1,q1⟩=>ho pins s1 σ H1 x v Q I1 r1 q1)
theorem Vj {f:Value→Value→Sem Value}{C:Int→Int→Prop}{g:Int→Int→Int}
  (rule:∀ (i j:Int) (t u:Tok) (s:Shared) (Q:Value→Shared→Prop) (E:Value→Shared→Prop),C i j→Q (.int (g i j) s.toks) { s with toks:=s.toks+1 }→wpAny (model X.prog X.w) X.A (f (.int i t) (.int j u)) Q E s) :
  mK X f (rI C fun i j=>.int (g i j)):=by
 intro pins s σ H x y v u Q I rx ry h
 obtain ⟨i,j,rfl,rfl,hc,q⟩:=h
 obtain ⟨t,rfl⟩:=rx
 obtain ⟨t',rfl⟩:=ry
 exact rule i j t t' s _ _ hc ⟨.int (g i j),H,I.tok _,⟨_,rfl⟩,q⟩
theorem W2 {f:Value→Value→Sem Value}{g:Int→Int→Int}
  (rule:∀ (i j:Int) (t u:Tok) (s:Shared) (Q:Value→Shared→Prop) (E:Value→Shared→Prop),Q (.int (g i j) s.toks) { s with toks:=s.toks+1 }→wpAny (model X.prog X.w) X.A (f (.int i t) (.int j u)) Q E s) :
  mK X f (Rz fun i j=>.int (g i j)):=by
 intro pins s σ H x y v u Q I rx ry h
 obtain ⟨i,j,rfl,rfl,q⟩:=h
 obtain ⟨t,rfl⟩:=rx
 obtain ⟨t',rfl⟩:=ry
 exact rule i j t t' s _ _ ⟨.int (g i j),H,I.tok _,⟨_,rfl⟩,q⟩
theorem RD {f:Value→Value→Sem Value}{g:Int→Int→Bool}
  (rule:∀ (i j:Int) (t u:Tok) (s:Shared) (Q:Value→Shared→Prop) (E:Value→Shared→Prop),Q (.bool (g i j)) s→wpAny (model X.prog X.w) X.A (f (.int i t) (.int j u)) Q E s) :
  mK X f (Rz fun i j=>.bl (g i j)):=by
 intro pins s σ H x y v u Q I rx ry h
 obtain ⟨i,j,rfl,rfl,q⟩:=h
 obtain ⟨t,rfl⟩:=rx
 obtain ⟨t',rfl⟩:=ry
 exact rule i j t t' s _ _ ⟨.bl (g i j),H,I,rfl,q⟩
def CDiv (i j:Int):Prop:=0<j∧j<1073741824
def CPow (i j:Int):Prop:=0≤j∧j≤1000000∧i.natAbs<2 ^ 64
def RG (i j:Int):Prop:=(-(2 ^ 64)<i∧i<2 ^ 64)∨(-(2 ^ 64)<j∧j<2 ^ 64)
theorem RG.ok {i j:Int} (h:RG i j):IntMulOk i j:=by
 rcases h with ⟨h1,h2⟩ | ⟨h1,h2⟩
 ·exact .of_left (intBits_le_64 h1 h2)
 ·exact .of_right (intBits_le_64 h1 h2)
theorem dH:mK X (binaryOp .Add) (Rz fun i j=>.int (i+j)):=W2 fun _ _ _ _ _ _ _ q=>add_int q
theorem jH:mK X (binaryOp .Sub) (Rz fun i j=>.int (i - j)):=W2 fun _ _ _ _ _ _ _ q=>sub_int q
theorem jl:mK X (binaryOp .Mult) (rI RG fun i j=>.int (i * j)):=Vj fun _ _ _ _ _ _ _ hc q=>mul_int q hc.ok
theorem nM:mK X (binaryOp .FloorDiv) (rI CDiv fun i j=>.int (i / j)):=Vj fun i j _ _ _ _ _ hc q=>by
 have h1:(0:Int)<j:=hc.1
 have h2:j<1073741824:=hc.2
 exact floordiv_int (by omega) (by rw [Int.fdiv_eq_ediv_of_nonneg i (by omega)];exact q) (.inl (PyProof.noPylong_small (by omega)))
theorem bO:mK X (binaryOp .Mod) (rI (fun _ j=>0<j) fun i j=>.int (i % j)):=Vj fun i j _ _ _ _ _ hc q=>by
 have h1:(0:Int)<j:=hc
 exact mod_int' (by omega) (by rw [Int.fmod_eq_emod_of_nonneg i (by omega)];exact q)
theorem zq:mK X (binaryOp .Pow) (rI CPow fun i j=>.int (i ^ j.toNat)):=Vj fun _ _ _ _ _ _ _ hc q=>pow_int_small hc.1 hc.2.1 hc.2.2 q
theorem unI {f:Value→Sem Value}{g:Int→Int}
  (rule:∀ (i:Int) (t:Tok) (s:Shared) (Q:Value→Shared→Prop) (E:Value→Shared→Prop),Q (.int (g i) s.toks) { s with toks:=s.toks+1 }→wpAny (model X.prog X.w) X.A (f (.int i t)) Q E s) :
  UnR X f (rU fun i=>.int (g i)):=by
 intro pins s σ H x v Q I rx h
 obtain ⟨i,rfl,q⟩:=h
 obtain ⟨t,rfl⟩:=rx
 exact rule i t s _ _ ⟨.int (g i),H,I.tok _,⟨_,rfl⟩,q⟩
theorem rC:UnR X (unaryOp .USub) (rU fun i=>.int (-i)):=unI fun _ _ _ _ _ q=>neg_int q
end
def GP:V→V→Bool
 | .non,.non=>true | .non,.int _=>true | .int _,.non=>true | .non,.bl _=>true | .bl _,.non=>true | .non,.str _=>true | .str _,.non=>true
 | .int _,.int _=>true | .bl _,.bl _=>true | .str _,.str _=>true | .BX _,.BX _=>true
 | .int _,.str _=>true | .str _,.int _=>true | .bl _,.str _=>true | .str _,.bl _=>true
 | _,_=>false
def rEq:R2:=fun x y H Q=>GP x y=true∧Q (.bl (decide (x=y))) H
def rNe:R2:=fun x y H Q=>GP x y=true∧Q (.bl (!decide (x=y))) H
theorem qH {i j:Int}:decide (V.int i=V.int j)=(i==j):=by
 rw [Bool.eq_iff_iff]
 simp
theorem GQ {i j:Bool}:decide (V.bl i=V.bl j)=(i==j):=by
 rw [Bool.eq_iff_iff]
 simp
theorem dB {i j:Str}:decide (V.str i=V.str j)=(i==j):=by
 rw [Bool.eq_iff_iff]
 simp
theorem Ca {i j:Array UInt8}:decide (V.BX i=V.BX j)=(i.toList==j.toList):=by
 rw [Bool.eq_iff_iff]
 cases i
 cases j
 simp
section
variable {X:Cx}{a b c:Expr}{ta tb tc:TE}{pos:Pos}
theorem cC {pins:List (Addr×Obj)}{σ:St}{H:Hp}{s:Shared}{Q:VK}{k k':Bool} (I:Inv X pins σ H s) (q:Q (.bl k) H) (e:k=k'):EP X pins σ Q (.bool k') s:=by
 subst e
 exact ⟨.bl k,H,I,rfl,q⟩
theorem cH:mK X (compareOp .Eq) rEq:=by
 intro pins s σ H x y v u Q I rx ry h
 obtain ⟨hs,q⟩:=h
 cases x with
 | non =>
  cases rx
  cases y with
  | non=>cases ry;exact PySem.EqNone.eq_none_none (cC I q (by simp))
  | bl j=>cases ry;exact PySem.EqNone.eq_none_bool (cC I q (by simp))
  | int j=>obtain ⟨t',rfl⟩:=ry;exact PySem.EqNone.eq_none_int (cC I q (by simp))
  | str j=>obtain ⟨t',rfl⟩:=ry;exact PySem.EqNone.eq_none_str (cC I q (by simp))
  | _=>exact absurd (show false=true from hs) Bool.false_ne_true
 | bl i =>
  cases rx
  cases y with
  | non=>cases ry;exact PySem.EqNone.eq_bool_none (cC I q (by simp))
  | bl j=>cases ry;exact eq_bool (cC I q GQ)
  | str j=>obtain ⟨t',rfl⟩:=ry;exact PySem.EqMixed.eq_bool_str (cC I q (by simp))
  | _=>exact absurd (show false=true from hs) Bool.false_ne_true
 | int i =>
  obtain ⟨t,rfl⟩:=rx
  cases y with
  | non=>cases ry;exact PySem.EqNone.eq_int_none (cC I q (by simp))
  | int j=>obtain ⟨t',rfl⟩:=ry;exact eq_int (cC I q qH)
  | str j=>obtain ⟨t',rfl⟩:=ry;exact PySem.EqMixed.eq_int_str (cC I q (by simp))
  | _=>exact absurd (show false=true from hs) Bool.false_ne_true
 | str i =>
  obtain ⟨t,rfl⟩:=rx
  cases y with
  | non=>cases ry;exact PySem.EqNone.eq_str_none (cC I q (by simp))
  | bl j=>cases ry;exact PySem.EqMixed.eq_str_bool (cC I q (by simp))
  | int j=>obtain ⟨t',rfl⟩:=ry;exact PySem.EqMixed.eq_str_int (cC I q (by simp))
  | str j=>obtain ⟨t',rfl⟩:=ry;exact eq_str (cC I q dB)
  | _=>exact absurd (show false=true from hs) Bool.false_ne_true
 | BX i =>
  obtain ⟨t,rfl⟩:=rx
  cases y with
  | BX j=>obtain ⟨t',rfl⟩:=ry;exact PySem.W.eq_bytes (cC I q Ca)
  | _=>exact absurd (show false=true from hs) Bool.false_ne_true
 | _=>cases y <;> exact absurd (show false=true from hs) Bool.false_ne_true
theorem jT:mK X (compareOp .NotEq) rNe:=by
 intro pins s σ H x y v u Q I rx ry h
 obtain ⟨hs,q⟩:=h
 cases x with
 | non =>
  cases rx
  cases y with
  | non=>cases ry;exact PySem.EqNone.ne_none_none (cC I q (by simp))
  | bl j=>cases ry;exact PySem.EqNone.ne_none_bool (cC I q (by simp))
  | int j=>obtain ⟨t',rfl⟩:=ry;exact PySem.EqNone.ne_none_int (cC I q (by simp))
  | str j=>obtain ⟨t',rfl⟩:=ry;exact PySem.EqNone.ne_none_str (cC I q (by simp))
  | _=>exact absurd (show false=true from hs) Bool.false_ne_true
 | bl i =>
  cases rx
  cases y with
  | non=>cases ry;exact PySem.EqNone.ne_bool_none (cC I q (by simp))
  | bl j=>cases ry;exact ne_bool (cC I q (congrArg not GQ))
  | str j=>obtain ⟨t',rfl⟩:=ry;exact PySem.EqMixed.ne_bool_str (cC I q (by simp))
  | _=>exact absurd (show false=true from hs) Bool.false_ne_true
 | int i =>
  obtain ⟨t,rfl⟩:=rx
  cases y with
  | non=>cases ry;exact PySem.EqNone.ne_int_none (cC I q (by simp))
  | int j=>obtain ⟨t',rfl⟩:=ry;exact ne_int (cC I q (congrArg not qH))
  | str j=>obtain ⟨t',rfl⟩:=ry;exact PySem.EqMixed.ne_int_str (cC I q (by simp))
  | _=>exact absurd (show false=true from hs) Bool.false_ne_true
 | str i =>
  obtain ⟨t,rfl⟩:=rx
  cases y with
  | non=>cases ry;exact PySem.EqNone.ne_str_none (cC I q (by simp))
  | bl j=>cases ry;exact PySem.EqMixed.ne_str_bool (cC I q (by simp))
  | int j=>obtain ⟨t',rfl⟩:=ry;exact PySem.EqMixed.ne_str_int (cC I q (by simp))
  | str j=>obtain ⟨t',rfl⟩:=ry;exact ne_str (cC I q (congrArg not dB))
  | _=>exact absurd (show false=true from hs) Bool.false_ne_true
 | BX i =>
  obtain ⟨t,rfl⟩:=rx
  cases y with
  | BX j=>obtain ⟨t',rfl⟩:=ry;exact PySem.W.ne_bytes (cC I q (congrArg not Ca))
  | _=>exact absurd (show false=true from hs) Bool.false_ne_true
 | _=>cases y <;> exact absurd (show false=true from hs) Bool.false_ne_true
theorem xu:mK X (compareOp .Lt) (Rz fun i j=>.bl (decide (i<j))):=RD fun _ _ _ _ _ _ _ q=>lt_int q
theorem u9:mK X (compareOp .LtE) (Rz fun i j=>.bl (decide (i≤j))):=RD fun _ _ _ _ _ _ _ q=>le_int q
theorem GR:mK X (compareOp .Gt) (Rz fun i j=>.bl (decide (j<i))):=RD fun _ _ _ _ _ _ _ q=>gt_int q
theorem Cd:mK X (compareOp .IsNot) (fun x y H Q=>y=.non∧Q (.bl (!decide (x=.non))) H):=by
 intro pins s σ H x y v u Q I rx ry h
 obtain ⟨rfl,q⟩:=h
 cases ry
 refine isnot_none_gen (cC I q ?_)
 cases x <;> first
  | (cases rx;rfl)
  | (obtain ⟨t,rfl⟩:=rx;rfl)
theorem bA (b:Expr) {op:CmpOp} (h:op≠.In:=by decide) (h2:op≠.NotIn:=by decide):behindInMarks op b=false:=by
 have e1:(op==CmpOp.In)=false:=by cases op <;> first | rfl | exact absurd rfl h
 have e2:(op==CmpOp.NotIn)=false:=by cases op <;> first | rfl | exact absurd rfl h2
 cases b <;> simp [behindInMarks,e1,e2]
theorem nO {op:CmpOp}{r:R2} (ho:mK X (compareOp op) r) (ha:PE X a ta) (hb:PE X b tb) (hm:behindInMarks op b=false):PE X (.Compare a [op] [b] pos) (tOp r ta tb):=by
 intro pins s σ H Q I h
 exact wpAny_Compare1 (RB ha hb I h fun v u s2 x y H2 I2 rx ry q=>ho pins s2 σ H2 x y v u Q I2 rx ry q) hm
def W3 (t:TE):TT:=fun σ H Q=>t σ H fun x H'=>∃ k,x=.bl k∧Q k H'
theorem aM {op:CmpOp}{r:R2} (ho:mK X (compareOp op) r) (ha:PE X a ta) (hb:PE X b tb) (hm:behindInMarks op b=false):PT X (.Compare a [op] [b] pos) (W3 (tOp r ta tb)):=by
 intro pins s σ H Q I h
 refine wpAny_isTrue_Compare1 (cN (ha pins s σ H _ I h) fun v s1 ⟨x,H1,I1,r1,q1⟩=>cN (hb pins s1 σ H1 _ I1 q1) fun u s2 ⟨y,H2,I2,r2,q2⟩ =>
  cN (ho pins s2 σ H2 x y v u _ I2 r1 r2 q2) fun c s3 ⟨z,H3,I3,r3,k,e,q3⟩=>?_) hm
 subst e
 cases r3
 exact wpAny_truthy_bool ⟨H3,I3,q3⟩
def RJ (r r':R2) (ta tb tc:TE):TE:=fun σ H Q=>ta σ H fun x H1=>tb σ H1 fun y H2=>r x y H2 fun z H3=>∃ k,z=.bl k ∧
 (if k=true then tc σ H3 fun w' H4=>r' y w' H4 Q else Q (.bl false) H3)
theorem rD {op op':CmpOp}{r r':R2} (ho:mK X (compareOp op) r) (ho':mK X (compareOp op') r') (ha:PE X a ta) (hb:PE X b tb) (hc:PE X c tc)
  (hm:lastMarks [op,op'] [b,c]=false:=by with_unfolding_all rfl):PE X (.Compare a [op,op'] [b,c] pos) (RJ r r' ta tb tc):=by
 intro pins s σ H Q I h
 refine Compare_chain (cN (ha pins s σ H _ I h) fun v s1 ⟨x,H1,I1,r1,q1⟩=>chain_link (cN (hb pins s1 σ H1 _ I1 q1) fun u s2 ⟨y,H2,I2,r2,q2⟩ =>
  cN (ho pins s2 σ H2 x y v u _ I2 r1 r2 q2) fun d s3 ⟨z,H3,I3,r3,k,e,q3⟩=>?_)) hm
 subst e
 cases r3
 refine wpAny_truthy_bool ?_
 cases k with
 | false=>exact ite_ff ⟨.bl false,H3,I3,rfl,q3⟩
 | true=>exact ite_tt (chain_last (cN (hc pins s3 σ H3 _ I3 q3) fun w' s4 ⟨z',H4,I4,r4,q4⟩=>ho' pins s4 σ H4 y z' u w' Q I4 r2 r4 q4))
theorem rE:(sizeLine:Nat)<2 ^ 63:=by rw [sizeLine_eq];decide
theorem rF:mK X (binaryOp .Add) (fun x y H Q=>∃ i j,x=.str i∧y=.str j∧i.length+j.length≤sizeLine∧Q (.str (i++j)) H):=by
 intro pins s σ H x y v u Q I rx ry h
 obtain ⟨i,j,rfl,rfl,hz,q⟩:=h
 obtain ⟨t,rfl⟩:=rx
 obtain ⟨t',rfl⟩:=ry
 exact add_str (fun t' tk=>⟨.str (i++j),H,I.tok _,⟨_,rfl⟩,q⟩) hz
theorem vals1 {x:V}{us:List Value} (r:Vals [x] us):∃ u,us=[u]∧RelV x u:=by
 cases r with
 | cons r1 r2=>cases r2;exact ⟨_,rfl,r1⟩
theorem vals2 {x y:V}{us:List Value} (r:Vals [x,y] us):∃ u w',us=[u,w']∧RelV x u∧RelV y w':=by
 cases r with
 | cons r1 r2 =>
  cases r2 with
  | cons r3 r4=>cases r4;exact ⟨_,_,rfl,r1,r3⟩
theorem nP:fM X (.builtin "abs") (fun xs H Q=>∃ i,xs=[.int i]∧Q (.int (if i<0 then -i else i)) H):=by
 intro pins s σ H xs us Q I r h
 obtain ⟨i,rfl,q⟩:=h
 obtain ⟨u,rfl,t,rfl⟩:=vals1 r
 exact call_abs_int fun u tk=>⟨.int (if i<0 then -i else i),H,I.tok _,⟨_,rfl⟩,q⟩
theorem pF (hc:X.calm=true):fM X (.builtin "max") (fun xs H Q=>∃ i j,xs=[.int i,.int j]∧Q (.int (if j > i then j else i)) H):=by
 intro pins s σ H xs us Q I r h
 obtain ⟨i,j,rfl,q⟩:=h
 obtain ⟨u,w',rfl,⟨t,rfl⟩,⟨t',rfl⟩⟩:=vals2 r
 refine max_two_ints (I.ok.hd hc) fun h' tk k=>⟨_,H,I.kept k,?_,q⟩
 by_cases hj:j > i
 ·rw [if_pos hj,if_pos hj];exact ⟨_,rfl⟩
 ·rw [if_neg hj,if_neg hj];exact ⟨_,rfl⟩
theorem Ec (hc:X.calm=true):fM X (.builtin "min") (fun xs H Q=>∃ i j,xs=[.int i,.int j]∧Q (.int (if j<i then j else i)) H):=by
 intro pins s σ H xs us Q I r h
 obtain ⟨i,j,rfl,q⟩:=h
 obtain ⟨u,w',rfl,⟨t,rfl⟩,⟨t',rfl⟩⟩:=vals2 r
 refine min_two_ints (I.ok.hd hc) fun h' tk k=>⟨_,H,I.kept k,?_,q⟩
 by_cases hj:j<i
 ·rw [if_pos hj,if_pos hj];exact ⟨_,rfl⟩
 ·rw [if_neg hj,if_neg hj];exact ⟨_,rfl⟩
theorem uc:fM X (.type "int") (fun xs H Q=>(∃ i,xs=[.int i]∧Q (.int i) H)∨∃ k,xs=[.bl k]∧Q (.int (if k then 1 else 0)) H):=by
 intro pins s σ H xs us Q I r h
 rcases h with ⟨i,rfl,q⟩ | ⟨k,rfl,q⟩
 ·obtain ⟨u,rfl,t,rfl⟩:=vals1 r
  exact call_int_int ⟨.int i,H,I,⟨_,rfl⟩,q⟩
 ·obtain ⟨u,rfl,r1⟩:=vals1 r
  cases r1
  exact call_int_bool ⟨.int (if k then 1 else 0),H,I.tok _,⟨_,rfl⟩,q⟩
end
end L2
namespace L2
open PySem PySem.Spec PyProof.Rows
structure zu (h:Heap) (x dx C:Addr) (mA:Str→Option Value):Prop where
 obj:h.get? x=some (PySem.W.instObj C dx)
 ns:h.Ns1 dx mA
 ne:dx≠x
theorem Ed {h:Heap}{dx:Addr}{mA:Str→Option Value} (n:h.Ns1 dx mA):∃ od,h.get? dx=some od∧∀ name,PySem.W.lookIn name od=some (mA name):=by
 obtain ⟨o,es,ep,ho,hd,hk,_,hm⟩:=n
 refine ⟨o,ho,fun name=>?_⟩
 have e:=hm name
 unfold nsFind findBy at e
 rw [← Array.find?_toList] at e
 unfold PySem.W.lookIn
 rw [hd]
 dsimp only
 split
 ·rename_i y q
  rw [q] at e
  exact congrArg some e
 ·rename_i q
  rw [q] at e
  have a:es.toList.any (·.refKey)=false:=by
   rw [List.any_eq_false]
   intro y hy
   obtain ⟨z,t,hkey⟩:=hk y (Array.mem_toList_iff.mp hy)
   simp [DictEntry.refKey,hkey]
  have a':¬ es.toList.any (·.refKey)=true:=by rw [a];exact Bool.false_ne_true
  rw [if_neg a']
  exact congrArg some e
theorem zu.look {h:Heap}{x dx C:Addr}{mA:Str→Option Value} (I:zu h x dx C mA):∃ od,PySem.W.InstAt h x (PySem.W.instObj C dx) C (some od)∧∀ name,PySem.W.lookIn name od=some (mA name) :=
 let ⟨od,ho,hl⟩:=Ed I.ns
 ⟨od,⟨I.obj,rfl,rfl,ho⟩,hl⟩
section
variable {prog:Program}{w:World}{A:Around}{E:Value→Shared→Prop}{s:Shared}{K:PySem.W.Frag}{x dx C f:Addr}{mA:Str→Option Value}{name:Str}{v:Value}
theorem get_map {expr:Bool}{Q:Value→Shared→Prop} (X:K.In s.heap) (I:zu s.heap x dx C mA) (hg:PySem.W.plainGet K C name=true) (hh:PySem.W.hasDictIn K C=true)
  (ha:PySem.W.findIn K (.ref C) name=some none) (hv:mA name=some v) (hv':PySem.W.handedIn v=true) (h:Q v { s with toks:=s.toks+1 }) :
  wpAny (model prog w) A (getAttr (.ref x) name expr) Q E s:=by
 obtain ⟨od,J,hl⟩:=I.look
 exact PySem.W.get_value X J (PySem.W.plainGet_of hg).1 (PySem.W.findObj_own hh ha rfl (by rw [hl,hv])) hv' h
theorem GX {pl:Sem Bool}{Q:Value×List Value→Shared→Prop} (X:K.In s.heap) (I:zu s.heap x dx C mA) (hg:PySem.W.plainGet K C name=true)
  (hf:PySem.W.findIn K (.ref C) name=some (some (.ref f))) (ht:PySem.W.isFn K (.ref f)=true) (hv:mA name=none) (h:Q (.ref f,[.ref x]) s) :
  wpAny (model prog w) A (getMethod (.ref x) name pl) Q E s:=by
 obtain ⟨od,J,hl⟩:=I.look
 exact PySem.W.method_fn X J (PySem.W.plainGet_of hg).1 (PySem.W.plainGet_of hg).2 hf (beq_iff_eq.mp ht) (by show (PySem.W.lookIn name od).map (·.isSome)=some false;rw [hl,hv];rfl) h
theorem Lb {ns:List Str}{Q:Unit→Shared→Prop} (X:K.In s.heap) (I:zu s.heap x dx C mA)
  (hs:PySem.W.findIn K (.ref C) "__setattr__"=some (some (.builtin "object.__setattr__"))) (hp:PySem.W.plainOver K C=true) (ht:PySem.W.takerIn K C name=some none) (hh:PySem.W.hasDictIn K C=true)
  (hw:PySem.Within mA ns) (hsz:ns.length≤sizeLine)
  (h:∀ h',zu h' x dx C (fun y=>if y=name then some v else mA y)→Heap.SameBut dx s.heap h'→Q () { s with heap:=h',toks:=s.toks+2 }) :
  wpAny (model prog w) A (setAttr (.ref x) name v) Q E s:=by
 obtain ⟨od,J,hl⟩:=I.look
 refine PySem.W.set_plain X J hs (PySem.W.osa_open (s:={ s with toks:=s.toks+1 }) (r:=none) X J hp ht fun b=>?_)
 obtain ⟨cd,hc,hd'⟩:=PySem.W.any_some hh
 have hx:s.heap.get? x=some ⟨.ref C,some dx,.plain,#[]⟩:=I.obj
 refine wpAny_bind (wpAny_pure (wpAny_bind (wpAny_bind (wpAny_loadPart hx (wpAny_bind (PySem.W.Looks.here (s:={ s with toks:=s.toks+1 }) (PySem.W.looks_clsIn X hc) ?_))))))
 rw [hd']
 refine wpAny_pure (a:=some dx) (wpAny_bind (wpAny_pure (wpAny_bind ?_)))
 refine wpAny_nsSet1 (s:={ s with toks:=s.toks+1 }) I.ns fun h' hn2 hs2=>?_
 obtain ⟨oD,esD,epD,hoD,hdD,hcD⟩:=hn2.count (PySem.Within.cons name v hw)
 refine wpAny_bind (wpAny_lookBehind hoD (by rw [hdD];exact pastItsLine_dict (Nat.le_trans hcD (by rw [List.length_cons];omega))) ?_)
 exact wpAny_pure (h _ ⟨(hs2.2 _ (Ne.symm I.ne)).trans I.obj,hn2,I.ne⟩ hs2)
theorem xG {R:Result→Shared→Prop}{vs:List Value}{kw:List (Str×Value)} (X:K.In s.heap) (hm:PySem.W.makesIn K C=true)
  (hi:PySem.W.findIn K (.ref C) "__init__"=some (some (.ref f))) (hf:PySem.W.typeIn K (.ref f)=some (.type "function"))
  (h:codeAny (model prog w) (A.under (.builtin "type.__call__" ⟨.ref C::vs,kw⟩)) (.call (.ref f) ⟨.ref (s.heap.objs.size+1)::vs,kw⟩) (PySem.W.InitBack (s.heap.objs.size+1) R)
   { s with heap:=(s.heap.push PySem.W.emptyDict).push (PySem.W.instObj C s.heap.objs.size) }) :
  codeAny (model prog w) A (.call (.ref C) ⟨vs,kw⟩) R s:=by
 obtain ⟨hh,g,d,t,os⟩:=s
 exact PySem.W.make_core (PySem.W.makes_of X hm) (PySem.W.looks_findIn X hi) (fun self=>PySem.W.bind_fn X self hf) (.inl rfl) h
end
def kY (f:Str) (v:V):List (Str×V)→List (Str×V)
 | []=>[(f,v)]
 | (g,x)::r=>if g=f then (g,v)::r else (g,x)::kY f v r
theorem qg (f g:Str) (v:V):∀ fs:List (Str×V),(kY f v fs).lookup g=if g=f then some v else fs.lookup g
 | []=>by
  show List.lookup g [(f,v)]=_
  by_cases h:g=f
  ·have hb:(g==f)=true:=beq_iff_eq.mpr h
   simp only [List.lookup,hb,if_pos h]
  ·have hb:(g==f)=false:=beq_eq_false_iff_ne.mpr h
   simp only [List.lookup,hb,if_neg h]
 | (k,x)::r=>by
  have ih:=qg f g v r
  rw [show kY f v ((k,x)::r)=(if k=f then (k,v)::r else (k,x)::kY f v r) from rfl]
  by_cases hk:k=f
  ·rw [if_pos hk]
   by_cases h:g=k
   ·have hb:(g==k)=true:=beq_iff_eq.mpr h
    simp only [List.lookup,hb,if_pos (h.trans hk)]
   ·have hb:(g==k)=false:=beq_eq_false_iff_ne.mpr h
    simp only [List.lookup,hb,if_neg (fun e:g=f=>h (e.trans hk.symm))]
  ·rw [if_neg hk]
   by_cases h:g=k
   ·have hb:(g==k)=true:=beq_iff_eq.mpr h
    simp only [List.lookup,hb,if_neg (fun e:g=f=>hk (h.symm.trans e))]
   ·have hb:(g==k)=false:=beq_eq_false_iff_ne.mpr h
    simp only [List.lookup,hb]
    exact ih
theorem pG (f:Str) (v:V):∀ fs:List (Str×V),f∈(kY f v fs).map (·.1)∧∀ g,g∈fs.map (·.1)→g∈(kY f v fs).map (·.1)
 | []=>⟨by simp [kY],fun g h=>by simp at h⟩
 | (k,x)::r=>by
  obtain ⟨i1,i2⟩:=pG f v r
  rw [show kY f v ((k,x)::r)=(if k=f then (k,v)::r else (k,x)::kY f v r) from rfl]
  by_cases hk:k=f
  ·rw [if_pos hk]
   subst hk
   exact ⟨by simp,fun g h=>by simpa using h⟩
  ·rw [if_neg hk]
   refine ⟨?_,fun g h=>?_⟩
   ·rw [List.map_cons]
    exact List.mem_cons_of_mem _ i1
   ·rw [List.map_cons] at h ⊢
    rcases List.mem_cons.mp h with e | e
    ·exact List.mem_cons.mpr (.inl e)
    ·exact List.mem_cons_of_mem _ (i2 g e)
theorem qj (f:Str) (v:V):∀ fs:List (Str×V),(kY f v fs).length≤fs.length+1
 | []=>by simp [kY]
 | (k,x)::r=>by
  have ih:=qj f v r
  rw [show kY f v ((k,x)::r)=(if k=f then (k,v)::r else (k,x)::kY f v r) from rfl]
  by_cases hk:k=f
  ·rw [if_pos hk,List.length_cons,List.length_cons];omega
  ·rw [if_neg hk,List.length_cons,List.length_cons];omega
theorem jd.some_of {v:V}{o:Option Value} (r:jd (some v) o):∃ u,o=some u∧RelV v u:=by
 cases o with
 | none=>exact (show False from r).elim
 | some u=>exact ⟨u,rfl,r⟩
theorem jd.none_of {o:Option Value} (r:jd none o):o=none:=by
 cases o with
 | none=>rfl
 | some u=>exact (show False from r).elim
theorem Ef {v:V}{u:Value} (r:RelV v u):PySem.W.handedIn u=true:=by
 cases v with
 | non=>cases (show u=Value.none from r);rfl
 | bl b=>cases (show u=Value.bool b from r);rfl
 | int i=>obtain ⟨t,e⟩:=(show ∃ t,u=Value.int i t from r);cases e;rfl
 | str x=>obtain ⟨t,e⟩:=(show ∃ t,u=Value.str x t from r);cases e;rfl
 | BX b=>obtain ⟨t,e⟩:=(show ∃ t,u=Value.bytes b t from r);cases e;rfl
 | flt b=>obtain ⟨t,e⟩:=(show ∃ t,u=Value.float b t from r);cases e;rfl
 | ref a=>cases (show u=Value.ref a from r);rfl
 | ty n=>cases (show u=Value.type n from r);rfl
section
variable {P:Program}{w:World}{H H':Hp}{h h':Heap}{a C dx:Addr}{fs fs':List (Str×V)}
theorem qI (hok:jX P w H h) (e:H a=some (.ins C dx fs)):∃ mA,zu h a dx C mA∧(∀ f,jd (fs.lookup f) (mA f))∧PySem.Within mA (fs.map (·.1))∧fs.length≤1000∧H dx=some (.own a):=by
 obtain ⟨d,z,ne,ob,mA,n,r,q⟩:=(show cJ P w H h a (.ins C dx fs) from hok a _ e)
 exact ⟨mA,⟨ob,n,ne⟩,r,q,z,d⟩
end
structure Cls (K:PySem.W.Frag) (C:Addr):Prop where
 pg:PySem.W.plainGet K C Str.empty=true
 hd:PySem.W.hasDictIn K C=true
 po:PySem.W.plainOver K C=true
 sa:PySem.W.findIn K (.ref C) "__setattr__"=some (some (.builtin "object.__setattr__"))
theorem Cls.get {K:PySem.W.Frag}{C:Addr} (c:Cls K C) (f:Str):PySem.W.plainGet K C f=true:=c.pg
def iz (K:PySem.W.Frag) (C:Addr) (f:Str):Prop:=PySem.W.findIn K (.ref C) f=some none
theorem iz.taker {K:PySem.W.Frag}{C:Addr}{f:Str} (n:iz K C f):PySem.W.takerIn K C f=some none:=by
 unfold PySem.W.takerIn
 rw [show PySem.W.findIn K (.ref C) f=some none from n]
 rfl
structure Con (K:PySem.W.Frag) (C:Addr) (f:Str) (v:V) (u:Value):Prop where
 at_:PySem.W.findIn K (.ref C) f=some (some u)
 rel:RelV v u
 get:PySem.W.specialIn K u "__get__"=some none
 cp:PySem.W.copiedNames.contains f=false
structure Meth (K:PySem.W.Frag) (C:Addr) (m:Str) (f:Addr):Prop where
 at_:PySem.W.findIn K (.ref C) m=some (some (.ref f))
 fn:PySem.W.isFn K (.ref f)=true
 kp:PySem.W.keepIn K (.ref f)=true
section
variable {X:Cx}{pins:List (Addr×Obj)}{σ:St}{H:Hp}{s:Shared}{a C dx:Addr}{fs:List (Str×V)}{f:Str}{v:V}{A:Around}{E:Value→Shared→Prop}
theorem zx {b:Bool}{Q:Value→Shared→Prop} (I:Inv X pins σ H s) (e:H a=some (.ins C dx fs)) (c:Cls X.K C) (n:iz X.K C f) (l:fs.lookup f=some v)
  (h:∀ u s',Inv X pins σ H s'→RelV v u→Q u s'):wpAny (model X.prog X.w) A (getAttr (.ref a) f b) Q E s:=by
 obtain ⟨mA,O,r,_,_,_⟩:=qI I.hok e
 obtain ⟨u,hu,ru⟩:=jd.some_of (v:=v) (o:=mA f) (by rw [← l];exact r f)
 exact get_map I.lM O (c.get f) c.hd n hu (Ef ru) (h u _ (I.tok _) ru)
theorem rG {m:Str}{g:Addr}{pl:Sem Bool}{Q:Value×List Value→Shared→Prop} (I:Inv X pins σ H s) (e:H a=some (.ins C dx fs)) (c:Cls X.K C) (k:Meth X.K C m g) (l:fs.lookup m=none)
  (h:Q (.ref g,[.ref a]) s):wpAny (model X.prog X.w) A (getMethod (.ref a) m pl) Q E s:=by
 obtain ⟨mA,O,r,_,_,_⟩:=qI I.hok e
 have hn:mA m=none:=jd.none_of (by rw [← l];exact r m)
 exact GX I.lM O (c.get m) k.at_ k.fn hn h
theorem zy {y:V}{u:Value}{Q:Unit→Shared→Prop} (I:Inv X pins σ H s) (e:H a=some (.ins C dx fs)) (c:Cls X.K C) (n:iz X.K C f) (hl:fs.length<1000) (ry:RelV y u)
  (h:∀ s',Inv X pins σ (upd H a (.ins C dx (kY f y fs))) s'→Q () s'):wpAny (model X.prog X.w) A (setAttr (.ref a) f u) Q E s:=by
 obtain ⟨mA,O,r,wi,_,ho⟩:=qI I.hok e
 have hz:(fs.map (·.1)).length≤sizeLine:=by rw [List.length_map,sizeLine_eq];omega
 refine Lb I.lM O c.sa c.po n.taker c.hd wi hz fun h' O' sb=>h _ ?_
 have hd:∃ o,h'.get? dx=some o:=let ⟨o,_,_,e',_⟩:=O'.ns;⟨o,e'⟩
 refine I.write (x:=a) (e:=dx) (by rw [e];exact True.intro) (.inr ho) (fun b q hb z=>(sb.2 b hb).trans z) hd ?_
 refine ⟨by rw [ao O.ne];exact ho,?_,O.ne,O'.obj,_,O'.ns,fun g=>?_,fun g hg=>?_⟩
 ·have:=qj f y fs;omega
 ·show jd ((kY f y fs).lookup g) (if g=f then some u else mA g)
  rw [qg]
  by_cases q:g=f
  ·rw [if_pos q,if_pos q];exact ry
  ·rw [if_neg q,if_neg q];exact r g
 ·by_cases q:g=f
  ·rw [q];exact (pG f y fs).1
  ·refine (pG f y fs).2 g (wi g fun z=>hg ?_)
   show (if g=f then some u else mA g)=none
   rw [if_neg q];exact z
theorem Inv.made (I:Inv X pins σ H s):Inv X pins σ (upd (upd H s.heap.objs.size (.own (s.heap.objs.size+1))) (s.heap.objs.size+1) (.ins C s.heap.objs.size []))
  { s with heap:=(s.heap.push PySem.W.emptyDict).push (PySem.W.instObj C s.heap.objs.size) }:=by
 have e1:(s.heap.push PySem.W.emptyDict).get? s.heap.objs.size=some PySem.W.emptyDict:=Heap.get?_push_size s.heap rfl
 have e2:((s.heap.push PySem.W.emptyDict).push (PySem.W.instObj C s.heap.objs.size)).get? (s.heap.objs.size+1)=some (PySem.W.instObj C s.heap.objs.size):=by
  have:=Heap.get?_push_size (s.heap.push PySem.W.emptyDict) (o:=PySem.W.instObj C s.heap.objs.size) rfl
  rwa [Heap.size_push] at this
 have e3:(s.heap.push PySem.W.emptyDict).Ns s.heap.objs.size (fun _=>none):=⟨PySem.W.emptyDict,#[],_,e1,rfl,(fun e he=>absurd he (by simp)),fun _=>rfl⟩
 have I1:=I.laid (a:=s.heap.objs.size) (o:=.own (s.heap.objs.size+1)) (h':=s.heap.push PySem.W.emptyDict) (t':=s.toks) (fun b u q=>Heap.get?_push_of_some _ q) (Nat.le_refl _) ⟨_,e1⟩
 refine I1.laid (a:=s.heap.objs.size+1) (o:=.ins C s.heap.objs.size []) (t':=s.toks) (fun b u q=>Heap.get?_push_of_some _ q) (Nat.le_of_eq (Heap.size_push _ _)) ?_
 have ne:s.heap.objs.size≠s.heap.objs.size+1:=Nat.ne_of_lt (Nat.lt_succ_self _)
 refine ⟨by rw [ao ne,ak],Nat.zero_le _,ne,e2,fun _=>none,(Heap.Ns1.of_empty e3).at fun o q=>Heap.get?_push_of_some _ q,fun _=>True.intro,fun y hy=>absurd rfl hy⟩
theorem Ld {prog:Program}{w:World}{env:Env}{e:Expr}{f:Str}{pos:Pos}{s:Shared}{Q:Value→Shared→Prop} (hb:attributeBase e f env (eval e env)=eval e env)
  (h:wpAny (model prog w) A (eval e env) (fun o s₁=>wpAny (model prog w) A (getAttr o f true) Q E s₁) E s):wpAny (model prog w) A (eval (.Attribute e f pos) env) Q E s :=
 Attribute_any_ h (by rw [arm_eval_Attribute,hb])
end
def tFld (K:PySem.W.Frag) (ta:TE) (f:Str):TE:=fun σ H Q=>ta σ H fun x H1=>∃ a C dx fs v,x=.ref a∧H1 a=some (.ins C dx fs)∧Cls K C∧iz K C f∧fs.lookup f=some v∧Q v H1
def W4 (K:PySem.W.Frag) (ta tv:TE) (f:Str):TS:=fun D σ H=>tv σ H fun y H1=>ta σ H1 fun x H2=>∃ a C dx fs,x=.ref a∧H2 a=some (.ins C dx fs)∧Cls K C∧iz K C f∧fs.length<1000 ∧
 D.nx σ (upd H2 a (.ins C dx (kY f y fs)))
def RK (X:Cx) (op:Operator) (rd:V→V→Hp→VK→Prop):Prop :=
 ∀ (pins:List (Addr×Obj)) (s:Shared) (σ:St) (H:Hp) (x y:V) (u v:Value) (Q:VK),Inv X pins σ H s→RelV x u→RelV y v→rd x y H Q→wpAny (model X.prog X.w) X.A (inplaceOp op u v) (EP X pins σ Q) X.xe s
section
variable {X:Cx}{o e value:Expr}{f:Str}{pos pos' tpos:Pos}{ta tv:TE}
theorem cj (he:PE X e ta) (hb:attributeBase e f X.env (eval e X.env)=eval e X.env):PE X (.Attribute e f pos) (tFld X.K ta f):=by
 intro pins s σ H Q I h
 refine Ld hb (cN (he pins s σ H _ I h) fun u s1 ⟨x,H1,I1,rx,a,C,dx,fs,v,ex,ea,c,n,l,q⟩=>?_)
 subst ex
 obtain rfl:u=Value.ref a:=rx
 exact zx I1 ea c n l fun u' s2 I2 ru=>⟨v,H1,I2,ru,q⟩
theorem rH (ha:PE X o ta) (hv:PE X value tv) (hs:swapsWith value (some (.Attribute o f pos')) pos.line X.env=pure false):PS X (.Assign [.Attribute o f pos'] value pos) (W4 X.K ta tv f):=by
 intro pins s σ H D I h
 refine plainObj_wpAny_Assign_Attribute (cN (hv pins s σ H _ I h) fun u s1 ⟨y,H1,I1,ry,q⟩=>cN (ha pins s1 σ H1 _ I1 q) fun ov s2 ⟨x,H2,I2,rx,a,C,dx,fs,ex,ea,c,n,l,q2⟩=>?_) hs
 subst ex
 obtain rfl:ov=Value.ref a:=rx
 exact zy I2 ea c n l ry fun s3 I3=>⟨σ,_,I3,q2⟩
def rAdd:V→V→Hp→VK→Prop:=fun x y H Q=>∃ i j,x=.int i∧y=.int j∧Q (.int (i+j)) H
def rSub:V→V→Hp→VK→Prop:=fun x y H Q=>∃ i j,x=.int i∧y=.int j∧Q (.int (i - j)) H
theorem GZ:RK X .Add rAdd:=by
 rintro pins s σ H x y u v Q I rx ry ⟨i,j,rfl,rfl,q⟩
 obtain ⟨t,rfl⟩:=(show ∃ t,u=Value.int i t from rx)
 obtain ⟨t',rfl⟩:=(show ∃ t',v=Value.int j t' from ry)
 exact PyProof.Rows.iadd_int ⟨.int (i+j),H,I.tok _,⟨_,rfl⟩,q⟩
theorem vJ:RK X .Sub rSub:=by
 rintro pins s σ H x y u v Q I rx ry ⟨i,j,rfl,rfl,q⟩
 obtain ⟨t,rfl⟩:=(show ∃ t,u=Value.int i t from rx)
 obtain ⟨t',rfl⟩:=(show ∃ t',v=Value.int j t' from ry)
 exact PyProof.Rows.isub_int ⟨.int (i - j),H,I.tok _,⟨_,rfl⟩,q⟩
end
section
variable {X:Cx}{pins:List (Addr×Obj)}{σ:St}{H:Hp}{s:Shared}{A:Around}{E:Value→Shared→Prop}{Q:Value→Shared→Prop}{c:Value}{b:Bool}
inductive nQ (K:PySem.W.Frag) (H:Hp):V→Value→Prop where
 | non:nQ K H .non (.type "NoneType")
 | bl (x:Bool):nQ K H (.bl x) (.type "bool")
 | int (i:Int):nQ K H (.int i) (.type "int")
 | str (x:Str):nQ K H (.str x) (.type "str")
 | flt (x:UInt64):nQ K H (.flt x) (.type "float")
 | lst {a:Addr}{xs:List V} (e:H a=some (.lst xs)):nQ K H (.ref a) (.type "list")
 | fX {a:Addr}{o:Obj}{xs:List V} (e:H a=some (.fX o (.lst xs))):nQ K H (.ref a) (.type "list")
 | tup {a:Addr}{xs:List V} (e:H a=some (.tup xs)):nQ K H (.ref a) (.type "tuple")
 | dK {a:Addr}{kvs:List (Key×V)} (e:H a=some (.dK kvs)):nQ K H (.ref a) (.type "dict")
 | dT {a:Addr}{kvs:List (List Key×V)} (e:H a=some (.dT kvs)):nQ K H (.ref a) (.type "dict")
 | ins {a C dx:Addr}{fs:List (Str×V)} (e:H a=some (.ins C dx fs)) (cl:Cls K C) (ha:PySem.W.findIn K (.ref C) "__class__"=some (some (.builtin "object.__class__")))
   (hn:PySem.W.specialIn K (.builtin "object.__class__") "__get__"=some (some (.builtin "getset_descriptor.__get__"))) (htk:PySem.W.takesIn K (.builtin "object.__class__")=some true)
   (hm:PySem.W.mroIn K C (.type "object")=some true):nQ K H (.ref a) (.ref C)
theorem Eh {x:V}{u t:Value} (I:Inv X pins σ H s) (rx:RelV x u) (ty:nQ X.K H x t) (e:PySem.W.kitOne X.K t c=some b) (h:∀ tk,Q (.bool b) { s with toks:=tk }) :
  wpAny (model X.prog X.w) A (call (.builtin "isinstance") [u,c]) Q E s:=by
 cases ty with
 | non=>cases (show u=Value.none from rx);exact PySem.W.kia_one PySem.W.kitx_none I.lM True.intro e (fun z=>nomatch z) h
 | bl y=>cases (show u=Value.bool y from rx);exact PySem.W.kia_one PySem.W.kitx_bool I.lM True.intro e (fun z=>nomatch z) h
 | int i=>obtain ⟨t,q⟩:=(show ∃ t,u=Value.int i t from rx);cases q;exact PySem.W.kia_one PySem.W.kitx_int I.lM True.intro e (fun z=>nomatch z) h
 | str y=>obtain ⟨t,q⟩:=(show ∃ t,u=Value.str y t from rx);cases q;exact PySem.W.kia_one PySem.W.kitx_str I.lM True.intro e (fun z=>nomatch z) h
 | flt y=>obtain ⟨t,q⟩:=(show ∃ t,u=Value.float y t from rx);cases q;exact PySem.W.kia_one PySem.W.kitx_float I.lM True.intro e (fun z=>nomatch z) h
 | @lst a xs ea =>
  cases (show u=Value.ref a from rx)
  obtain ⟨_,_,n,_,h1⟩:=(show cJ X.prog X.w H s.heap a (.lst xs) from I.hok a _ ea)
  exact PySem.W.kia_one PySem.W.kitx_list I.lM ⟨_,h1,rfl⟩ e (fun z=>nomatch z) h
 | @fX a ob xs ea =>
  cases (show u=Value.ref a from rx)
  obtain ⟨_,_,_,n,_,h1⟩:=(show cJ X.prog X.w H s.heap a (.fX ob (.lst xs)) from I.hok a _ ea)
  exact PySem.W.kia_one PySem.W.kitx_list I.lM ⟨_,h1,rfl⟩ e (fun z=>nomatch z) h
 | @tup a xs ea =>
  cases (show u=Value.ref a from rx)
  obtain ⟨_,_,_,p⟩:=(show cJ X.prog X.w H s.heap a (.tup xs) from I.hok a _ ea)
  obtain ⟨o,h1,h2,_⟩:=p
  exact PySem.W.kia_one PySem.W.kitx_tuple I.lM ⟨o,h1,h2⟩ e (fun z=>nomatch z) h
 | @dK a kvs ea =>
  cases (show u=Value.ref a from rx)
  obtain ⟨_,_,vs,_,p⟩:=(show cJ X.prog X.w H s.heap a (.dK kvs) from I.hok a _ ea)
  obtain ⟨o,es,ep,h1,h2,_⟩:=p
  exact PySem.W.kia_one PySem.W.kitx_dict I.lM ⟨o,h1,h2.1⟩ e (fun z=>nomatch z) h
 | @dT a kvs ea =>
  cases (show u=Value.ref a from rx)
  obtain ⟨_,_,xs,_,o,es,ep,h1,h2,_⟩:=(show cJ X.prog X.w H s.heap a (.dT kvs) from I.hok a _ ea)
  exact PySem.W.kia_one PySem.W.kitx_dict I.lM ⟨o,h1,h2.1⟩ e (fun z=>nomatch z) h
 | @ins a C dx fs ea cl ha hn htk hm =>
  cases (show u=Value.ref a from rx)
  obtain ⟨mA,O,_⟩:=qI I.hok ea
  obtain ⟨od,J,_⟩:=O.look
  exact PySem.W.kia_one (PySem.W.kitx_own (cl.get _) cl.hd ha hn htk hm) I.lM J e (fun z=>nomatch z) h
end
end L2
namespace L2
open PySem PySem.Spec PyProof.Rows
structure fG (k:Nat) (A:Around):Prop where
 hd:A.handled=none
 dp:A.depth+3 * k+5<recursionLimit
 un:A.units+16 * k+200<cLine
theorem fG.mono {j k:Nat}{A:Around} (r:fG k A) (h:j≤k):fG j A:=⟨r.hd,by have:=r.dp;omega,by have:=r.un;omega⟩
theorem fG.deeper {k:Nat}{A:Around} (r:fG (k+1) A) (env:Env):fG k (A.deeper env) :=
 ⟨r.hd,by have:=r.dp;show A.depth+1+3 * k+5<_;omega,by have:=r.un;show A.units+3+16 * k+200<_;omega⟩
theorem zA {A:Around}{C:Addr}{us:List Value}{kw:List (Str×Value)}:(A.under (.builtin "type.__call__" ⟨.ref C::us,kw⟩)).depth=A.depth+1:=by
 first | rfl | simp [Around.under,Code.weight,Code.isCreation,Code.isGuard,Code.isCaller,Code.frames,Code.isFrame,guardIds]
theorem zB {A:Around}{C:Addr}{us:List Value}{kw:List (Str×Value)}:(A.under (.builtin "type.__call__" ⟨.ref C::us,kw⟩)).units=A.units+1:=by
 first | rfl | simp [Around.under,Code.cUnits,Code.frames,Code.isFrame]
theorem fG.make {k:Nat}{A:Around} (r:fG (k+1) A) (C:Addr) (us:List Value) (kw:List (Str×Value)):fG k (A.under (.builtin "type.__call__" ⟨.ref C::us,kw⟩)) :=
 ⟨r.hd,by have:=r.dp;rw [zA];omega,by have:=r.un;rw [zB];omega⟩
theorem fG.depth {k:Nat}{A:Around} (r:fG k A):A.depth<recursionLimit:=by have:=r.dp;omega
theorem fG.units {k:Nat}{A:Around} (r:fG k A):A.units+64<cLine:=by have:=r.un;omega
def zE:TA:=fun _ H Q=>Q [] H
def rJ (ta:TE) (tr:TA):TA:=fun σ H Q=>ta σ H fun x H1=>tr σ H1 fun xs H2=>Q (x::xs) H2
section
variable {X:Cx}{e:Expr}{es:List Expr}{te:TE}{t:TA}{pos:Pos}
theorem aA:PA X [] zE:=fun _ _ _ _ H Q I h=>Calls.spliced_nil ⟨[],H,I,.nil,h⟩
theorem aj (ha:PE X e te) (hr:PA X es t) (hs:starEach (e::es) X.env=(false,eval e X.env)::starEach es X.env:=by rfl):PA X (e::es) (rJ te t):=by
 intro pos pins s σ H Q I h
 rw [hs]
 show wpAny _ _ (spliced ((false,eval e X.env)::backTo pos (starEach es X.env))) _ _ s
 refine Calls.spliced_cons (cN (ha pins s σ H _ I h) fun u s1 ⟨x,H1,I1,r1,q1⟩=>?_)
 exact cN (hr pos pins s1 σ H1 _ I1 q1) fun us s2 ⟨xs,H2,I2,r2,q2⟩=>⟨x::xs,H2,I2,.cons r1 r2,q2⟩
def Le (t:TA):TE:=fun σ H Q=>t σ H fun xs H1=>xs.length≤sizeLine∧∀ p,H1 p=none→Q (.ref p) (upd H1 p (.tup xs))
def RL (t:TA):TE:=fun σ H Q=>t σ H fun xs H1=>xs.length≤sizeLine∧∀ p,H1 p=none→Q (.ref p) (upd H1 p (.lst xs))
theorem cG {x1} (h:PA X es t):PE X (.Tuple es x1 pos) (Le t):=by
 intro pins s σ H Q I hq
 refine wpAny_Tuple_spliced (cN (h pos pins s σ H _ I hq) fun us s1 ⟨xs,H1,I1,r,z,q⟩=>⟨by rw [← r.length];exact z,?_⟩)
 have hf:H1 s1.heap.objs.size=none:=I1.hok.fresh (Nat.le_refl _)
 refine ⟨.ref s1.heap.objs.size,upd H1 s1.heap.objs.size (.tup xs),I1.laid (t':=s1.toks) (fun b u e=>Heap.get?_push_of_some _ e) (Nat.le_refl _) ?_,rfl,q _ hf⟩
 exact ⟨z,us,r,⟨_,Heap.get?_push_size _ rfl,rfl,_,rfl⟩⟩
theorem cI (h:PA X es t):PE X (.List es pos) (RL t):=by
 intro pins s σ H Q I hq
 refine wpAny_List_spliced (cN (h pos pins s σ H _ I hq) fun us s1 ⟨xs,H1,I1,r,z,q⟩=>⟨by rw [← r.length];exact z,?_⟩)
 have hf:H1 s1.heap.objs.size=none:=I1.hok.fresh (Nat.le_refl _)
 refine ⟨.ref s1.heap.objs.size,upd H1 s1.heap.objs.size (.lst xs),I1.laid (t':=s1.toks) (fun b u e=>Heap.get?_push_of_some _ e) (Nat.le_refl _) ?_,rfl,q _ hf⟩
 exact ⟨z,us,0,r,Heap.get?_push_size _ rfl⟩
end
abbrev Sp:=List V→Hp→VK→XK→Prop
abbrev wO:=List Env→Hp→Shared→XK→Value→Shared→Prop
structure zF (P:Program) (w:World) (K:PySem.W.Frag) (mg:Str→Option Value) (base:Heap) (A:Around) (outer:List Env) (s:Shared) (H:Hp):Prop where
 frames:A.frames=some outer
 mod:Mod K mg base
 bs:∀ b o,base.get? b=some o→s.heap.get? b=some o∧H b=none
 Gs:base.objs.size≤s.heap.objs.size
 mJ:s.heap.FunFrames base outer
 KZ:∀ b∈frs outer,H b=none
 hok:jX P w H s.heap
 bare:AllBare s.gens
def CE (outer:List Env) (P:Program) (w:World) (H:Hp) (s:Shared) (Q:VK) (u:Value) (s':Shared):Prop :=
 ∃ v H',s'.os=s.os∧AllBare s'.gens∧Un (frs outer) [] H H' s.heap s'.heap∧jX P w H' s'.heap∧RelV v u∧Q v H'
def CR (CX:wO) (outer:List Env) (P:Program) (w:World) (H:Hp) (s:Shared) (Q:VK) (E:XK) (r:Result) (s':Shared):Prop :=
 match r with
 | .ok (.ret u)=>CE outer P w H s Q u s'
 | .ok _=>False
 | .error e=>CX outer H s E e s'
structure aL (P:Program) (w:World) (K:PySem.W.Frag) (mg:Str→Option Value) (base:Heap) (CX:wO) (k:Nat) (f:Addr) (fd:FuncData) (ps:List Str) (sp:Sp):Prop where
 len:∀ vs H Q E,sp vs H Q E→vs.length=ps.length
 run:∀ (A:Around) (outer:List Env) (s:Shared) (H:Hp) (args:Args) (us:List Value) (vs:List V) (Q:VK) (E:XK),fG k A→zF P w K mg base A outer s H→BindsTo s fd args (ps.zip us)→Vals vs us→sp vs H Q E →
  codeAny (model P w) A (.call (.ref f) args) (CR CX outer P w H s Q E) s
theorem aL.mono {P:Program}{w:World}{K:PySem.W.Frag}{mg:Str→Option Value}{base:Heap}{CX:wO}{j k:Nat}{f:Addr}{fd:FuncData}{ps:List Str}{sp:Sp} (F:aL P w K mg base CX j f fd ps sp) (h:j≤k) :
  aL P w K mg base CX k f fd ps sp:=⟨F.len,fun A outer s H args us vs Q E hr=>F.run A outer s H args us vs Q E (hr.mono h)⟩
theorem zF.make {P:Program}{w:World}{K:PySem.W.Frag}{mg:Str→Option Value}{base:Heap}{A:Around}{outer:List Env}{s:Shared}{H:Hp} (e:zF P w K mg base A outer s H) (C:Addr) (us:List Value) (kw:List (Str×Value)) :
  zF P w K mg base (A.under (.builtin "type.__call__" ⟨.ref C::us,kw⟩)) outer s H:=⟨by first | exact e.frames | (simpa [Around.under,Code.envs,Code.isFrame,pushEnvs] using e.frames),e.mod,e.bs,e.Gs,e.mJ,e.KZ,e.hok,e.bare⟩
section
variable {X:Cx}{pins:List (Addr×Obj)}{σ:St}{H:Hp}{s s':Shared}
theorem Inv.env0 (I:Inv X pins σ H s):zF X.prog X.w X.K X.mg X.base X.A X.stack s H :=
 ⟨I.ok.frames,I.ok.mod,I.bs,Nat.le_trans I.ok.Gs I.sz,I.stack,I.qG,I.hok,I.bare⟩
theorem Inv.after {Q:VK}{u:Value} (I:Inv X pins σ H s) (h:CE X.stack X.prog X.w H s Q u s'):EP X pins σ Q u s':=by
 obtain ⟨v,H',os,bare,un,hok,r,q⟩:=h
 obtain ⟨hh,g,d,t,os'⟩:=s'
 obtain rfl:os'=s.os:=os
 exact ⟨v,H',I.call (h':=hh) (g':=g) (d':=d) (t':=t) (ch:=[]) un hok bare (fun b z=>absurd z (by simp)),r,q⟩
end
def W5 (sp:Sp) (jU:List V) (E:XK) (t:TA):TE:=fun σ H Q=>t σ H fun vs H1=>sp (vs++jU) H1 Q E
def Ph (C:Addr) (m:Str) (sp:Sp) (jU:List V) (E:XK) (ta:TE) (t:TA):TE:=fun σ H Q=>ta σ H fun x H1=>∃ a dx fs,x=.ref a∧H1 a=some (.ins C dx fs)∧fs.lookup m=none ∧
 t σ H1 fun vs H2=>sp (x::(vs++jU)) H2 Q E
def W6 (C:Addr) (sp:Sp) (jU:List V) (E:XK) (t:TA):TE:=fun σ H Q=>t σ H fun vs H1=>∀ x dx,H1 x=none→H1 dx=none→dx≠x →
 sp (.ref x::(vs++jU)) (upd (upd H1 dx (.own x)) x (.ins C dx [])) (fun v H2=>v=.non∧Q (.ref x) H2) E
def Binds (K:PySem.W.Frag) (fd:FuncData) (ps:List Str) (ds:List Value):Prop :=
 ∀ (s:Shared) (us:List Value),K.In s.heap→(us++ds).length=ps.length→BindsTo s fd ⟨us,[]⟩ (ps.zip (us++ds))
theorem Binds.all {K:PySem.W.Frag}{fd:FuncData}{ps:List Str} (h:∀ us:List Value,us.length=ps.length→bindArgs fd ⟨us,[]⟩=pure (ps.zip us)):Binds K fd ps []:=fun s us _ hl=>by
 rw [List.append_nil] at hl ⊢
 exact .of_eq (h us hl)
def Passes (CX:wO) (X:Cx) (E:XK):Prop:=∀ (pins:List (Addr×Obj)) (σ:St) (H:Hp) (s:Shared) (e:Value) (s':Shared),Inv X pins σ H s→CX X.stack H s E e s'→X.xe e s'
section
variable {X:Cx}{CX:wO}{k:Nat}{f C:Addr}{fd:FuncData}{ps:List Str}{sp:Sp}{jU:List V}{ds:List Value}{E:XK}{x m:Str}{p pos apos:Pos}{e o:Expr}{es:List Expr}{ta:TE}{t:TA}
theorem zG {pins:List (Addr×Obj)}{σ:St}{H:Hp}{s:Shared}{Q:VK}{us:List Value}{vs:List V} (F:aL X.prog X.w X.K X.mg X.base CX k f fd ps sp) (hr:fG k X.A) (hb:Binds X.K fd ps ds) (hd:Vals jU ds) (hx:Passes CX X E)
  (I:Inv X pins σ H s) (r:Vals vs us) (h:sp (vs++jU) H Q E):wpAny (model X.prog X.w) X.A (call (.ref f) us) (EP X pins σ Q) X.xe s:=by
 have r2:Vals (vs++jU) (us++ds):=r.append hd
 have hl:(us++ds).length=ps.length:=by rw [← r2.length];exact F.len _ _ _ _ h
 refine wpAny_call (codeAny_mono (F.run X.A X.stack s H ⟨us,[]⟩ (us++ds) (vs++jU) Q E hr I.env0 (hb s us I.lM hl) r2 h) fun r s' hq=>?_)
 cases r with
 | error e=>exact hx pins σ H s e s' I hq
 | ok fl =>
  cases fl with
  | ret u=>exact I.after hq
  | next=>exact False.elim hq
  | brk=>exact False.elim hq
  | cont=>exact False.elim hq
theorem bf (F:aL X.prog X.w X.K X.mg X.base CX k f fd ps sp) (hr:fG k X.A) (hg:Gl X x) (hm:X.mg x=some (.ref f)) (hk:PySem.W.keepIn X.K (.ref f)=true) (hb:Binds X.K fd ps ds) (hd:Vals jU ds) (hx:Passes CX X E)
  (ha:PA X (e::es) t) (hdb:(x==("__debug__" : Str))=false:=by decide) (he:starEach (e::es) X.env=(false,eval e X.env)::starEach es X.env:=by rfl) (hpl:(backTo pos (starEach es X.env)).any (·.1)=false:=by rfl) :
  PE X (.Call (.Name x p) (e::es) [] pos) (W5 sp jU E t):=by
 intro pins s σ H Q I h
 refine wpAny_Call_Name_kw (jF I hg hm ?_ hdb)
 refine PySem.W.callWith_K (h₀:=X.base) I.ok.mod.kin hk (cN (ha pos pins s σ H _ I h) fun us s1 ⟨vs,H1,I1,r,q⟩=>⟨I1.lM,?_⟩) he hpl
 exact zG F hr hb hd hx I1 r q
theorem bH {pl:Sem Bool} (he:PE X o ta) (c:Cls X.K C) (hm:Meth X.K C m f) (F:aL X.prog X.w X.K X.mg X.base CX k f fd ps sp) (hr:fG k X.A) (hb:Binds X.K fd ps ds) (hd:Vals jU ds) (hx:Passes CX X E) (ha:PA X (e::es) t)
  (hst:starEach (e::es) X.env=(false,eval e X.env)::starEach es X.env:=by rfl) (hpl:(backTo pos (starEach es X.env)).any (·.1)=false:=by rfl)
  (ht:eval (.Call (.Attribute o m apos) (e::es) [] pos) X.env=(do
   let ov ← eval o X.env
   standAt apos.atName
   let (f,first) ← holding [ov] (getMethod ov m pl)
   callWith pos f first (backTo pos (starEach (e::es) X.env)) (backToKw pos (keywordEach [] X.env))):=by rfl) :
  PE X (.Call (.Attribute o m apos) (e::es) [] pos) (Ph C m sp jU E ta t):=by
 intro pins s σ H Q I h
 refine PySem.W.methodCall_KW (pl:=pl) (cN (he pins s σ H _ I h) fun u s1 ⟨x,H1,I1,rx,a,dx,fs,ex,ea,l,q⟩=>?_) ht
 subst ex
 obtain rfl:u=Value.ref a:=rx
 refine rG I1 ea c hm l ?_
 refine PySem.W.callWith_K (first:=[.ref a]) (h₀:=X.base) I.ok.mod.kin hm.kp (cN (ha pos pins s1 σ H1 _ I1 q) fun us s2 ⟨vs,H2,I2,r,q2⟩=>⟨I2.lM,?_⟩) hst hpl
 exact zG (us:=.ref a::us) (vs:=.ref a::vs) F hr hb hd hx I2 (.cons rfl r) q2
theorem xH {pl:Sem Bool} (he:PE X o ta) (c:Cls X.K C) (hm:Meth X.K C m f) (F:aL X.prog X.w X.K X.mg X.base CX k f fd ps sp) (hr:fG k X.A) (hb:Binds X.K fd ps ds) (hd:Vals jU ds) (hx:Passes CX X E)
  (ht:eval (.Call (.Attribute o m apos) [] [] pos) X.env=(do
   let ov ← eval o X.env
   standAt apos.atName
   let (f,first) ← holding [ov] (getMethod ov m pl)
   callWith pos f first (backTo pos (starEach [] X.env)) (backToKw pos (keywordEach [] X.env))):=by rfl) :
  PE X (.Call (.Attribute o m apos) [] [] pos) (Ph C m sp jU E ta zE):=by
 intro pins s σ H Q I h
 refine PySem.W.methodCall_KW (pl:=pl) (cN (he pins s σ H _ I h) fun u s1 ⟨x,H1,I1,rx,a,dx,fs,ex,ea,l,q⟩=>?_) ht
 subst ex
 obtain rfl:u=Value.ref a:=rx
 refine rG I1 ea c hm l ?_
 exact PySem.W.callWith_K0 (first:=[.ref a]) I1.lM hm.kp (zG (us:=[.ref a]) (vs:=[.ref a]) F hr hb hd hx I1 (.cons rfl .nil) q)
structure Mk (K:PySem.W.Frag) (C f:Addr):Prop where
 makes:PySem.W.makesIn K C=true
 init:PySem.W.findIn K (.ref C) "__init__"=some (some (.ref f))
 fn:PySem.W.isFn K (.ref f)=true
 kp:PySem.W.keepIn K (.ref C)=true
theorem Hf {pins:List (Addr×Obj)}{σ:St}{H:Hp}{s:Shared}{Q:VK}{us:List Value}{vs:List V} (M:Mk X.K C f) (F:aL X.prog X.w X.K X.mg X.base CX k f fd ps sp) (hr:fG (k+1) X.A) (hb:Binds X.K fd ps ds) (hd:Vals jU ds)
  (hx:Passes CX X E) (I:Inv X pins σ H s) (r:Vals vs us)
  (h:∀ x dx,H x=none→H dx=none→dx≠x→sp (.ref x::(vs++jU)) (upd (upd H dx (.own x)) x (.ins C dx [])) (fun v H2=>v=.non∧Q (.ref x) H2) E) :
  wpAny (model X.prog X.w) X.A (call (.ref C) us) (EP X pins σ Q) X.xe s:=by
 have hq:=h (s.heap.objs.size+1) s.heap.objs.size (I.hok.fresh (Nat.le_succ _)) (I.hok.fresh (Nat.le_refl _)) (Nat.ne_of_lt (Nat.lt_succ_self _))
 have I2:=Inv.made (C:=C) I
 have r2:Vals (V.ref (s.heap.objs.size+1)::(vs++jU)) (Value.ref (s.heap.objs.size+1)::(us++ds)):=.cons rfl (r.append hd)
 have hl:(Value.ref (s.heap.objs.size+1)::us++ds).length=ps.length:=by
  have e:=r2.length
  rw [F.len _ _ _ _ hq] at e
  exact e.symm
 refine wpAny_call (xG (f:=f) I.lM M.makes M.init (beq_iff_eq.mp M.fn) (codeAny_mono (F.run _ X.stack _ _ ⟨Value.ref (s.heap.objs.size+1)::us,[]⟩ (Value.ref (s.heap.objs.size+1)::(us++ds)) _ _ E (hr.make C us [])
  (I2.env0.make C us []) (hb _ (Value.ref (s.heap.objs.size+1)::us) I2.lM hl) r2 hq) fun r s' hq'=>?_))
 cases r with
 | error e=>exact hx pins σ _ _ e s' I2 hq'
 | ok fl =>
  cases fl with
  | ret u =>
   obtain ⟨v,H',I3,rv,ev,q3⟩:=I2.after hq'
   subst ev
   exact ⟨rv,⟨V.ref (s.heap.objs.size+1),H',I3,rfl,q3⟩⟩
  | next=>exact False.elim hq'
  | brk=>exact False.elim hq'
  | cont=>exact False.elim hq'
theorem Lf (M:Mk X.K C f) (F:aL X.prog X.w X.K X.mg X.base CX k f fd ps sp) (hr:fG (k+1) X.A) (hg:Gl X x) (hm:X.mg x=some (.ref C)) (hb:Binds X.K fd ps ds) (hd:Vals jU ds) (hx:Passes CX X E)
  (ha:PA X (e::es) t) (hdb:(x==("__debug__" : Str))=false:=by decide) (he:starEach (e::es) X.env=(false,eval e X.env)::starEach es X.env:=by rfl) (hpl:(backTo pos (starEach es X.env)).any (·.1)=false:=by rfl) :
  PE X (.Call (.Name x p) (e::es) [] pos) (W6 C sp jU E t):=by
 intro pins s σ H Q I h
 refine wpAny_Call_Name_kw (jF I hg hm ?_ hdb)
 refine PySem.W.callWith_K (h₀:=X.base) I.ok.mod.kin M.kp (cN (ha pos pins s σ H _ I h) fun us s1 ⟨vs,H1,I1,r,q⟩=>⟨I1.lM,?_⟩) he hpl
 exact Hf M F hr hb hd hx I1 r q
end
section
variable {X:Cx}{CX:wO}{k:Nat}{f C:Addr}{fd:FuncData}{ps ks:List Str}{sp:Sp}{E:XK}{x m:Str}{p pos apos kpos:Pos}{e o:Expr}{es:List Expr}{kws:List Keyword}{te ta:TE}{t tk:TA}{nm:Option Str}
structure KBinds (K:PySem.W.Frag) (fd:FuncData) (ps ks:List Str) (g:List Value→List Value→List Value) (gV:List V→List V→List V):Prop where
 to:∀ (s:Shared) (us ws:List Value),K.In s.heap→(g us ws).length=ps.length→BindsTo s fd ⟨us,ks.zip ws⟩ (ps.zip (g us ws))
 rel:∀ {vs:List V}{us:List Value}{zs:List V}{ws:List Value},Vals vs us→Vals zs ws→Vals (gV vs zs) (g us ws)
variable {g:List Value→List Value→List Value}{gV:List V→List V→List V}
end
structure aZ (N P:List Str) (sc:Scope):Prop where
 kind:sc.kind=.function
 co:sc.isCoroutine=false
 gen:sc.isGenerator=false
 nd:N.Nodup
 pre:N.take P.length=P
 par:∀ x∈P,sc.names.lookup x=some .local∨sc.names.lookup x=some .cell
 RM:∀ y∈sc.names,y.2≠.free
theorem uf {kindOf:Str→Option NameKind}{x:Str}:∀ {binds:List (Str×Value)}{m:Str→Option Value},(∀ v,(x,v)∉binds)→bindL kindOf binds m x=m x
 | [],_,_=>rfl
 | (n,v)::r,m,h=>by
  unfold bindL
  rw [uf fun w hw=>h w (List.mem_cons_of_mem _ hw)]
  split
  ·have:x≠n:=by rintro rfl;exact h v List.mem_cons_self
   simp [this]
  ·rfl
theorem ug {kindOf:Str→Option NameKind}{x:Str}:∀ {binds:List (Str×Value)}{m:Str→Option Value},(∀ v,(x,v)∉binds)→bindC kindOf binds m x=m x
 | [],_,_=>rfl
 | (n,v)::r,m,h=>by
  unfold bindC
  rw [ug fun w hw=>h w (List.mem_cons_of_mem _ hw)]
  split
  ·rfl
  ·have:x≠n:=by rintro rfl;exact h v List.mem_cons_self
   simp [this]
theorem um {kindOf:Str→Option NameKind}{x:Str}{v:Value}:∀ {P:List Str}{vs:List Value}{i:Nat}{m:Str→Option Value},P.Nodup→P[i]?=some x→vs[i]?=some v→kindOf x=some .local →
  bindL kindOf (P.zip vs) m x=some v
 | [],_,_,_,_,h,_,_=>by simp at h
 | _::_,[],_,_,_,_,h,_=>by simp at h
 | p::P,w::vs,0,m,nd,h1,h2,hk=>by
  simp at h1 h2;subst h1;subst h2
  show bindL kindOf ((p,w)::P.zip vs) m p=_
  unfold bindL
  rw [uf fun v hv=>(List.nodup_cons.mp nd).1 (List.of_mem_zip hv).1,if_pos hk]
  simp
 | p::P,w::vs,i+1,m,nd,h1,h2,hk=>by
  show bindL kindOf ((p,w)::P.zip vs) m x=_
  unfold bindL
  exact um (i:=i) (List.nodup_cons.mp nd).2 (by simpa using h1) (by simpa using h2) hk
theorem uq {kindOf:Str→Option NameKind}{x:Str}{v:Value}:∀ {P:List Str}{vs:List Value}{i:Nat}{m:Str→Option Value},P.Nodup→P[i]?=some x→vs[i]?=some v→kindOf x≠some .local →
  bindC kindOf (P.zip vs) m x=some v
 | [],_,_,_,_,h,_,_=>by simp at h
 | _::_,[],_,_,_,_,h,_=>by simp at h
 | p::P,w::vs,0,m,nd,h1,h2,hk=>by
  simp at h1 h2;subst h1;subst h2
  show bindC kindOf ((p,w)::P.zip vs) m p=_
  unfold bindC
  rw [ug fun v hv=>(List.nodup_cons.mp nd).1 (List.of_mem_zip hv).1,if_neg hk]
  simp
 | p::P,w::vs,i+1,m,nd,h1,h2,hk=>by
  show bindC kindOf ((p,w)::P.zip vs) m x=_
  unfold bindC
  exact uq (i:=i) (List.nodup_cons.mp nd).2 (by simpa using h1) (by simpa using h2) hk
def start (N:List Str) (vs:List V):St:=vs.map some++List.replicate (N.length - vs.length) none
def pH (CX:wO) (P:Program) (w:World) (K:PySem.W.Frag) (mg:Str→Option Value) (base:Heap) (N:List Str) (qual:Str) (scope:Scope) (f:Addr) (cd:Value) (A:Around) (outer:List Env) (s:Shared) (H:Hp) (E:XK):Cx where
 prog:=P
 w:=w
 K:=K
 mg:=mg
 base:=base
 A:=A.deeper (envOfC qual scope s.heap.objs.size f cd)
 N:=N
 s₀:=s
 H₀:=H
 env:=envOfC qual scope s.heap.objs.size f cd
 outer:=outer
 stack:=envOfC qual scope s.heap.objs.size f cd::outer
 ex:=[]
 calm:=true
 fn:=fun _=>true
 pn:=[]
 xe:=fun e s'=>wpAny (model P w) (A.deeper (envOfC qual scope s.heap.objs.size f cd)) (leaving (envOfC qual scope s.heap.objs.size f cd) e) (fun _ s''=>CX outer H s E e s'') (fun e' s''=>CX outer H s E e' s'') s'
theorem xJ {sc:Scope}{n:Nat}{x:Str} (h:sc.names.lookup x=some .cell):∃ c,(cellsFrom n sc.names []).lookup x=some c:=by
 have q:=PySem.W.cellsFrom_some sc.names n [] (.inl h)
 exact Option.isSome_iff_exists.mp q
theorem Ei {CX:wO}{P:Program}{w:World}{K:PySem.W.Frag}{mg:Str→Option Value}{base:Heap}{N ps:List Str}{qual:Str}{scope:Scope}{f:Addr}{cd:Value}{A:Around}{outer:List Env}{s s1:Shared}{H:Hp}{E:XK}{us:List Value}{vs:List V}
  (S:aZ N ps scope) (hd:A.handled=none) (e0:zF P w K mg base A outer s H) (hl:vs.length=ps.length) (r:Vals vs us)
  (x:InCallC s s.heap.objs.size (bindL (envOfC qual scope s.heap.objs.size f cd).kindOf (ps.zip us) fun _=>none) (cellsFrom (s.heap.objs.size+1) scope.names []) (bindC (envOfC qual scope s.heap.objs.size f cd).kindOf (ps.zip us) fun _=>none) s1) :
  Inv (pH CX P w K mg base N qual scope f cd A outer s H E) [] (start N vs) H s1:=by
 have hpl:ps.length≤N.length:=by have:=congrArg List.length S.pre;rw [List.length_take] at this;omega
 obtain ⟨h1,tk,rfl,hk⟩:=x.done
 have W7:∀ b:Addr,b∉(pH CX P w K mg base N qual scope f cd A outer s H E).ex:=fun b z=>absurd (show b∈([]:List Addr) from z) (by simp)
 refine ⟨⟨e0.mod,S.kind,rfl,rfl,Nat.le_refl _,fun y z c h1 h2=>?_,fun y hy=>?_,fun y c _ h=>?_,fun _=>hd,Around.frames_deeper e0.frames,.inr ⟨rfl,rfl⟩,fun b z=>absurd z (W7 b),e0.bs,e0.Gs,fun b _ _=>W7 b,fun b z=>absurd z (W7 b),e0.mJ,e0.KZ⟩,
  rfl,e0.bare,Un.kept hk,⟨_,x.toInCall.ns,fun i y v h1 h2 h3=>?_⟩,fun y c h=>⟨_,x.cell y c h⟩,e0.hok.fresh (Nat.le_refl _),fun y c h=>?_,fun p hp=>absurd (show p∈([]:List (Addr×Obj)) from hp) (by simp),e0.hok.kept hk,?_⟩
 ·exact name_of_addr x.apart (PySem.mem_of_lookup h1) (PySem.mem_of_lookup h2)
 ·have hy:scope.names.lookup y=some .cell∨scope.names.lookup y=some .free:=hy
  rcases hy with hy | hy
  ·exact xJ hy
  ·exact absurd rfl (S.RM _ (PySem.mem_of_lookup hy))
 ·exact Nat.le_of_lt (x.above y c (PySem.mem_of_lookup h))
 ·have hi:i<vs.length:=by
   unfold start at h2
   by_cases hi:i<vs.length
   ·exact hi
   ·rw [List.getElem?_append_right (by simpa using hi)] at h2
    rw [List.getElem?_replicate] at h2
    split at h2 <;> cases h2
  have ha:vs[i]?=some v:=by
   unfold start at h2
   rw [List.getElem?_append_left (by simpa using hi),List.getElem?_map] at h2
   cases e:vs[i]? with
   | none=>rw [e] at h2;cases h2
   | some a=>rw [e] at h2;cases h2;rfl
  obtain ⟨u,hu,rv⟩:=r.get ha
  have hp:ps[i]?=some y:=by
   rw [← S.pre,List.getElem?_take_of_lt (by omega)];exact h1
  have ndP:ps.Nodup:=by rw [← S.pre];exact S.nd.sublist (List.take_sublist _ _)
  refine ⟨u,rv,?_⟩
  rcases S.par y (List.mem_of_getElem? hp) with k | k
  ·exact .inl ⟨k,um ndP hp hu k⟩
  ·obtain ⟨c,e⟩:=xJ (n:=s.heap.objs.size+1) k
   refine .inr ⟨.inl k,c,e,?_⟩
   have q:=x.cell y c e
   rw [uq ndP hp hu (by show scope.names.lookup y≠_;rw [k];decide)] at q
   exact q
 ·exact e0.hok.fresh (Nat.le_of_lt (x.above y c (PySem.mem_of_lookup h)))
 ·unfold start
  show _=N.length
  rw [List.length_append,List.length_map,List.length_replicate]
  omega
theorem jV {CX:wO}{P:Program}{w:World}{K:PySem.W.Frag}{mg:Str→Option Value}{base:Heap}{k:Nat}{f:Addr}{name qual:Str}{params:Arguments}{body:List Stmt}{scope:Scope}{dV kV doc pm cdv ct oc:Value}{an od:Option Addr}
  {osl:Array (Option Value)}{N ps:List Str}{sp:Sp} (lk:K.lookup f=some ⟨oc,od,.func (PySem.W.fnOf name qual params body scope dV kV doc pm an cdv ct),osl⟩) (hcd:PySem.W.codeIn K cdv qual=true) (S:aZ N ps scope)
  (len:∀ vs H Q E,sp vs H Q E→vs.length=ps.length)
  (hbody:∀ (A:Around) (outer:List Env) (s:Shared) (H:Hp) (vs:List V) (Q:VK) (E:XK),fG k (A.deeper (envOfC qual scope s.heap.objs.size f cdv))→sp vs H Q E →
   ∃ t,wX (pH CX P w K mg base N qual scope f cdv A outer s H E) body t∧t { nx:=fun _ H'=>Q .non H',rt:=Q } (start N vs) H) :
  aL P w K mg base CX (k+1) f (PySem.W.fnOf name qual params body scope dV kV doc pm an cdv ct) ps sp:=by
 refine ⟨len,fun A outer s H args us vs Q E hr e0 hb r hsp=>?_⟩
 have hl:=len _ _ _ _ hsp
 have KX:K.In s.heap:=e0.mod.kin.keeps fun b o e=>(e0.bs b o e).1
 have lim:s.heap.NoLimit:=e0.mod.nolimit.keeps fun b o e=>(e0.bs b o e).1
 have hkind:∀ y∈ps.zip us,scope.names.lookup y.1=some .local∨(scope.names.lookup y.1=some .cell∧((cellsFrom (s.heap.objs.size+1) scope.names []).lookup y.1).isSome=true):=fun ⟨n,v⟩ hy=>by
  rcases S.par n (List.of_mem_zip hy).1 with q | q
  ·exact .inl q
  ·exact .inr ⟨q,PySem.W.cellsFrom_some _ _ _ (.inl q)⟩
 refine codeAny_call_function hr.depth (KX _ _ lk) rfl S.co S.gen rfl (PySem.W.codeRec_of KX hcd) (hb _ _ _ _ ?_)
 refine wpAny_newFunctionEnv_cells S.kind hkind fun env he s1 x=>?_
 subst he
 refine ⟨lim.keeps x.toInCall.keep,codeAny_func ?_⟩
 obtain ⟨t,ht,hq⟩:=hbody A outer s H vs Q E (hr.deeper _) hsp
 have I:Inv (pH CX P w K mg base N qual scope f cdv A outer s H E) [] (start N vs) H s1:=Ei S hr.hd e0 hl r x
 refine wpAny_mono (ht [] s1 (start N vs) H _ I hq) (fun fl s' hs=>?_) fun e s' hs=>hs
 have fin:∀ {σ':St}{H':Hp}{v:V}{u:Value},Inv (pH CX P w K mg base N qual scope f cdv A outer s H E) [] σ' H' s'→RelV v u→Q v H'→CE outer P w H s Q u s' :=
  fun {σ' H' v u} J rv q=>⟨v,H',J.os,J.bare,J.base,J.hok,rv,q⟩
 cases fl with
 | ret u =>
  obtain ⟨v,σ',H',J,rv,q⟩:=hs
  exact fin J rv q
 | next =>
  obtain ⟨σ',H',J,q⟩:=hs
  exact fin (v:=V.non) (u:=Value.none) J rfl q
 | brk =>
  obtain ⟨_,_,_,q⟩:=hs
  exact False.elim q
 | cont =>
  obtain ⟨_,_,_,q⟩:=hs
  exact False.elim q
end L2
namespace L2
open PySem PySem.Spec PyProof.Rows
section
variable {X:Cx}{x:Str}{p pos:Pos}{e:Expr}{es:List Expr}{t:TA}{id T:String}{r:List V→Hp→VK→Prop}
def tCB (r:List V→Hp→VK→Prop) (t:TA):TE:=fun σ H Q=>t σ H fun vs H1=>r vs H1 Q
theorem aP (hc:fM X (.builtin id) r) (hg:Gl X x) (hm:X.mg x=none) (hv:bootBuiltins x=some (.builtin id)) (ha:PA X (e::es) t) (hn:x≠"__name__":=by decide) (hdb:(x==("__debug__" : Str))=false:=by decide)
  (he:starEach (e::es) X.env=(false,eval e X.env)::starEach es X.env:=by rfl) (hpl:(backTo pos (starEach es X.env)).any (·.1)=false:=by rfl):PE X (.Call (.Name x p) (e::es) [] pos) (tCB r t):=by
 intro pins s σ H Q I h
 refine wpAny_Call_Name_kw (pB I hg hm hv ?_ hn hdb)
 exact PyProof.Rows.callWith_builtin1 (cN (ha pos pins s σ H _ I h) fun us s1 ⟨vs,H1,I1,r1,q1⟩=>hc pins s1 σ H1 vs us Q I1 r1 q1) he hpl
theorem iW (hc:fM X (.type T) r) (hg:Gl X x) (hm:X.mg x=none) (hv:bootBuiltins x=some (.type T)) (ha:PA X (e::es) t) (hn:x≠"__name__":=by decide) (hdb:(x==("__debug__" : Str))=false:=by decide)
  (he:starEach (e::es) X.env=(false,eval e X.env)::starEach es X.env:=by rfl) (hpl:(backTo pos (starEach es X.env)).any (·.1)=false:=by rfl):PE X (.Call (.Name x p) (e::es) [] pos) (tCB r t):=by
 intro pins s σ H Q I h
 refine wpAny_Call_Name_kw (pB I hg hm hv ?_ hn hdb)
 exact PyProof.Rows.callWith_type1 (cN (ha pos pins s σ H _ I h) fun us s1 ⟨vs,H1,I1,r1,q1⟩=>hc pins s1 σ H1 vs us Q I1 r1 q1) he hpl
end
end L2
namespace HT
open PySem PyProof.Rows
section
open PySem.SeqAt
open PySem.AutoSeq1 (wpAny_loadPart')
open PySem.MeetsSeq PySem.MeetsSeq2 PySem.MeetsSeq3
end
section
variable {prog:Program}{w:World}{A:Around}{E:Value→Shared→Prop}{s:Shared}
theorem Lg {t b:Addr}{vs ws:List Value}{Q:Value→Shared→Prop} (ht:IsTup s.heap t vs.toArray) (hb:IsTup s.heap b ws.toArray) (hv:vs≠[])
  (h1:ws=[]→Q (.ref t) s) (h2:ws≠[]→Q (.ref s.heap.objs.size) { s with heap:=s.heap.push { cls:=.type "tuple",data:=.seq (vs++ws).toArray } })
  (hsz:vs.length+ws.length≤sizeLine):wpAny (model prog w) A (binaryOp .Add (.ref t) (.ref b)) Q E s:=by
 obtain ⟨⟨cls,dd,data,sl⟩,ho,hc,n,hd⟩:=id ht
 obtain ⟨⟨cls2,dd2,data2,sl2⟩,ho2,hc2,n2,hd2⟩:=id hb
 simp only at hc hd hc2 hd2
 subst hc hd hc2 hd2
 have e:vs.toArray++ws.toArray=(vs++ws).toArray:=by simp
 by_cases hw:ws=[]
 ·exact concat_meets ⟨_,ho,rfl⟩ ⟨_,ho2,rfl⟩ noFill_tuple_add seq_tuple_add PySem.F.slot_tuple_add PySem.F.entry_tuple_add (PySem.F.args_tuple_add_2 _ _)
   (tuple_addW1 t b vs.toArray ws.toArray n n2 dd dd2 sl sl2 (by simpa using hv) (by simp [hw])) ⟨ho,ho2,h1 hw⟩
 ·refine concat_meets ⟨_,ho,rfl⟩ ⟨_,ho2,rfl⟩ noFill_tuple_add seq_tuple_add PySem.F.slot_tuple_add PySem.F.entry_tuple_add (PySem.F.args_tuple_add_2 _ _)
   (tuple_addW2 t b vs.toArray ws.toArray n n2 dd dd2 sl sl2 (by simpa using hv) (by simpa using hw) (by rw [List.size_toArray,List.size_toArray];exact hsz)) ⟨ho,ho2,?_⟩
  rw [e]
  exact h2 hw
def eY (n d:Nat):Option Int→Nat
 | none=>d
 | some v=>if v<0 then (v+(n:Int)).toNat else min v.toNat n
theorem nR (n d k:Nat):eY n d (some (k:Int))=min k n:=by
 show (if (k:Int)<0 then ((k:Int)+(n:Int)).toNat else min (k:Int).toNat n)=min k n
 rw [if_neg (by omega),Int.toNat_natCast]
theorem Hg (n d:Nat) (hd:d≤n) (o:Option Int):eY n d o≤n:=by
 cases o with
 | none=>exact hd
 | some v =>
  show (if v<0 then (v+(n:Int)).toNat else min v.toNat n)≤n
  by_cases hv:v<0
  ·rw [if_pos hv];omega
  ·rw [if_neg hv];exact Nat.min_le_right _ _
theorem Ce (v:Int) (n d:Nat):(if v<0 then max (v+(n:Int)) 0 else min v (n:Int))=((eY n d (some v):Nat):Int):=by
 show (if v<0 then max (v+(n:Int)) 0 else min v (n:Int))=(((if v<0 then (v+(n:Int)).toNat else min v.toNat n):Nat):Int)
 by_cases hv:v<0
 ·simp only [if_pos hv];omega
 ·simp only [if_neg hv];omega
theorem zH (lo hi:Option Int) (n:Nat):Builtin.Slice.sliceAdjust lo hi 1 (n:Int)=(((eY n 0 lo:Nat):Int),((eY n n hi:Nat):Int)):=by
 have h1:¬ ((1:Int)<0):=by omega
 unfold Builtin.Slice.sliceAdjust
 simp only [h1,if_false]
 refine Prod.ext ?_ ?_
 ·cases lo with
  | none=>rfl
  | some v=>exact Ce v n 0
 ·cases hi with
  | none=>rfl
  | some v=>exact Ce v n n
theorem zJ (i j:Nat):Builtin.Slice.slicePlaces (i:Int) (j:Int) 1=j - i:=by
 unfold Builtin.Slice.slicePlaces
 have h1:(1:Int) > 0:=by omega
 simp only [h1,if_true,Int.ediv_one]
 split <;> omega
theorem rK {v:Value}{o:Option Int}{Q:Option Int→Shared→Prop} (p:IsPart v o) (h:Q o s):wpAny (model prog w) A (Builtin.Slice.slicePartIndex v) Q E s:=by
 cases p with
 | none=>exact slicePart_none h
 | int i t=>exact slicePart_int h
theorem pI {sl:Addr}{vl vu:Value}{lo hi:Option Int}{n:Nat}{Q:Int×Int×Nat→Shared→Prop} (hs:s.heap.IsSliceOf sl vl vu .none) (pl:IsPart vl lo) (pu:IsPart vu hi)
  (h:Q (((eY n 0 lo:Nat):Int),1,eY n n hi - eY n 0 lo) s):wpAny (model prog w) A (Builtin.Slice.sliceApplied (.ref sl) (pure (n:Int))) Q E s:=by
 obtain ⟨os,hos,hcs,hds⟩:=id hs
 unfold Builtin.Slice.sliceApplied Builtin.Slice.sliceFields
 refine wpAny_bind (wpAny_bind (wpAny_field hos hds (x:=vl) rfl (wpAny_bind (wpAny_field hos hds (x:=vu) rfl (wpAny_bind (wpAny_field hos hds (x:=.none) rfl (wpAny_pure ?_)))))))
 refine wpAny_bind (slicePart_none ?_)
 show wpAny _ _ (if ((1:Int)==0)=true then _ else _) _ _ s
 rw [if_neg (by decide)]
 refine wpAny_bind (rK pl (wpAny_bind (rK pu (wpAny_bind (wpAny_pure ?_)))))
 show wpAny _ _ (match Builtin.Slice.sliceAdjust lo hi 1 (n:Int) with | (lo,hi)=>pure (lo,(1:Int),Builtin.Slice.slicePlaces lo hi 1)) _ _ s
 rw [zH lo hi n]
 show wpAny _ _ (pure (((eY n 0 lo:Nat):Int),(1:Int),Builtin.Slice.slicePlaces ((eY n 0 lo:Nat):Int) ((eY n n hi:Nat):Int) 1)) _ _ s
 rw [zJ]
 exact wpAny_pure h
theorem Hh (xs:Array Value) (i k:Nat):((List.range k).filterMap fun (m:Nat)=>xs[((i:Int)+(m:Int) * 1).toNat]?).toArray=((xs.toList.drop i).take k).toArray:=by
 have e:(fun (m:Nat)=>xs[((i:Int)+(m:Int) * 1).toNat]?)=fun m=>xs[i+m]?:=by
  funext m
  have:((i:Int)+(m:Int) * 1).toNat=i+m:=by omega
  rw [this]
 rw [e]
 have:=pick_run xs i k
 rw [List.filterMap_map] at this
 have e2:((fun x=>xs[x]?)∘fun x=>i+x)=fun m=>xs[i+m]?:=rfl
 rw [e2] at this
 rw [this]
theorem nT {t sl:Addr}{items:Array Value}{vl vu:Value}{lo hi:Option Int}{Q:Value→Shared→Prop} (ht:IsTup s.heap t items) (hs:s.heap.IsSliceOf sl vl vu .none) (pl:IsPart vl lo) (pu:IsPart vu hi)
  (hw:¬ (eY items.size 0 lo=0∧eY items.size items.size hi=items.size))
  (h:Q (.ref s.heap.objs.size) { s with heap:=s.heap.push { cls:=.type "tuple",data:=.seq ((items.toList.drop (eY items.size 0 lo)).take (eY items.size items.size hi - eY items.size 0 lo)).toArray } })
  (hsz:items.size≤sizeLine):wpAny (model prog w) A (getItem (.ref t) (.ref sl)) Q E s:=by
 have Cg:sizeOk (.seq ((items.toList.drop (eY items.size 0 lo)).take (eY items.size items.size hi - eY items.size 0 lo)).toArray):=by
  show ((items.toList.drop (eY items.size 0 lo)).take (eY items.size items.size hi - eY items.size 0 lo)).toArray.size≤sizeLine
  rw [List.size_toArray,List.length_take,List.length_drop,Array.length_toList]
  omega
 have hj:eY items.size items.size hi≤items.size:=Hg _ _ (Nat.le_refl _) hi
 obtain ⟨os,hos,hcs,hds⟩:=id hs
 have hTs:s.TypeIs (.ref sl) "slice":=⟨os,hos,hcs⟩
 unfold getItem
 try with_reducible refine wpAny_holding ?_
 first | refine wpAny_bind (wpAny_pure ?_) | skip
 refine wpAny_bind (wpAny_sequenceKey ht.typeIs (by decide) ?_)
 refine wpAny_bind (wpAny_callSpecial?_slot (name:=Str.ofString "__getitem__") ht.typeIs PyProof.Rows.slot_tuple_getitem
  (wpAny_call_entry PyProof.Rows.slot_tuple_getitem ht.typeIs entry_tuple_getitem ?_ (args_tuple_getitem _ _)))
 show wpAny _ _ (Builtin.Tuple.tupleItemsOf (.ref t) >>= _) _ _ s
 refine wpAny_bind (tupleItemsOf_ ht ?_)
 refine wpAny_bind (wpAny_typeOf hTs ?_)
 rw [if_pos (by decide)]
 refine wpAny_bind (pI hs pl pu ?_)
 have hno:¬ ((((eY items.size 0 lo:Nat):Int)==0&&(1:Int)==1&&(eY items.size items.size hi - eY items.size 0 lo)==items.size)=true):=by
  intro q
  rw [Bool.and_eq_true,Bool.and_eq_true] at q
  have q1:((eY items.size 0 lo:Nat):Int)=0:=eq_of_beq q.1.1
  have q2:eY items.size items.size hi - eY items.size 0 lo=items.size:=eq_of_beq q.2
  exact hw ⟨by omega,by omega⟩
 show wpAny _ _ (if (((eY items.size 0 lo:Nat):Int)==0&&(1:Int)==1&&(eY items.size items.size hi - eY items.size 0 lo)==items.size)=true then _ else _) _ _ s
 rw [if_neg hno,Hh]
 first
  | exact wpAny_bind (m:=Builtin.Tuple.tupleExact _) (wpAny_newObj_type (wpAny_pure ⟨_,rfl,wpAny_pure h⟩) Cg)
  | exact wpAny_bind (m:=Builtin.Tuple.tupleExact _) (wpAny_newObj_type (wpAny_bind (wpAny_pure (wpAny_pure ⟨_,rfl,wpAny_pure h⟩))) Cg)
  | exact wpAny_bind (wpAny_bind (m:=Builtin.Tuple.tupleExact _) (wpAny_newObj_type (wpAny_pure (wpAny_pure ⟨_,rfl,wpAny_pure h⟩)) Cg))
  | exact wpAny_bind (wpAny_bind (m:=Builtin.Tuple.tupleExact _) (wpAny_newObj_type (wpAny_pure ⟨_,rfl,wpAny_pure h⟩) Cg))
end
end HT
namespace L2
open PySem PySem.Spec PyProof.Rows
abbrev TO:=St→Hp→(Option Int→Hp→Prop)→Prop
def PO (X:Cx) (e:Option Expr) (t:TO):Prop :=
 ∀ (pins:List (Addr×Obj)) (s:Shared) (σ:St) (H:Hp) (Q:Option Int→Hp→Prop),Inv X pins σ H s→t σ H Q →
  wpAny (model X.prog X.w) X.A (evalPart e X.env) (fun u s'=>∃ o H',Inv X pins σ H' s'∧IsPart u o∧Q o H') X.xe s
def Lh:TO:=fun _ H Q=>Q none H
def W8 (t:TE):TO:=fun σ H Q=>t σ H fun x H1=>∃ i,x=.int i∧Q (some i) H1
section
variable {X:Cx}{e:Expr}{te:TE}{lo hi:Option Expr}{tl th:TO}{pos p2:Pos}
theorem jJ:PO X none Lh:=by
 intro pins s σ H Q I h
 rw [evalPart_none]
 exact wpAny_pure ⟨none,H,I,.none,h⟩
theorem dI (h:PE X e te):PO X (some e) (W8 te):=by
 intro pins s σ H Q I hw
 rw [evalPart_some]
 refine cN (h pins s σ H _ I hw) fun u s1 ⟨x,H1,I1,r1,q1⟩=>?_
 obtain ⟨i,rfl,q⟩:=q1
 obtain ⟨t,rfl⟩:=r1
 exact ⟨some i,H1,I1,.int i t,q⟩
def SlR (X:Cx) (r:V→Option Int→Option Int→Hp→VK→Prop):Prop :=
 ∀ (pins:List (Addr×Obj)) (s:Shared) (σ:St) (H:Hp) (x:V) (v vl vu:Value) (lo hi:Option Int) (sl:Addr) (Q:VK),Inv X pins σ H s→RelV x v→s.heap.IsSliceOf sl vl vu .none→IsPart vl lo→IsPart vu hi→r x lo hi H Q →
  ∃ T id,typeLookup (.type T) "__getitem__"=pure (some (.builtin id))∧s.TypeIs v T∧wpAny (model X.prog X.w) X.A (getItem v (.ref sl)) (EP X pins σ Q) X.xe s
def tSl (r:V→Option Int→Option Int→Hp→VK→Prop) (te:TE) (tl th:TO):TE:=fun σ H Q=>te σ H fun x H1=>tl σ H1 fun l H2=>th σ H2 fun u H3=>r x l u H3 Q
theorem fO {r:V→Option Int→Option Int→Hp→VK→Prop} (hr:SlR X r) (he:PE X e te) (hl:PO X lo tl) (hu:PO X hi th):PE X (.Subscript e (.Slice lo hi none p2) pos) (tSl r te tl th):=by
 intro pins s σ H Q I h
 refine Subscript_ (cN (he pins s σ H _ I h) fun v s1 ⟨x,H1,I1,r1,q1⟩=>?_)
 refine wpAny_Slice (cN (hl pins s1 σ H1 _ I1 q1) fun vl s2 ⟨l,H2,I2,pl,q2⟩=>cN (hu pins s2 σ H2 _ I2 q2) fun vu s3 ⟨u,H3,I3,pu,q3⟩=>?_)
 rw [evalPart_none]
 refine wpAny_pure ?_
 have I4:Inv X pins σ H3 { s3 with heap:=s3.heap.push { cls:=.type "slice",data:=.fields #[vl,vu,.none] } }:=I3.kept (t':=s3.toks) fun b ob q=>Heap.get?_push_of_some _ q
 obtain ⟨T,id,hT,ht,hg⟩:=hr pins { s3 with heap:=s3.heap.push { cls:=.type "slice",data:=.fields #[vl,vu,.none] } } σ H3 x v vl vu l u s3.heap.objs.size Q I4 r1 (Heap.IsSliceOf.new ..) pl pu q3
 show wpAny (model X.prog X.w) X.A (subscriptTail e (.Slice lo hi none p2) v (.ref s3.heap.objs.size)) (EP X pins σ Q) X.xe { s3 with heap:=s3.heap.push { cls:=.type "slice",data:=.fields #[vl,vu,.none] } }
 exact tail_any (ops:=[.ref s3.heap.objs.size,v]) ht hT hg (by with_unfolding_all rfl)
def iI (xs:List V) (lo hi:Option Int):List V:=(xs.drop (HT.eY xs.length 0 lo)).take (HT.eY xs.length xs.length hi - HT.eY xs.length 0 lo)
theorem jf (xs:List V) (lo hi:Option Int):(iI xs lo hi).length≤xs.length:=by
 unfold iI
 rw [List.length_take,List.length_drop]
 omega
def rSlT (K:PySem.W.Frag):V→Option Int→Option Int→Hp→VK→Prop:=fun x lo hi H Q=>∃ a xs,x=.ref a∧bM K H a xs ∧
 ¬ (HT.eY xs.length 0 lo=0∧HT.eY xs.length xs.length hi=xs.length)∧∀ p,H p=none→Q (.ref p) (upd H p (.tup (iI xs lo hi)))
theorem Hi:SlR X (rSlT X.K):=by
 intro pins s σ H x v vl vu lo hi sl Q I rx hs pl pu h
 obtain ⟨a,xs,rfl,hx,hw,q⟩:=h
 cases rx
 obtain ⟨its,r,ht,hz⟩:=I.tuple hx
 have hlen:its.toArray.size=xs.length:=by rw [List.size_toArray];exact r.length.symm
 refine ⟨"tuple",_,PyProof.Rows.slot_tuple_getitem.lookup,ht.typeIs,?_⟩
 refine HT.nT ht hs pl pu (by rw [hlen];exact hw) ?_ (by rw [hlen];exact hz)
 rw [hlen]
 refine ⟨.ref s.heap.objs.size,_,I.laid (t':=s.toks) (o:=.tup (iI xs lo hi)) (fun b ob q=>Heap.get?_push_of_some _ q) (Nat.le_refl _) ?_,rfl,q _ (I.hok.fresh (Nat.le_refl _))⟩
 exact ⟨Nat.le_trans (jf xs lo hi) hz,_,(r.drop (HT.eY xs.length 0 lo)).take (HT.eY xs.length xs.length hi - HT.eY xs.length 0 lo),IsTup.new _ _⟩
def W9 (K:PySem.W.Frag):R2:=fun x y H Q=>∃ a b xs ys,x=.ref a∧y=.ref b∧bM K H a xs∧bM K H b ys∧xs≠[]∧xs.length+ys.length≤sizeLine ∧
 (ys=[]→Q (.ref a) H)∧(ys≠[]→∀ p,H p=none→Q (.ref p) (upd H p (.tup (xs++ys))))
theorem Vals.vK {xs:List V}{us:List Value} (r:Vals xs us):us=[]↔xs=[]:=by
 cases r with
 | nil=>simp
 | cons _ _=>simp
theorem vL:mK X (binaryOp .Add) (W9 X.K):=by
 intro pins s σ H x y v u Q I rx ry h
 obtain ⟨a,b,xs,ys,rfl,rfl,ha,hb,hx,hz,q1,q2⟩:=h
 cases rx
 cases ry
 obtain ⟨its,r1,p1,_⟩:=I.tuple ha
 obtain ⟨its2,r2,p2,_⟩:=I.tuple hb
 refine HT.Lg p1 p2 (fun z=>hx (r1.vK.mp z)) (fun z=>⟨.ref a,H,I,rfl,q1 (r2.vK.mp z)⟩) (fun z=>?_) (by rw [← r1.length,← r2.length];exact hz)
 refine ⟨.ref s.heap.objs.size,_,I.laid (t':=s.toks) (o:=.tup (xs++ys)) (fun b ob q=>Heap.get?_push_of_some _ q) (Nat.le_refl _) ?_,rfl,q2 (fun w=>z (r2.vK.mpr w)) _ (I.hok.fresh (Nat.le_refl _))⟩
 exact ⟨by rw [List.length_append];exact hz,_,r1.append r2,IsTup.new _ _⟩
end
end L2
namespace L2
open PySem PySem.Spec PyProof.Rows
def Pj (n:Nat) (i:Int):Option Nat:=if 0≤i then (if i<n then some i.toNat else none) else if -(n:Int)≤i then some (i+n).toNat else none
def yX {α:Type} (xs:List α) (i:Int):Option α:=(Pj xs.length i).bind fun j=>xs[j]?
theorem Li {n:Nat}{i:Int}{j:Nat} (h:Pj n i=some j):seqIndex? i n=some j∧j<n∧-(n:Int)≤i∧i<n:=by
 unfold Pj at h
 by_cases h0:0≤i
 ·rw [if_pos h0] at h
  by_cases h1:i<n
  ·rw [if_pos h1] at h
   have e:i.toNat=j:=Option.some.inj h
   exact ⟨by rw [seqIndex_of h0 h1,e],by omega,by omega,h1⟩
  ·rw [if_neg h1] at h;cases h
 ·rw [if_neg h0] at h
  by_cases h1:-(n:Int)≤i
  ·rw [if_pos h1] at h
   have e:(i+n).toNat=j:=Option.some.inj h
   exact ⟨by rw [seqIndex_neg (by omega) h1,e],by omega,h1,by omega⟩
  ·rw [if_neg h1] at h;cases h
theorem vM {α:Type}{xs:List α}{i:Int}{v:α} (h:yX xs i=some v):∃ j,seqIndex? i xs.length=some j∧xs[j]?=some v∧j<xs.length∧-(xs.length:Int)≤i∧i<xs.length:=by
 unfold yX at h
 cases e:Pj xs.length i with
 | none=>rw [e] at h;cases h
 | some j =>
  rw [e] at h
  obtain ⟨h1,h2,h3,h4⟩:=Li e
  exact ⟨j,h1,h,h2,h3,h4⟩
theorem aF {α:Type}{xs:List α}{j:Nat}{v:α} (h:xs[j]?=some v):yX xs (j:Int)=some v:=by
 have hj:j<xs.length:=(List.getElem?_eq_some_iff.mp h).1
 have e:Pj xs.length (j:Int)=some j:=by
  unfold Pj
  rw [if_pos (by omega),if_pos (by omega)];simp
 unfold yX;rw [e];exact h
theorem Hj {α:Type} (xs:List α) (v:α):yX (xs++[v]) (-1)=some v:=by
 have hl:(xs++[v]).length=xs.length+1:=by simp
 have e:Pj (xs++[v]).length (-1)=some xs.length:=by
  unfold Pj
  rw [hl,if_neg (by decide),if_pos (by omega)]
  congr 1
  omega
 unfold yX
 rw [e]
 show (xs++[v])[xs.length]?=some v
 simp
def Lj (b:Expr):Prop:=∀ o i,subscripted b false o i=operate [o,i] (getItem o i)
def Vk (X:Cx) (r:R2):Prop :=
 ∀ (value slice:Expr) (pins:List (Addr×Obj)) (s:Shared) (σ:St) (H:Hp) (x y:V) (v u:Value) (Q:VK),Inv X pins σ H s→RelV x v→RelV y u→r x y H Q →
  subscripted slice false v u=operate [v,u] (getItem v u)→wpAny (model X.prog X.w) X.A (subscriptTail value slice v u) (EP X pins σ Q) X.xe s
def MtR (X:Cx) (id:String) (r:V→List V→Hp→VK→Prop):Prop :=
 ∀ (pins:List (Addr×Obj)) (s:Shared) (σ:St) (H:Hp) (x:V) (xs:List V) (v:Value) (us:List Value) (Q:VK),Inv X pins σ H s→RelV x v→Vals xs us→r x xs H Q →
  wpAny (model X.prog X.w) X.A (call (.builtin id) (v::us)) (EP X pins σ Q) X.xe s
section
variable {X:Cx}{a b:Expr}{ta tb:TE}{pos:Pos}
theorem aK {r:R2} (hr:Vk X r) (ha:PE X a ta) (hb:PE X b tb) (hs:Lj b):PE X (.Subscript a b pos) (tOp r ta tb):=by
 intro pins s σ H Q I h
 exact Subscript_ (RB ha hb I h fun v u s2 x y H2 I2 rx ry q=>hr a b pins s2 σ H2 x y v u Q I2 rx ry q (hs _ _))
def Wa (K:PySem.W.Frag):R2:=fun x y H Q=>∃ p xs i v,x=.ref p∧y=.int i∧bR K H p xs∧yX xs i=some v∧Q v H
def rIxT (K:PySem.W.Frag):R2:=fun x y H Q=>∃ p xs i v,x=.ref p∧y=.int i∧bM K H p xs∧yX xs i=some v∧Q v H
def rIxS:R2:=fun x y H Q=>∃ z i c,x=.str z∧y=.int i∧z.length≤sizeLine∧yX z.cps.toList i=some c∧Q (.str ⟨#[c]⟩) H
theorem aU:Vk X (Wa X.K):=by
 intro value slice pins s σ H x y v u Q I rx ry h hs
 obtain ⟨p,xs,i,z,rfl,rfl,hq,he,q⟩:=h
 cases rx
 obtain ⟨t,rfl⟩:=ry
 obtain ⟨its,r,pl,hz⟩:=I.list hq
 obtain ⟨j,h1,h2,h3,h4,h5⟩:=vM he
 obtain ⟨w,ew,cD⟩:=r.get h2
 have hl:=r.length
 have hn:=rE
 have fin:EP X pins σ Q w s:=⟨z,H,I,cD,q⟩
 by_cases h0:0≤i
 ·have hj:i.toNat=j:=by
   rw [seqIndex_of h0 h5] at h1
   exact Option.some.inj h1
  exact item_listR pl.isList h0 (by omega) (by rw [hj];simpa using ew) fin hs
 ·have hj:(i+(its.toArray.size:Int)).toNat=j:=by
   rw [seqIndex_neg (by omega) h4] at h1
   rw [List.size_toArray,← hl]
   exact Option.some.inj h1
  exact subscriptTail_builtinR (x:=w) pl.isList.typeIs slot_list_getitem.lookup
   (wpAny_getItem_list_neg (Q:=fun r s'=>r=w∧EP X pins σ Q r s') pl.isList (by omega) (by rw [List.size_toArray] <;> omega) (by omega) (by rw [hj];simpa using ew) ⟨rfl,fin⟩) hs
theorem aR:Vk X (rIxT X.K):=by
 intro value slice pins s σ H x y v u Q I rx ry h hs
 obtain ⟨p,xs,i,z,rfl,rfl,hq,he,q⟩:=h
 cases rx
 obtain ⟨t,rfl⟩:=ry
 obtain ⟨its,r,pl,hz⟩:=I.tuple hq
 obtain ⟨j,h1,h2,h3,h4,h5⟩:=vM he
 obtain ⟨w,ew,cD⟩:=r.get h2
 have hl:=r.length
 have hn:=rE
 have fin:EP X pins σ Q w s:=⟨z,H,I,cD,q⟩
 exact subscriptTail_builtinR (x:=w) pl.typeIs slot_tuple_getitem.lookup
  (getItem_tuple (j:=j) (Q:=fun r s'=>r=w∧EP X pins σ Q r s') pl (by omega) (by omega) (by rw [List.size_toArray,← hl];exact h1) (by simpa using ew) ⟨rfl,fin⟩) hs
theorem Hl:Vk X rIxS:=by
 intro value slice pins s σ H x y v u Q I rx ry h hs
 obtain ⟨z,i,c,rfl,rfl,hz,he,q⟩:=h
 obtain ⟨t,rfl⟩:=rx
 obtain ⟨t',rfl⟩:=ry
 obtain ⟨j,h1,h2,h3,h4,h5⟩:=vM he
 have hl:z.cps.toList.length=z.length:=by simp [Str.length]
 rw [hl] at h1 h4 h5
 have hn:=rE
 exact tail_any (typeIs_str s z t) slot_str_getitem.lookup (getItem_str (c:=c) (by
  have e1:decide (i < -(2 ^ 63:Int))=false:=decide_eq_false (by omega)
  have e2:decide (i≥2 ^ 63)=false:=decide_eq_false (by omega)
  rw [e1,e2,Bool.or_false]) (by rw [h1];simpa using h2) ⟨.str ⟨#[c]⟩,H,I.tok _,⟨_,rfl⟩,q⟩) hs
theorem vN (lo hi:Option Int) (n:Nat):(sliceBounds lo hi none n).1=((HT.eY n 0 lo:Nat):Int)∧(sliceBounds lo hi none n).2.1=((HT.eY n n hi:Nat):Int)∧(sliceBounds lo hi none n).2.2=1:=by
 refine ⟨?_,?_,rfl⟩
 ·cases lo with
  | none=>simp [sliceBounds,HT.eY]
  | some i =>
   simp only [sliceBounds,HT.eY,Option.getD_none,show (1:Int) > 0 by decide,if_true]
   by_cases h:i<0
   ·simp only [h,if_true] <;> omega
   ·simp only [h,if_false] <;> omega
 ·cases hi with
  | none=>simp [sliceBounds,HT.eY]
  | some i =>
   simp only [sliceBounds,HT.eY,Option.getD_none,show (1:Int) > 0 by decide,if_true]
   by_cases h:i<0
   ·simp only [h,if_true] <;> omega
   ·simp only [h,if_false] <;> omega
theorem tU (its:List Value) (lo hi:Option Int):slicePick its.toArray lo hi none=((its.drop (HT.eY its.length 0 lo)).take (HT.eY its.length its.length hi - HT.eY its.length 0 lo)).toArray:=by
 obtain ⟨h1,h2,h3⟩:=vN lo hi its.toArray.size
 unfold slicePick
 rw [h1,h2,h3]
 simp only [sliceRange_one,pick_run,List.size_toArray] <;> rfl
def rSlL (K:PySem.W.Frag):V→Option Int→Option Int→Hp→VK→Prop:=fun x lo hi H Q=>∃ a xs,x=.ref a∧bR K H a xs∧∀ p,H p=none→Q (.ref p) (upd H p (.lst (iI xs lo hi)))
theorem lO:SlR X (rSlL X.K):=by
 intro pins s σ H x v vl vu lo hi sl Q I rx hs pl pu h
 obtain ⟨a,xs,rfl,hx,q⟩:=h
 cases rx
 obtain ⟨its,r,ht,hz⟩:=I.list hx
 have hlen:=r.length
 refine ⟨"list",_,slot_list_getitem.lookup,ht.isList.typeIs,?_⟩
 refine wpAny_getItem_list_slice ht.isList hs pl pu .none (by simp) ?_ (by rw [List.size_toArray] <;> omega)
 rw [tU,← hlen]
 refine ⟨.ref s.heap.objs.size,_,I.laid (t':=s.toks) (o:=.lst (iI xs lo hi)) (fun b ob q=>Heap.get?_push_of_some _ q) (Nat.le_refl _) ?_,rfl,q _ (I.hok.fresh (Nat.le_refl _))⟩
 exact ⟨Nat.le_trans (jf xs lo hi) hz,_,0,(r.drop (HT.eY xs.length 0 lo)).take (HT.eY xs.length xs.length hi - HT.eY xs.length 0 lo),Heap.get?_push_size _ rfl⟩
def nU:V→Bool
 | .non=>true
 | .bl _=>true
 | .int _=>true
 | .str _=>true
 | _=>false
def Pk:V→V→Bool
 | .non,.non=>true
 | .bl a,.bl b=>a==b
 | .bl a,.int b=>(if a then 1 else 0)==b
 | .int a,.bl b=>a==(if b then 1 else 0)
 | .int a,.int b=>a==b
 | .str a,.str b=>a==b
 | _,_=>false
theorem RN {A:Around}{s:Shared}{y x:V}{u v:Value} (ry:RelV y u) (rx:RelV x v) (fy:nU y=true) (fx:nU x=true):SeqAt.EqAt A s u v (Pk y x):=by
 cases y with
 | non =>
  cases ry
  cases x with
  | non=>cases rx;exact SeqAt.EqAt.same _
  | bl b=>cases rx;exact SeqAt.EqAt.none_bool b
  | int b=>obtain ⟨t,rfl⟩:=rx;exact SeqAt.EqAt.none_int b t
  | str b=>obtain ⟨t,rfl⟩:=rx;exact SeqAt.EqAt.none_str b t
  | _=>exact absurd (show false=true from fx) Bool.false_ne_true
 | bl a =>
  cases ry
  cases x with
  | non=>cases rx;exact SeqAt.EqAt.bool_none a
  | bl b=>cases rx;exact SeqAt.EqAt.bool_bool a b
  | int b=>obtain ⟨t,rfl⟩:=rx;exact SeqAt.EqAt.bool_int a b t
  | str b=>obtain ⟨t,rfl⟩:=rx;exact SeqAt.EqAt.bool_str a b t
  | _=>exact absurd (show false=true from fx) Bool.false_ne_true
 | int a =>
  obtain ⟨t',rfl⟩:=ry
  cases x with
  | non=>cases rx;exact SeqAt.EqAt.int_none a t'
  | bl b=>cases rx;exact SeqAt.EqAt.int_bool a t' b
  | int b=>obtain ⟨t,rfl⟩:=rx;exact SeqAt.EqAt.int_int a t' b t
  | str b=>obtain ⟨t,rfl⟩:=rx;exact SeqAt.EqAt.int_str a t' b t
  | _=>exact absurd (show false=true from fx) Bool.false_ne_true
 | str a =>
  obtain ⟨t',rfl⟩:=ry
  cases x with
  | non=>cases rx;exact SeqAt.EqAt.str_none a t'
  | bl b=>cases rx;exact SeqAt.EqAt.str_bool a t' b
  | int b=>obtain ⟨t,rfl⟩:=rx;exact SeqAt.EqAt.str_int a t' b t
  | str b=>obtain ⟨t,rfl⟩:=rx;exact SeqAt.EqAt.str_str a t' b t
  | _=>exact absurd (show false=true from fx) Bool.false_ne_true
 | _=>exact absurd (show false=true from fy) Bool.false_ne_true
def zK (x:V) (u:Value):Bool:=match u with
 | .none=>Pk .non x
 | .bool b=>Pk (.bl b) x
 | .int i _=>Pk (.int i) x
 | .str z _=>Pk (.str z) x
 | _=>false
theorem Ho {x y:V}{u:Value} (r:RelV y u) (f:nU y=true):zK x u=Pk y x:=by
 cases y with
 | non=>cases r;rfl
 | bl b=>cases r;rfl
 | int i=>obtain ⟨t,rfl⟩:=r;rfl
 | str z=>obtain ⟨t,rfl⟩:=r;rfl
 | _=>exact absurd (show false=true from f) Bool.false_ne_true
theorem nW {x:V}:∀ {xs:List V}{us:List Value},Vals xs us→xs.all nU=true→us.any (zK x)=xs.any fun y=>Pk y x
 | _,_,.nil,_=>rfl
 | y::xs,u::us,.cons r t,f=>by
  rw [List.all_cons,Bool.and_eq_true] at f
  rw [List.any_cons,List.any_cons,Ho r f.1,nW t f.2]
theorem kZ {A:Around}{s:Shared}{x:V}{v:Value} (rx:RelV x v) (fx:nU x=true):∀ {xs:List V}{us:List Value},Vals xs us→xs.all nU=true→∀ u∈us,SeqAt.EqAt A s u v (zK x u)
 | _,_,.nil,_=>fun u hu=>by cases hu
 | y::xs,u::us,.cons r t,f=>fun u' hu=>by
  rw [List.all_cons,Bool.and_eq_true] at f
  rcases List.mem_cons.mp hu with rfl | hu
  ·rw [Ho r f.1];exact RN r rx f.1 fx
  ·exact kZ rx fx t f.2 u' hu
def inV (x:V) (xs:List V):Bool:=xs.any fun y=>Pk y x
def rIn (K:PySem.W.Frag) (neg:Bool):R2:=fun x y H Q=>∃ p xs,y=.ref p∧(bR K H p xs∨bM K H p xs)∧nU x=true∧xs.all nU=true∧Q (.bl (if neg then !inV x xs else inV x xs)) H
theorem eF:mK X (compareOp .In) (rIn X.K false):=by
 intro pins s σ H x y v u Q I rx ry h
 obtain ⟨p,xs,rfl,hq,fx,fs,q⟩:=h
 cases ry
 rcases hq with hq | hq
 ·obtain ⟨its,r,pl,hz⟩:=I.list hq
  refine SeqAt.in_listAt (zK x) pl.isList (fun w hw=>kZ rx fx r fs w (by simpa using hw)) ⟨.bl _,H,I,rfl,?_⟩
  rw [show its.toArray.any (zK x)=its.any (zK x) by simp,nW r fs]
  exact q
 ·obtain ⟨its,r,pl,hz⟩:=I.tuple hq
  refine SeqAt.in_tupleAt (zK x) pl (fun w hw=>kZ rx fx r fs w (by simpa using hw)) ⟨.bl _,H,I,rfl,?_⟩
  rw [show its.toArray.any (zK x)=its.any (zK x) by simp,nW r fs]
  exact q
theorem vO:mK X (compareOp .NotIn) (rIn X.K true):=by
 intro pins s σ H x y v u Q I rx ry h
 obtain ⟨p,xs,rfl,hq,fx,fs,q⟩:=h
 cases ry
 rcases hq with hq | hq
 ·obtain ⟨its,r,pl,hz⟩:=I.list hq
  refine SeqAt.notIn_listAt (zK x) pl.isList (fun w hw=>kZ rx fx r fs w (by simpa using hw)) ⟨.bl _,H,I,rfl,?_⟩
  rw [show its.toArray.any (zK x)=its.any (zK x) by simp,nW r fs]
  exact q
 ·obtain ⟨its,r,pl,hz⟩:=I.tuple hq
  refine SeqAt.notIn_tupleAt (zK x) pl (fun w hw=>kZ rx fx r fs w (by simpa using hw)) ⟨.bl _,H,I,rfl,?_⟩
  rw [show its.toArray.any (zK x)=its.any (zK x) by simp,nW r fs]
  exact q
theorem cA:fM X (.builtin "len") (fun xs H Q=>∃ p ys,xs=[.ref p]∧(bR X.K H p ys∨bM X.K H p ys)∧Q (.int ys.length) H):=by
 intro pins s σ H xs us Q I r h
 obtain ⟨p,ys,rfl,hq,q⟩:=h
 obtain ⟨u,rfl,rx⟩:=vals1 r
 cases rx
 have hn:=rE
 rcases hq with hq | hq
 ·obtain ⟨its,r',pl,hz⟩:=I.list hq
  have hlen:=r'.length
  exact Calls.call_len_list pl.isList (by simp only [List.size_toArray] <;> omega) ⟨.int ys.length,H,I.tok _,⟨s.toks+1,by rw [List.size_toArray,hlen]⟩,q⟩
 ·obtain ⟨its,r',pl,hz⟩:=I.tuple hq
  have hlen:=r'.length
  exact len_tuple pl (by simp only [List.size_toArray] <;> omega) ⟨.int ys.length,H,I.tok _,⟨s.toks+1,by rw [List.size_toArray,hlen]⟩,q⟩
theorem vP:fM X (.builtin "len") (fun xs H Q=>∃ z,xs=[.str z]∧z.length≤sizeLine∧Q (.int z.length) H):=by
 intro pins s σ H xs us Q I r h
 obtain ⟨z,rfl,hz,q⟩:=h
 obtain ⟨u,rfl,t,rfl⟩:=vals1 r
 have hn:=rE
 exact len_str (by omega) ⟨.int z.length,H,I.tok _,⟨_,rfl⟩,q⟩
def tyV (K:PySem.W.Frag) (T:String) (x:V) (H:Hp):Prop:=match x with
 | .str _=>T="str"
 | .int _=>T="int"
 | .ref p=>(T="list"∧∃ xs,bR K H p xs)∨(T="tuple"∧∃ o,K.lookup p=some o∧o.cls=.type "tuple"∧o.dict=none) ∨
   (T="dict"∧((∃ kvs,H p=some (.dK kvs))∨∃ kvs,H p=some (.dT kvs)))∨(T="set"∧∃ S n,H p=some (.set S n))
 | _=>False
theorem RP {pins:List (Addr×Obj)}{σ:St}{H:Hp}{s:Shared}{T:String}{x:V}{v:Value} (I:Inv X pins σ H s) (r:RelV x v) (ty:tyV X.K T x H) :
  s.TypeIs v T∧∀ a,v=.ref a→∃ ob,s.heap.get? a=some ob∧ob.dict=none:=by
 cases x with
 | str z =>
  obtain ⟨t,rfl⟩:=r
  cases (show T="str" from ty)
  exact ⟨typeIs_str s z t,fun _ e=>nomatch e⟩
 | int i =>
  obtain ⟨t,rfl⟩:=r
  cases (show T="int" from ty)
  exact ⟨typeIs_int s i t,fun _ e=>nomatch e⟩
 | ref p =>
  cases r
  rcases ty with ⟨rfl,xs,hq⟩ | ⟨rfl,o,hk,hc,hd⟩ | ⟨rfl,hk⟩ | ⟨rfl,S,n,hk⟩
  ·obtain ⟨its,_,pl,_⟩:=I.list hq
   refine ⟨pl.isList.typeIs,fun a e=>?_⟩
   cases e
   obtain ⟨o,n,e,c,hd,_⟩:=pl
   exact ⟨o,e,hd⟩
  ·refine ⟨⟨o,I.lM p o hk,hc⟩,fun a e=>?_⟩
   cases e
   exact ⟨o,I.lM _ o hk,hd⟩
  ·have z:∃ o,s.heap.get? p=some o∧o.ExactDict:=by
    rcases hk with ⟨kvs,hk⟩ | ⟨kvs,hk⟩
    ·obtain ⟨_,_,_,_,o,_,_,e,ex,_⟩:=I.hok p _ hk
     exact ⟨o,e,ex⟩
    ·obtain ⟨_,_,_,_,o,_,_,e,ex,_⟩:=I.hok p _ hk
     exact ⟨o,e,ex⟩
   obtain ⟨o,e,ex⟩:=z
   refine ⟨⟨o,e,ex.1⟩,fun a e2=>?_⟩
   cases e2
   exact ⟨o,e,ex.2.1⟩
  ·obtain ⟨o,_,_,_,e,ex,_⟩:=I.hok p _ hk
   refine ⟨⟨o,e,ex.1⟩,fun a e2=>?_⟩
   cases e2
   exact ⟨o,e,ex.2.1⟩
 | _=>exact False.elim ty
def tBM (K:PySem.W.Frag) (T:String) (r:V→List V→Hp→VK→Prop) (to:TE) (t:TA):TE:=fun σ H Q=>to σ H fun x H1=>tyV K T x H1∧t σ H1 fun xs H2=>r x xs H2 Q
variable {o e:Expr}{es:List Expr}{to:TE}{t:TA}{name:Str}{apos cpos:Pos}{T id:String}{r:V→List V→Hp→VK→Prop}
theorem ql (pa:PlainAttrs T) (slot:Slot T name id) (hty:typeOf (.builtin id)=pure (.type "method_descriptor")) (hm:MtR X id r) (ho:PE X o to) (ha:PA X (e::es) t)
  (hbase:attributeBase o name X.env (eval o X.env)=eval o X.env:=by rfl)
  (hfew:((backTo cpos (starEach (e::es) X.env)).all (fun x=>!x.1)&&(backToKw cpos (keywordEach [] X.env)).all (fun x=>x.1.isSome)
   &&decide ((e::es).length+([]:List Keyword).length+(if ([]:List Keyword).isEmpty then 0 else 1)<30))=true:=by rfl)
  (hline:(apos.endLine==cpos.line)=true:=by rfl) (hs:starEach (e::es) X.env=(false,eval e X.env)::starEach es X.env:=by rfl) (hplain:(backTo cpos (starEach es X.env)).any (·.1)=false:=by rfl) :
  PE X (.Call (.Attribute o name apos) (e::es) [] cpos) (tBM X.K T r to t):=by
 intro pins s σ H Q I h
 refine wpAny_Call_method_late hbase hfew hline rfl (cN (ho pins s σ H _ I h) fun v s1 ⟨x,H1,I1,r1,ty,q1⟩=>?_)
 obtain ⟨h1,h2⟩:=RP I1 r1 ty
 refine ⟨T,id,pa,slot,hty,h1,h2,?_⟩
 have hA:=ha cpos pins s1 σ H1 _ I1 q1
 rw [hs] at hA ⊢
 refine Calls.callWith_builtin (by show (false||(backTo cpos (starEach es X.env)).any (·.1))=false;rw [hplain] <;> rfl) (Calls.evalArgs_plain ?_)
 exact cN hA fun us s2 ⟨vs,H2,I2,r2,q2⟩=>hm pins s2 σ H2 x vs v us Q I2 r1 r2 q2
end
end L2
namespace L2
open PySem PySem.Spec PyProof.Rows
def MtM (X:Cx) (id:String) (r:V→List V→Hp→VK→Prop):Prop :=
 ∀ (pins:List (Addr×Obj)) (s:Shared) (σ:St) (H:Hp) (x:V) (xs:List V) (v:Value) (us:List Value) (Q:VK),Inv X pins σ H s→RelV x v→Vals xs us→r x xs H Q →
  wpAny (model X.prog X.w) X.A (call (.builtin id) (v::us)) (EP X pins σ Q) X.xe s
theorem Vals.one:∀ {x:V}{us:List Value},Vals [x] us→∃ u,us=[u]∧RelV x u
 | _,_,.cons r .nil=>⟨_,rfl,r⟩
theorem Vals.rep {xs:List V}{us:List Value} (h:Vals xs us):∀ k:Nat,Vals (List.replicate k xs).flatten (List.replicate k us).flatten
 | 0=>.nil
 | k+1=>by
  rw [List.replicate_succ,List.replicate_succ,List.flatten_cons,List.flatten_cons]
  exact Vals.append h (Vals.rep h k)
theorem foldl_rep (its:List Value):∀ (k:Nat) (acc:List Value),
  List.foldl (fun x1 x2=>x1++x2) acc.toArray (List.replicate k its.toArray)=(acc++(List.replicate k its).flatten).toArray
 | 0,acc=>by simp
 | k+1,acc=>by
  have e:acc.toArray++its.toArray=(acc++its).toArray:=by simp
  have e2:(acc++its)++(List.replicate k its).flatten=acc++(List.replicate (k+1) its).flatten:=by
   rw [List.replicate_succ,List.flatten_cons,List.append_assoc]
  rw [← e2,← foldl_rep its k (acc++its),← e,List.replicate_succ,List.foldl_cons]
section
variable {X:Cx}{pins:List (Addr×Obj)}{σ:St}{H:Hp}{s:Shared}{l b:Addr}{xs ys zs:List V}
theorem Inv.lset {its its':List Value}{n:Nat}{f:Array Value→Array Value}{t':Nat} (I:Inv X pins σ H s) (hH:H l=some (.lst xs))
  (e:s.heap.get? l=some { cls:=.type "list",data:=.seq its.toArray n }) (hf:f its.toArray=its'.toArray) (hv:Vals ys its') (hz:ys.length≤sizeLine) :
  Inv X pins σ (upd H l (.lst ys)) { s with heap:=s.heap.update l (Obj.mapSeq f),toks:=t' }:=by
 have q:=PySem.IsL.update e f
 rw [hf] at q
 refine I.write (x:=l) (e:=l) (by rw [hH];exact trivial) (.inl rfl) (fun b' u hb hu=>(Heap.get?_update_other s.heap (Obj.mapSeq f) (Ne.symm hb)).trans hu) ⟨_,q⟩ ?_
 exact ⟨hz,its',_,hv,q⟩
theorem Inv.Wb {its:List Value}{t':Nat} (I:Inv X pins σ H s) (hv:Vals ys its) (hz:ys.length≤sizeLine) :
  Inv X pins σ (upd H s.heap.objs.size (.lst ys)) { s with heap:=s.heap.push { cls:=.type "list",data:=.seq its.toArray },toks:=t' } :=
 I.laid (fun _ _ q=>Heap.get?_push_of_some _ q) (Nat.le_refl _) ⟨hz,its,0,hv,Heap.get?_push_size _ rfl⟩
theorem Inv.fresh (I:Inv X pins σ H s):H s.heap.objs.size=none:=I.hok.fresh (Nat.le_refl _)
theorem Inv.Lk (I:Inv X pins σ H s) (hH:H l=some (.lst xs)):xs.length≤sizeLine∧∃ (its:List Value) (n:Nat),Vals xs its∧xs.length=its.length∧s.heap.get? l=some { cls:=.type "list",data:=.seq its.toArray n }:=by
 obtain ⟨z,its,n,r,e⟩:=I.hok l _ hH
 exact ⟨z,its,n,r,r.length,e⟩
theorem Hq {n:Nat} (h:n≤sizeLine):Builtin.List.listTooLong n=false:=by
 unfold Builtin.List.listTooLong
 exact decide_eq_false (by omega)
end
section
variable {X:Cx}
def Lp:V→List V→Hp→VK→Prop:=fun x vs H Q=>∃ l xs y,x=.ref l∧vs=[y]∧H l=some (.lst xs)∧xs.length<sizeLine∧Q .non (upd H l (.lst (xs++[y])))
theorem fU:MtM X "list.append" Lp:=by
 intro pins s σ H x vs v us Q I rx rv h
 obtain ⟨l,xs,y,rfl,rfl,hH,hz,q⟩:=h
 cases rx
 obtain ⟨u,rfl,ru⟩:=rv.one
 obtain ⟨z,its,n,r,hl,e⟩:=I.Lk hH
 refine call_meets F.slot_list_append ⟨_,e,rfl⟩ F.entry_list_append (F.args_list_append_2 _ _) (PySem.list_append l its.toArray n u (by rw [List.size_toArray];omega)) ⟨e,?_⟩
 refine ⟨.non,_,I.lset (its':=its++[u]) hH e (by simp) (r.append (.cons ru .nil)) ?_,rfl,q⟩
 rw [List.length_append,List.length_singleton]
 omega
def rCat:R2:=fun x y H Q=>∃ l b xs zs,x=.ref l∧y=.ref b∧H l=some (.lst xs)∧H b=some (.lst zs)∧xs.length+zs.length≤sizeLine∧∀ p,H p=none→Q (.ref p) (upd H p (.lst (xs++zs)))
theorem jK:mK X (binaryOp .Add) rCat:=by
 intro pins s σ H x y v u Q I rx ry h
 obtain ⟨l,b,xs,zs,rfl,rfl,hH,hB,hz,q⟩:=h
 cases rx
 cases ry
 obtain ⟨z,its,n,r,hl,e⟩:=I.Lk hH
 obtain ⟨z2,its2,n2,r2,hl2,e2⟩:=I.Lk hB
 refine PySem.P.add_list e e2 ?_ (by rw [List.size_toArray,List.size_toArray];omega)
 have ea:its.toArray++its2.toArray=(its++its2).toArray:=by simp
 rw [ea]
 exact ⟨.ref _,_,I.Wb (t':=s.toks) (r.append r2) (by rw [List.length_append];omega),rfl,q _ I.fresh⟩
def rRep:R2:=fun x y H Q=>∃ l k xs,x=.ref l∧y=.int k∧H l=some (.lst xs)∧-(2 ^ 63)≤k∧k<2 ^ 63∧xs.length * k.toNat≤sizeLine ∧
 ∀ p,H p=none→Q (.ref p) (upd H p (.lst (List.replicate k.toNat xs).flatten))
theorem len_rep {α:Type} (xs:List α) (k:Nat):(List.replicate k xs).flatten.length=k * xs.length:=by
 induction k with
 | zero=>simp
 | succ k ih=>rw [List.replicate_succ,List.flatten_cons,List.length_append,ih,Nat.succ_mul,Nat.add_comm]
theorem RQ:mK X (binaryOp .Mult) rRep:=by
 intro pins s σ H x y v u Q I rx ry h
 obtain ⟨l,k,xs,rfl,rfl,hH,h1,h2,hz,q⟩:=h
 cases rx
 obtain ⟨t,rfl⟩:=ry
 obtain ⟨z,its,n,r,hl,e⟩:=I.Lk hH
 have hlen:its.toArray.size * k.toNat≤sizeLine:=by rw [List.size_toArray,← hl];exact hz
 have hcap:¬ its.toArray.size * k.toNat > (2 ^ 63 - 1) / 8:=by
  have:(sizeLine:Nat)≤(2 ^ 63 - 1) / 8:=by decide
  omega
 have hfit:¬ (!Builtin.List.listFitsIndex k)=true:=by
  rw [fitsIndex_both h1 h2]
  exact Bool.false_ne_true
 have Wc:¬ Builtin.List.listTooLong (its.toArray.size * k.toNat)=true:=by
  rw [Hq hlen]
  exact Bool.false_ne_true
 have hnew:List.foldl (fun x1 x2=>x1++x2) #[] (List.replicate (if its.toArray.isEmpty=true then 0 else k.toNat) its.toArray)=(List.replicate k.toNat its).flatten.toArray:=by
  have f0:∀ m:Nat,List.foldl (fun x1 x2=>x1++x2) #[] (List.replicate m its.toArray)=(List.replicate m its).flatten.toArray:=fun m=>by
   have:=foldl_rep its m []
   rw [List.nil_append] at this
   exact this
  rw [f0]
  cases its with
  | nil=>simp
  | cons a r'=>rw [if_neg (by simp)]
 refine wpAny_binaryOp_repeat_ref (T:="list") (U:="int") (by decide) ⟨_,e,rfl⟩ (fun s'=>typeIs_int s' k t) noFill_list_mul F.fills_int_mul F.slot_int_rmul repeat_list F.slot_int_index.lookup
  (call_meets F.slot_int_rmul (typeIs_int s k t) F.entry_int_rmul (F.args_int_rmul_2 _ _) (int___rmul___int_list k t l its.toArray n)
   ⟨e,rfl,⟨_,e,rfl⟩,call_meets F.slot_list_mul ⟨_,e,rfl⟩ F.entry_list_mul (F.args_list_mul_2 _ _) (AutoListH.list___mul___list_int_3 l its.toArray n k t hfit hcap Wc) ⟨e,?_⟩⟩)
 rw [hnew]
 exact ⟨.ref _,_,I.Wb (t':=s.toks) (r.rep k.toNat) (by rw [len_rep,Nat.mul_comm];exact hz),rfl,q _ I.fresh⟩
end
section
variable {prog:Program}{w:World}{A:Around}{E:Value→Shared→Prop}{s:Shared}
end
section
variable {X:Cx}
end
end L2
namespace Att
open PySem PySem.W PySem.Calls PyProof.Rows
theorem qz {P:Params}{h:Heap}:∀ (ns:List Int) (vs:List Value),WellAll P h vs (ns.map WData.int)→IntsAre vs ns:=by
 intro ns
 induction ns with
 | nil =>
  intro vs w
  rw [List.map_nil] at w
  cases w
  exact .nil
 | cons n ns ih =>
  intro vs w
  rw [List.map_cons] at w
  cases w with
  | cons a b =>
   cases a
   exact .cons _ _ (ih _ b)
theorem Ej {l:OpenLaw}{n:Nat} (hn:l.most=some n) {P:Params}{h:Heap}{args:List WData}{vals:List Value}
  (hpre:l.row.toRowW.claim.pre args=true) (hwl:WellAll P h vals args) :
  ∃ a vs ns,vals=[Value.ref a]∧args=[WData.list (ns.map WData.int)]∧h.get? a=some { cls:=.type "list",data:=.seq vs.toArray }∧IntsAre vs ns∧ns.length≤n:=by
 have hsh:WShape.hasAll [] args [.list .int]=true:=(pre_splitW hpre).1
 have hc:l.pre.holds [] { args:=args }=true:=(pre_splitW hpre).2
 obtain ⟨d,r,rfl,h1,h2⟩:=hasAllW_cons hsh
 obtain rfl:=hasAllW_nil h2
 obtain ⟨xs,rfl,h3⟩:=hasW_list h1
 obtain ⟨ns,rfl⟩:=items_int h3
 have hlen:ns.length≤n:=by
  unfold OpenLaw.pre at hc
  have h4:(WTm.not (.lt (.lit (.int (n:Int))) (.len (.arg 0)))).holds [] { args:=[.list (ns.map .int)] }=true:=by
   have h4:=(holds_andW hc).1
   rw [hn] at h4
   exact h4
  have h5:=condW_of h4 (w_not (w_lt w_lit (w_len_list (w_arg rfl))))
  rw [List.length_map] at h5
  refine Nat.le_of_not_lt fun q=>?_
  have q':(n:Int)<((ns.length:Nat):Int):=by omega
  first
   | (rw [decide_eq_true q'] at h5;exact absurd h5 (by decide))
   | (simp at h5;omega)
 cases hwl with
 | cons w1 w2 =>
  cases w2
  cases w1 with
  | list ho hall=>exact ⟨_,_,ns,rfl,rfl,ho,qz ns _ hall,hlen⟩
theorem Ek (l:OpenLaw) (args:List WData):l.row.toRowW.claim.post args (.bool true) args=true :=
 postW_of (r:=l.row.toRowW) (X:=(true==true))
  (show WShape.has [] (.bool true) .bool=true by first | rfl | decide | simp [WShape.has,WShape.arms,WShape.armsAll])
  (show (WTm.eq .res (.lit (.bool true))).value [] { args:=args,res:=some (.bool true),after:=args }=some (.bool (true==true)) from w_eq_bool (w_res rfl) w_lit) rfl
theorem xK {l:OpenLaw}{n:Nat}{q:Program}{loose:List Str}{XP:(Str→Option Value)→Heap→Prop}{YP:World→Heap→Prop}{d:DefRec}
  (hn:l.most=some n) (hdf:d.params.defaults=[])
  (call:∀ (w:World) (s₀ s₁:Shared) (mg mb:Str→Option Value) (fa:Addr) (o:Obj) (pm cd doc:Value) (a:Addr) (vs:List Value) (ns:List Int),
   Ground q loose [] XP w s₀ mg mb s₁.heap→YP w s₁.heap →
   s₁.heap.get? fa=some o→o.data=.func (docDef d.name d.params d.body d.scope pm cd doc)→s₁.heap.CodeRec cd d.name→mg d.name=some (.ref fa) →
   s₁.heap.get? a=some { cls:=.type "list",data:=.seq vs.toArray }→IntsAre vs ns→ns.length≤n→s₁.gens=#[] →
   codeAny (model l.prog w) callerA (.call (.ref fa) ⟨[.ref a],[]⟩) (fun r s'=>r=.ok (.ret (.bool true))∧OldK s₁.heap s'.heap∧s'.os=s₁.os∧AllBare s'.gens) s₁) :
  WalkO q loose XP YP l.row.toRowW d [] (fun f vs=>PySem.call f vs):=by
 intro w s₀ s₁ mg mb G Y fa o pm cd doc dV kV ho hd hcd hD hmg hg args vals as hpre hlay hrd hwl hlo
 obtain rfl:dV=.none:=Dflts.none hD hdf
 obtain rfl:kV=.none:=Dflts.noKw hD
 obtain ⟨a,vs,ns,rfl,rfl,hobj,hints,hlen⟩:=Ej hn hpre hwl
 refine enter_call (codeAny_mono (call w s₀ s₁ mg mb fa o pm cd doc a vs ns G Y ho (fd_plain hd) hcd hmg hobj hints hlen hg) fun r s' hq=>?_)
 obtain ⟨rfl,h2,h3,h4⟩:=hq
 exact ⟨.inl ⟨.bool true,.bool true,[],rfl,fun _=>rfl,.bool true,Ek l _,fun _=>⟨List.Pairwise.nil,fun _ hm=>(nomatch hm)⟩⟩,h2,h3,h4⟩
section
variable {prog:Program}{w:World}{A:Around}{E:Value→Shared→Prop}{s:Shared}{K:Frag}
end
end Att
namespace L2
open PySem PySem.Spec PyProof.Rows
theorem ur:∀ {vs:List Value}{ns:List Int},IntsAre vs ns→Vals (ns.map V.int) vs
 | _,_,.nil=>.nil
 | _,_,.cons n t h=>.cons ⟨t,rfl⟩ (ur h)
def Only (H:Hp):Prop:=∀ b,H b=none∨∃ o xs,H b=some (.fX o (.lst xs))
theorem Hr {P:Program}{w:World}{K:PySem.W.Frag}{mg mb:Str→Option Value}{CX:wO}{k:Nat}{fa a:Addr}{fd:FuncData}{x:Str}{sp:Sp}{s₁:Shared}{vs:List Value}{ns:List Int}
  (KX:K.In s₁.heap) (hns:s₁.heap.Ns mainGlobals mg) (hb:s₁.heap.Ns builtinsNs mb) (hbb:∀ x:Str,x≠"__name__"→mb x=bootBuiltins x) (hlim:s₁.heap.NoLimit) (hg:s₁.gens=#[])
  (ha:s₁.heap.get? a=some { cls:=.type "list",data:=.seq vs.toArray }) (hi:IntsAre vs ns) (hl:ns.length≤sizeLine) (hr:fG k callerA)
  (F:∀ base:Heap,K.In base→base.Ns mainGlobals mg→aL P w K mg base CX k fa fd [x] sp) (hbind:∀ (s:Shared) (u:Value),BindsTo s fd ⟨[u],[]⟩ [(x,u)])
  (hsp:∀ H:Hp,Only H→bR K H a (ns.map V.int)→sp [.ref a] H (fun v _=>v=.bl true) fun _ _ _=>False)
  (hCX:∀ H e s',CX [] H s₁ (fun _ _ _=>False) e s'→False) :
  codeAny (model P w) callerA (.call (.ref fa) ⟨[.ref a],[]⟩) (fun r s'=>r=.ok (.ret (.bool true))∧OldK s₁.heap s'.heap∧s'.os=s₁.os∧AllBare s'.gens) s₁:=by
 have rv:=ur hi
 have lenV:=hi.length
 have core:∀ H:Hp,Only H→bR K H a (ns.map V.int)→jX P w H s₁.heap→(∀ b,H b≠none→b=a)→(H a≠none→K.lookup a=none) →
   codeAny (model P w) callerA (.call (.ref fa) ⟨[.ref a],[]⟩) (fun r s'=>r=.ok (.ret (.bool true))∧OldK s₁.heap s'.heap∧s'.os=s₁.os∧AllBare s'.gens) s₁:=by
  intro H hO hS hok hA hK
  have Ci:∀ {b:Addr}{o:Obj},s₁.heap.get? b=some o→H b=none→(vH s₁.heap H).get? b=some o:=fun e n=>Gr e n
  have W7:∀ {b:Addr}{o:Obj}{es:Array DictEntry}{ep:Nat},s₁.heap.get? b=some o→o.data=.dict es ep→H b=none:=fun {b o es ep} e d=>by
   cases q:H b with
   | none=>rfl
   | some u =>
    have e':b=a:=hA b (by rw [q];simp)
    subst e'
    rw [ha] at e;cases e
    have d':Data.seq vs.toArray _=Data.dict es ep:=d
    cases d'
  have nsK:∀ {b:Addr}{m:Str→Option Value},s₁.heap.Ns b m→(vH s₁.heap H).Ns b m:=fun {b m} ⟨o,es,ep,e,d,r⟩=>⟨o,es,ep,Ci e (W7 e d),d,r⟩
  have hKb:K.In (vH s₁.heap H):=fun b o e=>Ci (KX b o e) (by
   cases q:H b with
   | none=>rfl
   | some u =>
    have e':b=a:=hA b (by rw [q];simp)
    subst e'
    rw [hK (by rw [q];simp)] at e;cases e)
  have hM:Mod K mg (vH s₁.heap H):=⟨hKb,nsK hns,⟨mb,nsK hb,hbb⟩,let ⟨mc,h1,h2⟩:=hlim;⟨mc,nsK h1,h2⟩⟩
  have e0:zF P w K mg (vH s₁.heap H) callerA [] s₁ H:=⟨rfl,hM,fun b o e=>KY e,Nat.le_of_eq (DW _ _),trivial,fun b hb=>absurd (show b∈([]:List Addr) from hb) (by simp),hok,.of_eq hg⟩
  refine codeAny_mono ((F _ hKb (nsK hns)).run callerA [] s₁ H ⟨[.ref a],[]⟩ [.ref a] [.ref a] _ _ hr e0 (hbind s₁ (.ref a)) (.cons rfl .nil) (hsp H hO hS)) fun r s' h=>?_
  cases r with
  | error e=>exact (hCX H e s' h).elim
  | ok fl =>
   cases fl with
   | next=>exact False.elim h
   | brk=>exact False.elim h
   | cont=>exact False.elim h
   | ret u =>
    obtain ⟨v,H',os,bare,un,hok',r',q⟩:=h
    have q':v=.bl true:=q
    subst q'
    obtain rfl:u=Value.bool true:=r'
    refine ⟨rfl,OldK.of_keep fun b o e=>?_,os,bare⟩
    cases q:H b with
    | none=>exact un.keep b o e q (by intro z;exact absurd (show b∈([]:List Addr) from z) (by simp)) (by simp)
    | some u =>
     rcases hO b with z | ⟨ob,xs,z⟩
     ·rw [q] at z;cases z
     ·have z2:=un.mV b ob _ z
      obtain ⟨e1,_⟩:=hok b _ z
      obtain ⟨e2,_⟩:=hok' b _ z2
      rw [e] at e1;cases e1
      exact e2
 cases hk:K.lookup a with
 | some o =>
  have e:=KX a o hk
  rw [ha] at e
  cases e
  refine core (fun _=>none) (fun _=>.inl rfl) (.inr ⟨_,vs.toArray,_,hk,rfl,rfl,rfl,by rw [List.size_toArray,lenV];exact hl,by simpa using rv⟩) (fun b u z=>by have z':(none:Option HO)=some u:=z;cases z') (fun b z=>absurd rfl z) fun z=>absurd rfl z
 | none =>
  refine core (fun b=>if b=a then some (.fX { cls:=.type "list",data:=.seq vs.toArray } (.lst (ns.map V.int))) else none) (fun b=>?_) (.inl (.inr ⟨{ cls:=.type "list",data:=.seq vs.toArray },if_pos rfl⟩)) (fun b u z=>?_) (fun b z=>?_) fun _=>hk
  ·by_cases hb:b=a
   ·exact .inr ⟨_,_,if_pos hb⟩
   ·exact .inl (if_neg hb)
  ·by_cases hb:b=a
   ·have z':=(if_pos hb).symm.trans z
    cases z'
    subst hb
    exact ⟨ha,by rw [List.length_map];exact hl,vs,_,rv,ha⟩
   ·have z':=(if_neg hb).symm.trans z
    cases z'
  ·by_cases hb:b=a
   ·exact hb
   ·exact absurd (if_neg hb) z
end L2
namespace L2
open PySem PySem.Spec PyProof.Rows
theorem Lq {l:PySem.W.OpenLaw}{n k:Nat}{q:Program}{loose:List Str}{XP:(Str→Option Value)→Heap→Prop}{YP:World→Heap→Prop}{d:DefRec}{K:Params→PySem.W.Frag}{CX:World→wO}{sp:World→Sp}{x:Str}
  (hn:l.most=some n) (hn2:n≤sizeLine) (hdf:d.params.defaults=[]) (hr:fG k callerA)
  (hY:∀ (w:World) (h:Heap),YP w h→(K w.params).In h)
  (F:∀ (w:World) (mg:Str→Option Value) (fa:Addr) (h:Heap),(K w.params).In h→h.Ns mainGlobals mg→mg d.name=some (.ref fa) →
   ∃ fd:FuncData,(∀ (s:Shared) (u:Value),BindsTo s fd ⟨[u],[]⟩ [(x,u)]) ∧
    ∀ base:Heap,(K w.params).In base→base.Ns mainGlobals mg→aL l.prog w (K w.params) mg base (CX w) k fa fd [x] (sp w))
  (hsp:∀ (w:World) (H:Hp) (a:Addr) (ns:List Int),ns.length≤n→Only H→bR (K w.params) H a (ns.map V.int)→sp w [.ref a] H (fun v _=>v=.bl true) fun _ _ _=>False)
  (hCX:∀ (w:World) (H:Hp) (s:Shared) (e:Value) (s':Shared),CX w [] H s (fun _ _ _=>False) e s'→False) :
  PySem.W.WalkO q loose XP YP l.row.toRowW d [] (fun f vs=>PySem.call f vs):=by
 refine Att.xK hn hdf fun w s₀ s₁ mg mb fa o pm cd doc a vs ns G Y ho hd hcd hmg hobj hints hlen hg=>?_
 have KX:=hY w _ Y
 obtain ⟨fd,hb,hF⟩:=F w mg fa _ KX G.T.g hmg
 exact Hr KX G.T.g G.T.b G.T.builtins G.T.nolimit hg hobj hints (Nat.le_trans hlen hn2) hr hF hb (fun H hO hS=>hsp w H a ns hlen hO hS) fun H e s'=>hCX w H s₁ e s'
end L2
namespace L2
open PySem PySem.Spec PyProof.Rows
def inClass (s:Stmt) (j:Nat):Stmt:=match s with
 | .ClassDef _ _ _ body _ _ _ _ _ _ _=>body.getD j (.Pass ⟨0,0,0,0⟩)
 | _=>.Pass ⟨0,0,0,0⟩
def aX (s:Stmt):Arguments:=match s with
 | .FunctionDef _ a _ _ _ _ _ _ _ _=>a
 | _=>{ posonlyargs:=[],args:=[],vararg:=none,kwonlyargs:=[],kw_defaults:=[],kwarg:=none,defaults:=[] }
def aV (s:Stmt):List Stmt:=match s with
 | .FunctionDef _ _ b _ _ _ _ _ _ _=>b
 | _=>[]
def aC (s:Stmt):Scope:=match s with
 | .FunctionDef _ _ _ _ _ _ sc _ _ _=>sc
 | _=>{ kind:=.function,names:=[],isGenerator:=false,isCoroutine:=false }
abbrev cu:wO:=fun _ _ _ _ _ _=>False
abbrev E0:XK:=fun _ _ _=>False
theorem bD {X:Cx}:Passes cu X E0:=fun _ _ _ _ _ _ _ h=>h.elim
structure fH (K:PySem.W.Frag) (x qual:Str) (st:Stmt) (f:Addr) (fd:FuncData):Prop where
 ex:∃ (oc:Value) (od:Option Addr) (kV doc pm:Value) (an:Option Addr) (cdv ct:Value) (osl:Array (Option Value)),
  fd=PySem.W.fnOf x qual (aX st) (aV st) (aC st) .none kV doc pm an cdv ct∧K.lookup f=some ⟨oc,od,.func fd,osl⟩∧PySem.W.codeIn K cdv qual=true
 kp:PySem.W.keepIn K (.ref f)=true
section
variable {P:Program}{w:World}{K:PySem.W.Frag}{mg:Str→Option Value}{base:Heap}
theorem fH.ok {x qual:Str}{st:Stmt}{f:Addr}{fd:FuncData}{N ps:List Str}{k:Nat}{sp:Sp} (F:fH K x qual st f fd) (S:aZ N ps (aC st)) (len:∀ vs H Q E,sp vs H Q E→vs.length=ps.length)
  (hbody:∀ (cdv:Value) (A:Around) (outer:List Env) (s:Shared) (H:Hp) (vs:List V) (Q:VK) (E:XK),fG k (A.deeper (envOfC qual (aC st) s.heap.objs.size f cdv))→sp vs H Q E →
   ∃ t,wX (pH cu P w K mg base N qual (aC st) f cdv A outer s H E).nox (aV st) t∧t { nx:=fun _ H'=>Q .non H',rt:=Q } (start N vs) H):aL P w K mg base cu (k+1) f fd ps sp:=by
 obtain ⟨oc,od,kV,doc,pm,an,cdv,ct,osl,rfl,lk,hcd⟩:=F.ex
 refine jV lk hcd S len fun A outer s H vs Q E hr hsp=>?_
 obtain ⟨t,h,q⟩:=hbody cdv A outer s H vs Q E hr hsp
 exact ⟨t,h.nox,q⟩
theorem fH.binds {x qual:Str}{st:Stmt}{f:Addr}{fd:FuncData}{ps:List Str} (F:fH K x qual st f fd)
  (h:∀ (kV doc pm:Value) (an:Option Addr) (cdv ct:Value) (us:List Value),us.length=ps.length→bindArgs (PySem.W.fnOf x qual (aX st) (aV st) (aC st) .none kV doc pm an cdv ct) ⟨us,[]⟩=pure (ps.zip us)):Binds K fd ps []:=by
 obtain ⟨oc,od,kV,doc,pm,an,cdv,ct,osl,rfl,lk,hcd⟩:=F.ex
 exact .all (h kV doc pm an cdv ct)
theorem bG {x qual:Str}{st:Stmt}{f:Addr}{oc:Value}{od an:Option Addr}{osl:Array (Option Value)}{kV doc pm cdv ct:Value} (l:K.lookup f=some ⟨oc,od,.func (PySem.W.fnOf x qual (aX st) (aV st) (aC st) .none kV doc pm an cdv ct),osl⟩)
  (c:PySem.W.codeIn K cdv qual=true) (k:PySem.W.keepIn K (.ref f)=true):fH K x qual st f (PySem.W.fnOf x qual (aX st) (aV st) (aC st) .none kV doc pm an cdv ct):=⟨⟨oc,od,kV,doc,pm,an,cdv,ct,osl,rfl,l,c⟩,k⟩
end
theorem lQ {n:Nat} (h:n≤1000):n<sizeLine:=Nat.lt_of_le_of_lt h (by decide)
section
variable {X:Cx}
theorem pv (i:Nat) {x:Str}{pos:Pos} (hN:X.N[i]?=some x:=by rfl) (hv:Vis X.env.scope x:=by first | exact Or.inl rfl | exact Or.inr (Or.inl rfl) | exact Or.inr (Or.inr rfl)) (hd:(x==("__debug__" : Str))=false:=by decide)
  (hcd:(x==("__classdict__" : Str))=false:=by decide):PE X (.Name x pos) (zf i):=Rq hN hv hd hcd
end
theorem cB {A B:Prop} (h:B):if false=true then A else B:=by
 rw [if_neg Bool.false_ne_true]
 exact h
theorem dj {A B:Prop} (h:A):if true=true then A else B:=by
 rw [if_pos rfl]
 exact h
theorem eZ {c A B:Prop} [Decidable c] (h1:c→A) (h2:¬ c→B):if c then A else B:=by
 by_cases h:c
 ·rw [if_pos h]
  exact h1 h
 ·rw [if_neg h]
  exact h2 h
theorem Cj {c A B:Prop} [Decidable c] (hc:c) (h:B):if (!decide c)=true then A else B:=by
 rw [decide_eq_true hc]
 exact cB h
def Same (H H':Hp):Prop:=∀ b o,H b=some o→H' b=some o
theorem Same.refl (H:Hp):Same H H:=fun _ _ h=>h
theorem Same.trans {H H1 H2:Hp} (a:Same H H1) (b:Same H1 H2):Same H H2:=fun c o h=>b c o (a c o h)
theorem Same.free {H H':Hp} (e:Same H H') {l:Addr} (h:H' l=Option.none):H l=Option.none:=by
 cases q:H l with
 | none=>rfl
 | some o =>
  rw [e l o q] at h
  cases h
theorem Same.seq {K:PySem.W.Frag}{H H':Hp}{a:Addr}{xs:List V} (e:Same H H') (h:bR K H a xs):bR K H' a xs:=by
 rcases h with (h | ⟨o,h⟩) | h
 ·exact .inl (.inl (e _ _ h))
 ·exact .inl (.inr ⟨o,e _ _ h⟩)
 ·exact .inr h
end L2
namespace L2
open PySem PySem.Spec PyProof.Rows
def fV (env:Env):List (Str×NameKind)→List (Str×Addr)→List (Str×Addr)
 | [],cs=>cs
 | (n,k)::r,cs=>fV env r (if k==.free then (n,(env.cells.lookup n).getD 0)::cs else cs)
theorem uw {env:Env}:∀ (l:List (Str×NameKind)) (cs:List (Str×Addr)) (p:Str×Addr),p∈fV env l cs→p∈cs∨((p.1,NameKind.free)∈l∧p.2=(env.cells.lookup p.1).getD 0)
 | [],_,_,h=>.inl h
 | (n,k)::r,cs,p,h=>by
  rcases uw r _ p h with q | ⟨q,e⟩
  ·by_cases hk:k=.free
   ·subst hk
    rw [if_pos (by rfl)] at q
    rcases List.mem_cons.mp q with z | z
    ·subst z;exact .inr ⟨List.mem_cons_self,rfl⟩
    ·exact .inl z
   ·rw [if_neg (by simpa using hk)] at q
    exact .inl q
  ·exact .inr ⟨List.mem_cons_of_mem _ q,e⟩
theorem ux {env:Env}:∀ (l:List (Str×NameKind)) (cs:List (Str×Addr)) (p:Str×Addr),p∈cs→p∈fV env l cs
 | [],_,_,h=>h
 | (n,k)::r,cs,p,h=>by
  refine ux r _ p ?_
  split
  ·exact List.mem_cons_of_mem _ h
  ·exact h
theorem pJ {env:Env}{x:Str}:∀ (l:List (Str×NameKind)) (cs:List (Str×Addr)),(x,NameKind.free)∈l→∃ c,(x,c)∈fV env l cs
 | [],_,h=>nomatch h
 | (n,k)::r,cs,h=>by
  rcases List.mem_cons.mp h with z | z
  ·cases z
   exact ⟨_,ux r _ _ (by rw [if_pos (by rfl)];exact List.mem_cons_self)⟩
  ·exact pJ r _ z
theorem jm {α:Type}{x:Str}:∀ {l:List (Str×α)}{c:α},(x,c)∈l→∃ c',l.lookup x=some c'
 | [],_,h=>nomatch h
 | (n,d)::r,c,h=>by
  by_cases e:x=n
  ·subst e;exact ⟨d,by simp [List.lookup_cons]⟩
  ·have:(x==n)=false:=by simpa using e
   simp only [List.lookup_cons,this]
   rcases List.mem_cons.mp h with z | z
   ·cases z;exact absurd rfl e
   ·exact jm z
theorem rM {env:Env}:∀ (l:List (Str×NameKind)) (cs:List (Str×Addr)),(∀ x∈l,x.2=.free→(env.cells.lookup x.1).isSome=true) →
  (forIn l cs fun (x:Str×NameKind) (r:List (Str×Addr))=>(match x with
   | (name,kind)=>if (kind==NameKind.free)=true then do let a ← cellOf env name;pure (ForInStep.yield ((name,a)::r)) else pure (ForInStep.yield r):Sem (ForInStep (List (Str×Addr)))))=pure (fV env l cs)
 | [],cs,_=>rfl
 | (n,k)::r,cs,h=>by
  rw [List.forIn_cons]
  have ih:=fun cs'=>rM r cs' fun x hx=>h x (List.mem_cons_of_mem _ hx)
  by_cases hk:k=.free
  ·subst hk
   obtain ⟨a,ha⟩:=Option.isSome_iff_exists.mp (h (n,.free) List.mem_cons_self rfl)
   have hca:cellOf env n=pure a:=by unfold cellOf;rw [ha]
   have hn:fV env ((n,.free)::r) cs=fV env r ((n,a)::cs):=by
    show fV env r (if (NameKind.free==NameKind.free)=true then (n,(env.cells.lookup n).getD 0)::cs else cs)=_
    rw [if_pos (by rfl),ha];rfl
   rw [hn]
   simp only [beq_self_eq_true,if_true,hca,pure_bind]
   exact ih _
  ·have hb:(k==NameKind.free)=false:=by simpa using hk
   have hn:fV env ((n,k)::r) cs=fV env r cs:=by
    show fV env r (if (k==NameKind.free)=true then (n,(env.cells.lookup n).getD 0)::cs else cs)=_
    rw [if_neg (by simp [hb])]
   rw [hn]
   simp only [hb,Bool.false_eq_true,if_false,pure_bind]
   exact ih _
theorem jW {scope:Scope}{env:Env} (h:∀ x∈scope.names,x.2=.free→(env.cells.lookup x.1).isSome=true):closureFor scope env=pure (fV env scope.names []):=by
 simp only [closureFor]
 have:=rM (env:=env) scope.names [] h
 first
  | (rw [this];rfl)
  | (erw [this];rfl)
  | (exact (congrArg (· >>= pure) this))
theorem bW {env:Env}{l:List (Str×NameKind)} (h:∀ x∈l,x.2=.free→(env.cells.lookup x.1).isSome=true) {x:Str}{c:Addr} (e:(fV env l []).lookup x=some c):env.cells.lookup x=some c:=by
 rcases uw l [] (x,c) (PySem.mem_of_lookup e) with q | ⟨q,e'⟩
 ·exact nomatch q
 ·obtain ⟨a,ha⟩:=Option.isSome_iff_exists.mp (h _ q rfl)
  have ha':env.cells.lookup x=some a:=ha
  have e2:c=(env.cells.lookup x).getD 0:=e'
  rw [ha'] at e2
  rw [ha',e2];rfl
theorem gj {scope:Scope}{env:Env}{x:Str}{k':NameKind} (h:(relabel scope env).names.lookup x=some k'):∃ k,scope.names.lookup x=some k∧(k'=k∨(k=.free∧k'=.cell)):=by
 unfold relabel at h
 dsimp only at h
 generalize scope.names=l at h ⊢
 induction l with
 | nil=>simp at h
 | cons p r ih =>
  obtain ⟨n,k⟩:=p
  rw [List.map_cons] at h
  by_cases e:x=n
  ·subst e
   refine ⟨k,by simp [List.lookup_cons],?_⟩
   by_cases hc:(k==NameKind.free&&env.scope.kind==.function&&env.kindOf x==some .cell)=true
   ·simp only [hc,if_true,List.lookup_cons,beq_self_eq_true] at h
    have hk:k=.free:=by
     have:=(Bool.and_eq_true_iff.mp (Bool.and_eq_true_iff.mp hc).1).1
     simpa using this
    exact .inr ⟨hk,(Option.some.inj h).symm⟩
   ·simp only [hc,if_false,List.lookup_cons,beq_self_eq_true,Bool.false_eq_true] at h
    exact .inl (Option.some.inj h).symm
  ·have hb:(x==n)=false:=by simpa using e
   have h':List.lookup x (List.map (fun x=>match x with | (n,k)=>if (k==NameKind.free&&env.scope.kind==ScopeKind.function&&env.kindOf n==some NameKind.cell)=true then (n,NameKind.cell) else (n,k)) r)=some k':=by
    by_cases hc:(k==NameKind.free&&env.scope.kind==.function&&env.kindOf n==some .cell)=true
    ·simpa only [hc,if_true,List.lookup_cons,hb] using h
    ·simpa only [hc,if_false,List.lookup_cons,hb,Bool.false_eq_true] using h
   obtain ⟨k0,e0,q⟩:=ih h'
   exact ⟨k0,by simp only [List.lookup_cons,hb];exact e0,q⟩
theorem nY {scope:Scope}{env:Env}{x:Str} (h:scope.names.lookup x=some .free):(relabel scope env).names.lookup x=some .cell∨(relabel scope env).names.lookup x=some .free:=by
 unfold relabel
 dsimp only
 generalize scope.names=l at h ⊢
 induction l with
 | nil=>simp at h
 | cons p r ih =>
  obtain ⟨n,k⟩:=p
  rw [List.map_cons]
  by_cases e:x=n
  ·subst e
   simp only [List.lookup_cons,beq_self_eq_true] at h
   cases h
   generalize List.map _ r=r'
   show List.lookup x ((if (NameKind.free==NameKind.free&&env.scope.kind==.function&&env.kindOf x==some .cell)=true then (x,NameKind.cell) else (x,NameKind.free))::r')=_∨List.lookup x ((if (NameKind.free==NameKind.free&&env.scope.kind==.function&&env.kindOf x==some .cell)=true then (x,NameKind.cell) else (x,NameKind.free))::r')=_
   by_cases hc:(NameKind.free==NameKind.free&&env.scope.kind==.function&&env.kindOf x==some .cell)=true
   ·rw [if_pos hc];exact .inl (by simp [List.lookup_cons])
   ·rw [if_neg hc];exact .inr (by simp [List.lookup_cons])
  ·have hb:(x==n)=false:=by simpa using e
   simp only [List.lookup_cons,hb] at h
   by_cases hc:(k==NameKind.free&&env.scope.kind==.function&&env.kindOf n==some .cell)=true
   ·simp only [hc,if_true,List.lookup_cons,hb];exact ih h
   ·simp only [hc,if_false,List.lookup_cons,hb,Bool.false_eq_true];exact ih h
def wQ (X:Cx) (N':List Str) (scope:Scope) (s:Shared) (H:Hp) (fp:List Addr) (C:Addr):Cx where
 prog:=X.prog
 w:=X.w
 K:=X.K
 mg:=X.mg
 base:=X.base
 A:=X.A
 N:=N'
 s₀:=s
 H₀:=H
 env:=compEnvC scope (fV X.env scope.names []) C X.env
 outer:=X.stack
 stack:=X.stack
 ex:=fp
 fn:=fun _=>false
 calm:=X.calm
 pn:=[]
 xe:=fun _ _=>False
structure cT (N:List Str) (sc scope:Scope) (ts fr:List Str) (ix:List Nat):Prop where
 kind:scope.kind=.function
 vQ:∀ y∈scope.names,y.2≠.cell
 nms:∀ y∈scope.names,y.2=.local→scope.names.lookup y.1=some .local
 frs:∀ y∈scope.names,y.2=.free→sc.names.lookup y.1=some .cell∨sc.names.lookup y.1=some .free
 cap:fr.map some=ix.map fun i=>N[i]?
 Wd:∀ x∈fr,scope.names.lookup x=some .free
def iJ (σ:St) (k:Nat) (ix:List Nat):St:=List.replicate k none++ix.map fun i=>(σ[i]?).join
def Kp (σ σ':St):Prop:=∀ (j:Nat) (v:V),σ[j]?=some (some v)→σ'[j]?=some (some v)
theorem Kp.refl (σ:St):Kp σ σ:=fun _ _ h=>h
theorem Kp.set {σ σ1:St}{i:Nat}{x:Option V} (h:σ[i]?=some none) (q:Kp σ σ1):Kp σ (σ1.set i x):=fun j v e=>by
 by_cases hj:j=i
 ·subst hj;rw [h] at e;cases e
 ·rw [List.getElem?_set_ne (Ne.symm hj)];exact q j v e
def Vl (X:Cx) (ifs:List Expr) (t:TT):Prop :=
 ∀ (pins:List (Addr×Obj)) (s:Shared) (σ:St) (H:Hp) (Q:Bool→Hp→Prop),Inv X pins σ H s→t σ H Q →
  wpAny (model X.prog X.w) X.A (forIn ifs true fun c r=>if r=true then do let ok ← isTrue c X.env (eval c X.env);pure (ForInStep.yield ok) else pure (ForInStep.yield r)) (TP X pins σ Q) X.xe s
def Pn:TT:=fun _ H Q=>Q true H
theorem jy {σ:St}{H:Hp}{A B:Hp→Prop} (h:A H):Pn σ H (fun b H5=>if b=true then A H5 else B H5):=by
 show if true=true then A H else B H
 rw [if_pos rfl]
 exact h
theorem lR {X:Cx}:Vl X [] Pn:=fun _ _ _ H _ I h=>wpAny_tests_nil ⟨H,I,h⟩
theorem eU {X:Cx}{c:Expr}{t:TT} (h:PT X c t):Vl X [c] t:=fun pins s σ H Q I q=>wpAny_tests_one (h pins s σ H Q I q)
def lg (J:It) (D:Addr) (σ:St) (k:Nat) (ix:List Nat) (g:TG) (tt:TT) (te:TE) (Q:VK) (H1:Hp):Prop:=∃ W:Nat→Nat→List V→Hp→Prop,(∃ m,W 0 m [] (upd H1 D (.lst []))) ∧
 ∀ i m ys H2,W i m ys H2→H2 D=some (.lst ys)∧((J.stop i H2∧Q (.ref D) H2)∨(J.go i H2∧∃ N:List V→Hp→Prop,(∀ zs H',N zs H'→∃ m',m'<m∧W (i+1) m' zs H')∧∀ x H3,J.DY i H2 x H3→g x (iJ σ k ix) H3 fun σ2 H4=>Kp (iJ σ k ix) σ2 ∧
  tt σ2 H4 fun b H5=>if b=true then te σ2 H5 fun y H6=>H6 D=some (.lst ys)∧ys.length<sizeLine∧N (ys++[y]) (upd H6 D (.lst (ys++[y]))) else N ys H5))
def Ck (k:Nat) (ix:List Nat) (wi:TI) (g:TG) (tt:TT) (te:TE):TE:=fun σ H Q=>wi σ H fun J H1=>∀ D,H1 D=none→lg J D σ k ix g tt te Q H1
section
variable {X:Cx}{elt tg iter:Expr}{ifs:List Expr}{scope:Scope}{pos:Pos}{ts fr:List Str}{ix:List Nat}{wi:TI}{g:TG}{tt:TT}{te:TE}
theorem xM {σ:St}{k:Nat}{ix:List Nat}{j:Nat}{v:V} (h:(iJ σ k ix)[j]?=some (some v)):∃ a i,j=k+a∧ix[a]?=some i∧σ[i]?=some (some v):=by
 unfold iJ at h
 by_cases hj:j<k
 ·rw [List.getElem?_append_left (by simpa using hj),List.getElem?_replicate,if_pos hj] at h
  cases h
 ·rw [List.getElem?_append_right (by simpa using hj),List.length_replicate,List.getElem?_map] at h
  cases e:ix[j - k]? with
  | none=>rw [e] at h;cases h
  | some i =>
   rw [e] at h
   refine ⟨j - k,i,by omega,e,?_⟩
   have h':(σ[i]?).join=some v:=Option.some.inj h
   cases e2:σ[i]? with
   | none=>rw [e2] at h';cases h'
   | some o=>rw [e2] at h';exact congrArg some h'
theorem qp {σ:St}{k:Nat}{ix:List Nat}:(iJ σ k ix).length=k+ix.length:=by unfold iJ;simp
theorem Hs {pins:List (Addr×Obj)}{σ:St}{H:Hp}{s:Shared}{fp:List Addr}{h1:Heap}{tk:Nat}{D C:Addr} (S:cT X.N X.env.scope scope ts fr ix) (I:Inv X pins σ H s) (hf:∀ b∈fp,jx X pins H b) (hfp:∀ b∈fp,b<s.heap.objs.size)
  (hD:s.heap.objs.size≤D) (hC:s.heap.objs.size≤C) (hDC:D≠C) (hk:∀ b o,s.heap.get? b=some o→h1.get? b=some o) (ho:h1.get? D=some { cls:=.type "list",data:=.seq #[] }) {m0:Str→Option Value} (hn:h1.Ns C m0) :
  Inv (wQ X (ts++fr) scope s H fp C) [] (iJ σ ts.length ix) (upd H D (.lst [])) { s with heap:=h1,toks:=tk }:=by
 have hcl:∀ x∈scope.names,x.2=.free→(X.env.cells.lookup x.1).isSome=true:=fun x hx hfx=>by
  obtain ⟨c,hc⟩:=I.ok.has x.1 (S.frs x hx hfx)
  rw [hc];rfl
 have Ht:∀ b,s.heap.objs.size≤b→∀ x c,X.env.cells.lookup x=some c→c≠b:=fun b hb x c e z=>by
  obtain ⟨v,q⟩:=I.cell x c e
  exact absurd (Nat.lt_of_lt_of_le q.lt (by rw [z];exact hb)) (Nat.lt_irrefl _)
 have Hu:∀ x,scope.names.lookup x=some .free→∃ c,(fV X.env scope.names []).lookup x=some c∧X.env.cells.lookup x=some c:=fun x hx=>by
  obtain ⟨c,hc⟩:=pJ (env:=X.env) scope.names [] (PySem.mem_of_lookup hx)
  obtain ⟨c',hc'⟩:=jm hc
  exact ⟨c',hc',bW hcl hc'⟩
 have RT:∀ b∈fp,b∉frs X.stack:=fun b hb z=>by
  obtain ⟨_,f1,f2,_⟩:=hf b hb
  rcases List.mem_cons.mp (I.pA b z) with e | e
  ·exact f1 e
  ·exact f2 e
 have hCn:H C=none:=I.hok.fresh hC
 have hDn:H D=none:=I.hok.fresh hD
 refine ⟨⟨I.ok.mod,?_,I.ok.glob,I.ok.blt,hC,fun x y c h1 h2=>?_,fun x hx=>?_,fun x c hfx=>?_,I.ok.hd,I.ok.frames,.inl rfl,fun b hb=>⟨?_,fun x c e=>?_⟩,I.bs,Nat.le_trans I.ok.Gs I.sz,fun b o e hb=>?_,RT,I.stack,I.qG⟩,
  rfl,I.bare,Un.laid hk hD hDn,⟨m0,hn,fun i x v e1 e2 e3=>?_⟩,fun x c e=>?_,?_,fun x c e=>?_,fun p hp=>?_,I.hok.laid hk hD ⟨?_,[],0,.nil,ho⟩,?_⟩
 ·show (relabel scope X.env).kind=_
  exact S.kind
 ·exact I.ok.inj x y c (bW hcl h1) (bW hcl h2)
 ·have hx':(relabel scope X.env).names.lookup x=some .cell∨(relabel scope X.env).names.lookup x=some .free:=hx
  have hfree:scope.names.lookup x=some .free:=by
   rcases hx' with q | q
   ·obtain ⟨k,e,z⟩:=gj q
    rcases z with z | ⟨z,_⟩
    ·subst z;exact absurd rfl (S.vQ _ (PySem.mem_of_lookup e))
    ·rw [e,z]
   ·obtain ⟨k,e,z⟩:=gj q
    rcases z with z | ⟨_,z⟩
    ·rw [e,← z]
    ·cases z
  obtain ⟨c,hc,_⟩:=Hu x hfree
  exact ⟨c,hc⟩
 ·exact absurd (show false=true from hfx) (by decide)
 ·exact Nat.ne_of_lt (Nat.lt_of_lt_of_le (hfp b hb) hC)
 ·exact (hf b hb).2.2.2.2.1 x c (bW hcl e)
 ·have f:=hf b hb
  rcases f.2.2.2.1 with z | z
  ·exact I.ok.vI b o e z
  ·exact absurd (Nat.lt_of_lt_of_le (Heap.lt_size (I.ok.bs b o e).1) z) (Nat.lt_irrefl _)
 ·obtain ⟨a,i',hj,hi,hσ⟩:=xM e2
  subst hj
  have e1':(ts++fr)[ts.length+a]?=some x:=e1
  rw [List.getElem?_append_right (by omega),Nat.add_sub_cancel_left] at e1'
  have hN:X.N[i']?=some x:=by
   have q:=congrArg (fun l=>l[a]?) S.cap
   simp only [List.getElem?_map,e1',hi] at q
   exact (Option.some.inj q).symm
  have hfree:=S.Wd x (List.mem_of_getElem? e1')
  have hk':=S.frs (x,.free) (PySem.mem_of_lookup hfree) rfl
  obtain ⟨m,hnm,hl⟩:=I.loc
  obtain ⟨u,r,lk⟩:=hl i' x v hN hσ (.inr hk')
  refine ⟨u,r,?_⟩
  obtain ⟨c,hc,hc'⟩:=Hu x hfree
  rcases lk with ⟨z,_⟩ | ⟨_,c2,e4,z⟩
  ·have z':X.env.scope.names.lookup x=some .local:=z
   rcases hk' with y | y
   ·have y':X.env.scope.names.lookup x=some .cell:=y
    rw [z'] at y';cases y'
   ·have y':X.env.scope.names.lookup x=some .free:=y
    rw [z'] at y';cases y'
  ·have hcc:c2=c:=Option.some.inj (e4.symm.trans hc')
   rw [hcc] at z
   obtain ⟨o,ho2,hd2⟩:=z
   exact .inr ⟨nY hfree,c,hc,o,hk _ _ ho2,hd2⟩
 ·obtain ⟨v,o,ho2,hd2⟩:=I.cell x c (bW hcl e)
  exact ⟨v,o,hk _ _ ho2,hd2⟩
 ·show upd H D (.lst []) C=none
  rw [ao (Ne.symm hDC)];exact hCn
 ·show upd H D (.lst []) c=none
  rw [ao (Ht D hD x c (bW hcl e))]
  exact I.fY x c (bW hcl e)
 ·exact absurd (show p∈([]:List (Addr×Obj)) from hp) (by simp)
 ·exact Nat.zero_le _
 ·have e:=congrArg List.length S.cap
  simp only [List.length_map] at e
  rw [qp]
  show _=(ts++fr).length
  rw [List.length_append,e]
theorem uy {pins:List (Addr×Obj)}{σ:St}{H:Hp}{s:Shared}{Q:VK}{use:Option (Value→Sem Unit)}{Qv:Value→Shared→Prop} (hc:X.calm=true) (S:cT X.N X.env.scope scope ts fr ix) (hi:PI X tg iter wi)
  (hb:∀ s H fp C,PG (wQ X (ts++fr) scope s H fp C) tg g∧Vl (wQ X (ts++fr) scope s H fp C) ifs tt∧PE (wQ X (ts++fr) scope s H fp C) elt te)
  (hs:∀ x,foldedSetIterable iter X.env x=pure x) (I:Inv X pins σ H s) (h:Ck ts.length ix wi g tt te σ H Q)
  (fin:∀ (D C:Addr) (H':Hp) (s':Shared),Inv X pins σ H' s'→jx X pins H' C→(∃ m,s'.heap.Ns C m)→Q (.ref D) H'→compPost (model X.prog X.w) X.A X.xe use Qv (.ref D) C (.ok .next) s') :
  wpAny (model X.prog X.w) X.A (comprehension (.ListComp elt [⟨tg,iter,ifs,0⟩] scope pos) scope X.env (firstIterPos [⟨tg,iter,ifs,0⟩] pos) (newList []) false (eval iter X.env) use) Qv X.xe s:=by
 have hcl:∀ x∈scope.names,x.2=.free→(X.env.cells.lookup x.1).isSome=true:=fun x hx hfx=>by
  obtain ⟨c,hc⟩:=I.ok.has x.1 (S.frs x hx hfx)
  rw [hc];rfl
 refine wpAny_comprehension_free (use:=use) rfl hs (jW hcl) S.kind S.nms (cN (hi pins s σ H _ I h) fun v s1 h1=>cN h1 fun itv s2 h2=>?_)
 obtain ⟨it,fp,tn,J,H2,rfl,I2,T,st2,f2,hW⟩:=h2
 refine wpAny_newObj_type (wpAny_newFunctionEnv S.vQ (by intro y hy;simp at hy) (fun h₁ hns₁ hsb₁=>?_) S.kind)
 dsimp only at hns₁ hsb₁ ⊢
 generalize hH2:s2.heap.push { cls:=.type "list",dict:=none,data:=.seq ([]:List Value).toArray }=G2 at hns₁ hsb₁ ⊢
 have RV:G2.objs.size=s2.heap.objs.size+1:=by rw [← hH2,Heap.size_push]
 have hDC:s2.heap.objs.size≠G2.objs.size:=by rw [RV];exact Nat.ne_of_lt (Nat.lt_succ_self _)
 have hCle:s2.heap.objs.size≤G2.objs.size:=by rw [RV];exact Nat.le_succ _
 have old:∀ b o,s2.heap.get? b=some o→h₁.get? b=some o:=fun b o e=>hsb₁.extBut b o (by rw [RV];exact Nat.ne_of_lt (Nat.lt_succ_of_lt (Heap.lt_size e))) (Heap.get?_push_of_some _ (hH2 ▸ Heap.get?_push_of_some _ e))
 have hacc:h₁.get? s2.heap.objs.size=some { cls:=.type "list",data:=.seq #[] }:=hsb₁.extBut _ _ hDC (Heap.get?_push_of_some _ (hH2 ▸ Heap.get?_push_size _ rfl))
 have hfp:∀ b∈fp,b<s2.heap.objs.size:=fun b hb'=>by
  obtain ⟨o,e,_⟩:=T.obj _ _ st2 b hb'
  exact Heap.lt_size e
 have IC:Inv (wQ X (ts++fr) scope s2 H2 fp G2.objs.size) [] (iJ σ ts.length ix) (upd H2 s2.heap.objs.size (.lst [])) { s2 with heap:=h₁,toks:=s2.toks+([]:List (Str×Value)).length } :=
  Hs S I2 f2 hfp (Nat.le_refl _) hCle hDC old hacc hns₁
 have st1:tn 0 h₁:=T.keep _ _ _ st2 fun b hb' o e=>old b o e
 obtain ⟨W,⟨m0,w0⟩,turn⟩:=hW s2.heap.objs.size I2.fresh
 obtain ⟨bg,bt,be⟩:=hb s2 H2 fp G2.objs.size
 generalize hX:wQ X (ts++fr) scope s2 H2 fp G2.objs.size=Y at IC bg bt be
 have eP:Y.prog=X.prog:=by rw [← hX];rfl
 have eW:Y.w=X.w:=by rw [← hX];rfl
 have eK:Y.K=X.K:=by rw [← hX];rfl
 have eC:Y.calm=true:=by rw [← hX];exact hc
 have eA:Y.A=X.A:=by rw [← hX];rfl
 have eE:Y.env=compEnvC scope (fV X.env scope.names []) G2.objs.size X.env:=by rw [← hX];rfl
 have eX:Y.xe=fun _ _=>False:=by rw [← hX];rfl
 have stat:∀ {H':Hp},(∀ b∈fp,H' b=none)→∀ b∈fp,jx Y [] H' b:=fun hn b hb'=>by
  rw [← hX]
  have z:=IC.ok
  rw [← hX] at z
  refine ⟨hn b hb',(z.Pb b hb').1,z.wV b hb',.inl hb',(z.Pb b hb').2,fun p hp=>absurd (show p∈([]:List (Addr×Obj)) from hp) (by simp)⟩
 have fr0:∀ b∈fp,upd H2 s2.heap.objs.size (.lst []) b=none:=fun b hb'=>by rw [ao (Nat.ne_of_lt (hfp b hb'))];exact (f2 b hb').1
 have bot:∀ {α:Type}{t:Sem α}{R:α→Shared→Prop}{E:Value→Shared→Prop}{z:Shared},wpAny (model Y.prog Y.w) Y.A t R Y.xe z→wpAny (model X.prog X.w) X.A t R E z:=fun {α t R E z} q=>by
  rw [eP,eW,eA,eX] at q
  exact wpAny_mono q (fun _ _ y=>y) fun _ _ y=>y.elim
 have loop:codeAny (model X.prog X.w) X.A (.compLoop (.ListComp elt [⟨tg,iter,ifs,0⟩] scope pos) 0 (.ref it) (.ref s2.heap.objs.size) (compEnvC scope (fV X.env scope.names []) G2.objs.size X.env))
   (compPost (model X.prog X.w) X.A X.xe use Qv (.ref s2.heap.objs.size) G2.objs.size) { s2 with heap:=h₁,toks:=s2.toks+([]:List (Str×Value)).length }:=by
  rw [← eE]
  refine codeAny_loop rfl (fun n s'=>∃ i ys H',Inv Y [] (iJ σ ts.length ix) H' s'∧tn i s'.heap∧(∀ b∈fp,H' b=none)∧W i n ys H') (fun n s3 hI=>?_) m0 ⟨0,[],_,IC,st1,fr0,w0⟩
  obtain ⟨i,ys,H3,I3,st3,Kz,w3⟩:=hI
  show wpAny _ _ ((compTurn (.ListComp elt [⟨tg,iter,ifs,0⟩] scope pos) 0 (.ref it) (.ref s2.heap.objs.size) Y.env).onRaise (fun x=>do noteFrame x Y.env;theTreesLotGoes x)) _ _ s3
  refine wpAny_noted ?_
  rw [compTurn_list]
  obtain ⟨hD3,hcase⟩:=turn i n ys H3 w3
  rcases hcase with ⟨stop,qn⟩ | ⟨go,N,hN,step⟩
  ·have q:=T.done Y eP eW eK eC i [] s3 _ H3 (fun _ _=>False) I3 (stat Kz) st3 stop
   rw [eA] at q
   refine wpAny_bind (wpAny_standAt (wpAny_bind (wpAny_mono q (fun r s4 ⟨hr,I4⟩=>?_) fun _ _ y=>y.elim)))
   subst hr
   refine wpAny_pure ?_
   have b4:Un (frs X.stack) fp H2 H3 s2.heap s4.heap:=by have z:=I4.base;rw [← hX] at z;exact z
   have ok4:jX X.prog X.w H3 s4.heap:=by have z:=I4.hok;rw [eP,eW] at z;exact z
   have os4:s4.os=s2.os:=by have z:=I4.os;rw [← hX] at z;exact z
   have I5:Inv X pins σ H3 s4:=I2.call' os4 b4 ok4 I4.bare fun b hb'=>⟨(f2 b hb').2.2.2.1,(f2 b hb').2.1,(f2 b hb').2.2.2.2.1,(f2 b hb').2.2.2.2.2⟩
   have fC:H3 G2.objs.size=none:=by have z:=I4.free;rw [eE] at z;exact z
   have nC:∃ m,s4.heap.Ns G2.objs.size m:=by obtain ⟨m,z,_⟩:=I4.loc;rw [eE] at z;exact ⟨m,z⟩
   exact fin _ _ H3 s4 I5 (I2.tR hCle fC) nC qn
  ·have q:=T.item Y eP eW eK eC i [] s3 _ H3 (fun _ _=>False) I3 (stat Kz) st3 go
   rw [eA] at q
   refine wpAny_bind (wpAny_standAt (wpAny_bind (wpAny_mono q (fun r s4 ⟨u,hr,h4⟩=>?_) fun _ _ y=>y.elim)))
   subst hr
   refine wpAny_bind (wpAny_mono h4 (fun _ s5 ⟨x,H5,I5,r5,y5,GK,Ry⟩=>?_) fun _ _ y=>y.elim)
   have W0:=I5.pinned (stat Ry) (T.obj _ _ GK)
   refine wpAny_bind (bot (cN (bg _ s5 _ H5 x u _ W0 r5 (step x H5 y5)) fun _ s6 ⟨σ6,H6,I6,kp6,q6⟩=>?_))
   refine wpAny_bind (bot (cN (bt _ s6 σ6 H6 _ I6 q6) fun ok s7 ⟨H7,I7,q7⟩=>?_))
   have again:∀ {H8:Hp}{s8:Shared}{zs:List V}{m':Nat},Inv Y ([]++pD fp s5.heap) σ6 H8 s8→m'<n→W (i+1) m' zs H8→∃ m,m<n∧∃ i ys H',Inv Y [] (iJ σ ts.length ix) H' s8∧tn i s8.heap∧(∀ b∈fp,H' b=none)∧W i m ys H':=fun {H8 s8 zs m'} I8 hm w8=>by
    refine ⟨m',hm,i+1,zs,H8,(I8.kO).weak ?_ kp6,T.keep _ _ _ GK fun b hb' o e=>(I8.pin (b,o) (List.mem_append_right _ (List.mem_append_right _ (gJ hb' e)))).1,fun b hb'=>?_,w8⟩
    ·rw [I8.len,I3.len]
    ·obtain ⟨o,e,d⟩:=T.obj _ _ GK b hb'
     exact (I8.pin (b,o) (List.mem_append_right _ (List.mem_append_right _ (gJ hb' e)))).2.1
   cases ok with
   | false =>
    rw [if_neg (by decide)] at q7
    obtain ⟨m',hm,w8⟩:=hN _ _ q7
    exact wpAny_pure ⟨rfl,again I7 hm w8⟩
   | true =>
    rw [if_pos rfl] at q7
    refine wpAny_bind (wpAny_bind (bot (cN (be _ s7 σ6 H7 _ I7 q7) fun u8 s8 ⟨y8,H8,I8,r8,hD8,hz,n8⟩=>?_)))
    obtain ⟨m',hm,w8⟩:=hN _ _ n8
    refine wpAny_bind (bot (cN (fU _ s8 σ6 H8 (.ref s2.heap.objs.size) [y8] _ [u8] (fun _ H9=>H9=upd H8 s2.heap.objs.size (.lst (ys++[y8]))) I8 rfl (.cons r8 .nil) ⟨_,ys,y8,rfl,rfl,hD8,hz,rfl⟩) fun _ s9 ⟨_,H9,I9,_,e9⟩=>?_))
    subst e9
    exact wpAny_pure (wpAny_pure ⟨rfl,again I9 hm w8⟩)
 exact codeAny_compStart_list loop (T.self _ 0 _ _ _ st1 loop)
theorem fJ (hc:X.calm=true) (S:cT X.N X.env.scope scope ts fr ix) (hi:PI X tg iter wi)
  (hb:∀ s H fp C,PG (wQ X (ts++fr) scope s H fp C) tg g∧Vl (wQ X (ts++fr) scope s H fp C) ifs tt∧PE (wQ X (ts++fr) scope s H fp C) elt te)
  (hs:∀ x,foldedSetIterable iter X.env x=pure x:=by intro _;rfl):PE X (.ListComp elt [⟨tg,iter,ifs,0⟩] scope pos) (Ck ts.length ix wi g tt te):=by
 intro pins s σ H Q I h
 rw [eval_ListComp]
 refine uy (use:=none) (Qv:=EP X pins σ Q) hc S hi hb hs I h fun D C H' s' I' f' n' q'=>?_
 obtain ⟨m,hm⟩:=n'
 refine ⟨m,hm,fun h' sb=>⟨.ref D,H',?_,rfl,q'⟩⟩
 exact I'.turned (t':=s'.toks) (fun b o hb' e=>(sb.2 b hb').trans e) f'.1 f'.2.1 f'.2.2.2.1 f'.2.2.2.2.1 f'.2.2.2.2.2
theorem lU {i:Nat}{x:Str}{pos' pos2:Pos} (hc:X.calm=true) (S:cT X.N X.env.scope scope ts fr ix) (hi:PI X tg iter wi)
  (hb:∀ s H fp C,PG (wQ X (ts++fr) scope s H fp C) tg g∧Vl (wQ X (ts++fr) scope s H fp C) ifs tt∧PE (wQ X (ts++fr) scope s H fp C) elt te)
  (hN:X.N.Nodup) (hix:X.N[i]?=some x) (hx:Loc X.env.scope x)
  (hw:swapsWith (.ListComp elt [⟨tg,iter,ifs,0⟩] scope pos) (some (.Name x pos')) pos2.line X.env=pure true:=by rfl)
  (hf:X.fn x=true∨X.env.scope.names.lookup x=some .local:=by first | exact .inl rfl | exact .inr rfl | assumption)
  (hs:∀ x,foldedSetIterable iter X.env x=pure x:=by intro _;rfl) :
  PS X (.Assign [.Name x pos'] (.ListComp elt [⟨tg,iter,ifs,0⟩] scope pos) pos2) (fun D σ H=>Ck ts.length ix wi g tt te σ H fun v H'=>D.nx (σ.set i (some v)) H'):=by
 intro pins s σ H D I h
 rw [exec_Assign_Name_used _ _ _ _ hw]
 refine wpAny_bind (wpAny_standAt (wpAny_bind ?_))
 show wpAny _ X.A (do let _ ← comprehension (.ListComp elt [⟨tg,iter,ifs,0⟩] scope pos) scope X.env _ (newList []) false (eval iter X.env) (some (assign (.Name x pos') X.env))) _ _ s
 refine wpAny_bind (wpAny_mono (uy (use:=some (assign (.Name x pos') X.env)) (Qv:=fun _ s'=>SP X pins D .next s') hc S hi hb hs I h fun D' C H' s' I' f' n' q'=>?_) (fun _ s' hq=>wpAny_pure (wpAny_pure hq)) fun _ _ e=>e)
 obtain ⟨m,hm⟩:=n'
 refine wpAny_assign_Name (u0 I' hN hix hx (v:=.ref D') rfl (fun s'' I'' ⟨a,sb,ha⟩=>?_) hf)
 have hCa:C≠a:=by
  rcases ha with rfl | ha
  ·exact f'.2.1
  ·exact fun z=>f'.2.2.2.2.1 _ _ ha z.symm
 refine ⟨m,hm.sameBut sb hCa,fun h' sb'=>⟨_,H',?_,q'⟩⟩
 exact I''.turned (t':=s''.toks) (fun b o hb' e=>(sb'.2 b hb').trans e) f'.1 f'.2.1 f'.2.2.2.1 f'.2.2.2.2.1 f'.2.2.2.2.2
end
abbrev uz (D:Addr) (σ:St) (k:Nat) (ix:List Nat) (g:TG) (tt:TT) (te:TE) (x:V) (ys:List V) (H:Hp) (N:List V→Hp→Prop):Prop :=
 g x (iJ σ k ix) H fun σ2 H4=>Kp (iJ σ k ix) σ2∧tt σ2 H4 fun b H5=>if b=true then te σ2 H5 fun y H6=>H6 D=some (.lst ys)∧ys.length<sizeLine∧N (ys++[y]) (upd H6 D (.lst (ys++[y]))) else N ys H5
theorem qJ {J:It}{n:Nat}{item:Nat→V}{D:Addr}{σ:St}{k:Nat}{ix:List Nat}{g:TG}{tt:TT}{te:TE}{Q:VK}{H1:Hp} (Pv:Nat→List V→Hp→Prop)
  (hJ:∀ i ys H,Pv i ys H→(i<n→J.go i H∧∀ x H',J.DY i H x H'→H'=H∧x=item i)∧(n≤i→J.stop i H)) (h0:Pv 0 [] (upd H1 D (.lst []))) (hD:∀ i ys H,Pv i ys H→H D=some (.lst ys))
  (hs:∀ i ys H,i<n→Pv i ys H→uz D σ k ix g tt te (item i) ys H (Pv (i+1))) (hd:∀ ys H,Pv n ys H→Q (.ref D) H):lg J D σ k ix g tt te Q H1:=by
 refine ⟨fun i m ys H=>m=n - i∧i≤n∧Pv i ys H,⟨n,by simp,Nat.zero_le _,h0⟩,?_⟩
 rintro i m ys H ⟨rfl,hi,p⟩
 refine ⟨hD i ys H p,?_⟩
 obtain ⟨h1,h2⟩:=hJ i ys H p
 by_cases hlt:i<n
 ·obtain ⟨hg,hy⟩:=h1 hlt
  refine .inr ⟨hg,Pv (i+1),fun zs H' p'=>⟨n - (i+1),by omega,rfl,hlt,p'⟩,fun x H' y=>?_⟩
  obtain ⟨rfl,rfl⟩:=hy x H' y
  exact hs i ys H' hlt p
 ·have e:i=n:=by omega
  subst e
  exact .inl ⟨h2 (Nat.le_refl _),hd ys H p⟩
theorem zL {lo:Int}{n:Nat}{D:Addr}{σ:St}{k:Nat}{ix:List Nat}{g:TG}{tt:TT}{te:TE}{Q:VK}{H1:Hp} (Pv:Nat→List V→Hp→Prop) (h0:Pv 0 [] (upd H1 D (.lst []))) (hD:∀ i ys H,Pv i ys H→H D=some (.lst ys))
  (hs:∀ i ys H,i<n→Pv i ys H→uz D σ k ix g tt te (.int (lo+i)) ys H (Pv (i+1))) (hd:∀ ys H,Pv n ys H→Q (.ref D) H):lg (Rx lo n) D σ k ix g tt te Q H1 :=
 qJ (item:=fun i=>.int (lo+i)) Pv (fun i ys H _=>⟨fun h=>⟨h,fun x H' y=>y⟩,fun h=>h⟩) h0 hD hs hd
theorem El {K:PySem.W.Frag}{a:Addr}{xs:List V}{D:Addr}{σ:St}{k:Nat}{ix:List Nat}{g:TG}{tt:TT}{te:TE}{Q:VK}{H1:Hp} (Pv:Nat→List V→Hp→Prop) (hl:∀ i ys H,Pv i ys H→bR K H a xs) (h0:Pv 0 [] (upd H1 D (.lst []))) (hD:∀ i ys H,Pv i ys H→H D=some (.lst ys))
  (hs:∀ i ys H x,xs[i]?=some x→Pv i ys H→uz D σ k ix g tt te x ys H (Pv (i+1))) (hd:∀ ys H,Pv xs.length ys H→Q (.ref D) H):lg (Rv K a) D σ k ix g tt te Q H1 :=
 qJ (n:=xs.length) (item:=fun i=>xs.getD i .non) Pv (fun i ys H p=>⟨fun h=>⟨⟨xs,xs[i],hl i ys H p,by simp [h]⟩,fun x H' y=>⟨y.1,by
  have:=y.2 xs (hl i ys H p)
  rw [List.getD_eq_getElem?_getD,this];rfl⟩⟩,fun h=>⟨xs,hl i ys H p,h⟩⟩) h0 hD (fun i ys H h p=>hs i ys H _ (by rw [List.getD_eq_getElem?_getD,List.getElem?_eq_getElem h];rfl) p) hd
end L2
namespace L2
open PySem PySem.Spec PyProof.Rows
abbrev gH (l:List Nat):Str:=⟨l.toArray⟩
theorem lq (x:Str):gH x.cps.toList=x:=by cases x;simp [gH]
theorem iK (l:List Nat):(gH l).length=l.length:=by simp [gH,Str.length]
theorem qK {x y:Str} (h:x.cps.toList=y.cps.toList):x=y:=by
 rw [← lq x,← lq y,h]
def qC {α:Type} (xs:List α) (lo hi:Option Int):List α:=(xs.drop (HT.eY xs.length 0 lo)).take (HT.eY xs.length xs.length hi - HT.eY xs.length 0 lo)
theorem rN (lo hi:Option Int) (n:Nat):Builtin.Str.strSliceIndices lo hi 1 n=(List.range (HT.eY n n hi - HT.eY n 0 lo)).map (HT.eY n 0 lo+·):=by
 rw [← sliceRange_one]
 unfold Builtin.Str.strSliceIndices
 simp only [show (1:Int) > 0 by decide,if_true]
 congr 1
 ·cases lo with
  | none=>simp [HT.eY]
  | some i=>simp only [HT.eY];by_cases h:i<0 <;> simp only [h,if_true,if_false] <;> omega
 ·cases hi with
  | none=>simp [HT.eY]
  | some i=>simp only [HT.eY];by_cases h:i<0 <;> simp only [h,if_true,if_false] <;> omega
theorem zM (x:Str) (lo hi:Option Int):Txt.slice x lo hi=gH (qC x.cps.toList lo hi):=by
 have e:(Builtin.Str.strSliceIndices lo hi 1 x.length).filterMap (x.cps[·]?)=qC x.cps.toList lo hi:=by
  rw [rN,pick_run]
  unfold qC
  simp only [Str.length,Array.length_toList]
 unfold Txt.slice
 split
 ·rename_i h
  have hl:(Builtin.Str.strSliceIndices lo hi 1 x.length).length=x.length:=by simpa using h
  have h1:qC x.cps.toList lo hi=x.cps.toList:=by
   rw [rN,List.length_map,List.length_range] at hl
   have hn:x.length=x.cps.toList.length:=by simp [Str.length]
   rw [hn] at hl
   have b1:=HT.Hg x.cps.toList.length x.cps.toList.length (Nat.le_refl _) hi
   unfold qC
   by_cases h0:HT.eY x.cps.toList.length 0 lo=0
   ·rw [h0,List.drop_zero,List.take_of_length_le (by omega)]
   ·have:x.cps.toList.length=0:=by omega
    have h2:x.cps.toList=[]:=List.length_eq_zero_iff.mp this
    rw [h2];simp
  rw [h1,lq]
 ·rw [e]
section
variable {X:Cx}
def rSlS:V→Option Int→Option Int→Hp→VK→Prop:=fun x lo hi H Q=>∃ z,x=.str z∧z.length≤sizeLine∧Q (.str (gH (qC z.cps.toList lo hi))) H
theorem HB:SlR X rSlS:=by
 intro pins s σ H x v vl vu lo hi sl Q I rx hs pl pu h
 obtain ⟨z,rfl,hzl,q⟩:=h
 obtain ⟨t,rfl⟩:=rx
 obtain ⟨l,rfl,el⟩:∃ l:Option (Int×Tok),vl=partValue l∧l.map (·.1)=lo:=by
  cases pl with
  | none=>exact ⟨none,rfl,rfl⟩
  | int i t=>exact ⟨some (i,t),rfl,rfl⟩
 obtain ⟨u,rfl,eu⟩:∃ l:Option (Int×Tok),vu=partValue l∧l.map (·.1)=hi:=by
  cases pu with
  | none=>exact ⟨none,rfl,rfl⟩
  | int i t=>exact ⟨some (i,t),rfl,rfl⟩
 subst el eu
 refine ⟨"str",_,F.slot_str_getitem.lookup,typeIs_str s z t,wpAny_getItem_str_slice (l:=l) (u:=u) (st:=none) hs rfl ?_⟩
 have e:=zM z (l.map (·.1)) (u.map (·.1))
 unfold Txt.slice at e
 unfold sliceMade
 have hp:slicePicked z l u none=Builtin.Str.strSliceIndices (l.map (·.1)) (u.map (·.1)) 1 z.length:=rfl
 rw [hp]
 have h1:(((none:Option (Int×Tok)).map (·.1)).getD 1==1&&(Builtin.Str.strSliceIndices (l.map (·.1)) (u.map (·.1)) 1 z.length).length==z.length)=((1:Int)==1&&(Builtin.Str.strSliceIndices (l.map (·.1)) (u.map (·.1)) 1 z.length).length==z.length):=rfl
 rw [h1]
 by_cases hc:((1:Int)==1&&(Builtin.Str.strSliceIndices (l.map (·.1)) (u.map (·.1)) 1 z.length).length==z.length)=true
 ·rw [if_pos hc] at e ⊢
  exact ⟨.str z,H,I,⟨t,rfl⟩,by rw [← e] at q;exact q⟩
 ·rw [if_neg hc] at e ⊢
  rw [← e] at q
  refine ⟨?_,⟨.str _,H,I.tok _,⟨_,rfl⟩,q⟩⟩
  have hle:=Txt.slice_le z (l.map (·.1)) (u.map (·.1))
  unfold Txt.slice at hle
  rw [if_neg hc] at hle
  exact Nat.le_trans hle hzl
def Its (x:Str):It:=⟨fun i _=>i<x.cps.toList.length,fun i H v H'=>H'=H∧∃ c,x.cps.toList[i]?=some c∧v=.str (gH [c]),fun i _=>x.cps.toList.length≤i⟩
theorem xO {P:Program}{w:World}{K:PySem.W.Frag}{tg:Expr} (it:Addr) (x:Str) (t:Tok) (ty:String)
  (hn:["enumerate", "zip", "dict_itemiterator", "dict_reverseitemiterator", "odict_iterator", "itertools.zip_longest", "itertools.pairwise"].contains ty=false)
  (W:∀ A':Around,A'.handled=none→Walks P w A' it [it] [it] x.cps.size (SignAt x) (fun i h=>h.IsStrIter it ty x t i))
  (hself:∀ (A:Around) (i:Nat) (s:Shared) (Q:Value→Shared→Prop) (E:Value→Shared→Prop),s.heap.IsStrIter it ty x t i→Q (.ref it) s→wpAny (model P w) A (pyIter (.ref it)) Q E s)
  (hend:∀ (A:Around) (i:Nat) (s:Shared) (Q:Option Value→Shared→Prop) (E:Value→Shared→Prop),A.handled=none→s.heap.IsStrIter it ty x t i→x.cps[i]?=none→(∀ h',Heap.ExtBut it s.heap h'→Q none { s with heap:=h' })→wpAny (model P w) A (pyNext (.ref it)) Q E s) :
  Turn P w K tg (Its x) [it] it (fun i h=>h.IsStrIter it ty x t i) where
 mem:=by simp
 obj:=fun i h st b hb=>by
  have e:b=it:=by simpa using hb
  subst e
  obtain ⟨o,e,c,d⟩:=st
  exact ⟨o,e,fun v z=>by rw [d] at z;cases z⟩
 keep:=fun i h h' st k=>by
  obtain ⟨o,e,r⟩:=st
  exact ⟨o,k it (by simp) o e,r⟩
 item:=by
  intro X hP hw hK hc i pins s σ H E I hf st hg
  subst hP hw hK
  obtain ⟨f0,f1,f2,f3,f4,f5⟩:=hf it (by simp)
  have hg':i<x.cps.toList.length:=hg
  have hi:i<x.cps.size:=by simpa using hg'
  refine (W X.A (I.ok.hd hc)).item i s _ _ hi st fun v h' tk hv st' kk=>?_
  obtain ⟨c,u,hcx,rfl⟩:=hv
  have I1:Inv X pins σ H { s with heap:=h',toks:=tk }:=I.turned (fun b o hb e=>kk b o (by simpa using hb) e) f0 f1 f3 f4 f5
  obtain ⟨o,e,cc,d⟩:=id st'
  refine ⟨_,rfl,xg (s:={ s with heap:=h',toks:=tk }) e cc d hn ⟨.str (gH [c]),H,I1,⟨u,rfl⟩,⟨rfl,c,by simpa using hcx,rfl⟩,st',fun b hb=>(hf b hb).1⟩⟩
 done:=by
  intro X hP hw hK hc i pins s σ H E I hf st hg
  subst hP hw hK
  obtain ⟨f0,f1,f2,f3,f4,f5⟩:=hf it (by simp)
  have hg':x.cps.toList.length≤i:=hg
  have hi:x.cps.size≤i:=by simpa using hg'
  have hnone:x.cps[i]?=none:=by simpa using hi
  exact hend X.A i s _ _ (I.ok.hd hc) st hnone fun h' eb=>⟨rfl,I.turned (t':=s.toks) (fun b o hb e=>eb b o hb e) f0 f1 f3 f4 f5⟩
 self:=fun A i s Q E st h=>hself A i s Q E st h
def iStr (tl:TE):TI:=fun σ H R=>tl σ H fun x H1=>∃ z,x=.str z∧R (Its z) H1
theorem RW {tg l:Expr}{tl:TE} (hl:PE X l tl):PI X tg l (iStr tl):=by
 intro pins s σ H R I h
 refine cN (hl pins s σ H _ I h) fun v s1 ⟨x,H1,I1,r1,q1⟩=>?_
 obtain ⟨z,rfl,q⟩:=q1
 obtain ⟨t,rfl⟩:=r1
 have fin:∀ ty:String,Turn X.prog X.w X.K tg (Its z) [s1.heap.objs.size] s1.heap.objs.size (fun i h=>h.IsStrIter s1.heap.objs.size ty z t i) →
   PIE X pins σ tg R (.ref s1.heap.objs.size) { s1 with heap:=s1.heap.push { cls:=.type ty,data:=.fields #[.str z t,.int 0 0] } }:=fun ty T=>by
  refine ⟨s1.heap.objs.size,[s1.heap.objs.size],_,_,H1,rfl,I1.kept (t':=s1.toks) fun b o e=>Heap.get?_push_of_some _ e,T,⟨_,Heap.get?_push_size _ rfl,rfl,rfl⟩,fun b hb=>?_,q⟩
  have e:b=s1.heap.objs.size:=by simpa using hb
  subst e
  exact I1.tR (Nat.le_refl _) (I1.hok.fresh (Nat.le_refl _))
 cases ha:z.cps.all (·<128)
 ·exact wpAny_pyIter_wide ha (fin _ (xO _ z t _ (by decide) (fun A' hA=>Walks.strWide hA _ z t) (fun A i s Q E st h=>wpAny_pyIter_striter_wide st h) fun A i s Q E hh st hx hQ=>wpAny_pyNext_wide_end hh st hx hQ))
 ·exact wpAny_pyIter_ascii ha (fin _ (xO _ z t _ (by decide) (fun A' hA=>Walks.strAscii hA _ z t) (fun A i s Q E st h=>wpAny_pyIter_striter_ascii st h) fun A i s Q E hh st hx hQ=>wpAny_pyNext_ascii_end hh st hx hQ))
theorem HD {x:Str}{D:Addr}{σ:St}{k:Nat}{ix:List Nat}{g:TG}{tt:TT}{te:TE}{Q:VK}{H1:Hp} (Pv:Nat→List V→Hp→Prop) (h0:Pv 0 [] (upd H1 D (.lst []))) (hD:∀ i ys H,Pv i ys H→H D=some (.lst ys))
  (hs:∀ i ys H c,x.cps.toList[i]?=some c→Pv i ys H→uz D σ k ix g tt te (.str (gH [c])) ys H (Pv (i+1))) (hd:∀ ys H,Pv x.cps.toList.length ys H→Q (.ref D) H):lg (Its x) D σ k ix g tt te Q H1 :=
 qJ (n:=x.cps.toList.length) (item:=fun i=>.str (gH [x.cps.toList.getD i 0])) Pv (fun i ys H p=>⟨fun h=>⟨h,fun v H' y=>by
  obtain ⟨e,c,hc,rfl⟩:=y
  exact ⟨e,by rw [List.getD_eq_getElem?_getD,hc];rfl⟩⟩,fun h=>h⟩) h0 hD (fun i ys H h p=>hs i ys H _ (by rw [List.getD_eq_getElem?_getD,List.getElem?_eq_getElem h];rfl) p) hd
theorem uD:∀ {ts:List Str}{us:List Value},Vals (ts.map V.str) us→∃ l:List (Str×Tok),us=strValues l∧l.map (·.1)=ts
 | [],_,r=>by
  rw [List.map_nil] at r
  cases r
  exact ⟨[],rfl,rfl⟩
 | t::ts,_,r=>by
  rw [List.map_cons] at r
  cases r with
  | cons r1 r2 =>
   obtain ⟨k,rfl⟩:=r1
   obtain ⟨l,rfl,e⟩:=uD r2
   exact ⟨(t,k)::l,rfl,by rw [List.map_cons,e]⟩
def rJoin (K:PySem.W.Frag):V→List V→Hp→VK→Prop:=fun x vs H Q=>∃ sep l ts,x=.str sep∧vs=[.ref l]∧bR K H l (ts.map V.str)∧JoinOk sep ts=true∧Q (.str (Txt.join sep ts)) H
theorem Lr:MtR X "str.join" (rJoin X.K):=by
 intro pins s σ H x vs v us Q I rx rv h
 obtain ⟨sep,l,ts,rfl,rfl,hq,ok,q⟩:=h
 obtain ⟨t,rfl⟩:=rx
 obtain ⟨u,rfl,ru⟩:=rv.one
 cases ru
 obtain ⟨its,r,p,hz⟩:=I.list hq
 obtain ⟨l',rfl,el⟩:=uD r
 exact SC.join p.isList el ok fun t' k=>⟨.str _,H,I.tok _,⟨_,rfl⟩,q⟩
theorem zN (hc:X.calm=true) (hin:X.A.in1.handled=none):fM X (.builtin "all") (fun xs H Q=>∃ (p:Addr) (bs:List Bool),xs=[.ref p]∧bR X.K H p (bs.map V.bl)∧Q (.bl (bs.all id)) H):=by
 intro pins s σ H xs us Q I r h
 obtain ⟨p,bs,rfl,hq,q⟩:=h
 obtain ⟨u,rfl,ru⟩:=vals1 r
 cases ru
 obtain ⟨its,rv,pl,hz⟩:=I.list hq
 have hlen:=rv.length
 rw [List.length_map] at hlen
 have hne:p≠s.heap.objs.size:=by
  obtain ⟨o,n,e,_⟩:=pl
  exact Nat.ne_of_lt (Heap.lt_size e)
 refine call_all_walk (wpAny_pyIter_list pl.isList ?_)
 refine ⟨s.heap.objs.size,_,_,its.toArray.size,_,_,fun i=>bs.getD i true,rfl,Walks.list hin s.heap.objs.size p hne its.toArray,⟨⟨_,Heap.get?_push_size _ rfl,rfl,rfl⟩,?_⟩,?_,?_⟩
 ·obtain ⟨o,n,e,c,d,dd⟩:=pl
  exact ⟨o,Heap.get?_push_of_some _ e,c,n,dd⟩
 ·intro i v s' Q' E' hv hQ'
  have hv':its[i]?=some v:=by simpa using hv
  have hi:i<its.length:=(List.getElem?_eq_some_iff.mp hv').1
  have hb:(bs.map V.bl)[i]?=some (V.bl (bs.getD i true)):=by
   rw [List.getElem?_map,List.getElem?_eq_getElem (by omega),List.getD_eq_getElem?_getD,List.getElem?_eq_getElem (by omega)];rfl
  obtain ⟨u,hu,ru⟩:=rv.get hb
  rw [hv'] at hu
  cases hu
  cases ru
  exact wpAny_truthy_bool hQ'
 ·intro h' tk kk
  have e:(List.range its.toArray.size).all (fun i=>bs.getD i true)=bs.all id:=by
   rw [List.size_toArray,← hlen,Bool.eq_iff_iff,List.all_eq_true,List.all_eq_true]
   constructor
   ·intro z b hb
    obtain ⟨i,hi,rfl⟩:=List.mem_iff_getElem.mp hb
    have:=z i (List.mem_range.mpr hi)
    rw [List.getD_eq_getElem?_getD,List.getElem?_eq_getElem hi] at this
    exact this
   ·intro z i hi
    have hi':=List.mem_range.mp hi
    rw [List.getD_eq_getElem?_getD,List.getElem?_eq_getElem hi']
    exact z _ (List.getElem_mem hi')
  rw [e]
  have I1:Inv X pins σ H { s with heap:=s.heap.push { cls:=.type "list_iterator",data:=.fields #[.ref p,.int 0 0] } }:=I.kept (t':=s.toks) fun b o e=>Heap.get?_push_of_some _ e
  obtain ⟨f0,f1,f2,f3,f4,f5⟩:=I.tR (Nat.le_refl _) (I.hok.fresh (Nat.le_refl _))
  exact ⟨.bl (bs.all id),H,I1.turned (fun b o hb e=>kk b o (by simpa using hb) e) f0 f1 f3 f4 f5,rfl,q⟩
theorem xP:fM X (.builtin "isinstance") (fun xs H Q=>∃ x T t b,xs=[x,.ty T]∧nQ X.K H x t∧PySem.W.kitOne X.K t (.type T)=some b∧Q (.bl b) H):=by
 intro pins s σ H xs us Q I r h
 obtain ⟨x,T,t,b,rfl,ty,e,q⟩:=h
 obtain ⟨u,u',rfl,ru,Pq⟩:=vals2 r
 cases Pq
 exact Eh I ru ty e fun tk=>⟨.bl b,H,I.tok _,rfl,q⟩
end
section
variable {X:Cx}{K:PySem.W.Frag}
theorem xQ (h:X.K=K:=by rfl):Vk X (Wa K):=h ▸ aU
def Wf (K:PySem.W.Frag):List V→Hp→VK→Prop:=fun xs H Q=>∃ p ys,xs=[.ref p]∧(bR K H p ys∨bM K H p ys)∧Q (.int ys.length) H
theorem lV (h:X.K=K:=by rfl):fM X (.builtin "len") (Wf K):=h ▸ cA
def rIsi (K:PySem.W.Frag):List V→Hp→VK→Prop:=fun xs H Q=>∃ x T t b,xs=[x,.ty T]∧nQ K H x t∧PySem.W.kitOne K t (.type T)=some b∧Q (.bl b) H
theorem cO (h:X.K=K:=by rfl):fM X (.builtin "isinstance") (rIsi K):=h ▸ xP
def rAll (K:PySem.W.Frag):List V→Hp→VK→Prop:=fun xs H Q=>∃ (p:Addr) (bs:List Bool),xs=[.ref p]∧bR K H p (bs.map V.bl)∧Q (.bl (bs.all id)) H
theorem lW (hc:X.calm=true) (hin:X.A.in1.handled=none) (h:X.K=K:=by rfl):fM X (.builtin "all") (rAll K):=h ▸ zN hc hin
end
theorem bK:bootBuiltins "isinstance"=some (.builtin "isinstance"):=by decide +kernel
theorem vR:bootBuiltins "all"=some (.builtin "all"):=by decide +kernel
theorem vU:bootBuiltins "abs"=some (.builtin "abs"):=by decide +kernel
theorem zO:bootBuiltins "max"=some (.builtin "max"):=by decide +kernel
theorem eG:bootBuiltins "sorted"=some (.builtin "sorted"):=by decide +kernel
theorem vV:bootBuiltins "bool"=some (.type "bool"):=by decide +kernel
theorem zP:bootBuiltins "int"=some (.type "int"):=by decide +kernel
theorem HF:bootBuiltins "str"=some (.type "str"):=by decide +kernel
theorem nZ:bootBuiltins "list"=some (.type "list"):=by decide +kernel
theorem xR:bootBuiltins "tuple"=some (.type "tuple"):=by decide +kernel
theorem HJ:bootBuiltins "zip"=some (.type "zip"):=by decide +kernel
end L2
namespace L2
open PySem PySem.Spec PyProof.Rows
section
variable {prog:Program}{w:World}{A:Around}{E:Value→Shared→Prop}{s:Shared}
theorem RX {it t:Addr}{i:Nat}{its:Array Value}{x:Value}{Q:Value→Shared→Prop} (hit:s.heap.IsTupleIter it t i) (ht:s.heap.IsTuple t its) (hx:its[i]?=some x)
  (hQ:∀ h',h'.IsTupleIter it t (i+1)→Heap.SameBut it s.heap h'→Q x { s with heap:=h' }):wpAny (model prog w) A (Builtin.SmallTypes.nextOf (.ref it)) Q E s:=by
 obtain ⟨o,ho,hc,hd⟩:=id hit
 obtain ⟨ot,hot,_,nt,hdt⟩:=ht
 unfold Builtin.SmallTypes.nextOf
 refine wpAny_bind (wpAny_callSpecial?_slot (name:=Str.ofString "__next__") hit.typeIs F.slot_tuple_iterator_next (wpAny_call_entry F.slot_tuple_iterator_next hit.typeIs F.entry_tuple_iterator_next ?_ (F.args_tuple_iterator_next_1 _)))
 show wpAny _ _ (field (.ref it) 0 >>= _) _ _ s;refine wpAny_bind (wpAny_field ho hd (x:=.ref t) rfl ?_)
 show wpAny _ _ (if (Value.ref t==Value.none)=true then _ else _) _ _ s;rw [if_neg (show ¬ ((Value.ref t==Value.none)=true) from fun z=>Bool.false_ne_true z)]
 show wpAny _ _ (field (.ref it) 1 >>= _) _ _ s;refine wpAny_bind (wpAny_field ho hd (x:=.int i 0) rfl ?_)
 show wpAny _ _ (seqItems? (.ref t) >>= _) _ _ s;refine wpAny_bind (wpAny_seqItems hot hdt ?_);simp only [Int.toNat_natCast,hx]
 refine wpAny_bind (wpAny_setField ho hd (by simp) (wpAny_pure ⟨x,rfl,wpAny_pure (hQ _ ⟨_,Heap.get?_update_self _ ho (Obj.isFreed_of_fields (Obj.data_mapFields hd _)),(Obj.cls_mapFields ..).trans hc,by rw [Obj.data_mapFields hd];simp [rawInt]⟩ (Heap.SameBut.update ..))⟩))
theorem zQ {it t:Addr}{i:Nat}{its:Array Value}{Q:Value→Shared→Prop} (hh:A.handled=none) (hit:s.heap.IsTupleIter it t i) (ht:s.heap.IsTuple t its) (hx:its[i]?=none)
  (hE:∀ h' e,Heap.ExtBut it s.heap h'→(∃ o,h'.get? e=some o∧o.cls=.type "StopIteration")→E (.ref e) { s with heap:=h' }):wpAny (model prog w) A (Builtin.SmallTypes.nextOf (.ref it)) Q E s:=by
 obtain ⟨o,ho,hc,hd⟩:=id hit
 obtain ⟨ot,hot,_,nt,hdt⟩:=ht
 unfold Builtin.SmallTypes.nextOf
 refine wpAny_bind (wpAny_callSpecial?_slot (name:=Str.ofString "__next__") hit.typeIs F.slot_tuple_iterator_next (wpAny_call_entry F.slot_tuple_iterator_next hit.typeIs F.entry_tuple_iterator_next ?_ (F.args_tuple_iterator_next_1 _)))
 show wpAny _ _ (field (.ref it) 0 >>= _) _ _ s;refine wpAny_bind (wpAny_field ho hd (x:=.ref t) rfl ?_)
 show wpAny _ _ (if (Value.ref t==Value.none)=true then _ else _) _ _ s;rw [if_neg (show ¬ ((Value.ref t==Value.none)=true) from fun z=>Bool.false_ne_true z)]
 show wpAny _ _ (field (.ref it) 1 >>= _) _ _ s;refine wpAny_bind (wpAny_field ho hd (x:=.int i 0) rfl ?_)
 show wpAny _ _ (seqItems? (.ref t) >>= _) _ _ s;refine wpAny_bind (wpAny_seqItems hot hdt ?_);simp only [Int.toNat_natCast,hx]
 refine wpAny_bind (wpAny_rule (wpAny_bind (wpAny_setField ho hd (by simp) ?_)));show wpAny _ _ (newExc (.type "StopIteration") [] >>= _) _ _ _
 refine wpAny_bind ?_;simp only [newExc,newTuple];refine wpAny_bind (wpAny_newObj_type ?_ (by size_fits))
 refine wpAny_bind (m:=firstArgMember _ _) (wpAny_of_eq (a:=Value.none) (by first | rfl | (simp only [firstArgMember];rfl)) ?_);refine wpAny_newObj_type ?_ (by size_fits)
 simp only [raiseNew];refine wpAny_bind (wpAny_handled ?_);first | rw [show A.in1.handled=none from hh] | rw [hh]
 refine wpAny_bind (wpAny_pure (wpAny_throw (hE _ _ (((Heap.SameBut.update ..).extBut.push _).push _) ⟨_,Heap.get?_push_size _ rfl,rfl⟩)))
end
structure uE (P:Program) (w:World) (K:PySem.W.Frag) (it:Addr) (go stop:Nat→Hp→Prop) (DY:Nat→Hp→V→Prop) (tn:Nat→Heap→Prop):Prop where
 obj:∀ i h,tn i h→∃ o,h.get? it=some o∧∀ v,o.data≠.cell v
 keep:∀ i h h',tn i h→(∀ o,h.get? it=some o→h'.get? it=some o)→tn i h'
 item:∀ (X:Cx) (pins:List (Addr×Obj)) (σ:St) (H:Hp) (s₀:Shared) (i:Nat) (fp:List Addr),X.prog=P→X.w=w→X.K=K→Inv X pins σ H s₀→(∀ b∈fp,jx X pins H b)→go i H →
  ∃ U:Heap→Prop,U s₀.heap∧(∀ h h',U h→(∀ b o,b∉fp→h.get? b=some o→h'.get? b=some o)→U h')∧∃ x,DY i H x ∧
   ∀ (A:Around) (s:Shared) (Q:Value→Shared→Prop) (E:Value→Shared→Prop),U s.heap→tn i s.heap→(∀ u h' tk,RelV x u→tn (i+1) h'→Heap.SameBut it s.heap h'→Q u { s with heap:=h',toks:=tk }) →
    wpAny (model P w) A (Builtin.SmallTypes.nextOf (.ref it)) Q E s
 done:∀ (X:Cx) (pins:List (Addr×Obj)) (σ:St) (H:Hp) (s₀:Shared) (i:Nat) (fp:List Addr),X.prog=P→X.w=w→X.K=K→Inv X pins σ H s₀→(∀ b∈fp,jx X pins H b)→stop i H →
  ∃ U:Heap→Prop,U s₀.heap∧(∀ h h',U h→(∀ b o,b∉fp→h.get? b=some o→h'.get? b=some o)→U h') ∧
   ∀ (A:Around) (s:Shared) (Q:Value→Shared→Prop) (E:Value→Shared→Prop),A.handled=none→U s.heap→tn i s.heap→(∀ h' e,Heap.ExtBut it s.heap h'→(∃ o,h'.get? e=some o∧o.cls=.type "StopIteration")→E (.ref e) { s with heap:=h' }) →
    wpAny (model P w) A (Builtin.SmallTypes.nextOf (.ref it)) Q E s
theorem rO {X:Cx}{pins:List (Addr×Obj)}{σ:St}{H:Hp}{s:Shared}{fp:List Addr} (I:Inv X pins σ H s) (hf:∀ b∈fp,jx X pins H b) {a:Addr}{o:Obj} (e:X.base.get? a=some o):a∉fp:=fun hb=>by
 rcases (hf a hb).2.2.2.1 with z | z
 ·exact I.ok.vI a o e z
 ·exact absurd (Nat.lt_of_lt_of_le (Heap.lt_size (I.ok.bs a o e).1) z) (Nat.lt_irrefl _)
theorem uF {X:Cx}{pins:List (Addr×Obj)}{σ:St}{H:Hp}{s:Shared}{fp:List Addr}{a:Addr}{xs:List V} (I:Inv X pins σ H s) (hf:∀ b∈fp,jx X pins H b) (h:bM X.K H a xs):a∉fp:=by
 rcases h with (h | ⟨o,h⟩) | ⟨o,its,n,hk,_⟩
 ·exact fun hb=>by rw [(hf a hb).1] at h;cases h
 ·exact fun hb=>by rw [(hf a hb).1] at h;cases h
 ·exact rO I hf (I.ok.mod.kin a o hk)
theorem uG {X:Cx}{pins:List (Addr×Obj)}{σ:St}{H:Hp}{s:Shared}{fp:List Addr}{a:Addr}{xs:List V} (I:Inv X pins σ H s) (hf:∀ b∈fp,jx X pins H b) (h:bR X.K H a xs):a∉fp:=by
 rcases h with (h | ⟨o,h⟩) | ⟨o,its,n,hk,_⟩
 ·exact fun hb=>by rw [(hf a hb).1] at h;cases h
 ·exact fun hb=>by rw [(hf a hb).1] at h;cases h
 ·exact rO I hf (I.ok.mod.kin a o hk)
theorem Cm {P:Program}{w:World}{K:PySem.W.Frag} (a it:Addr):uE P w K it (fun i H=>∃ xs x,bM K H a xs∧xs[i]?=some x) (fun i H=>∃ xs,bM K H a xs∧xs.length≤i) (fun i H x=>∀ xs,bM K H a xs→xs[i]?=some x) (fun i h=>h.IsTupleIter it a i) where
 obj:=fun i h ⟨o,e,c,d⟩=>⟨o,e,fun v z=>by rw [d] at z;cases z⟩
 keep:=fun i h h' ⟨o,e,r⟩ k=>⟨o,k o e,r⟩
 item:=fun X pins σ H s₀ i fp hP hw hK I hf ⟨xs,x,hq,hx⟩=>by
  subst hP hw hK
  obtain ⟨its,rv,p,_⟩:=I.tuple hq
  have na:=uF I hf hq
  obtain ⟨u,hu,ru⟩:=rv.get hx
  refine ⟨fun h=>h.IsTuple a its.toArray,p,fun h h' ⟨o,e,r⟩ k=>⟨o,k a o na e,r⟩,x,fun ys hy=>by rw [I.DX hy hq];exact hx,fun A s Q E hU st hQ=>?_⟩
  exact RX st hU (x:=u) (by simpa using hu) fun h' st' sb=>hQ u h' s.toks ru st' sb
 done:=fun X pins σ H s₀ i fp hP hw hK I hf ⟨xs,hq,hx⟩=>by
  subst hP hw hK
  obtain ⟨its,rv,p,_⟩:=I.tuple hq
  have na:=uF I hf hq
  have hl:=rv.length
  exact ⟨fun h=>h.IsTuple a its.toArray,p,fun h h' ⟨o,e,r⟩ k=>⟨o,k a o na e,r⟩,fun A s Q E hh hU st hE=>zQ hh st hU (by simp;omega) hE⟩
theorem Cp {P:Program}{w:World}{K:PySem.W.Frag} (a it:Addr):uE P w K it (fun i H=>∃ xs x,bR K H a xs∧xs[i]?=some x) (fun i H=>∃ xs,bR K H a xs∧xs.length≤i) (fun i H x=>∀ xs,bR K H a xs→xs[i]?=some x) (fun i h=>h.IsListIter it a i) where
 obj:=fun i h ⟨o,e,c,d⟩=>⟨o,e,fun v z=>by rw [d] at z;cases z⟩
 keep:=fun i h h' ⟨o,e,r⟩ k=>⟨o,k o e,r⟩
 item:=fun X pins σ H s₀ i fp hP hw hK I hf ⟨xs,x,hq,hx⟩=>by
  subst hP hw hK
  obtain ⟨its,rv,p,_⟩:=I.list hq
  have na:=uG I hf hq
  obtain ⟨u,hu,ru⟩:=rv.get hx
  refine ⟨fun h=>h.IsList a its.toArray,p.isList,fun h h' ⟨o,e,r⟩ k=>⟨o,k a o na e,r⟩,x,fun ys hy=>by rw [I.wZ hy hq];exact hx,fun A s Q E hU st hQ=>?_⟩
  exact wpAny_nextOf_list_item st hU (x:=u) (by simpa using hu) fun h' st' sb=>hQ u h' s.toks ru st' sb
 done:=fun X pins σ H s₀ i fp hP hw hK I hf ⟨xs,hq,hx⟩=>by
  subst hP hw hK
  obtain ⟨its,rv,p,_⟩:=I.list hq
  have na:=uG I hf hq
  have hl:=rv.length
  exact ⟨fun h=>h.IsList a its.toArray,p.isList,fun h h' ⟨o,e,r⟩ k=>⟨o,k a o na e,r⟩,fun A s Q E hh hU st hE=>wpAny_nextOf_list_end hh st hU (by simp;omega) hE⟩
structure ZA (z TI TO i1 i2:Addr):Prop where
 p1:TI≠z
 p2:TO≠z
 p3:i1≠z
 p4:i2≠z
 p5:TI≠TO
 p6:TI≠i1
 p7:TI≠i2
 p8:TO≠i1
 p9:TO≠i2
 p0:i1≠i2
section
variable {prog:Program}{w:World}{A:Around}{E:Value→Shared→Prop}{s:Shared}
theorem Ls {z TI TO i1 i2:Addr}{x y:V}{a b:Value}{U1 U2 T1 T2 Lw Wg:Heap→Prop}{Q:Value→Shared→Prop} (D:ZA z TI TO i1 i2)
  (hz:IsZip s.heap z TI TO .none) (hTI:IsPair s.heap TI (.ref i1) (.ref i2)) (hTO:IsPair s.heap TO a b) (u1:U1 s.heap) (u2:U2 s.heap) (t1:T1 s.heap) (t2:T2 s.heap)
  (k1:∀ h h',U1 h→(∀ b o,b∉[z,TI,TO,i1,i2]→h.get? b=some o→h'.get? b=some o)→U1 h') (k2:∀ h h',U2 h→(∀ b o,b∉[z,TI,TO,i1,i2]→h.get? b=some o→h'.get? b=some o)→U2 h')
  (q1:∀ h h',T1 h→(∀ o,h.get? i1=some o→h'.get? i1=some o)→T1 h') (q2:∀ h h',T2 h→(∀ o,h.get? i2=some o→h'.get? i2=some o)→T2 h')
  (q1':∀ h h',Lw h→(∀ o,h.get? i1=some o→h'.get? i1=some o)→Lw h') (q2':∀ h h',Wg h→(∀ o,h.get? i2=some o→h'.get? i2=some o)→Wg h')
  (d1:∀ (A:Around) (s:Shared) (Q:Value→Shared→Prop) (E:Value→Shared→Prop),U1 s.heap→T1 s.heap→(∀ u h' tk,RelV x u→Lw h'→Heap.SameBut i1 s.heap h'→Q u { s with heap:=h',toks:=tk })→wpAny (model prog w) A (Builtin.SmallTypes.nextOf (.ref i1)) Q E s)
  (d2:∀ (A:Around) (s:Shared) (Q:Value→Shared→Prop) (E:Value→Shared→Prop),U2 s.heap→T2 s.heap→(∀ u h' tk,RelV y u→Wg h'→Heap.SameBut i2 s.heap h'→Q u { s with heap:=h',toks:=tk })→wpAny (model prog w) A (Builtin.SmallTypes.nextOf (.ref i2)) Q E s)
  (hQ:∀ u v h' tk,RelV x u→RelV y v→IsZip h' z TI TO (rawInt s.heap.objs.size)→IsPair h' TI (.ref i1) (.ref i2)→IsPair h' TO u v→Lw h'→Wg h'→IsPair h' s.heap.objs.size u v →
   (∀ c o,c≠z→c≠TO→c≠i1→c≠i2→s.heap.get? c=some o→h'.get? c=some o)→Q (.ref s.heap.objs.size) { s with heap:=h',toks:=tk }) :
  wpAny (model prog w) A (Builtin.«zip.__next__» ⟨[.ref z],[]⟩) (fun fin s'=>∃ v,fin=.done (.ret v)∧Q v s') E s:=by
 have mz:∀ {c:Addr},c∉[z,TI,TO,i1,i2]→c≠z∧c≠TO∧c≠i1∧c≠i2:=fun {c} h=>by simp at h;exact ⟨h.1,h.2.2.1,h.2.2.2.1,h.2.2.2.2⟩
 show wpAny _ _ (field (.ref z) 2 >>= _) _ _ _;refine wpAny_bind (wpAny_field hz rfl (x:=.bool false) rfl ?_)
 show wpAny _ _ (field (.ref z) 3 >>= _) _ _ _;refine wpAny_bind (wpAny_field hz rfl (x:=.ref TI) rfl (wpAny_bind (wpAny_seqItems hTI rfl ?_)))
 show wpAny _ _ (Builtin.SmallTypes.ownedTupleIsFree (.ref z) >>= _) _ _ _;refine wpAny_bind ?_;unfold Builtin.SmallTypes.ownedTupleIsFree
 refine wpAny_bind (wpAny_field hz rfl (x:=.none) rfl (wpAny_pure ?_));simp only [if_true]
 refine wpAny_bind (wpAny_rule (wpAny_bind (wpAny_field hz rfl (x:=.ref TO) rfl (wpAny_bind (wpAny_setField_rec hz (by simp) fun g1 hz1 hs1=>?_)))))
 replace hz1:IsZip g1 z TI TO .ellipsis:=hz1
 refine wpAny_bind ?_;simp only [List.zipIdx_cons,List.zipIdx_nil,List.forIn_cons,List.forIn_nil]
 refine wpAny_bind (wpAny_bind (wpAny_onRaise ?_));show wpAny _ _ (Builtin.SmallTypes.nextOf (.ref i1) >>= _) _ _ _
 refine wpAny_bind (d1 _ _ _ _ (k1 _ _ u1 fun c o hc e=>hs1.extBut _ _ (mz hc).1 e) (q1 _ _ t1 fun o e=>hs1.extBut _ _ D.p3 e) fun u g2 tk2 ru t1b hs2=>wpAny_pure ?_)
 have HN:IsPair g2 TO a b:=hs2.extBut _ _ D.p8 (hs1.extBut _ _ D.p2 hTO)
 refine wpAny_bind (wpAny_seqItems HN rfl (wpAny_bind (wpAny_updateSeq_pair HN fun g3 Ly hs3=>?_)))
 replace Ly:IsPair g3 TO u b:=Ly
 refine wpAny_bind (wpAny_letGo (wpAny_pure (wpAny_bind (wpAny_bind (wpAny_onRaise ?_)))));show wpAny _ _ (Builtin.SmallTypes.nextOf (.ref i2) >>= _) _ _ _
 refine wpAny_bind (d2 _ _ _ _ (k2 _ _ u2 fun c o hc e=>hs3.extBut _ _ (mz hc).2.1 (hs2.extBut _ _ (mz hc).2.2.1 (hs1.extBut _ _ (mz hc).1 e))) (q2 _ _ t2 fun o e=>hs3.extBut _ _ D.p9.symm (hs2.extBut _ _ D.p0.symm (hs1.extBut _ _ D.p4 e))) fun v g4 tk4 rv t2b Pr=>wpAny_pure ?_)
 have Wh:IsPair g4 TO u b:=Pr.extBut _ _ D.p9 Ly
 refine wpAny_bind (wpAny_seqItems Wh rfl (wpAny_bind (wpAny_updateSeq_pair Wh fun g5 Lz KC=>?_)))
 replace Lz:IsPair g5 TO u v:=Lz
 refine wpAny_bind (wpAny_letGo (wpAny_pure (wpAny_pure (wpAny_bind (wpAny_seqItems Lz rfl (wpAny_bind (wpAny_newTuple ?_)))))))
 have sz:g5.objs.size=s.heap.objs.size:=by rw [KC.1,Pr.1,hs3.1,hs2.1,hs1.1]
 have Wi:∀ c o,c≠z→c≠TO→c≠i1→c≠i2→s.heap.get? c=some o→g5.get? c=some o:=fun c o c1 c2 c3 c4 e=>KC.extBut _ _ c2 (Pr.extBut _ _ c4 (hs3.extBut _ _ c2 (hs2.extBut _ _ c3 (hs1.extBut _ _ c1 e))))
 have hz5:IsZip g5 z TI TO .ellipsis:=KC.extBut _ _ D.p2.symm (Pr.extBut _ _ D.p4.symm (hs3.extBut _ _ D.p2.symm (hs2.extBut _ _ D.p3.symm hz1)))
 have t15:Lw g5:=q1' _ _ t1b fun o e=>KC.extBut _ _ D.p8.symm (Pr.extBut _ _ D.p0 (hs3.extBut _ _ D.p8.symm e))
 have t25:Wg g5:=q2' _ _ t2b fun o e=>KC.extBut _ _ D.p9.symm e
 have zlt:z<g5.objs.size:=Heap.lt_size hz5
 show wpAny _ _ (Builtin.SmallTypes.ownedTupleHandOut (.ref z) (.ref g5.objs.size) >>= _) _ _ _;refine wpAny_bind ?_;unfold Builtin.SmallTypes.ownedTupleHandOut
 have hz6:IsZip (g5.push { cls:=.type "tuple",data:=.seq #[u,v] }) z TI TO .ellipsis:=Heap.get?_push_of_some _ hz5
 refine wpAny_bind (wpAny_setField_rec hz6 (by simp) fun g7 hz7 hs7=>?_)
 replace hz7:IsZip g7 z TI TO (rawInt g5.objs.size):=hz7
 refine wpAny_setField_rec hz7 (by simp) fun g8 hz8 hs8=>?_
 replace hz8:IsZip g8 z TI TO (rawInt g5.objs.size):=hz8
 have Wj:∀ c o,c≠z→g5.get? c=some o→g8.get? c=some o:=fun c o c1 e=>hs8.extBut _ _ c1 (hs7.extBut _ _ c1 (Heap.get?_push_of_some _ e))
 have hT8:IsPair g8 g5.objs.size u v:=hs8.extBut _ _ (Nat.ne_of_gt zlt) (hs7.extBut _ _ (Nat.ne_of_gt zlt) (Heap.get?_push_size _ rfl))
 rw [sz] at hz8 hT8
 refine wpAny_pure ⟨_,rfl,?_⟩
 show Q (.ref g5.objs.size) _;rw [sz]
 exact hQ u v g8 _ ru rv hz8 (Wj _ _ D.p1 (Wi _ _ D.p1 D.p5 D.p6 D.p7 hTI)) (Wj _ _ D.p2 Lz) (q1' _ _ t15 fun o e=>Wj _ o D.p3 e) (q2' _ _ t25 fun o e=>Wj _ o D.p4 e) hT8 fun c o c1 c2 c3 c4 e=>Wj c o c1 (Wi c o c1 c2 c3 c4 e)
theorem xT {z TI TO i1 i2:Addr}{x:V}{a b:Value}{U1 U2 T1 T2 Lw:Heap→Prop}{Q:Fin→Shared→Prop} (hh:A.handled=none) (D:ZA z TI TO i1 i2)
  (hz:IsZip s.heap z TI TO .none) (hTI:IsPair s.heap TI (.ref i1) (.ref i2)) (hTO:IsPair s.heap TO a b) (u1:U1 s.heap) (t1:T1 s.heap)
  (k1:∀ h h',U1 h→(∀ b o,b∉[z,TI,TO,i1,i2]→h.get? b=some o→h'.get? b=some o)→U1 h')
  (q1:∀ h h',T1 h→(∀ o,h.get? i1=some o→h'.get? i1=some o)→T1 h')
  (hd:(∀ (A:Around) (s:Shared) (Q:Value→Shared→Prop) (E:Value→Shared→Prop),A.handled=none→U1 s.heap→T1 s.heap→(∀ h' e,Heap.ExtBut i1 s.heap h'→(∃ o,h'.get? e=some o∧o.cls=.type "StopIteration")→E (.ref e) { s with heap:=h' })→wpAny (model prog w) A (Builtin.SmallTypes.nextOf (.ref i1)) Q E s) ∨
   ((∀ (A:Around) (s:Shared) (Q:Value→Shared→Prop) (E:Value→Shared→Prop),U1 s.heap→T1 s.heap→(∀ u h' tk,RelV x u→Lw h'→Heap.SameBut i1 s.heap h'→Q u { s with heap:=h',toks:=tk })→wpAny (model prog w) A (Builtin.SmallTypes.nextOf (.ref i1)) Q E s) ∧
    U2 s.heap∧T2 s.heap∧(∀ h h',U2 h→(∀ b o,b∉[z,TI,TO,i1,i2]→h.get? b=some o→h'.get? b=some o)→U2 h')∧(∀ h h',T2 h→(∀ o,h.get? i2=some o→h'.get? i2=some o)→T2 h') ∧
    ∀ (A:Around) (s:Shared) (Q:Value→Shared→Prop) (E:Value→Shared→Prop),A.handled=none→U2 s.heap→T2 s.heap→(∀ h' e,Heap.ExtBut i2 s.heap h'→(∃ o,h'.get? e=some o∧o.cls=.type "StopIteration")→E (.ref e) { s with heap:=h' })→wpAny (model prog w) A (Builtin.SmallTypes.nextOf (.ref i2)) Q E s))
  (hE:∀ h' tk e,(∀ c o,c≠z→c≠TO→c≠i1→c≠i2→s.heap.get? c=some o→h'.get? c=some o)→(∃ o,h'.get? e=some o∧o.cls=.type "StopIteration")→E (.ref e) { s with heap:=h',toks:=tk }) :
  wpAny (model prog w) A (Builtin.«zip.__next__» ⟨[.ref z],[]⟩) Q E s:=by
 have mz:∀ {c:Addr},c∉[z,TI,TO,i1,i2]→c≠z∧c≠TO∧c≠i1∧c≠i2:=fun {c} h=>by simp at h;exact ⟨h.1,h.2.2.1,h.2.2.2.1,h.2.2.2.2⟩
 show wpAny _ _ (field (.ref z) 2 >>= _) _ _ _;refine wpAny_bind (wpAny_field hz rfl (x:=.bool false) rfl ?_)
 show wpAny _ _ (field (.ref z) 3 >>= _) _ _ _;refine wpAny_bind (wpAny_field hz rfl (x:=.ref TI) rfl (wpAny_bind (wpAny_seqItems hTI rfl ?_)))
 show wpAny _ _ (Builtin.SmallTypes.ownedTupleIsFree (.ref z) >>= _) _ _ _;refine wpAny_bind ?_;unfold Builtin.SmallTypes.ownedTupleIsFree
 refine wpAny_bind (wpAny_field hz rfl (x:=.none) rfl (wpAny_pure ?_));simp only [if_true]
 refine wpAny_bind (wpAny_rule (wpAny_bind (wpAny_field hz rfl (x:=.ref TO) rfl (wpAny_bind (wpAny_setField_rec hz (by simp) fun g1 hz1 hs1=>?_)))))
 replace hz1:IsZip g1 z TI TO .ellipsis:=hz1
 refine wpAny_bind ?_;simp only [List.zipIdx_cons,List.zipIdx_nil,List.forIn_cons,List.forIn_nil]
 refine wpAny_bind (wpAny_bind (wpAny_onRaise ?_));show wpAny _ _ (Builtin.SmallTypes.nextOf (.ref i1) >>= _) _ _ _
 rcases hd with e1 | ⟨d1,u2,t2,k2,q2,e2⟩
 ·refine wpAny_bind (e1 _ _ _ _ hh (k1 _ _ u1 fun c o hc e=>hs1.extBut _ _ (mz hc).1 e) (q1 _ _ t1 fun o e=>hs1.extBut _ _ D.p3 e) fun g2 e hs2 he=>?_)
  obtain ⟨oe,hoe,hce⟩:=he
  have hz2:IsZip g2 z TI TO .ellipsis:=hs2 _ _ D.p3.symm hz1
  have nez:e≠z:=fun q=>by subst q;rw [hz2] at hoe;cases hoe;simp at hce
  exact wpAny_setField_rec hz2 (by simp) fun g3 _ hs3=>hE g3 _ e (fun c o c1 _ c3 _ q=>hs3.extBut _ _ c1 (hs2 _ _ c3 (hs1.extBut _ _ c1 q))) ⟨oe,hs3.extBut _ _ nez hoe,hce⟩
 ·refine wpAny_bind (d1 _ _ _ _ (k1 _ _ u1 fun c o hc e=>hs1.extBut _ _ (mz hc).1 e) (q1 _ _ t1 fun o e=>hs1.extBut _ _ D.p3 e) fun u g2 tk2 ru t1b hs2=>wpAny_pure ?_)
  have HN:IsPair g2 TO a b:=hs2.extBut _ _ D.p8 (hs1.extBut _ _ D.p2 hTO)
  refine wpAny_bind (wpAny_seqItems HN rfl (wpAny_bind (wpAny_updateSeq_pair HN fun g3 Ly hs3=>?_)))
  refine wpAny_bind (wpAny_letGo (wpAny_pure (wpAny_bind (wpAny_bind (wpAny_onRaise ?_)))));show wpAny _ _ (Builtin.SmallTypes.nextOf (.ref i2) >>= _) _ _ _
  refine wpAny_bind (e2 _ _ _ _ hh (k2 _ _ u2 fun c o hc e=>hs3.extBut _ _ (mz hc).2.1 (hs2.extBut _ _ (mz hc).2.2.1 (hs1.extBut _ _ (mz hc).1 e))) (q2 _ _ t2 fun o e=>hs3.extBut _ _ D.p9.symm (hs2.extBut _ _ D.p0.symm (hs1.extBut _ _ D.p4 e))) fun g4 e Pr he=>?_)
  obtain ⟨oe,hoe,hce⟩:=he
  have hz4:IsZip g4 z TI TO .ellipsis:=Pr _ _ D.p4.symm (hs3.extBut _ _ D.p2.symm (hs2.extBut _ _ D.p3.symm hz1))
  have nez:e≠z:=fun q=>by subst q;rw [hz4] at hoe;cases hoe;simp at hce
  exact wpAny_setField_rec hz4 (by simp) fun g5 _ KC=>hE g5 _ e (fun c o c1 c2 c3 c4 q=>KC.extBut _ _ c1 (Pr _ _ c4 (hs3.extBut _ _ c2 (hs2.extBut _ _ c3 (hs1.extBut _ _ c1 q))))) ⟨oe,KC.extBut _ _ nez hoe,hce⟩
end
section
variable {X:Cx}{pins:List (Addr×Obj)}{σ:St}{H:Hp}{s:Shared}{h':Heap}{fp:List Addr}
theorem Inv.nfp (I:Inv X pins σ H s) (hf:∀ b∈fp,jx X pins H b) {b:Addr}{u:HO} (e:H b=some u):b∉fp:=fun hb=>by rw [(hf b hb).1] at e;cases e
theorem Inv.LC {t':Nat} (I:Inv X pins σ H s) (hf:∀ b∈fp,jx X pins H b) (k:∀ b o,b∉fp→s.heap.get? b=some o→h'.get? b=some o):Inv X pins σ H { s with heap:=h',toks:=t' }:=by
 refine I.step (g':=s.gens) (d':=s.drawn) (ch:=fp) (fun b hb=>⟨(hf b hb).2.2.2.1,(hf b hb).2.1,(hf b hb).2.2.2.2.1,(hf b hb).2.2.2.2.2⟩) (fun b o _ _ hc e _=>k b o hc e) (fun b o _ _ hc e _=>⟨o.slots,k b o hc e⟩) (fun _ _ _ _ n=>n)
  (fun b o hc e=>⟨o,k b o hc e⟩) (fun _ _ e=>e) (fun _ _ _ e=>e) (fun b ps e=>⟨#[],by rw [e];simp⟩) (fun m hm=>?_) (fun b u e=>?_) I.bare
 ·obtain ⟨o,es,ep,ho,r⟩:=hm
  exact ⟨o,es,ep,k _ o (fun z=>(hf _ z).2.1 rfl) ho,r⟩
 ·refine (I.hok b u e).stay (fun c v hc q=>k c v ?_ q) (fun _ q=>q) fun _ _ q=>q
  rcases hc with z | z
  ·rw [z];exact I.nfp hf e
  ·exact I.nfp hf z
theorem Inv.Cq {t':Nat}{p:Addr}{o:HO} (I:Inv X pins σ H s) (hf:∀ b∈fp,jx X pins H b) (k:∀ b o,b∉fp→s.heap.get? b=some o→h'.get? b=some o) (hp:s.heap.objs.size≤p) (new:cJ X.prog X.w (upd H p o) h' p o) :
  Inv X pins σ (upd H p o) { s with heap:=h',toks:=t' }:=by
 have hn:H p=none:=I.hok.fresh hp
 refine I.step (g':=s.gens) (d':=s.drawn) (ch:=fp) (fun b hb=>⟨(hf b hb).2.2.2.1,(hf b hb).2.1,(hf b hb).2.2.2.2.1,(hf b hb).2.2.2.2.2⟩) (fun b o _ _ hc e _=>k b o hc e) (fun b o _ _ hc e _=>⟨o.slots,k b o hc e⟩)
  (fun b o _ e n=>by rw [ao (Nat.ne_of_lt (Nat.lt_of_lt_of_le (Heap.lt_size e) hp))];exact n)
  (fun b o hc e=>⟨o,k b o hc e⟩) (fun b xs e=>by rw [ao (aH e hn)];exact e) (fun b u xs e=>by rw [ao (aH e hn)];exact e) (fun b ps e=>⟨#[],by rw [ao (aH e hn),e];simp⟩) (fun m hm=>?_) (fun b u e=>?_) I.bare
 ·obtain ⟨o,es,ep,ho,r⟩:=hm
  exact ⟨o,es,ep,k _ o (fun z=>(hf _ z).2.1 rfl) ho,r⟩
 ·by_cases hb:b=p
  ·subst hb
   rw [ak] at e
   cases e
   exact new
  ·rw [ao hb] at e
   refine (I.hok b u e).stay (fun c v hc q=>k c v ?_ q) (fun c q=>?_) fun c xs q=>?_
   ·rcases hc with z | z
    ·rw [z];exact I.nfp hf e
    ·exact I.nfp hf z
   ·first
     | (rw [ao (aH q hn)];exact q)
     | exact q
   ·first
     | (rw [ao (aH q hn)];exact q)
     | exact q
end
def Itz (g1 g2 s1 s2:Nat→Hp→Prop) (y1 y2:Nat→Hp→V→Prop):It :=
 ⟨fun i H=>g1 i H∧g2 i H,fun i H v H'=>∃ p x y,v=.ref p∧H p=none∧H'=upd H p (.tup [x,y])∧y1 i H x∧y2 i H y,fun i H=>s1 i H∨(g1 i H∧s2 i H)⟩
theorem HS {P:Program}{w:World}{K:PySem.W.Frag}{elts:List Expr}{x1:Nat}{tp:Pos}{z TI TO i1 i2:Addr}{g1 g2 s1 s2:Nat→Hp→Prop}{y1 y2:Nat→Hp→V→Prop}{t1 t2:Nat→Heap→Prop} (D:ZA z TI TO i1 i2)
  (S1:uE P w K i1 g1 s1 y1 t1) (S2:uE P w K i2 g2 s2 y2 t2) :
  Turn P w K (.Tuple elts x1 tp) (Itz g1 g2 s1 s2 y1 y2) [z,TI,TO,i1,i2] z (fun i h=>IsZip h z TI TO .none∧IsPair h TI (.ref i1) (.ref i2)∧(∃ a b,IsPair h TO a b)∧t1 i h∧t2 i h) where
 mem:=by simp
 obj:=fun i h ⟨hz,hTI,⟨a,b,hTO⟩,st1,st2⟩ c hc=>by
  simp only [List.mem_cons,List.not_mem_nil,or_false] at hc
  rcases hc with rfl | rfl | rfl | rfl | rfl
  ·exact ⟨_,hz,fun v e=>by cases e⟩
  ·exact ⟨_,hTI,fun v e=>by cases e⟩
  ·exact ⟨_,hTO,fun v e=>by cases e⟩
  ·exact S1.obj i h st1
  ·exact S2.obj i h st2
 keep:=fun i h h' ⟨hz,hTI,⟨a,b,hTO⟩,st1,st2⟩ k=>⟨k z (by simp) _ hz,k TI (by simp) _ hTI,⟨a,b,k TO (by simp) _ hTO⟩,S1.keep _ _ _ st1 fun o e=>k i1 (by simp) o e,S2.keep _ _ _ st2 fun o e=>k i2 (by simp) o e⟩
 item:=by
  intro X hP hw hK hc i pins s σ H E I hf ⟨hz,hTI,⟨a,b,hTO⟩,st1,st2⟩ ⟨hg1,hg2⟩
  obtain ⟨U1,u1,k1,x,hx,d1⟩:=S1.item X pins σ H s i [z,TI,TO,i1,i2] hP hw hK I hf hg1
  obtain ⟨U2,u2,k2,y,hy,d2⟩:=S2.item X pins σ H s i [z,TI,TO,i1,i2] hP hw hK I hf hg2
  subst hP hw hK
  have hT:s.TypeIs (.ref z) "zip":=⟨_,hz,rfl⟩
  unfold pyNext
  refine wpAny_bind (wpAny_attempt (wpAny_callSpecial?_slot (name:=Str.ofString "__next__") hT F.slot_zip_next (wpAny_call_entry F.slot_zip_next hT F.entry_zip_next
   (Ls (x:=x) (y:=y) D hz hTI hTO u1 u2 st1 st2 k1 k2 (S1.keep i) (S2.keep i) (S1.keep (i+1)) (S2.keep (i+1)) d1 d2 fun u v h' tk ru rv hz' hTI' hTO' st1' st2' hp kk=>wpAny_pure ⟨_,rfl,?_⟩) (F.args_zip_next_1 _))))
  refine wpAny_letOwnedTupleGo_zip hz' fun h2 hz2 sb=>?_
  have lt:∀ {c o},s.heap.get? c=some o→c≠s.heap.objs.size:=fun e=>Nat.ne_of_lt (Heap.lt_size e)
  have nz:z≠s.heap.objs.size:=lt hz
  have kk2:∀ c o,c∉[z,TI,TO,i1,i2]→s.heap.get? c=some o→h2.get? c=some o:=fun c o hc e=>by
   simp only [List.mem_cons,List.not_mem_nil,or_false,not_or] at hc
   exact sb.extBut _ _ hc.1 (kk c o hc.1 hc.2.2.1 hc.2.2.2.1 hc.2.2.2.2 e)
  have hp2:IsPair h2 s.heap.objs.size u v:=sb.extBut _ _ nz.symm hp
  refine ⟨.ref s.heap.objs.size,_,I.Cq (o:=.tup [x,y]) hf kk2 (Nat.le_refl _) ⟨lQ (by simp) |> Nat.le_of_lt,[u,v],.cons ru (.cons rv .nil),⟨_,hp2,rfl,_,rfl⟩⟩,rfl,⟨_,x,y,rfl,I.fresh,rfl,hx,hy⟩,⟨hz2,sb.extBut _ _ D.p1 hTI',⟨_,_,sb.extBut _ _ D.p2 hTO'⟩,S1.keep _ _ _ st1' fun o e=>sb.extBut _ _ D.p3 e,S2.keep _ _ _ st2' fun o e=>sb.extBut _ _ D.p4 e⟩,fun c hc=>?_⟩
  have:∃ o,s.heap.get? c=some o:=by
   simp only [List.mem_cons,List.not_mem_nil,or_false] at hc
   rcases hc with rfl | rfl | rfl | rfl | rfl
   ·exact ⟨_,hz⟩
   ·exact ⟨_,hTI⟩
   ·exact ⟨_,hTO⟩
   ·obtain ⟨o,e,_⟩:=S1.obj _ _ st1;exact ⟨o,e⟩
   ·obtain ⟨o,e,_⟩:=S2.obj _ _ st2;exact ⟨o,e⟩
  obtain ⟨o,e⟩:=this
  rw [ao (lt e)]
  exact (hf c hc).1
 done:=by
  intro X hP hw hK hc i pins s σ H E I hf ⟨hz,hTI,⟨a,b,hTO⟩,st1,st2⟩ hs
  have hT:s.TypeIs (.ref z) "zip":=⟨_,hz,rfl⟩
  have fin:∀ (h':Heap) (tk:Nat),(∀ c o,c≠z→c≠TO→c≠i1→c≠i2→s.heap.get? c=some o→h'.get? c=some o)→Inv X pins σ H { s with heap:=h',toks:=tk }:=fun h' tk kk=>I.LC hf fun c o hc e=>by
   simp only [List.mem_cons,List.not_mem_nil,or_false,not_or] at hc
   exact kk c o hc.1 hc.2.2.1 hc.2.2.2.1 hc.2.2.2.2 e
  have hh:=I.ok.hd hc
  rcases hs with hs1 | ⟨hg1,hs2⟩
  ·obtain ⟨U1,u1,k1,d1⟩:=S1.done X pins σ H s i [z,TI,TO,i1,i2] hP hw hK I hf hs1
   subst hP hw hK
   unfold pyNext
   refine wpAny_bind (wpAny_attempt (wpAny_callSpecial?_slot (name:=Str.ofString "__next__") hT F.slot_zip_next (wpAny_call_entry F.slot_zip_next hT F.entry_zip_next
    (xT (x:=.non) (U2:=fun _=>True) (T2:=fun _=>True) (Lw:=fun _=>True) hh D hz hTI hTO u1 st1 k1 (S1.keep i) (.inl d1) fun h' tk e kk he=>?_) (F.args_zip_next_1 _))))
   obtain ⟨o,ho,hc'⟩:=he
   exact wpAny_bind (wpAny_isInstance (T:="StopIteration") (b:=true) ⟨o,ho,hc'⟩ isSubtype_stop (wpAny_pure ⟨rfl,fin _ _ kk⟩))
  ·obtain ⟨U1,u1,k1,x,hx,d1⟩:=S1.item X pins σ H s i [z,TI,TO,i1,i2] hP hw hK I hf hg1
   obtain ⟨U2,u2,k2,d2⟩:=S2.done X pins σ H s i [z,TI,TO,i1,i2] hP hw hK I hf hs2
   subst hP hw hK
   unfold pyNext
   refine wpAny_bind (wpAny_attempt (wpAny_callSpecial?_slot (name:=Str.ofString "__next__") hT F.slot_zip_next (wpAny_call_entry F.slot_zip_next hT F.entry_zip_next
    (xT (x:=x) (Lw:=t1 (i+1)) hh D hz hTI hTO u1 st1 k1 (S1.keep i) (.inr ⟨d1,u2,st2,k2,S2.keep i,d2⟩) fun h' tk e kk he=>?_) (F.args_zip_next_1 _))))
   obtain ⟨o,ho,hc'⟩:=he
   exact wpAny_bind (wpAny_isInstance (T:="StopIteration") (b:=true) ⟨o,ho,hc'⟩ isSubtype_stop (wpAny_pure ⟨rfl,fin _ _ kk⟩))
 self:=fun _ _ _ _ _ st h=>wpAny_pyIter_zip st.1 h
theorem Em (v1 v2:Value) (o1 o2:Obj) (U:Heap→Prop) (hU:∀ h o,U h→U (h.push o))
  (h1:∀ (prog:Program) (w:World) (A:Around) (Q:Value→Shared→Prop) (E:Value→Shared→Prop) (s:Shared),U s.heap→Q (.ref s.heap.objs.size) { s with heap:=s.heap.push o1 }→wpAny (model prog w) A (pyIter v1) Q E s)
  (h2:∀ (prog:Program) (w:World) (A:Around) (Q:Value→Shared→Prop) (E:Value→Shared→Prop) (s:Shared),U s.heap→Q (.ref s.heap.objs.size) { s with heap:=s.heap.push o2 }→wpAny (model prog w) A (pyIter v2) Q E s) :
  Meets (Builtin.«zip.__new__» ⟨[.type "zip",v1,v2],[]⟩) (fun _ R s=>U s.heap ∧
   R (.ok (.ret (.ref ((((s.heap.push o1).push o2).push { cls:=.type "tuple",data:=.seq #[.ref s.heap.objs.size,.ref (s.heap.push o1).objs.size] }).push { cls:=.type "tuple",data:=.seq #[.none,.none] }).objs.size)))
    { s with heap:=((((s.heap.push o1).push o2).push { cls:=.type "tuple",data:=.seq #[.ref s.heap.objs.size,.ref (s.heap.push o1).objs.size] }).push { cls:=.type "tuple",data:=.seq #[.none,.none] }).push { cls:=.type "zip",data:=.fields #[.none,.bool false,.bool false,.ref ((s.heap.push o1).push o2).objs.size,.ref (((s.heap.push o1).push o2).push { cls:=.type "tuple",data:=.seq #[.ref s.heap.objs.size,.ref (s.heap.push o1).objs.size] }).objs.size] } }) :=
 .of_wp fun prog w A R s h=>by
  obtain ⟨hp,g,d,tk,os⟩:=s;obtain ⟨hu,h⟩:=h
  have hsub:=sub_zip
  have hu2:U (hp.push o1):=hU _ _ hu
  wp_walk using h1 prog w _ _ _ ⟨hp,g,d,tk,os⟩ hu,h2 prog w _ _ _ ⟨hp.push o1,g,d,tk,os⟩ hu2
  exact ⟨_,rfl,h⟩
end L2
namespace L2
open PySem PySem.Spec PyProof.Rows
section
variable {X:Cx}{elts:List Expr}{x1:Nat}{tp:Pos}
theorem HW {pins:List (Addr×Obj)}{σ:St}{H:Hp}{s:Shared}{R:It→Hp→Prop}{E:Value→Shared→Prop}{v1 v2:Value}{o1 o2:Obj}{U:Heap→Prop}{g1 g2 s1 s2:Nat→Hp→Prop}{y1 y2:Nat→Hp→V→Prop}{t1 t2:Nat→Heap→Prop} (I:Inv X pins σ H s)
  (hu:U s.heap) (hU:∀ h o,U h→U (h.push o))
  (h1:∀ (prog:Program) (w:World) (A:Around) (Q:Value→Shared→Prop) (E:Value→Shared→Prop) (s:Shared),U s.heap→Q (.ref s.heap.objs.size) { s with heap:=s.heap.push o1 }→wpAny (model prog w) A (pyIter v1) Q E s)
  (h2:∀ (prog:Program) (w:World) (A:Around) (Q:Value→Shared→Prop) (E:Value→Shared→Prop) (s:Shared),U s.heap→Q (.ref s.heap.objs.size) { s with heap:=s.heap.push o2 }→wpAny (model prog w) A (pyIter v2) Q E s)
  (S1:uE X.prog X.w X.K s.heap.objs.size g1 s1 y1 t1) (S2:uE X.prog X.w X.K (s.heap.objs.size+1) g2 s2 y2 t2) (b1:∀ h:Heap,h.get? s.heap.objs.size=some o1→t1 0 h) (b2:∀ h:Heap,h.get? (s.heap.objs.size+1)=some o2→t2 0 h) (f1:o1.isFreed=false) (f2:o2.isFreed=false)
  (q:R (Itz g1 g2 s1 s2 y1 y2) H):wpAny (model X.prog X.w) X.A (call (.type "zip") [v1,v2]) (fun v s1=>wpAny (model X.prog X.w) X.A (pyIter v) (PIE X pins σ (.Tuple elts x1 tp) R) E s1) E s:=by
 refine callType_new F.called_zip (by decide) (F.typeCall_zip_2 _ _) (F.newCall_zip_2 _ _) (fun obj=>F.args_object_init_3 obj _ _) F.entry_zip_new (Em v1 v2 o1 o2 U hU h1 h2) ⟨hu,?_⟩
 generalize hG1:s.heap.push o1=G1
 have z1:G1.objs.size=s.heap.objs.size+1:=by rw [← hG1];exact Heap.size_push ..
 generalize hG2:G1.push o2=G2
 have z2:G2.objs.size=s.heap.objs.size+2:=by rw [← hG2,Heap.size_push,z1]
 rw [z1,z2]
 generalize hG3:G2.push { cls:=.type "tuple",data:=.seq #[.ref s.heap.objs.size,.ref (s.heap.objs.size+1)] }=G3
 have z3:G3.objs.size=s.heap.objs.size+3:=by rw [← hG3,Heap.size_push,z2]
 rw [z3]
 generalize hG4:G3.push { cls:=.type "tuple",data:=.seq #[.none,.none] }=G4
 have z4:G4.objs.size=s.heap.objs.size+4:=by rw [← hG4,Heap.size_push,z3]
 rw [z4]
 generalize hG5:G4.push { cls:=.type "zip",data:=.fields #[.none,.bool false,.bool false,.ref (s.heap.objs.size+2),.ref (s.heap.objs.size+3)] }=G5
 have e5:IsZip G5 (s.heap.objs.size+4) (s.heap.objs.size+2) (s.heap.objs.size+3) .none:=by rw [← z4,← hG5];exact Heap.get?_push_size _ rfl
 have e4:IsPair G5 (s.heap.objs.size+3) .none .none:=by rw [← z3,← hG5];exact Heap.get?_push_of_some _ (by rw [← hG4];exact Heap.get?_push_size _ rfl)
 have e3:IsPair G5 (s.heap.objs.size+2) (.ref s.heap.objs.size) (.ref (s.heap.objs.size+1)):=by rw [← z2,← hG5];exact Heap.get?_push_of_some _ (by rw [← hG4];exact Heap.get?_push_of_some _ (by rw [← hG3];exact Heap.get?_push_size _ rfl))
 have up2:∀ c o,G2.get? c=some o→G5.get? c=some o:=fun c o e=>by rw [← hG5];exact Heap.get?_push_of_some _ (by rw [← hG4];exact Heap.get?_push_of_some _ (by rw [← hG3];exact Heap.get?_push_of_some _ e))
 have e2:G5.get? (s.heap.objs.size+1)=some o2:=up2 _ _ (by rw [← z1,← hG2];exact Heap.get?_push_size _ f2)
 have e1:G5.get? s.heap.objs.size=some o1:=up2 _ _ (by rw [← hG2];exact Heap.get?_push_of_some _ (by rw [← hG1];exact Heap.get?_push_size _ f1))
 have all:∀ c o,s.heap.get? c=some o→G5.get? c=some o:=fun c o e=>up2 _ _ (by rw [← hG2];exact Heap.get?_push_of_some _ (by rw [← hG1];exact Heap.get?_push_of_some _ e))
 refine ⟨⟨_,e5,rfl⟩,wpAny_pyIter_zip e5 ?_⟩
 have ne:∀ {m n:Nat},m≠n→s.heap.objs.size+m≠s.heap.objs.size+n:=fun h z=>h (Nat.add_left_cancel z)
 refine ⟨_,_,_,_,H,rfl,I.kept (t':=s.toks) all,HS ⟨ne (by decide),ne (by decide),ne (m:=0) (by decide),ne (by decide),ne (by decide),ne (n:=0) (by decide),ne (by decide),ne (n:=0) (by decide),ne (by decide),ne (m:=0) (by decide)⟩ S1 S2,⟨e5,e3,⟨_,_,e4⟩,b1 _ e1,b2 _ e2⟩,fun b hb=>?_,q⟩
 have hle:s.heap.objs.size≤b:=by
  simp only [List.mem_cons,List.not_mem_nil,or_false] at hb
  rcases hb with rfl | rfl | rfl | rfl | rfl <;> omega
 exact I.tR hle (I.hok.fresh hle)
abbrev Cr (K:PySem.W.Frag) (a b:Addr):It:=Itz (fun i H=>∃ xs x,bM K H a xs∧xs[i]?=some x) (fun i H=>∃ xs x,bM K H b xs∧xs[i]?=some x) (fun i H=>∃ xs,bM K H a xs∧xs.length≤i) (fun i H=>∃ xs,bM K H b xs∧xs.length≤i)
 (fun i H x=>∀ xs,bM K H a xs→xs[i]?=some x) (fun i H x=>∀ xs,bM K H b xs→xs[i]?=some x)
abbrev Cu (K:PySem.W.Frag) (a b:Addr):It:=Itz (fun i H=>∃ xs x,bR K H a xs∧xs[i]?=some x) (fun i H=>∃ xs x,bR K H b xs∧xs[i]?=some x) (fun i H=>∃ xs,bR K H a xs∧xs.length≤i) (fun i H=>∃ xs,bR K H b xs∧xs.length≤i)
 (fun i H x=>∀ xs,bR K H a xs→xs[i]?=some x) (fun i H x=>∀ xs,bR K H b xs→xs[i]?=some x)
def RZ (K:PySem.W.Frag) (ta:TA):TI:=fun σ H R=>ta σ H fun vs H1=>∃ a b,vs=[.ref a,.ref b]∧(∃ xs,bM K H1 a xs)∧(∃ xs,bM K H1 b xs)∧R (Cr K a b) H1
def S6 (K:PySem.W.Frag) (ta:TA):TI:=fun σ H R=>ta σ H fun vs H1=>∃ a b,vs=[.ref a,.ref b]∧(∃ xs,bR K H1 a xs)∧(∃ xs,bR K H1 b xs)∧R (Cu K a b) H1
variable {a b:Expr}{ta:TA}{p pos:Pos}
theorem HX (hg:Gl X "zip") (hm:X.mg "zip"=none) (ha:PA X [a,b] ta) (hs:starEach [a,b] X.env=[(false,eval a X.env),(false,eval b X.env)]:=by rfl) (hs2:starEach [b] X.env=[(false,eval b X.env)]:=by rfl) :
  PI X (.Tuple elts x1 tp) (.Call (.Name "zip" p) [a,b] [] pos) (RZ X.K ta):=by
 intro pins s σ H R I h
 refine Call_ (pB I hg hm HJ (PyProof.Rows.callWith_type1 (cN (ha pos pins s σ H _ I h) fun us s1 ⟨vs,H1,I1,r1,q1⟩=>?_) (by rw [hs,hs2]) (by rw [hs2];rfl)))
 obtain ⟨c,d,rfl,⟨xs,hx⟩,⟨ys,hy⟩,q⟩:=q1
 obtain ⟨u,u',rfl,ru,Pq⟩:=vals2 r1
 cases ru;cases Pq
 obtain ⟨its,rv,p1,_⟩:=I1.tuple hx
 obtain ⟨its2,rv2,p2,_⟩:=I1.tuple hy
 exact HW (U:=fun h=>h.IsTuple c its.toArray∧h.IsTuple d its2.toArray) I1 ⟨p1,p2⟩ (fun h o ⟨⟨oc,e,r⟩,⟨od,e',r'⟩⟩=>⟨⟨oc,Heap.get?_push_of_some _ e,r⟩,⟨od,Heap.get?_push_of_some _ e',r'⟩⟩)
  (fun prog w A Q E s hu hQ=>wpAny_pyIter_tuple hu.1 hQ) (fun prog w A Q E s hu hQ=>wpAny_pyIter_tuple hu.2 hQ) (Cm c _) (Cm d _) (fun h e=>⟨_,e,rfl,rfl⟩) (fun h e=>⟨_,e,rfl,rfl⟩) rfl rfl q
theorem HY (hg:Gl X "zip") (hm:X.mg "zip"=none) (ha:PA X [a,b] ta) (hs:starEach [a,b] X.env=[(false,eval a X.env),(false,eval b X.env)]:=by rfl) (hs2:starEach [b] X.env=[(false,eval b X.env)]:=by rfl) :
  PI X (.Tuple elts x1 tp) (.Call (.Name "zip" p) [a,b] [] pos) (S6 X.K ta):=by
 intro pins s σ H R I h
 refine Call_ (pB I hg hm HJ (PyProof.Rows.callWith_type1 (cN (ha pos pins s σ H _ I h) fun us s1 ⟨vs,H1,I1,r1,q1⟩=>?_) (by rw [hs,hs2]) (by rw [hs2];rfl)))
 obtain ⟨c,d,rfl,⟨xs,hx⟩,⟨ys,hy⟩,q⟩:=q1
 obtain ⟨u,u',rfl,ru,Pq⟩:=vals2 r1
 cases ru;cases Pq
 obtain ⟨its,rv,p1,_⟩:=I1.list hx
 obtain ⟨its2,rv2,p2,_⟩:=I1.list hy
 exact HW (U:=fun h=>h.IsList c its.toArray∧h.IsList d its2.toArray) I1 ⟨p1.isList,p2.isList⟩ (fun h o ⟨⟨oc,e,r⟩,⟨od,e',r'⟩⟩=>⟨⟨oc,Heap.get?_push_of_some _ e,r⟩,⟨od,Heap.get?_push_of_some _ e',r'⟩⟩)
  (fun prog w A Q E s hu hQ=>wpAny_pyIter_list hu.1 hQ) (fun prog w A Q E s hu hQ=>wpAny_pyIter_list hu.2 hQ) (Cp c _) (Cp d _) (fun h e=>⟨_,e,rfl,rfl⟩) (fun h e=>⟨_,e,rfl,rfl⟩) rfl rfl q
end
theorem o8 {J:It}{n:Nat}{fx fy:Nat→V}{D:Addr}{σ:St}{k:Nat}{ix:List Nat}{g:TG}{tt:TT}{te:TE}{Q:VK}{H1:Hp} (Pv:Nat→List V→Hp→Prop)
  (hJ:∀ i ys H,Pv i ys H→(i<n→J.go i H∧∀ v H',J.DY i H v H'→∃ p,v=.ref p∧H p=none∧H'=upd H p (.tup [fx i,fy i]))∧(n≤i→J.stop i H)) (h0:Pv 0 [] (upd H1 D (.lst []))) (hD:∀ i ys H,Pv i ys H→H D=some (.lst ys))
  (hs:∀ i ys H p,i<n→Pv i ys H→H p=none→uz D σ k ix g tt te (.ref p) ys (upd H p (.tup [fx i,fy i])) (Pv (i+1))) (hd:∀ ys H,Pv n ys H→Q (.ref D) H):lg J D σ k ix g tt te Q H1:=by
 refine ⟨fun i m ys H=>m=n - i∧i≤n∧Pv i ys H,⟨n,by simp,Nat.zero_le _,h0⟩,?_⟩
 rintro i m ys H ⟨rfl,hi,p⟩
 refine ⟨hD i ys H p,?_⟩
 obtain ⟨h1,h2⟩:=hJ i ys H p
 by_cases hlt:i<n
 ·obtain ⟨hg,hy⟩:=h1 hlt
  refine .inr ⟨hg,Pv (i+1),fun zs H' p'=>⟨n - (i+1),by omega,rfl,hlt,p'⟩,fun x H' y=>?_⟩
  obtain ⟨q,rfl,hq,rfl⟩:=hy x H' y
  exact hs i ys H q hlt p hq
 ·have e:i=n:=by omega
  subst e
  exact .inl ⟨h2 (Nat.le_refl _),hd ys H p⟩
theorem xU {K:PySem.W.Frag}{a b:Addr}{xs ys:List V}{H:Hp}{i:Nat} (ha:bM K H a xs) (hb:bM K H b ys) (hl:xs.length=ys.length) :
  (i<xs.length→(Cr K a b).go i H∧∀ v H',(Cr K a b).DY i H v H'→∃ p,v=.ref p∧H p=none∧H'=upd H p (.tup [xs.getD i .non,ys.getD i .non]))∧(xs.length≤i→(Cr K a b).stop i H):=by
 refine ⟨fun hi=>⟨⟨⟨xs,xs[i],ha,by simp [hi]⟩,⟨ys,ys[i]'(by omega),hb,by simp [hl ▸ hi]⟩⟩,fun v H' ⟨p,x,y,e1,e2,e3,e4,e5⟩=>⟨p,e1,e2,?_⟩⟩,fun hi=>.inl ⟨xs,ha,hi⟩⟩
 rw [e3,List.getD_eq_getElem?_getD,List.getD_eq_getElem?_getD,e4 xs ha,e5 ys hb];rfl
theorem xV {K:PySem.W.Frag}{a b:Addr}{xs ys:List V}{H:Hp}{i:Nat} (ha:bR K H a xs) (hb:bR K H b ys) (hl:xs.length=ys.length) :
  (i<xs.length→(Cu K a b).go i H∧∀ v H',(Cu K a b).DY i H v H'→∃ p,v=.ref p∧H p=none∧H'=upd H p (.tup [xs.getD i .non,ys.getD i .non]))∧(xs.length≤i→(Cu K a b).stop i H):=by
 refine ⟨fun hi=>⟨⟨⟨xs,xs[i],ha,by simp [hi]⟩,⟨ys,ys[i]'(by omega),hb,by simp [hl ▸ hi]⟩⟩,fun v H' ⟨p,x,y,e1,e2,e3,e4,e5⟩=>⟨p,e1,e2,?_⟩⟩,fun hi=>.inl ⟨xs,ha,hi⟩⟩
 rw [e3,List.getD_eq_getElem?_getD,List.getD_eq_getElem?_getD,e4 xs ha,e5 ys hb];rfl
theorem qL {X:Cx}{K:PySem.W.Frag}{pos:Pos}{es:List Expr}{k:Nat}{t:Pg}{n:Nat} (hc:X.calm=true) (h:VH X es t) (hK:X.K=K:=by rfl)
  (hn:(assignEach es X.env).length=n:=by rfl) (hst:(assignEach es X.env).findIdx? (·.1)=none:=by rfl):PG X (.Tuple es k pos) (VL K n t):=hK ▸ zm hc h hn hst
end L2
namespace L2
open PySem PySem.Spec PyProof.Rows
def lA:Nat:=2 ^ 9000
theorem Cw {n:Nat} (h:n<lA):n.log2<9000:=by
 by_cases h0:n=0
 ·subst h0;decide
 ·exact (Nat.log2_lt h0).mpr h
theorem xW {i:Int} (h:i.natAbs<lA):Builtin.Int.intBits i≤2 ^ 20:=by
 have e:(2:Nat) ^ 20=1048576:=by decide
 have:=Cw h
 unfold Builtin.Int.intBits
 split <;> omega
section
variable {X:Cx}
theorem o9:mK X (binaryOp .FloorDiv) (rI (fun _ j=>j≠0∧j.natAbs<lA) fun i j=>.int (i.fdiv j)):=Vj fun _ _ _ _ _ _ _ hc q=>floordiv_int hc.1 q (.inl (PyProof.noPylong_of_log2 (Cw hc.2)))
theorem iM:mK X (binaryOp .Mult) (rI (fun i j=>i.natAbs<lA∧j.natAbs<lA) fun i j=>.int (i * j)):=Vj fun _ _ _ _ _ _ _ hc q=>mul_int q (IntMulOk.of_bits (xW hc.1) (xW hc.2))
def oh (n:Nat) (l:List Nat):List Nat:=(List.replicate n l).flatten
theorem xX (l:Array Nat):∀ (n:Nat) (acc:Array Nat),((List.replicate n l).foldl (·++·) acc).toList=acc.toList++oh n l.toList
 | 0,acc=>by simp [oh]
 | n+1,acc=>by
  rw [List.replicate_succ,List.foldl_cons,xX l n]
  simp [oh,List.replicate_succ]
theorem LK (n:Nat) (l:List Nat):(oh n l).length=n * l.length:=by
 unfold oh
 induction n with
 | zero=>simp
 | succ n ih=>rw [List.replicate_succ,List.flatten_cons,List.length_append,ih,Nat.succ_mul];omega
theorem zR:mK X (binaryOp .Mult) (fun x y H Q=>∃ z n,x=.str z∧y=.int n∧0≤n∧n≤1000∧z.length≤1000∧Q (.str (gH (oh n.toNat z.cps.toList))) H):=by
 intro pins s σ H x y v u Q I rx ry h
 obtain ⟨z,n,rfl,rfl,h0,h1,hz,q⟩:=h
 obtain ⟨t,rfl⟩:=rx
 obtain ⟨t',rfl⟩:=ry
 have hl:z.length * n.toNat≤1000000:=Nat.le_trans (Nat.mul_le_mul hz (show n.toNat≤1000 by omega)) (by decide)
 have hsl:z.length * n.toNat≤sizeLine:=Nat.le_trans hl (by decide)
 refine PySem.P.mul_str (by rw [decide_eq_false (by omega),decide_eq_false (by omega)];rfl) (fun hn _=>?_) (fun _ _=>by unfold Builtin.Str.tooLong;simp;omega) ?_
 ·have:(1000:Int)≤(2 ^ 63 - 1) / n:=Int.le_ediv_of_mul_le (by omega) (by omega)
  omega
 ·by_cases hn:n<1
  ·rw [if_pos hn]
   have e:n.toNat=0:=by omega
   refine ⟨by decide,.str _,H,I.tok _,⟨_,rfl⟩,?_⟩
   have e2:gH (oh n.toNat z.cps.toList)=Str.empty:=by rw [e];rfl
   rw [← e2];exact q
  ·rw [if_neg hn]
   by_cases hc:(n==1||z.length==0)=true
   ·rw [if_pos hc]
    refine ⟨.str z,H,I,⟨t,rfl⟩,?_⟩
    have e2:gH (oh n.toNat z.cps.toList)=z:=by
     rcases Bool.or_eq_true_iff.mp hc with e | e
     ·have e':n=1:=by simpa using e
      subst e'
      simp [oh,lq]
     ·have e':z.cps.toList=[]:=by
       have:z.length=0:=by simpa using e
       simp only [Str.length] at this
       simpa using this
      have:∀ k,oh k ([]:List Nat)=[]:=fun k=>by simp [oh]
      rw [e',this,← e',lq]
    rw [← e2];exact q
   ·rw [if_neg hc]
    have e2:(⟨(List.replicate n.toNat z.cps).foldl (·++·) #[]⟩:Str)=gH (oh n.toNat z.cps.toList):=qK (by
     show ((List.replicate n.toNat z.cps).foldl (·++·) #[]).toList=_
     rw [xX];simp)
    rw [e2]
    refine ⟨?_,.str _,H,I.tok _,⟨_,rfl⟩,q⟩
    rw [iK,LK]
    have:z.cps.toList.length=z.length:=by simp [Str.length]
    rw [this,Nat.mul_comm];exact hsl
end
end L2
namespace L2
open PySem PySem.Spec PyProof.Rows
mutual
inductive eO (H:Hp):V→PyData→Prop
 | non:eO H .non .none
 | bl (b):eO H (.bl b) (.bool b)
 | int (i):eO H (.int i) (.int i)
 | str (x):eO H (.str x) (.str x)
 | lst {p xs ds}:H p=some (.lst xs)→cZ H xs ds→eO H (.ref p) (.list ds)
 | tup {p xs ds}:H p=some (.tup xs)→cZ H xs ds→eO H (.ref p) (.tuple ds)
inductive cZ (H:Hp):List V→List PyData→Prop
 | nil:cZ H [] []
 | cons {v vs d ds}:eO H v d→cZ H vs ds→cZ H (v::vs) (d::ds)
end
mutual
theorem eO.same {H H':Hp} (s:Same H H'):∀ {v:V}{d:PyData},eO H v d→eO H' v d
 | _,_,.non=>.non
 | _,_,.bl b=>.bl b
 | _,_,.int i=>.int i
 | _,_,.str x=>.str x
 | _,_,.lst h r=>.lst (s _ _ h) (cZ.same s r)
 | _,_,.tup h r=>.tup (s _ _ h) (cZ.same s r)
theorem cZ.same {H H':Hp} (s:Same H H'):∀ {vs:List V}{ds:List PyData},cZ H vs ds→cZ H' vs ds
 | _,_,.nil=>.nil
 | _,_,.cons h r=>.cons (eO.same s h) (cZ.same s r)
end
section
variable {X:Cx}{pins:List (Addr×Obj)}{σ:St}{H:Hp}{s:Shared}
mutual
theorem eO.reads (I:Inv X pins σ H s):∀ {v:V}{d:PyData}{u:Value},eO H v d→RelV v u→∃ as,Reads s.heap u d as
 | _,_,_,.non,r=>by cases r;exact ⟨_,.none⟩
 | _,_,_,.bl b,r=>by cases r;exact ⟨_,.bool b⟩
 | _,_,_,.int i,r=>by obtain ⟨t,rfl⟩:=r;exact ⟨_,.int i t⟩
 | _,_,_,.str x,r=>by obtain ⟨t,rfl⟩:=r;exact ⟨_,.str x t⟩
 | _,_,_,.lst h q,r=>by
  cases r
  obtain ⟨_,its,n,rv,e⟩:=(I.hok _ _ h)
  obtain ⟨as,ra⟩:=cZ.reads I q rv
  exact ⟨_,.list e rfl rfl (by simpa using ra)⟩
 | _,_,_,.tup h q,r=>by
  cases r
  obtain ⟨_,its,rv,o,e,c,n,dd⟩:=(I.hok _ _ h)
  obtain ⟨as,ra⟩:=cZ.reads I q rv
  exact ⟨_,.tuple e c dd (by simpa using ra)⟩
theorem cZ.reads (I:Inv X pins σ H s):∀ {vs:List V}{ds:List PyData}{us:List Value},cZ H vs ds→Vals vs us→∃ as,ReadsAll s.heap us ds as
 | _,_,_,.nil,r=>by cases r;exact ⟨_,.nil⟩
 | _,_,_,.cons h q,r=>by
  cases r with
  | cons r1 r2 =>
   obtain ⟨as,ra⟩:=eO.reads I h r1
   obtain ⟨bs,rb⟩:=cZ.reads I q r2
   exact ⟨_,.cons ra rb⟩
end
def rEqD:R2:=fun x y H Q=>∃ dx dy,eO H x dx∧eO H y dy∧dx.canLay0=true∧dy.canLay0=true∧dx.depth≤8∧Q (.bl (PyData.eqv dx dy)) H
def rNeD:R2:=fun x y H Q=>∃ dx dy,eO H x dx∧eO H y dy∧dx.canLay0=true∧dy.canLay0=true∧dx.depth≤8∧Q (.bl (!PyData.eqv dx dy)) H
theorem S7 (hu:X.A.units+64<cLine):mK X (compareOp .Eq) rEqD:=by
 intro pins s σ H x y v u Q I rx ry h
 obtain ⟨dx,dy,h1,h2,c1,c2,dp,q⟩:=h
 obtain ⟨as,ra⟩:=h1.reads I rx
 obtain ⟨bs,rb⟩:=h2.reads I ry
 exact SeqAt.compareEq_reads ra rb c1 c2 (by omega) ⟨.bl _,H,I,rfl,q⟩
theorem vW (hu:X.A.units+64<cLine):mK X (compareOp .NotEq) rNeD:=by
 intro pins s σ H x y v u Q I rx ry h
 obtain ⟨dx,dy,h1,h2,c1,c2,dp,q⟩:=h
 obtain ⟨as,ra⟩:=h1.reads I rx
 obtain ⟨bs,rb⟩:=h2.reads I ry
 exact SeqAt.compareNe_reads ra rb c1 c2 (by omega) ⟨.bl _,H,I,rfl,q⟩
end
end L2
namespace L2
open PySem PySem.Spec PyProof.Rows PySem.W PySem.Builtin.ObjectAttr PySem.Builtin.Getset_descriptor
structure XC (K:PySem.W.Frag) (D:Addr):Prop where
 ga:findIn K (.ref D) "__getattribute__"=some (some (.builtin "BaseException.__getattribute__"))
 gh:findIn K (.ref D) "__getattr__"=some none
 cl:(clsIn K D).isSome=true
 ca:findIn K (.ref D) "__class__"=some (some (.builtin "object.__class__"))
 gs:specialIn K (.builtin "object.__class__") "__get__"=some (some (.builtin "getset_descriptor.__get__"))
 tk:takesIn K (.builtin "object.__class__")=some true
 ob:mroIn K D (.type "object")=some true
 be:mroIn K D (.type "BaseException")=some true
def KH (x D:Addr) (h:Heap):Prop:=∃ o,h.get? x=some o∧o.cls=.ref D
theorem KH.ty {M:Model}{h:Heap}{x D:Addr} (I:KH x D h):Looks M h (typeOf (.ref x)) (.ref D):=by
 obtain ⟨o,e,c⟩:=I
 exact c ▸ (Looks.ld e).andThen .now
section
variable {prog:Program}{w:World}{A:Around}{E:Value→Shared→Prop}{s:Shared}{K:Frag}{x D:Addr}
theorem Ia {M:Model}{h:Heap} (C:XC K D) (X:K.In h):Looks M h (find (.ref x) (.ref D) "__class__") (.bind (.builtin "getset_descriptor.__get__") (.builtin "object.__class__")):=by
 have L1:=looks_findIn (M:=M) X C.ca
 have L2:Looks M h (getOf (some (.builtin "object.__class__"))) _:=looks_specialIn X C.gs
 have L3:=looks_takesIn (M:=M) X C.tk
 exact L1.andThen (L2.andThen ((show Looks M h (dataDescriptor? (some _) (some _)) (some (_,_)) from L3.andThen .now).andThen (Looks.tag .now)))
theorem LQ {tp:Value}{R:Result→Shared→Prop} (C:XC K D) (X:K.In s.heap) (I:KH x D s.heap) (h:R (.ok (.ret (.ref D))) s) :
  codeAny (model prog w) A (.call (.builtin "getset_descriptor.__get__") ⟨[.builtin "object.__class__",.ref x,tp],[]⟩) R s:=by
 obtain ⟨hh,g,dr,t,os⟩:=s
 have L0:=I.ty (M:=model prog w)
 have L1:=looks_mroIn (M:=model prog w) X C.ob
 refine codeAny_call_builtin KF.slot_gs.plain KF.entry_gs (KF.slot_gs.check _ _ _ _ _ _ _ _ KF.type_class (KF.args_gs _ _ _) ?_)
 unfold Builtin.«getset_descriptor.__get__» descrGet
 rw [dga_obj]
 refine wpAny_bind (wpAny_pure ?_)
 unfold descrGetter descrCheckInstance descrNameAndClass isInstance
 simp only [KF.owner_class]
 repeat lk
 refine ⟨Code.quiet_builtin _ (by decide +kernel),codeAny_builtin KF.entry_class ?_⟩
 unfold Builtin.«object.__class__» shownTypeOf
 repeat lk
 exact h
theorem En {tk:Tok}{Q:Fin→Shared→Prop} (C:XC K D) (X:K.In s.heap) (I:KH x D s.heap) (h:Q (.done (.ret (.ref D))) s) :
  wpAny (model prog w) A (Builtin.«object.__getattribute__» ⟨[.ref x,.str "__class__" tk],[]⟩) Q E s:=by
 obtain ⟨hh,g,d,t,os⟩:=s
 have L0:=I.ty (M:=model prog w)
 have L1:=Ia (M:=model prog w) (x:=x) C X
 unfold Builtin.«object.__getattribute__»
 refine wpAny_bind (wpAny_pure (wpAny_bind (wpAny_pure (wpAny_bind (L0.at (wpAny_bind (L1.at ?_)))))))
 show wpAny _ _ (holding [.builtin "object.__class__"] (call (.builtin "getset_descriptor.__get__") [.builtin "object.__class__",.ref x,.ref D]) >>= ret) _ _ _
 exact wpAny_bind (wpAny_holding (wpAny_call (LQ (s:=⟨hh,g,d,t,os⟩) C X I (wpAny_pure h))))
theorem Eo {nameV:Value}{Q:Unit→Shared→Prop} (C:XC K D) (X:K.In s.heap) (I:KH x D s.heap) (hq:Q () s) :
  wpAny (model prog w) A (checkBuiltinCall "BaseException.__getattribute__" ⟨[.ref x,nameV],[]⟩) Q E s:=by
 obtain ⟨hh,g,d,t,os⟩:=s
 have hk:builtinKind "BaseException.__getattribute__"=some .slot:=by decide +kernel
 have hsplit:splitId "BaseException.__getattribute__"=some ("BaseException", "__getattribute__"):=by decide +kernel
 have L0:=I.ty (M:=model prog w)
 have LI:Looks (model prog w) hh (isInstance (.ref x) (.type "BaseException")) true:=L0.andThen (looks_mroIn X C.be)
 have ha:=F.args_bexc_ga (.ref x) nameV
 simp only [checkBuiltinCall,hk,hsplit]
 refine wpAny_bind (LI.at ?_)
 repeat (any_goals (first | assumption | wp_step))
theorem Ep {Q:Option Value→Shared→Prop} (C:XC K D) (X:K.In s.heap) (I:KH x D s.heap) (h:Q (some (.ref D)) { s with toks:=s.toks+1 }) :
  wpAny (model prog w) A (getAttr? (.ref x) "__class__") Q E s:=by
 obtain ⟨hh,g,d,t,os⟩:=s
 have L0:=I.ty (M:=model prog w)
 have L1:=looks_findIn (M:=model prog w) X C.ga
 have L2:=looks_findIn (M:=model prog w) X C.gh
 unfold getAttr? getAttrBy? getAttrBy
 refine wpAny_bind (wpAny_mkText (wpAny_bind (wpAny_attempt (wpAny_holding (wpAny_bind (L0.at (wpAny_bind (L1.at ?_))))))))
 show wpAny _ _ (getAttrByItsOwn _ _ _ _ _ _) _ _ _
 unfold getAttrByItsOwn hookBefore
 have hon:onTheHeap (Value.ref D)=true:=rfl
 rw [if_pos hon]
 refine wpAny_bind (L2.at (wpAny_bind (wpAny_attempt (wpAny_holding ?_))))
 show wpAny _ _ (boundAndCalled (.builtin "BaseException.__getattribute__") (.ref x) _) _ _ _
 unfold boundAndCalled
 have f3:=PySem.F.excAttr_ValueError.ga.bind (.ref x)
 rw [f3]
 refine wpAny_bind (wpAny_pure (wpAny_call (codeAny_call_builtin PySem.F.excAttr_ValueError.ga.plain F.entry_bexc_ga (Eo (s:=⟨hh,g,d,t+1,os⟩) C X I (En (s:=⟨hh,g,d,t+1,os⟩) C X I ?_)))))
 refine handed_on rfl ?_
 exact wpAny_pure h
theorem Ib (C:XC K D):KitX K (.ref x) (.ref D) (KH x D) where
 ty:=fun _ _ _ I=>I.ty
 it:=fun _ _ X _=>by
  obtain ⟨cdD,hcD⟩:=Option.isSome_iff_exists.mp C.cl
  unfold clsIn at hcD
  split at hcD
  ·rename_i c' d' cd' sl' ho
   intro A' Q' E' s' k q
   unfold isType loadHead
   exact wpAny_bind (wpAny_loadPart (k _ _ (X _ _ ho)) (wpAny_pure q))
  ·cases hcD
 ne:=fun h tp dd its n sl X htp=>by
  obtain ⟨cdD,hcD⟩:=Option.isSome_iff_exists.mp C.cl
  refine Bool.eq_false_iff.mpr fun q=>?_
  have e:D=tp:=Value.ref.inj (beq_iff_eq.mp q)
  subst e
  unfold clsIn at hcD
  split at hcD
  ·rename_i c' d' cd' sl' ho
   have z:=(X _ _ ho).symm.trans htp
   cases z
  ·cases hcD
 ca:=fun X I k=>Ep C X I k
end
def Cy (C a:Addr):HO:=.ext (KH a C)
def cV:V→Value
 | .ty T=>.type T
 | .ref a=>.ref a
 | _=>.none
def Wk (K:PySem.W.Frag):List V→Hp→VK→Prop:=fun xs H Q=>∃ a C cv b,xs=[.ref a,cv]∧H a=some (Cy C a)∧XC K C∧((∃ T,cv=.ty T)∨∃ D,cv=.ref D)∧kitOne K (.ref C) (cV cv)=some b∧Q (.bl b) H
theorem Ie {X:Cx}:fM X (.builtin "isinstance") (Wk X.K):=by
 intro pins s σ H xs us Q I r h
 obtain ⟨a,C,cv,b,rfl,ha,xc,hcv,e,q⟩:=h
 obtain ⟨u,u',rfl,ru,Pq⟩:=vals2 r
 cases ru
 have hu:u'=cV cv:=by
  rcases hcv with ⟨T,rfl⟩ | ⟨D,rfl⟩
  ·exact Pq
  ·exact Pq
 subst hu
 obtain ⟨hO,_⟩:=(show cJ X.prog X.w H s.heap a (.ext (KH a C)) from I.hok a _ ha)
 exact kia_one (Ib xc) I.lM hO e (fun z=>nomatch z) fun tk=>⟨.bl b,H,I.tok _,rfl,q⟩
structure Fly (B h0 h:Heap) (outer:List Env) (H':Hp) (ea:Addr) (C a0:Value):Prop where
 fl:Heap.FlyingW B outer ea C a0 h
 tr:∀ b o,H' b=some o→∃ u,B.get? b=some u
 old:∀ b o,h0.get? b=some o→b∉frs outer→∃ u,B.get? b=some u
def fW (P:Program) (w:World):wO:=fun outer H s E e s' =>
 ∃ (ea:Addr) (C a0:Value) (B:Heap) (H':Hp),e=.ref ea∧s'.os=s.os∧AllBare s'.gens∧Un (frs outer) [] H H' s.heap s'.heap∧jX P w H' s'.heap∧Fly B s.heap s'.heap outer H' ea C a0∧E C none H'
theorem qM {P:Program}{w:World}{H':Hp}{h h2 B:Heap} (hok:jX P w H' h) (tr:∀ b o,H' b=some o→∃ u,B.get? b=some u) (b0:B.StaysIn h) (st:B.StaysIn h2):jX P w H' h2:=fun b u q=>by
 have key:∀ c o v,H' c=some o→h.get? c=some v→h2.get? c=some v:=fun c o v q e=>by
  obtain ⟨u,hu⟩:=tr c o q
  rw [b0 c u hu] at e;cases e;exact st c _ hu
 refine (hok b u q).stay (fun c v hc e=>?_) (fun _ z=>z) fun _ _ z=>z
 rcases hc with rfl | hc
 ·exact key _ _ _ q e
 ·exact key _ _ _ hc e
theorem vX {outer:List Env}{H H':Hp}{h0 h h2 B base:Heap} (un:Un (frs outer) [] H H' h0 h) (ff:h.FunFrames base outer) (old:∀ b o,h0.get? b=some o→b∉frs outer→∃ u,B.get? b=some u) (b0:B.StaysIn h) (st:B.StaysIn h2) (up:h.UpToSlots h2) :
  Un (frs outer) [] H H' h0 h2 where
 keep:=fun b o e n hb hx=>by
  obtain ⟨u,hu⟩:=old b o e hb
  have e1:=un.keep b o e n hb hx
  rw [b0 b u hu] at e1;cases e1;exact st b _ hu
 slot:=fun b o e n hb hx=>by
  obtain ⟨sl,e1⟩:=un.slot b o e n hb hx
  obtain ⟨_,o',ho',hd⟩:=ff.mem hb
  rw [e1] at ho';cases ho'
  obtain ⟨sl2,e2⟩:=up b _ e1 hd
  exact ⟨sl2,e2⟩
 free:=un.free
 there:=fun b o e hx=>by
  by_cases hb:b∈frs outer
  ·obtain ⟨_,o',ho',hd⟩:=ff.mem hb
   obtain ⟨sl2,e2⟩:=up b _ ho' hd
   exact ⟨_,e2⟩
  ·obtain ⟨u,hu⟩:=old b o e hb
   exact ⟨u,st b u hu⟩
 tups:=un.tups
 mV:=un.mV
 pq:=un.pq
theorem Er {P:Program}{w:World}{H:Hp}{h:Heap}{a:Addr}{o:HO} (x:cJ P w H h a o):∃ u,h.get? a=some u:=by
 cases o with
 | lst xs=>obtain ⟨_,_,_,_,e⟩:=x;exact ⟨_,e⟩
 | tup xs=>obtain ⟨_,_,_,o,e,_⟩:=x;exact ⟨_,e⟩
 | dK kvs=>obtain ⟨_,_,_,_,o,_,_,e,_⟩:=x;exact ⟨_,e⟩
 | dT kvs=>obtain ⟨_,_,_,_,o,_,_,e,_⟩:=x;exact ⟨_,e⟩
 | set S n=>obtain ⟨o,_,_,_,e,_⟩:=x;exact ⟨_,e⟩
 | ins C dx fs=>obtain ⟨_,_,_,e,_⟩:=x;exact ⟨_,e⟩
 | own y=>exact x
 | xd fs=>obtain ⟨_,⟨o,_,_,e,_⟩,_⟩:=x;exact ⟨_,e⟩
 | met f y=>exact ⟨_,x⟩
 | rng lo hi=>obtain ⟨_,_,_,e⟩:=x;exact ⟨_,e⟩
 | fX ob u=>exact ⟨_,x.1⟩
 | KR ps=>exact ⟨_,x⟩
 | ext φ=>exact x.2.1
section
variable {P:Program}{w:World}{K:PySem.W.Frag}{mg:Str→Option Value}{base:Heap}{N:List Str}{qual:Str}{scope:Scope}{f:Addr}{cd:Value}{A:Around}{outer:List Env}{s:Shared}{H:Hp}{E:XK}
theorem ou {pins:List (Addr×Obj)}{σ:St}{H1:Hp}{s1:Shared}{h':Heap}{e C:Addr}{vs:List Value} (I:Inv (pH (fW P w) P w K mg base N qual scope f cd A outer s H E) pins σ H1 s1) (hx:Heap.MadeExcOf s1.heap h' e (.ref C) vs) (q:E (.ref C) none H1) :
  (pH (fW P w) P w K mg base N qual scope f cd A outer s H E).xe (.ref e) { s1 with heap:=h' }:=by
 have fr:=I.ok.frames
 have ff:=funFrames_hide (as:=frs (pH (fW P w) P w K mg base N qual scope f cd A outer s H E).stack) I.stack fun env he a hf=>List.mem_filterMap.mpr ⟨env,he,hf⟩
 refine wpAny_leaves_madeW (h:=s1.heap) fr rfl (fun b o q=>of_hideAll _ q) ff hx fun h'' t fl tup bt up=>?_
 have b0:(hideAll s1.heap (frs (pH (fW P w) P w K mg base N qual scope f cd A outer s H E).stack)).StaysIn s1.heap:=fun b o q=>of_hideAll _ q
 have tr:∀ b o,H1 b=some o→∃ u,(hideAll s1.heap (frs (pH (fW P w) P w K mg base N qual scope f cd A outer s H E).stack)).get? b=some u:=fun b o e=>by
  obtain ⟨u,hu⟩:=Er (I.hok b o e)
  exact ⟨u,hideAll_get _ hu fun z=>by rw [I.qG b z] at e;cases e⟩
 have old:∀ b o,s.heap.get? b=some o→b∉frs outer→∃ u,(hideAll s1.heap (frs (pH (fW P w) P w K mg base N qual scope f cd A outer s H E).stack)).get? b=some u:=fun b o e hb=>by
  obtain ⟨u,hu⟩:=I.base.there b o e (fun z=>nomatch z)
  refine ⟨u,hideAll_get _ hu fun z=>?_⟩
  rcases List.mem_cons.mp (I.pA b z) with q | q
  ·have h1:=Heap.lt_size e
   have h2:s.heap.objs.size≤b:=by rw [q];exact I.ok.above
   exact absurd (Nat.lt_of_lt_of_le h1 h2) (Nat.lt_irrefl _)
  ·exact hb q
 exact ⟨e,.ref C,.ref t,_,H1,rfl,I.os,I.bare,vX I.base I.mJ old b0 fl.1 ((Heap.UpToSlots.of_keeps hx.keeps).trans up),qM I.hok tr b0 fl.1,⟨fl,tr,old⟩,q⟩
theorem dW:Passes (fW P w) (pH (fW P w) P w K mg base N qual scope f cd A outer s H E) E:=by
 rintro pins σ H1 s1 e s' I ⟨ea,C,a0,B,H',rfl,os,bare,un,hok,fly,q⟩
 have J:=I.call' os un hok bare (fun b z=>nomatch z)
 refine wpAny_leaves_onW J.ok.frames rfl fly.fl fun h'' fl up=>?_
 have old:∀ b o,s.heap.get? b=some o→b∉frs outer→∃ u,B.get? b=some u:=fun b o e hb=>by
  obtain ⟨o1,e1⟩:=I.base.there b o e (fun z=>nomatch z)
  refine fly.old b o1 e1 fun z=>?_
  rcases List.mem_cons.mp (I.pA b z) with q | q
  ·have h1:=Heap.lt_size e
   have h2:s.heap.objs.size≤b:=by rw [q];exact I.ok.above
   exact absurd (Nat.lt_of_lt_of_le h1 h2) (Nat.lt_irrefl _)
  ·exact hb q
 exact ⟨ea,C,a0,B,H',rfl,J.os,J.bare,vX J.base J.mJ old fly.fl.1 fl.1 up,qM hok fly.tr fly.fl.1 fl.1,⟨fl,fly.tr,old⟩,q⟩
end
end L2
namespace L2
open PySem PySem.Spec PyProof.Rows PySem.W
def oA (CX:wO) (X:Cx) (E:St→XK):Prop:=∀ (pins:List (Addr×Obj)) (σ:St) (H:Hp) (s:Shared) (e:Value) (s':Shared),Inv X pins σ H s→CX X.stack H s (E σ) e s'→X.xe e s'
def S8 (sp:Sp) (jU:List V) (E:St→XK) (t:TA):TE:=fun σ H Q=>t σ H fun vs H1=>sp (vs++jU) H1 Q (E σ)
section
variable {X:Cx}{CX:wO}{k:Nat}{f C:Addr}{fd:FuncData}{ps:List Str}{sp:Sp}{jU:List V}{ds:List Value}{E:St→XK}{x m:Str}{p pos apos:Pos}{e o:Expr}{es:List Expr}{ta:TE}{t:TA}
theorem LR {pins:List (Addr×Obj)}{σ:St}{H:Hp}{s:Shared}{Q:VK}{us:List Value}{vs:List V} (F:aL X.prog X.w X.K X.mg X.base CX k f fd ps sp) (hr:fG k X.A) (hb:Binds X.K fd ps ds) (hd:Vals jU ds) (hx:oA CX X E)
  (I:Inv X pins σ H s) (r:Vals vs us) (h:sp (vs++jU) H Q (E σ)):wpAny (model X.prog X.w) X.A (call (.ref f) us) (EP X pins σ Q) X.xe s:=by
 have r2:Vals (vs++jU) (us++ds):=r.append hd
 have hl:(us++ds).length=ps.length:=by rw [← r2.length];exact F.len _ _ _ _ h
 refine wpAny_call (codeAny_mono (F.run X.A X.stack s H ⟨us,[]⟩ (us++ds) (vs++jU) Q (E σ) hr I.env0 (hb s us I.lM hl) r2 h) fun r s' hq=>?_)
 cases r with
 | error e=>exact hx pins σ H s e s' I hq
 | ok fl =>
  cases fl with
  | ret u=>exact I.after hq
  | next=>exact False.elim hq
  | brk=>exact False.elim hq
  | cont=>exact False.elim hq
theorem Ig (F:aL X.prog X.w X.K X.mg X.base CX k f fd ps sp) (hr:fG k X.A) (hg:Gl X x) (hm:X.mg x=some (.ref f)) (hk:PySem.W.keepIn X.K (.ref f)=true) (hb:Binds X.K fd ps ds) (hd:Vals jU ds) (hx:oA CX X E)
  (ha:PA X (e::es) t) (hdb:(x==("__debug__" : Str))=false:=by decide) (he:starEach (e::es) X.env=(false,eval e X.env)::starEach es X.env:=by rfl) (hpl:(backTo pos (starEach es X.env)).any (·.1)=false:=by rfl) :
  PE X (.Call (.Name x p) (e::es) [] pos) (S8 sp jU E t):=by
 intro pins s σ H Q I h
 refine wpAny_Call_Name_kw (jF I hg hm ?_ hdb)
 refine PySem.W.callWith_K (h₀:=X.base) I.ok.mod.kin hk (cN (ha pos pins s σ H _ I h) fun us s1 ⟨vs,H1,I1,r,q⟩=>⟨I1.lM,?_⟩) he hpl
 exact LR F hr hb hd hx I1 r q
end
def Ih (X:Cx) (E:XK):Prop:=∀ (pins:List (Addr×Obj)) (σ:St) (H:Hp) (s:Shared) (h':Heap) (e C:Addr) (vs:List Value),Inv X pins σ H s→Heap.MadeExcOf s.heap h' e (.ref C) vs→E (.ref C) none H→X.xe (.ref e) { s with heap:=h' }
abbrev zT:List Value:=[.type "ValueError",.type "Exception",.type "BaseException",.type "object"]
theorem Ma {K:Frag}{h:Heap}{C:Addr}{bmB:List Value}{newId:String} (X:K.In h) (q:excIn K C bmB newId=true) :
  ∃ bm N nm q bs hdct sn sub ab col dd k0 k1 k2 k3 k5 mN,h.get? C=some (excClassObj nm q C N bs bm hdct sn sub ab col dd k0 k1 k2 k3 k5 newId)∧h.Ns N mN∧mN "__init__"=none∧OwnTail h bmB bm:=by
 unfold excIn at q
 split at q
 ·rename_i dd cd sl ho
  split at q
  ·rename_i C' bm k0 k1 k2 k3 n k5 hm hs
   simp only [Bool.and_eq_true,beq_iff_eq,Bool.not_eq_true'] at q
   obtain ⟨⟨⟨⟨⟨rfl,rfl⟩,hdel⟩,ht⟩,hok⟩,hni⟩:=q
   obtain ⟨nm,bs,mro,ns,qn,hd,sn,sub,ab,col,del⟩:=cd
   dsimp only at hm hdel hok hni
   subst hm hdel
   have hsl:sl=#[k0,k1,k2,k3,some (.builtin n),k5]:=by
    obtain ⟨l⟩:=sl
    simp only at hs
    rw [hs]
   subst hsl
   exact ⟨bm,ns,nm,qn,bs,hd,sn,sub,ab,col,dd,k0,k1,k2,k3,k5,_,X _ _ ho,.of_isNs (isNs_of_in X hok),nsMap_none_of_in X hok hni,tail_of_in X ht⟩
  ·cases q
 ·cases q
def S9 (C:Addr) (E:XK) (t:TA):TS:=fun _ σ H=>t σ H fun vs H1=>vs.length≤sizeLine∧E (.ref C) none H1
theorem xY {X:Cx}{C:Addr}{E:XK}{x:Str}{np cpos pos:Pos}{e:Expr}{es:List Expr}{t:TA} (hc:X.calm=true) (hr:Ih X E) (hg:Gl X x) (hm:X.mg x=some (.ref C)) (hq:excIn X.K C zT "ValueError.__new__"=true)
  (ha:PA X (e::es) t) (hdb:(x==("__debug__" : Str))=false:=by decide) (he:starEach (e::es) X.env=(false,eval e X.env)::starEach es X.env:=by rfl) (hpl:(backTo cpos (starEach es X.env)).any (·.1)=false:=by rfl) :
  PS X (.Raise (some (.Call (.Name x np) (e::es) [] cpos)) none pos) (S9 C E t):=by
 intro pins s σ H D I h
 obtain ⟨tl,N,nm,q,bs,hdct,sn,sub,ab,col,dd,k0,k1,k2,k3,k5,mN,hC,hN,hni,T⟩:=Ma I.mod.kin hq
 refine wpAny_Raise_call_subT (C:=C) (nm:=nm) (q:=q) (N:=N) (bs:=bs) (bm:=tl) (hdct:=hdct) (sn:=sn) (sub:=sub) (ab:=ab) (col:=col) (dd:=dd) (k0:=k0) (k1:=k1) (k2:=k2) (k3:=k3) (k5:=k5)
  PySem.F.excBase_ValueError (mN:=mN) (T.hasType PySem.F.excBase_ValueError.hasBase) (I.ok.hd hc) (by rw [he];show (false||(backTo cpos (starEach es X.env)).any (·.1))=false;rw [hpl];rfl) hni (jF I hg hm ⟨rfl,?_⟩ hdb)
 have h2:=ha cpos pins s σ H _ I h
 rw [he] at h2 ⊢
 refine Calls.evalArgs_plain (wpAny_mono h2 (fun us s2 hs=>?_) fun _ _ y=>y)
 obtain ⟨vs,H1,I1,r,hl,hE⟩:=hs
 exact ⟨rfl,by rw [← r.length];exact hl,I1.bk _ _ hC,hN.keeps I1.bk,T.keeps I1.bk,fun h' e' hx=>hr pins σ H1 s2 h' e' C us I1 hx hE⟩
abbrev Cx.hand (X:Cx) (ea:Addr):Cx:={ X with A:=X.A.mark (some (.ref ea)),calm:=false,xe:=fun _ _=>False }
abbrev Cx.Cz (X:Cx) (pn:List (Addr×Obj)) (xe:Value→Shared→Prop):Cx:={ X with pn:=pn,xe:=xe }
section
variable {X:Cx}{pins wW:List (Addr×Obj)}{σ:St}{H:Hp}{s:Shared}{xe:Value→Shared→Prop}{ea:Addr}
theorem Inv.Wm (I:Inv X pins σ H s):Inv (X.Cz (X.pn++pins) xe) [] σ H s :=
 ⟨⟨I.ok.mod,I.ok.kind,I.ok.glob,I.ok.blt,I.ok.above,I.ok.inj,I.ok.has,I.ok.cab,I.ok.hd,I.ok.frames,I.ok.stk,I.ok.Pb,I.ok.bs,I.ok.Gs,I.ok.vI,I.ok.wV,I.ok.mJ,I.ok.KZ⟩,I.os,I.bare,I.base,I.loc,I.cell,I.free,I.fY,fun p hp=>I.pin p (by simpa using hp),I.hok,I.len⟩
theorem Inv.uH (ok:X.Ok) (I:Inv (X.Cz (X.pn++pins) xe) wW σ H s):Inv X pins σ H s :=
 ⟨ok,I.os,I.bare,I.base,I.loc,I.cell,I.free,I.fY,fun p hp=>I.pin p (List.mem_append_left _ hp),I.hok,I.len⟩
theorem Inv.Ii (I:Inv X pins σ H s):Inv (X.hand ea) pins σ H s :=
 ⟨⟨I.ok.mod,I.ok.kind,I.ok.glob,I.ok.blt,I.ok.above,I.ok.inj,I.ok.has,I.ok.cab,(fun z=>nomatch z),I.ok.frames,I.ok.stk,I.ok.Pb,I.ok.bs,I.ok.Gs,I.ok.vI,I.ok.wV,I.ok.mJ,I.ok.KZ⟩,I.os,I.bare,I.base,I.loc,I.cell,I.free,I.fY,I.pin,I.hok,I.len⟩
theorem Inv.vY (ok:X.Ok) (I:Inv (X.hand ea) pins σ H s):Inv X pins σ H s :=
 ⟨ok,I.os,I.bare,I.base,I.loc,I.cell,I.free,I.fY,I.pin,I.hok,I.len⟩
theorem qN {M:Model}{A:Around}{E:Value→Shared→Prop}{i:Nat}{n:Str}{pos:Pos}{Q:Unit→Shared→Prop} (I:Inv X pins σ H s) (hN:X.N.Nodup) (hi:X.N[i]?=some n) (hk:X.env.scope.names.lookup n=some .local)
  (h:∀ s',Inv X pins (σ.set i none) H s'→Q () s'):wpAny M A (do bindName X.env n .none;unbindBehindTheSuite X.env n pos) Q E s:=by
 obtain ⟨m,hn,hl⟩:=id I.loc
 have hcls:(X.env.scope.kind==.class||(X.env.scope.kind==.module&&X.env.locals != X.env.globals))=false:=by rw [I.ok.kind];rfl
 have hiσ:i<σ.length:=by rw [I.len];exact (List.getElem?_eq_some_iff.mp hi).1
 have Gu:=I.Gu
 refine wpAny_nameGoes_keeps hk hn hcls fun h' v hn' hs=>?_
 obtain ⟨oL,_,_,hoL,_⟩:=id hn
 have tracked:jX X.prog X.w H h':=fun b ob e=>by
  refine (I.hok b ob e).stay (fun c w' hc q=>(hs.2 c ?_).trans q) (fun _ q=>q) fun _ _ q=>q
  rintro rfl
  rcases hc with rfl | hc
  ·rw [I.free] at e;cases e
  ·rw [I.free] at hc;cases hc
 refine h _ ⟨I.ok,I.os,I.bare,⟨fun b o e n hb hx=>?_,fun b o e n hb hx=>?_,I.base.free,fun b o e hx=>?_,I.base.tups,I.base.mV,I.base.pq⟩,⟨_,hn',fun j y v' e1 e2 e3=>?_⟩,fun y c e=>?_,I.free,I.fY,fun p hp=>?_,tracked,by simpa using I.len⟩
 ·exact (hs.2 b (Nat.ne_of_lt (Nat.lt_of_lt_of_le (Heap.lt_size e) I.ok.above))).trans (I.base.keep b o e n hb hx)
 ·obtain ⟨sl,e1⟩:=I.base.slot b o e n hb hx
  exact ⟨sl,(hs.2 b (Nat.ne_of_lt (Nat.lt_of_lt_of_le (Heap.lt_size e) I.ok.above))).trans e1⟩
 ·obtain ⟨o',e1⟩:=I.base.there b o e hx
  exact ⟨o',(hs.2 b (Nat.ne_of_lt (Nat.lt_of_lt_of_le (Heap.lt_size e) I.ok.above))).trans e1⟩
 ·by_cases hj:j=i
  ·subst hj
   rw [List.getElem?_set_self hiσ] at e2
   cases e2
  ·rw [List.getElem?_set_ne (Ne.symm hj)] at e2
   obtain ⟨u',r',q⟩:=hl j y v' e1 e2 e3
   refine ⟨u',r',?_⟩
   rcases q with ⟨k,e⟩ | ⟨k,c,e,z⟩
   ·refine .inl ⟨k,?_⟩
    have:y≠n:=fun e=>hj (rm hN e1 (e ▸ hi))
    simp [this,e]
   ·exact .inr ⟨k,c,e,z.sameBut hs (Gu y c e)⟩
 ·obtain ⟨w',z⟩:=I.cell y c e
  exact ⟨w',z.sameBut hs (Gu y c e)⟩
 ·obtain ⟨e,n,ne,nf,d⟩:=I.pin p hp
  exact ⟨(hs.2 p.1 ne).trans e,n,ne,nf,d⟩
end
def Pu (i:Nat) (D:Ends):Ends:={ nx:=fun σ H=>D.nx (σ.set i none) H,rt:=D.rt,bk:=fun σ H=>D.bk (σ.set i none) H,ct:=fun σ H=>D.ct (σ.set i none) H }
def Px (K:PySem.W.Frag) (L:Addr) (i:Nat) (ts:TS) (D:Ends):St→XK:=fun σ1 Cv _ H1=>∃ C,Cv=.ref C∧exmOne K (.ref C) (.ref L)=some true∧∀ ea,H1 ea=none→ts (Pu i D) (σ1.set i (some (.ref ea))) (upd H1 ea (Cy C ea))
def tTry (K:PySem.W.Frag) (L:Addr) (i:Nat) (tb:(St→XK)→TS) (ts:TS):TS:=fun D σ H=>tb (Px K L i ts D) D σ H
theorem Ij {X:Cx}{x n:Str}{np hpos pos:Pos}{body:List Stmt}{b0:Stmt}{suite:List Stmt}{L:Addr}{tb:(St→XK)→TS}{ts:TS}{i:Nat} (Wn:X.stack=X.env::X.outer) (hfr:X.env.frame=some X.env.locals)
  (hN:X.N.Nodup) (hi:X.N[i]?=some n) (hk:X.env.scope.names.lookup n=some .local) (hg:Gl X x) (hm:X.mg x=some (.ref L))
  (hb:∀ pn xe E,oA (fW X.prog X.w) (X.Cz pn xe) E→wX (X.Cz pn xe) body (tb E)) (hs:∀ ea,wX (X.hand ea) (b0::suite) ts) (hdb:(x==("__debug__" : Str))=false:=by decide) :
  PS X (.Try body [.ExceptHandler (some (.Name x np)) (some n) (b0::suite) hpos] [] [] pos) (tTry X.K L i tb ts):=by
 intro pins s σ H D I h
 have ok:=I.ok
 refine wpAny_Try_except (wpAny_mono (hb (X.pn++pins) (fun e s₁=>wpAny (model X.prog X.w) X.A (noteFrame e X.env) (fun _ s₂=>wpAny (model X.prog X.w) X.A (setFlight e none) (fun _ s₃=>wpAny (model X.prog X.w) X.A (handleBy e X.env [.ExceptHandler (some (.Name x np)) (some n) (b0::suite) hpos]) (SP X pins D) X.xe s₃) X.xe s₂) X.xe s₁)
  (Px X.K L i ts D) ?_ [] s σ H D I.Wm h) (fun f s1 hq=>?_) fun e s1 he=>he)
 ·rintro wW σ1 H1 s1 e s' J ⟨ea,C,a0,B,H',rfl,os,bare,un,hok,fly,C',rfl,hex,hts⟩
  have fl:=fly.fl
  have ff:s'.heap.FunFrames B X.stack:=fl.2.2.1
  have frm:X.A.frames=some (X.env::X.outer):=by rw [← Wn];exact ok.frames
  have fl':Heap.FlyingW B (X.env::X.outer) ea (.ref C') a0 s'.heap:=by rw [← Wn];exact fl
  have at_:∀ h5,Heap.FlyingW B (X.env::X.outer) ea (.ref C') a0 h5→s'.heap.UpToSlots h5→Inv X pins σ1 H' { s' with heap:=h5 }:=fun h5 f5 up =>
   Inv.uH ok (J.call' (s':={ s' with heap:=h5 }) os (vX un ff fly.old fl.1 f5.1 up) (qM hok fly.tr fl.1 f5.1) bare (fun b z=>nomatch z))
  have eaB:B.get? ea=none:=fl.2.1
  have eaH:H' ea=none:=by
   cases q:H' ea with
   | none=>rfl
   | some o=>obtain ⟨u,hu⟩:=fly.tr ea o q;rw [eaB] at hu;cases hu
  have ea1:s1.heap.get? ea=none:=by
   cases q:s1.heap.get? ea with
   | none=>rfl
   | some o =>
    by_cases hb':ea∈frs X.stack
    ·obtain ⟨_,o',ho',hd⟩:=ff.mem hb'
     obtain ⟨oe,vs,_,_,_,he,_,hde,_⟩:=fl.2.2.2
     rw [he] at ho';cases ho'
     exact absurd hde (hd vs)
    ·obtain ⟨u,hu⟩:=fly.old ea o q hb'
     rw [eaB] at hu;cases hu
  have at2:∀ h5,Heap.FlyingW B (X.env::X.outer) ea (.ref C') a0 h5→s'.heap.UpToSlots h5→Inv X pins σ1 (upd H' ea (Cy C' ea)) { s' with heap:=h5 }:=fun h5 f5 up=>by
   have u5:=vX un ff fly.old fl.1 f5.1 up
   have ne:∀ b o,s1.heap.get? b=some o→b≠ea:=fun b o e z=>by rw [z,ea1] at e;cases e
   have Wo:∀ b o,H' b=some o→b≠ea:=fun b o e z=>by rw [z,eaH] at e;cases e
   have u6:Un (frs X.stack) [] H1 (upd H' ea (Cy C' ea)) s1.heap h5:=⟨u5.keep,u5.slot,fun b o e q hx=>by rw [ao (ne b o e)];exact u5.free b o e q hx,u5.there,
    fun b xs e=>by have z:=u5.tups b xs e;rw [ao (Wo b _ z)];exact z,fun b o u e=>by have z:=u5.mV b o u e;rw [ao (Wo b _ z)];exact z,
    fun b ps e=>by obtain ⟨more,z⟩:=u5.pq b ps e;exact ⟨more,by rw [ao (Wo b _ z)];exact z⟩⟩
   have k5:jX X.prog X.w (upd H' ea (Cy C' ea)) h5:=fun b u e=>by
    by_cases hbe:b=ea
    ·subst hbe
     rw [ak] at e;cases e
     obtain ⟨ob,hob,hobc⟩:=f5.there
     exact ⟨⟨ob,hob,hobc⟩,⟨ob,hob⟩,fun g1 g2 ⟨o,e1,e2⟩ kk=>⟨o,kk o e1,e2⟩⟩
    ·rw [ao hbe] at e
     refine (qM hok fly.tr fl.1 f5.1 b u e).stay (fun _ _ _ q=>q) (fun c q=>by rw [ao (Wo c _ q)];exact q) fun c xs q=>by rw [ao (Wo c _ q)];exact q
   exact Inv.uH ok (J.call' (s':={ s' with heap:=h5 }) os u6 k5 bare (fun b z=>nomatch z))
  refine wpAny_looks_onW frm hfr fl' fun h4 held up4=>?_
  refine wpAny_landsW held fun h5 fl5 up5=>?_
  have J5:Inv (X.hand ea) pins σ1 H' { s' with heap:=h5 }:=(at_ h5 fl5 (up4.trans up5)).Ii
  refine wpAny_handleBy_cons (codeAny_handlers_test (jF (X:=X.hand ea) J5 hg hm ?_ hdb)) (by intro q;cases q)
  obtain ⟨ob,hob,hobc⟩:=fl5.there
  have LT:Looks (model X.prog X.w) h5 (typeOf (.ref ea)) (.ref C'):=KH.ty ⟨ob,hob,hobc⟩
  refine (exm_one (K:=X.K) J5.lM LT hex).at ?_
  refine codeAny_handlers_suite_as ?_
  refine lands_againW fl5 fun h6 fl6 up6=>?_
  have J6:Inv (X.hand ea) pins σ1 (upd H' ea (Cy C' ea)) { s' with heap:=h6 }:=(at2 h6 fl6 ((up4.trans up5).trans up6)).Ii
  refine jZ (X:=X.hand ea) (v:=.ref ea) J6 hN hi (.inl hk) rfl (fun s7 J7=>?_) (.inr hk)
  refine wpAny_mono (hs ea pins s7 _ _ (Pu i D) J7 (hts ea eaH)) (fun f s8 q8=>?_) fun _ _ z=>z.elim
  cases f with
  | next =>
   obtain ⟨σ2,H2,J8,q⟩:=q8
   exact qN (J8.vY ok) hN hi hk fun s9 J9=>⟨_,H2,J9,q⟩
  | brk =>
   obtain ⟨σ2,H2,J8,q⟩:=q8
   exact qN (J8.vY ok) hN hi hk fun s9 J9=>⟨_,H2,J9,q⟩
  | cont =>
   obtain ⟨σ2,H2,J8,q⟩:=q8
   exact qN (J8.vY ok) hN hi hk fun s9 J9=>⟨_,H2,J9,q⟩
  | ret u =>
   obtain ⟨v,σ2,H2,J8,r,q⟩:=q8
   exact qN (J8.vY ok) hN hi hk fun s9 J9=>⟨v,_,H2,J9,r,q⟩
 ·cases f with
  | next =>
   obtain ⟨σ2,H2,J8,q⟩:=hq
   exact wpAny_execs_nil ⟨σ2,H2,Inv.uH ok J8,q⟩
  | brk =>
   obtain ⟨σ2,H2,J8,q⟩:=hq
   exact ⟨σ2,H2,Inv.uH ok J8,q⟩
  | cont =>
   obtain ⟨σ2,H2,J8,q⟩:=hq
   exact ⟨σ2,H2,Inv.uH ok J8,q⟩
  | ret u =>
   obtain ⟨v,σ2,H2,J8,r,q⟩:=hq
   exact ⟨v,σ2,H2,Inv.uH ok J8,r,q⟩
end L2
namespace L2
open PySem PySem.Spec PyProof.Rows
section
variable {κ:Type} [DecidableEq κ]
def bQ (kvs:List (κ×V)) (k:κ):Option V:=(kvs.find? fun kv=>decide (kv.1=k)).map (·.2)
def putK (kvs:List (κ×V)) (k:κ) (v:V):List (κ×V) :=
 if (kvs.any fun kv=>decide (kv.1=k))=true then kvs.map (fun kv=>if kv.1=k then (kv.1,v) else kv) else kvs++[(k,v)]
def gY (kvs:List (κ×V)) (k:κ):List (κ×V):=kvs.filter fun kv=>decide (kv.1≠k)
theorem dM {p:κ×V}{r:List (κ×V)}{k:κ} (e:p.1=k):bQ (p::r) k=some p.2:=by simp [bQ,List.find?_cons,e]
theorem dD {p:κ×V}{r:List (κ×V)}{k:κ} (e:¬ p.1=k):bQ (p::r) k=bQ r k:=by simp [bQ,List.find?_cons,e]
theorem jz (k:κ):∀ kvs:List (κ×V),(kvs.any fun kv=>decide (kv.1=k))=(bQ kvs k).isSome
 | []=>rfl
 | p::r=>by
  rw [List.any_cons]
  by_cases e:p.1=k
  ·simp only [dM e,decide_eq_true e,Bool.true_or,Option.isSome_some]
  ·rw [dD e,decide_eq_false e,Bool.false_or];exact jz k r
theorem xZ (k j:κ) (y:V):∀ kvs:List (κ×V),bQ (kvs.map fun kv=>if kv.1=k then (kv.1,y) else kv) j=(bQ kvs j).map fun x=>if j=k then y else x
 | []=>rfl
 | p::r=>by
  have ih:=xZ k j y r
  rw [List.map_cons]
  by_cases h:p.1=k
  ·rw [if_pos h]
   by_cases e:p.1=j
   ·rw [dM (p:=(p.1,y)) e,dM e,Option.map_some,if_pos (e.symm.trans h)]
   ·rw [dD (p:=(p.1,y)) e,dD e,ih]
  ·rw [if_neg h]
   by_cases e:p.1=j
   ·rw [dM (p:=p) e,dM e,Option.map_some,if_neg (fun z=>h (e.trans z))]
   ·rw [dD (p:=p) e,dD e,ih]
theorem uI (k j:κ) (y:V):∀ kvs:List (κ×V),bQ kvs k=none→bQ (kvs++[(k,y)]) j=if j=k then some y else bQ kvs j
 | [],_=>by
  by_cases e:k=j
  ·rw [if_pos e.symm];exact dM (p:=(k,y)) e
  ·rw [if_neg (fun z=>e z.symm)];exact dD (p:=(k,y)) e
 | p::r,hn=>by
  rw [List.cons_append]
  have hk:¬ p.1=k:=fun z=>by rw [dM z] at hn;cases hn
  rw [dD hk] at hn
  have ih:=uI k j y r hn
  by_cases e:p.1=j
  ·rw [dM e,dM e,if_neg (fun z=>hk (e.trans z))]
  ·rw [dD e,dD e,ih]
theorem bF (kvs:List (κ×V)) (k j:κ) (y:V):bQ (putK kvs k y) j=if j=k then some y else bQ kvs j:=by
 unfold putK
 by_cases a:(kvs.any fun kv=>decide (kv.1=k))=true
 ·rw [if_pos a,xZ]
  rw [jz] at a
  by_cases e:j=k
  ·obtain ⟨x,hx⟩:=Option.isSome_iff_exists.mp a
   rw [if_pos e,e,hx,Option.map_some,if_pos rfl]
  ·rw [if_neg e]
   cases bQ kvs j with
   | none=>rfl
   | some x=>rw [Option.map_some,if_neg e]
 ·rw [if_neg a]
  refine uI k j y kvs ?_
  rw [jz] at a
  cases q:bQ kvs k with
  | none=>rfl
  | some x=>rw [q] at a;exact (a rfl).elim
theorem cW (kvs:List (κ×V)) (k:κ) (v:V):(putK kvs k v).length≤kvs.length+1:=by
 unfold putK
 split
 ·rw [List.length_map];omega
 ·rw [List.length_append,List.length_cons,List.length_nil];omega
theorem Ik {kvs:List (κ×V)}{k:κ} (v:V) (h:bQ kvs k=none):putK kvs k v=kvs++[(k,v)]:=by
 unfold putK
 rw [jz,h]
 exact if_neg (by decide)
theorem jd.gK {o:Option V}{u:Option Value} (r:jd o u):o.isSome=u.isSome:=by
 cases o with
 | none=>cases u with
  | none=>rfl
  | some _=>exact (show False from r).elim
 | some _=>cases u with
  | none=>exact (show False from r).elim
  | some _=>rfl
theorem jd.getD {o:Option V}{u:Option Value}{d:V}{d':Value} (r:jd o u) (rd:RelV d d'):RelV (o.getD d) (u.getD d'):=by
 cases o with
 | none=>cases u with
  | none=>exact rd
  | some _=>exact (show False from r).elim
 | some _=>cases u with
  | none=>exact (show False from r).elim
  | some _=>exact r
theorem KV.val {kvs:List (κ×V)}{vs:List (κ×Value)} (r:KV kvs vs) (k:κ):jd (bQ kvs k) (valueAt vs k):=by
 unfold KV at r
 induction r with
 | nil=>exact True.intro
 | @cons p q ps qs h t ih =>
  obtain ⟨h1,h2⟩:=h
  by_cases e:p.1=k
  ·have e':q.1=k:=h1.symm.trans e
   have b:valueAt (q::qs) k=some q.2:=by simp [valueAt,List.find?_cons,e']
   rw [dM e,b];exact h2
  ·have e':¬ q.1=k:=fun z=>e (h1.trans z)
   have b:valueAt (q::qs) k=valueAt qs k:=by simp [valueAt,List.find?_cons,e']
   rw [dD e,b];exact ih
theorem KV.any {kvs:List (κ×V)}{vs:List (κ×Value)} (r:KV kvs vs) (k:κ):(kvs.any fun kv=>decide (kv.1=k))=vs.any fun kv=>decide (kv.1=k):=by
 unfold KV at r
 induction r with
 | nil=>rfl
 | cons h t ih=>rw [List.any_cons,List.any_cons,ih,h.1]
theorem KV.repl {kvs:List (κ×V)}{vs:List (κ×Value)} (r:KV kvs vs) (k:κ) {y:V}{u:Value} (ry:RelV y u) :
  KV (kvs.map fun kv=>if kv.1=k then (kv.1,y) else kv) (vs.map fun kv=>if kv.1=k then (kv.1,u) else kv):=by
 unfold KV at r ⊢
 induction r with
 | nil=>exact .nil
 | @cons p q ps qs h t ih =>
  rw [List.map_cons,List.map_cons]
  refine .cons ?_ ih
  obtain ⟨h1,h2⟩:=h
  by_cases e:p.1=k
  ·rw [if_pos e,if_pos (h1.symm.trans e)];exact ⟨h1,ry⟩
  ·rw [if_neg e,if_neg (fun z=>e (h1.trans z))];exact ⟨h1,h2⟩
theorem KV.put {kvs:List (κ×V)}{vs:List (κ×Value)} (r:KV kvs vs) (k:κ) {y:V}{u:Value} (ry:RelV y u):KV (putK kvs k y) (stored vs k u):=by
 unfold putK stored
 rw [r.any k]
 by_cases e:(vs.any fun kv=>decide (kv.1=k))=true
 ·rw [if_pos e,if_pos e];exact r.repl k ry
 ·rw [if_neg e,if_neg e];exact Paired.snoc r ⟨rfl,ry⟩
theorem KV.drop {kvs:List (κ×V)}{vs:List (κ×Value)} (r:KV kvs vs) (k:κ):KV (gY kvs k) (without vs k):=by
 unfold KV at r ⊢
 unfold gY without
 induction r with
 | nil=>exact .nil
 | @cons p q ps qs h t ih =>
  obtain ⟨h1,h2⟩:=h
  rw [List.filter_cons,List.filter_cons]
  by_cases e:p.1=k
  ·have a:¬ decide (p.1≠k)=true:=by simp [e]
   have b:¬ decide (q.1≠k)=true:=by simp [h1.symm.trans e]
   rw [if_neg a,if_neg b];exact ih
  ·have e':¬ q.1=k:=fun z=>e (h1.trans z)
   have a:decide (p.1≠k)=true:=by simp [e]
   have b:decide (q.1≠k)=true:=by simp [e']
   rw [if_pos a,if_pos b];exact .cons ⟨h1,h2⟩ ih
theorem KV.length {kvs:List (κ×V)}{vs:List (κ×Value)} (r:KV kvs vs):kvs.length=vs.length:=Paired.length r
theorem yc (kvs:List (κ×V)) (k:κ):(gY kvs k).length≤kvs.length:=List.length_filter_le _ _
end
theorem oE {P:Program}{w:World}{k:Key}{u:Value} (r:RelV (kV k) u):(bU P w).is k u=true:=by
 cases k with
 | inl i=>obtain ⟨t,e⟩:=(show ∃ t,u=Value.int i t from r);subst e;exact wR P w i t
 | inr x=>obtain ⟨t,e⟩:=(show ∃ t,u=Value.str x t from r);subst e;exact wU P w x t
theorem uJ {P:Program}{w:World}:∀ {ks:List Key}{us:List Value},Vals (ks.map kV) us→ItemsAre (bU P w) ks us
 | [],_,r=>by rw [List.map_nil] at r;cases r;exact .nil
 | k::ks,_,r=>by
  rw [List.map_cons] at r
  cases r with
  | cons h t=>exact .cons (oE h) (uJ t)
abbrev KT (H:Hp):List (List Key×V)→List (List Key×Addr×Value)→Prop:=Paired fun p q=>p.1=q.1∧H q.2.1=some (.tup (p.1.map kV))∧RelV p.2 q.2.2
theorem KT.val {H:Hp}{kvs:List (List Key×V)}{xs:List (List Key×Addr×Value)} (r:KT H kvs xs) (k:List Key):jd (bQ kvs k) ((atKey xs k).map (·.2)):=by
 induction r with
 | nil=>exact True.intro
 | @cons p q ps qs h t ih =>
  obtain ⟨h1,_,h2⟩:=h
  by_cases e:p.1=k
  ·have e':q.1=k:=h1.symm.trans e
   have b:atKey (q::qs) k=some q.2:=by simp [atKey,List.find?_cons,e']
   rw [dM e,b];exact h2
  ·have e':¬ q.1=k:=fun z=>e (h1.trans z)
   have b:atKey (q::qs) k=atKey qs k:=by simp [atKey,List.find?_cons,e']
   rw [dD e,b];exact ih
theorem KT.repl {H:Hp}{kvs:List (List Key×V)}{xs:List (List Key×Addr×Value)} (r:KT H kvs xs) (k:List Key) {y:V}{u:Value} (ry:RelV y u) :
  KT H (kvs.map fun kv=>if kv.1=k then (kv.1,y) else kv) (xs.map (putAt k u)):=by
 induction r with
 | nil=>exact .nil
 | @cons p q ps qs h t ih =>
  rw [List.map_cons,List.map_cons]
  refine .cons ?_ ih
  obtain ⟨h1,h2,h3⟩:=h
  unfold putAt
  by_cases e:p.1=k
  ·rw [if_pos e,if_pos (h1.symm.trans e)];exact ⟨h1,h2,ry⟩
  ·rw [if_neg e,if_neg (fun z=>e (h1.trans z))];exact ⟨h1,h2,h3⟩
theorem KT.put {H:Hp}{kvs:List (List Key×V)}{xs:List (List Key×Addr×Value)} (r:KT H kvs xs) (k:List Key) {b:Addr}{y:V}{u:Value} (hb:H b=some (.tup (k.map kV))) (ry:RelV y u) :
  KT H (putK kvs k y) (storedH xs k b u):=by
 have e:(kvs.any fun kv=>decide (kv.1=k))=(atKey xs k).isSome:=by
  rw [jz,(r.val k).gK,Option.isSome_map]
 unfold putK storedH
 rw [e]
 by_cases q:(atKey xs k).isSome=true
 ·rw [if_pos q,if_pos q];exact r.repl k ry
 ·rw [if_neg q,if_neg q];exact Paired.snoc r ⟨rfl,hb,ry⟩
theorem KT.keeps {H H':Hp}{kvs:List (List Key×V)}{xs:List (List Key×Addr×Value)} (r:KT H kvs xs) (ht:∀ b ys,H b=some (.tup ys)→H' b=some (.tup ys)):KT H' kvs xs :=
 Paired.Rp r fun _ _ z=>⟨z.1,ht _ _ z.2.1,z.2.2⟩
section
variable {P:Program}{w:World}{H:Hp}{h:Heap}{a:Addr}
theorem Py {u:HO} (ok:jX P w H h) (e:Rd H a u):cJ P w H h a u:=e.ok ok
theorem rP {kvs:List (Key×V)} (ok:jX P w H h) (e:Rd H a (.dK kvs)):kvs.length≤sizeLine∧(a==sysModules)=false∧∃ vs,KV kvs vs∧h.DictOf (bU P w) a vs :=
 show cJ P w H h a (.dK kvs) from Py ok e
theorem rQ {kvs:List (Key×V)} (ok:jX P w H h) (e:H a=some (.dK kvs)):kvs.length≤sizeLine∧(a==sysModules)=false∧∃ vs,KV kvs vs∧h.DictOf (bU P w) a vs:=rP ok (.inl e)
theorem pK {ks:List Key} (ok:jX P w H h) (e:H a=some (.tup (ks.map kV))):(tupleKind (bU P w)).is h ks a:=by
 obtain ⟨_,its,r,o,h1,h2,n,h3⟩:=(show cJ P w H h a (.tup (ks.map kV)) from ok a _ e)
 exact ⟨o,its.toArray,n,h1,h2,h3,by simpa using uJ r⟩
theorem rR {kvs:List (List Key×V)} (ok:jX P w H h) (e:Rd H a (.dT kvs)):kvs.length≤sizeLine∧(a==sysModules)=false ∧
  ∃ xs,KT H kvs xs∧h.DictOfH (tupleKind (bU P w)) a xs:=by
 obtain ⟨z,y,xs,r,o,es,ep,h1,h2,h3,h4,h5⟩:=(show cJ P w H h a (.dT kvs) from Py ok e)
 refine ⟨z,y,xs,r,o,es,ep,h1,h2,h3,h4,fun x hx=>?_,h5⟩
 have all:∀ {l:List (List Key×V)}{m:List (List Key×Addr×Value)},KT H l m→∀ x∈m,(tupleKind (bU P w)).is h x.1 x.2.1:=by
  intro l m q
  induction q with
  | nil=>intro x hx;exact nomatch hx
  | @cons p q ps qs hq t ih =>
   intro x hx
   rcases List.mem_cons.mp hx with e | hx
   ·subst e
    exact pK ok (by rw [← hq.1];exact hq.2.1)
   ·exact ih x hx
 exact all r x hx
theorem Wq {kvs:List (List Key×V)} (ok:jX P w H h) (e:H a=some (.dT kvs)):kvs.length≤sizeLine∧(a==sysModules)=false ∧
  ∃ xs,KT H kvs xs∧h.DictOfH (tupleKind (bU P w)) a xs:=rR ok (.inl e)
end
def dR (H:Hp) (a:Addr) (y:V) (r:Option V):Prop :=
 (∃ kvs k,Rd H a (.dK kvs)∧y=kV k∧r=bQ kvs k)∨∃ kvs k b,Rd H a (.dT kvs)∧y=.ref b∧H b=some (.tup (k.map kV))∧r=bQ kvs k
def gZ (H:Hp) (a:Addr) (y v:V) (H':Hp):Prop :=
 (∃ kvs k,H a=some (.dK kvs)∧y=kV k∧kvs.length<sizeLine∧H'=upd H a (.dK (putK kvs k v))) ∨
 ∃ kvs k b,H a=some (.dT kvs)∧y=.ref b∧H b=some (.tup (k.map kV))∧kvs.length<sizeLine∧H'=upd H a (.dT (putK kvs k v))
theorem dR.k {H:Hp}{a:Addr}{kvs:List (Key×V)}{k:Key} (e:H a=some (.dK kvs)):dR H a (kV k) (bQ kvs k):=.inl ⟨kvs,k,.inl e,rfl,rfl⟩
theorem gZ.k {H:Hp}{a:Addr}{kvs:List (Key×V)}{k:Key}{v:V} (e:H a=some (.dK kvs)) (hl:kvs.length<sizeLine):gZ H a (kV k) v (upd H a (.dK (putK kvs k v))):=.inl ⟨kvs,k,e,rfl,hl,rfl⟩
section
variable {X:Cx}{pins:List (Addr×Obj)}{σ:St}{H:Hp}{s:Shared}{a:Addr}{y v:V}{u r:Value}{o:Option V}{A:Around}{E:Value→Shared→Prop}
theorem Inv.big (I:Inv X pins σ H s):sysModules<s.heap.objs.size:=by
 have h:mainGlobals<s.heap.objs.size:=(I.mod.glob.keeps I.bk).lt
 exact Nat.lt_trans (by decide) h
theorem uK {Q:Value→Shared→Prop} (hu:A.units+1<cLine) (I:Inv X pins σ H s) (g:dR H a y (some v)) (ry:RelV y u) (h:∀ w' s',Inv X pins σ H s'→RelV v w'→Q w' s') :
  wpAny (model X.prog X.w) A (getItem (.ref a) u) Q E s:=by
 rcases g with ⟨kvs,k,e,ey,l⟩ | ⟨kvs,k,b,e,ey,eb,l⟩
 ·subst ey
  obtain ⟨z,hd,vs,rel,dd⟩:=rP I.hok e
  obtain ⟨w',hw,cD⟩:=jd.some_of (v:=v) (o:=valueAt vs k) (by rw [l];exact rel.val k)
  exact wpAny_getItem_of (oE ry) dd.mapOf hw (h w' _ (I.tok _) cD)
 ·subst ey
  cases (show u=Value.ref b from ry)
  obtain ⟨z,hd,xs,rel,dd⟩:=rR I.hok e
  obtain ⟨w',hw,cD⟩:=jd.some_of (v:=v) (o:=(atKey xs k).map (·.2)) (by rw [l];exact rel.val k)
  obtain ⟨p,hp,hp2⟩:=Option.map_eq_some_iff.mp hw
  refine wpAny_getItem_heap (tupleKind_room_in1 hu) (pK I.hok eb) dd hp ?_
  rw [hp2]
  exact h w' _ (I.tok _) cD
theorem d_in {Q:Value→Shared→Prop} (hu:A.units+1<cLine) (I:Inv X pins σ H s) (g:dR H a y o) (ry:RelV y u) (h:∀ s',Inv X pins σ H s'→Q (.bool o.isSome) s') :
  wpAny (model X.prog X.w) A (compareOp .In u (.ref a)) Q E s:=by
 rcases g with ⟨kvs,k,e,ey,l⟩ | ⟨kvs,k,b,e,ey,eb,l⟩
 ·subst ey
  obtain ⟨z,hd,vs,rel,dd⟩:=rP I.hok e
  refine wpAny_in_of (oE ry) hd dd.mapOf ?_
  rw [← (rel.val k).gK,← l]
  exact h _ (I.tok _)
 ·subst ey
  cases (show u=Value.ref b from ry)
  obtain ⟨z,hd,xs,rel,dd⟩:=rR I.hok e
  refine wpAny_in_heap (tupleKind_room_in1 hu) (pK I.hok eb) hd dd ?_
  have q:=(rel.val k).gK
  rw [Option.isSome_map] at q
  rw [← q,← l]
  exact h _ (I.tok _)
theorem Mf {Q:Value→Shared→Prop} (hu:A.units+1<cLine) (I:Inv X pins σ H s) (g:dR H a y o) (ry:RelV y u) (h:∀ s',Inv X pins σ H s'→Q (.bool (!o.isSome)) s') :
  wpAny (model X.prog X.w) A (compareOp .NotIn u (.ref a)) Q E s:=by
 rcases g with ⟨kvs,k,e,ey,l⟩ | ⟨kvs,k,b,e,ey,eb,l⟩
 ·subst ey
  obtain ⟨z,hd,vs,rel,dd⟩:=rP I.hok e
  refine wpAny_notIn_of (oE ry) hd dd.mapOf ?_
  rw [← (rel.val k).gK,← l]
  exact h _ (I.tok _)
 ·subst ey
  cases (show u=Value.ref b from ry)
  obtain ⟨z,hd,xs,rel,dd⟩:=rR I.hok e
  refine wpAny_notIn_heap (tupleKind_room_in1 hu) (pK I.hok eb) hd dd ?_
  have q:=(rel.val k).gK
  rw [Option.isSome_map] at q
  rw [← q,← l]
  exact h _ (I.tok _)
theorem jL {h':Heap}{t':Nat}{ob:HO} (I:Inv X pins σ H s) (mu:Vx (H a)) (hs:Heap.SameBut a s.heap h') (he:∃ q,h'.get? a=some q) (new:cJ X.prog X.w (upd H a ob) h' a ob) :
  Inv X pins σ (upd H a ob) { s with heap:=h',toks:=t' } :=
 I.write (x:=a) (e:=a) mu (.inl rfl) (fun b q hb z=>(hs.2 b hb).trans z) he new
theorem vZ {P:Program}{w:World}{H':Hp}{h':Heap}{kvs:List (Key×V)}{vs:List (Key×Value)} (z:kvs.length≤sizeLine) (hd:(a==sysModules)=false) (rel:KV kvs vs) (dd:h'.DictOf (bU P w) a vs) :
  cJ P w H' h' a (.dK kvs):=⟨z,hd,vs,rel,dd⟩
theorem uL {H':Hp}{Q:Unit→Shared→Prop} (hu:A.units+1<cLine) (I:Inv X pins σ H s) (g:gZ H a y v H') (ry:RelV y u) (rv:RelV v r) (h:∀ s',Inv X pins σ H' s'→Q () s') :
  wpAny (model X.prog X.w) A (setItem (.ref a) u r) Q E s:=by
 rcases g with ⟨kvs,k,e,ey,l,eH⟩ | ⟨kvs,k,b,e,ey,eb,l,eH⟩
 ·subst ey eH
  obtain ⟨z,hd,vs,rel,dd⟩:=rQ I.hok e
  have hz:vs.length≤sizeLine:=by rw [← rel.length];exact z
  have hl:(putK kvs k v).length≤sizeLine:=by have:=cW kvs k v;omega
  refine wpAny_setItem_pairs (hsz:=hz) (oE ry) dd fun h' Es hs=>h _ ?_
  have he:∃ q,h'.get? a=some q:=let ⟨q,_,_,hq,_⟩:=Es;⟨q,hq⟩
  exact jL I (by rw [e];exact True.intro) hs he (vZ hl hd (rel.put k rv) Es)
 ·subst ey eH
  cases (show u=Value.ref b from ry)
  obtain ⟨z,hd,xs,rel,dd⟩:=Wq I.hok e
  have hz:xs.length≤sizeLine:=by rw [← Paired.length rel];exact z
  have hl:(putK kvs k v).length≤sizeLine:=by have:=cW kvs k v;omega
  refine wpAny_setItem_heap (hsz:=hz) (tupleKind_room_in1 hu) (pK I.hok eb) dd fun h' Es hs=>h _ ?_
  obtain ⟨q,es,ep,hq,h2,h3,h4,_,h5⟩:=Es
  refine jL I (by rw [e];exact True.intro) hs ⟨q,hq⟩ ⟨hl,hd,_,(rel.put k eb rv).keeps fun c ys ec=>?_,q,es,ep,hq,h2,h3,h4,h5⟩
  rw [ao (bh ec e (fun z=>nomatch z))]
  exact ec
end
section
variable {X:Cx}{pins:List (Addr×Obj)}{σ:St}{H:Hp}{s:Shared}{a:Addr}{kvs:List (Key×V)}{k:Key}{u:Value}{A:Around}{E:Value→Shared→Prop}
theorem Et {Q:Unit→Shared→Prop} (I:Inv X pins σ H s) (e:H a=some (.dK kvs)) (ry:RelV (kV k) u) (l:(bQ kvs k).isSome=true) (h:∀ s',Inv X pins σ (upd H a (.dK (gY kvs k))) s'→Q () s') :
  wpAny (model X.prog X.w) A (delItem (.ref a) u) Q E s:=by
 obtain ⟨z,hd,vs,rel,dd⟩:=rQ I.hok e
 refine wpAny_delItem_slot dd.typeIs (by decide) PySem.F.slot_dict_delitem
  (call_meetsIn PySem.F.slot_dict_delitem dd.typeIs PySem.F.entry_dict_delitem (PySem.F.args_dict_delitem_2 _ _) (meets_dict_delitem_pairs (bU X.prog X.w) a (oE ry)) ⟨vs,dd,by rw [← rel.length];exact z,by rw [← (rel.val k).gK];exact l,fun h' Es hs=>h _ ?_⟩)
 have he:∃ q,h'.get? a=some q:=let ⟨q,_,_,hq,_⟩:=Es;⟨q,hq⟩
 exact jL I (by rw [e];exact True.intro) hs he (vZ (Nat.le_trans (yc kvs k) z) hd (rel.drop k) Es)
theorem Wr {v:V}{more:List Value}{Q:Value→Shared→Prop} (I:Inv X pins σ H s) (e:H a=some (.dK kvs)) (ry:RelV (kV k) u) (l:bQ kvs k=some v) (hm:more=[]∨∃ x,more=[x])
  (h:∀ w' s',Inv X pins σ (upd H a (.dK (gY kvs k))) s'→RelV v w'→Q w' s'):wpAny (model X.prog X.w) A (call (.builtin "dict.pop") (.ref a::u::more)) Q E s:=by
 obtain ⟨z,hd,vs,rel,dd⟩:=rQ I.hok e
 obtain ⟨w',hw,cD⟩:=jd.some_of (v:=v) (o:=valueAt vs k) (by rw [← l];exact rel.val k)
 have hp:(keyPart u).isSome=true:=by
  cases k with
  | inl i=>obtain ⟨t,q⟩:=(show ∃ t,u=Value.int i t from ry);subst q;rfl
  | inr x=>obtain ⟨t,q⟩:=(show ∃ t,u=Value.str x t from ry);subst q;rfl
 have ha:argsOk "dict.pop" ⟨.ref a::u::more,[]⟩:=by
  rcases hm with q | ⟨x,q⟩
  ·subst q;exact PySem.F.args_dict_pop_2 _ _
  ·subst q;exact PySem.F.args_dict_pop_3 _ _ _
 refine call_meetsIn PySem.F.slot_dict_pop dd.typeIs PySem.F.entry_dict_pop ha (meets_dict_pop_there (bU X.prog X.w) a (oE ry) more hm hp)
  ⟨vs,w',dd,by rw [← rel.length];exact z,hw,fun h' Es hs=>h w' _ ?_ cD⟩
 have he:∃ q,h'.get? a=some q:=let ⟨q,_,_,hq,_⟩:=Es;⟨q,hq⟩
 exact jL I (by rw [e];exact True.intro) hs he (vZ (Nat.le_trans (yc kvs k) z) hd (rel.drop k) Es)
end
def Ws (i:Expr):Prop:=∀ ov iv,subscripted i false ov iv=operate [ov,iv] (getItem ov iv)
theorem Mg {prog:Program}{w:World}{A:Around}{E:Value→Shared→Prop}{s:Shared}{env:Env}{value slice:Expr}{pos:Pos}{T id:String}{Q:Value→Shared→Prop}
  (hl:typeLookup (.type T) "__getitem__"=pure (some (.builtin id))) (hs:Ws slice)
  (h:wpAny (model prog w) A (eval value env) (fun o s₁=>wpAny (model prog w) A (eval slice env) (fun i s₂=>s₂.TypeIs o T∧wpAny (model prog w) A (getItem o i) Q E s₂) E s₁) E s) :
  wpAny (model prog w) A (eval (.Subscript value slice pos) env) Q E s:=by
 refine Subscript_ (wpAny_mono h (fun o s₁ h₁=>wpAny_mono h₁ (fun i s₂ h₂=>?_) fun _ _ x=>x) fun _ _ x=>x)
 obtain ⟨hT,h₂⟩:=h₂
 unfold subscriptTail
 refine wpAny_bind ?_
 rw [getitemInPython_of_ne hT.not_modules]
 refine wpAny_bind (wpAny_specialOf hT hl ?_)
 have fin:wpAny (model prog w) A (subscripted slice false o i) (fun r s₃=>wpAny (model prog w) A (letTemporaryGo value o r >>= fun _=>pure r) Q E s₃) E s₂:=by
  rw [hs o i]
  exact wpAny_operating (wpAny_mono h₂ (fun r s₃ h₃=>wpAny_bind (wpAny_letTemporaryGo (wpAny_pure h₃))) fun _ _ x=>x)
 first
  | exact wpAny_pure (wpAny_bind fin)
  | exact wpAny_bind (wpAny_pure (wpAny_bind fin))
  | exact wpAny_bind fin
theorem yd {X:Cx}{pins:List (Addr×Obj)}{σ:St}{H:Hp}{s:Shared}{a:Addr}{y:V}{o:Option V} (I:Inv X pins σ H s) (g:dR H a y o):s.TypeIs (.ref a) "dict":=by
 rcases g with ⟨kvs,k,e,_,_⟩ | ⟨kvs,k,b,e,_,_,_⟩
 ·obtain ⟨_,_,vs,_,dd⟩:=rP I.hok e
  exact dd.typeIs
 ·obtain ⟨_,_,xs,_,dd⟩:=rR I.hok e
  exact dd.typeIs
def Wt (td ty:TE):TE:=fun σ H Q=>td σ H fun x H1=>ty σ H1 fun y H2=>∃ a v,x=.ref a∧dR H2 a y (some v)∧Q v H2
def tDIn (ty td:TE):TE:=fun σ H Q=>ty σ H fun y H1=>td σ H1 fun x H2=>∃ a o,x=.ref a∧dR H2 a y o∧Q (.bl o.isSome) H2
def Mh (ty td:TE):TE:=fun σ H Q=>ty σ H fun y H1=>td σ H1 fun x H2=>∃ a o,x=.ref a∧dR H2 a y o∧Q (.bl (!o.isSome)) H2
def Wu (td ty tv:TE):TS:=fun D σ H=>tv σ H fun v H1=>td σ H1 fun x H2=>ty σ H2 fun y H3=>∃ a H4,x=.ref a∧gZ H3 a y v H4∧D.nx σ H4
def Wv (td ty tv:TE) (rd:V→V→Hp→VK→Prop):TS:=fun D σ H=>td σ H fun x H1=>ty σ H1 fun y H2=>∃ a v,x=.ref a∧dR H2 a y (some v) ∧
 tv σ H2 fun y2 H3=>rd v y2 H3 fun z H4=>∃ H5,gZ H4 a y z H5∧D.nx σ H5
def Ww (td ty:TE):TS:=fun D σ H=>td σ H fun x H1=>ty σ H1 fun y H2=>∃ a kvs k,x=.ref a∧H2 a=some (.dK kvs)∧y=kV k∧(bQ kvs k).isSome=true∧D.nx σ (upd H2 a (.dK (gY kvs k)))
section
variable {X:Cx}{o i e value:Expr}{pos pos' tpos:Pos}{td ty tv:TE}
theorem aO (hu:X.A.units+1<cLine) (ho:PE X o td) (hi:PE X i ty) (hs:Ws i):PE X (.Subscript o i pos) (Wt td ty):=by
 intro pins s σ H Q I h
 refine Mg PySem.F.slot_dict_getitem.lookup hs (cN (ho pins s σ H _ I h) fun u s1 ⟨x,H1,I1,rx,q1⟩=>cN (hi pins s1 σ H1 _ I1 q1) fun iv s2 ⟨y,H2,I2,ry,a,v,ex,g,q2⟩=>?_)
 subst ex
 obtain rfl:u=Value.ref a:=rx
 exact ⟨yd I2 g,uK hu I2 g ry fun w' s3 I3 cD=>⟨v,H2,I3,cD,q2⟩⟩
theorem Il (hu:X.A.units+1<cLine) (hi:PE X i ty) (ho:PE X o td):PC X .In i o (tDIn ty td):=by
 intro pins s σ H Q I h
 refine cN (hi pins s σ H _ I h) fun iv s1 ⟨y,H1,I1,ry,q1⟩=>cN (ho pins s1 σ H1 _ I1 q1) fun u s2 ⟨x,H2,I2,rx,a,ov,ex,g,q2⟩=>?_
 subst ex
 obtain rfl:u=Value.ref a:=rx
 exact d_in hu I2 g ry fun s3 I3=>⟨.bl ov.isSome,H2,I3,rfl,q2⟩
theorem Eu (hu:X.A.units+1<cLine) (hi:PE X i ty) (ho:PE X o td):PC X .NotIn i o (Mh ty td):=by
 intro pins s σ H Q I h
 refine cN (hi pins s σ H _ I h) fun iv s1 ⟨y,H1,I1,ry,q1⟩=>cN (ho pins s1 σ H1 _ I1 q1) fun u s2 ⟨x,H2,I2,rx,a,ov,ex,g,q2⟩=>?_
 subst ex
 obtain rfl:u=Value.ref a:=rx
 exact Mf hu I2 g ry fun s3 I3=>⟨.bl (!ov.isSome),H2,I3,rfl,q2⟩
theorem dX (hu:X.A.units+1<cLine) (ho:PE X o td) (hi:PE X i ty) (hv:PE X value tv) (hs:swapsWith value (some (.Subscript o i pos')) pos.line X.env=pure false) :
  PS X (.Assign [.Subscript o i pos'] value pos) (Wu td ty tv):=by
 intro pins s σ H D I h
 refine wpAny_Assign_Subscript (cN (hv pins s σ H _ I h) fun r s1 ⟨v,H1,I1,rv,q1⟩=>cN (ho pins s1 σ H1 _ I1 q1) fun u s2 ⟨x,H2,I2,rx,q2⟩=>cN (hi pins s2 σ H2 _ I2 q2) fun iv s3 ⟨y,H3,I3,ry,a,H4,ex,g,q3⟩=>?_) hs
 subst ex
 obtain rfl:u=Value.ref a:=rx
 exact uL hu I3 g ry rv fun s4 I4=>⟨σ,H4,I4,q3⟩
theorem lX {op:Operator}{rd:V→V→Hp→VK→Prop} (hu:X.A.units+1<cLine) (ho:PE X o td) (hi:PE X i ty) (hv:PE X value tv) (hop:RK X op rd)
  (ha:∀ ov iv new,augStore i ov iv new=(do holding [new,ov,iv] (setItem ov iv new);release [new,ov,iv] [];pure .next)):PS X (.AugAssign (.Subscript o i tpos) op value pos) (Wv td ty tv rd):=by
 intro pins s σ H D I h
 refine wpAny_AugAssign_SubscriptAny (cN (ho pins s σ H _ I h) fun u s1 ⟨x,H1,I1,rx,q1⟩=>cN (hi pins s1 σ H1 _ I1 q1) fun iv s2 ⟨y,H2,I2,ry,a,v,ex,g,q2⟩=>?_) ha
 subst ex
 obtain rfl:u=Value.ref a:=rx
 refine uK hu I2 g ry fun w' s3 I3 cD=>cN (hv pins s3 σ H2 _ I3 q2) fun w2 s4 ⟨y2,H3,I4,ry2,q3⟩=>cN (hop pins s4 σ H3 v y2 w' w2 _ I4 cD ry2 q3) fun w3 s5 ⟨z,H4,I5,rz,H5,g5,q4⟩=>?_
 exact uL hu I5 g5 ry rz fun s6 I6=>⟨σ,H5,I6,q4⟩
theorem oF (ho:PE X o td) (hi:PE X i ty):PS X (.Delete [.Subscript o i tpos] pos) (Ww td ty):=by
 intro pins s σ H D I h
 refine wpAny_Delete (wpAny_deleteEach_cons (wpAny_delete_Subscript (cN (ho pins s σ H _ I h) fun u s1 ⟨x,H1,I1,rx,q1⟩=>cN (hi pins s1 σ H1 _ I1 q1) fun iv s2 ⟨y,H2,I2,ry,a,kvs,k,ex,e,ey,l,q2⟩=>?_)))
 subst ex ey
 obtain rfl:u=Value.ref a:=rx
 exact Et I2 e ry l fun s3 I3=>wpAny_deleteEach_nil ⟨σ,_,I3,q2⟩
end
theorem yg {P:Program}{w:World}{H:Hp} (h:Heap) (hb:sysModules<h.objs.size):cJ P w H (h.push { cls:=.type "dict",data:=.dict #[] }) h.objs.size (.dK []) :=
 ⟨Nat.zero_le _,beq_eq_false_iff_ne.mpr (Ne.symm (Nat.ne_of_lt hb)),[],.nil,Heap.DictOf.new h⟩
def zU:TE:=fun _ H Q=>∀ p,H p=none→Q (.ref p) (upd H p (.dK []))
section
variable {X:Cx}{pos:Pos}
theorem yh:PE X (.Dict [] [] pos) zU:=fun pins s σ H Q I h =>
 wpAny_Dict_empty ⟨.ref s.heap.objs.size,_,I.laid (a:=s.heap.objs.size) (o:=.dK []) (t':=s.toks) (fun _ _ q=>Heap.get?_push_of_some _ q) (Nat.le_refl _) (yg s.heap I.big),rfl,h _ (I.hok.fresh (Nat.le_refl _))⟩
end
def mX:List (TE×TE)→St→Hp→(List (V×V)→Hp→Prop)→Prop
 | [],_,H,Q=>Q [] H
 | (tk,tv)::r,σ,H,Q=>tk σ H fun x H1=>tv σ H1 fun y H2=>mX r σ H2 fun ps H3=>Q ((x,y)::ps) H3
abbrev VV:List (V×V)→List (Value×Value)→Prop:=Paired fun p q=>RelV p.1 q.1∧RelV p.2 q.2
def PPs (X:Cx) (pos:Pos) (keys:List (Option Expr)) (values:List Expr) (Gp:List (TE×TE)):Prop :=
 ∀ (pins:List (Addr×Obj)) (s:Shared) (σ:St) (H:Hp) (Q:List (V×V)→Hp→Prop),Inv X pins σ H s→mX Gp σ H Q →
  wpAny (model X.prog X.w) X.A (evalPairs (pairTrees keys values X.env pos)) (fun vs s'=>∃ ps H',Inv X pins σ H' s'∧VV ps vs∧Q ps H') X.xe s
theorem CG {X:Cx}{pos:Pos}:PPs X pos [] [] []:=fun pins s σ H Q I h=>pairTrees_nil_walk ⟨[],H,I,.nil,h⟩
theorem gn {X:Cx}{pos:Pos}{k v:Expr}{ks:List (Option Expr)}{vs:List Expr}{tk tv:TE}{Gp:List (TE×TE)} (hk:PE X k tk) (hv:PE X v tv) (hr:PPs X pos ks vs Gp) :
  PPs X pos (some k::ks) (v::vs) ((tk,tv)::Gp):=fun pins s σ H Q I h =>
 pairTrees_cons_walk (cN (hk pins s σ H _ I h) fun u s1 ⟨x,H1,I1,rx,q1⟩=>cN (hv pins s1 σ H1 _ I1 q1) fun w2 s2 ⟨y,H2,I2,ry,q2⟩ =>
  cN (hr pins s2 σ H2 _ I2 q2) fun ws s3 ⟨ps,H3,I3,rel,q3⟩=>⟨(x,y)::ps,H3,I3,.cons ⟨rx,ry⟩ rel,q3⟩)
def dN (kvs more:List (Key×V)):List (Key×V):=more.foldl (fun acc kv=>putK acc kv.1 kv.2) kvs
theorem KV.merge:∀ {more:List (Key×V)}{rs:List (Key×Value)}{kvs:List (Key×V)}{vs:List (Key×Value)},KV more rs→KV kvs vs→KV (dN kvs more) (merged vs rs):=by
 intro more rs kvs vs r
 unfold KV at r
 induction r generalizing kvs vs with
 | nil=>intro q;exact q
 | @cons p q ps qs h t ih =>
  intro r0
  have e:KV (putK kvs p.1 p.2) (stored vs q.1 q.2):=by
   have:=r0.put p.1 h.2
   rw [← h.1];exact this
  exact ih e
theorem jo:∀ (more kvs:List (Key×V)),(dN kvs more).length≤kvs.length+more.length
 | [],kvs=>by show kvs.length≤kvs.length+0;omega
 | p::r,kvs=>by
  have h1:=jo r (putK kvs p.1 p.2)
  have h2:=cW kvs p.1 p.2
  show (dN (putK kvs p.1 p.2) r).length≤_
  rw [List.length_cons];omega
theorem rT {P:Program}{w:World}:∀ {kvs:List (Key×V)}{ws:List (Value×Value)},VV (kvs.map fun kv=>(kV kv.1,kv.2)) ws→∃ rs,Carries (bU P w) ws rs∧KV kvs rs
 | [],_,r=>by rw [List.map_nil] at r;cases r;exact ⟨[],True.intro,.nil⟩
 | p::kvs,_,r=>by
  rw [List.map_cons] at r
  cases r with
  | @cons a b as bs h t =>
   obtain ⟨rs,c,q⟩:=rT (P:=P) (w:=w) t
   obtain ⟨b1,b2⟩:=b
   exact ⟨(p.1,b2)::rs,⟨oE h.1,rfl,c⟩,.cons ⟨rfl,h.2⟩ q⟩
def mR (Gp:List (TE×TE)):TE:=fun σ H Q=>∀ p,H p=none→mX Gp σ (upd H p (.dK [])) fun ps H2=>H2 p=some (.dK [])∧∃ kvs:List (Key×V),ps=kvs.map (fun kv=>(kV kv.1,kv.2))∧kvs.length≤15∧Q (.ref p) (upd H2 p (.dK (dN [] kvs)))
theorem CJ {X:Cx}{pos:Pos}{keys:List (Option Expr)}{values:List Expr}{Gp:List (TE×TE)} (h:PPs X pos keys values Gp) (hall:keys.all (·.isSome)=true) (hl:keys.length=values.length) (h0:keys≠[])
  (h15:keys.length≤15):PE X (.Dict keys values pos) (mR Gp):=by
 intro pins s σ H Q I q
 have hn:=I.hok.fresh (Nat.le_refl s.heap.objs.size)
 have I1:=I.laid (a:=s.heap.objs.size) (o:=.dK []) (h':=s.heap.push { cls:=.type "dict",data:=.dict #[] }) (t':=s.toks) (fun _ _ q=>Heap.get?_push_of_some _ q) (Nat.le_refl _) (yg s.heap I.big)
 refine wpAny_Dict_walk (knd:=bU X.prog X.w) hall hl h0 h15 (cN (h pins _ σ _ _ I1 (q _ hn)) fun ws s2 ⟨ps,H2,I2,rel,e,kvs,ep,lk,q2⟩=>?_)
 subst ep
 obtain ⟨rs,c,rk⟩:=rT (P:=X.prog) (w:=X.w) rel
 obtain ⟨z,hd,vs0,r0,dd⟩:=rQ I2.hok e
 cases r0
 refine ⟨rs,c,dd,fun h' Es hs=>⟨.ref s.heap.objs.size,_,?_,rfl,q2⟩⟩
 have hz:(dN [] kvs).length≤sizeLine:=by
  have h1:=jo kvs []
  rw [List.length_nil] at h1
  rw [sizeLine_eq];omega
 have he:∃ q,h'.get? s.heap.objs.size=some q:=let ⟨q,_,_,hq,_⟩:=Es;⟨q,hq⟩
 exact jL I2 (by rw [e];exact True.intro) hs he (vZ hz hd (rk.merge .nil) Es)
structure M1 (X:Cx) (o:Expr) (m:Str) (apos:Pos) (e:Expr) (cpos:Pos):Prop where
 base:attributeBase o m X.env (eval o X.env)=eval o X.env
 few:((backTo cpos (starEach [e] X.env)).all (fun x=>!x.1)&&(backToKw cpos (keywordEach [] X.env)).all (fun x=>x.1.isSome)
  &&decide (([e]:List Expr).length+([]:List Keyword).length+(if ([]:List Keyword).isEmpty then 0 else 1)<30))=true
 line:(apos.endLine==cpos.line)=true
 trees:backTo cpos (starEach [e] X.env)=[(false,eval e X.env)]
structure M2 (X:Cx) (o:Expr) (m:Str) (apos:Pos) (e f:Expr) (cpos:Pos):Prop where
 base:attributeBase o m X.env (eval o X.env)=eval o X.env
 few:((backTo cpos (starEach [e,f] X.env)).all (fun x=>!x.1)&&(backToKw cpos (keywordEach [] X.env)).all (fun x=>x.1.isSome)
  &&decide (([e,f]:List Expr).length+([]:List Keyword).length+(if ([]:List Keyword).isEmpty then 0 else 1)<30))=true
 line:(apos.endLine==cpos.line)=true
 trees:backTo cpos (starEach [e,f] X.env)=[(false,eval e X.env),(false,eval f X.env)]
def IsD (H:Hp) (a:Addr):Prop:=(∃ kvs,Rd H a (.dK kvs))∨∃ kvs,Rd H a (.dT kvs)
theorem Im {X:Cx}{pins:List (Addr×Obj)}{σ:St}{H:Hp}{s:Shared}{a:Addr} (I:Inv X pins σ H s) (d:IsD H a) :
  s.TypeIs (.ref a) "dict"∧(∀ b,Value.ref a=.ref b→∃ ob,s.heap.get? b=some ob∧ob.dict=none)∧(a==sysModules)=false:=by
 rcases d with ⟨kvs,e⟩ | ⟨kvs,e⟩
 ·obtain ⟨_,hd,vs,_,dd⟩:=rP I.hok e
  refine ⟨dd.typeIs,fun b q=>?_,hd⟩
  cases q
  obtain ⟨ob,_,_,h1,h2,_⟩:=dd
  exact ⟨ob,h1,h2.2.1⟩
 ·obtain ⟨_,hd,xs,_,dd⟩:=rR I.hok e
  refine ⟨dd.typeIs,fun b q=>?_,hd⟩
  cases q
  obtain ⟨ob,_,_,h1,h2,_⟩:=dd
  exact ⟨ob,h1,h2.2.1⟩
section
variable {X:Cx}{pins:List (Addr×Obj)}{σ:St}{H:Hp}{s:Shared}{a:Addr}{y d:V}{u r:Value}{o:Option V}{A:Around}{E:Value→Shared→Prop}
theorem Sd {Q:Value→Shared→Prop} (hu:A.units+1<cLine) (I:Inv X pins σ H s) (g:dR H a y o) (ry:RelV y u) (rd:RelV d r) (h:∀ w' s',Inv X pins σ H s'→RelV (o.getD d) w'→Q w' s') :
  wpAny (model X.prog X.w) A (call (.builtin "dict.get") [.ref a,u,r]) Q E s:=by
 rcases g with ⟨kvs,k,e,ey,l⟩ | ⟨kvs,k,b,e,ey,eb,l⟩
 ·subst ey
  obtain ⟨z,hd,vs,rel,dd⟩:=rP I.hok e
  refine call_meetsIn PySem.F.slot_dict_get dd.typeIs PySem.F.entry_dict_get (PySem.F.args_dict_get_3 _ _ _) (meets_dict_get_default (bU X.prog X.w) a (oE ry) hd r) ⟨_,dd.mapOf,h _ _ (I.tok _) ?_⟩
  rw [l]
  exact (rel.val k).getD rd
 ·subst ey
  cases (show u=Value.ref b from ry)
  obtain ⟨z,hd,xs,rel,dd⟩:=rR I.hok e
  refine call_meetsIn PySem.F.slot_dict_get dd.typeIs PySem.F.entry_dict_get (PySem.F.args_dict_get_3 _ _ _) (meetsH_dict_get_default (tupleKind (bU X.prog X.w)) a b hd r) ⟨tupleKind_room_in1 hu,k,xs,pK I.hok eb,dd,h _ _ (I.tok _) ?_⟩
  rw [l]
  exact (rel.val k).getD rd
end
def Sg (td ty tx:TE):TE:=fun σ H Q=>td σ H fun x H1=>∃ a,x=.ref a∧IsD H1 a∧ty σ H1 fun y H2=>tx σ H2 fun z H3=>∃ o,dR H3 a y o∧Q (o.getD z) H3
def Sh (td ty:TE):TE:=fun σ H Q=>td σ H fun x H1=>∃ a,x=.ref a∧IsD H1 a∧ty σ H1 fun y H2=>∃ kvs k v,H2 a=some (.dK kvs)∧y=kV k∧bQ kvs k=some v∧Q v (upd H2 a (.dK (gY kvs k)))
section
variable {X:Cx}{o e f:Expr}{apos cpos:Pos}{td ty tx:TE}
theorem Io (hu:X.A.units+1<cLine) (ho:PE X o td) (he:PE X e ty) (hf:PE X f tx) (m:M2 X o "get" apos e f cpos):PE X (.Call (.Attribute o "get" apos) [e,f] [] cpos) (Sg td ty tx):=by
 intro pins s σ H Q I h
 refine wpAny_Call_method m.base m.few m.line PySem.F.plainAttrs_dict PySem.F.slot_dict_get PySem.F.type_dict_get (cN (ho pins s σ H _ I h) fun u s1 ⟨x,H1,I1,rx,a,ex,d,q1⟩=>?_)
 subst ex
 obtain rfl:u=Value.ref a:=rx
 obtain ⟨t1,t2,_⟩:=Im I1 d
 refine ⟨t1,t2,?_⟩
 rw [m.trees]
 refine Calls.callWith_builtin rfl (Calls.evalArgs_plain (Calls.spliced_cons (cN (he pins s1 σ H1 _ I1 q1) fun iv s2 ⟨y,H2,I2,ry,q2⟩ =>
  Calls.spliced_cons (cN (hf pins s2 σ H2 _ I2 q2) fun fv s3 ⟨z,H3,I3,rz,ov,g,q3⟩=>Calls.spliced_nil ?_))))
 exact Sd hu I3 g ry rz fun w' s4 I4 cD=>⟨_,H3,I4,cD,q3⟩
theorem oG (ho:PE X o td) (he:PE X e ty) (m:M1 X o "pop" apos e cpos):PE X (.Call (.Attribute o "pop" apos) [e] [] cpos) (Sh td ty):=by
 intro pins s σ H Q I h
 refine wpAny_Call_method m.base m.few m.line PySem.F.plainAttrs_dict PySem.F.slot_dict_pop PySem.F.type_dict_pop (cN (ho pins s σ H _ I h) fun u s1 ⟨x,H1,I1,rx,a,ex,d,q1⟩=>?_)
 subst ex
 obtain rfl:u=Value.ref a:=rx
 obtain ⟨t1,t2,_⟩:=Im I1 d
 refine ⟨t1,t2,?_⟩
 rw [m.trees]
 refine Calls.callWith_builtin rfl (Calls.evalArgs_plain (Calls.spliced_cons (cN (he pins s1 σ H1 _ I1 q1) fun iv s2 ⟨y,H2,I2,ry,kvs,k,v,ea,ey,l,q2⟩=>Calls.spliced_nil ?_)))
 subst ey
 exact Wr I2 ea ry l (.inl rfl) fun w' s3 I3 cD=>⟨v,_,I3,cD,q2⟩
end
section
variable {X:Cx}{pins:List (Addr×Obj)}{σ:St}{H:Hp}{s:Shared}{a:Addr}{kvs:List (Key×V)}{A:Around}{E:Value→Shared→Prop}
end
section
variable {X:Cx}{pins:List (Addr×Obj)}{σ:St}{H:Hp}{s:Shared}{a:Addr}{y:V}{u:Value}{A:Around}{E:Value→Shared→Prop}
end
end L2
namespace L2
open PySem PySem.Spec PyProof.Rows PySem.W
section
variable {X:Cx}{elts:List Expr}{x1:Nat}{tp:Pos}{a b:Expr}{ta:TA}{p pos:Pos}
end
def jM (P:Params):List DictEntry→List (Str×V)→Prop
 | [],[]=>True
 | e::r,(k,v)::q=>((∃ t,e.key=.str k t)∧e.hash=PyData.keyHash P k∧RelV v e.val)∧jM P r q
 | _,_=>False
theorem jM.lit {P:Params}:∀ {es:List DictEntry}{kvs:List (Str×V)},jM P es kvs→KeysLit P es
 | [],[],_=>trivial
 | e::r,(k,v)::q,⟨⟨⟨t,h1⟩,h2,_⟩,h⟩=>⟨⟨k,t,h1,h2⟩,h.lit⟩
theorem jM.rel {P:Params} (x:Str):∀ {es:List DictEntry}{kvs:List (Str×V)},jM P es kvs→jd (kvs.lookup x) ((es.find? fun e=>Value.isStrOf x e.key).map (·.val))
 | [],[],_=>trivial
 | e::r,(k,v)::q,⟨⟨⟨t,h1⟩,h2,h3⟩,h⟩=>by
  have hk:Value.isStrOf x e.key=(k==x):=by rw [h1];rfl
  by_cases hx:x=k
  ·subst hx
   have:Value.isStrOf x e.key=true:=by rw [hk];simp
   rw [List.find?_cons,this,List.lookup_cons]
   simp only [beq_self_eq_true]
   exact h3
  ·have h4:Value.isStrOf x e.key=false:=by rw [hk];simpa using fun z:k=x=>hx z.symm
   have h5:(x==k)=false:=by simpa using hx
   rw [List.find?_cons,h4,List.lookup_cons,h5]
   exact h.rel x
structure KD (K:PySem.W.Frag) (P:Params) (a:Addr) (kvs:List (Str×V)):Prop where
 ex:∃ es n,K.lookup a=some ⟨.type "dict",none,.dict es n,#[]⟩∧jM P es.toList kvs
 lo:(a==sysModules)=false
theorem KD.map {K:PySem.W.Frag}{prog:Program}{w:World}{a:Addr}{kvs:List (Str×V)} (d:KD K w.params a kvs) {h:Heap} (X:K.In h):∃ f,h.MapOf (strKind prog w) a f∧∀ x,jd (kvs.lookup x) (f x):=by
 obtain ⟨es,n,hl,he⟩:=d.ex
 refine ⟨_,mapOf_K X hl he.lit,fun x=>?_⟩
 obtain ⟨l⟩:=es
 have:=he.rel x
 unfold findBy
 rw [List.find?_toArray]
 exact this
section
variable {X:Cx}
def Wx (K:PySem.W.Frag) (P:Params) (neg:Bool):R2:=fun x y H Q=>∃ z a kvs,x=.str z∧y=.ref a∧KD K P a kvs∧Q (.bl (neg != (kvs.lookup z).isSome)) H
theorem CK:mK X (compareOp .In) (Wx X.K X.w.params false):=by
 intro pins s σ H x y v u Q I rx ry h
 obtain ⟨z,a,kvs,rfl,rfl,d,q⟩:=h
 obtain ⟨t,rfl⟩:=rx
 cases ry
 obtain ⟨f,hm,hr⟩:=d.map (prog:=X.prog) I.lM
 refine wpAny_in_of (strKind_is X.prog X.w z t) d.lo hm ?_
 rw [← (hr z).gK]
 exact ⟨.bl _,H,I.tok _,rfl,by simpa using q⟩
def Wy (K:PySem.W.Frag) (P:Params):R2:=fun x y H Q=>∃ a kvs z v,x=.ref a∧y=.str z∧KD K P a kvs∧kvs.lookup z=some v∧Q v H
theorem Pz:Vk X (Wy X.K X.w.params):=by
 intro value slice pins s σ H x y v u Q I rx ry h hs
 obtain ⟨a,kvs,z,w',rfl,rfl,d,hl,q⟩:=h
 cases rx
 obtain ⟨t,rfl⟩:=ry
 obtain ⟨f,hm,hr⟩:=d.map (prog:=X.prog) I.lM
 obtain ⟨u',hu,ru⟩:=jd.some_of (v:=w') (o:=f z) (by rw [← hl];exact hr z)
 exact tail_any hm.typeIs slot_dict_getitem.lookup (wpAny_getItem_of (strKind_is X.prog X.w z t) hm hu ⟨w',H,I.tok _,ru,q⟩) hs
end
end L2
namespace HT
open PySem PySem.Spec PyProof.Rows
section
variable {prog:Program}{w:World}{A:Around}{E:Value→Shared→Prop}{s:Shared}
end
end HT
namespace L2
open PySem PySem.Spec PyProof.Rows PySem.W
section
variable {X:Cx}{K:PySem.W.Frag}
end
end L2
namespace L2
open PySem PySem.Spec PyProof.Rows PySem.W
section
variable {X:Cx}{pins:List (Addr×Obj)}{σ:St}{H:Hp}{s:Shared}
end
end L2
namespace L2
open PySem PySem.Spec PyProof.Rows PySem.W
theorem w5:∀ {ss:List Str}{us:List Value},Vals (ss.map V.str) us→StrsAre us ss
 | [],_,r=>by rw [List.map_nil] at r;cases r;exact .nil
 | x::ss,_,r=>by
  rw [List.map_cons] at r
  cases r with
  | cons r1 r2 =>
   obtain ⟨t,rfl⟩:=r1
   exact .cons x t (w5 r2)
theorem oH:∀ {ss:List Str}{us:List Value},StrsAre us ss→Vals (ss.map V.str) us
 | _,_,.nil=>.nil
 | _,_,.cons y t r=>.cons ⟨t,rfl⟩ (oH r)
def Sq (K:PySem.W.Frag):List V→Hp→VK→Prop:=fun xs H Q=>∃ p ss,xs=[.ref p]∧bR K H p (ss.map V.str)∧ss.length<64∧∀ l ss',H l=none→ss'.Perm ss→sortedS ss'=true→Q (.ref l) (upd H l (.lst (ss'.map V.str)))
theorem dF {X:Cx}:fM X (.builtin "sorted") (Sq X.K):=by
 intro pins s σ H xs us Q I r h
 obtain ⟨p,ss,rfl,hq,hl,q⟩:=h
 obtain ⟨u,rfl,ru⟩:=vals1 r
 cases ru
 obtain ⟨its,rv,pl,hz⟩:=I.list hq
 have hlen:=rv.length
 rw [List.length_map] at hlen
 refine sorted_strs pl.isList (w5 rv) (by omega) fun out ss' h1 h2 h3=>?_
 obtain ⟨e,he⟩:=sortedAll_at s.heap its out
 have hle:ss'.length<64:=by rw [h2.length_eq];exact hl
 have new:cJ X.prog X.w (upd H (s.heap.objs.size+1) (.lst (ss'.map V.str))) (sortedAll s.heap its out) (s.heap.objs.size+1) (.lst (ss'.map V.str)) :=
  ⟨by rw [List.length_map];exact Nat.le_trans (Nat.le_of_lt hle) (by decide),out.toList,e,oH h1,by rw [he]⟩
 exact ⟨.ref (s.heap.objs.size+1),_,I.laid (t':=s.toks) (fun b o q=>sortedAll_old q) (Nat.le_succ _) new,rfl,q _ ss' (I.hok.fresh (Nat.le_succ _)) h2 h3⟩
section
variable {X:Cx}{pins:List (Addr×Obj)}{σ:St}{H:Hp}{s:Shared}{a:Addr}{kvs:List (Key×V)}{o:Obj}
theorem Inv.freeze (I:Inv X pins σ H s) (e:H a=some (.dK kvs)):∃ o,Inv X pins σ (upd H a (.fX o (.dK kvs))) s∧∀ o u,X.H₀ a≠some (.fX o u):=by
 obtain ⟨z,hd,vs,rel,dd⟩:=rQ I.hok e
 obtain ⟨o,es,ep,ho,r⟩:=id dd
 refine ⟨o,jL (t':=s.toks) I (by rw [e];exact True.intro) (Heap.SameBut.refl a s.heap) ⟨o,ho⟩ ⟨ho,z,hd,vs,rel,dd⟩,fun o' u q=>?_⟩
 have:=I.base.mV a o' u q
 rw [e] at this
 cases this
theorem Inv.Wz (I:Inv X pins σ H s) (e:H a=some (.fX o (.dK kvs))) (n:∀ o u,X.H₀ a≠some (.fX o u)):Inv X pins σ (upd H a (.dK kvs)) s:=by
 have nn:∀ {b},H b=none→b≠a:=fun q h=>by rw [h,e] at q;cases q
 have nt:∀ {b xs},H b=some (.tup xs)→b≠a:=fun q h=>by rw [h,e] at q;cases q
 have no:∀ {b y},H b=some (.own y)→b≠a:=fun q h=>by rw [h,e] at q;cases q
 refine ⟨I.ok,I.os,I.bare,⟨I.base.keep,I.base.slot,fun b ob q hb hx=>?_,I.base.there,fun b xs q=>?_,fun b ob u q=>?_,fun b ps q=>?_⟩,I.loc,I.cell,?_,fun x c q=>?_,fun p hp=>?_,fun b u q=>?_,I.len⟩
 ·have z:=I.base.free b ob q hb hx
  rw [ao (nn z)];exact z
 ·have z:=I.base.tups b xs q
  rw [ao (nt z)];exact z
 ·by_cases h:b=a
  ·subst h;exact absurd q (n ob u)
  ·rw [ao h];exact I.base.mV b ob u q
 ·obtain ⟨more,z⟩:=I.base.pq b ps q
  exact ⟨more,by rw [ao (fun h=>by rw [h,e] at z;cases z)];exact z⟩
 ·rw [ao (nn I.free)];exact I.free
 ·rw [ao (nn (I.fY x c q))];exact I.fY x c q
 ·obtain ⟨q1,q2,q3⟩:=I.pin p hp
  exact ⟨q1,by rw [ao (nn q2)];exact q2,q3⟩
 ·by_cases h:b=a
  ·subst h
   rw [ak] at q
   cases q
   obtain ⟨_,z⟩:=I.hok _ _ e
   exact z.stay (fun _ _ _ q=>q) (fun c q=>by rw [ao (no q)];exact q) fun c xs q=>by rw [ao (nt q)];exact q
  ·rw [ao h] at q
   exact (I.hok b u q).stay (fun _ _ _ q=>q) (fun c q=>by rw [ao (no q)];exact q) fun c xs q=>by rw [ao (nt q)];exact q
def Ss (t:TE):TE:=fun σ H Q=>∃ a kvs,H a=some (.dK kvs)∧∀ o,t σ (upd H a (.fX o (.dK kvs))) fun v H'=>H' a=some (.fX o (.dK kvs))∧Q v (upd H' a (.dK kvs))
theorem mY {e:Expr}{t:TE} (he:PE X e t):PE X e (Ss t):=by
 intro pins s σ H Q I ⟨a,kvs,ea,h⟩
 obtain ⟨o,I1,n⟩:=I.freeze ea
 exact wpAny_mono (he pins s σ _ _ I1 (h o)) (fun v s' ⟨x,H',I',r,e',q⟩=>⟨x,_,I'.Wz e' n,r,q⟩) fun _ _ y=>y
def Itd (a:Addr) (o:Obj) (kvs:List (Key×V)):It:=⟨fun i H=>H a=some (.fX o (.dK kvs))∧i<kvs.length,fun i H v H'=>H'=H∧∃ kv,kvs[i]?=some kv∧v=kV kv.1,fun i H=>H a=some (.fX o (.dK kvs))∧kvs.length≤i⟩
theorem Ip {P:Program}{w:World}{k:Key}{u:Value} (h:(bU P w).is k u=true):RelV (kV k) u:=by
 rcases cU (show qZ k u=true from h) with ⟨i,t,rfl,rfl⟩ | ⟨x,t,rfl,rfl⟩
 ·exact ⟨t,rfl⟩
 ·exact ⟨t,rfl⟩
theorem KV.at {κ:Type}:∀ {kvs:List (κ×V)}{vs:List (κ×Value)},KV kvs vs→∀ {i:Nat}{kv:κ×V},kvs[i]?=some kv→∃ u,vs[i]?=some (kv.1,u)∧RelV kv.2 u:=by
 intro kvs vs r
 unfold KV at r
 induction r with
 | nil=>intro i kv h;simp at h
 | @cons p q ps qs h t ih =>
  intro i kv hi
  cases i with
  | zero =>
   simp only [List.getElem?_cons_zero,Option.some.injEq] at hi
   subst hi
   obtain ⟨q1,q2⟩:=q
   obtain ⟨h1,h2⟩:=h
   simp only at h1
   subst h1
   exact ⟨q2,rfl,h2⟩
  | succ j =>
   simp only [List.getElem?_cons_succ] at hi ⊢
   exact ih hi
theorem pL (I:Inv X pins σ H s) (e:H a=some (.fX o (.dK kvs))) {es:Array DictEntry}{ep:Nat} (hd:o.data=.dict es ep):(a==sysModules)=false∧∃ vs,KV kvs vs∧s.heap.DictAt (bU X.prog X.w) a vs ep:=by
 obtain ⟨ho,z,hs,vs,rel,o',es',ep',ho',r⟩:=I.hok _ _ e
 rw [ho] at ho'
 cases ho'
 obtain ⟨r1,r2,r3⟩:=r
 rw [hd] at r2
 injection r2 with q1 q2
 subst q1 q2
 exact ⟨hs,vs,rel,o,es,ho,r1,hd,r3⟩
theorem Ew {P:Program}{w:World}{K:PySem.W.Frag}{tg:Expr} (it:Addr) {es:Array DictEntry}{ep:Nat} (hd:o.data=.dict es ep) :
  Turn P w K tg (Itd a o kvs) [it] it (fun i h=>h.IsKeyIter it a i kvs.length ep) where
 mem:=by simp
 obj:=fun i h st b hb=>by
  have e:b=it:=by simpa using hb
  subst e
  obtain ⟨ob,e,c,d⟩:=st
  exact ⟨ob,e,fun v z=>by rw [d] at z;cases z⟩
 keep:=fun i h h' st k=>by
  obtain ⟨ob,e,r⟩:=st
  exact ⟨ob,k it (by simp) ob e,r⟩
 item:=by
  intro X hP hw hK hc i pins s σ H E I hf st hg
  subst hP hw hK
  obtain ⟨f0,f1,f2,f3,f4,f5⟩:=hf it (by simp)
  obtain ⟨hg1,hg2⟩:=hg
  obtain ⟨hs,vs,rel,dat⟩:=pL I hg1 hd
  have hl:kvs.length=vs.length:=rel.length
  obtain ⟨u,hu,ru⟩:=rel.at (List.getElem?_eq_getElem hg2)
  rw [hl] at st
  refine wpAny_pyNext_dict_item st dat hu fun key h' hkey hit' hsb=>?_
  have I1:Inv X pins σ H { s with heap:=h' }:=I.turned (t':=s.toks) (fun b ob hb e=>hsb.extBut b ob hb e) f0 f1 f3 f4 f5
  obtain ⟨ob,e,cc,d⟩:=id hit'
  refine ⟨_,rfl,xg (s:={ s with heap:=h' }) e cc d (by decide) ⟨kV (kvs[i]).1,H,I1,Ip hkey,⟨rfl,_,List.getElem?_eq_getElem hg2,rfl⟩,?_,fun b hb=>(hf b hb).1⟩⟩
  rw [hl];exact hit'
 done:=by
  intro X hP hw hK hc i pins s σ H E I hf st hg
  subst hP hw hK
  obtain ⟨f0,f1,f2,f3,f4,f5⟩:=hf it (by simp)
  obtain ⟨hg1,hg2⟩:=hg
  obtain ⟨hs,vs,rel,dat⟩:=pL I hg1 hd
  have hl:kvs.length=vs.length:=rel.length
  rw [hl] at st hg2
  exact wpAny_pyNext_dict_end (I.ok.hd hc) st dat (List.getElem?_eq_none hg2) fun h' eb=>⟨rfl,I.turned (t':=s.toks) (fun b ob hb e=>eb b ob hb e) f0 f1 f3 f4 f5⟩
 self:=fun A i s Q E st h=>wpAny_pyIter_keyiter st h
def PB (tl:TE):TI:=fun σ H R=>tl σ H fun x H1=>∃ a o kvs,x=.ref a∧H1 a=some (.fX o (.dK kvs))∧R (Itd a o kvs) H1
theorem oJ {tg l:Expr}{tl:TE} (hl:PE X l tl):PI X tg l (PB tl):=by
 intro pins s σ H R I h
 refine cN (hl pins s σ H _ I h) fun v s1 ⟨x,H1,I1,r1,a,o,kvs,ex,ea,q⟩=>?_
 subst ex
 cases r1
 obtain ⟨ho,z,hs,vs,rel,o',es,ep,ho',hx,hdd,r⟩:=id (I1.hok _ _ ea)
 rw [ho] at ho'
 cases ho'
 have dat:s1.heap.DictAt (bU X.prog X.w) a vs ep:=⟨o,es,ho,hx,hdd,r⟩
 have hlen:kvs.length=vs.length:=rel.length
 refine wpAny_pyIter_dict hs dat ?_
 refine ⟨s1.heap.objs.size,[s1.heap.objs.size],_,_,H1,rfl,I1.kept (t':=s1.toks) fun b o e=>Heap.get?_push_of_some _ e,Ew _ hdd,⟨_,Heap.get?_push_size _ rfl,rfl,by rw [hlen];rfl⟩,fun b hb=>?_,q⟩
 have e:b=s1.heap.objs.size:=by simpa using hb
 subst e
 exact I1.tR (Nat.le_refl _) (I1.hok.fresh (Nat.le_refl _))
theorem uM {o:Obj}{D:Addr}{σ:St}{k:Nat}{ix:List Nat}{g:TG}{tt:TT}{te:TE}{Q:VK}{H1:Hp} (Pv:Nat→List V→Hp→Prop) (hl:∀ i ys H,Pv i ys H→H a=some (.fX o (.dK kvs))) (h0:Pv 0 [] (upd H1 D (.lst []))) (hD:∀ i ys H,Pv i ys H→H D=some (.lst ys))
  (hs:∀ i ys H kv,kvs[i]?=some kv→Pv i ys H→uz D σ k ix g tt te (kV kv.1) ys H (Pv (i+1))) (hd:∀ ys H,Pv kvs.length ys H→Q (.ref D) H):lg (Itd a o kvs) D σ k ix g tt te Q H1 :=
 qJ (n:=kvs.length) (item:=fun i=>match kvs[i]? with | some kv=>kV kv.1 | none=>.non) Pv (fun i ys H p=>⟨fun h=>⟨⟨hl i ys H p,h⟩,fun v H' y=>by
  obtain ⟨e,kv,hc,rfl⟩:=y
  exact ⟨e,by rw [hc]⟩⟩,fun h=>⟨hl i ys H p,h⟩⟩) h0 hD (fun i ys H h p=>by
   have e:kvs[i]?=some kvs[i]:=List.getElem?_eq_getElem h
   simp only [e]
   exact hs i ys H _ e p) hd
end
end L2
namespace PySem
theorem jA:entryFor table "dict_itemiterator.__iter__"=some Builtin.«dict_keyiterator.__iter__» :=
 entryFor_alias (id':="dict_keyiterator.__iter__") (by kernel_rfl) rfl (by decide +kernel) (by kernel_rfl)
end PySem
namespace L2
open PySem PySem.Spec PyProof.Rows PySem.W
def WD (a:Addr) (o:Obj) (kvs:List (Key×V)):It:=⟨fun i H=>H a=some (.fX o (.dK kvs))∧i<kvs.length,fun i H v H'=>∃ p kv,kvs[i]?=some kv∧v=.ref p∧H p=none∧H'=upd H p (.tup [kV kv.1,kv.2]),fun i H=>H a=some (.fX o (.dK kvs))∧kvs.length≤i⟩
section
variable {X:Cx}{pins:List (Addr×Obj)}{σ:St}{H:Hp}{s:Shared}{a:Addr}{kvs:List (Key×V)}{o:Obj}
theorem zV {P:Program}{w:World}{K:PySem.W.Frag}{elts:List Expr}{x1:Nat}{tp:Pos} (it:Addr) {es:Array DictEntry}{ep:Nat} (hd:o.data=.dict es ep) :
  Turn P w K (.Tuple elts x1 tp) (WD a o kvs) [it] it (fun i h=>∃ ok ov,IsItemIter h it a i kvs.length ep ok ov) where
 mem:=by simp
 obj:=fun i h ⟨ok,ov,st⟩ b hb=>by
  have e:b=it:=by simpa using hb
  subst e
  exact ⟨_,st,fun v z=>by cases z⟩
 keep:=fun i h h' ⟨ok,ov,st⟩ k=>⟨ok,ov,k it (by simp) _ st⟩
 item:=by
  intro X hP hw hK hc i pins s σ H E I hf ⟨ok,ov,st⟩ hg
  subst hP hw hK
  obtain ⟨hg1,hg2⟩:=hg
  obtain ⟨hs,vs,rel,dat⟩:=pL I hg1 hd
  have hl:kvs.length=vs.length:=rel.length
  obtain ⟨u,hu,ru⟩:=rel.at (List.getElem?_eq_getElem hg2)
  rw [hl] at st
  refine wpAny_pyNext_items_item st dat hu fun key h' hkey ho hT hsz hk=>⟨_,rfl,wpAny_letOwnedTupleGo_items ho fun h2 he2 sb=>?_⟩
  have hilt:it<s.heap.objs.size:=Heap.lt_size st
  have hT2:=sb.extBut _ _ (Nat.ne_of_gt hilt) hT
  have kk:∀ b ob,b∉[it]→s.heap.get? b=some ob→h2.get? b=some ob:=fun b ob hb q=>by
   have hb':b≠it:=by simpa using hb
   exact sb.extBut _ _ hb' (hk b ob hb' q)
  refine ⟨.ref s.heap.objs.size,upd H s.heap.objs.size (.tup [kV (kvs[i]).1,(kvs[i]).2]),I.Cq (t':=s.toks) hf kk (Nat.le_refl _) ⟨lQ (by simp) |> Nat.le_of_lt,[key,u],.cons (Ip hkey) (.cons ru .nil),⟨_,hT2,rfl,_,rfl⟩⟩,rfl,⟨_,kvs[i],List.getElem?_eq_getElem hg2,rfl,I.fresh,rfl⟩,?_,fun b hb=>?_⟩
  ·rw [hl];exact ⟨_,_,he2⟩
  ·have e:b=it:=by simpa using hb
   subst e
   rw [ao (Nat.ne_of_lt hilt)];exact (hf _ (by simp)).1
 done:=by
  intro X hP hw hK hc i pins s σ H E I hf ⟨ok,ov,st⟩ hg
  subst hP hw hK
  obtain ⟨f0,f1,f2,f3,f4,f5⟩:=hf it (by simp)
  obtain ⟨hg1,hg2⟩:=hg
  obtain ⟨hs,vs,rel,dat⟩:=pL I hg1 hd
  have hl:kvs.length=vs.length:=rel.length
  rw [hl] at st hg2
  exact wpAny_pyNext_items_end (I.ok.hd hc) st dat (List.getElem?_eq_none hg2) fun h' eb=>⟨rfl,I.turned (t':=s.toks) (fun b ob hb e=>eb b ob hb e) f0 f1 f3 f4 f5⟩
 self:=fun A i s Q E ⟨ok,ov,st⟩ h=>by
  have hT:s.TypeIs (.ref it) "dict_itemiterator":=⟨_,st,rfl⟩
  refine wpAny_pyIter_slot hT PySem.F.slot_dict_itemiterator_iter (wpAny_call_entry PySem.F.slot_dict_itemiterator_iter hT PySem.jA ?_ (PySem.F.args_dict_itemiterator_iter_1 _))
  show wpAny _ _ (ret (.ref it)) _ _ s
  exact wpAny_pure ⟨_,rfl, "dict_itemiterator",_,hT,PySem.F.slot_dict_itemiterator_next.lookup,h⟩
def Sv (tl:TE):TI:=fun σ H R=>tl σ H fun x H1=>∃ a o kvs,x=.ref a∧H1 a=some (.fX o (.dK kvs))∧R (WD a o kvs) H1
theorem yj {elts:List Expr}{x1:Nat}{tp:Pos}{l:Expr}{tl:TE}{apos cpos:Pos} (hl:PE X l tl) (hbase:attributeBase l "items" X.env (eval l X.env)=eval l X.env:=by rfl) (hline:(apos.endLine==cpos.line)=true:=by rfl) :
  PI X (.Tuple elts x1 tp) (.Call (.Attribute l "items" apos) [] [] cpos) (Sv tl):=by
 intro pins s σ H R I h
 refine wpAny_Call_method0_late hbase hline (cN (hl pins s σ H _ I h) fun v s1 ⟨x,H1,I1,r1,a,o,kvs,ex,ea,q⟩=>?_)
 subst ex
 cases r1
 obtain ⟨ho,z,hs,vs,rel,o',es,ep,ho',hx,hdd,r⟩:=id (I1.hok _ _ ea)
 rw [ho] at ho'
 cases ho'
 have dat:s1.heap.DictAt (bU X.prog X.w) a vs ep:=⟨o,es,ho,hx,hdd,r⟩
 have hT:s1.TypeIs (.ref a) "dict":=dat.dictOf.typeIs
 refine ⟨"dict", "dict.items",PySem.F.plainAttrs_dict,PySem.F.slot_dict_items,PySem.F.type_dict_items,hT,(fun b e=>by injection e with e;subst e;exact ⟨o,ho,hx.2.1⟩),?_⟩
 refine Calls.callWith_builtin rfl (PySem.evalArgs_none ?_)
 refine call_meetsIn PySem.F.slot_dict_items hT PySem.F.entry_dict_items (PySem.F.args_dict_items_1 _) (meets_dict_items (bU X.prog X.w) a hs) ⟨⟨vs,dat.dictOf⟩,?_⟩
 have hlen:kvs.length=vs.length:=rel.length
 have hne:a≠s1.heap.objs.size:=Nat.ne_of_lt dat.lt_size
 have I2:Inv X pins σ H1 { s1 with heap:=s1.heap.push { cls:=.type "dict_items",data:=.fields #[.ref a] } }:=I1.kept (t':=s1.toks) fun b o e=>Heap.get?_push_of_some _ e
 have Sy:(s1.heap.push { cls:=.type "dict_items",data:=.fields #[.ref a] }).DictAt (bU X.prog X.w) a vs ep:=dat.at' fun o e=>Heap.get?_push_of_some _ e
 show wpAny _ _ (pyIter (.ref s1.heap.objs.size)) _ _ _
 refine wpAny_pyIter_items (s:={ s1 with heap:=s1.heap.push { cls:=.type "dict_items",data:=.fields #[.ref a] } }) ⟨_,Heap.get?_push_size _ rfl,rfl,rfl⟩ Sy ?_
 refine ⟨_,[_],_,_,H1,rfl,I2.kept (t':=s1.toks) fun b o e=>Heap.get?_push_of_some _ e,zV _ hdd,⟨_,_,by rw [hlen];exact Heap.get?_push_size _ rfl⟩,fun b hb=>?_,q⟩
 have e:=List.mem_singleton.mp hb
 subst e
 exact I2.tR (Nat.le_refl _) (I2.hok.fresh (Nat.le_refl _))
theorem qt {i:Nat} (h:H a=some (.fX o (.dK kvs))):(i<kvs.length→(WD a o kvs).go i H∧∀ v H',(WD a o kvs).DY i H v H'→∃ p,v=.ref p∧H p=none∧H'=upd H p (.tup [(kvs.map fun kv=>kV kv.1).getD i .non,(kvs.map fun kv=>kv.2).getD i .non]))∧(kvs.length≤i→(WD a o kvs).stop i H):=by
 refine ⟨fun hi=>⟨⟨h,hi⟩,fun v H' ⟨p,kv,e1,e2,e3,e4⟩=>⟨p,e2,e3,?_⟩⟩,fun hi=>⟨h,hi⟩⟩
 rw [e4,List.getD_eq_getElem?_getD,List.getD_eq_getElem?_getD,List.getElem?_map,List.getElem?_map,e1];rfl
end
end L2
namespace L2
open PySem PySem.W PyProof.Rows
def pat (p:Array Nat) (k:Nat):Nat:=p.getD k 0
structure Ord (n:Nat) (lt:Nat→Nat→Bool):Prop where
 tr:∀ i j k,i<n→j<n→k<n→lt i j=true→lt j k=true→lt i k=true
 tot:∀ i j,i<n→j<n→i≠j→lt i j=false→lt j i=true
def Vm (n:Nat) (lt:Nat→Nat→Bool) (cmp:Nat→Nat→(Bool→Shared→Prop)→Shared→Prop) (J:Shared→Prop):Prop :=
 ∀ i j C s,i<n→j<n→i≠j→J s→(∀ s',J s'→C (lt i j) s')→cmp i j C s
def Pm (n:Nat) (p:Array Nat):Prop:=p.Perm (List.range n).toArray
theorem Pm.size {n:Nat}{p:Array Nat} (h:Pm n p):p.size=n:=by
 have:=h.size_eq
 simpa using this
theorem Pm.lt {n:Nat}{p:Array Nat} (h:Pm n p) {k:Nat} (hk:k<n):pat p k<n:=by
 have hs:=h.size
 have hk':k<p.size:=by omega
 have hm:p[k]∈p.toList:=by simp
 have:=(Array.perm_iff_toList_perm.mp h).mem_iff.mp hm
 simp at this
 unfold pat
 rw [Array.getD,dif_pos hk']
 exact this
theorem Pm.ne {n:Nat}{p:Array Nat} (h:Pm n p) {i j:Nat} (hi:i<n) (hj:j<n) (hij:i≠j):pat p i≠pat p j:=by
 have hs:=h.size
 have hi':i<p.size:=by omega
 have hj':j<p.size:=by omega
 have nd:p.toList.Nodup:=(Array.perm_iff_toList_perm.mp h).nodup_iff.mpr (by simpa using List.nodup_range)
 unfold pat
 rw [Array.getD,dif_pos hi',Array.getD,dif_pos hj']
 intro e
 have pw:=List.pairwise_iff_getElem.mp nd
 rcases Nat.lt_or_gt_of_ne hij with h1 | h1
 ·exact pw i j (by simpa using hi') (by simpa using hj') h1 (by simpa using e)
 ·exact pw j i (by simpa using hj') (by simpa using hi') h1 (by simpa using e.symm)
theorem rW {p q:Array Nat}{i j:Nat} (h:p[i]?=q[j]?):pat p i=pat q j:=by
 unfold pat
 rw [Array.getD_eq_getD_getElem?,Array.getD_eq_getD_getElem?,h]
def Up (lt:Nat→Nat→Bool) (p:Array Nat) (m:Nat):Prop:=∀ i j,i<j→j<m→lt (pat p i) (pat p j)=true
def Down (lt:Nat→Nat→Bool) (p:Array Nat) (m:Nat):Prop:=∀ i j,i<j→j<m→lt (pat p j) (pat p i)=true
section
variable {n:Nat}{lt:Nat→Nat→Bool}{cmp:Nat→Nat→(Bool→Shared→Prop)→Shared→Prop}{J:Shared→Prop}{p:Array Nat}
theorem Up.snoc (O:Ord n lt) (P:Pm n p) {m:Nat} (h1:1≤m) (hm:m<n) (h:Up lt p m) (hl:lt (pat p (m - 1)) (pat p m)=true):Up lt p (m+1):=by
 intro i j hij hj
 by_cases e:j=m
 ·subst e
  by_cases e2:i=j - 1
  ·subst e2;exact hl
  ·exact O.tr _ _ _ (P.lt (by omega)) (P.lt (by omega)) (P.lt (by omega)) (h i (j - 1) (by omega) (by omega)) hl
 ·exact h i j hij (by omega)
theorem Down.snoc (O:Ord n lt) (P:Pm n p) {m:Nat} (h1:1≤m) (hm:m<n) (h:Down lt p m) (hl:lt (pat p m) (pat p (m - 1))=true):Down lt p (m+1):=by
 intro i j hij hj
 by_cases e:j=m
 ·subst e
  by_cases e2:i=j - 1
  ·subst e2;exact hl
  ·exact O.tr _ _ _ (P.lt (by omega)) (P.lt (by omega)) (P.lt (by omega)) hl (h i (j - 1) (by omega) (by omega))
 ·exact h i j hij (by omega)
theorem zW (O:Ord n lt) (hc:Vm n lt cmp J) (P:Pm n p) {G:Nat→Shared→Prop}:∀ (f m:Nat) (s:Shared),1≤m→m+f≤n→Up lt p m→J s →
  (∀ r s',m≤r→r≤m+f→Up lt p r→(r<m+f→lt (pat p r) (pat p (r - 1))=true)→J s'→G r s')→(kas_asc p f m).kasWp cmp G s
 | 0,m,s,h1,hf,hU,hJ,k=>k m s (Nat.le_refl _) (Nat.le_refl _) hU (fun h=>absurd h (Nat.lt_irrefl _)) hJ
 | f+1,m,s,h1,hf,hU,hJ,k=>by
  show cmp (p.getD m 0) (p.getD (m - 1) 0) _ s
  refine hc _ _ _ s (P.lt (k:=m) (by omega)) (P.lt (k:=m - 1) (by omega)) (P.ne (by omega) (by omega) (by omega)) hJ fun s' hJ'=>?_
  show KasT.kasWp cmp (if lt (pat p m) (pat p (m - 1))=true then .ret m else kas_asc p f (m+1)) G s'
  cases e:lt (pat p m) (pat p (m - 1)) with
  | true =>
   rw [if_pos rfl]
   exact k m s' (Nat.le_refl _) (by omega) hU (fun _=>e) hJ'
  | false =>
   rw [if_neg Bool.false_ne_true]
   have hl:=O.tot _ _ (P.lt (k:=m) (by omega)) (P.lt (k:=m - 1) (by omega)) (P.ne (by omega) (by omega) (by omega)) e
   exact zW O hc P f (m+1) s' (by omega) (by omega) (hU.snoc O P h1 (by omega) hl) hJ' fun r s'' a b c d e'=>k r s'' (by omega) (by omega) c (fun h=>d (by omega)) e'
theorem CN (O:Ord n lt) (hc:Vm n lt cmp J) (P:Pm n p) {G:Array Nat×Nat×Nat→Shared→Prop}:∀ (f m:Nat) (s:Shared),1≤m→m+f≤n→Down lt p m→J s →
  (∀ r s',m≤r→r≤m+f→Down lt p r→J s'→G (p,r,0) s')→(kas_desc f p m 0).kasWp cmp G s
 | 0,m,s,h1,hf,hU,hJ,k=>k m s (Nat.le_refl _) (Nat.le_refl _) hU hJ
 | f+1,m,s,h1,hf,hU,hJ,k=>by
  show cmp (p.getD m 0) (p.getD (m - 1) 0) _ s
  refine hc _ _ _ s (P.lt (k:=m) (by omega)) (P.lt (k:=m - 1) (by omega)) (P.ne (by omega) (by omega) (by omega)) hJ fun s' hJ'=>?_
  cases e:lt (pat p m) (pat p (m - 1)) with
  | true =>
   have e':lt (p.getD m 0) (p.getD (m - 1) 0)=true:=e
   rw [e']
   dsimp only
   rw [if_pos rfl,if_neg (Nat.lt_irrefl 0)]
   exact CN O hc P f (m+1) s' (by omega) (by omega) (hU.snoc O P h1 (by omega) e) hJ' fun r s'' a b c d=>k r s'' (by omega) (by omega) c d
  | false =>
   have e':lt (p.getD m 0) (p.getD (m - 1) 0)=false:=e
   rw [e']
   dsimp only
   rw [if_neg Bool.false_ne_true]
   have hl:=O.tot _ _ (P.lt (k:=m) (by omega)) (P.lt (k:=m - 1) (by omega)) (P.ne (by omega) (by omega) (by omega)) e
   refine hc _ _ _ s' (P.lt (k:=m - 1) (by omega)) (P.lt (k:=m) (by omega)) (P.ne (by omega) (by omega) (by omega)) hJ' fun s'' SJ=>?_
   have hl':lt (p.getD (m - 1) 0) (p.getD m 0)=true:=hl
   rw [hl']
   dsimp only
   rw [if_pos rfl]
   exact k m s'' (Nat.le_refl _) (by omega) hU SJ
theorem Ir (P:Pm n p) (i j:Nat):Pm n (kas_rev p i j):=(mirror_perm p i j _).trans P
theorem Iu (P:Pm n p) {r:Nat} (hr:r≤n) (k:Nat):pat (kas_rev p 0 r) k=if k<r then pat p (r - 1 - k) else pat p k:=by
 have h:=getElem?_mirror_all (xs:=p) (i:=0) (j:=r) (by rw [P.size];exact hr) k
 by_cases hk:k<r
 ·rw [if_pos hk]
  rw [if_pos ⟨Nat.zero_le _,hk⟩,Nat.zero_add] at h
  exact rW h
 ·rw [if_neg hk]
  rw [if_neg (fun z=>hk z.2)] at h
  exact rW h
theorem SM (P:Pm n p) {r:Nat} (hr:r≤n) (h:Down lt p r):Up lt (kas_rev p 0 r) r:=by
 intro i j hij hj
 rw [Iu P hr,Iu P hr,if_pos (by omega),if_pos hj]
 exact h _ _ (by omega) (by omega)
def Mi (n:Nat) (lt:Nat→Nat→Bool) (J:Shared→Prop) (G:Nat×Array Nat→Shared→Prop):Prop:=∀ q p' s',Pm n p'→1≤q→q≤n→Up lt p' q→J s'→G (q,p') s'
theorem Iv (O:Ord n lt) (hc:Vm n lt cmp J) (P:Pm n p) (h2:2≤n) {G:Nat×Array Nat→Shared→Prop}{s:Shared} (hJ:J s) (k:Mi n lt J G):(kas_count n p).kasWp cmp G s:=by
 unfold kas_count
 rw [KasT.kasWp_bind]
 refine zW O hc P (n - 1) 1 s (Nat.le_refl _) (by omega) (fun i j hij hj=>by omega) hJ fun r s' h1 hr hU hstop hJ'=>?_
 by_cases e:r=n
 ·subst e
  rw [if_pos (by simp)]
  exact k r p s' P h1 (Nat.le_refl _) hU hJ'
 ·rw [if_neg (by simpa using e)]
  by_cases e1:r > 1
  ·rw [if_pos e1]
   refine hc _ _ _ s' (P.lt (k:=0) (by omega)) (P.lt (k:=r - 1) (by omega)) (P.ne (by omega) (by omega) (by omega)) hJ' fun s'' SJ=>?_
   have hl:lt (p.getD 0 0) (p.getD (r - 1) 0)=true:=hU 0 (r - 1) (by omega) (by omega)
   rw [hl]
   dsimp only
   rw [if_pos rfl]
   exact k r p s'' P h1 (by omega) hU SJ
  ·rw [if_neg e1]
   have er:r=1:=by omega
   subst er
   have h0:=hstop (by omega)
   unfold kas_descPart
   rw [KasT.kasWp_bind]
   refine CN O hc P (n - (1+1)) (1+1) s' (by omega) (by omega) (fun i j hij hj=>?_) hJ' fun r s'' a b c d=>?_
   ·have ei:i=0:=by omega
    have ej:j=1:=by omega
    subst ei ej
    exact h0
   ·rw [if_neg (Nat.lt_irrefl 0)]
    unfold kas_tail3
    rw [KasT.kasWp_bind]
    refine zW O hc (Ir P 0 r) (n - r) r s'' (by omega) (by omega) (SM P (by omega) c) d fun q s3 h3 h4 h5 _ h6=>?_
    exact k q _ s3 (Ir P 0 r) (by omega) (by omega) h5 h6
theorem rY (O:Ord n lt) (hc:Vm n lt cmp J) (P:Pm n p) {k:Nat} (hk:k<n) (hU:Up lt p k) {G:Nat→Shared→Prop}:∀ (f l r:Nat) (s:Shared),r - l≤f→l≤r→r≤k→(∀ i,i<l→lt (pat p i) (pat p k)=true)→(∀ i,r≤i→i<k→lt (pat p k) (pat p i)=true)→J s →
  (∀ l' s',l'≤k→(∀ i,i<l'→lt (pat p i) (pat p k)=true)→(∀ i,l'≤i→i<k→lt (pat p k) (pat p i)=true)→J s'→G l' s')→(kas_place p k f l r).kasWp cmp G s
 | 0,l,r,s,h0,h1,h2,hlo,hhi,hJ,w=>w l s (by omega) hlo (fun i hi=>hhi i (by omega)) hJ
 | f+1,l,r,s,h0,h1,h2,hlo,hhi,hJ,w=>by
  unfold kas_place
  by_cases e:l≥r
  ·rw [if_pos e]
   exact w l s (by omega) hlo (fun i hi=>hhi i (by omega)) hJ
  ·rw [if_neg e]
   have hm1:l≤(l+r) / 2:=by omega
   have hm2:(l+r) / 2<r:=by omega
   generalize hmd:(l+r) / 2=md at hm1 hm2
   refine hc _ _ _ s (P.lt (k:=k) hk) (P.lt (k:=md) (by omega)) (P.ne hk (by omega) (by omega)) hJ fun s' hJ'=>?_
   cases c:lt (pat p k) (pat p md) with
   | true =>
    have c':lt (p.getD k 0) (p.getD md 0)=true:=c
    rw [c']
    dsimp only
    rw [if_pos rfl]
    refine rY O hc P hk hU f l md s' (by omega) hm1 (by omega) hlo (fun i hi hik=>?_) hJ' w
    by_cases ei:i=md
    ·subst ei;exact c
    ·exact O.tr _ _ _ (P.lt hk) (P.lt (by omega)) (P.lt (by omega)) c (hU md i (by omega) hik)
   | false =>
    have c':lt (p.getD k 0) (p.getD md 0)=false:=c
    rw [c']
    dsimp only
    rw [if_neg Bool.false_ne_true]
    have hl:=O.tot _ _ (P.lt hk) (P.lt (k:=md) (by omega)) (P.ne hk (by omega) (by omega)) c
    refine rY O hc P hk hU f (md+1) r s' (by omega) (by omega) h2 (fun i hi=>?_) hhi hJ' w
    by_cases ei:i=md
    ·subst ei;exact hl
    ·exact O.tr _ _ _ (P.lt (by omega)) (P.lt (by omega)) (P.lt hk) (hU i md (by omega) (by omega)) hl
theorem Iw (P:Pm n p) {k l:Nat} (hk:k<n) (hl:l≤k) (i:Nat):pat (bubble p k (k - l)) i=if i=l then pat p k else if l<i∧i≤k then pat p (i - 1) else pat p i:=by
 have h:=getElem?_bubble (xs:=p) (src:=k) (by rw [P.size];exact hk) (k - l) (by omega) i
 rw [show k - (k - l)=l by omega] at h
 by_cases e:i=l
 ·rw [if_pos e] at h ⊢
  exact rW h
 ·rw [if_neg e] at h ⊢
  by_cases e2:l<i∧i≤k
  ·rw [if_pos e2] at h ⊢
   exact rW h
  ·rw [if_neg e2] at h ⊢
   exact rW h
theorem Iz (O:Ord n lt) (hc:Vm n lt cmp J) {G:Array Nat→Shared→Prop}:∀ (f k:Nat) (p:Array Nat) (s:Shared),k+f=n→Pm n p→Up lt p k→J s→(∀ p' s',Pm n p'→Up lt p' n→J s'→G p' s')→(kas_bin f p k).kasWp cmp G s
 | 0,k,p,s,hk,P,hU,hJ,w=>by
  have:k=n:=by omega
  subst this
  exact w p s P hU hJ
 | f+1,k,p,s,hk,P,hU,hJ,w=>by
  unfold kas_bin
  rw [KasT.kasWp_bind]
  refine rY O hc P (by omega) hU k 0 k s (by omega) (Nat.zero_le _) (Nat.le_refl _) (fun i hi=>absurd hi (Nat.not_lt_zero _)) (fun i h1 h2=>by omega) hJ fun l s' hl hlo hhi hJ'=>?_
  refine Iz O hc f (k+1) _ s' (by omega) ((bubble_perm p k _).trans P) (fun i j hij hj=>?_) hJ' w
  rw [Iw P (by omega) hl,Iw P (by omega) hl]
  by_cases a1:i=l
  ·rw [if_pos a1,if_neg (by omega),if_pos (by omega)]
   exact hhi _ (by omega) (by omega)
  ·rw [if_neg a1]
   by_cases a2:l<i
   ·rw [if_pos (by omega),if_neg (by omega),if_pos (by omega)]
    exact hU _ _ (by omega) (by omega)
   ·rw [if_neg (by omega)]
    by_cases a3:j=l
    ·rw [if_pos a3]
     exact hlo i (by omega)
    ·rw [if_neg a3]
     by_cases a4:l<j
     ·rw [if_pos (by omega)]
      by_cases a5:i=j - 1
      ·omega
      ·exact hU _ _ (by omega) (by omega)
     ·rw [if_neg (by omega)]
      exact hU _ _ hij (by omega)
theorem Mj (O:Ord n lt) (hc:Vm n lt cmp J) (h2:2≤n) {G:Array Nat→Shared→Prop}{s:Shared} (hJ:J s) (w:∀ p' s',Pm n p'→Up lt p' n→J s'→G p' s'):(kas_sort n).kasWp cmp G s:=by
 unfold kas_sort
 rw [KasT.kasWp_bind]
 refine Iv O hc (Array.Perm.refl _) h2 hJ fun q p' s' P h1 hq hU hJ'=>?_
 by_cases e:q<n
 ·rw [if_pos e,show max q 1=q by omega]
  exact Iz O hc (n - q) q p' s' (by omega) P hU hJ' w
 ·rw [if_neg e]
  have:q=n:=by omega
  subst this
  exact w p' s' P hU hJ'
end
end L2
namespace L2
open PySem PySem.W PyProof.Rows
section
variable {prog:Program}{w:World}{A:Around}{E:Value→Shared→Prop}{s:Shared}{lt:Nat→Nat→Bool}{κ:SortKind}
def Keep (a:Addr) (s s':Shared):Prop:=∀ b o,b≠a→s.heap.get? b=some o→s'.heap.get? b=some o
theorem uN (vs:List Value):((List.range vs.length).toArray.toList.map fun i=>vs.getD i Value.none)=vs:=by
 apply List.ext_getElem
 ·simp
 ·intro i h1 h2
  simp only [List.getElem_map,List.getElem_range]
  rw [List.getD_eq_getElem?_getD,List.getElem?_eq_getElem h2];rfl
theorem IK {a:Addr}{vs:List Value}{n0:Nat}{P:PySem.Fin→Shared→Prop} (ho:s.heap.get? a=some (seqObj "list" vs.toArray n0)) (h64:vs.length<64) (O:Ord vs.length lt)
  (hk:2≤vs.length→∀ (s':Shared) (Q:SortKind→Shared→Prop),Keep a s s'→Q κ s'→wpAny (model prog w) A (keyKind' vs.toArray) Q (fun _ _=>False) s')
  (hl:∀ (i j:Nat) (s':Shared) (C:Bool→Shared→Prop),i<vs.length→j<vs.length→i≠j→Keep a s s'→(∀ tk,C (lt i j) { s' with toks:=tk })→wpAny (model prog w) A (keyLt' κ (vs.getD i Value.none) (vs.getD j Value.none)) C (fun _ _=>False) s')
  (h:∀ (p:Array Nat) (tk:Nat),Pm vs.length p→Up lt p vs.length→P (.done (.ret .none)) { s with toks:=tk,heap:=sortedHeap s.heap a vs (p.toList.map fun i=>vs.getD i Value.none).toArray }) :
  wpAny (model prog w) A (Builtin.«list.sort» ⟨[.ref a],[]⟩) P E s:=by
 have ha:a<s.heap.objs.size:=Heap.lt_size ho
 rw [list_sort_plain]
 refine wpAny_bind (listItems_at ho rfl ?_)
 refine wpAny_bind (listUpdate_at ho rfl ?_ (by rw [List.size_toArray,sizeLine_eq];omega) (Nat.zero_le _))
 obtain ⟨ep,hz⟩:∃ ep,(s.heap.update a (Obj.mapSeq fun _=>#[])).get? a=some (seqObj "list" #[] ep):=⟨_,get?_update_seq ho (fun _=>#[])⟩
 refine wpAny_bind (seqEpoch_at hz rfl ?_)
 refine wpAny_bind (wpAny_newTuple ?_ (by show vs.length≤sizeLine;rw [sizeLine_eq];omega))
 refine wpAny_bind (wpAny_newList ?_ (Nat.zero_le _))
 refine wpAny_holding ?_
 have hz2:(((s.heap.update a (Obj.mapSeq fun _=>#[])).push (seqObj "tuple" vs.toArray 0)).push (seqObj "list" #[] 0)).get? a=some (seqObj "list" #[] ep):=Heap.get?_push_of_some _ (Heap.get?_push_of_some _ hz)
 have kp:Keep a s { s with heap:=((s.heap.update a (Obj.mapSeq fun _=>#[])).push (seqObj "tuple" vs.toArray 0)).push (seqObj "list" #[] 0) }:=fun b o hb q =>
  Heap.get?_push_of_some _ (Heap.get?_push_of_some _ ((Heap.get?_update_ne _ _ _ _ hb).trans q))
 show wpAny (model prog w) A _ P E { s with heap:=((s.heap.update a (Obj.mapSeq fun _=>#[])).push (seqObj "tuple" vs.toArray 0)).push (seqObj "list" #[] 0) }
 dsimp only
 have hsz:vs.toArray.size=vs.length:=by simp
 by_cases h2:vs.toArray.size<2
 ·rw [if_pos h2,if_pos h2]
  refine wpAny_bind (wpAny_pure ?_)
  rw [StateT.run_pure]
  refine wpAny_bind (wpAny_pure ?_)
  dsimp only
  refine wpAny_bind (seqEpoch_at hz2 rfl ?_)
  have eo:(arrOf (SortSt.mk' general' (vs.toArray.zip vs.toArray) #[] 7 none)).map (·.2)=vs.toArray:=by
   exact Array.map_snd_zip (as:=vs.toArray) (bs:=vs.toArray) (Nat.le_refl _)
  rw [eo]
  refine wpAny_bind (listUpdate_at hz2 rfl ?_ (hsz2:=by rw [List.size_toArray,sizeLine_eq];omega))
  simp only [bne_self_eq_false,Bool.false_eq_true,if_false]
  have g:=h (List.range vs.length).toArray s.toks (Array.Perm.refl _) (fun i j hij hj=>by omega)
  rw [uN] at g
  exact wpAny_pure g
 ·rw [if_neg h2,if_neg h2]
  have h2':2≤vs.length:=by omega
  refine wpAny_bind (wpAny_mono (hk h2' _ (fun κ' s'=>κ'=κ∧s'={ s with heap:=((s.heap.update a (Obj.mapSeq fun _=>#[])).push (seqObj "tuple" vs.toArray 0)).push (seqObj "list" #[] 0) }) kp ⟨rfl,rfl⟩) (fun κ' s' hκ=>?_) fun _ _ x=>x.elim)
  obtain ⟨rfl,rfl⟩:=hκ
  refine wpAny_bind (wpAny_mono (kat_run (κ:=κ') (ks:=vs) (vs:=vs) (Q:=fun st' s'=>∃ (p:Array Nat) (tk:Nat),Pm vs.length p∧Up lt p vs.length∧arrOf st'=p.map (kas_item (vs.toArray.zip vs.toArray))∧failedOf st'=none∧s'={ s with toks:=tk,heap:=((s.heap.update a (Obj.mapSeq fun _=>#[])).push (seqObj "tuple" vs.toArray 0)).push (seqObj "list" #[] 0) })
   (G:=fun p s'=>∃ tk:Nat,Pm vs.length p∧Up lt p vs.length∧s'={ s with toks:=tk,heap:=((s.heap.update a (Obj.mapSeq fun _=>#[])).push (seqObj "tuple" vs.toArray 0)).push (seqObj "list" #[] 0) })
   rfl h2' h64 (fun p st' s' _ a2 a3 ⟨tk,b1,b2,b3⟩=>⟨p,tk,b1,b2,a2,a3,b3⟩)
   (Mj (J:=fun s'=>∃ tk:Nat,s'={ s with toks:=tk,heap:=((s.heap.update a (Obj.mapSeq fun _=>#[])).push (seqObj "tuple" vs.toArray 0)).push (seqObj "list" #[] 0) }) O (fun i j C s' hi hj hij hJ hC=>?_) h2' ⟨s.toks,rfl⟩ fun p' s' hP hU ⟨tk,e⟩=>⟨tk,hP,hU,e⟩)) ?_ fun _ _ e=>e)
  ·obtain ⟨tk,rfl⟩:=hJ
   exact hl i j _ C hi hj hij kp fun tk'=>hC _ ⟨tk',rfl⟩
  rintro ⟨⟨⟩,st'⟩ s' ⟨p,tk,hP,hU,har,hf,rfl⟩
  dsimp only
  refine wpAny_bind (seqEpoch_at hz2 rfl ?_)
  rw [kat_snds rfl har]
  have lp:p.toList.length=vs.length:=by rw [Array.length_toList];exact hP.size
  refine wpAny_bind (listUpdate_at hz2 rfl ?_ (hsz2:=by rw [List.size_toArray,List.length_map,lp,sizeLine_eq];omega))
  rw [hf]
  simp only [bne_self_eq_false,Bool.false_eq_true,if_false]
  exact wpAny_pure (h p tk hP hU)
theorem Ey {x:Value}{Q:Value→Shared→Prop}
  (hc:wpAny (model prog w) A.in1 (collect x) (fun vs s1=>vs.length<64∧∃ (lt:Nat→Nat→Bool) (κ:SortKind),Ord vs.length lt ∧
   (2≤vs.length→∀ (s':Shared) (R:SortKind→Shared→Prop),(∀ b o,s1.heap.get? b=some o→s'.heap.get? b=some o)→R κ s'→wpAny (model prog w) A.in1.in1 (keyKind' vs.toArray) R (fun _ _=>False) s') ∧
   (∀ (i j:Nat) (s':Shared) (C:Bool→Shared→Prop),i<vs.length→j<vs.length→i≠j→(∀ b o,s1.heap.get? b=some o→s'.heap.get? b=some o)→(∀ tk,C (lt i j) { s' with toks:=tk })→wpAny (model prog w) A.in1.in1 (keyLt' κ (vs.getD i Value.none) (vs.getD j Value.none)) C (fun _ _=>False) s') ∧
   ∀ (p:Array Nat) (tk:Nat) (h':Heap) (e:Nat),Pm vs.length p→Up lt p vs.length→(∀ b o,s1.heap.get? b=some o→h'.get? b=some o)→h'.get? s1.heap.objs.size=some (seqObj "list" (p.toList.map fun i=>vs.getD i Value.none).toArray e)→Q (.ref s1.heap.objs.size) { s1 with toks:=tk,heap:=h' }) (fun _ _=>False) s) :
  wpAny (model prog w) A (call (.builtin "sorted") [x]) Q E s:=by
 refine Calls.call_function_entry kind_sorted plain_sorted entry_sorted (args_sorted1 _) ?_
 unfold Builtin.«sorted»
 refine wpAny_bind (m:=checkCount "sorted" 1 1 _) (wpAny_pure ?_)
 refine wpAny_bind (wpAny_mono hc (fun vs s1 ⟨h64,lt,κ,O,hk,hl,hq⟩=>?_) fun _ _ z=>z.elim)
 refine wpAny_bind (wpAny_newList ?_ (by show vs.length≤sizeLine;rw [sizeLine_eq];omega))
 have hn:(s1.heap.push (seqObj "list" vs.toArray 0)).get? s1.heap.objs.size=some (seqObj "list" vs.toArray 0):=Heap.get?_push_size _ rfl
 have old:∀ b o,s1.heap.get? b=some o→b≠s1.heap.objs.size∧(s1.heap.push (seqObj "list" vs.toArray 0)).get? b=some o:=fun b o q=>⟨Nat.ne_of_lt (Heap.lt_size q),Heap.get?_push_of_some _ q⟩
 show wpAny _ _ _ _ _ { s1 with heap:=s1.heap.push (seqObj "list" vs.toArray 0) }
 refine wpAny_bind (wpAny_holding (wpAny_call_entry slot_list_sort ⟨_,hn,rfl⟩ entry_list_sort ?body (args_list_sort _)))
 case body =>
  refine IK (s:={ s1 with heap:=s1.heap.push (seqObj "list" vs.toArray 0) }) hn h64 O (fun h2 s' R kp hR=>hk h2 s' R (fun b o q=>kp b o (old b o q).1 (old b o q).2) hR)
   (fun i j s' C hi hj hij kp hC=>hl i j s' C hi hj hij (fun b o q=>kp b o (old b o q).1 (old b o q).2) hC) fun p tk hP hU=>⟨_,rfl,wpAny_pure ⟨_,rfl,?_⟩⟩
  obtain ⟨e,he⟩:=sortedHeap_at (h:=s1.heap.push (seqObj "list" vs.toArray 0)) (a:=s1.heap.objs.size) (vs:=vs) (out:=(p.toList.map fun i=>vs.getD i Value.none).toArray) hn
  refine hq p tk _ e hP hU (fun b o q=>?_) he
  rw [sortedHeap_old (old b o q).1 (by have:=Heap.lt_size q;rw [size_push'];exact Nat.lt_succ_of_lt this)]
  exact (old b o q).2
end
end L2
namespace L2
open PySem PySem.Spec PyProof.Rows PySem.W
section
variable {X:Cx}{pins:List (Addr×Obj)}{σ:St}{H:Hp}{s:Shared}{h':Heap}
theorem cJ.obj {P:Program}{w:World}{h:Heap}{a:Addr}{o:HO} (x:cJ P w H h a o):∃ ob,h.get? a=some ob:=by
 cases o with
 | lst xs=>obtain ⟨_,_,_,_,e⟩:=x;exact ⟨_,e⟩
 | tup xs=>obtain ⟨_,_,_,ob,e,_⟩:=x;exact ⟨ob,e⟩
 | dK kvs=>obtain ⟨_,_,_,_,ob,_,_,e,_⟩:=x;exact ⟨ob,e⟩
 | dT kvs=>obtain ⟨_,_,_,_,ob,_,_,e,_⟩:=x;exact ⟨ob,e⟩
 | set S n=>obtain ⟨ob,_,_,_,e,_⟩:=x;exact ⟨ob,e⟩
 | ins C dx fs=>obtain ⟨_,_,_,e,_⟩:=x;exact ⟨_,e⟩
 | own y=>exact x
 | xd fs=>obtain ⟨_,⟨ob,_,_,e,_⟩,_⟩:=x;exact ⟨ob,e⟩
 | rng lo hi=>obtain ⟨_,_,_,e⟩:=x;exact ⟨_,e⟩
 | fX ob u=>obtain ⟨e,_⟩:=x;exact ⟨ob,e⟩
 | KR ps=>exact ⟨_,x⟩
 | met f y=>exact ⟨_,x⟩
 | ext φ=>obtain ⟨_,e,_⟩:=x;exact e
theorem Inv.WK {t':Nat} (H':Hp) (I:Inv X pins σ H s) (k:∀ b u,s.heap.get? b=some u→h'.get? b=some u) (hs:∀ b u,H b=some u→H' b=some u) (hn:∀ b u,H' b=some u→H b=none→(∀ o,s.heap.get? b≠some o)∧cJ X.prog X.w H' h' b u) :
  Inv X pins σ H' { s with heap:=h',toks:=t' }:=by
 have hf:∀ b o,s.heap.get? b=some o→H b=none→H' b=none:=fun b o q n=>by
  cases e:H' b with
  | none=>rfl
  | some u=>exact absurd q ((hn b u e n).1 o)
 refine I.un ⟨fun b u q _ _ _=>k b u q,fun b u q _ _ _=>⟨u.slots,k b u q⟩,fun b u q n _=>hf b u q n,fun b u q _=>⟨u,k b u q⟩,fun b xs q=>hs b _ q,fun b o u q=>hs b _ q,fun b ps q=>⟨#[],by rw [hs b _ q];simp⟩⟩ fun b u e=>?_
 cases q:H b with
 | none=>exact (hn b u e q).2
 | some v =>
  have e2:=hs b v q
  rw [e] at e2
  cases e2
  exact (I.hok b _ q).stay (fun c z _ r=>k c z r) (fun c r=>hs c _ r) fun c xs r=>hs c _ r
def jg (p d:Addr):HO:=.ext fun h=>h.IsValuesView p d
theorem zX {P:Program}{w:World}{h:Heap}{p d:Addr} (hv:h.IsValuesView p d):cJ P w H h p (jg p d) :=
 ⟨hv,(let ⟨o,ho,_⟩:=hv;⟨o,ho⟩),fun h1 h2 ⟨o,ho,r⟩ k=>⟨o,k _ ho,r⟩⟩
theorem IV {a:Addr}{kvs:List (Key×V)} (I:Inv X pins σ H s) (e:H a=some (.dK kvs)):kvs.length≤sizeLine∧(a==sysModules)=false∧∃ vs ep,KV kvs vs∧s.heap.DictAt (bU X.prog X.w) a vs ep:=by
 obtain ⟨z,hs,vs,rel,o,es,ep,r⟩:=rQ I.hok e
 exact ⟨z,hs,vs,ep,rel,o,es,r⟩
def Ml (td:TE):TE:=fun σ H Q=>td σ H fun x H1=>∃ a kvs,x=.ref a∧H1 a=some (.dK kvs)∧∀ p,H1 p=none→Q (.ref p) (upd H1 p (jg p a))
theorem Ez {l:Expr}{tl:TE}{apos cpos:Pos} (hl:PE X l tl) (hbase:attributeBase l "values" X.env (eval l X.env)=eval l X.env:=by rfl) (hline:(apos.endLine==cpos.line)=true:=by rfl) :
  PE X (.Call (.Attribute l "values" apos) [] [] cpos) (Ml tl):=by
 intro pins s σ H Q I h
 refine wpAny_Call_method0_late hbase hline (cN (hl pins s σ H _ I h) fun v s1 ⟨x,H1,I1,r1,a,kvs,ex,ea,q⟩=>?_)
 subst ex
 cases r1
 obtain ⟨z,hs,vs,ep,rel,dat⟩:=IV I1 ea
 have hT:s1.TypeIs (.ref a) "dict":=dat.dictOf.typeIs
 obtain ⟨o,es,ho,hx,r⟩:=id dat
 refine ⟨"dict", "dict.values",PySem.F.plainAttrs_dict,PySem.F.slot_dict_values,PySem.F.type_dict_values,hT,(fun b e=>by injection e with e;subst e;exact ⟨o,ho,hx.2.1⟩),?_⟩
 refine Calls.callWith_builtin rfl (PySem.evalArgs_none ?_)
 refine call_meetsIn PySem.F.slot_dict_values hT PySem.F.entry_dict_values (PySem.F.args_dict_values_1 _) (meets_dict_values (bU X.prog X.w) a hs) ⟨⟨vs,dat.dictOf⟩,?_⟩
 exact ⟨.ref s1.heap.objs.size,_,I1.laid (o:=jg s1.heap.objs.size a) (t':=s1.toks) (fun b o q=>Heap.get?_push_of_some _ q) (Nat.le_refl _) (zX ⟨_,Heap.get?_push_size _ rfl,rfl,rfl⟩),rfl,q _ (I1.hok.fresh (Nat.le_refl _))⟩
theorem CP:∀ {κ:Type}{kvs:List (κ×V)}{vs:List (κ×Value)},KV kvs vs→Vals (kvs.map (·.2)) (vs.map (·.2))
 | _,[],[],_=>.nil
 | _,_::_,_::_,.cons h t=>.cons h.2 (CP t)
def SN:List V→Hp→VK→Prop:=fun xs H Q=>∃ v a kvs,xs=[.ref v]∧H v=some (jg v a)∧H a=some (.dK kvs)∧∀ p,H p=none→Q (.ref p) (upd H p (.lst (kvs.map (·.2))))
theorem zY (hin:X.A.handled=none):fM X (.type "list") SN:=by
 intro pins s σ H xs us Q I r h
 obtain ⟨v,a,kvs,rfl,hv,ha,q⟩:=h
 obtain ⟨u,rfl,ru⟩:=vals1 r
 cases ru
 obtain ⟨z,hs,vs,ep,rel,dat⟩:=IV I ha
 have vw:s.heap.IsValuesView v a:=(I.hok _ _ hv).1
 have hlen:vs.length=kvs.length:=rel.length.symm
 refine kdl_call (kdl_values (knd:=bU X.prog X.w) (kvs:=vs) (ep:=ep)) hin ⟨vw,dat⟩ (by omega) fun h' tk acc c hk hS hI=>?_
 have ev:acc.toList=vs.map (·.2):=kdl_vals_eq acc.toList (by rw [Array.length_toList,hI.1]) fun j w hj=>hI.2 j w (by simpa using hj)
 have hl:(kvs.map (·.2)).length≤sizeLine:=by rw [List.length_map];exact z
 have hv2:=CP rel
 rw [← ev] at hv2
 exact ⟨.ref s.heap.objs.size,_,I.laid (o:=.lst (kvs.map (·.2))) (t':=tk) hk (Nat.le_refl _) ⟨hl,acc.toList,c,hv2,hS⟩,rfl,q _ (I.hok.fresh (Nat.le_refl _))⟩
end
end L2
namespace L2
open PySem PySem.Spec PyProof.Rows PySem.W
end L2
namespace L2
open PySem
open AutoSeq1 (wpAny_loadPart')
section
variable {prog:Program}{w:World}{A:Around}{E:Value→Shared→Prop}{s:Shared}
end
end L2
namespace L2
open PySem PySem.Spec PyProof.Rows PySem.W
end L2
namespace L2
open PySem PySem.Spec PyProof.Rows PySem.W
section
variable {M:Model}{A:Around}{E:Value→Shared→Prop}{s:Shared}{env:Env}
end
section
variable {X:Cx}
end
end L2
namespace L2
open PySem PySem.W PySem.Calls PyProof.Rows
theorem oK:Slot "set_iterator" "__iter__" "set_iterator.__iter__":=Slot.of (owner:="set_iterator") (n:="__iter__") (by rw [typeLookup_type,builtinLookup_eq_fast];kernel_rfl) (by decide +kernel)
 (by decide +kernel) (by decide +kernel) (by first | exact .inl (by decide +kernel) | exact .inr (by decide +kernel)) (by rw [isSubtype_type];kernel_rfl)
theorem cP:Slot "set_iterator" "__next__" "set_iterator.__next__":=Slot.of (owner:="set_iterator") (n:="__next__") (by rw [typeLookup_type,builtinLookup_eq_fast];kernel_rfl) (by decide +kernel)
 (by decide +kernel) (by decide +kernel) (by first | exact .inl (by decide +kernel) | exact .inr (by decide +kernel)) (by rw [isSubtype_type];kernel_rfl)
theorem tV:entryFor table "set_iterator.__iter__"=some Builtin.«dict_keyiterator.__iter__»:=entryFor_alias (id':="dict_keyiterator.__iter__") (by kernel_rfl) rfl (by decide +kernel) (by kernel_rfl)
theorem gR:entryFor table "set_iterator.__next__"=some Builtin.«set_iterator.__next__»:=entryFor_of_tree (by kernel_rfl)
theorem w6:entryFor table "set.__iter__"=some Builtin.«frozenset.__iter__»:=entryFor_alias (id':="frozenset.__iter__") (by kernel_rfl) rfl (by decide +kernel) (by kernel_rfl)
theorem wg (a:Value):argsOk "set_iterator.__iter__" ⟨[a],[]⟩:=by unfold argsOk;kernel_rfl
theorem iQ (a:Value):argsOk "set_iterator.__next__" ⟨[a],[]⟩:=by unfold argsOk;kernel_rfl
theorem mZ {α:Type}:∀ (xs:List α) (i:Nat) (hi:i<xs.length),(xs[i]::xs.eraseIdx i).Perm xs
 | [],i,h=>by simp at h
 | x::xs,0,_=>List.Perm.refl _
 | x::xs,i+1,h=>by
  have:=mZ xs i (by simpa using h)
  exact (List.Perm.swap _ _ _).trans ((List.perm_cons x).mpr this)
section
variable {M:Model}{A:Around}{E:Value→Shared→Prop}
theorem zZ {s:Shared}{src:Source}{n:Nat}{Q:Nat→Shared→Prop} (hn:n≠0) (h:∀ i d,i<n→Q i { s with drawn:=d }):wpAny M A (choose src n) Q E s:=by
 intro Γ p hΓ
 unfold choose
 rw [Sem.wp_choose]
 refine ⟨hn,?_⟩
 exact wpAny_pure (h _ _ (Nat.mod_lt _ (Nat.pos_of_ne_zero hn))) Γ p hΓ
theorem yp {α:Type}:∀ (n:Nat) (xs:List α) (s:Shared) {Q:List α→Shared→Prop},xs.length=n→(∀ ys d,ys.Perm xs→Q ys { s with drawn:=d })→wpAny M A (drawOrder n xs) Q E s
 | 0,[],s,Q,_,h=>by
  unfold drawOrder
  exact wpAny_pure (h [] s.drawn (List.Perm.refl _))
 | 0,_::_,_,_,hl,_=>by simp at hl
 | _+1,[],_,_,hl,_=>by simp at hl
 | n+1,x::xs,s,Q,hl,h=>by
  unfold drawOrder
  refine wpAny_bind (zZ (by simp) fun i d hi=>?_)
  have e:(x::xs)[i]?=some (x::xs)[i]:=List.getElem?_eq_getElem hi
  rw [e]
  dsimp only
  refine wpAny_bind (yp n ((x::xs).eraseIdx i) { s with drawn:=d } (by rw [List.length_eraseIdx_of_lt hi];simpa using hl) fun ys d' hp=>?_)
  refine wpAny_pure (h _ d' ?_)
  exact ((List.perm_cons _).mpr hp).trans (mZ _ _ hi)
end
theorem CQ {α:Type} (next:Nat→Nat):∀ (fuel k:Nat) (left:List α) (out:Array α),left.length=fuel→((pickOrder.go next fuel k left out).toList).Perm (out.toList++left)
 | 0,_,[],out,_=>by unfold pickOrder.go;simp
 | 0,_,_::_,_,h=>by simp at h
 | _+1,_,[],_,h=>by simp at h
 | fuel+1,k,x::xs,out,h=>by
  unfold pickOrder.go
  have hi:next k % (x::xs).length<(x::xs).length:=Nat.mod_lt _ (by simp)
  have e:(x::xs)[next k % (x::xs).length]?=some (x::xs)[next k % (x::xs).length]:=List.getElem?_eq_getElem hi
  rw [e]
  dsimp only
  refine (CQ next fuel (k+1) _ _ (by rw [List.length_eraseIdx_of_lt hi];simpa using h)).trans ?_
  rw [Array.toList_push,List.append_assoc]
  exact (List.perm_append_left_iff _).mpr (mZ _ _ hi)
theorem pN {α:Type} (next:Nat→Nat) (xs:Array α):((pickOrder next xs).toList).Perm xs.toList:=by
 unfold pickOrder
 have:=CQ next xs.size 0 xs.toList #[] (by simp)
 simpa using this
structure cQ (w:World) (h:Heap) (a:Addr) (es:Array (Int×Value)) (ep:Nat) (t:SetTable):Prop where
 o:∃ o,h.get? a=some o∧o.ExactSet∧o.data=.set es ep t
 fits:t.fits es.size=true
 small:es.size<scanBound
 led:w.params.followText "set-order"=false→t.led=true
 plain:1<es.size→t.plain=false
theorem cQ.at {w:World}{h h':Heap}{a:Addr}{es:Array (Int×Value)}{ep:Nat}{t:SetTable} (x:cQ w h a es ep t) (k:∀ o,h.get? a=some o→h'.get? a=some o):cQ w h' a es ep t :=
 ⟨let ⟨o,ho,r⟩:=x.o;⟨o,k _ ho,r⟩,x.fits,x.small,x.led,x.plain⟩
theorem cQ.typeIs {w:World}{s:Shared}{a:Addr}{es:Array (Int×Value)}{ep:Nat}{t:SetTable} (x:cQ w s.heap a es ep t):s.TypeIs (.ref a) "set":=let ⟨o,ho,hx,_⟩:=x.o;⟨o,ho,hx.1⟩
theorem cQ.lt {w:World}{h:Heap}{a:Addr}{es:Array (Int×Value)}{ep:Nat}{t:SetTable} (x:cQ w h a es ep t):a<h.objs.size:=let ⟨_,ho,_⟩:=x.o;Heap.lt_size ho
section
variable {prog:Program}{w:World}{A:Around}{E:Value→Shared→Prop}
def EY (first:Value) (i:Nat) (a:Addr) (n ep:Nat):Obj:={ cls:=.type "set_iterator",data:=.fields #[first,.int i 0,.ref a,.int n 0,.int ep 0] }
inductive Mode (w:World) (a:Addr) (es:Array (Int×Value)) (ep:Nat) (t:SetTable):List Addr→(Nat→Heap→Value→Prop)→List Value→Prop
 | drawn (tp:Addr) (ps:List Nat):ps.Perm (List.range es.size)→Mode w a es ep t [tp] (fun _ h v=>v=.ref tp∧h.get? tp=some { cls:=.type "tuple",data:=.seq (ps.map fun (i:Nat)=>rawInt i).toArray }) (ps.map fun p=>(es.getD p (0,.none)).2)
 | text:w.params.followText "set-order"=true→Mode w a es ep t [] (fun _ _ v=>v=.int 0 0) ((pickOrder (w.params.setOrder a ep) es).toList.map (·.2))
 | one:w.params.followText "set-order"=false→es.size≤1→Mode w a es ep t [] (fun i _ v=>v=.int (if i=0 then 0 else ((t.place.getD 0 0+1:Nat):Int)) 0) (es.toList.map (·.2))
theorem yq {w:World}{a:Addr}{es:Array (Int×Value)}{ep:Nat}{t:SetTable}{tps:List Addr}{F:Nat→Heap→Value→Prop}{ord:List Value} (md:Mode w a es ep t tps F ord):ord.Perm (es.toList.map (·.2)):=by
 cases md with
 | drawn tp ps hp =>
  have h:=hp.map fun p=>(es.getD p (0,Value.none)).2
  have e:(List.range es.size).map (fun p=>(es.getD p (0,Value.none)).2)=es.toList.map (·.2):=by
   apply List.ext_getElem
   ·simp
   ·intro i h1 h2
    simp only [List.getElem_map,List.getElem_range]
    have hi:i<es.size:=by simpa using h2
    rw [Array.getD,dif_pos hi]
    simp
  rw [e] at h
  exact h
 | text bt=>exact (pN _ es).map _
 | one bt h1=>exact List.Perm.refl _
theorem IW {s:Shared}{a:Addr}{es:Array (Int×Value)}{ep:Nat}{t:SetTable}{Q:Value→Shared→Prop} (hs:cQ w s.heap a es ep t)
  (h:∀ (h':Heap) (d:Drawn) (it:Addr) (tps:List Addr) (F:Nat→Heap→Value→Prop) (ord:List Value) (first:Value),(∀ b o,s.heap.get? b=some o→h'.get? b=some o)→(∀ o,s.heap.get? it≠some o)→(∀ b∈tps,b≠it∧∀ o,s.heap.get? b≠some o)→Mode w a es ep t tps F ord→F 0 h' first→h'.get? it=some (EY first 0 a es.size ep)→Q (.ref it) { s with heap:=h',drawn:=d }) :
  wpAny (model prog w) A (pyIter (.ref a)) Q E s:=by
 obtain ⟨o,ho,hx,hd⟩:=hs.o
 refine wpAny_pyIter_slot hs.typeIs PySem.F.slot_set_iter (wpAny_call_entry PySem.F.slot_set_iter hs.typeIs w6 ?_ (PySem.F.args_set_iter_1 _))
 unfold Builtin.«frozenset.__iter__» Builtin.Frozenset.slot0 slotArgs
 simp only [List.isEmpty_nil,Bool.not_true,Bool.false_eq_true,↓reduceIte,bind_assoc,List.length_nil,bne_self_eq_false]
 unfold Builtin.Frozenset.addrOf Builtin.Frozenset.sizeOf
 refine wpAny_bind (wpAny_pure ?_)
 dsimp only
 refine wpAny_bind (wpAny_pure ?_)
 refine wpAny_bind (wpAny_bind (wpAny_setEntries_of ho hd hs.fits (wpAny_pure ?_)))
 have hset:∀ (Q':Bool→Shared→Prop),Q' (!w.params.followText "set-order"&&(!t.plain&&decide (es.size > 1))) s→wpAny (model prog w) A.in1 (setDrawn a) Q' E s:=fun Q' hq=>by
  unfold setDrawn
  refine wpAny_bind (wpAny_setState_of ho hd hs.fits ?_)
  dsimp only
  unfold setsByText
  refine wpAny_bind (wpAny_bind (wpAny_askSetting (wpAny_pure ?_)))
  exact wpAny_pure hq
 refine wpAny_bind (hset _ ?_)
 have Aa:∀ (first:Value) (h1:Heap) (d:Drawn) (tps:List Addr) (F:Nat→Heap→Value→Prop) (ord:List Value),(∀ b u,s.heap.get? b=some u→h1.get? b=some u)→(∀ b∈tps,b<h1.objs.size∧s.heap.objs.size≤b)→Mode w a es ep t tps F ord→(∀ h2,(∀ b u,h1.get? b=some u→h2.get? b=some u)→F 0 h2 first) →
   wpAny (model prog w) A.in1 (do
    let e ← setEpoch a
    let r ← newFields "set_iterator" [first,rawInt 0,Value.ref a,rawInt ((es.size:Nat):Int),rawInt ((e:Nat):Int)]
    ret r) (fun fin s'=>∃ v,fin=Fin.done (Flow.ret v)∧∃ T' r,s'.TypeIs v T'∧typeLookup (Value.type T') (Str.ofString "__next__")=pure (some r)∧Q v s') E { s with heap:=h1,drawn:=d }:=fun first h1 d tps F ord k1 ht md hF=>by
  refine wpAny_bind (wpAny_setEpoch_of (k1 _ _ ho) hd hs.fits ?_)
  unfold newFields
  refine wpAny_bind (wpAny_newObj_type ?_ (by size_fits))
  refine wpAny_pure ⟨_,rfl, "set_iterator",_,⟨_,Heap.get?_push_size _ rfl,rfl⟩,cP.lookup,?_⟩
  refine h _ d _ tps F ord first (fun b u q=>Heap.get?_push_of_some _ (k1 _ _ q)) (fun u q=>absurd (Heap.lt_size (k1 _ _ q)) (Nat.lt_irrefl _)) (fun b hb=>⟨Nat.ne_of_lt (ht b hb).1,fun u q=>absurd (Nat.lt_of_lt_of_le (Heap.lt_size q) (ht b hb).2) (Nat.lt_irrefl _)⟩) md (hF _ fun b u q=>Heap.get?_push_of_some _ q) (Heap.get?_push_size _ rfl)
 by_cases c:(!w.params.followText "set-order"&&(!t.plain&&decide (es.size > 1)))=true
 ·rw [if_pos c]
  simp only [Bool.and_eq_true,Bool.not_eq_true',decide_eq_true_eq] at c
  refine wpAny_bind (yp es.size (List.range es.size) s (by simp) fun ps d hp=>?_)
  refine wpAny_bind (wpAny_newTuple ?_ (by rw [List.length_map,hp.length_eq,List.length_range];exact Nat.le_of_lt (Nat.lt_of_lt_of_le hs.small (by rw [sizeLine_eq];decide))))
  exact Aa (.ref s.heap.objs.size) _ d _ _ _ (fun b u q=>Heap.get?_push_of_some _ q) (fun b hb=>by rw [List.mem_singleton.mp hb,size_push'];exact ⟨Nat.lt_succ_self _,Nat.le_refl _⟩) (.drawn s.heap.objs.size ps hp) fun h2 k2=>⟨rfl,k2 _ _ (Heap.get?_push_size _ rfl)⟩
 ·rw [if_neg c]
  refine wpAny_bind (wpAny_pure ?_)
  cases bt:w.params.followText "set-order" with
  | true=>exact Aa (rawInt 0) s.heap s.drawn [] _ _ (fun _ _ q=>q) (fun b hb=>by simp at hb) (.text bt) fun _ _=>rfl
  | false =>
   have hz:es.size≤1:=by
    rcases Nat.lt_or_ge 1 es.size with z | z
    ·exact absurd (by rw [bt,hs.plain z];simpa using z) c
    ·exact z
   exact Aa (rawInt 0) s.heap s.drawn [] _ _ (fun _ _ q=>q) (fun b hb=>by simp at hb) (.one bt hz) fun _ _=>rfl
theorem gq {s:Shared}{it a:Addr}{first:Value}{i n ep:Nat} (h:s.heap.get? it=some (EY first i a n ep)):s.TypeIs (.ref it) "set_iterator":=⟨_,h,rfl⟩
theorem yr {s:Shared}{R:PySem.Fin→Shared→Prop}{Q:Option Value→Shared→Prop} (hh:A.handled=none) (hQ:∀ h',(∀ b o,s.heap.get? b=some o→h'.get? b=some o)→Q none { s with heap:=h' }) :
  wpAny (model prog w) A.in1 (do let e ← newExc (Value.type "StopIteration") [];(raiseNew e:Sem PySem.Fin)) R (fun e s'=>wpAny (model prog w) A (do
    let b ← isInstance e (Value.type "StopIteration")
    if b=true then pure none else throw e) Q E s') s:=by
 refine wpAny_bind ?_
 simp only [newExc,newTuple]
 refine wpAny_bind (wpAny_newObj_type ?_ (by size_fits))
 refine wpAny_bind (m:=firstArgMember _ _) (wpAny_of_eq (a:=Value.none) (by first | rfl | (simp only [firstArgMember];rfl)) ?_)
 refine wpAny_newObj_type ?_ (by size_fits)
 simp only [raiseNew]
 refine wpAny_bind (wpAny_handled ?_)
 rw [show A.in1.handled=none from hh]
 refine wpAny_bind (wpAny_pure (wpAny_throw ?_))
 refine wpAny_bind (wpAny_isInstance (T:="StopIteration") (b:=true) ⟨_,Heap.get?_push_size _ rfl,rfl⟩ isSubtype_stop ?_)
 exact wpAny_pure (hQ _ fun b u q=>Heap.get?_push_of_some _ (Heap.get?_push_of_some _ q))
theorem wj {h:Heap}{it a:Addr}{first y:Value}{i n ep:Nat} (hi:h.get? it=some (EY first i a n ep)):(h.update it (Obj.mapFields (·.setIfInBounds 0 y))).get? it=some (EY y i a n ep)∧(h.update it (Obj.mapFields (·.setIfInBounds 1 (rawInt ((i:Int)+1))))).get? it=some (EY first (i+1) a n ep) :=
 ⟨Heap.get?_update_self _ hi rfl,by rw [Heap.get?_update_self _ hi rfl];rfl⟩
theorem yt {s:Shared}{it a:Addr}{es:Array (Int×Value)}{ep:Nat}{t:SetTable}{slot:Int}{tk:Tok}{i nx:Nat}{x:Value}{Q:Option Value→Shared→Prop} (hs:cQ w s.heap a es ep t) (hi:s.heap.get? it=some (EY (.int slot tk) i a es.size ep))
  (hn:∀ (E':Value→Shared→Prop) (Q':Option (Value×Nat)→Shared→Prop),Q' (some (x,nx)) s→wpAny (model prog w) A.in1 (setNext a slot.toNat i ep) Q' E' s)
  (hQ:∀ h',Heap.SameBut it s.heap h'→h'.get? it=some (EY (rawInt ((nx:Nat):Int)) (i+1) a es.size ep)→Q (some x) { s with heap:=h' }):wpAny (model prog w) A (pyNext (.ref it)) Q E s:=by
 obtain ⟨o,ho,hx,hd⟩:=hs.o
 unfold pyNext
 refine wpAny_bind (wpAny_attempt (wpAny_callSpecial?_slot (name:=Str.ofString "__next__") (gq hi) cP (wpAny_call_entry cP (gq hi) gR ?_ (iQ _))))
 unfold Builtin.«set_iterator.__next__»
 refine wpAny_bind (wpAny_pure ?_)
 refine wpAny_bind (wpAny_fieldsOf hi rfl ?_)
 dsimp only
 refine wpAny_bind (wpAny_setEntries_of ho hd hs.fits ?_)
 rw [if_neg (by simp)]
 refine wpAny_bind (hn _ _ ?_)
 dsimp only
 have h1:=(wj (y:=rawInt ((nx:Nat):Int)) hi).1
 have h2:=(wj (y:=rawInt 0) h1).2
 refine wpAny_bind (wpAny_setField hi rfl (by simp) ?_)
 refine wpAny_bind (wpAny_setField h1 rfl (by simp) ?_)
 exact wpAny_pure ⟨_,rfl,wpAny_pure (hQ _ ((Heap.SameBut.update ..).trans (Heap.SameBut.update ..)) h2)⟩
theorem CT {s:Shared}{it a:Addr}{es:Array (Int×Value)}{ep:Nat}{t:SetTable}{slot:Int}{tk:Tok}{i:Nat}{Q:Option Value→Shared→Prop} (hh:A.handled=none) (hs:cQ w s.heap a es ep t) (hi:s.heap.get? it=some (EY (.int slot tk) i a es.size ep))
  (hn:∀ (E':Value→Shared→Prop) (Q':Option (Value×Nat)→Shared→Prop),Q' none s→wpAny (model prog w) A.in1 (setNext a slot.toNat i ep) Q' E' s)
  (hQ:∀ h',(∀ b o,b≠it→s.heap.get? b=some o→h'.get? b=some o)→Q none { s with heap:=h' }):wpAny (model prog w) A (pyNext (.ref it)) Q E s:=by
 obtain ⟨o,ho,hx,hd⟩:=hs.o
 unfold pyNext
 refine wpAny_bind (wpAny_attempt (wpAny_callSpecial?_slot (name:=Str.ofString "__next__") (gq hi) cP (wpAny_call_entry cP (gq hi) gR ?_ (iQ _))))
 unfold Builtin.«set_iterator.__next__»
 refine wpAny_bind (wpAny_pure ?_)
 refine wpAny_bind (wpAny_fieldsOf hi rfl ?_)
 dsimp only
 refine wpAny_bind (wpAny_setEntries_of ho hd hs.fits ?_)
 rw [if_neg (by simp)]
 refine wpAny_bind (hn _ _ ?_)
 dsimp only
 refine wpAny_bind (wpAny_setField hi rfl (by simp) ?_)
 exact yr hh fun h' k=>hQ h' fun b u hb q=>k b u ((Heap.get?_update_ne _ _ _ _ hb).trans q)
theorem J0 {s:Shared}{it a tp:Addr}{es:Array (Int×Value)}{ep:Nat}{t:SetTable}{ps:List Nat}{i p:Nat}{e:Int×Value}{Q:Option Value→Shared→Prop} (hs:cQ w s.heap a es ep t) (hi:s.heap.get? it=some (EY (.ref tp) i a es.size ep))
  (ht:s.heap.get? tp=some { cls:=.type "tuple",data:=.seq (ps.map fun (i:Nat)=>rawInt i).toArray }) (hp:ps[i]?=some p) (he:es[p]?=some e)
  (hQ:∀ h',Heap.SameBut it s.heap h'→h'.get? it=some (EY (.ref tp) (i+1) a es.size ep)→Q (some e.2) { s with heap:=h' }):wpAny (model prog w) A (pyNext (.ref it)) Q E s:=by
 obtain ⟨o,ho,hx,hd⟩:=hs.o
 unfold pyNext
 refine wpAny_bind (wpAny_attempt (wpAny_callSpecial?_slot (name:=Str.ofString "__next__") (gq hi) cP (wpAny_call_entry cP (gq hi) gR ?_ (iQ _))))
 unfold Builtin.«set_iterator.__next__»
 refine wpAny_bind (wpAny_pure ?_)
 refine wpAny_bind (wpAny_fieldsOf hi rfl ?_)
 dsimp only
 refine wpAny_bind (wpAny_setEntries_of ho hd hs.fits ?_)
 rw [if_neg (by simp)]
 refine wpAny_bind ?_
 unfold seqItems?
 refine wpAny_bind (wpAny_load ht (wpAny_pure ?_))
 dsimp only
 have hpi:(ps.map fun (i:Nat)=>rawInt i).toArray[((i:Nat):Int).toNat]?=some (rawInt p):=by
  rw [Int.toNat_natCast]
  simp [hp]
 rw [hpi]
 dsimp only [rawInt]
 refine wpAny_bind ?_
 unfold setNextDrawn
 refine wpAny_bind (wpAny_setState_of ho hd hs.fits ?_)
 dsimp only
 rw [if_neg (by simp)]
 rw [Int.toNat_natCast,he]
 refine wpAny_pure ?_
 have h2:=(wj (y:=rawInt 0) hi).2
 refine wpAny_bind (wpAny_setField hi rfl (by simp) ?_)
 exact wpAny_pure ⟨_,rfl,wpAny_pure (hQ _ (Heap.SameBut.update ..) h2)⟩
theorem Mp {s:Shared}{it a tp:Addr}{es:Array (Int×Value)}{ep:Nat}{t:SetTable}{ps:List Nat}{i:Nat}{Q:Option Value→Shared→Prop} (hh:A.handled=none) (hs:cQ w s.heap a es ep t) (hi:s.heap.get? it=some (EY (.ref tp) i a es.size ep))
  (ht:s.heap.get? tp=some { cls:=.type "tuple",data:=.seq (ps.map fun (i:Nat)=>rawInt i).toArray }) (hp:ps[i]?=none)
  (hQ:∀ h',(∀ b o,b≠it→s.heap.get? b=some o→h'.get? b=some o)→Q none { s with heap:=h' }):wpAny (model prog w) A (pyNext (.ref it)) Q E s:=by
 obtain ⟨o,ho,hx,hd⟩:=hs.o
 unfold pyNext
 refine wpAny_bind (wpAny_attempt (wpAny_callSpecial?_slot (name:=Str.ofString "__next__") (gq hi) cP (wpAny_call_entry cP (gq hi) gR ?_ (iQ _))))
 unfold Builtin.«set_iterator.__next__»
 refine wpAny_bind (wpAny_pure ?_)
 refine wpAny_bind (wpAny_fieldsOf hi rfl ?_)
 dsimp only
 refine wpAny_bind (wpAny_setEntries_of ho hd hs.fits ?_)
 rw [if_neg (by simp)]
 refine wpAny_bind ?_
 unfold seqItems?
 refine wpAny_bind (wpAny_load ht (wpAny_pure ?_))
 dsimp only
 have hpi:(ps.map fun (i:Nat)=>rawInt i).toArray[((i:Nat):Int).toNat]?=none:=by
  rw [Int.toNat_natCast]
  simp
  simpa using hp
 rw [hpi]
 dsimp only
 have h1:=(wj (y:=rawInt 0) hi).1
 refine wpAny_bind (wpAny_setField hi rfl (by simp) ?_)
 refine wpAny_bind (wpAny_setField h1 rfl (by simp) ?_)
 exact yr hh fun h' k=>hQ h' fun b u hb q=>k b u ((Heap.get?_update_ne _ _ _ _ hb).trans ((Heap.get?_update_ne _ _ _ _ hb).trans q))
theorem yu {s:Shared}{a:Addr}{es:Array (Int×Value)}{ep slot i:Nat}{t:SetTable} (hs:cQ w s.heap a es ep t) (bt:w.params.followText "set-order"=true) (E':Value→Shared→Prop) (Q':Option (Value×Nat)→Shared→Prop)
  (h:Q' (((pickOrder (w.params.setOrder a ep) es)[i]?).map fun e=>(e.2,slot)) s):wpAny (model prog w) A (setNext a slot i ep) Q' E' s:=by
 obtain ⟨o,ho,hx,hd⟩:=hs.o
 unfold setNext
 refine wpAny_bind (wpAny_setState_of ho hd hs.fits ?_)
 dsimp only
 unfold setsByText
 refine wpAny_bind (wpAny_bind (wpAny_askSetting (wpAny_pure ?_)))
 dsimp only
 rw [show (model prog w).w.params.followText "set-order"=true from bt,if_pos rfl,if_neg (by simp)]
 refine wpAny_bind ?_
 unfold setWalk
 refine wpAny_bind (wpAny_setState_of ho hd hs.fits ?_)
 dsimp only
 unfold setsByText
 refine wpAny_bind (wpAny_bind (wpAny_askSetting (wpAny_pure ?_)))
 dsimp only
 rw [show (model prog w).w.params.followText "set-order"=true from bt,if_pos rfl]
 refine wpAny_bind (wpAny_askSetting (wpAny_pure ?_))
 exact wpAny_pure h
theorem CV {s:Shared}{a:Addr}{es:Array (Int×Value)}{ep slot i:Nat}{t:SetTable} (hs:cQ w s.heap a es ep t) (bt:w.params.followText "set-order"=false) (h1:es.size≤1) (E':Value→Shared→Prop) (Q':Option (Value×Nat)→Shared→Prop)
  (h:Q' (match es[SetTable.below t.place slot]?,t.place[SetTable.below t.place slot]? with | some (_,x),some j=>some (x,j+1) | _,_=>none) s):wpAny (model prog w) A (setNext a slot i ep) Q' E' s:=by
 obtain ⟨o,ho,hx,hd⟩:=hs.o
 unfold setNext
 refine wpAny_bind (wpAny_setState_of ho hd hs.fits ?_)
 dsimp only
 unfold setsByText
 refine wpAny_bind (wpAny_bind (wpAny_askSetting (wpAny_pure ?_)))
 dsimp only
 rw [show (model prog w).w.params.followText "set-order"=false from bt,if_neg Bool.false_ne_true]
 show wpAny _ _ (if (!t.plain&&decide (es.size > 1))=true then _ else _) _ _ _
 rw [if_neg (by rw [decide_eq_false (by omega),Bool.and_false];exact Bool.false_ne_true)]
 refine wpAny_bind ?_
 show wpAny _ _ (if (!t.led&&!es.isEmpty)=true then _ else _) _ _ _
 rw [if_neg (by rw [hs.led bt];exact Bool.false_ne_true)]
 refine wpAny_pure ?_
 exact wpAny_pure h
theorem uO {j:Nat}:SetTable.below #[j] 0=0∧SetTable.below #[j] (j+1)=1:=by
 constructor
 ·simp [SetTable.below,SetTable.below.go]
 ·simp [SetTable.below,SetTable.below.go]
theorem uP {t:SetTable} (h:t.fits 1=true):∃ j,t.place=#[j]:=by
 simp only [SetTable.fits,Bool.and_eq_true,beq_iff_eq] at h
 exact Array.size_eq_one_iff.mp h.1
theorem J1 {it a:Addr}{es:Array (Int×Value)}{ep:Nat}{t:SetTable}{tps:List Addr}{F:Nat→Heap→Value→Prop}{ord:List Value} (hh:A.handled=none) (hne:a≠it) (htp:∀ b∈tps,b≠it) (md:Mode w a es ep t tps F ord) :
  Walks prog w A it (it::a::tps) [it] es.size (fun i v=>ord[i]?=some v) (fun i h=>cQ w h a es ep t∧∃ first,F i h first∧h.get? it=some (EY first i a es.size ep)) where
 sub:=fun b hb=>by rw [List.mem_singleton.mp hb];exact List.mem_cons_self
 frame:=fun i h h' ⟨hs,first,hF,hi⟩ hk=>by
  refine ⟨hs.at fun o e=>hk a (by simp) o e,first,?_,hk it (by simp) _ hi⟩
  cases md with
  | drawn tp ps hp=>exact ⟨hF.1,hk tp (by simp) _ hF.2⟩
  | text bt=>exact hF
  | one bt h1=>exact hF
 item:=fun i s Q E hi ⟨hs,first,hF,hit⟩ hQ=>by
  cases md with
  | drawn tp ps hp =>
   obtain ⟨rfl,ht⟩:=hF
   have hl:ps.length=es.size:=by rw [hp.length_eq,List.length_range]
   have hil:i<ps.length:=by omega
   have hpm:ps[i]<es.size:=List.mem_range.mp (hp.mem_iff.mp (List.getElem_mem hil))
   refine J0 hs hit ht (List.getElem?_eq_getElem hil) (Array.getElem?_eq_getElem hpm) fun h' sb hi'=>?_
   have ht':=sb.extBut _ _ (htp tp (by simp)) ht
   refine hQ _ h' s.toks ?_ ⟨hs.at fun o e=>sb.extBut _ _ hne e,_,⟨rfl,ht'⟩,hi'⟩ fun b u hb e=>sb.extBut _ _ (fun z=>hb (by simp [z])) e
   rw [List.getElem?_map,List.getElem?_eq_getElem hil]
   show some (es.getD ps[i] (0,Value.none)).2=some es[ps[i]].2
   rw [Array.getD,dif_pos hpm]
   rfl
  | text bt =>
   subst hF
   have hl:(pickOrder (w.params.setOrder a ep) es).size=es.size:=by have:=(pN (w.params.setOrder a ep) es).length_eq;simpa using this
   have hil:i<(pickOrder (w.params.setOrder a ep) es).size:=by omega
   refine yt (x:=(pickOrder (w.params.setOrder a ep) es)[i].2) (nx:=0) hs hit (fun E' Q' q=>yu hs bt E' Q' (by rw [Array.getElem?_eq_getElem hil];exact q)) fun h' sb hi'=>?_
   refine hQ _ h' s.toks ?_ ⟨hs.at fun o e=>sb.extBut _ _ hne e,_,rfl,hi'⟩ fun b u hb e=>sb.extBut _ _ (fun z=>hb (by simp [z])) e
   rw [List.getElem?_map,Array.getElem?_toList,Array.getElem?_eq_getElem hil]
   rfl
  | one bt h1 =>
   obtain rfl:i=0:=by omega
   have hz:es.size=1:=by omega
   subst hF
   obtain ⟨j,hj⟩:=uP (by rw [← hz];exact hs.fits)
   refine yt (x:=es[0].2) (nx:=j+1) hs hit (fun E' Q' q=>CV hs bt h1 E' Q' ?_) fun h' sb hi'=>?_
   ·show Q' (match es[SetTable.below t.place 0]?,t.place[SetTable.below t.place 0]? with | some (_,x),some j=>some (x,j+1) | _,_=>none) s
    rw [hj,uO.1,Array.getElem?_eq_getElem hi]
    exact q
   ·refine hQ _ h' s.toks ?_ ⟨hs.at fun o e=>sb.extBut _ _ hne e,_,?_,hi'⟩ fun b u hb e=>sb.extBut _ _ (fun z=>hb (by simp [z])) e
    ·rw [List.getElem?_map,Array.getElem?_toList,Array.getElem?_eq_getElem hi]
     rfl
    ·show rawInt ((j+1:Nat):Int)=Value.int (if 0+1=0 then 0 else ((t.place.getD 0 0+1:Nat):Int)) 0
     rw [hj,if_neg (by omega)]
     rfl
 done:=fun s Q E ⟨hs,first,hF,hit⟩ hQ=>by
  have fin:∀ h',(∀ b o,b≠it→s.heap.get? b=some o→h'.get? b=some o)→Q none { s with heap:=h' }:=fun h' k=>hQ h' s.toks fun b o hb e=>k b o (fun z=>hb (by simp [z])) e
  cases md with
  | drawn tp ps hp =>
   obtain ⟨rfl,ht⟩:=hF
   have hl:ps.length=es.size:=by rw [hp.length_eq,List.length_range]
   exact Mp hh hs hit ht (List.getElem?_eq_none (by omega)) fin
  | text bt =>
   subst hF
   have hl:(pickOrder (w.params.setOrder a ep) es).size=es.size:=by have:=(pN (w.params.setOrder a ep) es).length_eq;simpa using this
   exact CT hh hs hit (fun E' Q' q=>yu hs bt E' Q' (by rw [Array.getElem?_eq_none (by omega)];exact q)) fin
  | one bt h1 =>
   subst hF
   refine CT hh hs hit (fun E' Q' q=>CV hs bt h1 E' Q' ?_) fin
   by_cases hz:es.size=0
   ·rw [Array.getElem?_eq_none (by omega)]
    exact q
   ·have hz1:es.size=1:=by omega
    obtain ⟨j,hj⟩:=uP (by rw [← hz1];exact hs.fits)
    rw [if_neg hz,hj,Int.toNat_natCast]
    show Q' (match es[SetTable.below #[j] (j+1)]?,(#[j]:Array Nat)[SetTable.below #[j] (j+1)]? with | some (_,x),some j=>some (x,j+1) | _,_=>none) s
    rw [uO.2,Array.getElem?_eq_none (by omega)]
    exact q
 self:=fun i s Q E ⟨_,first,_,hit⟩ hQ=>by
  refine wpAny_pyIter_slot (gq hit) oK (wpAny_call_entry oK (gq hit) tV ?_ (wg _))
  show wpAny _ _ (ret (.ref it)) _ _ s
  exact wpAny_pure ⟨_,rfl, "set_iterator",_,gq hit,cP.lookup,hQ⟩
end
end L2
namespace L2
open PySem PySem.W PySem.Calls PyProof.Rows
section
variable {prog:Program}{w:World}{A:Around}{E:Value→Shared→Prop}
theorem Mq {s:Shared}{a:Addr}{Q:Bool→Shared→Prop} (ht:s.TypeIs (.ref a) "set") (q:Q false s):wpAny (model prog w) A (Builtin.List.listLengthHint (.ref a)) Q E s:=by
 unfold Builtin.List.listLengthHint
 refine wpAny_bind (wpAny_specialOf ht PySem.F.slot_set_len.lookup ?_)
 generalize en:("set.__len__" : String)=WL
 wp_delta
 rw [show splitId WL=some ("set", "__len__") from by subst en;decide +kernel]
 subst en
 refine wpAny_bind (wpAny_isInstance (T:="set") (b:=true) ht (by rw [isSubtype_type];kernel_rfl) ?_)
 refine wpAny_ite_split (fun z=>absurd z (by decide)) (fun _=>?_)
 refine wpAny_ite_split (fun _=>?_) (fun z=>absurd (by decide +kernel) z)
 exact wpAny_bind (wpAny_typeOf ht (wpAny_pure q))
theorem Fb {ord:List Value}{acc:Array Value}{n:Nat} (h:ItemsOf (fun i v=>ord[i]?=some v) acc n) (hl:ord.length=n):acc.toList=ord:=by
 apply List.ext_getElem?
 intro i
 by_cases hi:i<acc.toList.length
 ·rw [List.getElem?_eq_getElem hi]
  have:=h.2 i acc.toList[i] (by rw [← Array.getElem?_toList];exact List.getElem?_eq_getElem hi)
  exact this.symm
 ·have hz:acc.toList.length=n:=by rw [Array.length_toList];exact h.1
  rw [List.getElem?_eq_none (by omega),List.getElem?_eq_none (by omega)]
set_option maxHeartbeats 1000000 in
theorem yw {s:Shared}{a:Addr}{es:Array (Int×Value)}{ep:Nat}{t:SetTable}{R:List Value→Shared→Prop} (hh:A.handled=none) (hs:cQ w s.heap a es ep t)
  (h:∀ (h':Heap) (tk:Nat) (d:Drawn) (vs:List Value),(∀ b o,s.heap.get? b=some o→h'.get? b=some o)→vs.Perm (es.toList.map (·.2))→R vs { s with heap:=h',toks:=tk,drawn:=d }):wpAny (model prog w) A (collect (.ref a)) R E s:=by
 have hlt:=hs.lt
 have zs:es.size≤sizeLine:=Nat.le_of_lt (Nat.lt_of_lt_of_le hs.small (by rw [sizeLine_eq];decide))
 unfold collect
 refine wpAny_bind (wpAny_runValue (codeAny_builtin entry_proto_collect' ?_))
 rw [Around.under_plainId PySem.F.plain_proto_collect _]
 show wpAny _ A.in1 (newList [] >>= fun l=>again (.builtin "list.__iadd__" ⟨[l,.ref a],[]⟩)) _ _ s
 refine wpAny_bind (wpAny_newObj_type ?_)
 refine wpAny_pure ⟨plainId_quiet PySem.F.plain_list_iadd _,codeAny_builtin entry_list_iadd' ?_⟩
 rw [Around.under_plainId PySem.F.plain_list_iadd _]
 have l0:(s.heap.push { cls:=.type "list",data:=.seq ([]:List Value).toArray }).get? s.heap.objs.size=some { cls:=.type "list",data:=.seq #[] 0 }:=Heap.get?_push_size _ rfl
 have hs0:cQ w (s.heap.push { cls:=.type "list",data:=.seq ([]:List Value).toArray }) a es ep t:=hs.at fun o e=>Heap.get?_push_of_some _ e
 show wpAny _ A.in1 (Builtin.List.listExtendWith (.ref s.heap.objs.size) (.ref a) (.ref s.heap.objs.size)) _ _ _
 unfold Builtin.List.listExtendWith
 refine wpAny_bind (wpAny_typeOf (T:="set") hs0.typeIs ?_)
 have WM:Builtin.List.listSameRef (.ref s.heap.objs.size) (.ref a)=false:=by simp [Builtin.List.listSameRef,Nat.ne_of_gt hlt]
 simp only [WM,show (Value.type "set"==Value.type "list")=false by decide,show (Value.type "set"==Value.type "tuple")=false by decide,Bool.or_false,Bool.false_eq_true,if_false]
 refine wpAny_bind (IW (s:={ s with heap:=s.heap.push { cls:=.type "list",data:=.seq ([]:List Value).toArray } }) hs0 fun h1 d it tps F ord first k1 Vi ntp md hF hit=>?_)
 have nS:s.heap.objs.size≠it:=fun z=>Vi _ (by rw [← z];exact l0)
 have l1:=k1 _ _ l0
 have hs1:cQ w h1 a es ep t:=hs0.at fun o e=>k1 _ _ e
 have na:a≠it:=fun z=>by obtain ⟨o,ho,_⟩:=hs0.o;exact Vi o (by rw [← z];exact ho)
 have W:=J1 (prog:=prog) (A:=A.in1) (it:=it) hh na (fun b hb=>(ntp b hb).1) md
 have ol:ord.length=es.size:=by have:=(yq md).length_eq;simpa using this
 have key:∀ (Rr:Result→Shared→Prop),(∀ (h':Heap) (tk':Nat) (acc:Array Value) (c':Nat),(∀ b o,s.heap.get? b=some o→h'.get? b=some o)→h'.get? s.heap.objs.size=some { cls:=.type "list",dict:=none,data:=.seq acc c',slots:=#[] }→acc.toList.Perm (es.toList.map (·.2))→Rr (.ok (.ret (.ref s.heap.objs.size))) { s with heap:=h',toks:=tk',drawn:=d }) →
   ∀ (h2:Heap) (c tk:Nat),(∀ b o,b≠s.heap.objs.size→h1.get? b=some o→h2.get? b=some o)→h2.get? s.heap.objs.size=some { cls:=.type "list",data:=.seq #[] c } →
   codeAny (model prog w) A (.builtin "list.extend.loop" ⟨[.ref s.heap.objs.size,.ref it,.ref s.heap.objs.size],[]⟩) Rr { s with heap:=h2,toks:=tk,drawn:=d }:=fun Rr hR h2 c tk k2 l2=>by
  have old:∀ b o,s.heap.get? b=some o→h2.get? b=some o∧b≠s.heap.objs.size:=fun b o q=>by
   have hb:b≠s.heap.objs.size:=Nat.ne_of_lt (Heap.lt_size q)
   exact ⟨k2 b o hb (k1 _ _ (Heap.get?_push_of_some _ q)),hb⟩
  have WQ:∀ b∈tps,b≠s.heap.objs.size:=fun b hb z=>(ntp b hb).2 { cls:=.type "list",data:=.seq #[] 0 } (z ▸ l0)
  have st:cQ w h2 a es ep t∧∃ first,F 0 h2 first∧h2.get? it=some (EY first 0 a es.size ep):=by
   refine W.frame 0 h1 h2 ⟨hs1,first,hF,hit⟩ fun b hb o q=>k2 b o ?_ q
   rcases List.mem_cons.mp hb with rfl | hb
   ·exact Ne.symm nS
   rcases List.mem_cons.mp hb with rfl | hb
   ·exact Nat.ne_of_lt hlt
   ·exact WQ b hb
  have nf:s.heap.objs.size∉it::a::tps:=fun hm=>by
   rcases List.mem_cons.mp hm with z | hm
   ·exact nS z
   rcases List.mem_cons.mp hm with z | hm
   ·exact Nat.ne_of_gt hlt z
   ·exact WQ _ hm rfl
  refine codeAny_extend_loopS W.toS zs s.heap.objs.size nf _ es.size 0 _ #[] c rfl (Nat.zero_le _) st l2 (ItemsOf.nil _) fun s' acc c' hm hS hacc=>?_
  rw [Moved.eq_with hm]
  refine hR s'.heap s'.toks acc c' (fun b o q=>hm.heap b o (fun hmem=>?_) (old b o q).1) hS (by rw [Fb hacc ol];exact yq md)
  rcases List.mem_cons.mp hmem with z | hmem
  ·exact (old b o q).2 z
  ·exact Vi o (by rw [← List.mem_singleton.mp hmem];exact Heap.get?_push_of_some _ q)
 refine wpAny_bind (wpAny_holding (Mq hs1.typeIs ?_))
 refine wpAny_ite_split (fun _=>?b1) (fun _=>wpAny_pure ⟨plainId_quiet PySem.F.plain_extend_loop _,key _ (fun h' tk' acc c' kp hS hp=>?b2) h1 0 _ (fun b o _ q=>q) l1⟩)
 case b2 =>
  show wpAny _ A (load s.heap.objs.size >>= _) _ _ _
  exact wpAny_bind (wpAny_load hS (wpAny_pure (h h' tk' d _ kp hp)))
 refine wpAny_bind (wpAny_rule ?_)
 refine wpAny_bind ?_
 show wpAny _ _ (updateSeq s.heap.objs.size (·.push .none) >>= fun _=>updateSeq s.heap.objs.size (·.pop)) _ _ _
 refine wpAny_bind (wpAny_updateSeq l1 rfl ?_)
 have l2:=Heap.get?_update_self (Obj.mapSeq (·.push Value.none)) l1 rfl
 refine wpAny_updateSeq (hz:=by seq_fits) l2 rfl ?_
 have l3:=Heap.get?_update_self (Obj.mapSeq (·.pop)) l2 rfl
 refine wpAny_pure ⟨plainId_quiet PySem.F.plain_extend_loop _,key _ (fun h' tk' acc c' kp hS hp=>?b3) _ _ _ (fun b o hb q=>?b4) l3⟩
 case b3 =>
  show wpAny _ A (load s.heap.objs.size >>= _) _ _ _
  exact wpAny_bind (wpAny_load hS (wpAny_pure (h h' tk' d _ kp hp)))
 case b4=>exact (Heap.get?_update_other _ _ (Ne.symm hb)).trans ((Heap.get?_update_other _ _ (Ne.symm hb)).trans q)
end
end L2
namespace L2
open PySem PySem.W PySem.Calls PyProof.Rows
theorem J2 (t:SetTable) (n:Nat):(t.orStandIn n).led=t.led:=by
 unfold SetTable.orStandIn
 split <;> rfl
theorem Fd (t:SetTable) (es:Array (Int×Value)) (hv:Int) (x:Value):(layNew t es hv x).2.1.led=t.led:=by
 unfold layNew
 split
 ·rename_i slot wd _
  exact J2 _ _
 ·rfl
theorem yx (t:SetTable) (es:Array (Int×Value)) (n:Nat):(relayAll t es n).2.1.led=t.led∧(t.plain=false→(relayAll t es n).2.1.plain=false):=by
 unfold relayAll
 split
 ·rename_i t' order heq
  dsimp only
  split
  ·unfold SetTable.relaid SetTable.laid at heq
   simp only [Option.bind_eq_bind,Option.bind_eq_some_iff] at heq
   obtain ⟨ow,_,e⟩:=heq
   have e':=Option.some.inj e
   rw [← (Prod.mk.inj e').1]
   exact ⟨rfl,fun h=>h⟩
  ·exact ⟨rfl,fun _=>rfl⟩
 ·exact ⟨rfl,fun _=>rfl⟩
section
variable {prog:Program}{w:World}{A:Around}{E:Value→Shared→Prop}
theorem uQ {h:Heap}{a:Addr}{es es':Array (Int×Value)}{ep:Nat}{t t':SetTable} (hs:cQ w h a es ep t) (hf:t'.fits es'.size=true) (hb:es'.size<scanBound) (hl:t'.led=t.led) (hp:t'.plain=false):cQ w (h.update a (Obj.putSet es' t')) a es' (ep+1) t':=by
 obtain ⟨o,ho,hx,hd⟩:=hs.o
 have g:=Heap.get?_update_self (Obj.putSet es' t') ho (by rw [putSet_of es' t' hd];rfl)
 rw [putSet_of es' t' hd] at g
 exact ⟨⟨_,g,hx,rfl⟩,hf,hb,fun b=>by rw [hl];exact hs.led b,fun _=>hp⟩
set_option maxHeartbeats 1000000 in
theorem Mr {s:Shared}{a:Addr}{es:Array (Int×Value)}{ep:Nat}{t:SetTable}{z:Str}{tk:Tok}{Q:Bool→Shared→Prop} (hs:cQ w s.heap a es ep t) (hel:ElemsOf (strKind prog w) es.toList) (room:es.size+1<scanBound)
  (h:∀ (h':Heap) (es':Array (Int×Value)) (ep':Nat) (t':SetTable) (b:Bool),Heap.SameBut a s.heap h'→cQ w h' a es' ep' t'→ElemsOf (strKind prog w) es'.toList →
   ((∃ e∈es.toList,(strKind prog w).is z e.2=true)∧es'=es∨(∀ e∈es.toList,(strKind prog w).is z e.2=false)∧es'.toList.Perm (es.toList++[((strKind prog w).hash z,.str z tk)]))→Q b { s with heap:=h' }) :
  wpAny (model prog w) A (setAddHashed a (.str z tk) ((strKind prog w).hash z)) Q E s:=by
 obtain ⟨o,ho,hx,hd⟩:=hs.o
 have hkey:(strKind prog w).is z (.str z tk)=true:=strKind_is prog w z tk
 have hsc:(Value.str z tk).scannable=true:=rfl
 unfold setAddHashed setAddHashedIn
 refine wpAny_holding (wpAny_bind (wpAny_setState_of ho hd hs.fits ?_))
 dsimp only
 rw [byScan_of hsc hs.small hel,if_pos rfl]
 unfold setAddByScan
 refine wpAny_bind (wpAny_bind (wpAny_rule (wpAny_bind (wpAny_setScan_of hkey ho hd hs.fits hel ?_))))
 cases hr:List.findIdx? (fun e=>(strKind prog w).is z e.2) es.toList with
 | some j =>
  dsimp only
  obtain ⟨hj,hpj,_⟩:=List.findIdx?_eq_some_iff_getElem.mp hr
  refine wpAny_pure (wpAny_pure ?_)
  exact h s.heap es ep t _ (Heap.SameBut.refl a s.heap) hs hel (.inl ⟨⟨_,List.getElem_mem hj,hpj⟩,rfl⟩)
 | none =>
  dsimp only
  have none_:∀ e∈es.toList,(strKind prog w).is z e.2=false:=fun e he=>by simpa using List.findIdx?_eq_none_iff.mp hr e he
  have pm:=layNew_perm t es ((strKind prog w).hash z) (.str z tk)
  have ft:=layNew_fits t es ((strKind prog w).hash z) (.str z tk)
  have ld:=Fd t es ((strKind prog w).hash z) (.str z tk)
  generalize layNew t es ((strKind prog w).hash z) (.str z tk)=L at pm ft ld ⊢
  obtain ⟨es1,t1,dummy,gave⟩:=L
  dsimp only at pm ft ld ⊢
  rw [Array.toList_push] at pm
  have el1:ElemsOf (strKind prog w) es1.toList:=(hel.push hkey hsc).perm pm
  have sz1:es1.size=es.size+1:=by rw [← Array.length_toList,pm.length_eq,List.length_append,Array.length_toList];rfl
  have way:∀ (b:Bool) {s₁:Shared}{Q':Unit→Shared→Prop}{E':Value→Shared→Prop},Q' () s₁→wpAny (model prog w) A (match b with | true=>rule "set.scan.the-table-gave-way" | false=>pure ()) Q' E' s₁:=fun b s₁ Q' E' q=>by
   cases b
   ·exact wpAny_pure q
   ·exact wpAny_rule q
  refine wpAny_bind (way _ ?_)
  have tail:∀ t2:SetTable,t2.fits es1.size=true→t2.led=t.led→t2.plain=false→wpAny (model prog w) A (do
    storeSet a es1 t2
    if (!dummy&&t2.tooFull)=true then do
      (match (relayAll t2 es1 (SetTable.grown es1.size)).2.2 with | true=>rule "set.scan.the-table-gave-way" | false=>pure ())
      storeSet a (relayAll t2 es1 (SetTable.grown es1.size)).1 (relayAll t2 es1 (SetTable.grown es1.size)).2.1
      pure (some true)
     else pure (some true)) (fun r s'=>wpAny (model prog w) A (match r with | some added=>pure added | none=>setAddHashedIn a (.str z tk) ((strKind prog w).hash z) 99999) Q E s') E s:=fun t2 f2 l2 p2=>by
   have r2:=uQ (es':=es1) (t':=t2) hs f2 (by omega) l2 p2
   refine wpAny_bind (wpAny_storeSet_of ho hd ?_ (fits_of_scanBound (by omega)))
   have b2:=Heap.SameBut.update s.heap a (Obj.putSet es1 t2)
   split
   ·have pr:=relayAll_perm t2 es1 (SetTable.grown es1.size)
    have fr:=relayAll_fits t2 es1 (SetTable.grown es1.size)
    have kr:=yx t2 es1 (SetTable.grown es1.size)
    generalize relayAll t2 es1 (SetTable.grown es1.size)=L at pr fr kr ⊢
    obtain ⟨es3,t3,gave3⟩:=L
    dsimp only at pr fr kr ⊢
    have sz3:es3.size=es1.size:=by rw [← Array.length_toList,pr.length_eq,Array.length_toList]
    obtain ⟨o2,ho2,_,hd2⟩:=r2.o
    refine wpAny_bind (way _ (wpAny_bind (wpAny_storeSet_of ho2 hd2 ?_ (fits_of_scanBound (by omega)))))
    refine wpAny_pure (wpAny_pure (h _ es3 _ t3 _ (b2.trans (Heap.SameBut.update _ a _)) (uQ r2 fr (by omega) kr.1 (kr.2 p2)) (el1.perm pr) (.inr ⟨none_,pr.trans pm⟩)))
   ·exact wpAny_pure (wpAny_pure (h _ es1 _ t2 _ b2 r2 el1 (.inr ⟨none_,pm⟩)))
  cases hpl:t1.plain with
  | true =>
   rw [if_pos rfl]
   refine wpAny_bind ?_
   rw [hashByValue_scannable 8 hsc]
   refine wpAny_pure ?_
   exact tail { t1 with plain:=false } (SetTable.fits_plain_off ft) ld rfl
  | false =>
   rw [if_neg Bool.false_ne_true]
   refine wpAny_bind (wpAny_pure ?_)
   exact tail t1 ft ld hpl
end
end L2
namespace L2
open PySem PySem.Spec PySem.W PySem.Calls PyProof.Rows
def txt:Value→Str
 | .str z _=>z
 | _=>Str.empty
def ig (P:Program) (w:World) (a:Addr) (zs:List Str):HO:=.ext fun h=>∃ es ep t,cQ w h a es ep t∧ElemsOf (strKind P w) es.toList∧(es.toList.map fun e=>txt e.2).Perm zs∧zs.Nodup
theorem CW {P:Program}{w:World}{H:Hp}{h:Heap}{a:Addr}{zs:List Str}{es:Array (Int×Value)}{ep:Nat}{t:SetTable} (r:cQ w h a es ep t) (el:ElemsOf (strKind P w) es.toList) (pm:(es.toList.map fun e=>txt e.2).Perm zs) (nd:zs.Nodup):cJ P w H h a (ig P w a zs):=by
 refine ⟨⟨es,ep,t,r,el,pm,nd⟩,?_,fun h1 h2 p k=>?_⟩
 ·obtain ⟨o,ho,_⟩:=r.o
  exact ⟨o,ho⟩
 ·obtain ⟨es,ep,t,r,x⟩:=p
  exact ⟨es,ep,t,r.at fun o e=>k _ e,x⟩
section
variable {X:Cx}{pins:List (Addr×Obj)}{σ:St}{H:Hp}{s:Shared}
theorem Inv.drew (I:Inv X pins σ H s) (d:Drawn):Inv X pins σ H { s with drawn:=d } :=
 I.step (h':=s.heap) (H':=H) (g':=s.gens) (t':=s.toks) (d':=d) (ch:=[]) (fun b hb=>by simp at hb) (fun b o _ _ _ e _=>e) (fun b o _ _ _ e _=>⟨o.slots,e⟩) (fun b o _ e n=>n) (fun b o _ e=>⟨o,e⟩) (fun b xs e=>e) (fun b u xs e=>e) (fun b ps e=>⟨#[],by rw [e];simp⟩) (fun m hm=>hm) I.hok I.bare
theorem Mt {P:Program}{w:World}{l:List (Int×Value)} (h:ElemsOf (strKind P w) l):∀ v∈l.map (·.2),∃ t,v=.str (txt v) t:=fun v hv=>by
 obtain ⟨e,he,rfl⟩:=List.mem_map.mp hv
 obtain ⟨⟨k,hk,_⟩,_⟩:=h e he
 obtain ⟨t,ht⟩:=Value.isStrOf_shape hk
 exact ⟨t,by rw [ht];rfl⟩
def J3 (P:Program) (w:World):List V→Hp→VK→Prop:=fun xs H Q=>∃ a zs,xs=[.ref a]∧H a=some (ig P w a zs)∧zs.length<64∧∀ (l:Addr) (ys:List Str),H l=none→ys.Perm zs→ys.Pairwise (fun x y=>x.cps.toList<y.cps.toList)→Q (.ref l) (upd H l (.lst (ys.map V.str)))
theorem yC {es:Array (Int×Value)}{zs:List Str} (h:(es.toList.map fun e=>txt e.2).Perm zs):es.size=zs.length:=by have:=h.length_eq;simpa using this
set_option maxHeartbeats 1000000 in
theorem oM (hin:X.A.handled=none):fM X (.builtin "sorted") (J3 X.prog X.w):=by
 intro pins s σ H xs us Q I r h
 obtain ⟨a,zs,rfl,ha,h64,q⟩:=h
 obtain ⟨u,rfl,ru⟩:=vals1 r
 cases ru
 obtain ⟨⟨es,ep,t,raw,el,pm,nd⟩,_⟩:=I.hok _ _ ha
 have hz:=yC pm
 refine Ey (yw (E:=fun _ _=>False) hin raw fun h1 tk d vs k1 pv=>?_)
 have lv:vs.length=zs.length:=by rw [pv.length_eq,List.length_map,Array.length_toList,hz]
 have str:∀ v∈vs,∃ t,v=.str (txt v) t:=fun v hv=>Mt el v (pv.mem_iff.mp hv)
 have pz:(vs.map txt).Perm zs:=by
  refine (pv.map txt).trans ?_
  rw [List.map_map]
  exact pm
 have ndv:(vs.map txt).Nodup:=pz.nodup_iff.mpr nd
 have at_:∀ i (hi:i<vs.length),∃ t,vs.getD i Value.none=.str (txt vs[i]) t:=fun i hi=>by
  obtain ⟨t,ht⟩:=str vs[i] (List.getElem_mem hi)
  refine ⟨t,?_⟩
  rw [List.getD_eq_getElem?_getD,List.getElem?_eq_getElem hi]
  exact ht
 have gT:∀ i (hi:i<vs.length),txt (vs.getD i Value.none)=txt vs[i]:=fun i hi=>by rw [List.getD_eq_getElem?_getD,List.getElem?_eq_getElem hi];rfl
 refine ⟨by omega,fun i j=>decide ((txt (vs.getD i Value.none)).cps.toList<(txt (vs.getD j Value.none)).cps.toList),oneType',⟨fun i j k _ _ _ x y=>?_,fun i j hi hj hij c=>?_⟩,fun h2 s' R _ hR=>?_,fun i j s' C hi hj hij _ hC=>?_,fun p tk2 h2 e hP hU k2 hS=>?_⟩
 ·exact decide_eq_true (List.lt_trans (of_decide_eq_true x) (of_decide_eq_true y))
 ·have c':=of_decide_eq_false c
  rw [gT i hi,gT j hj] at c' ⊢
  have ne:txt vs[i]≠txt vs[j]:=by
   have pw:=List.pairwise_iff_getElem.mp ndv
   have li:i<(vs.map txt).length:=by rw [List.length_map];exact hi
   have lj:j<(vs.map txt).length:=by rw [List.length_map];exact hj
   rcases Nat.lt_or_gt_of_ne hij with g | g
   ·have:=pw i j li lj g;simpa using this
   ·have:=pw j i lj li g;intro z;exact this (by simpa using z.symm)
  refine decide_eq_true ?_
  rcases List.le_iff_lt_or_eq.mp (List.not_lt.mp c') with z | z
  ·exact z
  ·exact absurd (qK z.symm) ne
 ·refine kas_kind (T:=Value.type "str") h2 (fun v hv=>?_) (by decide) (by rfl) hR
  obtain ⟨t,ht⟩:=str v hv
  rw [ht]
  exact fun A Q E s _ q=>wpAny_pure q
 ·obtain ⟨t1,e1⟩:=at_ i hi
  obtain ⟨t2,e2⟩:=at_ j hj
  have g:=hC s'.toks
  dsimp only at g
  rw [e1,e2] at g ⊢
  exact kas_lt_str g
 ·have lp:p.toList.length=vs.length:=by rw [Array.length_toList];exact hP.size
  have pmv:(p.toList.map fun i=>vs.getD i Value.none).Perm vs:=by
   have q1:p.toList.Perm (List.range vs.length):=by have:=Array.perm_iff_toList_perm.mp hP;simpa using this
   have q2:=q1.map fun i=>vs.getD i Value.none
   have ro:=uN vs
   have e0:((List.range vs.length).toArray.toList.map fun i=>vs.getD i Value.none)=(List.range vs.length).map fun i=>vs.getD i Value.none:=by simp
   rw [e0] at ro
   rw [ro] at q2
   exact q2
  have hv:Vals (((p.toList.map fun i=>vs.getD i Value.none).map txt).map V.str) (p.toList.map fun i=>vs.getD i Value.none):=by
   generalize hw:(p.toList.map fun i=>vs.getD i Value.none)=ws at pmv
   have sw:∀ v∈ws,∃ t,v=.str (txt v) t:=fun v hv=>str v (pmv.mem_iff.mp hv)
   clear hw pmv hS
   induction ws with
   | nil=>exact .nil
   | cons x ws ih =>
    obtain ⟨t,ht⟩:=sw x List.mem_cons_self
    exact .cons ⟨t,ht⟩ (ih fun v hv=>sw v (List.mem_cons_of_mem _ hv))
  have gl:∀ o,s.heap.get? h1.objs.size≠some o:=fun o g=>absurd (Heap.lt_size (k1 _ _ g)) (Nat.lt_irrefl _)
  have hn:H h1.objs.size=none:=by
   cases g:H h1.objs.size with
   | none=>rfl
   | some u =>
    obtain ⟨ob,g2⟩:=(I.hok _ _ g).obj
    exact absurd g2 (gl ob)
  refine ⟨.ref h1.objs.size,upd H h1.objs.size (.lst (((p.toList.map fun i=>vs.getD i Value.none).map txt).map V.str)),(I.drew d).WK (t':=tk2) _ (fun b u g=>k2 b u (k1 b u g)) (fun b u g=>by rw [ao (aH g hn)];exact g) (fun b u g n=>?_),rfl,q _ _ hn ?_ ?_⟩
  ·by_cases hb:b=h1.objs.size
   ·subst hb
    rw [ak] at g
    cases g
    exact ⟨gl,by rw [List.length_map,List.length_map,List.length_map,lp,sizeLine_eq];omega,_,e,hv,hS⟩
   ·rw [ao hb,n] at g
    cases g
  ·exact (pmv.map txt).trans pz
  ·rw [List.pairwise_iff_getElem]
   intro i j hi hj hij
   rw [List.length_map,List.length_map] at hi hj
   simp only [List.getElem_map]
   have m1:p.toList[i]=pat p i:=by
    have hs:i<p.size:=by rw [← Array.length_toList];exact hi
    unfold pat
    rw [Array.getD,dif_pos hs]
    simp
   have m2:p.toList[j]=pat p j:=by
    have hs:j<p.size:=by rw [← Array.length_toList];exact hj
    unfold pat
    rw [Array.getD,dif_pos hs]
    simp
   rw [m1,m2]
   exact of_decide_eq_true (hU i j hij (by omega))
end
end L2
namespace L2
open PySem PySem.Spec PySem.W PySem.Calls PyProof.Rows
def jN (zs:List Str) (z:Str):List Str:=if z∈zs then zs else zs++[z]
theorem Ab {zs:List Str}{z:Str} (h:zs.Nodup):(jN zs z).Nodup:=by
 unfold jN
 split
 ·exact h
 ·rename_i q
  rw [List.nodup_append]
  refine ⟨h,by simp,fun a ha b hb=>?_⟩
  rw [List.mem_singleton.mp hb]
  exact fun e=>q (by rw [← e];exact ha)
theorem J4 {zs:List Str}{z:Str}:(jN zs z).length≤zs.length+1:=by
 unfold jN
 split
 ·omega
 ·simp
def jq (l:List Str):List Str:=l.foldl jN []
theorem uR (l:List Str) (z:Str):jq (l++[z])=jN (jq l) z:=by unfold jq;rw [List.foldl_append];rfl
theorem oN (l:List Str):(jq l).length≤l.length:=by
 have g:∀ (l:List Str) (a:List Str),(l.foldl jN a).length≤a.length+l.length:=by
  intro l
  induction l with
  | nil=>intro a;exact Nat.le_refl _
  | cons x r ih =>
   intro a
   rw [List.foldl_cons,List.length_cons]
   have h1:=ih (jN a x)
   have h2:=J4 (zs:=a) (z:=x)
   omega
 have:=g l []
 unfold jq
 simpa using this
def jr (P:Program) (w:World) (h:Heap) (a:Addr) (zs:List Str):Prop:=∃ es ep t,cQ w h a es ep t∧ElemsOf (strKind P w) es.toList∧(es.toList.map fun e=>txt e.2).Perm zs∧zs.Nodup
theorem jr.at {P:Program}{w:World}{h h':Heap}{a:Addr}{zs:List Str} (x:jr P w h a zs) (k:∀ o,h.get? a=some o→h'.get? a=some o):jr P w h' a zs:=by
 obtain ⟨es,ep,t,r,q⟩:=x
 exact ⟨es,ep,t,r.at k,q⟩
theorem jr.typeIs {P:Program}{w:World}{s:Shared}{a:Addr}{zs:List Str} (x:jr P w s.heap a zs):s.TypeIs (.ref a) "set":=let ⟨_,_,_,r,_⟩:=x;r.typeIs
section
variable {prog:Program}{w:World}{A:Around}{E:Value→Shared→Prop}{s:Shared}
theorem Ja {l:List (Int×Value)} (h:ElemsOf (strKind prog w) l) {z:Str}{e:Int×Value} (he:e∈l):(strKind prog w).is z e.2=true↔txt e.2=z:=by
 obtain ⟨⟨k,hk,_⟩,_⟩:=h e he
 obtain ⟨t,ht⟩:=Value.isStrOf_shape hk
 rw [ht]
 constructor
 ·intro q
  have q':Value.isStrOf z (Value.str k t)=true:=q
  obtain ⟨t',ht'⟩:=Value.isStrOf_shape q'
  injection ht' with h1 h2
 ·intro q
  have e:k=z:=q
  subst e
  exact strKind_is prog w k t
theorem WR {a:Addr}{zs:List Str}{z:Str}{tk:Tok}{Q:Bool→Shared→Prop} (hs:jr prog w s.heap a zs) (room:zs.length+1<scanBound)
  (h:∀ h' b,Heap.SameBut a s.heap h'→jr prog w h' a (jN zs z)→Q b { s with heap:=h' }):wpAny (model prog w) A (setAddHashed a (.str z tk) ((strKind prog w).hash z)) Q E s:=by
 obtain ⟨es,ep,t,r,el,pm,nd⟩:=hs
 have hz:=yC pm
 refine Mr r el (by omega) fun h' es' ep' t' b sb r' el' q=>h h' b sb ⟨es',ep',t',r',el',?_,Ab nd⟩
 rcases q with ⟨⟨e,he,q⟩,rfl⟩ | ⟨no,pm'⟩
 ·have hm:z∈zs:=pm.mem_iff.mp (List.mem_map.mpr ⟨e,he,(Ja el he).mp q⟩)
  unfold jN
  rw [if_pos hm]
  exact pm
 ·have hm:z∉zs:=fun c=>by
   obtain ⟨e,he,q⟩:=List.mem_map.mp (pm.mem_iff.mpr c)
   have:=(Ja el he).mpr q
   rw [no e he] at this
   cases this
  unfold jN
  rw [if_neg hm]
  refine (pm'.map fun e=>txt e.2).trans ?_
  rw [List.map_append]
  exact pm.append_right _
theorem Jb {a:Addr}{zs:List Str}{z:Str}{tk:Tok}{Q:Bool→Shared→Prop} (hs:jr prog w s.heap a zs) (room:zs.length+1<scanBound)
  (h:∀ h' b,Heap.SameBut a s.heap h'→jr prog w h' a (jN zs z)→Q b { s with heap:=h',toks:=s.toks+1 }):wpAny (model prog w) A (setAdd a (.str z tk)) Q E s:=by
 unfold setAdd
 refine wpAny_holding (wpAny_bind ((strKind prog w).pyHash (k:=z) (strKind_is prog w z tk) ?_))
 exact WR (s:={ s with toks:=s.toks+1 }) hs room h
theorem Fe {a:Addr}{zs:List Str}{z:Str}{tk:Tok}{Q:Value→Shared→Prop} (hs:jr prog w s.heap a zs) (room:zs.length+1<scanBound)
  (h:∀ h',Heap.SameBut a s.heap h'→jr prog w h' a (jN zs z)→Q .none { s with heap:=h',toks:=s.toks+1 }):wpAny (model prog w) A (call (.builtin "set.add") [.ref a,.str z tk]) Q E s:=by
 refine wpAny_call_entry PySem.F.slot_set_add hs.typeIs PySem.F.entry_set_add ?_ (PySem.F.args_set_add_2 _ _)
 unfold Builtin.«set.add» Builtin.Frozenset.oneOther
 simp only [List.isEmpty_nil,bind_assoc]
 unfold Builtin.Frozenset.addrOf
 refine wpAny_bind (wpAny_pure ?_)
 try dsimp only
 refine wpAny_bind (wpAny_pure ?_)
 try dsimp only
 refine wpAny_bind (Jb hs room fun h' b sb hT=>?_)
 exact wpAny_pure ⟨_,rfl,h h' sb hT⟩
def dG (w:World):Obj:={ cls:=.type "set",dict:=none,data:=.set #[] 0 (.fresh 0 0 (!w.params.followText "set-order")) }
theorem CZ {h:Heap}{a:Addr} (e:h.get? a=some (dG w)):jr prog w h a []:=by
 refine ⟨#[],0,_,⟨⟨_,e,⟨rfl,rfl,rfl⟩,rfl⟩,by rfl,by decide,fun b=>?_,fun z=>absurd z (by simp)⟩,fun e he=>by simp at he,List.Perm.refl _,List.nodup_nil⟩
 show (!w.params.followText "set-order")=true
 rw [b];rfl
theorem Jc {Q:Value→Shared→Prop} (h:Q (.ref s.heap.objs.size) { s with heap:=s.heap.push (dG w) }):wpAny (model prog w) A (newSet (.type "set")) Q E s:=by
 unfold newSet setsByText
 refine wpAny_bind (wpAny_bind (wpAny_askSetting (wpAny_pure ?_)))
 dsimp only [newObj]
 exact wpAny_bind (wpAny_alloc (wpAny_pure h))
theorem Ac (zs:List Str) (i:Nat):(jq (zs.take i)).length≤zs.length:=Nat.le_trans (oN _) (by rw [List.length_take];omega)
variable {R:Result→Shared→Prop}{I:Addr}{fp wr:List Addr}{G:Array GenState→Array GenState→Prop}{n:Nat}{P:Nat→Value→Prop}{St:Nat→Shared→Prop}
theorem Ae (W:WalksS prog w A.in1 I fp wr G n P St) (S:Addr) (hSf:S∉fp) (zs:List Str) (hn:zs.length=n) (hval:∀ i v,P i v→∃ z t,zs[i]?=some z∧v=.str z t) (hb:n+1<scanBound) :
  ∀ (k i:Nat) (s:Shared),n - i=k→i≤n→St i s→jr prog w s.heap S (jq (zs.take i))→(∀ s',Moved (S::wr) G s s'→jr prog w s'.heap S (jq zs)→R (.ok (.ret .none)) s') →
   codeAny (model prog w) A (.builtin "set.update.loop" ⟨[.ref S,.ref I],[]⟩) R s:=by
 have hSw:S∉wr:=fun h=>hSf (W.sub _ h)
 have sub:∀ b∈wr,b∈S::wr:=fun b hb=>List.mem_cons_of_mem _ hb
 intro k
 induction k with
 | zero =>
  intro i s hk hi st hS hR
  have hin:i=n:=by omega
  subst hin
  refine codeAny_builtin PyProof.Rows.F.entry_set_update_loop ?_
  rw [Around.under_plainId PyProof.Rows.F.plain_set_update_loop _]
  show wpAny _ A.in1 (pyNext (.ref I) >>= _) _ _ s
  refine wpAny_bind (W.done s _ _ st fun s' hm=>?_)
  rw [← hn,List.take_length] at hS
  exact wpAny_pure (hR s' (hm.mono sub) (hS.at fun o e=>hm.heap S _ hSw e))
 | succ k ih =>
  intro i s hk hi st hS hR
  have hlt:i<n:=by omega
  refine codeAny_builtin PyProof.Rows.F.entry_set_update_loop ?_
  rw [Around.under_plainId PyProof.Rows.F.plain_set_update_loop _]
  show wpAny _ A.in1 (pyNext (.ref I) >>= _) _ _ s
  refine wpAny_bind (W.item i s _ _ hlt st fun v s' hP st' hm=>?_)
  obtain ⟨z,t,hz,rfl⟩:=hval i v hP
  have hS':=hS.at fun o e=>hm.heap S _ hSw e
  show wpAny _ A.in1 (holding [Value.str z t] (setAdd S (.str z t)) >>= _) _ _ s'
  have tb:=Ac zs i
  refine wpAny_bind (wpAny_holding (Jb hS' (by omega) fun h' b sb hT=>?_))
  rw [← uR] at hT
  have e1:zs.take i++[z]=zs.take (i+1):=by rw [List.take_add_one,hz];rfl
  rw [e1] at hT
  refine wpAny_pure ⟨plainId_quiet PyProof.Rows.F.plain_set_update_loop _,ih (i+1) _ (by omega) hlt (W.frame _ s' _ _ st' (Nat.le_succ _) fun b hb o e=>?_) hT fun s2 hm2 hS2=>?_⟩
  ·rw [sb.2 b (fun h:b=S=>hSf (by rw [← h];exact hb))];exact e
  ·refine hR s2 (Moved.trans W.gtrans ((hm.mono sub).then_heap (Nat.le_succ _) fun b o hb e=>?_) hm2) hS2
   rw [sb.2 b (fun h:b=S=>hb (by rw [h];exact List.mem_cons_self))];exact e
end
section
variable {prog:Program}{w:World}{A:Around}{E:Value→Shared→Prop}{s:Shared}
theorem Mu (a:Value) {Q₁:Value→Shared→Prop} (h:Q₁ (.ref s.heap.objs.size) { s with heap:=s.heap.push (dG w) }) :
  codeAny (model prog w) A (.call (.builtin "set.__new__") ⟨[.type "set",a],[]⟩) (wants Q₁ E) s:=by
 refine codeAny_of_tree ?_
 show wpAny _ A.in1 (do checkBuiltinCall "set.__new__" ⟨[.type "set",a],[]⟩;again (.builtin "set.__new__" ⟨[.type "set",a],[]⟩)) _ _ s
 refine wpAny_bind (wpAny_of_eq (PySem.F.newCall_set_1 a) (wpAny_pure ⟨plainId_quiet PySem.F.plain_set_new _,codeAny_builtin PySem.F.entry_set_new ?_⟩))
 rw [Around.under_plainId PySem.F.plain_set_new _]
 unfold Builtin.«set.__new__» Builtin.Frozenset.newClass
 have hsub:=sub_set_self
 obtain ⟨hp,g,d,tk,os⟩:=s
 dsimp only
 wp_walk
 refine wpAny_askSetting (wpAny_pure ?_)
 dsimp only
 simp only [newObj]
 exact wpAny_bind (wpAny_alloc (wpAny_pure (wpAny_pure h)))
set_option maxRecDepth 100000 in
set_option maxHeartbeats 3200000 in
theorem Fg {l:Addr}{its:List Value}{zs:List Str}{Q:Value→Shared→Prop} (hh:A.handled=none) (hl:s.heap.IsList l its.toArray) (hi:StrsAre its zs) (hb:zs.length+1<scanBound)
  (h:∀ (h':Heap) (tk:Nat),jr prog w h' s.heap.objs.size (jq zs)→(∀ b o,s.heap.get? b=some o→h'.get? b=some o)→Q (.ref s.heap.objs.size) { s with heap:=h',toks:=tk }) :
  wpAny (model prog w) A (call (.type "set") [.ref l]) Q E s:=by
 obtain ⟨c,tl,hmro⟩:=PySem.F.called_set.mro
 have m1:=PySem.F.called_set.made
 have m2:=PySem.F.called_set.sub
 refine wpAny_call (codeAny_of_tree ?_)
 show wpAny (model prog w) _ (callAny (.type "set") ⟨[.ref l],[]⟩) _ _ _
 refine wpAny_pure ⟨Code.quiet_builtin _ (by decide +kernel),codeAny_builtin PySem.F.entry_type_call ?_⟩
 rw [Around.under_plain (weight_type_call_type "set" [.ref l] []) rfl]
 have m3:=PySem.F.called_set.notType
 have m4:=PySem.F.called_set.canCreate
 have m5:=PySem.F.typeCall_set_1 (.ref l)
 repeat (any_goals (first | assumption | wp_step))
 refine codeAny_mono (Mu (.ref l) (E:=E) (Q₁:=fun obj s₁=>obj=.ref s.heap.objs.size∧s₁={ s with heap:=s.heap.push (dG w) }) ⟨rfl,rfl⟩) fun r s₁ hr=>?_
 rcases r with e | fl
 ·exact hr
 rcases fl with _ | _ | _ | obj
 rotate_right
 ·obtain ⟨rfl,rfl⟩:=hr
  have hS:(s.heap.push (dG w)).get? s.heap.objs.size=some (dG w):=Heap.get?_push_size _ rfl
  have hT:Shared.TypeIs { s with heap:=s.heap.push (dG w) } (.ref s.heap.objs.size) "set":=⟨_,hS,rfl⟩
  have i1:=PySem.F.called_set.init.lookup
  have i2:=PySem.F.called_set.init.bind (.ref s.heap.objs.size)
  repeat (any_goals (first | assumption | wp_step))
  refine codeAny_mono (codeAny_call_builtin (R:=wants (fun r s₂=>r=.none∧∃ h' tk,s₂={ s with heap:=h',toks:=tk }∧jr prog w h' s.heap.objs.size (jq zs)∧(∀ b o,s.heap.get? b=some o→h'.get? b=some o)) E) PySem.F.called_set.init.plain PySem.F.entry_set_init (check_set_init_1 hT ?_)) fun r₂ s₂ hr₂=>?_
  ·obtain ⟨ol,hol,hcl,nl,hdl⟩:=hl
   obtain ⟨ocls,odict,odata,oslots⟩:=ol
   simp only at hcl hdl
   subst hcl;subst hdl
   have hol':(s.heap.push (dG w)).get? l=some { cls:=.type "list",dict:=odict,data:=.seq its.toArray nl,slots:=oslots }:=Heap.get?_push_of_some _ hol
   have u1:=PySem.F.sub_list_set
   have u2:=PySem.F.sub_list_frozenset
   have u3:(Value.type "list"==Value.type "dict")=false:=by decide
   have hl1:(s.heap.push (dG w)).IsList l its.toArray:=⟨_,hol',rfl,nl,rfl⟩
   unfold Builtin.«set.__init__» noKeywords Builtin.Frozenset.updateFrom
   generalize hPI:pyIter=PI
   wp_walk
   subst hPI
   refine wpAny_pyIter_list hl1 ?_
   refine wpAny_bind (wpAny_runValue ?_)
   have lS:l<s.heap.objs.size:=Heap.lt_size hol
   have h3:A.in1.in1.in1.handled=none:=by simp [hh]
   have ne_:l≠(s.heap.push (dG w)).objs.size:=by
    rw [Heap.size_push];exact Nat.ne_of_lt (Nat.lt_succ_of_lt lS)
   have nS:s.heap.objs.size∉[(s.heap.push (dG w)).objs.size,l]:=by
    rw [Heap.size_push];simp only [List.mem_cons,List.mem_singleton,List.not_mem_nil,or_false,not_or]
    exact ⟨Nat.ne_of_lt (Nat.lt_succ_self _),Nat.ne_of_gt lS⟩
   have hz:its.length=zs.length:=hi.length
   have hval:∀ (i:Nat) (v:Value),its.toArray[i]?=some v→∃ z t,zs[i]?=some z∧v=.str z t:=fun i v hv=>by
    have hv':its[i]?=some v:=by simpa using hv
    clear hv hol hol' hl1 hz hb h
    induction hi generalizing i with
    | nil=>simp at hv'
    | cons y t r ih =>
     cases i with
     | zero=>simp only [List.getElem?_cons_zero,Option.some.injEq] at hv';exact ⟨y,t,rfl,hv'.symm⟩
     | succ j=>exact ih j (by simpa using hv')
   refine Ae ((Walks.list h3 _ l ne_ its.toArray).toS) s.heap.objs.size nS zs (by simp [hz]) hval (by simpa [hz] using hb) _ 0 _ rfl (Nat.zero_le _) ⟨⟨_,Heap.get?_push_size _ rfl,rfl,rfl⟩,(hl1.push _)⟩ ?hS0 ?hR
   case hS0=>exact CZ (Heap.get?_push_of_some _ hS)
   case hR =>
    intro s' hm hS'
    obtain ⟨h',g',d',tk',os'⟩:=s'
    have eg:g'=s.gens:=hm.gens
    have ed:d'=s.drawn:=hm.drawn
    have eo:os'=s.os:=hm.os
    subst eg;subst ed;subst eo
    refine wpAny_pure ?_
    show wpAny _ _ (ret Value.none) _ _ _
    refine wpAny_pure ⟨rfl,h',tk',rfl,hS',fun b o e=>?_⟩
    have hlt:=Heap.lt_size e
    have b1:b≠s.heap.objs.size:=Nat.ne_of_lt hlt
    have b2:b≠(s.heap.push (dG w)).objs.size:=by
     rw [Heap.size_push];exact Nat.ne_of_lt (Nat.lt_succ_of_lt hlt)
    exact hm.heap b o (by simp only [List.mem_cons,List.mem_singleton,List.not_mem_nil,or_false,not_or];exact ⟨b1,b2⟩) (Heap.get?_push_of_some _ (Heap.get?_push_of_some _ e))
  ·rcases r₂ with e | fl₂
   ·exact hr₂
   rcases fl₂ with _ | _ | _ | r
   rotate_right
   ·obtain ⟨rfl,h',tk,rfl,hS',hk'⟩:=hr₂
    repeat (any_goals (first | assumption | wp_step))
    exact h _ _ hS' hk'
   all_goals exact hr₂.elim
 all_goals exact hr.elim
def SQ (X:Cx):List V→Hp→VK→Prop:=fun xs H Q=>∃ p ss,xs=[.ref p]∧bR X.K H p (ss.map V.str)∧ss.length<1000∧∀ l,H l=none→Q (.ref l) (upd H l (ig X.prog X.w l (jq ss)))
theorem Af {X:Cx} (hin:X.A.handled=none):fM X (.type "set") (SQ X):=by
 intro pins s σ H xs us Q I r h
 obtain ⟨p,ss,rfl,hq,hl,q⟩:=h
 obtain ⟨u,rfl,ru⟩:=vals1 r
 cases ru
 obtain ⟨its,rv,pl,hz⟩:=I.list hq
 refine Fg hin pl.isList (w5 rv) (by unfold scanBound;omega) fun h' tk hT hk=>?_
 obtain ⟨es,ep,t,r0,el,pm,nd⟩:=hT
 exact ⟨.ref s.heap.objs.size,_,I.laid (o:=ig X.prog X.w s.heap.objs.size (jq ss)) (t':=tk) hk (Nat.le_refl _) (CW r0 el pm nd),rfl,q _ (I.hok.fresh (Nat.le_refl _))⟩
end
end L2
namespace PySem
theorem jt:entryFor table "dict_valueiterator.__iter__"=some Builtin.«dict_keyiterator.__iter__» :=
 entryFor_alias (id':="dict_keyiterator.__iter__") (by kernel_rfl) rfl (by decide +kernel) (by kernel_rfl)
end PySem
namespace L2
open PySem PySem.Spec PyProof.Rows PySem.W
def Itv (a:Addr) (o:Obj) (kvs:List (Key×V)):It:=⟨fun i H=>H a=some (.fX o (.dK kvs))∧i<kvs.length,fun i H v H'=>H'=H∧∃ kv,kvs[i]?=some kv∧v=kv.2,fun i H=>H a=some (.fX o (.dK kvs))∧kvs.length≤i⟩
section
variable {X:Cx}{pins:List (Addr×Obj)}{σ:St}{H:Hp}{s:Shared}{a:Addr}{kvs:List (Key×V)}{o:Obj}
theorem yD {P:Program}{w:World}{K:PySem.W.Frag}{tg:Expr} (it:Addr) {es:Array DictEntry}{ep:Nat} (hd:o.data=.dict es ep) :
  Turn P w K tg (Itv a o kvs) [it] it (fun i h=>h.IsValIter it a i kvs.length ep) where
 mem:=by simp
 obj:=fun i h st b hb=>by
  have e:b=it:=by simpa using hb
  subst e
  obtain ⟨ob,e,c,d⟩:=st
  exact ⟨ob,e,fun v z=>by rw [d] at z;cases z⟩
 keep:=fun i h h' st k=>by
  obtain ⟨ob,e,r⟩:=st
  exact ⟨ob,k it (by simp) ob e,r⟩
 item:=by
  intro X hP hw hK hc i pins s σ H E I hf st hg
  subst hP hw hK
  obtain ⟨f0,f1,f2,f3,f4,f5⟩:=hf it (by simp)
  obtain ⟨hg1,hg2⟩:=hg
  obtain ⟨hs,vs,rel,dat⟩:=pL I hg1 hd
  have hl:kvs.length=vs.length:=rel.length
  obtain ⟨u,hu,ru⟩:=rel.at (List.getElem?_eq_getElem hg2)
  rw [hl] at st
  refine wpAny_pyNext_values_item st dat hu fun h' hit' hsb=>?_
  have I1:Inv X pins σ H { s with heap:=h' }:=I.turned (t':=s.toks) (fun b ob hb e=>hsb.extBut b ob hb e) f0 f1 f3 f4 f5
  obtain ⟨ob,e,cc,d⟩:=id hit'
  refine ⟨_,rfl,xg (s:={ s with heap:=h' }) e cc d (by decide) ⟨(kvs[i]).2,H,I1,ru,⟨rfl,_,List.getElem?_eq_getElem hg2,rfl⟩,?_,fun b hb=>(hf b hb).1⟩⟩
  rw [hl];exact hit'
 done:=by
  intro X hP hw hK hc i pins s σ H E I hf st hg
  subst hP hw hK
  obtain ⟨f0,f1,f2,f3,f4,f5⟩:=hf it (by simp)
  obtain ⟨hg1,hg2⟩:=hg
  obtain ⟨hs,vs,rel,dat⟩:=pL I hg1 hd
  have hl:kvs.length=vs.length:=rel.length
  rw [hl] at st hg2
  exact wpAny_pyNext_values_end (I.ok.hd hc) st dat (List.getElem?_eq_none hg2) fun h' eb=>⟨rfl,I.turned (t':=s.toks) (fun b ob hb e=>eb b ob hb e) f0 f1 f3 f4 f5⟩
 self:=fun A i s Q E st h=>by
  have hT:s.TypeIs (.ref it) "dict_valueiterator":=st.typeIs
  refine wpAny_pyIter_slot hT PySem.F.slot_dict_valueiterator_iter (wpAny_call_entry PySem.F.slot_dict_valueiterator_iter hT PySem.jt ?_ (PySem.F.args_dict_valueiterator_iter_1 _))
  show wpAny _ _ (ret (.ref it)) _ _ s
  exact wpAny_pure ⟨_,rfl, "dict_valueiterator",_,hT,PySem.F.slot_dict_valueiterator_next.lookup,h⟩
def WT (tl:TE):TI:=fun σ H R=>tl σ H fun x H1=>∃ a o kvs,x=.ref a∧H1 a=some (.fX o (.dK kvs))∧R (Itv a o kvs) H1
theorem Mv {tg l:Expr}{tl:TE}{apos cpos:Pos} (hl:PE X l tl) (hbase:attributeBase l "values" X.env (eval l X.env)=eval l X.env:=by rfl) (hline:(apos.endLine==cpos.line)=true:=by rfl) :
  PI X tg (.Call (.Attribute l "values" apos) [] [] cpos) (WT tl):=by
 intro pins s σ H R I h
 refine wpAny_Call_method0_late hbase hline (cN (hl pins s σ H _ I h) fun v s1 ⟨x,H1,I1,r1,a,o,kvs,ex,ea,q⟩=>?_)
 subst ex
 cases r1
 obtain ⟨ho,z,hs,vs,rel,o',es,ep,ho',hx,hdd,r⟩:=id (I1.hok _ _ ea)
 rw [ho] at ho'
 cases ho'
 have dat:s1.heap.DictAt (bU X.prog X.w) a vs ep:=⟨o,es,ho,hx,hdd,r⟩
 have hT:s1.TypeIs (.ref a) "dict":=dat.dictOf.typeIs
 refine ⟨"dict", "dict.values",PySem.F.plainAttrs_dict,PySem.F.slot_dict_values,PySem.F.type_dict_values,hT,(fun b e=>by injection e with e;subst e;exact ⟨o,ho,hx.2.1⟩),?_⟩
 refine Calls.callWith_builtin rfl (PySem.evalArgs_none ?_)
 refine call_meetsIn PySem.F.slot_dict_values hT PySem.F.entry_dict_values (PySem.F.args_dict_values_1 _) (meets_dict_values (bU X.prog X.w) a hs) ⟨⟨vs,dat.dictOf⟩,?_⟩
 have hlen:kvs.length=vs.length:=rel.length
 have I2:Inv X pins σ H1 { s1 with heap:=s1.heap.push { cls:=.type "dict_values",data:=.fields #[.ref a] } }:=I1.kept (t':=s1.toks) fun b o e=>Heap.get?_push_of_some _ e
 have Sy:(s1.heap.push { cls:=.type "dict_values",data:=.fields #[.ref a] }).DictAt (bU X.prog X.w) a vs ep:=dat.at' fun o e=>Heap.get?_push_of_some _ e
 show wpAny _ _ (pyIter (.ref s1.heap.objs.size)) _ _ _
 refine wpAny_pyIter_values (s:={ s1 with heap:=s1.heap.push { cls:=.type "dict_values",data:=.fields #[.ref a] } }) ⟨_,Heap.get?_push_size _ rfl,rfl,rfl⟩ Sy ?_
 refine ⟨_,[_],_,_,H1,rfl,I2.kept (t':=s1.toks) fun b o e=>Heap.get?_push_of_some _ e,yD _ hdd,⟨_,Heap.get?_push_size _ rfl,rfl,by rw [hlen];rfl⟩,fun b hb=>?_,q⟩
 have e:=List.mem_singleton.mp hb
 subst e
 exact I2.tR (Nat.le_refl _) (I2.hok.fresh (Nat.le_refl _))
end
theorem wk (elt target iter:Expr) (ifs:List Expr) (scope:Scope) (pos:Pos) (it acc:Value) (env:Env) :
  compTurn (.SetComp elt [⟨target,iter,ifs,0⟩] scope pos) 0 it acc env=(do
   standAt iter.pos
   match ← pyNext it with
   | none=>pure (.done .next)
   | some v =>
    letOwnedTupleGo target it v
    assign target env v
    let mut fine:=true
    for d in ifs do
     if fine then fine ← isTrue d env (eval d env)
    if fine then
     (do let u ← eval elt env;standAt elt.pos;let _ ← call (.builtin "set.add") [acc,u])
    again (.compLoop (.SetComp elt [⟨target,iter,ifs,0⟩] scope pos) 0 it acc env)):=by rfl
theorem tW {prog:Program}{w:World}{A:Around}{R:Result→Shared→Prop}{s:Shared}{elt target iter ifs rest scope pos it acc env}
  (h0:codeAny (model prog w) A (.compLoop (.SetComp elt (⟨target,iter,ifs,0⟩::rest) scope pos) 0 it acc env) R s)
  (h:wpAny (model prog w) A (pyIter it) (fun it' s'=>codeAny (model prog w) A (.compLoop (.SetComp elt (⟨target,iter,ifs,0⟩::rest) scope pos) 0 it' acc env) R s') (notedBy (model prog w) A env fun x s'=>R (.error x) s') s) :
  codeAny (model prog w) A (.compStart (.SetComp elt (⟨target,iter,ifs,0⟩::rest) scope pos) 0 it acc env) R s:=by
 refine codeAny_of_tree ?_
 show wpAny _ _ ((compStart (.SetComp elt (⟨target,iter,ifs,0⟩::rest) scope pos) 0 it acc env).onRaise (fun x=>do noteFrame x env;standAt theWindowsPlace)) _ _ s
 refine wpAny_notedAt ?_
 unfold compStart
 show wpAny _ _ (ask >>= _) _ _ s
 refine wpAny_bind (wpAny_askSetting (wpAny_ite ?_))
 split
 ·first
   | exact wpAny_bind (wpAny_pure (wpAny_pure (And.intro rfl h0)))
   | exact wpAny_pure (And.intro rfl h0)
 ·have go:∀ {Q:Fin→Shared→Prop}{E:Value→Shared→Prop},(∀ it' s',codeAny (model prog w) A (.compLoop (.SetComp elt (⟨target,iter,ifs,0⟩::rest) scope pos) 0 it' acc env) R s'→Q (.again (.compLoop (.SetComp elt (⟨target,iter,ifs,0⟩::rest) scope pos) 0 it' acc env)) s')→True:=fun _=>trivial
  refine wpAny_bind (wpAny_rule ?_)
  show wpAny _ _ (standAt iter.pos >>= _) _ _ s
  exact wpAny_bind (wpAny_standAt (wpAny_bind (wpAny_mono h (fun it' s' h'=>wpAny_pure (And.intro rfl h')) fun _ _ x=>x)))
end L2
namespace L2
open PySem PySem.Spec PyProof.Rows PySem.W
def Dc (P:Program) (w:World) (J:It) (D:Addr) (σ:St) (k:Nat) (ix:List Nat) (g:TG) (tt:TT) (te:TE) (Q:VK) (H1:Hp):Prop:=∃ W:Nat→Nat→List Str→Hp→Prop,(∃ m,W 0 m [] (upd H1 D (ig P w D []))) ∧
 ∀ i m zs H2,W i m zs H2→H2 D=some (ig P w D zs)∧((J.stop i H2∧Q (.ref D) H2)∨(J.go i H2∧∃ N:List Str→Hp→Prop,(∀ zs H',N zs H'→∃ m',m'<m∧W (i+1) m' zs H')∧∀ x H3,J.DY i H2 x H3→g x (iJ σ k ix) H3 fun σ2 H4=>Kp (iJ σ k ix) σ2 ∧
  tt σ2 H4 fun b H5=>if b=true then te σ2 H5 fun y H6=>∃ z,y=.str z∧H6 D=some (ig P w D zs)∧zs.length<1000∧N (jN zs z) (upd H6 D (ig P w D (jN zs z))) else N zs H5))
def SX (P:Program) (w:World) (k:Nat) (ix:List Nat) (wi:TI) (g:TG) (tt:TT) (te:TE):TE:=fun σ H Q=>wi σ H fun J H1=>∀ D,H1 D=none→Dc P w J D σ k ix g tt te Q H1
section
variable {X:Cx}{elt tg iter:Expr}{ifs:List Expr}{scope:Scope}{pos:Pos}{ts fr:List Str}{ix:List Nat}{wi:TI}{g:TG}{tt:TT}{te:TE}
theorem Fi {ob:HO}{pins:List (Addr×Obj)}{σ:St}{H:Hp}{s:Shared}{fp:List Addr}{h1:Heap}{tk:Nat}{D C:Addr} (S:cT X.N X.env.scope scope ts fr ix) (I:Inv X pins σ H s) (hf:∀ b∈fp,jx X pins H b) (hfp:∀ b∈fp,b<s.heap.objs.size)
  (hD:s.heap.objs.size≤D) (hC:s.heap.objs.size≤C) (hDC:D≠C) (hk:∀ b o,s.heap.get? b=some o→h1.get? b=some o) (hob:cJ X.prog X.w (upd H D ob) h1 D ob) {m0:Str→Option Value} (hn:h1.Ns C m0) :
  Inv (wQ X (ts++fr) scope s H fp C) [] (iJ σ ts.length ix) (upd H D ob) { s with heap:=h1,toks:=tk }:=by
 have hcl:∀ x∈scope.names,x.2=.free→(X.env.cells.lookup x.1).isSome=true:=fun x hx hfx=>by
  obtain ⟨c,hc⟩:=I.ok.has x.1 (S.frs x hx hfx)
  rw [hc];rfl
 have Ht:∀ b,s.heap.objs.size≤b→∀ x c,X.env.cells.lookup x=some c→c≠b:=fun b hb x c e z=>by
  obtain ⟨v,q⟩:=I.cell x c e
  exact absurd (Nat.lt_of_lt_of_le q.lt (by rw [z];exact hb)) (Nat.lt_irrefl _)
 have Hu:∀ x,scope.names.lookup x=some .free→∃ c,(fV X.env scope.names []).lookup x=some c∧X.env.cells.lookup x=some c:=fun x hx=>by
  obtain ⟨c,hc⟩:=pJ (env:=X.env) scope.names [] (PySem.mem_of_lookup hx)
  obtain ⟨c',hc'⟩:=jm hc
  exact ⟨c',hc',bW hcl hc'⟩
 have RT:∀ b∈fp,b∉frs X.stack:=fun b hb z=>by
  obtain ⟨_,f1,f2,_⟩:=hf b hb
  rcases List.mem_cons.mp (I.pA b z) with e | e
  ·exact f1 e
  ·exact f2 e
 have hCn:H C=none:=I.hok.fresh hC
 have hDn:H D=none:=I.hok.fresh hD
 refine ⟨⟨I.ok.mod,?_,I.ok.glob,I.ok.blt,hC,fun x y c h1 h2=>?_,fun x hx=>?_,fun x c hfx=>?_,I.ok.hd,I.ok.frames,.inl rfl,fun b hb=>⟨?_,fun x c e=>?_⟩,I.bs,Nat.le_trans I.ok.Gs I.sz,fun b o e hb=>?_,RT,I.stack,I.qG⟩,
  rfl,I.bare,Un.laid hk hD hDn,⟨m0,hn,fun i x v e1 e2 e3=>?_⟩,fun x c e=>?_,?_,fun x c e=>?_,fun p hp=>?_,I.hok.laid hk hD hob,?_⟩
 ·show (relabel scope X.env).kind=_
  exact S.kind
 ·exact I.ok.inj x y c (bW hcl h1) (bW hcl h2)
 ·have hx':(relabel scope X.env).names.lookup x=some .cell∨(relabel scope X.env).names.lookup x=some .free:=hx
  have hfree:scope.names.lookup x=some .free:=by
   rcases hx' with q | q
   ·obtain ⟨k,e,z⟩:=gj q
    rcases z with z | ⟨z,_⟩
    ·subst z;exact absurd rfl (S.vQ _ (PySem.mem_of_lookup e))
    ·rw [e,z]
   ·obtain ⟨k,e,z⟩:=gj q
    rcases z with z | ⟨_,z⟩
    ·rw [e,← z]
    ·cases z
  obtain ⟨c,hc,_⟩:=Hu x hfree
  exact ⟨c,hc⟩
 ·exact absurd (show false=true from hfx) (by decide)
 ·exact Nat.ne_of_lt (Nat.lt_of_lt_of_le (hfp b hb) hC)
 ·exact (hf b hb).2.2.2.2.1 x c (bW hcl e)
 ·have f:=hf b hb
  rcases f.2.2.2.1 with z | z
  ·exact I.ok.vI b o e z
  ·exact absurd (Nat.lt_of_lt_of_le (Heap.lt_size (I.ok.bs b o e).1) z) (Nat.lt_irrefl _)
 ·obtain ⟨a,i',hj,hi,hσ⟩:=xM e2
  subst hj
  have e1':(ts++fr)[ts.length+a]?=some x:=e1
  rw [List.getElem?_append_right (by omega),Nat.add_sub_cancel_left] at e1'
  have hN:X.N[i']?=some x:=by
   have q:=congrArg (fun l=>l[a]?) S.cap
   simp only [List.getElem?_map,e1',hi] at q
   exact (Option.some.inj q).symm
  have hfree:=S.Wd x (List.mem_of_getElem? e1')
  have hk':=S.frs (x,.free) (PySem.mem_of_lookup hfree) rfl
  obtain ⟨m,hnm,hl⟩:=I.loc
  obtain ⟨u,r,lk⟩:=hl i' x v hN hσ (.inr hk')
  refine ⟨u,r,?_⟩
  obtain ⟨c,hc,hc'⟩:=Hu x hfree
  rcases lk with ⟨z,_⟩ | ⟨_,c2,e4,z⟩
  ·have z':X.env.scope.names.lookup x=some .local:=z
   rcases hk' with y | y
   ·have y':X.env.scope.names.lookup x=some .cell:=y
    rw [z'] at y';cases y'
   ·have y':X.env.scope.names.lookup x=some .free:=y
    rw [z'] at y';cases y'
  ·have hcc:c2=c:=Option.some.inj (e4.symm.trans hc')
   rw [hcc] at z
   obtain ⟨o,ho2,hd2⟩:=z
   exact .inr ⟨nY hfree,c,hc,o,hk _ _ ho2,hd2⟩
 ·obtain ⟨v,o,ho2,hd2⟩:=I.cell x c (bW hcl e)
  exact ⟨v,o,hk _ _ ho2,hd2⟩
 ·show upd H D ob C=none
  rw [ao (Ne.symm hDC)];exact hCn
 ·show upd H D ob c=none
  rw [ao (Ht D hD x c (bW hcl e))]
  exact I.fY x c (bW hcl e)
 ·exact absurd (show p∈([]:List (Addr×Obj)) from hp) (by simp)
 ·have e:=congrArg List.length S.cap
  simp only [List.length_map] at e
  rw [qp]
  show _=(ts++fr).length
  rw [List.length_append,e]
theorem Mw {P:Program}{w:World}{H:Hp}{h:Heap}{a:Addr}{zs:List Str} (x:cJ P w H h a (ig P w a zs)):jr P w h a zs:=x.1
theorem yE {P:Program}{w:World}{H:Hp}{h:Heap}{a:Addr}{zs:List Str} (x:jr P w h a zs):cJ P w H h a (ig P w a zs):=by
 obtain ⟨es,ep,t,r,el,pm,nd⟩:=x
 exact CW r el pm nd
theorem jr.obj {P:Program}{w:World}{h:Heap}{a:Addr}{zs:List Str} (x:jr P w h a zs):∃ o,h.get? a=some o:=by
 obtain ⟨es,ep,t,r,_⟩:=x
 obtain ⟨o,ho,_⟩:=r.o
 exact ⟨o,ho⟩
set_option maxHeartbeats 2000000 in
theorem Jd (hc:X.calm=true) (S:cT X.N X.env.scope scope ts fr ix) (hi:PI X tg iter wi)
  (hb:∀ s H fp C,PG (wQ X (ts++fr) scope s H fp C) tg g∧Vl (wQ X (ts++fr) scope s H fp C) ifs tt∧PE (wQ X (ts++fr) scope s H fp C) elt te)
  (hs:∀ x,foldedSetIterable iter X.env x=pure x:=by intro _;rfl):PE X (.SetComp elt [⟨tg,iter,ifs,0⟩] scope pos) (SX X.prog X.w ts.length ix wi g tt te):=by
 intro pins s σ H Q I h
 have hcl:∀ x∈scope.names,x.2=.free→(X.env.cells.lookup x.1).isSome=true:=fun x hx hfx=>by
  obtain ⟨c,hc⟩:=I.ok.has x.1 (S.frs x hx hfx)
  rw [hc];rfl
 show wpAny (model X.prog X.w) X.A (comprehension (.SetComp elt [⟨tg,iter,ifs,0⟩] scope pos) scope X.env (firstIterPos [⟨tg,iter,ifs,0⟩] pos) (newSet (.type "set")) false (eval iter X.env)) _ X.xe s
 refine wpAny_comprehension_free (use:=none) rfl hs (jW hcl) S.kind S.nms (cN (hi pins s σ H _ I h) fun v s1 h1=>cN h1 fun itv s2 h2=>?_)
 obtain ⟨it,fp,tn,J,H2,rfl,I2,T,st2,f2,hW⟩:=h2
 refine Jc (wpAny_newFunctionEnv S.vQ (by intro y hy;simp at hy) (fun h₁ hns₁ hsb₁=>?_) S.kind)
 dsimp only at hns₁ hsb₁ ⊢
 generalize hH2:s2.heap.push (dG X.w)=G2 at hns₁ hsb₁ ⊢
 have RV:G2.objs.size=s2.heap.objs.size+1:=by rw [← hH2,Heap.size_push]
 have hDC:s2.heap.objs.size≠G2.objs.size:=by rw [RV];exact Nat.ne_of_lt (Nat.lt_succ_self _)
 have hCle:s2.heap.objs.size≤G2.objs.size:=by rw [RV];exact Nat.le_succ _
 have old:∀ b o,s2.heap.get? b=some o→h₁.get? b=some o:=fun b o e=>hsb₁.extBut b o (by rw [RV];exact Nat.ne_of_lt (Nat.lt_succ_of_lt (Heap.lt_size e))) (Heap.get?_push_of_some _ (hH2 ▸ Heap.get?_push_of_some _ e))
 have hacc:h₁.get? s2.heap.objs.size=some (dG X.w):=hsb₁.extBut _ _ hDC (Heap.get?_push_of_some _ (hH2 ▸ Heap.get?_push_size _ rfl))
 have hfp:∀ b∈fp,b<s2.heap.objs.size:=fun b hb'=>by
  obtain ⟨o,e,_⟩:=T.obj _ _ st2 b hb'
  exact Heap.lt_size e
 have IC:Inv (wQ X (ts++fr) scope s2 H2 fp G2.objs.size) [] (iJ σ ts.length ix) (upd H2 s2.heap.objs.size (ig X.prog X.w s2.heap.objs.size [])) { s2 with heap:=h₁,toks:=s2.toks+([]:List (Str×Value)).length } :=
  Fi S I2 f2 hfp (Nat.le_refl _) hCle hDC old (yE (CZ hacc)) hns₁
 have st1:tn 0 h₁:=T.keep _ _ _ st2 fun b hb' o e=>old b o e
 obtain ⟨W,⟨m0,w0⟩,turn⟩:=hW s2.heap.objs.size I2.fresh
 obtain ⟨bg,bt,be⟩:=hb s2 H2 fp G2.objs.size
 generalize hX:wQ X (ts++fr) scope s2 H2 fp G2.objs.size=Y at IC bg bt be
 have eP:Y.prog=X.prog:=by rw [← hX];rfl
 have eW:Y.w=X.w:=by rw [← hX];rfl
 have eK:Y.K=X.K:=by rw [← hX];rfl
 have eC:Y.calm=true:=by rw [← hX];exact hc
 have eA:Y.A=X.A:=by rw [← hX];rfl
 have eE:Y.env=compEnvC scope (fV X.env scope.names []) G2.objs.size X.env:=by rw [← hX];rfl
 have eX:Y.xe=fun _ _=>False:=by rw [← hX];rfl
 have stat:∀ {H':Hp},(∀ b∈fp,H' b=none)→∀ b∈fp,jx Y [] H' b:=fun hn b hb'=>by
  rw [← hX]
  have z:=IC.ok
  rw [← hX] at z
  refine ⟨hn b hb',(z.Pb b hb').1,z.wV b hb',.inl hb',(z.Pb b hb').2,fun p hp=>absurd (show p∈([]:List (Addr×Obj)) from hp) (by simp)⟩
 have fr0:∀ b∈fp,upd H2 s2.heap.objs.size (ig X.prog X.w s2.heap.objs.size []) b=none:=fun b hb'=>by rw [ao (Nat.ne_of_lt (hfp b hb'))];exact (f2 b hb').1
 have bot:∀ {α:Type}{t:Sem α}{R:α→Shared→Prop}{E:Value→Shared→Prop}{z:Shared},wpAny (model Y.prog Y.w) Y.A t R Y.xe z→wpAny (model X.prog X.w) X.A t R E z:=fun {α t R E z} q=>by
  rw [eP,eW,eA,eX] at q
  exact wpAny_mono q (fun _ _ y=>y) fun _ _ y=>y.elim
 have fin:∀ (H':Hp) (s':Shared),Inv X pins σ H' s'→jx X pins H' G2.objs.size→(∃ m,s'.heap.Ns G2.objs.size m)→Q (.ref s2.heap.objs.size) H'→compPost (model X.prog X.w) X.A X.xe none (EP X pins σ Q) (.ref s2.heap.objs.size) G2.objs.size (.ok .next) s':=fun H' s' I' f' ⟨m,hm⟩ q'=>by
  refine ⟨m,hm,fun h' sb=>⟨.ref s2.heap.objs.size,H',?_,rfl,q'⟩⟩
  exact I'.turned (t':=s'.toks) (fun b o hb' e=>(sb.2 b hb').trans e) f'.1 f'.2.1 f'.2.2.2.1 f'.2.2.2.2.1 f'.2.2.2.2.2
 have loop:codeAny (model X.prog X.w) X.A (.compLoop (.SetComp elt [⟨tg,iter,ifs,0⟩] scope pos) 0 (.ref it) (.ref s2.heap.objs.size) (compEnvC scope (fV X.env scope.names []) G2.objs.size X.env))
   (compPost (model X.prog X.w) X.A X.xe none (EP X pins σ Q) (.ref s2.heap.objs.size) G2.objs.size) { s2 with heap:=h₁,toks:=s2.toks+([]:List (Str×Value)).length }:=by
  rw [← eE]
  refine codeAny_loop rfl (fun n s'=>∃ i ys H',Inv Y [] (iJ σ ts.length ix) H' s'∧tn i s'.heap∧(∀ b∈fp,H' b=none)∧W i n ys H') (fun n s3 hI=>?_) m0 ⟨0,[],_,IC,st1,fr0,w0⟩
  obtain ⟨i,ys,H3,I3,st3,Kz,w3⟩:=hI
  show wpAny _ _ ((compTurn (.SetComp elt [⟨tg,iter,ifs,0⟩] scope pos) 0 (.ref it) (.ref s2.heap.objs.size) Y.env).onRaise (fun x=>do noteFrame x Y.env;theTreesLotGoes x)) _ _ s3
  refine wpAny_noted ?_
  rw [wk]
  obtain ⟨hD3,hcase⟩:=turn i n ys H3 w3
  rcases hcase with ⟨stop,qn⟩ | ⟨go,N,hN,step⟩
  ·have q:=T.done Y eP eW eK eC i [] s3 _ H3 (fun _ _=>False) I3 (stat Kz) st3 stop
   rw [eA] at q
   refine wpAny_bind (wpAny_standAt (wpAny_bind (wpAny_mono q (fun r s4 ⟨hr,I4⟩=>?_) fun _ _ y=>y.elim)))
   subst hr
   refine wpAny_pure ?_
   have b4:Un (frs X.stack) fp H2 H3 s2.heap s4.heap:=by have z:=I4.base;rw [← hX] at z;exact z
   have ok4:jX X.prog X.w H3 s4.heap:=by have z:=I4.hok;rw [eP,eW] at z;exact z
   have os4:s4.os=s2.os:=by have z:=I4.os;rw [← hX] at z;exact z
   have I5:Inv X pins σ H3 s4:=I2.call' os4 b4 ok4 I4.bare fun b hb'=>⟨(f2 b hb').2.2.2.1,(f2 b hb').2.1,(f2 b hb').2.2.2.2.1,(f2 b hb').2.2.2.2.2⟩
   have fC:H3 G2.objs.size=none:=by have z:=I4.free;rw [eE] at z;exact z
   have nC:∃ m,s4.heap.Ns G2.objs.size m:=by obtain ⟨m,z,_⟩:=I4.loc;rw [eE] at z;exact ⟨m,z⟩
   exact fin H3 s4 I5 (I2.tR hCle fC) nC qn
  ·have q:=T.item Y eP eW eK eC i [] s3 _ H3 (fun _ _=>False) I3 (stat Kz) st3 go
   rw [eA] at q
   refine wpAny_bind (wpAny_standAt (wpAny_bind (wpAny_mono q (fun r s4 ⟨u,hr,h4⟩=>?_) fun _ _ y=>y.elim)))
   subst hr
   refine wpAny_bind (wpAny_mono h4 (fun _ s5 ⟨x,H5,I5,r5,y5,GK,Ry⟩=>?_) fun _ _ y=>y.elim)
   have W0:=I5.pinned (stat Ry) (T.obj _ _ GK)
   refine wpAny_bind (bot (cN (bg _ s5 _ H5 x u _ W0 r5 (step x H5 y5)) fun _ s6 ⟨σ6,H6,I6,kp6,q6⟩=>?_))
   refine wpAny_bind (bot (cN (bt _ s6 σ6 H6 _ I6 q6) fun ok s7 ⟨H7,I7,q7⟩=>?_))
   have again:∀ {H8:Hp}{s8:Shared}{zs:List Str}{m':Nat},Inv Y ([]++pD fp s5.heap) σ6 H8 s8→m'<n→W (i+1) m' zs H8→∃ m,m<n∧∃ i ys H',Inv Y [] (iJ σ ts.length ix) H' s8∧tn i s8.heap∧(∀ b∈fp,H' b=none)∧W i m ys H':=fun {H8 s8 zs m'} I8 hm w8=>by
    refine ⟨m',hm,i+1,zs,H8,(I8.kO).weak ?_ kp6,T.keep _ _ _ GK fun b hb' o e=>(I8.pin (b,o) (List.mem_append_right _ (List.mem_append_right _ (gJ hb' e)))).1,fun b hb'=>?_,w8⟩
    ·rw [I8.len,I3.len]
    ·obtain ⟨o,e,d⟩:=T.obj _ _ GK b hb'
     exact (I8.pin (b,o) (List.mem_append_right _ (List.mem_append_right _ (gJ hb' e)))).2.1
   cases ok with
   | false =>
    rw [if_neg (by decide)] at q7
    obtain ⟨m',hm,w8⟩:=hN _ _ q7
    exact wpAny_pure ⟨rfl,again I7 hm w8⟩
   | true =>
    rw [if_pos rfl] at q7
    refine wpAny_bind (wpAny_bind (bot (cN (be _ s7 σ6 H7 _ I7 q7) fun u8 s8 ⟨y8,H8,I8,r8,z8,ey,hD8,hz,n8⟩=>?_)))
    subst ey
    obtain ⟨tk8,rfl⟩:=r8
    obtain ⟨m',hm,w8⟩:=hN _ _ n8
    refine wpAny_bind (wpAny_standAt (wpAny_bind ?_))
    have hS8:jr X.prog X.w s8.heap s2.heap.objs.size ys:=by have z:=I8.hok _ _ hD8;rw [eP,eW] at z;exact Mw z
    refine Fe hS8 (by unfold scanBound;omega) fun h' sb hT=>?_
    have new:cJ Y.prog Y.w (upd H8 s2.heap.objs.size (ig X.prog X.w s2.heap.objs.size (jN ys z8))) h' s2.heap.objs.size (ig X.prog X.w s2.heap.objs.size (jN ys z8)):=by rw [eP,eW];exact yE hT
    have I9:=jL (t':=s8.toks+1) I8 (by rw [hD8];exact True.intro) sb hT.obj new
    exact wpAny_pure (wpAny_pure ⟨rfl,again I9 hm w8⟩)
 exact tW loop (T.self _ 0 _ _ _ st1 loop)
theorem Ag {P:Program}{w:World}{a:Addr}{o:Obj}{kvs:List (Key×V)}{D:Addr}{σ:St}{k:Nat}{ix:List Nat}{g:TG}{tt:TT}{te:TE}{Q:VK}{H1:Hp} (Pv:Nat→List Str→Hp→Prop) (hl:∀ i zs H,Pv i zs H→H a=some (.fX o (.dK kvs))) (h0:Pv 0 [] (upd H1 D (ig P w D []))) (hD:∀ i zs H,Pv i zs H→H D=some (ig P w D zs))
  (hs:∀ i zs H kv,kvs[i]?=some kv→Pv i zs H→g kv.2 (iJ σ k ix) H fun σ2 H4=>Kp (iJ σ k ix) σ2∧tt σ2 H4 fun b H5=>if b=true then te σ2 H5 fun y H6=>∃ z,y=.str z∧H6 D=some (ig P w D zs)∧zs.length<1000∧Pv (i+1) (jN zs z) (upd H6 D (ig P w D (jN zs z))) else Pv (i+1) zs H5)
  (hd:∀ zs H,Pv kvs.length zs H→Q (.ref D) H):Dc P w (Itv a o kvs) D σ k ix g tt te Q H1:=by
 refine ⟨fun i m ys H=>m=kvs.length - i∧i≤kvs.length∧Pv i ys H,⟨kvs.length,by simp,Nat.zero_le _,h0⟩,?_⟩
 rintro i m ys H ⟨rfl,hi,p⟩
 refine ⟨hD i ys H p,?_⟩
 by_cases hlt:i<kvs.length
 ·refine .inr ⟨⟨hl _ _ _ p,hlt⟩,Pv (i+1),fun zs H' p'=>⟨kvs.length - (i+1),by omega,rfl,hlt,p'⟩,fun x H' y=>?_⟩
  obtain ⟨rfl,kv,hkv,rfl⟩:=y
  exact hs i ys _ kv hkv p
 ·have e:i=kvs.length:=by omega
  subst e
  exact .inl ⟨⟨hl _ _ _ p,Nat.le_refl _⟩,hd ys H p⟩
end
end L2
namespace L2
open PySem PySem.Spec PyProof.Rows PySem.W
section
variable {X:Cx}
def idxV (n:Nat) (lo hi st:Option Int):List Nat:=sliceRange (sliceBounds lo hi st n).1 (sliceBounds lo hi st n).2.1 (sliceBounds lo hi st n).2.2
def uT (xs:List V) (lo hi st:Option Int):List V:=(idxV xs.length lo hi st).filterMap (xs[·]?)
theorem pO {xs:List V}{us:List Value} (r:Vals xs us):∀ ix:List Nat,Vals (ix.filterMap (xs[·]?)) (ix.filterMap (us[·]?))
 | []=>.nil
 | i::ix=>by
  rw [List.filterMap_cons,List.filterMap_cons]
  cases e:xs[i]? with
  | none=>rw [r.none_of e];exact pO r ix
  | some x =>
   obtain ⟨u,eu,ru⟩:=r.get e
   rw [eu]
   exact .cons ru (pO r ix)
def rSl3 (K:PySem.W.Frag) (x:V) (lo hi st:Option Int) (H:Hp) (Q:VK):Prop:=∃ a xs,x=.ref a∧bR K H a xs∧st≠some 0∧(uT xs lo hi st).length≤1000∧∀ p,H p=none→Q (.ref p) (upd H p (.lst (uT xs lo hi st)))
def tSl3 (K:PySem.W.Frag) (te:TE) (tl th ts:TO):TE:=fun σ H Q=>te σ H fun x H1=>tl σ H1 fun l H2=>th σ H2 fun u H3=>ts σ H3 fun o H4=>rSl3 K x l u o H4 Q
theorem Fj {e:Expr}{te:TE}{lo hi:Option Expr}{st:Expr}{tl th ts:TO}{pos p2:Pos} (he:PE X e te) (hl:PO X lo tl) (hu:PO X hi th) (ht:PO X (some st) ts):PE X (.Subscript e (.Slice lo hi (some st) p2) pos) (tSl3 X.K te tl th ts):=by
 intro pins s σ H Q I h
 refine Subscript_ (cN (he pins s σ H _ I h) fun v s1 ⟨x,H1,I1,r1,q1⟩=>?_)
 refine wpAny_Slice (cN (hl pins s1 σ H1 _ I1 q1) fun vl s2 ⟨l,H2,I2,pl,q2⟩=>cN (hu pins s2 σ H2 _ I2 q2) fun vu s3 ⟨u,H3,I3,pu,q3⟩=>cN (ht pins s3 σ H3 _ I3 q3) fun vs s4 ⟨o,H4,I4,po,q4⟩=>?_)
 obtain ⟨a,xs,rfl,hx,h0,hz,q⟩:=q4
 cases r1
 have I5:Inv X pins σ H4 { s4 with heap:=s4.heap.push { cls:=.type "slice",data:=.fields #[vl,vu,vs] } }:=I4.kept (t':=s4.toks) fun b ob q=>Heap.get?_push_of_some _ q
 obtain ⟨its,r,pl',hz'⟩:=I5.list hx
 have hlen:=r.length
 show wpAny (model X.prog X.w) X.A (subscriptTail e (.Slice lo hi (some st) p2) (.ref a) (.ref s4.heap.objs.size)) (EP X pins σ Q) X.xe { s4 with heap:=s4.heap.push { cls:=.type "slice",data:=.fields #[vl,vu,vs] } }
 refine tail_any (ops:=[.ref a,.ref s4.heap.objs.size]) pl'.isList.typeIs slot_list_getitem.lookup ?_ (by with_unfolding_all rfl)
 refine wpAny_getItem_list_slice pl'.isList (Heap.IsSliceOf.new ..) pl pu po h0 ?_ (by rw [List.size_toArray] <;> omega)
 have e:slicePick its.toArray l u o=(((idxV xs.length l u o).filterMap (its[·]?))).toArray:=by
  unfold slicePick idxV
  rw [List.size_toArray,← hlen]
  simp
 rw [e]
 refine ⟨.ref _,_,I5.laid (t':=s4.toks) (o:=.lst (uT xs l u o)) (fun b ob q=>Heap.get?_push_of_some _ q) (Nat.le_refl _) ?_,rfl,q _ (I5.hok.fresh (Nat.le_refl _))⟩
 exact ⟨Nat.le_trans hz (by rw [sizeLine_eq];decide),_,0,pO r _,Heap.get?_push_size _ rfl⟩
def WW:List V→Hp→VK→Prop:=fun xs H Q=>∃ a kvs,xs=[V.ref a]∧H a=some (.dK kvs)∧Q (.int kvs.length) H
theorem Ah:fM X (.builtin "len") WW:=by
 intro pins s σ H xs us Q I r h
 obtain ⟨a,kvs,rfl,ha,q⟩:=h
 obtain ⟨u,rfl,ru⟩:=vals1 r
 cases ru
 obtain ⟨z,hs,vs,rel,dd⟩:=rQ I.hok ha
 have hlen:vs.length=kvs.length:=rel.length.symm
 refine call_len_dict hs dd ?_ ?_
 ·have:sizeLine<2 ^ 63:=by rw [sizeLine_eq];decide
  omega
 ·exact ⟨.int _,H,(I.tok _).tok _,⟨_,rfl⟩,by rw [hlen];exact q⟩
def WX (t:TS):TS:=fun D σ H=>∃ a kvs,H a=some (.dK kvs)∧∀ o,t { nx:=fun σ' H'=>H' a=some (.fX o (.dK kvs))∧D.nx σ' (upd H' a (.dK kvs)),rt:=fun _ _=>False } σ (upd H a (.fX o (.dK kvs)))
theorem T3 {st:Stmt}{t:TS} (h:PS X st t):PS X st (WX t):=by
 intro pins s σ H D I ⟨a,kvs,ea,q⟩
 obtain ⟨o,I1,n⟩:=I.freeze ea
 refine wpAny_mono (h pins s σ _ _ I1 (q o)) (fun fl s' hf=>?_) fun _ _ y=>y
 cases fl with
 | next =>
  obtain ⟨σ',H',I',e',q'⟩:=hf
  exact ⟨σ',_,I'.Wz e' n,q'⟩
 | brk=>obtain ⟨_,_,_,f⟩:=hf;exact f.elim
 | cont=>obtain ⟨_,_,_,f⟩:=hf;exact f.elim
 | ret u=>obtain ⟨_,_,_,_,_,f⟩:=hf;exact f.elim
end
end L2
namespace L2
open PySem PySem.Spec PyProof.Rows PySem.W
end L2
namespace M
open PySem L2
def top (i:Nat):Stmt:=PySem.Challenge.pw_manrent_k10_estates_not_there.main.body.getD i (.Pass ⟨0,0,0,0⟩)
abbrev rZ:Stmt:=inClass (top 18) 0
abbrev pP:Stmt:=inClass (top 18) 1
abbrev iZ:Stmt:=inClass (top 18) 2
abbrev jO:Stmt:=inClass (top 18) 3
abbrev sE:Stmt:=inClass (top 18) 4
abbrev Ai:Stmt:=inClass (top 18) 5
abbrev j8:Stmt:=inClass (top 18) 6
abbrev j9:Stmt:=inClass (top 18) 7
abbrev n6:Stmt:=inClass (top 18) 8
abbrev sG:Stmt:=inClass (top 18) 9
abbrev lC:Stmt:=inClass (top 18) 10
abbrev sH:Stmt:=inClass (top 18) 11
abbrev pQ:Stmt:=inClass (top 18) 12
abbrev jB:Stmt:=inClass (top 18) 13
abbrev lY:Stmt:=inClass (top 18) 14
abbrev uU:Stmt:=inClass (top 18) 15
abbrev ni:Stmt:=inClass (top 18) 18
abbrev Fl:Stmt:=inClass (top 18) 19
theorem aD {H:Hp}{p:Addr} (h:H p=none) (o:HO):Same H (upd H p o):=fun b u q=>by rw [ao (aH q h)];exact q
theorem bB {H H2:Hp}{l:Addr}{o:HO} (s:Same H H2) (h:H l=none):Same H (upd H2 l o):=fun b u q=>by rw [ao (aH q h)];exact s b u q
theorem small {n:Nat} (h:n≤1000000):n≤sizeLine:=Nat.le_trans h (by decide)
theorem bY {n:Nat} (h:n<1000000):n<sizeLine:=Nat.lt_of_lt_of_le h (by decide)
theorem u1 {k:Nat}{A:Around} (r:fG k A):A.units+1<cLine:=by have:=r.un;omega
structure cX (K:PySem.W.Frag) (C:Addr):Prop where
 cl:Cls K C
 n1:iz K C "lord_of"
 n2:iz K C "holder_of"
 n3:iz K C "own_of"
 n4:iz K C "service_of"
 n5:iz K C "breadth_of"
abbrev F5 (a1 a2 a3 a4 a5:Addr):List (Str×V):=[("lord_of",.ref a1),("holder_of",.ref a2),("own_of",.ref a3),("service_of",.ref a4),("breadth_of",.ref a5)]
structure bZ (C:Addr) (H:Hp) (x dx a1 a2 a3 a4 a5:Addr) (lo ho ow se br:List (Key×V)):Prop where
 o:H x=some (.ins C dx (F5 a1 a2 a3 a4 a5))
 l1:H a1=some (.dK lo)
 l2:H a2=some (.dK ho)
 l3:H a3=some (.dK ow)
 l4:H a4=some (.dK se)
 l5:H a5=some (.dK br)
theorem bZ.same {C:Addr}{H H':Hp}{x dx a1 a2 a3 a4 a5:Addr}{lo ho ow se br:List (Key×V)} (k:bZ C H x dx a1 a2 a3 a4 a5 lo ho ow se br) (s:Same H H'):bZ C H' x dx a1 a2 a3 a4 a5 lo ho ow se br:=⟨s _ _ k.o,s _ _ k.l1,s _ _ k.l2,s _ _ k.l3,s _ _ k.l4,s _ _ k.l5⟩
structure T4 (a1 a2 a3 a4 a5:Addr):Prop where
 n12:a1≠a2
 n13:a1≠a3
 n14:a1≠a4
 n15:a1≠a5
 n23:a2≠a3
 n24:a2≠a4
 n25:a2≠a5
 n34:a3≠a4
 n35:a3≠a5
 n45:a4≠a5
inductive Ch (lo:List (Key×V)):Str→List Str→Prop
 | crown {e:Str}:bQ lo (.inr e)=some .non→Ch lo e [e]
 | up {e p:Str}{l:List Str}:bQ lo (.inr e)=some (.str p)→Ch lo p l→Ch lo e (e::l)
theorem fP {H:Hp}{a:Addr}{kvs:List (Key×V)}{e:Str}{v:V} (h:H a=some (.dK kvs)) (hv:bQ kvs (.inr e)=some v):dR H a (V.str e) (some v):=by
 have:=dR.k (k:=.inr e) h
 rw [hv] at this
 exact this
def oO (C:Addr):Sp:=fun vs H Q _=>∃ x dx a1 a2 a3 a4 a5 lo ho ow se br e,vs=[.ref x,.str e]∧bZ C H x dx a1 a2 a3 a4 a5 lo ho ow se br∧Q (.bl (bQ lo (.inr e)).isSome) H
def iu (C:Addr):Sp:=fun vs H Q _=>∃ x dx a1 a2 a3 a4 a5 lo ho ow se br e,vs=[.ref x,.str e]∧bZ C H x dx a1 a2 a3 a4 a5 lo ho ow se br∧(bQ lo (.inr e)).isSome=true∧Q .non H
def sI (C:Addr):Sp:=fun vs H Q _=>∃ x dx a1 a2 a3 a4 a5 lo ho ow se br e v,vs=[.ref x,.str e]∧bZ C H x dx a1 a2 a3 a4 a5 lo ho ow se br∧(bQ lo (.inr e)).isSome=true∧bQ ho (.inr e)=some v∧Q v H
def Aj (C:Addr):Sp:=fun vs H Q _=>∃ x dx a1 a2 a3 a4 a5 lo ho ow se br e v,vs=[.ref x,.str e]∧bZ C H x dx a1 a2 a3 a4 a5 lo ho ow se br∧(bQ lo (.inr e)).isSome=true∧bQ lo (.inr e)=some v∧Q v H
def Je (C:Addr):Sp:=fun vs H Q _=>∃ x dx a1 a2 a3 a4 a5 lo ho ow se br e v,vs=[.ref x,.str e]∧bZ C H x dx a1 a2 a3 a4 a5 lo ho ow se br∧(bQ lo (.inr e)).isSome=true∧bQ ow (.inr e)=some v∧Q v H
def pR (C:Addr):Sp:=fun vs H Q _=>∃ x dx a1 a2 a3 a4 a5 lo ho ow se br e v,vs=[.ref x,.str e]∧bZ C H x dx a1 a2 a3 a4 a5 lo ho ow se br∧(bQ lo (.inr e)).isSome=true∧bQ br (.inr e)=some v∧Q v H
def pU (C:Addr):Sp:=fun vs H Q _=>∃ x dx a1 a2 a3 a4 a5 lo ho ow se br e v,vs=[.ref x,.str e]∧bZ C H x dx a1 a2 a3 a4 a5 lo ho ow se br∧(bQ lo (.inr e)).isSome=true∧bQ se (.inr e)=some v∧Q v H
def wu (C:Addr):Sp:=fun vs H Q _=>∃ x dx a1 a2 a3 a4 a5 lo ho ow se br e l,vs=[.ref x,.str e]∧bZ C H x dx a1 a2 a3 a4 a5 lo ho ow se br∧(bQ lo (.inr e)).isSome=true∧Ch lo e l∧l.length≤1000∧∀ r H',Same H H'→H r=none→H' r=some (.lst (l.map V.str))→Q (.ref r) H'
def yF (C:Addr):Sp:=fun vs H Q _=>∃ x dx a1 a2 a3 a4 a5 lo ho ow se br e man,vs=[.ref x,.str e,.str man]∧bZ C H x dx a1 a2 a3 a4 a5 lo ho ow se br∧ho.length≤900∧Q .non (upd H a2 (.dK (putK ho (.inr e) (.str man))))
def pW (H:Hp) (a1 a2 a3 a4 a5:Addr) (lo ho ow se br:List (Key×V)) (n:Str) (lord holder:Str) (acres:Int) (t:Addr):Hp :=
 upd (upd (upd (upd (upd H a1 (.dK (putK lo (.inr n) (.str lord)))) a2 (.dK (putK ho (.inr n) (.str holder)))) a3 (.dK (putK ow (.inr n) (.int acres)))) a4 (.dK (putK se (.inr n) (.ref t)))) a5 (.dK (putK br (.inr n) (.int acres)))
def Jf (C:Addr):Sp:=fun vs H Q _=>∃ x dx a1 a2 a3 a4 a5 lo ho ow se br n lord holder acres t,vs=[.ref x,.str n,.str lord,.str holder,.int acres,.ref t]∧bZ C H x dx a1 a2 a3 a4 a5 lo ho ow se br∧T4 a1 a2 a3 a4 a5∧lo.length≤900∧ho.length≤900∧ow.length≤900∧se.length≤900∧br.length≤900 ∧
 Q .non (pW H a1 a2 a3 a4 a5 lo ho ow se br n lord holder acres t)
section
variable {P:Program}{w:World}{K:PySem.W.Frag}{mg:Str→Option Value}{base:Heap}{f C:Addr}{fd:FuncData}
theorem Mx:aZ ["self", "estate"] ["self", "estate"] (aC pP):=⟨rfl,rfl,rfl,by decide +kernel,rfl,by decide +kernel,by decide +kernel⟩
theorem Jg (T:cX K C) (F:fH K "there" "Land.there" pP f fd):aL P w K mg base cu 1 f fd ["self", "estate"] (oO C):=by
 refine F.ok Mx (fun vs H Q E h=>?_) (fun cdv A outer s H vs Q E hr h=>?_)
 ·obtain ⟨x,dx,a1,a2,a3,a4,a5,lo,ho,ow,se,br,e,rfl,_⟩:=h
  rfl
 obtain ⟨x,dx,a1,a2,a3,a4,a5,lo,ho,ow,se,br,e,rfl,L,k⟩:=h
 refine ⟨_,aG (aW (zj (Il (u1 hr) (pv 1) (cj (pv 0) rfl)) (by with_unfolding_all rfl))),?_⟩
 exact ⟨_,rfl,_,rfl,x,C,dx,_,_,rfl,L.o,T.cl,T.n1,rfl,a1,_,rfl,dR.k (k:=.inr e) L.l1,k⟩
theorem yG:aZ ["self", "estate"] ["self", "estate"] (aC ni):=⟨rfl,rfl,rfl,by decide +kernel,rfl,by decide +kernel,by decide +kernel⟩
theorem Fo (T:cX K C) (F:fH K "check_there" "Land.check_there" ni f fd) {g1:Addr}{d1:FuncData} (G1:aL P w K mg base cu 1 g1 d1 ["self", "estate"] (oO C)) (m1:Meth K C "there" g1) (b1:Binds K d1 ["self", "estate"] []):aL P w K mg base cu 2 f fd ["self", "estate"] (iu C):=by
 refine F.ok yG (fun vs H Q E h=>?_) (fun cdv A outer s H vs Q E hr h=>?_)
 ·obtain ⟨x,dx,a1,a2,a3,a4,a5,lo,ho,ow,se,br,e,rfl,_⟩:=h
  rfl
 obtain ⟨x,dx,a1,a2,a3,a4,a5,lo,ho,ow,se,br,e,rfl,L,he,k⟩:=h
 refine ⟨_,aG (bJ (gb (dU (bH (pv 0) T.cl m1 G1 hr b1 .nil bD (aj (pv 1) aA)))) bN aQ),?_⟩
 refine ⟨_,rfl,x,dx,_,rfl,L.o,rfl,_,rfl,x,dx,a1,a2,a3,a4,a5,lo,ho,ow,se,br,e,rfl,L,_,rfl,?_⟩
 rw [he]
 exact cB k
theorem yH:aZ ["self", "estate"] ["self", "estate"] (aC jO):=⟨rfl,rfl,rfl,by decide +kernel,rfl,by decide +kernel,by decide +kernel⟩
theorem Fp (T:cX K C) (F:fH K "holder" "Land.holder" jO f fd) {g1:Addr}{d1:FuncData} (G1:aL P w K mg base cu 2 g1 d1 ["self", "estate"] (iu C)) (m1:Meth K C "check_there" g1) (b1:Binds K d1 ["self", "estate"] []):aL P w K mg base cu 3 f fd ["self", "estate"] (sI C):=by
 refine F.ok yH (fun vs H Q E h=>?_) (fun cdv A outer s H vs Q E hr h=>?_)
 ·obtain ⟨x,dx,a1,a2,a3,a4,a5,lo,ho,ow,se,br,e,v,rfl,_⟩:=h
  rfl
 obtain ⟨x,dx,a1,a2,a3,a4,a5,lo,ho,ow,se,br,e,v,rfl,L,he,hv,k⟩:=h
 refine ⟨_,aq (bT (bH (pv 0) T.cl m1 G1 hr b1 .nil bD (aj (pv 1) aA))) (aG (aW (aO (u1 hr) (cj (pv 0) rfl) (pv 1) (fun _ _=>rfl)))),?_⟩
 refine ⟨_,rfl,x,dx,_,rfl,L.o,rfl,_,rfl,x,dx,a1,a2,a3,a4,a5,lo,ho,ow,se,br,e,rfl,L,he,?_⟩
 exact ⟨_,rfl,x,C,dx,_,_,rfl,L.o,T.cl,T.n2,rfl,_,rfl,_,v,rfl,fP L.l2 hv,k⟩
theorem Jh:aZ ["self", "estate"] ["self", "estate"] (aC sE):=⟨rfl,rfl,rfl,by decide +kernel,rfl,by decide +kernel,by decide +kernel⟩
theorem Mz (T:cX K C) (F:fH K "lord" "Land.lord" sE f fd) {g1:Addr}{d1:FuncData} (G1:aL P w K mg base cu 2 g1 d1 ["self", "estate"] (iu C)) (m1:Meth K C "check_there" g1) (b1:Binds K d1 ["self", "estate"] []):aL P w K mg base cu 3 f fd ["self", "estate"] (Aj C):=by
 refine F.ok Jh (fun vs H Q E h=>?_) (fun cdv A outer s H vs Q E hr h=>?_)
 ·obtain ⟨x,dx,a1,a2,a3,a4,a5,lo,ho,ow,se,br,e,v,rfl,_⟩:=h
  rfl
 obtain ⟨x,dx,a1,a2,a3,a4,a5,lo,ho,ow,se,br,e,v,rfl,L,he,hv,k⟩:=h
 refine ⟨_,aq (bT (bH (pv 0) T.cl m1 G1 hr b1 .nil bD (aj (pv 1) aA))) (aG (aW (aO (u1 hr) (cj (pv 0) rfl) (pv 1) (fun _ _=>rfl)))),?_⟩
 refine ⟨_,rfl,x,dx,_,rfl,L.o,rfl,_,rfl,x,dx,a1,a2,a3,a4,a5,lo,ho,ow,se,br,e,rfl,L,he,?_⟩
 exact ⟨_,rfl,x,C,dx,_,_,rfl,L.o,T.cl,T.n1,rfl,_,rfl,_,v,rfl,fP L.l1 hv,k⟩
theorem PJ:aZ ["self", "estate"] ["self", "estate"] (aC Ai):=⟨rfl,rfl,rfl,by decide +kernel,rfl,by decide +kernel,by decide +kernel⟩
theorem T5 (T:cX K C) (F:fH K "own" "Land.own" Ai f fd) {g1:Addr}{d1:FuncData} (G1:aL P w K mg base cu 2 g1 d1 ["self", "estate"] (iu C)) (m1:Meth K C "check_there" g1) (b1:Binds K d1 ["self", "estate"] []):aL P w K mg base cu 3 f fd ["self", "estate"] (Je C):=by
 refine F.ok PJ (fun vs H Q E h=>?_) (fun cdv A outer s H vs Q E hr h=>?_)
 ·obtain ⟨x,dx,a1,a2,a3,a4,a5,lo,ho,ow,se,br,e,v,rfl,_⟩:=h
  rfl
 obtain ⟨x,dx,a1,a2,a3,a4,a5,lo,ho,ow,se,br,e,v,rfl,L,he,hv,k⟩:=h
 refine ⟨_,aq (bT (bH (pv 0) T.cl m1 G1 hr b1 .nil bD (aj (pv 1) aA))) (aG (aW (aO (u1 hr) (cj (pv 0) rfl) (pv 1) (fun _ _=>rfl)))),?_⟩
 refine ⟨_,rfl,x,dx,_,rfl,L.o,rfl,_,rfl,x,dx,a1,a2,a3,a4,a5,lo,ho,ow,se,br,e,rfl,L,he,?_⟩
 exact ⟨_,rfl,x,C,dx,_,_,rfl,L.o,T.cl,T.n3,rfl,_,rfl,_,v,rfl,fP L.l3 hv,k⟩
theorem uV:aZ ["self", "estate"] ["self", "estate"] (aC j8):=⟨rfl,rfl,rfl,by decide +kernel,rfl,by decide +kernel,by decide +kernel⟩
theorem Ak (T:cX K C) (F:fH K "breadth" "Land.breadth" j8 f fd) {g1:Addr}{d1:FuncData} (G1:aL P w K mg base cu 2 g1 d1 ["self", "estate"] (iu C)) (m1:Meth K C "check_there" g1) (b1:Binds K d1 ["self", "estate"] []):aL P w K mg base cu 3 f fd ["self", "estate"] (pR C):=by
 refine F.ok uV (fun vs H Q E h=>?_) (fun cdv A outer s H vs Q E hr h=>?_)
 ·obtain ⟨x,dx,a1,a2,a3,a4,a5,lo,ho,ow,se,br,e,v,rfl,_⟩:=h
  rfl
 obtain ⟨x,dx,a1,a2,a3,a4,a5,lo,ho,ow,se,br,e,v,rfl,L,he,hv,k⟩:=h
 refine ⟨_,aq (bT (bH (pv 0) T.cl m1 G1 hr b1 .nil bD (aj (pv 1) aA))) (aG (aW (aO (u1 hr) (cj (pv 0) rfl) (pv 1) (fun _ _=>rfl)))),?_⟩
 refine ⟨_,rfl,x,dx,_,rfl,L.o,rfl,_,rfl,x,dx,a1,a2,a3,a4,a5,lo,ho,ow,se,br,e,rfl,L,he,?_⟩
 exact ⟨_,rfl,x,C,dx,_,_,rfl,L.o,T.cl,T.n5,rfl,_,rfl,_,v,rfl,fP L.l5 hv,k⟩
theorem uW:aZ ["self", "estate"] ["self", "estate"] (aC j9):=⟨rfl,rfl,rfl,by decide +kernel,rfl,by decide +kernel,by decide +kernel⟩
theorem Al (T:cX K C) (F:fH K "service" "Land.service" j9 f fd) {g1:Addr}{d1:FuncData} (G1:aL P w K mg base cu 2 g1 d1 ["self", "estate"] (iu C)) (m1:Meth K C "check_there" g1) (b1:Binds K d1 ["self", "estate"] []):aL P w K mg base cu 3 f fd ["self", "estate"] (pU C):=by
 refine F.ok uW (fun vs H Q E h=>?_) (fun cdv A outer s H vs Q E hr h=>?_)
 ·obtain ⟨x,dx,a1,a2,a3,a4,a5,lo,ho,ow,se,br,e,v,rfl,_⟩:=h
  rfl
 obtain ⟨x,dx,a1,a2,a3,a4,a5,lo,ho,ow,se,br,e,v,rfl,L,he,hv,k⟩:=h
 refine ⟨_,aq (bT (bH (pv 0) T.cl m1 G1 hr b1 .nil bD (aj (pv 1) aA))) (aG (aW (aO (u1 hr) (cj (pv 0) rfl) (pv 1) (fun _ _=>rfl)))),?_⟩
 refine ⟨_,rfl,x,dx,_,rfl,L.o,rfl,_,rfl,x,dx,a1,a2,a3,a4,a5,lo,ho,ow,se,br,e,rfl,L,he,?_⟩
 exact ⟨_,rfl,x,C,dx,_,_,rfl,L.o,T.cl,T.n4,rfl,_,rfl,_,v,rfl,fP L.l4 hv,k⟩
theorem qO:aZ ["self", "estate", "row"] ["self", "estate"] (aC n6):=⟨rfl,rfl,rfl,by decide +kernel,rfl,by decide +kernel,by decide +kernel⟩
set_option maxHeartbeats 4000000 in
theorem Ji (T:cX K C) (F:fH K "chain" "Land.chain" n6 f fd) {g1:Addr}{d1:FuncData} (G1:aL P w K mg base cu 2 g1 d1 ["self", "estate"] (iu C)) (m1:Meth K C "check_there" g1) (b1:Binds K d1 ["self", "estate"] []):aL P w K mg base cu 3 f fd ["self", "estate"] (wu C):=by
 refine F.ok qO (fun vs H Q E h=>?_) (fun cdv A outer s H vs Q E hr h=>?_)
 ·obtain ⟨x,dx,a1,a2,a3,a4,a5,lo,ho,ow,se,br,e,l,rfl,_⟩:=h
  rfl
 obtain ⟨x,dx,a1,a2,a3,a4,a5,lo,ho,ow,se,br,e,l,rfl,L,he,hc,hl,k⟩:=h
 refine ⟨_,aq (bT (bH (pv 0) T.cl m1 G1 hr b1 .nil bD (aj (pv 1) aA)))
  (aq (aY (i:=2) qO.nd rfl (Or.inl rfl) (cI aA))
  (aq (kJ PassesOwn.never (aM Cd (pv 1) rA (bA _))
   (aq (bT (ql PySem.F.plainAttrs_list PySem.F.slot_list_append PySem.F.type_list_append fU (pv 2) (aj (pv 1) aA)))
   (aG (aY (i:=1) qO.nd rfl (Or.inl rfl) (aO (u1 hr) (cj (pv 0) rfl) (pv 1) (fun _ _=>rfl))))))
  (aG (aW (pv 2))))),?_⟩
 refine ⟨_,rfl,x,dx,_,rfl,L.o,rfl,_,rfl,x,dx,a1,a2,a3,a4,a5,lo,ho,ow,se,br,e,rfl,L,he,?_⟩
 refine ⟨small (by simp),fun r hr0=>?_⟩
 refine ⟨fun m σ Hx=>∃ (l0 l1:List Str) (cur:V),m=l1.length∧l=l0++l1∧σ=[some (.ref x),some cur,some (.ref r)]∧Same H Hx∧Hx r=some (.lst (l0.map V.str))∧((cur=.non∧l1=[])∨∃ y,cur=.str y∧Ch lo y l1),
  ⟨_,[],l,.str e,rfl,rfl,rfl,aD hr0 _,ak,.inr ⟨e,rfl,hc⟩⟩,?_⟩
 rintro m σ Hx ⟨l0,l1,cur,rfl,hl0,rfl,sx,rx,hcur⟩
 have Lx:=L.same sx
 rcases hcur with ⟨rfl,rfl⟩ | ⟨y,rfl,hy⟩
 ·refine ⟨_,rfl,rfl,_,rfl,cB ?_⟩
  rw [List.append_nil] at hl0
  subst hl0
  exact ⟨_,rfl,k r Hx sx hr0 rx⟩
 ·refine ⟨_,rfl,rfl,_,rfl,dj ?_⟩
  have step:∀ (l2:List Str) (nx:V),l1=y::l2→bQ lo (.inr y)=some nx→((nx=.non∧l2=[])∨∃ z,nx=.str z∧Ch lo z l2)→_:=fun l2 nx e1 e2 e3=>(⟨e1,e2,e3⟩:l1=y::l2∧bQ lo (.inr y)=some nx∧((nx=.non∧l2=[])∨∃ z,nx=.str z∧Ch lo z l2))
  obtain ⟨l2,nx,e1,e2,e3⟩:∃ l2 nx,l1=y::l2∧bQ lo (.inr y)=some nx∧((nx=.non∧l2=[])∨∃ z,nx=.str z∧Ch lo z l2):=by
   cases hy with
   | crown h=>exact ⟨[],.non,rfl,h,.inl ⟨rfl,rfl⟩⟩
   | up h hc=>exact ⟨_,_,rfl,h,.inr ⟨_,rfl,hc⟩⟩
  subst e1
  refine ⟨fun σ' H'=>∃ (l0' l1':List Str) (cur:V),l1'.length<(y::l2).length∧l=l0'++l1'∧σ'=[some (.ref x),some cur,some (.ref r)]∧Same H H'∧H' r=some (.lst (l0'.map V.str))∧((cur=.non∧l1'=[])∨∃ y,cur=.str y∧Ch lo y l1'),
   fun σ' H' ⟨l0',l1',cur,q1,q⟩=>⟨_,q1,l0',l1',cur,rfl,q⟩,?_⟩
  have hll:l0.length+(l2.length+1)=l.length:=by rw [hl0,List.length_append,List.length_cons]
  refine ⟨_,rfl,.inl ⟨rfl,_,bR.of rx⟩,_,rfl,r,_,_,rfl,rfl,rx,(by rw [List.length_map];exact bY (by omega)),?_⟩
  have s2:=bB sx hr0 (o:=.lst (l0.map V.str++[V.str y]))
  refine ⟨_,rfl,x,C,dx,_,_,rfl,s2 _ _ L.o,T.cl,T.n1,rfl,_,rfl,_,nx,rfl,fP (s2 _ _ L.l1) e2,?_⟩
  exact ⟨l0++[y],l2,nx,by simp,by rw [hl0];simp,rfl,s2,by rw [ak,List.map_append];rfl,e3⟩
theorem Jj:aZ ["self", "estate", "man"] ["self", "estate", "man"] (aC lY):=⟨rfl,rfl,rfl,by decide +kernel,rfl,by decide +kernel,by decide +kernel⟩
theorem Fq (T:cX K C) (F:fH K "convey" "Land.convey" lY f fd):aL P w K mg base cu 1 f fd ["self", "estate", "man"] (yF C):=by
 refine F.ok Jj (fun vs H Q E h=>?_) (fun cdv A outer s H vs Q E hr h=>?_)
 ·obtain ⟨x,dx,a1,a2,a3,a4,a5,lo,ho,ow,se,br,e,man,rfl,_⟩:=h
  rfl
 obtain ⟨x,dx,a1,a2,a3,a4,a5,lo,ho,ow,se,br,e,man,rfl,L,hl,k⟩:=h
 refine ⟨_,aG (dX (u1 hr) (cj (pv 0) rfl) (pv 1) (pv 2) rfl),?_⟩
 exact ⟨_,rfl,_,rfl,x,C,dx,_,_,rfl,L.o,T.cl,T.n2,rfl,_,rfl,a2,_,rfl,gZ.k (k:=.inr e) L.l2 (bY (by omega)),k⟩
theorem WY:aZ ["self", "name", "lord", "holder", "acres", "service"] ["self", "name", "lord", "holder", "acres", "service"] (aC Fl):=⟨rfl,rfl,rfl,by decide +kernel,rfl,by decide +kernel,by decide +kernel⟩
set_option maxHeartbeats 4000000 in
theorem T6 (T:cX K C) (F:fH K "add_estate" "Land.add_estate" Fl f fd):aL P w K mg base cu 1 f fd ["self", "name", "lord", "holder", "acres", "service"] (Jf C):=by
 refine F.ok WY (fun vs H Q E h=>?_) (fun cdv A outer s H vs Q E hr h=>?_)
 ·obtain ⟨x,dx,a1,a2,a3,a4,a5,lo,ho,ow,se,br,n,lord,holder,acres,t,rfl,_⟩:=h
  rfl
 obtain ⟨x,dx,a1,a2,a3,a4,a5,lo,ho,ow,se,br,n,lord,holder,acres,t,rfl,L,ap,e1,e2,e3,e4,e5,k⟩:=h
 refine ⟨_,aq (dX (u1 hr) (cj (pv 0) rfl) (pv 1) (pv 2) rfl) (aq (dX (u1 hr) (cj (pv 0) rfl) (pv 1) (pv 3) rfl) (aq (dX (u1 hr) (cj (pv 0) rfl) (pv 1) (pv 4) rfl)
  (aq (dX (u1 hr) (cj (pv 0) rfl) (pv 1) (pv 5) rfl) (aG (dX (u1 hr) (cj (pv 0) rfl) (pv 1) (pv 4) rfl))))),?_⟩
 have x1:=bh L.o L.l1 (by intro q;cases q)
 have x2:=bh L.o L.l2 (by intro q;cases q)
 have x3:=bh L.o L.l3 (by intro q;cases q)
 have x4:=bh L.o L.l4 (by intro q;cases q)
 refine ⟨_,rfl,_,rfl,x,C,dx,_,_,rfl,L.o,T.cl,T.n1,rfl,_,rfl,a1,_,rfl,gZ.k (k:=.inr n) L.l1 (bY (by omega)),?_⟩
 refine ⟨_,rfl,_,rfl,x,C,dx,_,_,rfl,by rw [ao x1];exact L.o,T.cl,T.n2,rfl,_,rfl,a2,_,rfl,gZ.k (k:=.inr n) (by rw [ao (Ne.symm ap.n12)];exact L.l2) (bY (by omega)),?_⟩
 refine ⟨_,rfl,_,rfl,x,C,dx,_,_,rfl,by rw [ao x2,ao x1];exact L.o,T.cl,T.n3,rfl,_,rfl,a3,_,rfl,gZ.k (k:=.inr n) (by rw [ao (Ne.symm ap.n23),ao (Ne.symm ap.n13)];exact L.l3) (bY (by omega)),?_⟩
 refine ⟨_,rfl,_,rfl,x,C,dx,_,_,rfl,by rw [ao x3,ao x2,ao x1];exact L.o,T.cl,T.n4,rfl,_,rfl,a4,_,rfl,gZ.k (k:=.inr n) (by rw [ao (Ne.symm ap.n34),ao (Ne.symm ap.n24),ao (Ne.symm ap.n14)];exact L.l4) (bY (by omega)),?_⟩
 exact ⟨_,rfl,_,rfl,x,C,dx,_,_,rfl,by rw [ao x4,ao x3,ao x2,ao x1];exact L.o,T.cl,T.n5,rfl,_,rfl,a5,_,rfl,gZ.k (k:=.inr n) (by rw [ao (Ne.symm ap.n45),ao (Ne.symm ap.n35),ao (Ne.symm ap.n25),ao (Ne.symm ap.n15)];exact L.l5) (bY (by omega)),k⟩
end
end M
namespace M
open PySem L2 PyProof.Rows
def iB (kv:Key×V):Str:=match kv.1 with
 | .inr s=>s
 | .inl _=>""
def TK (kvs:List (Key×V)):Prop:=∀ kv∈kvs,kV kv.1=V.str (iB kv)
def TV (kvs:List (Key×V)):Prop:=∀ kv∈kvs,kv.2=.non∨∃ s,kv.2=.str s
theorem iY {p:Key×V→Bool}{kvs:List (Key×V)}{i:Nat}{kv:Key×V} (h:kvs[i]?=some kv):((kvs.take (i+1)).filter p).map (fun kv=>V.str (iB kv))=((kvs.take i).filter p).map (fun kv=>V.str (iB kv))++(if p kv=true then [V.str (iB kv)] else []):=by
 rw [List.take_add_one,h,List.filter_append,List.map_append]
 congr 1
 cases e:p kv <;> simp [e]
theorem sJ {p:Key×V→Bool}{kvs:List (Key×V)}{i n:Nat} (h:kvs.length≤n):(((kvs.take i).filter p).map (fun kv=>V.str (iB kv))).length≤n:=by
 rw [List.length_map]
 have:=List.length_filter_le p (kvs.take i)
 rw [List.length_take] at this
 omega
theorem strs_map (l:List (Key×V)):l.map (fun kv=>V.str (iB kv))=(l.map iB).map V.str:=by rw [List.map_map];rfl
theorem dB {x y:Str}:decide (V.str x=V.str y)=decide (x=y):=decide_eq_decide.mpr ⟨fun e=>by injection e,fun e=>by rw [e]⟩
def uX (C:Addr):Sp:=fun vs H Q _=>∃ x dx a1 a2 a3 a4 a5 lo ho ow se br,vs=[.ref x]∧bZ C H x dx a1 a2 a3 a4 a5 lo ho ow se br∧TK lo∧lo.length<64∧∀ r ss H',Same H H'→H r=none→H' r=some (.lst (ss.map V.str))→ss.Perm ((lo.filter fun kv=>!decide (iB kv="")).map iB)→sortedS ss=true→Q (.ref r) H'
def Am (C:Addr):Sp:=fun vs H Q _=>∃ x dx a1 a2 a3 a4 a5 lo ho ow se br man,vs=[.ref x,.str man]∧bZ C H x dx a1 a2 a3 a4 a5 lo ho ow se br∧TK ho∧TV ho∧ho.length<64∧∀ r ss H',Same H H'→H r=none→H' r=some (.lst (ss.map V.str))→ss.Perm ((ho.filter fun kv=>decide (kv.2=.str man)).map iB)→sortedS ss=true→Q (.ref r) H'
def qP (C:Addr):Sp:=fun vs H Q _=>∃ x dx a1 a2 a3 a4 a5 lo ho ow se br e,vs=[.ref x,.str e]∧bZ C H x dx a1 a2 a3 a4 a5 lo ho ow se br∧(bQ lo (.inr e)).isSome=true∧TK lo∧TV lo∧lo.length<64∧∀ r ss H',Same H H'→H r=none→H' r=some (.lst (ss.map V.str))→ss.Perm ((lo.filter fun kv=>decide (kv.2=.str e)).map iB)→sortedS ss=true→Q (.ref r) H'
section
variable {P:Program}{w:World}{K:PySem.W.Frag}{mg:Str→Option Value}{base:Heap}{f C:Addr}{fd:FuncData}
theorem X3:aZ ["self"] ["self"] (aC iZ):=⟨rfl,rfl,rfl,by decide +kernel,rfl,by decide +kernel,by decide +kernel⟩
def scE1:Scope:={ kind:=.function,names:=[(".0",.local),("name",.local),("CROWN",.globalImplicit)],isGenerator:=false,isCoroutine:=false }
theorem csE1:cT ["self"] (aC iZ) scE1 ["name"] [] []:=⟨rfl,by decide +kernel,by decide +kernel,by decide +kernel,rfl,by decide +kernel⟩
theorem ndE1:((["name"]:List Str)++([]:List Str)).Nodup:=by decide +kernel
theorem jC {H Hz:Hp}{a:Addr}{o:Obj}{kvs:List (Key×V)} (h:H a=some (.dK kvs)) (s:Same (upd H a (.fX o (.dK kvs))) Hz):Same H (upd Hz a (.dK kvs)):=fun b u q=>by
 by_cases e:b=a
 ·subst e
  rw [h] at q
  cases q
  exact ak
 ·rw [ao e]
  exact s b u (by rw [ao e];exact q)
set_option maxHeartbeats 4000000 in
theorem Ao (T:cX K C) {tc:Tok} (mC:mg "CROWN"=some (.str "" tc)) (ms:mg "sorted"=none) (F:fH K "estates" "Land.estates" iZ f fd):aL P w K mg base cu 1 f fd ["self"] (uX C):=by
 refine F.ok X3 (fun vs H Q E h=>?_) (fun cdv A outer s H vs Q E hr h=>?_)
 ·obtain ⟨x,dx,a1,a2,a3,a4,a5,lo,ho,ow,se,br,rfl,_⟩:=h
  rfl
 obtain ⟨x,dx,a1,a2,a3,a4,a5,lo,ho,ow,se,br,rfl,L,tk,hl,k⟩:=h
 refine ⟨_,aG (aW (aP dF rfl ms eG (aj (mY (fJ rfl csE1 (oJ (cj (pv 0) rfl)) (fun s H fp C'=>⟨bL (i:=0) ndE1 rfl (Or.inl rfl),eU (aM jT (pv 0) (dz rfl mC ⟨_,rfl⟩ (v:=.str "")) (bA _)),pv 0⟩))) aA))),?_⟩
 have nx:=bh L.o L.l1 (by intro q;cases q)
 refine ⟨a1,lo,L.l1,fun o=>⟨_,rfl,x,C,dx,_,_,rfl,by rw [ao nx];exact L.o,T.cl,T.n1,rfl,a1,o,lo,rfl,ak,fun D hD=>?_⟩⟩
 have nD:a1≠D:=aH (show (upd H a1 (.fX o (.dK lo))) a1=some (.fX o (.dK lo)) from ak) hD
 have Vn:H D=none:=by rw [ao (Ne.symm nD)] at hD;exact hD
 refine uM (o:=o) (fun i ys Hz=>ys=((lo.take i).filter fun kv=>!decide (iB kv="")).map (fun kv=>V.str (iB kv))∧Same (upd H a1 (.fX o (.dK lo))) Hz∧Hz D=some (.lst ys)) (fun i ys Hz h=>h.2.1 _ _ ak) ⟨rfl,aD hD _,ak⟩ (fun i ys Hz h=>h.2.2) ?_ ?_
 ·rintro i ys Hz kv hkv ⟨rfl,sz,gG⟩
  rw [tk kv (List.mem_of_getElem? hkv)]
  refine ⟨Kp.set rfl (Kp.refl _),?_⟩
  refine ⟨_,rfl,rfl,_,rfl,?_⟩
  rw [dB]
  refine eZ (fun c=>?_) (fun c=>?_)
  ·refine ⟨_,rfl,gG,Nat.lt_of_le_of_lt (sJ (Nat.le_of_lt hl)) (by decide),?_,bB sz hD,ak⟩
   rw [iY hkv,if_pos c]
  ·refine ⟨?_,sz,gG⟩
   rw [iY hkv,if_neg c,List.append_nil]
 ·rintro ys Hz ⟨rfl,sz,gG⟩
  rw [List.take_length] at gG
  refine ⟨sz _ _ ak,?_⟩
  have s2:=jC L.l1 sz
  have hDt:(upd Hz a1 (.dK lo)) D=some (.lst (((lo.filter fun kv=>!decide (iB kv="")).map iB).map V.str)):=by rw [ao (Ne.symm nD),gG,strs_map]
  refine ⟨D,_,rfl,bR.of hDt,?_,fun l ss hl0 hp hs=>?_⟩
  ·rw [List.length_map]
   exact Nat.lt_of_le_of_lt (List.length_filter_le _ _) hl
  ·exact k l ss _ (bB s2 (s2.free hl0)) (s2.free hl0) ak hp hs
theorem T7:aZ ["self", "man"] ["self", "man"] (aC sG):=⟨rfl,rfl,rfl,by decide +kernel,rfl,by decide +kernel,by decide +kernel⟩
def X4:Scope:={ kind:=.function,names:=[(".0",.local),("name",.local),("holder",.local),("man",.free)],isGenerator:=false,isCoroutine:=false }
theorem X5:cT ["self", "man"] (aC sG) X4 ["name", "holder"] ["man"] [1]:=⟨rfl,by decide +kernel,by decide +kernel,by decide +kernel,rfl,by decide +kernel⟩
theorem PK:((["name", "holder"]:List Str)++(["man"]:List Str)).Nodup:=by decide +kernel
theorem wz {α:Type}{g:Key×V→α}{kvs:List (Key×V)}{i:Nat}{d:α}{kv:Key×V} (h:kvs[i]?=some kv):(kvs.map g).getD i d=g kv:=by rw [List.getD_eq_getElem?_getD,List.getElem?_map,h];rfl
set_option maxHeartbeats 4000000 in
theorem MF (T:cX K C) (ms:mg "sorted"=none) (F:fH K "held" "Land.held" sG f fd):aL P w K mg base cu 1 f fd ["self", "man"] (Am C):=by
 refine F.ok T7 (fun vs H Q E h=>?_) (fun cdv A outer s H vs Q E hr h=>?_)
 ·obtain ⟨x,dx,a1,a2,a3,a4,a5,lo,ho,ow,se,br,man,rfl,_⟩:=h
  rfl
 obtain ⟨x,dx,a1,a2,a3,a4,a5,lo,ho,ow,se,br,man,rfl,L,tk,tv,hl,k⟩:=h
 refine ⟨_,aG (aW (aP dF rfl ms eG (aj (mY (fJ rfl X5 (yj (cj (pv 0) rfl)) (fun s H fp C'=>⟨qL (K:=K) (n:=2) rfl (dZ (bL (i:=0) PK rfl (Or.inl rfl)) (dZ (bL (i:=1) PK rfl (Or.inl rfl)) lN)),eU (aM cH (pv 1) (pv 2) (bA _)),pv 0⟩))) aA))),?_⟩
 have nx:=bh L.o L.l2 (by intro q;cases q)
 refine ⟨a2,ho,L.l2,fun o=>⟨_,rfl,x,C,dx,_,_,rfl,by rw [ao nx];exact L.o,T.cl,T.n2,rfl,a2,o,ho,rfl,ak,fun D hD=>?_⟩⟩
 have nD:a2≠D:=aH (show (upd H a2 (.fX o (.dK ho))) a2=some (.fX o (.dK ho)) from ak) hD
 refine o8 (n:=ho.length) (fx:=fun i=>(ho.map fun kv=>kV kv.1).getD i .non) (fy:=fun i=>(ho.map fun kv=>kv.2).getD i .non) (fun i ys Hz=>ys=((ho.take i).filter fun kv=>decide (kv.2=.str man)).map (fun kv=>V.str (iB kv))∧Same (upd H a2 (.fX o (.dK ho))) Hz∧Hz D=some (.lst ys))
  (fun i ys Hz h=>qt (h.2.1 _ _ ak)) ⟨rfl,aD hD _,ak⟩ (fun i ys Hz h=>h.2.2) ?_ ?_
 ·rintro i ys Hz p hi ⟨rfl,sz,gG⟩ hp
  have hkv:ho[i]?=some ho[i]:=List.getElem?_eq_getElem hi
  rw [wz hkv,wz hkv]
  have hm:=List.getElem_mem hi
  rw [tk _ hm]
  have npD:D≠p:=aH gG hp
  have sp:=aD hp (.tup [V.str (iB ho[i]),(ho[i]).2])
  refine ⟨p,_,rfl,bM.of ak,rfl,_,_,rfl,_,_,rfl,rfl,Kp.set rfl (Kp.set rfl (Kp.refl _)),?_⟩
  have hsc:GP (ho[i]).2 (V.str man)=true:=by
   rcases tv _ hm with e | ⟨z,e⟩ <;> rw [e] <;> rfl
  refine ⟨_,rfl,_,rfl,hsc,_,rfl,?_⟩
  refine eZ (fun c=>?_) (fun c=>?_)
  ·refine ⟨_,rfl,sp _ _ gG,Nat.lt_of_le_of_lt (sJ (Nat.le_of_lt hl)) (by decide),?_,bB (sz.trans sp) hD,ak⟩
   rw [iY hkv,if_pos c]
  ·refine ⟨?_,sz.trans sp,sp _ _ gG⟩
   rw [iY hkv,if_neg c,List.append_nil]
 ·rintro ys Hz ⟨rfl,sz,gG⟩
  rw [List.take_length] at gG
  refine ⟨sz _ _ ak,?_⟩
  have s2:=jC L.l2 sz
  have hDt:(upd Hz a2 (.dK ho)) D=some (.lst (((ho.filter fun kv=>decide (kv.2=.str man)).map iB).map V.str)):=by rw [ao (Ne.symm nD),gG,strs_map]
  refine ⟨D,_,rfl,bR.of hDt,?_,fun l ss hl0 hp hs=>?_⟩
  ·rw [List.length_map]
   exact Nat.lt_of_le_of_lt (List.length_filter_le _ _) hl
  ·exact k l ss _ (bB s2 (s2.free hl0)) (s2.free hl0) ak hp hs
theorem X6:aZ ["self", "estate"] ["self", "estate"] (aC lC):=⟨rfl,rfl,rfl,by decide +kernel,rfl,by decide +kernel,by decide +kernel⟩
def X7:Scope:={ kind:=.function,names:=[(".0",.local),("name",.local),("lord",.local),("estate",.free)],isGenerator:=false,isCoroutine:=false }
theorem X8:cT ["self", "estate"] (aC lC) X7 ["name", "lord"] ["estate"] [1]:=⟨rfl,by decide +kernel,by decide +kernel,by decide +kernel,rfl,by decide +kernel⟩
theorem PL:((["name", "lord"]:List Str)++(["estate"]:List Str)).Nodup:=by decide +kernel
set_option maxHeartbeats 4000000 in
theorem Jk (T:cX K C) (ms:mg "sorted"=none) (F:fH K "under" "Land.under" lC f fd) {g1:Addr}{d1:FuncData} (G1:aL P w K mg base cu 2 g1 d1 ["self", "estate"] (iu C)) (m1:Meth K C "check_there" g1) (b1:Binds K d1 ["self", "estate"] []):aL P w K mg base cu 3 f fd ["self", "estate"] (qP C):=by
 refine F.ok X6 (fun vs H Q E h=>?_) (fun cdv A outer s H vs Q E hr h=>?_)
 ·obtain ⟨x,dx,a1,a2,a3,a4,a5,lo,ho,ow,se,br,man,rfl,_⟩:=h
  rfl
 obtain ⟨x,dx,a1,a2,a3,a4,a5,lo,ho,ow,se,br,man,rfl,L,he,tk,tv,hl,k⟩:=h
 refine ⟨_,aq (bT (bH (pv 0) T.cl m1 G1 hr b1 .nil bD (aj (pv 1) aA))) (aG (aW (aP dF rfl ms eG (aj (mY (fJ rfl X8 (yj (cj (pv 0) rfl)) (fun s H fp C'=>⟨qL (K:=K) (n:=2) rfl (dZ (bL (i:=0) PL rfl (Or.inl rfl)) (dZ (bL (i:=1) PL rfl (Or.inl rfl)) lN)),eU (aM cH (pv 1) (pv 2) (bA _)),pv 0⟩))) aA)))),?_⟩
 refine ⟨_,rfl,x,dx,_,rfl,L.o,rfl,_,rfl,x,dx,a1,a2,a3,a4,a5,lo,ho,ow,se,br,man,rfl,L,he,?_⟩
 have nx:=bh L.o L.l1 (by intro q;cases q)
 refine ⟨a1,lo,L.l1,fun o=>⟨_,rfl,x,C,dx,_,_,rfl,by rw [ao nx];exact L.o,T.cl,T.n1,rfl,a1,o,lo,rfl,ak,fun D hD=>?_⟩⟩
 have nD:a1≠D:=aH (show (upd H a1 (.fX o (.dK lo))) a1=some (.fX o (.dK lo)) from ak) hD
 refine o8 (n:=lo.length) (fx:=fun i=>(lo.map fun kv=>kV kv.1).getD i .non) (fy:=fun i=>(lo.map fun kv=>kv.2).getD i .non) (fun i ys Hz=>ys=((lo.take i).filter fun kv=>decide (kv.2=.str man)).map (fun kv=>V.str (iB kv))∧Same (upd H a1 (.fX o (.dK lo))) Hz∧Hz D=some (.lst ys))
  (fun i ys Hz h=>qt (h.2.1 _ _ ak)) ⟨rfl,aD hD _,ak⟩ (fun i ys Hz h=>h.2.2) ?_ ?_
 ·rintro i ys Hz p hi ⟨rfl,sz,gG⟩ hp
  have hkv:lo[i]?=some lo[i]:=List.getElem?_eq_getElem hi
  rw [wz hkv,wz hkv]
  have hm:=List.getElem_mem hi
  rw [tk _ hm]
  have npD:D≠p:=aH gG hp
  have sp:=aD hp (.tup [V.str (iB lo[i]),(lo[i]).2])
  refine ⟨p,_,rfl,bM.of ak,rfl,_,_,rfl,_,_,rfl,rfl,Kp.set rfl (Kp.set rfl (Kp.refl _)),?_⟩
  have hsc:GP (lo[i]).2 (V.str man)=true:=by
   rcases tv _ hm with e | ⟨z,e⟩ <;> rw [e] <;> rfl
  refine ⟨_,rfl,_,rfl,hsc,_,rfl,?_⟩
  refine eZ (fun c=>?_) (fun c=>?_)
  ·refine ⟨_,rfl,sp _ _ gG,Nat.lt_of_le_of_lt (sJ (Nat.le_of_lt hl)) (by decide),?_,bB (sz.trans sp) hD,ak⟩
   rw [iY hkv,if_pos c]
  ·refine ⟨?_,sz.trans sp,sp _ _ gG⟩
   rw [iY hkv,if_neg c,List.append_nil]
 ·rintro ys Hz ⟨rfl,sz,gG⟩
  rw [List.take_length] at gG
  refine ⟨sz _ _ ak,?_⟩
  have s2:=jC L.l1 sz
  have hDt:(upd Hz a1 (.dK lo)) D=some (.lst (((lo.filter fun kv=>decide (kv.2=.str man)).map iB).map V.str)):=by rw [ao (Ne.symm nD),gG,strs_map]
  refine ⟨D,_,rfl,bR.of hDt,?_,fun l ss hl0 hp hs=>?_⟩
  ·rw [List.length_map]
   exact Nat.lt_of_le_of_lt (List.length_filter_le _ _) hl
  ·exact k l ss _ (bB s2 (s2.free hl0)) (s2.free hl0) ak hp hs
end
end M
namespace M
open PySem L2 PyProof.Rows
def Dd (C:Addr):Sp:=fun vs H Q _=>∃ x dx a1 a2 a3 a4 a5 lo ho ow se br e n man,∃ acres service own:Int,vs=[.ref x,.str e,.str n,.str man,.int acres,.int service]∧bZ C H x dx a1 a2 a3 a4 a5 lo ho ow se br∧T4 a1 a2 a3 a4 a5∧bQ ow (.inr e)=some (.int own)∧lo.length≤900∧ho.length≤900∧ow.length≤800∧se.length≤900∧br.length≤900 ∧
 ∀ t,H t=none→Q .non (pW (upd (upd H a3 (.dK (putK ow (.inr e) (.int (own - acres))))) t (.tup [.int service,.int 1])) a1 a2 a3 a4 a5 lo ho (putK ow (.inr e) (.int (own - acres))) se br n e man acres t)
def moved (lo:List (Key×V)) (ss:List Str) (p:Str):List (Key×V):=ss.foldl (fun acc n=>putK acc (.inr n) (.str p)) lo
theorem sO (lo:List (Key×V)) (ss:List Str) (n p:Str):moved lo (ss++[n]) p=putK (moved lo ss p) (.inr n) (.str p):=by
 unfold moved;rw [List.foldl_append];rfl
theorem uY (lo:List (Key×V)) (p:Str) (ss:List Str):(moved lo ss p).length≤lo.length+ss.length:=by
 unfold moved
 induction ss generalizing lo with
 | nil=>exact Nat.le_refl _
 | cons n r ih =>
  rw [List.foldl_cons,List.length_cons]
  have h1:=ih (putK lo (.inr n) (.str p))
  have h2:=cW lo (.inr n) (.str p)
  omega
def Jl (C:Addr):Sp:=fun vs H Q _=>∃ x dx a1 a2 a3 a4 a5 lo ho ow se br e p,∃ own1 tX:Int,vs=[.ref x,.str e]∧bZ C H x dx a1 a2 a3 a4 a5 lo ho ow se br∧T4 a1 a2 a3 a4 a5∧bQ lo (.inr e)=some (.str p)∧bQ ow (.inr e)=some (.int own1)∧bQ ow (.inr p)=some (.int tX) ∧
 (bQ ho (.inr e)).isSome=true∧(bQ se (.inr e)).isSome=true∧(bQ br (.inr e)).isSome=true∧TK lo∧TV lo∧lo.length<64∧ow.length≤800 ∧
 ∀ ss H',ss.Perm ((lo.filter fun kv=>decide (kv.2=.str e)).map iB)→(bQ (moved lo ss p) (.inr e)).isSome=true →
  bZ C H' x dx a1 a2 a3 a4 a5 (gY (moved lo ss p) (.inr e)) (gY ho (.inr e)) (gY (putK ow (.inr p) (.int (tX+own1))) (.inr e)) (gY se (.inr e)) (gY br (.inr e)) →
  (∀ c o,c≠a1→c≠a2→c≠a3→c≠a4→c≠a5→H c=some o→H' c=some o)→Q .non H'
theorem Aq {lo:List (Key×V)}{k:Key}{p:Str} (h:(bQ lo k).isSome=true):∀ ss:List Str,(bQ (moved lo ss p) k).isSome=true:=by
 intro ss
 unfold moved
 induction ss generalizing lo with
 | nil=>exact h
 | cons n r ih =>
  rw [List.foldl_cons]
  refine ih ?_
  rw [bF]
  by_cases q:k=.inr n
  ·rw [if_pos q];rfl
  ·rw [if_neg q];exact h
section
variable {P:Program}{w:World}{K:PySem.W.Frag}{mg:Str→Option Value}{base:Heap}{f C:Addr}{fd:FuncData}
theorem MJ:aZ ["self", "estate", "new", "man", "acres", "service"] ["self", "estate", "new", "man", "acres", "service"] (aC pQ):=⟨rfl,rfl,rfl,by decide +kernel,rfl,by decide +kernel,by decide +kernel⟩
set_option maxHeartbeats 4000000 in
theorem Jm (T:cX K C) (F:fH K "grant" "Land.grant" pQ f fd) {g1:Addr}{d1:FuncData} (G1:aL P w K mg base cu 1 g1 d1 ["self", "name", "lord", "holder", "acres", "service"] (Jf C)) (m1:Meth K C "add_estate" g1) (b1:Binds K d1 ["self", "name", "lord", "holder", "acres", "service"] []) :
  aL P w K mg base cu 2 f fd ["self", "estate", "new", "man", "acres", "service"] (Dd C):=by
 refine F.ok MJ (fun vs H Q E h=>?_) (fun cdv A outer s H vs Q E hr h=>?_)
 ·obtain ⟨x,dx,a1,a2,a3,a4,a5,lo,ho,ow,se,br,e,n,man,acres,service,own,rfl,_⟩:=h
  rfl
 obtain ⟨x,dx,a1,a2,a3,a4,a5,lo,ho,ow,se,br,e,n,man,acres,service,own,rfl,L,ap,hn,e1,e2,e3,e4,e5,k⟩:=h
 refine ⟨_,aq (lX (u1 hr) (cj (pv 0) rfl) (pv 1) (pv 4) vJ (fun _ _ _=>rfl))
  (aG (bT (bH (pv 0) T.cl m1 G1 hr b1 .nil bD (aj (pv 2) (aj (pv 1) (aj (pv 3) (aj (pv 4) (aj (cG (aj (pv 5) (aj au aA))) aA)))))))),?_⟩
 refine ⟨_,rfl,x,C,dx,_,_,rfl,L.o,T.cl,T.n3,rfl,_,rfl,a3,_,rfl,fP L.l3 hn,_,rfl,_,_,rfl,rfl,_,gZ.k (k:=.inr e) L.l3 (bY (by omega)),?_⟩
 have L1:bZ C (upd H a3 (.dK (putK ow (.inr e) (.int (own - acres))))) x dx a1 a2 a3 a4 a5 lo ho (putK ow (.inr e) (.int (own - acres))) se br :=
  ⟨by rw [ao (bh L.o L.l3 (by intro q;cases q))];exact L.o,by rw [ao ap.n13];exact L.l1,by rw [ao ap.n23];exact L.l2,ak,by rw [ao (Ne.symm ap.n34)];exact L.l4,by rw [ao (Ne.symm ap.n35)];exact L.l5⟩
 refine ⟨_,rfl,x,dx,_,rfl,L1.o,rfl,_,rfl,_,rfl,_,rfl,_,rfl,_,rfl,small (by simp),fun t ht=>?_⟩
 have nt:t≠a3:=fun q=>by rw [q,ak] at ht;cases ht
 have ht0:H t=none:=by rw [ao nt] at ht;exact ht
 have hl:=cW ow (.inr e) (.int (own - acres))
 exact ⟨x,dx,a1,a2,a3,a4,a5,lo,ho,_,se,br,n,e,man,acres,t,rfl,L1.same (aD ht _),ap,e1,e2,by omega,e4,e5,k t ht0⟩
theorem Ar:aZ ["self", "estate", "lord", "name"] ["self", "estate"] (aC uU):=⟨rfl,rfl,rfl,by decide +kernel,rfl,by decide +kernel,by decide +kernel⟩
set_option maxHeartbeats 8000000 in
theorem MN (T:cX K C) (F:fH K "fall_back" "Land.fall_back" uU f fd) {g1:Addr}{d1:FuncData} (G1:aL P w K mg base cu 3 g1 d1 ["self", "estate"] (qP C)) (m1:Meth K C "under" g1) (b1:Binds K d1 ["self", "estate"] []) :
  aL P w K mg base cu 4 f fd ["self", "estate"] (Jl C):=by
 refine F.ok Ar (fun vs H Q E h=>?_) (fun cdv A outer s H vs Q E hr h=>?_)
 ·obtain ⟨x,dx,a1,a2,a3,a4,a5,lo,ho,ow,se,br,e,p,own1,tX,rfl,_⟩:=h
  rfl
 obtain ⟨x,dx,a1,a2,a3,a4,a5,lo,ho,ow,se,br,e,p,own1,tX,rfl,L,ap,hlo,ho1,ho2,hh,hse,hbr,tk,tv,hl,how,k⟩:=h
 refine ⟨_,aq (aY (i:=2) Ar.nd rfl (Or.inl rfl) (aO (u1 hr) (cj (pv 0) rfl) (pv 1) (fun _ _=>rfl)))
  (aq (lX (u1 hr) (cj (pv 0) rfl) (pv 2) (aO (u1 hr) (cj (pv 0) rfl) (pv 1) (fun _ _=>rfl)) GZ (fun _ _ _=>rfl))
  (aq (jk PassesOwn.never rfl (fD (bH (pv 0) T.cl m1 G1 hr b1 .nil bD (aj (pv 1) aA))) (bL (i:=3) Ar.nd rfl (Or.inl rfl)) (aG (dX (u1 hr) (cj (pv 0) rfl) (pv 3) (pv 2) rfl)))
  (aq (oF (cj (pv 0) rfl) (pv 1)) (aq (oF (cj (pv 0) rfl) (pv 1)) (aq (oF (cj (pv 0) rfl) (pv 1)) (aq (oF (cj (pv 0) rfl) (pv 1)) (aG (oF (cj (pv 0) rfl) (pv 1))))))))),?_⟩
 refine ⟨_,rfl,x,C,dx,_,_,rfl,L.o,T.cl,T.n1,rfl,_,rfl,_,_,rfl,fP L.l1 hlo,?_⟩
 refine ⟨_,rfl,x,C,dx,_,_,rfl,L.o,T.cl,T.n3,rfl,_,rfl,a3,_,rfl,fP L.l3 ho2,_,rfl,x,C,dx,_,_,rfl,L.o,T.cl,T.n3,rfl,_,rfl,_,_,rfl,fP L.l3 ho1,_,_,rfl,rfl,_,gZ.k (k:=.inr p) L.l3 (bY (by omega)),?_⟩
 have L1:bZ C (upd H a3 (.dK (putK ow (.inr p) (.int (tX+own1))))) x dx a1 a2 a3 a4 a5 lo ho (putK ow (.inr p) (.int (tX+own1))) se br :=
  ⟨by rw [ao (bh L.o L.l3 (by intro q;cases q))];exact L.o,by rw [ao ap.n13];exact L.l1,by rw [ao ap.n23];exact L.l2,ak,by rw [ao (Ne.symm ap.n34)];exact L.l4,by rw [ao (Ne.symm ap.n35)];exact L.l5⟩
 have fr1:∀ c o,c≠a3→H c=some o→(upd H a3 (.dK (putK ow (.inr p) (.int (tX+own1))))) c=some o:=fun c o hc q=>by rw [ao hc];exact q
 have hown:(bQ (putK ow (.inr p) (.int (tX+own1))) (.inr e)).isSome=true:=by
  rw [bF]
  by_cases q:(Sum.inr e:Key)=.inr p
  ·rw [if_pos q];rfl
  ·rw [if_neg q,ho1];rfl
 generalize upd H a3 (.dK (putK ow (.inr p) (.int (tX+own1))))=H1 at L1 fr1 ⊢
 generalize putK ow (.inr p) (.int (tX+own1))=ow1 at L1 hown k ⊢
 refine ⟨_,rfl,x,dx,_,rfl,L1.o,rfl,_,rfl,x,dx,a1,a2,a3,a4,a5,lo,ho,ow1,se,br,e,rfl,L1,by rw [hlo];rfl,tk,tv,hl,fun r ss H2 s2 hr0 hr2 hp hs=>?_⟩
 have hsl:ss.length≤lo.length:=by
  rw [hp.length_eq,List.length_map]
  exact List.length_filter_le _ _
 have L2:=L1.same s2
 refine ⟨r,rfl,⟨_,bR.of hr2⟩,kW (K:=K) (a:=r) (xs:=ss.map V.str) (fun i σ Hx=>(∃ u3,σ=[some (.ref x),some (.str e),some (.str p),u3])∧Hx r=some (.lst (ss.map V.str))∧bZ C Hx x dx a1 a2 a3 a4 a5 (moved lo (ss.take i) p) ho ow1 se br∧∀ c o,c≠a1→H1 c=some o→Hx c=some o)
  ⟨⟨none,rfl⟩,hr2,L2,fun c o _ q=>s2 c o q⟩ (fun i σ Hx _ h=>bR.of h.2.1) ?_ ?_⟩
 ·rintro i v σ Hx hv ⟨⟨u3,rfl⟩,rx,Lx,fx⟩
  rw [List.getElem?_map] at hv
  obtain ⟨n,hn,rfl⟩:=Option.map_eq_some_iff.mp hv
  have hml:=uY lo p (ss.take i)
  rw [List.length_take] at hml
  refine ⟨_,rfl,_,rfl,x,C,dx,_,_,rfl,Lx.o,T.cl,T.n1,rfl,_,rfl,a1,_,rfl,gZ.k (k:=.inr n) Lx.l1 (bY (by omega)),?_⟩
  have em:moved lo (ss.take (i+1)) p=putK (moved lo (ss.take i) p) (.inr n) (.str p):=by rw [List.take_add_one,hn];exact sO _ _ _ _
  refine ⟨⟨_,rfl⟩,by rw [ao (bh rx Lx.l1 (by intro q;cases q))];exact rx,⟨by rw [ao (bh Lx.o Lx.l1 (by intro q;cases q))];exact Lx.o,by rw [em];exact ak,by rw [ao (Ne.symm ap.n12)];exact Lx.l2,by rw [ao (Ne.symm ap.n13)];exact Lx.l3,by rw [ao (Ne.symm ap.n14)];exact Lx.l4,by rw [ao (Ne.symm ap.n15)];exact Lx.l5⟩,fun c o hc q=>by rw [ao hc];exact fx c o hc q⟩
 ·rintro σ Hx ⟨⟨u3,rfl⟩,rx,Lx,fx⟩
  rw [List.length_map,List.take_length] at Lx
  have hmv:=Aq (p:=p) (show (bQ lo (.inr e)).isSome=true by rw [hlo];rfl) ss
  have x1:=bh Lx.o Lx.l1 (by intro q;cases q)
  have x2:=bh Lx.o Lx.l2 (by intro q;cases q)
  have x3:=bh Lx.o Lx.l3 (by intro q;cases q)
  have x4:=bh Lx.o Lx.l4 (by intro q;cases q)
  have x5:=bh Lx.o Lx.l5 (by intro q;cases q)
  refine ⟨_,rfl,x,C,dx,_,_,rfl,Lx.o,T.cl,T.n1,rfl,_,rfl,a1,_,.inr e,rfl,Lx.l1,rfl,hmv,?_⟩
  refine ⟨_,rfl,x,C,dx,_,_,rfl,by rw [ao x1];exact Lx.o,T.cl,T.n2,rfl,_,rfl,a2,_,.inr e,rfl,by rw [ao (Ne.symm ap.n12)];exact Lx.l2,rfl,hh,?_⟩
  refine ⟨_,rfl,x,C,dx,_,_,rfl,by rw [ao x2,ao x1];exact Lx.o,T.cl,T.n3,rfl,_,rfl,a3,_,.inr e,rfl,by rw [ao (Ne.symm ap.n23),ao (Ne.symm ap.n13)];exact Lx.l3,rfl,hown,?_⟩
  refine ⟨_,rfl,x,C,dx,_,_,rfl,by rw [ao x3,ao x2,ao x1];exact Lx.o,T.cl,T.n4,rfl,_,rfl,a4,_,.inr e,rfl,by rw [ao (Ne.symm ap.n34),ao (Ne.symm ap.n24),ao (Ne.symm ap.n14)];exact Lx.l4,rfl,hse,?_⟩
  refine ⟨_,rfl,x,C,dx,_,_,rfl,by rw [ao x4,ao x3,ao x2,ao x1];exact Lx.o,T.cl,T.n5,rfl,_,rfl,a5,_,.inr e,rfl,by rw [ao (Ne.symm ap.n45),ao (Ne.symm ap.n35),ao (Ne.symm ap.n25),ao (Ne.symm ap.n15)];exact Lx.l5,rfl,hbr,?_⟩
  refine k ss _ hp hmv ⟨?_,?_,?_,?_,?_,ak⟩ fun c o c1 c2 c3 c4 c5 q=>?_
  ·rw [ao x5,ao x4,ao x3,ao x2,ao x1];exact Lx.o
  ·rw [ao ap.n15,ao ap.n14,ao ap.n13,ao ap.n12,ak]
  ·rw [ao ap.n25,ao ap.n24,ao ap.n23,ak]
  ·rw [ao ap.n35,ao ap.n34,ak]
  ·rw [ao ap.n45,ak]
  ·rw [ao c5,ao c4,ao c3,ao c2,ao c1]
   exact fx c o c1 (fr1 c o c3 q)
end
end M
namespace M
open PySem L2 PyProof.Rows
abbrev Ft:Stmt:=top 16
abbrev uZ:Stmt:=top 14
abbrev pX:Stmt:=top 15
abbrev v7:Stmt:=top 21
abbrev qu:Stmt:=top 22
abbrev Fv:Stmt:=top 23
def v8 (v:Int):Prop:=0≤v∧v<1000003
theorem wA {fs:List Int}{v:Int} (h:∀ x∈fs,v8 x) (hv:v8 v):∀ x∈fs++[v],v8 x:=fun x hx=>by
 rcases List.mem_append.mp hx with z | z
 ·exact h x z
 ·rw [List.mem_singleton.mp z];exact hv
theorem qQ (fs:List Int) (v:Int):fs.map V.int++[V.int v]=(fs++[v]).map V.int:=by simp
def Jo (K:PySem.W.Frag):Sp:=fun vs H Q _=>∃ (a:Addr) (ns:List Int) (many:Int),vs=[.ref a,.int many]∧bR K H a (ns.map V.int)∧ns.length≤63∧0≤many∧many≤100000 ∧
 ∀ (r:Addr) (H':Hp) (fs:List Int),Same H H'→H r=none→H' r=some (.lst (fs.map V.int))→(fs.length:Int)=many→(∀ v∈fs,v8 v)→Q (.ref r) H'
section
variable {P:Program}{w:World}{K:PySem.W.Frag}{mg:Str→Option Value}{base:Heap}{f:Addr}{fd:FuncData}
theorem ju:aZ ["_law_script", "_law_many", "_law_feed_here", "_law_salt", "_law_cell", "_law_rest", "_law_k"] ["_law_script", "_law_many"] (aC v7):=⟨rfl,rfl,rfl,by decide +kernel,rfl,by decide +kernel,by decide +kernel⟩
theorem MP (F:fH K "_law_feed" "_law_feed" v7 f fd) (mr:mg "range"=none) (ml:mg "len"=none):aL P w K mg base cu 1 f fd ["_law_script", "_law_many"] (Jo K):=by
 refine F.ok ju (fun vs H Q E h=>?_) (fun cdv A outer s H vs Q E hr h=>?_)
 ·obtain ⟨a,ns,many,rfl,_⟩:=h
  rfl
 obtain ⟨a,ns,many,rfl,hS,h63,hm0,hm1,k⟩:=h
 refine ⟨_,aq (aY (i:=2) ju.nd rfl (Or.inl rfl) (cI aA))
  (aq (aY (i:=3) ju.nd rfl (Or.inl rfl) au)
  (aq (jk PassesOwn.never rfl (fD (fO lO (pv 0) jJ (dI au))) (bL (i:=4) ju.nd rfl (Or.inl rfl))
   (aq (aY (i:=3) ju.nd rfl (Or.inl rfl) (aN bO (aN dH (aN dH (aN jl (pv 3) au) (aN bO (pv 4) au)) au) au))
   (aq (aY (i:=5) ju.nd rfl (Or.inl rfl) (aN jH (pv 4) (aN zq au au)))
   (aq (bJ (aM xu (pv 5) au (bA _))
     (aG (bT (ql PySem.F.plainAttrs_list PySem.F.slot_list_append PySem.F.type_list_append fU (pv 2) (aj (aN bO (pv 4) au) aA)))) aQ)
   (aG (jk PassesOwn.never rfl (iU rfl mr (aj au aA)) (bL (i:=6) ju.nd rfl (Or.inl rfl))
    (aG (bJ (aM GR (pv 5) au (bA _))
     (aq (bT (ql PySem.F.plainAttrs_list PySem.F.slot_list_append PySem.F.type_list_append fU (pv 2) (aj (aN bO (pv 5) au) aA)))
     (aG (aY (i:=5) ju.nd rfl (Or.inl rfl) (aN nM (pv 5) au)))) aQ))))))))
  (aq (jk PassesOwn.never rfl (iU rfl mr (aj (aN jH (pv 1) (aP cA rfl ml PySem.boot_len (aj (pv 2) aA))) aA)) (bL (i:=6) ju.nd rfl (Or.inl rfl))
   (aq (aY (i:=3) ju.nd rfl (Or.inl rfl) (aN bO (aN dH (aN dH (aN dH (aN jl (aN jl (pv 3) (pv 3)) (pv 3)) (aN jl au (pv 3))) (aN jl au (pv 6))) au) au))
   (aG (bT (ql PySem.F.plainAttrs_list PySem.F.slot_list_append PySem.F.type_list_append fU (pv 2) (aj (aN bO (aN nM (pv 3) au) au) aA))))))
  (aG (aW (fO lO (pv 2) jJ (dI (pv 1)))))))),?_⟩
 refine ⟨small (by simp),fun l hl=>?_⟩
 have s1:Same H (upd H l (.lst [])):=aD hl _
 refine ⟨_,rfl,_,rfl,a,_,rfl,s1.seq hS,fun p hp=>?_⟩
 have Xa:p≠l:=fun e=>by rw [e,ak] at hp;cases hp
 have hp0:H p=none:=by rw [ao Xa] at hp;exact hp
 refine ⟨p,rfl,⟨_,bR.of ak⟩,kW (K:=K) (a:=p) (xs:=iI (ns.map V.int) none (some 63)) (fun i σ H2=>∃ (fs:List Int) (salt:Int) (c r k:Option V),σ=[some (.ref a),some (.int many),some (.ref l),some (.int salt),c,r,k]∧Same H H2 ∧
   H2 p=some (.lst (iI (ns.map V.int) none (some 63)))∧H2 l=some (.lst (fs.map V.int))∧fs.length≤61 * i∧(∀ v∈fs,v8 v)∧0≤salt∧salt<2147483647)
  ⟨[],29,none,none,none,rfl,bB s1 hp0,ak,by rw [ao (Ne.symm Xa),ak];rfl,Nat.zero_le _,(fun v hv=>nomatch hv),by decide,by decide⟩ (fun i σ H2 _ ⟨_,_,_,_,_,_,_,hq,_⟩=>bR.of hq) ?_ ?_⟩
 ·rintro i y σ H2 hi ⟨fs,salt,c,r,kk,rfl,s2,hq,hL,hlen,hok,z0,z1⟩
  have hil:i<(iI (ns.map V.int) none (some 63)).length:=(List.getElem?_eq_some_iff.mp hi).1
  have hcl:=jf (ns.map V.int) none (some 63)
  rw [List.length_map] at hcl
  obtain ⟨cell,rfl⟩:∃ z,y=V.int z:=by
   have hm:y∈iI (ns.map V.int) none (some 63):=List.mem_of_getElem? hi
   have hm2:y∈ns.map V.int:=List.mem_of_mem_drop (List.mem_of_mem_take hm)
   obtain ⟨z,_,rfl⟩:=List.mem_map.mp hm2
   exact ⟨z,rfl⟩
  refine ⟨_,rfl,_,_,rfl,rfl,.inl ⟨by omega,by omega⟩,_,rfl,_,_,rfl,rfl,(by show (0:Int)<2147483629;decide),_,_,rfl,rfl,_,_,rfl,rfl,_,_,rfl,rfl,(by show (0:Int)<2147483647;decide),?_⟩
  refine ⟨_,rfl,_,_,rfl,rfl,⟨by decide,by decide,by decide⟩,_,_,rfl,rfl,?_⟩
  have z0':0≤(salt * 69621+cell % 2147483629+11) % 2147483647:=Int.emod_nonneg _ (by decide)
  have z1':(salt * 69621+cell % 2147483629+11) % 2147483647<2147483647:=Int.emod_lt_of_pos _ (by decide)
  refine ⟨_,rfl,_,_,rfl,rfl,_,rfl,?_⟩
  refine eZ (fun c=>?_) (fun c=>?_)
  ·refine ⟨_,rfl,.inl ⟨rfl,_,bR.of hL⟩,_,rfl,_,_,rfl,rfl,(by show (0:Int)<1000003;decide),l,_,_,rfl,rfl,hL,(by rw [List.length_map];exact bY (by omega)),?_⟩
   have hgs:∃ gs:List Int,(upd H2 l (.lst (fs.map V.int++[V.int (cell % 1000003)]))) l=some (.lst (gs.map V.int))∧gs.length≤61 * i+1∧∀ v∈gs,v8 v :=
    ⟨fs++[cell % 1000003],by rw [ak,qQ],by rw [List.length_append,List.length_singleton];omega,wA hok ⟨Int.emod_nonneg _ (by decide),Int.emod_lt_of_pos _ (by decide)⟩⟩
   have s3:Same H (upd H2 l (.lst (fs.map V.int++[V.int (cell % 1000003)]))):=bB s2 hl
   have hq3:(upd H2 l (.lst (fs.map V.int++[V.int (cell % 1000003)]))) p=some (.lst (iI (ns.map V.int) none (some 63))):=by rw [ao Xa];exact hq
   generalize upd H2 l (.lst (fs.map V.int++[V.int (cell % 1000003)]))=H3 at hgs s3 hq3
   obtain ⟨gs,hL3,hg1,hg2⟩:=hgs
   refine ⟨60,rfl,by decide,by decide,iV (lo:=0) (n:=60) (fun j σ H4=>∃ (hs:List Int) (rest lD:Int) (k:Option V),σ=[some (.ref a),some (.int many),some (.ref l),some (.int lD),some (.int cell),some (.int rest),k]∧0≤lD∧lD<2147483647∧Same H H4 ∧
    H4 p=some (.lst (iI (ns.map V.int) none (some 63)))∧H4 l=some (.lst (hs.map V.int))∧hs.length≤61 * i+1+j∧(∀ v∈hs,v8 v)) ⟨gs,_,_,kk,rfl,z0',z1',s3,hq3,hL3,hg1,hg2⟩ ?_ ?_⟩
   ·rintro j σ H4 hj ⟨hs,rest,lD,k',rfl,x0,x1,s4,N5,yZ,hh1,Fw⟩
    refine ⟨_,rfl,_,_,rfl,rfl,_,rfl,?_⟩
    refine eZ (fun c=>?_) (fun c=>?_)
    ·refine ⟨_,rfl,.inl ⟨rfl,_,bR.of yZ⟩,_,rfl,_,_,rfl,rfl,(by show (0:Int)<1009;decide),l,_,_,rfl,rfl,yZ,(by rw [List.length_map];exact bY (by omega)),?_⟩
     refine ⟨_,rfl,_,_,rfl,rfl,⟨by decide,by decide⟩,?_⟩
     exact ⟨hs++[rest % 1009],_,_,_,rfl,x0,x1,bB s4 hl,by rw [ao Xa];exact N5,by rw [ak,qQ],by rw [List.length_append,List.length_singleton];omega,
      wA Fw ⟨Int.emod_nonneg _ (by decide),by have:=Int.emod_lt_of_pos rest (show (0:Int)<1009 by decide);omega⟩⟩
    ·exact ⟨hs,_,_,_,rfl,x0,x1,s4,N5,yZ,by omega,Fw⟩
   ·rintro σ H4 ⟨hs,rest,lD,k',rfl,x0,x1,s4,N5,yZ,hh1,Fw⟩
    exact ⟨hs,_,_,_,_,rfl,s4,N5,yZ,by omega,Fw,x0,x1⟩
  ·obtain ⟨gs,hL3,hg1,hg2⟩:∃ gs:List Int,H2 l=some (.lst (gs.map V.int))∧gs.length≤61 * i+1∧∀ v∈gs,v8 v:=⟨fs,hL,by omega,hok⟩
   refine ⟨60,rfl,by decide,by decide,iV (lo:=0) (n:=60) (fun j σ H4=>∃ (hs:List Int) (rest lD:Int) (k:Option V),σ=[some (.ref a),some (.int many),some (.ref l),some (.int lD),some (.int cell),some (.int rest),k]∧0≤lD∧lD<2147483647∧Same H H4 ∧
    H4 p=some (.lst (iI (ns.map V.int) none (some 63)))∧H4 l=some (.lst (hs.map V.int))∧hs.length≤61 * i+1+j∧(∀ v∈hs,v8 v)) ⟨gs,_,_,kk,rfl,z0',z1',s2,hq,hL3,hg1,hg2⟩ ?_ ?_⟩
   ·rintro j σ H4 hj ⟨hs,rest,lD,k',rfl,x0,x1,s4,N5,yZ,hh1,Fw⟩
    refine ⟨_,rfl,_,_,rfl,rfl,_,rfl,?_⟩
    refine eZ (fun c=>?_) (fun c=>?_)
    ·refine ⟨_,rfl,.inl ⟨rfl,_,bR.of yZ⟩,_,rfl,_,_,rfl,rfl,(by show (0:Int)<1009;decide),l,_,_,rfl,rfl,yZ,(by rw [List.length_map];exact bY (by omega)),?_⟩
     refine ⟨_,rfl,_,_,rfl,rfl,⟨by decide,by decide⟩,?_⟩
     exact ⟨hs++[rest % 1009],_,_,_,rfl,x0,x1,bB s4 hl,by rw [ao Xa];exact N5,by rw [ak,qQ],by rw [List.length_append,List.length_singleton];omega,
      wA Fw ⟨Int.emod_nonneg _ (by decide),by have:=Int.emod_lt_of_pos rest (show (0:Int)<1009 by decide);omega⟩⟩
    ·exact ⟨hs,_,_,_,rfl,x0,x1,s4,N5,yZ,by omega,Fw⟩
   ·rintro σ H4 ⟨hs,rest,lD,k',rfl,x0,x1,s4,N5,yZ,hh1,Fw⟩
    exact ⟨hs,_,_,_,_,rfl,s4,N5,yZ,by omega,Fw,x0,x1⟩
 ·rintro σ H2 ⟨fs,salt,c,r,kk,rfl,s2,hq,hL,hlen,hok,z0,z1⟩
  have hcl:=jf (ns.map V.int) none (some 63)
  rw [List.length_map] at hcl
  refine ⟨_,rfl,_,rfl,l,_,rfl,.inl (bR.of hL),_,_,rfl,rfl,many - (fs.length:Int),(by rw [List.length_map]),by omega,by omega,?_⟩
  refine iV (lo:=0) (n:=(many - (fs.length:Int)).toNat) (fun j σ H4=>∃ (hs:List Int) (salt:Int) (k:Option V),σ=[some (.ref a),some (.int many),some (.ref l),some (.int salt),c,r,k]∧Same H H4 ∧
    H4 l=some (.lst (hs.map V.int))∧hs.length=fs.length+j∧(∀ v∈hs,v8 v)∧0≤salt∧salt<2147483647) ⟨fs,salt,kk,rfl,s2,hL,rfl,hok,z0,z1⟩ ?_ ?_
  ·rintro j σ H4 hj ⟨hs,salt,k',rfl,s4,yZ,hh1,Fw,y0,y1⟩
   refine ⟨_,rfl,_,rfl,_,_,rfl,rfl,.inl ⟨by omega,by omega⟩,_,rfl,_,_,rfl,rfl,.inr ⟨by omega,by omega⟩,_,rfl,_,_,rfl,rfl,.inl ⟨by decide,by decide⟩,_,_,rfl,rfl,_,rfl,_,_,rfl,rfl,.inl ⟨by decide,by decide⟩,_,_,rfl,rfl,_,_,rfl,rfl,_,_,rfl,rfl,(by show (0:Int)<2147483629;decide),?_⟩
   refine ⟨_,rfl,.inl ⟨rfl,_,bR.of yZ⟩,_,rfl,_,_,rfl,rfl,⟨by decide,by decide⟩,_,_,rfl,rfl,(by show (0:Int)<1009;decide),l,_,_,rfl,rfl,yZ,(by rw [List.length_map];exact bY (by omega)),?_⟩
   refine ⟨hs++[_],_,_,rfl,bB s4 hl,by rw [ak,qQ],by rw [List.length_append,List.length_singleton];omega,wA Fw ⟨Int.emod_nonneg _ (by decide),?_⟩,Int.emod_nonneg _ (by decide),?_⟩
   ·have:=Int.emod_lt_of_pos ((salt * salt * salt+48271 * salt+13 * (0+(j:Int))+5) % 2147483629 / 1013) (show (0:Int)<1009 by decide)
    omega
   ·have:=Int.emod_lt_of_pos (salt * salt * salt+48271 * salt+13 * (0+(j:Int))+5) (show (0:Int)<2147483629 by decide)
    omega
  ·rintro σ H4 ⟨hs,salt,k',rfl,s4,yZ,hh1,Fw,y0,y1⟩
   refine ⟨_,rfl,_,rfl,many,rfl,l,_,rfl,bR.of yZ,fun q hq'=>?_⟩
   have hcut:iI (hs.map V.int) none (some many)=(hs.take many.toNat).map V.int:=by
    unfold iI
    have e1:HT.eY (hs.map V.int).length 0 none=0:=rfl
    have e2:HT.eY (hs.map V.int).length (hs.map V.int).length (some many)=min many.toNat (hs.map V.int).length:=by
     have em:many=((many.toNat:Nat):Int):=by omega
     generalize many.toNat=mm at em ⊢
     rw [em,HT.nR]
    rw [e1,e2,List.drop_zero,List.map_take,Nat.sub_zero,List.length_map]
    rw [List.take_eq_take_iff,List.length_map]
    omega
   refine k q _ (hs.take many.toNat) (bB s4 (s4.free hq')) (s4.free hq') (by rw [ak,hcut]) ?_ fun v hv=>Fw v (List.mem_of_mem_take hv)
   rw [List.length_take]
   omega
end
def PN:V→Bool
 | .non | .bl _ | .int _ | .str _=>true
 | _=>false
def N6 (H:Hp):Nat→V→V→Prop
 | 0,_,_=>False
 | n+1,x,y=>(x=y∧PN x=true)∨(∃ p q xs ys,x=.ref p∧y=.ref q∧H p=some (.tup xs)∧H q=some (.tup ys)∧xs.length=ys.length∧xs.length≤1000∧∀ (i:Nat) (x y:V),xs[i]?=some x→ys[i]?=some y→N6 H n x y) ∨
  (∃ p q xs ys,x=.ref p∧y=.ref q∧H p=some (.lst xs)∧H q=some (.lst ys)∧xs.length=ys.length∧xs.length≤1000∧∀ (i:Nat) (x y:V),xs[i]?=some x→ys[i]?=some y→N6 H n x y)
theorem N6.same {H H':Hp} (s:Same H H'):∀ {n:Nat}{x y:V},N6 H n x y→N6 H' n x y
 | 0,_,_,h=>h
 | n+1,x,y,h=>by
  rcases h with h | ⟨p,q,xs,ys,e1,e2,e3,e4,e5,e6,e7⟩ | ⟨p,q,xs,ys,e1,e2,e3,e4,e5,e6,e7⟩
  ·exact .inl h
  ·exact .inr (.inl ⟨p,q,xs,ys,e1,e2,s _ _ e3,s _ _ e4,e5,e6,fun i x y h1 h2=>(e7 i x y h1 h2).same s⟩)
  ·exact .inr (.inr ⟨p,q,xs,ys,e1,e2,s _ _ e3,s _ _ e4,e5,e6,fun i x y h1 h2=>(e7 i x y h1 h2).same s⟩)
def pY (n:Nat):Sp:=fun vs H Q _=>∃ x y,vs=[x,y]∧N6 H n x y∧∀ H',Same H H'→Q (.bl true) H'
structure Ms (K:PySem.W.Frag) (mg:Str→Option Value) (x:Str) (g:Addr) (gd:FuncData) (ps:List Str):Prop where
 b:Binds K gd ps []
 k:PySem.W.keepIn K (.ref g)=true
 m:mg x=some (.ref g)
structure MgS (mg:Str→Option Value):Prop where
 KJ:mg "isinstance"=none
 bool:mg "bool"=none
 int:mg "int"=none
 str:mg "str"=none
 list:mg "list"=none
 tuple:mg "tuple"=none
 len:mg "len"=none
 all:mg "all"=none
 zip:mg "zip"=none
section
variable {P:Program}{w:World}{K:PySem.W.Frag}{mg:Str→Option Value}{base:Heap}{f:Addr}{fd:FuncData}
theorem T8:aZ ["_law_found", "_law_due"] ["_law_found", "_law_due"] (aC qu):=⟨rfl,rfl,rfl,by decide +kernel,rfl,by decide +kernel,by decide +kernel⟩
def scS1:Scope:={ kind:=.function,names:=[(".0",.local),("_law_one",.local),("_law_other",.local),("_law_same",.globalImplicit)],isGenerator:=false,isCoroutine:=false }
theorem Xb:cT ["_law_found", "_law_due"] (aC qu) scS1 ["_law_one", "_law_other"] [] []:=⟨rfl,by decide +kernel,by decide +kernel,by decide +kernel,rfl,by decide +kernel⟩
theorem N7:((["_law_one", "_law_other"]:List Str)++([]:List Str)).Nodup:=by decide +kernel
theorem all_true {bs:List Bool} (h:∀ b∈bs,b=true):bs.all id=true:=List.all_eq_true.mpr fun b hb=>h b hb
theorem Jp (n:Nat):List.replicate n (V.bl true)=(List.replicate n true).map V.bl:=by rw [List.map_replicate]
set_option maxHeartbeats 4000000 in
theorem Jq {n:Nat} (F:fH K "_law_same" "_law_same" qu f fd) (m:MgS mg) (M:Ms K mg "_law_same" f fd ["_law_found", "_law_due"]) (G:aL P w K mg base cu n f fd ["_law_found", "_law_due"] (pY n)):aL P w K mg base cu (n+1) f fd ["_law_found", "_law_due"] (pY (n+1)):=by
 refine F.ok T8 (fun vs H Q E h=>?_) (fun cdv A outer s H vs Q E hr h=>?_)
 ·obtain ⟨x,y,rfl,_⟩:=h
  rfl
 obtain ⟨x,y,rfl,heq,k⟩:=h
 refine ⟨_,aq (bJ (Gx (Gw (pv 1))) (aG (aW (zj (Gw (pv 0))))) aQ)
  (aq (bJ (dU (aP (cO (K:=K)) rfl m.KJ bK (aj (pv 1) (aj (fZ rfl m.bool vV rfl (v:=.ty "bool")) aA))))
   (aG (aW (pC (aP (cO (K:=K)) rfl m.KJ bK (aj (pv 0) (aj (fZ rfl m.bool vV rfl (v:=.ty "bool")) aA))) (rB (nO cH (pv 0) (pv 1) (bA _)))))) aQ)
  (aq (bJ (dU (aP (cO (K:=K)) rfl m.KJ bK (aj (pv 1) (aj (fZ rfl m.tuple xR rfl (v:=.ty "tuple")) aA))))
   (aq (bJ (PW.pt (qe (gb (dU (aP (cO (K:=K)) rfl m.KJ bK (aj (pv 0) (aj (fZ rfl m.tuple xR rfl (v:=.ty "tuple")) aA))))) (kE (aM jT (aP (lV (K:=K)) rfl m.len PySem.boot_len (aj (pv 0) aA)) (aP (lV (K:=K)) rfl m.len PySem.boot_len (aj (pv 1) aA)) (bA _))))) (aG (aW kj)) aQ)
   (aG (aW (aP (lW (K:=K) rfl hr.hd) rfl m.all vR (aj (fJ rfl Xb (HX rfl m.zip (aj (pv 0) (aj (pv 1) aA)))
    (fun s H fp C=>⟨qL (K:=K) (n:=2) rfl (dZ (bL (i:=0) N7 rfl (Or.inl rfl)) (dZ (bL (i:=1) N7 rfl (Or.inl rfl)) lN)),lR,bf G hr rfl M.m M.k M.b .nil bD (aj (pv 0) (aj (pv 1) aA))⟩)) aA))))) aQ)
  (aq (bJ (dU (aP (cO (K:=K)) rfl m.KJ bK (aj (pv 1) (aj (fZ rfl m.list nZ rfl (v:=.ty "list")) aA))))
   (aq (bJ (PW.pt (qe (gb (dU (aP (cO (K:=K)) rfl m.KJ bK (aj (pv 0) (aj (fZ rfl m.list nZ rfl (v:=.ty "list")) aA))))) (kE (aM jT (aP (lV (K:=K)) rfl m.len PySem.boot_len (aj (pv 0) aA)) (aP (lV (K:=K)) rfl m.len PySem.boot_len (aj (pv 1) aA)) (bA _))))) (aG (aW kj)) aQ)
   (aG (aW (aP (lW (K:=K) rfl hr.hd) rfl m.all vR (aj (fJ rfl Xb (HY rfl m.zip (aj (pv 0) (aj (pv 1) aA)))
    (fun s H fp C=>⟨qL (K:=K) (n:=2) rfl (dZ (bL (i:=0) N7 rfl (Or.inl rfl)) (dZ (bL (i:=1) N7 rfl (Or.inl rfl)) lN)),lR,bf G hr rfl M.m M.k M.b .nil bD (aj (pv 0) (aj (pv 1) aA))⟩)) aA))))) aQ)
  (aq (bJ (dU (aP (cO (K:=K)) rfl m.KJ bK (aj (pv 1) (aj (fZ rfl m.str HF rfl (v:=.ty "str")) aA))))
   (aG (aW (pC (aP (cO (K:=K)) rfl m.KJ bK (aj (pv 0) (aj (fZ rfl m.str HF rfl (v:=.ty "str")) aA))) (rB (nO cH (pv 0) (pv 1) (bA _)))))) aQ)
  (aG (aW (pC (aP (cO (K:=K)) rfl m.KJ bK (aj (pv 0) (aj (fZ rfl m.int zP rfl (v:=.ty "int")) aA)))
   (pC (Rt (aP (cO (K:=K)) rfl m.KJ bK (aj (pv 0) (aj (fZ rfl m.bool vV rfl (v:=.ty "bool")) aA)))) (rB (nO cH (pv 0) (pv 1) (bA _))))))))))),?_⟩
 rcases heq with ⟨rfl,hsc⟩ | ⟨p,q,xs,ys,rfl,rfl,hp,hq,hl,hz,hi⟩ | ⟨p,q,xs,ys,rfl,rfl,hp,hq,hl,hz,hi⟩
 ·cases x with
  | non=>exact ⟨_,rfl,_,rfl,dj ⟨_,rfl,k _ (Same.refl _)⟩⟩
  | bl b =>
   refine ⟨_,rfl,_,rfl,cB ?_⟩
   refine ⟨_,rfl,_,_,_,true,rfl,.bl b,rfl,_,rfl,dj ?_⟩
   refine ⟨_,rfl,_,_,_,true,rfl,.bl b,rfl,_,rfl,dj ?_⟩
   refine ⟨_,rfl,_,rfl,rfl,?_⟩
   show Q (.bl (decide (V.bl b=V.bl b))) H
   rw [decide_eq_true rfl];exact k _ (Same.refl _)
  | int i =>
   refine ⟨_,rfl,_,rfl,cB ?_⟩
   refine ⟨_,rfl,_,_,_,false,rfl,.int i,rfl,_,rfl,cB ?_⟩
   refine ⟨_,rfl,_,_,_,false,rfl,.int i,rfl,_,rfl,cB ?_⟩
   refine ⟨_,rfl,_,_,_,false,rfl,.int i,rfl,_,rfl,cB ?_⟩
   refine ⟨_,rfl,_,_,_,false,rfl,.int i,rfl,_,rfl,cB ?_⟩
   refine ⟨_,rfl,_,_,_,true,rfl,.int i,rfl,_,rfl,dj ?_⟩
   refine ⟨_,rfl,_,_,_,false,rfl,.int i,rfl,_,rfl,_,rfl,dj ?_⟩
   refine ⟨_,rfl,_,rfl,rfl,?_⟩
   show Q (.bl (decide (V.int i=V.int i))) H
   rw [decide_eq_true rfl];exact k _ (Same.refl _)
  | str z =>
   refine ⟨_,rfl,_,rfl,cB ?_⟩
   refine ⟨_,rfl,_,_,_,false,rfl,.str z,rfl,_,rfl,cB ?_⟩
   refine ⟨_,rfl,_,_,_,false,rfl,.str z,rfl,_,rfl,cB ?_⟩
   refine ⟨_,rfl,_,_,_,false,rfl,.str z,rfl,_,rfl,cB ?_⟩
   refine ⟨_,rfl,_,_,_,true,rfl,.str z,rfl,_,rfl,dj ?_⟩
   refine ⟨_,rfl,_,_,_,true,rfl,.str z,rfl,_,rfl,dj ?_⟩
   refine ⟨_,rfl,_,rfl,rfl,?_⟩
   show Q (.bl (decide (V.str z=V.str z))) H
   rw [decide_eq_true rfl];exact k _ (Same.refl _)
  | BX _=>cases hsc
  | flt _=>cases hsc
  | ref _=>cases hsc
  | ty _=>cases hsc
 ·refine ⟨_,rfl,_,rfl,cB ?_⟩
  refine ⟨_,rfl,_,_,_,false,rfl,.tup hq,rfl,_,rfl,cB ?_⟩
  refine ⟨_,rfl,_,_,_,true,rfl,.tup hq,rfl,_,rfl,dj ?_⟩
  refine ⟨_,rfl,_,_,_,true,rfl,.tup hp,rfl,_,rfl,cB ?_⟩
  refine ⟨_,rfl,p,xs,rfl,.inr (bM.of hp),_,rfl,q,ys,rfl,.inr (bM.of hq),rfl,_,rfl,?_⟩
  refine Cj (by rw [hl]) ?_
  refine ⟨_,rfl,_,rfl,p,q,rfl,⟨_,bM.of hp⟩,⟨_,bM.of hq⟩,fun D hD=>?_⟩
  refine o8 (n:=xs.length) (fx:=fun i=>xs.getD i .non) (fy:=fun i=>ys.getD i .non) (fun i zs H2=>zs=List.replicate i (V.bl true)∧Same H H2∧H2 D=some (.lst zs)) (fun i zs H2 ⟨_,s2,_⟩=>xU (bM.of (s2 _ _ hp)) (bM.of (s2 _ _ hq)) hl) ⟨rfl,aD hD _,ak⟩ (fun i zs H2 h=>h.2.2) ?_ ?_
  ·rintro i zs H2 r hir ⟨rfl,s2,hD2⟩ hr2
   have nrD:D≠r:=aH hD2 hr2
   have e1:xs[i]?=some (xs.getD i .non):=by rw [List.getD_eq_getElem?_getD,List.getElem?_eq_getElem hir];rfl
   have e2:ys[i]?=some (ys.getD i .non):=by rw [List.getD_eq_getElem?_getD,List.getElem?_eq_getElem (by omega)];rfl
   have s3:Same H (upd H2 r (.tup [xs.getD i .non,ys.getD i .non])):=bB s2 (s2.free hr2)
   refine ⟨r,_,rfl,bM.of ak,rfl,_,_,rfl,_,_,rfl,rfl,Kp.set rfl (Kp.set rfl (Kp.refl _)),?_⟩
   refine jy ?_
   refine ⟨_,rfl,_,rfl,_,_,rfl,(hi i _ _ e1 e2).same s3,fun H4 s4=>⟨s4 _ _ (by rw [ao nrD];exact hD2),?_,?_,bB (s3.trans s4) hD,ak⟩⟩
   ·rw [List.length_replicate];exact bY (by omega)
   ·rw [List.replicate_succ']
  ·rintro zs H2 ⟨rfl,s2,hD2⟩
   refine ⟨D,List.replicate xs.length true,rfl,bR.of (by rw [← Jp];exact hD2),?_⟩
   rw [all_true fun b hb=>List.eq_of_mem_replicate hb]
   exact k _ s2
 ·refine ⟨_,rfl,_,rfl,cB ?_⟩
  refine ⟨_,rfl,_,_,_,false,rfl,.lst hq,rfl,_,rfl,cB ?_⟩
  refine ⟨_,rfl,_,_,_,false,rfl,.lst hq,rfl,_,rfl,cB ?_⟩
  refine ⟨_,rfl,_,_,_,true,rfl,.lst hq,rfl,_,rfl,dj ?_⟩
  refine ⟨_,rfl,_,_,_,true,rfl,.lst hp,rfl,_,rfl,cB ?_⟩
  refine ⟨_,rfl,p,xs,rfl,.inl (bR.of hp),_,rfl,q,ys,rfl,.inl (bR.of hq),rfl,_,rfl,?_⟩
  refine Cj (by rw [hl]) ?_
  refine ⟨_,rfl,_,rfl,p,q,rfl,⟨_,bR.of hp⟩,⟨_,bR.of hq⟩,fun D hD=>?_⟩
  refine o8 (n:=xs.length) (fx:=fun i=>xs.getD i .non) (fy:=fun i=>ys.getD i .non) (fun i zs H2=>zs=List.replicate i (V.bl true)∧Same H H2∧H2 D=some (.lst zs)) (fun i zs H2 ⟨_,s2,_⟩=>xV (bR.of (s2 _ _ hp)) (bR.of (s2 _ _ hq)) hl) ⟨rfl,aD hD _,ak⟩ (fun i zs H2 h=>h.2.2) ?_ ?_
  ·rintro i zs H2 r hir ⟨rfl,s2,hD2⟩ hr2
   have nrD:D≠r:=aH hD2 hr2
   have e1:xs[i]?=some (xs.getD i .non):=by rw [List.getD_eq_getElem?_getD,List.getElem?_eq_getElem hir];rfl
   have e2:ys[i]?=some (ys.getD i .non):=by rw [List.getD_eq_getElem?_getD,List.getElem?_eq_getElem (by omega)];rfl
   have s3:Same H (upd H2 r (.tup [xs.getD i .non,ys.getD i .non])):=bB s2 (s2.free hr2)
   refine ⟨r,_,rfl,bM.of ak,rfl,_,_,rfl,_,_,rfl,rfl,Kp.set rfl (Kp.set rfl (Kp.refl _)),?_⟩
   refine jy ?_
   refine ⟨_,rfl,_,rfl,_,_,rfl,(hi i _ _ e1 e2).same s3,fun H4 s4=>⟨s4 _ _ (by rw [ao nrD];exact hD2),?_,?_,bB (s3.trans s4) hD,ak⟩⟩
   ·rw [List.length_replicate];exact bY (by omega)
   ·rw [List.replicate_succ']
  ·rintro zs H2 ⟨rfl,s2,hD2⟩
   refine ⟨D,List.replicate xs.length true,rfl,bR.of (by rw [← Jp];exact hD2),?_⟩
   rw [all_true fun b hb=>List.eq_of_mem_replicate hb]
   exact k _ s2
theorem Df (F:fH K "_law_same" "_law_same" qu f fd) (m:MgS mg) (M:Ms K mg "_law_same" f fd ["_law_found", "_law_due"]):∀ n:Nat,aL P w K mg base cu n f fd ["_law_found", "_law_due"] (pY n)
 | 0=>⟨fun vs H Q E ⟨x,y,_,h,_⟩=>h.elim,fun A outer s H args us vs Q E _ _ _ _ ⟨x,y,_,h,_⟩=>h.elim⟩
 | n+1=>Jq F m M (Df F m M n)
end
def sgn (t b:Int):Int:=if b<0 then -((Int.gcd t b:Nat):Int) else ((Int.gcd t b:Nat):Int)
def iC (t b:Int):Int:=t.fdiv (sgn t b)
def fQ (t b:Int):Int:=b.fdiv (sgn t b)
theorem jh {t b:Int} (h:b≠0):0<Int.gcd t b:=Int.gcd_pos_of_ne_zero_right t h
theorem Jr {t b:Int} (h:b≠0):sgn t b≠0:=by
 have:=jh (t:=t) h
 unfold sgn
 split <;> omega
theorem Xc (t b:Int):sgn t b ∣ t:=by
 unfold sgn
 split
 ·exact (Int.neg_dvd).mpr (Int.gcd_dvd_left t b)
 ·exact Int.gcd_dvd_left t b
theorem Xd (t b:Int):sgn t b ∣ b:=by
 unfold sgn
 split
 ·exact (Int.neg_dvd).mpr (Int.gcd_dvd_right t b)
 ·exact Int.gcd_dvd_right t b
theorem wB (t b:Int):(sgn t b).natAbs=Int.gcd t b:=by
 unfold sgn
 split <;> omega
theorem Dg {s t:Int} (hs:s≠0) (h:s ∣ t):s * t.fdiv s=t:=by
 obtain ⟨q,rfl⟩:=h
 rw [Int.mul_fdiv_cancel_left _ hs]
theorem qR {t b:Int} (h:b≠0):sgn t b * iC t b=t:=Dg (Jr h) (Xc t b)
theorem oR {t b:Int} (h:b≠0):sgn t b * fQ t b=b:=Dg (Jr h) (Xd t b)
theorem sS {t b:Int} (h:b≠0):0<fQ t b:=by
 have e:=oR (t:=t) h
 have g:=jh (t:=t) h
 have hs:sgn t b=if b<0 then -((Int.gcd t b:Nat):Int) else ((Int.gcd t b:Nat):Int):=rfl
 by_cases hb:b<0
 ·rw [if_pos hb] at hs
  by_cases hp:0<fQ t b
  ·exact hp
  ·have:0≤sgn t b * fQ t b:=by rw [hs];exact Int.mul_nonneg_of_nonpos_of_nonpos (by omega) (by omega)
   omega
 ·rw [if_neg hb] at hs
  by_cases hp:0<fQ t b
  ·exact hp
  ·have:sgn t b * fQ t b≤0:=by rw [hs];exact Int.mul_nonpos_of_nonneg_of_nonpos (by omega) (by omega)
   omega
theorem N8 {t b:Int} (h:b≠0):Int.gcd (iC t b) (fQ t b)=1:=by
 have e1:=qR (t:=t) h
 have e2:=oR (t:=t) h
 have g:=jh (t:=t) h
 have e3:Int.gcd (sgn t b * iC t b) (sgn t b * fQ t b)=(sgn t b).natAbs * Int.gcd (iC t b) (fQ t b):=Int.gcd_mul_left _ _ _
 rw [e1,e2,wB] at e3
 exact Nat.eq_of_mul_eq_mul_left g (by rw [← e3,Nat.mul_one])
theorem T9 {x y k:Int} (hg:Int.gcd x y=1) (hy:0<y) (hk:0<k):iC (x * k) (y * k)=x∧fQ (x * k) (y * k)=y:=by
 have e:Int.gcd (x * k) (y * k)=k.natAbs:=by rw [Int.gcd_mul_right,hg,Nat.one_mul]
 have hpos:0<y * k:=Int.mul_pos hy hk
 have es:sgn (x * k) (y * k)=k:=by
  unfold sgn
  rw [if_neg (by omega),e]
  omega
 unfold iC fQ
 rw [es]
 exact ⟨Int.mul_fdiv_cancel _ (by omega),Int.mul_fdiv_cancel _ (by omega)⟩
theorem Nb {t b:Int} (h:b≠0):(fQ t b).natAbs≤b.natAbs:=by
 have e:=congrArg Int.natAbs (oR (t:=t) h)
 rw [Int.natAbs_mul,wB] at e
 rw [← e]
 exact Nat.le_mul_of_pos_left _ (jh h)
theorem Nf {t b:Int} (h:b≠0):(iC t b).natAbs≤t.natAbs:=by
 have e:=congrArg Int.natAbs (qR (t:=t) h)
 rw [Int.natAbs_mul,wB] at e
 rw [← e]
 exact Nat.le_mul_of_pos_left _ (jh h)
theorem yI {a b:Int} (ha:0≤a) (hb:0<b):Int.gcd b (a % b)=Int.gcd a b:=by
 obtain ⟨m,rfl⟩:=Int.eq_ofNat_of_zero_le ha
 obtain ⟨n,rfl⟩:=Int.eq_ofNat_of_zero_le (Int.le_of_lt hb)
 have e:((m:Int) % (n:Int))=((m % n:Nat):Int):=by omega
 rw [e]
 show Nat.gcd n (m % n)=Nat.gcd m n
 rw [Nat.gcd_comm m n,Nat.gcd_rec n m,Nat.gcd_comm n (m % n)]
theorem Dh (t b:Int):Int.gcd (if t<0 then -t else t) (if b<0 then -b else b)=Int.gcd t b:=by
 have e:∀ x:Int,(if x<0 then -x else x).natAbs=x.natAbs:=fun x=>by split <;> omega
 unfold Int.gcd
 rw [e,e]
theorem gcd_le_right {t b:Int} (h:b≠0):Int.gcd t b≤b.natAbs:=by
 exact Nat.gcd_le_right _ (by omega)
def wC (H:Hp) (p:Addr) (t b:Int):Prop:=H p=some (.tup [.int t,.int b])
def PX:Sp:=fun vs H Q _=>∃ a b:Int,vs=[.int a,.int b]∧0≤a∧0≤b∧Q (.int ((Int.gcd a b:Nat):Int)) H
def yJ:Sp:=fun vs H Q _=>∃ t b:Int,vs=[.int t,.int b]∧b≠0∧b.natAbs<lA∧∀ p,H p=none→Q (.ref p) (upd H p (.tup [.int (iC t b),.int (fQ t b)]))
section
variable {P:Program}{w:World}{K:PySem.W.Frag}{mg:Str→Option Value}{base:Heap}{f:Addr}{fd:FuncData}
theorem Q0:aZ ["a", "b"] ["a", "b"] (aC Ft):=⟨rfl,rfl,rfl,by decide +kernel,rfl,by decide +kernel,by decide +kernel⟩
theorem Tc (F:fH K "common_measure" "common_measure" Ft f fd):aL P w K mg base cu 1 f fd ["a", "b"] PX:=by
 refine F.ok Q0 (fun vs H Q E h=>?_) (fun cdv A outer s H vs Q E hr h=>?_)
 ·obtain ⟨a,b,rfl,_⟩:=h
  rfl
 obtain ⟨a,b,rfl,ha,hb,k⟩:=h
 refine ⟨_,aq (kJ PassesOwn.never (aM jT (pv 1) au (bA _)) (aG (GD (i:=0) (j:=1) rfl Q0.nd rfl rfl (by decide) rfl rfl (aj (pv 1) (aj (aN bO (pv 0) (pv 1)) aA)) (by rfl))))
  (aG (aW (pv 0))),?_⟩
 refine xq (fun σ H2=>H2=H∧∃ x y:Int,σ=[some (.int x),some (.int y)]∧0≤x∧0≤y∧Int.gcd x y=Int.gcd a b) (fun σ _=>match σ with | [_,some (.int y)]=>y.toNat | _=>0) ⟨rfl,a,b,rfl,ha,hb,rfl⟩ ?_ ?_
 ·rintro σ H2 ⟨rfl,x,y,rfl,hx,hy,hg⟩
  refine ⟨_,rfl,rfl,_,rfl,?_⟩
  by_cases h0:y=0
  ·subst h0
   refine Cj rfl ?_
   refine ⟨_,rfl,?_⟩
   have e:x=((Int.gcd a b:Nat):Int):=by rw [← hg,Int.gcd_zero_right];omega
   rw [e];exact k
  ·have e:decide (V.int y=V.int 0)=false:=by rw [qH];simpa using h0
   rw [e]
   refine dj ?_
   refine ⟨_,rfl,_,rfl,_,rfl,_,_,rfl,rfl,(by show 0<y;omega),_,_,rfl,⟨rfl,y,x % y,rfl,hy,Int.emod_nonneg _ h0,by rw [yI hx (by omega)];exact hg⟩,?_⟩
   show (x % y).toNat<y.toNat
   have:=Int.emod_lt_of_pos x (show 0<y by omega)
   omega
 ·rintro σ H2 Q1 Q2 hq ⟨v,hv,hsc,c,hc,h⟩
  exact ⟨v,hv,hsc,c,hc,hq _ _ h⟩
theorem Av:aZ ["top", "bottom", "measure"] ["top", "bottom"] (aC uZ):=⟨rfl,rfl,rfl,by decide +kernel,rfl,by decide +kernel,by decide +kernel⟩
theorem Ng (F:fH K "part" "part" uZ f fd) (ma:mg "abs"=none) {g:Addr}{gd:FuncData} (G:aL P w K mg base cu 1 g gd ["a", "b"] PX) (M:Ms K mg "common_measure" g gd ["a", "b"]):aL P w K mg base cu 2 f fd ["top", "bottom"] yJ:=by
 refine F.ok Av (fun vs H Q E h=>?_) (fun cdv A outer s H vs Q E hr h=>?_)
 ·obtain ⟨a,b,rfl,_⟩:=h
  rfl
 obtain ⟨t,b,rfl,hb,hbig,k⟩:=h
 refine ⟨_,aq (aY (i:=2) Av.nd rfl (Or.inl rfl) (bf G hr rfl M.m M.k M.b .nil bD (aj (aP nP rfl ma vU (aj (pv 0) aA)) (aj (aP nP rfl ma vU (aj (pv 1) aA)) aA))))
  (aq (bJ (aM xu (pv 1) au (bA _)) (aG (aY (i:=2) Av.nd rfl (Or.inl rfl) (xr rC (pv 2)))) aQ)
  (aG (aW (cG (aj (aN o9 (pv 0) (pv 2)) (aj (aN o9 (pv 1) (pv 2)) aA)))))),?_⟩
 refine ⟨_,rfl,_,rfl,_,rfl,_,rfl,_,_,rfl,by split <;> omega,by split <;> omega,?_⟩
 rw [Dh]
 have hg:=jh (t:=t) hb
 have hle:=gcd_le_right (t:=t) hb
 refine ⟨_,rfl,_,_,rfl,rfl,_,rfl,?_⟩
 refine eZ (fun c=>?_) (fun c=>?_)
 ·have c':=of_decide_eq_true c
  have es:sgn t b=-((Int.gcd t b:Nat):Int):=by unfold sgn;rw [if_pos c']
  have Js:(-((Int.gcd t b:Nat):Int)).natAbs<lA:=Nat.lt_of_le_of_lt (by omega) hbig
  refine ⟨_,rfl,_,rfl,_,rfl,_,rfl,_,_,rfl,rfl,⟨by omega,Js⟩,_,rfl,_,rfl,_,_,rfl,rfl,⟨by omega,Js⟩,(by show 2≤sizeLine;decide),fun p hp=>?_⟩
  have q:=k p hp
  unfold iC fQ at q
  rw [es] at q
  exact q
 ·have c':=of_decide_eq_false (Bool.eq_false_iff.mpr c)
  have es:sgn t b=((Int.gcd t b:Nat):Int):=by unfold sgn;rw [if_neg c']
  have Js:(((Int.gcd t b:Nat):Int)).natAbs<lA:=Nat.lt_of_le_of_lt (by omega) hbig
  refine ⟨_,rfl,_,rfl,_,_,rfl,rfl,⟨by omega,Js⟩,_,rfl,_,rfl,_,_,rfl,rfl,⟨by omega,Js⟩,(by show 2≤sizeLine;decide),fun p hp=>?_⟩
  have q:=k p hp
  unfold iC fQ at q
  rw [es] at q
  exact q
theorem yK:aZ ["_law_top", "_law_bottom", "_law_one", "_law_other"] ["_law_top", "_law_bottom"] (aC Fv):=⟨rfl,rfl,rfl,by decide +kernel,rfl,by decide +kernel,by decide +kernel⟩
theorem Td (F:fH K "_law_low" "_law_low" Fv f fd) (ma:mg "abs"=none):aL P w K mg base cu 1 f fd ["_law_top", "_law_bottom"] yJ:=by
 refine F.ok yK (fun vs H Q E h=>?_) (fun cdv A outer s H vs Q E hr h=>?_)
 ·obtain ⟨a,b,rfl,_⟩:=h
  rfl
 obtain ⟨t,b,rfl,hb,hbig,k⟩:=h
 refine ⟨_,aq (aY (i:=2) yK.nd rfl (Or.inl rfl) (aP nP rfl ma vU (aj (pv 0) aA)))
  (aq (aY (i:=3) yK.nd rfl (Or.inl rfl) (aP nP rfl ma vU (aj (pv 1) aA)))
  (aq (kJ PassesOwn.never (aM jT (pv 3) au (bA _)) (aG (GD (i:=2) (j:=3) rfl yK.nd rfl rfl (by decide) rfl rfl (aj (pv 3) (aj (aN bO (pv 2) (pv 3)) aA)) (by rfl))))
  (aq (bJ (aM xu (pv 1) au (bA _)) (aG (aY (i:=2) yK.nd rfl (Or.inl rfl) (aN jH au (pv 2)))) aQ)
  (aG (aW (cG (aj (aN o9 (pv 0) (pv 2)) (aj (aN o9 (pv 1) (pv 2)) aA)))))))),?_⟩
 have hg:=jh (t:=t) hb
 have hle:=gcd_le_right (t:=t) hb
 refine ⟨_,rfl,_,rfl,_,rfl,_,rfl,?_⟩
 refine xq (fun σ H2=>H2=H∧∃ x y:Int,σ=[some (.int t),some (.int b),some (.int x),some (.int y)]∧0≤x∧0≤y∧Int.gcd x y=Int.gcd t b) (fun σ _=>match σ with | [_,_,_,some (.int y)]=>y.toNat | _=>0) ⟨rfl,_,_,rfl,by split <;> omega,by split <;> omega,Dh t b⟩ ?_ ?_
 ·rintro σ H2 ⟨rfl,x,y,rfl,hx,hy,hxy⟩
  refine ⟨_,rfl,rfl,_,rfl,?_⟩
  by_cases h0:y=0
  ·subst h0
   refine Cj rfl ?_
   have e:x=((Int.gcd t b:Nat):Int):=by rw [← hxy,Int.gcd_zero_right];omega
   subst e
   refine ⟨_,rfl,_,_,rfl,rfl,_,rfl,?_⟩
   refine eZ (fun c=>?_) (fun c=>?_)
   ·have c':=of_decide_eq_true c
    have es:sgn t b=0 - ((Int.gcd t b:Nat):Int):=by unfold sgn;rw [if_pos c'];omega
    have Js:(0 - ((Int.gcd t b:Nat):Int)).natAbs<lA:=Nat.lt_of_le_of_lt (by omega) hbig
    refine ⟨_,rfl,_,_,rfl,rfl,_,rfl,_,rfl,_,_,rfl,rfl,⟨by omega,Js⟩,_,rfl,_,rfl,_,_,rfl,rfl,⟨by omega,Js⟩,(by show 2≤sizeLine;decide),fun p hp=>?_⟩
    have q:=k p hp
    unfold iC fQ at q
    rw [es] at q
    exact q
   ·have c':=of_decide_eq_false (Bool.eq_false_iff.mpr c)
    have es:sgn t b=((Int.gcd t b:Nat):Int):=by unfold sgn;rw [if_neg c']
    have Js:(((Int.gcd t b:Nat):Int)).natAbs<lA:=Nat.lt_of_le_of_lt (by omega) hbig
    refine ⟨_,rfl,_,rfl,_,_,rfl,rfl,⟨by omega,Js⟩,_,rfl,_,rfl,_,_,rfl,rfl,⟨by omega,Js⟩,(by show 2≤sizeLine;decide),fun p hp=>?_⟩
    have q:=k p hp
    unfold iC fQ at q
    rw [es] at q
    exact q
  ·have e:decide (V.int y=V.int 0)=false:=by rw [qH];simpa using h0
   rw [e]
   refine dj ?_
   refine ⟨_,rfl,_,rfl,_,rfl,_,_,rfl,rfl,(by show 0<y;omega),_,_,rfl,⟨rfl,y,x % y,rfl,hy,Int.emod_nonneg _ h0,by rw [yI hx (by omega)];exact hxy⟩,?_⟩
   show (x % y).toNat<y.toNat
   have:=Int.emod_lt_of_pos x (show 0<y by omega)
   omega
 ·rintro σ H2 Q1 Q2 hq ⟨v,hv,hsc,c,hc,h⟩
  exact ⟨v,hv,hsc,c,hc,hq _ _ h⟩
end
theorem Nh:10 ^ 1200<lA:=by unfold lA;decide +kernel
theorem iH {n e:Nat} (h:n<10 ^ e) (he:e≤1200):n<lA:=Nat.lt_trans (Nat.lt_of_lt_of_le h (Nat.pow_le_pow_right (by decide) he)) Nh
def Bd (e:Nat) (x:Int×Int):Prop:=x.1.natAbs<10 ^ e∧0<x.2∧x.2.natAbs<10 ^ e
theorem Bd.mono {e f:Nat}{x:Int×Int} (h:Bd e x) (he:e≤f):Bd f x:=⟨Nat.lt_of_lt_of_le h.1 (Nat.pow_le_pow_right (by decide) he),h.2.1,Nat.lt_of_lt_of_le h.2.2 (Nat.pow_le_pow_right (by decide) he)⟩
def nH (t b:Int):Int×Int:=(iC t b,fQ t b)
def za (x y:Int×Int):Int×Int:=nH (x.1 * y.2 - y.1 * x.2) (x.2 * y.2)
theorem lE {a b:Int}{e f:Nat} (ha:a.natAbs<10 ^ e) (hb:b.natAbs<10 ^ f):(a * b).natAbs<10 ^ (e+f):=by
 rw [Int.natAbs_mul,Nat.pow_add]
 exact Nat.mul_lt_mul'' ha hb
theorem Aw {t b:Int}{e:Nat} (hb:0<b) (h1:t.natAbs<10 ^ e) (h2:b.natAbs<10 ^ e):Bd e (nH t b) :=
 ⟨Nat.lt_of_le_of_lt (Nf (by omega)) h1,sS (by omega),Nat.lt_of_le_of_lt (Nb (by omega)) h2⟩
def Q6:Sp:=fun vs H Q _=>∃ (p q:Addr) (x y:Int×Int),vs=[.ref p,.ref q]∧wC H p x.1 x.2∧wC H q y.1 y.2∧Bd 500 x∧Bd 500 y∧∀ r,H r=none→Q (.ref r) (upd H r (.tup [.int (za x y).1,.int (za x y).2]))
section
variable {P:Program}{w:World}{K:PySem.W.Frag}{mg:Str→Option Value}{base:Heap}{f:Addr}{fd:FuncData}
theorem Ni:aZ ["a", "b"] ["a", "b"] (aC pX):=⟨rfl,rfl,rfl,by decide +kernel,rfl,by decide +kernel,by decide +kernel⟩
theorem Jt (F:fH K "minus" "minus" pX f fd) {g:Addr}{gd:FuncData} (G:aL P w K mg base cu 2 g gd ["top", "bottom"] yJ) (M:Ms K mg "part" g gd ["top", "bottom"]):aL P w K mg base cu 3 f fd ["a", "b"] Q6:=by
 refine F.ok Ni (fun vs H Q E h=>?_) (fun cdv A outer s H vs Q E hr h=>?_)
 ·obtain ⟨p,q,x,y,rfl,_⟩:=h
  rfl
 obtain ⟨p,q,x,y,rfl,hp,hq,bx,by',k⟩:=h
 refine ⟨_,aG (aW (bf G hr rfl M.m M.k M.b .nil bD (aj (aN jH (aN iM (aK aR (pv 0) au (fun _ _=>rfl)) (aK aR (pv 1) au (fun _ _=>rfl))) (aN iM (aK aR (pv 1) au (fun _ _=>rfl)) (aK aR (pv 0) au (fun _ _=>rfl)))) (aj (aN iM (aK aR (pv 0) au (fun _ _=>rfl)) (aK aR (pv 1) au (fun _ _=>rfl))) aA)))),?_⟩
 have b1:=iH bx.1 (by decide)
 have b2:=iH bx.2.2 (by decide)
 have b3:=iH by'.1 (by decide)
 have b4:=iH by'.2.2 (by decide)
 exact ⟨_,rfl,p,_,_,_,rfl,rfl,bM.of hp,aF (j:=0) rfl,_,rfl,q,_,_,_,rfl,rfl,bM.of hq,aF (j:=1) rfl,_,_,rfl,rfl,⟨b1,b4⟩,_,rfl,q,_,_,_,rfl,rfl,bM.of hq,aF (j:=0) rfl,_,rfl,p,_,_,_,rfl,rfl,bM.of hp,aF (j:=1) rfl,_,_,rfl,rfl,⟨b3,b2⟩,_,_,rfl,rfl,
  _,rfl,p,_,_,_,rfl,rfl,bM.of hp,aF (j:=1) rfl,_,rfl,q,_,_,_,rfl,rfl,bM.of hq,aF (j:=1) rfl,_,_,rfl,rfl,⟨b2,b4⟩,_,_,rfl,Int.ne_of_gt (Int.mul_pos bx.2.1 by'.2.1),iH (lE bx.2.2 by'.2.2) (by decide),k⟩
end
end M
namespace M
open PySem L2 PyProof.Rows
def v9 (C:Addr):Sp:=fun vs H Q _=>∃ x dx a1 a2 a3 a4 a5 lo ho ow se br e n man p t0,∃ (acres own nj:Int) (sx:Int×Int),vs=[.ref x,.str e,.str n,.str man,.int acres]∧bZ C H x dx a1 a2 a3 a4 a5 lo ho ow se br∧T4 a1 a2 a3 a4 a5 ∧
 bQ lo (.inr e)=some (.str p)∧bQ ow (.inr e)=some (.int own)∧bQ se (.inr e)=some (.ref t0)∧bQ br (.inr e)=some (.int nj)∧wC H t0 sx.1 sx.2∧Bd 400 sx∧0<nj∧nj.natAbs<10 ^ 5∧acres.natAbs<10 ^ 5 ∧
 lo.length≤800∧ho.length≤800∧ow.length≤800∧se.length≤800∧br.length≤800 ∧
 ∀ g r H',H g=none→H r=none→g≠r →
  bZ C H' x dx a1 a2 a3 a4 a5 (putK lo (.inr n) (.str p)) (putK ho (.inr n) (.str man)) (putK (putK ow (.inr e) (.int (own - acres))) (.inr n) (.int acres)) (putK (putK se (.inr e) (.ref r)) (.inr n) (.ref g)) (putK (putK br (.inr e) (.int (nj - acres))) (.inr n) (.int acres)) →
  wC H' g (nH (sx.1 * acres) (sx.2 * nj)).1 (nH (sx.1 * acres) (sx.2 * nj)).2→wC H' r (za sx (nH (sx.1 * acres) (sx.2 * nj))).1 (za sx (nH (sx.1 * acres) (sx.2 * nj))).2 →
  (∀ c o,c≠a1→c≠a2→c≠a3→c≠a4→c≠a5→H c=some o→H' c=some o)→Q .non H'
section
variable {P:Program}{w:World}{K:PySem.W.Frag}{mg:Str→Option Value}{base:Heap}{f C:Addr}{fd:FuncData}
theorem pZ:aZ ["self", "estate", "new", "man", "acres", "service", "going"] ["self", "estate", "new", "man", "acres"] (aC jB):=⟨rfl,rfl,rfl,by decide +kernel,rfl,by decide +kernel,by decide +kernel⟩
set_option maxHeartbeats 8000000 in
theorem Ax (T:cX K C) (F:fH K "part_off" "Land.part_off" jB f fd) {g1 g2 g3:Addr}{d1 d2 d3:FuncData} (G1:aL P w K mg base cu 1 g1 d1 ["self", "name", "lord", "holder", "acres", "service"] (Jf C)) (m1:Meth K C "add_estate" g1) (b1:Binds K d1 ["self", "name", "lord", "holder", "acres", "service"] [])
  (G2:aL P w K mg base cu 2 g2 d2 ["top", "bottom"] yJ) (M2:Ms K mg "part" g2 d2 ["top", "bottom"]) (G3:aL P w K mg base cu 3 g3 d3 ["a", "b"] Q6) (M3:Ms K mg "minus" g3 d3 ["a", "b"]) :
  aL P w K mg base cu 4 f fd ["self", "estate", "new", "man", "acres"] (v9 C):=by
 refine F.ok pZ (fun vs H Q E h=>?_) (fun cdv A outer s H vs Q E hr h=>?_)
 ·obtain ⟨x,dx,a1,a2,a3,a4,a5,lo,ho,ow,se,br,e,n,man,p,t0,acres,own,nj,sx,rfl,_⟩:=h
  rfl
 obtain ⟨x,dx,a1,a2,a3,a4,a5,lo,ho,ow,se,br,e,n,man,p,t0,acres,own,nj,sx,rfl,L,ap,hlo,how,hse,hbr,h0,bx,hb0,hb1,hac,e1,e2,e3,e4,e5,k⟩:=h
 have G1:=aL.mono (k:=3) G1 (by omega)
 have G2:=aL.mono (k:=3) G2 (by omega)
 refine ⟨_,aq (aY (i:=5) pZ.nd rfl (Or.inl rfl) (aO (u1 hr) (cj (pv 0) rfl) (pv 1) (fun _ _=>rfl)))
  (aq (aY (i:=6) pZ.nd rfl (Or.inl rfl) (bf G2 hr rfl M2.m M2.k M2.b .nil bD (aj (aN iM (aK aR (pv 5) au (fun _ _=>rfl)) (pv 4)) (aj (aN iM (aK aR (pv 5) au (fun _ _=>rfl)) (aO (u1 hr) (cj (pv 0) rfl) (pv 1) (fun _ _=>rfl))) aA))))
  (aq (lX (u1 hr) (cj (pv 0) rfl) (pv 1) (pv 4) vJ (fun _ _ _=>rfl))
  (aq (lX (u1 hr) (cj (pv 0) rfl) (pv 1) (pv 4) vJ (fun _ _ _=>rfl))
  (aq (dX (u1 hr) (cj (pv 0) rfl) (pv 1) (bf G3 hr rfl M3.m M3.k M3.b .nil bD (aj (pv 5) (aj (pv 6) aA))) rfl)
  (aG (bT (bH (pv 0) T.cl m1 G1 hr b1 .nil bD (aj (pv 2) (aj (aO (u1 hr) (cj (pv 0) rfl) (pv 1) (fun _ _=>rfl)) (aj (pv 3) (aj (pv 4) (aj (pv 6) aA)))))))))))),?_⟩
 have q1:=iH bx.1 (by decide)
 have q2:=iH bx.2.2 (by decide)
 have q3:=iH hac (by decide)
 have q4:=iH hb1 (by decide)
 refine ⟨_,rfl,x,C,dx,_,_,rfl,L.o,T.cl,T.n4,rfl,_,rfl,_,_,rfl,fP L.l4 hse,?_⟩
 refine ⟨_,rfl,t0,_,_,_,rfl,rfl,bM.of h0,aF (j:=0) rfl,_,rfl,_,_,rfl,rfl,⟨q1,q3⟩,_,rfl,t0,_,_,_,rfl,rfl,bM.of h0,aF (j:=1) rfl,?_⟩
 refine ⟨_,rfl,x,C,dx,_,_,rfl,L.o,T.cl,T.n5,rfl,_,rfl,_,_,rfl,fP L.l5 hbr,_,_,rfl,rfl,⟨q2,q4⟩,_,_,rfl,Int.ne_of_gt (Int.mul_pos bx.2.1 hb0),iH (lE bx.2.2 hb1) (by decide),fun g hg=>?_⟩
 have L1:=L.same (aD hg (.tup [.int (nH (sx.1 * acres) (sx.2 * nj)).1,.int (nH (sx.1 * acres) (sx.2 * nj)).2]))
 have f1:=(aD hg (.tup [.int (nH (sx.1 * acres) (sx.2 * nj)).1,.int (nH (sx.1 * acres) (sx.2 * nj)).2]))
 have hg1:(upd H g (.tup [.int (nH (sx.1 * acres) (sx.2 * nj)).1,.int (nH (sx.1 * acres) (sx.2 * nj)).2])) g=some (.tup [.int (nH (sx.1 * acres) (sx.2 * nj)).1,.int (nH (sx.1 * acres) (sx.2 * nj)).2]):=ak
 have bg:Bd 405 (nH (sx.1 * acres) (sx.2 * nj)):=Aw (Int.mul_pos bx.2.1 hb0) (lE bx.1 hac) (lE bx.2.2 hb1)
 change (Gy _ _) _ _ (upd H g (.tup [.int (nH (sx.1 * acres) (sx.2 * nj)).1,.int (nH (sx.1 * acres) (sx.2 * nj)).2]))
 generalize nH (sx.1 * acres) (sx.2 * nj)=go at L1 f1 hg1 bg k ⊢
 have h01:=f1 _ _ h0
 have Q7:∀ c,(upd H g (.tup [.int go.1,.int go.2])) c=none→H c=none∧c≠g:=fun c hc=>by
  by_cases q:c=g
  ·rw [q,ak] at hc;cases hc
  ·rw [ao q] at hc;exact ⟨hc,q⟩
 generalize upd H g (.tup [.int go.1,.int go.2])=H1 at L1 f1 hg1 h01 Q7 ⊢
 refine ⟨_,rfl,x,C,dx,_,_,rfl,L1.o,T.cl,T.n3,rfl,_,rfl,a3,_,rfl,fP L1.l3 how,_,rfl,_,_,rfl,rfl,_,gZ.k (k:=.inr e) L1.l3 (bY (by omega)),?_⟩
 have g3:=bh hg1 L1.l3 (by intro q;cases q)
 have g4:=bh hg1 L1.l4 (by intro q;cases q)
 have g5:=bh hg1 L1.l5 (by intro q;cases q)
 have t3:=bh h01 L1.l3 (by intro q;cases q)
 have t5:=bh h01 L1.l5 (by intro q;cases q)
 have L2:bZ C (upd H1 a3 (.dK (putK ow (.inr e) (.int (own - acres))))) x dx a1 a2 a3 a4 a5 lo ho (putK ow (.inr e) (.int (own - acres))) se br :=
  ⟨by rw [ao (bh L1.o L1.l3 (by intro q;cases q))];exact L1.o,by rw [ao ap.n13];exact L1.l1,by rw [ao ap.n23];exact L1.l2,ak,by rw [ao (Ne.symm ap.n34)];exact L1.l4,by rw [ao (Ne.symm ap.n35)];exact L1.l5⟩
 have hg2:(upd H1 a3 (.dK (putK ow (.inr e) (.int (own - acres))))) g=some (.tup [.int go.1,.int go.2]):=by rw [ao g3];exact hg1
 have h02:(upd H1 a3 (.dK (putK ow (.inr e) (.int (own - acres))))) t0=some (.tup [.int sx.1,.int sx.2]):=by rw [ao t3];exact h01
 have f2:∀ c o,c≠a3→H c=some o→(upd H1 a3 (.dK (putK ow (.inr e) (.int (own - acres))))) c=some o:=fun c o hc q=>by rw [ao hc];exact f1 c o q
 have Q8:∀ c,(upd H1 a3 (.dK (putK ow (.inr e) (.int (own - acres))))) c=none→H c=none∧c≠g:=fun c hc=>by
  by_cases q:c=a3
  ·rw [q,ak] at hc;cases hc
  ·rw [ao q] at hc;exact Q7 c hc
 generalize upd H1 a3 (.dK (putK ow (.inr e) (.int (own - acres))))=H2 at L2 hg2 h02 f2 Q8 ⊢
 have hl2:=cW ow (.inr e) (.int (own - acres))
 generalize putK ow (.inr e) (.int (own - acres))=ow2 at L2 hl2 k ⊢
 refine ⟨_,rfl,x,C,dx,_,_,rfl,L2.o,T.cl,T.n5,rfl,_,rfl,a5,_,rfl,fP L2.l5 hbr,_,rfl,_,_,rfl,rfl,_,gZ.k (k:=.inr e) L2.l5 (bY (by omega)),?_⟩
 have L3:bZ C (upd H2 a5 (.dK (putK br (.inr e) (.int (nj - acres))))) x dx a1 a2 a3 a4 a5 lo ho ow2 se (putK br (.inr e) (.int (nj - acres))) :=
  ⟨by rw [ao (bh L2.o L2.l5 (by intro q;cases q))];exact L2.o,by rw [ao ap.n15];exact L2.l1,by rw [ao ap.n25];exact L2.l2,by rw [ao ap.n35];exact L2.l3,by rw [ao ap.n45];exact L2.l4,ak⟩
 have hg3:(upd H2 a5 (.dK (putK br (.inr e) (.int (nj - acres))))) g=some (.tup [.int go.1,.int go.2]):=by rw [ao g5];exact hg2
 have h03:(upd H2 a5 (.dK (putK br (.inr e) (.int (nj - acres))))) t0=some (.tup [.int sx.1,.int sx.2]):=by rw [ao t5];exact h02
 have f3:∀ c o,c≠a3→c≠a5→H c=some o→(upd H2 a5 (.dK (putK br (.inr e) (.int (nj - acres))))) c=some o:=fun c o hc hc2 q=>by rw [ao hc2];exact f2 c o hc q
 have Q9:∀ c,(upd H2 a5 (.dK (putK br (.inr e) (.int (nj - acres))))) c=none→H c=none∧c≠g:=fun c hc=>by
  by_cases q:c=a5
  ·rw [q,ak] at hc;cases hc
  ·rw [ao q] at hc;exact Q8 c hc
 generalize upd H2 a5 (.dK (putK br (.inr e) (.int (nj - acres))))=H3 at L3 hg3 h03 f3 Q9 ⊢
 have hl3:=cW br (.inr e) (.int (nj - acres))
 generalize putK br (.inr e) (.int (nj - acres))=br2 at L3 hl3 k ⊢
 refine ⟨_,rfl,_,rfl,t0,g,sx,go,rfl,h03,hg3,bx.mono (by decide),bg.mono (by decide),fun r wD=>?_⟩
 obtain ⟨hr0,hrg⟩:=Q9 r wD
 have s4:=aD wD (.tup [.int (za sx go).1,.int (za sx go).2])
 have L4:=L3.same s4
 have hg4:=s4 _ _ hg3
 have f4:∀ c o,c≠a3→c≠a5→H c=some o→_:=fun c o hc hc2 q=>s4 _ _ (f3 c o hc hc2 q)
 have Di:(upd H3 r (.tup [.int (za sx go).1,.int (za sx go).2])) r=some (.tup [.int (za sx go).1,.int (za sx go).2]):=ak
 generalize upd H3 r (.tup [.int (za sx go).1,.int (za sx go).2])=H4 at L4 hg4 f4 Di ⊢
 refine ⟨_,rfl,x,C,dx,_,_,rfl,L4.o,T.cl,T.n4,rfl,_,rfl,a4,_,rfl,gZ.k (k:=.inr e) L4.l4 (bY (by omega)),?_⟩
 have hl4:=cW se (.inr e) (.ref r)
 have r4:=bh Di L4.l4 (by intro q;cases q)
 have L5:bZ C (upd H4 a4 (.dK (putK se (.inr e) (.ref r)))) x dx a1 a2 a3 a4 a5 lo ho ow2 (putK se (.inr e) (.ref r)) br2 :=
  ⟨by rw [ao (bh L4.o L4.l4 (by intro q;cases q))];exact L4.o,by rw [ao ap.n14];exact L4.l1,by rw [ao ap.n24];exact L4.l2,by rw [ao ap.n34];exact L4.l3,ak,by rw [ao (Ne.symm ap.n45)];exact L4.l5⟩
 have Te:(upd H4 a4 (.dK (putK se (.inr e) (.ref r)))) g=some (.tup [.int go.1,.int go.2]):=by rw [ao g4];exact hg4
 have Dj:(upd H4 a4 (.dK (putK se (.inr e) (.ref r)))) r=some (.tup [.int (za sx go).1,.int (za sx go).2]):=by rw [ao r4];exact Di
 have f5:∀ c o,c≠a3→c≠a4→c≠a5→H c=some o→(upd H4 a4 (.dK (putK se (.inr e) (.ref r)))) c=some o:=fun c o hc hc4 hc5 q=>by rw [ao hc4];exact f4 c o hc hc5 q
 generalize upd H4 a4 (.dK (putK se (.inr e) (.ref r)))=H5 at L5 Te Dj f5 ⊢
 refine ⟨_,rfl,x,dx,_,rfl,L5.o,rfl,_,rfl,?_⟩
 refine ⟨_,rfl,x,C,dx,_,_,rfl,L5.o,T.cl,T.n1,rfl,_,rfl,_,_,rfl,fP L5.l1 hlo,_,rfl,_,rfl,_,rfl,?_⟩
 refine ⟨x,dx,a1,a2,a3,a4,a5,lo,ho,ow2,_,br2,n,p,man,acres,g,rfl,L5,ap,by omega,by omega,by omega,by omega,by omega,?_⟩
 have x1:=bh L5.o L5.l1 (by intro q;cases q)
 have x2:=bh L5.o L5.l2 (by intro q;cases q)
 have x3:=bh L5.o L5.l3 (by intro q;cases q)
 have x4:=bh L5.o L5.l4 (by intro q;cases q)
 have x5:=bh L5.o L5.l5 (by intro q;cases q)
 have out:∀ c o,c≠a1→c≠a2→c≠a3→c≠a4→c≠a5→H5 c=some o→pW H5 a1 a2 a3 a4 a5 lo ho ow2 (putK se (.inr e) (.ref r)) br2 n p man acres g c=some o:=fun c o c1 c2 c3 c4 c5 q=>by
  unfold pW;rw [ao c5,ao c4,ao c3,ao c2,ao c1];exact q
 refine k g r _ hg hr0 (Ne.symm hrg) ⟨out _ _ x1 x2 x3 x4 x5 L5.o,?_,?_,?_,?_,?_⟩ ?_ ?_ fun c o c1 c2 c3 c4 c5 q=>out c o c1 c2 c3 c4 c5 (f5 c o c3 c4 c5 q)
 ·unfold pW;rw [ao ap.n15,ao ap.n14,ao ap.n13,ao ap.n12,ak]
 ·unfold pW;rw [ao ap.n25,ao ap.n24,ao ap.n23,ak]
 ·unfold pW;rw [ao ap.n35,ao ap.n34,ak]
 ·unfold pW;rw [ao ap.n45,ak]
 ·unfold pW;exact ak
 ·exact out _ _ (bh Te L5.l1 (by intro q;cases q)) (bh Te L5.l2 (by intro q;cases q)) (bh Te L5.l3 (by intro q;cases q)) (bh Te L5.l4 (by intro q;cases q)) (bh Te L5.l5 (by intro q;cases q)) Te
 ·exact out _ _ (bh Dj L5.l1 (by intro q;cases q)) (bh Dj L5.l2 (by intro q;cases q)) (bh Dj L5.l3 (by intro q;cases q)) (bh Dj L5.l4 (by intro q;cases q)) (bh Dj L5.l5 (by intro q;cases q)) Dj
end
end M
namespace M
open PySem L2 PyProof.Rows
abbrev sU:Stmt:=top 12
abbrev Ay:Stmt:=top 19
def KTp (K:PySem.W.Frag) (a:Addr) (xs:List V):Prop:=∃ (o:Obj) (its:Array Value) (n:Nat),K.lookup a=some o∧o.cls=.type "tuple"∧o.data=.seq its n∧its.size≤sizeLine∧Vals xs its.toList
theorem KTp.sq {K:PySem.W.Frag}{a:Addr}{xs:List V} (h:KTp K a xs) (H:Hp):bM K H a xs:=.inr h
structure Nj (K:PySem.W.Frag) (P:Params) (mg:Str→Option Value):Prop where
 bounds:∃ a b1 b2 b3 b4 b5 b6 b7,mg "BOUNDS"=some (.ref a)∧KD K P a [("day",.ref b1),("acres",.ref b2),("service",.ref b3),("bears",.ref b4),("edge",.ref b5),("number",.ref b6),("entry",.ref b7)]∧KTp K b2 [.int 1,.int 9999]
 crown:∃ t,mg "CROWN"=some (.str "" t)
def Ju:Sp:=fun vs H Q _=>∃ n:Int,vs=[.str "acres",.int n]∧1≤n∧n≤9999∧Q (.bl true) H
def Qa:Sp:=fun vs H Q _=>∃ n:Int,vs=[.int n]∧1≤n∧n≤9999∧Q .non H
abbrev gM (v:V):List (Key×V):=[(.inr "",v)]
def Az (C:Addr):Sp:=fun vs H Q _=>∃ x dx,∃ n:Int,vs=[.ref x,.int n]∧H x=some (.ins C dx [])∧1≤n∧n≤9999 ∧
 ∀ a1 a2 a3 a4 a5 t H',(∀ c o,c≠x→H c=some o→H' c=some o)→bZ C H' x dx a1 a2 a3 a4 a5 (gM .non) (gM (.str "")) (gM (.int n)) (gM (.ref t)) (gM (.int n))→T4 a1 a2 a3 a4 a5 →
  H a1=none→H a2=none→H a3=none→H a4=none→H a5=none→H t=none→wC H' t 0 1→Q .non H'
theorem gw {X:Cx}{pos:Pos}{k v:Expr}{tk tv:TE} (hk:PE X k tk) (hv:PE X v tv):PE X (.Dict [some k] [v] pos) (mR [(tk,tv)]):=by
 refine CJ ?h ?a ?b ?c ?d
 case a=>exact rfl
 case b=>exact rfl
 case c=>exact List.cons_ne_nil _ _
 case d=>exact Nat.le_of_ble_eq_true rfl
 case h=>exact gn hk hv CG
theorem wF {K:PySem.W.Frag}{ta tv:TE}{f:Str}{rest:TS}{D:Ends}{σ:L2.St}{H:Hp} (h:tv σ H fun y H1=>ta σ H1 fun x H2=>∃ a C dx fs,x=.ref a∧H2 a=some (.ins C dx fs)∧Cls K C∧iz K C f∧fs.length<1000∧rest D σ (upd H2 a (.ins C dx (kY f y fs)))):Gy (W4 K ta tv f) rest D σ H:=h
theorem jD {H H':Hp}{x:Addr}{o o':HO} (h0:H x=some o) (h1:H' x=some o') (f:∀ c o,c≠x→H c=some o→H' c=some o):∀ c,H' c=none→H c=none:=fun c hc=>by
 cases q:H c with
 | none=>rfl
 | some u =>
  by_cases hcx:c=x
  ·rw [hcx,h1] at hc;cases hc
  ·rw [f c u hcx q] at hc;cases hc
theorem oU {k:Str}{tv:TE}{σ:L2.St}{H:Hp}{Q:VK} (h:∀ p,H p=none→∀ Q':VK,(∀ y H2,H2 p=some (.dK [])→Q (.ref p) (upd H2 p (.dK [(.inr k,y)]))→Q' y H2)→tv σ (upd H p (.dK [])) Q'):mR [(tC (.str k),tv)] σ H Q:=by
 intro p hp
 show tv σ _ _
 refine h p hp _ fun y H2 e q=>?_
 exact ⟨e,[(.inr k,y)],rfl,Nat.le_of_ble_eq_true rfl,q⟩
section
variable {P:Program}{w:World}{K:PySem.W.Frag}{mg:Str→Option Value}{base:Heap}{f C:Addr}{fd:FuncData}
theorem q9:aZ ["sort", "piece", "least", "greatest"] ["sort", "piece"] (aC sU):=⟨rfl,rfl,rfl,by decide +kernel,rfl,by decide +kernel,by decide +kernel⟩
set_option maxHeartbeats 4000000 in
theorem Nk (F:fH K "fits" "fits" sU f fd) (mo:Nj K w.params mg):aL P w K mg base cu 1 f fd ["sort", "piece"] Ju:=by
 obtain ⟨aB,b1,b2,b3,b4,b5,b6,b7,mB,kB,t2⟩:=mo.bounds
 refine F.ok q9 (fun vs H Q E h=>?_) (fun cdv A outer s H vs Q E hr h=>?_)
 ·obtain ⟨n,rfl,_⟩:=h
  rfl
 obtain ⟨n,rfl,h1,h2,k⟩:=h
 refine ⟨_,aq (bJ (aM CK (pv 0) (dz rfl mB rfl (v:=.ref aB)) (by with_unfolding_all rfl))
   (aq (GC (aK Pz (dz rfl mB rfl (v:=.ref aB)) (pv 0) (fun _ _=>rfl)) (zm rfl (dZ (bL (i:=2) q9.nd rfl (Or.inl rfl)) (dZ (bL (i:=3) q9.nd rfl (Or.inl rfl)) lN))))
   (aG (aW (rD u9 u9 (pv 2) (pv 1) (pv 3))))) aQ) bN,?_⟩
 refine ⟨_,rfl,_,aB,_,rfl,rfl,kB,_,rfl,dj ?_⟩
 refine ⟨_,rfl,aB,_,_,_,rfl,rfl,kB,rfl,?_⟩
 refine ⟨b2,_,rfl,t2.sq _,rfl,_,_,rfl,_,_,rfl,rfl,?_⟩
 refine ⟨_,rfl,_,rfl,_,_,rfl,rfl,_,rfl,?_⟩
 rw [decide_eq_true h1]
 refine dj ⟨_,rfl,_,_,rfl,rfl,?_⟩
 show Q (.bl (decide (n≤9999))) H
 rw [decide_eq_true h2]
 exact k
theorem Qc:aZ ["acres"] ["acres"] (aC Ay):=⟨rfl,rfl,rfl,by decide +kernel,rfl,by decide +kernel,by decide +kernel⟩
theorem Tf (F:fH K "check_acres" "check_acres" Ay f fd) {g1:Addr}{d1:FuncData} (G1:aL P w K mg base cu 1 g1 d1 ["sort", "piece"] Ju) (M1:Ms K mg "fits" g1 d1 ["sort", "piece"]):aL P w K mg base cu 2 f fd ["acres"] Qa:=by
 refine F.ok Qc (fun vs H Q E h=>?_) (fun cdv A outer s H vs Q E hr h=>?_)
 ·obtain ⟨n,rfl,_⟩:=h
  rfl
 obtain ⟨n,rfl,h1,h2,k⟩:=h
 refine ⟨_,aG (bJ (gb (dU (bf G1 hr rfl M1.m M1.k M1.b .nil bD (aj aJ (aj (pv 0) aA))))) bN aQ),?_⟩
 exact ⟨_,rfl,n,rfl,h1,h2,_,rfl,cB k⟩
theorem Jv:aZ ["self", "acres"] ["self", "acres"] (aC rZ):=⟨rfl,rfl,rfl,by decide +kernel,rfl,by decide +kernel,by decide +kernel⟩
set_option maxHeartbeats 8000000 in
theorem Np (T:cX K C) (F:fH K "__init__" "Land.__init__" rZ f fd) (mo:Nj K w.params mg) {g1:Addr}{d1:FuncData} (G1:aL P w K mg base cu 2 g1 d1 ["acres"] Qa) (M1:Ms K mg "check_acres" g1 d1 ["acres"]):aL P w K mg base cu 3 f fd ["self", "acres"] (Az C):=by
 obtain ⟨tc,mC⟩:=mo.crown
 refine F.ok Jv (fun vs H Q E h=>?_) (fun cdv A outer s H vs Q E hr h=>?_)
 ·obtain ⟨x,dx,n,rfl,_⟩:=h
  rfl
 obtain ⟨x,dx,n,rfl,hx,h1,h2,k⟩:=h
 refine ⟨_,aq (bT (bf G1 hr rfl M1.m M1.k M1.b .nil bD (aj (pv 1) aA)))
  (aq (rH (pv 0) (gw (dz rfl mC ⟨_,rfl⟩ (v:=.str "")) rA) rfl)
  (aq (rH (pv 0) (gw (dz rfl mC ⟨_,rfl⟩ (v:=.str "")) (dz rfl mC ⟨_,rfl⟩ (v:=.str ""))) rfl)
  (aq (rH (pv 0) (gw (dz rfl mC ⟨_,rfl⟩ (v:=.str "")) (pv 1)) rfl)
  (aq (rH (pv 0) (gw (dz rfl mC ⟨_,rfl⟩ (v:=.str "")) (cG (aj au (aj au aA)))) rfl)
  (aG (rH (pv 0) (gw (dz rfl mC ⟨_,rfl⟩ (v:=.str "")) (pv 1)) rfl)))))),?_⟩
 refine ⟨_,rfl,n,rfl,h1,h2,?_⟩
 refine wF (oU (k:="") (tv:=tC .non) fun a1 e1 Q1 k1=>k1 _ _ ak ?_)
 have n1:x≠a1:=aH hx e1
 refine ⟨_,rfl,x,C,dx,_,rfl,by rw [ao n1,ao n1];exact hx,T.cl,T.n1,Nat.lt_of_sub_eq_succ rfl,?_⟩
 generalize hH1:upd _ x _=H1
 have x1:H1 x=some (.ins C dx [("lord_of",.ref a1)]):=by rw [← hH1,ak];rfl
 have p1:H1 a1=some (.dK (gM .non)):=by rw [← hH1,ao (Ne.symm n1),ak]
 have f1:∀ c o,c≠x→H c=some o→H1 c=some o:=fun c o hc ho=>by rw [← hH1,ao hc,ao (aH ho e1),ao (aH ho e1)];exact ho
 have z1:∀ c,H1 c=none→H c=none:=jD hx x1 f1
 clear hH1
 refine wF (oU (k:="") (tv:=tC (.str "")) fun a2 e2 Q2 k2=>k2 _ _ ak ?_)
 have n2:x≠a2:=aH x1 e2
 refine ⟨_,rfl,x,C,dx,_,rfl,by rw [ao n2,ao n2];exact x1,T.cl,T.n2,Nat.lt_of_sub_eq_succ rfl,?_⟩
 generalize hH2:upd _ x _=H2
 have x2:H2 x=some (.ins C dx [("lord_of",.ref a1),("holder_of",.ref a2)]):=by rw [← hH2,ak];rfl
 have p2:H2 a2=some (.dK (gM (.str ""))):=by rw [← hH2,ao (Ne.symm n2),ak]
 have f2:∀ c o,c≠x→H1 c=some o→H2 c=some o:=fun c o hc ho=>by rw [← hH2,ao hc,ao (aH ho e2),ao (aH ho e2)];exact ho
 have z2:∀ c,H2 c=none→H1 c=none:=jD x1 x2 f2
 clear hH2
 refine wF (oU (k:="") (tv:=zf 1) fun a3 e3 Q3 k3=>⟨_,rfl,k3 _ _ ak ?_⟩)
 have n3:x≠a3:=aH x2 e3
 refine ⟨_,rfl,x,C,dx,_,rfl,by rw [ao n3,ao n3];exact x2,T.cl,T.n3,Nat.lt_of_sub_eq_succ rfl,?_⟩
 generalize Qd:upd _ x _=H3
 have x3:H3 x=some (.ins C dx [("lord_of",.ref a1),("holder_of",.ref a2),("own_of",.ref a3)]):=by rw [← Qd,ak];rfl
 have p3:H3 a3=some (.dK (gM (.int n))):=by rw [← Qd,ao (Ne.symm n3),ak]
 have f3:∀ c o,c≠x→H2 c=some o→H3 c=some o:=fun c o hc ho=>by rw [← Qd,ao hc,ao (aH ho e3),ao (aH ho e3)];exact ho
 have z3:∀ c,H3 c=none→H2 c=none:=jD x2 x3 f3
 clear Qd
 refine wF (oU (k:="") (tv:=Le (rJ (tC (.int 0)) (rJ (tC (.int 1)) zE))) fun a4 e4 Q4 k4=>⟨small (by simp),fun t ht=>k4 _ _ (by rw [ao (fun q=>by rw [← q,ak] at ht;cases ht)];exact ak) ?_⟩)
 have n4:x≠a4:=aH x3 e4
 have t4:t≠a4:=fun q=>by rw [q,ak] at ht;cases ht
 have ht0:H3 t=none:=by rw [ao t4] at ht;exact ht
 have nt:x≠t:=aH x3 ht0
 refine ⟨_,rfl,x,C,dx,_,rfl,by rw [ao n4,ao nt,ao n4];exact x3,T.cl,T.n4,Nat.lt_of_sub_eq_succ rfl,?_⟩
 generalize KN:upd _ x _=H4
 have x4:H4 x=some (.ins C dx [("lord_of",.ref a1),("holder_of",.ref a2),("own_of",.ref a3),("service_of",.ref a4)]):=by rw [← KN,ak];rfl
 have p4:H4 a4=some (.dK (gM (.ref t))):=by rw [← KN,ao (Ne.symm n4),ak]
 have f4:∀ c o,c≠x→H3 c=some o→H4 c=some o:=fun c o hc ho=>by rw [← KN,ao hc,ao (aH ho e4),ao (aH ho ht0),ao (aH ho e4)];exact ho
 have pt:H4 t=some (.tup [.int 0,.int 1]):=by rw [← KN,ao (Ne.symm nt),ao t4,ak]
 have z4:∀ c,H4 c=none→H3 c=none:=jD x3 x4 f4
 clear KN
 refine oU (k:="") (tv:=zf 1) fun a5 e5 Q5 k5=>⟨_,rfl,k5 _ _ ak ?_⟩
 have n5:x≠a5:=aH x4 e5
 refine ⟨_,rfl,x,C,dx,_,rfl,by rw [ao n5,ao n5];exact x4,T.cl,T.n5,Nat.lt_of_sub_eq_succ rfl,?_⟩
 generalize hH5:upd _ x _=H5
 have x5:H5 x=some (.ins C dx [("lord_of",.ref a1),("holder_of",.ref a2),("own_of",.ref a3),("service_of",.ref a4),("breadth_of",.ref a5)]):=by rw [← hH5,ak];rfl
 have p5:H5 a5=some (.dK (gM (.int n))):=by rw [← hH5,ao (Ne.symm n5),ak]
 have f5:∀ c o,c≠x→H4 c=some o→H5 c=some o:=fun c o hc ho=>by rw [← hH5,ao hc,ao (aH ho e5),ao (aH ho e5)];exact ho
 have z5:∀ c,H5 c=none→H4 c=none:=jD x4 x5 f5
 clear hH5
 have q15:=f2 _ _ (Ne.symm n1) p1
 have q25:=f3 _ _ (Ne.symm n1) q15
 have q35:=f4 _ _ (Ne.symm n1) q25
 have q45:=f5 _ _ (Ne.symm n1) q35
 have r3:=f3 _ _ (Ne.symm n2) p2
 have r4:=f4 _ _ (Ne.symm n2) r3
 have r5:=f5 _ _ (Ne.symm n2) r4
 have s4:=f4 _ _ (Ne.symm n3) p3
 have s5:=f5 _ _ (Ne.symm n3) s4
 have u5:=f5 _ _ (Ne.symm n4) p4
 refine k a1 a2 a3 a4 a5 t _ (fun c o hc ho=>f5 _ _ hc (f4 _ _ hc (f3 _ _ hc (f2 _ _ hc (f1 _ _ hc ho))))) ⟨x5,q45,r5,s5,u5,p5⟩
  ⟨aH p1 e2,aH q15 e3,aH q25 e4,aH q35 e5,aH p2 e3,aH r3 e4,aH r4 e5,aH p3 e4,aH s4 e5,aH p4 e5⟩
  e1 (z1 _ e2) (z1 _ (z2 _ e3)) (z1 _ (z2 _ (z3 _ e4))) (z1 _ (z2 _ (z3 _ (z4 _ e5)))) (z1 _ (z2 _ (z3 _ ht0))) (f5 _ _ (Ne.symm nt) pt)
end
end M
namespace M
open PySem L2 PyProof.Rows
abbrev qw:Stmt:=top 25
theorem Fx:∃ k1 x1 k2 x2 x3 k4 x4 k5 x5 x6 k7 x7 x8 x9 k10 x10 k11 x11 k12 x12 k13 x13 x14 x15 x16 x17 x18 j0 j1 j2 j3 j4 j5 j6 j7 p0 p1 p2 p3 p4 p5 p6 p7 q q',aV qw=[.Return (some (.Dict [some (.Constant (.str "lords") j0 p0),some (.Constant (.str "holders") j1 p1),some (.Constant (.str "own") j2 p2),some (.Constant (.str "due") j3 p3),some (.Constant (.str "known") j4 p4),some (.Constant (.str "heirs") j5 p5),some (.Constant (.str "dead") j6 p6),some (.Constant (.str "lieges") j7 p7)] [.Dict [some (.Constant (.str "") k1 x1)] [.Constant .none k2 x2] x3,.Dict [some (.Constant (.str "") k4 x4)] [.Constant (.str "") k5 x5] x6,.Dict [some (.Constant (.str "") k7 x7)] [.Name "_law_acres" x8] x9,.Dict [some (.Constant (.str "") k10 x10)] [.Tuple [.Constant (.int 0) k11 x11,.Constant (.int 1) k12 x12] k13 x13] x14,.List [] x15,.Dict [] [] x16,.List [] x17,.Dict [] [] x18] q)) q']:=⟨_,_,_,_,_,_,_,_,_,_,_,_,_,_,_,_,_,_,_,_,_,_,_,_,_,_,_,_,_,_,_,_,_,_,_,_,_,_,_,_,_,_,_,_,_,rfl⟩
set_option maxHeartbeats 8000000 in
theorem Jw {X:Cx} (hv:∀ p,PE X (.Name "_law_acres" p) (zf 0)):wX X (aV qw) (La (mR [(tC (.str "lords"),mR [(tC (.str ""),tC .non)]),(tC (.str "holders"),mR [(tC (.str ""),tC (.str ""))]),(tC (.str "own"),mR [(tC (.str ""),zf 0)]),(tC (.str "due"),mR [(tC (.str ""),Le (rJ (tC (.int 0)) (rJ (tC (.int 1)) zE)))]),(tC (.str "known"),RL zE),(tC (.str "heirs"),zU),(tC (.str "dead"),RL zE),(tC (.str "lieges"),zU)])):=by
 obtain ⟨k1,x1,k2,x2,x3,k4,x4,k5,x5,x6,k7,x7,x8,x9,k10,x10,k11,x11,k12,x12,k13,x13,x14,x15,x16,x17,x18,j0,j1,j2,j3,j4,j5,j6,j7,p0,p1,p2,p3,p4,p5,p6,p7,q,q',h⟩:=Fx
 rw [h]
 refine aG ?_
 refine aW ?_
 refine CJ ?h ?a ?b ?c ?d
 case a=>exact rfl
 case b=>exact rfl
 case c=>exact List.cons_ne_nil _ _
 case d=>exact Nat.le_of_ble_eq_true rfl
 case h =>
  refine gn (X:=X) (aJ (X:=X)) ?_ ?_
  ·exact gw (X:=X) (aJ (X:=X)) (rA (X:=X))
  refine gn (X:=X) (aJ (X:=X)) ?_ ?_
  ·exact gw (X:=X) (aJ (X:=X)) (aJ (X:=X))
  refine gn (X:=X) (aJ (X:=X)) ?_ ?_
  ·exact gw (X:=X) (aJ (X:=X)) (hv _)
  refine gn (X:=X) (aJ (X:=X)) ?_ ?_
  ·exact gw (X:=X) (aJ (X:=X)) (cG (X:=X) (aj (X:=X) (au (X:=X)) (aj (X:=X) (au (X:=X)) (aA (X:=X)))))
  refine gn (X:=X) (aJ (X:=X)) ?_ ?_
  ·exact cI (X:=X) (aA (X:=X))
  refine gn (X:=X) (aJ (X:=X)) ?_ ?_
  ·exact yh (X:=X)
  refine gn (X:=X) (aJ (X:=X)) ?_ ?_
  ·exact cI (X:=X) (aA (X:=X))
  refine gn (X:=X) (aJ (X:=X)) ?_ ?_
  ·exact yh (X:=X)
  exact CG
theorem iw {a:V}{tv:TE}{r:List (TE×TE)}{σ:L2.St}{H:Hp}{Q:List (V×V)→Hp→Prop} (h:tv σ H fun y H2=>mX r σ H2 fun ps H3=>Q ((a,y)::ps) H3):mX ((tC a,tv)::r) σ H Q:=h
theorem Jx {σ:L2.St}{H:Hp}{Q:List (V×V)→Hp→Prop} (h:Q [] H):mX [] σ H Q:=h
theorem tRD {D:Ends}{Gp:List (TE×TE)}{σ:L2.St}{H:Hp} (h:∀ p,H p=none→mX Gp σ (upd H p (.dK [])) fun ps H2=>H2 p=some (.dK [])∧∃ kvs:List (Key×V),ps=kvs.map (fun kv=>(kV kv.1,kv.2))∧kvs.length≤15∧D.rt (.ref p) (upd H2 p (.dK (dN [] kvs)))):La (mR Gp) D σ H:=h
def fj (p1 p2 p3 p4 p5 ph pd p8:Addr):List (Key×V):=[(.inr "lords",.ref p1),(.inr "holders",.ref p2),(.inr "own",.ref p3),(.inr "due",.ref p4),(.inr "known",.ref p5),(.inr "heirs",.ref ph),(.inr "dead",.ref pd),(.inr "lieges",.ref p8)]
section
variable {p1 p2 p3 p4 p5 ph pd p8:Addr}
theorem Ba:[(V.str "lords",V.ref p1),(V.str "holders",V.ref p2),(V.str "own",V.ref p3),(V.str "due",V.ref p4),(V.str "known",V.ref p5),(V.str "heirs",V.ref ph),(V.str "dead",V.ref pd),(V.str "lieges",V.ref p8)]=(fj p1 p2 p3 p4 p5 ph pd p8).map fun kv=>(kV kv.1,kv.2):=rfl
theorem Bb:bQ (dN [] (fj p1 p2 p3 p4 p5 ph pd p8)) (.inr "lords")=some (.ref p1):=by
 unfold dN fj
 simp only [List.foldl_cons,List.foldl_nil]
 rw [bF,if_neg (by decide +kernel),bF,if_neg (by decide +kernel),bF,if_neg (by decide +kernel),bF,if_neg (by decide +kernel),bF,if_neg (by decide +kernel),bF,if_neg (by decide +kernel),bF,if_neg (by decide +kernel),bF,if_pos rfl]
theorem wG:bQ (dN [] (fj p1 p2 p3 p4 p5 ph pd p8)) (.inr "holders")=some (.ref p2):=by
 unfold dN fj
 simp only [List.foldl_cons,List.foldl_nil]
 rw [bF,if_neg (by decide +kernel),bF,if_neg (by decide +kernel),bF,if_neg (by decide +kernel),bF,if_neg (by decide +kernel),bF,if_neg (by decide +kernel),bF,if_neg (by decide +kernel),bF,if_pos rfl]
theorem Jy:bQ (dN [] (fj p1 p2 p3 p4 p5 ph pd p8)) (.inr "own")=some (.ref p3):=by
 unfold dN fj
 simp only [List.foldl_cons,List.foldl_nil]
 rw [bF,if_neg (by decide +kernel),bF,if_neg (by decide +kernel),bF,if_neg (by decide +kernel),bF,if_neg (by decide +kernel),bF,if_neg (by decide +kernel),bF,if_pos rfl]
theorem Jz:bQ (dN [] (fj p1 p2 p3 p4 p5 ph pd p8)) (.inr "due")=some (.ref p4):=by
 unfold dN fj
 simp only [List.foldl_cons,List.foldl_nil]
 rw [bF,if_neg (by decide +kernel),bF,if_neg (by decide +kernel),bF,if_neg (by decide +kernel),bF,if_neg (by decide +kernel),bF,if_pos rfl]
theorem Bc:bQ (dN [] (fj p1 p2 p3 p4 p5 ph pd p8)) (.inr "known")=some (.ref p5):=by
 unfold dN fj
 simp only [List.foldl_cons,List.foldl_nil]
 rw [bF,if_neg (by decide +kernel),bF,if_neg (by decide +kernel),bF,if_neg (by decide +kernel),bF,if_pos rfl]
theorem Fy:bQ (dN [] (fj p1 p2 p3 p4 p5 ph pd p8)) (.inr "dead")=some (.ref pd):=by
 unfold dN fj
 simp only [List.foldl_cons,List.foldl_nil]
 rw [bF,if_neg (by decide +kernel),bF,if_pos rfl]
theorem JB:(dN [] (fj p1 p2 p3 p4 p5 ph pd p8)).length≤20:=Nat.le_trans (jo (fj p1 p2 p3 p4 p5 ph pd p8) []) (show 0+8≤20 by decide)
end
structure eV (H:Hp) (B l h o d kn dd:Addr) (kvs lo ho ow du:List (Key×V)) (ks:List Str):Prop where
 b:H B=some (.dK kvs)
 vl:bQ kvs (.inr "lords")=some (.ref l)
 vh:bQ kvs (.inr "holders")=some (.ref h)
 vo:bQ kvs (.inr "own")=some (.ref o)
 vd:bQ kvs (.inr "due")=some (.ref d)
 vk:bQ kvs (.inr "known")=some (.ref kn)
 vx:bQ kvs (.inr "dead")=some (.ref dd)
 l:H l=some (.dK lo)
 h:H h=some (.dK ho)
 o:H o=some (.dK ow)
 d:H d=some (.dK du)
 k:H kn=some (.lst (ks.map V.str))
 x:H dd=some (.lst [])
 len:kvs.length≤20
theorem eV.same {H H':Hp}{B l h o d kn dd:Addr}{kvs lo ho ow du:List (Key×V)}{ks:List Str} (k:eV H B l h o d kn dd kvs lo ho ow du ks) (s:Same H H'):eV H' B l h o d kn dd kvs lo ho ow du ks :=
 ⟨s _ _ k.b,k.vl,k.vh,k.vo,k.vd,k.vk,k.vx,s _ _ k.l,s _ _ k.h,s _ _ k.o,s _ _ k.d,s _ _ k.k,s _ _ k.x,k.len⟩
def JC:Sp:=fun vs H Q _=>∃ n:Int,vs=[.int n]∧∀ B l h o d kn dd t kvs H',Same H H'→H B=none→H l=none→H h=none→H o=none→H d=none→H kn=none→H dd=none→H t=none →
 T4 B l h o d→kn≠dd→eV H' B l h o d kn dd kvs (gM .non) (gM (.str "")) (gM (.int n)) (gM (.ref t)) []→wC H' t 0 1→Q (.ref B) H'
section
variable {P:Program}{w:World}{K:PySem.W.Frag}{mg:Str→Option Value}{base:Heap}{f:Addr}{fd:FuncData}
theorem Tg:aZ ["_law_acres"] ["_law_acres"] (aC qw):=⟨rfl,rfl,rfl,by decide +kernel,rfl,by decide +kernel,by decide +kernel⟩
set_option maxHeartbeats 8000000 in
theorem Nq (F:fH K "_law_book" "_law_book" qw f fd):aL P w K mg base cu 1 f fd ["_law_acres"] JC:=by
 refine F.ok Tg (fun vs H Q E h=>?_) (fun cdv A outer s H vs Q E hr h=>?_)
 ·obtain ⟨n,rfl,_⟩:=h
  rfl
 obtain ⟨n,rfl,k⟩:=h
 refine ⟨La (mR _),@Jw _ ?hv,?y⟩
 case hv=>exact fun p=>pv 0
 refine tRD fun B hB=>?_
 have sB:Same H (upd H B (.dK [])):=aD hB _
 have kB:(upd H B (.dK [])) B=some (.dK []):=ak
 generalize upd H B (.dK [])=H0 at sB kB ⊢
 refine iw (oU (k:="") (tv:=tC .non) fun p1 e1 Q1 k1=>k1 _ _ ak ?_)
 generalize hH1:upd _ p1 (.dK [(.inr "",_)])=H1
 have s1:Same H0 H1:=fun c u q=>by rw [← hH1,ao (aH q e1),ao (aH q e1)];exact q
 have c1:H1 p1=some (.dK (gM .non)):=by rw [← hH1,ak]
 clear hH1
 refine iw (oU (k:="") (tv:=tC (.str "")) fun p2 e2 Q2 k2=>k2 _ _ ak ?_)
 generalize hH2:upd _ p2 (.dK [(.inr "",_)])=H2
 have s2:Same H1 H2:=fun c u q=>by rw [← hH2,ao (aH q e2),ao (aH q e2)];exact q
 have c2:H2 p2=some (.dK (gM (.str ""))):=by rw [← hH2,ak]
 clear hH2
 refine iw (oU (k:="") (tv:=zf 0) fun p3 e3 Q3 k3=>⟨_,rfl,k3 _ _ ak ?_⟩)
 generalize Qd:upd _ p3 (.dK [(.inr "",_)])=H3
 have s3:Same H2 H3:=fun c u q=>by rw [← Qd,ao (aH q e3),ao (aH q e3)];exact q
 have c3:H3 p3=some (.dK (gM (.int n))):=by rw [← Qd,ak]
 clear Qd
 refine iw (oU (k:="") (tv:=Le (rJ (tC (.int 0)) (rJ (tC (.int 1)) zE))) fun p4 e4 Q4 k4=>⟨small (by simp),fun t ht=>k4 _ _ (by rw [ao (fun q=>by rw [← q,ak] at ht;cases ht)];exact ak) ?_⟩)
 have t4:t≠p4:=fun q=>by rw [q,ak] at ht;cases ht
 have ht0:H3 t=none:=by rw [ao t4] at ht;exact ht
 generalize KN:upd _ p4 (.dK [(.inr "",_)])=H4
 have s4:Same H3 H4:=fun c u q=>by rw [← KN,ao (aH q e4),ao (aH q ht0),ao (aH q e4)];exact q
 have pt:H4 t=some (.tup [.int 0,.int 1]):=by rw [← KN,ao t4,ak]
 have c4:H4 p4=some (.dK (gM (.ref t))):=by rw [← KN,ak]
 clear KN
 refine iw ⟨small (by simp),fun p5 e5=>?_⟩
 have s5:=aD e5 (.lst [])
 have c5:(upd H4 p5 (.lst [])) p5=some (.lst []):=ak
 generalize upd H4 p5 (.lst [])=H5 at s5 c5 ⊢
 refine iw fun ph eh=>?_
 have s6:=aD eh (.dK [])
 generalize upd H5 ph (.dK [])=H6 at s6 ⊢
 refine iw ⟨small (by simp),fun pd ed=>?_⟩
 have s7:=aD ed (.lst [])
 have c7:(upd H6 pd (.lst [])) pd=some (.lst []):=ak
 generalize upd H6 pd (.lst [])=H7 at s7 c7 ⊢
 refine iw fun p8 e8=>Jx ?_
 have s8:=aD e8 (.dK [])
 generalize upd H7 p8 (.dK [])=H8 at s8 ⊢
 have w01:=sB.trans s1
 have w02:=w01.trans s2
 have w03:=w02.trans s3
 have w04:=w03.trans s4
 have w06:=(w04.trans s5).trans s6
 have w78:=s7.trans s8
 have w58:=(s5.trans s6).trans w78
 have w48:=s4.trans w58
 have w38:=s3.trans w48
 have w28:=s2.trans w38
 have w08:=sB.trans (s1.trans w28)
 have kB1:=s1 _ _ kB
 have kB2:=s2 _ _ kB1
 have kB3:=s3 _ _ kB2
 have kB8:=w48 _ _ kB3
 have n1:=aH kB e1
 have n2:=aH kB1 e2
 have n3:=aH kB2 e3
 have n4:=aH kB3 e4
 have out:∀ c u,c≠B→H8 c=some u→(upd H8 B (.dK (dN [] (fj p1 p2 p3 p4 p5 ph pd p8)))) c=some u:=fun c u hc q=>by rw [ao hc];exact q
 refine ⟨kB8,fj p1 p2 p3 p4 p5 ph pd p8,Ba,Nat.le_of_ble_eq_true rfl,?_⟩
 have d5:=((s6.trans w78)) _ _ c5
 have d7:=s8 _ _ c7
 have d1:=w28 _ _ c1
 have d2:=w38 _ _ c2
 have d3:=w48 _ _ c3
 have d4:=w58 _ _ c4
 have dt:=w58 _ _ pt
 refine k B p1 p2 p3 p4 p5 pd t _ _ (bB w08 hB) hB (sB.free e1) (w01.free e2) (w02.free e3) (w03.free e4) (w04.free e5) (w06.free ed) (w03.free ht0)
  ⟨n1,n2,n3,n4,aH c1 e2,aH (s2 _ _ c1) e3,aH (s3 _ _ (s2 _ _ c1)) e4,aH c2 e3,aH (s3 _ _ c2) e4,aH c3 e4⟩
  (aH (s6 _ _ c5) ed)
  ⟨ak,Bb,wG,Jy,Jz,Bc,Fy,out _ _ (Ne.symm n1) d1,out _ _ (Ne.symm n2) d2,out _ _ (Ne.symm n3) d3,out _ _ (Ne.symm n4) d4,out _ _ (bh d5 kB8 (by intro q;cases q)) d5,out _ _ (bh d7 kB8 (by intro q;cases q)) d7,JB⟩
  (out _ _ (bh dt kB8 (by intro q;cases q)) dt)
end
end M
namespace M
open PySem L2
structure bC where
 n:Str
 lord:Option Str
 man:Str
 own:Int
 br:Int
 due:Int×Int
 ta:Addr
 tb:Addr
def dO:Option Str→V
 | none=>.non
 | some p=>.str p
theorem vf {o:Option Str}{p:Str}:dO o=.str p↔o=some p:=by
 cases o with
 | none=>exact ⟨fun h=>(by cases h),fun h=>(by cases h)⟩
 | some q=>exact ⟨fun h=>(by injection h with e;rw [e]),fun h=>(by injection h with e;rw [e];rfl)⟩
abbrev kv (f:bC→V) (es:List bC):List (Key×V):=es.map fun e=>(Sum.inr e.n,f e)
abbrev nms (es:List bC):List Str:=es.map (·.n)
abbrev iy (es:List bC):=kv (fun e=>dO e.lord) es
abbrev hoL (es:List bC):=kv (fun e=>V.str e.man) es
abbrev lZ (es:List bC):=kv (fun e=>V.int e.own) es
abbrev Qe (es:List bC):=kv (fun e=>V.int e.br) es
abbrev Qf (es:List bC):=kv (fun e=>V.ref e.ta) es
abbrev qD (es:List bC):=kv (fun e=>V.ref e.tb) es
theorem key_eq {a b:Str}:(Sum.inr a:Key)=.inr b↔a=b:=⟨fun h=>by injection h,fun h=>by rw [h]⟩
theorem lF {f:bC→V}{n:Str}:∀ {es:List bC},n∉nms es→bQ (kv f es) (.inr n)=none
 | [],_=>rfl
 | x::r,h=>by
  have h1:x.n≠n:=fun q=>h (by rw [← q];exact List.mem_cons_self)
  show bQ ((Sum.inr x.n,f x)::kv f r) _=none
  rw [dD (fun q=>h1 (key_eq.mp q))]
  exact lF fun q=>h (List.mem_cons_of_mem _ q)
theorem cg {f:bC→V}{e:bC}:∀ {es:List bC},(nms es).Nodup→e∈es→bQ (kv f es) (.inr e.n)=some (f e)
 | [],_,h=>by cases h
 | x::r,nd,h=>by
  show bQ ((Sum.inr x.n,f x)::kv f r) _=_
  have nd':=List.nodup_cons.mp nd
  rcases List.mem_cons.mp h with q | q
  ·subst q;exact dM rfl
  ·have ne:x.n≠e.n:=fun z=>nd'.1 (by show x.n∈nms r;rw [z];exact List.mem_map.mpr ⟨e,q,rfl⟩)
   rw [dD (fun z=>ne (key_eq.mp z))]
   exact cg nd'.2 q
theorem dJ {es:List bC}{n:Str} (h:n∈nms es):∃ e∈es,e.n=n:=by
 obtain ⟨e,he,q⟩:=List.mem_map.mp h
 exact ⟨e,he,q⟩
theorem gA {f:bC→V}{es:List bC} (n:Str):(bQ (kv f es) (.inr n)).isSome=decide (n∈nms es):=by
 by_cases h:n∈nms es
 ·rw [decide_eq_true h]
  induction es with
  | nil=>cases h
  | cons x r ih =>
   show (bQ ((Sum.inr x.n,f x)::kv f r) _).isSome=true
   by_cases q:x.n=n
   ·rw [dM (key_eq.mpr q)];rfl
   ·rw [dD (fun z=>q (key_eq.mp z))]
    refine ih ?_
    rcases List.mem_cons.mp h with z | z
    ·exact absurd z.symm q
    ·exact z
 ·rw [decide_eq_false h,lF h];rfl
theorem fB {f g:bC→V}{es:List bC} (h:∀ e∈es,f e=g e):kv f es=kv g es:=List.map_congr_left fun e he=>by rw [h e he]
theorem JD {f:bC→V}{n:Str} (es:List bC):((kv f es).any fun x=>decide (x.1=Sum.inr n))=decide (n∈nms es):=by rw [jz,gA]
theorem sV {f:bC→V}{es:List bC}{n:Str}{v:V} (h:n∈nms es):putK (kv f es) (.inr n) v=kv (fun e=>if e.n=n then v else f e) es:=by
 unfold putK
 rw [JD,decide_eq_true h,if_pos rfl]
 show (es.map _).map _=_
 rw [List.map_map]
 refine List.map_congr_left fun e _=>?_
 show (if (Sum.inr e.n:Key)=.inr n then (Sum.inr e.n,v) else (Sum.inr e.n,f e))=(Sum.inr e.n,if e.n=n then v else f e)
 by_cases q:e.n=n
 ·rw [if_pos (key_eq.mpr q),if_pos q]
 ·rw [if_neg (fun z=>q (key_eq.mp z)),if_neg q]
theorem wH {f:bC→V}{es:List bC}{n:Str}{v:V} (h:n∉nms es):putK (kv f es) (.inr n) v=kv f es++[(.inr n,v)]:=Ik v (lF h)
theorem jP {f:bC→V}{es:List bC}{n:Str}:gY (kv f es) (.inr n)=kv f (es.filter fun e=>decide (e.n≠n)):=by
 unfold gY
 rw [List.filter_map]
 congr 1
 refine List.filter_congr fun e _=>?_
 show decide ((Sum.inr e.n:Key)≠.inr n)=decide (e.n≠n)
 exact decide_eq_decide.mpr ⟨fun h q=>h (key_eq.mpr q),fun h q=>h (key_eq.mp q)⟩
theorem iD {f:bC→V}{g:bC→bC}{es:List bC} (hg:∀ e,(g e).n=e.n):kv f (es.map g)=kv (fun e=>f (g e)) es:=by
 show (es.map g).map _=_
 rw [List.map_map]
 refine List.map_congr_left fun e _=>?_
 show (Sum.inr (g e).n,f (g e))=_
 rw [hg]
theorem Ti {f:bC→V}{es:List bC}{x:bC}:kv f (es++[x])=kv f es++[(.inr x.n,f x)]:=List.map_append
theorem gO {f:bC→V}{es:List bC}:(kv f es).length=es.length:=List.length_map _
theorem yL {f:bC→V}{es:List bC}{p:Str}:∀ (ss:List Str) ,(∀ s∈ss,s∈nms es)→moved (kv f es) ss p=kv (fun e=>if e.n∈ss then V.str p else f e) es:=by
 intro ss
 unfold moved
 induction ss generalizing f with
 | nil=>intro _;exact fB fun e _=>by rw [if_neg (by simp)]
 | cons s r ih =>
  intro h
  rw [List.foldl_cons,sV (h s List.mem_cons_self),ih fun x hx=>h x (List.mem_cons_of_mem _ hx)]
  refine fB fun e _=>?_
  by_cases q:e.n∈r
  ·rw [if_pos q,if_pos (List.mem_cons_of_mem _ q)]
  ·rw [if_neg q]
   by_cases z:e.n=s
   ·rw [if_pos z,if_pos (by rw [z];exact List.mem_cons_self)]
   ·rw [if_neg z,if_neg]
    intro c
    rcases List.mem_cons.mp c with y | y
    ·exact z y
    ·exact q y
theorem qT {f:bC→V} (p:Key×V→Bool) (es:List bC):((kv f es).filter p).map iB=(es.filter fun e=>p (.inr e.n,f e)).map (·.n):=by
 rw [List.filter_map,List.map_map]
 rfl
theorem vg {f:bC→V}{es:List bC}:TK (kv f es):=fun x hx=>by
 obtain ⟨e,he,rfl⟩:=List.mem_map.mp hx
 rfl
theorem JF {es:List bC}:TV (iy es):=fun x hx=>by
 obtain ⟨e,he,rfl⟩:=List.mem_map.mp hx
 show dO e.lord=.non∨∃ s,dO e.lord=.str s
 cases e.lord with
 | none=>exact .inl rfl
 | some p=>exact .inr ⟨p,rfl⟩
theorem Qg {es:List bC}:TV (hoL es):=fun x hx=>by
 obtain ⟨e,he,rfl⟩:=List.mem_map.mp hx
 exact .inr ⟨_,rfl⟩
def Ord:List Str→List bC→Prop
 | _,[]=>True
 | seen,e::r=>(∃ p,e.lord=some p∧p∈seen)∧Ord (e.n::seen) r
theorem Ord.snoc:∀ {r:List bC}{s:List Str}{x:bC}{p:Str},Ord s r→x.lord=some p→(p∈s∨p∈nms r)→Ord s (r++[x])
 | [],s,x,p,_,hx,h=>⟨⟨p,hx,h.elim id fun q=>by cases q⟩,True.intro⟩
 | e::r,s,x,p,⟨h1,h2⟩,hx,h=>⟨h1,Ord.snoc (r:=r) h2 hx (by
   rcases h with q | q
   ·exact .inl (List.mem_cons_of_mem _ q)
   ·rcases List.mem_cons.mp q with z | z
    ·exact .inl (by rw [z];exact List.mem_cons_self)
    ·exact .inr z)⟩
theorem Ord.map {g:bC→bC} (h1:∀ e,(g e).n=e.n) (h2:∀ e,(g e).lord=e.lord):∀ {r:List bC}{s:List Str},Ord s r→Ord s (r.map g)
 | [],_,_=>True.intro
 | e::r,s,⟨⟨p,hp,hs⟩,ho⟩=>⟨⟨p,by rw [h2,hp],hs⟩,by rw [h1];exact Ord.map h1 h2 ho⟩
theorem Ord.lord:∀ {r:List bC}{s:List Str},Ord s r→∀ e∈r,∃ p,e.lord=some p∧(p∈s∨p∈nms r)
 | e::r,s,⟨⟨p,hp,hs⟩,ho⟩,x,hx=>by
  rcases List.mem_cons.mp hx with q | q
  ·subst q;exact ⟨p,hp,.inl hs⟩
  ·obtain ⟨p',h1,h2⟩:=Ord.lord ho x q
   refine ⟨p',h1,?_⟩
   rcases h2 with z | z
   ·rcases List.mem_cons.mp z with y | y
    ·exact .inr (by rw [y];exact List.mem_cons_self)
    ·exact .inl y
   ·exact .inr (List.mem_cons_of_mem _ z)
def Bf (e p:Str) (a:Int) (y:bC):bC:={ y with lord:=if y.lord=some e then some p else y.lord,own:=if y.n=p then y.own+a else y.own }
theorem Ord.fall {e p:Str}{a:Int}:∀ {r:List bC}{s t:List Str},Ord s r→(∀ x∈r,x.n=e→x.lord=some p)→(∀ x∈s,x≠e→x∈t)→(e∈s→p∈t)→p≠e→Ord t ((r.filter fun y=>decide (y.n≠e)).map (Bf e p a))
 | [],_,_,_,_,_,_,_=>True.intro
 | y::r,s,t,⟨⟨q,hq,hs⟩,ho⟩,hl,h1,h2,hp=>by
  have tl:∀ x∈r,x.n=e→x.lord=some p:=fun x hx=>hl x (List.mem_cons_of_mem _ hx)
  by_cases c:y.n=e
  ·rw [List.filter_cons_of_neg (by simpa using c)]
   have hy:=hl y List.mem_cons_self c
   refine Ord.fall (s:=y.n::s) (t:=t) ho tl (fun x hx hne=>?_) (fun _=>?_) hp
   ·rcases List.mem_cons.mp hx with z | z
    ·exact absurd (z.trans c) hne
    ·exact h1 x z hne
   ·rw [hq] at hy
    injection hy with hy
    exact h1 p (hy ▸ hs) hp
  ·rw [List.filter_cons_of_pos (by simpa using c),List.map_cons]
   refine ⟨?_,Ord.fall (s:=y.n::s) (t:=y.n::t) ho tl (fun x hx hne=>?_) (fun hx=>?_) hp⟩
   ·show ∃ p',(if y.lord=some e then some p else y.lord)=some p'∧p'∈t
    by_cases z:y.lord=some e
    ·rw [hq] at z
     injection z with z
     exact ⟨p,by rw [if_pos (by rw [hq,z])],h2 (z ▸ hs)⟩
    ·have:q≠e:=fun w=>z (by rw [hq,w])
     exact ⟨q,by rw [if_neg z,hq],h1 q hs this⟩
   ·rcases List.mem_cons.mp hx with z | z
    ·rw [z];exact List.mem_cons_self
    ·exact List.mem_cons_of_mem _ (h1 x z hne)
   ·rcases List.mem_cons.mp hx with z | z
    ·exact absurd z.symm c
    ·exact List.mem_cons_of_mem _ (h2 z)
end M
namespace M
open PySem L2
theorem lG {F G:bC→Int}{es:List bC} (h:∀ y∈es,G y=F y):(es.map G).sum=(es.map F).sum:=by rw [List.map_congr_left h]
theorem qU {F G:bC→Int}{e0:bC}:∀ {es:List bC},(nms es).Nodup→e0∈es→(∀ y∈es,y.n≠e0.n→G y=F y)→(es.map G).sum=(es.map F).sum - F e0+G e0
 | [],_,h,_=>by cases h
 | x::r,nd,h,hg=>by
  have nd':=List.nodup_cons.mp nd
  simp only [List.map_cons,List.sum_cons]
  rcases List.mem_cons.mp h with q | q
  ·subst q
   rw [lG (F:=F) (G:=G) (es:=r) fun y hy=>hg y (List.mem_cons_of_mem _ hy) fun z=>nd'.1 (show e0.n∈nms r by rw [← z];exact List.mem_map.mpr ⟨y,hy,rfl⟩)]
   omega
  ·have ne:x.n≠e0.n:=fun z=>nd'.1 (show x.n∈nms r by rw [z];exact List.mem_map.mpr ⟨e0,q,rfl⟩)
   rw [hg x List.mem_cons_self ne,qU nd'.2 q fun y hy=>hg y (List.mem_cons_of_mem _ hy)]
   omega
theorem sW {F:bC→Int}{e0:bC}:∀ {es:List bC},(nms es).Nodup→e0∈es→((es.filter fun y=>decide (y.n≠e0.n)).map F).sum=(es.map F).sum - F e0
 | [],_,h=>by cases h
 | x::r,nd,h=>by
  have nd':=List.nodup_cons.mp nd
  rcases List.mem_cons.mp h with q | q
  ·subst q
   have:(r.filter fun y=>decide (y.n≠e0.n))=r:=List.filter_eq_self.mpr fun y hy=>by
    refine decide_eq_true fun z=>nd'.1 (show e0.n∈nms r by rw [← z];exact List.mem_map.mpr ⟨y,hy,rfl⟩)
   rw [List.filter_cons_of_neg (by simp),this,List.map_cons,List.sum_cons]
   omega
  ·have ne:x.n≠e0.n:=fun z=>nd'.1 (show x.n∈nms r by rw [z];exact List.mem_map.mpr ⟨e0,q,rfl⟩)
   rw [List.filter_cons_of_pos (by simpa using ne),List.map_cons,List.map_cons,List.sum_cons,List.sum_cons,sW nd'.2 q]
   omega
theorem sum_add {F G:bC→Int}:∀ (es:List bC),(es.map fun y=>F y+G y).sum=(es.map F).sum+(es.map G).sum
 | []=>rfl
 | x::r=>by simp only [List.map_cons,List.sum_cons,sum_add r];omega
theorem sX {F:bC→Int}:∀ {es:List bC},(∀ y∈es,F y=0)→(es.map F).sum=0
 | [],_=>rfl
 | x::r,h=>by rw [List.map_cons,List.sum_cons,h x List.mem_cons_self,sX fun y hy=>h y (List.mem_cons_of_mem _ hy)];rfl
theorem JG {F:bC→Int}:∀ {es:List bC},(∀ y∈es,0≤F y)→0≤(es.map F).sum
 | [],_=>Int.le_refl _
 | x::r,h=>by
  rw [List.map_cons,List.sum_cons]
  have h1:=h x List.mem_cons_self
  have h2:=JG (F:=F) (es:=r) fun y hy=>h y (List.mem_cons_of_mem _ hy)
  omega
def Sb (es:List bC) (q:Str):Int:=(es.map fun y=>if y.lord=some q then y.br else 0).sum
structure WF (es:List bC):Prop where
 nd:(nms es).Nodup
 hd:∃ c r,es=c::r∧c.n=""∧c.lord=none∧Ord [""] r
 bnd:∀ e∈es,0≤e.own∧0≤e.br∧e.br≤9999
 br:∀ e∈es,e.br=e.own+Sb es e.n
 ok:∀ e∈es,PyData.strOk e.n=true
theorem WF.lord {es:List bC} (W:WF es):∀ e∈es,e.n≠""→∃ p,e.lord=some p∧p∈nms es∧p≠e.n:=by
 obtain ⟨c,r,rfl,hc,hl,ho⟩:=W.hd
 intro e he hne
 rcases List.mem_cons.mp he with q | q
 ·rw [q] at hne;exact absurd hc hne
 ·obtain ⟨p,hp,hm⟩:=ho.lord e q
  refine ⟨p,hp,?_,?_⟩
  ·rcases hm with z | z
   ·rw [List.mem_singleton.mp z,← hc];exact List.mem_cons_self
   ·exact List.mem_cons_of_mem _ z
  ·-- not its own lord
   have key:∀ {r:List bC}{s:List Str},Ord s r→(nms r).Nodup→(∀ x∈s,x∉nms r)→∀ e∈r,e.lord≠some e.n:=by
    intro r
    induction r with
    | nil=>intro s _ _ _ e he;cases he
    | cons y r ih =>
     rintro s ⟨⟨p,hp,hs⟩,ho⟩ nd hx e he
     have nd':=List.nodup_cons.mp nd
     rcases List.mem_cons.mp he with q | q
     ·rw [q,hp]
      intro z
      injection z with z
      exact hx p hs (by rw [z];exact List.mem_cons_self)
     ·refine ih ho nd'.2 (fun x hxs=>?_) e q
      rcases List.mem_cons.mp hxs with z | z
      ·rw [z];exact nd'.1
      ·exact fun w=>hx x z (List.mem_cons_of_mem _ w)
   have nd':=List.nodup_cons.mp W.nd
   have:=key ho nd'.2 (fun x hx=>by rw [List.mem_singleton.mp hx,← hc];exact nd'.1) e q
   intro z
   exact this (by rw [hp,z])
theorem WF.crown {es:List bC} (W:WF es):∀ e∈es,e.n=""→e.lord=none:=by
 obtain ⟨c,r,rfl,hc,hl,ho⟩:=W.hd
 intro e he h
 have nd':=List.nodup_cons.mp W.nd
 rcases List.mem_cons.mp he with q | q
 ·rw [q];exact hl
 ·exact absurd (show c.n∈nms r by rw [hc,← h];exact List.mem_map.mpr ⟨e,q,rfl⟩) nd'.1
theorem WF.mem0 {es:List bC} (W:WF es):("" : Str)∈nms es:=by
 obtain ⟨c,r,rfl,hc,_⟩:=W.hd
 rw [← hc];exact List.mem_cons_self
theorem WF.Tj {es:List bC} (W:WF es) {n:Str} (h:n∉nms es):∀ y∈es,y.lord≠some n:=fun y hy q=>by
 by_cases c:y.n=""
 ·rw [W.crown y hy c] at q;cases q
 ·obtain ⟨p,hp,hm,_⟩:=W.lord y hy c
  rw [hp] at q
  injection q with q
  exact h (q ▸ hm)
theorem WF.sb0 {es:List bC} (W:WF es) {n:Str} (h:n∉nms es):Sb es n=0:=sX fun y hy=>if_neg (W.Tj h y hy)
theorem WF.sbn {es:List bC} (W:WF es) (q:Str):0≤Sb es q:=JG fun y hy=>by
 split
 ·exact (W.bnd y hy).2.1
 ·exact Int.le_refl _
theorem WF.qb {es:List bC} (W:WF es):∀ e∈es,e.own≤e.br:=fun e he=>by
 have h1:=W.br e he
 have h2:=W.sbn e.n
 omega
def mod (n:Str) (g:bC→bC) (es:List bC):List bC:=es.map fun y=>if y.n=n then g y else y
theorem qW {n:Str}{g:bC→bC} (hg:∀ e,(g e).n=e.n) (es:List bC):nms (mod n g es)=nms es:=by
 unfold mod
 show (es.map _).map _=_
 rw [List.map_map]
 refine List.map_congr_left fun e _=>?_
 show (if e.n=n then g e else e).n=e.n
 split
 ·exact hg e
 ·rfl
theorem dg {n:Str}{g:bC→bC}{es:List bC}{y:bC} (h:y∈mod n g es):∃ y0∈es,y=if y0.n=n then g y0 else y0:=by
 obtain ⟨y0,h0,q⟩:=List.mem_map.mp h
 exact ⟨y0,h0,q.symm⟩
theorem JH {f:bC→V}{n:Str}{g:bC→bC} (hg:∀ e,(g e).n=e.n) (es:List bC):kv f (mod n g es)=kv (fun e=>if e.n=n then f (g e) else f e) es:=by
 unfold mod
 rw [iD (g:=fun y=>if y.n=n then g y else y) (fun e=>by split;exact hg e;rfl)]
 exact fB fun e _=>by split <;> rfl
theorem dh {f:bC→V}{n:Str}{g:bC→bC} (hg:∀ e,(g e).n=e.n) (hf:∀ e,f (g e)=f e) (es:List bC):kv f (mod n g es)=kv f es:=by
 rw [JH hg]
 exact fB fun e _=>by split;exact hf e;rfl
theorem JK {n:Str}{g:bC→bC} (hg:∀ e,(g e).n=e.n) (hl:∀ e,(g e).lord=e.lord) {es:List bC} (h:∃ c r,es=c::r∧c.n=""∧c.lord=none∧Ord [""] r):∃ c r,mod n g es=c::r∧c.n=""∧c.lord=none∧Ord [""] r:=by
 obtain ⟨c,r,rfl,hc,hcl,ho⟩:=h
 refine ⟨_,_,rfl,?_,?_,Ord.map (fun e=>?_) (fun e=>?_) ho⟩
 ·show (if c.n=n then g c else c).n=""
  split
  ·rw [hg,hc]
  ·exact hc
 ·show (if c.n=n then g c else c).lord=none
  split
  ·rw [hl,hcl]
  ·exact hcl
 ·show (if e.n=n then g e else e).n=e.n
  split
  ·exact hg e
  ·rfl
 ·show (if e.n=n then g e else e).lord=e.lord
  split
  ·exact hl e
  ·rfl
theorem Tn {n:Str}{g:bC→bC} (hl:∀ e,(g e).lord=e.lord) {es:List bC}{e0:bC} (nd:(nms es).Nodup) (h0:e0∈es) (hn:e0.n=n) (q:Str):Sb (mod n g es) q=Sb es q+(if e0.lord=some q then (g e0).br - e0.br else 0):=by
 unfold Sb mod
 rw [List.map_map]
 rw [qU (F:=fun y=>if y.lord=some q then y.br else 0) (e0:=e0) nd h0 (fun y hy ne=>?_)]
 ·show _ - (if e0.lord=some q then e0.br else 0)+(if (if e0.n=n then g e0 else e0).lord=some q then (if e0.n=n then g e0 else e0).br else 0)=_
  rw [if_pos hn,hl]
  by_cases c:e0.lord=some q
  ·rw [if_pos c,if_pos c,if_pos c];omega
  ·rw [if_neg c,if_neg c,if_neg c];omega
 ·show (if (if y.n=n then g y else y).lord=some q then (if y.n=n then g y else y).br else 0)=_
  have c:¬ y.n=n:=by rw [← hn];exact ne
  rw [if_neg c]
theorem Tp (es:List bC) (x:bC) (q:Str):Sb (es++[x]) q=Sb es q+(if x.lord=some q then x.br else 0):=by
 unfold Sb
 rw [List.map_append,List.sum_append]
 simp
theorem ji {es:List bC} (nd:(nms es).Nodup) {a b:bC} (ha:a∈es) (hb:b∈es) (h:a.n=b.n):a=b:=by
 induction es with
 | nil=>cases ha
 | cons x r ih =>
  have nd':=List.nodup_cons.mp nd
  rcases List.mem_cons.mp ha with p | p <;> rcases List.mem_cons.mp hb with q | q
  ·rw [p,q]
  ·exact absurd (show x.n∈nms r by rw [← p,h];exact List.mem_map.mpr ⟨b,q,rfl⟩) nd'.1
  ·exact absurd (show x.n∈nms r by rw [← q,← h];exact List.mem_map.mpr ⟨a,p,rfl⟩) nd'.1
  ·exact ih nd'.2 p q
theorem WF.new {es:List bC} (W:WF es) {e0 x:bC}{g:bC→bC}{a:Int} (h0:e0∈es) (hg:∀ e,(g e).n=e.n) (hl:∀ e,(g e).lord=e.lord) (ho:(g e0).own=e0.own - a) (ha:0≤a) (hb:a≤e0.own) (hx:x.n∉nms es) (hok:PyData.strOk x.n=true) (ho2:x.own=a) (hb2:x.br=a)
  (way:(x.lord=some e0.n∧(g e0).br=e0.br)∨(x.lord=e0.lord∧e0.n≠""∧(g e0).br=e0.br - a)):WF (mod e0.n g es++[x]):=by
 have onm:nms (mod e0.n g es++[x])=nms es++[x.n]:=by
  show (mod e0.n g es++[x]).map _=_
  rw [List.map_append]
  have:=qW (n:=e0.n) hg es
  show nms (mod e0.n g es)++_=_
  rw [this];rfl
 have b0:=W.bnd e0 h0
 have ow:=W.qb e0 h0
 have Tq:∀ q,Sb (mod e0.n g es++[x]) q=Sb es q+(if q=e0.n then e0.own - (g e0).own+((g e0).br - e0.br) else 0):=by
  intro q
  rw [Tp,Tn hl W.nd h0 rfl]
  rcases way with ⟨w1,w2⟩ | ⟨w1,w0,w2⟩
  ·have z0:(if e0.lord=some q then (g e0).br - e0.br else 0)=(0:Int):=by rw [w2];split <;> omega
   rw [z0,w1,w2,hb2,ho]
   by_cases c:q=e0.n
   ·subst c
    rw [if_pos rfl,if_pos rfl]
    omega
   ·rw [if_neg c,if_neg (fun z=>c (by injection z with z;exact z.symm))]
    omega
  ·rw [w1,w2,hb2,ho]
   split
   ·split <;> omega
   ·split <;> omega
 refine ⟨?_,?_,?_,?_,fun e he=>?_⟩
 rotate_right
 ·rcases List.mem_append.mp he with q | q
  ·obtain ⟨y,hy,rfl⟩:=dg q
   split
   ·rw [hg];exact W.ok y hy
   ·exact W.ok y hy
  ·rw [List.mem_singleton.mp q];exact hok
 ·rw [onm,List.nodup_append]
  refine ⟨W.nd,by simp,fun u hu v hv=>?_⟩
  rw [List.mem_singleton.mp hv]
  exact fun z=>hx (z ▸ hu)
 ·obtain ⟨c,r,e1,e2,e3,e4⟩:=JK (n:=e0.n) hg hl W.hd
  rw [e1]
  have hp:∃ p,x.lord=some p∧p∈nms es:=by
   rcases way with ⟨w1,_⟩ | ⟨w1,w0,_⟩
   ·exact ⟨_,w1,List.mem_map.mpr ⟨e0,h0,rfl⟩⟩
   ·obtain ⟨p,hp,hm,_⟩:=W.lord e0 h0 w0
    exact ⟨p,w1.trans hp,hm⟩
  obtain ⟨p,hp,hm⟩:=hp
  refine ⟨c,r++[x],rfl,e2,e3,Ord.snoc e4 hp ?_⟩
  have hm':p∈nms (mod e0.n g es):=by rw [qW hg];exact hm
  rw [e1] at hm'
  rcases List.mem_cons.mp hm' with z | z
  ·exact .inl (by rw [z];show c.n∈([""]:List Str);rw [e2];exact List.mem_singleton.mpr rfl)
  ·exact .inr z
 ·intro e he
  rcases List.mem_append.mp he with q | q
  ·obtain ⟨y,hy,rfl⟩:=dg q
   have by_:=W.bnd y hy
   split
   ·rename_i c
    obtain rfl:=ji W.nd hy h0 c
    rw [ho]
    rcases way with ⟨_,w2⟩ | ⟨_,_,w2⟩ <;> rw [w2] <;> omega
   ·exact by_
  ·rw [List.mem_singleton.mp q,ho2,hb2]
   omega
 ·intro e he
  rcases List.mem_append.mp he with q | q
  ·obtain ⟨y,hy,rfl⟩:=dg q
   have hbr:=W.br y hy
   split
   ·rename_i c
    obtain rfl:=ji W.nd hy h0 c
    rw [hg,Tq,if_pos rfl]
    omega
   ·rename_i c
    rw [Tq,if_neg c]
    omega
  ·rw [List.mem_singleton.mp q,ho2,hb2,Tq,W.sb0 hx,if_neg (fun z=>hx (by rw [z];exact List.mem_map.mpr ⟨e0,h0,rfl⟩))]
   omega
theorem WF.mod {es:List bC} (W:WF es) {n:Str}{g:bC→bC} (hg:∀ e,(g e).n=e.n) (hl:∀ e,(g e).lord=e.lord) (ho:∀ e,(g e).own=e.own) (hb:∀ e,(g e).br=e.br):WF (mod n g es):=by
 have Tq:∀ q,Sb (M.mod n g es) q=Sb es q:=by
  intro q
  unfold Sb M.mod
  rw [List.map_map]
  refine lG fun y _=>?_
  show (if (if y.n=n then g y else y).lord=some q then (if y.n=n then g y else y).br else 0)=_
  by_cases c:y.n=n
  ·rw [if_pos c,hl,hb]
  ·rw [if_neg c]
 refine ⟨by rw [qW hg];exact W.nd,JK hg hl W.hd,fun e he=>?_,fun e he=>?_,fun e he=>?_⟩
 rotate_right
 ·obtain ⟨y,hy,rfl⟩:=dg he
  split
  ·rw [hg];exact W.ok y hy
  ·exact W.ok y hy
 ·obtain ⟨y,hy,rfl⟩:=dg he
  split
  ·rw [ho,hb];exact W.bnd y hy
  ·exact W.bnd y hy
 ·obtain ⟨y,hy,rfl⟩:=dg he
  rw [Tq]
  split
  ·rw [hg,ho,hb];exact W.br y hy
  ·exact W.br y hy
def cL (e p:Str) (a:Int) (es:List bC):List bC:=(es.filter fun y=>decide (y.n≠e)).map (Bf e p a)
theorem WF.fall {es:List bC} (W:WF es) {e0:bC}{p:Str} (h0:e0∈es) (hne:e0.n≠"") (hp:e0.lord=some p):WF (cL e0.n p e0.own es):=by
 obtain ⟨p',hp',hpm,hpn⟩:=W.lord e0 h0 hne
 obtain rfl:p=p':=by rw [hp] at hp';injection hp'
 have mem:∀ y,y∈cL e0.n p e0.own es→∃ y0∈es,y0.n≠e0.n∧y=Bf e0.n p e0.own y0:=fun y hy=>by
  obtain ⟨y0,h1,h2⟩:=List.mem_map.mp hy
  obtain ⟨h3,h4⟩:=List.mem_filter.mp h1
  exact ⟨y0,h3,of_decide_eq_true h4,h2.symm⟩
 have eo:=W.br e0 h0
 have Tq:∀ q,q≠e0.n→Sb (cL e0.n p e0.own es) q=Sb es q - (if q=p then e0.own else 0):=by
  intro q hq
  unfold Sb cL
  rw [List.map_map]
  rw [sW (F:=(fun y=>if y.lord=some q then y.br else 0)∘Bf e0.n p e0.own) W.nd h0]
  have val:∀ y,((fun y=>if y.lord=some q then y.br else 0)∘Bf e0.n p e0.own) y=(if y.lord=some q then y.br else 0)+(if q=p then (if y.lord=some e0.n then y.br else 0) else 0):=by
   intro y
   show (if (if y.lord=some e0.n then some p else y.lord)=some q then y.br else 0)=_
   by_cases c:y.lord=some e0.n
   ·rw [if_pos c,c,if_neg (fun z:some e0.n=some q=>hq (by injection z with z;exact z.symm)),if_pos rfl]
    by_cases d:q=p
    ·rw [if_pos d,d,if_pos rfl];omega
    ·rw [if_neg d,if_neg (fun z=>d (by injection z with z;exact z.symm))];rfl
   ·rw [if_neg c,if_neg c]
    split <;> split <;> omega
  rw [lG (fun y _=>val y),sum_add,val e0,hp,if_neg (fun z:some p=some e0.n=>hpn (by injection z))]
  by_cases d:q=p
  ·subst d
   rw [if_pos rfl,if_pos rfl,if_pos rfl]
   have e1:(es.map fun y=>if q=q then (if y.lord=some e0.n then y.br else 0) else 0).sum=Sb es e0.n:=by
    unfold Sb
    exact lG fun y _=>if_pos rfl
   rw [e1]
   omega
  ·rw [if_neg d,if_neg d,if_neg (fun z=>d (by injection z with z;exact z.symm))]
   have e1:(es.map fun y=>if q=p then (if y.lord=some e0.n then y.br else 0) else 0).sum=0:=sX fun y _=>if_neg d
   rw [e1]
   omega
 refine ⟨?_,?_,?_,?_,fun y hy=>?_⟩
 rotate_right
 ·obtain ⟨y0,h1,h2,rfl⟩:=mem y hy
  exact W.ok y0 h1
 ·have:nms (cL e0.n p e0.own es)=(nms es).filter fun n=>decide (n≠e0.n):=by
   unfold cL
   show ((es.filter _).map _).map _=_
   rw [List.map_map,List.filter_map]
   rfl
  rw [this]
  exact W.nd.filter _
 ·obtain ⟨c,r,rfl,hc,hcl,ho⟩:=W.hd
  unfold cL
  rw [List.filter_cons_of_pos (by simpa [hc] using fun z=>hne z.symm),List.map_cons]
  refine ⟨_,_,rfl,hc,?_,Ord.fall ho (fun x hx hxn=>?_) (fun x hx _=>hx) (fun hx=>absurd (List.mem_singleton.mp hx) hne) hpn⟩
  ·show (if c.lord=some e0.n then some p else c.lord)=none
   rw [hcl,if_neg (fun z=>by cases z)]
  ·rw [ji W.nd (List.mem_cons_of_mem _ hx) h0 hxn];exact hp
 ·intro y hy
  obtain ⟨y0,h1,h2,rfl⟩:=mem y hy
  have b:=W.bnd y0 h1
  have be:=W.bnd e0 h0
  refine ⟨?_,b.2⟩
  show 0≤(if y0.n=p then y0.own+e0.own else y0.own)
  split <;> omega
 ·intro y hy
  obtain ⟨y0,h1,h2,rfl⟩:=mem y hy
  have b:=W.br y0 h1
  show y0.br=(if y0.n=p then y0.own+e0.own else y0.own)+Sb _ y0.n
  rw [Tq _ h2]
  split <;> omega
end M
namespace M
open PySem L2
theorem Dk {t b:Int} (h:0<b):0<sgn t b:=by
 unfold sgn
 rw [if_neg (by omega)]
 exact Int.ofNat_lt.mpr (jh (by omega))
theorem Dl {t b k:Int} (hb:0<b) (hk:0<k):nH (t * k) (b * k)=nH t b:=by
 have h:=T9 (N8 (t:=t) (b:=b) (by omega)) (sS (by omega)) (Int.mul_pos (Dk (t:=t) hb) hk)
 have e1:iC t b * (sgn t b * k)=t * k:=by rw [← Int.mul_assoc,Int.mul_comm (iC t b),qR (by omega)]
 have e2:fQ t b * (sgn t b * k)=b * k:=by rw [← Int.mul_assoc,Int.mul_comm (fQ t b),oR (by omega)]
 rw [e1,e2] at h
 unfold nH
 rw [h.1,h.2]
theorem Fz {s:Int×Int}{a b:Int} (hs:0<s.2) (hb:0<b):za s (nH (s.1 * a) (s.2 * b))=nH (s.1 * (b - a)) (s.2 * b):=by
 have hB:0<s.2 * b:=Int.mul_pos hs hb
 have hk:=Dk (t:=s.1 * a) hB
 have e1:=qR (t:=s.1 * a) (b:=s.2 * b) (by omega)
 have e2:=oR (t:=s.1 * a) (b:=s.2 * b) (by omega)
 have hy:=sS (t:=s.1 * a) (b:=s.2 * b) (by omega)
 unfold za
 show nH (s.1 * fQ (s.1 * a) (s.2 * b) - iC (s.1 * a) (s.2 * b) * s.2) (s.2 * fQ (s.1 * a) (s.2 * b))=_
 rw [← Dl (Int.mul_pos hs hy) hk,← Dl (t:=s.1 * (b - a)) hB hs]
 generalize fQ (s.1 * a) (s.2 * b)=y at e2
 generalize iC (s.1 * a) (s.2 * b)=x at e1
 generalize sgn (s.1 * a) (s.2 * b)=k at e1 e2
 have c1:(s.1 * y - x * s.2) * k=s.1 * (b - a) * s.2:=by
  have q1:(s.1 * y - x * s.2) * k=s.1 * (k * y) - (k * x) * s.2:=by
   rw [Int.sub_mul,Int.mul_assoc,Int.mul_comm y k,Int.mul_assoc,Int.mul_comm s.2 k,← Int.mul_assoc x k,Int.mul_comm x k]
  rw [q1,e1,e2,Int.mul_sub,Int.sub_mul,Int.mul_comm s.2 b,Int.mul_assoc s.1 b]
 have c2:s.2 * y * k=s.2 * b * s.2:=by rw [Int.mul_assoc,Int.mul_comm y k,e2,Int.mul_comm s.2 (s.2 * b)]
 rw [c1,c2]
theorem JL {l m:List Int} (h:l.Perm m):l.sum=m.sum:=by
 induction h with
 | nil=>rfl
 | cons x _ ih=>rw [List.sum_cons,List.sum_cons,ih]
 | swap x y l=>rw [List.sum_cons,List.sum_cons,List.sum_cons,List.sum_cons];omega
 | trans _ _ h1 h2=>rw [h1,h2]
theorem FJ {l m:List Nat} (h:l.Perm m):l.sum=m.sum:=by
 induction h with
 | nil=>rfl
 | cons x _ ih=>rw [List.sum_cons,List.sum_cons,ih]
 | swap x y l=>rw [List.sum_cons,List.sum_cons,List.sum_cons,List.sum_cons];omega
 | trans _ _ h1 h2=>rw [h1,h2]
def FN (es:List bC) (n:Str):Int:=((es.find? fun e=>decide (e.n=n)).map (·.br)).getD 0
theorem Bg {es:List bC} (nd:(nms es).Nodup) {e:bC} (he:e∈es):es.find? (fun x=>decide (x.n=e.n))=some e:=by
 induction es with
 | nil=>cases he
 | cons x r ih =>
  have nd':=List.nodup_cons.mp nd
  rcases List.mem_cons.mp he with q | q
  ·rw [q,List.find?_cons_of_pos (by simp)]
  ·rw [List.find?_cons_of_neg (by
    have:x.n≠e.n:=fun z=>nd'.1 (show x.n∈nms r by rw [z];exact List.mem_map.mpr ⟨e,q,rfl⟩)
    simpa using this)]
   exact ih nd'.2 q
theorem JM {es:List bC} (nd:(nms es).Nodup) {e:bC} (he:e∈es):FN es e.n=e.br:=by unfold FN;rw [Bg nd he];rfl
theorem yM {F:bC→Int} (c:bC→Bool):∀ es:List bC,((es.filter c).map F).sum=(es.map fun y=>if c y=true then F y else 0).sum
 | []=>rfl
 | x::r=>by
  have ih:=yM (F:=F) c r
  by_cases h:c x=true
  ·rw [List.filter_cons_of_pos h,List.map_cons,List.map_cons,List.sum_cons,List.sum_cons,if_pos h,ih]
  ·rw [List.filter_cons_of_neg h,List.map_cons,List.sum_cons,if_neg h,ih];omega
theorem vm {es:List bC} (nd:(nms es).Nodup) {q:Str}{ss:List Str} (h:ss.Perm ((es.filter fun y=>decide (y.lord=some q)).map (·.n))):(ss.map (FN es)).sum=Sb es q:=by
 rw [JL (h.map _),List.map_map]
 have:((es.filter fun y=>decide (y.lord=some q)).map (FN es∘fun x=>x.n))=(es.filter fun y=>decide (y.lord=some q)).map (·.br):=List.map_congr_left fun y hy=>JM nd (List.mem_filter.mp hy).1
 rw [this,yM]
 unfold Sb
 exact lG fun y _=>by simp only [decide_eq_true_eq]
def wt:List bC→Str→Nat
 | [],_=>0
 | x::r,n=>if x.n=n then 2 ^ r.length else wt r n
def Sw (es:List bC) (c:bC→Bool) (ws:List bC):Nat:=(es.map fun y=>if c y=true then wt ws y.n else 0).sum
theorem qX {x:bC}{r:List bC}{c:bC→Bool}:∀ {es:List bC},(∀ y∈es,y.n≠x.n)→Sw es c (x::r)=Sw es c r
 | [],_=>rfl
 | y::es,h=>by
  have ih:=qX (x:=x) (r:=r) (c:=c) (es:=es) fun z hz=>h z (List.mem_cons_of_mem _ hz)
  unfold Sw at ih ⊢
  rw [List.map_cons,List.map_cons,List.sum_cons,List.sum_cons,ih]
  have:wt (x::r) y.n=wt r y.n:=if_neg fun z=>h y List.mem_cons_self z.symm
  rw [this]
theorem JN {x:bC}{r:List bC} (nd:(nms (x::r)).Nodup):∀ y∈r,y.n≠x.n:=fun y hy z=>(List.nodup_cons.mp nd).1 (show x.n∈nms r by rw [← z];exact List.mem_map.mpr ⟨y,hy,rfl⟩)
theorem JQ {c:bC→Bool}:∀ {r:List bC},(nms r).Nodup→Sw r c r<2 ^ r.length
 | [],_=>show 0<1 by decide
 | x::r,nd=>by
  have ih:=JQ (c:=c) (r:=r) (List.nodup_cons.mp nd).2
  unfold Sw
  rw [List.map_cons,List.sum_cons]
  have e:=qX (x:=x) (r:=r) (c:=c) (es:=r) (JN nd)
  unfold Sw at e ih
  rw [e,List.length_cons,Nat.pow_succ]
  have:wt (x::r) x.n=2 ^ r.length:=if_pos rfl
  rw [this]
  split <;> omega
theorem JR {e:bC}:∀ {r:List bC}{s:List Str},Ord s r→(nms r).Nodup→(∀ x∈s,x∉nms r)→e∈r→Sw r (fun y=>decide (y.lord=some e.n)) r<wt r e.n
 | x::r,s,⟨⟨p,hp,hs⟩,ho⟩,nd,hx,he=>by
  have nd':=List.nodup_cons.mp nd
  unfold Sw
  rw [List.map_cons,List.sum_cons]
  have e1:=qX (x:=x) (r:=r) (c:=fun y=>decide (y.lord=some e.n)) (es:=r) (JN nd)
  have nx:¬ (decide (x.lord=some e.n)=true):=fun z=>by
   have z:=of_decide_eq_true z
   rw [hp] at z
   injection z with z
   exact hx p hs (by rw [z];exact List.mem_map.mpr ⟨e,he,rfl⟩)
  rw [if_neg nx]
  unfold Sw at e1
  rw [e1]
  rcases List.mem_cons.mp he with q | q
  ·have:wt (x::r) e.n=2 ^ r.length:=if_pos (by rw [q])
   rw [this]
   have:=JQ (c:=fun y=>decide (y.lord=some e.n)) nd'.2
   unfold Sw at this
   omega
  ·have:wt (x::r) e.n=wt r e.n:=if_neg fun z=>nd'.1 (show x.n∈nms r by rw [z];exact List.mem_map.mpr ⟨e,q,rfl⟩)
   rw [this]
   have:=JR (e:=e) ho nd'.2 (fun y hy w=>by
    rcases List.mem_cons.mp hy with z | z
    ·exact nd'.1 (by rw [z] at w;exact w)
    ·exact hx y z (List.mem_cons_of_mem _ w)) q
   unfold Sw at this
   omega
theorem WF.meas {es:List bC} (W:WF es) {e:bC} (he:e∈es):Sw es (fun y=>decide (y.lord=some e.n)) es<wt es e.n:=by
 obtain ⟨c,r,rfl,hc,hl,ho⟩:=W.hd
 have nd':=List.nodup_cons.mp W.nd
 unfold Sw
 rw [List.map_cons,List.sum_cons,if_neg (by show ¬ decide (c.lord=some e.n)=true;rw [hl];simp)]
 have e1:=qX (x:=c) (r:=r) (c:=fun y=>decide (y.lord=some e.n)) (es:=r) (JN W.nd)
 unfold Sw at e1
 rw [e1]
 rcases List.mem_cons.mp he with q | q
 ·have:wt (c::r) e.n=2 ^ r.length:=if_pos (by rw [q])
  rw [this]
  have:=JQ (c:=fun y=>decide (y.lord=some e.n)) nd'.2
  unfold Sw at this
  omega
 ·have:wt (c::r) e.n=wt r e.n:=if_neg fun z=>nd'.1 (show c.n∈nms r by rw [z];exact List.mem_map.mpr ⟨e,q,rfl⟩)
  rw [this]
  have:=JR (e:=e) ho nd'.2 (fun y hy w=>by rw [List.mem_singleton.mp hy,← hc] at w;exact nd'.1 w) q
  unfold Sw at this
  omega
theorem vq {F:bC→Nat} (c:bC→Bool):∀ es:List bC,((es.filter c).map F).sum=(es.map fun y=>if c y=true then F y else 0).sum
 | []=>rfl
 | x::r=>by
  have ih:=vq (F:=F) c r
  by_cases h:c x=true
  ·rw [List.filter_cons_of_pos h,List.map_cons,List.map_cons,List.sum_cons,List.sum_cons,if_pos h,ih]
  ·rw [List.filter_cons_of_neg h,List.map_cons,List.sum_cons,if_neg h,ih];omega
theorem sY {es:List bC} (W:WF es) {e:bC} (he:e∈es) {ss:List Str} (h:ss.Perm ((es.filter fun y=>decide (y.lord=some e.n)).map (·.n))):(ss.map (wt es)).sum<wt es e.n:=by
 have:=W.meas he
 unfold Sw at this
 rw [FJ (h.map _),List.map_map]
 have e2:=vq (F:=wt es∘fun x=>x.n) (fun y=>decide (y.lord=some e.n)) es
 rw [e2]
 exact this
theorem JT {lo:List (Key×V)}{m:Nat}:∀ {r:List bC}{s:List Str},Ord s r→(∀ y∈r,bQ lo (.inr y.n)=some (dO y.lord))→(∀ x∈s,∃ l,Ch lo x l∧l.length≤m)→∀ y∈r,∃ l,Ch lo y.n l∧l.length≤m+r.length
 | x::r,s,⟨⟨p,hp,hs⟩,ho⟩,hv,h,y,hy=>by
  have hx:∃ l,Ch lo x.n l∧l.length≤m+1:=by
   obtain ⟨l,h1,h2⟩:=h p hs
   refine ⟨x.n::l,.up ?_ h1,by rw [List.length_cons];omega⟩
   rw [hv x List.mem_cons_self,hp];rfl
  rcases List.mem_cons.mp hy with q | q
  ·rw [q]
   obtain ⟨l,h1,h2⟩:=hx
   exact ⟨l,h1,by rw [List.length_cons];omega⟩
  ·obtain ⟨l,h1,h2⟩:=JT (m:=m+1) ho (fun z hz=>hv z (List.mem_cons_of_mem _ hz)) (fun z hz=>by
    rcases List.mem_cons.mp hz with w | w
    ·rw [w];exact hx
    ·obtain ⟨l,h1,h2⟩:=h z w
     exact ⟨l,h1,by omega⟩) y q
   exact ⟨l,h1,by rw [List.length_cons];omega⟩
theorem WF.chain {es:List bC} (W:WF es) {e:bC} (he:e∈es):∃ l,Ch (iy es) e.n l∧l.length≤es.length:=by
 have hv:∀ y∈es,bQ (iy es) (.inr y.n)=some (dO y.lord):=fun y hy=>cg W.nd hy
 obtain ⟨c,r,rfl,hc,hl,ho⟩:=W.hd
 have h0:Ch (iy (c::r)) "" [""]:=by
  refine .crown ?_
  rw [← hc,hv c List.mem_cons_self,hl];rfl
 rcases List.mem_cons.mp he with q | q
 ·rw [q,hc]
  exact ⟨_,h0,by simp⟩
 ·obtain ⟨l,h1,h2⟩:=JT (m:=1) ho (fun y hy=>hv y (List.mem_cons_of_mem _ hy)) (fun x hx=>by rw [List.mem_singleton.mp hx];exact ⟨_,h0,by simp⟩) e q
  exact ⟨l,h1,by rw [List.length_cons];omega⟩
theorem sub_len {α:Type} [DecidableEq α]:∀ {l m:List α},l.Nodup→(∀ x∈l,x∈m)→l.length≤m.length
 | [],_,_,_=>Nat.zero_le _
 | x::l,m,nd,h=>by
  have nd':=List.nodup_cons.mp nd
  have hx:=h x List.mem_cons_self
  have ih:=sub_len (l:=l) (m:=m.erase x) nd'.2 fun y hy=>by
   have ne:y≠x:=fun z=>nd'.1 (z ▸ hy)
   exact (List.mem_erase_of_ne ne).mpr (h y (List.mem_cons_of_mem _ hy))
  rw [List.length_erase_of_mem hx] at ih
  have:=List.length_pos_of_mem hx
  rw [List.length_cons]
  omega
theorem mj {es:List bC} (nd:(nms es).Nodup) {q:Str}{ss:List Str} (h:ss.Perm ((es.filter fun y=>decide (y.lord=some q)).map (·.n))):(∀ s∈ss,s∈nms es)∧∀ y∈es,(y.n∈ss↔y.lord=some q):=by
 refine ⟨fun s hs=>?_,fun y hy=>⟨fun hs=>?_,fun hl=>?_⟩⟩
 ·obtain ⟨y,hy,rfl⟩:=List.mem_map.mp (h.mem_iff.mp hs)
  exact List.mem_map.mpr ⟨y,(List.mem_filter.mp hy).1,rfl⟩
 ·obtain ⟨z,hz,e⟩:=List.mem_map.mp (h.mem_iff.mp hs)
  obtain ⟨z1,z2⟩:=List.mem_filter.mp hz
  obtain rfl:=ji nd z1 hy e
  exact of_decide_eq_true z2
 ·exact h.mem_iff.mpr (List.mem_map.mpr ⟨y,List.mem_filter.mpr ⟨hy,decide_eq_true hl⟩,rfl⟩)
theorem Dm {es:List bC}{q:Str}{ss:List Str} (h:ss.Perm (((iy es).filter fun x=>decide (x.2=.str q)).map iB)):ss.Perm ((es.filter fun y=>decide (y.lord=some q)).map (·.n)):=by
 rw [qT] at h
 have:(es.filter fun e=>decide (dO e.lord=V.str q))=es.filter fun y=>decide (y.lord=some q):=List.filter_congr fun y _=>decide_eq_decide.mpr vf
 rw [← this]
 exact h
theorem JV {e p:Str}{a:Int}{es:List bC}:iy (cL e p a es)=kv (fun y=>if y.lord=some e then V.str p else dO y.lord) (es.filter fun y=>decide (y.n≠e)):=by
 unfold cL iy
 rw [iD (g:=Bf e p a) (fun _=>rfl)]
 refine fB fun y _=>?_
 show dO (if y.lord=some e then some p else y.lord)=_
 split <;> rfl
theorem FP {es:List bC} (nd:(nms es).Nodup) {e p:Str}{a:Int}{ss:List Str} (h:ss.Perm (((iy es).filter fun x=>decide (x.2=.str e)).map iB)):gY (moved (iy es) ss p) (.inr e)=iy (cL e p a es):=by
 obtain ⟨h1,h2⟩:=mj nd (Dm h)
 rw [yL ss h1,jP,JV]
 refine fB fun y hy=>?_
 have:=h2 y (List.mem_filter.mp hy).1
 by_cases c:y.lord=some e
 ·rw [if_pos c,if_pos (this.mpr c)]
 ·rw [if_neg c,if_neg fun z=>c (this.mp z)]
theorem FQ {es:List bC} (nd:(nms es).Nodup) {e p:Str}{a:Int}{ss:List Str} (h:ss.Perm ((((es.filter fun y=>decide (y.n≠e))).filter fun y=>decide (y.lord=some e)).map (·.n))):moved (iy (es.filter fun y=>decide (y.n≠e))) ss p=iy (cL e p a es):=by
 have nd2:(nms (es.filter fun y=>decide (y.n≠e))).Nodup:=(List.filter_sublist.map _).nodup nd
 obtain ⟨h1,h2⟩:=mj nd2 h
 rw [yL ss h1,JV]
 refine fB fun y hy=>?_
 have:=h2 y hy
 by_cases c:y.lord=some e
 ·rw [if_pos c,if_pos (this.mpr c)]
 ·rw [if_neg c,if_neg fun z=>c (this.mp z)]
theorem nq {f:bC→V}{es:List bC}{e p:Str}{a:Int} (hf:∀ y,f (Bf e p a y)=f y):gY (kv f es) (.inr e)=kv f (cL e p a es):=by
 rw [jP]
 unfold cL
 rw [iD (g:=Bf e p a) (fun _=>rfl)]
 exact fB fun y _=>(hf y).symm
theorem JW {es:List bC} (nd:(nms es).Nodup) {e0 y0:bC}{p:Str} (hp:y0∈es) (hn:y0.n=p):gY (putK (lZ es) (.inr p) (.int (y0.own+e0.own))) (.inr e0.n)=lZ (cL e0.n p e0.own es):=by
 rw [sV (by rw [← hn];exact List.mem_map.mpr ⟨y0,hp,rfl⟩),jP]
 unfold cL lZ
 rw [iD (g:=Bf e0.n p e0.own) (fun _=>rfl)]
 refine fB fun y hy=>?_
 show (if y.n=p then V.int (y0.own+e0.own) else V.int y.own)=V.int (if y.n=p then y.own+e0.own else y.own)
 split
 ·rename_i c
  rw [ji nd (List.mem_filter.mp hy).1 hp (c.trans hn.symm)]
 ·rfl
theorem FT {es:List bC} (nd:(nms es).Nodup) {e0 y0:bC}{p:Str} (hp:y0∈es) (hn:y0.n=p) (hne:p≠e0.n):putK (lZ (es.filter fun y=>decide (y.n≠e0.n))) (.inr p) (.int (y0.own+e0.own))=lZ (cL e0.n p e0.own es):=by
 rw [sV (by rw [← hn] at hne ⊢;exact List.mem_map.mpr ⟨y0,List.mem_filter.mpr ⟨hp,decide_eq_true hne⟩,rfl⟩)]
 unfold cL lZ
 rw [iD (g:=Bf e0.n p e0.own) (fun _=>rfl)]
 refine fB fun y hy=>?_
 show (if y.n=p then V.int (y0.own+e0.own) else V.int y.own)=V.int (if y.n=p then y.own+e0.own else y.own)
 split
 ·rename_i c
  rw [ji nd (List.mem_filter.mp hy).1 hp (c.trans hn.symm)]
 ·rfl
end M
namespace L2
open PySem PySem.Spec PyProof.Rows PySem.W
theorem Dn:∀ (a b:List Nat),ltCps a b=true↔a<b
 | [],[]=>by simp [ltCps]
 | [],_::_=>by simp [ltCps]
 | _::_,[]=>by simp [ltCps]
 | x::xs,y::ys=>by
  have ih:=Dn xs ys
  unfold ltCps
  rw [List.cons_lt_cons_iff]
  by_cases h:x<y
  ·simp [h]
  ·by_cases h2:x=y
   ·subst h2;simp [ih]
   ·simp [h,h2]
theorem vA:∀ (l:List Str),sortedS l=true→l.Pairwise fun a b=>a.cps.toList≤b.cps.toList
 | [],_=>.nil
 | x::r,h=>by
  have key:∀ (r:List Str) (p:Str),risingS p r=true→(∀ y∈r,p.cps.toList≤y.cps.toList)∧r.Pairwise fun a b=>a.cps.toList≤b.cps.toList:=by
   intro r
   induction r with
   | nil=>intro p _;exact ⟨fun y hy=>(by cases hy),.nil⟩
   | cons x r ih =>
    intro p hp
    simp only [risingS,Bool.and_eq_true,Bool.not_eq_true'] at hp
    obtain ⟨h1,h2⟩:=ih x hp.2
    have h0:p.cps.toList≤x.cps.toList:=by
     refine List.not_lt.mp fun c=>?_
     rw [(Dn _ _).mpr c] at hp
     exact absurd hp.1 (by decide)
    refine ⟨fun y hy=>?_,.cons (fun y hy=>h1 y hy) h2⟩
    rcases List.mem_cons.mp hy with q | q
    ·rw [q];exact h0
    ·exact List.le_trans h0 (h1 y q)
  obtain ⟨h1,h2⟩:=key r x h
  exact .cons (fun y hy=>h1 y hy) h2
theorem nA {l m:List Str} (p:l.Perm m) (h1:sortedS l=true) (h2:sortedS m=true):l=m :=
 List.Perm.eq_of_pairwise (fun a b _ _ x y=>qK (List.le_antisymm x y)) (vA l h1) (vA m h2) p
theorem Bh {l m:List Str} (p:l.Perm m) (h1:l.Pairwise fun x y=>x.cps.toList<y.cps.toList) (h2:m.Pairwise fun x y=>x.cps.toList<y.cps.toList):l=m :=
 List.Perm.eq_of_pairwise (le:=fun x y=>x.cps.toList≤y.cps.toList) (fun a b _ _ x y=>qK (List.le_antisymm x y)) (h1.imp fun q=>List.le_of_lt q) (h2.imp fun q=>List.le_of_lt q) p
theorem Dp:∀ {xs:List V}{us:List Value},xs.length=us.length→(∀ (i:Nat) (x:V) (u:Value),xs[i]?=some x→us[i]?=some u→RelV x u)→Vals xs us
 | [],[],_,_=>.nil
 | [],_::_,h,_=>by simp at h
 | _::_,[],h,_=>by simp at h
 | x::xs,u::us,h,hr=>.cons (hr 0 x u rfl rfl) (Dp (by simpa using h) fun i a b h1 h2=>hr (i+1) a b (by simpa using h1) (by simpa using h2))
def Tr:List V→Hp→VK→Prop:=fun xs H Q=>∃ a kvs,xs=[.ref a]∧H a=some (.dK kvs)∧∀ p,H p=none→Q (.ref p) (upd H p (.lst (kvs.map fun kv=>kV kv.1)))
theorem sZ {X:Cx} (hin:X.A.handled=none):fM X (.type "list") Tr:=by
 intro pins s σ H xs us Q I r h
 obtain ⟨a,kvs,rfl,ha,q⟩:=h
 obtain ⟨u,rfl,ru⟩:=vals1 r
 cases ru
 obtain ⟨z,hs,vs,ep,rel,dat⟩:=IV I ha
 have hlen:vs.length=kvs.length:=rel.length.symm
 refine kdl_call (kdl_dict (knd:=bU X.prog X.w) (kvs:=vs) (ep:=ep) hs) hin dat (by omega) fun h' tk acc c hk hS hI=>?_
 have hv:Vals (kvs.map fun kv=>kV kv.1) acc.toList:=by
  refine Dp (by have h1:=hI.1;have h2:acc.toList.length=acc.size:=Array.length_toList;rw [List.length_map];omega) fun i x u h1 h2=>?_
  rw [List.getElem?_map] at h1
  obtain ⟨kv,hkv,rfl⟩:=Option.map_eq_some_iff.mp h1
  obtain ⟨u',hu',_⟩:=rel.at hkv
  obtain ⟨k,y,e1,e2⟩:=hI.2 i u (by rw [← Array.getElem?_toList];exact h2)
  rw [hu'] at e1
  cases e1
  exact Ip e2
 exact ⟨.ref s.heap.objs.size,_,I.laid (o:=.lst (kvs.map fun kv=>kV kv.1)) (t':=tk) hk (Nat.le_refl _) ⟨by rw [List.length_map];exact z,acc.toList,c,hv,hS⟩,rfl,q _ (I.hok.fresh (Nat.le_refl _))⟩
theorem Qh {H:Hp}{a:Addr}{o:Obj}{kvs:List (Key×V)}{e:Str}{v:V} (h:H a=some (.fX o (.dK kvs))) (hv:bQ kvs (.inr e)=some v):dR H a (V.str e) (some v):=.inl ⟨kvs,.inr e,.inr ⟨_,h⟩,rfl,hv.symm⟩
end L2
namespace M
open PySem L2 PyProof.Rows
theorem mq {f:bC→V}{es:List bC}{a:Addr}{H:Hp}{σ:L2.St}{k:Nat}{ix:List Nat}{td:TE}{g:TG}{tt:TT}{te:TE}{Q:VK} (p:bC→Bool) (ha:H a=some (.dK (kv f es))) (hl:es.length≤1000)
  (hd:∀ (o:Obj) (R:VK),R (.ref a) (upd H a (.fX o (.dK (kv f es))))→td σ (upd H a (.fX o (.dK (kv f es)))) R)
  (turn:∀ (o:Obj) (y:bC) (Hz:Hp) (A:V→Hp→Prop) (B:Hp→Prop),y∈es→Same (upd H a (.fX o (.dK (kv f es)))) Hz→(if p y=true then A (V.str y.n) Hz else B Hz)→g (V.str y.n) (iJ σ k ix) Hz fun σ2 H4=>Kp (iJ σ k ix) σ2∧tt σ2 H4 fun b H5=>if b=true then te σ2 H5 A else B H5)
  (done:∀ D Hz,Same H Hz→H D=none→Hz D=some (.lst (((es.filter p).map (·.n)).map V.str))→Q (.ref D) Hz):Ss (Ck k ix (PB td) g tt te) σ H Q:=by
 refine ⟨a,_,ha,fun o=>hd o _ ⟨a,o,kv f es,rfl,ak,fun D hD=>?_⟩⟩
 have nD:a≠D:=aH (show (upd H a (.fX o (.dK (kv f es)))) a=some (.fX o (.dK (kv f es))) from ak) hD
 have Vn:H D=none:=by rw [ao (Ne.symm nD)] at hD;exact hD
 refine uM (o:=o) (fun i ys Hz=>ys=(((es.take i).filter p).map (·.n)).map V.str∧Same (upd H a (.fX o (.dK (kv f es)))) Hz∧Hz D=some (.lst ys)) (fun i ys Hz h=>h.2.1 _ _ ak) ⟨rfl,aD hD _,ak⟩ (fun i ys Hz h=>h.2.2) ?_ ?_
 ·rintro i ys Hz kx hkv ⟨rfl,sz,gG⟩
  rw [List.getElem?_map] at hkv
  obtain ⟨y,hy,rfl⟩:=Option.map_eq_some_iff.mp hkv
  refine turn o y Hz _ _ (List.mem_of_getElem? hy) sz ?_
  have step:(((es.take (i+1)).filter p).map (·.n)).map V.str=(((es.take i).filter p).map (·.n)).map V.str++(if p y=true then [V.str y.n] else []):=by
   rw [List.take_add_one,hy,List.filter_append,List.map_append,List.map_append]
   congr 1
   cases e:p y <;> simp [e]
  by_cases c:p y=true
  ·rw [if_pos c] at step ⊢
   refine ⟨gG,?_,step.symm,bB sz hD,ak⟩
   rw [List.length_map,List.length_map]
   have:=List.length_filter_le p (es.take i)
   rw [List.length_take] at this
   exact bY (by omega)
  ·rw [if_neg c] at step ⊢
   refine ⟨by rw [step,List.append_nil],sz,gG⟩
 ·rintro ys Hz ⟨rfl,sz,gG⟩
  rw [gO,List.take_length] at gG
  refine ⟨sz _ _ ak,?_⟩
  exact done D _ (jC ha sz) Vn (by rw [ao (Ne.symm nD)];exact gG)
theorem fK {K:PySem.W.Frag}{a D:Addr}{xs:List Str}{H1:Hp}{σ:L2.St}{k:Nat}{ix:List Nat}{g:TG}{tt:TT}{te:TE}{Q:VK} (p:Str→Bool) (e:Str→V) (hs:bR K H1 a (xs.map V.str)) (hD:H1 D=none) (hl:xs.length≤1000)
  (turn:∀ (x:Str) (Hz:Hp) (A:V→Hp→Prop) (B:Hp→Prop),x∈xs→Same H1 Hz→(∀ H',Same Hz H'→if p x=true then A (e x) H' else B H')→g (V.str x) (iJ σ k ix) Hz fun σ2 H4=>Kp (iJ σ k ix) σ2∧tt σ2 H4 fun b H5=>if b=true then te σ2 H5 A else B H5)
  (done:∀ Hz,Same H1 Hz→Hz D=some (.lst ((xs.filter p).map e))→Q (.ref D) Hz):lg (Rv K a) D σ k ix g tt te Q H1:=by
 refine El (xs:=xs.map V.str) (fun i ys Hz=>ys=((xs.take i).filter p).map e∧Same H1 Hz∧Hz D=some (.lst ys)) (fun i ys Hz h=>h.2.1.seq hs) ⟨rfl,aD hD _,ak⟩ (fun i ys Hz h=>h.2.2) ?_ ?_
 ·rintro i ys Hz v hv ⟨rfl,sz,gG⟩
  rw [List.getElem?_map] at hv
  obtain ⟨x,hx,rfl⟩:=Option.map_eq_some_iff.mp hv
  refine turn x Hz _ _ (List.mem_of_getElem? hx) sz fun H' s'=>?_
  have step:((xs.take (i+1)).filter p).map e=((xs.take i).filter p).map e++(if p x=true then [e x] else []):=by
   rw [List.take_add_one,hx,List.filter_append,List.map_append]
   congr 1
   cases c:p x <;> simp [c]
  by_cases c:p x=true
  ·rw [if_pos c] at step ⊢
   refine ⟨s' _ _ gG,?_,step.symm,bB (sz.trans s') hD,ak⟩
   rw [List.length_map]
   have:=List.length_filter_le p (xs.take i)
   rw [List.length_take] at this
   exact bY (by omega)
  ·rw [if_neg c] at step ⊢
   exact ⟨by rw [step,List.append_nil],sz.trans s',s' _ _ gG⟩
 ·rintro ys Hz ⟨rfl,sz,gG⟩
  rw [List.length_map,List.take_length] at gG
  exact done Hz sz gG
structure Ad where
 x:Addr
 dx:Addr
 a1:Addr
 a2:Addr
 a3:Addr
 a4:Addr
 a5:Addr
 B:Addr
 l:Addr
 h:Addr
 o:Addr
 d:Addr
 kn:Addr
 dd:Addr
 kvs:List (Key×V)
 wd:Int
 ms:List Str
abbrev Bk (q:Ad) (H:Hp) (es:List bC) (ks:List Str):Prop:=eV H q.B q.l q.h q.o q.d q.kn q.dd q.kvs (iy es) (hoL es) (lZ es) (qD es) ks
abbrev Ln (C:Addr) (q:Ad) (H:Hp) (es:List bC):Prop:=bZ C H q.x q.dx q.a1 q.a2 q.a3 q.a4 q.a5 (iy es) (hoL es) (lZ es) (Qf es) (Qe es)
def JX (C:Addr):Sp:=fun vs H Q _=>∃ q es,vs=[.ref q.x]∧Ln C q H es∧es.length<64∧∀ (r:Addr) (ss:List Str) (H':Hp),Same H H'→H r=none→H' r=some (.lst (ss.map V.str))→ss.Perm (jq (es.map (·.man)))→ss.Pairwise (fun x y=>x.cps.toList<y.cps.toList)→Q (.ref r) H'
section
variable {P:Program}{w:World}{K:PySem.W.Frag}{mg:Str→Option Value}{base:Heap}{f C:Addr}{fd:FuncData}
theorem Tt:aZ ["self"] ["self"] (aC sH):=⟨rfl,rfl,rfl,by decide +kernel,rfl,by decide +kernel,by decide +kernel⟩
def scF1:Scope:={ kind:=.function,names:=[(".0",.local),("man",.local)],isGenerator:=false,isCoroutine:=false }
theorem csF1:cT ["self"] (aC sH) scF1 ["man"] [] []:=⟨rfl,by decide +kernel,by decide +kernel,by decide +kernel,rfl,by decide +kernel⟩
theorem ndF1:((["man"]:List Str)++([]:List Str)).Nodup:=by decide +kernel
set_option maxHeartbeats 4000000 in
theorem Nr (T:cX K C) (ms:mg "sorted"=none) (F:fH K "folk" "Land.folk" sH f fd):aL P w K mg base cu 1 f fd ["self"] (JX C):=by
 refine F.ok Tt (fun vs H Q E h=>?_) (fun cdv A outer s H vs Q E hr h=>?_)
 ·obtain ⟨q,es,rfl,_⟩:=h
  rfl
 obtain ⟨q,es,rfl,L,hl,k⟩:=h
 refine ⟨_,aG (aW (aP (oM hr.hd) rfl ms eG (aj (mY (Jd rfl csF1 (Mv (cj (pv 0) rfl)) (fun s H fp C'=>⟨bL (i:=0) ndF1 rfl (Or.inl rfl),lR,pv 0⟩))) aA))),?_⟩
 have nx:=bh L.o L.l2 (by intro q;cases q)
 refine ⟨q.a2,_,L.l2,fun o=>⟨_,rfl,q.x,C,q.dx,_,_,rfl,by rw [ao nx];exact L.o,T.cl,T.n2,rfl,q.a2,o,_,rfl,ak,fun D hD=>?_⟩⟩
 have nD:q.a2≠D:=aH (show (upd H q.a2 (.fX o (.dK (hoL es)))) q.a2=some (.fX o (.dK (hoL es))) from ak) hD
 have Vn:H D=none:=by rw [ao (Ne.symm nD)] at hD;exact hD
 refine Ag (fun i zs Hz=>zs=jq ((es.take i).map (·.man))∧Same (upd H q.a2 (.fX o (.dK (hoL es)))) Hz∧Hz D=some (ig P w D zs)) (fun i zs Hz h=>h.2.1 _ _ ak) ⟨rfl,aD hD _,ak⟩ (fun i zs Hz h=>h.2.2) ?_ ?_
 ·rintro i zs Hz kx hkv ⟨rfl,sz,gG⟩
  rw [List.getElem?_map] at hkv
  obtain ⟨y,hy,rfl⟩:=Option.map_eq_some_iff.mp hkv
  refine ⟨Kp.set rfl (Kp.refl _),jy ⟨_,rfl,y.man,rfl,gG,?_,?_,bB sz hD,ak⟩⟩
  ·have:=oN ((es.take i).map (·.man))
   rw [List.length_map,List.length_take] at this
   omega
  ·rw [List.take_add_one,hy,List.map_append]
   exact (uR _ _).symm
 ·rintro zs Hz ⟨rfl,sz,gG⟩
  rw [gO,List.take_length] at gG
  have s2:=jC L.l2 sz
  refine ⟨sz _ _ ak,D,_,rfl,by rw [ao (Ne.symm nD)];exact gG,?_,fun l ys hl0 hp hs=>?_⟩
  ·have:=oN (es.map (·.man))
   rw [List.length_map] at this
   omega
  ·exact k l ys _ (bB s2 (s2.free hl0)) (s2.free hl0) ak hp hs
end
end M
namespace M
open PySem L2 PyProof.Rows
abbrev Bj:Stmt:=top 26
abbrev FW:Stmt:=top 27
abbrev Bl:Stmt:=top 28
abbrev Bm:Stmt:=top 29
abbrev FZ:Stmt:=top 38
def Ap (q:Ad):Prop:=[q.a1,q.a2,q.a3,q.a4,q.a5,q.B,q.l,q.h,q.o,q.d,q.kn,q.dd].Nodup
theorem bV {l:List Addr} (h:l.Nodup) (i j:Nat) {a b:Addr} (ha:l[i]?=some a) (hb:l[j]?=some b) (hij:i≠j):a≠b:=by
 obtain ⟨h1,e1⟩:=List.getElem?_eq_some_iff.mp ha
 obtain ⟨h2,e2⟩:=List.getElem?_eq_some_iff.mp hb
 intro q
 exact hij ((List.getElem_inj h).mp (by rw [e1,e2,q]))
def Dq:Sp:=fun vs H Q _=>∃ q es ks e,vs=[.ref q.B,.str e]∧Ap q∧Bk q H es ks∧(nms es).Nodup∧es.length<64∧∀ (r:Addr) (ss:List Str) (H':Hp),Same H H'→H r=none→H' r=some (.lst (ss.map V.str))→ss.Perm ((es.filter fun y=>decide (y.lord=some e)).map (·.n))→sortedS ss=true→Q (.ref r) H'
def JZ:Sp:=fun vs H Q _=>∃ q es ks m,vs=[.ref q.B,.str m]∧Ap q∧Bk q H es ks∧(nms es).Nodup∧es.length<64∧∀ (r:Addr) (ss:List Str) (H':Hp),Same H H'→H r=none→H' r=some (.lst (ss.map V.str))→ss.Perm ((es.filter fun y=>decide (y.man=m)).map (·.n))→sortedS ss=true→Q (.ref r) H'
def Qi:Sp:=fun vs H Q _=>∃ q es ks e l,vs=[.ref q.B,.str e]∧Ap q∧Bk q H es ks∧WF es∧e∈nms es∧Ch (iy es) e l∧l.length≤1000∧∀ (r:Addr) (H':Hp),Same H H'→H r=none→H' r=some (.lst (l.map V.str))→Q (.ref r) H'
def Qj:Sp:=fun vs H Q _=>∃ q es ks m,vs=[.ref q.B,.str m]∧Ap q∧Bk q H es ks∧WF es∧es.length<64∧∀ (r:Addr) (ss:List Str) (H':Hp),Same H H'→H r=none→H' r=some (.lst (ss.map V.str))→ss.length<64→Q (.ref r) H'
theorem Ga (o:Option Str) (e:Str):GP (dO o) (V.str e)=true:=by cases o <;> rfl
theorem K1 {o:Option Str}{e:Str}:decide (dO o=V.str e)=decide (o=some e):=decide_eq_decide.mpr vf
theorem eV.gl {q:Ad}{H:Hp}{es:List bC}{ks:List Str} (b:Bk q H es ks):dR H q.B (V.str "lords") (some (.ref q.l)):=fP b.b b.vl
theorem eV.gh {q:Ad}{H:Hp}{es:List bC}{ks:List Str} (b:Bk q H es ks):dR H q.B (V.str "holders") (some (.ref q.h)):=fP b.b b.vh
theorem eV.go {q:Ad}{H:Hp}{es:List bC}{ks:List Str} (b:Bk q H es ks):dR H q.B (V.str "own") (some (.ref q.o)):=fP b.b b.vo
theorem eV.gd {q:Ad}{H:Hp}{es:List bC}{ks:List Str} (b:Bk q H es ks):dR H q.B (V.str "due") (some (.ref q.d)):=fP b.b b.vd
theorem eV.gk {q:Ad}{H:Hp}{es:List bC}{ks:List Str} (b:Bk q H es ks):dR H q.B (V.str "known") (some (.ref q.kn)):=fP b.b b.vk
theorem eV.gx {q:Ad}{H:Hp}{es:List bC}{ks:List Str} (b:Bk q H es ks):dR H q.B (V.str "dead") (some (.ref q.dd)):=fP b.b b.vx
theorem Bo {f:bC→V}{es:List bC}{H:Hp}{a:Addr}{e:bC} (h:H a=some (.dK (kv f es))) (nd:(nms es).Nodup) (he:e∈es):dR H a (V.str e.n) (some (f e)):=fP h (cg nd he)
section
variable {P:Program}{w:World}{K:PySem.W.Frag}{mg:Str→Option Value}{base:Heap}{f C:Addr}{fd:FuncData}
theorem Xe:aZ ["_law_book_here", "_law_estate"] ["_law_book_here", "_law_estate"] (aC Bj):=⟨rfl,rfl,rfl,by decide +kernel,rfl,by decide +kernel,by decide +kernel⟩
def Xf:Scope:={ kind:=.function,names:=[(".0",.local),("_law_one",.local),("_law_book_here",.free),("_law_estate",.free)],isGenerator:=false,isCoroutine:=false }
theorem Xg:cT ["_law_book_here", "_law_estate"] (aC Bj) Xf ["_law_one"] ["_law_book_here", "_law_estate"] [0,1]:=⟨rfl,by decide +kernel,by decide +kernel,by decide +kernel,rfl,by decide +kernel⟩
theorem Xh:((["_law_one"]:List Str)++(["_law_book_here", "_law_estate"]:List Str)).Nodup:=by decide +kernel
set_option maxHeartbeats 4000000 in
theorem Tv (ms:mg "sorted"=none) (F:fH K "_law_under" "_law_under" Bj f fd):aL P w K mg base cu 1 f fd ["_law_book_here", "_law_estate"] Dq:=by
 refine F.ok Xe (fun vs H Q E h=>?_) (fun cdv A outer s H vs Q E hr h=>?_)
 ·obtain ⟨q,es,ks,e,rfl,_⟩:=h
  rfl
 obtain ⟨q,es,ks,e,rfl,ap,bk,nd,hl,k⟩:=h
 refine ⟨_,aG (aW (aP dF rfl ms eG (aj (mY (fJ rfl Xg (oJ (aO (u1 hr) (pv 0) aJ (fun _ _=>rfl))) (fun s H fp C'=>⟨bL (i:=0) Xh rfl (Or.inl rfl),eU (aM cH (aO (u1 hr) (aO (u1 hr) (pv 1) aJ (fun _ _=>rfl)) (pv 0) (fun _ _=>rfl)) (pv 2) (bA _)),pv 0⟩))) aA))),?_⟩
 have nB:q.B≠q.l:=bV ap 5 6 rfl rfl (by decide)
 have gB:∀ {o:Obj}{Hz:Hp},Same (upd H q.l (.fX o (.dK (iy es)))) Hz→dR Hz q.B (V.str "lords") (some (.ref q.l)):=fun sz=>fP (sz _ _ (by rw [ao nB];exact bk.b)) bk.vl
 refine mq (fun y=>decide (y.lord=some e)) bk.l (by omega) (fun o R hR=>⟨_,rfl,q.B,_,rfl,gB (Same.refl _),hR⟩) (fun o y Hz A B hy sz hAB=>?_) (fun D Hz sz Vn gG=>?_)
 ·refine ⟨Kp.set rfl (Kp.refl _),_,rfl,q.B,_,rfl,gB sz,_,rfl,q.l,_,rfl,Qh (sz _ _ ak) (cg nd hy),_,rfl,Ga _ _,_,rfl,?_⟩
  rw [K1]
  refine eZ (fun c=>?_) (fun c=>?_)
  ·rw [if_pos c] at hAB
   exact ⟨_,rfl,hAB⟩
  ·rw [if_neg c] at hAB
   exact hAB
 ·refine ⟨D,_,rfl,bR.of gG,?_,fun l ss hl0 hp hs=>?_⟩
  ·rw [List.length_map]
   exact Nat.lt_of_le_of_lt (List.length_filter_le _ _) hl
  ·exact k l ss _ (bB sz (sz.free hl0)) (sz.free hl0) ak hp hs
theorem Xi:aZ ["_law_book_here", "_law_man"] ["_law_book_here", "_law_man"] (aC Bl):=⟨rfl,rfl,rfl,by decide +kernel,rfl,by decide +kernel,by decide +kernel⟩
def Xj:Scope:={ kind:=.function,names:=[(".0",.local),("_law_one",.local),("_law_book_here",.free),("_law_man",.free)],isGenerator:=false,isCoroutine:=false }
theorem Xk:cT ["_law_book_here", "_law_man"] (aC Bl) Xj ["_law_one"] ["_law_book_here", "_law_man"] [0,1]:=⟨rfl,by decide +kernel,by decide +kernel,by decide +kernel,rfl,by decide +kernel⟩
theorem Xl:((["_law_one"]:List Str)++(["_law_book_here", "_law_man"]:List Str)).Nodup:=by decide +kernel
set_option maxHeartbeats 4000000 in
theorem Tw (ms:mg "sorted"=none) (F:fH K "_law_held" "_law_held" Bl f fd):aL P w K mg base cu 1 f fd ["_law_book_here", "_law_man"] JZ:=by
 refine F.ok Xi (fun vs H Q E h=>?_) (fun cdv A outer s H vs Q E hr h=>?_)
 ·obtain ⟨q,es,ks,e,rfl,_⟩:=h
  rfl
 obtain ⟨q,es,ks,m,rfl,ap,bk,nd,hl,k⟩:=h
 refine ⟨_,aG (aW (aP dF rfl ms eG (aj (mY (fJ rfl Xk (oJ (aO (u1 hr) (pv 0) aJ (fun _ _=>rfl))) (fun s H fp C'=>⟨bL (i:=0) Xl rfl (Or.inl rfl),eU (aM cH (aO (u1 hr) (aO (u1 hr) (pv 1) aJ (fun _ _=>rfl)) (pv 0) (fun _ _=>rfl)) (pv 2) (bA _)),pv 0⟩))) aA))),?_⟩
 have nB:q.B≠q.h:=bV ap 5 7 rfl rfl (by decide)
 have gB:∀ {o:Obj}{Hz:Hp},Same (upd H q.h (.fX o (.dK (hoL es)))) Hz→dR Hz q.B (V.str "holders") (some (.ref q.h)):=fun sz=>fP (sz _ _ (by rw [ao nB];exact bk.b)) bk.vh
 refine mq (fun y=>decide (y.man=m)) bk.h (by omega) (fun o R hR=>⟨_,rfl,q.B,_,rfl,gB (Same.refl _),hR⟩) (fun o y Hz A B hy sz hAB=>?_) (fun D Hz sz Vn gG=>?_)
 ·refine ⟨Kp.set rfl (Kp.refl _),_,rfl,q.B,_,rfl,gB sz,_,rfl,q.h,_,rfl,Qh (sz _ _ ak) (cg nd hy),_,rfl,rfl,_,rfl,?_⟩
  rw [dB]
  refine eZ (fun c=>?_) (fun c=>?_)
  ·rw [if_pos c] at hAB
   exact ⟨_,rfl,hAB⟩
  ·rw [if_neg c] at hAB
   exact hAB
 ·refine ⟨D,_,rfl,bR.of gG,?_,fun l ss hl0 hp hs=>?_⟩
  ·rw [List.length_map]
   exact Nat.lt_of_le_of_lt (List.length_filter_le _ _) hl
  ·exact k l ss _ (bB sz (sz.free hl0)) (sz.free hl0) ak hp hs
theorem Xm:aZ ["_law_book_here", "_law_man"] ["_law_book_here", "_law_man"] (aC Bm):=⟨rfl,rfl,rfl,by decide +kernel,rfl,by decide +kernel,by decide +kernel⟩
def Xn:Scope:={ kind:=.function,names:=[(".0",.local),("_law_one",.local),("_law_book_here",.free)],isGenerator:=false,isCoroutine:=false }
theorem Xo:cT ["_law_book_here", "_law_man"] (aC Bm) Xn ["_law_one"] ["_law_book_here"] [0]:=⟨rfl,by decide +kernel,by decide +kernel,by decide +kernel,rfl,by decide +kernel⟩
theorem Xp:((["_law_one"]:List Str)++(["_law_book_here"]:List Str)).Nodup:=by decide +kernel
def Dr (es:List bC) (n:Str):Str:=match es.find? fun e=>decide (e.n=n) with
 | some e=>match e.lord with
  | some p=>match es.find? fun e=>decide (e.n=p) with
   | some y=>y.man
   | none=>""
  | none=>""
 | none=>""
set_option maxHeartbeats 4000000 in
theorem Tz (F:fH K "_law_bound_to" "_law_bound_to" Bm f fd) {g1:Addr}{d1:FuncData} (G1:aL P w K mg base cu 1 g1 d1 ["_law_book_here", "_law_man"] JZ) (M1:Ms K mg "_law_held" g1 d1 ["_law_book_here", "_law_man"]):aL P w K mg base cu 2 f fd ["_law_book_here", "_law_man"] Qj:=by
 refine F.ok Xm (fun vs H Q E h=>?_) (fun cdv A outer s H vs Q E hr h=>?_)
 ·obtain ⟨q,es,ks,e,rfl,_⟩:=h
  rfl
 obtain ⟨q,es,ks,m,rfl,ap,bk,W,hl,k⟩:=h
 refine ⟨_,aG (aW (fJ rfl Xo (fD (bf G1 hr rfl M1.m M1.k M1.b .nil bD (aj (pv 0) (aj (pv 1) aA)))) (fun s H fp C'=>⟨bL (i:=0) Xp rfl (Or.inl rfl),eU (aM jT (pv 0) aJ (bA _)),aO (u1 hr) (aO (u1 hr) (pv 1) aJ (fun _ _=>rfl)) (aO (u1 hr) (aO (u1 hr) (pv 1) aJ (fun _ _=>rfl)) (pv 0) (fun _ _=>rfl)) (fun _ _=>rfl)⟩))),?_⟩
 refine ⟨_,rfl,_,rfl,q,es,ks,m,rfl,ap,bk,W.nd,hl,fun r ss H' s' hr0 hr1 hp hs=>?_⟩
 have hsl:ss.length<64:=by
  rw [hp.length_eq,List.length_map]
  exact Nat.lt_of_le_of_lt (List.length_filter_le _ _) hl
 refine ⟨r,rfl,⟨_,bR.of hr1⟩,fun D hD=>fK (xs:=ss) (fun x=>!decide (x="")) (fun x=>V.str (Dr es x)) (bR.of hr1) hD (by omega) (fun x Hz A B hx sz hAB=>?_) (fun Hz sz gG=>?_)⟩
 ·obtain ⟨y,hy,rfl⟩:=List.mem_map.mp (hp.mem_iff.mp hx)
  have hye:=(List.mem_filter.mp hy).1
  have hAB:=hAB _ (Same.refl _)
  refine ⟨Kp.set rfl (Kp.refl _),_,rfl,rfl,_,rfl,?_⟩
  rw [dB]
  refine eZ (fun c=>?_) (fun c=>?_)
  ·rw [if_pos c] at hAB
   have bz:=(bk.same s').same sz
   have hne:y.n≠"":=by
    intro z
    rw [z] at c
    exact absurd c (by decide)
   obtain ⟨p,hp1,hp2,_⟩:=W.lord y hye hne
   obtain ⟨z,hz,Qk⟩:=dJ hp2
   have eu:Dr es y.n=z.man:=by
    unfold Dr
    rw [Bg W.nd hye]
    dsimp only
    rw [hp1]
    dsimp only
    rw [← Qk,Bg W.nd hz]
   rw [eu] at hAB
   have g1:=Bo bz.l W.nd hye
   rw [hp1] at g1
   have g2:=Bo bz.h W.nd hz
   rw [Qk] at g2
   exact ⟨_,rfl,q.B,_,rfl,bz.gh,_,rfl,q.B,_,rfl,bz.gl,_,rfl,q.l,_,rfl,g1,q.h,_,rfl,g2,hAB⟩
  ·rw [if_neg c] at hAB
   exact hAB
 ·have hDz':Hz D=some (.lst ((((ss.filter fun x:Str=>!decide (x="")).map (Dr es))).map V.str)):=by rw [gG,List.map_map];rfl
  exact k D _ Hz (s'.trans sz) (s'.free hD) hDz' (by rw [List.length_map];exact Nat.lt_of_le_of_lt (List.length_filter_le _ _) hsl)
end
end M
namespace M
open PySem L2 PyProof.Rows
theorem oV {H:Hp}:∀ ss:List Str,cZ H (ss.map V.str) (ss.map PyData.str)
 | []=>.nil
 | x::r=>.cons (.str x) (oV r)
theorem vB:∀ {ss:List Str},(∀ s∈ss,PyData.strOk s=true)→PyData.canLayAll0 (ss.map PyData.str)=true
 | [],_=>by simp [PyData.canLayAll0]
 | x::r,h=>by simp [PyData.canLayAll0,PyData.canLay0,h x List.mem_cons_self,vB fun s hs=>h s (List.mem_cons_of_mem _ hs)]
theorem jE {ss:List Str} (h:∀ s∈ss,PyData.strOk s=true):(PyData.list (ss.map .str)).canLay0=true:=by
 have:=vB h
 simpa [PyData.canLay0] using this
theorem vC:∀ ss:List Str,PyData.depthAll (ss.map PyData.str)≤2
 | []=>by simp [PyData.depthAll]
 | x::r=>by
  have:=vC r
  simp [PyData.depthAll,PyData.depth]
  omega
theorem tu (ss:List Str):(PyData.list (ss.map .str)).depth≤8:=by
 have:=vC ss
 simp [PyData.depth]
 omega
theorem strs_nil:∀ ss:List Str,PyData.eqv (.list (ss.map .str)) (.list [])=decide (ss=[])
 | []=>by simp [PyData.eqv,PyData.eqvAll]
 | x::r=>by simp [PyData.eqv,PyData.eqvAll]
theorem K3 (x:V) (xs:List V):iI (x::xs) (some 1) none=xs:=by
 unfold iI
 have e1:HT.eY (x::xs).length 0 (some 1)=1:=by
  unfold HT.eY
  simp
 have e2:HT.eY (x::xs).length (x::xs).length none=xs.length+1:=rfl
 rw [e1,e2]
 simp
theorem Ql:∀ (es:List bC) (n:Str),wt es n≤2 ^ es.length
 | [],_=>Nat.zero_le _
 | x::r,n=>by
  unfold wt
  rw [List.length_cons,Nat.pow_succ]
  have:=Ql r n
  have h2:0<2 ^ r.length:=Nat.pow_pos (by decide)
  split <;> omega
theorem K4:∀ {es:List bC}{n:Str},n∈nms es→1≤wt es n
 | x::r,n,h=>by
  unfold wt
  have h2:0<2 ^ r.length:=Nat.pow_pos (by decide)
  split
  ·omega
  ·rename_i c
   rcases List.mem_cons.mp h with q | q
   ·exact absurd q.symm c
   ·exact K4 q
theorem Bp {es:List bC}:∀ {ss:List Str},(∀ s∈ss,s∈nms es)→ss.length≤(ss.map (wt es)).sum
 | [],_=>Nat.le_refl _
 | x::r,h=>by
  have h1:=K4 (h x List.mem_cons_self)
  have h2:=Bp (es:=es) (ss:=r) fun s hs=>h s (List.mem_cons_of_mem _ hs)
  rw [List.length_cons,List.map_cons,List.sum_cons]
  omega
section
variable {P:Program}{w:World}{K:PySem.W.Frag}{mg:Str→Option Value}{base:Heap}{f C:Addr}{fd:FuncData}
theorem yN:aZ ["_law_book_here", "_law_estate", "_law_found", "_law_ahead"] ["_law_book_here", "_law_estate"] (aC FW):=⟨rfl,rfl,rfl,by decide +kernel,rfl,by decide +kernel,by decide +kernel⟩
def TF:Sp:=fun vs H Q _=>∃ q es ks e,vs=[.ref q.B,.str e.n]∧Ap q∧Bk q H es ks∧WF es∧e∈es∧es.length≤18∧∀ H':Hp,Same H H'→Q (.int e.br) H'
set_option maxHeartbeats 4000000 in
theorem TJ (F:fH K "_law_breadth" "_law_breadth" FW f fd) {g1:Addr}{d1:FuncData} (G1:aL P w K mg base cu 1 g1 d1 ["_law_book_here", "_law_estate"] Dq) (M1:Ms K mg "_law_under" g1 d1 ["_law_book_here", "_law_estate"]):aL P w K mg base cu 2 f fd ["_law_book_here", "_law_estate"] TF:=by
 refine F.ok yN (fun vs H Q E h=>?_) (fun cdv A outer s H vs Q E hr h=>?_)
 ·obtain ⟨q,es,ks,e,rfl,_⟩:=h
  rfl
 obtain ⟨q,es,ks,e,rfl,ap,bk,W,he,hl,k⟩:=h
 refine ⟨_,aq (aY (i:=2) yN.nd rfl (Or.inl rfl) (aO (u1 hr) (aO (u1 hr) (pv 0) aJ (fun _ _=>rfl)) (pv 1) (fun _ _=>rfl)))
  (aq (aY (i:=3) yN.nd rfl (Or.inl rfl) (bf G1 hr rfl M1.m M1.k M1.b .nil bD (aj (pv 0) (aj (pv 1) aA))))
  (aq (kJ PassesOwn.never (aM (vW hr.units) (pv 3) (cI aA) (bA _))
   (aq (aY (i:=2) yN.nd rfl (Or.inl rfl) (aN dH (pv 2) (aO (u1 hr) (aO (u1 hr) (pv 0) aJ (fun _ _=>rfl)) (aK aU (pv 3) au (fun _ _=>rfl)) (fun _ _=>rfl))))
   (aG (aY (i:=3) yN.nd rfl (Or.inl rfl) (aN jK (fO lO (pv 3) (dI au) jJ) (bf G1 hr rfl M1.m M1.k M1.b .nil bD (aj (pv 0) (aj (aK aU (pv 3) au (fun _ _=>rfl)) aA))))))))
  (aG (aW (pv 2))))),?_⟩
 have hw:2 ^ es.length≤262144:=Nat.le_trans (Nat.pow_le_pow_right (by decide) hl) (by decide)
 refine ⟨_,rfl,q.B,_,rfl,bk.go,_,rfl,q.o,_,rfl,Bo bk.o W.nd he,?_⟩
 refine ⟨_,rfl,_,rfl,q,es,ks,e.n,rfl,ap,bk,W.nd,by omega,fun t ss H1 s1 ht0 ht1 hp hs=>?_⟩
 refine ⟨fun m σ Hx=>∃ (found:Int) (t:Addr) (ss:List Str),m=(ss.map (wt es)).sum∧σ=[some (.ref q.B),some (.str e.n),some (.int found),some (.ref t)]∧Same H Hx∧Hx t=some (.lst (ss.map V.str))∧(∀ s∈ss,s∈nms es)∧found+(ss.map (FN es)).sum=e.br∧(ss.map (wt es)).sum≤262144,⟨_,e.own,t,ss,rfl,rfl,s1,ht1,(mj W.nd hp).1,?_,?_⟩,?_⟩
 ·rw [vm W.nd hp];exact (W.br e he).symm
 ·have:=sY W he hp
  have h2:=Ql es e.n
  omega
 rintro m σ Hx ⟨found,t,ss,rfl,rfl,sx,tx,hm,hf,hb⟩
 refine ⟨_,rfl,small (by simp),fun z hz=>?_⟩
 have sz:=aD hz (.lst [])
 refine ⟨_,_,.lst (sz _ _ tx) (oV ss),.lst ak .nil,jE (fun s hs=>by obtain ⟨y,hy,rfl⟩:=dJ (hm s hs);exact W.ok y hy),jE (ss:=[]) (fun _ h=>nomatch h),tu ss,_,rfl,?_⟩
 rw [strs_nil]
 cases ss with
 | nil =>
  refine cB ⟨_,rfl,?_⟩
  have:found=e.br:=by simpa using hf
  rw [this]
  exact k _ (sx.trans sz)
 | cons x r =>
  refine dj ?_
  obtain ⟨y,hy,rfl⟩:=dJ (hm x List.mem_cons_self)
  have sxz:=sx.trans sz
  have bz:=bk.same sxz
  have tz:=sz _ _ tx
  rw [List.map_cons,List.sum_cons] at hf hb
  have lr:=Bp (es:=es) (ss:=r) fun s hs=>hm s (List.mem_cons_of_mem _ hs)
  refine ⟨fun σ' H'=>∃ (found:Int) (t:Addr) (ss:List Str),(ss.map (wt es)).sum<wt es y.n+(r.map (wt es)).sum∧σ'=[some (.ref q.B),some (.str e.n),some (.int found),some (.ref t)]∧Same H H'∧H' t=some (.lst (ss.map V.str))∧(∀ s∈ss,s∈nms es)∧found+(ss.map (FN es)).sum=e.br∧(ss.map (wt es)).sum≤262144,fun σ' H' ⟨fo,t',ss',q1,q2⟩=>⟨_,by rw [List.map_cons,List.sum_cons];exact q1,fo,t',ss',rfl,q2⟩,?_⟩
  refine ⟨_,rfl,_,rfl,q.B,_,rfl,bz.go,_,rfl,t,_,_,_,rfl,rfl,bR.of tz,aF (j:=0) rfl,q.o,_,rfl,Bo bz.o W.nd hy,_,_,rfl,rfl,?_⟩
  refine ⟨_,rfl,_,rfl,t,_,rfl,bR.of tz,fun c hc=>?_⟩
  rw [List.map_cons,K3]
  have sc:=aD hc (.lst (r.map V.str))
  have bc:=bz.same sc
  refine ⟨_,rfl,_,rfl,t,_,_,_,rfl,rfl,bR.of (sc _ _ tz),aF (j:=0) rfl,q,es,ks,y.n,rfl,ap,bc,W.nd,by omega,fun u su H2 s2 hu0 hu1 hpu hsu=>?_⟩
  have hum:=sY W hy hpu
  have hus:=vm W.nd hpu
  have Xq:=(mj W.nd hpu).1
  have lu:=Bp Xq
  refine ⟨c,u,_,_,rfl,rfl,s2 _ _ ak,hu1,?_,fun v hv=>?_⟩
  ·rw [List.length_map,List.length_map]
   exact small (by omega)
  have e2:r.map V.str++su.map V.str=(r++su).map V.str:=by rw [List.map_append]
  rw [e2]
  refine ⟨_,v,r++su,?_,rfl,bB ((sxz.trans sc).trans s2) (((sxz.trans sc).trans s2).free hv),ak,fun s hs=>?_,?_,?_⟩
  ·rw [List.map_append,List.sum_append];omega
  ·rcases List.mem_append.mp hs with z | z
   ·exact hm s (List.mem_cons_of_mem _ z)
   ·exact Xq s z
  ·rw [List.map_append,List.sum_append,hus]
   have b1:=JM W.nd hy
   have b2:=W.br y hy
   rw [b1] at hf
   omega
  ·rw [List.map_append,List.sum_append];omega
theorem Ds {lo:List (Key×V)}{e:Str}{l:List Str} (h:Ch lo e l):∃ r,l=e::r:=by cases h <;> exact ⟨_,rfl⟩
theorem Qm:aZ ["_law_book_here", "_law_estate", "_law_found"] ["_law_book_here", "_law_estate"] (aC FZ):=⟨rfl,rfl,rfl,by decide +kernel,rfl,by decide +kernel,by decide +kernel⟩
theorem Dt (l0:List Str) (y:Str):yX ((l0++[y]).map V.str) (-1)=some (V.str y):=by
 rw [List.map_append];exact Hj _ _
set_option maxHeartbeats 4000000 in
theorem TQ (F:fH K "_law_chain" "_law_chain" FZ f fd):aL P w K mg base cu 1 f fd ["_law_book_here", "_law_estate"] Qi:=by
 refine F.ok Qm (fun vs H Q E h=>?_) (fun cdv A outer s H vs Q E hr h=>?_)
 ·obtain ⟨q,es,ks,e,l,rfl,_⟩:=h
  rfl
 obtain ⟨q,es,ks,e,l,rfl,ap,bk,W,he,hc,hl,k⟩:=h
 refine ⟨_,aq (aY (i:=2) Qm.nd rfl (Or.inl rfl) (cI (aj (pv 1) aA)))
  (aq (kJ PassesOwn.never (aM jT (aK aU (pv 2) (xr rC au) (fun _ _=>rfl)) aJ (bA _))
   (aG (bT (ql PySem.F.plainAttrs_list PySem.F.slot_list_append PySem.F.type_list_append fU (pv 2) (aj (aO (u1 hr) (aO (u1 hr) (pv 0) aJ (fun _ _=>rfl)) (aK aU (pv 2) (xr rC au) (fun _ _=>rfl)) (fun _ _=>rfl)) aA)))))
  (aG (aW (pv 2)))),?_⟩
 refine ⟨_,rfl,small (by simp),fun t ht=>?_⟩
 have s1:=aD ht (.lst [V.str e])
 obtain ⟨r0,hr0⟩:=Ds hc
 refine ⟨fun m σ Hx=>∃ (pre:List Str) (cur:Str) (rest:List Str),m=rest.length∧l=pre++cur::rest∧Ch (iy es) cur (cur::rest)∧cur∈nms es∧σ=[some (.ref q.B),some (.str e),some (.ref t)]∧Same H Hx∧Hx t=some (.lst ((pre++[cur]).map V.str)),⟨_,[],e,r0,rfl,hr0,hr0 ▸ hc,he,rfl,s1,ak⟩,?_⟩
 rintro m σ Hx ⟨pre,cur,rest,rfl,hle,hch,hcm,rfl,sx,tx⟩
 have bx:=bk.same sx
 obtain ⟨y,hy,rfl⟩:=dJ hcm
 have hvy:=cg (f:=fun e=>dO e.lord) W.nd hy
 refine ⟨_,rfl,_,rfl,t,_,_,_,rfl,rfl,bR.of tx,Dt pre y.n,rfl,_,rfl,?_⟩
 rw [dB]
 by_cases c:y.n=""
 ·rw [decide_eq_true c]
  refine cB ⟨_,rfl,?_⟩
  have:rest=[]:=by
   generalize hz:y.n::rest=z at hch
   cases hch with
   | crown _=>injection hz
   | up hv _ =>
    rw [hvy,W.crown y hy c] at hv
    cases hv
  rw [this] at hle
  exact k t Hx sx ht (by rw [tx,hle])
 ·rw [decide_eq_false c]
  obtain ⟨p,hp1,hp2,_⟩:=W.lord y hy c
  have g1:=Bo bx.l W.nd hy
  rw [hp1] at g1
  have hrest:∃ r',rest=p::r'∧Ch (iy es) p (p::r'):=by
   generalize hz:y.n::rest=z at hch
   cases hch with
   | crown hv =>
    rw [hvy,hp1] at hv
    cases hv
   | up hv h2 =>
    rw [hvy,hp1] at hv
    injection hv with hv
    injection hv with hv
    injection hz with _ hz
    obtain ⟨r',hr'⟩:=Ds h2
    rw [hz]
    rw [hr'] at h2 ⊢
    rw [hv]
    exact ⟨r',rfl,h2⟩
  obtain ⟨r',rfl,hch2⟩:=hrest
  have hlen:pre.length+(r'.length+2)=l.length:=by rw [hle];simp
  refine dj ⟨fun σ' H'=>∃ (pre:List Str) (cur:Str) (rest:List Str),rest.length<(p::r').length∧l=pre++cur::rest∧Ch (iy es) cur (cur::rest)∧cur∈nms es∧σ'=[some (.ref q.B),some (.str e),some (.ref t)]∧Same H H'∧H' t=some (.lst ((pre++[cur]).map V.str)),fun σ' H' ⟨a,b,c,q1,q2⟩=>⟨_,q1,a,b,c,rfl,q2⟩,?_⟩
  refine ⟨_,rfl,.inl ⟨rfl,_,bR.of tx⟩,_,rfl,q.B,_,rfl,bx.gl,_,rfl,_,rfl,t,_,_,_,rfl,rfl,bR.of tx,Dt pre y.n,q.l,_,rfl,g1,t,_,_,rfl,rfl,tx,?_,?_⟩
  ·rw [List.length_map,List.length_append,List.length_singleton]
   exact bY (by omega)
  ·refine ⟨pre++[y.n],p,r',by rw [List.length_cons];omega,by rw [hle];simp,hch2,hp2,rfl,bB sx ht,?_⟩
   rw [ak,List.map_append (l₂:=[p])];rfl
end
end M
namespace M
open PySem L2 PyProof.Rows
abbrev Gb:Stmt:=top 31
abbrev sNew:Stmt:=top 33
abbrev BQ (q:Ad) (H:Hp) (lo ho ow du:List (Key×V)) (ks:List Str):Prop:=eV H q.B q.l q.h q.o q.d q.kn q.dd q.kvs lo ho ow du ks
section
variable {q:Ad}{H:Hp}{lo ho ow du l':List (Key×V)}{ks:List Str}
theorem eV.ul (ap:Ap q) (b:BQ q H lo ho ow du ks):BQ q (upd H q.l (.dK l')) l' ho ow du ks :=
 ⟨by rw [ao (bV ap 5 6 rfl rfl (by decide))];exact b.b,b.vl,b.vh,b.vo,b.vd,b.vk,b.vx,ak,by rw [ao (bV ap 7 6 rfl rfl (by decide))];exact b.h,by rw [ao (bV ap 8 6 rfl rfl (by decide))];exact b.o,by rw [ao (bV ap 9 6 rfl rfl (by decide))];exact b.d,by rw [ao (bV ap 10 6 rfl rfl (by decide))];exact b.k,by rw [ao (bV ap 11 6 rfl rfl (by decide))];exact b.x,b.len⟩
theorem eV.uh (ap:Ap q) (b:BQ q H lo ho ow du ks):BQ q (upd H q.h (.dK l')) lo l' ow du ks :=
 ⟨by rw [ao (bV ap 5 7 rfl rfl (by decide))];exact b.b,b.vl,b.vh,b.vo,b.vd,b.vk,b.vx,by rw [ao (bV ap 6 7 rfl rfl (by decide))];exact b.l,ak,by rw [ao (bV ap 8 7 rfl rfl (by decide))];exact b.o,by rw [ao (bV ap 9 7 rfl rfl (by decide))];exact b.d,by rw [ao (bV ap 10 7 rfl rfl (by decide))];exact b.k,by rw [ao (bV ap 11 7 rfl rfl (by decide))];exact b.x,b.len⟩
theorem eV.uo (ap:Ap q) (b:BQ q H lo ho ow du ks):BQ q (upd H q.o (.dK l')) lo ho l' du ks :=
 ⟨by rw [ao (bV ap 5 8 rfl rfl (by decide))];exact b.b,b.vl,b.vh,b.vo,b.vd,b.vk,b.vx,by rw [ao (bV ap 6 8 rfl rfl (by decide))];exact b.l,by rw [ao (bV ap 7 8 rfl rfl (by decide))];exact b.h,ak,by rw [ao (bV ap 9 8 rfl rfl (by decide))];exact b.d,by rw [ao (bV ap 10 8 rfl rfl (by decide))];exact b.k,by rw [ao (bV ap 11 8 rfl rfl (by decide))];exact b.x,b.len⟩
theorem eV.ud (ap:Ap q) (b:BQ q H lo ho ow du ks):BQ q (upd H q.d (.dK l')) lo ho ow l' ks :=
 ⟨by rw [ao (bV ap 5 9 rfl rfl (by decide))];exact b.b,b.vl,b.vh,b.vo,b.vd,b.vk,b.vx,by rw [ao (bV ap 6 9 rfl rfl (by decide))];exact b.l,by rw [ao (bV ap 7 9 rfl rfl (by decide))];exact b.h,by rw [ao (bV ap 8 9 rfl rfl (by decide))];exact b.o,ak,by rw [ao (bV ap 10 9 rfl rfl (by decide))];exact b.k,by rw [ao (bV ap 11 9 rfl rfl (by decide))];exact b.x,b.len⟩
theorem eV.uk {ks':List Str} (ap:Ap q) (b:BQ q H lo ho ow du ks):BQ q (upd H q.kn (.lst (ks'.map V.str))) lo ho ow du ks' :=
 ⟨by rw [ao (bV ap 5 10 rfl rfl (by decide))];exact b.b,b.vl,b.vh,b.vo,b.vd,b.vk,b.vx,by rw [ao (bV ap 6 10 rfl rfl (by decide))];exact b.l,by rw [ao (bV ap 7 10 rfl rfl (by decide))];exact b.h,by rw [ao (bV ap 8 10 rfl rfl (by decide))];exact b.o,by rw [ao (bV ap 9 10 rfl rfl (by decide))];exact b.d,ak,by rw [ao (bV ap 11 10 rfl rfl (by decide))];exact b.x,b.len⟩
theorem eV.kl (b:BQ q H lo ho ow du ks):dR H q.B (V.str "lords") (some (.ref q.l)):=fP b.b b.vl
theorem eV.kh (b:BQ q H lo ho ow du ks):dR H q.B (V.str "holders") (some (.ref q.h)):=fP b.b b.vh
theorem eV.ko (b:BQ q H lo ho ow du ks):dR H q.B (V.str "own") (some (.ref q.o)):=fP b.b b.vo
theorem eV.kd (b:BQ q H lo ho ow du ks):dR H q.B (V.str "due") (some (.ref q.d)):=fP b.b b.vd
theorem eV.kk (b:BQ q H lo ho ow du ks):dR H q.B (V.str "known") (some (.ref q.kn)):=fP b.b b.vk
end
def cY (q:Ad) (H H':Hp):Prop:=∀ c u,c≠q.l→c≠q.h→c≠q.o→c≠q.d→c≠q.kn→H c=some u→H' c=some u
theorem cY.trans {q:Ad}{H H1 H2:Hp} (a:cY q H H1) (b:cY q H1 H2):cY q H H2:=fun c u h1 h2 h3 h4 h5 e=>b c u h1 h2 h3 h4 h5 (a c u h1 h2 h3 h4 h5 e)
theorem cY.ul {q:Ad}{H:Hp}{o:HO}:cY q H (upd H q.l o):=fun c u h1 h2 h3 h4 h5 e=>by rw [ao h1];exact e
theorem cY.uh {q:Ad}{H:Hp}{o:HO}:cY q H (upd H q.h o):=fun c u h1 h2 h3 h4 h5 e=>by rw [ao h2];exact e
theorem cY.uo {q:Ad}{H:Hp}{o:HO}:cY q H (upd H q.o o):=fun c u h1 h2 h3 h4 h5 e=>by rw [ao h3];exact e
theorem cY.ud {q:Ad}{H:Hp}{o:HO}:cY q H (upd H q.d o):=fun c u h1 h2 h3 h4 h5 e=>by rw [ao h4];exact e
theorem cY.uk {q:Ad}{H:Hp}{o:HO}:cY q H (upd H q.kn o):=fun c u h1 h2 h3 h4 h5 e=>by rw [ao h5];exact e
theorem cY.same {q:Ad}{H H':Hp} (s:Same H H'):cY q H H':=fun c u _ _ _ _ _ e=>s c u e
theorem cR {q:Ad}{H H':Hp}{lo ho ow du:List (Key×V)}{ks:List Str}{r:Addr}{xs:List V} (b:BQ q H lo ho ow du ks) (o:cY q H H') (h:H r=some (.tup xs)):H' r=some (.tup xs) :=
 o r _ (bh h b.l (by intro z;cases z)) (bh h b.h (by intro z;cases z)) (bh h b.o (by intro z;cases z)) (bh h b.d (by intro z;cases z)) (bh h b.k (by intro z;cases z)) h
def Qn:Sp:=fun vs H Q _=>∃ q lo ho ow du ks r xs e n man lord due,∃ a own:Int,vs=[.ref q.B,.ref r,.str lord,.ref due]∧Ap q∧BQ q H lo ho ow du ks∧H r=some (.tup xs)∧xs[2]?=some (.str e)∧xs[3]?=some (.str n)∧xs[4]?=some (.str man)∧xs[5]?=some (.int a) ∧
 bQ (putK ow (.inr n) (.int a)) (.inr e)=some (.int own)∧lo.length≤800∧ho.length≤800∧ow.length≤800∧du.length≤800∧ks.length≤800 ∧
 ∀ H':Hp,BQ q H' (putK lo (.inr n) (.str lord)) (putK ho (.inr n) (.str man)) (putK (putK ow (.inr n) (.int a)) (.inr e) (.int (own - a))) (putK du (.inr n) (.ref due)) (ks++[n])→cY q H H'→Q .non H'
def Xr:Sp:=fun vs H Q _=>∃ q es ks e0 p,vs=[.ref q.B,.str e0.n]∧Ap q∧Bk q H es ks∧WF es∧e0∈es∧e0.n≠""∧e0.lord=some p∧es.length<64∧∀ H':Hp,Bk q H' (cL e0.n p e0.own es) ks→cY q H H'→Q .non H'
section
variable {P:Program}{w:World}{K:PySem.W.Frag}{mg:Str→Option Value}{base:Heap}{f C:Addr}{fd:FuncData}
theorem Xu:aZ ["_law_book_here", "_law_row_here", "_law_lord", "_law_due"] ["_law_book_here", "_law_row_here", "_law_lord", "_law_due"] (aC sNew):=⟨rfl,rfl,rfl,by decide +kernel,rfl,by decide +kernel,by decide +kernel⟩
set_option maxHeartbeats 8000000 in
theorem TX (F:fH K "_law_new" "_law_new" sNew f fd):aL P w K mg base cu 1 f fd ["_law_book_here", "_law_row_here", "_law_lord", "_law_due"] Qn:=by
 refine F.ok Xu (fun vs H Q E h=>?_) (fun cdv A outer s H vs Q E hr h=>?_)
 ·obtain ⟨q,lo,ho,ow,du,ks,r,xs,e,n,man,lord,due,a,own,rfl,_⟩:=h
  rfl
 obtain ⟨q,lo,ho,ow,du,ks,r,xs,e,n,man,lord,due,a,own,rfl,ap,bk,hx,x2,x3,x4,x5,hown,l1,l2,l3,l4,l5,k⟩:=h
 refine ⟨_,aq (dX (u1 hr) (aO (u1 hr) (pv 0) aJ (fun _ _=>rfl)) (aK aR (pv 1) au (fun _ _=>rfl)) (pv 2) rfl)
  (aq (dX (u1 hr) (aO (u1 hr) (pv 0) aJ (fun _ _=>rfl)) (aK aR (pv 1) au (fun _ _=>rfl)) (aK aR (pv 1) au (fun _ _=>rfl)) rfl)
  (aq (dX (u1 hr) (aO (u1 hr) (pv 0) aJ (fun _ _=>rfl)) (aK aR (pv 1) au (fun _ _=>rfl)) (aK aR (pv 1) au (fun _ _=>rfl)) rfl)
  (aq (dX (u1 hr) (aO (u1 hr) (pv 0) aJ (fun _ _=>rfl)) (aK aR (pv 1) au (fun _ _=>rfl)) (pv 3) rfl)
  (aq (lX (u1 hr) (aO (u1 hr) (pv 0) aJ (fun _ _=>rfl)) (aK aR (pv 1) au (fun _ _=>rfl)) (aK aR (pv 1) au (fun _ _=>rfl)) vJ (fun _ _ _=>rfl))
  (aG (bT (ql PySem.F.plainAttrs_list PySem.F.slot_list_append PySem.F.type_list_append fU (aO (u1 hr) (pv 0) aJ (fun _ _=>rfl)) (aj (aK aR (pv 1) au (fun _ _=>rfl)) aA)))))))),?_⟩
 refine ⟨_,rfl,_,rfl,q.B,_,rfl,bk.kl,_,rfl,r,_,_,_,rfl,rfl,bM.of hx,aF (j:=3) x3,q.l,_,rfl,gZ.k (k:=.inr n) bk.l (bY (by omega)),?_⟩
 have b1:=bk.ul (l':=putK lo (.inr n) (.str lord)) ap
 have o1:cY q H (upd H q.l (.dK (putK lo (.inr n) (.str lord)))):=cY.ul
 have hx1:=cR bk o1 hx
 generalize upd H q.l (.dK (putK lo (.inr n) (.str lord)))=H1 at b1 o1 hx1 ⊢
 refine ⟨_,rfl,r,_,_,_,rfl,rfl,bM.of hx1,aF (j:=4) x4,_,rfl,q.B,_,rfl,b1.kh,_,rfl,r,_,_,_,rfl,rfl,bM.of hx1,aF (j:=3) x3,q.h,_,rfl,gZ.k (k:=.inr n) b1.h (bY (by omega)),?_⟩
 have b2:=b1.uh (l':=putK ho (.inr n) (.str man)) ap
 have o2:=o1.trans (cY.uh (H:=H1) (o:=.dK (putK ho (.inr n) (.str man))))
 have hx2:=cR bk o2 hx
 generalize upd H1 q.h (.dK (putK ho (.inr n) (.str man)))=H2 at b2 o2 hx2 ⊢
 refine ⟨_,rfl,r,_,_,_,rfl,rfl,bM.of hx2,aF (j:=5) x5,_,rfl,q.B,_,rfl,b2.ko,_,rfl,r,_,_,_,rfl,rfl,bM.of hx2,aF (j:=3) x3,q.o,_,rfl,gZ.k (k:=.inr n) b2.o (bY (by omega)),?_⟩
 have b3:=b2.uo (l':=putK ow (.inr n) (.int a)) ap
 have o3:=o2.trans (cY.uo (H:=H2) (o:=.dK (putK ow (.inr n) (.int a))))
 have hx3:=cR bk o3 hx
 generalize upd H2 q.o (.dK (putK ow (.inr n) (.int a)))=H3 at b3 o3 hx3 ⊢
 refine ⟨_,rfl,_,rfl,q.B,_,rfl,b3.kd,_,rfl,r,_,_,_,rfl,rfl,bM.of hx3,aF (j:=3) x3,q.d,_,rfl,gZ.k (k:=.inr n) b3.d (bY (by omega)),?_⟩
 have b4:=b3.ud (l':=putK du (.inr n) (.ref due)) ap
 have o4:=o3.trans (cY.ud (H:=H3) (o:=.dK (putK du (.inr n) (.ref due))))
 have hx4:=cR bk o4 hx
 generalize upd H3 q.d (.dK (putK du (.inr n) (.ref due)))=H4 at b4 o4 hx4 ⊢
 have hl3:=cW ow (.inr n) (.int a)
 refine ⟨_,rfl,q.B,_,rfl,b4.ko,_,rfl,r,_,_,_,rfl,rfl,bM.of hx4,aF (j:=2) x2,q.o,_,rfl,fP b4.o hown,_,rfl,r,_,_,_,rfl,rfl,bM.of hx4,aF (j:=5) x5,_,_,rfl,rfl,_,gZ.k (k:=.inr e) b4.o (bY (by omega)),?_⟩
 have b5:=b4.uo (l':=putK (putK ow (.inr n) (.int a)) (.inr e) (.int (own - a))) ap
 have o5:=o4.trans (cY.uo (H:=H4) (o:=.dK (putK (putK ow (.inr n) (.int a)) (.inr e) (.int (own - a)))))
 have hx5:=cR bk o5 hx
 generalize upd H4 q.o (.dK (putK (putK ow (.inr n) (.int a)) (.inr e) (.int (own - a))))=H5 at b5 o5 hx5 ⊢
 refine ⟨_,rfl,q.B,_,rfl,b5.kk,.inl ⟨rfl,_,bR.of b5.k⟩,_,rfl,r,_,_,_,rfl,rfl,bM.of hx5,aF (j:=3) x3,q.kn,_,_,rfl,rfl,b5.k,(by rw [List.length_map];exact bY (by omega)),?_⟩
 have e1:ks.map V.str++[V.str n]=(ks++[n]).map V.str:=by rw [List.map_append];rfl
 rw [e1]
 exact k _ (b5.uk ap) (o5.trans cY.uk)
theorem K5:aZ ["_law_book_here", "_law_estate", "_law_lord", "_law_one"] ["_law_book_here", "_law_estate"] (aC Gb):=⟨rfl,rfl,rfl,by decide +kernel,rfl,by decide +kernel,by decide +kernel⟩
theorem yO {H:Hp}{a b:Addr}{o:HO} (h:H a=none) (h2:H b=some o):a≠b:=fun q=>by rw [q,h2] at h;cases h
theorem isD {H:Hp}{a:Addr}{kvs:List (Key×V)} (h:H a=some (.dK kvs)):IsD H a:=.inl ⟨kvs,.inl h⟩
set_option maxHeartbeats 8000000 in
theorem Xv (F:fH K "_law_fall" "_law_fall" Gb f fd) {g1:Addr}{d1:FuncData} (G1:aL P w K mg base cu 1 g1 d1 ["_law_book_here", "_law_estate"] Dq) (M1:Ms K mg "_law_under" g1 d1 ["_law_book_here", "_law_estate"]):aL P w K mg base cu 2 f fd ["_law_book_here", "_law_estate"] Xr:=by
 refine F.ok K5 (fun vs H Q E h=>?_) (fun cdv A outer s H vs Q E hr h=>?_)
 ·obtain ⟨q,es,ks,e0,p,rfl,_⟩:=h
  rfl
 obtain ⟨q,es,ks,e0,p,rfl,ap,bk,W,he,hne,hp,hl,k⟩:=h
 refine ⟨_,aq (aY (i:=2) K5.nd rfl (Or.inl rfl) (oG (aO (u1 hr) (pv 0) aJ (fun _ _=>rfl)) (pv 1) ⟨rfl,rfl,rfl,rfl⟩))
  (aq (lX (u1 hr) (aO (u1 hr) (pv 0) aJ (fun _ _=>rfl)) (pv 2) (oG (aO (u1 hr) (pv 0) aJ (fun _ _=>rfl)) (pv 1) ⟨rfl,rfl,rfl,rfl⟩) GZ (fun _ _ _=>rfl))
  (aq (bT (oG (aO (u1 hr) (pv 0) aJ (fun _ _=>rfl)) (pv 1) ⟨rfl,rfl,rfl,rfl⟩))
  (aq (bT (oG (aO (u1 hr) (pv 0) aJ (fun _ _=>rfl)) (pv 1) ⟨rfl,rfl,rfl,rfl⟩))
  (aG (jk PassesOwn.never rfl (fD (bf G1 hr rfl M1.m M1.k M1.b .nil bD (aj (pv 0) (aj (pv 1) aA)))) (bL (i:=3) K5.nd rfl (Or.inl rfl)) (aG (dX (u1 hr) (aO (u1 hr) (pv 0) aJ (fun _ _=>rfl)) (pv 3) (pv 2) rfl))))))),?_⟩
 obtain ⟨p',hp',hpm,hpn⟩:=W.lord e0 he hne
 obtain rfl:p=p':=by rw [hp] at hp';injection hp'
 obtain ⟨y0,hy0,Gq⟩:=dJ hpm
 have v1:=cg (f:=fun e=>dO e.lord) W.nd he
 rw [hp] at v1
 refine ⟨_,rfl,q.B,_,rfl,bk.kl,q.l,rfl,isD bk.l,_,rfl,_,.inr e0.n,_,bk.l,rfl,v1,?_⟩
 rw [jP]
 have b1:=eV.ul (l':=iy (es.filter fun y=>decide (y.n≠e0.n))) ap bk
 have o1:cY q H (upd H q.l (.dK (iy (es.filter fun y=>decide (y.n≠e0.n))))):=cY.ul
 generalize upd H q.l (.dK (iy (es.filter fun y=>decide (y.n≠e0.n))))=H1 at b1 o1 ⊢
 have gp:=Bo b1.o W.nd hy0
 rw [Gq] at gp
 refine ⟨_,rfl,q.B,_,rfl,b1.ko,_,rfl,q.o,_,rfl,gp,_,rfl,q.B,_,rfl,b1.ko,q.o,rfl,isD b1.o,_,rfl,_,.inr e0.n,_,b1.o,rfl,cg W.nd he,?_⟩
 rw [jP]
 have b2:=b1.uo (l':=lZ (es.filter fun y=>decide (y.n≠e0.n))) ap
 have o2:=o1.trans (cY.uo (H:=H1) (o:=.dK (lZ (es.filter fun y=>decide (y.n≠e0.n)))))
 generalize upd H1 q.o (.dK (lZ (es.filter fun y=>decide (y.n≠e0.n))))=H2 at b2 o2 ⊢
 have fl:(es.filter fun y=>decide (y.n≠e0.n)).length≤es.length:=List.length_filter_le _ _
 refine ⟨_,_,rfl,rfl,_,gZ.k (k:=.inr p) b2.o (by rw [gO];exact bY (by omega)),?_⟩
 rw [FT W.nd hy0 Gq hpn]
 have b3:=b2.uo (l':=lZ (cL e0.n p e0.own es)) ap
 have o3:=o2.trans (cY.uo (H:=H2) (o:=.dK (lZ (cL e0.n p e0.own es))))
 generalize upd H2 q.o (.dK (lZ (cL e0.n p e0.own es)))=H3 at b3 o3 ⊢
 refine ⟨_,rfl,q.B,_,rfl,b3.kh,q.h,rfl,isD b3.h,_,rfl,_,.inr e0.n,_,b3.h,rfl,cg W.nd he,?_⟩
 rw [jP]
 have b4:=b3.uh (l':=hoL (es.filter fun y=>decide (y.n≠e0.n))) ap
 have o4:=o3.trans (cY.uh (H:=H3) (o:=.dK (hoL (es.filter fun y=>decide (y.n≠e0.n)))))
 generalize upd H3 q.h (.dK (hoL (es.filter fun y=>decide (y.n≠e0.n))))=H4 at b4 o4 ⊢
 refine ⟨_,rfl,q.B,_,rfl,b4.kd,q.d,rfl,isD b4.d,_,rfl,_,.inr e0.n,_,b4.d,rfl,cg W.nd he,?_⟩
 rw [jP]
 have b5:=b4.ud (l':=qD (es.filter fun y=>decide (y.n≠e0.n))) ap
 have o5:=o4.trans (cY.ud (H:=H4) (o:=.dK (qD (es.filter fun y=>decide (y.n≠e0.n)))))
 generalize upd H4 q.d (.dK (qD (es.filter fun y=>decide (y.n≠e0.n))))=H5 at b5 o5 ⊢
 have nd1:(nms (es.filter fun y=>decide (y.n≠e0.n))).Nodup:=(List.filter_sublist.map _).nodup W.nd
 generalize Xw:(es.filter fun y=>decide (y.n≠e0.n))=es1 at b5 nd1 fl
 let g2:bC→bC:=fun y=>{ y with own:=if y.n=p then y.own+e0.own else y.own }
 have m1:iy (es1.map g2)=iy es1:=iD (g:=g2) fun _=>rfl
 have m2:hoL (es1.map g2)=hoL es1:=iD (g:=g2) fun _=>rfl
 have m3:lZ (es1.map g2)=lZ (cL e0.n p e0.own es):=by
  unfold cL
  rw [Xw]
  show kv _ (es1.map g2)=kv _ (es1.map _)
  rw [iD (g:=g2) (fun _=>rfl),iD (g:=Bf e0.n p e0.own) (fun _=>rfl)]
  rfl
 have m4:qD (es1.map g2)=qD es1:=iD (g:=g2) fun _=>rfl
 have b6:Bk q H5 (es1.map g2) ks:=by
  show BQ q H5 (iy (es1.map g2)) (hoL (es1.map g2)) (lZ (es1.map g2)) (qD (es1.map g2)) ks
  rw [m1,m2,m3,m4]
  exact b5
 have nd2:(nms (es1.map g2)).Nodup:=by
  have:nms (es1.map g2)=nms es1:=by
   show (es1.map g2).map _=_
   rw [List.map_map]
   rfl
  rw [this];exact nd1
 refine ⟨_,rfl,_,rfl,q,es1.map g2,ks,e0.n,rfl,ap,b6,nd2,by rw [List.length_map];omega,fun r ss H6 s6 hr0 hr1 hpp hs=>?_⟩
 have Xx:ss.Perm ((es1.filter fun y=>decide (y.lord=some e0.n)).map (·.n)):=by
  rw [List.filter_map,List.map_map] at hpp
  exact hpp
 have hsl:ss.length≤es1.length:=by
  rw [Xx.length_eq,List.length_map]
  exact List.length_filter_le _ _
 have b7:=b5.same s6
 have o6:=o5.trans (cY.same (q:=q) s6)
 refine ⟨r,rfl,⟨_,bR.of hr1⟩,kW (K:=K) (a:=r) (xs:=ss.map V.str) (fun i σ Hx=>(∃ u3,σ=[some (.ref q.B),some (.str e0.n),some (.str p),u3])∧Hx r=some (.lst (ss.map V.str))∧BQ q Hx (moved (iy es1) (ss.take i) p) (hoL es1) (lZ (cL e0.n p e0.own es)) (qD es1) ks∧cY q H Hx∧r≠q.l)
  ⟨⟨none,rfl⟩,hr1,b7,o6,yO hr0 b5.l⟩ (fun i σ Hx _ h=>bR.of h.2.1) ?_ ?_⟩
 ·rintro i v σ Hx hv ⟨⟨u3,rfl⟩,rx,bx,ox,nr⟩
  rw [List.getElem?_map] at hv
  obtain ⟨n,hn,rfl⟩:=Option.map_eq_some_iff.mp hv
  have hml:=uY (iy es1) p (ss.take i)
  rw [List.length_take,gO] at hml
  refine ⟨_,rfl,_,rfl,q.B,_,rfl,bx.kl,_,rfl,q.l,_,rfl,gZ.k (k:=.inr n) bx.l (bY (by omega)),?_⟩
  have em:moved (iy es1) (ss.take (i+1)) p=putK (moved (iy es1) (ss.take i) p) (.inr n) (.str p):=by rw [List.take_add_one,hn];exact sO _ _ _ _
  refine ⟨⟨_,rfl⟩,by rw [ao nr];exact rx,?_,ox.trans cY.ul,nr⟩
  rw [em]
  exact bx.ul ap
 ·rintro σ Hx ⟨⟨u3,rfl⟩,rx,bx,ox,nr⟩
  rw [List.length_map,List.take_length] at bx
  subst Xw
  rw [FQ (a:=e0.own) W.nd Xx] at bx
  refine k Hx ?_ ox
  have f1:hoL (cL e0.n p e0.own es)=hoL (es.filter fun y=>decide (y.n≠e0.n)):=iD (g:=Bf e0.n p e0.own) fun _=>rfl
  have f2:qD (cL e0.n p e0.own es)=qD (es.filter fun y=>decide (y.n≠e0.n)):=iD (g:=Bf e0.n p e0.own) fun _=>rfl
  show BQ q Hx (iy (cL e0.n p e0.own es)) (hoL (cL e0.n p e0.own es)) (lZ (cL e0.n p e0.own es)) (qD (cL e0.n p e0.own es)) ks
  rw [f1,f2]
  exact bx
end
end M
namespace M
open PySem L2 PyProof.Rows
inductive Rw
 | grant (e n m:Str) (a s:Int)
 | part (e n m:Str) (a:Int)
 | convey (e m:Str)
 | jY (e:Str)
def Rw.vs:Rw→List V
 | .grant e n m a s=>[.str "grant",.int 0,.str e,.str n,.str m,.int a,.int s]
 | .part e n m a=>[.str "part",.int 0,.str e,.str n,.str m,.int a]
 | .convey e m=>[.str "convey",.int 0,.str e,.str m]
 | .jY e=>[.str "surrender",.int 0,.str e]
def Rw.Ok (ls:List Str):Rw→Prop
 | .grant _ n _ a s=>n∈ls∧1≤a∧a≤9999∧0≤s∧s≤9999
 | .part e n _ a=>n∈ls∧1≤a∧a≤9999∧e≠""
 | .convey e _=>e≠""
 | .jY e=>e≠""
def Rw.Mn (ms:List Str):Rw→Prop
 | .grant _ _ m _ _=>m∈ms
 | .part _ _ m _=>m∈ms
 | .convey _ m=>m∈ms
 | .jY _=>True
def nF (es:List bC) (ks:List Str) (y:bC):Rw→Prop
 | .grant e n _ a _=>y∈es∧y.n=e∧n∉ks∧a≤y.own
 | .part e n _ a=>y∈es∧y.n=e∧n∉ks∧a≤y.own
 | .convey e _=>y∈es∧y.n=e
 | .jY e=>y∈es∧y.n=e
def mO (a:Int) (y:bC):bC:={ y with own:=y.own - a }
def mQ (a:Int) (t b:Addr) (y:bC):bC:={ y with own:=y.own - a,br:=y.br - a,due:=nH (y.due.1 * (y.br - a)) (y.due.2 * y.br),ta:=t,tb:=b }
def mU (m:Str) (y:bC):bC:={ y with man:=m }
def tO (e n m:Str) (a s:Int) (t b:Addr):bC:=⟨n,some e,m,a,a,(s,1),t,b⟩
def tQ (y:bC) (n m:Str) (a:Int) (t b:Addr):bC:=⟨n,y.lord,m,a,a,nH (y.due.1 * a) (y.due.2 * y.br),t,b⟩
def stp (y:bC) (es:List bC) (t1 t2 b1 b2:Addr):Rw→List bC
 | .grant _ n m a s=>mod y.n (mO a) es++[tO y.n n m a s t1 b1]
 | .part _ n m a=>mod y.n (mQ a t2 b2) es++[tQ y n m a t1 b1]
 | .convey _ m=>mod y.n (mU m) es
 | .jY _=>cL y.n (y.lord.getD "") y.own es
def stK (ks:List Str):Rw→List Str
 | .grant _ n _ _ _=>ks++[n]
 | .part _ n _ _=>ks++[n]
 | _=>ks
theorem iR {f:bC→V}{es:List bC}{y:bC}{g:bC→bC} (hg:∀ e,(g e).n=e.n) (nd:(nms es).Nodup) (hy:y∈es):kv f (mod y.n g es)=putK (kv f es) (.inr y.n) (f (g y)):=by
 rw [JH hg,sV (List.mem_map.mpr ⟨y,hy,rfl⟩)]
 refine fB fun e he=>?_
 split
 ·rename_i c
  rw [ji nd he hy c]
 ·rfl
theorem cM {f:bC→V}{es:List bC}{n:Str}{g:bC→bC}{x:bC} (hg:∀ e,(g e).n=e.n) (h:x.n∉nms es):kv f (mod n g es++[x])=putK (kv f (mod n g es)) (.inr x.n) (f x):=by
 rw [Ti,wH (by rw [qW hg];exact h)]
theorem tD {f:bC→V}{es:List bC}{e n:Str}{u v:V} (he:e∈nms es) (hn:n∉nms es):putK (putK (kv f es) (.inr n) v) (.inr e) u=putK (putK (kv f es) (.inr e) u) (.inr n) v:=by
 have ne:n≠e:=fun z=>hn (z ▸ he)
 rw [wH hn,sV he,wH hn]
 unfold putK
 have ha:((kv f es++[(Sum.inr n,v)]).any fun x=>decide (x.1=Sum.inr e))=true:=by
  rw [List.any_append,JD,decide_eq_true he];rfl
 rw [if_pos ha,List.map_append,List.map_map]
 congr 1
 ·refine List.map_congr_left fun y _=>?_
  show (if (Sum.inr y.n:Key)=.inr e then (Sum.inr y.n,u) else (Sum.inr y.n,f y))=(Sum.inr y.n,if y.n=e then u else f y)
  by_cases q:y.n=e
  ·rw [if_pos (key_eq.mpr q),if_pos q]
  ·rw [if_neg (fun z=>q (key_eq.mp z)),if_neg q]
 ·show [if (Sum.inr n:Key)=.inr e then (Sum.inr n,u) else (Sum.inr n,v)]=_
  rw [if_neg fun z=>ne (key_eq.mp z)]
structure Rel (C:Addr) (q:Ad) (H:Hp) (es:List bC) (ks:List Str) (ls:List Str) (j:Nat):Prop where
 ap:Ap q
 L:Ln C q H es
 B:Bk q H es ks
 W:WF es
 fr:∀ e∈es,wC H e.ta e.due.1 e.due.2∧wC H e.tb e.due.1 e.due.2∧Bd (10+5 * j) e.due
 kn:∀ e∈es,e.n≠""→e.n∈ks
 ln:es.length≤1+j
 lk:ks.length≤j
 nl:∀ e∈es,e.n=""∨e.n∈ls
 tot:(es.map (·.own)).sum=q.wd
 mn:∀ e∈es,e.man=""∨e.man∈q.ms
theorem Rel.same {C:Addr}{q:Ad}{H H':Hp}{es:List bC}{ks ls:List Str}{j:Nat} (r:Rel C q H es ks ls j) (s:Same H H'):Rel C q H' es ks ls j :=
 ⟨r.ap,r.L.same s,r.B.same s,r.W,fun e he=>⟨s _ _ (r.fr e he).1,s _ _ (r.fr e he).2.1,(r.fr e he).2.2⟩,r.kn,r.ln,r.lk,r.nl,r.tot,r.mn⟩
theorem Rel.up {C:Addr}{q:Ad}{H:Hp}{es:List bC}{ks ls:List Str}{j k:Nat} (r:Rel C q H es ks ls j) (h:j≤k):Rel C q H es ks ls k :=
 ⟨r.ap,r.L,r.B,r.W,fun e he=>⟨(r.fr e he).1,(r.fr e he).2.1,(r.fr e he).2.2.mono (by omega)⟩,r.kn,by have:=r.ln;omega,by have:=r.lk;omega,r.nl,r.tot,r.mn⟩
theorem Rel.ten {C:Addr}{q:Ad}{H:Hp}{es:List bC}{ks ls:List Str}{j:Nat} (r:Rel C q H es ks ls j) (h:ls.length=9):es.length≤10:=by
 have:=sub_len (l:=nms es) (m:=("" : Str)::ls) r.W.nd fun x hx=>by
  obtain ⟨y,hy,rfl⟩:=dJ hx
  rcases r.nl y hy with z | z
  ·rw [z];exact List.mem_cons_self
  ·exact List.mem_cons_of_mem _ z
 rw [List.length_map,List.length_cons] at this
 omega
theorem Rel.new {C:Addr}{q:Ad}{H:Hp}{es:List bC}{ks ls:List Str}{j:Nat} (r:Rel C q H es ks ls j) {n:Str} (h:n∉ks) (h0:n≠""):n∉nms es:=fun c=>by
 obtain ⟨y,hy,rfl⟩:=dJ c
 exact h (r.kn y hy h0)
theorem TY {C:Addr}{q:Ad}{H:Hp}{es:List bC}{ks ls:List Str}{j:Nat}{cD:Rw}{y:bC}{t1 t2 b1 b2:Addr} (r:Rel C q H es ks ls j) (hok:cD.Ok ls):∀ e∈stp y es t1 t2 b1 b2 cD,e.n=""∨e.n∈ls:=by
 intro z hz
 cases cD with
 | grant e n m a s =>
  rcases List.mem_append.mp hz with c | c
  ·obtain ⟨z0,h0,rfl⟩:=dg c
   have e1:(if z0.n=y.n then mO a z0 else z0).n=z0.n:=by split <;> rfl
   rw [e1];exact r.nl z0 h0
  ·rw [List.mem_singleton.mp c];exact .inr hok.1
 | part e n m a =>
  rcases List.mem_append.mp hz with c | c
  ·obtain ⟨z0,h0,rfl⟩:=dg c
   have e1:(if z0.n=y.n then mQ a t2 b2 z0 else z0).n=z0.n:=by split <;> rfl
   rw [e1];exact r.nl z0 h0
  ·rw [List.mem_singleton.mp c];exact .inr hok.1
 | convey e m =>
  obtain ⟨z0,h0,rfl⟩:=dg hz
  have e1:(if z0.n=y.n then mU m z0 else z0).n=z0.n:=by split <;> rfl
  rw [e1];exact r.nl z0 h0
 | jY e =>
  obtain ⟨z0,h0,rfl⟩:=List.mem_map.mp hz
  exact r.nl z0 (List.mem_filter.mp h0).1
theorem U0 {C:Addr}{q:Ad}{H:Hp}{es:List bC}{ks ls:List Str}{j:Nat}{cD:Rw}{y:bC}{t1 t2 b1 b2:Addr} (r:Rel C q H es ks ls j) (hmn:cD.Mn q.ms):∀ e∈stp y es t1 t2 b1 b2 cD,e.man=""∨e.man∈q.ms:=by
 intro z hz
 cases cD with
 | grant e n m a s =>
  rcases List.mem_append.mp hz with c | c
  ·obtain ⟨z0,h0,rfl⟩:=dg c
   have e1:(if z0.n=y.n then mO a z0 else z0).man=z0.man:=by split <;> rfl
   rw [e1];exact r.mn z0 h0
  ·rw [List.mem_singleton.mp c];exact .inr hmn
 | part e n m a =>
  rcases List.mem_append.mp hz with c | c
  ·obtain ⟨z0,h0,rfl⟩:=dg c
   have e1:(if z0.n=y.n then mQ a t2 b2 z0 else z0).man=z0.man:=by split <;> rfl
   rw [e1];exact r.mn z0 h0
  ·rw [List.mem_singleton.mp c];exact .inr hmn
 | convey e m =>
  obtain ⟨z0,h0,rfl⟩:=dg hz
  split
  ·exact .inr hmn
  ·exact r.mn z0 h0
 | jY e =>
  obtain ⟨z0,h0,rfl⟩:=List.mem_map.mp hz
  exact r.mn z0 (List.mem_filter.mp h0).1
theorem wI {es:List bC}{y:bC}{g:bC→bC} (nd:(nms es).Nodup) (hy:y∈es):((mod y.n g es).map (·.own)).sum=(es.map (·.own)).sum - y.own+(g y).own:=by
 unfold mod
 rw [List.map_map,qU (F:=(·.own)) (e0:=y) nd hy fun z _ ne=>?_]
 ·show _ - y.own+(if y.n=y.n then g y else y).own=_
  rw [if_pos rfl]
 ·show (if z.n=y.n then g z else z).own=z.own
  rw [if_neg ne]
theorem Nt {es:List bC}{ks ls:List Str}{cD:Rw}{y:bC}{t1 t2 b1 b2:Addr} (W:WF es) (hst:nF es ks y cD) (hok:cD.Ok ls):((stp y es t1 t2 b1 b2 cD).map (·.own)).sum=(es.map (·.own)).sum:=by
 cases cD with
 | grant e n m a s =>
  obtain ⟨hy,rfl,_⟩:=hst
  show ((mod y.n (mO a) es++[tO y.n n m a s t1 b1]).map (·.own)).sum=_
  rw [List.map_append,List.sum_append,wI W.nd hy]
  show _ - y.own+(y.own - a)+(a+0)=_
  omega
 | part e n m a =>
  obtain ⟨hy,rfl,_⟩:=hst
  show ((mod y.n (mQ a t2 b2) es++[tQ y n m a t1 b1]).map (·.own)).sum=_
  rw [List.map_append,List.sum_append,wI W.nd hy]
  show _ - y.own+(y.own - a)+(a+0)=_
  omega
 | convey e m =>
  obtain ⟨hy,rfl⟩:=hst
  show ((mod y.n (mU m) es).map (·.own)).sum=_
  rw [wI W.nd hy]
  show _ - y.own+y.own=_
  omega
 | jY e =>
  obtain ⟨hy,rfl⟩:=hst
  obtain ⟨p,hp,hpm,hpn⟩:=W.lord y hy hok
  obtain ⟨z,hz,Qk⟩:=dJ hpm
  have ep:y.lord.getD ""=p:=by rw [hp];rfl
  show ((cL y.n (y.lord.getD "") y.own es).map (·.own)).sum=_
  rw [ep]
  unfold cL
  rw [List.map_map,sW (F:=(·.own)∘Bf y.n p y.own) W.nd hy]
  have e1:(es.map ((·.own)∘Bf y.n p y.own)).sum=(es.map (·.own)).sum - z.own+(z.own+y.own):=by
   rw [qU (F:=(·.own)) (e0:=z) W.nd hz fun u _ ne=>?_]
   ·show _ - z.own+(if z.n=p then z.own+y.own else z.own)=_
    rw [if_pos Qk]
   ·show (if u.n=p then u.own+y.own else u.own)=u.own
    rw [if_neg (by rw [← Qk];exact ne)]
  rw [e1]
  show _ - (if y.n=p then y.own+y.own else y.own)=_
  rw [if_neg (Ne.symm hpn)]
  omega
theorem U3 {C:Addr}{q:Ad}{H:Hp}{es:List bC}{ks ls:List Str}{j:Nat}{cD:Rw}{y:bC}{t1 t2 b1 b2:Addr} (r:Rel C q H es ks ls j) (hst:nF es ks y cD) (hok:cD.Ok ls) (hls:∀ n∈ls,n≠""∧PyData.strOk n=true) :
  WF (stp y es t1 t2 b1 b2 cD)∧(∀ e∈stp y es t1 t2 b1 b2 cD,e.n≠""→e.n∈stK ks cD)∧(stp y es t1 t2 b1 b2 cD).length≤1+(j+1)∧(stK ks cD).length≤j+1:=by
 have lk:=r.lk
 have ln:=r.ln
 have ml:∀ (n:Str) (g:bC→bC),(mod n g es).length=es.length:=fun n g=>List.length_map _
 cases cD with
 | grant e n m a s =>
  obtain ⟨hy,rfl,hn,ha⟩:=hst
  obtain ⟨h1,h2,h3,h4,h5⟩:=hok
  have hx:=r.new hn (hls n h1).1
  refine ⟨WF.new r.W hy (x:=tO y.n n m a s t1 b1) (fun _=>rfl) (fun _=>rfl) rfl (by omega) ha hx (hls n h1).2 rfl rfl (.inl ⟨rfl,rfl⟩),fun z hz hne=>?_,?_,?_⟩
  ·rcases List.mem_append.mp hz with c | c
   ·obtain ⟨z0,h0,rfl⟩:=dg c
    refine List.mem_append_left _ ?_
    have e1:(if z0.n=y.n then mO a z0 else z0).n=z0.n:=by split <;> rfl
    rw [e1] at hne ⊢
    exact r.kn z0 h0 hne
   ·rw [List.mem_singleton.mp c]
    exact List.mem_append_right _ (List.mem_singleton.mpr rfl)
  ·show (mod y.n (mO a) es++[tO y.n n m a s t1 b1]).length≤_
   rw [List.length_append,ml,List.length_singleton];omega
  ·show (ks++[n]).length≤_
   rw [List.length_append,List.length_singleton];omega
 | part e n m a =>
  obtain ⟨hy,rfl,hn,ha⟩:=hst
  obtain ⟨h1,h2,h3,h4⟩:=hok
  have hx:=r.new hn (hls n h1).1
  refine ⟨WF.new r.W hy (x:=tQ y n m a t1 b1) (fun _=>rfl) (fun _=>rfl) rfl (by omega) ha hx (hls n h1).2 rfl rfl (.inr ⟨rfl,h4,rfl⟩),fun z hz hne=>?_,?_,?_⟩
  ·rcases List.mem_append.mp hz with c | c
   ·obtain ⟨z0,h0,rfl⟩:=dg c
    refine List.mem_append_left _ ?_
    have e1:(if z0.n=y.n then mQ a t2 b2 z0 else z0).n=z0.n:=by split <;> rfl
    rw [e1] at hne ⊢
    exact r.kn z0 h0 hne
   ·rw [List.mem_singleton.mp c]
    exact List.mem_append_right _ (List.mem_singleton.mpr rfl)
  ·show (mod y.n (mQ a t2 b2) es++[tQ y n m a t1 b1]).length≤_
   rw [List.length_append,ml,List.length_singleton];omega
  ·show (ks++[n]).length≤_
   rw [List.length_append,List.length_singleton];omega
 | convey e m =>
  refine ⟨WF.mod r.W (fun _=>rfl) (fun _=>rfl) (fun _=>rfl) fun _=>rfl,fun z hz hne=>?_,?_,?_⟩
  ·obtain ⟨z0,h0,rfl⟩:=dg hz
   have e1:(if z0.n=y.n then mU m z0 else z0).n=z0.n:=by split <;> rfl
   rw [e1] at hne ⊢
   exact r.kn z0 h0 hne
  ·show (mod y.n (mU m) es).length≤_
   rw [ml];omega
  ·show ks.length≤_
   omega
 | jY e =>
  obtain ⟨hy,rfl⟩:=hst
  obtain ⟨p,hp,_,_⟩:=r.W.lord y hy hok
  have ep:y.lord.getD ""=p:=by rw [hp];rfl
  refine ⟨?_,fun z hz hne=>?_,?_,?_⟩
  ·show WF (cL y.n (y.lord.getD "") y.own es)
   rw [ep]
   exact WF.fall r.W hy hok hp
  ·obtain ⟨z0,h0,rfl⟩:=List.mem_map.mp hz
   exact r.kn z0 (List.mem_filter.mp h0).1 hne
  ·show (cL y.n (y.lord.getD "") y.own es).length≤_
   unfold cL
   rw [List.length_map]
   have:=List.length_filter_le (fun x=>decide (x.n≠y.n)) es
   omega
  ·show ks.length≤_
   omega
end M
namespace M
open PySem L2 PyProof.Rows
abbrev Gd:Stmt:=top 30
abbrev Ge:Stmt:=top 44
theorem mD (h:Str) (l:List Str):inV (V.str h) (l.map V.str)=decide (h∈l):=by
 unfold inV
 induction l with
 | nil=>rfl
 | cons x r ih =>
  rw [List.map_cons,List.any_cons,ih]
  show ((x==h)||decide (h∈r))=_
  rw [Bool.eq_iff_iff,Bool.or_eq_true,decide_eq_true_iff,decide_eq_true_iff,List.mem_cons,beq_iff_eq]
  constructor
  ·rintro (e | e)
   ·exact .inl e.symm
   ·exact .inr e
  ·rintro (e | e)
   ·exact .inl e.symm
   ·exact .inr e
theorem gP (l:List Str):(l.map V.str).all nU=true:=by
 rw [List.all_map];exact List.all_eq_true.mpr fun x _=>rfl
theorem dY {k:Str}{ls:List Str}{b:Bool}{A B:Prop} (h:decide (k∈ls)=b) (g:if b=true then A else B):if (if (false:Bool)=true then !inV (V.str k) (ls.map V.str) else inV (V.str k) (ls.map V.str))=true then A else B:=by
 rw [if_neg Bool.false_ne_true,mD,h];exact g
theorem jw {k l:Str}{b:Bool}{A B:Prop} (h:decide (k=l)=b) (g:if b=true then A else B):if decide (V.str k=V.str l)=true then A else B:=by
 rw [dB,h];exact g
theorem wJ {k l:Str}{b:Bool}{A B:Prop} (h:decide (k=l)=b) (g:if (!b)=true then A else B):if (!decide (V.str k=V.str l))=true then A else B:=by
 rw [dB,h];exact g
theorem mG {h:Str}{l:List Str}{A B:Prop} (h1:h∈l→A) (h2:h∉l→B):if (if (false:Bool)=true then !inV (V.str h) (l.map V.str) else inV (V.str h) (l.map V.str))=true then A else B:=by
 rw [if_neg Bool.false_ne_true,mD]
 exact eZ (fun c=>h1 (of_decide_eq_true c)) fun c=>h2 fun z=>c (decide_eq_true z)
def Nu:TT:=fun _ _ _=>False
theorem Gf {X:Cx}{e:Expr}:PT X e Nu:=fun _ _ _ _ _ _ h=>h.elim
def Qo:Sp:=fun vs H Q _=>∃ q es ks r cD,vs=[.ref q.B,.ref r]∧Ap q∧Bk q H es ks∧(nms es).Nodup∧H r=some (.tup (Rw.vs cD))∧∀ (z:Str) (H':Hp),Same H H'→(z="stands"→∃ y,nF es ks y cD)→Q (.str z) H'
def Qp:Sp:=fun vs H Q _=>∃ q es ks r cD,vs=[.ref q.B,.ref r]∧Ap q∧Bk q H es ks∧(nms es).Nodup∧H r=some (.tup (Rw.vs cD))∧∀ (b:Bool) (H':Hp),Same H H'→(b=true→∃ y,nF es ks y cD)→Q (.bl b) H'
section
variable {P:Program}{w:World}{K:PySem.W.Frag}{mg:Str→Option Value}{base:Heap}{f C:Addr}{fd:FuncData}
theorem yP:aZ ["_law_book_here", "_law_row_here", "_law_kind", "_law_man"] ["_law_book_here", "_law_row_here"] (aC Gd):=⟨rfl,rfl,rfl,by decide +kernel,rfl,by decide +kernel,by decide +kernel⟩
set_option maxHeartbeats 8000000 in
theorem U4 (F:fH K "_law_why" "_law_why" Gd f fd):aL P w K mg base cu 1 f fd ["_law_book_here", "_law_row_here"] Qo:=by
 refine F.ok yP (fun vs H Q E h=>?_) (fun cdv A outer s H vs Q E hr h=>?_)
 ·obtain ⟨q,es,ks,r,cD,rfl,_⟩:=h
  rfl
 obtain ⟨q,es,ks,r,cD,rfl,ap,b0,nd,hx,k⟩:=h
 refine ⟨_,(aq (aY (i:=2) yP.nd rfl (Or.inl rfl) (aK aR (pv 1) au (fun _ _=>rfl)))
  (aq (bJ (PW.pt (mW (aM eF (pv 2) (cG (aj aJ (aj aJ (aj aJ (aj aJ aA))))) (by with_unfolding_all rfl)) (jG (Gx (Eu (u1 hr) (aK aR (pv 1) au (fun _ _=>rfl)) (aO (u1 hr) (pv 0) aJ (fun _ _=>rfl))) (by with_unfolding_all rfl))))) (aG (aW aJ)) aQ)
  (aq (bJ (PW.pt (mW (aM eF (pv 2) (cG (aj aJ (aj aJ aA))) (by with_unfolding_all rfl)) (jG (aM eF (aK aR (pv 1) au (fun _ _=>rfl)) (aO (u1 hr) (pv 0) aJ (fun _ _=>rfl)) (by with_unfolding_all rfl))))) (aG (aW aJ)) aQ)
  (aq (aY (i:=3) yP.nd rfl (Or.inl rfl) (aK aR (pv 1) au (fun _ _=>rfl)))
  (aq (bJ (aM eF (pv 2) (cG (aj aJ (aj aJ aA))) (by with_unfolding_all rfl)) (aG (aY (i:=3) yP.nd rfl (Or.inl rfl) (aK aR (pv 1) au (fun _ _=>rfl)))) aQ)
  (aq (bJ (aM cH (pv 2) aJ (bA _)) (aG (aY (i:=3) yP.nd rfl (Or.inl rfl) (aK aR (pv 1) au (fun _ _=>rfl)))) aQ)
  (aq (bJ (PW.pt (mW (aM jT (pv 2) aJ (bA _)) (jG (aM eF (pv 3) (aO (u1 hr) (pv 0) aJ (fun _ _=>rfl)) (by with_unfolding_all rfl))))) (aG (aW aJ)) aQ)
  (aq (bJ (PW.pt (mW (aM eF (pv 2) (cG (aj aJ (aj aJ aA))) (by with_unfolding_all rfl)) (jG (aM GR (aK aR (pv 1) au (fun _ _=>rfl)) (aO (u1 hr) (aO (u1 hr) (pv 0) aJ (fun _ _=>rfl)) (aK aR (pv 1) au (fun _ _=>rfl)) (fun _ _=>rfl)) (bA _))))) (aG (aW aJ)) aQ)
  (aq (bJ (PW.pt (mW (aM cH (pv 2) aJ (bA _)) (jG Gf))) bN aQ)
  (aG (aW aJ))))))))))),?_⟩
 cases cD with
 | grant e n m a s =>
  refine ⟨_,rfl,r,_,_,_,rfl,rfl,bM.of hx,aF (j:=0) rfl,?_⟩
  refine ⟨_,rfl,small (by simp),fun t1 ht1=>⟨t1,_,rfl,.inr (bM.of ak),rfl,rfl,_,rfl,dY (k:="grant") (ls:=["grant", "part", "convey", "surrender"]) (b:=true) (by decide +kernel) ?_⟩⟩
  have n1:=aD ht1 (.tup [.str "grant",.str "part",.str "convey",.str "surrender"])
  have s1:=(Same.refl H).trans n1
  have b1:=b0.same n1
  have x1:=n1 _ _ hx
  generalize upd H t1 (.tup [.str "grant",.str "part",.str "convey",.str "surrender"])=H1 at n1 s1 b1 x1 ⊢
  refine dj ?_
  refine ⟨_,rfl,r,_,_,_,rfl,rfl,bM.of x1,aF (j:=2) rfl,_,rfl,q.B,_,rfl,b1.gl,q.l,_,rfl,dR.k (k:=.inr e) b1.l,_,rfl,?_⟩
  rw [gA]
  by_cases he:e∈nms es
  rotate_left
  ·rw [decide_eq_false he]
   refine dj ?_
   exact k _ _ s1 fun z=>absurd z (by decide +kernel)
  rw [decide_eq_true he]
  refine cB ?_
  obtain ⟨y,hy,rfl⟩:=dJ he
  refine ⟨_,rfl,small (by simp),fun t2 Du=>⟨t2,_,rfl,.inr (bM.of ak),rfl,rfl,_,rfl,dY (k:="grant") (ls:=["grant", "part"]) (b:=true) (by decide +kernel) ?_⟩⟩
  have n2:=aD Du (.tup [.str "grant",.str "part"])
  have s2:=s1.trans n2
  have b2:=b1.same n2
  have x2:=n2 _ _ x1
  generalize upd H1 t2 (.tup [.str "grant",.str "part"])=H2 at n2 s2 b2 x2 ⊢
  refine dj ?_
  refine ⟨_,rfl,r,_,_,_,rfl,rfl,bM.of x2,aF (j:=3) rfl,_,rfl,q.B,_,rfl,b2.gk,q.kn,_,rfl,.inl (bR.of b2.k),rfl,gP _,_,rfl,mG (fun _=>?_) (fun hn=>?_)⟩
  ·exact k _ _ s2 fun z=>absurd z (by decide +kernel)
  refine ⟨_,rfl,r,_,_,_,rfl,rfl,bM.of x2,aF (j:=2) rfl,?_⟩
  refine ⟨_,rfl,small (by simp),fun t3 K6=>⟨t3,_,rfl,.inr (bM.of ak),rfl,rfl,_,rfl,dY (k:="grant") (ls:=["grant", "part"]) (b:=true) (by decide +kernel) ?_⟩⟩
  have n3:=aD K6 (.tup [.str "grant",.str "part"])
  have s3:=s2.trans n3
  have b3:=b2.same n3
  have x3:=n3 _ _ x2
  generalize upd H2 t3 (.tup [.str "grant",.str "part"])=H3 at n3 s3 b3 x3 ⊢
  refine dj ?_
  refine ⟨_,rfl,r,_,_,_,rfl,rfl,bM.of x3,aF (j:=4) rfl,?_⟩
  refine ⟨_,rfl,rfl,_,rfl,jw (b:=false) (by decide +kernel) ?_⟩
  refine cB ?_
  refine ⟨_,rfl,rfl,_,rfl,wJ (b:=false) (by decide +kernel) ?_⟩
  refine dj ⟨_,rfl,_,rfl,q.B,_,rfl,b3.gx,q.dd,_,rfl,.inl (bR.of b3.x),rfl,rfl,_,rfl,mG (l:=[]) (fun z=>absurd z (by simp)) (fun _=>?_)⟩
  refine ⟨_,rfl,small (by simp),fun t4 Nv=>⟨t4,_,rfl,.inr (bM.of ak),rfl,rfl,_,rfl,dY (k:="grant") (ls:=["grant", "part"]) (b:=true) (by decide +kernel) ?_⟩⟩
  have n4:=aD Nv (.tup [.str "grant",.str "part"])
  have s4:=s3.trans n4
  have b4:=b3.same n4
  have x4:=n4 _ _ x3
  generalize upd H3 t4 (.tup [.str "grant",.str "part"])=H4 at n4 s4 b4 x4 ⊢
  refine dj ?_
  refine ⟨_,rfl,r,_,_,_,rfl,rfl,bM.of x4,aF (j:=5) rfl,_,rfl,q.B,_,rfl,b4.go,_,rfl,r,_,_,_,rfl,rfl,bM.of x4,aF (j:=2) rfl,q.o,_,rfl,Bo b4.o nd hy,_,_,rfl,rfl,_,rfl,?_⟩
  refine eZ (fun _=>?_) (fun hle=>?_)
  ·exact k _ _ s4 fun z=>absurd z (by decide +kernel)
  refine ⟨_,rfl,rfl,_,rfl,jw (b:=false) (by decide +kernel) (cB (cB ?_))⟩
  exact k _ _ s4 fun _=>⟨y,hy,rfl,hn,by have h:=hle;simp only [decide_eq_true_eq] at h;omega⟩
 | part e n m a =>
  refine ⟨_,rfl,r,_,_,_,rfl,rfl,bM.of hx,aF (j:=0) rfl,?_⟩
  refine ⟨_,rfl,small (by simp),fun t1 ht1=>⟨t1,_,rfl,.inr (bM.of ak),rfl,rfl,_,rfl,dY (k:="part") (ls:=["grant", "part", "convey", "surrender"]) (b:=true) (by decide +kernel) ?_⟩⟩
  have n1:=aD ht1 (.tup [.str "grant",.str "part",.str "convey",.str "surrender"])
  have s1:=(Same.refl H).trans n1
  have b1:=b0.same n1
  have x1:=n1 _ _ hx
  generalize upd H t1 (.tup [.str "grant",.str "part",.str "convey",.str "surrender"])=H1 at n1 s1 b1 x1 ⊢
  refine dj ?_
  refine ⟨_,rfl,r,_,_,_,rfl,rfl,bM.of x1,aF (j:=2) rfl,_,rfl,q.B,_,rfl,b1.gl,q.l,_,rfl,dR.k (k:=.inr e) b1.l,_,rfl,?_⟩
  rw [gA]
  by_cases he:e∈nms es
  rotate_left
  ·rw [decide_eq_false he]
   refine dj ?_
   exact k _ _ s1 fun z=>absurd z (by decide +kernel)
  rw [decide_eq_true he]
  refine cB ?_
  obtain ⟨y,hy,rfl⟩:=dJ he
  refine ⟨_,rfl,small (by simp),fun t2 Du=>⟨t2,_,rfl,.inr (bM.of ak),rfl,rfl,_,rfl,dY (k:="part") (ls:=["grant", "part"]) (b:=true) (by decide +kernel) ?_⟩⟩
  have n2:=aD Du (.tup [.str "grant",.str "part"])
  have s2:=s1.trans n2
  have b2:=b1.same n2
  have x2:=n2 _ _ x1
  generalize upd H1 t2 (.tup [.str "grant",.str "part"])=H2 at n2 s2 b2 x2 ⊢
  refine dj ?_
  refine ⟨_,rfl,r,_,_,_,rfl,rfl,bM.of x2,aF (j:=3) rfl,_,rfl,q.B,_,rfl,b2.gk,q.kn,_,rfl,.inl (bR.of b2.k),rfl,gP _,_,rfl,mG (fun _=>?_) (fun hn=>?_)⟩
  ·exact k _ _ s2 fun z=>absurd z (by decide +kernel)
  refine ⟨_,rfl,r,_,_,_,rfl,rfl,bM.of x2,aF (j:=2) rfl,?_⟩
  refine ⟨_,rfl,small (by simp),fun t3 K6=>⟨t3,_,rfl,.inr (bM.of ak),rfl,rfl,_,rfl,dY (k:="part") (ls:=["grant", "part"]) (b:=true) (by decide +kernel) ?_⟩⟩
  have n3:=aD K6 (.tup [.str "grant",.str "part"])
  have s3:=s2.trans n3
  have b3:=b2.same n3
  have x3:=n3 _ _ x2
  generalize upd H2 t3 (.tup [.str "grant",.str "part"])=H3 at n3 s3 b3 x3 ⊢
  refine dj ?_
  refine ⟨_,rfl,r,_,_,_,rfl,rfl,bM.of x3,aF (j:=4) rfl,?_⟩
  refine ⟨_,rfl,rfl,_,rfl,jw (b:=false) (by decide +kernel) ?_⟩
  refine cB ?_
  refine ⟨_,rfl,rfl,_,rfl,wJ (b:=false) (by decide +kernel) ?_⟩
  refine dj ⟨_,rfl,_,rfl,q.B,_,rfl,b3.gx,q.dd,_,rfl,.inl (bR.of b3.x),rfl,rfl,_,rfl,mG (l:=[]) (fun z=>absurd z (by simp)) (fun _=>?_)⟩
  refine ⟨_,rfl,small (by simp),fun t4 Nv=>⟨t4,_,rfl,.inr (bM.of ak),rfl,rfl,_,rfl,dY (k:="part") (ls:=["grant", "part"]) (b:=true) (by decide +kernel) ?_⟩⟩
  have n4:=aD Nv (.tup [.str "grant",.str "part"])
  have s4:=s3.trans n4
  have b4:=b3.same n4
  have x4:=n4 _ _ x3
  generalize upd H3 t4 (.tup [.str "grant",.str "part"])=H4 at n4 s4 b4 x4 ⊢
  refine dj ?_
  refine ⟨_,rfl,r,_,_,_,rfl,rfl,bM.of x4,aF (j:=5) rfl,_,rfl,q.B,_,rfl,b4.go,_,rfl,r,_,_,_,rfl,rfl,bM.of x4,aF (j:=2) rfl,q.o,_,rfl,Bo b4.o nd hy,_,_,rfl,rfl,_,rfl,?_⟩
  refine eZ (fun _=>?_) (fun hle=>?_)
  ·exact k _ _ s4 fun z=>absurd z (by decide +kernel)
  refine ⟨_,rfl,rfl,_,rfl,jw (b:=false) (by decide +kernel) (cB (cB ?_))⟩
  exact k _ _ s4 fun _=>⟨y,hy,rfl,hn,by have h:=hle;simp only [decide_eq_true_eq] at h;omega⟩
 | convey e m =>
  refine ⟨_,rfl,r,_,_,_,rfl,rfl,bM.of hx,aF (j:=0) rfl,?_⟩
  refine ⟨_,rfl,small (by simp),fun t1 ht1=>⟨t1,_,rfl,.inr (bM.of ak),rfl,rfl,_,rfl,dY (k:="convey") (ls:=["grant", "part", "convey", "surrender"]) (b:=true) (by decide +kernel) ?_⟩⟩
  have n1:=aD ht1 (.tup [.str "grant",.str "part",.str "convey",.str "surrender"])
  have s1:=(Same.refl H).trans n1
  have b1:=b0.same n1
  have x1:=n1 _ _ hx
  generalize upd H t1 (.tup [.str "grant",.str "part",.str "convey",.str "surrender"])=H1 at n1 s1 b1 x1 ⊢
  refine dj ?_
  refine ⟨_,rfl,r,_,_,_,rfl,rfl,bM.of x1,aF (j:=2) rfl,_,rfl,q.B,_,rfl,b1.gl,q.l,_,rfl,dR.k (k:=.inr e) b1.l,_,rfl,?_⟩
  rw [gA]
  by_cases he:e∈nms es
  rotate_left
  ·rw [decide_eq_false he]
   refine dj ?_
   exact k _ _ s1 fun z=>absurd z (by decide +kernel)
  rw [decide_eq_true he]
  refine cB ?_
  obtain ⟨y,hy,rfl⟩:=dJ he
  refine ⟨_,rfl,small (by simp),fun t2 Du=>⟨t2,_,rfl,.inr (bM.of ak),rfl,rfl,_,rfl,dY (k:="convey") (ls:=["grant", "part"]) (b:=false) (by decide +kernel) ?_⟩⟩
  have n2:=aD Du (.tup [.str "grant",.str "part"])
  have s2:=s1.trans n2
  have b2:=b1.same n2
  have x2:=n2 _ _ x1
  generalize upd H1 t2 (.tup [.str "grant",.str "part"])=H2 at n2 s2 b2 x2 ⊢
  refine cB ?_
  refine ⟨_,rfl,r,_,_,_,rfl,rfl,bM.of x2,aF (j:=2) rfl,?_⟩
  refine ⟨_,rfl,small (by simp),fun t3 K6=>⟨t3,_,rfl,.inr (bM.of ak),rfl,rfl,_,rfl,dY (k:="convey") (ls:=["grant", "part"]) (b:=false) (by decide +kernel) ?_⟩⟩
  have n3:=aD K6 (.tup [.str "grant",.str "part"])
  have s3:=s2.trans n3
  have b3:=b2.same n3
  have x3:=n3 _ _ x2
  generalize upd H2 t3 (.tup [.str "grant",.str "part"])=H3 at n3 s3 b3 x3 ⊢
  refine cB ?_
  refine ⟨_,rfl,rfl,_,rfl,jw (b:=true) (by decide +kernel) ?_⟩
  refine dj ⟨_,rfl,r,_,_,_,rfl,rfl,bM.of x3,aF (j:=3) rfl,?_⟩
  refine ⟨_,rfl,rfl,_,rfl,wJ (b:=false) (by decide +kernel) ?_⟩
  refine dj ⟨_,rfl,_,rfl,q.B,_,rfl,b3.gx,q.dd,_,rfl,.inl (bR.of b3.x),rfl,rfl,_,rfl,mG (l:=[]) (fun z=>absurd z (by simp)) (fun _=>?_)⟩
  refine ⟨_,rfl,small (by simp),fun t4 Nv=>⟨t4,_,rfl,.inr (bM.of ak),rfl,rfl,_,rfl,dY (k:="convey") (ls:=["grant", "part"]) (b:=false) (by decide +kernel) ?_⟩⟩
  have n4:=aD Nv (.tup [.str "grant",.str "part"])
  have s4:=s3.trans n4
  have b4:=b3.same n4
  have x4:=n4 _ _ x3
  generalize upd H3 t4 (.tup [.str "grant",.str "part"])=H4 at n4 s4 b4 x4 ⊢
  refine cB ?_
  refine ⟨_,rfl,rfl,_,rfl,jw (b:=false) (by decide +kernel) (cB (cB ?_))⟩
  exact k _ _ s4 fun _=>⟨y,hy,rfl⟩
 | jY e =>
  refine ⟨_,rfl,r,_,_,_,rfl,rfl,bM.of hx,aF (j:=0) rfl,?_⟩
  refine ⟨_,rfl,small (by simp),fun t1 ht1=>⟨t1,_,rfl,.inr (bM.of ak),rfl,rfl,_,rfl,dY (k:="surrender") (ls:=["grant", "part", "convey", "surrender"]) (b:=true) (by decide +kernel) ?_⟩⟩
  have n1:=aD ht1 (.tup [.str "grant",.str "part",.str "convey",.str "surrender"])
  have s1:=(Same.refl H).trans n1
  have b1:=b0.same n1
  have x1:=n1 _ _ hx
  generalize upd H t1 (.tup [.str "grant",.str "part",.str "convey",.str "surrender"])=H1 at n1 s1 b1 x1 ⊢
  refine dj ?_
  refine ⟨_,rfl,r,_,_,_,rfl,rfl,bM.of x1,aF (j:=2) rfl,_,rfl,q.B,_,rfl,b1.gl,q.l,_,rfl,dR.k (k:=.inr e) b1.l,_,rfl,?_⟩
  rw [gA]
  by_cases he:e∈nms es
  rotate_left
  ·rw [decide_eq_false he]
   refine dj ?_
   exact k _ _ s1 fun z=>absurd z (by decide +kernel)
  rw [decide_eq_true he]
  refine cB ?_
  obtain ⟨y,hy,rfl⟩:=dJ he
  refine ⟨_,rfl,small (by simp),fun t2 Du=>⟨t2,_,rfl,.inr (bM.of ak),rfl,rfl,_,rfl,dY (k:="surrender") (ls:=["grant", "part"]) (b:=false) (by decide +kernel) ?_⟩⟩
  have n2:=aD Du (.tup [.str "grant",.str "part"])
  have s2:=s1.trans n2
  have b2:=b1.same n2
  have x2:=n2 _ _ x1
  generalize upd H1 t2 (.tup [.str "grant",.str "part"])=H2 at n2 s2 b2 x2 ⊢
  refine cB ?_
  refine ⟨_,rfl,r,_,_,_,rfl,rfl,bM.of x2,aF (j:=2) rfl,?_⟩
  refine ⟨_,rfl,small (by simp),fun t3 K6=>⟨t3,_,rfl,.inr (bM.of ak),rfl,rfl,_,rfl,dY (k:="surrender") (ls:=["grant", "part"]) (b:=false) (by decide +kernel) ?_⟩⟩
  have n3:=aD K6 (.tup [.str "grant",.str "part"])
  have s3:=s2.trans n3
  have b3:=b2.same n3
  have x3:=n3 _ _ x2
  generalize upd H2 t3 (.tup [.str "grant",.str "part"])=H3 at n3 s3 b3 x3 ⊢
  refine cB ?_
  refine ⟨_,rfl,rfl,_,rfl,jw (b:=false) (by decide +kernel) ?_⟩
  refine cB ?_
  refine ⟨_,rfl,rfl,_,rfl,wJ (b:=true) (by decide +kernel) ?_⟩
  refine cB ?_
  refine ⟨_,rfl,small (by simp),fun t4 Nv=>⟨t4,_,rfl,.inr (bM.of ak),rfl,rfl,_,rfl,dY (k:="surrender") (ls:=["grant", "part"]) (b:=false) (by decide +kernel) ?_⟩⟩
  have n4:=aD Nv (.tup [.str "grant",.str "part"])
  have s4:=s3.trans n4
  have b4:=b3.same n4
  have x4:=n4 _ _ x3
  generalize upd H3 t4 (.tup [.str "grant",.str "part"])=H4 at n4 s4 b4 x4 ⊢
  refine cB ?_
  refine ⟨_,rfl,rfl,_,rfl,jw (b:=false) (by decide +kernel) (cB (cB ?_))⟩
  exact k _ _ s4 fun _=>⟨y,hy,rfl⟩
theorem Xy:aZ ["_law_book_here", "_law_row_here"] ["_law_book_here", "_law_row_here"] (aC Ge):=⟨rfl,rfl,rfl,by decide +kernel,rfl,by decide +kernel,by decide +kernel⟩
def Rw.kind:Rw→Str
 | .grant _ _ _ _ _=>"grant"
 | .part _ _ _ _=>"part"
 | .convey _ _=>"convey"
 | .jY _=>"surrender"
theorem Rw.vs0 (cD:Rw):cD.vs[0]?=some (.str cD.kind):=by cases cD <;> rfl
theorem Rw.Nx (cD:Rw):decide (cD.kind∈(["grant", "part", "convey", "surrender"]:List Str))=true:=by
 cases cD
 ·exact (show decide (("grant" : Str)∈(["grant", "part", "convey", "surrender"]:List Str))=true by decide +kernel)
 ·exact (show decide (("part" : Str)∈(["grant", "part", "convey", "surrender"]:List Str))=true by decide +kernel)
 ·exact (show decide (("convey" : Str)∈(["grant", "part", "convey", "surrender"]:List Str))=true by decide +kernel)
 ·exact (show decide (("surrender" : Str)∈(["grant", "part", "convey", "surrender"]:List Str))=true by decide +kernel)
set_option maxHeartbeats 8000000 in
theorem U5 (F:fH K "_law_let_by" "_law_let_by" Ge f fd) {g1:Addr}{d1:FuncData} (G1:aL P w K mg base cu 1 g1 d1 ["_law_book_here", "_law_row_here"] Qo) (M1:Ms K mg "_law_why" g1 d1 ["_law_book_here", "_law_row_here"]):aL P w K mg base cu 2 f fd ["_law_book_here", "_law_row_here"] Qp:=by
 refine F.ok Xy (fun vs H Q E h=>?_) (fun cdv A outer s H vs Q E hr h=>?_)
 ·obtain ⟨q,es,ks,r,cD,rfl,_⟩:=h
  rfl
 obtain ⟨q,es,ks,r,cD,rfl,ap,b0,nd,hx,k⟩:=h
 refine ⟨_,(aG (aW (pC (nO eF (aK aR (pv 1) au (fun _ _=>rfl)) (cG (aj aJ (aj aJ (aj aJ (aj aJ aA))))) (by with_unfolding_all rfl)) (rB (nO cH (bf G1 hr rfl M1.m M1.k M1.b .nil bD (aj (pv 0) (aj (pv 1) aA))) aJ (bA _)))))),?_⟩
 refine ⟨_,rfl,r,_,_,_,rfl,rfl,bM.of hx,aF (j:=0) cD.vs0,small (by simp),fun t ht=>⟨t,_,rfl,.inr (bM.of ak),rfl,rfl,?_⟩⟩
 have s1:=aD ht (.tup [.str "grant",.str "part",.str "convey",.str "surrender"])
 refine ⟨_,rfl,dY (k:=cD.kind) (ls:=["grant", "part", "convey", "surrender"]) (b:=true) cD.Nx (dj ?_)⟩
 refine ⟨_,rfl,_,rfl,q,es,ks,r,cD,rfl,ap,b0.same s1,nd,s1 _ _ hx,fun z H' s' hz=>⟨rfl,?_⟩⟩
 exact k _ _ (s1.trans s') fun c=>hz (by rw [dB] at c;exact of_decide_eq_true c)
end
end M
namespace M
open PySem L2 PyProof.Rows
abbrev Vo:Stmt:=top 34
abbrev Gg:Stmt:=top 41
def K7 (q:Ad) (H H':Hp):Prop:=∀ c u,c≠q.a1→c≠q.a2→c≠q.a3→c≠q.a4→c≠q.a5→H c=some u→H' c=some u
def FrN (y:bC) (t1 t2:Addr) (H:Hp):Rw→Prop
 | .grant _ _ _ _ s=>wC H t1 s 1
 | .part _ _ _ a=>wC H t1 (nH (y.due.1 * a) (y.due.2 * y.br)).1 (nH (y.due.1 * a) (y.due.2 * y.br)).2∧wC H t2 (nH (y.due.1 * (y.br - a)) (y.due.2 * y.br)).1 (nH (y.due.1 * (y.br - a)) (y.due.2 * y.br)).2
 | .convey _ _=>True
 | .jY _=>True
theorem Ap.five {q:Ad} (ap:Ap q):T4 q.a1 q.a2 q.a3 q.a4 q.a5 :=
 ⟨bV ap 0 1 rfl rfl (by decide),bV ap 0 2 rfl rfl (by decide),bV ap 0 3 rfl rfl (by decide),bV ap 0 4 rfl rfl (by decide),bV ap 1 2 rfl rfl (by decide),bV ap 1 3 rfl rfl (by decide),bV ap 1 4 rfl rfl (by decide),bV ap 2 3 rfl rfl (by decide),bV ap 2 4 rfl rfl (by decide),bV ap 3 4 rfl rfl (by decide)⟩
def Qq (C:Addr):Sp:=fun vs H Q _=>∃ q es ks ls j r cD y,vs=[.ref q.x,.ref r]∧Rel C q H es ks ls j∧H r=some (.tup (Rw.vs cD))∧nF es ks y cD∧Rw.Ok ls cD∧(∀ n∈ls,n≠""∧PyData.strOk n=true)∧j≤60 ∧
 ∀ t1 t2 H',(∀ b1 b2,Ln C q H' (stp y es t1 t2 b1 b2 cD))→FrN y t1 t2 H' cD→K7 q H H'→Q .non H'
def Xz:Sp:=fun vs H Q _=>∃ q es ks r cD y,vs=[.ref q.B,.ref r]∧Ap q∧Bk q H es ks∧WF es∧wC H y.tb y.due.1 y.due.2∧Bd 400 y.due∧H r=some (.tup (Rw.vs cD))∧nF es ks y cD∧(∀ e n m a s,cD=.grant e n m a s→n∉nms es)∧(∀ e n m a,cD=.part e n m a→n∉nms es∧1≤a∧a≤9999∧e≠"")∧(∀ e,cD=.jY e→e≠"")∧es.length≤18∧ks.length≤60 ∧
 ∀ b1 b2 H',(∀ t1 t2,Bk q H' (stp y es t1 t2 b1 b2 cD) (stK ks cD))→FrN y b1 b2 H' cD→cY q H H'→Q .non H'
theorem dw {k l:Str}{A B:Prop} (h:decide (k=l)=false) (g:B):if decide (V.str k=V.str l)=true then A else B:=jw h (cB g)
theorem qy {k l:Str}{A B:Prop} (h:decide (k=l)=true) (g:A):if decide (V.str k=V.str l)=true then A else B:=jw h (dj g)
section
variable {P:Program}{w:World}{K:PySem.W.Frag}{mg:Str→Option Value}{base:Heap}{f C:Addr}{fd:FuncData}
theorem XD:aZ ["_law_land", "_law_row_here"] ["_law_land", "_law_row_here"] (aC Gg):=⟨rfl,rfl,rfl,by decide +kernel,rfl,by decide +kernel,by decide +kernel⟩
set_option maxHeartbeats 8000000 in
theorem U6 (T:cX K C) (F:fH K "_law_land_do" "_law_land_do" Gg f fd) {g1 g2 g3 g4:Addr}{d1 d2 d3 d4:FuncData}
  (G1:aL P w K mg base cu 2 g1 d1 ["self", "estate", "new", "man", "acres", "service"] (Dd C)) (m1:Meth K C "grant" g1) (b1:Binds K d1 ["self", "estate", "new", "man", "acres", "service"] [])
  (G2:aL P w K mg base cu 4 g2 d2 ["self", "estate", "new", "man", "acres"] (v9 C)) (m2:Meth K C "part_off" g2) (b2:Binds K d2 ["self", "estate", "new", "man", "acres"] [])
  (G3:aL P w K mg base cu 1 g3 d3 ["self", "estate", "man"] (yF C)) (m3:Meth K C "convey" g3) (b3:Binds K d3 ["self", "estate", "man"] [])
  (G4:aL P w K mg base cu 4 g4 d4 ["self", "estate"] (Jl C)) (m4:Meth K C "fall_back" g4) (b4:Binds K d4 ["self", "estate"] []) :
  aL P w K mg base cu 5 f fd ["_law_land", "_law_row_here"] (Qq C):=by
 refine F.ok XD (fun vs H Q E h=>?_) (fun cdv A outer s H vs Q E hr h=>?_)
 ·obtain ⟨q,es,ks,ls,j,r,cD,y,rfl,_⟩:=h
  rfl
 obtain ⟨q,es,ks,ls,j,r,cD,y,rfl,R,hx,hst,hok,hls,hj,k⟩:=h
 have G1:=aL.mono (k:=4) G1 (by omega)
 have G3:=aL.mono (k:=4) G3 (by omega)
 refine ⟨_,(aq (bJ (aM cH (aK aR (pv 1) au (fun _ _=>rfl)) aJ (bA _)) (aG (aW (bH (pv 0) T.cl m1 G1 hr b1 .nil bD (aj (aK aR (pv 1) au (fun _ _=>rfl)) (aj (aK aR (pv 1) au (fun _ _=>rfl)) (aj (aK aR (pv 1) au (fun _ _=>rfl)) (aj (aK aR (pv 1) au (fun _ _=>rfl)) (aj (aK aR (pv 1) au (fun _ _=>rfl)) aA)))))))) aQ)
  (aq (bJ (aM cH (aK aR (pv 1) au (fun _ _=>rfl)) aJ (bA _)) (aG (aW (bH (pv 0) T.cl m2 G2 hr b2 .nil bD (aj (aK aR (pv 1) au (fun _ _=>rfl)) (aj (aK aR (pv 1) au (fun _ _=>rfl)) (aj (aK aR (pv 1) au (fun _ _=>rfl)) (aj (aK aR (pv 1) au (fun _ _=>rfl)) aA))))))) aQ)
  (aq (bJ (aM cH (aK aR (pv 1) au (fun _ _=>rfl)) aJ (bA _)) (aG (aW (bH (pv 0) T.cl m3 G3 hr b3 .nil bD (aj (aK aR (pv 1) au (fun _ _=>rfl)) (aj (aK aR (pv 1) au (fun _ _=>rfl)) aA))))) aQ)
  (aq (bJ (aM cH (aK aR (pv 1) au (fun _ _=>rfl)) aJ (bA _)) (aG (aW (bH (pv 0) T.cl m4 G4 hr b4 .nil bD (aj (aK aR (pv 1) au (fun _ _=>rfl)) aA)))) aQ)
  (aG (aW rA)))))),?_⟩
 have W:=R.W
 have L:=R.L
 have ln:=R.ln
 have a5:=R.ap.five
 have kl:∀ {f:bC→V},(kv f es).length≤800:=by intro f;rw [gO];omega
 cases cD with
 | grant e n m a s =>
  obtain ⟨hy,rfl,hn,ha⟩:=hst
  obtain ⟨h1,h2,h3,h4,h5⟩:=hok
  have hnn:=R.new hn (hls n h1).1
  refine ⟨_,rfl,r,_,_,_,rfl,rfl,bM.of hx,aF (j:=0) rfl,rfl,_,rfl,qy (by decide +kernel) ?_⟩
  refine ⟨_,rfl,q.x,q.dx,_,rfl,L.o,rfl,_,rfl,r,_,_,_,rfl,rfl,bM.of hx,aF (j:=2) rfl,_,rfl,r,_,_,_,rfl,rfl,bM.of hx,aF (j:=3) rfl,_,rfl,r,_,_,_,rfl,rfl,bM.of hx,aF (j:=4) rfl,_,rfl,r,_,_,_,rfl,rfl,bM.of hx,aF (j:=5) rfl,_,rfl,r,_,_,_,rfl,rfl,bM.of hx,aF (j:=6) rfl,?_⟩
  refine ⟨q.x,q.dx,q.a1,q.a2,q.a3,q.a4,q.a5,_,_,_,_,_,y.n,n,m,a,s,y.own,rfl,L,a5,cg W.nd hy,Nat.le_trans kl (by decide),Nat.le_trans kl (by decide),kl,Nat.le_trans kl (by decide),Nat.le_trans kl (by decide),fun t ht=>?_⟩
  have nt:∀ {b:Addr}{u:HO},H b=some u→t≠b:=fun hb z=>by rw [z,hb] at ht;cases ht
  refine k t 0 _ (fun c1 c2=>?_) ?_ ?_
  ·have e1:iy (stp y es t 0 c1 c2 (.grant y.n n m a s))=putK (iy es) (.inr n) (.str y.n):=by
    show kv _ (mod y.n (mO a) es++[tO y.n n m a s t c1])=_
    rw [cM (g:=mO a) (x:=tO y.n n m a s t c1) (fun _=>rfl) hnn,dh (g:=mO a) (fun _=>rfl) (fun _=>rfl)];rfl
   have e2:hoL (stp y es t 0 c1 c2 (.grant y.n n m a s))=putK (hoL es) (.inr n) (.str m):=by
    show kv _ (mod y.n (mO a) es++[tO y.n n m a s t c1])=_
    rw [cM (g:=mO a) (x:=tO y.n n m a s t c1) (fun _=>rfl) hnn,dh (g:=mO a) (fun _=>rfl) (fun _=>rfl)];rfl
   have e3:lZ (stp y es t 0 c1 c2 (.grant y.n n m a s))=putK (putK (lZ es) (.inr y.n) (.int (y.own - a))) (.inr n) (.int a):=by
    show kv _ (mod y.n (mO a) es++[tO y.n n m a s t c1])=_
    rw [cM (g:=mO a) (x:=tO y.n n m a s t c1) (fun _=>rfl) hnn,iR (g:=mO a) (fun _=>rfl) W.nd hy];rfl
   have e4:Qf (stp y es t 0 c1 c2 (.grant y.n n m a s))=putK (Qf es) (.inr n) (.ref t):=by
    show kv _ (mod y.n (mO a) es++[tO y.n n m a s t c1])=_
    rw [cM (g:=mO a) (x:=tO y.n n m a s t c1) (fun _=>rfl) hnn,dh (g:=mO a) (fun _=>rfl) (fun _=>rfl)];rfl
   have e5:Qe (stp y es t 0 c1 c2 (.grant y.n n m a s))=putK (Qe es) (.inr n) (.int a):=by
    show kv _ (mod y.n (mO a) es++[tO y.n n m a s t c1])=_
    rw [cM (g:=mO a) (x:=tO y.n n m a s t c1) (fun _=>rfl) hnn,dh (g:=mO a) (fun _=>rfl) (fun _=>rfl)];rfl
   show bZ C _ q.x q.dx q.a1 q.a2 q.a3 q.a4 q.a5 _ _ _ _ _
   rw [e1,e2,e3,e4,e5]
   have x1:=bh L.o L.l1 (by intro z;cases z)
   have x2:=bh L.o L.l2 (by intro z;cases z)
   have x3:=bh L.o L.l3 (by intro z;cases z)
   have x4:=bh L.o L.l4 (by intro z;cases z)
   have x5:=bh L.o L.l5 (by intro z;cases z)
   unfold pW
   refine ⟨?_,?_,?_,?_,?_,ak⟩
   ·rw [ao x5,ao x4,ao x3,ao x2,ao x1,ao (Ne.symm (nt L.o)),ao x3];exact L.o
   ·rw [ao a5.n15,ao a5.n14,ao a5.n13,ao a5.n12,ak]
   ·rw [ao a5.n25,ao a5.n24,ao a5.n23,ak]
   ·rw [ao a5.n35,ao a5.n34,ak]
   ·rw [ao a5.n45,ak]
  ·show pW _ _ _ _ _ _ _ _ _ _ _ _ _ _ _ _ t=some (.tup [.int s,.int 1])
   unfold pW
   rw [ao (nt L.l5),ao (nt L.l4),ao (nt L.l3),ao (nt L.l2),ao (nt L.l1),ak]
  ·intro c u c1 c2 c3 c4 c5 hc
   unfold pW
   rw [ao c5,ao c4,ao c3,ao c2,ao c1,ao (Ne.symm (nt hc)),ao c3]
   exact hc
 | part e n m a =>
  obtain ⟨hy,rfl,hn,ha⟩:=hst
  obtain ⟨h1,h2,h3,h4⟩:=hok
  have hnn:=R.new hn (hls n h1).1
  obtain ⟨p,hp,_,_⟩:=W.lord y hy h4
  have hfr:=R.fr y hy
  have hbb:=W.bnd y hy
  have hob:=W.qb y hy
  refine ⟨_,rfl,r,_,_,_,rfl,rfl,bM.of hx,aF (j:=0) rfl,rfl,_,rfl,dw (by decide +kernel) ?_⟩
  refine ⟨_,rfl,r,_,_,_,rfl,rfl,bM.of hx,aF (j:=0) rfl,rfl,_,rfl,qy (by decide +kernel) ?_⟩
  refine ⟨_,rfl,q.x,q.dx,_,rfl,L.o,rfl,_,rfl,r,_,_,_,rfl,rfl,bM.of hx,aF (j:=2) rfl,_,rfl,r,_,_,_,rfl,rfl,bM.of hx,aF (j:=3) rfl,_,rfl,r,_,_,_,rfl,rfl,bM.of hx,aF (j:=4) rfl,_,rfl,r,_,_,_,rfl,rfl,bM.of hx,aF (j:=5) rfl,?_⟩
  refine ⟨q.x,q.dx,q.a1,q.a2,q.a3,q.a4,q.a5,_,_,_,_,_,y.n,n,m,p,y.ta,a,y.own,y.br,y.due,rfl,L,a5,(by rw [cg W.nd hy,hp];rfl),cg W.nd hy,cg W.nd hy,cg W.nd hy,hfr.1,hfr.2.2.mono (by omega),by omega,by omega,by omega,kl,kl,kl,kl,kl,fun g r' H' hg hr0 hgr L' f1 f2 out=>?_⟩
  rw [Fz hfr.2.2.2.1 (by omega)] at f2
  refine k g r' H' (fun c1 c2=>?_) ⟨f1,f2⟩ out
  have e1:iy (stp y es g r' c1 c2 (.part y.n n m a))=putK (iy es) (.inr n) (.str p):=by
   show kv _ (mod y.n (mQ a r' c2) es++[tQ y n m a g c1])=_
   rw [cM (g:=mQ a r' c2) (x:=tQ y n m a g c1) (fun _=>rfl) hnn,dh (g:=mQ a r' c2) (fun _=>rfl) (fun _=>rfl)]
   show putK _ _ (dO y.lord)=_
   rw [hp];rfl
  have e2:hoL (stp y es g r' c1 c2 (.part y.n n m a))=putK (hoL es) (.inr n) (.str m):=by
   show kv _ (mod y.n (mQ a r' c2) es++[tQ y n m a g c1])=_
   rw [cM (g:=mQ a r' c2) (x:=tQ y n m a g c1) (fun _=>rfl) hnn,dh (g:=mQ a r' c2) (fun _=>rfl) (fun _=>rfl)];rfl
  have e3:lZ (stp y es g r' c1 c2 (.part y.n n m a))=putK (putK (lZ es) (.inr y.n) (.int (y.own - a))) (.inr n) (.int a):=by
   show kv _ (mod y.n (mQ a r' c2) es++[tQ y n m a g c1])=_
   rw [cM (g:=mQ a r' c2) (x:=tQ y n m a g c1) (fun _=>rfl) hnn,iR (g:=mQ a r' c2) (fun _=>rfl) W.nd hy];rfl
  have e4:Qf (stp y es g r' c1 c2 (.part y.n n m a))=putK (putK (Qf es) (.inr y.n) (.ref r')) (.inr n) (.ref g):=by
   show kv _ (mod y.n (mQ a r' c2) es++[tQ y n m a g c1])=_
   rw [cM (g:=mQ a r' c2) (x:=tQ y n m a g c1) (fun _=>rfl) hnn,iR (g:=mQ a r' c2) (fun _=>rfl) W.nd hy];rfl
  have e5:Qe (stp y es g r' c1 c2 (.part y.n n m a))=putK (putK (Qe es) (.inr y.n) (.int (y.br - a))) (.inr n) (.int a):=by
   show kv _ (mod y.n (mQ a r' c2) es++[tQ y n m a g c1])=_
   rw [cM (g:=mQ a r' c2) (x:=tQ y n m a g c1) (fun _=>rfl) hnn,iR (g:=mQ a r' c2) (fun _=>rfl) W.nd hy];rfl
  show bZ C H' q.x q.dx q.a1 q.a2 q.a3 q.a4 q.a5 _ _ _ _ _
  rw [e1,e2,e3,e4,e5]
  exact L'
 | convey e m =>
  obtain ⟨hy,rfl⟩:=hst
  refine ⟨_,rfl,r,_,_,_,rfl,rfl,bM.of hx,aF (j:=0) rfl,rfl,_,rfl,dw (by decide +kernel) ?_⟩
  refine ⟨_,rfl,r,_,_,_,rfl,rfl,bM.of hx,aF (j:=0) rfl,rfl,_,rfl,dw (by decide +kernel) ?_⟩
  refine ⟨_,rfl,r,_,_,_,rfl,rfl,bM.of hx,aF (j:=0) rfl,rfl,_,rfl,qy (by decide +kernel) ?_⟩
  refine ⟨_,rfl,q.x,q.dx,_,rfl,L.o,rfl,_,rfl,r,_,_,_,rfl,rfl,bM.of hx,aF (j:=2) rfl,_,rfl,r,_,_,_,rfl,rfl,bM.of hx,aF (j:=3) rfl,?_⟩
  refine ⟨q.x,q.dx,q.a1,q.a2,q.a3,q.a4,q.a5,_,_,_,_,_,y.n,m,rfl,L,Nat.le_trans kl (by decide),?_⟩
  refine k 0 0 _ (fun c1 c2=>?_) True.intro fun c u _ c2 _ _ _ hc=>by rw [ao c2];exact hc
  have e2:hoL (mod y.n (mU m) es)=putK (hoL es) (.inr y.n) (.str m):=iR (g:=mU m) (fun _=>rfl) W.nd hy
  show bZ C _ q.x q.dx q.a1 q.a2 q.a3 q.a4 q.a5 (iy (mod y.n (mU m) es)) (hoL (mod y.n (mU m) es)) (lZ (mod y.n (mU m) es)) (Qf (mod y.n (mU m) es)) (Qe (mod y.n (mU m) es))
  rw [e2]
  have e1:iy (mod y.n (mU m) es)=iy es:=dh (g:=mU m) (fun _=>rfl) (fun _=>rfl) es
  have e3:lZ (mod y.n (mU m) es)=lZ es:=dh (g:=mU m) (fun _=>rfl) (fun _=>rfl) es
  have e4:Qf (mod y.n (mU m) es)=Qf es:=dh (g:=mU m) (fun _=>rfl) (fun _=>rfl) es
  have e5:Qe (mod y.n (mU m) es)=Qe es:=dh (g:=mU m) (fun _=>rfl) (fun _=>rfl) es
  rw [e1,e3,e4,e5]
  exact ⟨by rw [ao (bh L.o L.l2 (by intro z;cases z))];exact L.o,by rw [ao a5.n12];exact L.l1,ak,by rw [ao (Ne.symm a5.n23)];exact L.l3,by rw [ao (Ne.symm a5.n24)];exact L.l4,by rw [ao (Ne.symm a5.n25)];exact L.l5⟩
 | jY e =>
  obtain ⟨hy,rfl⟩:=hst
  obtain ⟨p,hp,hpm,hpn⟩:=W.lord y hy hok
  obtain ⟨z,hz,Qk⟩:=dJ hpm
  have ep:y.lord.getD ""=p:=by rw [hp];rfl
  refine ⟨_,rfl,r,_,_,_,rfl,rfl,bM.of hx,aF (j:=0) rfl,rfl,_,rfl,dw (by decide +kernel) ?_⟩
  refine ⟨_,rfl,r,_,_,_,rfl,rfl,bM.of hx,aF (j:=0) rfl,rfl,_,rfl,dw (by decide +kernel) ?_⟩
  refine ⟨_,rfl,r,_,_,_,rfl,rfl,bM.of hx,aF (j:=0) rfl,rfl,_,rfl,dw (by decide +kernel) ?_⟩
  refine ⟨_,rfl,r,_,_,_,rfl,rfl,bM.of hx,aF (j:=0) rfl,rfl,_,rfl,qy (by decide +kernel) ?_⟩
  refine ⟨_,rfl,q.x,q.dx,_,rfl,L.o,rfl,_,rfl,r,_,_,_,rfl,rfl,bM.of hx,aF (j:=2) rfl,?_⟩
  have vp:=cg (f:=fun e=>V.int e.own) W.nd hz
  rw [Qk] at vp
  refine ⟨q.x,q.dx,q.a1,q.a2,q.a3,q.a4,q.a5,_,_,_,_,_,y.n,p,y.own,z.own,rfl,L,a5,(by rw [cg W.nd hy,hp];rfl),cg W.nd hy,vp,(by rw [cg W.nd hy];rfl),(by rw [cg W.nd hy];rfl),(by rw [cg W.nd hy];rfl),vg,JF,(by rw [gO];omega),kl,fun ss H' hss _ L' out=>?_⟩
  rw [FP (a:=y.own) W.nd hss,JW W.nd hz Qk,nq (p:=p) (a:=y.own) (f:=fun e=>V.str e.man) (fun _=>rfl),nq (p:=p) (a:=y.own) (f:=fun e=>V.ref e.ta) (fun _=>rfl),nq (p:=p) (a:=y.own) (f:=fun e=>V.int e.br) (fun _=>rfl)] at L'
  refine k 0 0 H' (fun c1 c2=>?_) True.intro out
  show Ln C q H' (cL y.n (y.lord.getD "") y.own es)
  rw [ep]
  exact L'
theorem U7:aZ ["_law_book_here", "_law_row_here", "_law_whole", "_law_wide", "_law_taker_here", "_law_estate"] ["_law_book_here", "_law_row_here"] (aC Vo):=⟨rfl,rfl,rfl,by decide +kernel,rfl,by decide +kernel,by decide +kernel⟩
set_option maxHeartbeats 8000000 in
theorem XF (F:fH K "_law_do" "_law_do" Vo f fd) {g1 g2 g3 g4:Addr}{d1 d2 d3 d4:FuncData}
  (G1:aL P w K mg base cu 1 g1 d1 ["_law_book_here", "_law_row_here", "_law_lord", "_law_due"] Qn) (M1:Ms K mg "_law_new" g1 d1 ["_law_book_here", "_law_row_here", "_law_lord", "_law_due"])
  (G2:aL P w K mg base cu 2 g2 d2 ["_law_book_here", "_law_estate"] TF) (M2:Ms K mg "_law_breadth" g2 d2 ["_law_book_here", "_law_estate"])
  (G3:aL P w K mg base cu 1 g3 d3 ["_law_top", "_law_bottom"] yJ) (M3:Ms K mg "_law_low" g3 d3 ["_law_top", "_law_bottom"])
  (G4:aL P w K mg base cu 2 g4 d4 ["_law_book_here", "_law_estate"] Xr) (M4:Ms K mg "_law_fall" g4 d4 ["_law_book_here", "_law_estate"]) :
  aL P w K mg base cu 3 f fd ["_law_book_here", "_law_row_here"] Xz:=by
 refine F.ok U7 (fun vs H Q E h=>?_) (fun cdv A outer s H vs Q E hr h=>?_)
 ·obtain ⟨q,es,ks,r,cD,y,rfl,_⟩:=h
  rfl
 obtain ⟨q,es,ks,r,cD,y,rfl,ap,bk,W,hfr,hbd,hx,hst,hgr,hpa,hsu,hl,hk,k⟩:=h
 have G1:=aL.mono (k:=2) G1 (by omega)
 have G3:=aL.mono (k:=2) G3 (by omega)
 refine ⟨_,(aq (bJ (aM cH (aK aR (pv 1) au (fun _ _=>rfl)) aJ (bA _)) (aG (bT (bf G1 hr rfl M1.m M1.k M1.b .nil bD (aj (pv 0) (aj (pv 1) (aj (aK aR (pv 1) au (fun _ _=>rfl)) (aj (cG (aj (aK aR (pv 1) au (fun _ _=>rfl)) (aj au aA))) aA))))))) aQ)
  (aq (bJ (aM cH (aK aR (pv 1) au (fun _ _=>rfl)) aJ (bA _)) (aq (aY (i:=2) U7.nd rfl (Or.inl rfl) (aO (u1 hr) (aO (u1 hr) (pv 0) aJ (fun _ _=>rfl)) (aK aR (pv 1) au (fun _ _=>rfl)) (fun _ _=>rfl)))
  (aq (aY (i:=3) U7.nd rfl (Or.inl rfl) (bf G2 hr rfl M2.m M2.k M2.b .nil bD (aj (pv 0) (aj (aK aR (pv 1) au (fun _ _=>rfl)) aA))))
  (aq (bT (bf G1 hr rfl M1.m M1.k M1.b .nil bD (aj (pv 0) (aj (pv 1) (aj (aO (u1 hr) (aO (u1 hr) (pv 0) aJ (fun _ _=>rfl)) (aK aR (pv 1) au (fun _ _=>rfl)) (fun _ _=>rfl)) (aj (bf G3 hr rfl M3.m M3.k M3.b .nil bD (aj (aN iM (aK aR (pv 2) au (fun _ _=>rfl)) (aK aR (pv 1) au (fun _ _=>rfl))) (aj (aN iM (aK aR (pv 2) au (fun _ _=>rfl)) (pv 3)) aA))) aA))))))
  (aG (dX (u1 hr) (aO (u1 hr) (pv 0) aJ (fun _ _=>rfl)) (aK aR (pv 1) au (fun _ _=>rfl)) (bf G3 hr rfl M3.m M3.k M3.b .nil bD (aj (aN iM (aK aR (pv 2) au (fun _ _=>rfl)) (aN jH (pv 3) (aK aR (pv 1) au (fun _ _=>rfl)))) (aj (aN iM (aK aR (pv 2) au (fun _ _=>rfl)) (pv 3)) aA))) rfl))))) aQ)
  (aq (bJ (aM cH (aK aR (pv 1) au (fun _ _=>rfl)) aJ (bA _)) (aG (dX (u1 hr) (aO (u1 hr) (pv 0) aJ (fun _ _=>rfl)) (aK aR (pv 1) au (fun _ _=>rfl)) (aK aR (pv 1) au (fun _ _=>rfl)) rfl)) aQ)
  (aq (bJ (aM cH (aK aR (pv 1) au (fun _ _=>rfl)) aJ (bA _)) (aG (bT (bf G4 hr rfl M4.m M4.k M4.b .nil bD (aj (pv 0) (aj (aK aR (pv 1) au (fun _ _=>rfl)) aA))))) aQ)
  (aq (bJ (aM cH (aK aR (pv 1) au (fun _ _=>rfl)) aJ (bA _)) bN aQ)
  (aq (bJ (aM cH (aK aR (pv 1) au (fun _ _=>rfl)) aJ (bA _)) bN aQ)
  (aG (bJ (aM cH (aK aR (pv 1) au (fun _ _=>rfl)) aJ (bA _)) bN aQ)))))))),?_⟩
 have kl:∀ {f:bC→V},(kv f es).length≤800:=by intro f;rw [gO];omega
 cases cD with
 | grant e n m a s =>
  obtain ⟨hy,rfl,hn,ha⟩:=hst
  have hnn:=hgr _ _ _ _ _ rfl
  refine ⟨_,rfl,r,_,_,_,rfl,rfl,bM.of hx,aF (j:=0) rfl,rfl,_,rfl,qy (by decide +kernel) ?_⟩
  refine ⟨_,rfl,_,rfl,_,rfl,r,_,_,_,rfl,rfl,bM.of hx,aF (j:=2) rfl,_,rfl,r,_,_,_,rfl,rfl,bM.of hx,aF (j:=6) rfl,small (by simp),fun t ht=>?_⟩
  have s1:=aD ht (.tup [.int s,.int 1])
  have b1:=bk.same s1
  have x1:=s1 _ _ hx
  have ht1:(upd H t (.tup [.int s,.int 1])) t=some (.tup [.int s,.int 1]):=ak
  generalize upd H t (.tup [.int s,.int 1])=H1 at s1 b1 x1 ht1 ⊢
  refine ⟨q,_,_,_,_,ks,r,_,y.n,n,m,y.n,t,a,y.own,rfl,ap,b1,x1,rfl,rfl,rfl,rfl,?_,kl,kl,kl,kl,by omega,fun H' b' o'=>?_⟩
  ·rw [bF,if_neg (fun z=>hnn (by rw [← key_eq.mp z];exact List.mem_map.mpr ⟨y,hy,rfl⟩))]
   exact cg W.nd hy
  have x2:=cR b1 o' x1
  have Du:=cR b1 o' ht1
  refine ⟨_,rfl,r,_,_,_,rfl,rfl,bM.of x2,aF (j:=0) rfl,rfl,_,rfl,dw (by decide +kernel) ?_⟩
  refine ⟨_,rfl,r,_,_,_,rfl,rfl,bM.of x2,aF (j:=0) rfl,rfl,_,rfl,dw (by decide +kernel) ?_⟩
  refine ⟨_,rfl,r,_,_,_,rfl,rfl,bM.of x2,aF (j:=0) rfl,rfl,_,rfl,dw (by decide +kernel) ?_⟩
  refine ⟨_,rfl,r,_,_,_,rfl,rfl,bM.of x2,aF (j:=0) rfl,rfl,_,rfl,dw (by decide +kernel) ?_⟩
  refine ⟨_,rfl,r,_,_,_,rfl,rfl,bM.of x2,aF (j:=0) rfl,rfl,_,rfl,dw (by decide +kernel) ?_⟩
  refine ⟨_,rfl,r,_,_,_,rfl,rfl,bM.of x2,aF (j:=0) rfl,rfl,_,rfl,dw (by decide +kernel) ?_⟩
  refine k t 0 H' (fun c1 c2=>?_) Du ((cY.same s1).trans o')
  have Gq:y.n∈nms es:=List.mem_map.mpr ⟨y,hy,rfl⟩
  rw [tD Gq hnn] at b'
  have e1:iy (stp y es c1 c2 t 0 (.grant y.n n m a s))=putK (iy es) (.inr n) (.str y.n):=by
   show kv _ (mod y.n (mO a) es++[tO y.n n m a s c1 t])=_
   rw [cM (g:=mO a) (x:=tO y.n n m a s c1 t) (fun _=>rfl) hnn,dh (g:=mO a) (fun _=>rfl) (fun _=>rfl)];rfl
  have e2:hoL (stp y es c1 c2 t 0 (.grant y.n n m a s))=putK (hoL es) (.inr n) (.str m):=by
   show kv _ (mod y.n (mO a) es++[tO y.n n m a s c1 t])=_
   rw [cM (g:=mO a) (x:=tO y.n n m a s c1 t) (fun _=>rfl) hnn,dh (g:=mO a) (fun _=>rfl) (fun _=>rfl)];rfl
  have e3:lZ (stp y es c1 c2 t 0 (.grant y.n n m a s))=putK (putK (lZ es) (.inr y.n) (.int (y.own - a))) (.inr n) (.int a):=by
   show kv _ (mod y.n (mO a) es++[tO y.n n m a s c1 t])=_
   rw [cM (g:=mO a) (x:=tO y.n n m a s c1 t) (fun _=>rfl) hnn,iR (g:=mO a) (fun _=>rfl) W.nd hy];rfl
  have e4:qD (stp y es c1 c2 t 0 (.grant y.n n m a s))=putK (qD es) (.inr n) (.ref t):=by
   show kv _ (mod y.n (mO a) es++[tO y.n n m a s c1 t])=_
   rw [cM (g:=mO a) (x:=tO y.n n m a s c1 t) (fun _=>rfl) hnn,dh (g:=mO a) (fun _=>rfl) (fun _=>rfl)];rfl
  show BQ q H' _ _ _ _ (ks++[n])
  rw [e1,e2,e3,e4]
  exact b'
 | part e n m a =>
  obtain ⟨hy,rfl,hn,ha⟩:=hst
  obtain ⟨hnn,h2,h3,h4⟩:=hpa _ _ _ _ rfl
  obtain ⟨p,hp,_,_⟩:=W.lord y hy h4
  have hbb:=W.bnd y hy
  have hob:=W.qb y hy
  have Gq:y.n∈nms es:=List.mem_map.mpr ⟨y,hy,rfl⟩
  have q1:=iH hbd.1 (by decide)
  have q2:=iH hbd.2.2 (by decide)
  have q3:a.natAbs<lA:=iH (e:=5) (by omega) (by decide)
  have q4:y.br.natAbs<lA:=iH (e:=5) (by omega) (by decide)
  have q5:(y.br - a).natAbs<lA:=iH (e:=5) (by omega) (by decide)
  have q6:(y.due.2 * y.br).natAbs<lA:=iH (lE (f:=5) hbd.2.2 (by omega)) (by decide)
  have q7:y.due.2 * y.br≠0:=Int.ne_of_gt (Int.mul_pos hbd.2.1 (by omega))
  have gl:∀ {Hx:Hp},Bk q Hx es ks→dR Hx q.l (V.str y.n) (some (.str p)):=fun b=>by
   have:=Bo b.l W.nd hy
   rw [hp] at this
   exact this
  refine ⟨_,rfl,r,_,_,_,rfl,rfl,bM.of hx,aF (j:=0) rfl,rfl,_,rfl,dw (by decide +kernel) ?_⟩
  refine ⟨_,rfl,r,_,_,_,rfl,rfl,bM.of hx,aF (j:=0) rfl,rfl,_,rfl,qy (by decide +kernel) ?_⟩
  refine ⟨_,rfl,q.B,_,rfl,bk.gd,_,rfl,r,_,_,_,rfl,rfl,bM.of hx,aF (j:=2) rfl,q.d,_,rfl,Bo bk.d W.nd hy,?_⟩
  refine ⟨_,rfl,_,rfl,r,_,_,_,rfl,rfl,bM.of hx,aF (j:=2) rfl,q,es,ks,y,rfl,ap,bk,W,hy,hl,fun H1 s1=>?_⟩
  have b1:=bk.same s1
  have x1:=s1 _ _ hx
  have f1:H1 y.tb=some (.tup [.int y.due.1,.int y.due.2]):=s1 _ _ hfr
  refine ⟨_,rfl,_,rfl,_,rfl,q.B,_,rfl,b1.gl,_,rfl,r,_,_,_,rfl,rfl,bM.of x1,aF (j:=2) rfl,q.l,_,rfl,gl b1,?_⟩
  refine ⟨_,rfl,y.tb,_,_,_,rfl,rfl,bM.of f1,aF (j:=0) rfl,_,rfl,r,_,_,_,rfl,rfl,bM.of x1,aF (j:=5) rfl,_,_,rfl,rfl,⟨q1,q3⟩,_,rfl,y.tb,_,_,_,rfl,rfl,bM.of f1,aF (j:=1) rfl,_,rfl,_,_,rfl,rfl,⟨q2,q4⟩,_,_,rfl,q7,q6,fun t ht=>?_⟩
  have s2:=aD ht (.tup [.int (iC (y.due.1 * a) (y.due.2 * y.br)),.int (fQ (y.due.1 * a) (y.due.2 * y.br))])
  have b2:=b1.same s2
  have x2:=s2 _ _ x1
  have f2:=s2 _ _ f1
  have Du:(upd H1 t (.tup [.int (iC (y.due.1 * a) (y.due.2 * y.br)),.int (fQ (y.due.1 * a) (y.due.2 * y.br))])) t=some (.tup [.int (iC (y.due.1 * a) (y.due.2 * y.br)),.int (fQ (y.due.1 * a) (y.due.2 * y.br))]):=ak
  have o2:=cY.same (q:=q) (s1.trans s2)
  generalize upd H1 t (.tup [.int (iC (y.due.1 * a) (y.due.2 * y.br)),.int (fQ (y.due.1 * a) (y.due.2 * y.br))])=H2 at s2 b2 x2 f2 Du o2 ⊢
  refine ⟨q,_,_,_,_,ks,r,_,y.n,n,m,p,t,a,y.own,rfl,ap,b2,x2,rfl,rfl,rfl,rfl,?_,kl,kl,kl,kl,by omega,fun H3 b3 o3=>?_⟩
  ·rw [bF,if_neg (fun z=>hnn (by rw [← key_eq.mp z];exact Gq))]
   exact cg W.nd hy
  have x3:=cR b2 o3 x2
  have f3:=cR b2 o3 f2
  have K6:=cR b2 o3 Du
  have o4:=o2.trans o3
  refine ⟨_,rfl,y.tb,_,_,_,rfl,rfl,bM.of f3,aF (j:=0) rfl,_,rfl,_,rfl,r,_,_,_,rfl,rfl,bM.of x3,aF (j:=5) rfl,_,_,rfl,rfl,_,_,rfl,rfl,⟨q1,q5⟩,_,rfl,y.tb,_,_,_,rfl,rfl,bM.of f3,aF (j:=1) rfl,_,rfl,_,_,rfl,rfl,⟨q2,q4⟩,_,_,rfl,q7,q6,fun u hu=>?_⟩
  have s5:=aD hu (.tup [.int (iC (y.due.1 * (y.br - a)) (y.due.2 * y.br)),.int (fQ (y.due.1 * (y.br - a)) (y.due.2 * y.br))])
  have b5:=b3.same s5
  have x5:=s5 _ _ x3
  have ht5:=s5 _ _ K6
  have hu5:(upd H3 u (.tup [.int (iC (y.due.1 * (y.br - a)) (y.due.2 * y.br)),.int (fQ (y.due.1 * (y.br - a)) (y.due.2 * y.br))])) u=some (.tup [.int (iC (y.due.1 * (y.br - a)) (y.due.2 * y.br)),.int (fQ (y.due.1 * (y.br - a)) (y.due.2 * y.br))]):=ak
  have o5:=o4.trans (cY.same (q:=q) s5)
  generalize upd H3 u (.tup [.int (iC (y.due.1 * (y.br - a)) (y.due.2 * y.br)),.int (fQ (y.due.1 * (y.br - a)) (y.due.2 * y.br))])=H5 at s5 b5 x5 ht5 hu5 o5 ⊢
  have Dv:(putK (qD es) (.inr n) (.ref t)).length≤801:=Nat.le_trans (cW _ _ _) (Nat.succ_le_succ kl)
  refine ⟨_,rfl,q.B,_,rfl,b5.kd,_,rfl,r,_,_,_,rfl,rfl,bM.of x5,aF (j:=2) rfl,q.d,_,rfl,gZ.k (k:=.inr y.n) b5.d (bY (by omega)),?_⟩
  have b6:=b5.ud (l':=putK (putK (qD es) (.inr n) (.ref t)) (.inr y.n) (.ref u)) ap
  have o6:=o5.trans (cY.ud (H:=H5) (o:=.dK (putK (putK (qD es) (.inr n) (.ref t)) (.inr y.n) (.ref u))))
  have x6:=cR b5 (cY.ud (H:=H5) (o:=.dK (putK (putK (qD es) (.inr n) (.ref t)) (.inr y.n) (.ref u)))) x5
  have ht6:=cR b5 (cY.ud (H:=H5) (o:=.dK (putK (putK (qD es) (.inr n) (.ref t)) (.inr y.n) (.ref u)))) ht5
  have hu6:=cR b5 (cY.ud (H:=H5) (o:=.dK (putK (putK (qD es) (.inr n) (.ref t)) (.inr y.n) (.ref u)))) hu5
  generalize upd H5 q.d (.dK (putK (putK (qD es) (.inr n) (.ref t)) (.inr y.n) (.ref u)))=H6 at b6 o6 x6 ht6 hu6 ⊢
  refine ⟨_,rfl,r,_,_,_,rfl,rfl,bM.of x6,aF (j:=0) rfl,rfl,_,rfl,dw (by decide +kernel) ?_⟩
  refine ⟨_,rfl,r,_,_,_,rfl,rfl,bM.of x6,aF (j:=0) rfl,rfl,_,rfl,dw (by decide +kernel) ?_⟩
  refine ⟨_,rfl,r,_,_,_,rfl,rfl,bM.of x6,aF (j:=0) rfl,rfl,_,rfl,dw (by decide +kernel) ?_⟩
  refine ⟨_,rfl,r,_,_,_,rfl,rfl,bM.of x6,aF (j:=0) rfl,rfl,_,rfl,dw (by decide +kernel) ?_⟩
  refine ⟨_,rfl,r,_,_,_,rfl,rfl,bM.of x6,aF (j:=0) rfl,rfl,_,rfl,dw (by decide +kernel) ?_⟩
  refine k t u H6 (fun c1 c2=>?_) ⟨ht6,hu6⟩ o6
  rw [tD Gq hnn,tD Gq hnn] at b6
  have e1:iy (stp y es c1 c2 t u (.part y.n n m a))=putK (iy es) (.inr n) (.str p):=by
   show kv _ (mod y.n (mQ a c2 u) es++[tQ y n m a c1 t])=_
   rw [cM (g:=mQ a c2 u) (x:=tQ y n m a c1 t) (fun _=>rfl) hnn,dh (g:=mQ a c2 u) (fun _=>rfl) (fun _=>rfl)]
   show putK _ _ (dO y.lord)=_
   rw [hp];rfl
  have e2:hoL (stp y es c1 c2 t u (.part y.n n m a))=putK (hoL es) (.inr n) (.str m):=by
   show kv _ (mod y.n (mQ a c2 u) es++[tQ y n m a c1 t])=_
   rw [cM (g:=mQ a c2 u) (x:=tQ y n m a c1 t) (fun _=>rfl) hnn,dh (g:=mQ a c2 u) (fun _=>rfl) (fun _=>rfl)];rfl
  have e3:lZ (stp y es c1 c2 t u (.part y.n n m a))=putK (putK (lZ es) (.inr y.n) (.int (y.own - a))) (.inr n) (.int a):=by
   show kv _ (mod y.n (mQ a c2 u) es++[tQ y n m a c1 t])=_
   rw [cM (g:=mQ a c2 u) (x:=tQ y n m a c1 t) (fun _=>rfl) hnn,iR (g:=mQ a c2 u) (fun _=>rfl) W.nd hy];rfl
  have e4:qD (stp y es c1 c2 t u (.part y.n n m a))=putK (putK (qD es) (.inr y.n) (.ref u)) (.inr n) (.ref t):=by
   show kv _ (mod y.n (mQ a c2 u) es++[tQ y n m a c1 t])=_
   rw [cM (g:=mQ a c2 u) (x:=tQ y n m a c1 t) (fun _=>rfl) hnn,iR (g:=mQ a c2 u) (fun _=>rfl) W.nd hy];rfl
  show BQ q H6 _ _ _ _ (ks++[n])
  rw [e1,e2,e3,e4]
  exact b6
 | convey e m =>
  obtain ⟨hy,rfl⟩:=hst
  refine ⟨_,rfl,r,_,_,_,rfl,rfl,bM.of hx,aF (j:=0) rfl,rfl,_,rfl,dw (by decide +kernel) ?_⟩
  refine ⟨_,rfl,r,_,_,_,rfl,rfl,bM.of hx,aF (j:=0) rfl,rfl,_,rfl,dw (by decide +kernel) ?_⟩
  refine ⟨_,rfl,r,_,_,_,rfl,rfl,bM.of hx,aF (j:=0) rfl,rfl,_,rfl,qy (by decide +kernel) ?_⟩
  refine ⟨_,rfl,r,_,_,_,rfl,rfl,bM.of hx,aF (j:=3) rfl,_,rfl,q.B,_,rfl,bk.gh,_,rfl,r,_,_,_,rfl,rfl,bM.of hx,aF (j:=2) rfl,q.h,_,rfl,gZ.k (k:=.inr y.n) bk.h (bY (Nat.lt_of_le_of_lt kl (by decide))),?_⟩
  have b1:=eV.uh (l':=putK (hoL es) (.inr y.n) (.str m)) ap bk
  have o1:=cY.uh (q:=q) (H:=H) (o:=.dK (putK (hoL es) (.inr y.n) (.str m)))
  have x1:=cR bk o1 hx
  generalize upd H q.h (.dK (putK (hoL es) (.inr y.n) (.str m)))=H1 at b1 o1 x1 ⊢
  refine ⟨_,rfl,r,_,_,_,rfl,rfl,bM.of x1,aF (j:=0) rfl,rfl,_,rfl,dw (by decide +kernel) ?_⟩
  refine ⟨_,rfl,r,_,_,_,rfl,rfl,bM.of x1,aF (j:=0) rfl,rfl,_,rfl,dw (by decide +kernel) ?_⟩
  refine ⟨_,rfl,r,_,_,_,rfl,rfl,bM.of x1,aF (j:=0) rfl,rfl,_,rfl,dw (by decide +kernel) ?_⟩
  refine ⟨_,rfl,r,_,_,_,rfl,rfl,bM.of x1,aF (j:=0) rfl,rfl,_,rfl,dw (by decide +kernel) ?_⟩
  refine k 0 0 H1 (fun c1 c2=>?_) True.intro o1
  have e2:hoL (mod y.n (mU m) es)=putK (hoL es) (.inr y.n) (.str m):=iR (g:=mU m) (fun _=>rfl) W.nd hy
  have e1:iy (mod y.n (mU m) es)=iy es:=dh (g:=mU m) (fun _=>rfl) (fun _=>rfl) es
  have e3:lZ (mod y.n (mU m) es)=lZ es:=dh (g:=mU m) (fun _=>rfl) (fun _=>rfl) es
  have e4:qD (mod y.n (mU m) es)=qD es:=dh (g:=mU m) (fun _=>rfl) (fun _=>rfl) es
  show BQ q H1 (iy (mod y.n (mU m) es)) (hoL (mod y.n (mU m) es)) (lZ (mod y.n (mU m) es)) (qD (mod y.n (mU m) es)) ks
  rw [e1,e2,e3,e4]
  exact b1
 | jY e =>
  obtain ⟨hy,rfl⟩:=hst
  have hne:=hsu _ rfl
  obtain ⟨p,hp,_,_⟩:=W.lord y hy hne
  have ep:y.lord.getD ""=p:=by rw [hp];rfl
  refine ⟨_,rfl,r,_,_,_,rfl,rfl,bM.of hx,aF (j:=0) rfl,rfl,_,rfl,dw (by decide +kernel) ?_⟩
  refine ⟨_,rfl,r,_,_,_,rfl,rfl,bM.of hx,aF (j:=0) rfl,rfl,_,rfl,dw (by decide +kernel) ?_⟩
  refine ⟨_,rfl,r,_,_,_,rfl,rfl,bM.of hx,aF (j:=0) rfl,rfl,_,rfl,dw (by decide +kernel) ?_⟩
  refine ⟨_,rfl,r,_,_,_,rfl,rfl,bM.of hx,aF (j:=0) rfl,rfl,_,rfl,qy (by decide +kernel) ?_⟩
  refine ⟨_,rfl,_,rfl,r,_,_,_,rfl,rfl,bM.of hx,aF (j:=2) rfl,q,es,ks,y,p,rfl,ap,bk,W,hy,hne,hp,by omega,fun H1 b1 o1=>?_⟩
  have x1:=cR bk o1 hx
  refine ⟨_,rfl,r,_,_,_,rfl,rfl,bM.of x1,aF (j:=0) rfl,rfl,_,rfl,dw (by decide +kernel) ?_⟩
  refine ⟨_,rfl,r,_,_,_,rfl,rfl,bM.of x1,aF (j:=0) rfl,rfl,_,rfl,dw (by decide +kernel) ?_⟩
  refine ⟨_,rfl,r,_,_,_,rfl,rfl,bM.of x1,aF (j:=0) rfl,rfl,_,rfl,dw (by decide +kernel) ?_⟩
  refine k 0 0 H1 (fun c1 c2=>?_) True.intro o1
  show Bk q H1 (cL y.n (y.lord.getD "") y.own es) ks
  rw [ep]
  exact b1
end
end M
namespace M
open PySem L2 PyProof.Rows
abbrev Vp:Stmt:=top 39
abbrev Ny:Stmt:=top 40
theorem mH {H:Hp}{p q:Addr}{ss:List Str} (hp:H p=some (.lst (ss.map V.str))) (hq:H q=some (.lst (ss.map V.str))) (hl:ss.length≤1000):N6 H 3 (.ref p) (.ref q):=by
 refine .inr (.inr ⟨p,q,_,_,rfl,rfl,hp,hq,rfl,by rw [List.length_map];exact hl,fun i x y h1 h2=>?_⟩)
 rw [h1] at h2
 cases h2
 rw [List.getElem?_map] at h1
 obtain ⟨z,_,rfl⟩:=Option.map_eq_some_iff.mp h1
 exact .inl ⟨rfl,rfl⟩
theorem XH {H:Hp}{p q:Addr}{x y:Int} (hp:H p=some (.tup [.int x,.int y])) (hq:H q=some (.tup [.int x,.int y])):N6 H 2 (.ref p) (.ref q):=by
 refine .inr (.inl ⟨p,q,_,_,rfl,rfl,hp,hq,rfl,by simp,fun i u v h1 h2=>?_⟩)
 rw [h1] at h2
 cases h2
 have:u=.int x∨u=.int y:=by
  match i,h1 with
  | 0,h1=>exact .inl (by simpa using h1.symm)
  | 1,h1=>exact .inr (by simpa using h1.symm)
  | (i+2),h1=>simp at h1
 rcases this with rfl | rfl <;> exact .inl ⟨rfl,rfl⟩
theorem Gh (o:Option Str):PN (dO o)=true:=by cases o <;> rfl
theorem Nz {H:Hp}{p q ta tb:Addr}{m:Str}{o:Option Str}{i j:Int}{d:Int×Int} (hp:H p=some (.tup [.str m,dO o,.int i,.int j,.ref ta])) (hq:H q=some (.tup [.str m,dO o,.int i,.int j,.ref tb])) (h1:wC H ta d.1 d.2) (h2:wC H tb d.1 d.2):N6 H 3 (.ref p) (.ref q):=by
 refine .inr (.inl ⟨p,q,_,_,rfl,rfl,hp,hq,rfl,by simp,fun i u v e1 e2=>?_⟩)
 match i,e1,e2 with
 | 0,e1,e2=>simp at e1 e2;subst e1 e2;exact .inl ⟨rfl,rfl⟩
 | 1,e1,e2=>simp at e1 e2;subst e1 e2;exact .inl ⟨rfl,Gh o⟩
 | 2,e1,e2=>simp at e1 e2;subst e1 e2;exact .inl ⟨rfl,rfl⟩
 | 3,e1,e2=>simp at e1 e2;subst e1 e2;exact .inl ⟨rfl,rfl⟩
 | 4,e1,e2=>simp at e1 e2;subst e1 e2;exact XH h1 h2
 | (i+5),e1,e2=>simp at e1
def XJ (C:Addr):Sp:=fun vs H Q _=>∃ q es ks ls j e,vs=[.ref q.x,.ref q.B,.str e.n]∧Rel C q H es ks ls j∧e∈es∧es.length≤18∧∀ H',Same H H'→Q (.bl true) H'
def XM (C:Addr):Sp:=fun vs H Q _=>∃ q es ks ls j,vs=[.ref q.x,.ref q.B]∧Rel C q H es ks ls j∧es.length≤18∧∀ H',Same H H'→Q (.bl true) H'
section
variable {P:Program}{w:World}{K:PySem.W.Frag}{mg:Str→Option Value}{base:Heap}{f C:Addr}{fd:FuncData}
theorem U8:aZ ["_law_land", "_law_book_here", "_law_estate", "_law_told", "_law_due"] ["_law_land", "_law_book_here", "_law_estate"] (aC Vp):=⟨rfl,rfl,rfl,by decide +kernel,rfl,by decide +kernel,by decide +kernel⟩
set_option maxHeartbeats 8000000 in
theorem XQ (T:cX K C) (F:fH K "_law_estate_is" "_law_estate_is" Vp f fd) {g1 g2 g3 g4 g5 g6 g7 g8 g9 XR XS Y0:Addr}{d1 d2 d3 d4 d5 d6 d7 d8 d9 Y4 Y5 tY:FuncData}
  (G1:aL P w K mg base cu 3 g1 d1 ["self", "estate"] (sI C)) (m1:Meth K C "holder" g1) (b1:Binds K d1 ["self", "estate"] [])
  (G2:aL P w K mg base cu 3 g2 d2 ["self", "estate"] (Aj C)) (m2:Meth K C "lord" g2) (b2:Binds K d2 ["self", "estate"] [])
  (G3:aL P w K mg base cu 3 g3 d3 ["self", "estate"] (Je C)) (m3:Meth K C "own" g3) (b3:Binds K d3 ["self", "estate"] [])
  (G4:aL P w K mg base cu 3 g4 d4 ["self", "estate"] (pR C)) (m4:Meth K C "breadth" g4) (b4:Binds K d4 ["self", "estate"] [])
  (G5:aL P w K mg base cu 3 g5 d5 ["self", "estate"] (pU C)) (m5:Meth K C "service" g5) (b5:Binds K d5 ["self", "estate"] [])
  (G6:aL P w K mg base cu 3 g6 d6 ["self", "estate"] (wu C)) (m6:Meth K C "chain" g6) (b6:Binds K d6 ["self", "estate"] [])
  (G7:aL P w K mg base cu 1 g7 d7 ["self", "estate"] (oO C)) (m7:Meth K C "there" g7) (b7:Binds K d7 ["self", "estate"] [])
  (G8:aL P w K mg base cu 3 g8 d8 ["self", "estate"] (qP C)) (m8:Meth K C "under" g8) (b8:Binds K d8 ["self", "estate"] [])
  (G9:aL P w K mg base cu 2 g9 d9 ["_law_book_here", "_law_estate"] TF) (M9:Ms K mg "_law_breadth" g9 d9 ["_law_book_here", "_law_estate"])
  (U9:aL P w K mg base cu 1 XR Y4 ["_law_book_here", "_law_estate"] Qi) (NK:Ms K mg "_law_chain" XR Y4 ["_law_book_here", "_law_estate"])
  (NP:aL P w K mg base cu 1 XS Y5 ["_law_book_here", "_law_estate"] Dq) (M11:Ms K mg "_law_under" XS Y5 ["_law_book_here", "_law_estate"])
  (NQ:aL P w K mg base cu 3 Y0 tY ["_law_found", "_law_due"] (pY 3)) (Bq:Ms K mg "_law_same" Y0 tY ["_law_found", "_law_due"]) :
  aL P w K mg base cu 4 f fd ["_law_land", "_law_book_here", "_law_estate"] (XJ C):=by
 refine F.ok U8 (fun vs H Q E h=>?_) (fun cdv A outer s H vs Q E hr h=>?_)
 ·obtain ⟨q,es,ks,ls,j,e,rfl,_⟩:=h
  rfl
 obtain ⟨q,es,ks,ls,j,e,rfl,R,he,hl,k⟩:=h
 have G7:=aL.mono (k:=3) G7 (by omega)
 have G9:=aL.mono (k:=3) G9 (by omega)
 have U9:=aL.mono (k:=3) U9 (by omega)
 have NP:=aL.mono (k:=3) NP (by omega)
 refine ⟨_,(aq (aY (i:=3) U8.nd rfl (Or.inl rfl) (cG (aj (bH (pv 0) T.cl m1 G1 hr b1 .nil bD (aj (pv 2) aA)) (aj (bH (pv 0) T.cl m2 G2 hr b2 .nil bD (aj (pv 2) aA)) (aj (bH (pv 0) T.cl m3 G3 hr b3 .nil bD (aj (pv 2) aA)) (aj (bH (pv 0) T.cl m4 G4 hr b4 .nil bD (aj (pv 2) aA)) (aj (bH (pv 0) T.cl m5 G5 hr b5 .nil bD (aj (pv 2) aA)) aA)))))))
  (aq (aY (i:=4) U8.nd rfl (Or.inl rfl) (cG (aj (aO (u1 hr) (aO (u1 hr) (pv 1) aJ (fun _ _=>rfl)) (pv 2) (fun _ _=>rfl)) (aj (aO (u1 hr) (aO (u1 hr) (pv 1) aJ (fun _ _=>rfl)) (pv 2) (fun _ _=>rfl)) (aj (aO (u1 hr) (aO (u1 hr) (pv 1) aJ (fun _ _=>rfl)) (pv 2) (fun _ _=>rfl)) (aj (bf G9 hr rfl M9.m M9.k M9.b .nil bD (aj (pv 1) (aj (pv 2) aA))) aA))))))
  (aq (bJ (gb (dU (bf NQ hr rfl Bq.m Bq.k Bq.b .nil bD (aj (pv 3) (aj (aN vL (pv 4) (cG (aj (aO (u1 hr) (aO (u1 hr) (pv 1) aJ (fun _ _=>rfl)) (pv 2) (fun _ _=>rfl)) aA))) aA))))) bN aQ)
  (aq (bJ (PW.pt (qe (gb (dU (bf NQ hr rfl Bq.m Bq.k Bq.b .nil bD (aj (bH (pv 0) T.cl m6 G6 hr b6 .nil bD (aj (pv 2) aA)) (aj (bf U9 hr rfl NK.m NK.k NK.b .nil bD (aj (pv 1) (aj (pv 2) aA))) aA))))) (kE (gb (dU (bf NQ hr rfl Bq.m Bq.k Bq.b .nil bD (aj (bH (pv 0) T.cl m7 G7 hr b7 .nil bD (aj (pv 2) aA)) (aj kj aA)))))))) bN aQ)
  (aG (aW (bf NQ hr rfl Bq.m Bq.k Bq.b .nil bD (aj (bH (pv 0) T.cl m8 G8 hr b8 .nil bD (aj (pv 2) aA)) (aj (bf NP hr rfl M11.m M11.k M11.b .nil bD (aj (pv 1) (aj (pv 2) aA))) aA))))))))),?_⟩
 have W:=R.W
 have L:=R.L
 have bk:=R.B
 have ap:=R.ap
 have hen:e.n∈nms es:=List.mem_map.mpr ⟨e,he,rfl⟩
 have hs:(bQ (iy es) (.inr e.n)).isSome=true:=by rw [gA,decide_eq_true hen]
 obtain ⟨f1,f2,_⟩:=R.fr e he
 obtain ⟨l,hch,hll⟩:=W.chain he
 refine ⟨_,rfl,q.x,q.dx,_,rfl,L.o,rfl,_,rfl,q.x,q.dx,q.a1,q.a2,q.a3,q.a4,q.a5,_,_,_,_,_,e.n,_,rfl,L,hs,cg W.nd he,_,rfl,q.x,q.dx,_,rfl,L.o,rfl,_,rfl,q.x,q.dx,q.a1,q.a2,q.a3,q.a4,q.a5,_,_,_,_,_,e.n,_,rfl,L,hs,cg W.nd he,_,rfl,q.x,q.dx,_,rfl,L.o,rfl,_,rfl,q.x,q.dx,q.a1,q.a2,q.a3,q.a4,q.a5,_,_,_,_,_,e.n,_,rfl,L,hs,cg W.nd he,_,rfl,q.x,q.dx,_,rfl,L.o,rfl,_,rfl,q.x,q.dx,q.a1,q.a2,q.a3,q.a4,q.a5,_,_,_,_,_,e.n,_,rfl,L,hs,cg W.nd he,_,rfl,q.x,q.dx,_,rfl,L.o,rfl,_,rfl,q.x,q.dx,q.a1,q.a2,q.a3,q.a4,q.a5,_,_,_,_,_,e.n,_,rfl,L,hs,cg W.nd he,small (by simp),fun t1 ht1=>?_⟩
 have s1:=aD ht1 (.tup [.str e.man,dO e.lord,.int e.own,.int e.br,.ref e.ta])
 have k1:(upd H t1 (.tup [.str e.man,dO e.lord,.int e.own,.int e.br,.ref e.ta])) t1=some (.tup [.str e.man,dO e.lord,.int e.own,.int e.br,.ref e.ta]):=ak
 generalize upd H t1 (.tup [.str e.man,dO e.lord,.int e.own,.int e.br,.ref e.ta])=H1 at s1 k1 ⊢
 have R1:=R.same s1
 refine ⟨_,rfl,q.B,_,rfl,R1.B.gh,_,rfl,q.h,_,rfl,Bo R1.B.h W.nd he,_,rfl,q.B,_,rfl,R1.B.gl,_,rfl,q.l,_,rfl,Bo R1.B.l W.nd he,_,rfl,q.B,_,rfl,R1.B.go,_,rfl,q.o,_,rfl,Bo R1.B.o W.nd he,_,rfl,_,rfl,q,es,ks,e,rfl,ap,R1.B,W,he,hl,fun H2 s2=>⟨small (by simp),fun t2 Du=>?_⟩⟩
 have s3:=aD Du (.tup [.str e.man,dO e.lord,.int e.own,.int e.br])
 have k2:(upd H2 t2 (.tup [.str e.man,dO e.lord,.int e.own,.int e.br])) t2=some (.tup [.str e.man,dO e.lord,.int e.own,.int e.br]):=ak
 generalize upd H2 t2 (.tup [.str e.man,dO e.lord,.int e.own,.int e.br])=H3 at s3 k2 ⊢
 have Ua:=s2.trans s3
 have Br:=s1.trans Ua
 have R3:=R.same Br
 refine ⟨_,rfl,_,rfl,_,rfl,q.B,_,rfl,R3.B.gd,_,rfl,q.d,_,rfl,Bo R3.B.d W.nd he,small (by simp),fun t3 K6=>?_⟩
 have s4:=aD K6 (.tup [.ref e.tb])
 refine ⟨t2,t3,_,_,rfl,rfl,bM.of (s4 _ _ k2),bM.of ak,(by simp),small (by simp),(fun z=>absurd z (by simp)),fun _ t4 Nv=>?_⟩
 have s5:=aD Nv (.tup [.str e.man,dO e.lord,.int e.own,.int e.br,.ref e.tb])
 have s35:=s4.trans s5
 refine ⟨_,_,rfl,Nz (d:=e.due) (s35 _ _ (Ua _ _ k1)) ak (s35 _ _ (Br _ _ f1)) (s35 _ _ (Br _ _ f2)),fun H6 s6=>⟨_,rfl,cB ?_⟩⟩
 have Qs:=(Br.trans s35).trans s6
 have R6:=R.same Qs
 refine ⟨_,rfl,q.x,q.dx,_,rfl,R6.L.o,rfl,_,rfl,q.x,q.dx,q.a1,q.a2,q.a3,q.a4,q.a5,_,_,_,_,_,e.n,l,rfl,R6.L,hs,hch,by omega,fun r1 H7 s7 hr1 Ub=>?_⟩
 have R7:=R6.same s7
 refine ⟨_,rfl,_,rfl,q,es,ks,e.n,l,rfl,ap,R7.B,W,hen,hch,by omega,fun r2 H8 s8 hr2 hr2'=>?_⟩
 refine ⟨_,_,rfl,mH (s8 _ _ Ub) hr2' (by omega),fun H9 s9=>⟨_,rfl,cB ?_⟩⟩
 have s09:=((Qs.trans s7).trans s8).trans s9
 have R9:=R.same s09
 refine ⟨_,rfl,q.x,q.dx,_,rfl,R9.L.o,rfl,_,rfl,q.x,q.dx,q.a1,q.a2,q.a3,q.a4,q.a5,_,_,_,_,_,e.n,rfl,R9.L,?_⟩
 rw [hs]
 refine ⟨_,_,rfl,.inl ⟨rfl,rfl⟩,fun H10 s10=>⟨_,rfl,cB ?_⟩⟩
 have Y6:=s09.trans s10
 have R10:=R.same Y6
 refine ⟨_,rfl,q.x,q.dx,_,rfl,R10.L.o,rfl,_,rfl,q.x,q.dx,q.a1,q.a2,q.a3,q.a4,q.a5,_,_,_,_,_,e.n,rfl,R10.L,hs,vg,JF,by rw [gO];omega,fun r3 ss H11 s11 wD Uc hp hso=>?_⟩
 have R11:=R10.same s11
 refine ⟨_,rfl,_,rfl,q,es,ks,e.n,rfl,ap,R11.B,W.nd,by omega,fun r4 ss' H12 s12 Di hr4' hp' hso'=>?_⟩
 have ess:ss=ss':=nA ((Dm hp).trans hp'.symm) hso hso'
 subst ess
 have hsl:ss.length≤es.length:=by
  rw [hp'.length_eq,List.length_map]
  exact List.length_filter_le _ _
 exact ⟨_,_,rfl,mH (s12 _ _ Uc) hr4' (by omega),fun H13 Ua=>k _ (((Y6.trans s11).trans s12).trans Ua)⟩
theorem Ud:aZ ["_law_land", "_law_book_here", "_law_names_here", "_law_folk"] ["_law_land", "_law_book_here"] (aC Ny):=⟨rfl,rfl,rfl,by decide +kernel,rfl,by decide +kernel,by decide +kernel⟩
def Y7:Scope:={ kind:=.function,names:=[(".0",.local),("_law_one",.local)],isGenerator:=false,isCoroutine:=false }
theorem Y8:cT ["_law_land", "_law_book_here", "_law_names_here", "_law_folk"] (aC Ny) Y7 ["_law_one"] [] []:=⟨rfl,by decide +kernel,by decide +kernel,by decide +kernel,rfl,by decide +kernel⟩
theorem Y9:((["_law_one"]:List Str)++([]:List Str)).Nodup:=by decide +kernel
def Yb:Scope:={ kind:=.function,names:=[(".0",.local),("_law_man",.local),("_law_same",.globalImplicit),("_law_held",.globalImplicit),("_law_book_here",.free),("_law_land",.free)],isGenerator:=false,isCoroutine:=false }
theorem Yc:cT ["_law_land", "_law_book_here", "_law_names_here", "_law_folk"] (aC Ny) Yb ["_law_man"] ["_law_book_here", "_law_land"] [1,0]:=⟨rfl,by decide +kernel,by decide +kernel,by decide +kernel,rfl,by decide +kernel⟩
theorem Yd:((["_law_man"]:List Str)++(["_law_book_here", "_law_land"]:List Str)).Nodup:=by decide +kernel
def Ye:Scope:={ kind:=.function,names:=[(".0",.local),("_law_estate",.local),("_law_estate_is",.globalImplicit),("_law_book_here",.free),("_law_land",.free)],isGenerator:=false,isCoroutine:=false }
theorem Yg:cT ["_law_land", "_law_book_here", "_law_names_here", "_law_folk"] (aC Ny) Ye ["_law_estate"] ["_law_book_here", "_law_land"] [1,0]:=⟨rfl,by decide +kernel,by decide +kernel,by decide +kernel,rfl,by decide +kernel⟩
theorem Yh:((["_law_estate"]:List Str)++(["_law_book_here", "_law_land"]:List Str)).Nodup:=by decide +kernel
theorem Ue:bootBuiltins "set"=some (.type "set"):=by decide +kernel
theorem vD {α:Type} (l:List α):l.filter (fun _=>true)=l:=List.filter_eq_self.mpr fun _ _=>rfl
set_option maxHeartbeats 8000000 in
theorem Yi (T:cX K C) (F:fH K "_law_land_is" "_law_land_is" Ny f fd) (m:MgS mg) (ms:mg "sorted"=none) (mse:mg "set"=none) {g1 g2 g3 g4 g5 g6:Addr}{d1 d2 d3 d4 d5 d6:FuncData}
  (G1:aL P w K mg base cu 1 g1 d1 ["self"] (uX C)) (m1:Meth K C "estates" g1) (b1:Binds K d1 ["self"] [])
  (G2:aL P w K mg base cu 1 g2 d2 ["self"] (JX C)) (m2:Meth K C "folk" g2) (b2:Binds K d2 ["self"] [])
  (G3:aL P w K mg base cu 1 g3 d3 ["self", "man"] (Am C)) (m3:Meth K C "held" g3) (b3:Binds K d3 ["self", "man"] [])
  (G4:aL P w K mg base cu 1 g4 d4 ["_law_book_here", "_law_man"] JZ) (M4:Ms K mg "_law_held" g4 d4 ["_law_book_here", "_law_man"])
  (G5:aL P w K mg base cu 3 g5 d5 ["_law_found", "_law_due"] (pY 3)) (M5:Ms K mg "_law_same" g5 d5 ["_law_found", "_law_due"])
  (G6:aL P w K mg base cu 4 g6 d6 ["_law_land", "_law_book_here", "_law_estate"] (XJ C)) (M6:Ms K mg "_law_estate_is" g6 d6 ["_law_land", "_law_book_here", "_law_estate"]) :
  aL P w K mg base cu 5 f fd ["_law_land", "_law_book_here"] (XM C):=by
 refine F.ok Ud (fun vs H Q E h=>?_) (fun cdv A outer s H vs Q E hr h=>?_)
 ·obtain ⟨q,es,ks,ls,j,rfl,_⟩:=h
  rfl
 obtain ⟨q,es,ks,ls,j,rfl,R,hl,k⟩:=h
 have G1:=aL.mono (k:=4) G1 (by omega)
 have G2:=aL.mono (k:=4) G2 (by omega)
 have G3:=aL.mono (k:=4) G3 (by omega)
 have G4:=aL.mono (k:=4) G4 (by omega)
 have G5:=aL.mono (k:=4) G5 (by omega)
 refine ⟨_,(aq (aY (i:=2) Ud.nd rfl (Or.inl rfl) (aP dF rfl ms eG (aj (mY (fJ rfl Y8 (oJ (aO (u1 hr) (pv 1) aJ (fun _ _=>rfl))) (fun s H fp C'=>⟨bL (i:=0) Y9 rfl (Or.inl rfl),eU (aM jT (pv 0) aJ (bA _)),pv 0⟩))) aA)))
  (aq (aY (i:=3) Ud.nd rfl (Or.inl rfl) (aP (oM hr.hd) rfl ms eG (aj (iW (Af hr.hd) rfl mse Ue (aj (iW (zY hr.hd) rfl m.list nZ (aj (Ez (aO (u1 hr) (pv 1) aJ (fun _ _=>rfl))) aA)) aA)) aA)))
  (aq (bJ (PW.pt (qe (gb (dU (bf G5 hr rfl M5.m M5.k M5.b .nil bD (aj (xH (pv 0) T.cl m1 G1 hr b1 .nil bD) (aj (pv 2) aA))))) (kE (gb (dU (bf G5 hr rfl M5.m M5.k M5.b .nil bD (aj (xH (pv 0) T.cl m2 G2 hr b2 .nil bD) (aj (pv 3) aA)))))))) bN aQ)
  (aq (bJ (gb (dU (aP (lW (K:=K) rfl hr.hd) rfl m.all vR (aj (fJ rfl Yc (fD (pv 3)) (fun s H fp C'=>⟨bL (i:=0) Yd rfl (Or.inl rfl),lR,(bf G5 hr rfl M5.m M5.k M5.b .nil bD (aj (bH (pv 2) T.cl m3 G3 hr b3 .nil bD (aj (pv 0) aA)) (aj (bf G4 hr rfl M4.m M4.k M4.b .nil bD (aj (pv 1) (aj (pv 0) aA))) aA)))⟩)) aA)))) bN aQ)
  (aG (aW (aP (lW (K:=K) rfl hr.hd) rfl m.all vR (aj (fJ rfl Yg (fD (aN jK (cI (aj aJ aA)) (pv 2))) (fun s H fp C'=>⟨bL (i:=0) Yh rfl (Or.inl rfl),lR,(bf G6 hr rfl M6.m M6.k M6.b .nil bD (aj (pv 2) (aj (pv 1) (aj (pv 0) aA))))⟩)) aA)))))))),?_⟩
 have W:=R.W
 have bk:=R.B
 have ap:=R.ap
 have nB:q.B≠q.l:=bV ap 5 6 rfl rfl (by decide)
 have gB:∀ {o:Obj}{Hz:Hp},Same (upd H q.l (.fX o (.dK (iy es)))) Hz→dR Hz q.B (V.str "lords") (some (.ref q.l)):=fun sz=>fP (sz _ _ (by rw [ao nB];exact bk.b)) bk.vl
 refine mq (fun y=>!decide (y.n="")) bk.l (by omega) (fun o R' hR=>⟨_,rfl,q.B,_,rfl,gB (Same.refl _),hR⟩) (fun o y Hz A B hy sz hAB=>?_) (fun D Hz sz Vn gG=>?_)
 ·refine ⟨Kp.set rfl (Kp.refl _),_,rfl,rfl,_,rfl,?_⟩
  rw [dB]
  refine eZ (fun c=>?_) (fun c=>?_)
  ·rw [if_pos c] at hAB
   exact ⟨_,rfl,hAB⟩
  ·rw [if_neg c] at hAB
   exact hAB
 have Ug:(es.filter fun y:bC=>!decide (y.n=("" : Str))).length≤es.length:=List.length_filter_le _ _
 refine ⟨D,_,rfl,bR.of gG,(by rw [List.length_map];omega),fun r1 ns hr1 hpn hsn=>?_⟩
 have s1:=sz.trans (aD hr1 (.lst (ns.map V.str)))
 have k1:(upd Hz r1 (.lst (ns.map V.str))) r1=some (.lst (ns.map V.str)):=ak
 generalize upd Hz r1 (.lst (ns.map V.str))=H1 at s1 k1 ⊢
 have R1:=R.same s1
 have nl:ns.length≤es.length:=by rw [hpn.length_eq,List.length_map];exact Ug
 refine ⟨_,rfl,q.B,_,rfl,R1.B.gh,q.h,_,rfl,R1.B.h,fun v1 hv1=>?_⟩
 have sv:=aD hv1 (jg v1 q.h)
 have kv1:(upd H1 v1 (jg v1 q.h)) v1=some (jg v1 q.h):=ak
 generalize upd H1 v1 (jg v1 q.h)=Ha at sv kv1 ⊢
 refine ⟨v1,q.h,_,rfl,kv1,sv _ _ R1.B.h,fun l1 hl1=>?_⟩
 have em:(hoL es).map (·.2)=(es.map (·.man)).map V.str:=by rw [List.map_map,List.map_map];rfl
 rw [em]
 have sl:=sv.trans (aD hl1 (.lst ((es.map (·.man)).map V.str)))
 have Uh:(upd Ha l1 (.lst ((es.map (·.man)).map V.str))) l1=some (.lst ((es.map (·.man)).map V.str)):=ak
 generalize upd Ha l1 (.lst ((es.map (·.man)).map V.str))=Hb at sl Uh ⊢
 refine ⟨l1,_,rfl,bR.of Uh,(by rw [List.length_map];omega),fun se hse=>?_⟩
 have al:=oN (es.map (·.man))
 rw [List.length_map] at al
 have ss0:=sl.trans (aD hse (ig P w se (jq (es.map (·.man)))))
 have kse:(upd Hb se (ig P w se (jq (es.map (·.man))))) se=some (ig P w se (jq (es.map (·.man)))):=ak
 refine ⟨se,_,rfl,ak,by omega,fun r2 fk hr2 hpf hsf=>?_⟩
 have hr2':(upd Hb se (ig P w se (jq (es.map (·.man))))) r2=none:=hr2
 have s12:=ss0.trans (aD hr2' (.lst (fk.map V.str)))
 have s2:=s1.trans s12
 have k1':=s12 _ _ k1
 have k2:(upd (upd Hb se (ig P w se (jq (es.map (·.man))))) r2 (.lst (fk.map V.str))) r2=some (.lst (fk.map V.str)):=ak
 change (Gy _ _) _ _ (upd (upd Hb se (ig P w se (jq (es.map (·.man))))) r2 (.lst (fk.map V.str)))
 generalize upd (upd Hb se (ig P w se (jq (es.map (·.man))))) r2 (.lst (fk.map V.str))=H2 at s2 k1' k2 ⊢
 have R2:=R.same s2
 have fl:fk.length≤es.length:=by rw [hpf.length_eq];exact al
 refine ⟨_,rfl,q.x,q.dx,_,rfl,R2.L.o,rfl,q.x,q.dx,q.a1,q.a2,q.a3,q.a4,q.a5,_,_,_,_,_,rfl,R2.L,vg,by rw [gO];omega,fun r3 ss H3 s3 wD Uc hp3 hs3=>?_⟩
 have e3:ss=ns:=by
  rw [qT] at hp3
  exact nA (hp3.trans hpn.symm) hs3 hsn
 subst e3
 refine ⟨_,rfl,_,_,rfl,mH Uc (s3 _ _ k1') (by omega),fun H4 s4=>⟨_,rfl,cB ?_⟩⟩
 have Bs:=(s2.trans s3).trans s4
 have R4:=R.same Bs
 refine ⟨_,rfl,q.x,q.dx,_,rfl,R4.L.o,rfl,q,es,rfl,R4.L,by omega,fun r5 ff H5 s5 Dj hr5' hp5 KC=>?_⟩
 have e5:ff=fk:=Bh (hp5.trans hpf.symm) KC hsf
 subst e5
 have k2':=s4 _ _ (s3 _ _ k2)
 refine ⟨_,rfl,_,_,rfl,mH hr5' (s5 _ _ k2') (by omega),fun H6 s6=>⟨_,rfl,cB ?_⟩⟩
 have Qs:=(Bs.trans s5).trans s6
 have k26:=s6 _ _ (s5 _ _ k2')
 have k16:=s6 _ _ (s5 _ _ (s4 _ _ (s3 _ _ k1')))
 refine ⟨_,rfl,r2,rfl,⟨_,bR.of k26⟩,fun D2 hD2=>fK (xs:=ff) (fun _=>true) (fun _=>V.bl true) (bR.of k26) hD2 (by omega) (fun x Ui A B hx Gi hAB=>?_) (fun Ui Gi qF=>?_)⟩
 ·refine ⟨Kp.set rfl (Kp.refl _),jy ?_⟩
  have s07:=Qs.trans Gi
  have R7:=R.same s07
  refine ⟨_,rfl,q.x,q.dx,_,rfl,R7.L.o,rfl,_,rfl,q.x,q.dx,q.a1,q.a2,q.a3,q.a4,q.a5,_,_,_,_,_,x,rfl,R7.L,vg,Qg,by rw [gO];omega,fun r8 s8l H8 s8 hr8 hr8' hp8 hs8=>?_⟩
  have R8:=R7.same s8
  refine ⟨_,rfl,_,rfl,q,es,ks,x,rfl,ap,R8.B,W.nd,by omega,fun r9 s9l H9 s9 hr9 hr9' hp9 hs9=>?_⟩
  have e9:s8l=s9l:=by
   rw [qT] at hp8
   have ef:(es.filter fun e=>decide (V.str e.man=V.str x))=es.filter fun y=>decide (y.man=x):=List.filter_congr fun y _=>dB
   have hp8':s8l.Perm ((es.filter fun y=>decide (y.man=x)).map (·.n)):=by rw [← ef];exact hp8
   exact nA (hp8'.trans hp9.symm) hs8 hs9
  subst e9
  have l8:s8l.length≤es.length:=by rw [hp9.length_eq,List.length_map];exact List.length_filter_le _ _
  refine ⟨_,_,rfl,mH (s9 _ _ hr8') hr9' (by omega),fun H10 s10=>?_⟩
  have:=hAB _ ((s8.trans s9).trans s10)
  rw [if_pos rfl] at this
  exact this
 have ebl:(ff.filter fun _=>true).map (fun _=>V.bl true)=(List.replicate ff.length true).map V.bl:=by rw [vD,List.map_const',List.map_replicate]
 refine ⟨D2,List.replicate ff.length true,rfl,bR.of (by rw [← ebl];exact qF),?_⟩
 rw [all_true fun b hb=>List.eq_of_mem_replicate hb]
 refine ⟨_,rfl,cB ?_⟩
 have s07:=Qs.trans Gi
 have k17:=Gi _ _ k16
 refine ⟨small (by simp),fun c1 hc1=>?_⟩
 have sc1:=aD hc1 (.lst [.str ""])
 refine ⟨_,rfl,c1,r1,_,_,rfl,rfl,ak,sc1 _ _ k17,(by rw [List.length_map,List.length_singleton];exact small (by omega)),fun c2 hc2=>?_⟩
 have Yj:=sc1.trans (aD hc2 (.lst ([.str ""]++ss.map V.str)))
 have kc2:(upd (upd Ui c1 (.lst [.str ""])) c2 (.lst ([.str ""]++ss.map V.str))) c2=some (.lst (((("" : Str)::ss)).map V.str)):=ak
 generalize upd (upd Ui c1 (.lst [.str ""])) c2 (.lst ([.str ""]++ss.map V.str))=H11 at Yj kc2 ⊢
 have Yk:=s07.trans Yj
 refine ⟨c2,rfl,⟨_,bR.of kc2⟩,fun D3 hD3=>fK (xs:=""::ss) (fun _=>true) (fun _=>V.bl true) (bR.of kc2) hD3 (by rw [List.length_cons];omega) (fun x Hz3 A B hx sz3 hAB=>?_) (fun Hz3 sz3 hDz3=>?_)⟩
 ·refine ⟨Kp.set rfl (Kp.refl _),jy ?_⟩
  have hxn:x∈nms es:=by
   rcases List.mem_cons.mp hx with z | z
   ·rw [z];exact W.mem0
   ·obtain ⟨y,hy,rfl⟩:=List.mem_map.mp (hpn.mem_iff.mp z)
    exact List.mem_map.mpr ⟨y,(List.mem_filter.mp hy).1,rfl⟩
  obtain ⟨y,hy,rfl⟩:=dJ hxn
  refine ⟨_,rfl,_,rfl,_,rfl,q,es,ks,ls,j,y,rfl,R.same (Yk.trans sz3),hy,hl,fun H12 s12=>?_⟩
  have:=hAB _ s12
  rw [if_pos rfl] at this
  exact this
 have ebl3:((("" : Str)::ss).filter fun _=>true).map (fun _=>V.bl true)=(List.replicate (("" : Str)::ss).length true).map V.bl:=by rw [vD,List.map_const',List.map_replicate]
 refine ⟨D3,List.replicate (("" : Str)::ss).length true,rfl,bR.of (by rw [← ebl3];exact hDz3),?_⟩
 rw [all_true fun b hb=>List.eq_of_mem_replicate hb]
 exact k _ (Yk.trans sz3)
end
end M
namespace M
open PySem L2
abbrev nG:Stmt:=top 24
def az:Str:="abcdefghijklmnopqrstuvwxyz"
def low (c:Nat):Bool:=decide (97≤c)&&decide (c≤122)
def nameB (l:List Nat):Bool:=l.all low&&(decide (1≤l.length)&&decide (l.length≤8))
theorem oW {α:Type}{xs:List α}{i:Int} (h0:0≤i) (h1:i<xs.length):∃ v,yX xs i=some v∧v∈xs:=by
 have hi:i.toNat<xs.length:=by omega
 have e:i=((i.toNat:Nat):Int):=by omega
 refine ⟨xs[i.toNat],?_,List.getElem_mem hi⟩
 have q:yX xs ((i.toNat:Nat):Int)=some xs[i.toNat]:=aF (by simp [hi])
 rw [← e] at q
 exact q
theorem Bt (cs:List Nat):(Txt.join (Str.ofString "") (cs.map fun c=>gH [c]))=gH cs:=by
 have e:(Str.ofString "").cps=#[]:=by decide +kernel
 have fo:∀ (ds:List Nat) (acc:Array Nat),(ds.map fun c=>gH [c]).foldl (fun acc p=>acc++(Str.ofString "").cps++p.cps) acc=acc++ds.toArray:=by
  intro ds
  induction ds with
  | nil=>intro acc;simp
  | cons d r ih =>
   intro acc
   rw [List.map_cons,List.foldl_cons,ih,e]
   simp
 show Builtin.Str.glued (Str.ofString "") (cs.map fun c=>gH [c])=_
 cases cs with
 | nil=>rfl
 | cons c r =>
  unfold Builtin.Str.glued
  rw [List.map_cons,List.drop_one,List.tail_cons,fo,List.headD_cons]
  simp [gH]
theorem NT {cs:List Nat} (h:cs.length≤1000):JoinOk (Str.ofString "") (cs.map fun c=>gH [c])=true:=by
 have e:(Str.ofString "").length=0:=by decide +kernel
 have fo:∀ (ds:List Nat) (n:Nat),(ds.map fun c=>gH [c]).foldl (fun a p=>a+p.length+(Str.ofString "").length) n=n+ds.length:=by
  intro ds
  induction ds with
  | nil=>intro n;simp
  | cons d r ih =>
   intro n
   rw [List.map_cons,List.foldl_cons,ih,e,iK]
   simp;omega
 unfold JoinOk
 rw [List.foldl_toArray',fo]
 ·unfold Builtin.Str.tooLong
  have:=small (n:=cs.length) (by omega)
  simp;omega
 ·rfl
theorem app_list (x y:Str):(x++y).cps.toList=x.cps.toList++y.cps.toList:=by
 show (x.cps++y.cps).toList=_
 simp
theorem NZ (x y:Str):(x++y).length=x.length+y.length:=by
 have e:∀ z:Str,z.length=z.cps.toList.length:=fun z=>by simp [Str.length]
 rw [e,e,e,app_list,List.length_append]
theorem fL {fs:List Int} (h:∀ v∈fs,v8 v) {i:Int} (h0:0≤i) (h1:i<fs.length):∃ v:Int,yX (fs.map V.int) i=some (.int v)∧v8 v:=by
 obtain ⟨x,e,m⟩:=oW (xs:=fs.map V.int) h0 (by rw [List.length_map];exact h1)
 obtain ⟨v,hv,rfl⟩:=List.mem_map.mp m
 exact ⟨v,e,h v hv⟩
theorem Yl:∀ i:_root_.Fin 26,az.cps.toList[i.val]?=some (97+i.val):=by decide +kernel
theorem K8 {i:Int} (h0:0≤i) (h1:i<26):yX az.cps.toList i=some (97+i.toNat):=by
 have e:i=((i.toNat:Nat):Int):=by omega
 have q:yX az.cps.toList ((i.toNat:Nat):Int)=some (97+i.toNat):=aF (Yl ⟨i.toNat,by omega⟩)
 rw [← e] at q
 exact q
theorem K9 {i:Nat} (h:i<26):low (97+i)=true:=by simp [low];omega
theorem rep1 (n c:Nat):oh n [c]=List.replicate n c:=by
 unfold oh
 induction n with
 | zero=>rfl
 | succ n ih=>rw [List.replicate_succ,List.flatten_cons,ih];rfl
theorem O1 {α:Type}{xs:List α}{j:Nat} (h:j≤xs.length):qC xs none (some (j:Int))=xs.take j:=by
 unfold qC
 have e1:HT.eY xs.length 0 none=0:=rfl
 rw [e1,HT.nR,List.drop_zero,Nat.sub_zero,Nat.min_eq_left h]
theorem Gj {α:Type}{xs:List α}{j:Nat} (h:j≤xs.length):qC xs (some (j:Int)) none=xs.drop j:=by
 unfold qC
 have e2:HT.eY xs.length xs.length none=xs.length:=rfl
 rw [e2,HT.nR,Nat.min_eq_left h,List.take_of_length_le (by rw [List.length_drop];exact Nat.le_refl _)]
def Told (p:Nat) (e:Int) (zs:List Str):Prop:=∀ (j:Nat) (z:Str),zs[j]?=some z→z.cps.toList[p]?=some (97+((e+7 * (j:Int)) % 26).toNat)∧nameB z.cps.toList=true
theorem Told.nodup {p:Nat}{e:Int}{zs:List Str} (h:Told p e zs) (hl:zs.length≤26):zs.Nodup:=by
 unfold List.Nodup
 rw [List.pairwise_iff_getElem]
 intro i j hi hj hij he
 have h1:=(h i _ (List.getElem?_eq_getElem hi)).1
 have h2:=(h j _ (List.getElem?_eq_getElem hj)).1
 rw [he,h2] at h1
 have h3:=Option.some.inj h1
 omega
theorem Told.snoc {p:Nat}{e:Int}{zs:List Str}{z:Str} (h:Told p e zs) (h1:z.cps.toList[p]?=some (97+((e+7 * (zs.length:Int)) % 26).toNat)) (h2:nameB z.cps.toList=true):Told p e (zs++[z]):=by
 intro j y hj
 by_cases hlt:j<zs.length
 ·rw [List.getElem?_append_left hlt] at hj;exact h j y hj
 ·have hj':j<(zs++[z]).length:=(List.getElem?_eq_some_iff.mp hj).1
  have e:j=zs.length:=by rw [List.length_append,List.length_singleton] at hj';omega
  subst e
  rw [List.getElem?_append_right (Nat.le_refl _),Nat.sub_self] at hj
  have:z=y:=by simpa using hj
  subst this
  exact ⟨h1,h2⟩
theorem yQ {l:List Nat} (h:∀ c∈l,low c=true) (h1:1≤l.length) (h2:l.length≤8):nameB l=true:=by
 unfold nameB
 rw [List.all_eq_true.mpr h,decide_eq_true h1,decide_eq_true h2];rfl
def Dw (K:PySem.W.Frag):Sp:=fun vs H Q _=>∃ (a:Addr) (ds:List Int) (many:Int),vs=[.ref a,.int many]∧bR K H a (ds.map V.int)∧4≤ds.length∧(∀ v∈ds,v8 v)∧0≤many∧many≤26 ∧
 ∀ (r:Addr) (H':Hp) (zs:List Str),Same H H'→H r=none→H' r=some (.lst (zs.map V.str))→zs.length=many.toNat→(∀ z∈zs,nameB z.cps.toList=true)→zs.Nodup→Q (.ref r) H'
section
variable {P:Program}{w:World}{K:PySem.W.Frag}{mg:Str→Option Value}{base:Heap}{f:Addr}{fd:FuncData}
theorem iT:aZ ["_law_d", "_law_many", "_law_letters", "_law_k", "_law_base", "_law_at", "_law_names_here", "_law_sign", "_law_name"] ["_law_d", "_law_many"] (aC nG):=⟨rfl,rfl,rfl,by decide +kernel,rfl,by decide +kernel,by decide +kernel⟩
def scN1:Scope:={ kind:=.function,names:=[(".0",.local),("_law_k",.local),("_law_d",.free),("_law_letters",.free)],isGenerator:=false,isCoroutine:=false }
theorem csN1:cT ["_law_d", "_law_many", "_law_letters", "_law_k", "_law_base", "_law_at", "_law_names_here", "_law_sign", "_law_name"] (aC nG) scN1 ["_law_k"] ["_law_d", "_law_letters"] [0,2]:=⟨rfl,by decide +kernel,by decide +kernel,by decide +kernel,rfl,by decide +kernel⟩
theorem ndN1:((["_law_k"]:List Str)++(["_law_d", "_law_letters"]:List Str)).Nodup:=by decide +kernel
set_option maxHeartbeats 4000000 in
theorem Ka (F:fH K "_law_names" "_law_names" nG f fd) (ml:mg "len"=none) (mr:mg "range"=none):aL P w K mg base cu 1 f fd ["_law_d", "_law_many"] (Dw K):=by
 refine F.ok iT (fun vs H Q E h=>?_) (fun cdv A outer s H vs Q E hr h=>?_)
 ·obtain ⟨a,ds,many,rfl,_⟩:=h
  rfl
 obtain ⟨a,ds,many,rfl,hS,hlen,hok,m0,m1,k⟩:=h
 refine ⟨_,aq (aY (i:=2) iT.nd rfl (Or.inr rfl) aJ)
  (aq (aY (i:=4) iT.nd rfl (Or.inl rfl) (ql PySem.F.plainAttrs_str PySem.F.slot_str_join PySem.F.type_str_join Lr aJ (aj
    (fJ rfl csN1
     (iU rfl mr (aj (aN bO (aK aU (pv 0) au (fun _ _=>rfl)) au) aA))
     (fun s H fp C=>⟨bL (i:=0) ndN1 rfl (Or.inl rfl),lR,aK Hl (pv 2) (aN bO (aN dH (aK (xQ (K:=K)) (pv 1) au (fun _ _=>rfl))
      (aN jl (aN dH (pv 0) au) (aN nM (aK (xQ (K:=K)) (pv 1) au (fun _ _=>rfl)) au))) au) (fun _ _=>rfl)⟩)) aA)))
  (aq (aY (i:=5) iT.nd rfl (Or.inl rfl) (aN bO (aK aU (pv 0) au (fun _ _=>rfl)) (aN dH (aP vP rfl ml PySem.boot_len (aj (pv 4) aA)) au)))
  (aq (aY (i:=6) iT.nd rfl (Or.inl rfl) (cI aA))
  (aq (jk PassesOwn.never rfl (iU rfl mr (aj (pv 1) aA)) (bL (i:=3) iT.nd rfl (Or.inl rfl))
   (aq (aY (i:=7) iT.nd rfl (Or.inl rfl) (aK Hl (pv 2) (aN bO (aN dH (aK aU (pv 0) au (fun _ _=>rfl)) (aN jl au (pv 3))) au) (fun _ _=>rfl)))
   (aq (aY (i:=8) iT.nd rfl (Or.inl rfl) (aN rF (aN rF (fO HB (pv 4) jJ (dI (pv 5))) (pv 7)) (fO HB (pv 4) (dI (pv 5)) jJ)))
   (aq (bJ (aM cH (aN bO (aN nM (aK aU (pv 0) au (fun _ _=>rfl)) au) au) au (bA _))
    (aG (aY (i:=8) iT.nd rfl (Or.inl rfl) (aN zR (pv 7) (aN dH au (aN bO (aN dH (aK aU (pv 0) au (fun _ _=>rfl)) (aN jl au (pv 3))) au))))) aQ)
   (aG (bT (ql PySem.F.plainAttrs_list PySem.F.slot_list_append PySem.F.type_list_append fU (pv 6) (aj (pv 8) aA))))))))
  (aG (aW (pv 6))))))),?_⟩
 obtain ⟨d0,e0,o0⟩:=fL hok (i:=0) (by decide) (by omega)
 obtain ⟨d1,e1,o1⟩:=fL hok (i:=1) (by decide) (by omega)
 obtain ⟨d2,e2,o2⟩:=fL hok (i:=2) (by decide) (by omega)
 obtain ⟨d3,e3,o3⟩:=fL hok (i:=3) (by decide) (by omega)
 obtain ⟨o0a,o0b⟩:=o0
 obtain ⟨o1a,o1b⟩:=o1
 obtain ⟨o2a,o2b⟩:=o2
 obtain ⟨o3a,o3b⟩:=o3
 refine ⟨rfl,_,rfl,a,_,_,_,rfl,rfl,hS,e1,_,_,rfl,rfl,(by show (0:Int)<8;decide),d1 % 8,rfl,by omega,by omega,fun D hD=>?_⟩
 refine zL (lo:=0) (n:=(d1 % 8).toNat) (fun i ys H2=>∃ cs:List Nat,ys=cs.map (fun c=>V.str (gH [c]))∧cs.length=i∧(∀ c∈cs,low c=true)∧Same H H2∧H2 D=some (.lst ys))
  ⟨[],rfl,rfl,(fun c hc=>nomatch hc),aD hD _,ak⟩ (fun i ys H2 ⟨cs,_,_,_,_,h⟩=>h) ?_ ?_
 ·rintro i ys H2 hi ⟨cs,rfl,hl,hc,s2,h2⟩
  have S2:=s2.seq hS
  refine ⟨Kp.set rfl (Kp.refl _),?_⟩
  refine jy ?_
  have hm0:=Int.emod_nonneg (d0+(0+(i:Int)+1) * (d1 / 8)) (show (26:Int)≠0 by decide)
  have hm1:=Int.emod_lt_of_pos (d0+(0+(i:Int)+1) * (d1 / 8)) (show (0:Int)<26 by decide)
  have hT:((d0+(0+(i:Int)+1) * (d1 / 8)) % 26).toNat<26:=by
   generalize (d0+(0+(i:Int)+1) * (d1 / 8)) % 26=T at hm0 hm1 ⊢
   omega
  refine ⟨_,rfl,_,rfl,a,_,_,_,rfl,rfl,S2,e0,_,rfl,_,_,rfl,rfl,_,rfl,a,_,_,_,rfl,rfl,S2,e1,_,_,rfl,rfl,⟨by decide,by decide⟩,_,_,rfl,rfl,.inl ⟨by omega,by omega⟩,_,_,rfl,rfl,_,_,rfl,rfl,(by show (0:Int)<26;decide),
   _,_,_,rfl,rfl,(by show az.length≤sizeLine;decide +kernel),K8 hm0 hm1,h2,?_,?_⟩
  ·rw [List.length_map];exact bY (by omega)
  ·exact ⟨cs++[97+((d0+(0+(i:Int)+1) * (d1 / 8)) % 26).toNat],by rw [List.map_append];rfl,by simp [hl],(fun d hd=>by
    rcases List.mem_append.mp hd with z | z
    ·exact hc d z
    ·rw [List.mem_singleton.mp z];exact K9 hT),bB s2 hD,ak⟩
 ·rintro ys H2 ⟨cs,rfl,hl,hc,s2,h2⟩
  have hm:cs.map (fun c=>V.str (gH [c]))=(cs.map (fun c=>gH [c])).map V.str:=by simp
  refine ⟨_,D,cs.map (fun c=>gH [c]),rfl,rfl,bR.of (by rw [← hm];exact h2),NT (by omega),?_⟩
  rw [Bt]
  have S2:=s2.seq hS
  have lc:(gH cs).length=cs.length:=iK cs
  refine ⟨_,rfl,a,_,_,_,rfl,rfl,S2,e2,_,rfl,_,rfl,(by rw [lc];exact small (by omega)),_,_,rfl,rfl,_,_,rfl,rfl,(by rw [lc];omega),?_⟩
  rw [lc]
  have q0:0≤d2 % ((cs.length:Int)+1):=Int.emod_nonneg _ (by omega)
  have q1:d2 % ((cs.length:Int)+1)<(cs.length:Int)+1:=Int.emod_lt_of_pos _ (by omega)
  obtain ⟨at_,hat⟩:∃ n:Nat,d2 % ((cs.length:Int)+1)=(n:Int):=⟨(d2 % ((cs.length:Int)+1)).toNat,by omega⟩
  rw [hat] at q0 q1
  refine ⟨small (by simp),fun l hl0=>?_⟩
  have hl1:H l=none:=s2.free hl0
  refine ⟨_,rfl,many,rfl,by omega,by omega,?_⟩
  refine iV (lo:=0) (n:=many.toNat) (fun j σ H4=>∃ (zs:List Str) (u1 u2 u3:Option V),σ=[some (.ref a),some (.int many),some (.str az),u1,some (.str (gH cs)),some (.int (at_:Int)),some (.ref l),u2,u3]∧Same H H4∧H4 l=some (.lst (zs.map V.str))∧zs.length=j∧Told (if d2 / 8 % 2=1 then 0 else at_) d3 zs)
   ⟨[],none,none,none,(by rw [← hat];rfl),bB s2 hl1,ak,rfl,fun j z h=>by simp at h⟩ ?_ ?_
  ·rintro j σ H4 hj ⟨zs,u1,u2,u3,rfl,s4,hL,hz,ht⟩
   have S4:=s4.seq hS
   have hm0:=Int.emod_nonneg (d3+7 * (0+(j:Int))) (show (26:Int)≠0 by decide)
   have hm1:=Int.emod_lt_of_pos (d3+7 * (0+(j:Int))) (show (0:Int)<26 by decide)
   refine ⟨_,rfl,_,rfl,a,_,_,_,rfl,rfl,S4,e3,_,rfl,_,_,rfl,rfl,.inl ⟨by decide,by decide⟩,_,_,rfl,rfl,_,_,rfl,rfl,(by show (0:Int)<26;decide),_,_,_,rfl,rfl,(by show az.length≤sizeLine;decide +kernel),K8 hm0 hm1,?_⟩
   have hc0:low (97+((d3+7 * (0+(j:Int))) % 26).toNat)=true:=K9 (by omega)
   have hcj:97+((d3+7 * (0+(j:Int))) % 26).toNat=97+((d3+7 * (zs.length:Int)) % 26).toNat:=by rw [hz,Int.zero_add]
   generalize 97+((d3+7 * (0+(j:Int))) % 26).toNat=c at hc0 hcj ⊢
   refine ⟨_,rfl,_,rfl,_,rfl,_,rfl,(by rw [lc];exact small (by omega)),_,rfl,?_⟩
   have f1:qC (gH cs).cps.toList none (some (at_:Int))=cs.take at_:=O1 (by show at_≤cs.length;omega)
   have f2:qC (gH cs).cps.toList (some (at_:Int)) none=cs.drop at_:=Gj (by show at_≤cs.length;omega)
   rw [f1]
   have l1:(gH (cs.take at_)++gH [c]).length=at_+1:=by rw [NZ,iK,iK,List.length_take,Nat.min_eq_left (by omega)];rfl
   refine ⟨_,_,rfl,rfl,(by rw [iK,iK,List.length_take];exact small (by simp;omega)),?_⟩
   refine ⟨_,rfl,_,rfl,_,rfl,_,rfl,(by rw [lc];exact small (by omega)),?_⟩
   rw [f2]
   refine ⟨_,_,rfl,rfl,(by rw [l1,iK,List.length_drop];exact small (by omega)),?_⟩
   have en:(gH (cs.take at_)++gH [c]++gH (cs.drop at_)).cps.toList=cs.take at_++[c]++cs.drop at_:=by rw [app_list,app_list]
   refine ⟨_,rfl,a,_,_,_,rfl,rfl,S4,e2,_,_,rfl,rfl,⟨by decide,by decide⟩,_,_,rfl,rfl,(by show (0:Int)<2;decide),rfl,_,rfl,?_⟩
   refine eZ (fun hb=>?_) (fun hb=>?_)
   ·have hb1:d2 / 8 % 2=1:=by
     have:=of_decide_eq_true hb
     injection this
    rw [if_pos hb1] at ht ⊢
    refine ⟨_,rfl,_,rfl,a,_,_,_,rfl,rfl,S4,e0,_,rfl,_,_,rfl,rfl,.inl ⟨by decide,by decide⟩,_,_,rfl,rfl,_,_,rfl,rfl,(by show (0:Int)<8;decide),_,_,rfl,rfl,?_⟩
    have r0:=Int.emod_nonneg (d0+3 * (0+(j:Int))) (show (8:Int)≠0 by decide)
    have r1:=Int.emod_lt_of_pos (d0+3 * (0+(j:Int))) (show (0:Int)<8 by decide)
    refine ⟨_,_,rfl,rfl,by omega,by omega,(by show (gH [c]).length≤1000;rw [iK];simp),?_⟩
    have ec:(gH [c]).cps.toList=[c]:=rfl
    rw [ec,rep1]
    refine ⟨_,rfl,.inl ⟨rfl,_,bR.of hL⟩,_,rfl,l,_,_,rfl,rfl,hL,(by rw [List.length_map];exact bY (by omega)),?_⟩
    refine ⟨zs++[gH (List.replicate (1+(d0+3 * (0+(j:Int))) % 8).toNat c)],_,_,_,rfl,bB s4 hl1,by rw [ak,List.map_append];rfl,by rw [List.length_append,List.length_singleton,hz],ht.snoc ?_ ?_⟩
    ·rw [← hcj]
     show (List.replicate _ c)[0]?=some c
     rw [List.getElem?_replicate,if_pos (by omega)]
    ·refine yQ (fun x hx=>?_) ?_ ?_
     ·have:=(List.mem_replicate.mp hx).2
      rw [this];exact hc0
     ·show 1≤(List.replicate _ c).length
      rw [List.length_replicate];omega
     ·show (List.replicate _ c).length≤8
      rw [List.length_replicate];omega
   ·have hb1:¬ d2 / 8 % 2=1:=fun e=>hb (by show decide (V.int (d2 / 8 % 2)=V.int 1)=true;rw [e];rfl)
    rw [if_neg hb1] at ht ⊢
    refine ⟨_,rfl,.inl ⟨rfl,_,bR.of hL⟩,_,rfl,l,_,_,rfl,rfl,hL,(by rw [List.length_map];exact bY (by omega)),?_⟩
    refine ⟨zs++[gH (cs.take at_)++gH [c]++gH (cs.drop at_)],_,_,_,rfl,bB s4 hl1,by rw [ak,List.map_append];rfl,by rw [List.length_append,List.length_singleton,hz],ht.snoc ?_ ?_⟩
    ·rw [en,← hcj,List.append_assoc,List.getElem?_append_right (by rw [List.length_take];omega),List.length_take,Nat.min_eq_left (by omega),Nat.sub_self]
     rfl
    ·rw [en]
     refine yQ (fun x hx=>?_) ?_ ?_
     ·rcases List.mem_append.mp hx with z | z
      ·rcases List.mem_append.mp z with z | z
       ·exact hc x (List.mem_of_mem_take z)
       ·rw [List.mem_singleton.mp z];exact hc0
      ·exact hc x (List.mem_of_mem_drop z)
     ·rw [List.length_append,List.length_append,List.length_singleton];omega
     ·rw [List.length_append,List.length_append,List.length_take,List.length_drop,List.length_singleton];omega
  ·rintro σ H4 ⟨zs,u1,u2,u3,rfl,s4,hL,hz,ht⟩
   refine ⟨_,rfl,k l H4 zs s4 hl1 hL hz (fun z hzm=>?_) (ht.nodup (by omega))⟩
   obtain ⟨i,hi,rfl⟩:=List.mem_iff_getElem.mp hzm
   exact (ht i _ (List.getElem?_eq_getElem hi)).2
end
end M
namespace M
open PySem L2 PyProof.Rows
abbrev qd:Stmt:=top 35
abbrev Uj:Stmt:=top 36
theorem tE {fs:List Int}{i j:Nat} (h:i≤j) (hj:j≤fs.length):iI (fs.map V.int) (some (i:Int)) (some (j:Int))=((fs.drop i).take (j - i)).map V.int:=by
 unfold iI
 rw [HT.nR,HT.nR,List.length_map,Nat.min_eq_left hj,Nat.min_eq_left (Nat.le_trans h hj),List.map_take,List.map_drop]
theorem Bu {fs:List Int}{i n:Nat} (h:∀ v∈fs,v8 v):∀ v∈(fs.drop i).take n,v8 v:=fun v hv=>h v (List.mem_of_mem_drop (List.mem_of_mem_take hv))
def Nm (z:Str):Prop:=nameB z.cps.toList=true
theorem Nm.ne {z:Str} (h:Nm z):z≠""∧PyData.strOk z=true:=by
 unfold Nm nameB at h
 rw [Bool.and_eq_true,Bool.and_eq_true] at h
 constructor
 ·intro e
  rw [e] at h
  have:=of_decide_eq_true h.2.1
  exact absurd this (by decide +kernel)
 ·unfold PyData.strOk
  rw [← Array.all_toList,List.all_eq_true]
  intro c hc
  have:=List.all_eq_true.mp h.1 c hc
  unfold low at this
  simp at this ⊢
  omega
structure tG (H:Hp) (r m la:Addr) (ms ls:List Str) (wd:Int):Prop where
 r:H r=some (.tup [.ref m,.ref la,.int wd])
 m:H m=some (.lst (ms.map V.str))
 la:H la=some (.lst (ls.map V.str))
 lm:ms.length=6
 ll:ls.length=9
 nm:ms.Nodup
 om:∀ z∈ms,Nm z
 ol:∀ z∈ls,Nm z
 w1:1≤wd
 w2:wd≤9999
theorem tG.same {H H':Hp}{r m la:Addr}{ms ls:List Str}{wd:Int} (p:tG H r m la ms ls wd) (s:Same H H'):tG H' r m la ms ls wd:=⟨s _ _ p.r,s _ _ p.m,s _ _ p.la,p.lm,p.ll,p.nm,p.om,p.ol,p.w1,p.w2⟩
def Dy (K:PySem.W.Frag):Sp:=fun vs H Q _=>∃ (a:Addr) (fs:List Int),vs=[.ref a]∧bR K H a (fs.map V.int)∧20≤fs.length∧(∀ v∈fs,v8 v)∧∀ r m la ms ls wd H',Same H H'→tG H' r m la ms ls wd→Q (.ref r) H'
theorem Ym:idxV 9 (some 8) (some 2) (some (-1))=[8,7,6,5,4,3]:=by decide +kernel
theorem nine {ls:List Str} (h:ls.length=9):∃ a b c d e f g i j,ls=[a,b,c,d,e,f,g,i,j]:=by
 match ls,h with
 | [a,b,c,d,e,f,g,i,j],_=>exact ⟨a,b,c,d,e,f,g,i,j,rfl⟩
def Yn (K:PySem.W.Frag):Sp:=fun vs H Q _=>∃ q es ks,∃ (me:Addr) (ms:List Str) (m:Str) (n:Int),vs=[.ref q.B,.ref me,.str m,.int n]∧Ap q∧Bk q H es ks∧WF es∧es.length<64∧H me=some (.lst (ms.map V.str))∧ms.length≤20∧m≠""∧∀ (z:Str) (H':Hp),Same H H'→Q (.str z) H'
section
variable {P:Program}{w:World}{K:PySem.W.Frag}{mg:Str→Option Value}{base:Heap}{f C:Addr}{fd:FuncData}
theorem wK:aZ ["_law_feed_here", "_law_wide", "_law_lands"] ["_law_feed_here"] (aC qd):=⟨rfl,rfl,rfl,by decide +kernel,rfl,by decide +kernel,by decide +kernel⟩
set_option maxHeartbeats 8000000 in
theorem Kc (F:fH K "_law_pools" "_law_pools" qd f fd) {g1:Addr}{d1:FuncData} (G1:aL P w K mg base cu 1 g1 d1 ["_law_d", "_law_many"] (Dw K)) (M1:Ms K mg "_law_names" g1 d1 ["_law_d", "_law_many"]):aL P w K mg base cu 2 f fd ["_law_feed_here"] (Dy K):=by
 refine F.ok wK (fun vs H Q E h=>?_) (fun cdv A outer s H vs Q E hr h=>?_)
 ·obtain ⟨a,fs,rfl,_⟩:=h
  rfl
 obtain ⟨a,fs,rfl,hS,hlen,hok,k⟩:=h
 refine ⟨_,(aq (aY (i:=1) wK.nd rfl (Or.inl rfl) (aK aU (cI (aj (aN dH au (aN bO (aK aU (pv 0) au (fun _ _=>rfl)) au)) (aj (aN dH au (aN bO (aK aU (pv 0) au (fun _ _=>rfl)) au)) (aj (aN jH au (aN bO (aK aU (pv 0) au (fun _ _=>rfl)) au)) (aj au aA))))) (aN bO (aK aU (pv 0) au (fun _ _=>rfl)) au) (fun _ _=>rfl)))
  (aq (aY (i:=2) wK.nd rfl (Or.inl rfl) (bf G1 hr rfl M1.m M1.k M1.b .nil bD (aj (fO lO (pv 0) (dI au) (dI au)) (aj au aA))))
  (aq (bJ (aM cH (aN bO (aN nM (aK aU (pv 0) au (fun _ _=>rfl)) au) au) au (bA _)) (aG (aW (cG (aj (Fj (pv 2) (dI au) (dI au) (dI (xr rC au))) (aj (pv 2) (aj (pv 1) aA)))))) aQ)
  (aG (aW (cG (aj (bf G1 hr rfl M1.m M1.k M1.b .nil bD (aj (fO lO (pv 0) (dI au) (dI au)) (aj au aA))) (aj (pv 2) (aj (pv 1) aA))))))))),?_⟩
 obtain ⟨tY,e12,o12⟩:=fL hok (i:=12) (by decide) (by omega)
 obtain ⟨d13,e13,o13⟩:=fL hok (i:=13) (by decide) (by omega)
 obtain ⟨o12a,o12b⟩:=o12
 obtain ⟨o13a,o13b⟩:=o13
 refine ⟨_,rfl,a,_,_,_,rfl,rfl,hS,e12,_,_,rfl,rfl,(by show (0:Int)<200;decide),_,_,rfl,rfl,_,rfl,a,_,_,_,rfl,rfl,hS,e12,_,_,rfl,rfl,(by show (0:Int)<9;decide),_,_,rfl,rfl,_,rfl,a,_,_,_,rfl,rfl,hS,e12,_,_,rfl,rfl,(by show (0:Int)<50;decide),_,_,rfl,rfl,small (by simp),fun l hl=>?_⟩
 have s1:=aD hl (.lst [.int (7+tY % 200),.int (1+tY % 9),.int (9999 - tY % 50),.int 40])
 have k1:(upd H l (.lst [.int (7+tY % 200),.int (1+tY % 9),.int (9999 - tY % 50),.int 40])) l=some (.lst [.int (7+tY % 200),.int (1+tY % 9),.int (9999 - tY % 50),.int 40]):=ak
 generalize upd H l (.lst [.int (7+tY % 200),.int (1+tY % 9),.int (9999 - tY % 50),.int 40])=H1 at s1 k1 ⊢
 have S1:=s1.seq hS
 obtain ⟨x,hx,hm⟩:=oW (xs:=[V.int (7+tY % 200),.int (1+tY % 9),.int (9999 - tY % 50),.int 40]) (i:=d13 % 4) (by omega) (by simp;omega)
 obtain ⟨wd,rfl,w1,w2⟩:∃ wd:Int,x=.int wd∧1≤wd∧wd≤9999:=by
  simp only [List.mem_cons,List.not_mem_nil,or_false] at hm
  rcases hm with rfl | rfl | rfl | rfl
  ·exact ⟨_,rfl,by omega,by omega⟩
  ·exact ⟨_,rfl,by omega,by omega⟩
  ·exact ⟨_,rfl,by omega,by omega⟩
  ·exact ⟨_,rfl,by omega,by omega⟩
 refine ⟨_,rfl,a,_,_,_,rfl,rfl,S1,e13,_,_,rfl,rfl,(by show (0:Int)<4;decide),l,_,_,_,rfl,rfl,bR.of k1,hx,?_⟩
 refine ⟨_,rfl,_,rfl,_,rfl,a,_,rfl,S1,fun p1 hp1=>?_⟩
 have c1:iI (fs.map V.int) (some 8) (some 12)=((fs.drop 8).take 4).map V.int:=tE (i:=8) (j:=12) (by decide) (by omega)
 rw [c1]
 have s2:=s1.trans (aD hp1 (.lst (((fs.drop 8).take 4).map V.int)))
 refine ⟨p1,_,9,rfl,bR.of ak,by rw [List.length_take,List.length_drop];omega,Bu hok,by decide,by decide,fun la H2 ls s12 hla hla' hll hln hnd=>?_⟩
 have Kd:=s2.trans s12
 have S2:=Kd.seq hS
 refine ⟨_,rfl,a,_,_,_,rfl,rfl,S2,e13,_,_,rfl,rfl,⟨by decide,by decide⟩,_,_,rfl,rfl,(by show (0:Int)<4;decide),rfl,_,rfl,?_⟩
 refine eZ (fun _=>?_) (fun _=>?_)
 ·refine ⟨_,rfl,_,rfl,_,rfl,_,rfl,_,rfl,la,_,rfl,bR.of hla',by decide,?_,fun p2 hp2=>?_⟩
  ·unfold uT
   rw [List.length_map,show ls.length=9 from hll,Ym]
   exact Nat.le_trans (List.length_filterMap_le _ _) (by decide)
  have ep:uT (ls.map V.str) (some 8) (some 2) (some (-1))=([8,7,6,5,4,3].filterMap (ls[·]?)).map V.str:=by
   unfold uT
   rw [List.length_map,show ls.length=9 from hll,Ym]
   obtain ⟨a,b,c,d,e,f,g,i,j,rfl⟩:=nine (show ls.length=9 from hll)
   rfl
  rw [ep]
  have s3:=aD hp2 (.lst (([8,7,6,5,4,3].filterMap (ls[·]?)).map V.str))
  refine ⟨_,rfl,_,rfl,small (by simp),fun r hr0=>?_⟩
  have s4:=aD hr0 (.tup [.ref p2,.ref la,.int wd])
  refine k r p2 la ([8,7,6,5,4,3].filterMap (ls[·]?)) ls wd _ ((Kd.trans s3).trans s4) ⟨ak,s4 _ _ ak,s4 _ _ (s3 _ _ hla'),?_,hll,?_,?_,hln,w1,w2⟩
  ·obtain ⟨a,b,c,d,e,f,g,i,j,rfl⟩:=nine (show ls.length=9 from hll)
   rfl
  ·obtain ⟨a,b,c,d,e,f,g,i,j,rfl⟩:=nine (show ls.length=9 from hll)
   show [j,i,g,f,e,d].Nodup
   simp only [List.nodup_cons,List.mem_cons,List.not_mem_nil,or_false,not_or,List.nodup_nil,and_true,not_false_eq_true] at hnd ⊢
   obtain ⟨_,_,_,h4,h5,h6,h7,h8⟩:=hnd
   refine ⟨⟨Ne.symm h8,Ne.symm h7.2,Ne.symm h6.2.2,Ne.symm h5.2.2.2,Ne.symm h4.2.2.2.2⟩,⟨Ne.symm h7.1,Ne.symm h6.2.1,Ne.symm h5.2.2.1,Ne.symm h4.2.2.2.1⟩,⟨Ne.symm h6.1,Ne.symm h5.2.1,Ne.symm h4.2.2.1⟩,⟨Ne.symm h5.1,Ne.symm h4.2.1⟩,Ne.symm h4.1⟩
  ·intro z hz
   obtain ⟨i,_,hi⟩:=List.mem_filterMap.mp hz
   exact hln z (List.mem_of_getElem? hi)
 ·refine ⟨_,rfl,_,rfl,_,rfl,a,_,rfl,S2,fun p2 hp2=>?_⟩
  have c2:iI (fs.map V.int) (some 4) (some 8)=((fs.drop 4).take 4).map V.int:=tE (i:=4) (j:=8) (by decide) (by omega)
  rw [c2]
  have s3:=aD hp2 (.lst (((fs.drop 4).take 4).map V.int))
  refine ⟨p2,_,6,rfl,bR.of ak,by rw [List.length_take,List.length_drop];omega,Bu hok,by decide,by decide,fun me H3 ms Ua hme hme' Yo hmn hmd=>?_⟩
  refine ⟨_,rfl,_,rfl,small (by simp),fun r hr0=>?_⟩
  have s4:=aD hr0 (.tup [.ref me,.ref la,.int wd])
  exact k r me la ms ls wd _ (((Kd.trans s3).trans Ua).trans s4) ⟨ak,s4 _ _ hme',s4 _ _ (Ua _ _ (s3 _ _ hla')),Yo,hll,hmd,hmn,hln,w1,w2⟩
theorem Yp:aZ ["_law_book_here", "_law_men", "_law_man", "_law_number", "_law_some"] ["_law_book_here", "_law_men", "_law_man", "_law_number"] (aC Uj):=⟨rfl,rfl,rfl,by decide +kernel,rfl,by decide +kernel,by decide +kernel⟩
def Yq:Scope:={ kind:=.function,names:=[(".0",.local),("_law_one",.local),("_law_man",.free)],isGenerator:=false,isCoroutine:=false }
theorem Yr:cT ["_law_book_here", "_law_men", "_law_man", "_law_number", "_law_some"] (aC Uj) Yq ["_law_one"] ["_law_man"] [2]:=⟨rfl,by decide +kernel,by decide +kernel,by decide +kernel,rfl,by decide +kernel⟩
theorem Ys:((["_law_one"]:List Str)++(["_law_man"]:List Str)).Nodup:=by decide +kernel
set_option maxHeartbeats 8000000 in
theorem Yt (F:fH K "_law_lord_for" "_law_lord_for" Uj f fd) (ml:mg "len"=none) {g1:Addr}{d1:FuncData} (G1:aL P w K mg base cu 2 g1 d1 ["_law_book_here", "_law_man"] Qj) (M1:Ms K mg "_law_bound_to" g1 d1 ["_law_book_here", "_law_man"]):aL P w K mg base cu 3 f fd ["_law_book_here", "_law_men", "_law_man", "_law_number"] (Yn K):=by
 refine F.ok Yp (fun vs H Q E h=>?_) (fun cdv A outer s H vs Q E hr h=>?_)
 ·obtain ⟨q,es,ks,me,ms,m,n,rfl,_⟩:=h
  rfl
 obtain ⟨q,es,ks,me,ms,m,n,rfl,ap,bk,W,hl,hme,hml,hm,k⟩:=h
 refine ⟨_,(aq (lU (i:=4) rfl Yr (fD (aN jK (aN jK (aN RQ (bf G1 hr rfl M1.m M1.k M1.b .nil bD (aj (pv 0) (aj (pv 2) aA))) au) (pv 1)) (cI (aj aJ aA)))) (fun s H fp C'=>⟨bL (i:=0) Ys rfl (Or.inl rfl),eU (aM jT (pv 0) (pv 1) (bA _)),pv 0⟩) Yp.nd rfl (Or.inl rfl))
  (aG (aW (aK aU (pv 4) (aN bO (pv 3) (aP cA rfl ml PySem.boot_len (aj (pv 4) aA))) (fun _ _=>rfl))))),?_⟩
 refine ⟨_,rfl,_,rfl,q,es,ks,m,rfl,ap,bk,W,hl,fun r1 ss H1 s1 hr1 Ub hss=>?_⟩
 refine ⟨r1,3,_,rfl,rfl,Ub,by decide,by decide,(by rw [List.length_map];exact small (by show ss.length * 3≤_;omega)),fun r2 hr2=>?_⟩
 have er:(List.replicate (3:Int).toNat (ss.map V.str)).flatten=(ss++ss++ss).map V.str:=by
  show (List.replicate 3 (ss.map V.str)).flatten=_
  simp [List.replicate]
 rw [er]
 have s2:=s1.trans (aD hr2 (.lst ((ss++ss++ss).map V.str)))
 have k2:(upd H1 r2 (.lst ((ss++ss++ss).map V.str))) r2=some (.lst ((ss++ss++ss).map V.str)):=ak
 generalize upd H1 r2 (.lst ((ss++ss++ss).map V.str))=H2 at s2 k2 ⊢
 have l3:(ss++ss++ss).length≤200:=by simp;omega
 generalize ss++ss++ss=Bv at k2 l3
 refine ⟨_,rfl,r2,me,_,_,rfl,rfl,k2,s2 _ _ hme,(by rw [List.length_map,List.length_map];exact small (by omega)),fun r3 wD=>?_⟩
 have e3:Bv.map V.str++ms.map V.str=(Bv++ms).map V.str:=by rw [List.map_append]
 rw [e3]
 have s3:=s2.trans (aD wD (.lst ((Bv++ms).map V.str)))
 have k3:(upd H2 r3 (.lst ((Bv++ms).map V.str))) r3=some (.lst ((Bv++ms).map V.str)):=ak
 generalize upd H2 r3 (.lst ((Bv++ms).map V.str))=H3 at s3 k3 ⊢
 refine ⟨small (by simp),fun r4 Di=>?_⟩
 have s4:=aD Di (.lst [.str ""])
 refine ⟨r3,r4,_,_,rfl,rfl,s4 _ _ k3,ak,(by rw [List.length_map,List.length_append,List.length_singleton];exact small (by omega)),fun r5 Dj=>?_⟩
 have e5:(Bv++ms).map V.str++[V.str ""]=(Bv++ms++[("" : Str)]).map V.str:=by rw [List.map_append (l₂:=[("" : Str)])];rfl
 rw [e5]
 have s5:=(s3.trans s4).trans (aD Dj (.lst ((Bv++ms++[("" : Str)]).map V.str)))
 have k5:(upd (upd H3 r4 (.lst [.str ""])) r5 (.lst ((Bv++ms++[("" : Str)]).map V.str))) r5=some (.lst ((Bv++ms++[("" : Str)]).map V.str)):=ak
 generalize upd (upd H3 r4 (.lst [.str ""])) r5 (.lst ((Bv++ms++[("" : Str)]).map V.str))=H5 at s5 k5 ⊢
 have l5:(Bv++ms++[("" : Str)]).length≤300:=by simp;omega
 have in5:("" : Str)∈Bv++ms++[("" : Str)]:=List.mem_append_right _ (List.mem_singleton.mpr rfl)
 generalize Bv++ms++[("" : Str)]=xs at k5 l5 in5
 refine ⟨r5,rfl,⟨_,bR.of k5⟩,fun D hD=>fK (xs:=xs) (fun x=>!decide (x=m)) V.str (bR.of k5) hD (by omega) (fun x Hz A B hx sz hAB=>?_) (fun Hz sz gG=>?_)⟩
 ·have hAB:=hAB _ (Same.refl _)
  refine ⟨Kp.set rfl (Kp.refl _),_,rfl,_,rfl,rfl,_,rfl,?_⟩
  rw [dB]
  refine eZ (fun c=>?_) (fun c=>?_)
  ·rw [if_pos c] at hAB
   exact ⟨_,rfl,hAB⟩
  ·rw [if_neg c] at hAB
   exact hAB
 ·have hin:("" : Str)∈xs.filter fun x=>!decide (x=m):=List.mem_filter.mpr ⟨in5,by rw [decide_eq_false (Ne.symm hm)];rfl⟩
  have hpos:0<(xs.filter fun x=>!decide (x=m)).length:=List.length_pos_of_mem hin
  generalize (xs.filter fun x=>!decide (x=m))=zs at gG hpos
  refine ⟨_,rfl,_,rfl,_,rfl,D,_,rfl,.inl (bR.of gG),_,_,rfl,rfl,(by rw [List.length_map];show (0:Int)<((zs.length:Nat):Int);omega),?_⟩
  have p0:=Int.emod_nonneg n (show ((zs.map V.str).length:Int)≠0 by rw [List.length_map];omega)
  have p1:=Int.emod_lt_of_pos n (show (0:Int)<((zs.map V.str).length:Int) by rw [List.length_map];omega)
  obtain ⟨v,hv,hvm⟩:=oW (xs:=zs.map V.str) p0 p1
  obtain ⟨z,_,rfl⟩:=List.mem_map.mp hvm
  exact ⟨D,_,_,_,rfl,rfl,bR.of gG,hv,k z Hz (s5.trans sz)⟩
end
end M
namespace L2
open PySem PySem.Spec PyProof.Rows PySem.W
theorem gU {X:Cx}{K:PySem.W.Frag} (h:X.K=K:=by rfl):mK X (compareOp .NotIn) (rIn K true):=h ▸ vO
theorem Uk:bootBuiltins "min"=some (.builtin "min"):=by decide +kernel
theorem grab {a b:TS}{D:Ends}{σ:St}{H:Hp} (Pv:St→Hp→Prop) (h2:∀ σ' H',Pv σ' H'→b D σ' H') (h1:(∀ σ' H',Pv σ' H'→b D σ' H')→a { D with nx:=fun σ' H'=>b D σ' H' } σ H):Gy a b D σ H:=h1 h2
end L2
namespace M
open PySem L2 PyProof.Rows
abbrev yR:Stmt:=top 37
def Ul (ls ms:List Str) (xs:List V):Prop:=(∃ cD:Rw,xs=cD.vs∧cD.Ok ls∧cD.Mn ms)∨∃ (k z:Str) (rest:List V),xs=.str k::.int 0::.str z::rest∧k∈(["heir", "liege", "death"]:List Str)
theorem O2 (h:Int) (l:List Int):inV (V.int h) (l.map V.int)=decide (h∈l):=by
 unfold inV
 induction l with
 | nil=>rfl
 | cons x r ih =>
  rw [List.map_cons,List.any_cons,ih]
  show ((x==h)||decide (h∈r))=_
  rw [Bool.eq_iff_iff,Bool.or_eq_true,decide_eq_true_iff,decide_eq_true_iff,List.mem_cons,beq_iff_eq]
  constructor
  ·rintro (e | e)
   ·exact .inl e.symm
   ·exact .inr e
  ·rintro (e | e)
   ·exact .inl e.symm
   ·exact .inr e
theorem Um {h:Int} (l:List Int) {A B:Prop} (h1:h∈l→A) (h2:h∉l→B):if (if (false:Bool)=true then !inV (V.int h) (l.map V.int) else inV (V.int h) (l.map V.int))=true then A else B:=by
 rw [if_neg Bool.false_ne_true,O2]
 exact eZ (fun c=>h1 (of_decide_eq_true c)) fun c=>h2 fun z=>c (decide_eq_true z)
theorem eq_int {h l:Int}{A B:Prop} (h1:h=l→A) (h2:h≠l→B):if decide (V.int h=V.int l)=true then A else B:=by
 refine eZ (fun c=>h1 ?_) fun c=>h2 fun z=>c (decide_eq_true (by rw [z]))
 have:=of_decide_eq_true c
 injection this
theorem eq_str {h l:Str}{A B:Prop} (h1:h=l→A) (h2:h≠l→B):if decide (V.str h=V.str l)=true then A else B:=by
 refine eZ (fun c=>h1 ?_) fun c=>h2 fun z=>c (decide_eq_true (by rw [z]))
 have:=of_decide_eq_true c
 injection this
theorem gC {zs:List Str}{i:Int} (h0:0≤i) (h1:i<zs.length):∃ z,yX (zs.map V.str) i=some (V.str z)∧z∈zs:=by
 obtain ⟨v,hv,hm⟩:=oW (xs:=zs.map V.str) h0 (by rw [List.length_map];exact h1)
 obtain ⟨z,hz,rfl⟩:=List.mem_map.mp hm
 exact ⟨z,hv,hz⟩
theorem Dz {f:bC→V} (es:List bC):(kv f es).map (fun x=>kV x.1)=(nms es).map V.str:=by rw [List.map_map,List.map_map];rfl
def Qt (K:PySem.W.Frag):Sp:=fun vs H Q _=>∃ q es ks,∃ (p d m la:Addr) (ms ls:List Str) (wd:Int) (ds:List Int),vs=[.ref q.B,.ref p,.ref d,.int 0]∧Ap q∧Bk q H es ks∧WF es∧es.length<64∧tG H p m la ms ls wd∧bR K H d (ds.map V.int)∧ds.length=8∧(∀ v∈ds,v8 v) ∧
 ∀ r xs H',Same H H'→H' r=some (.tup xs)→Ul ls ms xs→Q (.ref r) H'
section
variable {P:Program}{w:World}{K:PySem.W.Frag}{mg:Str→Option Value}{base:Heap}{f C:Addr}{fd:FuncData}
theorem jc:aZ ["_law_book_here", "_law_pools_here", "_law_d", "_law_day", "_law_men", "_law_lands", "_law_there", "_law_estate", "_law_man", "_law_fresh", "_law_new_here", "_law_wide", "_law_many", "_law_way", "_law_others"] ["_law_book_here", "_law_pools_here", "_law_d", "_law_day"] (aC yR):=⟨rfl,rfl,rfl,by decide +kernel,rfl,by decide +kernel,by decide +kernel⟩
def Yu:Scope:={ kind:=.function,names:=[(".0",.local),("_law_one",.local),("_law_book_here",.free)],isGenerator:=false,isCoroutine:=false }
theorem Yv:cT ["_law_book_here", "_law_pools_here", "_law_d", "_law_day", "_law_men", "_law_lands", "_law_there", "_law_estate", "_law_man", "_law_fresh", "_law_new_here", "_law_wide", "_law_many", "_law_way", "_law_others"] (aC yR) Yu ["_law_one"] ["_law_book_here"] [0]:=⟨rfl,by decide +kernel,by decide +kernel,by decide +kernel,rfl,by decide +kernel⟩
theorem Yw:((["_law_one"]:List Str)++(["_law_book_here"]:List Str)).Nodup:=by decide +kernel
def Yx:Scope:={ kind:=.function,names:=[(".0",.local),("_law_one",.local),("_law_man",.free)],isGenerator:=false,isCoroutine:=false }
theorem Yy:cT ["_law_book_here", "_law_pools_here", "_law_d", "_law_day", "_law_men", "_law_lands", "_law_there", "_law_estate", "_law_man", "_law_fresh", "_law_new_here", "_law_wide", "_law_many", "_law_way", "_law_others"] (aC yR) Yx ["_law_one"] ["_law_man"] [8]:=⟨rfl,by decide +kernel,by decide +kernel,by decide +kernel,rfl,by decide +kernel⟩
theorem Yz:((["_law_one"]:List Str)++(["_law_man"]:List Str)).Nodup:=by decide +kernel
set_option maxHeartbeats 16000000 in
theorem Uo (F:fH K "_law_row" "_law_row" yR f fd) (ms:mg "sorted"=none) (mli:mg "list"=none) (mn:mg "len"=none) (O4:mg "max"=none) (mmin:mg "min"=none) {g1:Addr}{d1:FuncData}
  (G1:aL P w K mg base cu 3 g1 d1 ["_law_book_here", "_law_men", "_law_man", "_law_number"] (Yn K)) (M1:Ms K mg "_law_lord_for" g1 d1 ["_law_book_here", "_law_men", "_law_man", "_law_number"]):aL P w K mg base cu 4 f fd ["_law_book_here", "_law_pools_here", "_law_d", "_law_day"] (Qt K):=by
 refine F.ok jc (fun vs H Q E h=>?_) (fun cdv A outer s H vs Q E hr h=>?_)
 ·obtain ⟨q,es,ks,p,d,m,la,mz,ls,wd,ds,rfl,_⟩:=h
  rfl
 obtain ⟨q,es,ks,p,d,m,la,mz,ls,wd,ds,rfl,ap,bk,W,hl,pl,hS,hdl,hdo,k⟩:=h
 refine ⟨_,(aq (aY (i:=4) jc.nd rfl (Or.inl rfl) (aK aR (pv 1) au (fun _ _=>rfl)))
  (aq (aY (i:=5) jc.nd rfl (Or.inl rfl) (aK aR (pv 1) au (fun _ _=>rfl)))
  (aq (aY (i:=6) jc.nd rfl (Or.inl rfl) (aP dF rfl ms eG (aj (iW (sZ hr.hd) rfl mli nZ (aj (aO (u1 hr) (pv 0) aJ (fun _ _=>rfl)) aA)) aA)))
  (aq (aY (i:=7) jc.nd rfl (Or.inl rfl) (aK aU (pv 6) (aN bO (aK aU (pv 2) au (fun _ _=>rfl)) (aP cA rfl mn PySem.boot_len (aj (pv 6) aA))) (fun _ _=>rfl)))
  (aq (aY (i:=8) jc.nd rfl (Or.inr rfl) (aK aU (pv 4) (aN bO (aK aU (pv 2) au (fun _ _=>rfl)) (aP cA rfl mn PySem.boot_len (aj (pv 4) aA))) (fun _ _=>rfl)))
  (aq (lU (i:=9) rfl Yv (fD (pv 5)) (fun s H fp C'=>⟨bL (i:=0) Yw rfl (Or.inl rfl),eU (aM (gU (K:=K)) (pv 0) (aO (u1 hr) (pv 1) aJ (fun _ _=>rfl)) (by with_unfolding_all rfl)),(pv 0)⟩) jc.nd rfl (Or.inl rfl))
  (aq (aY (i:=10) jc.nd rfl (Or.inl rfl) (aK aU (aN jK (pv 9) (pv 5)) (aN bO (aK aU (pv 2) au (fun _ _=>rfl)) (aP (pF rfl) rfl O4 zO (aj au (aj (aP cA rfl mn PySem.boot_len (aj (pv 9) aA)) aA)))) (fun _ _=>rfl)))
  (aq (bJ (aM GR (aN bO (aK aU (pv 2) au (fun _ _=>rfl)) au) au (bA _)) (aq (aY (i:=10) jc.nd rfl (Or.inl rfl) (aK aU (pv 5) (aN bO (aK aU (pv 2) au (fun _ _=>rfl)) (aP cA rfl mn PySem.boot_len (aj (pv 5) aA))) (fun _ _=>rfl)))
  (aG (aY (i:=7) jc.nd rfl (Or.inl rfl) (aK aU (aN jK (cI (aj aJ aA)) (pv 5)) (aN bO (aK aU (pv 2) au (fun _ _=>rfl)) au) (fun _ _=>rfl))))) aQ)
  (aq (aY (i:=11) jc.nd rfl (Or.inl rfl) (Io (u1 hr) (aO (u1 hr) (pv 0) aJ (fun _ _=>rfl)) (pv 7) au ⟨rfl,rfl,rfl,rfl⟩))
  (aq (aY (i:=12) jc.nd rfl (Or.inl rfl) (aN dH au (aN bO (aK aU (pv 2) au (fun _ _=>rfl)) (aP (pF rfl) rfl O4 zO (aj au (aj (pv 11) aA))))))
  (aq (bJ (aM cH (aN bO (aK aU (pv 2) au (fun _ _=>rfl)) au) au (bA _)) (aG (aY (i:=12) jc.nd rfl (Or.inl rfl) (aP (Ec rfl) rfl mmin Uk (aj au (aj (aN dH (aN dH (pv 11) au) (aN bO (aK aU (pv 2) au (fun _ _=>rfl)) au)) aA))))) aQ)
  (aq (aY (i:=13) jc.nd rfl (Or.inl rfl) (aN bO (aK aU (pv 2) au (fun _ _=>rfl)) au))
  (aq (bJ (PW.pt (qe (aM xu (pv 13) au (bA _)) (kE (PW.pt (mW (aM cH (pv 7) aJ (bA _)) (jG (aM eF (pv 13) (cG (aj au (aj au (aj au (aj au (aj au aA)))))) (by with_unfolding_all rfl)))))))) (aG (aW (cG (aj aJ (aj (pv 3) (aj (pv 7) (aj (pv 10) (aj (pv 8) (aj (pv 12) (aj (aK aU (cI (aj au (aj au (aj (aN bO (aK aU (pv 2) au (fun _ _=>rfl)) au) (aj (aN jH au (aN bO (aK aU (pv 2) au (fun _ _=>rfl)) au)) aA))))) (aN bO (aK aU (pv 2) au (fun _ _=>rfl)) au) (fun _ _=>rfl)) aA)))))))))) aQ)
  (aq (bJ (PW.pt (qe (aM cH (pv 13) au (bA _)) (kE (aM cH (pv 13) au (bA _))))) (aG (aW (cG (aj aJ (aj (pv 3) (aj (pv 7) (aj (pv 10) (aj (pv 8) (aj (pv 12) aA))))))))) aQ)
  (aq (bJ (aM xu (pv 13) au (bA _)) (aG (aW (cG (aj aJ (aj (pv 3) (aj (pv 7) (aj (pv 8) aA))))))) aQ)
  (aq (bJ (PW.pt (qe (aM cH (pv 13) au (bA _)) (kE (aM cH (pv 13) au (bA _))))) (aq (lU (i:=14) rfl Yy (fD (pv 4)) (fun s H fp C'=>⟨bL (i:=0) Yz rfl (Or.inl rfl),eU (aM jT (pv 0) (pv 1) (bA _)),(pv 0)⟩) jc.nd rfl (Or.inl rfl))
  (aG (aW (cG (aj aJ (aj (pv 3) (aj (pv 8) (aj (aK aU (pv 14) (aN bO (aK aU (pv 2) au (fun _ _=>rfl)) (aP cA rfl mn PySem.boot_len (aj (pv 14) aA))) (fun _ _=>rfl)) aA)))))))) aQ)
  (aq (bJ (aM cH (pv 13) au (bA _)) (aG (aW (cG (aj aJ (aj (pv 3) (aj (pv 8) (aj (bf G1 hr rfl M1.m M1.k M1.b .nil bD (aj (pv 0) (aj (pv 4) (aj (pv 8) (aj (aK aU (pv 2) au (fun _ _=>rfl)) aA))))) aA))))))) aQ)
  (aq (bJ (aM cH (pv 13) au (bA _)) (aG (aW (cG (aj aJ (aj (pv 3) (aj (pv 7) aA)))))) aQ)
  (aG (aW (cG (aj aJ (aj (pv 3) (aj (pv 8) aA)))))))))))))))))))))))),?_⟩
 obtain ⟨d0,e0,o0⟩:=fL hdo (i:=0) (by decide) (by omega)
 obtain ⟨o0a,o0b⟩:=o0
 obtain ⟨d1,e1,o1⟩:=fL hdo (i:=1) (by decide) (by omega)
 obtain ⟨o1a,o1b⟩:=o1
 obtain ⟨d2,e2,o2⟩:=fL hdo (i:=2) (by decide) (by omega)
 obtain ⟨o2a,o2b⟩:=o2
 obtain ⟨d3,e3,o3⟩:=fL hdo (i:=3) (by decide) (by omega)
 obtain ⟨o3a,o3b⟩:=o3
 obtain ⟨d4,e4,o4⟩:=fL hdo (i:=4) (by decide) (by omega)
 obtain ⟨o4a,o4b⟩:=o4
 obtain ⟨d5,e5,o5⟩:=fL hdo (i:=5) (by decide) (by omega)
 obtain ⟨o5a,o5b⟩:=o5
 obtain ⟨d6,e6,o6⟩:=fL hdo (i:=6) (by decide) (by omega)
 obtain ⟨o6a,o6b⟩:=o6
 obtain ⟨d7,e7,o7⟩:=fL hdo (i:=7) (by decide) (by omega)
 obtain ⟨o7a,o7b⟩:=o7
 have lm:=pl.lm
 have ll:=pl.ll
 have npos:0<es.length:=by
  obtain ⟨c,r,e,_⟩:=W.hd
  rw [e];simp
 refine ⟨_,rfl,p,_,_,_,rfl,rfl,bM.of pl.r,aF (j:=0) rfl,?_⟩
 refine ⟨_,rfl,p,_,_,_,rfl,rfl,bM.of pl.r,aF (j:=1) rfl,?_⟩
 refine ⟨_,rfl,q.B,_,rfl,bk.gl,q.l,_,rfl,bk.l,fun t1 ht1=>?_⟩
 rw [Dz]
 have s1:=aD ht1 (.lst ((nms es).map V.str))
 refine ⟨t1,nms es,rfl,bR.of ak,by rw [List.length_map];exact hl,fun th ts hth hpt _=>?_⟩
 have s2:=s1.trans (aD hth (.lst (ts.map V.str)))
 have k2:(upd (upd H t1 (.lst ((nms es).map V.str))) th (.lst (ts.map V.str))) th=some (.lst (ts.map V.str)):=ak
 generalize upd (upd H t1 (.lst ((nms es).map V.str))) th (.lst (ts.map V.str))=H2 at s2 k2 ⊢
 have tl:ts.length=es.length:=by rw [hpt.length_eq,List.length_map]
 have S2:=s2.seq hS
 obtain ⟨est0,he0,_⟩:=gC (zs:=ts) (i:=d1 % ((ts.map V.str).length:Int)) (Int.emod_nonneg _ (by rw [List.length_map];omega)) (by have:=Int.emod_lt_of_pos d1 (show (0:Int)<((ts.map V.str).length:Int) by rw [List.length_map];omega);rw [List.length_map] at this ⊢;exact this)
 refine ⟨_,rfl,_,rfl,d,_,_,_,rfl,rfl,S2,e1,_,rfl,th,_,rfl,.inl (bR.of k2),_,_,rfl,rfl,(by rw [List.length_map];show (0:Int)<((ts.length:Nat):Int);omega),th,_,_,_,rfl,rfl,bR.of k2,he0,?_⟩
 have km2:=s2 _ _ pl.m
 have Dv:=s2 _ _ pl.la
 obtain ⟨man,hm0,hmm⟩:=gC (zs:=mz) (i:=d2 % ((mz.map V.str).length:Int)) (Int.emod_nonneg _ (by rw [List.length_map];omega)) (by have:=Int.emod_lt_of_pos d2 (show (0:Int)<((mz.map V.str).length:Int) by rw [List.length_map];omega);rw [List.length_map] at this ⊢;exact this)
 refine ⟨_,rfl,_,rfl,d,_,_,_,rfl,rfl,S2,e2,_,rfl,m,_,rfl,.inl (bR.of km2),_,_,rfl,rfl,(by rw [List.length_map];show (0:Int)<((mz.length:Nat):Int);omega),m,_,_,_,rfl,rfl,bR.of km2,hm0,?_⟩
 have Ke:man≠"":=((pl.om man hmm).ne).1
 refine ⟨_,rfl,la,rfl,⟨_,bR.of Dv⟩,fun D hD=>fK (xs:=ls) (fun x=>!decide (x∈ks)) V.str (bR.of Dv) hD (by omega) (fun x Hz A B hx sz hAB=>?_) (fun Hz sz gG=>?_)⟩
 ·have hAB:=hAB _ (Same.refl _)
  have bz:=bk.same (s2.trans sz)
  refine ⟨Kp.set rfl (Kp.refl _),_,rfl,_,rfl,q.B,_,rfl,bz.gk,q.kn,_,rfl,.inl (bR.of bz.k),rfl,gP _,_,rfl,?_⟩
  show if (!inV (V.str x) (ks.map V.str))=true then _ else _
  rw [mD]
  refine eZ (fun c=>?_) (fun c=>?_)
  ·rw [if_pos c] at hAB
   exact ⟨_,rfl,hAB⟩
  ·rw [if_neg c] at hAB
   exact hAB
 have wL:∀ z∈ls.filter (fun x=>!decide (x∈ks)),z∈ls:=fun z hz=>(List.mem_filter.mp hz).1
 have Ug:(ls.filter fun x=>!decide (x∈ks)).length≤9:=by have:=List.length_filter_le (fun x=>!decide (x∈ks)) ls;omega
 generalize (ls.filter fun x=>!decide (x∈ks))=fr at gG wL Ug
 have s3:=s2.trans sz
 have S3:=s3.seq hS
 have kl3:=sz _ _ Dv
 refine ⟨_,rfl,_,rfl,D,la,_,_,rfl,rfl,gG,kl3,(by rw [List.length_map,List.length_map];exact small (by omega)),fun c1 hc1=>?_⟩
 have e1':fr.map V.str++ls.map V.str=(fr++ls).map V.str:=by rw [List.map_append]
 rw [e1']
 have s4:=s3.trans (aD hc1 (.lst ((fr++ls).map V.str)))
 have k4:(upd Hz c1 (.lst ((fr++ls).map V.str))) c1=some (.lst ((fr++ls).map V.str)):=ak
 have kD4:=(aD hc1 (.lst ((fr++ls).map V.str))) _ _ gG
 have kl4:=(aD hc1 (.lst ((fr++ls).map V.str))) _ _ kl3
 generalize upd Hz c1 (.lst ((fr++ls).map V.str))=H4 at s4 k4 kD4 kl4 ⊢
 have S4:=s4.seq hS
 have mxp:(0:Int)<(if ((fr.map V.str).length:Int) > 1 then ((fr.map V.str).length:Int) else 1):=by split <;> omega
 have mxl:(if ((fr.map V.str).length:Int) > 1 then ((fr.map V.str).length:Int) else 1)≤((fr++ls).length:Int):=by
  rw [List.length_map,List.length_append]
  split <;> omega
 obtain ⟨nw0,hn0,hnm⟩:=gC (zs:=fr++ls) (i:=d3 % (if ((fr.map V.str).length:Int) > 1 then ((fr.map V.str).length:Int) else 1)) (Int.emod_nonneg _ (by omega)) (by have:=Int.emod_lt_of_pos d3 mxp;omega)
 have hnw0:nw0∈ls:=by
  rcases List.mem_append.mp hnm with z | z
  ·exact wL _ z
  ·exact z
 refine ⟨_,rfl,d,_,_,_,rfl,rfl,S4,e3,_,rfl,D,_,rfl,.inl (bR.of kD4),_,_,rfl,_,_,rfl,rfl,mxp,c1,_,_,_,rfl,rfl,bR.of k4,hn0,?_⟩
 dsimp only [nJ]
 refine grab (a:=Gz _ _ _) (fun σ' Hx=>∃ est nw,σ'=[some (.ref q.B),some (.ref p),some (.ref d),some (.int 0),some (.ref m),some (.ref la),some (.ref th),some (.str est),some (.str man),some (.ref D),some (.str nw),none,none,none,none]∧Same H Hx∧nw∈ls) (fun σ' Hx hp=>?_) (fun go=>?_)
 rotate_left
 ·refine ⟨_,rfl,d,_,_,_,rfl,rfl,S4,e7,_,_,rfl,rfl,(by show (0:Int)<12;decide),_,_,rfl,rfl,_,rfl,?_⟩
  refine eZ (fun _=>?_) (fun _=>?_)
  ·obtain ⟨nw1,hn1,hnm1⟩:=gC (zs:=ls) (i:=d3 % ((ls.map V.str).length:Int)) (Int.emod_nonneg _ (by rw [List.length_map];omega)) (by have:=Int.emod_lt_of_pos d3 (show (0:Int)<((ls.map V.str).length:Int) by rw [List.length_map];omega);rw [List.length_map] at this ⊢;exact this)
   refine ⟨_,rfl,_,rfl,d,_,_,_,rfl,rfl,S4,e3,_,rfl,la,_,rfl,.inl (bR.of kl4),_,_,rfl,rfl,(by rw [List.length_map];show (0:Int)<((ls.length:Nat):Int);omega),la,_,_,_,rfl,rfl,bR.of kl4,hn1,?_⟩
   refine ⟨small (by simp),fun c2 hc2=>?_⟩
   have Yj:=aD hc2 (.lst [.str ""])
   refine ⟨_,rfl,c2,la,_,_,rfl,rfl,ak,Yj _ _ kl4,(by rw [List.length_map,List.length_singleton];exact small (by omega)),fun c3 hc3=>?_⟩
   have e3':[V.str ""]++ls.map V.str=(("" : Str)::ls).map V.str:=rfl
   rw [e3']
   have sc3:=Yj.trans (aD hc3 (.lst ((("" : Str)::ls).map V.str)))
   have k5:(upd (upd H4 c2 (.lst [.str ""])) c3 (.lst ((("" : Str)::ls).map V.str))) c3=some (.lst ((("" : Str)::ls).map V.str)):=ak
   change (fun σ' H'=>_) _ _
   obtain ⟨est1,he1,_⟩:=gC (zs:=("" : Str)::ls) (i:=d1 % 10) (by omega) (by rw [List.length_cons];omega)
   refine ⟨_,rfl,d,_,_,_,rfl,rfl,(sc3.seq S4),e1,_,_,rfl,rfl,(by show (0:Int)<10;decide),c3,_,_,_,rfl,rfl,bR.of k5,he1,?_⟩
   exact go _ _ ⟨est1,nw1,rfl,s4.trans sc3,hnm1⟩
  ·exact go _ _ ⟨est0,nw0,rfl,s4,hnw0⟩
 obtain ⟨est,nw,rfl,sx,hnw⟩:=hp
 have bx:=bk.same sx
 have Sx:=sx.seq hS
 obtain ⟨wv,hwv,w0,w1⟩:∃ wv:Int,(bQ (lZ es) (.inr est)).getD (.int 0)=.int wv∧0≤wv∧wv≤9999:=by
  by_cases c:est∈nms es
  ·obtain ⟨y,hy,rfl⟩:=dJ c
   rw [cg W.nd hy]
   have b1:=W.bnd y hy
   have b2:=W.qb y hy
   exact ⟨y.own,rfl,by omega,by omega⟩
  ·rw [lF c]
   exact ⟨0,rfl,by omega,by omega⟩
 refine ⟨_,rfl,q.B,_,rfl,bx.go,q.o,rfl,isD bx.o,_,rfl,_,dR.k (k:=.inr est) bx.o,?_⟩
 rw [hwv]
 have mw:(0:Int)<(if wv > 1 then wv else 1):=by split <;> omega
 have mw2:(if wv > 1 then wv else 1)≤9999:=by split <;> omega
 have q40:=Int.emod_nonneg d4 (Int.ne_of_gt mw)
 have q41:=Int.emod_lt_of_pos d4 mw
 refine ⟨_,rfl,d,_,_,_,rfl,rfl,Sx,e4,_,rfl,_,_,rfl,_,_,rfl,rfl,mw,_,_,rfl,rfl,?_⟩
 generalize d4 % (if wv > 1 then wv else 1)=q4 at q40 q41 ⊢
 dsimp only [nJ]
 refine grab (a:=Gz _ _ _) (fun σ' Hy=>∃ many:Int,σ'=[some (.ref q.B),some (.ref p),some (.ref d),some (.int 0),some (.ref m),some (.ref la),some (.ref th),some (.str est),some (.str man),some (.ref D),some (.str nw),some (.int wv),some (.int many),none,none]∧Hy=Hx∧1≤many∧many≤9999) (fun σ' Hy hp=>?_) (fun go=>?_)
 rotate_left
 ·refine ⟨_,rfl,d,_,_,_,rfl,rfl,Sx,e7,_,_,rfl,rfl,(by show (0:Int)<12;decide),rfl,_,rfl,eq_int (fun _=>?_) (fun _=>?_)⟩
  ·refine ⟨_,rfl,_,_,rfl,rfl,_,rfl,d,_,_,_,rfl,rfl,Sx,e4,_,_,rfl,rfl,(by show (0:Int)<2;decide),_,_,rfl,rfl,_,_,rfl,go _ _ ⟨_,rfl,rfl,?_,?_⟩⟩
   ·split <;> omega
   ·split <;> omega
  ·exact go _ _ ⟨_,rfl,rfl,by omega,by omega⟩
 obtain ⟨many,rfl,rfl,mn1,mn2⟩:=hp
 refine ⟨_,rfl,d,_,_,_,rfl,rfl,Sx,e0,_,_,rfl,rfl,(by show (0:Int)<13;decide),?_⟩
 dsimp only [nJ]
 have y0:=Int.emod_nonneg d0 (show (13:Int)≠0 by decide)
 have y1:=Int.emod_lt_of_pos d0 (show (0:Int)<13 by decide)
 generalize d0 % 13=way at y0 y1 ⊢
 obtain ⟨sr,hsr,hsm⟩:=oW (xs:=[V.int 0,.int 1,.int (d5 % 30),.int (9999 - d5 % 9)]) (i:=d6 % 4) (by omega) (by simp;omega)
 obtain ⟨sr,rfl,sr0,sr1⟩:∃ z:Int,sr=.int z∧0≤z∧z≤9999:=by
  simp only [List.mem_cons,List.not_mem_nil,or_false] at hsm
  rcases hsm with rfl | rfl | rfl | rfl
  ·exact ⟨_,rfl,by omega,by omega⟩
  ·exact ⟨_,rfl,by omega,by omega⟩
  ·exact ⟨_,rfl,by omega,by omega⟩
  ·exact ⟨_,rfl,by omega,by omega⟩
 refine grab (a:=Gz _ _ _) (fun σ' Hw=>σ'=[some (.ref q.B),some (.ref p),some (.ref d),some (.int 0),some (.ref m),some (.ref la),some (.ref th),some (.str est),some (.str man),some (.ref D),some (.str nw),some (.int wv),some (.int many),some (.int way),none]∧Same H Hw∧4≤way∧(est=""→way∉[(4:Int),5,6,9,12])) (fun σ' Hw hp=>?_) (fun go=>?_)
 rotate_left
 ·have fin:∀ {Hw:Hp},Same H Hw→∀ r,Hw r=none→Q (.ref r) (upd Hw r (.tup [.str "grant",.int 0,.str est,.str nw,.str man,.int many,.int sr])):=fun {Hw} sw r hr0=>k r _ _ (bB sw (sw.free hr0)) ak (.inl ⟨.grant est nw man many sr,rfl,⟨hnw,mn1,mn2,sr0,sr1⟩,hmm⟩)
  refine ⟨_,rfl,_,_,rfl,rfl,_,rfl,eZ (fun _=>?_) (fun c4=>?_)⟩
  ·refine dj ⟨_,rfl,_,rfl,_,rfl,_,rfl,_,rfl,_,rfl,d,_,_,_,rfl,rfl,Sx,e5,_,_,rfl,rfl,(by show (0:Int)<30;decide),_,rfl,d,_,_,_,rfl,rfl,Sx,e5,_,_,rfl,rfl,(by show (0:Int)<9;decide),_,_,rfl,rfl,small (by simp),fun c hc=>?_⟩
   have sc:=aD hc (.lst [.int 0,.int 1,.int (d5 % 30),.int (9999 - d5 % 9)])
   refine ⟨_,rfl,d,_,_,_,rfl,rfl,(sc.seq Sx),e6,_,_,rfl,rfl,(by show (0:Int)<4;decide),c,_,_,_,rfl,rfl,bR.of ak,hsr,small (by simp),fun r hr0=>?_⟩
   exact fin (sx.trans sc) r hr0
  ·have c4':4≤way:=by simpa using c4
   refine ⟨_,rfl,rfl,_,rfl,eq_str (fun he=>?_) (fun he=>?_)⟩
   ·refine ⟨_,rfl,small (by simp),fun c hc=>⟨c,_,rfl,.inr (bM.of ak),rfl,rfl,_,rfl,Um [4,5,6,9,12] (fun hin=>?_) (fun hin=>?_)⟩⟩
    ·have sc0:=aD hc (.tup [.int 4,.int 5,.int 6,.int 9,.int 12])
     have Sx2:=sc0.seq Sx
     refine ⟨_,rfl,_,rfl,_,rfl,_,rfl,_,rfl,_,rfl,d,_,_,_,rfl,rfl,Sx2,e5,_,_,rfl,rfl,(by show (0:Int)<30;decide),_,rfl,d,_,_,_,rfl,rfl,Sx2,e5,_,_,rfl,rfl,(by show (0:Int)<9;decide),_,_,rfl,rfl,small (by simp),fun c' hc'=>?_⟩
     have sc:=aD hc' (.lst [.int 0,.int 1,.int (d5 % 30),.int (9999 - d5 % 9)])
     refine ⟨_,rfl,d,_,_,_,rfl,rfl,(sc.seq Sx2),e6,_,_,rfl,rfl,(by show (0:Int)<4;decide),c',_,_,_,rfl,rfl,bR.of ak,hsr,small (by simp),fun r hr0=>?_⟩
     exact fin ((sx.trans sc0).trans sc) r hr0
    ·exact go _ _ ⟨rfl,sx.trans (aD hc _),c4',fun _=>hin⟩
   ·refine cB ?_
    exact go _ _ ⟨rfl,sx,c4',fun z=>absurd z he⟩
 obtain ⟨rfl,sw,c4,hcr⟩:=hp
 have Sw:=sw.seq hS
 have bw:=bk.same sw
 have YB:=pl.same sw
 have part:way∈[(4:Int),5,6,9,12]→est≠"":=fun h1 h2=>hcr h2 h1
 have Qu:(way=4∨way=12)→∀ r,Hw r=none→Q (.ref r) (upd Hw r (.tup [.str "part",.int 0,.str est,.str nw,.str man,.int many])):=fun hy r hr0=>k r _ _ (bB sw (sw.free hr0)) ak (.inl ⟨.part est nw man many,rfl,⟨hnw,mn1,mn2,part (by rcases hy with rfl | rfl <;> decide)⟩,hmm⟩)
 refine ⟨_,rfl,rfl,_,rfl,eq_int (fun hy=>dj ?_) (fun n4=>?_)⟩
 ·exact ⟨_,rfl,_,rfl,_,rfl,_,rfl,_,rfl,small (by simp),Qu (.inl hy)⟩
 refine ⟨_,rfl,rfl,_,rfl,eq_int (fun hy=>?_) (fun n12=>?_)⟩
 ·exact ⟨_,rfl,_,rfl,_,rfl,_,rfl,_,rfl,small (by simp),Qu (.inr hy)⟩
 refine ⟨_,rfl,_,_,rfl,rfl,_,rfl,eZ (fun c7=>?_) (fun c7=>?_)⟩
 ·have c7':way<7:=by simpa using c7
  refine ⟨_,rfl,_,rfl,_,rfl,small (by simp),fun r hr0=>?_⟩
  refine k r _ _ (bB sw (sw.free hr0)) ak (.inl ⟨.convey est man,rfl,part ?_,hmm⟩)
  have:way=5∨way=6:=by omega
  rcases this with rfl | rfl <;> decide
 have c7':7≤way:=by simpa using c7
 have Qw:∃ other,other∈mz∧other≠man:=by
  have h2:∃ a b r,mz=a::b::r:=by
   match mz,lm with
   | a::b::r,_=>exact ⟨a,b,r,rfl⟩
  obtain ⟨a,b,r,rfl⟩:=h2
  have hab:a≠b:=fun z=>(List.nodup_cons.mp pl.nm).1 (by rw [z];exact List.mem_cons_self)
  by_cases c:a=man
  ·exact ⟨b,by simp,fun z=>hab (c.trans z.symm)⟩
  ·exact ⟨a,by simp,c⟩
 refine ⟨_,rfl,rfl,_,rfl,eq_int (fun hy=>dj ?_) (fun n7=>?_)⟩
 ·refine ⟨_,rfl,m,rfl,⟨_,bR.of YB.m⟩,fun D2 hD2=>fK (xs:=mz) (fun x=>!decide (x=man)) V.str (bR.of YB.m) hD2 (by omega) (fun x Ui A B hx Gi hAB=>?_) (fun Ui Gi qF=>?_)⟩
  ·have hAB:=hAB _ (Same.refl _)
   refine ⟨Kp.set rfl (Kp.refl _),_,rfl,_,rfl,rfl,_,rfl,?_⟩
   rw [dB]
   refine eZ (fun c=>?_) (fun c=>?_)
   ·rw [if_pos c] at hAB
    exact ⟨_,rfl,hAB⟩
   ·rw [if_neg c] at hAB
    exact hAB
  ·obtain ⟨ot,ho1,ho2⟩:=Qw
   have hpos:0<(mz.filter fun x=>!decide (x=man)).length:=List.length_pos_of_mem (List.mem_filter.mpr ⟨ho1,by rw [decide_eq_false ho2];rfl⟩)
   generalize (mz.filter fun x=>!decide (x=man))=zs at qF hpos
   obtain ⟨oth,hoa,_⟩:=gC (zs:=zs) (i:=d3 % ((zs.map V.str).length:Int)) (Int.emod_nonneg _ (by rw [List.length_map];omega)) (by have:=Int.emod_lt_of_pos d3 (show (0:Int)<((zs.map V.str).length:Int) by rw [List.length_map];omega);rw [List.length_map] at this ⊢;exact this)
   have Uq:=sw.trans Gi
   refine ⟨_,rfl,_,rfl,_,rfl,_,rfl,d,_,_,_,rfl,rfl,(Uq.seq hS),e3,_,rfl,D2,_,rfl,.inl (bR.of qF),_,_,rfl,rfl,(by rw [List.length_map];show (0:Int)<((zs.length:Nat):Int);omega),D2,_,_,_,rfl,rfl,bR.of qF,hoa,small (by simp),fun r hr0=>?_⟩
   exact k r _ _ (bB Uq (Uq.free hr0)) ak (.inr ⟨"heir",man,_,rfl,by decide +kernel⟩)
 refine ⟨_,rfl,rfl,_,rfl,eq_int (fun hy=>?_) (fun n11=>?_)⟩
 ·refine ⟨_,rfl,m,rfl,⟨_,bR.of YB.m⟩,fun D2 hD2=>fK (xs:=mz) (fun x=>!decide (x=man)) V.str (bR.of YB.m) hD2 (by omega) (fun x Ui A B hx Gi hAB=>?_) (fun Ui Gi qF=>?_)⟩
  ·have hAB:=hAB _ (Same.refl _)
   refine ⟨Kp.set rfl (Kp.refl _),_,rfl,_,rfl,rfl,_,rfl,?_⟩
   rw [dB]
   refine eZ (fun c=>?_) (fun c=>?_)
   ·rw [if_pos c] at hAB
    exact ⟨_,rfl,hAB⟩
   ·rw [if_neg c] at hAB
    exact hAB
  ·obtain ⟨ot,ho1,ho2⟩:=Qw
   have hpos:0<(mz.filter fun x=>!decide (x=man)).length:=List.length_pos_of_mem (List.mem_filter.mpr ⟨ho1,by rw [decide_eq_false ho2];rfl⟩)
   generalize (mz.filter fun x=>!decide (x=man))=zs at qF hpos
   obtain ⟨oth,hoa,_⟩:=gC (zs:=zs) (i:=d3 % ((zs.map V.str).length:Int)) (Int.emod_nonneg _ (by rw [List.length_map];omega)) (by have:=Int.emod_lt_of_pos d3 (show (0:Int)<((zs.map V.str).length:Int) by rw [List.length_map];omega);rw [List.length_map] at this ⊢;exact this)
   have Uq:=sw.trans Gi
   refine ⟨_,rfl,_,rfl,_,rfl,_,rfl,d,_,_,_,rfl,rfl,(Uq.seq hS),e3,_,rfl,D2,_,rfl,.inl (bR.of qF),_,_,rfl,rfl,(by rw [List.length_map];show (0:Int)<((zs.length:Nat):Int);omega),D2,_,_,_,rfl,rfl,bR.of qF,hoa,small (by simp),fun r hr0=>?_⟩
   exact k r _ _ (bB Uq (Uq.free hr0)) ak (.inr ⟨"heir",man,_,rfl,by decide +kernel⟩)
 refine ⟨_,rfl,rfl,_,rfl,eq_int (fun hy=>?_) (fun n8=>?_)⟩
 ·refine ⟨_,rfl,_,rfl,_,rfl,_,rfl,_,rfl,_,rfl,d,_,_,_,rfl,rfl,Sw,e3,q,es,ks,m,mz,man,d3,rfl,ap,bw,W,hl,YB.m,by omega,Ke,fun z Hv sv=>⟨small (by simp),fun r hr0=>?_⟩⟩
  exact k r _ _ (bB (sw.trans sv) ((sw.trans sv).free hr0)) ak (.inr ⟨"liege",man,_,rfl,by decide +kernel⟩)
 refine ⟨_,rfl,rfl,_,rfl,eq_int (fun hy=>?_) (fun n9=>?_)⟩
 ·refine ⟨_,rfl,_,rfl,small (by simp),fun r hr0=>?_⟩
  exact k r _ _ (bB sw (sw.free hr0)) ak (.inl ⟨.jY est,rfl,part (by rw [hy];decide),True.intro⟩)
 refine ⟨_,rfl,_,rfl,small (by simp),fun r hr0=>?_⟩
 exact k r _ _ (bB sw (sw.free hr0)) ak (.inr ⟨"death",man,_,rfl,by decide +kernel⟩)
end
end M
namespace M
open PySem L2 PyProof.Rows
abbrev tH:Stmt:=top 42
abbrev yS:Stmt:=top 43
theorem frzS {t:TE}{D:Ends}{σ:L2.St}{H:Hp}{i:Nat} (h:Ss t σ H fun v H'=>D.nx (σ.set i (some v)) H'):WX (fun D σ H=>t σ H fun v H'=>D.nx (σ.set i (some v)) H') D σ H:=h
theorem Rw.O5 (cD:Rw):decide (cD.kind∈(["heir", "liege", "death"]:List Str))=false:=by
 cases cD
 ·exact (show decide (("grant" : Str)∈(["heir", "liege", "death"]:List Str))=false by decide +kernel)
 ·exact (show decide (("part" : Str)∈(["heir", "liege", "death"]:List Str))=false by decide +kernel)
 ·exact (show decide (("convey" : Str)∈(["heir", "liege", "death"]:List Str))=false by decide +kernel)
 ·exact (show decide (("surrender" : Str)∈(["heir", "liege", "death"]:List Str))=false by decide +kernel)
def Kf (K:PySem.W.Frag):Sp:=fun vs H Q _=>∃ q es ks,∃ (p d m la:Addr) (ms ls:List Str) (wd:Int) (ds:List Int),vs=[.ref q.B,.ref p,.ref d]∧Ap q∧Bk q H es ks∧WF es∧es.length<64∧tG H p m la ms ls wd∧bR K H d (ds.map V.int)∧ds.length=8∧(∀ v∈ds,v8 v) ∧
 ∀ r cD H',Same H H'→H' r=some (.tup (Rw.vs cD))→cD.Ok ls→cD.Mn ms→Q (.ref r) H'
def Qx (K:PySem.W.Frag):Sp:=fun vs H Q _=>∃ q es ks,∃ (p d m la kd:Addr) (ms ls kl:List Str) (wd:Int) (ds:List Int),vs=[.ref q.B,.ref p,.ref d,.ref kd]∧Ap q∧Bk q H es ks∧WF es∧es.length<64∧tG H p m la ms ls wd∧bR K H d (ds.map V.int)∧ds.length=8∧(∀ v∈ds,v8 v)∧H kd=some (.lst (kl.map V.str))∧0<kl.length∧kl.length≤100 ∧
 ∀ r cD H',Same H H'→H' r=some (.tup (Rw.vs cD))→cD.Ok ls→cD.Mn ms→Q (.ref r) H'
section
variable {P:Program}{w:World}{K:PySem.W.Frag}{mg:Str→Option Value}{base:Heap}{f C:Addr}{fd:FuncData}
theorem tK:aZ ["_law_book_here", "_law_pools_here", "_law_d", "_law_row_here", "_law_fresh"] ["_law_book_here", "_law_pools_here", "_law_d"] (aC tH):=⟨rfl,rfl,rfl,by decide +kernel,rfl,by decide +kernel,by decide +kernel⟩
def YC:Scope:={ kind:=.function,names:=[(".0",.local),("_law_one",.local),("_law_book_here",.free)],isGenerator:=false,isCoroutine:=false }
theorem YD:cT ["_law_book_here", "_law_pools_here", "_law_d", "_law_row_here", "_law_fresh"] (aC tH) YC ["_law_one"] ["_law_book_here"] [0]:=⟨rfl,by decide +kernel,by decide +kernel,by decide +kernel,rfl,by decide +kernel⟩
theorem YF:((["_law_one"]:List Str)++(["_law_book_here"]:List Str)).Nodup:=by decide +kernel
set_option maxHeartbeats 16000000 in
theorem O6 (F:fH K "_law_some_deed" "_law_some_deed" tH f fd) (ms:mg "sorted"=none) (mli:mg "list"=none) (mn:mg "len"=none) {g1:Addr}{d1:FuncData}
  (G1:aL P w K mg base cu 4 g1 d1 ["_law_book_here", "_law_pools_here", "_law_d", "_law_day"] (Qt K)) (M1:Ms K mg "_law_row" g1 d1 ["_law_book_here", "_law_pools_here", "_law_d", "_law_day"]):aL P w K mg base cu 5 f fd ["_law_book_here", "_law_pools_here", "_law_d"] (Kf K):=by
 refine F.ok tK (fun vs H Q E h=>?_) (fun cdv A outer s H vs Q E hr h=>?_)
 ·obtain ⟨q,es,ks,p,d,m,la,mz,ls,wd,ds,rfl,_⟩:=h
  rfl
 obtain ⟨q,es,ks,p,d,m,la,mz,ls,wd,ds,rfl,ap,bk,W,hl,pl,hS,hdl,hdo,k⟩:=h
 refine ⟨_,(aq (aY (i:=3) tK.nd rfl (Or.inl rfl) (bf G1 hr rfl M1.m M1.k M1.b .nil bD (aj (pv 0) (aj (pv 1) (aj (pv 2) (aj au aA))))))
  (aq (bJ (aM eF (aK aR (pv 3) au (fun _ _=>rfl)) (cG (aj aJ (aj aJ (aj aJ aA)))) (by with_unfolding_all rfl)) (aq (aY (i:=3) tK.nd rfl (Or.inl rfl) (cG (aj aJ (aj au (aj (aK aU (aP dF rfl ms eG (aj (iW (sZ hr.hd) rfl mli nZ (aj (aO (u1 hr) (pv 0) aJ (fun _ _=>rfl)) aA)) aA)) (aN bO (aK aU (pv 2) au (fun _ _=>rfl)) (aP Ah rfl mn PySem.boot_len (aj (aO (u1 hr) (pv 0) aJ (fun _ _=>rfl)) aA))) (fun _ _=>rfl)) (aj (aK aR (pv 3) au (fun _ _=>rfl)) (aj (aK aU (aK aR (pv 1) au (fun _ _=>rfl)) (aN bO (aK aU (pv 2) au (fun _ _=>rfl)) au) (fun _ _=>rfl)) (aj au (aj au aA)))))))))
  (aq (lU (i:=4) rfl YD (fD (aK aR (pv 1) au (fun _ _=>rfl))) (fun s H fp C'=>⟨bL (i:=0) YF rfl (Or.inl rfl),eU (aM (gU (K:=K)) (pv 0) (aO (u1 hr) (pv 1) aJ (fun _ _=>rfl)) (by with_unfolding_all rfl)),(pv 0)⟩) tK.nd rfl (Or.inl rfl))
  (aG (aY (i:=3) tK.nd rfl (Or.inl rfl) (aN vL (aN vL (fO Hi (pv 3) jJ (dI au)) (cG (aj (aK aU (aN jK (pv 4) (aK aR (pv 1) au (fun _ _=>rfl))) au (fun _ _=>rfl)) aA))) (fO Hi (pv 3) (dI au) jJ)))))) aQ)
  (aG (aW (pv 3))))),?_⟩
 obtain ⟨d1,e1,o1⟩:=fL hdo (i:=1) (by decide) (by omega)
 obtain ⟨d2,e2,o2⟩:=fL hdo (i:=2) (by decide) (by omega)
 obtain ⟨o2a,o2b⟩:=o2
 have lm:=pl.lm
 have ll:=pl.ll
 have npos:0<es.length:=by
  obtain ⟨c,r,e,_⟩:=W.hd
  rw [e];simp
 refine ⟨_,rfl,_,rfl,_,rfl,q,es,ks,p,d,m,la,mz,ls,wd,ds,rfl,ap,bk,W,hl,pl,hS,hdl,hdo,fun r xs H1 s1 hr1 hout=>?_⟩
 rcases hout with ⟨cD,rfl,hok,hmn⟩ | ⟨k0,z0,rest,rfl,hk0⟩
 ·refine ⟨_,rfl,r,_,_,_,rfl,rfl,bM.of hr1,aF (j:=0) cD.vs0,small (by simp),fun t ht=>⟨t,_,rfl,.inr (bM.of ak),rfl,rfl,_,rfl,dY (k:=cD.kind) (ls:=["heir", "liege", "death"]) (b:=false) cD.O5 (cB ?_)⟩⟩
  have s2:=aD ht (.tup [.str "heir",.str "liege",.str "death"])
  exact ⟨_,rfl,k r cD _ (s1.trans s2) (s2 _ _ hr1) hok hmn⟩
 refine ⟨_,rfl,r,_,_,_,rfl,rfl,bM.of hr1,aF (j:=0) rfl,small (by simp),fun t ht=>⟨t,_,rfl,.inr (bM.of ak),rfl,rfl,_,rfl,dY (k:=k0) (ls:=["heir", "liege", "death"]) (b:=true) (decide_eq_true hk0) (dj ?_)⟩⟩
 have s12:=aD ht (.tup [.str "heir",.str "liege",.str "death"])
 have s2:=s1.trans s12
 have hr2:=s12 _ _ hr1
 generalize upd H1 t (.tup [.str "heir",.str "liege",.str "death"])=H2 at s12 s2 hr2 ⊢
 have b2:=bk.same s2
 refine ⟨_,rfl,q.B,_,rfl,b2.gl,q.l,_,rfl,b2.l,fun t1 ht1=>?_⟩
 rw [Dz]
 have s3:=aD ht1 (.lst ((nms es).map V.str))
 refine ⟨t1,nms es,rfl,bR.of ak,by rw [List.length_map];exact hl,fun th ts hth hpt _=>?_⟩
 have s4:=s3.trans (aD hth (.lst (ts.map V.str)))
 have k4:(upd (upd H2 t1 (.lst ((nms es).map V.str))) th (.lst (ts.map V.str))) th=some (.lst (ts.map V.str)):=ak
 generalize upd (upd H2 t1 (.lst ((nms es).map V.str))) th (.lst (ts.map V.str))=H4 at s4 k4 ⊢
 have Bs:=s2.trans s4
 have b4:=bk.same Bs
 have S4:=Bs.seq hS
 have p4:=pl.same Bs
 have tl:ts.length=es.length:=by rw [hpt.length_eq,List.length_map]
 have l0:((iy es).length:Int)=(es.length:Int):=by rw [gO]
 obtain ⟨est,Ur,_⟩:=gC (zs:=ts) (i:=d1 % ((iy es).length:Int)) (Int.emod_nonneg _ (by omega)) (by have:=Int.emod_lt_of_pos d1 (show (0:Int)<((iy es).length:Int) by omega);omega)
 refine ⟨_,rfl,d,_,_,_,rfl,rfl,S4,e1,_,rfl,q.B,_,rfl,b4.gl,q.l,_,rfl,b4.l,_,_,rfl,rfl,(by show (0:Int)<((iy es).length:Int);omega),th,_,_,_,rfl,rfl,bR.of k4,Ur,?_⟩
 obtain ⟨man,Ke,hmm⟩:=gC (zs:=mz) (i:=d2 % 6) (by omega) (by omega)
 refine ⟨_,rfl,r,_,_,_,rfl,rfl,bM.of (s4 _ _ hr2),aF (j:=2) rfl,_,rfl,p,_,_,_,rfl,rfl,bM.of p4.r,aF (j:=0) rfl,_,rfl,d,_,_,_,rfl,rfl,S4,e2,_,_,rfl,rfl,(by show (0:Int)<6;decide),m,_,_,_,rfl,rfl,bR.of p4.m,Ke,small (by simp),fun r3 wD=>?_⟩
 have s45:=aD wD (.tup [.str "grant",.int 0,.str est,.str z0,.str man,.int 1,.int 2])
 have k5:(upd H4 r3 (.tup [.str "grant",.int 0,.str est,.str z0,.str man,.int 1,.int 2])) r3=some (.tup [.str "grant",.int 0,.str est,.str z0,.str man,.int 1,.int 2]):=ak
 dsimp only [nJ]
 generalize upd H4 r3 (.tup [.str "grant",.int 0,.str est,.str z0,.str man,.int 1,.int 2])=H5 at s45 k5 ⊢
 have s2:=Bs.trans s45
 have p5:=pl.same s2
 have Dv:=p5.la
 refine ⟨_,rfl,p,_,_,_,rfl,rfl,bM.of p5.r,aF (j:=1) rfl,la,rfl,⟨_,bR.of Dv⟩,fun D hD=>fK (xs:=ls) (fun x=>!decide (x∈ks)) V.str (bR.of Dv) hD (by omega) (fun x Hz A B hx sz hAB=>?_) (fun Hz sz gG=>?_)⟩
 ·have hAB:=hAB _ (Same.refl _)
  have bz:=bk.same (s2.trans sz)
  refine ⟨Kp.set rfl (Kp.refl _),_,rfl,_,rfl,q.B,_,rfl,bz.gk,q.kn,_,rfl,.inl (bR.of bz.k),rfl,gP _,_,rfl,?_⟩
  show if (!inV (V.str x) (ks.map V.str))=true then _ else _
  rw [mD]
  refine eZ (fun c=>?_) (fun c=>?_)
  ·rw [if_pos c] at hAB
   exact ⟨_,rfl,hAB⟩
  ·rw [if_neg c] at hAB
   exact hAB
 have wL:∀ z∈ls.filter (fun x=>!decide (x∈ks)),z∈ls:=fun z hz=>(List.mem_filter.mp hz).1
 have Ug:(ls.filter fun x=>!decide (x∈ks)).length≤9:=by have:=List.length_filter_le (fun x=>!decide (x∈ks)) ls;omega
 generalize (ls.filter fun x=>!decide (x∈ks))=fr at gG wL Ug
 have Qs:=s2.trans sz
 have p6:=pl.same Qs
 have k6:=sz _ _ k5
 refine ⟨_,rfl,_,rfl,r3,_,rfl,bM.of k6,(by intro h;exact absurd (show HT.eY 7 7 (some 3)=7 from h.2) (by decide)),fun c1 hc1=>?_⟩
 have ec1:iI [V.str "grant",.int 0,.str est,.str z0,.str man,.int 1,.int 2] none (some 3)=[.str "grant",.int 0,.str est]:=rfl
 rw [ec1]
 have YG:=aD hc1 (.tup [.str "grant",.int 0,.str est])
 have kc1:(upd Hz c1 (.tup [.str "grant",.int 0,.str est])) c1=some (.tup [.str "grant",.int 0,.str est]):=ak
 generalize upd Hz c1 (.tup [.str "grant",.int 0,.str est])=H7 at YG kc1 ⊢
 have p7:=p6.same YG
 refine ⟨_,rfl,_,rfl,p,_,_,_,rfl,rfl,bM.of p7.r,aF (j:=1) rfl,D,la,_,_,rfl,rfl,YG _ _ gG,p7.la,(by rw [List.length_map,List.length_map];exact small (by omega)),fun c2 hc2=>?_⟩
 have ec2:fr.map V.str++ls.map V.str=(fr++ls).map V.str:=by rw [List.map_append]
 rw [ec2]
 obtain ⟨nw,hnw,hnm⟩:=gC (zs:=fr++ls) (i:=0) (by decide) (by rw [List.length_append];omega)
 have hnl:nw∈ls:=by
  rcases List.mem_append.mp hnm with z | z
  ·exact wL _ z
  ·exact z
 have t2:=aD hc2 (.lst ((fr++ls).map V.str))
 refine ⟨c2,_,_,_,rfl,rfl,bR.of ak,hnw,small (by simp),fun c3 hc3=>?_⟩
 have t3:=t2.trans (aD hc3 (.tup [.str nw]))
 have kc3:(upd (upd H7 c2 (.lst ((fr++ls).map V.str))) c3 (.tup [.str nw])) c3=some (.tup [.str nw]):=ak
 refine ⟨c1,c3,_,_,rfl,rfl,bM.of (t3 _ _ kc1),bM.of kc3,(by simp),small (by simp),(fun z=>absurd z (by simp)),fun _ c4 hc4=>?_⟩
 have t4:=t3.trans (aD hc4 (.tup [.str "grant",.int 0,.str est,.str nw]))
 have kc4:(upd (upd (upd H7 c2 (.lst ((fr++ls).map V.str))) c3 (.tup [.str nw])) c4 (.tup [.str "grant",.int 0,.str est,.str nw])) c4=some (.tup [.str "grant",.int 0,.str est,.str nw]):=ak
 refine ⟨_,rfl,_,rfl,r3,_,rfl,bM.of (t4 _ _ (YG _ _ k6)),(by intro h;exact absurd (show HT.eY 7 0 (some 4)=0 from h.1) (by decide)),fun c5 hc5=>?_⟩
 have ec5:iI [V.str "grant",.int 0,.str est,.str z0,.str man,.int 1,.int 2] (some 4) none=[.str man,.int 1,.int 2]:=rfl
 rw [ec5]
 have t5:=t4.trans (aD hc5 (.tup [.str man,.int 1,.int 2]))
 refine ⟨c4,c5,_,_,rfl,rfl,bM.of ((aD hc5 (.tup [.str man,.int 1,.int 2])) _ _ kc4),bM.of ak,(by simp),small (by simp),(fun z=>absurd z (by simp)),fun _ c6 hc6=>?_⟩
 have t6:=(Qs.trans YG).trans (t5.trans (aD hc6 (.tup [.str "grant",.int 0,.str est,.str nw,.str man,.int 1,.int 2])))
 exact ⟨_,rfl,k c6 (.grant est nw man 1 2) _ t6 ak ⟨hnl,by decide,by decide,by decide,by decide⟩ hmm⟩
theorem vG:aZ ["_law_book_here", "_law_pools_here", "_law_d", "_law_kinds", "_law_fresh", "_law_there", "_law_row_here", "_law_estate", "_law_man"] ["_law_book_here", "_law_pools_here", "_law_d", "_law_kinds"] (aC yS):=⟨rfl,rfl,rfl,by decide +kernel,rfl,by decide +kernel,by decide +kernel⟩
def YH:Scope:={ kind:=.function,names:=[(".0",.local),("_law_one",.local),("_law_book_here",.free)],isGenerator:=false,isCoroutine:=false }
theorem YJ:cT ["_law_book_here", "_law_pools_here", "_law_d", "_law_kinds", "_law_fresh", "_law_there", "_law_row_here", "_law_estate", "_law_man"] (aC yS) YH ["_law_one"] ["_law_book_here"] [0]:=⟨rfl,by decide +kernel,by decide +kernel,by decide +kernel,rfl,by decide +kernel⟩
theorem YK:((["_law_one"]:List Str)++(["_law_book_here"]:List Str)).Nodup:=by decide +kernel
def YL:Scope:={ kind:=.function,names:=[(".0",.local),("_law_one",.local)],isGenerator:=false,isCoroutine:=false }
theorem YM:cT ["_law_book_here", "_law_pools_here", "_law_d", "_law_kinds", "_law_fresh", "_law_there", "_law_row_here", "_law_estate", "_law_man"] (aC yS) YL ["_law_one"] [] []:=⟨rfl,by decide +kernel,by decide +kernel,by decide +kernel,rfl,by decide +kernel⟩
theorem YQ:((["_law_one"]:List Str)++([]:List Str)).Nodup:=by decide +kernel
set_option maxHeartbeats 16000000 in
theorem Us (F:fH K "_law_steered" "_law_steered" yS f fd) (mn:mg "len"=none) (O4:mg "max"=none) {g1:Addr}{d1:FuncData}
  (G1:aL P w K mg base cu 5 g1 d1 ["_law_book_here", "_law_pools_here", "_law_d"] (Kf K)) (M1:Ms K mg "_law_some_deed" g1 d1 ["_law_book_here", "_law_pools_here", "_law_d"]):aL P w K mg base cu 6 f fd ["_law_book_here", "_law_pools_here", "_law_d", "_law_kinds"] (Qx K):=by
 refine F.ok vG (fun vs H Q E h=>?_) (fun cdv A outer s H vs Q E hr h=>?_)
 ·obtain ⟨q,es,ks,p,d,m,la,kd,mz,ls,kl,wd,ds,rfl,_⟩:=h
  rfl
 obtain ⟨q,es,ks,p,d,m,la,kd,mz,ls,kl,wd,ds,rfl,ap,bk,W,hl,pl,hS,hdl,hdo,hkd,hk0,hk1,k⟩:=h
 refine ⟨_,(aq (lU (i:=4) rfl YJ (fD (aK aR (pv 1) au (fun _ _=>rfl))) (fun s H fp C'=>⟨bL (i:=0) YK rfl (Or.inl rfl),eU (aM (gU (K:=K)) (pv 0) (aO (u1 hr) (pv 1) aJ (fun _ _=>rfl)) (by with_unfolding_all rfl)),(pv 0)⟩) vG.nd rfl (Or.inl rfl))
  (aq (T3 (lU (i:=5) rfl YM (oJ (aO (u1 hr) (pv 0) aJ (fun _ _=>rfl))) (fun s H fp C'=>⟨bL (i:=0) YQ rfl (Or.inl rfl),eU (aM jT (pv 0) aJ (bA _)),pv 0⟩) vG.nd rfl (Or.inl rfl)))
  (aq (aY (i:=6) vG.nd rfl (Or.inl rfl) (bf G1 hr rfl M1.m M1.k M1.b .nil bD (aj (pv 0) (aj (pv 1) (aj (pv 2) aA)))))
  (aq (bJ (PW.pt (qe (aM eF (aK aR (pv 6) au (fun _ _=>rfl)) (pv 3) (by with_unfolding_all rfl)) (kE (aM (S7 hr.units) (pv 5) (cI aA) (bA _))))) (aG (aW (pv 6))) aQ)
  (aq (aY (i:=7) vG.nd rfl (Or.inl rfl) (aK aU (pv 5) (aN bO (aK aU (pv 2) au (fun _ _=>rfl)) (aP cA rfl mn PySem.boot_len (aj (pv 5) aA))) (fun _ _=>rfl)))
  (aq (aY (i:=8) vG.nd rfl (Or.inl rfl) (aK aU (aK aR (pv 1) au (fun _ _=>rfl)) (aN bO (aK aU (pv 2) au (fun _ _=>rfl)) au) (fun _ _=>rfl)))
  (aq (bJ (PW.pt (mW (aM cH (aK aU (pv 3) (aN bO (aK aU (pv 2) au (fun _ _=>rfl)) (aP cA rfl mn PySem.boot_len (aj (pv 3) aA))) (fun _ _=>rfl)) aJ (bA _)) (jG (aM (vW hr.units) (pv 4) (cI aA) (bA _))))) (aG (aW (cG (aj aJ (aj au (aj (pv 7) (aj (aK aU (pv 4) au (fun _ _=>rfl)) (aj (pv 8) (aj (aN dH au (aN bO (aK aU (pv 2) au (fun _ _=>rfl)) (aP (pF rfl) rfl O4 zO (aj au (aj (aO (u1 hr) (aO (u1 hr) (pv 0) aJ (fun _ _=>rfl)) (pv 7) (fun _ _=>rfl)) aA))))) aA))))))))) aQ)
  (aq (bJ (aM cH (aK aU (pv 3) (aN bO (aK aU (pv 2) au (fun _ _=>rfl)) (aP cA rfl mn PySem.boot_len (aj (pv 3) aA))) (fun _ _=>rfl)) aJ (bA _)) (aG (aW (cG (aj aJ (aj au (aj (pv 7) (aj (pv 8) aA))))))) aQ)
  (aq (bJ (aM cH (aK aU (pv 3) (aN bO (aK aU (pv 2) au (fun _ _=>rfl)) (aP cA rfl mn PySem.boot_len (aj (pv 3) aA))) (fun _ _=>rfl)) aJ (bA _)) (aG (aW (cG (aj aJ (aj au (aj (pv 7) aA)))))) aQ)
  (aG (aW (pv 6)))))))))))),?_⟩
 obtain ⟨d0,e0,o0⟩:=fL hdo (i:=0) (by decide) (by omega)
 obtain ⟨d1,e1,o1⟩:=fL hdo (i:=1) (by decide) (by omega)
 obtain ⟨d2,e2,o2⟩:=fL hdo (i:=2) (by decide) (by omega)
 obtain ⟨d4,e4,o4⟩:=fL hdo (i:=4) (by decide) (by omega)
 obtain ⟨o2a,o2b⟩:=o2
 obtain ⟨o4a,o4b⟩:=o4
 have lm:=pl.lm
 have ll:=pl.ll
 have s2:=Same.refl H
 have Dv:=pl.la
 refine ⟨_,rfl,p,_,_,_,rfl,rfl,bM.of pl.r,aF (j:=1) rfl,la,rfl,⟨_,bR.of Dv⟩,fun D hD=>fK (xs:=ls) (fun x=>!decide (x∈ks)) V.str (bR.of Dv) hD (by omega) (fun x Hz A B hx sz hAB=>?_) (fun Hz sz gG=>?_)⟩
 ·have hAB:=hAB _ (Same.refl _)
  have bz:=bk.same (s2.trans sz)
  refine ⟨Kp.set rfl (Kp.refl _),_,rfl,_,rfl,q.B,_,rfl,bz.gk,q.kn,_,rfl,.inl (bR.of bz.k),rfl,gP _,_,rfl,?_⟩
  show if (!inV (V.str x) (ks.map V.str))=true then _ else _
  rw [mD]
  refine eZ (fun c=>?_) (fun c=>?_)
  ·rw [if_pos c] at hAB
   exact ⟨_,rfl,hAB⟩
  ·rw [if_neg c] at hAB
   exact hAB
 have wL:∀ z∈ls.filter (fun x=>!decide (x∈ks)),z∈ls:=fun z hz=>(List.mem_filter.mp hz).1
 have Ug:(ls.filter fun x=>!decide (x∈ks)).length≤9:=by have:=List.length_filter_le (fun x=>!decide (x∈ks)) ls;omega
 generalize (ls.filter fun x=>!decide (x∈ks))=fr at gG wL Ug
 have b1:=bk.same sz
 have nB:q.B≠q.l:=bV ap 5 6 rfl rfl (by decide)
 have gB:∀ {o:Obj}{Hx:Hp},Same (upd Hz q.l (.fX o (.dK (iy es)))) Hx→dR Hx q.B (V.str "lords") (some (.ref q.l)):=fun sx=>fP (sx _ _ (by rw [ao nB];exact b1.b)) bk.vl
 refine frzS (mq (fun y=>!decide (y.n="")) b1.l (by omega) (fun o R' hR=>⟨_,rfl,q.B,_,rfl,gB (Same.refl _),hR⟩) (fun o y Hx A B hy sx hAB=>?_) (fun D2 H2 Gi hD20 qF=>?_))
 ·refine ⟨Kp.set rfl (Kp.refl _),_,rfl,rfl,_,rfl,?_⟩
  rw [dB]
  refine eZ (fun c=>?_) (fun c=>?_)
  ·rw [if_pos c] at hAB
   exact ⟨_,rfl,hAB⟩
  ·rw [if_neg c] at hAB
   exact hAB
 have thm:∀ z∈(es.filter fun y:bC=>!decide (y.n=("" : Str))).map (·.n),∃ y∈es,y.n=z∧z≠"":=fun z hz=>by
  obtain ⟨y,hy,rfl⟩:=List.mem_map.mp hz
  obtain ⟨h1,h2⟩:=List.mem_filter.mp hy
  refine ⟨y,h1,rfl,fun c=>?_⟩
  rw [decide_eq_true c] at h2
  cases h2
 generalize (es.filter fun y:bC=>!decide (y.n=("" : Str))).map (·.n)=Qy at qF thm
 have Kd:=sz.trans Gi
 have b2:=bk.same Kd
 have S2:=Kd.seq hS
 have p2:=pl.same Kd
 refine ⟨_,rfl,_,rfl,_,rfl,q,es,ks,p,d,m,la,mz,ls,wd,ds,rfl,ap,b2,W,hl,p2,S2,hdl,hdo,fun r cD H3 s3 wD hok hmn=>?_⟩
 have Br:=Kd.trans s3
 have kd3:=Br _ _ hkd
 have th3:=s3 _ _ qF
 have Kz:=s3 _ _ (Gi _ _ gG)
 have S3:=Br.seq hS
 have b3:=bk.same Br
 have p3:=pl.same Br
 refine ⟨_,rfl,r,_,_,_,rfl,rfl,bM.of wD,aF (j:=0) cD.vs0,_,rfl,kd,_,rfl,.inl (bR.of kd3),rfl,gP _,_,rfl,mG (fun _=>dj ?_) (fun _=>?_)⟩
 ·exact ⟨_,rfl,k r cD H3 Br wD hok hmn⟩
 refine ⟨_,rfl,small (by simp),fun z hz=>?_⟩
 have Vq:=aD hz (.lst [])
 refine ⟨_,_,.lst (Vq _ _ th3) (oV Qy),.lst ak .nil,jE (fun s hs=>by obtain ⟨y,hy,e,_⟩:=thm s hs;rw [← e];exact W.ok y hy),jE (ss:=[]) (fun _ h=>nomatch h),tu Qy,_,rfl,?_⟩
 rw [strs_nil]
 have Bs:=Br.trans Vq
 have Di:=Vq _ _ wD
 have th4:=Vq _ _ th3
 have fr4:=Vq _ _ Kz
 have kd4:=Vq _ _ kd3
 refine eZ (fun _=>?_) (fun hne=>?_)
 ·exact ⟨_,rfl,k r cD _ Bs Di hok hmn⟩
 generalize upd H3 z (.lst [])=H4 at Bs Di th4 fr4 kd4 ⊢
 have S4:=Bs.seq hS
 have p4:=pl.same Bs
 have b4:=bk.same Bs
 have tpos:0<Qy.length:=by
  cases Qy with
  | nil=>exact absurd (by decide) hne
  | cons x r=>simp
 obtain ⟨est,Ur,hem⟩:=gC (zs:=Qy) (i:=d1 % ((Qy.map V.str).length:Int)) (Int.emod_nonneg _ (by rw [List.length_map];omega)) (by have:=Int.emod_lt_of_pos d1 (show (0:Int)<((Qy.map V.str).length:Int) by rw [List.length_map];omega);rw [List.length_map] at this ⊢;exact this)
 obtain ⟨y,hy,rfl,Gq⟩:=thm est hem
 refine ⟨_,rfl,_,rfl,d,_,_,_,rfl,rfl,S4,e1,_,rfl,D2,_,rfl,.inl (bR.of th4),_,_,rfl,rfl,(by rw [List.length_map];show (0:Int)<((Qy.length:Nat):Int);omega),D2,_,_,_,rfl,rfl,bR.of th4,Ur,?_⟩
 obtain ⟨man,Ke,hmm⟩:=gC (zs:=mz) (i:=d2 % 6) (by omega) (by omega)
 refine ⟨_,rfl,p,_,_,_,rfl,rfl,bM.of p4.r,aF (j:=0) rfl,_,rfl,d,_,_,_,rfl,rfl,S4,e2,_,_,rfl,rfl,(by show (0:Int)<6;decide),m,_,_,_,rfl,rfl,bR.of p4.m,Ke,?_⟩
 obtain ⟨kn,hkn,_⟩:=gC (zs:=kl) (i:=d0 % ((kl.map V.str).length:Int)) (Int.emod_nonneg _ (by rw [List.length_map];omega)) (by have:=Int.emod_lt_of_pos d0 (show (0:Int)<((kl.map V.str).length:Int) by rw [List.length_map];omega);rw [List.length_map] at this ⊢;exact this)
 dsimp only [nJ]
 refine grab (a:=Gz _ _ _) (fun σ' Hx=>σ'=[some (.ref q.B),some (.ref p),some (.ref d),some (.ref kd),some (.ref D),some (.ref D2),some (.ref r),some (.str y.n),some (.str man)]∧Same H4 Hx) (fun σ' Hx hp=>?_) (fun go=>?_)
 rotate_left
 ·refine ⟨_,rfl,_,rfl,d,_,_,_,rfl,rfl,S4,e0,_,rfl,kd,_,rfl,.inl (bR.of kd4),_,_,rfl,rfl,(by rw [List.length_map];show (0:Int)<((kl.length:Nat):Int);omega),kd,_,_,_,rfl,rfl,bR.of kd4,hkn,rfl,_,rfl,eq_str (fun _=>?_) (fun _=>?_)⟩
  ·refine ⟨_,rfl,small (by simp),fun z hz=>?_⟩
   have sz5:=aD hz (.lst [])
   refine ⟨_,_,.lst (sz5 _ _ fr4) (oV fr),.lst ak .nil,jE (fun s hs=>((pl.ol s (wL s hs)).ne).2),jE (ss:=[]) (fun _ h=>nomatch h),tu fr,_,rfl,?_⟩
   rw [strs_nil]
   have s05:=Bs.trans sz5
   have S5:=s05.seq hS
   have b5:=bk.same s05
   have Ry:=sz5 _ _ fr4
   have go5:=fun σ' (e:σ'=_)=>go σ' _ ⟨e,sz5⟩
   refine eZ (fun hfr=>?_) (fun _=>?_)
   ·have fpos:0<fr.length:=by
     cases fr with
     | nil=>exact absurd hfr (by decide)
     | cons x r=>simp
    obtain ⟨nw,hnw,hnm⟩:=gC (zs:=fr) (i:=0) (by decide) (by omega)
    have bb:=W.bnd y hy
    have ob:=W.qb y hy
    have mw:(0:Int)<(if y.own > 1 then y.own else 1):=by split <;> omega
    have mw2:(if y.own > 1 then y.own else 1)≤9999:=by split <;> omega
    have q40:=Int.emod_nonneg d4 (Int.ne_of_gt mw)
    have q41:=Int.emod_lt_of_pos d4 mw
    refine ⟨_,rfl,_,rfl,D,_,_,_,rfl,rfl,bR.of Ry,hnw,_,rfl,_,rfl,d,_,_,_,rfl,rfl,S5,e4,_,rfl,q.B,_,rfl,b5.go,_,rfl,q.o,_,rfl,Bo b5.o W.nd hy,_,_,rfl,_,_,rfl,rfl,mw,_,_,rfl,rfl,small (by simp),fun r6 YS=>?_⟩
    exact k r6 (.part y.n nw man (1+d4 % (if y.own > 1 then y.own else 1))) _ (bB s05 (s05.free YS)) ak ⟨wL _ hnm,by omega,by omega,Gq⟩ hmm
   ·exact go5 _ rfl
  ·refine cB ?_
   exact go _ _ ⟨rfl,Same.refl _⟩
 obtain ⟨rfl,sx⟩:=hp
 have Vr:=Bs.trans sx
 have Sx:=Vr.seq hS
 have kdx:=sx _ _ kd4
 refine ⟨_,rfl,_,rfl,d,_,_,_,rfl,rfl,Sx,e0,_,rfl,kd,_,rfl,.inl (bR.of kdx),_,_,rfl,rfl,(by rw [List.length_map];show (0:Int)<((kl.length:Nat):Int);omega),kd,_,_,_,rfl,rfl,bR.of kdx,hkn,rfl,_,rfl,eq_str (fun _=>?_) (fun _=>?_)⟩
 ·refine ⟨_,rfl,_,rfl,small (by simp),fun r6 YS=>?_⟩
  exact k r6 (.convey y.n man) _ (bB Vr (Vr.free YS)) ak Gq hmm
 refine ⟨_,rfl,_,rfl,d,_,_,_,rfl,rfl,Sx,e0,_,rfl,kd,_,rfl,.inl (bR.of kdx),_,_,rfl,rfl,(by rw [List.length_map];show (0:Int)<((kl.length:Nat):Int);omega),kd,_,_,_,rfl,rfl,bR.of kdx,hkn,rfl,_,rfl,eq_str (fun _=>?_) (fun _=>?_)⟩
 ·refine ⟨_,rfl,small (by simp),fun r6 YS=>?_⟩
  exact k r6 (.jY y.n) _ (bB Vr (Vr.free YS)) ak Gq True.intro
 exact ⟨_,rfl,k r cD _ Vr (sx _ _ Di) hok hmn⟩
end
end M
namespace M
open PySem L2 PyProof.Rows
abbrev Vs:Stmt:=top 45
def jQ (q:Ad) (H H':Hp):Prop:=∀ c u,c∉[q.a1,q.a2,q.a3,q.a4,q.a5,q.l,q.h,q.o,q.d,q.kn]→H c=some u→H' c=some u
theorem jQ.refl {q:Ad}{H:Hp}:jQ q H H:=fun _ _ _ e=>e
theorem jQ.trans {q:Ad}{H H1 H2:Hp} (a:jQ q H H1) (b:jQ q H1 H2):jQ q H H2:=fun c u h e=>b c u h (a c u h e)
theorem jQ.same {q:Ad}{H H':Hp} (s:Same H H'):jQ q H H':=fun c u _ e=>s c u e
theorem K7.all {q:Ad}{H H':Hp} (o:K7 q H H'):jQ q H H':=fun c u h e=>by
 simp only [List.mem_cons,List.not_mem_nil,or_false,not_or] at h
 exact o c u h.1 h.2.1 h.2.2.1 h.2.2.2.1 h.2.2.2.2.1 e
theorem cY.all {q:Ad}{H H':Hp} (o:cY q H H'):jQ q H H':=fun c u h e=>by
 simp only [List.mem_cons,List.not_mem_nil,or_false,not_or] at h
 exact o c u h.2.2.2.2.2.1 h.2.2.2.2.2.2.1 h.2.2.2.2.2.2.2.1 h.2.2.2.2.2.2.2.2.1 h.2.2.2.2.2.2.2.2.2 e
theorem lH {C:Addr}{q:Ad}{H H':Hp}{es:List bC}{ks ls:List Str}{j:Nat}{r:Addr}{xs:List V} (R:Rel C q H es ks ls j) (o:jQ q H H') (h:H r=some (.tup xs)):H' r=some (.tup xs):=by
 refine o r _ ?_ h
 simp only [List.mem_cons,List.not_mem_nil,or_false,not_or]
 exact ⟨bh h R.L.l1 (by intro z;cases z),bh h R.L.l2 (by intro z;cases z),bh h R.L.l3 (by intro z;cases z),bh h R.L.l4 (by intro z;cases z),bh h R.L.l5 (by intro z;cases z),bh h R.B.l (by intro z;cases z),bh h R.B.h (by intro z;cases z),bh h R.B.o (by intro z;cases z),bh h R.B.d (by intro z;cases z),bh h R.B.k (by intro z;cases z)⟩
theorem lJ {C:Addr}{q:Ad}{H H':Hp}{es:List bC}{ks ls:List Str}{j:Nat}{r:Addr}{xs:List V} (R:Rel C q H es ks ls j) (o:jQ q H H') (h:H r=some (.lst xs)) (hn:r≠q.kn):H' r=some (.lst xs):=by
 refine o r _ ?_ h
 simp only [List.mem_cons,List.not_mem_nil,or_false,not_or]
 exact ⟨bh h R.L.l1 (by intro z;cases z),bh h R.L.l2 (by intro z;cases z),bh h R.L.l3 (by intro z;cases z),bh h R.L.l4 (by intro z;cases z),bh h R.L.l5 (by intro z;cases z),bh h R.B.l (by intro z;cases z),bh h R.B.h (by intro z;cases z),bh h R.B.o (by intro z;cases z),bh h R.B.d (by intro z;cases z),hn⟩
theorem yU {q:Ad}{H H':Hp}{lo ho ow du:List (Key×V)}{ks:List Str} (ap:Ap q) (b:BQ q H lo ho ow du ks) (o:K7 q H H'):BQ q H' lo ho ow du ks:=by
 have g:∀ {c:Addr}{u:HO} (i:Nat),4<i→[q.a1,q.a2,q.a3,q.a4,q.a5,q.B,q.l,q.h,q.o,q.d,q.kn,q.dd][i]?=some c→H c=some u→H' c=some u:=fun {c u} i hi hc e=>o c u (bV ap i 0 hc rfl (by omega)) (bV ap i 1 hc rfl (by omega)) (bV ap i 2 hc rfl (by omega)) (bV ap i 3 hc rfl (by omega)) (bV ap i 4 hc rfl (by omega)) e
 exact ⟨g 5 (by decide) rfl b.b,b.vl,b.vh,b.vo,b.vd,b.vk,b.vx,g 6 (by decide) rfl b.l,g 7 (by decide) rfl b.h,g 8 (by decide) rfl b.o,g 9 (by decide) rfl b.d,g 10 (by decide) rfl b.k,g 11 (by decide) rfl b.x,b.len⟩
theorem Kg {C:Addr}{q:Ad}{H H':Hp}{es:List bC}{lo ho ow du:List (Key×V)}{ks:List Str} (ap:Ap q) (L:Ln C q H es) (b:BQ q H lo ho ow du ks) (o:cY q H H'):Ln C q H' es:=by
 have g:∀ {c:Addr}{u:HO} (i:Nat),i<5→[q.a1,q.a2,q.a3,q.a4,q.a5,q.B,q.l,q.h,q.o,q.d,q.kn,q.dd][i]?=some c→H c=some u→H' c=some u:=fun {c u} i hi hc e=>o c u (bV ap i 6 hc rfl (by omega)) (bV ap i 7 hc rfl (by omega)) (bV ap i 8 hc rfl (by omega)) (bV ap i 9 hc rfl (by omega)) (bV ap i 10 hc rfl (by omega)) e
 refine ⟨o _ _ ?_ ?_ ?_ ?_ ?_ L.o,g 0 (by decide) rfl L.l1,g 1 (by decide) rfl L.l2,g 2 (by decide) rfl L.l3,g 3 (by decide) rfl L.l4,g 4 (by decide) rfl L.l5⟩
 ·exact bh L.o b.l (by intro z;cases z)
 ·exact bh L.o b.h (by intro z;cases z)
 ·exact bh L.o b.o (by intro z;cases z)
 ·exact bh L.o b.d (by intro z;cases z)
 ·exact bh L.o b.k (by intro z;cases z)
theorem Kh {C:Addr}{q:Ad}{H H1 H2:Hp}{es:List bC}{ks ls:List Str}{j:Nat}{cD:Rw}{y:bC}{t1 t2 b1 b2:Addr} (R:Rel C q H es ks ls j) (hst:nF es ks y cD) (hok:cD.Ok ls) (hmn:cD.Mn q.ms) (hls:∀ n∈ls,n≠""∧PyData.strOk n=true)
  (hL:∀ b1 b2,Ln C q H1 (stp y es t1 t2 b1 b2 cD)) (f1:FrN y t1 t2 H1 cD) (o1:K7 q H H1) (hB:∀ t1 t2,Bk q H2 (stp y es t1 t2 b1 b2 cD) (stK ks cD)) (f2:FrN y b1 b2 H2 cD) (o2:cY q H1 H2) :
  Rel C q H2 (stp y es t1 t2 b1 b2 cD) (stK ks cD) ls (j+1):=by
 obtain ⟨w1,w2,w3,w4⟩:=U3 (t1:=t1) (t2:=t2) (b1:=b1) (b2:=b2) R hst hok hls
 have Vt:=yU R.ap R.B o1
 refine ⟨R.ap,Kg R.ap (hL b1 b2) Vt o2,hB t1 t2,w1,?_,w2,w3,w4,TY R hok,(Nt R.W hst hok).trans R.tot,U0 R hmn⟩
 have old:∀ y0∈es,wC H2 y0.ta y0.due.1 y0.due.2∧wC H2 y0.tb y0.due.1 y0.due.2∧Bd (10+5 * (j+1)) y0.due:=fun y0 h0=>by
  obtain ⟨g1,g2,g3⟩:=R.fr y0 h0
  exact ⟨cR Vt o2 (lH R o1.all g1),cR Vt o2 (lH R o1.all g2),g3.mono (by omega)⟩
 cases cD with
 | grant e n m a s =>
  obtain ⟨hy,rfl,hn,ha⟩:=hst
  obtain ⟨h1,h2,h3,h4,h5⟩:=hok
  intro z hz
  rcases List.mem_append.mp hz with c | c
  ·obtain ⟨y0,h0,rfl⟩:=dg c
   have:=old y0 h0
   split
   ·exact this
   ·exact this
  ·rw [List.mem_singleton.mp c]
   refine ⟨cR Vt o2 f1,f2,?_⟩
   show Bd _ (s,1)
   have hp:10 ^ 5≤10 ^ (10+5 * (j+1)):=Nat.pow_le_pow_right (by decide) (by omega)
   refine ⟨Nat.lt_of_lt_of_le ?_ hp,by show (0:Int)<1;decide,Nat.lt_of_lt_of_le ?_ hp⟩
   ·show s.natAbs<10 ^ 5
    omega
   ·show (1:Int).natAbs<10 ^ 5
    decide
 | part e n m a =>
  obtain ⟨hy,rfl,hn,ha⟩:=hst
  obtain ⟨h1,h2,h3,h4⟩:=hok
  obtain ⟨f1a,f1b⟩:=f1
  obtain ⟨f2a,f2b⟩:=f2
  obtain ⟨_,_,bd⟩:=R.fr y hy
  have bb:=R.W.bnd y hy
  have ob:=R.W.qb y hy
  have hB0:0<y.due.2 * y.br:=Int.mul_pos bd.2.1 (by omega)
  have e5:10+5 * j+5=10+5 * (j+1):=by omega
  have m2:=lE (f:=5) bd.2.2 (show y.br.natAbs<10 ^ 5 by omega)
  have m1:=lE (f:=5) bd.1 (show a.natAbs<10 ^ 5 by omega)
  have m3:=lE (f:=5) bd.1 (show (y.br - a).natAbs<10 ^ 5 by omega)
  rw [e5] at m1 m2 m3
  intro z hz
  rcases List.mem_append.mp hz with c | c
  ·obtain ⟨y0,h0,rfl⟩:=dg c
   split
   ·rename_i hc
    obtain rfl:=ji R.W.nd h0 hy hc
    exact ⟨cR Vt o2 f1b,f2b,Aw hB0 m3 m2⟩
   ·exact old y0 h0
  ·rw [List.mem_singleton.mp c]
   exact ⟨cR Vt o2 f1a,f2a,Aw hB0 m1 m2⟩
 | convey e m =>
  intro z hz
  obtain ⟨y0,h0,rfl⟩:=dg hz
  have:=old y0 h0
  split
  ·exact this
  ·exact this
 | jY e =>
  intro z hz
  obtain ⟨y0,h0,rfl⟩:=List.mem_map.mp hz
  exact old y0 (List.mem_filter.mp h0).1
theorem tG.out {C:Addr}{q:Ad}{H H':Hp}{es:List bC}{ks ls':List Str}{j:Nat}{r m la:Addr}{ms ls:List Str}{wd:Int} (R:Rel C q H es ks ls' j) (o:jQ q H H') (p:tG H r m la ms ls wd) (h1:m≠q.kn) (h2:la≠q.kn):tG H' r m la ms ls wd :=
 ⟨lH R o p.r,lJ R o p.m h1,lJ R o p.la h2,p.lm,p.ll,p.nm,p.om,p.ol,p.w1,p.w2⟩
def YT (C:Addr):Sp:=fun vs H Q _=>∃ q es ks j,∃ (p m la fa kd:Addr) (ms ls kl:List Str) (wd at_ many:Int) (fs:List Int),vs=[.ref q.x,.ref q.B,.ref p,.ref fa,.int at_,.int many,.ref kd]∧Rel C q H es ks ls j∧tG H p m la ms ls wd∧H fa=some (.lst (fs.map V.int))∧(∀ v∈fs,v8 v)∧H kd=some (.lst (kl.map V.str))∧0<kl.length∧kl.length≤100∧m≠q.kn∧la≠q.kn∧fa≠q.kn∧kd≠q.kn ∧
 0≤at_∧0≤many∧at_+8 * many≤fs.length∧fs.length≤1000∧j+many.toNat≤50∧q.ms=ms∧∀ es' ks' H',Rel C q H' es' ks' ls (j+many.toNat)→jQ q H H'→Q (.bl true) H'
section
variable {P:Program}{w:World}{K:PySem.W.Frag}{mg:Str→Option Value}{base:Heap}{f C:Addr}{fd:FuncData}
theorem Ut:aZ ["_law_land", "_law_book_here", "_law_pools_here", "_law_feed_here", "_law_at", "_law_many", "_law_kinds", "_law_k", "_law_row_here"] ["_law_land", "_law_book_here", "_law_pools_here", "_law_feed_here", "_law_at", "_law_many", "_law_kinds"] (aC Vs):=⟨rfl,rfl,rfl,by decide +kernel,rfl,by decide +kernel,by decide +kernel⟩
set_option maxHeartbeats 16000000 in
theorem YW (F:fH K "_law_played" "_law_played" Vs f fd) (mr:mg "range"=none) {g1 g2 g3 g4:Addr}{d1 d2 d3 d4:FuncData}
  (G1:aL P w K mg base cu 6 g1 d1 ["_law_book_here", "_law_pools_here", "_law_d", "_law_kinds"] (Qx K)) (M1:Ms K mg "_law_steered" g1 d1 ["_law_book_here", "_law_pools_here", "_law_d", "_law_kinds"])
  (G2:aL P w K mg base cu 2 g2 d2 ["_law_book_here", "_law_row_here"] Qp) (M2:Ms K mg "_law_let_by" g2 d2 ["_law_book_here", "_law_row_here"])
  (G3:aL P w K mg base cu 5 g3 d3 ["_law_land", "_law_row_here"] (Qq C)) (M3:Ms K mg "_law_land_do" g3 d3 ["_law_land", "_law_row_here"])
  (G4:aL P w K mg base cu 3 g4 d4 ["_law_book_here", "_law_row_here"] Xz) (M4:Ms K mg "_law_do" g4 d4 ["_law_book_here", "_law_row_here"]) :
  aL P w K mg base cu 7 f fd ["_law_land", "_law_book_here", "_law_pools_here", "_law_feed_here", "_law_at", "_law_many", "_law_kinds"] (YT C):=by
 refine F.ok Ut (fun vs H Q E h=>?_) (fun cdv A outer s H vs Q E hr h=>?_)
 ·obtain ⟨q,es,ks,j,p,m,la,fa,kd,mz,ls,kl,wd,at_,many,fs,rfl,_⟩:=h
  rfl
 obtain ⟨q,es,ks,j,p,m,la,fa,kd,mz,ls,kl,wd,at_,many,fs,rfl,R0,pl0,YX,hfo,hkd0,hk0,hk1,nm,YZ,Z0,nkd,ha0,hm0,ham,hfl,hj,hqm,k⟩:=h
 have G2:=aL.mono (k:=6) G2 (by omega)
 have G3:=aL.mono (k:=6) G3 (by omega)
 have G4:=aL.mono (k:=6) G4 (by omega)
 refine ⟨_,(aq (jk PassesOwn.never rfl (iU rfl mr (aj (pv 5) aA)) (bL (i:=7) Ut.nd rfl (Or.inl rfl)) (aq (aY (i:=8) Ut.nd rfl (Or.inl rfl) (bf G1 hr rfl M1.m M1.k M1.b .nil bD (aj (pv 1) (aj (pv 2) (aj (fO lO (pv 3) (dI (aN dH (pv 4) (aN jl au (pv 7)))) (dI (aN dH (aN dH (pv 4) (aN jl au (pv 7))) au))) (aj (pv 6) aA))))))
  (aG (bJ (dU (bf G2 hr rfl M2.m M2.k M2.b .nil bD (aj (pv 1) (aj (pv 8) aA)))) (aq (bJ (aM Cd (bf G3 hr rfl M3.m M3.k M3.b .nil bD (aj (pv 0) (aj (pv 8) aA))) rA (bA _)) bN aQ)
  (aG (bT (bf G4 hr rfl M4.m M4.k M4.b .nil bD (aj (pv 1) (aj (pv 8) aA)))))) aQ))))
  (aG (aW kj))),?_⟩
 have hls:∀ n∈ls,n≠""∧PyData.strOk n=true:=fun n hn=>(pl0.ol n hn).ne
 refine ⟨_,rfl,many,rfl,by omega,by omega,?_⟩
 refine iV (lo:=0) (n:=many.toNat) (fun i σ Hx=>∃ (es':List bC) (ks':List Str) (u7 u8:Option V),σ=[some (.ref q.x),some (.ref q.B),some (.ref p),some (.ref fa),some (.int at_),some (.int many),some (.ref kd),u7,u8]∧Rel C q Hx es' ks' ls (j+i)∧jQ q H Hx) ⟨es,ks,none,none,rfl,R0,jQ.refl⟩ ?_ ?_
 ·rintro i σ Hx hi ⟨es',ks',u7,u8,rfl,R,ox⟩
  have pl:=pl0.out R0 ox nm YZ
  have hfa:=lJ R0 ox YX Z0
  have hkd:=lJ R0 ox hkd0 nkd
  have ln:=R.ten pl0.ll
  have lk:=R.lk
  refine ⟨_,rfl,_,rfl,_,rfl,_,rfl,_,rfl,_,_,rfl,rfl,.inl ⟨by decide,by decide⟩,_,_,rfl,rfl,_,rfl,_,rfl,_,rfl,_,_,rfl,rfl,.inl ⟨by decide,by decide⟩,_,_,rfl,rfl,_,_,rfl,rfl,_,rfl,fa,_,rfl,bR.of hfa,fun c1 hc1=>?_⟩
  have ec:iI (fs.map V.int) (some (at_+8 * (0+(i:Int)))) (some (at_+8 * (0+(i:Int))+8))=((fs.drop (at_.toNat+8 * i)).take 8).map V.int:=by
   have x1:at_+8 * (0+(i:Int))=((at_.toNat+8 * i:Nat):Int):=by omega
   have x2:at_+8 * (0+(i:Int))+8=((at_.toNat+8 * i+8:Nat):Int):=by omega
   rw [x2,x1,tE (by omega) (by omega)]
   congr 2
   omega
  rw [ec]
  have dl:((fs.drop (at_.toNat+8 * i)).take 8).length=8:=by rw [List.length_take,List.length_drop];omega
  have s1:=aD hc1 (.lst (((fs.drop (at_.toNat+8 * i)).take 8).map V.int))
  have k1:(upd Hx c1 (.lst (((fs.drop (at_.toNat+8 * i)).take 8).map V.int))) c1=some (.lst (((fs.drop (at_.toNat+8 * i)).take 8).map V.int)):=ak
  generalize upd Hx c1 (.lst (((fs.drop (at_.toNat+8 * i)).take 8).map V.int))=H1 at s1 k1 ⊢
  refine ⟨_,rfl,q,es',ks',p,c1,m,la,kd,mz,ls,kl,wd,_,rfl,R.ap,R.B.same s1,R.W,by omega,pl.same s1,bR.of k1,dl,Bu hfo,s1 _ _ hkd,hk0,hk1,fun r cD H2 s2 hr2 hok hmn=>?_⟩
  have Kd:=s1.trans s2
  have R2:=R.same Kd
  refine ⟨_,rfl,_,rfl,q,es',ks',r,cD,rfl,R2.ap,R2.B,R2.W.nd,hr2,fun b H3 s3 hb=>⟨_,rfl,?_⟩⟩
  have Br:=Kd.trans s3
  have R3:=R.same Br
  have wD:=s3 _ _ hr2
  cases b with
  | false =>
   refine cB ?_
   exact ⟨es',ks',_,_,rfl,(R3.up (by omega)),ox.trans (jQ.same Br)⟩
  | true =>
   obtain ⟨y,hst⟩:=hb rfl
   refine dj ?_
   refine ⟨_,rfl,_,rfl,q,es',ks',ls,j+i,r,cD,y,rfl,R3,wD,hst,hok,hls,by omega,fun t1 t2 H4 hL f1 o1=>?_⟩
   refine ⟨rfl,_,rfl,cB ?_⟩
   have Di:=lH R3 o1.all wD
   have b4:=yU R3.ap R3.B o1
   have hyes:y∈es':=by cases cD <;> exact hst.1
   obtain ⟨g1,g2,g3⟩:=R3.fr y hyes
   have hnew:∀ n,n∈ls→n∉ks'→n∉nms es':=fun n hn hk=>R3.new hk (hls n hn).1
   refine ⟨_,rfl,_,rfl,q,es',ks',r,cD,y,rfl,R3.ap,b4,R3.W,lH R3 o1.all g2,g3.mono (by omega),Di,hst,?_,?_,?_,by omega,by omega,fun c1 c2 H5 hB f2 o2=>?_⟩
   ·rintro e n mm a s rfl
    exact hnew n hok.1 hst.2.2.1
   ·rintro e n mm a rfl
    exact ⟨hnew n hok.1 hst.2.2.1,hok.2.1,hok.2.2.1,hok.2.2.2⟩
   ·rintro e rfl
    exact hok
   ·exact ⟨_,_,_,_,rfl,Kh R3 hst hok (by rw [hqm];exact hmn) hls hL f1 o1 hB f2 o2,(ox.trans (jQ.same Br)).trans (o1.all.trans o2.all)⟩
 ·rintro σ Hx ⟨es',ks',u7,u8,rfl,R,ox⟩
  exact k es' ks' Hx R ox
end
end M
namespace L2
open PySem PySem.Spec PyProof.Rows PySem.W
def Uu (C:Addr) (sp:Sp) (jU:List V) (E:St→XK) (t:TA):TE:=fun σ H Q=>t σ H fun vs H1=>∀ x dx,H1 x=none→H1 dx=none→dx≠x →
 sp (.ref x::(vs++jU)) (upd (upd H1 dx (.own x)) x (.ins C dx [])) (fun v H2=>v=.non∧Q (.ref x) H2) (E σ)
section
variable {X:Cx}{CX:wO}{k:Nat}{f C:Addr}{fd:FuncData}{ps:List Str}{sp:Sp}{jU:List V}{ds:List Value}{E:St→XK}{x m:Str}{p pos apos:Pos}{e o:Expr}{es:List Expr}{ta:TE}{t:TA}
theorem Gk {pins:List (Addr×Obj)}{σ:St}{H:Hp}{s:Shared}{Q:VK}{us:List Value}{vs:List V} (M:Mk X.K C f) (F:aL X.prog X.w X.K X.mg X.base CX k f fd ps sp) (hr:fG (k+1) X.A) (hb:Binds X.K fd ps ds) (hd:Vals jU ds)
  (hx:oA CX X E) (I:Inv X pins σ H s) (r:Vals vs us)
  (h:∀ x dx,H x=none→H dx=none→dx≠x→sp (.ref x::(vs++jU)) (upd (upd H dx (.own x)) x (.ins C dx [])) (fun v H2=>v=.non∧Q (.ref x) H2) (E σ)) :
  wpAny (model X.prog X.w) X.A (call (.ref C) us) (EP X pins σ Q) X.xe s:=by
 have hq:=h (s.heap.objs.size+1) s.heap.objs.size (I.hok.fresh (Nat.le_succ _)) (I.hok.fresh (Nat.le_refl _)) (Nat.ne_of_lt (Nat.lt_succ_self _))
 have I2:=Inv.made (C:=C) I
 have r2:Vals (V.ref (s.heap.objs.size+1)::(vs++jU)) (Value.ref (s.heap.objs.size+1)::(us++ds)):=.cons rfl (r.append hd)
 have hl:(Value.ref (s.heap.objs.size+1)::us++ds).length=ps.length:=by
  have e:=r2.length
  rw [F.len _ _ _ _ hq] at e
  exact e.symm
 refine wpAny_call (xG (f:=f) I.lM M.makes M.init (beq_iff_eq.mp M.fn) (codeAny_mono (F.run _ X.stack _ _ ⟨Value.ref (s.heap.objs.size+1)::us,[]⟩ (Value.ref (s.heap.objs.size+1)::(us++ds)) _ _ (E σ) (hr.make C us [])
  (I2.env0.make C us []) (hb _ (Value.ref (s.heap.objs.size+1)::us) I2.lM hl) r2 hq) fun r s' hq'=>?_))
 cases r with
 | error e=>exact hx pins σ _ _ e s' I2 hq'
 | ok fl =>
  cases fl with
  | ret u =>
   obtain ⟨v,H',I3,rv,ev,q3⟩:=I2.after hq'
   subst ev
   exact ⟨rv,⟨V.ref (s.heap.objs.size+1),H',I3,rfl,q3⟩⟩
  | next=>exact False.elim hq'
  | brk=>exact False.elim hq'
  | cont=>exact False.elim hq'
theorem Kl (M:Mk X.K C f) (F:aL X.prog X.w X.K X.mg X.base CX k f fd ps sp) (hr:fG (k+1) X.A) (hg:Gl X x) (hm:X.mg x=some (.ref C)) (hb:Binds X.K fd ps ds) (hd:Vals jU ds) (hx:oA CX X E)
  (ha:PA X (e::es) t) (hdb:(x==("__debug__" : Str))=false:=by decide) (he:starEach (e::es) X.env=(false,eval e X.env)::starEach es X.env:=by rfl) (hpl:(backTo pos (starEach es X.env)).any (·.1)=false:=by rfl) :
  PE X (.Call (.Name x p) (e::es) [] pos) (Uu C sp jU E t):=by
 intro pins s σ H Q I h
 refine wpAny_Call_Name_kw (jF I hg hm ?_ hdb)
 refine PySem.W.callWith_K (h₀:=X.base) I.ok.mod.kin M.kp (cN (ha pos pins s σ H _ I h) fun us s1 ⟨vs,H1,I1,r,q⟩=>⟨I1.lM,?_⟩) he hpl
 exact Gk M F hr hb hd hx I1 r q
end
section
variable {P:Program}{w:World}{K:PySem.W.Frag}{mg:Str→Option Value}{base:Heap}{k:Nat}{f:Addr}{fd:FuncData}{ps:List Str}
theorem aL.lift {sp:Sp} (CX:wO) (F:aL P w K mg base cu k f fd ps sp):aL P w K mg base CX k f fd ps sp:=by
 refine ⟨F.len,fun A outer s H args us vs Q E hr he hb hv hs=>codeAny_mono (F.run A outer s H args us vs Q E hr he hb hv hs) fun r s' h=>?_⟩
 cases r with
 | error e=>exact False.elim h
 | ok fl =>
  cases fl with
  | ret u=>exact h
  | next=>exact False.elim h
  | brk=>exact False.elim h
  | cont=>exact False.elim h
theorem aL.or {CX:wO}{s1 s2:Sp} (F:aL P w K mg base CX k f fd ps s1) (G:aL P w K mg base CX k f fd ps s2):aL P w K mg base CX k f fd ps (fun vs H Q E=>s1 vs H Q E∨s2 vs H Q E) :=
 ⟨fun vs H Q E h=>h.elim (F.len vs H Q E) (G.len vs H Q E),fun A outer s H args us vs Q E hr he hb hv hs=>hs.elim (F.run A outer s H args us vs Q E hr he hb hv) (G.run A outer s H args us vs Q E hr he hb hv)⟩
end
end L2
namespace M
open PySem L2 PyProof.Rows
abbrev Bw:Stmt:=top 46
abbrev Vu:Stmt:=top 47
abbrev Vv:Stmt:=top 48
abbrev Vw:Stmt:=top 49
theorem tZ:bootBuiltins "ValueError"=some (.type "ValueError"):=by decide +kernel
theorem gQ {X:Cx}{K:PySem.W.Frag} (h:X.K=K:=by rfl):fM X (.builtin "isinstance") (Wk K):=h ▸ Ie
def DG (n:Int):Bool:=decide (1≤n)&&decide (n≤9999)
def Km:Sp:=fun vs H Q _=>∃ n:Int,vs=[.str "acres",.int n]∧Q (.bl (DG n)) H
def Qz (NL:Addr):Sp:=fun vs H _ E=>∃ n:Int,vs=[.int n]∧DG n=false∧E (.ref NL) none H
def DK (NL:Addr):Sp:=fun vs H _ E=>∃ x,∃ n:Int,vs=[.ref x,.int n]∧DG n=false∧E (.ref NL) none H
def je (C NE:Addr):Sp:=fun vs H _ E=>∃ x dx a1 a2 a3 a4 a5 lo ho ow se br e,vs=[.ref x,.str e]∧bZ C H x dx a1 a2 a3 a4 a5 lo ho ow se br∧bQ lo (.inr e)=none∧E (.ref NE) none H
structure Classes (K:PySem.W.Frag) (mg:Str→Option Value) (L NE NL NM NF:Addr):Prop where
 mL:mg "LandError"=some (.ref L)
 mE:mg "NoEstate"=some (.ref NE)
 mN:mg "NoLand"=some (.ref NL)
 mM:mg "NoMan"=some (.ref NM)
 mF:mg "NoForm"=some (.ref NF)
 hE:PySem.W.excIn K NE zT "ValueError.__new__"=true
 hN:PySem.W.excIn K NL zT "ValueError.__new__"=true
 xE:XC K NE
 xN:XC K NL
 eE:PySem.W.exmOne K (.ref NE) (.ref L)=some true
 eN:PySem.W.exmOne K (.ref NL) (.ref L)=some true
 k0:PySem.W.kitOne K (.ref NE) (.type "ValueError")=some true
 k1:PySem.W.kitOne K (.ref NE) (.ref NE)=some true
 k2:PySem.W.kitOne K (.ref NE) (.ref NM)=some false
 k3:PySem.W.kitOne K (.ref NE) (.ref NL)=some false
 j1:PySem.W.kitOne K (.ref NL) (.ref NL)=some true
 j2:PySem.W.kitOne K (.ref NL) (.ref NE)=some false
 j3:PySem.W.kitOne K (.ref NL) (.ref NF)=some false
section
variable {P:Program}{w:World}{K:PySem.W.Frag}{mg:Str→Option Value}{base:Heap}{f C:Addr}{fd:FuncData}
set_option maxHeartbeats 4000000 in
theorem O7 (F:fH K "fits" "fits" sU f fd) (mo:Nj K w.params mg):aL P w K mg base cu 1 f fd ["sort", "piece"] Km:=by
 obtain ⟨aB,b1,b2,b3,b4,b5,b6,b7,mB,kB,t2⟩:=mo.bounds
 refine F.ok q9 (fun vs H Q E h=>?_) (fun cdv A outer s H vs Q E hr h=>?_)
 ·obtain ⟨n,rfl,_⟩:=h
  rfl
 obtain ⟨n,rfl,k⟩:=h
 refine ⟨_,aq (bJ (aM CK (pv 0) (dz rfl mB rfl (v:=.ref aB)) (by with_unfolding_all rfl))
   (aq (GC (aK Pz (dz rfl mB rfl (v:=.ref aB)) (pv 0) (fun _ _=>rfl)) (zm rfl (dZ (bL (i:=2) q9.nd rfl (Or.inl rfl)) (dZ (bL (i:=3) q9.nd rfl (Or.inl rfl)) lN))))
   (aG (aW (rD u9 u9 (pv 2) (pv 1) (pv 3))))) aQ) bN,?_⟩
 refine ⟨_,rfl,_,aB,_,rfl,rfl,kB,_,rfl,dj ?_⟩
 refine ⟨_,rfl,aB,_,_,_,rfl,rfl,kB,rfl,?_⟩
 refine ⟨b2,_,rfl,t2.sq _,rfl,_,_,rfl,_,_,rfl,rfl,?_⟩
 refine ⟨_,rfl,_,rfl,_,_,rfl,rfl,_,rfl,?_⟩
 refine eZ (fun h1=>⟨_,rfl,_,_,rfl,rfl,?_⟩) (fun h1=>?_)
 ·unfold DG at k
  rw [h1,Bool.true_and] at k
  exact k
 ·unfold DG at k
  rw [Bool.eq_false_iff.mpr h1,Bool.false_and] at k
  exact k
theorem Uv (F:fH K "check_acres" "check_acres" Ay f fd) {NL:Addr} (mC:mg "NoLand"=some (.ref NL)) (hC:PySem.W.excIn K NL zT "ValueError.__new__"=true) {g:Addr}{gd:FuncData} (G:aL P w K mg base cu 1 g gd ["sort", "piece"] Km)
  (MG:Ms K mg "fits" g gd ["sort", "piece"]):aL P w K mg base (fW P w) 2 f fd ["acres"] (Qz NL):=by
 obtain ⟨oc,od,kV,doc,pm,an,cdv,ct,osl,rfl,lk,hcd⟩:=F.ex
 refine jV lk hcd Qc (fun vs H Q E h=>?_) fun A outer s H vs Q E hr h=>?_
 ·obtain ⟨n,rfl,_⟩:=h
  rfl
 obtain ⟨n,rfl,h1,h⟩:=h
 refine ⟨_,aG (bJ (gb (dU (bf (E:=E0) G hr rfl MG.m MG.k MG.b .nil (fun _ _ _ _ _ _ _ z=>z.elim) (aj aJ (aj (pv 0) aA)))))
  (aG (xY (C:=NL) (E:=E) rfl (fun pins σ H1 s1 h' e C' vs I hx q=>ou I hx q) rfl mC hC (aj aJ aA))) aQ),?_⟩
 refine ⟨_,rfl,n,rfl,_,rfl,?_⟩
 rw [h1]
 exact dj ⟨lQ (by simp) |> Nat.le_of_lt,h⟩
theorem Ko (F:fH K "__init__" "Land.__init__" rZ f fd) {NL g1:Addr}{d1:FuncData} (G1:aL P w K mg base (fW P w) 2 g1 d1 ["acres"] (Qz NL)) (M1:Ms K mg "check_acres" g1 d1 ["acres"]):aL P w K mg base (fW P w) 3 f fd ["self", "acres"] (DK NL):=by
 obtain ⟨oc,od,kV,doc,pm,an,cdv,ct,osl,rfl,lk,hcd⟩:=F.ex
 refine jV lk hcd Jv (fun vs H Q E h=>?_) fun A outer s H vs Q E hr h=>?_
 ·obtain ⟨x,n,rfl,_⟩:=h
  rfl
 obtain ⟨x,n,rfl,h1,h⟩:=h
 refine ⟨_,aq (bT (bf (CX:=fW P w) (E:=E) G1 hr rfl M1.m M1.k M1.b .nil dW (aj (pv 1) aA))) bN,?_⟩
 exact ⟨_,rfl,n,rfl,h1,h⟩
theorem Uw (T:cX K C) (F:fH K "check_there" "Land.check_there" ni f fd) {NE:Addr} (mE:mg "NoEstate"=some (.ref NE)) (hE:PySem.W.excIn K NE zT "ValueError.__new__"=true) {g1:Addr}{d1:FuncData} (G1:aL P w K mg base cu 1 g1 d1 ["self", "estate"] (oO C)) (m1:Meth K C "there" g1) (b1:Binds K d1 ["self", "estate"] []):aL P w K mg base (fW P w) 2 f fd ["self", "estate"] (je C NE):=by
 obtain ⟨oc,od,kV,doc,pm,an,cdv,ct,osl,rfl,lk,hcd⟩:=F.ex
 refine jV lk hcd yG (fun vs H Q E h=>?_) fun A outer s H vs Q E hr h=>?_
 ·obtain ⟨x,dx,a1,a2,a3,a4,a5,lo,ho,ow,se,br,e,rfl,_⟩:=h
  rfl
 obtain ⟨x,dx,a1,a2,a3,a4,a5,lo,ho,ow,se,br,e,rfl,L,he,h⟩:=h
 refine ⟨_,aG (bJ (gb (dU (bH (E:=E0) (pv 0) T.cl m1 G1 hr b1 .nil (fun _ _ _ _ _ _ _ z=>z.elim) (aj (pv 1) aA))))
  (aG (xY (C:=NE) (E:=E) rfl (fun pins σ H1 s1 h' e C' vs I hx q=>ou I hx q) rfl mE hE (aj aJ aA))) aQ),?_⟩
 refine ⟨_,rfl,x,dx,_,rfl,L.o,rfl,_,rfl,x,dx,a1,a2,a3,a4,a5,lo,ho,ow,se,br,e,rfl,L,_,rfl,?_⟩
 rw [he]
 exact dj ⟨lQ (by simp) |> Nat.le_of_lt,h⟩
theorem Gm (T:cX K C) (F:fH K "holder" "Land.holder" jO f fd) {NE g1:Addr}{d1:FuncData} (G1:aL P w K mg base (fW P w) 2 g1 d1 ["self", "estate"] (je C NE)) (m1:Meth K C "check_there" g1) (b1:Binds K d1 ["self", "estate"] []):aL P w K mg base (fW P w) 3 f fd ["self", "estate"] (je C NE):=by
 obtain ⟨oc,od,kV,doc,pm,an,cdv,ct,osl,rfl,lk,hcd⟩:=F.ex
 refine jV lk hcd yH (fun vs H Q E h=>?_) fun A outer s H vs Q E hr h=>?_
 ·obtain ⟨x,dx,a1,a2,a3,a4,a5,lo,ho,ow,se,br,e,rfl,_⟩:=h
  rfl
 obtain ⟨x,dx,a1,a2,a3,a4,a5,lo,ho,ow,se,br,e,rfl,L,he,h⟩:=h
 refine ⟨_,aq (bT (bH (CX:=fW P w) (E:=E) (pv 0) T.cl m1 G1 hr b1 .nil dW (aj (pv 1) aA))) bN,?_⟩
 exact ⟨_,rfl,x,dx,_,rfl,L.o,rfl,_,rfl,x,dx,a1,a2,a3,a4,a5,lo,ho,ow,se,br,e,rfl,L,he,h⟩
theorem O8 (T:cX K C) (F:fH K "lord" "Land.lord" sE f fd) {NE g1:Addr}{d1:FuncData} (G1:aL P w K mg base (fW P w) 2 g1 d1 ["self", "estate"] (je C NE)) (m1:Meth K C "check_there" g1) (b1:Binds K d1 ["self", "estate"] []):aL P w K mg base (fW P w) 3 f fd ["self", "estate"] (je C NE):=by
 obtain ⟨oc,od,kV,doc,pm,an,cdv,ct,osl,rfl,lk,hcd⟩:=F.ex
 refine jV lk hcd Jh (fun vs H Q E h=>?_) fun A outer s H vs Q E hr h=>?_
 ·obtain ⟨x,dx,a1,a2,a3,a4,a5,lo,ho,ow,se,br,e,rfl,_⟩:=h
  rfl
 obtain ⟨x,dx,a1,a2,a3,a4,a5,lo,ho,ow,se,br,e,rfl,L,he,h⟩:=h
 refine ⟨_,aq (bT (bH (CX:=fW P w) (E:=E) (pv 0) T.cl m1 G1 hr b1 .nil dW (aj (pv 1) aA))) bN,?_⟩
 exact ⟨_,rfl,x,dx,_,rfl,L.o,rfl,_,rfl,x,dx,a1,a2,a3,a4,a5,lo,ho,ow,se,br,e,rfl,L,he,h⟩
theorem Ux (T:cX K C) (F:fH K "own" "Land.own" Ai f fd) {NE g1:Addr}{d1:FuncData} (G1:aL P w K mg base (fW P w) 2 g1 d1 ["self", "estate"] (je C NE)) (m1:Meth K C "check_there" g1) (b1:Binds K d1 ["self", "estate"] []):aL P w K mg base (fW P w) 3 f fd ["self", "estate"] (je C NE):=by
 obtain ⟨oc,od,kV,doc,pm,an,cdv,ct,osl,rfl,lk,hcd⟩:=F.ex
 refine jV lk hcd PJ (fun vs H Q E h=>?_) fun A outer s H vs Q E hr h=>?_
 ·obtain ⟨x,dx,a1,a2,a3,a4,a5,lo,ho,ow,se,br,e,rfl,_⟩:=h
  rfl
 obtain ⟨x,dx,a1,a2,a3,a4,a5,lo,ho,ow,se,br,e,rfl,L,he,h⟩:=h
 refine ⟨_,aq (bT (bH (CX:=fW P w) (E:=E) (pv 0) T.cl m1 G1 hr b1 .nil dW (aj (pv 1) aA))) bN,?_⟩
 exact ⟨_,rfl,x,dx,_,rfl,L.o,rfl,_,rfl,x,dx,a1,a2,a3,a4,a5,lo,ho,ow,se,br,e,rfl,L,he,h⟩
theorem Bx (T:cX K C) (F:fH K "breadth" "Land.breadth" j8 f fd) {NE g1:Addr}{d1:FuncData} (G1:aL P w K mg base (fW P w) 2 g1 d1 ["self", "estate"] (je C NE)) (m1:Meth K C "check_there" g1) (b1:Binds K d1 ["self", "estate"] []):aL P w K mg base (fW P w) 3 f fd ["self", "estate"] (je C NE):=by
 obtain ⟨oc,od,kV,doc,pm,an,cdv,ct,osl,rfl,lk,hcd⟩:=F.ex
 refine jV lk hcd uV (fun vs H Q E h=>?_) fun A outer s H vs Q E hr h=>?_
 ·obtain ⟨x,dx,a1,a2,a3,a4,a5,lo,ho,ow,se,br,e,rfl,_⟩:=h
  rfl
 obtain ⟨x,dx,a1,a2,a3,a4,a5,lo,ho,ow,se,br,e,rfl,L,he,h⟩:=h
 refine ⟨_,aq (bT (bH (CX:=fW P w) (E:=E) (pv 0) T.cl m1 G1 hr b1 .nil dW (aj (pv 1) aA))) bN,?_⟩
 exact ⟨_,rfl,x,dx,_,rfl,L.o,rfl,_,rfl,x,dx,a1,a2,a3,a4,a5,lo,ho,ow,se,br,e,rfl,L,he,h⟩
theorem BJ (T:cX K C) (F:fH K "service" "Land.service" j9 f fd) {NE g1:Addr}{d1:FuncData} (G1:aL P w K mg base (fW P w) 2 g1 d1 ["self", "estate"] (je C NE)) (m1:Meth K C "check_there" g1) (b1:Binds K d1 ["self", "estate"] []):aL P w K mg base (fW P w) 3 f fd ["self", "estate"] (je C NE):=by
 obtain ⟨oc,od,kV,doc,pm,an,cdv,ct,osl,rfl,lk,hcd⟩:=F.ex
 refine jV lk hcd uW (fun vs H Q E h=>?_) fun A outer s H vs Q E hr h=>?_
 ·obtain ⟨x,dx,a1,a2,a3,a4,a5,lo,ho,ow,se,br,e,rfl,_⟩:=h
  rfl
 obtain ⟨x,dx,a1,a2,a3,a4,a5,lo,ho,ow,se,br,e,rfl,L,he,h⟩:=h
 refine ⟨_,aq (bT (bH (CX:=fW P w) (E:=E) (pv 0) T.cl m1 G1 hr b1 .nil dW (aj (pv 1) aA))) bN,?_⟩
 exact ⟨_,rfl,x,dx,_,rfl,L.o,rfl,_,rfl,x,dx,a1,a2,a3,a4,a5,lo,ho,ow,se,br,e,rfl,L,he,h⟩
theorem Kq (T:cX K C) (F:fH K "chain" "Land.chain" n6 f fd) {NE g1:Addr}{d1:FuncData} (G1:aL P w K mg base (fW P w) 2 g1 d1 ["self", "estate"] (je C NE)) (m1:Meth K C "check_there" g1) (b1:Binds K d1 ["self", "estate"] []):aL P w K mg base (fW P w) 3 f fd ["self", "estate"] (je C NE):=by
 obtain ⟨oc,od,kV,doc,pm,an,cdv,ct,osl,rfl,lk,hcd⟩:=F.ex
 refine jV lk hcd qO (fun vs H Q E h=>?_) fun A outer s H vs Q E hr h=>?_
 ·obtain ⟨x,dx,a1,a2,a3,a4,a5,lo,ho,ow,se,br,e,rfl,_⟩:=h
  rfl
 obtain ⟨x,dx,a1,a2,a3,a4,a5,lo,ho,ow,se,br,e,rfl,L,he,h⟩:=h
 refine ⟨_,aq (bT (bH (CX:=fW P w) (E:=E) (pv 0) T.cl m1 G1 hr b1 .nil dW (aj (pv 1) aA))) bN,?_⟩
 exact ⟨_,rfl,x,dx,_,rfl,L.o,rfl,_,rfl,x,dx,a1,a2,a3,a4,a5,lo,ho,ow,se,br,e,rfl,L,he,h⟩
theorem Z1 (T:cX K C) (F:fH K "under" "Land.under" lC f fd) {NE g1:Addr}{d1:FuncData} (G1:aL P w K mg base (fW P w) 2 g1 d1 ["self", "estate"] (je C NE)) (m1:Meth K C "check_there" g1) (b1:Binds K d1 ["self", "estate"] []):aL P w K mg base (fW P w) 3 f fd ["self", "estate"] (je C NE):=by
 obtain ⟨oc,od,kV,doc,pm,an,cdv,ct,osl,rfl,lk,hcd⟩:=F.ex
 refine jV lk hcd X6 (fun vs H Q E h=>?_) fun A outer s H vs Q E hr h=>?_
 ·obtain ⟨x,dx,a1,a2,a3,a4,a5,lo,ho,ow,se,br,e,rfl,_⟩:=h
  rfl
 obtain ⟨x,dx,a1,a2,a3,a4,a5,lo,ho,ow,se,br,e,rfl,L,he,h⟩:=h
 refine ⟨_,aq (bT (bH (CX:=fW P w) (E:=E) (pv 0) T.cl m1 G1 hr b1 .nil dW (aj (pv 1) aA))) bN,?_⟩
 exact ⟨_,rfl,x,dx,_,rfl,L.o,rfl,_,rfl,x,dx,a1,a2,a3,a4,a5,lo,ho,ow,se,br,e,rfl,L,he,h⟩
def Z2 (C NE:Addr):Sp:=fun vs H Q E=>∃ q es ks ls j,∃ (w:Int) (e:Str),vs=[.ref q.x,.int w,.str e]∧Rel C q H es ks ls j∧es.length<64∧((e∈nms es∧∀ v H',Same H H'→Q v H')∨(e∉nms es∧E (.ref NE) none H))
theorem scQu:aZ ["_law_land", "_law_which", "_law_estate"] ["_law_land", "_law_which", "_law_estate"] (aC Vu):=⟨rfl,rfl,rfl,by decide +kernel,rfl,by decide +kernel,by decide +kernel⟩
set_option maxHeartbeats 8000000 in
theorem Z4 (T:cX K C) (F:fH K "_law_question" "_law_question" Vu f fd) {NE g1 g2 g3 g4 g5 g6 g7:Addr}{d1 d2 d3 d4 d5 d6 d7:FuncData}
  (G1:aL P w K mg base (fW P w) 3 g1 d1 ["self", "estate"] (fun vs H Q E=>sI C vs H Q E∨je C NE vs H Q E)) (m1:Meth K C "holder" g1) (b1:Binds K d1 ["self", "estate"] [])
  (G2:aL P w K mg base (fW P w) 3 g2 d2 ["self", "estate"] (fun vs H Q E=>Aj C vs H Q E∨je C NE vs H Q E)) (m2:Meth K C "lord" g2) (b2:Binds K d2 ["self", "estate"] [])
  (G3:aL P w K mg base (fW P w) 3 g3 d3 ["self", "estate"] (fun vs H Q E=>Je C vs H Q E∨je C NE vs H Q E)) (m3:Meth K C "own" g3) (b3:Binds K d3 ["self", "estate"] [])
  (G4:aL P w K mg base (fW P w) 3 g4 d4 ["self", "estate"] (fun vs H Q E=>pR C vs H Q E∨je C NE vs H Q E)) (m4:Meth K C "breadth" g4) (b4:Binds K d4 ["self", "estate"] [])
  (G5:aL P w K mg base (fW P w) 3 g5 d5 ["self", "estate"] (fun vs H Q E=>pU C vs H Q E∨je C NE vs H Q E)) (m5:Meth K C "service" g5) (b5:Binds K d5 ["self", "estate"] [])
  (G6:aL P w K mg base (fW P w) 3 g6 d6 ["self", "estate"] (fun vs H Q E=>wu C vs H Q E∨je C NE vs H Q E)) (m6:Meth K C "chain" g6) (b6:Binds K d6 ["self", "estate"] [])
  (G7:aL P w K mg base (fW P w) 3 g7 d7 ["self", "estate"] (fun vs H Q E=>qP C vs H Q E∨je C NE vs H Q E)) (m7:Meth K C "under" g7) (b7:Binds K d7 ["self", "estate"] []) :
  aL P w K mg base (fW P w) 4 f fd ["_law_land", "_law_which", "_law_estate"] (Z2 C NE):=by
 obtain ⟨oc,od,kV,doc,pm,an,cdv,ct,osl,rfl,lk,hcd⟩:=F.ex
 refine jV lk hcd scQu (fun vs H Q E h=>?_) fun A outer s H vs Q E hr h=>?_
 ·obtain ⟨q,es,ks,ls,j,w',e,rfl,_⟩:=h
  rfl
 obtain ⟨q,es,ks,ls,j,w',e,rfl,R,hl,h⟩:=h
 refine ⟨_,(aq (bJ (aM cH (pv 1) au (bA _)) (aG (aW (bH (CX:=fW P w) (E:=E) (pv 0) T.cl m1 G1 hr b1 .nil dW (aj (pv 2) aA)))) aQ)
  (aq (bJ (aM cH (pv 1) au (bA _)) (aG (aW (bH (CX:=fW P w) (E:=E) (pv 0) T.cl m2 G2 hr b2 .nil dW (aj (pv 2) aA)))) aQ)
  (aq (bJ (aM cH (pv 1) au (bA _)) (aG (aW (bH (CX:=fW P w) (E:=E) (pv 0) T.cl m3 G3 hr b3 .nil dW (aj (pv 2) aA)))) aQ)
  (aq (bJ (aM cH (pv 1) au (bA _)) (aG (aW (bH (CX:=fW P w) (E:=E) (pv 0) T.cl m4 G4 hr b4 .nil dW (aj (pv 2) aA)))) aQ)
  (aq (bJ (aM cH (pv 1) au (bA _)) (aG (aW (bH (CX:=fW P w) (E:=E) (pv 0) T.cl m5 G5 hr b5 .nil dW (aj (pv 2) aA)))) aQ)
  (aq (bJ (aM cH (pv 1) au (bA _)) (aG (aW (bH (CX:=fW P w) (E:=E) (pv 0) T.cl m6 G6 hr b6 .nil dW (aj (pv 2) aA)))) aQ)
  (aG (aW (bH (CX:=fW P w) (E:=E) (pv 0) T.cl m7 G7 hr b7 .nil dW (aj (pv 2) aA)))))))))),?_⟩
 have L:=R.L
 have W:=R.W
 rcases h with ⟨he,k⟩ | ⟨he,h⟩
 ·obtain ⟨y,hy,rfl⟩:=dJ he
  have hs:(bQ (iy es) (.inr y.n)).isSome=true:=by rw [gA,decide_eq_true he]
  obtain ⟨l,hch,hll⟩:=W.chain hy
  refine ⟨_,rfl,rfl,_,rfl,eq_int (fun _=>?_) (fun _=>?_)⟩
  ·exact ⟨_,rfl,q.x,q.dx,_,rfl,L.o,rfl,_,rfl,.inl ⟨q.x,q.dx,q.a1,q.a2,q.a3,q.a4,q.a5,_,_,_,_,_,y.n,_,rfl,L,hs,cg W.nd hy,k _ _ (Same.refl _)⟩⟩
  refine ⟨_,rfl,rfl,_,rfl,eq_int (fun _=>?_) (fun _=>?_)⟩
  ·exact ⟨_,rfl,q.x,q.dx,_,rfl,L.o,rfl,_,rfl,.inl ⟨q.x,q.dx,q.a1,q.a2,q.a3,q.a4,q.a5,_,_,_,_,_,y.n,_,rfl,L,hs,cg W.nd hy,k _ _ (Same.refl _)⟩⟩
  refine ⟨_,rfl,rfl,_,rfl,eq_int (fun _=>?_) (fun _=>?_)⟩
  ·exact ⟨_,rfl,q.x,q.dx,_,rfl,L.o,rfl,_,rfl,.inl ⟨q.x,q.dx,q.a1,q.a2,q.a3,q.a4,q.a5,_,_,_,_,_,y.n,_,rfl,L,hs,cg W.nd hy,k _ _ (Same.refl _)⟩⟩
  refine ⟨_,rfl,rfl,_,rfl,eq_int (fun _=>?_) (fun _=>?_)⟩
  ·exact ⟨_,rfl,q.x,q.dx,_,rfl,L.o,rfl,_,rfl,.inl ⟨q.x,q.dx,q.a1,q.a2,q.a3,q.a4,q.a5,_,_,_,_,_,y.n,_,rfl,L,hs,cg W.nd hy,k _ _ (Same.refl _)⟩⟩
  refine ⟨_,rfl,rfl,_,rfl,eq_int (fun _=>?_) (fun _=>?_)⟩
  ·exact ⟨_,rfl,q.x,q.dx,_,rfl,L.o,rfl,_,rfl,.inl ⟨q.x,q.dx,q.a1,q.a2,q.a3,q.a4,q.a5,_,_,_,_,_,y.n,_,rfl,L,hs,cg W.nd hy,k _ _ (Same.refl _)⟩⟩
  refine ⟨_,rfl,rfl,_,rfl,eq_int (fun _=>?_) (fun _=>?_)⟩
  ·exact ⟨_,rfl,q.x,q.dx,_,rfl,L.o,rfl,_,rfl,.inl ⟨q.x,q.dx,q.a1,q.a2,q.a3,q.a4,q.a5,_,_,_,_,_,y.n,l,rfl,L,hs,hch,by omega,fun r H' s' _ _=>k _ _ s'⟩⟩
  exact ⟨_,rfl,q.x,q.dx,_,rfl,L.o,rfl,_,rfl,.inl ⟨q.x,q.dx,q.a1,q.a2,q.a3,q.a4,q.a5,_,_,_,_,_,y.n,rfl,L,hs,vg,JF,by rw [gO];exact hl,fun r ss H' s' _ _ _ _=>k _ _ s'⟩⟩
 ·have hn:bQ (iy es) (.inr e)=none:=lF he
  refine ⟨_,rfl,rfl,_,rfl,eq_int (fun _=>?_) (fun _=>?_)⟩
  ·exact ⟨_,rfl,q.x,q.dx,_,rfl,L.o,rfl,_,rfl,.inr ⟨q.x,q.dx,q.a1,q.a2,q.a3,q.a4,q.a5,_,_,_,_,_,e,rfl,L,hn,h⟩⟩
  refine ⟨_,rfl,rfl,_,rfl,eq_int (fun _=>?_) (fun _=>?_)⟩
  ·exact ⟨_,rfl,q.x,q.dx,_,rfl,L.o,rfl,_,rfl,.inr ⟨q.x,q.dx,q.a1,q.a2,q.a3,q.a4,q.a5,_,_,_,_,_,e,rfl,L,hn,h⟩⟩
  refine ⟨_,rfl,rfl,_,rfl,eq_int (fun _=>?_) (fun _=>?_)⟩
  ·exact ⟨_,rfl,q.x,q.dx,_,rfl,L.o,rfl,_,rfl,.inr ⟨q.x,q.dx,q.a1,q.a2,q.a3,q.a4,q.a5,_,_,_,_,_,e,rfl,L,hn,h⟩⟩
  refine ⟨_,rfl,rfl,_,rfl,eq_int (fun _=>?_) (fun _=>?_)⟩
  ·exact ⟨_,rfl,q.x,q.dx,_,rfl,L.o,rfl,_,rfl,.inr ⟨q.x,q.dx,q.a1,q.a2,q.a3,q.a4,q.a5,_,_,_,_,_,e,rfl,L,hn,h⟩⟩
  refine ⟨_,rfl,rfl,_,rfl,eq_int (fun _=>?_) (fun _=>?_)⟩
  ·exact ⟨_,rfl,q.x,q.dx,_,rfl,L.o,rfl,_,rfl,.inr ⟨q.x,q.dx,q.a1,q.a2,q.a3,q.a4,q.a5,_,_,_,_,_,e,rfl,L,hn,h⟩⟩
  refine ⟨_,rfl,rfl,_,rfl,eq_int (fun _=>?_) (fun _=>?_)⟩
  ·exact ⟨_,rfl,q.x,q.dx,_,rfl,L.o,rfl,_,rfl,.inr ⟨q.x,q.dx,q.a1,q.a2,q.a3,q.a4,q.a5,_,_,_,_,_,e,rfl,L,hn,h⟩⟩
  exact ⟨_,rfl,q.x,q.dx,_,rfl,L.o,rfl,_,rfl,.inr ⟨q.x,q.dx,q.a1,q.a2,q.a3,q.a4,q.a5,_,_,_,_,_,e,rfl,L,hn,h⟩⟩
def Uy:List V:=[.bl true,.bl true,.bl false,.bl false]
def Uz:List V:=[.bl true,.bl false,.bl false]
def Z5 (C:Addr):Sp:=fun vs H Q _=>∃ q es ks ls j,∃ (w:Int) (e:Str),vs=[.ref q.x,.int w,.str e]∧Rel C q H es ks ls j∧es.length<64∧∀ r H',Same H H'→H' r=some (.lst (if e∈nms es then [] else Uy))→Q (.ref r) H'
theorem O9:aZ ["_law_land", "_law_which", "_law_estate", "_law_marks", "e"] ["_law_land", "_law_which", "_law_estate"] (aC Vv):=⟨rfl,rfl,rfl,by decide +kernel,rfl,by decide +kernel,by decide +kernel⟩
set_option maxHeartbeats 8000000 in
theorem Z6 (F:fH K "_law_why_asked" "_law_why_asked" Vv f fd) (mi:mg "isinstance"=none) (mv:mg "ValueError"=none) {L NE NL NM NF:Addr} (cl:Classes K mg L NE NL NM NF) {g1:Addr}{d1:FuncData}
  (G1:aL P w K mg base (fW P w) 4 g1 d1 ["_law_land", "_law_which", "_law_estate"] (Z2 C NE)) (M1:Ms K mg "_law_question" g1 d1 ["_law_land", "_law_which", "_law_estate"]):aL P w K mg base cu 5 f fd ["_law_land", "_law_which", "_law_estate"] (Z5 C):=by
 refine F.ok O9 (fun vs H Q E h=>?_) (fun cdv A outer s H vs Q E hr h=>?_)
 ·obtain ⟨q,es,ks,ls,j,w',e,rfl,_⟩:=h
  rfl
 obtain ⟨q,es,ks,ls,j,w',e,rfl,R,hl,k⟩:=h
 refine ⟨_,aq (aY (i:=3) O9.nd rfl (Or.inl rfl) (cI aA))
  (aq (Ij (i:=4) (L:=L) rfl rfl O9.nd rfl rfl rfl cl.mL
    (fun pn xe E hp=>aG (bT (Ig (CX:=fW P w) (E:=E) G1 hr rfl M1.m M1.k M1.b .nil hp (aj (pv 0) (aj (pv 1) (aj (pv 2) aA))))))
    (fun ea=>aG (aY (i:=3) O9.nd rfl (Or.inl rfl) (cI (aj (aP (gQ (K:=K)) rfl mi bK (aj (pv 4) (aj (fZ rfl mv tZ rfl (v:=.ty "ValueError")) aA))) (aj (aP (gQ (K:=K)) rfl mi bK (aj (pv 4) (aj (dz rfl cl.mE rfl (v:=.ref NE)) aA))) (aj (aP (gQ (K:=K)) rfl mi bK (aj (pv 4) (aj (dz rfl cl.mM rfl (v:=.ref NM)) aA))) (aj (aP (gQ (K:=K)) rfl mi bK (aj (pv 4) (aj (dz rfl cl.mN rfl (v:=.ref NL)) aA))) aA))))))))
  (aG (aW (pv 3)))),?_⟩
 refine ⟨small (by simp),fun lm Yo=>?_⟩
 have s1:Same H (upd H lm (.lst [])):=aD Yo _
 have m1:(upd H lm (.lst [])) lm=some (.lst []):=ak
 dsimp only [nJ]
 generalize upd H lm (.lst [])=H1 at s1 m1 ⊢
 by_cases he:e∈nms es
 ·rw [if_pos he] at k
  refine ⟨_,rfl,_,rfl,_,rfl,q,es,ks,ls,j,w',e,rfl,R.same s1,hl,.inl ⟨he,fun v H2 s2=>?_⟩⟩
  exact ⟨_,rfl,k lm H2 (s1.trans s2) (s2 _ _ m1)⟩
 ·rw [if_neg he] at k
  refine ⟨_,rfl,_,rfl,_,rfl,q,es,ks,ls,j,w',e,rfl,R.same s1,hl,.inr ⟨he,NE,rfl,cl.eE,fun ea hea=>?_⟩⟩
  have s3:Same H1 (upd H1 ea (Cy NE ea)):=aD hea _
  have e3:(upd H1 ea (Cy NE ea)) ea=some (Cy NE ea):=ak
  generalize upd H1 ea (Cy NE ea)=H3 at s3 e3 ⊢
  refine ⟨_,rfl,ea,NE,_,_,rfl,e3,cl.xE,.inl ⟨_,rfl⟩,cl.k0,?_⟩
  refine ⟨_,rfl,ea,NE,_,_,rfl,e3,cl.xE,.inr ⟨_,rfl⟩,cl.k1,?_⟩
  refine ⟨_,rfl,ea,NE,_,_,rfl,e3,cl.xE,.inr ⟨_,rfl⟩,cl.k2,?_⟩
  refine ⟨_,rfl,ea,NE,_,_,rfl,e3,cl.xE,.inr ⟨_,rfl⟩,cl.k3,?_⟩
  refine ⟨small (by simp),fun q1 h1=>⟨_,rfl,?_⟩⟩
  exact k q1 _ ((s1.trans s3).trans (aD h1 _)) ak
def Z7:Sp:=fun vs H Q _=>∃ n:Int,vs=[.int n]∧∀ r H',Same H H'→H' r=some (.lst (if DG n=true then [] else Uz))→Q (.ref r) H'
theorem Oa:aZ ["_law_acres", "_law_marks", "e"] ["_law_acres"] (aC Vw):=⟨rfl,rfl,rfl,by decide +kernel,rfl,by decide +kernel,by decide +kernel⟩
set_option maxHeartbeats 8000000 in
theorem Z8 (F:fH K "_law_why_land" "_law_why_land" Vw f fd) (mi:mg "isinstance"=none) {L NE NL NM NF:Addr} (cl:Classes K mg L NE NL NM NF) {g1:Addr}{d1:FuncData}
  (G1:aL P w K mg base (fW P w) 3 g1 d1 ["self", "acres"] (fun vs H Q E=>Az C vs H Q E∨DK NL vs H Q E)) (MK:Mk K C g1) (mC:mg "Land"=some (.ref C)) (b1:Binds K d1 ["self", "acres"] []):aL P w K mg base cu 5 f fd ["_law_acres"] Z7:=by
 refine F.ok Oa (fun vs H Q E h=>?_) (fun cdv A outer s H vs Q E hr h=>?_)
 ·obtain ⟨n,rfl,_⟩:=h
  rfl
 obtain ⟨n,rfl,k⟩:=h
 refine ⟨_,aq (aY (i:=1) Oa.nd rfl (Or.inl rfl) (cI aA))
  (aq (Ij (i:=2) (L:=L) rfl rfl Oa.nd rfl rfl rfl cl.mL
    (fun pn xe E hp=>aG (bT (Kl (CX:=fW P w) (E:=E) MK G1 hr rfl mC b1 .nil hp (aj (pv 0) aA))))
    (fun ea=>aG (aY (i:=1) Oa.nd rfl (Or.inl rfl) (cI (aj (aP (gQ (K:=K)) rfl mi bK (aj (pv 2) (aj (dz rfl cl.mN rfl (v:=.ref NL)) aA))) (aj (aP (gQ (K:=K)) rfl mi bK (aj (pv 2) (aj (dz rfl cl.mE rfl (v:=.ref NE)) aA))) (aj (aP (gQ (K:=K)) rfl mi bK (aj (pv 2) (aj (dz rfl cl.mF rfl (v:=.ref NF)) aA))) aA)))))))
  (aG (aW (pv 1)))),?_⟩
 refine ⟨small (by simp),fun lm Yo=>?_⟩
 have s1:Same H (upd H lm (.lst [])):=aD Yo _
 have m1:(upd H lm (.lst [])) lm=some (.lst []):=ak
 dsimp only [nJ]
 generalize upd H lm (.lst [])=H1 at s1 m1 ⊢
 refine ⟨_,rfl,fun x dx hx hdx hne=>?_⟩
 cases ok:DG n with
 | true =>
  rw [ok,if_pos rfl] at k
  unfold DG at ok
  rw [Bool.and_eq_true,decide_eq_true_iff,decide_eq_true_iff] at ok
  refine .inl ⟨x,dx,n,rfl,ak,ok.1,ok.2,fun a1 a2 a3 a4 a5 t H3 fr _ _ _ _ _ _ _ _ _=>⟨rfl,_,rfl,?_⟩⟩
  have s3:Same H1 H3:=fun c u e=>by
   have c1:c≠x:=fun z=>by rw [z,hx] at e;cases e
   have c2:c≠dx:=fun z=>by rw [z,hdx] at e;cases e
   exact fr c u c1 (by rw [ao c1,ao c2];exact e)
  exact k lm H3 (s1.trans s3) (s3 _ _ m1)
 | false =>
  rw [ok,if_neg Bool.false_ne_true] at k
  refine .inr ⟨x,n,rfl,ok,NL,rfl,cl.eN,fun ea hea=>?_⟩
  have s0:Same H1 (upd (upd H1 dx (.own x)) x (.ins C dx [])):=(aD hdx _).trans (aD (by rw [ao (Ne.symm hne)];exact hx) _)
  have s3:Same H1 (upd (upd (upd H1 dx (.own x)) x (.ins C dx [])) ea (Cy NL ea)):=s0.trans (aD hea _)
  have e3:(upd (upd (upd H1 dx (.own x)) x (.ins C dx [])) ea (Cy NL ea)) ea=some (Cy NL ea):=ak
  generalize upd (upd (upd H1 dx (.own x)) x (.ins C dx [])) ea (Cy NL ea)=H3 at s3 e3 ⊢
  refine ⟨_,rfl,ea,NL,_,_,rfl,e3,cl.xN,.inr ⟨_,rfl⟩,cl.j1,?_⟩
  refine ⟨_,rfl,ea,NL,_,_,rfl,e3,cl.xN,.inr ⟨_,rfl⟩,cl.j2,?_⟩
  refine ⟨_,rfl,ea,NL,_,_,rfl,e3,cl.xN,.inr ⟨_,rfl⟩,cl.j3,?_⟩
  refine ⟨small (by simp),fun q1 h1=>⟨_,rfl,?_⟩⟩
  exact k q1 _ ((s1.trans s3).trans (aD h1 _)) ak
def QB (K:PySem.W.Frag):Sp:=fun vs H Q _=>∃ (na:Addr) (zs:List Str),vs=[.ref na]∧H na=some (.lst (zs.map V.str))∧zs.length≤20∧∀ (z:Str) (H':Hp),Same H H'→z∉zs→z≠""→Q (.str z) H'
theorem Z9:aZ ["_law_names_here"] ["_law_names_here"] (aC Bw):=⟨rfl,rfl,rfl,by decide +kernel,rfl,by decide +kernel,by decide +kernel⟩
def Za:Scope:={ kind:=.function,names:=[(".0",.local),("_law_sign",.local),("_law_names_here",.free)],isGenerator:=false,isCoroutine:=false }
theorem Zb:cT ["_law_names_here"] (aC Bw) Za ["_law_sign"] ["_law_names_here"] [0]:=⟨rfl,by decide +kernel,by decide +kernel,by decide +kernel,rfl,by decide +kernel⟩
theorem Zc:((["_law_sign"]:List Str)++(["_law_names_here"]:List Str)).Nodup:=by decide +kernel
theorem Ob {a b:Nat} (h:gH [a]=gH [b]):a=b:=by
 have:=congrArg (fun z:Str=>z.cps.toList) h
 simpa using this
theorem Kr:az.cps.toList.Nodup:=by decide +kernel
theorem Ks:az.cps.toList.length=26:=by decide +kernel
set_option maxHeartbeats 8000000 in
theorem UG (F:fH K "_law_stranger" "_law_stranger" Bw f fd):aL P w K mg base cu 1 f fd ["_law_names_here"] (QB K):=by
 refine F.ok Z9 (fun vs H Q E h=>?_) (fun cdv A outer s H vs Q E hr h=>?_)
 ·obtain ⟨na,zs,rfl,_⟩:=h
  rfl
 obtain ⟨na,zs,rfl,hn,hz,k⟩:=h
 refine ⟨_,aG (aW (aK aU (fJ rfl Zb (RW aJ) (fun s H fp C'=>⟨bL (i:=0) Zc rfl (Or.inl rfl),eU (aM (gU (K:=K)) (pv 0) (pv 1) (by with_unfolding_all rfl)),pv 0⟩)) au (fun _ _=>rfl))),?_⟩
 refine ⟨az,rfl,fun D hD=>HD (fun i ys Hx=>ys=(((az.cps.toList.take i).filter fun c=>!decide (gH [c]∈zs)).map fun c=>V.str (gH [c]))∧Same H Hx∧Hx D=some (.lst ys)) ⟨rfl,aD hD _,ak⟩ (fun i ys Hx h=>h.2.2) ?_ ?_⟩
 ·rintro i ys Hx c hc ⟨rfl,sx,dx⟩
  have step:((az.cps.toList.take (i+1)).filter fun c=>!decide (gH [c]∈zs)).map (fun c=>V.str (gH [c]))=((az.cps.toList.take i).filter fun c=>!decide (gH [c]∈zs)).map (fun c=>V.str (gH [c]))++(if (!decide (gH [c]∈zs))=true then [V.str (gH [c])] else []):=by
   rw [List.take_add_one,hc,List.filter_append,List.map_append]
   congr 1
   cases e:(!decide (gH [c]∈zs)) <;> simp [e]
  refine ⟨Kp.set rfl (Kp.refl _),_,rfl,_,rfl,na,_,rfl,.inl (bR.of (sx _ _ hn)),rfl,gP _,_,rfl,?_⟩
  show if (!inV (V.str (gH [c])) (zs.map V.str))=true then _ else _
  rw [mD]
  refine eZ (fun hc'=>?_) (fun hc'=>?_)
  ·rw [if_pos hc'] at step
   refine ⟨_,rfl,dx,?_,step.symm,bB sx hD,ak⟩
   rw [List.length_map]
   have h1:=List.length_filter_le (fun c=>!decide (gH [c]∈zs)) (az.cps.toList.take i)
   rw [List.length_take,Ks] at h1
   exact bY (by omega)
  ·rw [if_neg hc',List.append_nil] at step
   exact ⟨step.symm,sx,dx⟩
 ·rintro ys Hx ⟨rfl,sx,dx⟩
  rw [List.take_length] at dx
  have hex:∃ c r,(az.cps.toList.filter fun c=>!decide (gH [c]∈zs))=c::r:=by
   cases hf:(az.cps.toList.filter fun c=>!decide (gH [c]∈zs)) with
   | cons c r=>exact ⟨c,r,rfl⟩
   | nil =>
    exfalso
    have all:∀ c∈az.cps.toList,gH [c]∈zs:=fun c hc=>by
     have:=List.filter_eq_nil_iff.mp hf c hc
     simpa using this
    have nd:(az.cps.toList.map fun c=>gH [c]).Nodup:=by
     rw [List.nodup_iff_pairwise_ne,List.pairwise_map]
     exact Kr.imp fun h z=>h (Ob z)
    have:=sub_len nd fun x hx=>by
     obtain ⟨c,hc,rfl⟩:=List.mem_map.mp hx
     exact all c hc
    rw [List.length_map,Ks] at this
    omega
  obtain ⟨c,r,hcr⟩:=hex
  have hc:=List.mem_filter.mp (show c∈az.cps.toList.filter _ by rw [hcr];exact List.mem_cons_self)
  rw [hcr] at dx
  refine ⟨D,_,_,_,rfl,rfl,bR.of dx,aF (j:=0) rfl,k _ Hx sx (by have:=hc.2;simpa using this) ?_⟩
  intro z
  have:=congrArg (fun z:Str=>z.cps.toList) z
  have e0:("" : Str).cps.toList=[]:=by decide +kernel
  simp [e0] at this
end
end M
namespace M
open PySem L2 PyProof.Rows
abbrev wM:Stmt:=top 50
def Ku:List Str:=["surrender", "grant"]
def DN (K:PySem.W.Frag):Sp:=fun vs H Q _=>∃ (a:Addr) (ns:List Int),vs=[.ref a]∧bR K H a (ns.map V.int)∧ns.length≤63∧∀ H',Q (.bl true) H'
theorem bI {H:Hp}{a b:Addr}{o:HO} (h:H a=some o) (h2:H b=none):a≠b:=fun q=>by rw [q,h2] at h;cases h
theorem gD {H:Hp}:∀ bs:List Bool,cZ H (bs.map V.bl) (bs.map PyData.bool)
 | []=>.nil
 | x::r=>.cons (.bl x) (gD r)
theorem gW:∀ bs:List Bool,(PyData.list (bs.map .bool)).canLay0=true:=by
 intro bs
 have key:∀ bs:List Bool,PyData.canLayAll0 (bs.map PyData.bool)=true:=by
  intro bs
  induction bs with
  | nil=>simp [PyData.canLayAll0]
  | cons x r ih=>simp [PyData.canLayAll0,PyData.canLay0,ih]
 simpa [PyData.canLay0] using key bs
theorem oX:∀ bs:List Bool,(PyData.list (bs.map .bool)).depth≤8:=by
 intro bs
 have key:∀ bs:List Bool,PyData.depthAll (bs.map PyData.bool)≤2:=by
  intro bs
  induction bs with
  | nil=>simp [PyData.depthAll]
  | cons x r ih=>simp [PyData.depthAll,PyData.depth];omega
 have:=key bs
 simp [PyData.depth]
 omega
theorem lK:∀ bs:List Bool,PyData.eqv (.list (bs.map .bool)) (.list (bs.map .bool))=true:=by
 intro bs
 have key:∀ bs:List Bool,PyData.eqvAll (bs.map PyData.bool) (bs.map PyData.bool)=true:=by
  intro bs
  induction bs with
  | nil=>simp [PyData.eqvAll]
  | cons x r ih=>simp [PyData.eqvAll,PyData.eqv,ih]
 simpa [PyData.eqv] using key bs
def Zd (f:Int):List Int:=[-1,0,1,9999,10000,f % 30000 - 10000,0 - 10 ^ (20:Int).toNat,10 ^ (20:Int).toNat]
section
variable {P:Program}{w:World}{K:PySem.W.Frag}{mg:Str→Option Value}{base:Heap}{f C:Addr}{fd:FuncData}
theorem oY:aZ ["_law_script", "_law_feed_here", "_law_pools_here", "_law_land", "_law_book_here", "_law_estate", "_law_there", "_law_which", "_law_acres"] ["_law_script"] (aC wM):=⟨rfl,rfl,rfl,by decide +kernel,rfl,by decide +kernel,by decide +kernel⟩
theorem Gn {H:Hp}{q:Ad}{n:Int}{t u:Addr}{ls:List Str} (ap:Ap q) (L:bZ C H q.x q.dx q.a1 q.a2 q.a3 q.a4 q.a5 (gM .non) (gM (.str "")) (gM (.int n)) (gM (.ref t)) (gM (.int n))) (b:BQ q H (gM .non) (gM (.str "")) (gM (.int n)) (gM (.ref u)) []) (h1:1≤n) (h2:n≤9999) (ft:wC H t 0 1) (fu:wC H u 0 1) (hw:q.wd=n) :
  Rel C q H [⟨"",none, "",n,n,(0,1),t,u⟩] [] ls 0:=by
 refine ⟨ap,L,b,⟨by simp,⟨_,[],rfl,rfl,rfl,True.intro⟩,?_,?_,?_⟩,?_,?_,by simp,by simp,?_,?_,?_⟩
 ·intro e he
  rw [List.mem_singleton.mp he]
  exact ⟨by show (0:Int)≤n;omega,by show (0:Int)≤n;omega,h2⟩
 ·intro e he
  rw [List.mem_singleton.mp he]
  have e0:Sb [(⟨"",none, "",n,n,(0,1),t,u⟩:bC)] ""=0:=by unfold Sb;simp
  show n=n+Sb [(⟨"",none, "",n,n,(0,1),t,u⟩:bC)] ""
  rw [e0];omega
 ·intro e he
  rw [List.mem_singleton.mp he]
  show PyData.strOk ""=true
  decide +kernel
 ·intro e he
  rw [List.mem_singleton.mp he]
  refine ⟨ft,fu,?_⟩
  show Bd 10 (0,1)
  exact ⟨by show (0:Int).natAbs<10 ^ 10;decide,by show (0:Int)<1;decide,by show (1:Int).natAbs<10 ^ 10;decide⟩
 ·intro e he hne
  rw [List.mem_singleton.mp he] at hne
  exact absurd rfl hne
 ·intro e he
  rw [List.mem_singleton.mp he]
  exact .inl rfl
 ·rw [hw]
  show n+0=n
  omega
 ·intro e he
  rw [List.mem_singleton.mp he]
  exact .inl rfl
set_option maxHeartbeats 16000000 in
theorem UJ (T:cX K C) (F:fH K "law" "law" wM f fd) (mr:mg "range"=none) (Ze:mg "int"=none) (mL:mg "Land"=some (.ref C)) {g1 g2 g3 g4 g5 g6 g7 g8 g9 XR XS Y0:Addr}{d1 d2 d3 d4 d5 d6 d7 d8 d9 Y4 Y5 tY:FuncData} (MK:Mk K C g3)
  (G1:aL P w K mg base cu 1 g1 d1 ["_law_script", "_law_many"] (Jo K)) (M1:Ms K mg "_law_feed" g1 d1 ["_law_script", "_law_many"])
  (G2:aL P w K mg base cu 2 g2 d2 ["_law_feed_here"] (Dy K)) (M2:Ms K mg "_law_pools" g2 d2 ["_law_feed_here"])
  (G3:aL P w K mg base cu 3 g3 d3 ["self", "acres"] (Az C)) (b3:Binds K d3 ["self", "acres"] [])
  (G4:aL P w K mg base cu 1 g4 d4 ["_law_acres"] JC) (M4:Ms K mg "_law_book" g4 d4 ["_law_acres"])
  (G5:aL P w K mg base cu 7 g5 d5 ["_law_land", "_law_book_here", "_law_pools_here", "_law_feed_here", "_law_at", "_law_many", "_law_kinds"] (YT C)) (M5:Ms K mg "_law_played" g5 d5 ["_law_land", "_law_book_here", "_law_pools_here", "_law_feed_here", "_law_at", "_law_many", "_law_kinds"])
  (G6:aL P w K mg base cu 5 g6 d6 ["_law_land", "_law_book_here"] (XM C)) (M6:Ms K mg "_law_land_is" g6 d6 ["_law_land", "_law_book_here"])
  (G7:aL P w K mg base cu 1 g7 d7 ["_law_names_here"] (QB K)) (M7:Ms K mg "_law_stranger" g7 d7 ["_law_names_here"])
  (G8:aL P w K mg base cu 3 g8 d8 ["_law_found", "_law_due"] (pY 3)) (M8:Ms K mg "_law_same" g8 d8 ["_law_found", "_law_due"])
  (G9:aL P w K mg base cu 1 g9 d9 ["self", "estate"] (oO C)) (m9:Meth K C "there" g9) (b9:Binds K d9 ["self", "estate"] [])
  (U9:aL P w K mg base cu 5 XR Y4 ["_law_land", "_law_which", "_law_estate"] (Z5 C)) (NK:Ms K mg "_law_why_asked" XR Y4 ["_law_land", "_law_which", "_law_estate"])
  (NP:aL P w K mg base cu 5 XS Y5 ["_law_acres"] Z7) (M11:Ms K mg "_law_why_land" XS Y5 ["_law_acres"])
  (NQ:aL P w K mg base cu 1 Y0 tY ["self", "man"] (Am C)) (m12:Meth K C "held" Y0) (b12:Binds K tY ["self", "man"] []) :
  aL P w K mg base cu 8 f fd ["_law_script"] (DN K):=by
 refine F.ok oY (fun vs H Q E h=>?_) (fun cdv A outer s H vs Q E hr h=>?_)
 ·obtain ⟨a,ns,rfl,_⟩:=h
  rfl
 obtain ⟨sA,ns,rfl,hS,h63,kk⟩:=h
 have hr1:fG 1 _:=hr.mono (by decide)
 have hr2:fG 2 _:=hr.mono (by decide)
 have wD:fG 3 _:=hr.mono (by decide)
 have Di:fG 4 _:=hr.mono (by decide)
 have Dj:fG 5 _:=hr.mono (by decide)
 refine ⟨_,(aq (aY (i:=1) oY.nd rfl (Or.inl rfl) (bf G1 hr1 rfl M1.m M1.k M1.b .nil bD (aj (pv 0) (aj au aA))))
  (aq (aY (i:=2) oY.nd rfl (Or.inl rfl) (bf G2 hr2 rfl M2.m M2.k M2.b .nil bD (aj (pv 1) aA)))
  (aq (aY (i:=3) oY.nd rfl (Or.inl rfl) (Lf MK G3 Di rfl mL b3 .nil bD (aj (aK aR (pv 2) au (fun _ _=>rfl)) aA)))
  (aq (aY (i:=4) oY.nd rfl (Or.inl rfl) (bf G4 hr1 rfl M4.m M4.k M4.b .nil bD (aj (aK aR (pv 2) au (fun _ _=>rfl)) aA)))
  (aq (bJ (gb (dU (bf G5 hr rfl M5.m M5.k M5.b .nil bD (aj (pv 3) (aj (pv 4) (aj (pv 2) (aj (pv 1) (aj au (aj (aN bO (aK aU (pv 1) au (fun _ _=>rfl)) au) (aj (cI (aj aJ (aj aJ aA))) aA)))))))))) bN aQ)
  (aq (jk PassesOwn.never rfl (fD (aN jK (aN jK (cI (aj aJ aA)) (aK aR (pv 2) au (fun _ _=>rfl))) (cI (aj (bf G7 hr1 rfl M7.m M7.k M7.b .nil bD (aj (aK aR (pv 2) au (fun _ _=>rfl)) aA)) aA)))) (bL (i:=5) oY.nd rfl (Or.inl rfl)) (aq (aY (i:=6) oY.nd rfl (Or.inl rfl) (zj (Il (u1 hr) (pv 5) (aO (u1 hr) (pv 4) aJ (fun _ _=>rfl))) (by with_unfolding_all rfl)))
  (aq (bJ (gb (dU (bf G8 wD rfl M8.m M8.k M8.b .nil bD (aj (bH (pv 3) T.cl m9 G9 hr1 b9 .nil bD (aj (pv 5) aA)) (aj (pv 6) aA))))) bN aQ)
  (aG (jk PassesOwn.never rfl (iU rfl mr (aj au aA)) (bL (i:=7) oY.nd rfl (Or.inl rfl)) (aG (bJ (aM (vW hr.units) (bf U9 Dj rfl NK.m NK.k NK.b .nil bD (aj (pv 3) (aj (pv 7) (aj (pv 5) aA)))) (aK aU (cI (aj (cI (aj kj (aj kj (aj kj (aj kj aA))))) (aj (cI aA) aA))) (iW uc rfl Ze zP (aj (pv 6) aA)) (fun _ _=>rfl)) (bA _)) bN aQ)))))))
  (aq (jk PassesOwn.never rfl (fD (cI (aj (xr rC au) (aj au (aj au (aj au (aj au (aj (aN jH (aN bO (aK aU (pv 1) au (fun _ _=>rfl)) au) au) (aj (aN jH au (aN zq au au)) (aj (aN zq au au) aA)))))))))) (bL (i:=8) oY.nd rfl (Or.inl rfl)) (aG (bJ (aM (vW hr.units) (bf NP Dj rfl M11.m M11.k M11.b .nil bD (aj (pv 8) aA)) (aK aU (cI (aj (cI (aj kj (aj kj (aj kj aA)))) (aj (cI aA) aA))) (iW uc rfl Ze zP (aj (rD u9 u9 au (pv 8) au) aA)) (fun _ _=>rfl)) (bA _)) bN aQ)))
  (aG (aW (pC (bf G8 wD rfl M8.m M8.k M8.b .nil bD (aj (bH (pv 3) T.cl m12 NQ hr1 b12 .nil bD (aj (bf G7 hr1 rfl M7.m M7.k M7.b .nil bD (aj (aK aR (pv 2) au (fun _ _=>rfl)) aA)) aA)) (aj (cI aA) aA))) (rB (bf G6 Dj rfl M6.m M6.k M6.b .nil bD (aj (pv 3) (aj (pv 4) aA)))))))))))))),?_⟩
 refine ⟨_,rfl,sA,ns,120,rfl,hS,h63,by decide,by decide,fun fa H1 fs s1 YX Zf hfl hfo=>?_⟩
 have hl:fs.length=120:=by omega
 obtain ⟨f0,e0,o0⟩:=fL hfo (i:=0) (by decide) (by omega)
 obtain ⟨o0a,o0b⟩:=o0
 obtain ⟨f1,e1,o1⟩:=fL hfo (i:=1) (by decide) (by omega)
 refine ⟨_,rfl,fa,fs,rfl,bR.of Zf,by omega,hfo,fun p m la mz ls wd H2 s2 pl=>?_⟩
 have hfa2:=s2 _ _ Zf
 refine ⟨_,rfl,p,_,_,_,rfl,rfl,bM.of pl.r,aF (j:=2) rfl,?_⟩
 intro x dx hx hdx hxd
 refine ⟨x,dx,wd,rfl,ak,pl.w1,pl.w2,fun a1 a2 a3 a4 a5_ t H3 fr L a5 _ _ _ _ _ _ ft=>⟨rfl,?_⟩⟩
 have s3:Same H2 H3:=fun c u e=>by
  have c1:c≠x:=bI e hx
  have c2:c≠dx:=bI e hdx
  exact fr c u c1 (by rw [ao c1,ao c2];exact e)
 have UL:=L.l1
 have ln2:=L.l2
 have UW:=L.l3
 have V0:=L.l4
 have V1:=L.l5
 have pl3:=pl.same s3
 have Zg:=s3 _ _ hfa2
 refine ⟨_,rfl,p,_,_,_,rfl,rfl,bM.of pl3.r,aF (j:=2) rfl,wd,rfl,fun B l h o d kn dd u kvs H4 s4 nB nl nh no nd QC Zh nu KQ nkd bk fu=>?_⟩
 have ap:Ap ⟨x,dx,a1,a2,a3,a4,a5_,B,l,h,o,d,kn,dd,kvs,wd,mz⟩:=by
  simp only [Ap,List.nodup_cons,List.mem_cons,List.not_mem_nil,or_false,not_or,List.nodup_nil,and_true,not_false_eq_true]
  exact ⟨⟨a5.n12,a5.n13,a5.n14,a5.n15,bI UL nB,bI UL nl,bI UL nh,bI UL no,bI UL nd,bI UL QC,bI UL Zh⟩,⟨a5.n23,a5.n24,a5.n25,bI ln2 nB,bI ln2 nl,bI ln2 nh,bI ln2 no,bI ln2 nd,bI ln2 QC,bI ln2 Zh⟩,⟨a5.n34,a5.n35,bI UW nB,bI UW nl,bI UW nh,bI UW no,bI UW nd,bI UW QC,bI UW Zh⟩,⟨a5.n45,bI V0 nB,bI V0 nl,bI V0 nh,bI V0 no,bI V0 nd,bI V0 QC,bI V0 Zh⟩,⟨bI V1 nB,bI V1 nl,bI V1 nh,bI V1 no,bI V1 nd,bI V1 QC,bI V1 Zh⟩,⟨KQ.n12,KQ.n13,KQ.n14,KQ.n15,bh bk.b bk.k (by intro z;cases z),bh bk.b bk.x (by intro z;cases z)⟩,⟨KQ.n23,KQ.n24,KQ.n25,bh bk.l bk.k (by intro z;cases z),bh bk.l bk.x (by intro z;cases z)⟩,⟨KQ.n34,KQ.n35,bh bk.h bk.k (by intro z;cases z),bh bk.h bk.x (by intro z;cases z)⟩,⟨KQ.n45,bh bk.o bk.k (by intro z;cases z),bh bk.o bk.x (by intro z;cases z)⟩,⟨bh bk.d bk.k (by intro z;cases z),bh bk.d bk.x (by intro z;cases z)⟩,(nkd)⟩
 have R0:Rel C ⟨x,dx,a1,a2,a3,a4,a5_,B,l,h,o,d,kn,dd,kvs,wd,mz⟩ H4 [⟨"",none, "",wd,wd,(0,1),t,u⟩] [] ls 0:=Gn ap (L.same s4) bk pl.w1 pl.w2 (s4 _ _ ft) fu rfl
 have pl4:=pl3.same s4
 have V2:=s4 _ _ Zg
 have nm:m≠kn:=bI pl3.m QC
 have YZ:la≠kn:=bI pl3.la QC
 have Z0:fa≠kn:=bI Zg QC
 have kn4:=bk.k
 generalize hq:(⟨x,dx,a1,a2,a3,a4,a5_,B,l,h,o,d,kn,dd,kvs,wd,mz⟩:Ad)=q at ap R0
 have qx:x=q.x:=by rw [← hq]
 have qB:B=q.B:=by rw [← hq]
 have qk:kn=q.kn:=by rw [← hq]
 rw [qk] at nm YZ Z0
 have qm:mz=q.ms:=by rw [← hq]
 have mth:∀ {es:List bC}{ks:List Str}{j:Nat}{Ha:Hp},Rel C q Ha es ks ls j→Ha x=some (.ins C dx (F5 q.a1 q.a2 q.a3 q.a4 q.a5)):=fun r=>by subst hq;exact r.L.o
 refine ⟨_,rfl,_,rfl,_,rfl,_,rfl,_,rfl,fa,_,_,_,rfl,rfl,bR.of V2,e0,_,_,rfl,rfl,(by show (0:Int)<11;decide),small (by simp),fun kd hkd=>?_⟩
 have sk:=aD hkd (.lst [.str "surrender",.str "grant"])
 have kk1:(upd H4 kd (.lst [.str "surrender",.str "grant"])) kd=some (.lst (Ku.map V.str)):=ak
 have nkdd:kd≠q.kn:=by
  intro z
  rw [z] at hkd
  have:=R0.B.k
  rw [hkd] at this
  cases this
 refine ⟨q,_,_,0,p,m,la,fa,kd,mz,ls,Ku,wd,20,f0 % 11,fs,(by subst hq;rfl),R0.same sk,pl4.same sk,sk _ _ V2,hfo,kk1,by decide,by decide,nm,YZ,Z0,nkdd,by omega,by omega,by omega,by omega,by omega,qm.symm,fun es ks H5 R o5=>⟨_,rfl,cB ?_⟩⟩
 have oa:=(jQ.same (q:=q) sk).trans o5
 have pl5:=pl4.out R0 oa nm YZ
 have hfa5:=lJ R0 oa V2 Z0
 have ln:=R.ten pl.ll
 have W:=R.W
 have lm:=pl.lm
 have ll:=pl.ll
 generalize (0+(f0 % 11).toNat)=jj at R
 refine ⟨small (by simp),fun c1 hc1=>?_⟩
 have t1:=aD hc1 (.lst [.str ""])
 have p1:=pl5.same t1
 refine ⟨_,rfl,p,_,_,_,rfl,rfl,bM.of p1.r,aF (j:=1) rfl,c1,la,_,_,rfl,rfl,ak,p1.la,(by rw [List.length_map,List.length_singleton];exact small (by omega)),fun c2 hc2=>?_⟩
 have t2:=t1.trans (aD hc2 (.lst ([.str ""]++ls.map V.str)))
 have k2:(upd (upd H5 c1 (.lst [.str ""])) c2 (.lst ([.str ""]++ls.map V.str))) c2=some (.lst ([.str ""]++ls.map V.str)):=ak
 generalize upd (upd H5 c1 (.lst [.str ""])) c2 (.lst ([.str ""]++ls.map V.str))=H6 at t2 k2 ⊢
 have p2:=pl5.same t2
 refine ⟨_,rfl,p,_,_,_,rfl,rfl,bM.of p2.r,aF (j:=1) rfl,la,ls,rfl,p2.la,by omega,fun sg H7 s7 hsg hsg0=>⟨small (by simp),fun c3 hc3=>?_⟩⟩
 have t3:=(t2.trans s7).trans (aD hc3 (.lst [.str sg]))
 refine ⟨c2,c3,_,_,rfl,rfl,(aD hc3 (.lst [.str sg])) _ _ (s7 _ _ k2),ak,(by simp;exact small (by omega)),fun c4 hc4=>?_⟩
 have e4:[V.str ""]++ls.map V.str++[V.str sg]=((("" : Str)::ls)++[sg]).map V.str:=by simp
 rw [e4]
 have t4:=t3.trans (aD hc4 (.lst (((("" : Str)::ls)++[sg]).map V.str)))
 have k4:(upd (upd H7 c3 (.lst [.str sg])) c4 (.lst (((("" : Str)::ls)++[sg]).map V.str))) c4=some (.lst (((("" : Str)::ls)++[sg]).map V.str)):=ak
 generalize upd (upd H7 c3 (.lst [.str sg])) c4 (.lst (((("" : Str)::ls)++[sg]).map V.str))=H8 at t4 k4 ⊢
 have R8:=R.same t4
 have pl8:=pl5.same t4
 have hf8:=t4 _ _ hfa5
 refine ⟨c4,rfl,⟨_,bR.of k4⟩,kW (K:=K) (a:=c4) (xs:=((("" : Str)::ls)++[sg]).map V.str) (fun i σ Hy=>(∃ u5 u6 u7,σ=[some (.ref sA),some (.ref fa),some (.ref p),some (.ref x),some (.ref B),u5,u6,u7,none])∧Same H8 Hy) ⟨⟨none,none,none,rfl⟩,Same.refl _⟩ (fun i σ Hy _ h=>bR.of (h.2 _ _ k4)) ?_ ?_⟩
 ·rintro i v σ Hy hv ⟨⟨u5,u6,u7,rfl⟩,sy⟩
  rw [List.getElem?_map] at hv
  obtain ⟨en,_,rfl⟩:=Option.map_eq_some_iff.mp hv
  have R9:=R8.same sy
  have gl9:dR Hy B (V.str "lords") (some (.ref q.l)):=by rw [qB];exact R9.B.gl
  refine ⟨_,rfl,_,rfl,B,_,rfl,gl9,q.l,_,rfl,dR.k (k:=.inr en) R9.B.l,?_⟩
  rw [gA]
  refine ⟨_,rfl,x,dx,_,rfl,mth R9,rfl,_,rfl,q.x,q.dx,q.a1,q.a2,q.a3,q.a4,q.a5,_,_,_,_,_,en,(by subst hq;rfl),R9.L,_,rfl,_,_,rfl,(by rw [gA];exact .inl ⟨rfl,rfl⟩),fun Ha sa=>⟨_,rfl,cB ?_⟩⟩
  have Ra:=R9.same sa
  refine ⟨7,rfl,by decide,by decide,?_⟩
  refine iV (lo:=0) (n:=7) (fun i σ Hb=>(∃ u7,σ=[some (.ref sA),some (.ref fa),some (.ref p),some (.ref x),some (.ref B),some (.str en),some (.bl (decide (en∈nms es))),u7,none])∧Same H8 Hb) ⟨⟨_,rfl⟩,sy.trans sa⟩ ?_ ?_
  ·rintro i2 σ Hb hi2 ⟨⟨u7',rfl⟩,sb⟩
   have Rb:=R8.same sb
   refine ⟨_,rfl,_,rfl,_,rfl,q,es,ks,ls,jj,_,en,(by subst hq;rfl),Rb,by omega,fun r1 Hc sc kr1=>?_⟩
   refine ⟨small (by simp),fun l1 hl1=>⟨small (by simp),fun l2 hl2=>⟨small (by simp),fun l3 hl3=>?_⟩⟩⟩
   have u1:=aD hl1 (.lst [.bl true,.bl true,.bl false,.bl false])
   have u2:=aD hl2 (.lst [])
   have u3:=aD hl3 (.lst [.ref l1,.ref l2])
   have Uh:_=some (HO.lst ([true,true,false,false].map V.bl)):=u3 _ _ (u2 _ _ (show (upd Hc l1 (.lst [.bl true,.bl true,.bl false,.bl false])) l1=some (.lst ([true,true,false,false].map V.bl)) from ak))
   have Dv:_=some (HO.lst (([]:List Bool).map V.bl)):=u3 _ _ (show (upd (upd Hc l1 (.lst [.bl true,.bl true,.bl false,.bl false])) l2 (.lst [])) l2=some (.lst (([]:List Bool).map V.bl)) from ak)
   have kr:=u3 _ _ (u2 _ _ (u1 _ _ kr1))
   have fin:=(sb.trans sc).trans ((u1.trans u2).trans u3)
   refine ⟨_,rfl,.inr ⟨_,rfl,?_⟩⟩
   by_cases he:en∈nms es
   ·rw [decide_eq_true he]
    rw [if_pos he] at kr
    refine ⟨l3,_,_,_,rfl,rfl,bR.of ak,aF (j:=1) rfl,?_⟩
    refine ⟨_,_,.lst kr (gD []),.lst Dv (gD []),gW [],gW [],oX [],_,rfl,?_⟩
    rw [lK]
    exact cB ⟨⟨_,rfl⟩,fin⟩
   ·rw [decide_eq_false he]
    rw [if_neg he] at kr
    refine ⟨l3,_,_,_,rfl,rfl,bR.of ak,aF (j:=0) rfl,?_⟩
    refine ⟨_,_,.lst kr (gD [true,true,false,false]),.lst Uh (gD [true,true,false,false]),gW _,gW _,oX _,_,rfl,?_⟩
    rw [lK]
    exact cB ⟨⟨_,rfl⟩,fin⟩
  ·rintro σ Hb ⟨⟨u7',rfl⟩,sb⟩
   exact ⟨⟨_,_,_,rfl⟩,sb⟩
 ·rintro σ Hy ⟨⟨u5,u6,u7,rfl⟩,sy⟩
  have hfy:=sy _ _ hf8
  refine ⟨_,rfl,_,rfl,fa,_,_,_,rfl,rfl,bR.of hfy,e1,_,_,rfl,rfl,(by show (0:Int)<30000;decide),_,_,rfl,rfl,_,_,rfl,rfl,⟨by decide,by decide,by decide⟩,_,_,rfl,rfl,_,_,rfl,rfl,⟨by decide,by decide,by decide⟩,small (by simp),fun c5 hc5=>?_⟩
  generalize hH9:upd Hy c5 _=H9
  have k5:H9 c5=some (.lst ((Zd f1).map V.int)):=by rw [← hH9];exact ak
  have t5:Same Hy H9:=by rw [← hH9];exact aD hc5 _
  clear hH9
  have t09:=t4.trans (sy.trans t5)
  refine ⟨c5,rfl,⟨_,bR.of k5⟩,kW (K:=K) (a:=c5) (xs:=(Zd f1).map V.int) (fun i σ Hb=>(∃ u8,σ=[some (.ref sA),some (.ref fa),some (.ref p),some (.ref x),some (.ref B),u5,u6,u7,u8])∧Same H9 Hb) ⟨⟨none,rfl⟩,Same.refl _⟩ (fun i σ Hb _ h=>bR.of (h.2 _ _ k5)) ?_ ?_⟩
  ·rintro i v σ Hb hv ⟨⟨u8,rfl⟩,sb⟩
   rw [List.getElem?_map] at hv
   obtain ⟨n,_,rfl⟩:=Option.map_eq_some_iff.mp hv
   refine ⟨_,rfl,n,rfl,fun r1 Hc sc kr1=>?_⟩
   refine ⟨small (by simp),fun l1 hl1=>⟨small (by simp),fun l2 hl2=>⟨small (by simp),fun l3 hl3=>?_⟩⟩⟩
   have u1:=aD hl1 (.lst [.bl true,.bl false,.bl false])
   have u2:=aD hl2 (.lst [])
   have u3:=aD hl3 (.lst [.ref l1,.ref l2])
   have Uh:_=some (HO.lst ([true,false,false].map V.bl)):=u3 _ _ (u2 _ _ (show (upd Hc l1 (.lst [.bl true,.bl false,.bl false])) l1=some (.lst ([true,false,false].map V.bl)) from ak))
   have Dv:_=some (HO.lst (([]:List Bool).map V.bl)):=u3 _ _ (show (upd (upd Hc l1 (.lst [.bl true,.bl false,.bl false])) l2 (.lst [])) l2=some (.lst (([]:List Bool).map V.bl)) from ak)
   have kr:=u3 _ _ (u2 _ _ (u1 _ _ kr1))
   have fin:=(sb.trans sc).trans ((u1.trans u2).trans u3)
   refine ⟨_,rfl,_,_,rfl,rfl,_,rfl,?_⟩
   refine eZ (fun h1=>⟨_,_,rfl,rfl,.inr ⟨_,rfl,?_⟩⟩) (fun h1=>.inr ⟨_,rfl,?_⟩)
   ·by_cases h2:n≤9999
    ·have ok:DG n=true:=by unfold DG;rw [h1,decide_eq_true h2];rfl
     rw [if_pos ok] at kr
     rw [decide_eq_true h2]
     refine ⟨l3,_,_,_,rfl,rfl,bR.of ak,aF (j:=1) rfl,?_⟩
     refine ⟨_,_,.lst kr (gD []),.lst Dv (gD []),gW [],gW [],oX [],_,rfl,?_⟩
     rw [lK]
     exact cB ⟨⟨_,rfl⟩,fin⟩
    ·have ok:¬ DG n=true:=by unfold DG;rw [decide_eq_false h2,Bool.and_false];exact Bool.false_ne_true
     rw [if_neg ok] at kr
     rw [decide_eq_false h2]
     refine ⟨l3,_,_,_,rfl,rfl,bR.of ak,aF (j:=0) rfl,?_⟩
     refine ⟨_,_,.lst kr (gD [true,false,false]),.lst Uh (gD [true,false,false]),gW _,gW _,oX _,_,rfl,?_⟩
     rw [lK]
     exact cB ⟨⟨_,rfl⟩,fin⟩
   ·have ok:¬ DG n=true:=by unfold DG;rw [Bool.eq_false_iff.mpr h1,Bool.false_and];exact Bool.false_ne_true
    rw [if_neg ok] at kr
    refine ⟨l3,_,_,_,rfl,rfl,bR.of ak,aF (j:=0) rfl,?_⟩
    refine ⟨_,_,.lst kr (gD [true,false,false]),.lst Uh (gD [true,false,false]),gW _,gW _,oX _,_,rfl,?_⟩
    rw [lK]
    exact cB ⟨⟨_,rfl⟩,fin⟩
  ·rintro σ Hb ⟨⟨u8,rfl⟩,sb⟩
   have s0b:=t09.trans sb
   have Rb:=R.same s0b
   have plb:=pl5.same s0b
   refine ⟨_,rfl,x,dx,_,rfl,mth Rb,rfl,_,rfl,p,_,_,_,rfl,rfl,bM.of plb.r,aF (j:=0) rfl,m,mz,rfl,plb.m,by omega,fun sg2 Hc sc hs1 hs2=>?_⟩
   have Rc:=Rb.same sc
   refine ⟨q.x,q.dx,q.a1,q.a2,q.a3,q.a4,q.a5,_,_,_,_,_,sg2,(by subst hq;rfl),Rc.L,vg,Qg,by rw [gO];omega,fun r3 ss Hd sd wD kr3 hp3 _=>?_⟩
   have e0s:ss=[]:=by
    rw [qT] at hp3
    have:(es.filter fun e=>decide (V.str e.man=V.str sg2))=[]:=List.filter_eq_nil_iff.mpr fun y hy c=>by
     rw [dB] at c
     have c:=of_decide_eq_true c
     rcases R.mn y hy with z | z
     ·exact hs2 (c.symm.trans z)
     ·rw [← qm,c] at z
      exact hs1 z
    have h0:=hp3.length_eq
    rw [this] at h0
    exact List.length_eq_zero_iff.mp h0
   subst e0s
   refine ⟨small (by simp),fun l4 hl4=>?_⟩
   have sl4:=aD hl4 (.lst [])
   refine ⟨_,_,rfl,mH (ss:=[]) (sl4 _ _ kr3) ak (by simp),fun He se=>⟨_,rfl,dj ?_⟩⟩
   exact ⟨_,rfl,_,rfl,q,es,ks,ls,jj,(by subst hq;rfl),(Rc.same sd).same (sl4.trans se),by omega,fun H6 _=>kk H6⟩
end
end M
namespace M
open PySem L2
theorem iG {P:List Value→Prop} (h:P []):∀ us:List Value,us.length=0→P us
 | [],_=>h
theorem cF {n:Nat}{P:List Value→Prop} (h:∀ (a:Value) (us:List Value),us.length=n→P (a::us)):∀ us:List Value,us.length=n+1→P us
 | a::us,e=>h a us (Nat.succ.inj e)
theorem V3 {K:PySem.W.Frag}{a:Addr}{xs:List V}{d:Option Addr}{it:Array Value}{n:Nat}{ss:Array (Option Value)} (h:K.lookup a=some ⟨.type "tuple",d,.seq it n,ss⟩) (hs:it.size≤sizeLine) (hv:Vals xs it.toList):KTp K a xs:=⟨_,it,n,h,rfl,rfl,hs,hv⟩
set_option maxHeartbeats 4000000 in
theorem all_mk {l:PySem.W.OpenLaw}{w:World}{K:PySem.W.Frag}{h:Heap}{mg:Str→Option Value}{fa f1 f2 f3 f4 f5 f6 f7 f8 f9 f10 f11 f12 f13 f14 f15 f16 f17 f18 f19 f20 f21 f22 f23 f24 f25 f26 f27 f28 f29 f30 f31 f32 f33 f34:Addr} (X:K.In h) (G:h.Ns mainGlobals mg) (hfa:mg "law"=some (.ref fa))
  {od1 an1 od2 an2 od3 an3 od4 an4 od5 an5 od6 an6 od7 an7 od8 an8 od9 an9 od10 an10 od11 an11 od12 an12 od13 an13 od14 an14 od15 an15 od16 an16 od17 an17 od18 an18 od19 an19 od20 an20 od21 an21 od22 an22 od23 an23 od24 an24 od25 an25 od26 an26 od27 an27 od28 an28 od29 an29 od30 an30 od31 an31 od32 an32 od33 an33 od34 Zi:Option Addr}{sl1 sl2 sl3 sl4 sl5 sl6 sl7 sl8 sl9 sl10 sl11 sl12 sl13 sl14 sl15 sl16 sl17 sl18 sl19 sl20 sl21 sl22 sl23 sl24 sl25 sl26 sl27 sl28 sl29 sl30 sl31 sl32 sl33 sl34:Array (Option Value)}{oc1 kV1 dc1 pm1 cd1 ct1 oc2 kV2 dc2 pm2 cd2 ct2 oc3 kV3 dc3 pm3 cd3 ct3 oc4 kV4 dc4 pm4 cd4 ct4 oc5 kV5 dc5 pm5 cd5 ct5 oc6 kV6 dc6 pm6 cd6 ct6 oc7 kV7 dc7 pm7 cd7 ct7 oc8 kV8 dc8 pm8 cd8 ct8 oc9 kV9 dc9 pm9 cd9 ct9 oc10 kV10 dc10 pm10 Zj ct10 oc11 kV11 dc11 pm11 Zk ct11 oc12 kV12 dc12 pm12 Zm ct12 oc13 kV13 dc13 pm13 Zn ct13 oc14 kV14 dc14 pm14 Zo ct14 oc15 kV15 dc15 pm15 Zq ct15 oc16 kV16 dc16 pm16 Zr ct16 oc17 kV17 dc17 pm17 Zt ct17 oc18 kV18 dc18 pm18 Zu ct18 oc19 kV19 dc19 pm19 Zv ct19 oc20 kV20 dc20 pm20 Zw ct20 oc21 kV21 dc21 pm21 Zx ct21 oc22 kV22 dc22 pm22 Zy ct22 oc23 kV23 dc23 pm23 Zz ct23 oc24 kV24 dc24 pm24 ZC ct24 oc25 kV25 dc25 pm25 ZD ct25 oc26 kV26 dc26 pm26 ZF ct26 oc27 kV27 dc27 pm27 ZG ct27 oc28 kV28 dc28 pm28 ZJ ct28 oc29 kV29 dc29 pm29 ZK ct29 oc30 kV30 dc30 pm30 ZL ct30 oc31 kV31 dc31 pm31 ZM ct31 oc32 kV32 dc32 pm32 ZP ct32 oc33 kV33 dc33 pm33 ZQ ct33 oc34 ZR ZS ZV V4 ZW:Value}{tC:Tok}{C aB b1_ b2_ b3_ b4_ b5_ b6_ b7_ f_I Oc Od Oe Og Oh Oi Oj Ol Om Oo Oq Ot Ou Ov Ow Ox Oz:Addr}{od_I an_I ZX a0a a0b a0c a0d a0e a0f a0g a0h a0i a0j a0k a0l a0m a0n a0o a0p a0q a0r a0s a0t a0u a0v a0w a0x a0y a0z a0A a0B a0C a0D a0E a0F a0G:Option Addr}{sl_I a0H a0I a0J a0K a0L a0M a0N a0O a0P a0Q a0R a0S a0T a0U a0V a0W a0X:Array (Option Value)}{oc_I kV_I dc_I pm_I cd_I ct_I a0Y a0Z a00 a01 QD a02 a03 a04 a05 a06 QF a07 a08 a09 a1a a1b QG a1c a1d a1e a1f a1g QH a1h a1i a1j a1k a1l QJ a1m a1n a1o a1p a1q QK a1r a1s a1t a1u a1v QL a1w a1x a1y a1z a1A QM a1B a1C a1D a1E a1F QS a1G a1H a1I a1J a1K QT a1L a1M a1N a1O a1P QV a1Q a1R a1S a1T a1U QW a1V a1W a1X a1Y a1Z QX a2a a2b a2c a2d a2e QZ a2f a2g a2h a2i a2j R5 a2k a2l a2m a2n a2o Rf a2p a2q a2r a2s a2t Rg a2u:Value}{BK:Array Value}{a2v:Nat}{V5:Option Addr}{V6:Array (Option Value)}{esB:Array DictEntry}{nB:Nat}{L_ zc BL NM_ NF_:Addr}{cdE cdN:ClassData}
  (a1:PySem.W.nsIn K mainGlobals "fits"=some (some (.ref f1))) (l1:K.lookup f1=some ⟨oc1,od1,.func (PySem.W.fnOf "fits" "fits" (aX sU) (aV sU) (aC sU) .none kV1 dc1 pm1 an1 cd1 ct1),sl1⟩) (c1:PySem.W.codeIn K cd1 "fits"=true) (k1:PySem.W.keepIn K (.ref f1)=true)
  (a2:PySem.W.nsIn K mainGlobals "check_acres"=some (some (.ref f2))) (l2:K.lookup f2=some ⟨oc2,od2,.func (PySem.W.fnOf "check_acres" "check_acres" (aX Ay) (aV Ay) (aC Ay) .none kV2 dc2 pm2 an2 cd2 ct2),sl2⟩) (c2:PySem.W.codeIn K cd2 "check_acres"=true) (k2:PySem.W.keepIn K (.ref f2)=true)
  (a3:PySem.W.nsIn K mainGlobals "part"=some (some (.ref f3))) (l3:K.lookup f3=some ⟨oc3,od3,.func (PySem.W.fnOf "part" "part" (aX uZ) (aV uZ) (aC uZ) .none kV3 dc3 pm3 an3 cd3 ct3),sl3⟩) (c3:PySem.W.codeIn K cd3 "part"=true) (k3:PySem.W.keepIn K (.ref f3)=true)
  (a4:PySem.W.nsIn K mainGlobals "minus"=some (some (.ref f4))) (l4:K.lookup f4=some ⟨oc4,od4,.func (PySem.W.fnOf "minus" "minus" (aX pX) (aV pX) (aC pX) .none kV4 dc4 pm4 an4 cd4 ct4),sl4⟩) (c4:PySem.W.codeIn K cd4 "minus"=true) (k4:PySem.W.keepIn K (.ref f4)=true)
  (a5:PySem.W.nsIn K mainGlobals "common_measure"=some (some (.ref f5))) (l5:K.lookup f5=some ⟨oc5,od5,.func (PySem.W.fnOf "common_measure" "common_measure" (aX Ft) (aV Ft) (aC Ft) .none kV5 dc5 pm5 an5 cd5 ct5),sl5⟩) (c5:PySem.W.codeIn K cd5 "common_measure"=true) (k5:PySem.W.keepIn K (.ref f5)=true)
  (a6:PySem.W.nsIn K mainGlobals "_law_feed"=some (some (.ref f6))) (l6:K.lookup f6=some ⟨oc6,od6,.func (PySem.W.fnOf "_law_feed" "_law_feed" (aX v7) (aV v7) (aC v7) .none kV6 dc6 pm6 an6 cd6 ct6),sl6⟩) (c6:PySem.W.codeIn K cd6 "_law_feed"=true) (k6:PySem.W.keepIn K (.ref f6)=true)
  (a7:PySem.W.nsIn K mainGlobals "_law_same"=some (some (.ref f7))) (l7:K.lookup f7=some ⟨oc7,od7,.func (PySem.W.fnOf "_law_same" "_law_same" (aX qu) (aV qu) (aC qu) .none kV7 dc7 pm7 an7 cd7 ct7),sl7⟩) (c7:PySem.W.codeIn K cd7 "_law_same"=true) (k7:PySem.W.keepIn K (.ref f7)=true)
  (a8:PySem.W.nsIn K mainGlobals "_law_low"=some (some (.ref f8))) (l8:K.lookup f8=some ⟨oc8,od8,.func (PySem.W.fnOf "_law_low" "_law_low" (aX Fv) (aV Fv) (aC Fv) .none kV8 dc8 pm8 an8 cd8 ct8),sl8⟩) (c8:PySem.W.codeIn K cd8 "_law_low"=true) (k8:PySem.W.keepIn K (.ref f8)=true)
  (a9:PySem.W.nsIn K mainGlobals "_law_names"=some (some (.ref f9))) (l9:K.lookup f9=some ⟨oc9,od9,.func (PySem.W.fnOf "_law_names" "_law_names" (aX nG) (aV nG) (aC nG) .none kV9 dc9 pm9 an9 cd9 ct9),sl9⟩) (c9:PySem.W.codeIn K cd9 "_law_names"=true) (k9:PySem.W.keepIn K (.ref f9)=true)
  (a10:PySem.W.nsIn K mainGlobals "_law_book"=some (some (.ref f10))) (l10:K.lookup f10=some ⟨oc10,od10,.func (PySem.W.fnOf "_law_book" "_law_book" (aX qw) (aV qw) (aC qw) .none kV10 dc10 pm10 an10 Zj ct10),sl10⟩) (c10:PySem.W.codeIn K Zj "_law_book"=true) (k10:PySem.W.keepIn K (.ref f10)=true)
  (a11:PySem.W.nsIn K mainGlobals "_law_under"=some (some (.ref f11))) (l11:K.lookup f11=some ⟨oc11,od11,.func (PySem.W.fnOf "_law_under" "_law_under" (aX Bj) (aV Bj) (aC Bj) .none kV11 dc11 pm11 an11 Zk ct11),sl11⟩) (c11:PySem.W.codeIn K Zk "_law_under"=true) (k11:PySem.W.keepIn K (.ref f11)=true)
  (a12:PySem.W.nsIn K mainGlobals "_law_breadth"=some (some (.ref f12))) (l12:K.lookup f12=some ⟨oc12,od12,.func (PySem.W.fnOf "_law_breadth" "_law_breadth" (aX FW) (aV FW) (aC FW) .none kV12 dc12 pm12 an12 Zm ct12),sl12⟩) (c12:PySem.W.codeIn K Zm "_law_breadth"=true) (k12:PySem.W.keepIn K (.ref f12)=true)
  (a13:PySem.W.nsIn K mainGlobals "_law_held"=some (some (.ref f13))) (l13:K.lookup f13=some ⟨oc13,od13,.func (PySem.W.fnOf "_law_held" "_law_held" (aX Bl) (aV Bl) (aC Bl) .none kV13 dc13 pm13 an13 Zn ct13),sl13⟩) (c13:PySem.W.codeIn K Zn "_law_held"=true) (k13:PySem.W.keepIn K (.ref f13)=true)
  (a14:PySem.W.nsIn K mainGlobals "_law_bound_to"=some (some (.ref f14))) (l14:K.lookup f14=some ⟨oc14,od14,.func (PySem.W.fnOf "_law_bound_to" "_law_bound_to" (aX Bm) (aV Bm) (aC Bm) .none kV14 dc14 pm14 an14 Zo ct14),sl14⟩) (c14:PySem.W.codeIn K Zo "_law_bound_to"=true) (k14:PySem.W.keepIn K (.ref f14)=true)
  (a15:PySem.W.nsIn K mainGlobals "_law_why"=some (some (.ref f15))) (l15:K.lookup f15=some ⟨oc15,od15,.func (PySem.W.fnOf "_law_why" "_law_why" (aX Gd) (aV Gd) (aC Gd) .none kV15 dc15 pm15 an15 Zq ct15),sl15⟩) (c15:PySem.W.codeIn K Zq "_law_why"=true) (k15:PySem.W.keepIn K (.ref f15)=true)
  (a16:PySem.W.nsIn K mainGlobals "_law_fall"=some (some (.ref f16))) (l16:K.lookup f16=some ⟨oc16,od16,.func (PySem.W.fnOf "_law_fall" "_law_fall" (aX Gb) (aV Gb) (aC Gb) .none kV16 dc16 pm16 an16 Zr ct16),sl16⟩) (c16:PySem.W.codeIn K Zr "_law_fall"=true) (k16:PySem.W.keepIn K (.ref f16)=true)
  (a17:PySem.W.nsIn K mainGlobals "_law_new"=some (some (.ref f17))) (l17:K.lookup f17=some ⟨oc17,od17,.func (PySem.W.fnOf "_law_new" "_law_new" (aX sNew) (aV sNew) (aC sNew) .none kV17 dc17 pm17 an17 Zt ct17),sl17⟩) (c17:PySem.W.codeIn K Zt "_law_new"=true) (k17:PySem.W.keepIn K (.ref f17)=true)
  (a18:PySem.W.nsIn K mainGlobals "_law_do"=some (some (.ref f18))) (l18:K.lookup f18=some ⟨oc18,od18,.func (PySem.W.fnOf "_law_do" "_law_do" (aX Vo) (aV Vo) (aC Vo) .none kV18 dc18 pm18 an18 Zu ct18),sl18⟩) (c18:PySem.W.codeIn K Zu "_law_do"=true) (k18:PySem.W.keepIn K (.ref f18)=true)
  (a19:PySem.W.nsIn K mainGlobals "_law_pools"=some (some (.ref f19))) (l19:K.lookup f19=some ⟨oc19,od19,.func (PySem.W.fnOf "_law_pools" "_law_pools" (aX qd) (aV qd) (aC qd) .none kV19 dc19 pm19 an19 Zv ct19),sl19⟩) (c19:PySem.W.codeIn K Zv "_law_pools"=true) (k19:PySem.W.keepIn K (.ref f19)=true)
  (a20:PySem.W.nsIn K mainGlobals "_law_lord_for"=some (some (.ref f20))) (l20:K.lookup f20=some ⟨oc20,od20,.func (PySem.W.fnOf "_law_lord_for" "_law_lord_for" (aX Uj) (aV Uj) (aC Uj) .none kV20 dc20 pm20 an20 Zw ct20),sl20⟩) (c20:PySem.W.codeIn K Zw "_law_lord_for"=true) (k20:PySem.W.keepIn K (.ref f20)=true)
  (a21:PySem.W.nsIn K mainGlobals "_law_row"=some (some (.ref f21))) (l21:K.lookup f21=some ⟨oc21,od21,.func (PySem.W.fnOf "_law_row" "_law_row" (aX yR) (aV yR) (aC yR) .none kV21 dc21 pm21 an21 Zx ct21),sl21⟩) (c21:PySem.W.codeIn K Zx "_law_row"=true) (k21:PySem.W.keepIn K (.ref f21)=true)
  (a22:PySem.W.nsIn K mainGlobals "_law_chain"=some (some (.ref f22))) (l22:K.lookup f22=some ⟨oc22,od22,.func (PySem.W.fnOf "_law_chain" "_law_chain" (aX FZ) (aV FZ) (aC FZ) .none kV22 dc22 pm22 an22 Zy ct22),sl22⟩) (c22:PySem.W.codeIn K Zy "_law_chain"=true) (k22:PySem.W.keepIn K (.ref f22)=true)
  (a23:PySem.W.nsIn K mainGlobals "_law_estate_is"=some (some (.ref f23))) (l23:K.lookup f23=some ⟨oc23,od23,.func (PySem.W.fnOf "_law_estate_is" "_law_estate_is" (aX Vp) (aV Vp) (aC Vp) .none kV23 dc23 pm23 an23 Zz ct23),sl23⟩) (c23:PySem.W.codeIn K Zz "_law_estate_is"=true) (k23:PySem.W.keepIn K (.ref f23)=true)
  (a24:PySem.W.nsIn K mainGlobals "_law_land_is"=some (some (.ref f24))) (l24:K.lookup f24=some ⟨oc24,od24,.func (PySem.W.fnOf "_law_land_is" "_law_land_is" (aX Ny) (aV Ny) (aC Ny) .none kV24 dc24 pm24 an24 ZC ct24),sl24⟩) (c24:PySem.W.codeIn K ZC "_law_land_is"=true) (k24:PySem.W.keepIn K (.ref f24)=true)
  (a25:PySem.W.nsIn K mainGlobals "_law_land_do"=some (some (.ref f25))) (l25:K.lookup f25=some ⟨oc25,od25,.func (PySem.W.fnOf "_law_land_do" "_law_land_do" (aX Gg) (aV Gg) (aC Gg) .none kV25 dc25 pm25 an25 ZD ct25),sl25⟩) (c25:PySem.W.codeIn K ZD "_law_land_do"=true) (k25:PySem.W.keepIn K (.ref f25)=true)
  (a26:PySem.W.nsIn K mainGlobals "_law_some_deed"=some (some (.ref f26))) (l26:K.lookup f26=some ⟨oc26,od26,.func (PySem.W.fnOf "_law_some_deed" "_law_some_deed" (aX tH) (aV tH) (aC tH) .none kV26 dc26 pm26 an26 ZF ct26),sl26⟩) (c26:PySem.W.codeIn K ZF "_law_some_deed"=true) (k26:PySem.W.keepIn K (.ref f26)=true)
  (a27:PySem.W.nsIn K mainGlobals "_law_steered"=some (some (.ref f27))) (l27:K.lookup f27=some ⟨oc27,od27,.func (PySem.W.fnOf "_law_steered" "_law_steered" (aX yS) (aV yS) (aC yS) .none kV27 dc27 pm27 an27 ZG ct27),sl27⟩) (c27:PySem.W.codeIn K ZG "_law_steered"=true) (k27:PySem.W.keepIn K (.ref f27)=true)
  (a28:PySem.W.nsIn K mainGlobals "_law_let_by"=some (some (.ref f28))) (l28:K.lookup f28=some ⟨oc28,od28,.func (PySem.W.fnOf "_law_let_by" "_law_let_by" (aX Ge) (aV Ge) (aC Ge) .none kV28 dc28 pm28 an28 ZJ ct28),sl28⟩) (c28:PySem.W.codeIn K ZJ "_law_let_by"=true) (k28:PySem.W.keepIn K (.ref f28)=true)
  (a29:PySem.W.nsIn K mainGlobals "_law_played"=some (some (.ref f29))) (l29:K.lookup f29=some ⟨oc29,od29,.func (PySem.W.fnOf "_law_played" "_law_played" (aX Vs) (aV Vs) (aC Vs) .none kV29 dc29 pm29 an29 ZK ct29),sl29⟩) (c29:PySem.W.codeIn K ZK "_law_played"=true) (k29:PySem.W.keepIn K (.ref f29)=true)
  (a30:PySem.W.nsIn K mainGlobals "_law_stranger"=some (some (.ref f30))) (l30:K.lookup f30=some ⟨oc30,od30,.func (PySem.W.fnOf "_law_stranger" "_law_stranger" (aX Bw) (aV Bw) (aC Bw) .none kV30 dc30 pm30 an30 ZL ct30),sl30⟩) (c30:PySem.W.codeIn K ZL "_law_stranger"=true) (k30:PySem.W.keepIn K (.ref f30)=true)
  (a31:PySem.W.nsIn K mainGlobals "_law_question"=some (some (.ref f31))) (l31:K.lookup f31=some ⟨oc31,od31,.func (PySem.W.fnOf "_law_question" "_law_question" (aX Vu) (aV Vu) (aC Vu) .none kV31 dc31 pm31 an31 ZM ct31),sl31⟩) (c31:PySem.W.codeIn K ZM "_law_question"=true) (k31:PySem.W.keepIn K (.ref f31)=true)
  (a32:PySem.W.nsIn K mainGlobals "_law_why_asked"=some (some (.ref f32))) (l32:K.lookup f32=some ⟨oc32,od32,.func (PySem.W.fnOf "_law_why_asked" "_law_why_asked" (aX Vv) (aV Vv) (aC Vv) .none kV32 dc32 pm32 an32 ZP ct32),sl32⟩) (c32:PySem.W.codeIn K ZP "_law_why_asked"=true) (k32:PySem.W.keepIn K (.ref f32)=true)
  (a33:PySem.W.nsIn K mainGlobals "_law_why_land"=some (some (.ref f33))) (l33:K.lookup f33=some ⟨oc33,od33,.func (PySem.W.fnOf "_law_why_land" "_law_why_land" (aX Vw) (aV Vw) (aC Vw) .none kV33 dc33 pm33 an33 ZQ ct33),sl33⟩) (c33:PySem.W.codeIn K ZQ "_law_why_land"=true) (k33:PySem.W.keepIn K (.ref f33)=true)
  (a34:PySem.W.nsIn K mainGlobals "law"=some (some (.ref f34))) (l34:K.lookup f34=some ⟨oc34,od34,.func (PySem.W.fnOf "law" "law" (aX wM) (aV wM) (aC wM) .none ZR ZS ZV Zi V4 ZW),sl34⟩) (c34:PySem.W.codeIn K V4 "law"=true) (k34:PySem.W.keepIn K (.ref f34)=true)
  (q1:PySem.W.nsIn K mainGlobals "CROWN"=some (some (.str "" tC)))
  (q2:PySem.W.nsIn K mainGlobals "BOUNDS"=some (some (.ref aB)))
  (q3:PySem.W.nsIn K mainGlobals "Land"=some (some (.ref C)))
  (q4:PySem.W.nsIn K mainGlobals "LandError"=some (some (.ref L_)))
  (q5:PySem.W.nsIn K mainGlobals "NoEstate"=some (some (.ref zc)))
  (q6:PySem.W.nsIn K mainGlobals "NoLand"=some (some (.ref BL)))
  (q7:PySem.W.nsIn K mainGlobals "NoMan"=some (some (.ref NM_)))
  (q8:PySem.W.nsIn K mainGlobals "NoForm"=some (some (.ref NF_)))
  (z1:PySem.W.nsIn K mainGlobals "isinstance"=some none)
  (z2:PySem.W.nsIn K mainGlobals "bool"=some none)
  (z3:PySem.W.nsIn K mainGlobals "int"=some none)
  (z4:PySem.W.nsIn K mainGlobals "str"=some none)
  (z5:PySem.W.nsIn K mainGlobals "list"=some none)
  (z6:PySem.W.nsIn K mainGlobals "tuple"=some none)
  (z7:PySem.W.nsIn K mainGlobals "len"=some none)
  (z8:PySem.W.nsIn K mainGlobals "all"=some none)
  (z9:PySem.W.nsIn K mainGlobals "zip"=some none)
  (z10:PySem.W.nsIn K mainGlobals "range"=some none)
  (z11:PySem.W.nsIn K mainGlobals "sorted"=some none)
  (z12:PySem.W.nsIn K mainGlobals "set"=some none)
  (z13:PySem.W.nsIn K mainGlobals "max"=some none)
  (z14:PySem.W.nsIn K mainGlobals "min"=some none)
  (z15:PySem.W.nsIn K mainGlobals "abs"=some none)
  (z16:PySem.W.nsIn K mainGlobals "ValueError"=some none)
  (fa_I:PySem.W.findIn K (.ref C) "__init__"=some (some (.ref f_I)))
  (la_I:K.lookup f_I=some ⟨oc_I,od_I,.func (PySem.W.fnOf "__init__" "Land.__init__" (aX rZ) (aV rZ) (aC rZ) .none kV_I dc_I pm_I an_I cd_I ct_I),sl_I⟩)
  (ca_I:PySem.W.codeIn K cd_I "Land.__init__"=true)
  (ka_I:PySem.W.keepIn K (.ref f_I)=true)
  (ia_I:PySem.W.isFn K (.ref f_I)=true)
  (fa_Th:PySem.W.findIn K (.ref C) "there"=some (some (.ref Oc)))
  (la_Th:K.lookup Oc=some ⟨a0Y,ZX,.func (PySem.W.fnOf "there" "Land.there" (aX pP) (aV pP) (aC pP) .none a0Z a00 a01 a0a QD a02),a0H⟩)
  (ca_Th:PySem.W.codeIn K QD "Land.there"=true)
  (ka_Th:PySem.W.keepIn K (.ref Oc)=true)
  (ia_Th:PySem.W.isFn K (.ref Oc)=true)
  (fa_Es:PySem.W.findIn K (.ref C) "estates"=some (some (.ref Od)))
  (la_Es:K.lookup Od=some ⟨a03,a0b,.func (PySem.W.fnOf "estates" "Land.estates" (aX iZ) (aV iZ) (aC iZ) .none a04 a05 a06 a0c QF a07),a0I⟩)
  (ca_Es:PySem.W.codeIn K QF "Land.estates"=true)
  (ka_Es:PySem.W.keepIn K (.ref Od)=true)
  (ia_Es:PySem.W.isFn K (.ref Od)=true)
  (fa_Ho:PySem.W.findIn K (.ref C) "holder"=some (some (.ref Oe)))
  (la_Ho:K.lookup Oe=some ⟨a08,a0d,.func (PySem.W.fnOf "holder" "Land.holder" (aX jO) (aV jO) (aC jO) .none a09 a1a a1b a0e QG a1c),a0J⟩)
  (ca_Ho:PySem.W.codeIn K QG "Land.holder"=true)
  (ka_Ho:PySem.W.keepIn K (.ref Oe)=true)
  (ia_Ho:PySem.W.isFn K (.ref Oe)=true)
  (fa_Lo:PySem.W.findIn K (.ref C) "lord"=some (some (.ref Og)))
  (la_Lo:K.lookup Og=some ⟨a1d,a0f,.func (PySem.W.fnOf "lord" "Land.lord" (aX sE) (aV sE) (aC sE) .none a1e a1f a1g a0g QH a1h),a0K⟩)
  (ca_Lo:PySem.W.codeIn K QH "Land.lord"=true)
  (ka_Lo:PySem.W.keepIn K (.ref Og)=true)
  (ia_Lo:PySem.W.isFn K (.ref Og)=true)
  (fa_Ow:PySem.W.findIn K (.ref C) "own"=some (some (.ref Oh)))
  (la_Ow:K.lookup Oh=some ⟨a1i,a0h,.func (PySem.W.fnOf "own" "Land.own" (aX Ai) (aV Ai) (aC Ai) .none a1j a1k a1l a0i QJ a1m),a0L⟩)
  (ca_Ow:PySem.W.codeIn K QJ "Land.own"=true)
  (ka_Ow:PySem.W.keepIn K (.ref Oh)=true)
  (ia_Ow:PySem.W.isFn K (.ref Oh)=true)
  (fa_Br:PySem.W.findIn K (.ref C) "breadth"=some (some (.ref Oi)))
  (la_Br:K.lookup Oi=some ⟨a1n,a0j,.func (PySem.W.fnOf "breadth" "Land.breadth" (aX j8) (aV j8) (aC j8) .none a1o a1p a1q a0k QK a1r),a0M⟩)
  (ca_Br:PySem.W.codeIn K QK "Land.breadth"=true)
  (ka_Br:PySem.W.keepIn K (.ref Oi)=true)
  (ia_Br:PySem.W.isFn K (.ref Oi)=true)
  (fa_Se:PySem.W.findIn K (.ref C) "service"=some (some (.ref Oj)))
  (la_Se:K.lookup Oj=some ⟨a1s,a0l,.func (PySem.W.fnOf "service" "Land.service" (aX j9) (aV j9) (aC j9) .none a1t a1u a1v a0m QL a1w),a0N⟩)
  (ca_Se:PySem.W.codeIn K QL "Land.service"=true)
  (ka_Se:PySem.W.keepIn K (.ref Oj)=true)
  (ia_Se:PySem.W.isFn K (.ref Oj)=true)
  (fa_Ch:PySem.W.findIn K (.ref C) "chain"=some (some (.ref Ol)))
  (la_Ch:K.lookup Ol=some ⟨a1x,a0n,.func (PySem.W.fnOf "chain" "Land.chain" (aX n6) (aV n6) (aC n6) .none a1y a1z a1A a0o QM a1B),a0O⟩)
  (ca_Ch:PySem.W.codeIn K QM "Land.chain"=true)
  (ka_Ch:PySem.W.keepIn K (.ref Ol)=true)
  (ia_Ch:PySem.W.isFn K (.ref Ol)=true)
  (fa_He:PySem.W.findIn K (.ref C) "held"=some (some (.ref Om)))
  (la_He:K.lookup Om=some ⟨a1C,a0p,.func (PySem.W.fnOf "held" "Land.held" (aX sG) (aV sG) (aC sG) .none a1D a1E a1F a0q QS a1G),a0P⟩)
  (ca_He:PySem.W.codeIn K QS "Land.held"=true)
  (ka_He:PySem.W.keepIn K (.ref Om)=true)
  (ia_He:PySem.W.isFn K (.ref Om)=true)
  (fa_Un:PySem.W.findIn K (.ref C) "under"=some (some (.ref Oo)))
  (la_Un:K.lookup Oo=some ⟨a1H,a0r,.func (PySem.W.fnOf "under" "Land.under" (aX lC) (aV lC) (aC lC) .none a1I a1J a1K a0s QT a1L),a0Q⟩)
  (ca_Un:PySem.W.codeIn K QT "Land.under"=true)
  (ka_Un:PySem.W.keepIn K (.ref Oo)=true)
  (ia_Un:PySem.W.isFn K (.ref Oo)=true)
  (fa_Fo:PySem.W.findIn K (.ref C) "folk"=some (some (.ref Oq)))
  (la_Fo:K.lookup Oq=some ⟨a1M,a0t,.func (PySem.W.fnOf "folk" "Land.folk" (aX sH) (aV sH) (aC sH) .none a1N a1O a1P a0u QV a1Q),a0R⟩)
  (ca_Fo:PySem.W.codeIn K QV "Land.folk"=true)
  (ka_Fo:PySem.W.keepIn K (.ref Oq)=true)
  (ia_Fo:PySem.W.isFn K (.ref Oq)=true)
  (fa_Gr:PySem.W.findIn K (.ref C) "grant"=some (some (.ref Ot)))
  (la_Gr:K.lookup Ot=some ⟨a1R,a0v,.func (PySem.W.fnOf "grant" "Land.grant" (aX pQ) (aV pQ) (aC pQ) .none a1S a1T a1U a0w QW a1V),a0S⟩)
  (ca_Gr:PySem.W.codeIn K QW "Land.grant"=true)
  (ka_Gr:PySem.W.keepIn K (.ref Ot)=true)
  (ia_Gr:PySem.W.isFn K (.ref Ot)=true)
  (fa_Pa:PySem.W.findIn K (.ref C) "part_off"=some (some (.ref Ou)))
  (la_Pa:K.lookup Ou=some ⟨a1W,a0x,.func (PySem.W.fnOf "part_off" "Land.part_off" (aX jB) (aV jB) (aC jB) .none a1X a1Y a1Z a0y QX a2a),a0T⟩)
  (ca_Pa:PySem.W.codeIn K QX "Land.part_off"=true)
  (ka_Pa:PySem.W.keepIn K (.ref Ou)=true)
  (ia_Pa:PySem.W.isFn K (.ref Ou)=true)
  (fa_Co:PySem.W.findIn K (.ref C) "convey"=some (some (.ref Ov)))
  (la_Co:K.lookup Ov=some ⟨a2b,a0z,.func (PySem.W.fnOf "convey" "Land.convey" (aX lY) (aV lY) (aC lY) .none a2c a2d a2e a0A QZ a2f),a0U⟩)
  (ca_Co:PySem.W.codeIn K QZ "Land.convey"=true)
  (ka_Co:PySem.W.keepIn K (.ref Ov)=true)
  (ia_Co:PySem.W.isFn K (.ref Ov)=true)
  (fa_Fa:PySem.W.findIn K (.ref C) "fall_back"=some (some (.ref Ow)))
  (la_Fa:K.lookup Ow=some ⟨a2g,a0B,.func (PySem.W.fnOf "fall_back" "Land.fall_back" (aX uU) (aV uU) (aC uU) .none a2h a2i a2j a0C R5 a2k),a0V⟩)
  (ca_Fa:PySem.W.codeIn K R5 "Land.fall_back"=true)
  (ka_Fa:PySem.W.keepIn K (.ref Ow)=true)
  (ia_Fa:PySem.W.isFn K (.ref Ow)=true)
  (fa_Ck:PySem.W.findIn K (.ref C) "check_there"=some (some (.ref Ox)))
  (la_Ck:K.lookup Ox=some ⟨a2l,a0D,.func (PySem.W.fnOf "check_there" "Land.check_there" (aX ni) (aV ni) (aC ni) .none a2m a2n a2o a0E Rf a2p),a0W⟩)
  (ca_Ck:PySem.W.codeIn K Rf "Land.check_there"=true)
  (ka_Ck:PySem.W.keepIn K (.ref Ox)=true)
  (ia_Ck:PySem.W.isFn K (.ref Ox)=true)
  (fa_Ad:PySem.W.findIn K (.ref C) "add_estate"=some (some (.ref Oz)))
  (la_Ad:K.lookup Oz=some ⟨a2q,a0F,.func (PySem.W.fnOf "add_estate" "Land.add_estate" (aX Fl) (aV Fl) (aC Fl) .none a2r a2s a2t a0G Rg a2u),a0X⟩)
  (ca_Ad:PySem.W.codeIn K Rg "Land.add_estate"=true)
  (ka_Ad:PySem.W.keepIn K (.ref Oz)=true)
  (ia_Ad:PySem.W.isFn K (.ref Oz)=true)
  (pg:PySem.W.plainGet K C Str.empty=true)
  (hd:PySem.W.hasDictIn K C=true)
  (po:PySem.W.plainOver K C=true)
  (sa:PySem.W.findIn K (.ref C) "__setattr__"=some (some (.builtin "object.__setattr__")))
  (na1:PySem.W.findIn K (.ref C) "lord_of"=some none)
  (na2:PySem.W.findIn K (.ref C) "holder_of"=some none)
  (na3:PySem.W.findIn K (.ref C) "own_of"=some none)
  (na4:PySem.W.findIn K (.ref C) "service_of"=some none)
  (na5:PySem.W.findIn K (.ref C) "breadth_of"=some none)
  (mk:PySem.W.makesIn K C=true)
  (kpC:PySem.W.keepIn K (.ref C)=true)
  (kB:K.lookup aB=some ⟨.type "dict",none,.dict esB nB,#[]⟩)
  (eB:jM w.params esB.toList [("day",.ref b1_),("acres",.ref b2_),("service",.ref b3_),("bears",.ref b4_),("edge",.ref b5_),("number",.ref b6_),("entry",.ref b7_)])
  (lB:(aB==sysModules)=false)
  (t_b2_:K.lookup b2_=some ⟨.type "tuple",V5,.seq BK a2v,V6⟩)
  (s_b2_:BK.size≤sizeLine)
  (v_b2_:Vals [.int 1,.int 9999] BK.toList)
  (xe:PySem.W.excIn K zc zT "ValueError.__new__"=true)
  (xe1:PySem.W.findIn K (.ref zc) "__getattribute__"=some (some (.builtin "BaseException.__getattribute__")))
  (xe2:PySem.W.findIn K (.ref zc) "__getattr__"=some none)
  (xe3:PySem.W.clsIn K zc=some cdE)
  (xe4:PySem.W.findIn K (.ref zc) "__class__"=some (some (.builtin "object.__class__")))
  (xe5:PySem.W.specialIn K (.builtin "object.__class__") "__get__"=some (some (.builtin "getset_descriptor.__get__")))
  (xe6:PySem.W.takesIn K (.builtin "object.__class__")=some true)
  (xe7:PySem.W.mroIn K zc (.type "object")=some true)
  (xe8:PySem.W.mroIn K zc (.type "BaseException")=some true)
  (xme:PySem.W.exmOne K (.ref zc) (.ref L_)=some true)
  (xn:PySem.W.excIn K BL zT "ValueError.__new__"=true)
  (xn1:PySem.W.findIn K (.ref BL) "__getattribute__"=some (some (.builtin "BaseException.__getattribute__")))
  (xn2:PySem.W.findIn K (.ref BL) "__getattr__"=some none)
  (xn3:PySem.W.clsIn K BL=some cdN)
  (xn4:PySem.W.findIn K (.ref BL) "__class__"=some (some (.builtin "object.__class__")))
  (xn5:PySem.W.specialIn K (.builtin "object.__class__") "__get__"=some (some (.builtin "getset_descriptor.__get__")))
  (xn6:PySem.W.takesIn K (.builtin "object.__class__")=some true)
  (xn7:PySem.W.mroIn K BL (.type "object")=some true)
  (xn8:PySem.W.mroIn K BL (.type "BaseException")=some true)
  (xmn:PySem.W.exmOne K (.ref BL) (.ref L_)=some true)
  (y0:PySem.W.kitOne K (.ref zc) (.type "ValueError")=some true)
  (y1:PySem.W.kitOne K (.ref zc) (.ref zc)=some true)
  (y2:PySem.W.kitOne K (.ref zc) (.ref NM_)=some false)
  (y3:PySem.W.kitOne K (.ref zc) (.ref BL)=some false)
  (y4:PySem.W.kitOne K (.ref BL) (.ref BL)=some true)
  (y5:PySem.W.kitOne K (.ref BL) (.ref zc)=some false)
  (y6:PySem.W.kitOne K (.ref BL) (.ref NF_)=some false) :
  ∃ fd:FuncData,(∀ (s:Shared) (v:Value),BindsTo s fd ⟨[v],[]⟩ [("_law_script",v)])∧∀ base:Heap,K.In base→base.Ns mainGlobals mg→aL l.prog w K mg base cu 8 fa fd ["_law_script"] (DN K):=by
 have e:=hfa.symm.trans (PySem.W.mg_of X G a34)
 cases e
 have F1:=bG (st:=sU) l1 c1 k1
 have M1:Ms K mg "fits" f1 _ _:=⟨F1.binds (ps:=["sort", "piece"]) fun _ _ _ _ _ _=>cF fun _=>cF fun _=>iG rfl,k1,PySem.W.mg_of X G a1⟩
 have F2:=bG (st:=Ay) l2 c2 k2
 have M2:Ms K mg "check_acres" f2 _ _:=⟨F2.binds (ps:=["acres"]) fun _ _ _ _ _ _=>cF fun _=>iG rfl,k2,PySem.W.mg_of X G a2⟩
 have F3:=bG (st:=uZ) l3 c3 k3
 have M3:Ms K mg "part" f3 _ _:=⟨F3.binds (ps:=["top", "bottom"]) fun _ _ _ _ _ _=>cF fun _=>cF fun _=>iG rfl,k3,PySem.W.mg_of X G a3⟩
 have F4:=bG (st:=pX) l4 c4 k4
 have M4:Ms K mg "minus" f4 _ _:=⟨F4.binds (ps:=["a", "b"]) fun _ _ _ _ _ _=>cF fun _=>cF fun _=>iG rfl,k4,PySem.W.mg_of X G a4⟩
 have F5:=bG (st:=Ft) l5 c5 k5
 have M5:Ms K mg "common_measure" f5 _ _:=⟨F5.binds (ps:=["a", "b"]) fun _ _ _ _ _ _=>cF fun _=>cF fun _=>iG rfl,k5,PySem.W.mg_of X G a5⟩
 have F6:=bG (st:=v7) l6 c6 k6
 have M6:Ms K mg "_law_feed" f6 _ _:=⟨F6.binds (ps:=["_law_script", "_law_many"]) fun _ _ _ _ _ _=>cF fun _=>cF fun _=>iG rfl,k6,PySem.W.mg_of X G a6⟩
 have F7:=bG (st:=qu) l7 c7 k7
 have M7:Ms K mg "_law_same" f7 _ _:=⟨F7.binds (ps:=["_law_found", "_law_due"]) fun _ _ _ _ _ _=>cF fun _=>cF fun _=>iG rfl,k7,PySem.W.mg_of X G a7⟩
 have F8:=bG (st:=Fv) l8 c8 k8
 have M8:Ms K mg "_law_low" f8 _ _:=⟨F8.binds (ps:=["_law_top", "_law_bottom"]) fun _ _ _ _ _ _=>cF fun _=>cF fun _=>iG rfl,k8,PySem.W.mg_of X G a8⟩
 have F9:=bG (st:=nG) l9 c9 k9
 have M9:Ms K mg "_law_names" f9 _ _:=⟨F9.binds (ps:=["_law_d", "_law_many"]) fun _ _ _ _ _ _=>cF fun _=>cF fun _=>iG rfl,k9,PySem.W.mg_of X G a9⟩
 have F10:=bG (st:=qw) l10 c10 k10
 have NK:Ms K mg "_law_book" f10 _ _:=⟨F10.binds (ps:=["_law_acres"]) fun _ _ _ _ _ _=>cF fun _=>iG rfl,k10,PySem.W.mg_of X G a10⟩
 have F11:=bG (st:=Bj) l11 c11 k11
 have M11:Ms K mg "_law_under" f11 _ _:=⟨F11.binds (ps:=["_law_book_here", "_law_estate"]) fun _ _ _ _ _ _=>cF fun _=>cF fun _=>iG rfl,k11,PySem.W.mg_of X G a11⟩
 have F12:=bG (st:=FW) l12 c12 k12
 have Bq:Ms K mg "_law_breadth" f12 _ _:=⟨F12.binds (ps:=["_law_book_here", "_law_estate"]) fun _ _ _ _ _ _=>cF fun _=>cF fun _=>iG rfl,k12,PySem.W.mg_of X G a12⟩
 have F13:=bG (st:=Bl) l13 c13 k13
 have M13:Ms K mg "_law_held" f13 _ _:=⟨F13.binds (ps:=["_law_book_here", "_law_man"]) fun _ _ _ _ _ _=>cF fun _=>cF fun _=>iG rfl,k13,PySem.W.mg_of X G a13⟩
 have F14:=bG (st:=Bm) l14 c14 k14
 have M14:Ms K mg "_law_bound_to" f14 _ _:=⟨F14.binds (ps:=["_law_book_here", "_law_man"]) fun _ _ _ _ _ _=>cF fun _=>cF fun _=>iG rfl,k14,PySem.W.mg_of X G a14⟩
 have F15:=bG (st:=Gd) l15 c15 k15
 have M15:Ms K mg "_law_why" f15 _ _:=⟨F15.binds (ps:=["_law_book_here", "_law_row_here"]) fun _ _ _ _ _ _=>cF fun _=>cF fun _=>iG rfl,k15,PySem.W.mg_of X G a15⟩
 have F16:=bG (st:=Gb) l16 c16 k16
 have M16:Ms K mg "_law_fall" f16 _ _:=⟨F16.binds (ps:=["_law_book_here", "_law_estate"]) fun _ _ _ _ _ _=>cF fun _=>cF fun _=>iG rfl,k16,PySem.W.mg_of X G a16⟩
 have F17:=bG (st:=sNew) l17 c17 k17
 have M17:Ms K mg "_law_new" f17 _ _:=⟨F17.binds (ps:=["_law_book_here", "_law_row_here", "_law_lord", "_law_due"]) fun _ _ _ _ _ _=>cF fun _=>cF fun _=>cF fun _=>cF fun _=>iG rfl,k17,PySem.W.mg_of X G a17⟩
 have F18:=bG (st:=Vo) l18 c18 k18
 have M18:Ms K mg "_law_do" f18 _ _:=⟨F18.binds (ps:=["_law_book_here", "_law_row_here"]) fun _ _ _ _ _ _=>cF fun _=>cF fun _=>iG rfl,k18,PySem.W.mg_of X G a18⟩
 have F19:=bG (st:=qd) l19 c19 k19
 have M19:Ms K mg "_law_pools" f19 _ _:=⟨F19.binds (ps:=["_law_feed_here"]) fun _ _ _ _ _ _=>cF fun _=>iG rfl,k19,PySem.W.mg_of X G a19⟩
 have F20:=bG (st:=Uj) l20 c20 k20
 have M20:Ms K mg "_law_lord_for" f20 _ _:=⟨F20.binds (ps:=["_law_book_here", "_law_men", "_law_man", "_law_number"]) fun _ _ _ _ _ _=>cF fun _=>cF fun _=>cF fun _=>cF fun _=>iG rfl,k20,PySem.W.mg_of X G a20⟩
 have F21:=bG (st:=yR) l21 c21 k21
 have M21:Ms K mg "_law_row" f21 _ _:=⟨F21.binds (ps:=["_law_book_here", "_law_pools_here", "_law_d", "_law_day"]) fun _ _ _ _ _ _=>cF fun _=>cF fun _=>cF fun _=>cF fun _=>iG rfl,k21,PySem.W.mg_of X G a21⟩
 have F22:=bG (st:=FZ) l22 c22 k22
 have M22:Ms K mg "_law_chain" f22 _ _:=⟨F22.binds (ps:=["_law_book_here", "_law_estate"]) fun _ _ _ _ _ _=>cF fun _=>cF fun _=>iG rfl,k22,PySem.W.mg_of X G a22⟩
 have F23:=bG (st:=Vp) l23 c23 k23
 have M23:Ms K mg "_law_estate_is" f23 _ _:=⟨F23.binds (ps:=["_law_land", "_law_book_here", "_law_estate"]) fun _ _ _ _ _ _=>cF fun _=>cF fun _=>cF fun _=>iG rfl,k23,PySem.W.mg_of X G a23⟩
 have F24:=bG (st:=Ny) l24 c24 k24
 have M24:Ms K mg "_law_land_is" f24 _ _:=⟨F24.binds (ps:=["_law_land", "_law_book_here"]) fun _ _ _ _ _ _=>cF fun _=>cF fun _=>iG rfl,k24,PySem.W.mg_of X G a24⟩
 have F25:=bG (st:=Gg) l25 c25 k25
 have M25:Ms K mg "_law_land_do" f25 _ _:=⟨F25.binds (ps:=["_law_land", "_law_row_here"]) fun _ _ _ _ _ _=>cF fun _=>cF fun _=>iG rfl,k25,PySem.W.mg_of X G a25⟩
 have F26:=bG (st:=tH) l26 c26 k26
 have M26:Ms K mg "_law_some_deed" f26 _ _:=⟨F26.binds (ps:=["_law_book_here", "_law_pools_here", "_law_d"]) fun _ _ _ _ _ _=>cF fun _=>cF fun _=>cF fun _=>iG rfl,k26,PySem.W.mg_of X G a26⟩
 have F27:=bG (st:=yS) l27 c27 k27
 have M27:Ms K mg "_law_steered" f27 _ _:=⟨F27.binds (ps:=["_law_book_here", "_law_pools_here", "_law_d", "_law_kinds"]) fun _ _ _ _ _ _=>cF fun _=>cF fun _=>cF fun _=>cF fun _=>iG rfl,k27,PySem.W.mg_of X G a27⟩
 have F28:=bG (st:=Ge) l28 c28 k28
 have M28:Ms K mg "_law_let_by" f28 _ _:=⟨F28.binds (ps:=["_law_book_here", "_law_row_here"]) fun _ _ _ _ _ _=>cF fun _=>cF fun _=>iG rfl,k28,PySem.W.mg_of X G a28⟩
 have F29:=bG (st:=Vs) l29 c29 k29
 have M29:Ms K mg "_law_played" f29 _ _:=⟨F29.binds (ps:=["_law_land", "_law_book_here", "_law_pools_here", "_law_feed_here", "_law_at", "_law_many", "_law_kinds"]) fun _ _ _ _ _ _=>cF fun _=>cF fun _=>cF fun _=>cF fun _=>cF fun _=>cF fun _=>cF fun _=>iG rfl,k29,PySem.W.mg_of X G a29⟩
 have F30:=bG (st:=Bw) l30 c30 k30
 have M30:Ms K mg "_law_stranger" f30 _ _:=⟨F30.binds (ps:=["_law_names_here"]) fun _ _ _ _ _ _=>cF fun _=>iG rfl,k30,PySem.W.mg_of X G a30⟩
 have F31:=bG (st:=Vu) l31 c31 k31
 have M31:Ms K mg "_law_question" f31 _ _:=⟨F31.binds (ps:=["_law_land", "_law_which", "_law_estate"]) fun _ _ _ _ _ _=>cF fun _=>cF fun _=>cF fun _=>iG rfl,k31,PySem.W.mg_of X G a31⟩
 have F32:=bG (st:=Vv) l32 c32 k32
 have M32:Ms K mg "_law_why_asked" f32 _ _:=⟨F32.binds (ps:=["_law_land", "_law_which", "_law_estate"]) fun _ _ _ _ _ _=>cF fun _=>cF fun _=>cF fun _=>iG rfl,k32,PySem.W.mg_of X G a32⟩
 have F33:=bG (st:=Vw) l33 c33 k33
 have M33:Ms K mg "_law_why_land" f33 _ _:=⟨F33.binds (ps:=["_law_acres"]) fun _ _ _ _ _ _=>cF fun _=>iG rfl,k33,PySem.W.mg_of X G a33⟩
 have F34:=bG (st:=wM) l34 c34 k34
 have DP:=PySem.W.mg_of X G q1
 have Kv:=PySem.W.mg_of X G q2
 have Kw:=PySem.W.mg_of X G q3
 have yV:=PySem.W.mg_of X G q4
 have tL:=PySem.W.mg_of X G q5
 have yW:=PySem.W.mg_of X G q6
 have OD:=PySem.W.mg_of X G q7
 have Ky:=PySem.W.mg_of X G q8
 have jR:=PySem.W.mg_none_of X G z1
 have V7:=PySem.W.mg_none_of X G z2
 have Rh:=PySem.W.mg_none_of X G z3
 have a2w:=PySem.W.mg_none_of X G z4
 have BP:=PySem.W.mg_none_of X G z5
 have OJ:=PySem.W.mg_none_of X G z6
 have tM:=PySem.W.mg_none_of X G z7
 have a2x:=PySem.W.mg_none_of X G z8
 have a2y:=PySem.W.mg_none_of X G z9
 have qY:=PySem.W.mg_none_of X G z10
 have gF:=PySem.W.mg_none_of X G z11
 have a2z:=PySem.W.mg_none_of X G z12
 have Ri:=PySem.W.mg_none_of X G z13
 have a2A:=PySem.W.mg_none_of X G z14
 have Rj:=PySem.W.mg_none_of X G z15
 have wN:=PySem.W.mg_none_of X G z16
 refine ⟨PySem.W.fnOf "law" "law" (aX wM) (aV wM) (aC wM) .none ZR ZS ZV Zi V4 ZW,fun s v=>.of_eq rfl,fun base _ _=>?_⟩
 have ms:MgS mg:=⟨jR,V7,Rh,a2w,BP,OJ,tM,a2x,a2y⟩
 have T:cX K C:=⟨⟨pg,hd,po,sa⟩,na1,na2,na3,na4,na5⟩
 have mo:Nj K w.params mg:=⟨⟨aB,b1_,b2_,b3_,b4_,b5_,b6_,b7_,Kv,⟨⟨_,_,kB,eB⟩,lB⟩,V3 t_b2_ s_b2_ v_b2_⟩,⟨tC,DP⟩⟩
 have F_I:=bG (st:=rZ) la_I ca_I ka_I
 have b_I:=F_I.binds (ps:=["self", "acres"]) fun _ _ _ _ _ _=>cF fun _=>cF fun _=>iG rfl
 have F_Th:=bG (st:=pP) la_Th ca_Th ka_Th
 have P0:=F_Th.binds (ps:=["self", "estate"]) fun _ _ _ _ _ _=>cF fun _=>cF fun _=>iG rfl
 have F_Es:=bG (st:=iZ) la_Es ca_Es ka_Es
 have b_Es:=F_Es.binds (ps:=["self"]) fun _ _ _ _ _ _=>cF fun _=>iG rfl
 have V8:=bG (st:=jO) la_Ho ca_Ho ka_Ho
 have b_Ho:=V8.binds (ps:=["self", "estate"]) fun _ _ _ _ _ _=>cF fun _=>cF fun _=>iG rfl
 have V9:=bG (st:=sE) la_Lo ca_Lo ka_Lo
 have b_Lo:=V9.binds (ps:=["self", "estate"]) fun _ _ _ _ _ _=>cF fun _=>cF fun _=>iG rfl
 have Va:=bG (st:=Ai) la_Ow ca_Ow ka_Ow
 have b_Ow:=Va.binds (ps:=["self", "estate"]) fun _ _ _ _ _ _=>cF fun _=>cF fun _=>iG rfl
 have Vb:=bG (st:=j8) la_Br ca_Br ka_Br
 have b_Br:=Vb.binds (ps:=["self", "estate"]) fun _ _ _ _ _ _=>cF fun _=>cF fun _=>iG rfl
 have Vc:=bG (st:=j9) la_Se ca_Se ka_Se
 have b_Se:=Vc.binds (ps:=["self", "estate"]) fun _ _ _ _ _ _=>cF fun _=>cF fun _=>iG rfl
 have Vd:=bG (st:=n6) la_Ch ca_Ch ka_Ch
 have b_Ch:=Vd.binds (ps:=["self", "estate"]) fun _ _ _ _ _ _=>cF fun _=>cF fun _=>iG rfl
 have F_He:=bG (st:=sG) la_He ca_He ka_He
 have b_He:=F_He.binds (ps:=["self", "man"]) fun _ _ _ _ _ _=>cF fun _=>cF fun _=>iG rfl
 have Ve:=bG (st:=lC) la_Un ca_Un ka_Un
 have Vf:=Ve.binds (ps:=["self", "estate"]) fun _ _ _ _ _ _=>cF fun _=>cF fun _=>iG rfl
 have F_Fo:=bG (st:=sH) la_Fo ca_Fo ka_Fo
 have b_Fo:=F_Fo.binds (ps:=["self"]) fun _ _ _ _ _ _=>cF fun _=>iG rfl
 have F_Gr:=bG (st:=pQ) la_Gr ca_Gr ka_Gr
 have b_Gr:=F_Gr.binds (ps:=["self", "estate", "new", "man", "acres", "service"]) fun _ _ _ _ _ _=>cF fun _=>cF fun _=>cF fun _=>cF fun _=>cF fun _=>cF fun _=>iG rfl
 have F_Pa:=bG (st:=jB) la_Pa ca_Pa ka_Pa
 have b_Pa:=F_Pa.binds (ps:=["self", "estate", "new", "man", "acres"]) fun _ _ _ _ _ _=>cF fun _=>cF fun _=>cF fun _=>cF fun _=>cF fun _=>iG rfl
 have F_Co:=bG (st:=lY) la_Co ca_Co ka_Co
 have b_Co:=F_Co.binds (ps:=["self", "estate", "man"]) fun _ _ _ _ _ _=>cF fun _=>cF fun _=>cF fun _=>iG rfl
 have F_Fa:=bG (st:=uU) la_Fa ca_Fa ka_Fa
 have b_Fa:=F_Fa.binds (ps:=["self", "estate"]) fun _ _ _ _ _ _=>cF fun _=>cF fun _=>iG rfl
 have Vg:=bG (st:=ni) la_Ck ca_Ck ka_Ck
 have oZ:=Vg.binds (ps:=["self", "estate"]) fun _ _ _ _ _ _=>cF fun _=>cF fun _=>iG rfl
 have F_Ad:=bG (st:=Fl) la_Ad ca_Ad ka_Ad
 have b_Ad:=F_Ad.binds (ps:=["self", "name", "lord", "holder", "acres", "service"]) fun _ _ _ _ _ _=>cF fun _=>cF fun _=>cF fun _=>cF fun _=>cF fun _=>cF fun _=>iG rfl
 have G5:=Tc (P:=l.prog) (w:=w) (mg:=mg) (base:=base) F5
 have G3:=Ng (P:=l.prog) (w:=w) (base:=base) F3 Rj G5 M5
 have G4:=Jt (P:=l.prog) (w:=w) (base:=base) F4 G3 M3
 have G1:=Nk (P:=l.prog) (w:=w) (base:=base) F1 mo
 have G2:=Tf (P:=l.prog) (w:=w) (base:=base) F2 G1 M1
 have G_I:=Np (P:=l.prog) (w:=w) (base:=base) T F_I mo G2 M2
 have Pa:=Jg (P:=l.prog) (w:=w) (mg:=mg) (base:=base) T F_Th
 have BR:=Fo (P:=l.prog) (w:=w) (mg:=mg) (base:=base) T Vg Pa ⟨fa_Th,ia_Th,ka_Th⟩ P0
 have G_Ho:=Fp (P:=l.prog) (w:=w) (mg:=mg) (base:=base) T V8 BR ⟨fa_Ck,ia_Ck,ka_Ck⟩ oZ
 have G_Lo:=Mz (P:=l.prog) (w:=w) (mg:=mg) (base:=base) T V9 BR ⟨fa_Ck,ia_Ck,ka_Ck⟩ oZ
 have G_Ow:=T5 (P:=l.prog) (w:=w) (mg:=mg) (base:=base) T Va BR ⟨fa_Ck,ia_Ck,ka_Ck⟩ oZ
 have G_Br:=Ak (P:=l.prog) (w:=w) (mg:=mg) (base:=base) T Vb BR ⟨fa_Ck,ia_Ck,ka_Ck⟩ oZ
 have G_Se:=Al (P:=l.prog) (w:=w) (mg:=mg) (base:=base) T Vc BR ⟨fa_Ck,ia_Ck,ka_Ck⟩ oZ
 have G_Ch:=Ji (P:=l.prog) (w:=w) (mg:=mg) (base:=base) T Vd BR ⟨fa_Ck,ia_Ck,ka_Ck⟩ oZ
 have G_Es:=Ao (P:=l.prog) (w:=w) (base:=base) T DP gF F_Es
 have G_He:=MF (P:=l.prog) (w:=w) (base:=base) T gF F_He
 have Vh:=Jk (P:=l.prog) (w:=w) (base:=base) T gF Ve BR ⟨fa_Ck,ia_Ck,ka_Ck⟩ oZ
 have G_Fo:=Nr (P:=l.prog) (w:=w) (base:=base) T gF F_Fo
 have G_Ad:=T6 (P:=l.prog) (w:=w) (mg:=mg) (base:=base) T F_Ad
 have G_Co:=Fq (P:=l.prog) (w:=w) (mg:=mg) (base:=base) T F_Co
 have G_Gr:=Jm (P:=l.prog) (w:=w) (mg:=mg) (base:=base) T F_Gr G_Ad ⟨fa_Ad,ia_Ad,ka_Ad⟩ b_Ad
 have G_Fa:=MN (P:=l.prog) (w:=w) (mg:=mg) (base:=base) T F_Fa Vh ⟨fa_Un,ia_Un,ka_Un⟩ Vf
 have G_Pa:=Ax (P:=l.prog) (w:=w) (base:=base) T F_Pa G_Ad ⟨fa_Ad,ia_Ad,ka_Ad⟩ b_Ad G3 M3 G4 M4
 have G6:=MP (P:=l.prog) (w:=w) (base:=base) F6 qY tM
 have G7:=Df (P:=l.prog) (w:=w) (base:=base) F7 ms M7 3
 have G8:=Td (P:=l.prog) (w:=w) (base:=base) F8 Rj
 have G9:=Ka (P:=l.prog) (w:=w) (base:=base) F9 tM qY
 have U9:=Nq (P:=l.prog) (w:=w) (mg:=mg) (base:=base) F10
 have NP:=Tv (P:=l.prog) (w:=w) (base:=base) gF F11
 have G13:=Tw (P:=l.prog) (w:=w) (base:=base) gF F13
 have NQ:=TJ (P:=l.prog) (w:=w) (base:=base) F12 NP M11
 have G14:=Tz (P:=l.prog) (w:=w) (base:=base) F14 G13 M13
 have G22:=TQ (P:=l.prog) (w:=w) (mg:=mg) (base:=base) F22
 have G15:=U4 (P:=l.prog) (w:=w) (mg:=mg) (base:=base) F15
 have G28:=U5 (P:=l.prog) (w:=w) (base:=base) F28 G15 M15
 have G16:=Xv (P:=l.prog) (w:=w) (base:=base) F16 NP M11
 have G17:=TX (P:=l.prog) (w:=w) (mg:=mg) (base:=base) F17
 have G18:=XF (P:=l.prog) (w:=w) (base:=base) F18 G17 M17 NQ Bq G8 M8 G16 M16
 have G25:=U6 (P:=l.prog) (w:=w) (base:=base) T F25 G_Gr ⟨fa_Gr,ia_Gr,ka_Gr⟩ b_Gr G_Pa ⟨fa_Pa,ia_Pa,ka_Pa⟩ b_Pa G_Co ⟨fa_Co,ia_Co,ka_Co⟩ b_Co G_Fa ⟨fa_Fa,ia_Fa,ka_Fa⟩ b_Fa
 have G23:=XQ (P:=l.prog) (w:=w) (base:=base) T F23 G_Ho ⟨fa_Ho,ia_Ho,ka_Ho⟩ b_Ho G_Lo ⟨fa_Lo,ia_Lo,ka_Lo⟩ b_Lo G_Ow ⟨fa_Ow,ia_Ow,ka_Ow⟩ b_Ow G_Br ⟨fa_Br,ia_Br,ka_Br⟩ b_Br G_Se ⟨fa_Se,ia_Se,ka_Se⟩ b_Se G_Ch ⟨fa_Ch,ia_Ch,ka_Ch⟩ b_Ch Pa ⟨fa_Th,ia_Th,ka_Th⟩ P0 Vh ⟨fa_Un,ia_Un,ka_Un⟩ Vf NQ Bq G22 M22 NP M11 G7 M7
 have G24:=Yi (P:=l.prog) (w:=w) (base:=base) T F24 ms gF a2z G_Es ⟨fa_Es,ia_Es,ka_Es⟩ b_Es G_Fo ⟨fa_Fo,ia_Fo,ka_Fo⟩ b_Fo G_He ⟨fa_He,ia_He,ka_He⟩ b_He G13 M13 G7 M7 G23 M23
 have G19:=Kc (P:=l.prog) (w:=w) (base:=base) F19 G9 M9
 have G20:=Yt (P:=l.prog) (w:=w) (base:=base) F20 tM G14 M14
 have G21:=Uo (P:=l.prog) (w:=w) (base:=base) F21 gF BP tM Ri a2A G20 M20
 have G26:=O6 (P:=l.prog) (w:=w) (base:=base) F26 gF BP tM G21 M21
 have G27:=Us (P:=l.prog) (w:=w) (base:=base) F27 tM Ri G26 M26
 have G29:=YW (P:=l.prog) (w:=w) (base:=base) F29 qY G27 M27 G28 M28 G25 M25 G18 M18
 have cl:Classes K mg L_ zc BL NM_ NF_:=⟨yV,tL,yW,OD,Ky,xe,xn,⟨xe1,xe2,by rw [xe3];rfl,xe4,xe5,xe6,xe7,xe8⟩,⟨xn1,xn2,by rw [xn3];rfl,xn4,xn5,xn6,xn7,xn8⟩,xme,xmn,y0,y1,y2,y3,y4,y5,y6⟩
 have G_fx:=O7 (P:=l.prog) (w:=w) (base:=base) F1 mo
 have G_cx:=Uv (P:=l.prog) (w:=w) (base:=base) F2 yW xn G_fx M1
 have G_ix:=Ko (P:=l.prog) (w:=w) (base:=base) F_I G_cx M2
 have G_iy:=aL.or (aL.lift (fW l.prog w) G_I) G_ix
 have BW:=Uw (P:=l.prog) (w:=w) (base:=base) T Vg tL xe Pa ⟨fa_Th,ia_Th,ka_Th⟩ P0
 have a2B:=aL.or (aL.lift (fW l.prog w) G_Ho) (Gm (P:=l.prog) (w:=w) (mg:=mg) (base:=base) T V8 BW ⟨fa_Ck,ia_Ck,ka_Ck⟩ oZ)
 have a2C:=aL.or (aL.lift (fW l.prog w) G_Lo) (O8 (P:=l.prog) (w:=w) (mg:=mg) (base:=base) T V9 BW ⟨fa_Ck,ia_Ck,ka_Ck⟩ oZ)
 have a2D:=aL.or (aL.lift (fW l.prog w) G_Ow) (Ux (P:=l.prog) (w:=w) (mg:=mg) (base:=base) T Va BW ⟨fa_Ck,ia_Ck,ka_Ck⟩ oZ)
 have a2E:=aL.or (aL.lift (fW l.prog w) G_Br) (Bx (P:=l.prog) (w:=w) (mg:=mg) (base:=base) T Vb BW ⟨fa_Ck,ia_Ck,ka_Ck⟩ oZ)
 have a2F:=aL.or (aL.lift (fW l.prog w) G_Se) (BJ (P:=l.prog) (w:=w) (mg:=mg) (base:=base) T Vc BW ⟨fa_Ck,ia_Ck,ka_Ck⟩ oZ)
 have a2G:=aL.or (aL.lift (fW l.prog w) G_Ch) (Kq (P:=l.prog) (w:=w) (mg:=mg) (base:=base) T Vd BW ⟨fa_Ck,ia_Ck,ka_Ck⟩ oZ)
 have a2H:=aL.or (aL.lift (fW l.prog w) Vh) (Z1 (P:=l.prog) (w:=w) (mg:=mg) (base:=base) T Ve BW ⟨fa_Ck,ia_Ck,ka_Ck⟩ oZ)
 have G31:=Z4 (P:=l.prog) (w:=w) (mg:=mg) (base:=base) T F31 a2B ⟨fa_Ho,ia_Ho,ka_Ho⟩ b_Ho a2C ⟨fa_Lo,ia_Lo,ka_Lo⟩ b_Lo a2D ⟨fa_Ow,ia_Ow,ka_Ow⟩ b_Ow a2E ⟨fa_Br,ia_Br,ka_Br⟩ b_Br a2F ⟨fa_Se,ia_Se,ka_Se⟩ b_Se a2G ⟨fa_Ch,ia_Ch,ka_Ch⟩ b_Ch a2H ⟨fa_Un,ia_Un,ka_Un⟩ Vf
 have G32:=Z6 (P:=l.prog) (w:=w) (base:=base) F32 jR wN cl G31 M31
 have G33:=Z8 (P:=l.prog) (w:=w) (base:=base) F33 jR cl G_iy ⟨mk,fa_I,ia_I,kpC⟩ Kw b_I
 have G30:=UG (P:=l.prog) (w:=w) (mg:=mg) (base:=base) F30
 exact UJ T F34 qY Rh Kw ⟨mk,fa_I,ia_I,kpC⟩ G6 M6 G19 M19 G_I b_I U9 NK G29 M29 G24 M24 G30 M30 G7 M7 Pa ⟨fa_Th,ia_Th,ka_Th⟩ P0 G32 M32 G33 M33 G_He ⟨fa_He,ia_He,ka_He⟩ b_He
theorem walk {l:PySem.W.OpenLaw}{q:Program}{loose:List Str}{XP:(Str→Option Value)→Heap→Prop}{YP:World→Heap→Prop}{d:DefRec}{K:Params→PySem.W.Frag} (hn:l.most=some 63) (hdf:d.params.defaults=[])
  (hY:∀ (w:World) (h:Heap),YP w h→(K w.params).In h)
  (F:∀ (w:World) (mg:Str→Option Value) (fa:Addr) (h:Heap),(K w.params).In h→h.Ns mainGlobals mg→mg d.name=some (.ref fa) →
   ∃ fd:FuncData,(∀ (s:Shared) (u:Value),BindsTo s fd ⟨[u],[]⟩ [("_law_script",u)])∧∀ base:Heap,(K w.params).In base→base.Ns mainGlobals mg→aL l.prog w (K w.params) mg base cu 8 fa fd ["_law_script"] (DN (K w.params))) :
  PySem.W.WalkO q loose XP YP l.row.toRowW d [] (fun f vs=>PySem.call f vs) :=
 L2.Lq (n:=63) (k:=8) (x:="_law_script") (CX:=fun _=>cu) (sp:=fun w=>DN (K w.params)) hn (by decide) hdf ⟨rfl,by decide,by decide⟩ hY F (fun _ _ a ns hl _ hS=>⟨a,ns,rfl,hS,hl,fun _=>rfl⟩) fun _ _ _ _ _ z=>z
end M
def PySem.W.Fast.tw5409437189414633787:Nat:=0
def PySem.W.Fast.tw11097498414187368445:Nat:=0
def PySem.W.Fast.tw17937529155369634609:Nat:=0
def PySem.W.Fast.tw10111874592630249488:Nat:=0
def PySem.W.Fast.tw1013685823278706941:Nat:=0
def PySem.W.Fast.tw10090498581129851397:Nat:=0
def PySem.W.Fast.tw13550312305361470549:Nat:=0
def PySem.W.Fast.tw4994571798646912267:Nat:=0
def PySem.W.Fast.tw9415332182667752226:Nat:=0
def PySem.W.Fast.tw6714821686491459593:Nat:=0
def PySem.W.Fast.tw10209054721274066826:Nat:=0
def PySem.W.Fast.tw5027562092578665248:Nat:=0
def PySem.W.Fast.tw11362948848585893353:Nat:=0
def PySem.W.Fast.tw12239977289795058676:Nat:=0
def PySem.W.Fast.tw3533869950171492779:Nat:=0
def PySem.W.Fast.tw9087722799424023862:Nat:=0
def PySem.W.Fast.tw12170581280593206568:Nat:=0
def PySem.W.Fast.tw14278236609069850665:Nat:=0
def PySem.W.Fast.tw12772332733492324272:Nat:=0
def PySem.W.Fast.tw8624708126339130176:Nat:=0
def PySem.W.Fast.tw485022513412625938:Nat:=0
def PySem.W.Fast.tw16880386122063990902:Nat:=0
def PySem.W.Fast.tw7899722892430677528:Nat:=0
def PySem.W.Fast.tw866103418798514845:Nat:=0
def PySem.W.Fast.tw15176096484614800431:Nat:=0
def PySem.W.Fast.tw8047206274200411401:Nat:=0
def PySem.W.Fast.tw2740414047390531226:Nat:=0
def PySem.W.Fast.tw17746294440797099721:Nat:=0
def PySem.W.Fast.tw17790101145597366446:Nat:=0
def PySem.W.Fast.tw15148571907305462327:Nat:=0
def PySem.W.Fast.tw2050015900847625936:Nat:=0
def PySem.W.Fast.tw13342556834838290456:Nat:=0
def PySem.W.Fast.tw2975910223198081778:Nat:=0
def PySem.W.Fast.tw4137329242630163946:Nat:=0
def PySem.W.Fast.tw10543132658939484095:Nat:=0
def PySem.W.Fast.tw9907059725046478920:Nat:=0
def PySem.W.Fast.tw15550948252278626898:Nat:=0
def PySem.W.Fast.tw9525308650107706697:Nat:=0
def PySem.W.Fast.tw13684972196537297864:Nat:=0
def PySem.W.Fast.tw16593699454616516479:Nat:=0
def PySem.W.Fast.tw17310260887938712019:Nat:=0
def PySem.W.Fast.tw2316806871349343485:Nat:=0
def PySem.W.Fast.tw16716446444695741915:Nat:=0
def PySem.W.Fast.tw8485948761249912049:Nat:=0
def PySem.W.Fast.tw17211892856134553528:Nat:=0
def PySem.W.Fast.tw15678646543495823668:Nat:=0
def PySem.W.Fast.tw3187619416230511975:Nat:=0
def PySem.W.Fast.tw14271470177598083114:Nat:=0
def PySem.W.Fast.tw12602606254166450943:Nat:=0
def PySem.W.Fast.tw13681173006407034302:Nat:=0
def PySem.W.Fast.tw4362299757756560608:Nat:=0
def PySem.W.Fast.tw11762462522691265245:Nat:=0
def PySem.W.Fast.tw12047799694002654454:Nat:=0
def PySem.W.Fast.tw11217210335384083474:Nat:=0
def PySem.W.Fast.tw12154980657553486928:Nat:=0
def PySem.W.Fast.tw5516715321057193451:Nat:=0
def PySem.W.Fast.tw13300391117034024673:Nat:=0
open PySem PySem.W PyProof.Rows
set_option maxRecDepth 100000 in
set_option maxHeartbeats 0 in
theorem PySem.Challenge.cw_manrent_k10_estates_not_there_holds : PySem.Challenge.rw_manrent_k10_estates_not_there.Holds := by
 w_on;o_law;k_head;(case hw=>w_witness2)
 k_fill
 refine M.walk (l:=PySem.Challenge.rw_manrent_k10_estates_not_there) rfl rfl (fun w h Y=>PySem.W.kIn_of Y) ?F
 case F =>
  intro w mg fa h KX G hmg
  refine' M.all_mk KX G hmg ?a1 ?l1 ?c1 ?k1 ?a2 ?l2 ?c2 ?k2 ?a3 ?l3 ?c3 ?k3 ?a4 ?l4 ?c4 ?k4 ?a5 ?l5 ?c5 ?k5 ?a6 ?l6 ?c6 ?k6 ?a7 ?l7 ?c7 ?k7 ?a8 ?l8 ?c8 ?k8 ?a9 ?l9 ?c9 ?k9 ?a10 ?l10 ?c10 ?k10 ?a11 ?l11 ?c11 ?k11 ?a12 ?l12 ?c12 ?k12 ?a13 ?l13 ?c13 ?k13 ?a14 ?l14 ?c14 ?k14 ?a15 ?l15 ?c15 ?k15 ?a16 ?l16 ?c16 ?k16 ?a17 ?l17 ?c17 ?k17 ?a18 ?l18 ?c18 ?k18 ?a19 ?l19 ?c19 ?k19 ?a20 ?l20 ?c20 ?k20 ?a21 ?l21 ?c21 ?k21 ?a22 ?l22 ?c22 ?k22 ?a23 ?l23 ?c23 ?k23 ?a24 ?l24 ?c24 ?k24 ?a25 ?l25 ?c25 ?k25 ?a26 ?l26 ?c26 ?k26 ?a27 ?l27 ?c27 ?k27 ?a28 ?l28 ?c28 ?k28 ?a29 ?l29 ?c29 ?k29 ?a30 ?l30 ?c30 ?k30 ?a31 ?l31 ?c31 ?k31 ?a32 ?l32 ?c32 ?k32 ?a33 ?l33 ?c33 ?k33 ?a34 ?l34 ?c34 ?k34 ?q1 ?q2 ?q3 ?q4 ?q5 ?q6 ?q7 ?q8 ?z1 ?z2 ?z3 ?z4 ?z5 ?z6 ?z7 ?z8 ?z9 ?z10 ?z11 ?z12 ?z13 ?z14 ?z15 ?z16 ?fa_I ?la_I ?ca_I ?ka_I ?ia_I ?fa_Th ?la_Th ?ca_Th ?ka_Th ?ia_Th ?fa_Es ?la_Es ?ca_Es ?ka_Es ?ia_Es ?fa_Ho ?la_Ho ?ca_Ho ?ka_Ho ?ia_Ho ?fa_Lo ?la_Lo ?ca_Lo ?ka_Lo ?ia_Lo ?fa_Ow ?la_Ow ?ca_Ow ?ka_Ow ?ia_Ow ?fa_Br ?la_Br ?ca_Br ?ka_Br ?ia_Br ?fa_Se ?la_Se ?ca_Se ?ka_Se ?ia_Se ?fa_Ch ?la_Ch ?ca_Ch ?ka_Ch ?ia_Ch ?fa_He ?la_He ?ca_He ?ka_He ?ia_He ?fa_Un ?la_Un ?ca_Un ?ka_Un ?ia_Un ?fa_Fo ?la_Fo ?ca_Fo ?ka_Fo ?ia_Fo ?fa_Gr ?la_Gr ?ca_Gr ?ka_Gr ?ia_Gr ?fa_Pa ?la_Pa ?ca_Pa ?ka_Pa ?ia_Pa ?fa_Co ?la_Co ?ca_Co ?ka_Co ?ia_Co ?fa_Fa ?la_Fa ?ca_Fa ?ka_Fa ?ia_Fa ?fa_Ck ?la_Ck ?ca_Ck ?ka_Ck ?ia_Ck ?fa_Ad ?la_Ad ?ca_Ad ?ka_Ad ?ia_Ad ?pg ?hd ?po ?sa ?na1 ?na2 ?na3 ?na4 ?na5 ?mk ?kpC ?kB ?eB ?lB ?t_b2_ ?s_b2_ ?v_b2_ ?xe ?xe1 ?xe2 ?xe3 ?xe4 ?xe5 ?xe6 ?xe7 ?xe8 ?xme ?xn ?xn1 ?xn2 ?xn3 ?xn4 ?xn5 ?xn6 ?xn7 ?xn8 ?xmn ?y0 ?y1 ?y2 ?y3 ?y4 ?y5 ?y6
  case a1|l1|c1|k1|a2|l2|c2|k2|a3|l3|c3|k3|a4|l4|c4|k4|a5|l5|c5|k5|a6|l6|c6|k6|a7|l7|c7|k7|a8|l8|c8|k8|a9|l9|c9|k9|a10|l10|c10|k10|a11|l11|c11|k11|a12|l12|c12|k12|a13|l13|c13|k13|a14|l14|c14|k14|a15|l15|c15|k15|a16|l16|c16|k16|a17|l17|c17|k17|a18|l18|c18|k18|a19|l19|c19|k19|a20|l20|c20|k20|a21|l21|c21|k21|a22|l22|c22|k22|a23|l23|c23|k23|a24|l24|c24|k24|a25|l25|c25|k25|a26|l26|c26|k26|a27|l27|c27|k27|a28|l28|c28|k28|a29|l29|c29|k29|a30|l30|c30|k30|a31|l31|c31|k31|a32|l32|c32|k32|a33|l33|c33|k33|a34|l34|c34|k34|q1|q2|q3|q4|q5|q6|q7|q8|z1|z2|z3|z4|z5|z6|z7|z8|z9|z10|z11|z12|z13|z14|z15|z16|fa_I|la_I|ca_I|ka_I|ia_I|fa_Th|la_Th|ca_Th|ka_Th|ia_Th|fa_Es|la_Es|ca_Es|ka_Es|ia_Es|fa_Ho|la_Ho|ca_Ho|ka_Ho|ia_Ho|fa_Lo|la_Lo|ca_Lo|ka_Lo|ia_Lo|fa_Ow|la_Ow|ca_Ow|ka_Ow|ia_Ow|fa_Br|la_Br|ca_Br|ka_Br|ia_Br|fa_Se|la_Se|ca_Se|ka_Se|ia_Se|fa_Ch|la_Ch|ca_Ch|ka_Ch|ia_Ch|fa_He|la_He|ca_He|ka_He|ia_He|fa_Un|la_Un|ca_Un|ka_Un|ia_Un|fa_Fo|la_Fo|ca_Fo|ka_Fo|ia_Fo|fa_Gr|la_Gr|ca_Gr|ka_Gr|ia_Gr|fa_Pa|la_Pa|ca_Pa|ka_Pa|ia_Pa|fa_Co|la_Co|ca_Co|ka_Co|ia_Co|fa_Fa|la_Fa|ca_Fa|ka_Fa|ia_Fa|fa_Ck|la_Ck|ca_Ck|ka_Ck|ia_Ck|fa_Ad|la_Ad|ca_Ad|ka_Ad|ia_Ad|pg|hd|po|sa|na1|na2|na3|na4|na5|mk|kpC|kB=>k_is
  (case eB=>exact ⟨⟨⟨_,rfl⟩,rfl,rfl⟩,⟨⟨_,rfl⟩,rfl,rfl⟩,⟨⟨_,rfl⟩,rfl,rfl⟩,⟨⟨_,rfl⟩,rfl,rfl⟩,⟨⟨_,rfl⟩,rfl,rfl⟩,⟨⟨_,rfl⟩,rfl,rfl⟩,⟨⟨_,rfl⟩,rfl,rfl⟩,True.intro⟩)
  (case lB=>rfl)
  case t_b2_=>k_is
  (case s_b2_=>exact M.small (Nat.le_of_ble_eq_true rfl))
  (case v_b2_=>exact .cons ⟨_,rfl⟩ (.cons ⟨_,rfl⟩ (.nil)))
  (case xe=>k_exc)
  case xe1|xe2|xe3|xe4|xe5|xe6|xe7|xe8=>k_is
  (case xme=>kts_exm)
  (case xn=>k_exc)
  case xn1|xn2|xn3|xn4|xn5|xn6|xn7|xn8=>k_is
  (case xmn=>kts_exm)
  case y0|y1|y2|y3|y4|y5|y6=>kit_is
