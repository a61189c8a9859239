import PyProof.Rows.All
import Wide.All
import OpenK.AllK
import Wide.FinOn
import Lean
import PyProof.EqAt
import PyProof.EqKinds
import PyProof.TupleCall
import PyProof.P3Eq
import PyProof.NeData
import KE.KTryDeep
import KE.KTryMore
import KE.KIsAll
import PyProof.NsDelKeeps
import PyProof.ExcArgsOwn
import OpenK.KTop
import PyProof.ExcBaseAll.ValueError
import PyProof.EnumMake
import PyProof.Draws
import KE.KSetDisp
import PyProof.SetRoads
import PyProof.Rows.SortStr
import PyProof.Rows.SortWalk
import PyProof.DictItems
import PyProof.DictValues
import KE.KSortTup
import KE.KItemsList
import KE.KDictOf
import KE.KDictList
import PyProof.ListRange
import PyProof.SetKind
import PyProof.Rows.SetFrom
import PyProof.DictTruth
import PyProof.Rows.SumAny
import KE.RegKIsAll
import KE.RegKTryMore
import PySem.Challenge.RW_manrent_k11_whole_land_by_a_plain_book
set_option Elab.async false
set_option linter.all false
set_option maxRecDepth 100000
namespace L2
open PySem PySem.Spec PyProof.Rows
abbrev Key:=Sum Int Str
def keyIs:Key→Value→Bool
 | .inl k,v=>Value.isInt k v
 | .inr x,v=>Value.isStrOf x v
def keyH (w:World):Key→Int
 | .inl k=>hashInt k
 | .inr x=>hashStr w x
theorem keyIs_shape:∀ {k:Key} {v:Value},keyIs k v = true→(∃ i t,k = Sum.inl i∧v = Value.int i t)∨(∃ x t,k = Sum.inr x∧v = Value.str x t)
 | .inl i,v,h=>by
  obtain ⟨t,e⟩:=Value.isInt_shape (k:=i) (v:=v) h
  exact .inl ⟨i,t,rfl,e⟩
 | .inr x,v,h=>by
  obtain ⟨t,e⟩:=Value.isStrOf_shape (x:=x) (v:=v) h
  exact .inr ⟨x,t,rfl,e⟩
theorem keyIs_int (i:Int) (t:Tok):keyIs (.inl i) (.int i t) = true:=by simp [keyIs,Value.isInt]
theorem keyIs_str (x:Str) (t:Tok):keyIs (.inr x) (.str x t) = true:=by simp [keyIs,Value.isStrOf]
theorem key_ll (a b:Int):decide ((Sum.inl a:Key) = Sum.inl b) = (a == b):=by
 by_cases e:a = b
 ·subst e;simp
 ·have h:¬ (Sum.inl a:Key) = Sum.inl b:=fun q=>e (Sum.inl.inj q)
  rw [decide_eq_false h]
  exact (beq_eq_false_iff_ne.mpr e).symm
theorem key_rr (a b:Str):decide ((Sum.inr a:Key) = Sum.inr b) = decide (a = b):=by
 by_cases e:a = b
 ·subst e;simp
 ·have h:¬ (Sum.inr a:Key) = Sum.inr b:=fun q=>e (Sum.inr.inj q)
  rw [decide_eq_false h,decide_eq_false e]
theorem key_lr (a:Int) (b:Str):decide ((Sum.inl a:Key) = Sum.inr b) = false:=decide_eq_false (fun q=>nomatch q)
theorem key_rl (a:Str) (b:Int):decide ((Sum.inr a:Key) = Sum.inl b) = false:=decide_eq_false (fun q=>nomatch q)
def mixKind (prog:Program) (w:World):PySem.KeyKind prog w Key where
 is:=keyIs
 hash:=keyH w
 inj:=fun v a b ha hb=>by
  rcases keyIs_shape ha with ⟨i,t,rfl,rfl⟩ | ⟨x,t,rfl,rfl⟩
  ·rcases keyIs_shape hb with ⟨j,u,rfl,e⟩ | ⟨y,u,rfl,e⟩
   ·injection e with e1 _;rw [e1]
   ·exact nomatch e
  ·rcases keyIs_shape hb with ⟨j,u,rfl,e⟩ | ⟨y,u,rfl,e⟩
   ·exact nomatch e
   ·injection e with e1 _;rw [e1]
 byValue:=fun k v h=>by
  rcases keyIs_shape h with ⟨i,t,rfl,rfl⟩ | ⟨x,t,rfl,rfl⟩ <;> rfl
 pyHash:=fun hv h=>by
  rcases keyIs_shape hv with ⟨i,t,rfl,rfl⟩ | ⟨x,t,rfl,rfl⟩
  ·exact wpAny_pyHash_int h
  ·exact wpAny_pyHash_str h
 eqBool:=fun hu hv h=>by
  rcases keyIs_shape hu with ⟨i,t,rfl,rfl⟩ | ⟨x,t,rfl,rfl⟩
  ·rcases keyIs_shape hv with ⟨j,u,rfl,rfl⟩ | ⟨y,u,rfl,rfl⟩
   ·rw [key_ll] at h;exact wpAny_eqBool_int h
   ·rw [key_lr] at h;exact SeqAt.EqAt.int_str i t y u _ _ _ _ h
  ·rcases keyIs_shape hv with ⟨j,u,rfl,rfl⟩ | ⟨y,u,rfl,rfl⟩
   ·rw [key_rl] at h;exact SeqAt.EqAt.str_int x t j u _ _ _ _ h
   ·rw [key_rr] at h;exact wpAny_eqBool_str h
 «strs»:=fun k x t v h=>by
  rcases keyIs_shape h with ⟨i,u,rfl,e⟩ | ⟨y,u,rfl,e⟩
  ·exact nomatch e
  ·injection e with e1 _
   subst e1
   cases v <;> rfl
theorem mixKind_int (prog:Program) (w:World) (i:Int) (t:Tok):(mixKind prog w).is (.inl i) (.int i t) = true:=keyIs_int i t
theorem mixKind_str (prog:Program) (w:World) (x:Str) (t:Tok):(mixKind prog w).is (.inr x) (.str x t) = true:=keyIs_str x t
end L2
namespace L2
open PySem PySem.Spec PyProof.Rows
inductive V where
 | non | bl (b:Bool) | int (i:Int) | str (x:Str) | byt (b:Array UInt8) | flt (b:UInt64) | ref (a:Addr) | ty (n:String)
 deriving DecidableEq
def RelV:V→Value→Prop
 | .non,u=>u = Value.none
 | .bl b,u=>u = Value.bool b
 | .int i,u=>∃ t,u = Value.int i t
 | .str x,u=>∃ t,u = Value.str x t
 | .byt b,u=>∃ t,u = Value.bytes b t
 | .flt b,u=>∃ t,u = Value.float b t
 | .ref a,u=>u = Value.ref a
 | .ty n,u=>u = Value.type n
abbrev Vals:List V→List Value→Prop:=Paired RelV
theorem Vals.length {xs:List V} {us:List Value} (r:Vals xs us):xs.length = us.length:=Paired.length r
theorem Vals.get:∀ {xs:List V} {us:List Value} {i:Nat} {x:V},Vals xs us→xs[i]? = some x→∃ u,us[i]? = some u∧RelV x u
 | _,_,_,_,.nil,e=>by simp at e
 | _,_,0,_,.cons r _,e=>by simp at e;subst e;exact ⟨_,rfl,r⟩
 | _,_,i + 1,x,.cons _ t,e=>by
  obtain ⟨u,h1,h2⟩:=Vals.get (i:=i) (x:=x) t (by simpa using e)
  exact ⟨u,by simpa using h1,h2⟩
theorem Vals.append:∀ {xs ys:List V} {us ws:List Value},Vals xs us→Vals ys ws→Vals (xs++ys) (us++ws)
 | _,_,_,_,.nil,s=>s
 | _,_,_,_,.cons r t,s=>.cons r (Vals.append t s)
theorem Vals.take:∀ {xs:List V} {us:List Value} (n:Nat),Vals xs us→Vals (xs.take n) (us.take n)
 | _,_,0,_=>.nil
 | _,_,_ + 1,.nil=>.nil
 | _,_,n + 1,.cons r t=>.cons r (Vals.take n t)
theorem Vals.drop:∀ {xs:List V} {us:List Value} (n:Nat),Vals xs us→Vals (xs.drop n) (us.drop n)
 | _,_,0,r=>r
 | _,_,_ + 1,.nil=>.nil
 | _,_,n + 1,.cons _ t=>Vals.drop n t
theorem Vals.none_of:∀ {xs:List V} {us:List Value} {i:Nat},Vals xs us→xs[i]? = none→us[i]? = none:=fun {xs us i} r e=>by
 have h1:=r.length
 have h2:xs.length≤i:=List.getElem?_eq_none_iff.mp e
 exact List.getElem?_eq_none_iff.mpr (by omega)
def RelO:Option V→Option Value→Prop
 | some v,some u=>RelV v u
 | none,none=>True
 | _,_=>False
def KV {κ:Type}:List (κ×V)→List (κ×Value)→Prop:=Paired fun (p:κ×V) (q:κ×Value)=>p.1 = q.1∧RelV p.2 q.2
def kV:Key→V
 | .inl i=>.int i
 | .inr x=>.str x
inductive HO where
 | lst (xs:List V)
 | tup (xs:List V)
 | dK (kvs:List (Key×V)) | dT (kvs:List (List Key×V))
 | set (S:Int→Bool) (n:Nat)
 | ins (C dx:Addr) (fs:List (Str×V))
 | own (x:Addr)
 | xd (fs:List (Str×V))
 | met (f x:Addr)
 | rng (lo hi:Int)
 | frz (o:Obj) (u:HO)
 | tbl (ps:Array Value)
 | ext (φ:Heap→Prop)
abbrev Hp:=Addr→Option HO
def upd (H:Hp) (a:Addr) (o:HO):Hp:=fun b=>if b = a then some o else H b
theorem upd_same {H:Hp} {a:Addr} {o:HO}:upd H a o a = some o:=by unfold upd;rw [if_pos rfl]
theorem upd_ne {H:Hp} {a b:Addr} {o:HO} (h:b≠a):upd H a o b = H b:=by unfold upd;rw [if_neg h]
theorem ne_of {H:Hp} {a b:Addr} {o u:HO} (h:H a = some o) (h':H b = some u) (d:o≠u):a≠b:=by
 intro e;subst e;rw [h] at h';exact d (Option.some.inj h')
theorem ne_of_none {H:Hp} {a b:Addr} {o:HO} (h:H a = some o) (h':H b = none):a≠b:=by
 intro e;subst e;rw [h] at h';cases h'
section
variable (P:Program) (w:World)
def ObjOk (H:Hp) (h:Heap) (a:Addr):HO→Prop
 | .lst xs=>xs.length≤sizeLine∧∃ (its:List Value) (n:Nat),Vals xs its∧h.get? a = some { cls:=.type "list",data:=.seq its.toArray n }
 | .tup xs=>xs.length≤sizeLine∧∃ its:List Value,Vals xs its∧IsTup h a its.toArray
 | .dK kvs=>kvs.length≤sizeLine∧(a == sysModules) = false∧∃ vs,KV kvs vs∧h.DictOf (mixKind P w) a vs
 | .dT kvs=>kvs.length≤sizeLine∧(a == sysModules) = false∧∃ xs:List (List Key×Addr×Value),
   Paired (fun (p:List Key×V) (q:List Key×Addr×Value)=>p.1 = q.1∧H q.2.1 = some (.tup (p.1.map kV))∧RelV p.2 q.2.2) kvs xs ∧
   ∃ o es ep,h.get? a = some o∧o.ExactDict∧o.data = .dict es ep∧es.toList = xs.map (entryOfKey (tupleKind (mixKind P w)))∧(xs.map (·.1)).Nodup
 | .set S n=>h.SetOf (intKind P w) a S n
 | .ins C dx fs=>H dx = some (.own a)∧fs.length≤1000∧dx≠a∧h.get? a = some (PySem.W.instObj C dx) ∧
   ∃ mA,h.Ns1 dx mA∧(∀ f,RelO (fs.lookup f) (mA f))∧PySem.Within mA (fs.map (·.1))
 | .own _=>∃ o,h.get? a = some o
 | .xd fs=>∃ mA,h.Ns1 a mA∧∀ f,RelO (fs.lookup f) (mA f)
 | .rng lo hi=>∃ t u v,h.get? a = some { cls:=.type "range",data:=.fields #[.int lo t,.int hi u,.int 1 v] }
 | .frz o u=>h.get? a = some o∧ObjOk H h a u
 | .tbl ps=>h.get? a = some { cls:=.none,data:=.fields ps }
 | .met f x=>h.get? a = some (PySem.W.methodObj (.ref f) (.ref x))
 | .ext φ=>φ h∧(∃ o,h.get? a = some o)∧∀ h1 h2:Heap,φ h1→(∀ o,h1.get? a = some o→h2.get? a = some o)→φ h2
def HOk (H:Hp) (h:Heap):Prop:=∀ a o,H a = some o→ObjOk P w H h a o
end
section
variable {P:Program} {w:World} {H H':Hp} {h h':Heap} {a:Addr} {o:HO}
theorem ObjOk.lt (x:ObjOk P w H h a o):a < h.objs.size:=by
 cases o with
 | lst xs=>obtain ⟨_,_,_,_,e⟩:=x;exact Heap.lt_size e
 | tup xs=>obtain ⟨_,_,_,p⟩:=x;exact p.lt
 | dK kvs=>obtain ⟨_,_,_,_,o,_,_,e,_⟩:=x;exact Heap.lt_size e
 | dT kvs=>obtain ⟨_,_,_,_,o,_,_,e,_⟩:=x;exact Heap.lt_size e
 | set S n=>obtain ⟨o,_,_,_,e,_⟩:=x;exact Heap.lt_size e
 | ins C dx fs=>obtain ⟨_,_,_,e,_⟩:=x;exact Heap.lt_size e
 | own y=>obtain ⟨_,e⟩:=x;exact Heap.lt_size e
 | xd fs=>obtain ⟨_,⟨_,_,_,e,_⟩,_⟩:=x;exact Heap.lt_size e
 | rng lo hi=>obtain ⟨_,_,_,e⟩:=x;exact Heap.lt_size e
 | frz ob u=>obtain ⟨e,_⟩:=x;exact Heap.lt_size e
 | tbl ps=>exact Heap.lt_size (show h.get? a = some _ from x)
 | met f y=>exact Heap.lt_size (show h.get? a = some _ from x)
 | ext φ=>obtain ⟨_,⟨_,e⟩,_⟩:=x;exact Heap.lt_size e
theorem Paired.mapP {α β:Type} {F G:α→β→Prop}:∀ {l₁:List α} {l₂:List β},Paired F l₁ l₂→(∀ a b,F a b→G a b)→Paired G l₁ l₂
 | _,_,.nil,_=>.nil
 | _,_,.cons r t,f=>.cons (f _ _ r) (Paired.mapP t f)
theorem ObjOk.stay (x:ObjOk P w H h a o) (k:∀ b u,(b = a∨H b = some (.own a))→h.get? b = some u→h'.get? b = some u)
  (ho:∀ b,H b = some (.own a)→H' b = some (.own a)) (ht:∀ b xs,H b = some (.tup xs)→H' b = some (.tup xs)):ObjOk P w H' h' a o:=by
 induction o with
 | lst xs=>obtain ⟨z,its,n,r,e⟩:=x;exact ⟨z,its,n,r,k _ _ (.inl rfl) e⟩
 | tup xs=>obtain ⟨z,its,r,ob,e,c⟩:=x;exact ⟨z,its,r,ob,k _ _ (.inl rfl) e,c⟩
 | dK kvs=>obtain ⟨z,y,vs,r,ob,es,ep,e,c⟩:=x;exact ⟨z,y,vs,r,ob,es,ep,k _ _ (.inl rfl) e,c⟩
 | dT kvs =>
  obtain ⟨z,y,xs,r,ob,es,ep,e,c⟩:=x
  exact ⟨z,y,xs,Paired.mapP r fun p q z=>⟨z.1,ht _ _ z.2.1,z.2.2⟩,ob,es,ep,k _ _ (.inl rfl) e,c⟩
 | set S n=>obtain ⟨ob,es,ep,t,e,c⟩:=x;exact ⟨ob,es,ep,t,k _ _ (.inl rfl) e,c⟩
 | ins C dx fs =>
  obtain ⟨d,z,ne,e,mA,⟨od,es,ep,e2,c⟩,r⟩:=x
  exact ⟨ho _ d,z,ne,k _ _ (.inl rfl) e,mA,⟨od,es,ep,k _ _ (.inr d) e2,c⟩,r⟩
 | own y=>obtain ⟨ob,e⟩:=x;exact ⟨ob,k _ _ (.inl rfl) e⟩
 | xd fs=>obtain ⟨mA,⟨od,es,ep,e,c⟩,r⟩:=x;exact ⟨mA,⟨od,es,ep,k _ _ (.inl rfl) e,c⟩,r⟩
 | rng lo hi=>obtain ⟨t,u,v,e⟩:=x;exact ⟨t,u,v,k _ _ (.inl rfl) e⟩
 | frz ob u ih=>obtain ⟨e,q⟩:=x;exact ⟨k _ _ (.inl rfl) e,ih q⟩
 | tbl ps =>
  have e:h.get? a = some { cls:=.none,data:=.fields ps }:=x
  show h'.get? a = some { cls:=.none,data:=.fields ps }
  exact k a _ (.inl rfl) e
 | met f y =>
  have e:h.get? a = some (PySem.W.methodObj (.ref f) (.ref y)):=x
  show h'.get? a = some (PySem.W.methodObj (.ref f) (.ref y))
  exact k a _ (.inl rfl) e
 | ext φ=>obtain ⟨p,⟨o,e⟩,st⟩:=x;exact ⟨st _ _ p fun o q=>k _ _ (.inl rfl) q,⟨o,k _ _ (.inl rfl) e⟩,st⟩
theorem HOk.lt (x:HOk P w H h) (e:H a = some o):a < h.objs.size:=(x a o e).lt
theorem HOk.fresh (x:HOk P w H h) (e:h.objs.size≤a):H a = none:=by
 cases q:H a with
 | none=>rfl
 | some u=>exact absurd (Nat.lt_of_lt_of_le (x.lt q) e) (Nat.lt_irrefl _)
theorem HOk.kept (x:HOk P w H h) (k:∀ b u,h.get? b = some u→h'.get? b = some u):HOk P w H h':=fun a o e =>
 (x a o e).stay (fun b u _ q=>k b u q) (fun _ q=>q) fun _ _ q=>q
theorem HOk.laid (x:HOk P w H h) (k:∀ b u,h.get? b = some u→h'.get? b = some u) (hp:h.objs.size≤a) (new:ObjOk P w (upd H a o) h' a o):HOk P w (upd H a o) h':=fun b u e=>by
 have hn:=x.fresh hp
 by_cases hb:b = a
 ·subst hb;rw [upd_same] at e;cases e;exact new
 ·rw [upd_ne hb] at e
  exact (x b u e).stay (fun c v _ q=>k c v q) (fun c q=>by rw [upd_ne (ne_of_none q hn)];exact q) fun c xs q=>by rw [upd_ne (ne_of_none q hn)];exact q
end
def Rd (H:Hp) (a:Addr) (u:HO):Prop:=H a = some u∨∃ o,H a = some (.frz o u)
theorem Rd.ok {P:Program} {w:World} {H:Hp} {h:Heap} {a:Addr} {u:HO} (r:Rd H a u) (x:HOk P w H h):ObjOk P w H h a u:=by
 rcases r with r | ⟨o,r⟩
 ·exact x a u r
 ·obtain ⟨_,q⟩:=x a _ r
  exact q
def Mut:Option HO→Prop
 | some (.lst _)=>True
 | some (.dK _)=>True
 | some (.dT _)=>True
 | some (.set _ _)=>True
 | some (.ins _ _ _)=>True
 | some (.ext _)=>True
 | _=>False
section
variable {P:Program} {w:World} {H:Hp} {h h':Heap} {x e:Addr} {o':HO}
theorem HOk.write (ok:HOk P w H h) (mu:Mut (H x)) (he:e = x∨H e = some (.own x)) (k:∀ b u,b≠e→h.get? b = some u→h'.get? b = some u) (heo:∃ u,h'.get? e = some u)
  (new:ObjOk P w (upd H x o') h' x o'):HOk P w (upd H x o') h':=fun b u q=>by
 have nown:∀ c y,H c = some (.own y)→c≠x:=fun c y r z=>by subst z;rw [r] at mu;exact mu
 have ntup:∀ c xs,H c = some (.tup xs)→c≠x:=fun c xs r z=>by subst z;rw [r] at mu;exact mu
 by_cases hb:b = x
 ·subst hb;rw [upd_same] at q;cases q;exact new
 ·rw [upd_ne hb] at q
  by_cases hbe:b = e
  ·have q':H b = some (.own x):=by
    rcases he with z | z
    ·exact absurd (hbe.trans z) hb
    ·rw [hbe];exact z
   rw [q] at q';cases q'
   obtain ⟨v,hv⟩:=heo
   exact ⟨v,by rw [hbe];exact hv⟩
  ·refine (ok b u q).stay (fun c v hc r=>k c v ?_ r) (fun c r=>by rw [upd_ne (nown c b r)];exact r) fun c xs r=>by rw [upd_ne (ntup c xs r)];exact r
   rcases hc with rfl | hc
   ·exact hbe
   ·rintro rfl
    rcases he with z | z
    ·exact nown c b hc z
    ·rw [hc] at z;cases z;exact hb rfl
end
structure Un (fs ex:List Addr) (H H':Hp) (h h':Heap):Prop where
 keep:∀ b o,h.get? b = some o→H b = none→b ∉ fs→b ∉ ex→h'.get? b = some o
 slot:∀ b o,h.get? b = some o→H b = none→b∈fs→b ∉ ex→∃ sl,h'.get? b = some { o with slots:=sl }
 free:∀ b o,h.get? b = some o→H b = none→b ∉ ex→H' b = none
 there:∀ b o,h.get? b = some o→b ∉ ex→∃ o',h'.get? b = some o'
 tups:∀ b xs,H b = some (.tup xs)→H' b = some (.tup xs)
 frzs:∀ b o u,H b = some (.frz o u)→H' b = some (.frz o u)
 tbls:∀ b ps,H b = some (.tbl ps)→∃ more,H' b = some (.tbl (ps++more))
section
variable {fs fs' ex ex':List Addr} {H H1 H2:Hp} {h h1 h2 h':Heap} {a x e:Addr} {o:HO}
theorem Un.any (u:Un fs ex H H1 h h1) {b:Addr} {ob:Obj} (q:h.get? b = some ob) (n:H b = none) (hx:b ∉ ex):∃ sl,h1.get? b = some { ob with slots:=sl }:=by
 by_cases hb:b∈fs
 ·exact u.slot b ob q n hb hx
 ·exact ⟨ob.slots,u.keep b ob q n hb hx⟩
theorem Un.kept (k:∀ b u,h.get? b = some u→h'.get? b = some u):Un fs ex H H h h' :=
 ⟨fun b ob q _ _ _=>k b ob q,fun b ob q _ _ _=>⟨ob.slots,k b ob q⟩,fun _ _ _ n _=>n,fun b ob q _=>⟨ob,k b ob q⟩,fun _ _ q=>q,fun _ _ _ q=>q,fun _ ps q=>⟨#[],by rw [q];simp⟩⟩
theorem Un.refl:Un fs ex H H h h:=Un.kept fun _ _ q=>q
theorem Un.laid (k:∀ b u,h.get? b = some u→h'.get? b = some u) (hp:h.objs.size≤a) (hn:H a = none):Un fs ex H (upd H a o) h h' where
 keep:=fun b u q _ _ _=>k b u q
 slot:=fun b u q _ _ _=>⟨u.slots,k b u q⟩
 free:=fun b u q n _=>by rw [upd_ne (Nat.ne_of_lt (Nat.lt_of_lt_of_le (Heap.lt_size q) hp))];exact n
 there:=fun b u q _=>⟨u,k b u q⟩
 tups:=fun b xs q=>by rw [upd_ne (ne_of_none q hn)];exact q
 frzs:=fun b u xs q=>by rw [upd_ne (ne_of_none q hn)];exact q
 tbls:=fun b ps q=>⟨#[],by rw [upd_ne (ne_of_none q hn),q];simp⟩
theorem Un.write (mu:Mut (H x)) (he:e = x∨H e = some (.own x)) (k:∀ b u,b≠e→h.get? b = some u→h'.get? b = some u) (heo:∃ u,h'.get? e = some u):Un fs ex H (upd H x o) h h':=by
 have hx:∀ b,H b = none→b≠x:=fun b n z=>by subst z;rw [n] at mu;exact mu
 have hb:∀ b,H b = none→b≠e:=fun b n z=>by
  subst z
  rcases he with r | r
  ·exact hx b n r
  ·rw [n] at r;cases r
 have hm:∀ b u,H b = some u→¬ Mut (some u)→b≠x:=fun b u q nm z=>by subst z;rw [q] at mu;exact nm mu
 refine ⟨fun b u q n _ _=>k b u (hb b n) q,fun b u q n _ _=>⟨u.slots,k b u (hb b n) q⟩,fun b u q n _=>by rw [upd_ne (hx b n)];exact n,fun b u q _=>?_,
  fun b xs q=>by rw [upd_ne (hm b _ q fun z=>z)];exact q,fun b u xs q=>by rw [upd_ne (hm b _ q fun z=>z)];exact q,fun b ps q=>⟨#[],by rw [upd_ne (hm b _ q fun z=>z),q];simp⟩⟩
 by_cases hbe:b = e
 ·subst hbe;exact heo
 ·exact ⟨u,k b u hbe q⟩
end
def trk (h:Heap) (H:Hp):List Addr:=(List.range h.objs.size).filter fun a=>(H a).isSome
def hidT (h:Heap) (H:Hp):Heap:=PySem.W.hideAll h (trk h H)
theorem hidT_size (h:Heap) (H:Hp):(hidT h H).objs.size = h.objs.size:=PySem.W.hideAll_size _ _
theorem hidT_get {h:Heap} {H:Hp} {b:Addr} {o:Obj} (e:h.get? b = some o) (n:H b = none):(hidT h H).get? b = some o :=
 PySem.W.hideAll_get _ e fun hm=>by
  have q:(H b).isSome = true:=(List.mem_filter.mp hm).2
  rw [n] at q;simp at q
theorem of_hidT {h:Heap} {H:Hp} {b:Addr} {o:Obj} (e:(hidT h H).get? b = some o):h.get? b = some o∧H b = none:=by
 have e':h.get? b = some o:=PySem.W.of_hideAll (trk h H) e
 refine ⟨e',?_⟩
 cases q:H b with
 | none=>rfl
 | some x =>
  have hm:b∈trk h H:=List.mem_filter.mpr ⟨List.mem_range.mpr (Heap.lt_size e'),by simp [q]⟩
  have z:(hidT h H).get? b = none:=PySem.W.hideAll_none (trk h H) hm
  rw [z] at e;cases e
end L2
namespace L2
open PySem PySem.Spec PyProof.Rows
structure Mod (K:PySem.W.Frag) (mg:Str→Option Value) (base:Heap):Prop where
 kin:K.In base
 glob:base.Ns mainGlobals mg
 blt:∃ mb,base.Ns builtinsNs mb∧∀ x:Str,x≠"__name__"→mb x = bootBuiltins x
 nolimit:base.NoLimit
structure Cx where
 prog:Program
 w:World
 K:PySem.W.Frag
 mg:Str→Option Value
 base:Heap
 A:Around
 N:List Str
 s₀:Shared
 H₀:Hp
 env:Env
 outer:List Env
 stack:List Env
 ex:List Addr
 fn:Str→Bool
 calm:Bool
 pn:List (Addr×Obj)
 xe:Value→Shared→Prop
def frs (l:List Env):List Addr:=l.filterMap (·.frame)
abbrev Cx.fs (X:Cx):List Addr:=frs X.outer
def Vis (sc:Scope) (x:Str):Prop:=sc.names.lookup x = some .local∨sc.names.lookup x = some .cell∨sc.names.lookup x = some .free
def Loc (sc:Scope) (x:Str):Prop:=sc.names.lookup x = some .local∨sc.names.lookup x = some .cell
def Look (env:Env) (h:Heap) (m:Str→Option Value) (x:Str) (u:Value):Prop :=
 (env.kindOf x = some .local∧m x = some u)∨((env.kindOf x = some .cell∨env.kindOf x = some .free)∧∃ c,env.cells.lookup x = some c∧h.IsCell c (some u))
structure Cx.Ok (X:Cx):Prop where
 mod:Mod X.K X.mg X.base
 kind:X.env.scope.kind = .function
 glob:X.env.globals = mainGlobals
 blt:X.env.builtins = builtinsNs
 above:X.s₀.heap.objs.size≤X.env.locals
 inj:∀ x y c,X.env.cells.lookup x = some c→X.env.cells.lookup y = some c→x = y
 has:∀ x,(X.env.kindOf x = some .cell∨X.env.kindOf x = some .free)→∃ c,X.env.cells.lookup x = some c
 cab:∀ x c,X.fn x = true→X.env.cells.lookup x = some c→X.s₀.heap.objs.size≤c
 hd:X.calm = true→X.A.handled = none
 frames:X.A.frames = some X.stack
 stk:X.stack = X.outer∨(X.stack = X.env :: X.outer∧X.env.frame = some X.env.locals)
 exf:∀ b∈X.ex,b≠X.env.locals∧∀ x c,X.env.cells.lookup x = some c→c≠b
 bs:∀ b o,X.base.get? b = some o→X.s₀.heap.get? b = some o∧X.H₀ b = none
 bsz:X.base.objs.size≤X.s₀.heap.objs.size
 noex:∀ b o,X.base.get? b = some o→b ∉ X.ex
 exfs:∀ b∈X.ex,b ∉ X.fs
 funs:X.s₀.heap.FunFrames X.base X.outer
 frf:∀ b∈X.fs,X.H₀ b = none
structure Inv (X:Cx) (pins:List (Addr×Obj)) (σ:List (Option V)) (H:Hp) (s:Shared):Prop where
 ok:X.Ok
 os:s.os = X.s₀.os
 bare:AllBare s.gens
 base:Un X.fs X.ex X.H₀ H X.s₀.heap s.heap
 loc:∃ m,s.heap.Ns X.env.locals m∧∀ (i:Nat) (x:Str) (v:V),X.N[i]? = some x→σ[i]? = some (some v)→Vis X.env.scope x→∃ u,RelV v u∧Look X.env s.heap m x u
 cell:∀ x c,X.env.cells.lookup x = some c→∃ v,s.heap.IsCell c v
 free:H X.env.locals = none
 freeC:∀ x c,X.env.cells.lookup x = some c→H c = none
 pin:∀ p∈X.pn++pins,s.heap.get? p.1 = some p.2∧H p.1 = none∧p.1≠X.env.locals∧p.1 ∉ X.fs∧∀ v,p.2.data≠.cell v
 hok:HOk X.prog X.w H s.heap
 len:σ.length = X.N.length
section
variable {X:Cx} {pins:List (Addr×Obj)} {σ:List (Option V)} {H H':Hp} {s:Shared} {h':Heap}
theorem Cx.Ok.nofr (ok:X.Ok) {b:Addr} {o:Obj} (e:X.base.get? b = some o):b ∉ X.fs:=fun hb=>by
 have:=(ok.funs.mem hb).1
 rw [e] at this;cases this
theorem Inv.bs (I:Inv X pins σ H s):∀ b o,X.base.get? b = some o→s.heap.get? b = some o∧H b = none:=fun b o e =>
 ⟨I.base.keep b o (I.ok.bs b o e).1 (I.ok.bs b o e).2 (I.ok.nofr e) (I.ok.noex b o e),I.base.free b o (I.ok.bs b o e).1 (I.ok.bs b o e).2 (I.ok.noex b o e)⟩
theorem Inv.bk (I:Inv X pins σ H s):∀ b o,X.base.get? b = some o→s.heap.get? b = some o:=fun b o e=>(I.bs b o e).1
theorem Inv.mod (I:Inv X pins σ H s):Mod X.K X.mg X.base:=I.ok.mod
theorem Inv.kIn (I:Inv X pins σ H s):X.K.In s.heap:=I.ok.mod.kin.keeps I.bk
theorem Inv.lt (I:Inv X pins σ H s):X.env.locals < s.heap.objs.size:=let ⟨_,hn,_⟩:=I.loc;hn.lt
theorem Inv.sz (I:Inv X pins σ H s):X.s₀.heap.objs.size≤s.heap.objs.size:=Nat.le_trans I.ok.above (Nat.le_of_lt I.lt)
theorem Inv.nofs (I:Inv X pins σ H s) {a:Addr} (h:s.heap.objs.size≤a):a ∉ X.fs:=fun hb=>by
 obtain ⟨_,o,ho,_⟩:=I.ok.funs.mem hb
 exact absurd (Nat.lt_of_lt_of_le (Heap.lt_size ho) (Nat.le_trans I.sz h)) (Nat.lt_irrefl _)
theorem Inv.cne (I:Inv X pins σ H s):∀ x c,X.env.cells.lookup x = some c→c≠X.env.locals:=fun x c e z=>by
 obtain ⟨v,o,ho,hd⟩:=I.cell x c e
 obtain ⟨m,⟨o',es,ep,ho',hd',_⟩,_⟩:=I.loc
 rw [z,ho'] at ho;cases ho;rw [hd'] at hd;cases hd
theorem Inv.funs (I:Inv X pins σ H s):s.heap.FunFrames X.base X.outer:=by
 have all:∀ (l:List Env),(∀ b∈frs l,b∈X.fs)→X.s₀.heap.FunFrames X.base l→s.heap.FunFrames X.base l:=by
  intro l
  induction l with
  | nil=>intro _ _;trivial
  | cons env r ih =>
   intro hs hl
   obtain ⟨hk,⟨L,o,hf,hn,ho,hd⟩,hr⟩:=hl
   have hL:L∈X.fs:=hs L (by unfold frs;rw [List.filterMap_cons,hf];exact List.mem_cons_self)
   obtain ⟨sl,e⟩:=I.base.slot L o ho (I.ok.frf L hL) hL fun z=>I.ok.exfs L z hL
   exact ⟨hk,⟨L,_,hf,hn,e,hd⟩,ih (fun b hb=>hs b (by unfold frs;rw [List.filterMap_cons,hf];exact List.mem_cons_of_mem _ hb)) hr⟩
 exact all X.outer (fun _ hb=>hb) I.ok.funs
theorem Inv.stack (I:Inv X pins σ H s):s.heap.FunFrames X.base X.stack:=by
 rcases I.ok.stk with e | ⟨e,hf⟩
 ·rw [e];exact I.funs
 ·rw [e]
  obtain ⟨m,hn,_⟩:=I.loc
  refine .cons (by rw [I.ok.kind];decide) hf hn ?_ I.funs
  exact Heap.get?_none_of_le (Nat.le_trans I.ok.bsz I.ok.above)
theorem Inv.stkSub (I:Inv X pins σ H s):∀ b∈frs X.stack,b∈X.env.locals :: X.fs:=fun b hb=>by
 rcases I.ok.stk with e | ⟨e,hf⟩
 ·rw [e] at hb;exact List.mem_cons_of_mem _ hb
 ·rw [e] at hb
  unfold frs at hb
  rw [List.filterMap_cons,hf] at hb
  exact hb
theorem Inv.stkFree (I:Inv X pins σ H s):∀ b∈frs X.stack,H b = none:=fun b hb=>by
 rcases List.mem_cons.mp (I.stkSub b hb) with e | hb
 ·rw [e];exact I.free
 ·obtain ⟨_,o,ho,_⟩:=I.ok.funs.mem hb
  exact I.base.free b o ho (I.ok.frf b hb) fun z=>I.ok.exfs b z hb
theorem Inv.step {g':Array GenState} {t':Nat} {d':Drawn} {ch:List Addr} (I:Inv X pins σ H s)
  (hch:∀ b∈ch,(b∈X.ex∨X.s₀.heap.objs.size≤b)∧b≠X.env.locals∧(∀ x c,X.env.cells.lookup x = some c→c≠b)∧∀ p∈X.pn++pins,p.1≠b)
  (keep:∀ b o,b≠X.env.locals→b ∉ X.fs→b ∉ ch→s.heap.get? b = some o→H b = none→h'.get? b = some o)
  (slot:∀ b o,b≠X.env.locals→b∈X.fs→b ∉ ch→s.heap.get? b = some o→H b = none→∃ sl,h'.get? b = some { o with slots:=sl }) (free:∀ b o,b ∉ ch→s.heap.get? b = some o→H b = none→H' b = none)
  (there:∀ b o,b ∉ ch→s.heap.get? b = some o→∃ o',h'.get? b = some o')
  (tups:∀ b xs,H b = some (.tup xs)→H' b = some (.tup xs)) (frzs:∀ b o u,H b = some (.frz o u)→H' b = some (.frz o u)) (tbls:∀ b ps,H b = some (.tbl ps)→∃ more,H' b = some (.tbl (ps++more)))
  (ns:∀ m,s.heap.Ns X.env.locals m→h'.Ns X.env.locals m) (hok:HOk X.prog X.w H' h') (hg:AllBare g') :
  Inv X pins σ H' { s with heap:=h',gens:=g',drawn:=d',toks:=t' }:=by
 have neL:∀ b o,X.s₀.heap.get? b = some o→b≠X.env.locals:=fun b o e=>Nat.ne_of_lt (Nat.lt_of_lt_of_le (Heap.lt_size e) I.ok.above)
 have neC:∀ b o,X.s₀.heap.get? b = some o→b ∉ X.ex→b ∉ ch:=fun b o e hx hb=>by
  rcases (hch b hb).1 with z | z
  ·exact hx z
  ·exact absurd (Nat.lt_of_lt_of_le (Heap.lt_size e) z) (Nat.lt_irrefl _)
 have cellK:∀ x c,X.env.cells.lookup x = some c→∀ v,s.heap.IsCell c v→h'.IsCell c v:=fun x c e v ⟨o,ho,hd⟩=>by
  have nch:c ∉ ch:=fun z=>(hch c z).2.2.1 x c e rfl
  by_cases hc:c∈X.fs
  ·obtain ⟨sl,q⟩:=slot c o (I.cne x c e) hc nch ho (I.freeC x c e)
   exact ⟨_,q,hd⟩
  ·exact ⟨o,keep c o (I.cne x c e) hc nch ho (I.freeC x c e),hd⟩
 refine ⟨I.ok,I.os,hg,⟨fun b o e n hb hx=>?_,fun b o e n hb hx=>?_,fun b o e n hx=>?_,fun b o e hx=>?_,fun b xs e=>tups b xs (I.base.tups b xs e),fun b o xs e=>frzs b o xs (I.base.frzs b o xs e),fun b ps e=>?_⟩,?_,fun x c e=>?_,?_,fun x c e=>?_,fun p hp=>?_,hok,I.len⟩
 ·exact keep b o (neL b o e) hb (neC b o e hx) (I.base.keep b o e n hb hx) (I.base.free b o e n hx)
 ·obtain ⟨sl,e1⟩:=I.base.slot b o e n hb hx
  obtain ⟨sl',e2⟩:=slot b _ (neL b o e) hb (neC b o e hx) e1 (I.base.free b o e n hx)
  exact ⟨sl',e2⟩
 ·obtain ⟨o',e1⟩:=I.base.there b o e hx
  exact free b o' (neC b o e hx) e1 (I.base.free b o e n hx)
 ·obtain ⟨o',e1⟩:=I.base.there b o e hx
  exact there b o' (neC b o e hx) e1
 ·obtain ⟨m1,e1⟩:=I.base.tbls b ps e
  obtain ⟨m2,e2⟩:=tbls b _ e1
  exact ⟨m1++m2,by rw [e2,Array.append_assoc]⟩
 ·obtain ⟨m,hn,hl⟩:=I.loc
  refine ⟨m,ns m hn,fun i x v e1 e2 e3=>?_⟩
  obtain ⟨u,r,l⟩:=hl i x v e1 e2 e3
  refine ⟨u,r,?_⟩
  rcases l with l | ⟨k,c,e,z⟩
  ·exact .inl l
  ·exact .inr ⟨k,c,e,cellK x c e _ z⟩
 ·obtain ⟨v,z⟩:=I.cell x c e
  exact ⟨v,cellK x c e v z⟩
 ·obtain ⟨m,⟨o,_,_,ho,_⟩,_⟩:=I.loc
  exact free _ o (fun z=>(hch _ z).2.1 rfl) ho I.free
 ·obtain ⟨v,o,ho,hd⟩:=I.cell x c e
  exact free c o (fun z=>(hch c z).2.2.1 x c e rfl) ho (I.freeC x c e)
 ·obtain ⟨e,n,ne,nf,d⟩:=I.pin p hp
  have nch:p.1 ∉ ch:=fun z=>(hch p.1 z).2.2.2 p hp rfl
  exact ⟨keep p.1 p.2 ne nf nch e n,free p.1 p.2 nch e n,ne,nf,d⟩
theorem Inv.un {t':Nat} (I:Inv X pins σ H s) (u:Un X.fs [] H H' s.heap h') (hok:HOk X.prog X.w H' h'):Inv X pins σ H' { s with heap:=h',toks:=t' }:=by
 obtain ⟨m,⟨o,es,ep,ho,r⟩,_⟩:=id I.loc
 obtain ⟨sl,hL⟩:=u.any ho I.free (by simp)
 exact I.step (g':=s.gens) (d':=s.drawn) (ch:=[]) (fun _ z=>nomatch z) (fun b o _ hb _ e n=>u.keep b o e n hb (by simp)) (fun b o _ hb _ e n=>u.slot b o e n hb (by simp)) (fun b o _ e n=>u.free b o e n (by simp)) (fun b o _ e=>u.there b o e (by simp)) u.tups u.frzs u.tbls (fun m' hm=>by
  obtain ⟨o',es',ep',ho',r'⟩:=hm
  rw [ho] at ho';cases ho'
  exact ⟨_,es',ep',hL,r'⟩) hok I.bare
theorem Inv.call {g':Array GenState} {t':Nat} {d':Drawn} {ch:List Addr} (I:Inv X pins σ H s) (u:Un (frs X.stack) ch H H' s.heap h') (hok:HOk X.prog X.w H' h') (hg:AllBare g')
  (hch:∀ b∈ch,(b∈X.ex∨X.s₀.heap.objs.size≤b)∧b≠X.env.locals∧(∀ x c,X.env.cells.lookup x = some c→c≠b)∧∀ p∈X.pn++pins,p.1≠b) :
  Inv X pins σ H' { s with heap:=h',gens:=g',drawn:=d',toks:=t' }:=by
 obtain ⟨m,⟨o,es,ep,ho,r⟩,_⟩:=id I.loc
 obtain ⟨sl,hL⟩:=u.any ho I.free fun z=>(hch _ z).2.1 rfl
 exact I.step (ch:=ch) hch (fun b o hL hb hc e n=>u.keep b o e n (fun z=>(List.mem_cons.mp (I.stkSub b z)).elim hL hb) hc) (fun b o _ _ hc e n=>u.any e n hc) (fun b o hc e n=>u.free b o e n hc) (fun b o hc e=>u.there b o e hc) u.tups u.frzs u.tbls (fun m' hm=>by
  obtain ⟨o',es',ep',ho',r'⟩:=hm
  rw [ho] at ho';cases ho'
  exact ⟨_,es',ep',hL,r'⟩) hok hg
theorem Inv.turned {t':Nat} {it:Addr} (I:Inv X pins σ H s) (k:∀ b o,b≠it→s.heap.get? b = some o→h'.get? b = some o) (hn:H it = none) (hL:it≠X.env.locals)
  (h1:it∈X.ex∨X.s₀.heap.objs.size≤it) (h2:∀ x c,X.env.cells.lookup x = some c→c≠it) (h3:∀ p∈X.pn++pins,p.1≠it):Inv X pins σ H { s with heap:=h',toks:=t' }:=by
 have nit:∀ b u,H b = some u→b≠it:=fun b u e z=>by rw [z,hn] at e;cases e
 refine I.step (g':=s.gens) (d':=s.drawn) (ch:=[it]) (fun b hb=>?_) (fun b o _ _ hc e _=>k b o (fun z=>hc (by simp [z])) e) (fun b o _ _ hc e _=>⟨o.slots,k b o (fun z=>hc (by simp [z])) e⟩) (fun _ _ _ _ n=>n)
  (fun b o hc e=>⟨o,k b o (fun z=>hc (by simp [z])) e⟩) (fun _ _ e=>e) (fun _ _ _ e=>e) (fun b ps e=>⟨#[],by rw [e];simp⟩) (fun m hm=>?_) (fun b u e=>?_) I.bare
 ·have e:b = it:=by simpa using hb
  subst e
  exact ⟨h1,hL,h2,h3⟩
 ·obtain ⟨o,es,ep,ho,r⟩:=hm
  exact ⟨o,es,ep,k _ o (Ne.symm hL) ho,r⟩
 ·refine (I.hok b u e).stay (fun c v hc q=>k c v ?_ q) (fun _ q=>q) fun _ _ q=>q
  rcases hc with z | z
  ·rw [z];exact nit b u e
  ·exact nit c _ z
theorem Inv.tok (I:Inv X pins σ H s) (t:Nat):Inv X pins σ H { s with toks:=t }:=I.un (h':=s.heap) (t':=t) Un.refl I.hok
theorem Inv.kept {t':Nat} (I:Inv X pins σ H s) (k:∀ b u,s.heap.get? b = some u→h'.get? b = some u):Inv X pins σ H { s with heap:=h',toks:=t' }:=I.un (Un.kept k) (I.hok.kept k)
theorem Inv.laid {a:Addr} {o:HO} {t':Nat} (I:Inv X pins σ H s) (k:∀ b u,s.heap.get? b = some u→h'.get? b = some u) (hp:s.heap.objs.size≤a) (new:ObjOk X.prog X.w (upd H a o) h' a o) :
  Inv X pins σ (upd H a o) { s with heap:=h',toks:=t' }:=I.un (Un.laid k hp (I.hok.fresh hp)) (I.hok.laid k hp new)
theorem Inv.write {x e:Addr} {o:HO} {t':Nat} (I:Inv X pins σ H s) (mu:Mut (H x)) (he:e = x∨H e = some (.own x)) (k:∀ b u,b≠e→s.heap.get? b = some u→h'.get? b = some u) (heo:∃ u,h'.get? e = some u)
  (new:ObjOk X.prog X.w (upd H x o) h' x o):Inv X pins σ (upd H x o) { s with heap:=h',toks:=t' }:=I.un (Un.write mu he k heo) (I.hok.write mu he k heo new)
theorem Inv.weak {σ':List (Option V)} (I:Inv X pins σ H s) (hl:σ'.length = σ.length) (w:∀ (i:Nat) v,σ'[i]? = some (some v)→σ[i]? = some (some v)):Inv X pins σ' H s :=
 ⟨I.ok,I.os,I.bare,I.base,let ⟨m,hn,hl'⟩:=I.loc;⟨m,hn,fun i x v e1 e2 e3=>hl' i x v e1 (w i v e2) e3⟩,I.cell,I.free,I.freeC,I.pin,I.hok,hl.trans I.len⟩
theorem Inv.pins_of {pins':List (Addr×Obj)} (I:Inv X pins σ H s) (h:∀ p∈pins',s.heap.get? p.1 = some p.2∧H p.1 = none∧p.1≠X.env.locals∧p.1 ∉ X.fs∧∀ v,p.2.data≠.cell v):Inv X pins' σ H s :=
 ⟨I.ok,I.os,I.bare,I.base,I.loc,I.cell,I.free,I.freeC,fun p hp=>(List.mem_append.mp hp).elim (fun z=>I.pin p (List.mem_append_left _ z)) (h p),I.hok,I.len⟩
theorem nodup_ix {N:List Str} (hN:N.Nodup) {i j:Nat} {x:Str} (a:N[i]? = some x) (b:N[j]? = some x):i = j:=by
 obtain ⟨h1,e1⟩:=List.getElem?_eq_some_iff.mp a
 obtain ⟨h2,e2⟩:=List.getElem?_eq_some_iff.mp b
 exact (List.getElem_inj hN).mp (e1.trans e2.symm)
theorem store_ok2 {M:Model} {A:Around} {E:Value→Shared→Prop} {i:Nat} {x:Str} {v:V} {u:Value} {Q:Unit→Shared→Prop} (I:Inv X pins σ H s) (hN:X.N.Nodup) (hi:X.N[i]? = some x) (hx:Loc X.env.scope x) (r:RelV v u)
  (h:∀ s',Inv X pins (σ.set i (some v)) H s'→(∃ a,Heap.SameBut a s.heap s'.heap∧(a = X.env.locals∨X.env.cells.lookup x = some a))→Q () s') (hf:X.fn x = true∨X.env.scope.names.lookup x = some .local:=by first | exact .inl rfl | exact .inr rfl | assumption):wpAny M A (storeName X.env x u) Q E s:=by
 obtain ⟨m,hn,hl⟩:=id I.loc
 have hcls:(X.env.scope.kind == .class || (X.env.scope.kind == .module && X.env.locals != X.env.globals)) = false:=by rw [I.ok.kind];rfl
 have hiσ:i < σ.length:=by rw [I.len];exact (List.getElem?_eq_some_iff.mp hi).1
 have cne:=I.cne
 have tracked:∀ {a:Addr} {h':Heap},(∃ o,s.heap.get? a = some o∧H a = none)→Heap.SameBut a s.heap h'→HOk X.prog X.w H h':=fun {a h'} ha hs b ob e=>by
  obtain ⟨_,_,hfree⟩:=ha
  refine (I.hok b ob e).stay (fun c w' hc q=>(hs.2 c ?_).trans q) (fun _ q=>q) fun _ _ q=>q
  rintro rfl
  rcases hc with rfl | hc
  ·rw [hfree] at e;cases e
  ·rw [hfree] at hc;cases hc
 rcases hx with hk | hk
 ·refine wpAny_storeName_local hk hn (fun h' hn' hs=>?_) hcls
  obtain ⟨oL,_,_,hoL,_⟩:=id hn
  refine h _ ⟨I.ok,I.os,I.bare,⟨fun b o e n hb hx=>?_,fun b o e n hb hx=>?_,I.base.free,fun b o e hx=>?_,I.base.tups,I.base.frzs,I.base.tbls⟩,⟨_,hn',fun j y v' e1 e2 e3=>?_⟩,fun y c e=>?_,I.free,I.freeC,fun p hp=>?_,tracked ⟨oL,hoL,I.free⟩ hs,by simpa using I.len⟩ ⟨_,hs,.inl rfl⟩
  ·exact (hs.2 b (Nat.ne_of_lt (Nat.lt_of_lt_of_le (Heap.lt_size e) I.ok.above))).trans (I.base.keep b o e n hb hx)
  ·obtain ⟨sl,e1⟩:=I.base.slot b o e n hb hx
   exact ⟨sl,(hs.2 b (Nat.ne_of_lt (Nat.lt_of_lt_of_le (Heap.lt_size e) I.ok.above))).trans e1⟩
  ·obtain ⟨o',e1⟩:=I.base.there b o e hx
   exact ⟨o',(hs.2 b (Nat.ne_of_lt (Nat.lt_of_lt_of_le (Heap.lt_size e) I.ok.above))).trans e1⟩
  ·by_cases hj:j = i
   ·subst hj
    rw [hi] at e1;cases e1
    rw [List.getElem?_set_self hiσ] at e2
    cases e2
    exact ⟨u,r,.inl ⟨hk,by simp⟩⟩
   ·rw [List.getElem?_set_ne (Ne.symm hj)] at e2
    obtain ⟨u',r',q⟩:=hl j y v' e1 e2 e3
    refine ⟨u',r',?_⟩
    rcases q with ⟨k,e⟩ | ⟨k,c,e,z⟩
    ·refine .inl ⟨k,?_⟩
     have:y≠x:=fun e=>hj (nodup_ix hN e1 (e ▸ hi))
     simp [this,e]
    ·exact .inr ⟨k,c,e,z.sameBut hs (cne y c e)⟩
  ·obtain ⟨w',z⟩:=I.cell y c e
   exact ⟨w',z.sameBut hs (cne y c e)⟩
  ·obtain ⟨e,n,ne,nf,d⟩:=I.pin p hp
   exact ⟨(hs.2 p.1 ne).trans e,n,ne,nf,d⟩
 ·have hfn:X.fn x = true:=by
   rcases hf with z | z
   ·exact z
   ·rw [z] at hk;cases hk
  obtain ⟨c,hc⟩:=I.ok.has x (.inl hk)
  obtain ⟨w',z⟩:=I.cell x c hc
  refine wpAny_storeName_cell I.ok.kind hk hc z (fun h' hc' hs=>?_)
  obtain ⟨oc,hoc,hocd⟩:=id z
  refine h { s with heap:=h' } ⟨I.ok,I.os,I.bare,⟨fun b o e n hb hx=>?_,fun b o e n hb hx=>?_,I.base.free,fun b o e hx=>?_,I.base.tups,I.base.frzs,I.base.tbls⟩,⟨m,hn.sameBut hs (Ne.symm (cne x c hc)),fun j y v' e1 e2 e3=>?_⟩,fun y c' e=>?_,I.free,I.freeC,fun p hp=>?_,tracked ⟨oc,hoc,I.freeC x c hc⟩ hs,by simpa using I.len⟩ ⟨c,hs,.inr hc⟩
  ·exact (hs.2 b (Nat.ne_of_lt (Nat.lt_of_lt_of_le (Heap.lt_size e) (I.ok.cab x c hfn hc)))).trans (I.base.keep b o e n hb hx)
  ·obtain ⟨sl,e1⟩:=I.base.slot b o e n hb hx
   exact ⟨sl,(hs.2 b (Nat.ne_of_lt (Nat.lt_of_lt_of_le (Heap.lt_size e) (I.ok.cab x c hfn hc)))).trans e1⟩
  ·obtain ⟨o',e1⟩:=I.base.there b o e hx
   exact ⟨o',(hs.2 b (Nat.ne_of_lt (Nat.lt_of_lt_of_le (Heap.lt_size e) (I.ok.cab x c hfn hc)))).trans e1⟩
  ·by_cases hj:j = i
   ·subst hj
    rw [hi] at e1;cases e1
    rw [List.getElem?_set_self hiσ] at e2
    cases e2
    exact ⟨u,r,.inr ⟨.inl hk,c,hc,hc'⟩⟩
   ·rw [List.getElem?_set_ne (Ne.symm hj)] at e2
    obtain ⟨u',r',q⟩:=hl j y v' e1 e2 e3
    refine ⟨u',r',?_⟩
    rcases q with q | ⟨k,c',e,z'⟩
    ·exact .inl q
    ·refine .inr ⟨k,c',e,z'.sameBut hs ?_⟩
     rintro rfl
     exact hj (nodup_ix hN e1 (I.ok.inj _ _ _ e hc ▸ hi))
  ·by_cases hcc:c' = c
   ·subst hcc;exact ⟨_,hc'⟩
   ·obtain ⟨w2,z2⟩:=I.cell y c' e
    exact ⟨w2,z2.sameBut hs hcc⟩
  ·obtain ⟨e,n,ne,nf,d⟩:=I.pin p hp
   refine ⟨(hs.2 p.1 ?_).trans e,n,ne,nf,d⟩
   intro q
   rw [q,hoc] at e
   have q':oc = p.2:=Option.some.inj e
   exact d w' (by rw [← q'];exact hocd)
theorem store_ok {M:Model} {A:Around} {E:Value→Shared→Prop} {i:Nat} {x:Str} {v:V} {u:Value} {Q:Unit→Shared→Prop} (I:Inv X pins σ H s) (hN:X.N.Nodup) (hi:X.N[i]? = some x) (hx:Loc X.env.scope x) (r:RelV v u)
  (h:∀ s',Inv X pins (σ.set i (some v)) H s'→Q () s') (hf:X.fn x = true∨X.env.scope.names.lookup x = some .local:=by first | exact .inl rfl | exact .inr rfl | assumption):wpAny M A (storeName X.env x u) Q E s :=
 store_ok2 I hN hi hx r (fun s' I' _=>h s' I') hf
theorem Inv.call' {s':Shared} {ch:List Addr} (I:Inv X pins σ H s) (ho:s'.os = s.os) (u:Un (frs X.stack) ch H H' s.heap s'.heap) (hok:HOk X.prog X.w H' s'.heap) (hg:AllBare s'.gens)
  (hch:∀ b∈ch,(b∈X.ex∨X.s₀.heap.objs.size≤b)∧b≠X.env.locals∧(∀ x c,X.env.cells.lookup x = some c→c≠b)∧∀ p∈X.pn++pins,p.1≠b):Inv X pins σ H' s':=by
 obtain ⟨h',g',d',t',o'⟩:=s'
 have e:o' = s.os:=ho
 subst e
 exact I.call (g':=g') (t':=t') (d':=d') u hok hg hch
end
abbrev XK:=Value→Option Addr→Hp→Prop
abbrev St:=List (Option V)
abbrev VK:=V→Hp→Prop
abbrev TE:=St→Hp→VK→Prop
abbrev TT:=St→Hp→(Bool→Hp→Prop)→Prop
abbrev TA:=St→Hp→(List V→Hp→Prop)→Prop
structure Ends where
 nx:St→Hp→Prop
 rt:VK
 bk:St→Hp→Prop:=fun _ _=>False
 ct:St→Hp→Prop:=fun _ _=>False
abbrev TS:=Ends→St→Hp→Prop
def EP (X:Cx) (pins:List (Addr×Obj)) (σ:St) (Q:VK) (u:Value) (s':Shared):Prop:=∃ v H',Inv X pins σ H' s'∧RelV v u∧Q v H'
def TP (X:Cx) (pins:List (Addr×Obj)) (σ:St) (Q:Bool→Hp→Prop) (b:Bool) (s':Shared):Prop:=∃ H',Inv X pins σ H' s'∧Q b H'
def AP (X:Cx) (pins:List (Addr×Obj)) (σ:St) (Q:List V→Hp→Prop) (us:List Value) (s':Shared):Prop:=∃ vs H',Inv X pins σ H' s'∧Vals vs us∧Q vs H'
def SP (X:Cx) (pins:List (Addr×Obj)) (D:Ends) (f:Flow) (s':Shared):Prop :=
 match f with
 | .next=>∃ σ' H',Inv X pins σ' H' s'∧D.nx σ' H'
 | .brk=>∃ σ' H',Inv X pins σ' H' s'∧D.bk σ' H'
 | .cont=>∃ σ' H',Inv X pins σ' H' s'∧D.ct σ' H'
 | .ret u=>∃ v σ' H',Inv X pins σ' H' s'∧RelV v u∧D.rt v H'
def PE (X:Cx) (e:Expr) (t:TE):Prop :=
 ∀ (pins:List (Addr×Obj)) (s:Shared) (σ:St) (H:Hp) (Q:VK),Inv X pins σ H s→t σ H Q→wpAny (model X.prog X.w) X.A (eval e X.env) (EP X pins σ Q) X.xe s
def PT (X:Cx) (e:Expr) (t:TT):Prop :=
 ∀ (pins:List (Addr×Obj)) (s:Shared) (σ:St) (H:Hp) (Q:Bool→Hp→Prop),Inv X pins σ H s→t σ H Q→wpAny (model X.prog X.w) X.A (isTrue e X.env (eval e X.env)) (TP X pins σ Q) X.xe s
def PW (X:Cx) (e:Expr) (t:TT):Prop :=
 ∀ (whole:Sem Value) (pins:List (Addr×Obj)) (s:Shared) (σ:St) (H:Hp) (Q:Bool→Hp→Prop),Inv X pins σ H s→t σ H Q→wpAny (model X.prog X.w) X.A (isTrue e X.env whole) (TP X pins σ Q) X.xe s
theorem PW.pt {X:Cx} {e:Expr} {t:TT} (h:PW X e t):PT X e t:=h _
def PA (X:Cx) (es:List Expr) (t:TA):Prop :=
 ∀ (pos:Pos) (pins:List (Addr×Obj)) (s:Shared) (σ:St) (H:Hp) (Q:List V→Hp→Prop),Inv X pins σ H s→t σ H Q→wpAny (model X.prog X.w) X.A (spliced (backTo pos (starEach es X.env))) (AP X pins σ Q) X.xe s
def PS (X:Cx) (st:Stmt) (t:TS):Prop :=
 ∀ (pins:List (Addr×Obj)) (s:Shared) (σ:St) (H:Hp) (D:Ends),Inv X pins σ H s→t D σ H→wpAny (model X.prog X.w) X.A (exec st X.env) (SP X pins D) X.xe s
def PSs (X:Cx) (st:List Stmt) (t:TS):Prop :=
 ∀ (pins:List (Addr×Obj)) (s:Shared) (σ:St) (H:Hp) (D:Ends),Inv X pins σ H s→t D σ H→wpAny (model X.prog X.w) X.A (execs st X.env) (SP X pins D) X.xe s
theorem thn {α:Type} {t:Sem α} {Q Q':α→Shared→Prop} {M:Model} {A:Around} {E:Value→Shared→Prop} {s:Shared} (h:wpAny M A t Q E s) (hQ:∀ a s,Q a s→Q' a s):wpAny M A t Q' E s:=wpAny_mono h hQ fun _ _ x=>x
end L2
namespace L2
open PySem PySem.Spec PyProof.Rows
section
variable {X:Cx}
def tVar (i:Nat):TE:=fun σ H Q=>∃ v,σ[i]? = some (some v)∧Q v H
def tC (v:V):TE:=fun _ H Q=>Q v H
theorem pe_var {i:Nat} {x:Str} {pos:Pos} (hN:X.N[i]? = some x) (hv:Vis X.env.scope x) (hd:(x == ("__debug__" : Str)) = false:=by decide) (hcd:(x == ("__classdict__" : Str)) = false:=by decide):PE X (.Name x pos) (tVar i):=by
 intro pins s σ H Q I h
 obtain ⟨v,e,h⟩:=h
 obtain ⟨m,hn,hl⟩:=I.loc
 obtain ⟨u,r,l⟩:=hl i x v hN e hv
 have fin:EP X pins σ Q u s:=⟨v,H,I,r,h⟩
 rcases l with ⟨hk,hm⟩ | ⟨hk,c,hc,hcell⟩
 ·exact wpAny_Name (wpAny_loadName_local I.ok.kind hk hn hm fin) hd
 ·rcases hk with hk | hk
  ·exact wpAny_Name (wpAny_loadName_cell I.ok.kind hk hc hcell fin) hd
  ·exact wpAny_Name (wpAny_loadName_free I.ok.kind hk hc hcell fin hcd) hd
theorem pe_int {i j pos}:PE X (.Constant (.int i) j pos) (tC (.int i)):=fun _ _ _ H _ I h=>wpAny_Constant_int ⟨.int i,H,I.tok _,⟨_,rfl⟩,h⟩
theorem pe_bl {b j pos}:PE X (.Constant (.bool b) j pos) (tC (.bl b)):=fun _ _ _ H _ I h=>Constant_bool ⟨.bl b,H,I,rfl,h⟩
theorem pe_non {j pos}:PE X (.Constant .none j pos) (tC .non):=fun _ _ _ H _ I h=>Constant_none ⟨.non,H,I,rfl,h⟩
theorem pe_str {x j pos}:PE X (.Constant (.str x) j pos) (tC (.str x)):=fun _ _ _ H _ I h=>Calls.Constant_str ⟨.str x,H,I.tok _,⟨_,rfl⟩,h⟩
def Gl (X:Cx) (x:Str):Prop:=X.env.kindOf x = some .globalImplicit
theorem ld_glob {E:Value→Shared→Prop} {pins:List (Addr×Obj)} {s:Shared} {σ:St} {H:Hp} {x:Str} {u:Value} {pos:Pos} {Q:Value→Shared→Prop} (I:Inv X pins σ H s) (hg:Gl X x) (hm:X.mg x = some u) (h:Q u s)
  (hd:(x == ("__debug__" : Str)) = false:=by decide):wpAny (model X.prog X.w) X.A (eval (.Name x pos) X.env) Q E s :=
 Calls.Name_function_global I.ok.kind hg (Calls.loadGlobal_global (by rw [I.ok.glob];exact I.mod.glob.keeps I.bk) hm h) hd
theorem ld_blt {E:Value→Shared→Prop} {pins:List (Addr×Obj)} {s:Shared} {σ:St} {H:Hp} {x:Str} {u:Value} {pos:Pos} {Q:Value→Shared→Prop} (I:Inv X pins σ H s) (hg:Gl X x) (hm:X.mg x = none) (hv:bootBuiltins x = some u) (h:Q u s)
  (hn:x≠"__name__":=by decide) (hd:(x == ("__debug__" : Str)) = false:=by decide):wpAny (model X.prog X.w) X.A (eval (.Name x pos) X.env) Q E s:=by
 obtain ⟨mb,h1,h2⟩:=I.mod.blt
 exact Calls.Name_function_global I.ok.kind hg (Calls.loadGlobal_builtin (by rw [I.ok.glob];exact I.mod.glob.keeps I.bk) hm (by rw [I.ok.blt];exact h1.keeps I.bk) ((h2 x hn).trans hv) h) hd
theorem pe_glob {x:Str} {v:V} {u:Value} {pos:Pos} (hg:Gl X x) (hm:X.mg x = some u) (r:RelV v u) (hd:(x == ("__debug__" : Str)) = false:=by decide):PE X (.Name x pos) (tC v) :=
 fun _ _ _ H _ I h=>ld_glob I hg hm ⟨v,H,I,r,h⟩ hd
theorem pe_bltn {x:Str} {v:V} {u:Value} {pos:Pos} (hg:Gl X x) (hm:X.mg x = none) (hv:bootBuiltins x = some u) (r:RelV v u) (hn:x≠"__name__":=by decide) (hd:(x == ("__debug__" : Str)) = false:=by decide):PE X (.Name x pos) (tC v) :=
 fun _ _ _ H _ I h=>ld_blt I hg hm hv ⟨v,H,I,r,h⟩ hn hd
variable {a b:Expr} {ta tb:TE} {pos:Pos}
def PC (X:Cx) (op:CmpOp) (a b:Expr) (t:TE):Prop :=
 ∀ (pins:List (Addr×Obj)) (s:Shared) (σ:St) (H:Hp) (Q:VK),Inv X pins σ H s→t σ H Q →
  wpAny (model X.prog X.w) X.A (eval a X.env) (fun v s₁=>wpAny (model X.prog X.w) X.A (eval b X.env) (fun u s₂=>wpAny (model X.prog X.w) X.A (compareOp op v u) (EP X pins σ Q) X.xe s₂) X.xe s₁) X.xe s
theorem nobehind (b:Expr) {op:CmpOp} (h:op≠.In) (h2:op≠.NotIn):behindInMarks op b = false:=by
 have e1:(op == CmpOp.In) = false:=by cases op <;> first | rfl | exact absurd rfl h
 have e2:(op == CmpOp.NotIn) = false:=by cases op <;> first | rfl | exact absurd rfl h2
 cases b <;> simp [behindInMarks,e1,e2]
def tIsN (ta:TE):TE:=fun σ H Q=>ta σ H fun x H1=>Q (.bl (decide (x = .non))) H1
theorem RelV.none_iff {x:V} {v:Value} (r:RelV x v):(v == Value.none) = decide (x = .non):=by
 cases x with
 | non=>cases r;rfl
 | bl _=>cases r;rfl
 | int _=>obtain ⟨t,rfl⟩:=r;rfl
 | str _=>obtain ⟨t,rfl⟩:=r;rfl
 | byt _=>obtain ⟨t,rfl⟩:=r;rfl
 | flt _=>obtain ⟨t,rfl⟩:=r;rfl
 | ref _=>cases r;rfl
 | ty _=>cases r;rfl
theorem pc_isN {j pos'} (ha:PE X a ta):PC X .Is a (.Constant .none j pos') (tIsN ta):=by
 intro pins s σ H Q I h
 refine thn (ha pins s σ H _ I h) fun v s1 ⟨x,H1,I1,r1,q1⟩=>?_
 exact Constant_none (is_none_gen ⟨.bl _,H1,I1,by rw [r1.none_iff];rfl,q1⟩)
def tB (t:TE):TT:=fun σ H Q=>t σ H fun x H1=>∃ c,x = .bl c∧Q c H1
theorem pe_cmp {op:CmpOp} {t:TE} (h:PC X op a b t) (h1:behindInMarks op b = false:=by first | exact nobehind _ (by decide) (by decide) | rfl):PE X (.Compare a [op] [b] pos) t:=fun pins s σ H Q I hw=>wpAny_Compare1 (h pins s σ H Q I hw) h1
theorem pt_cmp {op:CmpOp} {t:TE} (h:PC X op a b t) (h1:behindInMarks op b = false:=by first | exact nobehind _ (by decide) (by decide) | rfl):PT X (.Compare a [op] [b] pos) (tB t):=by
 intro pins s σ H Q I hw
 refine wpAny_isTrue_Compare1 (thn (h pins s σ H _ I hw) fun v s1 h1=>thn h1 fun u s2 h2=>thn h2 fun c s3 ⟨x,H1,I1,r1,q1⟩=>?_) h1
 obtain ⟨d,rfl,q⟩:=q1
 cases r1
 exact wpAny_truthy_bool ⟨H1,I1,q⟩
theorem pt_val {e:Expr} {t:TE} (h:PE X e t) (he:∀ whole,isTrue e X.env whole = (do let v ← whole;standAt e.pos;holding [v] (truthy v)):=by intro _;rfl):PT X e (tB t):=by
 intro pins s σ H Q I hw
 refine isTrue_plain (thn (h pins s σ H _ I hw) fun v s1 ⟨x,H1,I1,r1,q1⟩=>?_) (he _)
 obtain ⟨d,rfl,q⟩:=q1
 cases r1
 exact wpAny_truthy_bool ⟨H1,I1,q⟩
variable {tA tB':TT} {rest:List Expr}
def tAnd (t u:TT):TT:=fun σ H Q=>t σ H fun c H1=>if c = true then u σ H1 Q else Q false H1
def tOr (t u:TT):TT:=fun σ H Q=>t σ H fun c H1=>if c = true then Q true H1 else u σ H1 Q
def tNot (t:TT):TT:=fun σ H Q=>t σ H fun c H1=>Q (!c) H1
theorem pw_and1 (ha:PT X a tA):PW X (.BoolOp .And [a] pos) tA:=by
 intro wh pins s σ H Q I h
 refine isTrue_and (thn (ha pins s σ H Q I h) fun c s1 e=>?_)
 cases c with
 | true=>exact isTrue_and_nil e
 | false=>exact e
theorem pw_or1 (ha:PT X a tA):PW X (.BoolOp .Or [a] pos) tA:=by
 intro wh pins s σ H Q I h
 refine isTrue_or (thn (ha pins s σ H Q I h) fun c s1 e=>?_)
 cases c with
 | false=>exact isTrue_or_nil e
 | true=>exact e
theorem pw_and (ha:PT X a tA) (hb:PW X (.BoolOp .And (b :: rest) pos) tB'):PW X (.BoolOp .And (a :: b :: rest) pos) (tAnd tA tB'):=by
 intro wh pins s σ H Q I h
 refine isTrue_and (thn (ha pins s σ H _ I h) fun c s1 ⟨H1,I1,q1⟩=>?_)
 cases c with
 | true=>exact hb wh pins s1 σ H1 Q I1 q1
 | false=>exact ⟨H1,I1,q1⟩
theorem pw_or (ha:PT X a tA) (hb:PW X (.BoolOp .Or (b :: rest) pos) tB'):PW X (.BoolOp .Or (a :: b :: rest) pos) (tOr tA tB'):=by
 intro wh pins s σ H Q I h
 refine isTrue_or (thn (ha pins s σ H _ I h) fun c s1 ⟨H1,I1,q1⟩=>?_)
 cases c with
 | true=>exact ⟨H1,I1,q1⟩
 | false=>exact hb wh pins s1 σ H1 Q I1 q1
theorem pt_not (ha:PT X a tA):PT X (.UnaryOp .Not a pos) (tNot tA):=by
 intro pins s σ H Q I h
 exact isTrue_not (ha pins s σ H (fun c H1=>Q (!c) H1) I h)
def tAndV (ta tb:TE):TE:=fun σ H Q=>ta σ H fun x H1=>∃ c,x = .bl c∧if c = true then tb σ H1 Q else Q (.bl false) H1
def tNotV (ta:TE):TE:=fun σ H Q=>ta σ H fun x H1=>∃ c,x = .bl c∧Q (.bl (!c)) H1
theorem pe_one {op} {t:TE} (h:PE X a t):PE X (.BoolOp op [a] pos) t:=fun pins s σ H Q I hw=>BoolOp_one (h pins s σ H Q I hw)
theorem pe_and (ha:PE X a ta) (hb:PE X (.BoolOp .And (b :: rest) pos) tb):PE X (.BoolOp .And (a :: b :: rest) pos) (tAndV ta tb):=by
 intro pins s σ H Q I h
 refine BoolOp_and (thn (ha pins s σ H _ I h) fun v s1 ⟨x,H1,I1,r1,q1⟩=>?_)
 obtain ⟨c,rfl,q1⟩:=q1
 cases r1
 refine wpAny_truthy_bool ?_
 cases c with
 | true=>exact hb pins s1 σ H1 Q I1 q1
 | false=>exact ⟨.bl false,H1,I1,rfl,q1⟩
theorem pe_not (ha:PE X a ta):PE X (.UnaryOp .Not a pos) (tNotV ta):=by
 intro pins s σ H Q I h
 refine UnaryOp_ (thn (ha pins s σ H _ I h) fun v s1 ⟨x,H1,I1,r1,q1⟩=>?_)
 obtain ⟨c,rfl,q1⟩:=q1
 cases r1
 exact not_of (wpAny_truthy_bool ⟨.bl (!c),H1,I1,rfl,q1⟩)
end
end L2
namespace L2
open PySem PySem.Spec PyProof.Rows
def SqL (K:PySem.W.Frag) (H:Hp) (a:Addr) (xs:List V):Prop :=
 Rd H a (.lst xs) ∨
  ∃ (o:Obj) (its:Array Value) (n:Nat),K.lookup a = some o∧o.cls = .type "list"∧o.dict = none∧o.data = .seq its n∧its.size≤sizeLine∧Vals xs its.toList
def SqT (K:PySem.W.Frag) (H:Hp) (a:Addr) (xs:List V):Prop :=
 Rd H a (.tup xs) ∨
  ∃ (o:Obj) (its:Array Value) (n:Nat),K.lookup a = some o∧o.cls = .type "tuple"∧o.data = .seq its n∧its.size≤sizeLine∧Vals xs its.toList
def absV:Value→Option V
 | .none=>some .non
 | .bool b=>some (.bl b)
 | .int i _=>some (.int i)
 | .str x _=>some (.str x)
 | .bytes b _=>some (.byt b)
 | .float b _=>some (.flt b)
 | .ref a=>some (.ref a)
 | .type n=>some (.ty n)
 | _=>none
theorem RelV.abs {x:V} {u:Value} (r:RelV x u):absV u = some x:=by
 cases x with
 | non=>cases r;rfl
 | bl _=>cases r;rfl
 | int _=>obtain ⟨t,rfl⟩:=r;rfl
 | str _=>obtain ⟨t,rfl⟩:=r;rfl
 | byt _=>obtain ⟨t,rfl⟩:=r;rfl
 | flt _=>obtain ⟨t,rfl⟩:=r;rfl
 | ref _=>cases r;rfl
 | ty _=>cases r;rfl
theorem RelV.inj {x y:V} {u:Value} (r:RelV x u) (q:RelV y u):x = y:=Option.some.inj (r.abs.symm.trans q.abs)
theorem Vals.inj:∀ {xs ys:List V} {us:List Value},Vals xs us→Vals ys us→xs = ys
 | _,_,_,.nil,.nil=>rfl
 | _,_,_,.cons r t,.cons r' t'=>by rw [r.inj r',Vals.inj t t']
section
variable {X:Cx} {pins:List (Addr×Obj)} {σ:St} {H:Hp} {s:Shared} {a:Addr} {xs ys:List V}
theorem SqL.of {K:PySem.W.Frag} (h:H a = some (.lst xs)):SqL K H a xs:=.inl (.inl h)
theorem SqT.of {K:PySem.W.Frag} (h:H a = some (.tup xs)):SqT K H a xs:=.inl (.inl h)
theorem Inv.list (I:Inv X pins σ H s) (h:SqL X.K H a xs):∃ its:List Value,Vals xs its∧PlainL s.heap a its.toArray∧xs.length≤sizeLine:=by
 rcases h with h | ⟨o,its,n,hk,hc,hd,hs,hz,r⟩
 ·obtain ⟨z,its,n,r,e⟩:=h.ok I.hok
  exact ⟨its,r,⟨_,n,e,rfl,rfl,rfl⟩,z⟩
 ·refine ⟨its.toList,r,⟨o,n,I.kIn a o hk,hc,hd,by simpa using hs⟩,?_⟩
  have e:=r.length
  simp only [Array.length_toList] at e
  omega
theorem Inv.tuple (I:Inv X pins σ H s) (h:SqT X.K H a xs):∃ its:List Value,Vals xs its∧IsTup s.heap a its.toArray∧xs.length≤sizeLine:=by
 rcases h with h | ⟨o,its,n,hk,hc,hs,hz,r⟩
 ·obtain ⟨z,its,r,p⟩:=h.ok I.hok
  exact ⟨its,r,p,z⟩
 ·refine ⟨its.toList,r,⟨o,I.kIn a o hk,hc,n,by simpa using hs⟩,?_⟩
  have e:=r.length
  simp only [Array.length_toList] at e
  omega
theorem Inv.list_inj (I:Inv X pins σ H s) (h:SqL X.K H a xs) (h':SqL X.K H a ys):xs = ys:=by
 obtain ⟨its,r,⟨o,n,e,_,_,d⟩,_⟩:=I.list h
 obtain ⟨its',r',⟨o',n',e',_,_,d'⟩,_⟩:=I.list h'
 rw [e] at e';cases e'
 rw [d] at d'
 injection d' with d1 _
 have:its = its':=by simpa using congrArg Array.toList d1
 subst this
 exact r.inj r'
theorem Inv.tuple_inj (I:Inv X pins σ H s) (h:SqT X.K H a xs) (h':SqT X.K H a ys):xs = ys:=by
 obtain ⟨its,r,⟨o,e,_,n,d⟩,_⟩:=I.tuple h
 obtain ⟨its',r',⟨o',e',_,n',d'⟩,_⟩:=I.tuple h'
 rw [e] at e';cases e'
 rw [d] at d'
 injection d' with d1 _
 have:its = its':=by simpa using congrArg Array.toList d1
 subst this
 exact r.inj r'
end
abbrev Cx.wish (X:Cx) (E:Value→Shared→Prop):Cx:={ X with xe:=E }
abbrev Cx.nox (X:Cx):Cx:=X.wish fun _ _=>False
theorem Cx.Ok.wish {X:Cx} (ok:X.Ok) (E:Value→Shared→Prop):(X.wish E).Ok :=
 ⟨ok.mod,ok.kind,ok.glob,ok.blt,ok.above,ok.inj,ok.has,ok.cab,ok.hd,ok.frames,ok.stk,ok.exf,ok.bs,ok.bsz,ok.noex,ok.exfs,ok.funs,ok.frf⟩
theorem Cx.Ok.unwish {X:Cx} {E:Value→Shared→Prop} (ok:(X.wish E).Ok):X.Ok :=
 ⟨ok.mod,ok.kind,ok.glob,ok.blt,ok.above,ok.inj,ok.has,ok.cab,ok.hd,ok.frames,ok.stk,ok.exf,ok.bs,ok.bsz,ok.noex,ok.exfs,ok.funs,ok.frf⟩
section
variable {X:Cx} {pins:List (Addr×Obj)} {σ:St} {H:Hp} {s:Shared} {E:Value→Shared→Prop}
theorem Inv.wish (I:Inv X pins σ H s) (E:Value→Shared→Prop):Inv (X.wish E) pins σ H s:=⟨I.ok.wish E,I.os,I.bare,I.base,I.loc,I.cell,I.free,I.freeC,I.pin,I.hok,I.len⟩
theorem Inv.unwish (I:Inv (X.wish E) pins σ H s):Inv X pins σ H s:=⟨I.ok.unwish,I.os,I.bare,I.base,I.loc,I.cell,I.free,I.freeC,I.pin,I.hok,I.len⟩
theorem SP.unwish {D:Ends} {f:Flow} {s':Shared} (h:SP (X.wish E) pins D f s'):SP X pins D f s':=by
 cases f with
 | next=>obtain ⟨σ',H',I,q⟩:=h;exact ⟨σ',H',I.unwish,q⟩
 | brk=>obtain ⟨σ',H',I,q⟩:=h;exact ⟨σ',H',I.unwish,q⟩
 | cont=>obtain ⟨σ',H',I,q⟩:=h;exact ⟨σ',H',I.unwish,q⟩
 | ret u=>obtain ⟨v,σ',H',I,r,q⟩:=h;exact ⟨v,σ',H',I.unwish,r,q⟩
theorem PSs.nox {st:List Stmt} {t:TS} (h:PSs X.nox st t):PSs X st t:=fun pins s σ H D I hw =>
 wpAny_mono (h pins s σ H D (I.wish _) hw) (fun _ _ q=>q.unwish) fun _ _ z=>False.elim z
end
section
variable {X:Cx} {st:Stmt} {rest:List Stmt} {t u:TS} {e:Expr} {te:TE} {pos:Pos}
def tNext:TS:=fun D σ H=>D.nx σ H
def tSeq (t u:TS):TS:=fun D σ H=>t { D with nx:=u D } σ H
theorem pss_nil:PSs X [] tNext:=fun _ _ σ H _ I h=>wpAny_execs_nil ⟨σ,H,I,h⟩
theorem pss_cons (h1:PS X st t) (h2:PSs X rest u):PSs X (st :: rest) (tSeq t u):=by
 intro pins s σ H D I h
 refine wpAny_execs_cons (thn (h1 pins s σ H { D with nx:=u D } I h) fun f s1 q=>?_)
 cases f with
 | next =>
  obtain ⟨σ',H',I',q⟩:=q
  exact h2 pins s1 σ' H' D I' q
 | ret v=>exact q
 | brk=>exact q
 | cont=>exact q
theorem pss_one (h1:PS X st t):PSs X [st] t:=by
 intro pins s σ H D I h
 refine wpAny_execs_cons (thn (h1 pins s σ H D I h) fun f s1 q=>?_)
 cases f with
 | next=>exact wpAny_execs_nil q
 | ret v=>exact q
 | brk=>exact q
 | cont=>exact q
theorem Inv.quiet {pins:List (Addr×Obj)} {σ:St} {H:Hp} {s:Shared} (I:Inv X pins σ H s):interactive X.env = false:=by simp [interactive,I.ok.kind]
def tDrop (te:TE):TS:=fun D σ H=>te σ H fun _ H1=>D.nx σ H1
theorem ps_expr (he:PE X e te) (hs:swapsWith e none pos.line X.env = pure false:=by rfl):PS X (.Expr e pos) (tDrop te):=by
 intro pins s σ H D I h
 exact wpAny_Expr_any (thn (he pins s σ H _ I h) fun v s1 ⟨x,H1,I1,r1,q1⟩=>⟨σ,H1,I1,q1⟩) I.quiet hs
def tRet (te:TE):TS:=fun D σ H=>te σ H D.rt
theorem ps_ret (he:PE X e te):PS X (.Return (some e) pos) (tRet te):=by
 intro pins s σ H D I h
 exact wpAny_Return_some (thn (he pins s σ H _ I h) fun v s1 ⟨x,H1,I1,r1,q1⟩=>⟨x,σ,H1,I1,r1,q1⟩)
def tIfS (c:TT) (t u:TS):TS:=fun D σ H=>c σ H fun b H1=>if b = true then t D σ H1 else u D σ H1
theorem ps_if {c:Expr} {a b:List Stmt} {tc:TT} (hc:PT X c tc) (ha:PSs X a t) (hb:PSs X b u):PS X (.If c a b pos) (tIfS tc t u):=by
 intro pins s σ H D I h
 refine wpAny_If (thn (hc pins s σ H _ I h) fun d s1 ⟨H1,I1,q1⟩=>?_)
 cases d with
 | true=>exact ha pins s1 σ H1 D I1 q1
 | false=>exact hb pins s1 σ H1 D I1 q1
def tNever:TS:=fun _ _ _=>False
theorem pss_never {sts:List Stmt}:PSs X sts tNever:=fun _ _ _ _ _ _ h=>h.elim
end
abbrev TG:=V→St→Hp→(St→Hp→Prop)→Prop
abbrev TGs:=List V→St→Hp→(St→Hp→Prop)→Prop
def PG (X:Cx) (target:Expr) (t:TG):Prop :=
 ∀ (pins:List (Addr×Obj)) (s:Shared) (σ:St) (H:Hp) (v:V) (u:Value) (Q:St→Hp→Prop),Inv X pins σ H s→RelV v u→t v σ H Q →
  wpAny (model X.prog X.w) X.A (assign target X.env u) (fun _ s'=>∃ σ' H',Inv X pins σ' H' s'∧Q σ' H') X.xe s
def PGs (X:Cx) (ts:List Expr) (t:TGs):Prop :=
 ∀ (pins:List (Addr×Obj)) (s:Shared) (σ:St) (H:Hp) (vs:List V) (us:List Value) (Q:St→Hp→Prop),Inv X pins σ H s→Vals vs us→t vs σ H Q →
  wpAny (model X.prog X.w) X.A (assignInOrder ((assignEach ts X.env).map (·.2)) us) (fun _ s'=>∃ σ' H',Inv X pins σ' H' s'∧Q σ' H') X.xe s
section
variable {X:Cx} {pos:Pos}
def gName (i:Nat):TG:=fun v σ H Q=>Q (σ.set i (some v)) H
theorem pg_name {i:Nat} {x:Str} (hN:X.N.Nodup) (hi:X.N[i]? = some x) (hx:Loc X.env.scope x) (hf:X.fn x = true∨X.env.scope.names.lookup x = some .local:=by first | exact .inl rfl | exact .inr rfl | assumption):PG X (.Name x pos) (gName i):=by
 intro pins s σ H v u Q I r h
 exact wpAny_assign_Name (store_ok I hN hi hx r (fun s' I'=>⟨_,H,I',h⟩) hf)
def gNil:TGs:=fun vs σ H Q=>vs = []∧Q σ H
def gCons (t:TG) (u:TGs):TGs:=fun vs σ H Q=>∃ v r,vs = v :: r∧t v σ H fun σ' H'=>u r σ' H' Q
theorem pgs_nil:PGs X [] gNil:=by
 intro pins s σ H vs us Q I r h
 obtain ⟨e,h⟩:=h
 subst e
 cases r
 exact assignInOrder_nil ⟨σ,H,I,h⟩
theorem pgs_cons {e:Expr} {es:List Expr} {t:TG} {u:TGs} (h1:PG X e t) (h2:PGs X es u)
  (hs:(assignEach (e :: es) X.env).map (·.2) = assign e X.env :: (assignEach es X.env).map (·.2):=by rfl):PGs X (e :: es) (gCons t u):=by
 intro pins s σ H vs us Q I r h
 obtain ⟨v,vr,e1,h⟩:=h
 subst e1
 cases r with
 | cons r rr =>
  rw [hs]
  refine assignInOrder_cons (thn (h1 pins s σ H _ _ _ I r h) fun _ s1 ⟨σ1,H1,I1,q1⟩=>?_)
  exact h2 pins s1 σ1 H1 _ _ Q I1 rr q1
def gTup (K:PySem.W.Frag) (n:Nat) (t:TGs):TG:=fun v σ H Q=>∃ a xs,v = .ref a∧SqT K H a xs∧xs.length = n∧t xs σ H Q
theorem pg_tup {es:List Expr} {k:Nat} {t:TGs} {n:Nat} (hc:X.calm = true) (h:PGs X es t)
  (hn:(assignEach es X.env).length = n:=by rfl) (hst:(assignEach es X.env).findIdx? (·.1) = none:=by rfl):PG X (.Tuple es k pos) (gTup X.K n t):=by
 intro pins s σ H v u Q I r hw
 obtain ⟨a,xs,e1,hq,hl,hw⟩:=hw
 subst e1
 cases r
 obtain ⟨its,rv,ht,hz⟩:=I.tuple hq
 refine assign_Tuple_tuple (I.ok.hd hc) ht (by simp [hn,← hl,rv.length]) hst fun h' hx=>?_
 have I1:Inv X pins σ H { s with heap:=h' }:=I.kept (t':=s.toks) fun b o e=>hx b o (Nat.ne_of_lt (Heap.lt_size e)) e
 exact h pins _ σ H xs _ Q I1 (by simpa using rv) hw
def tAsg (te:TE) (g:TG):TS:=fun D σ H=>te σ H fun x H1=>g x σ H1 D.nx
theorem ps_asg {tg e:Expr} {te:TE} {g:TG} (he:PE X e te) (hg:PG X tg g) (hs:swapsWithSole [tg] e pos.line X.env = pure false:=by rfl) (hw:swappedStores [tg] e X.env = pure none:=by rfl)
  (h1:(assignEach [tg] X.env).map (·.2) = [assign tg X.env]:=by rfl):PS X (.Assign [tg] e pos) (tAsg te g):=by
 intro pins s σ H D I h
 refine wpAny_Assign_stores (thn (he pins s σ H _ I h) fun v s1 ⟨x,H1,I1,r1,q1⟩=>?_) hs hw
 rw [h1]
 exact thn (hg pins s1 σ H1 x v _ I1 r1 q1) fun _ s2 q=>q
theorem ps_set {i:Nat} {x:Str} {e:Expr} {te:TE} {pos':Pos} (hN:X.N.Nodup) (hi:X.N[i]? = some x) (hx:Loc X.env.scope x) (he:PE X e te) (hs:swapsWith e (some (.Name x pos')) pos.line X.env = pure false:=by rfl) (hf:X.fn x = true∨X.env.scope.names.lookup x = some .local:=by first | exact .inl rfl | exact .inr rfl | assumption) :
  PS X (.Assign [.Name x pos'] e pos) (tAsg te (gName i)):=by
 intro pins s σ H D I h
 refine wpAny_Assign_Name (thn (he pins s σ H _ I h) fun v s1 ⟨y,H1,I1,r1,q1⟩=>?_) hs
 exact store_ok I1 hN hi hx r1 (fun s2 I2=>⟨_,H1,I2,q1⟩) hf
def tPar (i j:Nat) (ta:TA):TS:=fun D σ H=>ta σ H fun vs H1=>∃ v w,vs = [v,w]∧D.nx ((σ.set i (some v)).set j (some w)) H1
theorem ps_par {i j:Nat} {x y:Str} {a b:Expr} {ta:TA} {px py pt:Pos} {kt k2 pt2} (hc:X.calm = true) (hN:X.N.Nodup) (hi:X.N[i]? = some x) (hj:X.N[j]? = some y) (hij:i≠j)
  (hx:X.env.scope.names.lookup x = some .local) (hy:X.env.scope.names.lookup y = some .local) (ha:PA X [a,b] ta)
  (hw:swappedStores [.Tuple [.Name x px,.Name y py] kt pt] (.Tuple [a,b] k2 pt2) X.env = pure (some [x,y]))
  (hs:swapsWithSole [.Tuple [.Name x px,.Name y py] kt pt] (.Tuple [a,b] k2 pt2) pos.line X.env = pure false:=by rfl) :
  PS X (.Assign [.Tuple [.Name x px,.Name y py] kt pt] (.Tuple [a,b] k2 pt2) pos) (tPar i j ta):=by
 intro pins s σ H D I h
 rw [exec_Assign_arm]
 refine wpAny_bind (wpAny_standAt ?_)
 rw [hs]
 refine wpAny_bind (wpAny_pure ?_)
 rw [if_neg (by decide)]
 refine wpAny_bind (Tuple_ (thn (ha _ pins s σ H _ I h) fun us s1 ⟨vs,H1,I1,r1,q1⟩=>?_))
 obtain ⟨v,w,e1,q1⟩:=q1
 subst e1
 obtain ⟨u1,u2,rfl,rv,rw'⟩:∃ u1 u2,us = [u1,u2]∧RelV v u1∧RelV w u2:=by
  cases r1 with
  | cons p q =>
   cases q with
   | cons p' q' =>
    cases q'
    exact ⟨_,_,rfl,p,p'⟩
 refine wpAny_newObj_type ?_ (by show 2≤sizeLine;decide)
 have I2:Inv X pins σ H1 { s1 with heap:=s1.heap.push { cls:=.type "tuple",data:=.seq [u1,u2].toArray } }:=I1.kept (t':=s1.toks) fun b o e=>Heap.get?_push_of_some _ e
 rw [hw]
 refine wpAny_bind (wpAny_pure ?_)
 show wpAny (model X.prog X.w) X.A (do rule "assign.swapped-stores";let items ← unpackItems (.ref s1.heap.objs.size) 2 none;assignInOrder [fun v=>bindName X.env y v,fun v=>bindName X.env x v] items.reverse;pure Flow.next) _ _ _
 refine wpAny_bind (wpAny_rule (wpAny_bind (unpackItems_tuple (items:=#[u1,u2]) (I.ok.hd hc) (IsTup.new s1.heap _) fun h' hx'=>?_)))
 have I3:=I2.kept (h':=h') (t':=s1.toks) fun b o e=>hx' b o (Nat.ne_of_lt (Heap.lt_size e)) e
 show wpAny _ _ (assignInOrder [fun v=>bindName X.env y v,fun v=>bindName X.env x v] [u2,u1] >>= fun _=>pure Flow.next) _ _ _
 refine wpAny_bind (assignInOrder_cons (wpAny_bindName (store_ok I3 hN hj (.inl hy) rw' (fun s2 I4=>?_) (.inr hy))))
 refine assignInOrder_cons (wpAny_bindName (store_ok I4 hN hi (.inl hx) rv (fun s3 I5=>assignInOrder_nil (wpAny_pure ?_)) (.inr hx)))
 rw [List.set_comm _ _ (Ne.symm hij)] at I5
 exact ⟨_,H1,I5,q1⟩
end
section
variable {X:Cx} {pos:Pos}
def tWhile (c:TT) (tb:TS):TS:=fun D σ H=>∃ W:Nat→St→Hp→Prop,(∃ m,W m σ H)∧∀ m σ H,W m σ H →
 c σ H fun b H1=>if b = true then ∃ N:St→Hp→Prop,(∀ σ' H',N σ' H'→∃ m',m' < m∧W m' σ' H')∧tb { D with nx:=N,ct:=N,bk:=D.nx } σ H1 else D.nx σ H1
theorem ps_while {c:Expr} {body:List Stmt} {tc:TT} {tb:TS} (hp:PassesOwn (model X.prog X.w) X.A X.env X.xe) (hc:PT X c tc) (hb:PSs X body tb):PS X (.While c body [] pos) (tWhile tc tb):=by
 intro pins s σ H D I h
 obtain ⟨W,⟨m0,w0⟩,turn⟩:=h
 refine wpAny_While (codeAny_whileLoop (fun n s'=>∃ σ' H',Inv X pins σ' H' s'∧W n σ' H') ?_ m0 ⟨σ,H,I,w0⟩)
 rintro n s1 ⟨σ1,H1,I1,w1⟩
 refine wpAny_passesOwn hp (thn (hc pins s1 σ1 H1 _ I1 (turn n σ1 H1 w1)) fun b s2 ⟨H2,I2,q2⟩=>?_)
 cases b with
 | true =>
  obtain ⟨N,hN,q2⟩:=q2
  rw [if_pos rfl]
  refine wpAny_passesOwn hp (thn (hb pins s2 σ1 H2 _ I2 q2) fun f s3 q3=>?_)
  cases f with
  | next =>
   obtain ⟨σ3,H3,I3,n3⟩:=q3
   obtain ⟨m',hm,w3⟩:=hN σ3 H3 n3
   exact ⟨m',hm,σ3,H3,I3,w3⟩
  | cont =>
   obtain ⟨σ3,H3,I3,n3⟩:=q3
   obtain ⟨m',hm,w3⟩:=hN σ3 H3 n3
   exact ⟨m',hm,σ3,H3,I3,w3⟩
  | brk=>exact q3
  | ret v=>exact q3
 | false =>
  rw [if_neg Bool.false_ne_true]
  exact wpAny_execs_nil ⟨σ1,H2,I2,q2⟩
end
structure It where
 go:Nat→Hp→Prop
 yld:Nat→Hp→V→Hp→Prop
 stop:Nat→Hp→Prop
def FpOk (X:Cx) (pins:List (Addr×Obj)) (H:Hp) (b:Addr):Prop :=
 H b = none∧b≠X.env.locals∧b ∉ X.fs∧(b∈X.ex∨X.s₀.heap.objs.size≤b)∧(∀ x c,X.env.cells.lookup x = some c→c≠b)∧∀ p∈X.pn++pins,p.1≠b
theorem Inv.fpOk {X:Cx} {pins:List (Addr×Obj)} {σ:St} {H H':Hp} {s:Shared} {b:Addr} (I:Inv X pins σ H s) (hb:s.heap.objs.size≤b) (hn:H' b = none):FpOk X pins H' b:=by
 refine ⟨hn,Nat.ne_of_gt (Nat.lt_of_lt_of_le I.lt hb),I.nofs hb,.inr (Nat.le_trans I.sz hb),fun x c e z=>?_,fun p hp z=>?_⟩
 ·obtain ⟨v,q⟩:=I.cell x c e
  exact absurd (Nat.lt_of_lt_of_le q.lt (by rw [z];exact hb)) (Nat.lt_irrefl _)
 ·exact absurd (Nat.lt_of_lt_of_le (Heap.lt_size (I.pin p hp).1) (by rw [z];exact hb)) (Nat.lt_irrefl _)
structure Turn (P:Program) (w:World) (K:PySem.W.Frag) (tg:Expr) (J:It) (fp:List Addr) (it:Addr) (tn:Nat→Heap→Prop):Prop where
 mem:it∈fp
 obj:∀ i h,tn i h→∀ b∈fp,∃ o,h.get? b = some o∧∀ v,o.data≠.cell v
 keep:∀ i h h',tn i h→(∀ b∈fp,∀ o,h.get? b = some o→h'.get? b = some o)→tn i h'
 item:∀ (X:Cx),X.prog = P→X.w = w→X.K = K→X.calm = true→∀ (i:Nat) (pins:List (Addr×Obj)) (s:Shared) (σ:St) (H:Hp) (E:Value→Shared→Prop),Inv X pins σ H s→(∀ b∈fp,FpOk X pins H b)→tn i s.heap→J.go i H →
  wpAny (model P w) X.A (pyNext (.ref it)) (fun r s1=>∃ u,r = some u ∧
   wpAny (model P w) X.A (letOwnedTupleGo tg (.ref it) u) (fun _ s2=>∃ x H',Inv X pins σ H' s2∧RelV x u∧J.yld i H x H'∧tn (i + 1) s2.heap∧∀ b∈fp,H' b = none) E s1) E s
 done:∀ (X:Cx),X.prog = P→X.w = w→X.K = K→X.calm = true→∀ (i:Nat) (pins:List (Addr×Obj)) (s:Shared) (σ:St) (H:Hp) (E:Value→Shared→Prop),Inv X pins σ H s→(∀ b∈fp,FpOk X pins H b)→tn i s.heap→J.stop i H →
  wpAny (model P w) X.A (pyNext (.ref it)) (fun r s1=>r = none∧Inv X pins σ H s1) E s
 self:∀ (A:Around) (i:Nat) (s:Shared) (Q:Value→Shared→Prop) (E:Value→Shared→Prop),tn i s.heap→Q (.ref it) s→wpAny (model P w) A (pyIter (.ref it)) Q E s
abbrev TI:=St→Hp→(It→Hp→Prop)→Prop
def PIE (X:Cx) (pins:List (Addr×Obj)) (σ:St) (tg:Expr) (R:It→Hp→Prop) (itv:Value) (s2:Shared):Prop :=
 ∃ (it:Addr) (fp:List Addr) (tn:Nat→Heap→Prop) (J:It) (H':Hp),itv = .ref it∧Inv X pins σ H' s2∧Turn X.prog X.w X.K tg J fp it tn∧tn 0 s2.heap∧(∀ b∈fp,FpOk X pins H' b)∧R J H'
def PI (X:Cx) (tg iter:Expr) (wi:TI):Prop :=
 ∀ (pins:List (Addr×Obj)) (s:Shared) (σ:St) (H:Hp) (R:It→Hp→Prop),Inv X pins σ H s→wi σ H R →
  wpAny (model X.prog X.w) X.A (eval iter X.env) (fun v s1=>wpAny (model X.prog X.w) X.A (pyIter v) (PIE X pins σ tg R) X.xe s1) X.xe s
theorem go_of {M:Model} {A:Around} {E:Value→Shared→Prop} {s:Shared} {tg:Expr} {it:Addr} {u:Value} {o:Obj} {n:String} {vs:Array Value} {Q:Unit→Shared→Prop} (ho:s.heap.get? it = some o) (hc:o.cls = .type n) (hd:o.data = .fields vs)
  (hn:["enumerate", "zip", "dict_itemiterator", "dict_reverseitemiterator", "odict_iterator", "itertools.zip_longest", "itertools.pairwise"].contains n = false) (hQ:Q () s):wpAny M A (letOwnedTupleGo tg (.ref it) u) Q E s:=by
 unfold letOwnedTupleGo
 cases tg <;> first
  | exact wpAny_pure hQ
  | (cases u <;> first
    | exact wpAny_pure hQ
    | (refine wpAny_bind (wpAny_load ho ?_)
       rw [hc,hd]
       show wpAny M A (if (["enumerate", "zip", "dict_itemiterator", "dict_reverseitemiterator", "odict_iterator", "itertools.zip_longest", "itertools.pairwise"].contains n && vs[0]? == some (rawInt _)) = true then _ else _) Q E s
       rw [if_neg (by intro h;rw [hn,Bool.false_and] at h;cases h)]
       exact wpAny_pure hQ))
def Itl (K:PySem.W.Frag) (a:Addr):It :=
 ⟨fun i H=>∃ xs x,SqL K H a xs∧xs[i]? = some x,fun i H x H'=>H' = H∧∀ xs,SqL K H a xs→xs[i]? = some x,fun i H=>∃ xs,SqL K H a xs∧xs.length≤i⟩
def Itr (lo:Int) (n:Nat):It:=⟨fun i _=>i < n,fun i H x H'=>H' = H∧x = .int (lo + i),fun i _=>n≤i⟩
theorem turn_list {P:Program} {w:World} {K:PySem.W.Frag} {tg:Expr} (a it:Addr):Turn P w K tg (Itl K a) [it] it (fun i h=>h.IsListIter it a i) where
 mem:=by simp
 obj:=fun i h st b hb=>by
  have e:b = it:=by simpa using hb
  subst e
  obtain ⟨o,e,c,d⟩:=st
  exact ⟨o,e,fun v z=>by rw [d] at z;cases z⟩
 keep:=fun i h h' st k=>st.at fun o e=>k it (by simp) o e
 item:=by
  intro X hP hw hK hc i pins s σ H E I hf st hg
  subst hP hw hK
  obtain ⟨xs,x,hq,hx⟩:=hg
  obtain ⟨its,rv,p,hz⟩:=I.list hq
  obtain ⟨u,hu,ru⟩:=rv.get hx
  obtain ⟨f0,f1,f2,f3,f4,f5⟩:=hf it (by simp)
  refine wpAny_pyNext_list_item st p.isList (x:=u) (by simpa using hu) fun h' st' sb=>?_
  have I1:Inv X pins σ H { s with heap:=h' }:=I.turned (t':=s.toks) (fun b o hb e=>(sb.2 b hb).trans e) f0 f1 f3 f4 f5
  obtain ⟨o,e,c,d⟩:=id st'
  exact ⟨u,rfl,go_of (s:={ s with heap:=h' }) e c d (by decide) ⟨x,H,I1,ru,⟨rfl,fun ys hy=>by rw [I.list_inj hy hq];exact hx⟩,st',fun b hb=>(hf b hb).1⟩⟩
 done:=by
  intro X hP hw hK hc i pins s σ H E I hf st hg
  subst hP hw hK
  obtain ⟨xs,hq,hx⟩:=hg
  obtain ⟨its,rv,p,hz⟩:=I.list hq
  obtain ⟨f0,f1,f2,f3,f4,f5⟩:=hf it (by simp)
  have hl:=rv.length
  exact wpAny_pyNext_list_end (I.ok.hd hc) st p.isList (by simp;omega) fun h' eb=>⟨rfl,I.turned (t':=s.toks) (fun b o hb e=>eb b o hb e) f0 f1 f3 f4 f5⟩
 self:=fun _ _ _ _ _ st h=>wpAny_pyIter_listiter st h
theorem turn_range {P:Program} {w:World} {K:PySem.W.Frag} {tg:Expr} (it:Addr) (lo:Int) (n:Nat):Turn P w K tg (Itr lo n) [it] it (fun i h=>IsRangeIter h it (lo + (i:Nat) * 1) ((n:Int) - (i:Nat)) 1) where
 mem:=by simp
 obj:=fun i h st b hb=>by
  have e:b = it:=by simpa using hb
  subst e
  exact ⟨_,st,fun v z=>by
   have z':Data.fields _ = Data.cell v:=z
   cases z'⟩
 keep:=fun i h h' st k=>k it (by simp) _ st
 item:=by
  intro X hP hw hK hc i pins s σ H E I hf st hg
  subst hP hw hK
  obtain ⟨f0,f1,f2,f3,f4,f5⟩:=hf it (by simp)
  have W:=Walks.range (prog:=X.prog) (w:=X.w) (I.ok.hd hc) it lo 1 n
  refine W.item i s _ _ hg st fun v h' tk hv st' kk=>?_
  obtain ⟨t,rfl⟩:=hv
  have I1:Inv X pins σ H { s with heap:=h',toks:=tk }:=I.turned (fun b o hb e=>kk b o (by simpa using hb) e) f0 f1 f3 f4 f5
  refine ⟨_,rfl,go_of (s:={ s with heap:=h',toks:=tk }) (n:="range_iterator") st' rfl rfl (by decide) ⟨.int (lo + i),H,I1,⟨t,?_⟩,⟨rfl,rfl⟩,st',fun b hb=>(hf b hb).1⟩⟩
  rw [Int.mul_one]
 done:=by
  intro X hP hw hK hc i pins s σ H E I hf st hg
  subst hP hw hK
  obtain ⟨f0,f1,f2,f3,f4,f5⟩:=hf it (by simp)
  exact wpAny_pyNext_range_end (I.ok.hd hc) st (by have:n≤i:=hg;omega) fun h' eb=>⟨rfl,I.turned (t':=s.toks) (fun b o hb e=>eb b o hb e) f0 f1 f3 f4 f5⟩
 self:=fun _ _ _ _ _ st h=>wpAny_pyIter_rangeiter st h
end L2
namespace L2
open PySem PySem.Spec PyProof.Rows
section
variable {X:Cx} {tg:Expr}
def iList (K:PySem.W.Frag) (tl:TE):TI:=fun σ H R=>tl σ H fun x H1=>∃ a,x = .ref a∧(∃ xs,SqL K H1 a xs)∧R (Itl K a) H1
theorem pi_list {l:Expr} {tl:TE} (hl:PE X l tl):PI X tg l (iList X.K tl):=by
 intro pins s σ H R I h
 refine thn (hl pins s σ H _ I h) fun v s1 ⟨x,H1,I1,r1,q1⟩=>?_
 obtain ⟨a,e,⟨xs,hq⟩,q⟩:=q1
 subst e
 cases r1
 obtain ⟨its,rv,p,hz⟩:=I1.list hq
 refine wpAny_pyIter_list p.isList ?_
 refine ⟨s1.heap.objs.size,[s1.heap.objs.size],_,_,H1,rfl,I1.kept (t':=s1.toks) fun b o e=>Heap.get?_push_of_some _ e,turn_list a _,⟨_,Heap.get?_push_size _ rfl,rfl,rfl⟩,fun b hb=>?_,q⟩
 have e:b = s1.heap.objs.size:=by simpa using hb
 subst e
 exact I1.fpOk (Nat.le_refl _) (I1.hok.fresh (Nat.le_refl _))
theorem range_it {pins:List (Addr×Obj)} {σ:St} {H:Hp} {s:Shared} {R:It→Hp→Prop} {E:Value→Shared→Prop} {lo hi:Int} {t u v:Tok} {tk:Nat} (I:Inv X pins σ H s) (h1:-(2 ^ 62)≤lo) (h2:lo < 2 ^ 62) (h3:-(2 ^ 62)≤hi) (h4:hi < 2 ^ 62)
  (q:R (Itr lo (hi - lo).toNat) H):wpAny (model X.prog X.w) X.A (pyIter (.ref s.heap.objs.size)) (PIE X pins σ tg R) E { s with heap:=s.heap.push { cls:=.type "range",data:=.fields #[.int lo t,.int hi u,.int 1 v] },toks:=tk }:=by
 refine wpAny_pyIter_range (IsRange.new ..) (small_one h1 h2 h3 h4) ?_
 have I1:Inv X pins σ H { s with heap:=s.heap.push { cls:=.type "range",data:=.fields #[.int lo t,.int hi u,.int 1 v] },toks:=tk }:=I.kept fun b o e=>Heap.get?_push_of_some _ e
 refine ⟨(s.heap.push { cls:=.type "range",data:=.fields #[.int lo t,.int hi u,.int 1 v] }).objs.size,[(s.heap.push { cls:=.type "range",data:=.fields #[.int lo t,.int hi u,.int 1 v] }).objs.size],_,_,H,rfl,
  I1.kept (t':=tk) fun b o e=>Heap.get?_push_of_some _ e,turn_range _ lo (hi - lo).toNat,?_,fun b hb=>?_,q⟩
 ·have e1:lo + ((0:Nat):Int) * 1 = lo:=by simp
  have e2:(((hi - lo).toNat:Nat):Int) - ((0:Nat):Int) = Builtin.Range.rangeSize lo hi 1:=by rw [rangeSize_one];split <;> omega
  show IsRangeIter _ _ (lo + ((0:Nat):Int) * 1) ((((hi - lo).toNat:Nat):Int) - ((0:Nat):Int)) 1
  rw [e1,e2]
  exact Heap.get?_push_size _ rfl
 ·have e:b = (s.heap.push { cls:=.type "range",data:=.fields #[.int lo t,.int hi u,.int 1 v] }).objs.size:=by simpa using hb
  subst e
  exact I1.fpOk (Nat.le_refl _) (I1.hok.fresh (Nat.le_refl _))
def iRng1 (ta:TA):TI:=fun σ H R=>ta σ H fun vs H1=>∃ j:Int,vs = [.int j]∧-(2 ^ 62)≤j∧j < 2 ^ 62∧R (Itr 0 j.toNat) H1
theorem pi_range1 {a:Expr} {ta:TA} {p pos:Pos} (hg:Gl X "range") (hm:X.mg "range" = none) (ha:PA X [a] ta) (hs:starEach [a] X.env = [(false,eval a X.env)]:=by rfl):PI X tg (.Call (.Name "range" p) [a] [] pos) (iRng1 ta):=by
 intro pins s σ H R I h
 refine Call_ (ld_blt I hg hm boot_range (PyProof.Rows.callWith_type1 (thn (ha pos pins s σ H _ I h) fun us s1 ⟨vs,H1,I1,r1,q1⟩=>?_) hs rfl))
 obtain ⟨j,e,q1,q2,q⟩:=q1
 subst e
 cases r1 with
 | cons r rr =>
  cases rr
  obtain ⟨t,rfl⟩:=r
  exact call_range_1 (range_it I1 (by omega) (by omega) q1 q2 (by simpa using q))
def tFor (wi:TI) (g:TG) (tb:TS):TS:=fun D σ H=>wi σ H fun J H1=>∃ W:Nat→Nat→St→Hp→Prop,(∃ m,W 0 m σ H1)∧∀ i m σ H,W i m σ H →
 (J.stop i H∧D.nx σ H)∨(J.go i H∧∃ N:St→Hp→Prop,(∀ σ' H',N σ' H'→∃ m',m' < m∧W (i + 1) m' σ' H')∧∀ x H',J.yld i H x H'→g x σ H' fun σ2 H2=>tb { D with nx:=N,ct:=N,bk:=D.nx } σ2 H2)
def pinsAt (fp:List Addr) (h:Heap):List (Addr×Obj):=fp.filterMap fun b=>(h.get? b).map fun o=>(b,o)
theorem mem_pinsAt {fp:List Addr} {h:Heap} {b:Addr} {o:Obj} (hb:b∈fp) (e:h.get? b = some o):(b,o)∈pinsAt fp h:=List.mem_filterMap.mpr ⟨b,hb,by rw [e];rfl⟩
theorem of_pinsAt {fp:List Addr} {h:Heap} {p:Addr×Obj} (hp:p∈pinsAt fp h):p.1∈fp∧h.get? p.1 = some p.2:=by
 obtain ⟨b,hb,e⟩:=List.mem_filterMap.mp hp
 cases q:h.get? b with
 | none=>rw [q] at e;cases e
 | some o =>
  rw [q] at e
  have e':(b,o) = p:=Option.some.inj e
  subst e'
  exact ⟨hb,q⟩
theorem Inv.pinned {pins:List (Addr×Obj)} {σ:St} {H:Hp} {s:Shared} {fp:List Addr} (I:Inv X pins σ H s) (hf:∀ b∈fp,FpOk X pins H b) (ho:∀ b∈fp,∃ o,s.heap.get? b = some o∧∀ v,o.data≠.cell v):Inv X (pins++pinsAt fp s.heap) σ H s :=
 I.pins_of fun p hp=>(List.mem_append.mp hp).elim (fun z=>I.pin p (List.mem_append_right _ z)) fun z=>by
  obtain ⟨hb,e⟩:=of_pinsAt z
  obtain ⟨f0,f1,f2,_⟩:=hf p.1 hb
  obtain ⟨o,e',d⟩:=ho p.1 hb
  rw [e] at e';cases e'
  exact ⟨e,f0,f1,f2,d⟩
theorem Inv.unpinned {pins pl:List (Addr×Obj)} {σ:St} {H:Hp} {s:Shared} (I:Inv X (pins++pl) σ H s):Inv X pins σ H s:=I.pins_of fun p hp=>I.pin p (List.mem_append_right _ (List.mem_append_left _ hp))
theorem ps_for {iter:Expr} {body:List Stmt} {wi:TI} {g:TG} {tb:TS} {pos:Pos} (hp:PassesOwn (model X.prog X.w) X.A X.env X.xe) (hc:X.calm = true) (hi:PI X tg iter wi) (hg:PG X tg g) (hb:PSs X body tb)
  (hs:∀ x,foldedSetIterable iter X.env x = pure x:=by intro _;rfl):PS X (.For tg iter body [] pos) (tFor wi g tb):=by
 intro pins s σ H D I h
 refine wpAny_For (thn (hi pins s σ H _ I h) fun v s1 h1=>thn h1 fun itv s2 h2=>?_) hs
 obtain ⟨it,fp,tn,J,H2,e,I2,T,st2,f2,W,⟨m0,w0⟩,turn⟩:=h2
 subst e
 have stat:∀ {H':Hp},(∀ b∈fp,H' b = none)→∀ b∈fp,FpOk X pins H' b:=fun hn b hb=>⟨hn b hb,(f2 b hb).2⟩
 refine codeAny_forLoop_any (fun n s'=>∃ i σ' H',Inv X pins σ' H' s'∧tn i s'.heap∧(∀ b∈fp,H' b = none)∧W i n σ' H') ?_ m0 ⟨0,σ,H2,I2,st2,fun b hb=>(f2 b hb).1,w0⟩
 rintro n s3 ⟨i,σ3,H3,I3,st3,fr3,w3⟩
 rcases turn i n σ3 H3 w3 with ⟨stop,qn⟩ | ⟨go,N,hN,step⟩
 ·refine wpAny_passesOwn hp (thn (T.done X rfl rfl rfl hc i pins s3 σ3 H3 X.xe I3 (stat fr3) st3 stop) fun r s4 ⟨hr,I4⟩=>?_)
  subst hr
  exact wpAny_execs_nil ⟨σ3,H3,I4,qn⟩
 ·refine wpAny_passesOwn hp (thn (T.item X rfl rfl rfl hc i pins s3 σ3 H3 X.xe I3 (stat fr3) st3 go) fun r s4 ⟨u,hr,h4⟩=>?_)
  subst hr
  refine wpAny_passesOwn hp (thn h4 fun _ s5 ⟨x,H5,I5,r5,y5,st5,fr5⟩=>?_)
  have I5':=I5.pinned (stat fr5) (T.obj _ _ st5)
  refine wpAny_passesOwn hp (thn (hg _ s5 σ3 H5 x u _ I5' r5 (step x H5 y5)) fun _ s6 ⟨σ6,H6,I6,q6⟩=>?_)
  refine wpAny_passesOwn hp (thn (hb _ s6 σ6 H6 _ I6 q6) fun f s7 q7=>?_)
  have again:∀ {σ7:St} {H7:Hp},Inv X (pins++pinsAt fp s5.heap) σ7 H7 s7→N σ7 H7→∃ m,m < n∧∃ i σ' H',Inv X pins σ' H' s7∧tn i s7.heap∧(∀ b∈fp,H' b = none)∧W i m σ' H':=fun {σ7 H7} I7 n7=>by
   obtain ⟨m',hm,w7⟩:=hN σ7 H7 n7
   refine ⟨m',hm,i + 1,σ7,H7,I7.unpinned,T.keep _ _ _ st5 fun b hb o e=>(I7.pin (b,o) (List.mem_append_right _ (List.mem_append_right _ (mem_pinsAt hb e)))).1,fun b hb=>?_,w7⟩
   obtain ⟨o,e,d⟩:=T.obj _ _ st5 b hb
   exact (I7.pin (b,o) (List.mem_append_right _ (List.mem_append_right _ (mem_pinsAt hb e)))).2.1
  cases f with
  | next=>obtain ⟨σ7,H7,I7,n7⟩:=q7;exact again I7 n7
  | cont=>obtain ⟨σ7,H7,I7,n7⟩:=q7;exact again I7 n7
  | brk=>obtain ⟨σ7,H7,I7,q7⟩:=q7;exact ⟨σ7,H7,I7.unpinned,q7⟩
  | ret v=>obtain ⟨x7,σ7,H7,I7,r7,q7⟩:=q7;exact ⟨x7,σ7,H7,I7.unpinned,r7,q7⟩
end
theorem for_list {K:PySem.W.Frag} {a:Addr} {xs:List V} {g:TG} {tb:TS} {D:Ends} {σ:St} {H:Hp} (Pv:Nat→St→Hp→Prop) (h0:Pv 0 σ H) (hl:∀ i σ H,i≤xs.length→Pv i σ H→SqL K H a xs)
  (hs:∀ i x σ H,xs[i]? = some x→Pv i σ H→g x σ H fun σ2 H2=>tb { D with nx:=Pv (i + 1),ct:=Pv (i + 1),bk:=D.nx } σ2 H2) (hd:∀ σ H,Pv xs.length σ H→D.nx σ H) :
  ∃ W:Nat→Nat→St→Hp→Prop,(∃ m,W 0 m σ H)∧∀ i m σ H,W i m σ H →
   ((Itl K a).stop i H∧D.nx σ H)∨((Itl K a).go i H∧∃ N:St→Hp→Prop,(∀ σ' H',N σ' H'→∃ m',m' < m∧W (i + 1) m' σ' H')∧∀ x H',(Itl K a).yld i H x H'→g x σ H' fun σ2 H2=>tb { D with nx:=N,ct:=N,bk:=D.nx } σ2 H2):=by
 refine ⟨fun i m σ H=>m = xs.length - i∧i≤xs.length∧Pv i σ H,⟨xs.length,by simp,Nat.zero_le _,h0⟩,?_⟩
 rintro i m σ H ⟨rfl,hi,p⟩
 have q:=hl i σ H hi p
 by_cases hlt:i < xs.length
 ·refine .inr ⟨⟨xs,xs[i],q,by simp [hlt]⟩,Pv (i + 1),fun σ' H' p'=>⟨xs.length - (i + 1),by omega,rfl,hlt,p'⟩,fun x H' y=>?_⟩
  obtain ⟨e,y⟩:=y
  subst e
  exact hs i x σ _ (y xs q) p
 ·have e:i = xs.length:=by omega
  subst e
  exact .inl ⟨⟨xs,q,Nat.le_refl _⟩,hd σ H p⟩
theorem for_range {lo:Int} {n:Nat} {g:TG} {tb:TS} {D:Ends} {σ:St} {H:Hp} (Pv:Nat→St→Hp→Prop) (h0:Pv 0 σ H)
  (hs:∀ i σ H,i < n→Pv i σ H→g (.int (lo + i)) σ H fun σ2 H2=>tb { D with nx:=Pv (i + 1),ct:=Pv (i + 1),bk:=D.nx } σ2 H2) (hd:∀ σ H,Pv n σ H→D.nx σ H) :
  ∃ W:Nat→Nat→St→Hp→Prop,(∃ m,W 0 m σ H)∧∀ i m σ H,W i m σ H →
   ((Itr lo n).stop i H∧D.nx σ H)∨((Itr lo n).go i H∧∃ N:St→Hp→Prop,(∀ σ' H',N σ' H'→∃ m',m' < m∧W (i + 1) m' σ' H')∧∀ x H',(Itr lo n).yld i H x H'→g x σ H' fun σ2 H2=>tb { D with nx:=N,ct:=N,bk:=D.nx } σ2 H2):=by
 refine ⟨fun i m σ H=>m = n - i∧i≤n∧Pv i σ H,⟨n,by simp,Nat.zero_le _,h0⟩,?_⟩
 rintro i m σ H ⟨rfl,hi,p⟩
 by_cases hlt:i < n
 ·refine .inr ⟨hlt,Pv (i + 1),fun σ' H' p'=>⟨n - (i + 1),by omega,rfl,hlt,p'⟩,fun x H' y=>?_⟩
  obtain ⟨e,y⟩:=y
  subst e y
  exact hs i σ _ hlt p
 ·have e:i = n:=by omega
  subst e
  exact .inl ⟨Nat.le_refl _,hd σ H p⟩
theorem while_by {c:TT} {tb:TS} {D:Ends} {σ:St} {H:Hp} (Pv:St→Hp→Prop) (μ:St→Hp→Nat) (h0:Pv σ H)
  (hs:∀ σ H,Pv σ H→c σ H fun b H1=>if b = true then tb { D with nx:=fun σ' H'=>Pv σ' H'∧μ σ' H' < μ σ H,ct:=fun σ' H'=>Pv σ' H'∧μ σ' H' < μ σ H,bk:=D.nx } σ H1 else D.nx σ H1)
  (mono:∀ σ H Q Q',(∀ b H1,Q b H1→Q' b H1)→c σ H Q→c σ H Q'):tWhile c tb D σ H:=by
 refine ⟨fun m σ H=>m = μ σ H∧Pv σ H,⟨_,rfl,h0⟩,?_⟩
 rintro m σ H ⟨rfl,p⟩
 refine mono σ H _ _ (fun b H1 q=>?_) (hs σ H p)
 cases b with
 | true=>exact ⟨_,fun σ' H' ⟨p',l⟩=>⟨_,l,rfl,p'⟩,q⟩
 | false=>exact q
end L2
namespace L2
open PySem PySem.Spec PyProof.Rows
abbrev R2:=V→V→Hp→VK→Prop
def OpR (X:Cx) (f:Value→Value→Sem Value) (r:R2):Prop :=
 ∀ (pins:List (Addr×Obj)) (s:Shared) (σ:St) (H:Hp) (x y:V) (v u:Value) (Q:VK),Inv X pins σ H s→RelV x v→RelV y u→r x y H Q →
  wpAny (model X.prog X.w) X.A (f v u) (EP X pins σ Q) X.xe s
def UnR (X:Cx) (f:Value→Sem Value) (r:V→Hp→VK→Prop):Prop :=
 ∀ (pins:List (Addr×Obj)) (s:Shared) (σ:St) (H:Hp) (x:V) (v:Value) (Q:VK),Inv X pins σ H s→RelV x v→r x H Q →
  wpAny (model X.prog X.w) X.A (f v) (EP X pins σ Q) X.xe s
def CallR (X:Cx) (f:Value) (r:List V→Hp→VK→Prop):Prop :=
 ∀ (pins:List (Addr×Obj)) (s:Shared) (σ:St) (H:Hp) (xs:List V) (us:List Value) (Q:VK),Inv X pins σ H s→Vals xs us→r xs H Q →
  wpAny (model X.prog X.w) X.A (call f us) (EP X pins σ Q) X.xe s
def tOp (r:R2) (ta tb:TE):TE:=fun σ H Q=>ta σ H fun x H1=>tb σ H1 fun y H2=>r x y H2 Q
def tUn (r:V→Hp→VK→Prop) (ta:TE):TE:=fun σ H Q=>ta σ H fun x H1=>r x H1 Q
def rI (C:Int→Int→Prop) (g:Int→Int→V):R2:=fun x y H Q=>∃ i j,x = .int i∧y = .int j∧C i j∧Q (g i j) H
def rI0 (g:Int→Int→V):R2:=fun x y H Q=>∃ i j,x = .int i∧y = .int j∧Q (g i j) H
def rU (g:Int→V):V→Hp→VK→Prop:=fun x H Q=>∃ i,x = .int i∧Q (g i) H
section
variable {X:Cx} {a b c:Expr} {ta tb tc:TE} {pos:Pos}
theorem binT (ha:PE X a ta) (hb:PE X b tb) {pins:List (Addr×Obj)} {s:Shared} {σ:St} {H:Hp} {R:V→V→Hp→Prop} (I:Inv X pins σ H s)
  (h:ta σ H fun x H1=>tb σ H1 fun y H2=>R x y H2) {Q:Value→Shared→Prop} {f:Value→Value→Sem Value}
  (hf:∀ v u s2 x y H2,Inv X pins σ H2 s2→RelV x v→RelV y u→R x y H2→wpAny (model X.prog X.w) X.A (f v u) Q X.xe s2) :
  wpAny (model X.prog X.w) X.A (eval a X.env) (fun v s₁=>wpAny (model X.prog X.w) X.A (eval b X.env) (fun u s₂=>wpAny (model X.prog X.w) X.A (f v u) Q X.xe s₂) X.xe s₁) X.xe s:=by
 refine thn (ha pins s σ H _ I h) fun v s1 ⟨x,H1,I1,r1,q1⟩=>?_
 refine thn (hb pins s1 σ H1 _ I1 q1) fun u s2 ⟨y,H2,I2,r2,q2⟩=>?_
 exact hf v u s2 x y H2 I2 r1 r2 q2
theorem pe_op {op:Operator} {r:R2} (ho:OpR X (binaryOp op) r) (ha:PE X a ta) (hb:PE X b tb):PE X (.BinOp a op b pos) (tOp r ta tb):=by
 intro pins s σ H Q I h
 exact wpAny_BinOp (binT ha hb I h fun v u s2 x y H2 I2 rx ry q=>ho pins s2 σ H2 x y v u Q I2 rx ry q)
theorem pe_un {op:UnaryOp} {r:V→Hp→VK→Prop} (ho:UnR X (unaryOp op) r) (ha:PE X a ta):PE X (.UnaryOp op a pos) (tUn r ta):=by
 intro pins s σ H Q I h
 exact UnaryOp_ (thn (ha pins s σ H _ I h) fun v s1 ⟨x,H1,I1,r1,q1⟩=>ho pins s1 σ H1 x v Q I1 r1 q1)
theorem opI {f:Value→Value→Sem Value} {C:Int→Int→Prop} {g:Int→Int→Int}
  (rule:∀ (i j:Int) (t u:Tok) (s:Shared) (Q:Value→Shared→Prop) (E:Value→Shared→Prop),C i j→Q (.int (g i j) s.toks) { s with toks:=s.toks + 1 }→wpAny (model X.prog X.w) X.A (f (.int i t) (.int j u)) Q E s) :
  OpR X f (rI C fun i j=>.int (g i j)):=by
 intro pins s σ H x y v u Q I rx ry h
 obtain ⟨i,j,rfl,rfl,hc,q⟩:=h
 obtain ⟨t,rfl⟩:=rx
 obtain ⟨t',rfl⟩:=ry
 exact rule i j t t' s _ _ hc ⟨.int (g i j),H,I.tok _,⟨_,rfl⟩,q⟩
theorem opI0 {f:Value→Value→Sem Value} {g:Int→Int→Int}
  (rule:∀ (i j:Int) (t u:Tok) (s:Shared) (Q:Value→Shared→Prop) (E:Value→Shared→Prop),Q (.int (g i j) s.toks) { s with toks:=s.toks + 1 }→wpAny (model X.prog X.w) X.A (f (.int i t) (.int j u)) Q E s) :
  OpR X f (rI0 fun i j=>.int (g i j)):=by
 intro pins s σ H x y v u Q I rx ry h
 obtain ⟨i,j,rfl,rfl,q⟩:=h
 obtain ⟨t,rfl⟩:=rx
 obtain ⟨t',rfl⟩:=ry
 exact rule i j t t' s _ _ ⟨.int (g i j),H,I.tok _,⟨_,rfl⟩,q⟩
theorem opB0 {f:Value→Value→Sem Value} {g:Int→Int→Bool}
  (rule:∀ (i j:Int) (t u:Tok) (s:Shared) (Q:Value→Shared→Prop) (E:Value→Shared→Prop),Q (.bool (g i j)) s→wpAny (model X.prog X.w) X.A (f (.int i t) (.int j u)) Q E s) :
  OpR X f (rI0 fun i j=>.bl (g i j)):=by
 intro pins s σ H x y v u Q I rx ry h
 obtain ⟨i,j,rfl,rfl,q⟩:=h
 obtain ⟨t,rfl⟩:=rx
 obtain ⟨t',rfl⟩:=ry
 exact rule i j t t' s _ _ ⟨.bl (g i j),H,I,rfl,q⟩
def CDiv (i j:Int):Prop:=0 < j∧j < 1073741824
def CPow (i j:Int):Prop:=0≤j∧j≤1000000∧i.natAbs < 2 ^ 64
def CMul (i j:Int):Prop:=(-(2 ^ 64) < i∧i < 2 ^ 64)∨(-(2 ^ 64) < j∧j < 2 ^ 64)
theorem CMul.ok {i j:Int} (h:CMul i j):IntMulOk i j:=by
 rcases h with ⟨h1,h2⟩ | ⟨h1,h2⟩
 ·exact .of_left (intBits_le_64 h1 h2)
 ·exact .of_right (intBits_le_64 h1 h2)
theorem op_add:OpR X (binaryOp .Add) (rI0 fun i j=>.int (i + j)):=opI0 fun _ _ _ _ _ _ _ q=>add_int q
theorem op_sub:OpR X (binaryOp .Sub) (rI0 fun i j=>.int (i - j)):=opI0 fun _ _ _ _ _ _ _ q=>sub_int q
theorem op_mul:OpR X (binaryOp .Mult) (rI CMul fun i j=>.int (i * j)):=opI fun _ _ _ _ _ _ _ hc q=>mul_int q hc.ok
theorem op_fdiv:OpR X (binaryOp .FloorDiv) (rI CDiv fun i j=>.int (i / j)):=opI fun i j _ _ _ _ _ hc q=>by
 have h1:(0:Int) < j:=hc.1
 have h2:j < 1073741824:=hc.2
 exact floordiv_int (by omega) (by rw [Int.fdiv_eq_ediv_of_nonneg i (by omega)];exact q) (.inl (PyProof.noPylong_small (by omega)))
theorem op_mod:OpR X (binaryOp .Mod) (rI (fun _ j=>0 < j) fun i j=>.int (i % j)):=opI fun i j _ _ _ _ _ hc q=>by
 have h1:(0:Int) < j:=hc
 exact mod_int' (by omega) (by rw [Int.fmod_eq_emod_of_nonneg i (by omega)];exact q)
theorem op_pow:OpR X (binaryOp .Pow) (rI CPow fun i j=>.int (i ^ j.toNat)):=opI fun _ _ _ _ _ _ _ hc q=>pow_int_small hc.1 hc.2.1 hc.2.2 q
theorem unI {f:Value→Sem Value} {g:Int→Int}
  (rule:∀ (i:Int) (t:Tok) (s:Shared) (Q:Value→Shared→Prop) (E:Value→Shared→Prop),Q (.int (g i) s.toks) { s with toks:=s.toks + 1 }→wpAny (model X.prog X.w) X.A (f (.int i t)) Q E s) :
  UnR X f (rU fun i=>.int (g i)):=by
 intro pins s σ H x v Q I rx h
 obtain ⟨i,rfl,q⟩:=h
 obtain ⟨t,rfl⟩:=rx
 exact rule i t s _ _ ⟨.int (g i),H,I.tok _,⟨_,rfl⟩,q⟩
theorem un_neg:UnR X (unaryOp .USub) (rU fun i=>.int (-i)):=unI fun _ _ _ _ _ q=>neg_int q
end
def scal:V→V→Bool
 | .non,.non=>true | .non,.int _=>true | .int _,.non=>true | .non,.bl _=>true | .bl _,.non=>true | .non,.str _=>true | .str _,.non=>true
 | .int _,.int _=>true | .bl _,.bl _=>true | .str _,.str _=>true | .byt _,.byt _=>true
 | .int _,.str _=>true | .str _,.int _=>true | .bl _,.str _=>true | .str _,.bl _=>true
 | _,_=>false
def rEq:R2:=fun x y H Q=>scal x y = true∧Q (.bl (decide (x = y))) H
def rNe:R2:=fun x y H Q=>scal x y = true∧Q (.bl (!decide (x = y))) H
theorem dec_int {i j:Int}:decide (V.int i = V.int j) = (i == j):=by
 rw [Bool.eq_iff_iff]
 simp
theorem dec_bl {i j:Bool}:decide (V.bl i = V.bl j) = (i == j):=by
 rw [Bool.eq_iff_iff]
 simp
theorem dec_str {i j:Str}:decide (V.str i = V.str j) = (i == j):=by
 rw [Bool.eq_iff_iff]
 simp
theorem dec_byt {i j:Array UInt8}:decide (V.byt i = V.byt j) = (i.toList == j.toList):=by
 rw [Bool.eq_iff_iff]
 cases i
 cases j
 simp
section
variable {X:Cx} {a b c:Expr} {ta tb tc:TE} {pos:Pos}
theorem fin_bl {pins:List (Addr×Obj)} {σ:St} {H:Hp} {s:Shared} {Q:VK} {k k':Bool} (I:Inv X pins σ H s) (q:Q (.bl k) H) (e:k = k'):EP X pins σ Q (.bool k') s:=by
 subst e
 exact ⟨.bl k,H,I,rfl,q⟩
theorem op_eq:OpR X (compareOp .Eq) rEq:=by
 intro pins s σ H x y v u Q I rx ry h
 obtain ⟨hs,q⟩:=h
 cases x with
 | non =>
  cases rx
  cases y with
  | non=>cases ry;exact PySem.EqNone.eq_none_none (fin_bl I q (by simp))
  | bl j=>cases ry;exact PySem.EqNone.eq_none_bool (fin_bl I q (by simp))
  | int j=>obtain ⟨t',rfl⟩:=ry;exact PySem.EqNone.eq_none_int (fin_bl I q (by simp))
  | str j=>obtain ⟨t',rfl⟩:=ry;exact PySem.EqNone.eq_none_str (fin_bl I q (by simp))
  | _=>exact absurd (show false = true from hs) Bool.false_ne_true
 | bl i =>
  cases rx
  cases y with
  | non=>cases ry;exact PySem.EqNone.eq_bool_none (fin_bl I q (by simp))
  | bl j=>cases ry;exact eq_bool (fin_bl I q dec_bl)
  | str j=>obtain ⟨t',rfl⟩:=ry;exact PySem.EqMixed.eq_bool_str (fin_bl I q (by simp))
  | _=>exact absurd (show false = true from hs) Bool.false_ne_true
 | int i =>
  obtain ⟨t,rfl⟩:=rx
  cases y with
  | non=>cases ry;exact PySem.EqNone.eq_int_none (fin_bl I q (by simp))
  | int j=>obtain ⟨t',rfl⟩:=ry;exact eq_int (fin_bl I q dec_int)
  | str j=>obtain ⟨t',rfl⟩:=ry;exact PySem.EqMixed.eq_int_str (fin_bl I q (by simp))
  | _=>exact absurd (show false = true from hs) Bool.false_ne_true
 | str i =>
  obtain ⟨t,rfl⟩:=rx
  cases y with
  | non=>cases ry;exact PySem.EqNone.eq_str_none (fin_bl I q (by simp))
  | bl j=>cases ry;exact PySem.EqMixed.eq_str_bool (fin_bl I q (by simp))
  | int j=>obtain ⟨t',rfl⟩:=ry;exact PySem.EqMixed.eq_str_int (fin_bl I q (by simp))
  | str j=>obtain ⟨t',rfl⟩:=ry;exact eq_str (fin_bl I q dec_str)
  | _=>exact absurd (show false = true from hs) Bool.false_ne_true
 | byt i =>
  obtain ⟨t,rfl⟩:=rx
  cases y with
  | byt j=>obtain ⟨t',rfl⟩:=ry;exact PySem.W.eq_bytes (fin_bl I q dec_byt)
  | _=>exact absurd (show false = true from hs) Bool.false_ne_true
 | _=>cases y <;> exact absurd (show false = true from hs) Bool.false_ne_true
theorem op_ne:OpR X (compareOp .NotEq) rNe:=by
 intro pins s σ H x y v u Q I rx ry h
 obtain ⟨hs,q⟩:=h
 cases x with
 | non =>
  cases rx
  cases y with
  | non=>cases ry;exact PySem.EqNone.ne_none_none (fin_bl I q (by simp))
  | bl j=>cases ry;exact PySem.EqNone.ne_none_bool (fin_bl I q (by simp))
  | int j=>obtain ⟨t',rfl⟩:=ry;exact PySem.EqNone.ne_none_int (fin_bl I q (by simp))
  | str j=>obtain ⟨t',rfl⟩:=ry;exact PySem.EqNone.ne_none_str (fin_bl I q (by simp))
  | _=>exact absurd (show false = true from hs) Bool.false_ne_true
 | bl i =>
  cases rx
  cases y with
  | non=>cases ry;exact PySem.EqNone.ne_bool_none (fin_bl I q (by simp))
  | bl j=>cases ry;exact ne_bool (fin_bl I q (congrArg not dec_bl))
  | str j=>obtain ⟨t',rfl⟩:=ry;exact PySem.EqMixed.ne_bool_str (fin_bl I q (by simp))
  | _=>exact absurd (show false = true from hs) Bool.false_ne_true
 | int i =>
  obtain ⟨t,rfl⟩:=rx
  cases y with
  | non=>cases ry;exact PySem.EqNone.ne_int_none (fin_bl I q (by simp))
  | int j=>obtain ⟨t',rfl⟩:=ry;exact ne_int (fin_bl I q (congrArg not dec_int))
  | str j=>obtain ⟨t',rfl⟩:=ry;exact PySem.EqMixed.ne_int_str (fin_bl I q (by simp))
  | _=>exact absurd (show false = true from hs) Bool.false_ne_true
 | str i =>
  obtain ⟨t,rfl⟩:=rx
  cases y with
  | non=>cases ry;exact PySem.EqNone.ne_str_none (fin_bl I q (by simp))
  | bl j=>cases ry;exact PySem.EqMixed.ne_str_bool (fin_bl I q (by simp))
  | int j=>obtain ⟨t',rfl⟩:=ry;exact PySem.EqMixed.ne_str_int (fin_bl I q (by simp))
  | str j=>obtain ⟨t',rfl⟩:=ry;exact ne_str (fin_bl I q (congrArg not dec_str))
  | _=>exact absurd (show false = true from hs) Bool.false_ne_true
 | byt i =>
  obtain ⟨t,rfl⟩:=rx
  cases y with
  | byt j=>obtain ⟨t',rfl⟩:=ry;exact PySem.W.ne_bytes (fin_bl I q (congrArg not dec_byt))
  | _=>exact absurd (show false = true from hs) Bool.false_ne_true
 | _=>cases y <;> exact absurd (show false = true from hs) Bool.false_ne_true
theorem op_lt:OpR X (compareOp .Lt) (rI0 fun i j=>.bl (decide (i < j))):=opB0 fun _ _ _ _ _ _ _ q=>lt_int q
theorem op_le:OpR X (compareOp .LtE) (rI0 fun i j=>.bl (decide (i≤j))):=opB0 fun _ _ _ _ _ _ _ q=>le_int q
theorem op_gt:OpR X (compareOp .Gt) (rI0 fun i j=>.bl (decide (j < i))):=opB0 fun _ _ _ _ _ _ _ q=>gt_int q
theorem op_notN:OpR X (compareOp .IsNot) (fun x y H Q=>y = .non∧Q (.bl (!decide (x = .non))) H):=by
 intro pins s σ H x y v u Q I rx ry h
 obtain ⟨rfl,q⟩:=h
 cases ry
 refine isnot_none_gen (fin_bl I q ?_)
 cases x <;> first
  | (cases rx;rfl)
  | (obtain ⟨t,rfl⟩:=rx;rfl)
theorem nomark (b:Expr) {op:CmpOp} (h:op≠.In:=by decide) (h2:op≠.NotIn:=by decide):behindInMarks op b = false:=by
 have e1:(op == CmpOp.In) = false:=by cases op <;> first | rfl | exact absurd rfl h
 have e2:(op == CmpOp.NotIn) = false:=by cases op <;> first | rfl | exact absurd rfl h2
 cases b <;> simp [behindInMarks,e1,e2]
theorem pe_cmpR {op:CmpOp} {r:R2} (ho:OpR X (compareOp op) r) (ha:PE X a ta) (hb:PE X b tb) (hm:behindInMarks op b = false):PE X (.Compare a [op] [b] pos) (tOp r ta tb):=by
 intro pins s σ H Q I h
 exact wpAny_Compare1 (binT ha hb I h fun v u s2 x y H2 I2 rx ry q=>ho pins s2 σ H2 x y v u Q I2 rx ry q) hm
def tTest (t:TE):TT:=fun σ H Q=>t σ H fun x H'=>∃ k,x = .bl k∧Q k H'
theorem pt_cmpR {op:CmpOp} {r:R2} (ho:OpR X (compareOp op) r) (ha:PE X a ta) (hb:PE X b tb) (hm:behindInMarks op b = false):PT X (.Compare a [op] [b] pos) (tTest (tOp r ta tb)):=by
 intro pins s σ H Q I h
 refine wpAny_isTrue_Compare1 (thn (ha pins s σ H _ I h) fun v s1 ⟨x,H1,I1,r1,q1⟩=>thn (hb pins s1 σ H1 _ I1 q1) fun u s2 ⟨y,H2,I2,r2,q2⟩ =>
  thn (ho pins s2 σ H2 x y v u _ I2 r1 r2 q2) fun c s3 ⟨z,H3,I3,r3,k,e,q3⟩=>?_) hm
 subst e
 cases r3
 exact wpAny_truthy_bool ⟨H3,I3,q3⟩
def tChain (r r':R2) (ta tb tc:TE):TE:=fun σ H Q=>ta σ H fun x H1=>tb σ H1 fun y H2=>r x y H2 fun z H3=>∃ k,z = .bl k ∧
 (if k = true then tc σ H3 fun w' H4=>r' y w' H4 Q else Q (.bl false) H3)
theorem pe_chain {op op':CmpOp} {r r':R2} (ho:OpR X (compareOp op) r) (ho':OpR X (compareOp op') r') (ha:PE X a ta) (hb:PE X b tb) (hc:PE X c tc)
  (hm:lastMarks [op,op'] [b,c] = false:=by with_unfolding_all rfl):PE X (.Compare a [op,op'] [b,c] pos) (tChain r r' ta tb tc):=by
 intro pins s σ H Q I h
 refine Compare_chain (thn (ha pins s σ H _ I h) fun v s1 ⟨x,H1,I1,r1,q1⟩=>chain_link (thn (hb pins s1 σ H1 _ I1 q1) fun u s2 ⟨y,H2,I2,r2,q2⟩ =>
  thn (ho pins s2 σ H2 x y v u _ I2 r1 r2 q2) fun d s3 ⟨z,H3,I3,r3,k,e,q3⟩=>?_)) hm
 subst e
 cases r3
 refine wpAny_truthy_bool ?_
 cases k with
 | false=>exact ite_ff ⟨.bl false,H3,I3,rfl,q3⟩
 | true=>exact ite_tt (chain_last (thn (hc pins s3 σ H3 _ I3 q3) fun w' s4 ⟨z',H4,I4,r4,q4⟩=>ho' pins s4 σ H4 y z' u w' Q I4 r2 r4 q4))
theorem line63:(sizeLine:Nat) < 2 ^ 63:=by rw [sizeLine_eq];decide
theorem op_add_str:OpR X (binaryOp .Add) (fun x y H Q=>∃ i j,x = .str i∧y = .str j∧i.length + j.length≤sizeLine∧Q (.str (i++j)) H):=by
 intro pins s σ H x y v u Q I rx ry h
 obtain ⟨i,j,rfl,rfl,hz,q⟩:=h
 obtain ⟨t,rfl⟩:=rx
 obtain ⟨t',rfl⟩:=ry
 exact add_str (fun t' tk=>⟨.str (i++j),H,I.tok _,⟨_,rfl⟩,q⟩) hz
theorem vals1 {x:V} {us:List Value} (r:Vals [x] us):∃ u,us = [u]∧RelV x u:=by
 cases r with
 | cons r1 r2=>cases r2;exact ⟨_,rfl,r1⟩
theorem vals2 {x y:V} {us:List Value} (r:Vals [x,y] us):∃ u w',us = [u,w']∧RelV x u∧RelV y w':=by
 cases r with
 | cons r1 r2 =>
  cases r2 with
  | cons r3 r4=>cases r4;exact ⟨_,_,rfl,r1,r3⟩
theorem call_abs:CallR X (.builtin "abs") (fun xs H Q=>∃ i,xs = [.int i]∧Q (.int (if i < 0 then -i else i)) H):=by
 intro pins s σ H xs us Q I r h
 obtain ⟨i,rfl,q⟩:=h
 obtain ⟨u,rfl,t,rfl⟩:=vals1 r
 exact call_abs_int fun u tk=>⟨.int (if i < 0 then -i else i),H,I.tok _,⟨_,rfl⟩,q⟩
theorem call_max2 (hc:X.calm = true):CallR X (.builtin "max") (fun xs H Q=>∃ i j,xs = [.int i,.int j]∧Q (.int (if j > i then j else i)) H):=by
 intro pins s σ H xs us Q I r h
 obtain ⟨i,j,rfl,q⟩:=h
 obtain ⟨u,w',rfl,⟨t,rfl⟩,⟨t',rfl⟩⟩:=vals2 r
 refine max_two_ints (I.ok.hd hc) fun h' tk k=>⟨_,H,I.kept k,?_,q⟩
 by_cases hj:j > i
 ·rw [if_pos hj,if_pos hj];exact ⟨_,rfl⟩
 ·rw [if_neg hj,if_neg hj];exact ⟨_,rfl⟩
theorem call_min2 (hc:X.calm = true):CallR X (.builtin "min") (fun xs H Q=>∃ i j,xs = [.int i,.int j]∧Q (.int (if j < i then j else i)) H):=by
 intro pins s σ H xs us Q I r h
 obtain ⟨i,j,rfl,q⟩:=h
 obtain ⟨u,w',rfl,⟨t,rfl⟩,⟨t',rfl⟩⟩:=vals2 r
 refine min_two_ints (I.ok.hd hc) fun h' tk k=>⟨_,H,I.kept k,?_,q⟩
 by_cases hj:j < i
 ·rw [if_pos hj,if_pos hj];exact ⟨_,rfl⟩
 ·rw [if_neg hj,if_neg hj];exact ⟨_,rfl⟩
end
end L2
namespace L2
open PySem PySem.Spec PyProof.Rows
structure ObjM (h:Heap) (x dx C:Addr) (mA:Str→Option Value):Prop where
 obj:h.get? x = some (PySem.W.instObj C dx)
 ns:h.Ns1 dx mA
 ne:dx≠x
theorem lookIn_ns {h:Heap} {dx:Addr} {mA:Str→Option Value} (n:h.Ns1 dx mA):∃ od,h.get? dx = some od∧∀ name,PySem.W.lookIn name od = some (mA name):=by
 obtain ⟨o,es,ep,ho,hd,hk,_,hm⟩:=n
 refine ⟨o,ho,fun name=>?_⟩
 have e:=hm name
 unfold nsFind findBy at e
 rw [← Array.find?_toList] at e
 unfold PySem.W.lookIn
 rw [hd]
 dsimp only
 split
 ·rename_i y q
  rw [q] at e
  exact congrArg some e
 ·rename_i q
  rw [q] at e
  have a:es.toList.any (·.refKey) = false:=by
   rw [List.any_eq_false]
   intro y hy
   obtain ⟨z,t,hkey⟩:=hk y (Array.mem_toList_iff.mp hy)
   simp [DictEntry.refKey,hkey]
  have a':¬ es.toList.any (·.refKey) = true:=by rw [a];exact Bool.false_ne_true
  rw [if_neg a']
  exact congrArg some e
theorem ObjM.look {h:Heap} {x dx C:Addr} {mA:Str→Option Value} (I:ObjM h x dx C mA):∃ od,PySem.W.InstAt h x (PySem.W.instObj C dx) C (some od)∧∀ name,PySem.W.lookIn name od = some (mA name) :=
 let ⟨od,ho,hl⟩:=lookIn_ns I.ns
 ⟨od,⟨I.obj,rfl,rfl,ho⟩,hl⟩
section
variable {prog:Program} {w:World} {A:Around} {E:Value→Shared→Prop} {s:Shared} {K:PySem.W.Frag} {x dx C f:Addr} {mA:Str→Option Value} {name:Str} {v:Value}
theorem get_map {expr:Bool} {Q:Value→Shared→Prop} (X:K.In s.heap) (I:ObjM s.heap x dx C mA) (hg:PySem.W.plainGet K C name = true) (hh:PySem.W.hasDictIn K C = true)
  (ha:PySem.W.findIn K (.ref C) name = some none) (hv:mA name = some v) (hv':PySem.W.handedIn v = true) (h:Q v { s with toks:=s.toks + 1 }) :
  wpAny (model prog w) A (getAttr (.ref x) name expr) Q E s:=by
 obtain ⟨od,J,hl⟩:=I.look
 exact PySem.W.get_value X J (PySem.W.plainGet_of hg).1 (PySem.W.findObj_own hh ha rfl (by rw [hl,hv])) hv' h
theorem get_meth {pl:Sem Bool} {Q:Value×List Value→Shared→Prop} (X:K.In s.heap) (I:ObjM s.heap x dx C mA) (hg:PySem.W.plainGet K C name = true)
  (hf:PySem.W.findIn K (.ref C) name = some (some (.ref f))) (ht:PySem.W.isFn K (.ref f) = true) (hv:mA name = none) (h:Q (.ref f,[.ref x]) s) :
  wpAny (model prog w) A (getMethod (.ref x) name pl) Q E s:=by
 obtain ⟨od,J,hl⟩:=I.look
 exact PySem.W.method_fn X J (PySem.W.plainGet_of hg).1 (PySem.W.plainGet_of hg).2 hf (beq_iff_eq.mp ht) (by show (PySem.W.lookIn name od).map (·.isSome) = some false;rw [hl,hv];rfl) h
theorem set_map {ns:List Str} {Q:Unit→Shared→Prop} (X:K.In s.heap) (I:ObjM s.heap x dx C mA)
  (hs:PySem.W.findIn K (.ref C) "__setattr__" = some (some (.builtin "object.__setattr__"))) (hp:PySem.W.plainOver K C = true) (ht:PySem.W.takerIn K C name = some none) (hh:PySem.W.hasDictIn K C = true)
  (hw:PySem.Within mA ns) (hsz:ns.length≤sizeLine)
  (h:∀ h',ObjM h' x dx C (fun y=>if y = name then some v else mA y)→Heap.SameBut dx s.heap h'→Q () { s with heap:=h',toks:=s.toks + 2 }) :
  wpAny (model prog w) A (setAttr (.ref x) name v) Q E s:=by
 obtain ⟨od,J,hl⟩:=I.look
 refine PySem.W.set_plain X J hs (PySem.W.osa_open (s:={ s with toks:=s.toks + 1 }) (r:=none) X J hp ht fun b=>?_)
 obtain ⟨cd,hc,hd'⟩:=PySem.W.any_some hh
 have hx:s.heap.get? x = some ⟨.ref C,some dx,.plain,#[]⟩:=I.obj
 refine wpAny_bind (wpAny_pure (wpAny_bind (wpAny_bind (wpAny_loadPart hx (wpAny_bind (PySem.W.Looks.here (s:={ s with toks:=s.toks + 1 }) (PySem.W.looks_clsIn X hc) ?_))))))
 rw [hd']
 refine wpAny_pure (a:=some dx) (wpAny_bind (wpAny_pure (wpAny_bind ?_)))
 refine wpAny_nsSet1 (s:={ s with toks:=s.toks + 1 }) I.ns fun h' hn2 hs2=>?_
 obtain ⟨oD,esD,epD,hoD,hdD,hcD⟩:=hn2.count (PySem.Within.cons name v hw)
 refine wpAny_bind (wpAny_lookBehind hoD (by rw [hdD];exact pastItsLine_dict (Nat.le_trans hcD (by rw [List.length_cons];omega))) ?_)
 exact wpAny_pure (h _ ⟨(hs2.2 _ (Ne.symm I.ne)).trans I.obj,hn2,I.ne⟩ hs2)
theorem make_map {R:Result→Shared→Prop} {vs:List Value} {kw:List (Str×Value)} (X:K.In s.heap) (hm:PySem.W.makesIn K C = true)
  (hi:PySem.W.findIn K (.ref C) "__init__" = some (some (.ref f))) (hf:PySem.W.typeIn K (.ref f) = some (.type "function"))
  (h:codeAny (model prog w) (A.under (.builtin "type.__call__" ⟨.ref C :: vs,kw⟩)) (.call (.ref f) ⟨.ref (s.heap.objs.size + 1) :: vs,kw⟩) (PySem.W.InitBack (s.heap.objs.size + 1) R)
   { s with heap:=(s.heap.push PySem.W.emptyDict).push (PySem.W.instObj C s.heap.objs.size) }) :
  codeAny (model prog w) A (.call (.ref C) ⟨vs,kw⟩) R s:=by
 obtain ⟨hh,g,d,t,os⟩:=s
 exact PySem.W.make_core (PySem.W.makes_of X hm) (PySem.W.looks_findIn X hi) (fun self=>PySem.W.bind_fn X self hf) (.inl rfl) h
end
def putF (f:Str) (v:V):List (Str×V)→List (Str×V)
 | []=>[(f,v)]
 | (g,x) :: r=>if g = f then (g,v) :: r else (g,x) :: putF f v r
theorem lookup_putF (f g:Str) (v:V):∀ fs:List (Str×V),(putF f v fs).lookup g = if g = f then some v else fs.lookup g
 | []=>by
  show List.lookup g [(f,v)] = _
  by_cases h:g = f
  ·have hb:(g == f) = true:=beq_iff_eq.mpr h
   simp only [List.lookup,hb,if_pos h]
  ·have hb:(g == f) = false:=beq_eq_false_iff_ne.mpr h
   simp only [List.lookup,hb,if_neg h]
 | (k,x) :: r=>by
  have ih:=lookup_putF f g v r
  rw [show putF f v ((k,x) :: r) = (if k = f then (k,v) :: r else (k,x) :: putF f v r) from rfl]
  by_cases hk:k = f
  ·rw [if_pos hk]
   by_cases h:g = k
   ·have hb:(g == k) = true:=beq_iff_eq.mpr h
    simp only [List.lookup,hb,if_pos (h.trans hk)]
   ·have hb:(g == k) = false:=beq_eq_false_iff_ne.mpr h
    simp only [List.lookup,hb,if_neg (fun e:g = f=>h (e.trans hk.symm))]
  ·rw [if_neg hk]
   by_cases h:g = k
   ·have hb:(g == k) = true:=beq_iff_eq.mpr h
    simp only [List.lookup,hb,if_neg (fun e:g = f=>hk (h.symm.trans e))]
   ·have hb:(g == k) = false:=beq_eq_false_iff_ne.mpr h
    simp only [List.lookup,hb]
    exact ih
theorem keys_putF (f:Str) (v:V):∀ fs:List (Str×V),f∈(putF f v fs).map (·.1)∧∀ g,g∈fs.map (·.1)→g∈(putF f v fs).map (·.1)
 | []=>⟨by simp [putF],fun g h=>by simp at h⟩
 | (k,x) :: r=>by
  obtain ⟨i1,i2⟩:=keys_putF f v r
  rw [show putF f v ((k,x) :: r) = (if k = f then (k,v) :: r else (k,x) :: putF f v r) from rfl]
  by_cases hk:k = f
  ·rw [if_pos hk]
   subst hk
   exact ⟨by simp,fun g h=>by simpa using h⟩
  ·rw [if_neg hk]
   refine ⟨?_,fun g h=>?_⟩
   ·rw [List.map_cons]
    exact List.mem_cons_of_mem _ i1
   ·rw [List.map_cons] at h ⊢
    rcases List.mem_cons.mp h with e | e
    ·exact List.mem_cons.mpr (.inl e)
    ·exact List.mem_cons_of_mem _ (i2 g e)
theorem length_putF (f:Str) (v:V):∀ fs:List (Str×V),(putF f v fs).length≤fs.length + 1
 | []=>by simp [putF]
 | (k,x) :: r=>by
  have ih:=length_putF f v r
  rw [show putF f v ((k,x) :: r) = (if k = f then (k,v) :: r else (k,x) :: putF f v r) from rfl]
  by_cases hk:k = f
  ·rw [if_pos hk,List.length_cons,List.length_cons];omega
  ·rw [if_neg hk,List.length_cons,List.length_cons];omega
theorem RelO.some_of {v:V} {o:Option Value} (r:RelO (some v) o):∃ u,o = some u∧RelV v u:=by
 cases o with
 | none=>exact (show False from r).elim
 | some u=>exact ⟨u,rfl,r⟩
theorem RelO.none_of {o:Option Value} (r:RelO none o):o = none:=by
 cases o with
 | none=>rfl
 | some u=>exact (show False from r).elim
theorem handed_of {v:V} {u:Value} (r:RelV v u):PySem.W.handedIn u = true:=by
 cases v with
 | non=>cases (show u = Value.none from r);rfl
 | bl b=>cases (show u = Value.bool b from r);rfl
 | int i=>obtain ⟨t,e⟩:=(show ∃ t,u = Value.int i t from r);cases e;rfl
 | str x=>obtain ⟨t,e⟩:=(show ∃ t,u = Value.str x t from r);cases e;rfl
 | byt b=>obtain ⟨t,e⟩:=(show ∃ t,u = Value.bytes b t from r);cases e;rfl
 | flt b=>obtain ⟨t,e⟩:=(show ∃ t,u = Value.float b t from r);cases e;rfl
 | ref a=>cases (show u = Value.ref a from r);rfl
 | ty n=>cases (show u = Value.type n from r);rfl
section
variable {P:Program} {w:World} {H H':Hp} {h h':Heap} {a C dx:Addr} {fs fs':List (Str×V)}
theorem ins_get (hok:HOk P w H h) (e:H a = some (.ins C dx fs)):∃ mA,ObjM h a dx C mA∧(∀ f,RelO (fs.lookup f) (mA f))∧PySem.Within mA (fs.map (·.1))∧fs.length≤1000∧H dx = some (.own a):=by
 obtain ⟨d,z,ne,ob,mA,n,r,q⟩:=(show ObjOk P w H h a (.ins C dx fs) from hok a _ e)
 exact ⟨mA,⟨ob,n,ne⟩,r,q,z,d⟩
end
structure Cls (K:PySem.W.Frag) (C:Addr):Prop where
 pg:PySem.W.plainGet K C Str.empty = true
 hd:PySem.W.hasDictIn K C = true
 po:PySem.W.plainOver K C = true
 sa:PySem.W.findIn K (.ref C) "__setattr__" = some (some (.builtin "object.__setattr__"))
theorem Cls.get {K:PySem.W.Frag} {C:Addr} (c:Cls K C) (f:Str):PySem.W.plainGet K C f = true:=c.pg
def NoAttr (K:PySem.W.Frag) (C:Addr) (f:Str):Prop:=PySem.W.findIn K (.ref C) f = some none
theorem NoAttr.taker {K:PySem.W.Frag} {C:Addr} {f:Str} (n:NoAttr K C f):PySem.W.takerIn K C f = some none:=by
 unfold PySem.W.takerIn
 rw [show PySem.W.findIn K (.ref C) f = some none from n]
 rfl
structure Con (K:PySem.W.Frag) (C:Addr) (f:Str) (v:V) (u:Value):Prop where
 at_:PySem.W.findIn K (.ref C) f = some (some u)
 rel:RelV v u
 get:PySem.W.specialIn K u "__get__" = some none
 cp:PySem.W.copiedNames.contains f = false
structure Meth (K:PySem.W.Frag) (C:Addr) (m:Str) (f:Addr):Prop where
 at_:PySem.W.findIn K (.ref C) m = some (some (.ref f))
 fn:PySem.W.isFn K (.ref f) = true
 kp:PySem.W.keepIn K (.ref f) = true
section
variable {X:Cx} {pins:List (Addr×Obj)} {σ:St} {H:Hp} {s:Shared} {a C dx:Addr} {fs:List (Str×V)} {f:Str} {v:V} {A:Around} {E:Value→Shared→Prop}
theorem getattr_ok {b:Bool} {Q:Value→Shared→Prop} (I:Inv X pins σ H s) (e:H a = some (.ins C dx fs)) (c:Cls X.K C) (n:NoAttr X.K C f) (l:fs.lookup f = some v)
  (h:∀ u s',Inv X pins σ H s'→RelV v u→Q u s'):wpAny (model X.prog X.w) A (getAttr (.ref a) f b) Q E s:=by
 obtain ⟨mA,O,r,_,_,_⟩:=ins_get I.hok e
 obtain ⟨u,hu,ru⟩:=RelO.some_of (v:=v) (o:=mA f) (by rw [← l];exact r f)
 exact get_map I.kIn O (c.get f) c.hd n hu (handed_of ru) (h u _ (I.tok _) ru)
theorem getmeth_ok {m:Str} {g:Addr} {pl:Sem Bool} {Q:Value×List Value→Shared→Prop} (I:Inv X pins σ H s) (e:H a = some (.ins C dx fs)) (c:Cls X.K C) (k:Meth X.K C m g) (l:fs.lookup m = none)
  (h:Q (.ref g,[.ref a]) s):wpAny (model X.prog X.w) A (getMethod (.ref a) m pl) Q E s:=by
 obtain ⟨mA,O,r,_,_,_⟩:=ins_get I.hok e
 have hn:mA m = none:=RelO.none_of (by rw [← l];exact r m)
 exact get_meth I.kIn O (c.get m) k.at_ k.fn hn h
theorem setattr_ok {y:V} {u:Value} {Q:Unit→Shared→Prop} (I:Inv X pins σ H s) (e:H a = some (.ins C dx fs)) (c:Cls X.K C) (n:NoAttr X.K C f) (hl:fs.length < 1000) (ry:RelV y u)
  (h:∀ s',Inv X pins σ (upd H a (.ins C dx (putF f y fs))) s'→Q () s'):wpAny (model X.prog X.w) A (setAttr (.ref a) f u) Q E s:=by
 obtain ⟨mA,O,r,wi,_,ho⟩:=ins_get I.hok e
 have hz:(fs.map (·.1)).length≤sizeLine:=by rw [List.length_map,sizeLine_eq];omega
 refine set_map I.kIn O c.sa c.po n.taker c.hd wi hz fun h' O' sb=>h _ ?_
 have hd:∃ o,h'.get? dx = some o:=let ⟨o,_,_,e',_⟩:=O'.ns;⟨o,e'⟩
 refine I.write (x:=a) (e:=dx) (by rw [e];exact True.intro) (.inr ho) (fun b q hb z=>(sb.2 b hb).trans z) hd ?_
 refine ⟨by rw [upd_ne O.ne];exact ho,?_,O.ne,O'.obj,_,O'.ns,fun g=>?_,fun g hg=>?_⟩
 ·have:=length_putF f y fs;omega
 ·show RelO ((putF f y fs).lookup g) (if g = f then some u else mA g)
  rw [lookup_putF]
  by_cases q:g = f
  ·rw [if_pos q,if_pos q];exact ry
  ·rw [if_neg q,if_neg q];exact r g
 ·by_cases q:g = f
  ·rw [q];exact (keys_putF f y fs).1
  ·refine (keys_putF f y fs).2 g (wi g fun z=>hg ?_)
   show (if g = f then some u else mA g) = none
   rw [if_neg q];exact z
theorem Inv.made (I:Inv X pins σ H s):Inv X pins σ (upd (upd H s.heap.objs.size (.own (s.heap.objs.size + 1))) (s.heap.objs.size + 1) (.ins C s.heap.objs.size []))
  { s with heap:=(s.heap.push PySem.W.emptyDict).push (PySem.W.instObj C s.heap.objs.size) }:=by
 have e1:(s.heap.push PySem.W.emptyDict).get? s.heap.objs.size = some PySem.W.emptyDict:=Heap.get?_push_size s.heap rfl
 have e2:((s.heap.push PySem.W.emptyDict).push (PySem.W.instObj C s.heap.objs.size)).get? (s.heap.objs.size + 1) = some (PySem.W.instObj C s.heap.objs.size):=by
  have:=Heap.get?_push_size (s.heap.push PySem.W.emptyDict) (o:=PySem.W.instObj C s.heap.objs.size) rfl
  rwa [Heap.size_push] at this
 have e3:(s.heap.push PySem.W.emptyDict).Ns s.heap.objs.size (fun _=>none):=⟨PySem.W.emptyDict,#[],_,e1,rfl,(fun e he=>absurd he (by simp)),fun _=>rfl⟩
 have I1:=I.laid (a:=s.heap.objs.size) (o:=.own (s.heap.objs.size + 1)) (h':=s.heap.push PySem.W.emptyDict) (t':=s.toks) (fun b u q=>Heap.get?_push_of_some _ q) (Nat.le_refl _) ⟨_,e1⟩
 refine I1.laid (a:=s.heap.objs.size + 1) (o:=.ins C s.heap.objs.size []) (t':=s.toks) (fun b u q=>Heap.get?_push_of_some _ q) (Nat.le_of_eq (Heap.size_push _ _)) ?_
 have ne:s.heap.objs.size≠s.heap.objs.size + 1:=Nat.ne_of_lt (Nat.lt_succ_self _)
 refine ⟨by rw [upd_ne ne,upd_same],Nat.zero_le _,ne,e2,fun _=>none,(Heap.Ns1.of_empty e3).at fun o q=>Heap.get?_push_of_some _ q,fun _=>True.intro,fun y hy=>absurd rfl hy⟩
theorem attr_of {prog:Program} {w:World} {env:Env} {e:Expr} {f:Str} {pos:Pos} {s:Shared} {Q:Value→Shared→Prop} (hb:attributeBase e f env (eval e env) = eval e env)
  (h:wpAny (model prog w) A (eval e env) (fun o s₁=>wpAny (model prog w) A (getAttr o f true) Q E s₁) E s):wpAny (model prog w) A (eval (.Attribute e f pos) env) Q E s :=
 Attribute_any_ h (by rw [arm_eval_Attribute,hb])
end
def tFld (K:PySem.W.Frag) (ta:TE) (f:Str):TE:=fun σ H Q=>ta σ H fun x H1=>∃ a C dx fs v,x = .ref a∧H1 a = some (.ins C dx fs)∧Cls K C∧NoAttr K C f∧fs.lookup f = some v∧Q v H1
def sFld (K:PySem.W.Frag) (ta tv:TE) (f:Str):TS:=fun D σ H=>tv σ H fun y H1=>ta σ H1 fun x H2=>∃ a C dx fs,x = .ref a∧H2 a = some (.ins C dx fs)∧Cls K C∧NoAttr K C f∧fs.length < 1000 ∧
 D.nx σ (upd H2 a (.ins C dx (putF f y fs)))
def InOp (X:Cx) (op:Operator) (rd:V→V→Hp→VK→Prop):Prop :=
 ∀ (pins:List (Addr×Obj)) (s:Shared) (σ:St) (H:Hp) (x y:V) (u v:Value) (Q:VK),Inv X pins σ H s→RelV x u→RelV y v→rd x y H Q→wpAny (model X.prog X.w) X.A (inplaceOp op u v) (EP X pins σ Q) X.xe s
section
variable {X:Cx} {o e value:Expr} {f:Str} {pos pos' tpos:Pos} {ta tv:TE}
theorem pe_fld (he:PE X e ta) (hb:attributeBase e f X.env (eval e X.env) = eval e X.env):PE X (.Attribute e f pos) (tFld X.K ta f):=by
 intro pins s σ H Q I h
 refine attr_of hb (thn (he pins s σ H _ I h) fun u s1 ⟨x,H1,I1,rx,a,C,dx,fs,v,ex,ea,c,n,l,q⟩=>?_)
 subst ex
 obtain rfl:u = Value.ref a:=rx
 exact getattr_ok I1 ea c n l fun u' s2 I2 ru=>⟨v,H1,I2,ru,q⟩
theorem ps_fld (ha:PE X o ta) (hv:PE X value tv) (hs:swapsWith value (some (.Attribute o f pos')) pos.line X.env = pure false):PS X (.Assign [.Attribute o f pos'] value pos) (sFld X.K ta tv f):=by
 intro pins s σ H D I h
 refine plainObj_wpAny_Assign_Attribute (thn (hv pins s σ H _ I h) fun u s1 ⟨y,H1,I1,ry,q⟩=>thn (ha pins s1 σ H1 _ I1 q) fun ov s2 ⟨x,H2,I2,rx,a,C,dx,fs,ex,ea,c,n,l,q2⟩=>?_) hs
 subst ex
 obtain rfl:ov = Value.ref a:=rx
 exact setattr_ok I2 ea c n l ry fun s3 I3=>⟨σ,_,I3,q2⟩
def rAdd:V→V→Hp→VK→Prop:=fun x y H Q=>∃ i j,x = .int i∧y = .int j∧Q (.int (i + j)) H
def rSub:V→V→Hp→VK→Prop:=fun x y H Q=>∃ i j,x = .int i∧y = .int j∧Q (.int (i - j)) H
theorem in_add:InOp X .Add rAdd:=by
 rintro pins s σ H x y u v Q I rx ry ⟨i,j,rfl,rfl,q⟩
 obtain ⟨t,rfl⟩:=(show ∃ t,u = Value.int i t from rx)
 obtain ⟨t',rfl⟩:=(show ∃ t',v = Value.int j t' from ry)
 exact PyProof.Rows.iadd_int ⟨.int (i + j),H,I.tok _,⟨_,rfl⟩,q⟩
theorem in_sub:InOp X .Sub rSub:=by
 rintro pins s σ H x y u v Q I rx ry ⟨i,j,rfl,rfl,q⟩
 obtain ⟨t,rfl⟩:=(show ∃ t,u = Value.int i t from rx)
 obtain ⟨t',rfl⟩:=(show ∃ t',v = Value.int j t' from ry)
 exact PyProof.Rows.isub_int ⟨.int (i - j),H,I.tok _,⟨_,rfl⟩,q⟩
end
section
variable {X:Cx} {pins:List (Addr×Obj)} {σ:St} {H:Hp} {s:Shared} {A:Around} {E:Value→Shared→Prop} {Q:Value→Shared→Prop} {c:Value} {b:Bool}
inductive TyOf (K:PySem.W.Frag) (H:Hp):V→Value→Prop where
 | non:TyOf K H .non (.type "NoneType")
 | bl (x:Bool):TyOf K H (.bl x) (.type "bool")
 | int (i:Int):TyOf K H (.int i) (.type "int")
 | str (x:Str):TyOf K H (.str x) (.type "str")
 | flt (x:UInt64):TyOf K H (.flt x) (.type "float")
 | lst {a:Addr} {xs:List V} (e:H a = some (.lst xs)):TyOf K H (.ref a) (.type "list")
 | frz {a:Addr} {o:Obj} {xs:List V} (e:H a = some (.frz o (.lst xs))):TyOf K H (.ref a) (.type "list")
 | tup {a:Addr} {xs:List V} (e:H a = some (.tup xs)):TyOf K H (.ref a) (.type "tuple")
 | dK {a:Addr} {kvs:List (Key×V)} (e:H a = some (.dK kvs)):TyOf K H (.ref a) (.type "dict")
 | dT {a:Addr} {kvs:List (List Key×V)} (e:H a = some (.dT kvs)):TyOf K H (.ref a) (.type "dict")
 | ins {a C dx:Addr} {fs:List (Str×V)} (e:H a = some (.ins C dx fs)) (cl:Cls K C) (ha:PySem.W.findIn K (.ref C) "__class__" = some (some (.builtin "object.__class__")))
   (hn:PySem.W.specialIn K (.builtin "object.__class__") "__get__" = some (some (.builtin "getset_descriptor.__get__"))) (htk:PySem.W.takesIn K (.builtin "object.__class__") = some true)
   (hm:PySem.W.mroIn K C (.type "object") = some true):TyOf K H (.ref a) (.ref C)
theorem isinst_ok {x:V} {u t:Value} (I:Inv X pins σ H s) (rx:RelV x u) (ty:TyOf X.K H x t) (e:PySem.W.kitOne X.K t c = some b) (h:∀ tk,Q (.bool b) { s with toks:=tk }) :
  wpAny (model X.prog X.w) A (call (.builtin "isinstance") [u,c]) Q E s:=by
 cases ty with
 | non=>cases (show u = Value.none from rx);exact PySem.W.kia_one PySem.W.kitx_none I.kIn True.intro e (fun z=>nomatch z) h
 | bl y=>cases (show u = Value.bool y from rx);exact PySem.W.kia_one PySem.W.kitx_bool I.kIn True.intro e (fun z=>nomatch z) h
 | int i=>obtain ⟨t,q⟩:=(show ∃ t,u = Value.int i t from rx);cases q;exact PySem.W.kia_one PySem.W.kitx_int I.kIn True.intro e (fun z=>nomatch z) h
 | str y=>obtain ⟨t,q⟩:=(show ∃ t,u = Value.str y t from rx);cases q;exact PySem.W.kia_one PySem.W.kitx_str I.kIn True.intro e (fun z=>nomatch z) h
 | flt y=>obtain ⟨t,q⟩:=(show ∃ t,u = Value.float y t from rx);cases q;exact PySem.W.kia_one PySem.W.kitx_float I.kIn True.intro e (fun z=>nomatch z) h
 | @lst a xs ea =>
  cases (show u = Value.ref a from rx)
  obtain ⟨_,_,n,_,h1⟩:=(show ObjOk X.prog X.w H s.heap a (.lst xs) from I.hok a _ ea)
  exact PySem.W.kia_one PySem.W.kitx_list I.kIn ⟨_,h1,rfl⟩ e (fun z=>nomatch z) h
 | @frz a ob xs ea =>
  cases (show u = Value.ref a from rx)
  obtain ⟨_,_,_,n,_,h1⟩:=(show ObjOk X.prog X.w H s.heap a (.frz ob (.lst xs)) from I.hok a _ ea)
  exact PySem.W.kia_one PySem.W.kitx_list I.kIn ⟨_,h1,rfl⟩ e (fun z=>nomatch z) h
 | @tup a xs ea =>
  cases (show u = Value.ref a from rx)
  obtain ⟨_,_,_,p⟩:=(show ObjOk X.prog X.w H s.heap a (.tup xs) from I.hok a _ ea)
  obtain ⟨o,h1,h2,_⟩:=p
  exact PySem.W.kia_one PySem.W.kitx_tuple I.kIn ⟨o,h1,h2⟩ e (fun z=>nomatch z) h
 | @dK a kvs ea =>
  cases (show u = Value.ref a from rx)
  obtain ⟨_,_,vs,_,p⟩:=(show ObjOk X.prog X.w H s.heap a (.dK kvs) from I.hok a _ ea)
  obtain ⟨o,es,ep,h1,h2,_⟩:=p
  exact PySem.W.kia_one PySem.W.kitx_dict I.kIn ⟨o,h1,h2.1⟩ e (fun z=>nomatch z) h
 | @dT a kvs ea =>
  cases (show u = Value.ref a from rx)
  obtain ⟨_,_,xs,_,o,es,ep,h1,h2,_⟩:=(show ObjOk X.prog X.w H s.heap a (.dT kvs) from I.hok a _ ea)
  exact PySem.W.kia_one PySem.W.kitx_dict I.kIn ⟨o,h1,h2.1⟩ e (fun z=>nomatch z) h
 | @ins a C dx fs ea cl ha hn htk hm =>
  cases (show u = Value.ref a from rx)
  obtain ⟨mA,O,_⟩:=ins_get I.hok ea
  obtain ⟨od,J,_⟩:=O.look
  exact PySem.W.kia_one (PySem.W.kitx_own (cl.get _) cl.hd ha hn htk hm) I.kIn J e (fun z=>nomatch z) h
end
end L2
namespace L2
open PySem PySem.Spec PyProof.Rows
structure Room (k:Nat) (A:Around):Prop where
 hd:A.handled = none
 dp:A.depth + 3 * k + 5 < recursionLimit
 un:A.units + 16 * k + 200 < cLine
theorem Room.mono {j k:Nat} {A:Around} (r:Room k A) (h:j≤k):Room j A:=⟨r.hd,by have:=r.dp;omega,by have:=r.un;omega⟩
theorem Room.deeper {k:Nat} {A:Around} (r:Room (k + 1) A) (env:Env):Room k (A.deeper env) :=
 ⟨r.hd,by have:=r.dp;show A.depth + 1 + 3 * k + 5 < _;omega,by have:=r.un;show A.units + 3 + 16 * k + 200 < _;omega⟩
theorem make_depth {A:Around} {C:Addr} {us:List Value} {kw:List (Str×Value)}:(A.under (.builtin "type.__call__" ⟨.ref C :: us,kw⟩)).depth = A.depth + 1:=by
 first | rfl | simp [Around.under,Code.weight,Code.isCreation,Code.isGuard,Code.isCaller,Code.frames,Code.isFrame,guardIds]
theorem make_units {A:Around} {C:Addr} {us:List Value} {kw:List (Str×Value)}:(A.under (.builtin "type.__call__" ⟨.ref C :: us,kw⟩)).units = A.units + 1:=by
 first | rfl | simp [Around.under,Code.cUnits,Code.frames,Code.isFrame]
theorem Room.make {k:Nat} {A:Around} (r:Room (k + 1) A) (C:Addr) (us:List Value) (kw:List (Str×Value)):Room k (A.under (.builtin "type.__call__" ⟨.ref C :: us,kw⟩)) :=
 ⟨r.hd,by have:=r.dp;rw [make_depth];omega,by have:=r.un;rw [make_units];omega⟩
theorem Room.depth {k:Nat} {A:Around} (r:Room k A):A.depth < recursionLimit:=by have:=r.dp;omega
theorem Room.units {k:Nat} {A:Around} (r:Room k A):A.units + 64 < cLine:=by have:=r.un;omega
def tNil:TA:=fun _ H Q=>Q [] H
def tCons (ta:TE) (tr:TA):TA:=fun σ H Q=>ta σ H fun x H1=>tr σ H1 fun xs H2=>Q (x :: xs) H2
section
variable {X:Cx} {e:Expr} {es:List Expr} {te:TE} {t:TA} {pos:Pos}
theorem pa_nil:PA X [] tNil:=fun _ _ _ _ H Q I h=>Calls.spliced_nil ⟨[],H,I,.nil,h⟩
theorem pa_cons (ha:PE X e te) (hr:PA X es t) (hs:starEach (e :: es) X.env = (false,eval e X.env) :: starEach es X.env:=by rfl):PA X (e :: es) (tCons te t):=by
 intro pos pins s σ H Q I h
 rw [hs]
 show wpAny _ _ (spliced ((false,eval e X.env) :: backTo pos (starEach es X.env))) _ _ s
 refine Calls.spliced_cons (thn (ha pins s σ H _ I h) fun u s1 ⟨x,H1,I1,r1,q1⟩=>?_)
 exact thn (hr pos pins s1 σ H1 _ I1 q1) fun us s2 ⟨xs,H2,I2,r2,q2⟩=>⟨x :: xs,H2,I2,.cons r1 r2,q2⟩
def tTup (t:TA):TE:=fun σ H Q=>t σ H fun xs H1=>xs.length≤sizeLine∧∀ p,H1 p = none→Q (.ref p) (upd H1 p (.tup xs))
def tLst (t:TA):TE:=fun σ H Q=>t σ H fun xs H1=>xs.length≤sizeLine∧∀ p,H1 p = none→Q (.ref p) (upd H1 p (.lst xs))
theorem pe_tup {x1} (h:PA X es t):PE X (.Tuple es x1 pos) (tTup t):=by
 intro pins s σ H Q I hq
 refine wpAny_Tuple_spliced (thn (h pos pins s σ H _ I hq) fun us s1 ⟨xs,H1,I1,r,z,q⟩=>⟨by rw [← r.length];exact z,?_⟩)
 have hf:H1 s1.heap.objs.size = none:=I1.hok.fresh (Nat.le_refl _)
 refine ⟨.ref s1.heap.objs.size,upd H1 s1.heap.objs.size (.tup xs),I1.laid (t':=s1.toks) (fun b u e=>Heap.get?_push_of_some _ e) (Nat.le_refl _) ?_,rfl,q _ hf⟩
 exact ⟨z,us,r,⟨_,Heap.get?_push_size _ rfl,rfl,_,rfl⟩⟩
theorem pe_lst (h:PA X es t):PE X (.List es pos) (tLst t):=by
 intro pins s σ H Q I hq
 refine wpAny_List_spliced (thn (h pos pins s σ H _ I hq) fun us s1 ⟨xs,H1,I1,r,z,q⟩=>⟨by rw [← r.length];exact z,?_⟩)
 have hf:H1 s1.heap.objs.size = none:=I1.hok.fresh (Nat.le_refl _)
 refine ⟨.ref s1.heap.objs.size,upd H1 s1.heap.objs.size (.lst xs),I1.laid (t':=s1.toks) (fun b u e=>Heap.get?_push_of_some _ e) (Nat.le_refl _) ?_,rfl,q _ hf⟩
 exact ⟨z,us,0,r,Heap.get?_push_size _ rfl⟩
end
abbrev Sp:=List V→Hp→VK→XK→Prop
abbrev CXT:=List Env→Hp→Shared→XK→Value→Shared→Prop
structure Env0 (P:Program) (w:World) (K:PySem.W.Frag) (mg:Str→Option Value) (base:Heap) (A:Around) (outer:List Env) (s:Shared) (H:Hp):Prop where
 frames:A.frames = some outer
 mod:Mod K mg base
 bs:∀ b o,base.get? b = some o→s.heap.get? b = some o∧H b = none
 bsz:base.objs.size≤s.heap.objs.size
 funs:s.heap.FunFrames base outer
 frf:∀ b∈frs outer,H b = none
 hok:HOk P w H s.heap
 bare:AllBare s.gens
def CE (outer:List Env) (P:Program) (w:World) (H:Hp) (s:Shared) (Q:VK) (u:Value) (s':Shared):Prop :=
 ∃ v H',s'.os = s.os∧AllBare s'.gens∧Un (frs outer) [] H H' s.heap s'.heap∧HOk P w H' s'.heap∧RelV v u∧Q v H'
def CR (CX:CXT) (outer:List Env) (P:Program) (w:World) (H:Hp) (s:Shared) (Q:VK) (E:XK) (r:Result) (s':Shared):Prop :=
 match r with
 | .ok (.ret u)=>CE outer P w H s Q u s'
 | .ok _=>False
 | .error e=>CX outer H s E e s'
structure FnOk (P:Program) (w:World) (K:PySem.W.Frag) (mg:Str→Option Value) (base:Heap) (CX:CXT) (k:Nat) (f:Addr) (fd:FuncData) (ps:List Str) (sp:Sp):Prop where
 len:∀ vs H Q E,sp vs H Q E→vs.length = ps.length
 run:∀ (A:Around) (outer:List Env) (s:Shared) (H:Hp) (args:Args) (us:List Value) (vs:List V) (Q:VK) (E:XK),Room k A→Env0 P w K mg base A outer s H→BindsTo s fd args (ps.zip us)→Vals vs us→sp vs H Q E →
  codeAny (model P w) A (.call (.ref f) args) (CR CX outer P w H s Q E) s
theorem FnOk.mono {P:Program} {w:World} {K:PySem.W.Frag} {mg:Str→Option Value} {base:Heap} {CX:CXT} {j k:Nat} {f:Addr} {fd:FuncData} {ps:List Str} {sp:Sp} (F:FnOk P w K mg base CX j f fd ps sp) (h:j≤k) :
  FnOk P w K mg base CX k f fd ps sp:=⟨F.len,fun A outer s H args us vs Q E hr=>F.run A outer s H args us vs Q E (hr.mono h)⟩
theorem Env0.make {P:Program} {w:World} {K:PySem.W.Frag} {mg:Str→Option Value} {base:Heap} {A:Around} {outer:List Env} {s:Shared} {H:Hp} (e:Env0 P w K mg base A outer s H) (C:Addr) (us:List Value) (kw:List (Str×Value)) :
  Env0 P w K mg base (A.under (.builtin "type.__call__" ⟨.ref C :: us,kw⟩)) outer s H:=⟨by first | exact e.frames | (simpa [Around.under,Code.envs,Code.isFrame,pushEnvs] using e.frames),e.mod,e.bs,e.bsz,e.funs,e.frf,e.hok,e.bare⟩
section
variable {X:Cx} {pins:List (Addr×Obj)} {σ:St} {H:Hp} {s s':Shared}
theorem Inv.env0 (I:Inv X pins σ H s):Env0 X.prog X.w X.K X.mg X.base X.A X.stack s H :=
 ⟨I.ok.frames,I.ok.mod,I.bs,Nat.le_trans I.ok.bsz I.sz,I.stack,I.stkFree,I.hok,I.bare⟩
theorem Inv.after {Q:VK} {u:Value} (I:Inv X pins σ H s) (h:CE X.stack X.prog X.w H s Q u s'):EP X pins σ Q u s':=by
 obtain ⟨v,H',os,bare,un,hok,r,q⟩:=h
 obtain ⟨hh,g,d,t,os'⟩:=s'
 obtain rfl:os' = s.os:=os
 exact ⟨v,H',I.call (h':=hh) (g':=g) (d':=d) (t':=t) (ch:=[]) un hok bare (fun b z=>absurd z (by simp)),r,q⟩
end
def tCall (sp:Sp) (dvs:List V) (E:XK) (t:TA):TE:=fun σ H Q=>t σ H fun vs H1=>sp (vs++dvs) H1 Q E
def tMeth (C:Addr) (m:Str) (sp:Sp) (dvs:List V) (E:XK) (ta:TE) (t:TA):TE:=fun σ H Q=>ta σ H fun x H1=>∃ a dx fs,x = .ref a∧H1 a = some (.ins C dx fs)∧fs.lookup m = none ∧
 t σ H1 fun vs H2=>sp (x :: (vs++dvs)) H2 Q E
def tMake (C:Addr) (sp:Sp) (dvs:List V) (E:XK) (t:TA):TE:=fun σ H Q=>t σ H fun vs H1=>∀ x dx,H1 x = none→H1 dx = none→dx≠x →
 sp (.ref x :: (vs++dvs)) (upd (upd H1 dx (.own x)) x (.ins C dx [])) (fun v H2=>v = .non∧Q (.ref x) H2) E
def Binds (K:PySem.W.Frag) (fd:FuncData) (ps:List Str) (ds:List Value):Prop :=
 ∀ (s:Shared) (us:List Value),K.In s.heap→(us++ds).length = ps.length→BindsTo s fd ⟨us,[]⟩ (ps.zip (us++ds))
theorem Binds.all {K:PySem.W.Frag} {fd:FuncData} {ps:List Str} (h:∀ us:List Value,us.length = ps.length→bindArgs fd ⟨us,[]⟩ = pure (ps.zip us)):Binds K fd ps []:=fun s us _ hl=>by
 rw [List.append_nil] at hl ⊢
 exact .of_eq (h us hl)
def Passes (CX:CXT) (X:Cx) (E:XK):Prop:=∀ (pins:List (Addr×Obj)) (σ:St) (H:Hp) (s:Shared) (e:Value) (s':Shared),Inv X pins σ H s→CX X.stack H s E e s'→X.xe e s'
section
variable {X:Cx} {CX:CXT} {k:Nat} {f C:Addr} {fd:FuncData} {ps:List Str} {sp:Sp} {dvs:List V} {ds:List Value} {E:XK} {x m:Str} {p pos apos:Pos} {e o:Expr} {es:List Expr} {ta:TE} {t:TA}
theorem run_fn {pins:List (Addr×Obj)} {σ:St} {H:Hp} {s:Shared} {Q:VK} {us:List Value} {vs:List V} (F:FnOk X.prog X.w X.K X.mg X.base CX k f fd ps sp) (hr:Room k X.A) (hb:Binds X.K fd ps ds) (hd:Vals dvs ds) (hx:Passes CX X E)
  (I:Inv X pins σ H s) (r:Vals vs us) (h:sp (vs++dvs) H Q E):wpAny (model X.prog X.w) X.A (call (.ref f) us) (EP X pins σ Q) X.xe s:=by
 have r2:Vals (vs++dvs) (us++ds):=r.append hd
 have hl:(us++ds).length = ps.length:=by rw [← r2.length];exact F.len _ _ _ _ h
 refine wpAny_call (codeAny_mono (F.run X.A X.stack s H ⟨us,[]⟩ (us++ds) (vs++dvs) Q E hr I.env0 (hb s us I.kIn hl) r2 h) fun r s' hq=>?_)
 cases r with
 | error e=>exact hx pins σ H s e s' I hq
 | ok fl =>
  cases fl with
  | ret u=>exact I.after hq
  | next=>exact False.elim hq
  | brk=>exact False.elim hq
  | cont=>exact False.elim hq
theorem pe_call (F:FnOk X.prog X.w X.K X.mg X.base CX k f fd ps sp) (hr:Room k X.A) (hg:Gl X x) (hm:X.mg x = some (.ref f)) (hk:PySem.W.keepIn X.K (.ref f) = true) (hb:Binds X.K fd ps ds) (hd:Vals dvs ds) (hx:Passes CX X E)
  (ha:PA X (e :: es) t) (hdb:(x == ("__debug__" : Str)) = false:=by decide) (he:starEach (e :: es) X.env = (false,eval e X.env) :: starEach es X.env:=by rfl) (hpl:(backTo pos (starEach es X.env)).any (·.1) = false:=by rfl) :
  PE X (.Call (.Name x p) (e :: es) [] pos) (tCall sp dvs E t):=by
 intro pins s σ H Q I h
 refine wpAny_Call_Name_kw (ld_glob I hg hm ?_ hdb)
 refine PySem.W.callWith_K (h₀:=X.base) I.ok.mod.kin hk (thn (ha pos pins s σ H _ I h) fun us s1 ⟨vs,H1,I1,r,q⟩=>⟨I1.kIn,?_⟩) he hpl
 exact run_fn F hr hb hd hx I1 r q
theorem pe_meth {pl:Sem Bool} (he:PE X o ta) (c:Cls X.K C) (hm:Meth X.K C m f) (F:FnOk X.prog X.w X.K X.mg X.base CX k f fd ps sp) (hr:Room k X.A) (hb:Binds X.K fd ps ds) (hd:Vals dvs ds) (hx:Passes CX X E) (ha:PA X (e :: es) t)
  (hst:starEach (e :: es) X.env = (false,eval e X.env) :: starEach es X.env:=by rfl) (hpl:(backTo pos (starEach es X.env)).any (·.1) = false:=by rfl)
  (ht:eval (.Call (.Attribute o m apos) (e :: es) [] pos) X.env = (do
   let ov ← eval o X.env
   standAt apos.atName
   let (f,first) ← holding [ov] (getMethod ov m pl)
   callWith pos f first (backTo pos (starEach (e :: es) X.env)) (backToKw pos (keywordEach [] X.env))):=by rfl) :
  PE X (.Call (.Attribute o m apos) (e :: es) [] pos) (tMeth C m sp dvs E ta t):=by
 intro pins s σ H Q I h
 refine PySem.W.methodCall_KW (pl:=pl) (thn (he pins s σ H _ I h) fun u s1 ⟨x,H1,I1,rx,a,dx,fs,ex,ea,l,q⟩=>?_) ht
 subst ex
 obtain rfl:u = Value.ref a:=rx
 refine getmeth_ok I1 ea c hm l ?_
 refine PySem.W.callWith_K (first:=[.ref a]) (h₀:=X.base) I.ok.mod.kin hm.kp (thn (ha pos pins s1 σ H1 _ I1 q) fun us s2 ⟨vs,H2,I2,r,q2⟩=>⟨I2.kIn,?_⟩) hst hpl
 exact run_fn (us:=.ref a :: us) (vs:=.ref a :: vs) F hr hb hd hx I2 (.cons rfl r) q2
theorem pe_meth0 {pl:Sem Bool} (he:PE X o ta) (c:Cls X.K C) (hm:Meth X.K C m f) (F:FnOk X.prog X.w X.K X.mg X.base CX k f fd ps sp) (hr:Room k X.A) (hb:Binds X.K fd ps ds) (hd:Vals dvs ds) (hx:Passes CX X E)
  (ht:eval (.Call (.Attribute o m apos) [] [] pos) X.env = (do
   let ov ← eval o X.env
   standAt apos.atName
   let (f,first) ← holding [ov] (getMethod ov m pl)
   callWith pos f first (backTo pos (starEach [] X.env)) (backToKw pos (keywordEach [] X.env))):=by rfl) :
  PE X (.Call (.Attribute o m apos) [] [] pos) (tMeth C m sp dvs E ta tNil):=by
 intro pins s σ H Q I h
 refine PySem.W.methodCall_KW (pl:=pl) (thn (he pins s σ H _ I h) fun u s1 ⟨x,H1,I1,rx,a,dx,fs,ex,ea,l,q⟩=>?_) ht
 subst ex
 obtain rfl:u = Value.ref a:=rx
 refine getmeth_ok I1 ea c hm l ?_
 exact PySem.W.callWith_K0 (first:=[.ref a]) I1.kIn hm.kp (run_fn (us:=[.ref a]) (vs:=[.ref a]) F hr hb hd hx I1 (.cons rfl .nil) q)
structure Mk (K:PySem.W.Frag) (C f:Addr):Prop where
 makes:PySem.W.makesIn K C = true
 init:PySem.W.findIn K (.ref C) "__init__" = some (some (.ref f))
 fn:PySem.W.isFn K (.ref f) = true
 kp:PySem.W.keepIn K (.ref C) = true
theorem run_make {pins:List (Addr×Obj)} {σ:St} {H:Hp} {s:Shared} {Q:VK} {us:List Value} {vs:List V} (M:Mk X.K C f) (F:FnOk X.prog X.w X.K X.mg X.base CX k f fd ps sp) (hr:Room (k + 1) X.A) (hb:Binds X.K fd ps ds) (hd:Vals dvs ds)
  (hx:Passes CX X E) (I:Inv X pins σ H s) (r:Vals vs us)
  (h:∀ x dx,H x = none→H dx = none→dx≠x→sp (.ref x :: (vs++dvs)) (upd (upd H dx (.own x)) x (.ins C dx [])) (fun v H2=>v = .non∧Q (.ref x) H2) E) :
  wpAny (model X.prog X.w) X.A (call (.ref C) us) (EP X pins σ Q) X.xe s:=by
 have hq:=h (s.heap.objs.size + 1) s.heap.objs.size (I.hok.fresh (Nat.le_succ _)) (I.hok.fresh (Nat.le_refl _)) (Nat.ne_of_lt (Nat.lt_succ_self _))
 have I2:=Inv.made (C:=C) I
 have r2:Vals (V.ref (s.heap.objs.size + 1) :: (vs++dvs)) (Value.ref (s.heap.objs.size + 1) :: (us++ds)):=.cons rfl (r.append hd)
 have hl:(Value.ref (s.heap.objs.size + 1) :: us++ds).length = ps.length:=by
  have e:=r2.length
  rw [F.len _ _ _ _ hq] at e
  exact e.symm
 refine wpAny_call (make_map (f:=f) I.kIn M.makes M.init (beq_iff_eq.mp M.fn) (codeAny_mono (F.run _ X.stack _ _ ⟨Value.ref (s.heap.objs.size + 1) :: us,[]⟩ (Value.ref (s.heap.objs.size + 1) :: (us++ds)) _ _ E (hr.make C us [])
  (I2.env0.make C us []) (hb _ (Value.ref (s.heap.objs.size + 1) :: us) I2.kIn hl) r2 hq) fun r s' hq'=>?_))
 cases r with
 | error e=>exact hx pins σ _ _ e s' I2 hq'
 | ok fl =>
  cases fl with
  | ret u =>
   obtain ⟨v,H',I3,rv,ev,q3⟩:=I2.after hq'
   subst ev
   exact ⟨rv,⟨V.ref (s.heap.objs.size + 1),H',I3,rfl,q3⟩⟩
  | next=>exact False.elim hq'
  | brk=>exact False.elim hq'
  | cont=>exact False.elim hq'
theorem pe_make (M:Mk X.K C f) (F:FnOk X.prog X.w X.K X.mg X.base CX k f fd ps sp) (hr:Room (k + 1) X.A) (hg:Gl X x) (hm:X.mg x = some (.ref C)) (hb:Binds X.K fd ps ds) (hd:Vals dvs ds) (hx:Passes CX X E)
  (ha:PA X (e :: es) t) (hdb:(x == ("__debug__" : Str)) = false:=by decide) (he:starEach (e :: es) X.env = (false,eval e X.env) :: starEach es X.env:=by rfl) (hpl:(backTo pos (starEach es X.env)).any (·.1) = false:=by rfl) :
  PE X (.Call (.Name x p) (e :: es) [] pos) (tMake C sp dvs E t):=by
 intro pins s σ H Q I h
 refine wpAny_Call_Name_kw (ld_glob I hg hm ?_ hdb)
 refine PySem.W.callWith_K (h₀:=X.base) I.ok.mod.kin M.kp (thn (ha pos pins s σ H _ I h) fun us s1 ⟨vs,H1,I1,r,q⟩=>⟨I1.kIn,?_⟩) he hpl
 exact run_make M F hr hb hd hx I1 r q
end
section
variable {X:Cx} {CX:CXT} {k:Nat} {f C:Addr} {fd:FuncData} {ps ks:List Str} {sp:Sp} {E:XK} {x m:Str} {p pos apos kpos:Pos} {e o:Expr} {es:List Expr} {kws:List Keyword} {te ta:TE} {t tk:TA} {nm:Option Str}
structure KBinds (K:PySem.W.Frag) (fd:FuncData) (ps ks:List Str) (g:List Value→List Value→List Value) (gV:List V→List V→List V):Prop where
 to:∀ (s:Shared) (us ws:List Value),K.In s.heap→(g us ws).length = ps.length→BindsTo s fd ⟨us,ks.zip ws⟩ (ps.zip (g us ws))
 rel:∀ {vs:List V} {us:List Value} {zs:List V} {ws:List Value},Vals vs us→Vals zs ws→Vals (gV vs zs) (g us ws)
variable {g:List Value→List Value→List Value} {gV:List V→List V→List V}
end
structure FnScope (N P:List Str) (sc:Scope):Prop where
 kind:sc.kind = .function
 co:sc.isCoroutine = false
 gen:sc.isGenerator = false
 nd:N.Nodup
 pre:N.take P.length = P
 par:∀ x∈P,sc.names.lookup x = some .local∨sc.names.lookup x = some .cell
 nofree:∀ y∈sc.names,y.2≠.free
theorem bindL_out {kindOf:Str→Option NameKind} {x:Str}:∀ {binds:List (Str×Value)} {m:Str→Option Value},(∀ v,(x,v) ∉ binds)→bindL kindOf binds m x = m x
 | [],_,_=>rfl
 | (n,v) :: r,m,h=>by
  unfold bindL
  rw [bindL_out fun w hw=>h w (List.mem_cons_of_mem _ hw)]
  split
  ·have:x≠n:=by rintro rfl;exact h v List.mem_cons_self
   simp [this]
  ·rfl
theorem bindC_out {kindOf:Str→Option NameKind} {x:Str}:∀ {binds:List (Str×Value)} {m:Str→Option Value},(∀ v,(x,v) ∉ binds)→bindC kindOf binds m x = m x
 | [],_,_=>rfl
 | (n,v) :: r,m,h=>by
  unfold bindC
  rw [bindC_out fun w hw=>h w (List.mem_cons_of_mem _ hw)]
  split
  ·rfl
  ·have:x≠n:=by rintro rfl;exact h v List.mem_cons_self
   simp [this]
theorem bindL_get {kindOf:Str→Option NameKind} {x:Str} {v:Value}:∀ {P:List Str} {vs:List Value} {i:Nat} {m:Str→Option Value},P.Nodup→P[i]? = some x→vs[i]? = some v→kindOf x = some .local →
  bindL kindOf (P.zip vs) m x = some v
 | [],_,_,_,_,h,_,_=>by simp at h
 | _ :: _,[],_,_,_,_,h,_=>by simp at h
 | p :: P,w :: vs,0,m,nd,h1,h2,hk=>by
  simp at h1 h2;subst h1;subst h2
  show bindL kindOf ((p,w) :: P.zip vs) m p = _
  unfold bindL
  rw [bindL_out fun v hv=>(List.nodup_cons.mp nd).1 (List.of_mem_zip hv).1,if_pos hk]
  simp
 | p :: P,w :: vs,i + 1,m,nd,h1,h2,hk=>by
  show bindL kindOf ((p,w) :: P.zip vs) m x = _
  unfold bindL
  exact bindL_get (i:=i) (List.nodup_cons.mp nd).2 (by simpa using h1) (by simpa using h2) hk
theorem bindC_get {kindOf:Str→Option NameKind} {x:Str} {v:Value}:∀ {P:List Str} {vs:List Value} {i:Nat} {m:Str→Option Value},P.Nodup→P[i]? = some x→vs[i]? = some v→kindOf x≠some .local →
  bindC kindOf (P.zip vs) m x = some v
 | [],_,_,_,_,h,_,_=>by simp at h
 | _ :: _,[],_,_,_,_,h,_=>by simp at h
 | p :: P,w :: vs,0,m,nd,h1,h2,hk=>by
  simp at h1 h2;subst h1;subst h2
  show bindC kindOf ((p,w) :: P.zip vs) m p = _
  unfold bindC
  rw [bindC_out fun v hv=>(List.nodup_cons.mp nd).1 (List.of_mem_zip hv).1,if_neg hk]
  simp
 | p :: P,w :: vs,i + 1,m,nd,h1,h2,hk=>by
  show bindC kindOf ((p,w) :: P.zip vs) m x = _
  unfold bindC
  exact bindC_get (i:=i) (List.nodup_cons.mp nd).2 (by simpa using h1) (by simpa using h2) hk
def start (N:List Str) (vs:List V):St:=vs.map some++List.replicate (N.length - vs.length) none
def cxOf (CX:CXT) (P:Program) (w:World) (K:PySem.W.Frag) (mg:Str→Option Value) (base:Heap) (N:List Str) (qual:Str) (scope:Scope) (f:Addr) (cd:Value) (A:Around) (outer:List Env) (s:Shared) (H:Hp) (E:XK):Cx where
 prog:=P
 w:=w
 K:=K
 mg:=mg
 base:=base
 A:=A.deeper (envOfC qual scope s.heap.objs.size f cd)
 N:=N
 s₀:=s
 H₀:=H
 env:=envOfC qual scope s.heap.objs.size f cd
 outer:=outer
 stack:=envOfC qual scope s.heap.objs.size f cd :: outer
 ex:=[]
 calm:=true
 fn:=fun _=>true
 pn:=[]
 xe:=fun e s'=>wpAny (model P w) (A.deeper (envOfC qual scope s.heap.objs.size f cd)) (leaving (envOfC qual scope s.heap.objs.size f cd) e) (fun _ s''=>CX outer H s E e s'') (fun e' s''=>CX outer H s E e' s'') s'
theorem cell_has {sc:Scope} {n:Nat} {x:Str} (h:sc.names.lookup x = some .cell):∃ c,(cellsFrom n sc.names []).lookup x = some c:=by
 have q:=PySem.W.cellsFrom_some sc.names n [] (.inl h)
 exact Option.isSome_iff_exists.mp q
theorem inv_start {CX:CXT} {P:Program} {w:World} {K:PySem.W.Frag} {mg:Str→Option Value} {base:Heap} {N ps:List Str} {qual:Str} {scope:Scope} {f:Addr} {cd:Value} {A:Around} {outer:List Env} {s s1:Shared} {H:Hp} {E:XK} {us:List Value} {vs:List V}
  (S:FnScope N ps scope) (hd:A.handled = none) (e0:Env0 P w K mg base A outer s H) (hl:vs.length = ps.length) (r:Vals vs us)
  (x:InCallC s s.heap.objs.size (bindL (envOfC qual scope s.heap.objs.size f cd).kindOf (ps.zip us) fun _=>none) (cellsFrom (s.heap.objs.size + 1) scope.names []) (bindC (envOfC qual scope s.heap.objs.size f cd).kindOf (ps.zip us) fun _=>none) s1) :
  Inv (cxOf CX P w K mg base N qual scope f cd A outer s H E) [] (start N vs) H s1:=by
 have hpl:ps.length≤N.length:=by have:=congrArg List.length S.pre;rw [List.length_take] at this;omega
 obtain ⟨h1,tk,rfl,hk⟩:=x.done
 have noA:∀ b:Addr,b ∉ (cxOf CX P w K mg base N qual scope f cd A outer s H E).ex:=fun b z=>absurd (show b∈([]:List Addr) from z) (by simp)
 refine ⟨⟨e0.mod,S.kind,rfl,rfl,Nat.le_refl _,fun y z c h1 h2=>?_,fun y hy=>?_,fun y c _ h=>?_,fun _=>hd,Around.frames_deeper e0.frames,.inr ⟨rfl,rfl⟩,fun b z=>absurd z (noA b),e0.bs,e0.bsz,fun b _ _=>noA b,fun b z=>absurd z (noA b),e0.funs,e0.frf⟩,
  rfl,e0.bare,Un.kept hk,⟨_,x.toInCall.ns,fun i y v h1 h2 h3=>?_⟩,fun y c h=>⟨_,x.cell y c h⟩,e0.hok.fresh (Nat.le_refl _),fun y c h=>?_,fun p hp=>absurd (show p∈([]:List (Addr×Obj)) from hp) (by simp),e0.hok.kept hk,?_⟩
 ·exact name_of_addr x.apart (PySem.mem_of_lookup h1) (PySem.mem_of_lookup h2)
 ·have hy:scope.names.lookup y = some .cell∨scope.names.lookup y = some .free:=hy
  rcases hy with hy | hy
  ·exact cell_has hy
  ·exact absurd rfl (S.nofree _ (PySem.mem_of_lookup hy))
 ·exact Nat.le_of_lt (x.above y c (PySem.mem_of_lookup h))
 ·have hi:i < vs.length:=by
   unfold start at h2
   by_cases hi:i < vs.length
   ·exact hi
   ·rw [List.getElem?_append_right (by simpa using hi)] at h2
    rw [List.getElem?_replicate] at h2
    split at h2 <;> cases h2
  have ha:vs[i]? = some v:=by
   unfold start at h2
   rw [List.getElem?_append_left (by simpa using hi),List.getElem?_map] at h2
   cases e:vs[i]? with
   | none=>rw [e] at h2;cases h2
   | some a=>rw [e] at h2;cases h2;rfl
  obtain ⟨u,hu,rv⟩:=r.get ha
  have hp:ps[i]? = some y:=by
   rw [← S.pre,List.getElem?_take_of_lt (by omega)];exact h1
  have ndP:ps.Nodup:=by rw [← S.pre];exact S.nd.sublist (List.take_sublist _ _)
  refine ⟨u,rv,?_⟩
  rcases S.par y (List.mem_of_getElem? hp) with k | k
  ·exact .inl ⟨k,bindL_get ndP hp hu k⟩
  ·obtain ⟨c,e⟩:=cell_has (n:=s.heap.objs.size + 1) k
   refine .inr ⟨.inl k,c,e,?_⟩
   have q:=x.cell y c e
   rw [bindC_get ndP hp hu (by show scope.names.lookup y≠_;rw [k];decide)] at q
   exact q
 ·exact e0.hok.fresh (Nat.le_of_lt (x.above y c (PySem.mem_of_lookup h)))
 ·unfold start
  show _ = N.length
  rw [List.length_append,List.length_map,List.length_replicate]
  omega
theorem fn_of {CX:CXT} {P:Program} {w:World} {K:PySem.W.Frag} {mg:Str→Option Value} {base:Heap} {k:Nat} {f:Addr} {name qual:Str} {params:Arguments} {body:List Stmt} {scope:Scope} {dV kV doc pm cdv ct oc:Value} {an od:Option Addr}
  {osl:Array (Option Value)} {N ps:List Str} {sp:Sp} (lk:K.lookup f = some ⟨oc,od,.func (PySem.W.fnOf name qual params body scope dV kV doc pm an cdv ct),osl⟩) (hcd:PySem.W.codeIn K cdv qual = true) (S:FnScope N ps scope)
  (len:∀ vs H Q E,sp vs H Q E→vs.length = ps.length)
  (hbody:∀ (A:Around) (outer:List Env) (s:Shared) (H:Hp) (vs:List V) (Q:VK) (E:XK),Room k (A.deeper (envOfC qual scope s.heap.objs.size f cdv))→sp vs H Q E →
   ∃ t,PSs (cxOf CX P w K mg base N qual scope f cdv A outer s H E) body t∧t { nx:=fun _ H'=>Q .non H',rt:=Q } (start N vs) H) :
  FnOk P w K mg base CX (k + 1) f (PySem.W.fnOf name qual params body scope dV kV doc pm an cdv ct) ps sp:=by
 refine ⟨len,fun A outer s H args us vs Q E hr e0 hb r hsp=>?_⟩
 have hl:=len _ _ _ _ hsp
 have KX:K.In s.heap:=e0.mod.kin.keeps fun b o e=>(e0.bs b o e).1
 have lim:s.heap.NoLimit:=e0.mod.nolimit.keeps fun b o e=>(e0.bs b o e).1
 have hkind:∀ y∈ps.zip us,scope.names.lookup y.1 = some .local∨(scope.names.lookup y.1 = some .cell∧((cellsFrom (s.heap.objs.size + 1) scope.names []).lookup y.1).isSome = true):=fun ⟨n,v⟩ hy=>by
  rcases S.par n (List.of_mem_zip hy).1 with q | q
  ·exact .inl q
  ·exact .inr ⟨q,PySem.W.cellsFrom_some _ _ _ (.inl q)⟩
 refine codeAny_call_function hr.depth (KX _ _ lk) rfl S.co S.gen rfl (PySem.W.codeRec_of KX hcd) (hb _ _ _ _ ?_)
 refine wpAny_newFunctionEnv_cells S.kind hkind fun env he s1 x=>?_
 subst he
 refine ⟨lim.keeps x.toInCall.keep,codeAny_func ?_⟩
 obtain ⟨t,ht,hq⟩:=hbody A outer s H vs Q E (hr.deeper _) hsp
 have I:Inv (cxOf CX P w K mg base N qual scope f cdv A outer s H E) [] (start N vs) H s1:=inv_start S hr.hd e0 hl r x
 refine wpAny_mono (ht [] s1 (start N vs) H _ I hq) (fun fl s' hs=>?_) fun e s' hs=>hs
 have fin:∀ {σ':St} {H':Hp} {v:V} {u:Value},Inv (cxOf CX P w K mg base N qual scope f cdv A outer s H E) [] σ' H' s'→RelV v u→Q v H'→CE outer P w H s Q u s' :=
  fun {σ' H' v u} J rv q=>⟨v,H',J.os,J.bare,J.base,J.hok,rv,q⟩
 cases fl with
 | ret u =>
  obtain ⟨v,σ',H',J,rv,q⟩:=hs
  exact fin J rv q
 | next =>
  obtain ⟨σ',H',J,q⟩:=hs
  exact fin (v:=V.non) (u:=Value.none) J rfl q
 | brk =>
  obtain ⟨_,_,_,q⟩:=hs
  exact False.elim q
 | cont =>
  obtain ⟨_,_,_,q⟩:=hs
  exact False.elim q
end L2
namespace L2
open PySem PySem.Spec PyProof.Rows
section
variable {X:Cx} {x:Str} {p pos:Pos} {e:Expr} {es:List Expr} {t:TA} {id T:String} {r:List V→Hp→VK→Prop}
def tCB (r:List V→Hp→VK→Prop) (t:TA):TE:=fun σ H Q=>t σ H fun vs H1=>r vs H1 Q
theorem pe_callB (hc:CallR X (.builtin id) r) (hg:Gl X x) (hm:X.mg x = none) (hv:bootBuiltins x = some (.builtin id)) (ha:PA X (e :: es) t) (hn:x≠"__name__":=by decide) (hdb:(x == ("__debug__" : Str)) = false:=by decide)
  (he:starEach (e :: es) X.env = (false,eval e X.env) :: starEach es X.env:=by rfl) (hpl:(backTo pos (starEach es X.env)).any (·.1) = false:=by rfl):PE X (.Call (.Name x p) (e :: es) [] pos) (tCB r t):=by
 intro pins s σ H Q I h
 refine wpAny_Call_Name_kw (ld_blt I hg hm hv ?_ hn hdb)
 exact PyProof.Rows.callWith_builtin1 (thn (ha pos pins s σ H _ I h) fun us s1 ⟨vs,H1,I1,r1,q1⟩=>hc pins s1 σ H1 vs us Q I1 r1 q1) he hpl
theorem pe_callTy (hc:CallR X (.type T) r) (hg:Gl X x) (hm:X.mg x = none) (hv:bootBuiltins x = some (.type T)) (ha:PA X (e :: es) t) (hn:x≠"__name__":=by decide) (hdb:(x == ("__debug__" : Str)) = false:=by decide)
  (he:starEach (e :: es) X.env = (false,eval e X.env) :: starEach es X.env:=by rfl) (hpl:(backTo pos (starEach es X.env)).any (·.1) = false:=by rfl):PE X (.Call (.Name x p) (e :: es) [] pos) (tCB r t):=by
 intro pins s σ H Q I h
 refine wpAny_Call_Name_kw (ld_blt I hg hm hv ?_ hn hdb)
 exact PyProof.Rows.callWith_type1 (thn (ha pos pins s σ H _ I h) fun us s1 ⟨vs,H1,I1,r1,q1⟩=>hc pins s1 σ H1 vs us Q I1 r1 q1) he hpl
end
end L2
namespace HT
open PySem PyProof.Rows
section
open PySem.SeqAt
open PySem.AutoSeq1 (wpAny_loadPart')
open PySem.MeetsSeq PySem.MeetsSeq2 PySem.MeetsSeq3
end
section
variable {prog:Program} {w:World} {A:Around} {E:Value→Shared→Prop} {s:Shared}
theorem cat_tup {t b:Addr} {vs ws:List Value} {Q:Value→Shared→Prop} (ht:IsTup s.heap t vs.toArray) (hb:IsTup s.heap b ws.toArray) (hv:vs≠[])
  (h1:ws = []→Q (.ref t) s) (h2:ws≠[]→Q (.ref s.heap.objs.size) { s with heap:=s.heap.push { cls:=.type "tuple",data:=.seq (vs++ws).toArray } })
  (hsz:vs.length + ws.length≤sizeLine):wpAny (model prog w) A (binaryOp .Add (.ref t) (.ref b)) Q E s:=by
 obtain ⟨⟨cls,dd,data,sl⟩,ho,hc,n,hd⟩:=id ht
 obtain ⟨⟨cls2,dd2,data2,sl2⟩,ho2,hc2,n2,hd2⟩:=id hb
 simp only at hc hd hc2 hd2
 subst hc hd hc2 hd2
 have e:vs.toArray++ws.toArray = (vs++ws).toArray:=by simp
 by_cases hw:ws = []
 ·exact concat_meets ⟨_,ho,rfl⟩ ⟨_,ho2,rfl⟩ noFill_tuple_add seq_tuple_add PySem.F.slot_tuple_add PySem.F.entry_tuple_add (PySem.F.args_tuple_add_2 _ _)
   (tuple_addW1 t b vs.toArray ws.toArray n n2 dd dd2 sl sl2 (by simpa using hv) (by simp [hw])) ⟨ho,ho2,h1 hw⟩
 ·refine concat_meets ⟨_,ho,rfl⟩ ⟨_,ho2,rfl⟩ noFill_tuple_add seq_tuple_add PySem.F.slot_tuple_add PySem.F.entry_tuple_add (PySem.F.args_tuple_add_2 _ _)
   (tuple_addW2 t b vs.toArray ws.toArray n n2 dd dd2 sl sl2 (by simpa using hv) (by simpa using hw) (by rw [List.size_toArray,List.size_toArray];exact hsz)) ⟨ho,ho2,?_⟩
  rw [e]
  exact h2 hw
def sIx (n d:Nat):Option Int→Nat
 | none=>d
 | some v=>if v < 0 then (v + (n:Int)).toNat else min v.toNat n
theorem sIx_nat (n d k:Nat):sIx n d (some (k:Int)) = min k n:=by
 show (if (k:Int) < 0 then ((k:Int) + (n:Int)).toNat else min (k:Int).toNat n) = min k n
 rw [if_neg (by omega),Int.toNat_natCast]
theorem sIx_le (n d:Nat) (hd:d≤n) (o:Option Int):sIx n d o≤n:=by
 cases o with
 | none=>exact hd
 | some v =>
  show (if v < 0 then (v + (n:Int)).toNat else min v.toNat n)≤n
  by_cases hv:v < 0
  ·rw [if_pos hv];omega
  ·rw [if_neg hv];exact Nat.min_le_right _ _
theorem clip_eq (v:Int) (n d:Nat):(if v < 0 then max (v + (n:Int)) 0 else min v (n:Int)) = ((sIx n d (some v):Nat):Int):=by
 show (if v < 0 then max (v + (n:Int)) 0 else min v (n:Int)) = (((if v < 0 then (v + (n:Int)).toNat else min v.toNat n):Nat):Int)
 by_cases hv:v < 0
 ·simp only [if_pos hv];omega
 ·simp only [if_neg hv];omega
theorem adjust_gen (lo hi:Option Int) (n:Nat):Builtin.Slice.sliceAdjust lo hi 1 (n:Int) = (((sIx n 0 lo:Nat):Int),((sIx n n hi:Nat):Int)):=by
 have h1:¬ ((1:Int) < 0):=by omega
 unfold Builtin.Slice.sliceAdjust
 simp only [h1,if_false]
 refine Prod.ext ?_ ?_
 ·cases lo with
  | none=>rfl
  | some v=>exact clip_eq v n 0
 ·cases hi with
  | none=>rfl
  | some v=>exact clip_eq v n n
theorem places_gen (i j:Nat):Builtin.Slice.slicePlaces (i:Int) (j:Int) 1 = j - i:=by
 unfold Builtin.Slice.slicePlaces
 have h1:(1:Int) > 0:=by omega
 simp only [h1,if_true,Int.ediv_one]
 split <;> omega
theorem slicePart_ {v:Value} {o:Option Int} {Q:Option Int→Shared→Prop} (p:IsPart v o) (h:Q o s):wpAny (model prog w) A (Builtin.Slice.slicePartIndex v) Q E s:=by
 cases p with
 | none=>exact slicePart_none h
 | int i t=>exact slicePart_int h
theorem sliceApplied_gen {sl:Addr} {vl vu:Value} {lo hi:Option Int} {n:Nat} {Q:Int×Int×Nat→Shared→Prop} (hs:s.heap.IsSliceOf sl vl vu .none) (pl:IsPart vl lo) (pu:IsPart vu hi)
  (h:Q (((sIx n 0 lo:Nat):Int),1,sIx n n hi - sIx n 0 lo) s):wpAny (model prog w) A (Builtin.Slice.sliceApplied (.ref sl) (pure (n:Int))) Q E s:=by
 obtain ⟨os,hos,hcs,hds⟩:=id hs
 unfold Builtin.Slice.sliceApplied Builtin.Slice.sliceFields
 refine wpAny_bind (wpAny_bind (wpAny_field hos hds (x:=vl) rfl (wpAny_bind (wpAny_field hos hds (x:=vu) rfl (wpAny_bind (wpAny_field hos hds (x:=.none) rfl (wpAny_pure ?_)))))))
 refine wpAny_bind (slicePart_none ?_)
 show wpAny _ _ (if ((1:Int) == 0) = true then _ else _) _ _ s
 rw [if_neg (by decide)]
 refine wpAny_bind (slicePart_ pl (wpAny_bind (slicePart_ pu (wpAny_bind (wpAny_pure ?_)))))
 show wpAny _ _ (match Builtin.Slice.sliceAdjust lo hi 1 (n:Int) with | (lo,hi)=>pure (lo,(1:Int),Builtin.Slice.slicePlaces lo hi 1)) _ _ s
 rw [adjust_gen lo hi n]
 show wpAny _ _ (pure (((sIx n 0 lo:Nat):Int),(1:Int),Builtin.Slice.slicePlaces ((sIx n 0 lo:Nat):Int) ((sIx n n hi:Nat):Int) 1)) _ _ s
 rw [places_gen]
 exact wpAny_pure h
theorem pick_gen (xs:Array Value) (i k:Nat):((List.range k).filterMap fun (m:Nat)=>xs[((i:Int) + (m:Int) * 1).toNat]?).toArray = ((xs.toList.drop i).take k).toArray:=by
 have e:(fun (m:Nat)=>xs[((i:Int) + (m:Int) * 1).toNat]?) = fun m=>xs[i + m]?:=by
  funext m
  have:((i:Int) + (m:Int) * 1).toNat = i + m:=by omega
  rw [this]
 rw [e]
 have:=pick_run xs i k
 rw [List.filterMap_map] at this
 have e2:((fun x=>xs[x]?) ∘ fun x=>i + x) = fun m=>xs[i + m]?:=rfl
 rw [e2] at this
 rw [this]
theorem getItem_tuple_cut {t sl:Addr} {items:Array Value} {vl vu:Value} {lo hi:Option Int} {Q:Value→Shared→Prop} (ht:IsTup s.heap t items) (hs:s.heap.IsSliceOf sl vl vu .none) (pl:IsPart vl lo) (pu:IsPart vu hi)
  (hw:¬ (sIx items.size 0 lo = 0∧sIx items.size items.size hi = items.size))
  (h:Q (.ref s.heap.objs.size) { s with heap:=s.heap.push { cls:=.type "tuple",data:=.seq ((items.toList.drop (sIx items.size 0 lo)).take (sIx items.size items.size hi - sIx items.size 0 lo)).toArray } })
  (hsz:items.size≤sizeLine):wpAny (model prog w) A (getItem (.ref t) (.ref sl)) Q E s:=by
 have htake:sizeOk (.seq ((items.toList.drop (sIx items.size 0 lo)).take (sIx items.size items.size hi - sIx items.size 0 lo)).toArray):=by
  show ((items.toList.drop (sIx items.size 0 lo)).take (sIx items.size items.size hi - sIx items.size 0 lo)).toArray.size≤sizeLine
  rw [List.size_toArray,List.length_take,List.length_drop,Array.length_toList]
  omega
 have hj:sIx items.size items.size hi≤items.size:=sIx_le _ _ (Nat.le_refl _) hi
 obtain ⟨os,hos,hcs,hds⟩:=id hs
 have hTs:s.TypeIs (.ref sl) "slice":=⟨os,hos,hcs⟩
 unfold getItem
 try with_reducible refine wpAny_holding ?_
 first | refine wpAny_bind (wpAny_pure ?_) | skip
 refine wpAny_bind (wpAny_sequenceKey ht.typeIs (by decide) ?_)
 refine wpAny_bind (wpAny_callSpecial?_slot (name:=Str.ofString "__getitem__") ht.typeIs PyProof.Rows.slot_tuple_getitem
  (wpAny_call_entry PyProof.Rows.slot_tuple_getitem ht.typeIs entry_tuple_getitem ?_ (args_tuple_getitem _ _)))
 show wpAny _ _ (Builtin.Tuple.tupleItemsOf (.ref t) >>= _) _ _ s
 refine wpAny_bind (tupleItemsOf_ ht ?_)
 refine wpAny_bind (wpAny_typeOf hTs ?_)
 rw [if_pos (by decide)]
 refine wpAny_bind (sliceApplied_gen hs pl pu ?_)
 have hno:¬ ((((sIx items.size 0 lo:Nat):Int) == 0 && (1:Int) == 1 && (sIx items.size items.size hi - sIx items.size 0 lo) == items.size) = true):=by
  intro q
  rw [Bool.and_eq_true,Bool.and_eq_true] at q
  have q1:((sIx items.size 0 lo:Nat):Int) = 0:=eq_of_beq q.1.1
  have q2:sIx items.size items.size hi - sIx items.size 0 lo = items.size:=eq_of_beq q.2
  exact hw ⟨by omega,by omega⟩
 show wpAny _ _ (if (((sIx items.size 0 lo:Nat):Int) == 0 && (1:Int) == 1 && (sIx items.size items.size hi - sIx items.size 0 lo) == items.size) = true then _ else _) _ _ s
 rw [if_neg hno,pick_gen]
 first
  | exact wpAny_bind (m:=Builtin.Tuple.tupleExact _) (wpAny_newObj_type (wpAny_pure ⟨_,rfl,wpAny_pure h⟩) htake)
  | exact wpAny_bind (m:=Builtin.Tuple.tupleExact _) (wpAny_newObj_type (wpAny_bind (wpAny_pure (wpAny_pure ⟨_,rfl,wpAny_pure h⟩))) htake)
  | exact wpAny_bind (wpAny_bind (m:=Builtin.Tuple.tupleExact _) (wpAny_newObj_type (wpAny_pure (wpAny_pure ⟨_,rfl,wpAny_pure h⟩)) htake))
  | exact wpAny_bind (wpAny_bind (m:=Builtin.Tuple.tupleExact _) (wpAny_newObj_type (wpAny_pure ⟨_,rfl,wpAny_pure h⟩) htake))
end
end HT
namespace L2
open PySem PySem.Spec PyProof.Rows
abbrev TO:=St→Hp→(Option Int→Hp→Prop)→Prop
def PO (X:Cx) (e:Option Expr) (t:TO):Prop :=
 ∀ (pins:List (Addr×Obj)) (s:Shared) (σ:St) (H:Hp) (Q:Option Int→Hp→Prop),Inv X pins σ H s→t σ H Q →
  wpAny (model X.prog X.w) X.A (evalPart e X.env) (fun u s'=>∃ o H',Inv X pins σ H' s'∧IsPart u o∧Q o H') X.xe s
def tNoPart:TO:=fun _ H Q=>Q none H
def tPart (t:TE):TO:=fun σ H Q=>t σ H fun x H1=>∃ i,x = .int i∧Q (some i) H1
section
variable {X:Cx} {e:Expr} {te:TE} {lo hi:Option Expr} {tl th:TO} {pos p2:Pos}
theorem po_none:PO X none tNoPart:=by
 intro pins s σ H Q I h
 rw [evalPart_none]
 exact wpAny_pure ⟨none,H,I,.none,h⟩
theorem po_some (h:PE X e te):PO X (some e) (tPart te):=by
 intro pins s σ H Q I hw
 rw [evalPart_some]
 refine thn (h pins s σ H _ I hw) fun u s1 ⟨x,H1,I1,r1,q1⟩=>?_
 obtain ⟨i,rfl,q⟩:=q1
 obtain ⟨t,rfl⟩:=r1
 exact ⟨some i,H1,I1,.int i t,q⟩
def SlR (X:Cx) (r:V→Option Int→Option Int→Hp→VK→Prop):Prop :=
 ∀ (pins:List (Addr×Obj)) (s:Shared) (σ:St) (H:Hp) (x:V) (v vl vu:Value) (lo hi:Option Int) (sl:Addr) (Q:VK),Inv X pins σ H s→RelV x v→s.heap.IsSliceOf sl vl vu .none→IsPart vl lo→IsPart vu hi→r x lo hi H Q →
  ∃ T id,typeLookup (.type T) "__getitem__" = pure (some (.builtin id))∧s.TypeIs v T∧wpAny (model X.prog X.w) X.A (getItem v (.ref sl)) (EP X pins σ Q) X.xe s
def tSl (r:V→Option Int→Option Int→Hp→VK→Prop) (te:TE) (tl th:TO):TE:=fun σ H Q=>te σ H fun x H1=>tl σ H1 fun l H2=>th σ H2 fun u H3=>r x l u H3 Q
theorem pe_slice {r:V→Option Int→Option Int→Hp→VK→Prop} (hr:SlR X r) (he:PE X e te) (hl:PO X lo tl) (hu:PO X hi th):PE X (.Subscript e (.Slice lo hi none p2) pos) (tSl r te tl th):=by
 intro pins s σ H Q I h
 refine Subscript_ (thn (he pins s σ H _ I h) fun v s1 ⟨x,H1,I1,r1,q1⟩=>?_)
 refine wpAny_Slice (thn (hl pins s1 σ H1 _ I1 q1) fun vl s2 ⟨l,H2,I2,pl,q2⟩=>thn (hu pins s2 σ H2 _ I2 q2) fun vu s3 ⟨u,H3,I3,pu,q3⟩=>?_)
 rw [evalPart_none]
 refine wpAny_pure ?_
 have I4:Inv X pins σ H3 { s3 with heap:=s3.heap.push { cls:=.type "slice",data:=.fields #[vl,vu,.none] } }:=I3.kept (t':=s3.toks) fun b ob q=>Heap.get?_push_of_some _ q
 obtain ⟨T,id,hT,ht,hg⟩:=hr pins { s3 with heap:=s3.heap.push { cls:=.type "slice",data:=.fields #[vl,vu,.none] } } σ H3 x v vl vu l u s3.heap.objs.size Q I4 r1 (Heap.IsSliceOf.new ..) pl pu q3
 show wpAny (model X.prog X.w) X.A (subscriptTail e (.Slice lo hi none p2) v (.ref s3.heap.objs.size)) (EP X pins σ Q) X.xe { s3 with heap:=s3.heap.push { cls:=.type "slice",data:=.fields #[vl,vu,.none] } }
 exact tail_any (ops:=[.ref s3.heap.objs.size,v]) ht hT hg (by with_unfolding_all rfl)
def cutV (xs:List V) (lo hi:Option Int):List V:=(xs.drop (HT.sIx xs.length 0 lo)).take (HT.sIx xs.length xs.length hi - HT.sIx xs.length 0 lo)
theorem cutV_length (xs:List V) (lo hi:Option Int):(cutV xs lo hi).length≤xs.length:=by
 unfold cutV
 rw [List.length_take,List.length_drop]
 omega
def rSlT (K:PySem.W.Frag):V→Option Int→Option Int→Hp→VK→Prop:=fun x lo hi H Q=>∃ a xs,x = .ref a∧SqT K H a xs ∧
 ¬ (HT.sIx xs.length 0 lo = 0∧HT.sIx xs.length xs.length hi = xs.length)∧∀ p,H p = none→Q (.ref p) (upd H p (.tup (cutV xs lo hi)))
theorem sl_tup:SlR X (rSlT X.K):=by
 intro pins s σ H x v vl vu lo hi sl Q I rx hs pl pu h
 obtain ⟨a,xs,rfl,hx,hw,q⟩:=h
 cases rx
 obtain ⟨its,r,ht,hz⟩:=I.tuple hx
 have hlen:its.toArray.size = xs.length:=by rw [List.size_toArray];exact r.length.symm
 refine ⟨"tuple",_,PyProof.Rows.slot_tuple_getitem.lookup,ht.typeIs,?_⟩
 refine HT.getItem_tuple_cut ht hs pl pu (by rw [hlen];exact hw) ?_ (by rw [hlen];exact hz)
 rw [hlen]
 refine ⟨.ref s.heap.objs.size,_,I.laid (t':=s.toks) (o:=.tup (cutV xs lo hi)) (fun b ob q=>Heap.get?_push_of_some _ q) (Nat.le_refl _) ?_,rfl,q _ (I.hok.fresh (Nat.le_refl _))⟩
 exact ⟨Nat.le_trans (cutV_length xs lo hi) hz,_,(r.drop (HT.sIx xs.length 0 lo)).take (HT.sIx xs.length xs.length hi - HT.sIx xs.length 0 lo),IsTup.new _ _⟩
def rCatT (K:PySem.W.Frag):R2:=fun x y H Q=>∃ a b xs ys,x = .ref a∧y = .ref b∧SqT K H a xs∧SqT K H b ys∧xs≠[]∧xs.length + ys.length≤sizeLine ∧
 (ys = []→Q (.ref a) H)∧(ys≠[]→∀ p,H p = none→Q (.ref p) (upd H p (.tup (xs++ys))))
theorem Vals.nil_iff {xs:List V} {us:List Value} (r:Vals xs us):us = [] ↔ xs = []:=by
 cases r with
 | nil=>simp
 | cons _ _=>simp
theorem op_catT:OpR X (binaryOp .Add) (rCatT X.K):=by
 intro pins s σ H x y v u Q I rx ry h
 obtain ⟨a,b,xs,ys,rfl,rfl,ha,hb,hx,hz,q1,q2⟩:=h
 cases rx
 cases ry
 obtain ⟨its,r1,p1,_⟩:=I.tuple ha
 obtain ⟨its2,r2,p2,_⟩:=I.tuple hb
 refine HT.cat_tup p1 p2 (fun z=>hx (r1.nil_iff.mp z)) (fun z=>⟨.ref a,H,I,rfl,q1 (r2.nil_iff.mp z)⟩) (fun z=>?_) (by rw [← r1.length,← r2.length];exact hz)
 refine ⟨.ref s.heap.objs.size,_,I.laid (t':=s.toks) (o:=.tup (xs++ys)) (fun b ob q=>Heap.get?_push_of_some _ q) (Nat.le_refl _) ?_,rfl,q2 (fun w=>z (r2.nil_iff.mpr w)) _ (I.hok.fresh (Nat.le_refl _))⟩
 exact ⟨by rw [List.length_append];exact hz,_,r1.append r2,IsTup.new _ _⟩
end
end L2
namespace L2
open PySem PySem.Spec PyProof.Rows
def ixN (n:Nat) (i:Int):Option Nat:=if 0≤i then (if i < n then some i.toNat else none) else if -(n:Int)≤i then some (i + n).toNat else none
def atI {α:Type} (xs:List α) (i:Int):Option α:=(ixN xs.length i).bind fun j=>xs[j]?
theorem ixN_seq {n:Nat} {i:Int} {j:Nat} (h:ixN n i = some j):seqIndex? i n = some j∧j < n∧-(n:Int)≤i∧i < n:=by
 unfold ixN at h
 by_cases h0:0≤i
 ·rw [if_pos h0] at h
  by_cases h1:i < n
  ·rw [if_pos h1] at h
   have e:i.toNat = j:=Option.some.inj h
   exact ⟨by rw [seqIndex_of h0 h1,e],by omega,by omega,h1⟩
  ·rw [if_neg h1] at h;cases h
 ·rw [if_neg h0] at h
  by_cases h1:-(n:Int)≤i
  ·rw [if_pos h1] at h
   have e:(i + n).toNat = j:=Option.some.inj h
   exact ⟨by rw [seqIndex_neg (by omega) h1,e],by omega,h1,by omega⟩
  ·rw [if_neg h1] at h;cases h
theorem atI_get {α:Type} {xs:List α} {i:Int} {v:α} (h:atI xs i = some v):∃ j,seqIndex? i xs.length = some j∧xs[j]? = some v∧j < xs.length∧-(xs.length:Int)≤i∧i < xs.length:=by
 unfold atI at h
 cases e:ixN xs.length i with
 | none=>rw [e] at h;cases h
 | some j =>
  rw [e] at h
  obtain ⟨h1,h2,h3,h4⟩:=ixN_seq e
  exact ⟨j,h1,h,h2,h3,h4⟩
theorem atI_nat {α:Type} {xs:List α} {j:Nat} {v:α} (h:xs[j]? = some v):atI xs (j:Int) = some v:=by
 have hj:j < xs.length:=(List.getElem?_eq_some_iff.mp h).1
 have e:ixN xs.length (j:Int) = some j:=by
  unfold ixN
  rw [if_pos (by omega),if_pos (by omega)];simp
 unfold atI;rw [e];exact h
theorem atI_last {α:Type} (xs:List α) (v:α):atI (xs++[v]) (-1) = some v:=by
 have hl:(xs++[v]).length = xs.length + 1:=by simp
 have e:ixN (xs++[v]).length (-1) = some xs.length:=by
  unfold ixN
  rw [hl,if_neg (by decide),if_pos (by omega)]
  congr 1
  omega
 unfold atI
 rw [e]
 show (xs++[v])[xs.length]? = some v
 simp
def PlainIx (b:Expr):Prop:=∀ o i,subscripted b false o i = operate [o,i] (getItem o i)
def IxR (X:Cx) (r:R2):Prop :=
 ∀ (value slice:Expr) (pins:List (Addr×Obj)) (s:Shared) (σ:St) (H:Hp) (x y:V) (v u:Value) (Q:VK),Inv X pins σ H s→RelV x v→RelV y u→r x y H Q →
  subscripted slice false v u = operate [v,u] (getItem v u)→wpAny (model X.prog X.w) X.A (subscriptTail value slice v u) (EP X pins σ Q) X.xe s
def MtR (X:Cx) (id:String) (r:V→List V→Hp→VK→Prop):Prop :=
 ∀ (pins:List (Addr×Obj)) (s:Shared) (σ:St) (H:Hp) (x:V) (xs:List V) (v:Value) (us:List Value) (Q:VK),Inv X pins σ H s→RelV x v→Vals xs us→r x xs H Q →
  wpAny (model X.prog X.w) X.A (call (.builtin id) (v :: us)) (EP X pins σ Q) X.xe s
section
variable {X:Cx} {a b:Expr} {ta tb:TE} {pos:Pos}
theorem pe_ix {r:R2} (hr:IxR X r) (ha:PE X a ta) (hb:PE X b tb) (hs:PlainIx b):PE X (.Subscript a b pos) (tOp r ta tb):=by
 intro pins s σ H Q I h
 exact Subscript_ (binT ha hb I h fun v u s2 x y H2 I2 rx ry q=>hr a b pins s2 σ H2 x y v u Q I2 rx ry q (hs _ _))
def rIxL (K:PySem.W.Frag):R2:=fun x y H Q=>∃ p xs i v,x = .ref p∧y = .int i∧SqL K H p xs∧atI xs i = some v∧Q v H
def rIxT (K:PySem.W.Frag):R2:=fun x y H Q=>∃ p xs i v,x = .ref p∧y = .int i∧SqT K H p xs∧atI xs i = some v∧Q v H
def rIxS:R2:=fun x y H Q=>∃ z i c,x = .str z∧y = .int i∧z.length≤sizeLine∧atI z.cps.toList i = some c∧Q (.str ⟨#[c]⟩) H
theorem ix_list:IxR X (rIxL X.K):=by
 intro value slice pins s σ H x y v u Q I rx ry h hs
 obtain ⟨p,xs,i,z,rfl,rfl,hq,he,q⟩:=h
 cases rx
 obtain ⟨t,rfl⟩:=ry
 obtain ⟨its,r,pl,hz⟩:=I.list hq
 obtain ⟨j,h1,h2,h3,h4,h5⟩:=atI_get he
 obtain ⟨w,ew,rw'⟩:=r.get h2
 have hl:=r.length
 have hn:=line63
 have fin:EP X pins σ Q w s:=⟨z,H,I,rw',q⟩
 by_cases h0:0≤i
 ·have hj:i.toNat = j:=by
   rw [seqIndex_of h0 h5] at h1
   exact Option.some.inj h1
  exact item_listR pl.isList h0 (by omega) (by rw [hj];simpa using ew) fin hs
 ·have hj:(i + (its.toArray.size:Int)).toNat = j:=by
   rw [seqIndex_neg (by omega) h4] at h1
   rw [List.size_toArray,← hl]
   exact Option.some.inj h1
  exact subscriptTail_builtinR (x:=w) pl.isList.typeIs slot_list_getitem.lookup
   (wpAny_getItem_list_neg (Q:=fun r s'=>r = w∧EP X pins σ Q r s') pl.isList (by omega) (by rw [List.size_toArray] <;> omega) (by omega) (by rw [hj];simpa using ew) ⟨rfl,fin⟩) hs
theorem ix_tup:IxR X (rIxT X.K):=by
 intro value slice pins s σ H x y v u Q I rx ry h hs
 obtain ⟨p,xs,i,z,rfl,rfl,hq,he,q⟩:=h
 cases rx
 obtain ⟨t,rfl⟩:=ry
 obtain ⟨its,r,pl,hz⟩:=I.tuple hq
 obtain ⟨j,h1,h2,h3,h4,h5⟩:=atI_get he
 obtain ⟨w,ew,rw'⟩:=r.get h2
 have hl:=r.length
 have hn:=line63
 have fin:EP X pins σ Q w s:=⟨z,H,I,rw',q⟩
 exact subscriptTail_builtinR (x:=w) pl.typeIs slot_tuple_getitem.lookup
  (getItem_tuple (j:=j) (Q:=fun r s'=>r = w∧EP X pins σ Q r s') pl (by omega) (by omega) (by rw [List.size_toArray,← hl];exact h1) (by simpa using ew) ⟨rfl,fin⟩) hs
theorem ix_str:IxR X rIxS:=by
 intro value slice pins s σ H x y v u Q I rx ry h hs
 obtain ⟨z,i,c,rfl,rfl,hz,he,q⟩:=h
 obtain ⟨t,rfl⟩:=rx
 obtain ⟨t',rfl⟩:=ry
 obtain ⟨j,h1,h2,h3,h4,h5⟩:=atI_get he
 have hl:z.cps.toList.length = z.length:=by simp [Str.length]
 rw [hl] at h1 h4 h5
 have hn:=line63
 exact tail_any (typeIs_str s z t) slot_str_getitem.lookup (getItem_str (c:=c) (by
  have e1:decide (i < -(2 ^ 63:Int)) = false:=decide_eq_false (by omega)
  have e2:decide (i ≥ 2 ^ 63) = false:=decide_eq_false (by omega)
  rw [e1,e2,Bool.or_false]) (by rw [h1];simpa using h2) ⟨.str ⟨#[c]⟩,H,I.tok _,⟨_,rfl⟩,q⟩) hs
theorem slice_bounds (lo hi:Option Int) (n:Nat):(sliceBounds lo hi none n).1 = ((HT.sIx n 0 lo:Nat):Int)∧(sliceBounds lo hi none n).2.1 = ((HT.sIx n n hi:Nat):Int)∧(sliceBounds lo hi none n).2.2 = 1:=by
 refine ⟨?_,?_,rfl⟩
 ·cases lo with
  | none=>simp [sliceBounds,HT.sIx]
  | some i =>
   simp only [sliceBounds,HT.sIx,Option.getD_none,show (1:Int) > 0 by decide,if_true]
   by_cases h:i < 0
   ·simp only [h,if_true] <;> omega
   ·simp only [h,if_false] <;> omega
 ·cases hi with
  | none=>simp [sliceBounds,HT.sIx]
  | some i =>
   simp only [sliceBounds,HT.sIx,Option.getD_none,show (1:Int) > 0 by decide,if_true]
   by_cases h:i < 0
   ·simp only [h,if_true] <;> omega
   ·simp only [h,if_false] <;> omega
theorem slicePick_cut (its:List Value) (lo hi:Option Int):slicePick its.toArray lo hi none = ((its.drop (HT.sIx its.length 0 lo)).take (HT.sIx its.length its.length hi - HT.sIx its.length 0 lo)).toArray:=by
 obtain ⟨h1,h2,h3⟩:=slice_bounds lo hi its.toArray.size
 unfold slicePick
 rw [h1,h2,h3]
 simp only [sliceRange_one,pick_run,List.size_toArray] <;> rfl
def rSlL (K:PySem.W.Frag):V→Option Int→Option Int→Hp→VK→Prop:=fun x lo hi H Q=>∃ a xs,x = .ref a∧SqL K H a xs∧∀ p,H p = none→Q (.ref p) (upd H p (.lst (cutV xs lo hi)))
theorem sl_list:SlR X (rSlL X.K):=by
 intro pins s σ H x v vl vu lo hi sl Q I rx hs pl pu h
 obtain ⟨a,xs,rfl,hx,q⟩:=h
 cases rx
 obtain ⟨its,r,ht,hz⟩:=I.list hx
 have hlen:=r.length
 refine ⟨"list",_,slot_list_getitem.lookup,ht.isList.typeIs,?_⟩
 refine wpAny_getItem_list_slice ht.isList hs pl pu .none (by simp) ?_ (by rw [List.size_toArray] <;> omega)
 rw [slicePick_cut,← hlen]
 refine ⟨.ref s.heap.objs.size,_,I.laid (t':=s.toks) (o:=.lst (cutV xs lo hi)) (fun b ob q=>Heap.get?_push_of_some _ q) (Nat.le_refl _) ?_,rfl,q _ (I.hok.fresh (Nat.le_refl _))⟩
 exact ⟨Nat.le_trans (cutV_length xs lo hi) hz,_,0,(r.drop (HT.sIx xs.length 0 lo)).take (HT.sIx xs.length xs.length hi - HT.sIx xs.length 0 lo),Heap.get?_push_size _ rfl⟩
def flatV:V→Bool
 | .non=>true
 | .bl _=>true
 | .int _=>true
 | .str _=>true
 | _=>false
def eqV:V→V→Bool
 | .non,.non=>true
 | .bl a,.bl b=>a == b
 | .bl a,.int b=>(if a then 1 else 0) == b
 | .int a,.bl b=>a == (if b then 1 else 0)
 | .int a,.int b=>a == b
 | .str a,.str b=>a == b
 | _,_=>false
theorem eqAt_V {A:Around} {s:Shared} {y x:V} {u v:Value} (ry:RelV y u) (rx:RelV x v) (fy:flatV y = true) (fx:flatV x = true):SeqAt.EqAt A s u v (eqV y x):=by
 cases y with
 | non =>
  cases ry
  cases x with
  | non=>cases rx;exact SeqAt.EqAt.same _
  | bl b=>cases rx;exact SeqAt.EqAt.none_bool b
  | int b=>obtain ⟨t,rfl⟩:=rx;exact SeqAt.EqAt.none_int b t
  | str b=>obtain ⟨t,rfl⟩:=rx;exact SeqAt.EqAt.none_str b t
  | _=>exact absurd (show false = true from fx) Bool.false_ne_true
 | bl a =>
  cases ry
  cases x with
  | non=>cases rx;exact SeqAt.EqAt.bool_none a
  | bl b=>cases rx;exact SeqAt.EqAt.bool_bool a b
  | int b=>obtain ⟨t,rfl⟩:=rx;exact SeqAt.EqAt.bool_int a b t
  | str b=>obtain ⟨t,rfl⟩:=rx;exact SeqAt.EqAt.bool_str a b t
  | _=>exact absurd (show false = true from fx) Bool.false_ne_true
 | int a =>
  obtain ⟨t',rfl⟩:=ry
  cases x with
  | non=>cases rx;exact SeqAt.EqAt.int_none a t'
  | bl b=>cases rx;exact SeqAt.EqAt.int_bool a t' b
  | int b=>obtain ⟨t,rfl⟩:=rx;exact SeqAt.EqAt.int_int a t' b t
  | str b=>obtain ⟨t,rfl⟩:=rx;exact SeqAt.EqAt.int_str a t' b t
  | _=>exact absurd (show false = true from fx) Bool.false_ne_true
 | str a =>
  obtain ⟨t',rfl⟩:=ry
  cases x with
  | non=>cases rx;exact SeqAt.EqAt.str_none a t'
  | bl b=>cases rx;exact SeqAt.EqAt.str_bool a t' b
  | int b=>obtain ⟨t,rfl⟩:=rx;exact SeqAt.EqAt.str_int a t' b t
  | str b=>obtain ⟨t,rfl⟩:=rx;exact SeqAt.EqAt.str_str a t' b t
  | _=>exact absurd (show false = true from fx) Bool.false_ne_true
 | _=>exact absurd (show false = true from fy) Bool.false_ne_true
def eqU (x:V) (u:Value):Bool:=match u with
 | .none=>eqV .non x
 | .bool b=>eqV (.bl b) x
 | .int i _=>eqV (.int i) x
 | .str z _=>eqV (.str z) x
 | _=>false
theorem eqU_of {x y:V} {u:Value} (r:RelV y u) (f:flatV y = true):eqU x u = eqV y x:=by
 cases y with
 | non=>cases r;rfl
 | bl b=>cases r;rfl
 | int i=>obtain ⟨t,rfl⟩:=r;rfl
 | str z=>obtain ⟨t,rfl⟩:=r;rfl
 | _=>exact absurd (show false = true from f) Bool.false_ne_true
theorem any_eqU {x:V}:∀ {xs:List V} {us:List Value},Vals xs us→xs.all flatV = true→us.any (eqU x) = xs.any fun y=>eqV y x
 | _,_,.nil,_=>rfl
 | y :: xs,u :: us,.cons r t,f=>by
  rw [List.all_cons,Bool.and_eq_true] at f
  rw [List.any_cons,List.any_cons,eqU_of r f.1,any_eqU t f.2]
theorem mem_eqAt {A:Around} {s:Shared} {x:V} {v:Value} (rx:RelV x v) (fx:flatV x = true):∀ {xs:List V} {us:List Value},Vals xs us→xs.all flatV = true→∀ u∈us,SeqAt.EqAt A s u v (eqU x u)
 | _,_,.nil,_=>fun u hu=>by cases hu
 | y :: xs,u :: us,.cons r t,f=>fun u' hu=>by
  rw [List.all_cons,Bool.and_eq_true] at f
  rcases List.mem_cons.mp hu with rfl | hu
  ·rw [eqU_of r f.1];exact eqAt_V r rx f.1 fx
  ·exact mem_eqAt rx fx t f.2 u' hu
def inV (x:V) (xs:List V):Bool:=xs.any fun y=>eqV y x
def rIn (K:PySem.W.Frag) (neg:Bool):R2:=fun x y H Q=>∃ p xs,y = .ref p∧(SqL K H p xs∨SqT K H p xs)∧flatV x = true∧xs.all flatV = true∧Q (.bl (if neg then !inV x xs else inV x xs)) H
theorem op_in_seq:OpR X (compareOp .In) (rIn X.K false):=by
 intro pins s σ H x y v u Q I rx ry h
 obtain ⟨p,xs,rfl,hq,fx,fs,q⟩:=h
 cases ry
 rcases hq with hq | hq
 ·obtain ⟨its,r,pl,hz⟩:=I.list hq
  refine SeqAt.in_listAt (eqU x) pl.isList (fun w hw=>mem_eqAt rx fx r fs w (by simpa using hw)) ⟨.bl _,H,I,rfl,?_⟩
  rw [show its.toArray.any (eqU x) = its.any (eqU x) by simp,any_eqU r fs]
  exact q
 ·obtain ⟨its,r,pl,hz⟩:=I.tuple hq
  refine SeqAt.in_tupleAt (eqU x) pl (fun w hw=>mem_eqAt rx fx r fs w (by simpa using hw)) ⟨.bl _,H,I,rfl,?_⟩
  rw [show its.toArray.any (eqU x) = its.any (eqU x) by simp,any_eqU r fs]
  exact q
theorem op_notIn_seq:OpR X (compareOp .NotIn) (rIn X.K true):=by
 intro pins s σ H x y v u Q I rx ry h
 obtain ⟨p,xs,rfl,hq,fx,fs,q⟩:=h
 cases ry
 rcases hq with hq | hq
 ·obtain ⟨its,r,pl,hz⟩:=I.list hq
  refine SeqAt.notIn_listAt (eqU x) pl.isList (fun w hw=>mem_eqAt rx fx r fs w (by simpa using hw)) ⟨.bl _,H,I,rfl,?_⟩
  rw [show its.toArray.any (eqU x) = its.any (eqU x) by simp,any_eqU r fs]
  exact q
 ·obtain ⟨its,r,pl,hz⟩:=I.tuple hq
  refine SeqAt.notIn_tupleAt (eqU x) pl (fun w hw=>mem_eqAt rx fx r fs w (by simpa using hw)) ⟨.bl _,H,I,rfl,?_⟩
  rw [show its.toArray.any (eqU x) = its.any (eqU x) by simp,any_eqU r fs]
  exact q
theorem call_len_seq:CallR X (.builtin "len") (fun xs H Q=>∃ p ys,xs = [.ref p]∧(SqL X.K H p ys∨SqT X.K H p ys)∧Q (.int ys.length) H):=by
 intro pins s σ H xs us Q I r h
 obtain ⟨p,ys,rfl,hq,q⟩:=h
 obtain ⟨u,rfl,rx⟩:=vals1 r
 cases rx
 have hn:=line63
 rcases hq with hq | hq
 ·obtain ⟨its,r',pl,hz⟩:=I.list hq
  have hlen:=r'.length
  exact Calls.call_len_list pl.isList (by simp only [List.size_toArray] <;> omega) ⟨.int ys.length,H,I.tok _,⟨s.toks + 1,by rw [List.size_toArray,hlen]⟩,q⟩
 ·obtain ⟨its,r',pl,hz⟩:=I.tuple hq
  have hlen:=r'.length
  exact len_tuple pl (by simp only [List.size_toArray] <;> omega) ⟨.int ys.length,H,I.tok _,⟨s.toks + 1,by rw [List.size_toArray,hlen]⟩,q⟩
theorem call_len_str:CallR X (.builtin "len") (fun xs H Q=>∃ z,xs = [.str z]∧z.length≤sizeLine∧Q (.int z.length) H):=by
 intro pins s σ H xs us Q I r h
 obtain ⟨z,rfl,hz,q⟩:=h
 obtain ⟨u,rfl,t,rfl⟩:=vals1 r
 have hn:=line63
 exact len_str (by omega) ⟨.int z.length,H,I.tok _,⟨_,rfl⟩,q⟩
def tyV (K:PySem.W.Frag) (T:String) (x:V) (H:Hp):Prop:=match x with
 | .str _=>T = "str"
 | .int _=>T = "int"
 | .ref p=>(T = "list"∧∃ xs,SqL K H p xs)∨(T = "tuple"∧∃ o,K.lookup p = some o∧o.cls = .type "tuple"∧o.dict = none) ∨
   (T = "dict"∧((∃ kvs,H p = some (.dK kvs))∨∃ kvs,H p = some (.dT kvs)))∨(T = "set"∧∃ S n,H p = some (.set S n))
 | _=>False
theorem tyV_is {pins:List (Addr×Obj)} {σ:St} {H:Hp} {s:Shared} {T:String} {x:V} {v:Value} (I:Inv X pins σ H s) (r:RelV x v) (ty:tyV X.K T x H) :
  s.TypeIs v T∧∀ a,v = .ref a→∃ ob,s.heap.get? a = some ob∧ob.dict = none:=by
 cases x with
 | str z =>
  obtain ⟨t,rfl⟩:=r
  cases (show T = "str" from ty)
  exact ⟨typeIs_str s z t,fun _ e=>nomatch e⟩
 | int i =>
  obtain ⟨t,rfl⟩:=r
  cases (show T = "int" from ty)
  exact ⟨typeIs_int s i t,fun _ e=>nomatch e⟩
 | ref p =>
  cases r
  rcases ty with ⟨rfl,xs,hq⟩ | ⟨rfl,o,hk,hc,hd⟩ | ⟨rfl,hk⟩ | ⟨rfl,S,n,hk⟩
  ·obtain ⟨its,_,pl,_⟩:=I.list hq
   refine ⟨pl.isList.typeIs,fun a e=>?_⟩
   cases e
   obtain ⟨o,n,e,c,hd,_⟩:=pl
   exact ⟨o,e,hd⟩
  ·refine ⟨⟨o,I.kIn p o hk,hc⟩,fun a e=>?_⟩
   cases e
   exact ⟨o,I.kIn _ o hk,hd⟩
  ·have z:∃ o,s.heap.get? p = some o∧o.ExactDict:=by
    rcases hk with ⟨kvs,hk⟩ | ⟨kvs,hk⟩
    ·obtain ⟨_,_,_,_,o,_,_,e,ex,_⟩:=I.hok p _ hk
     exact ⟨o,e,ex⟩
    ·obtain ⟨_,_,_,_,o,_,_,e,ex,_⟩:=I.hok p _ hk
     exact ⟨o,e,ex⟩
   obtain ⟨o,e,ex⟩:=z
   refine ⟨⟨o,e,ex.1⟩,fun a e2=>?_⟩
   cases e2
   exact ⟨o,e,ex.2.1⟩
  ·obtain ⟨o,_,_,_,e,ex,_⟩:=I.hok p _ hk
   refine ⟨⟨o,e,ex.1⟩,fun a e2=>?_⟩
   cases e2
   exact ⟨o,e,ex.2.1⟩
 | _=>exact False.elim ty
def tBM (K:PySem.W.Frag) (T:String) (r:V→List V→Hp→VK→Prop) (to:TE) (t:TA):TE:=fun σ H Q=>to σ H fun x H1=>tyV K T x H1∧t σ H1 fun xs H2=>r x xs H2 Q
variable {o e:Expr} {es:List Expr} {to:TE} {t:TA} {name:Str} {apos cpos:Pos} {T id:String} {r:V→List V→Hp→VK→Prop}
theorem pe_bm (pa:PlainAttrs T) (slot:Slot T name id) (hty:typeOf (.builtin id) = pure (.type "method_descriptor")) (hm:MtR X id r) (ho:PE X o to) (ha:PA X (e :: es) t)
  (hbase:attributeBase o name X.env (eval o X.env) = eval o X.env:=by rfl)
  (hfew:((backTo cpos (starEach (e :: es) X.env)).all (fun x=>!x.1) && (backToKw cpos (keywordEach [] X.env)).all (fun x=>x.1.isSome)
   && decide ((e :: es).length + ([]:List Keyword).length + (if ([]:List Keyword).isEmpty then 0 else 1) < 30)) = true:=by rfl)
  (hline:(apos.endLine == cpos.line) = true:=by rfl) (hs:starEach (e :: es) X.env = (false,eval e X.env) :: starEach es X.env:=by rfl) (hplain:(backTo cpos (starEach es X.env)).any (·.1) = false:=by rfl) :
  PE X (.Call (.Attribute o name apos) (e :: es) [] cpos) (tBM X.K T r to t):=by
 intro pins s σ H Q I h
 refine wpAny_Call_method_late hbase hfew hline rfl (thn (ho pins s σ H _ I h) fun v s1 ⟨x,H1,I1,r1,ty,q1⟩=>?_)
 obtain ⟨h1,h2⟩:=tyV_is I1 r1 ty
 refine ⟨T,id,pa,slot,hty,h1,h2,?_⟩
 have hA:=ha cpos pins s1 σ H1 _ I1 q1
 rw [hs] at hA ⊢
 refine Calls.callWith_builtin (by show (false || (backTo cpos (starEach es X.env)).any (·.1)) = false;rw [hplain] <;> rfl) (Calls.evalArgs_plain ?_)
 exact thn hA fun us s2 ⟨vs,H2,I2,r2,q2⟩=>hm pins s2 σ H2 x vs v us Q I2 r1 r2 q2
end
end L2
namespace L2
open PySem PySem.Spec PyProof.Rows
def MtM (X:Cx) (id:String) (r:V→List V→Hp→VK→Prop):Prop :=
 ∀ (pins:List (Addr×Obj)) (s:Shared) (σ:St) (H:Hp) (x:V) (xs:List V) (v:Value) (us:List Value) (Q:VK),Inv X pins σ H s→RelV x v→Vals xs us→r x xs H Q →
  wpAny (model X.prog X.w) X.A (call (.builtin id) (v :: us)) (EP X pins σ Q) X.xe s
theorem Vals.one:∀ {x:V} {us:List Value},Vals [x] us→∃ u,us = [u]∧RelV x u
 | _,_,.cons r .nil=>⟨_,rfl,r⟩
theorem Vals.rep {xs:List V} {us:List Value} (h:Vals xs us):∀ k:Nat,Vals (List.replicate k xs).flatten (List.replicate k us).flatten
 | 0=>.nil
 | k + 1=>by
  rw [List.replicate_succ,List.replicate_succ,List.flatten_cons,List.flatten_cons]
  exact Vals.append h (Vals.rep h k)
theorem foldl_rep (its:List Value):∀ (k:Nat) (acc:List Value),
  List.foldl (fun x1 x2=>x1++x2) acc.toArray (List.replicate k its.toArray) = (acc++(List.replicate k its).flatten).toArray
 | 0,acc=>by simp
 | k + 1,acc=>by
  have e:acc.toArray++its.toArray = (acc++its).toArray:=by simp
  have e2:(acc++its)++(List.replicate k its).flatten = acc++(List.replicate (k + 1) its).flatten:=by
   rw [List.replicate_succ,List.flatten_cons,List.append_assoc]
  rw [← e2,← foldl_rep its k (acc++its),← e,List.replicate_succ,List.foldl_cons]
section
variable {X:Cx} {pins:List (Addr×Obj)} {σ:St} {H:Hp} {s:Shared} {l b:Addr} {xs ys zs:List V}
theorem Inv.lset {its its':List Value} {n:Nat} {f:Array Value→Array Value} {t':Nat} (I:Inv X pins σ H s) (hH:H l = some (.lst xs))
  (e:s.heap.get? l = some { cls:=.type "list",data:=.seq its.toArray n }) (hf:f its.toArray = its'.toArray) (hv:Vals ys its') (hz:ys.length≤sizeLine) :
  Inv X pins σ (upd H l (.lst ys)) { s with heap:=s.heap.update l (Obj.mapSeq f),toks:=t' }:=by
 have q:=PySem.IsL.update e f
 rw [hf] at q
 refine I.write (x:=l) (e:=l) (by rw [hH];exact trivial) (.inl rfl) (fun b' u hb hu=>(Heap.get?_update_other s.heap (Obj.mapSeq f) (Ne.symm hb)).trans hu) ⟨_,q⟩ ?_
 exact ⟨hz,its',_,hv,q⟩
theorem Inv.lnew {its:List Value} {t':Nat} (I:Inv X pins σ H s) (hv:Vals ys its) (hz:ys.length≤sizeLine) :
  Inv X pins σ (upd H s.heap.objs.size (.lst ys)) { s with heap:=s.heap.push { cls:=.type "list",data:=.seq its.toArray },toks:=t' } :=
 I.laid (fun _ _ q=>Heap.get?_push_of_some _ q) (Nat.le_refl _) ⟨hz,its,0,hv,Heap.get?_push_size _ rfl⟩
theorem Inv.fresh (I:Inv X pins σ H s):H s.heap.objs.size = none:=I.hok.fresh (Nat.le_refl _)
theorem Inv.lstM (I:Inv X pins σ H s) (hH:H l = some (.lst xs)):xs.length≤sizeLine∧∃ (its:List Value) (n:Nat),Vals xs its∧xs.length = its.length∧s.heap.get? l = some { cls:=.type "list",data:=.seq its.toArray n }:=by
 obtain ⟨z,its,n,r,e⟩:=I.hok l _ hH
 exact ⟨z,its,n,r,r.length,e⟩
theorem notLongL {n:Nat} (h:n≤sizeLine):Builtin.List.listTooLong n = false:=by
 unfold Builtin.List.listTooLong
 exact decide_eq_false (by omega)
end
section
variable {X:Cx}
def rAppend:V→List V→Hp→VK→Prop:=fun x vs H Q=>∃ l xs y,x = .ref l∧vs = [y]∧H l = some (.lst xs)∧xs.length < sizeLine∧Q .non (upd H l (.lst (xs++[y])))
theorem mt_append:MtM X "list.append" rAppend:=by
 intro pins s σ H x vs v us Q I rx rv h
 obtain ⟨l,xs,y,rfl,rfl,hH,hz,q⟩:=h
 cases rx
 obtain ⟨u,rfl,ru⟩:=rv.one
 obtain ⟨z,its,n,r,hl,e⟩:=I.lstM hH
 refine call_meets F.slot_list_append ⟨_,e,rfl⟩ F.entry_list_append (F.args_list_append_2 _ _) (PySem.list_append l its.toArray n u (by rw [List.size_toArray];omega)) ⟨e,?_⟩
 refine ⟨.non,_,I.lset (its':=its++[u]) hH e (by simp) (r.append (.cons ru .nil)) ?_,rfl,q⟩
 rw [List.length_append,List.length_singleton]
 omega
def rCat:R2:=fun x y H Q=>∃ l b xs zs,x = .ref l∧y = .ref b∧H l = some (.lst xs)∧H b = some (.lst zs)∧xs.length + zs.length≤sizeLine∧∀ p,H p = none→Q (.ref p) (upd H p (.lst (xs++zs)))
theorem op_cat:OpR X (binaryOp .Add) rCat:=by
 intro pins s σ H x y v u Q I rx ry h
 obtain ⟨l,b,xs,zs,rfl,rfl,hH,hB,hz,q⟩:=h
 cases rx
 cases ry
 obtain ⟨z,its,n,r,hl,e⟩:=I.lstM hH
 obtain ⟨z2,its2,n2,r2,hl2,e2⟩:=I.lstM hB
 refine PySem.P.add_list e e2 ?_ (by rw [List.size_toArray,List.size_toArray];omega)
 have ea:its.toArray++its2.toArray = (its++its2).toArray:=by simp
 rw [ea]
 exact ⟨.ref _,_,I.lnew (t':=s.toks) (r.append r2) (by rw [List.length_append];omega),rfl,q _ I.fresh⟩
def rRep:R2:=fun x y H Q=>∃ l k xs,x = .ref l∧y = .int k∧H l = some (.lst xs)∧-(2 ^ 63)≤k∧k < 2 ^ 63∧xs.length * k.toNat≤sizeLine ∧
 ∀ p,H p = none→Q (.ref p) (upd H p (.lst (List.replicate k.toNat xs).flatten))
theorem len_rep {α:Type} (xs:List α) (k:Nat):(List.replicate k xs).flatten.length = k * xs.length:=by
 induction k with
 | zero=>simp
 | succ k ih=>rw [List.replicate_succ,List.flatten_cons,List.length_append,ih,Nat.succ_mul,Nat.add_comm]
theorem op_rep:OpR X (binaryOp .Mult) rRep:=by
 intro pins s σ H x y v u Q I rx ry h
 obtain ⟨l,k,xs,rfl,rfl,hH,h1,h2,hz,q⟩:=h
 cases rx
 obtain ⟨t,rfl⟩:=ry
 obtain ⟨z,its,n,r,hl,e⟩:=I.lstM hH
 have hlen:its.toArray.size * k.toNat≤sizeLine:=by rw [List.size_toArray,← hl];exact hz
 have hcap:¬ its.toArray.size * k.toNat > (2 ^ 63 - 1) / 8:=by
  have:(sizeLine:Nat)≤(2 ^ 63 - 1) / 8:=by decide
  omega
 have hfit:¬ (!Builtin.List.listFitsIndex k) = true:=by
  rw [fitsIndex_both h1 h2]
  exact Bool.false_ne_true
 have hlong:¬ Builtin.List.listTooLong (its.toArray.size * k.toNat) = true:=by
  rw [notLongL hlen]
  exact Bool.false_ne_true
 have hnew:List.foldl (fun x1 x2=>x1++x2) #[] (List.replicate (if its.toArray.isEmpty = true then 0 else k.toNat) its.toArray) = (List.replicate k.toNat its).flatten.toArray:=by
  have f0:∀ m:Nat,List.foldl (fun x1 x2=>x1++x2) #[] (List.replicate m its.toArray) = (List.replicate m its).flatten.toArray:=fun m=>by
   have:=foldl_rep its m []
   rw [List.nil_append] at this
   exact this
  rw [f0]
  cases its with
  | nil=>simp
  | cons a r'=>rw [if_neg (by simp)]
 refine wpAny_binaryOp_repeat_ref (T:="list") (U:="int") (by decide) ⟨_,e,rfl⟩ (fun s'=>typeIs_int s' k t) noFill_list_mul F.fills_int_mul F.slot_int_rmul repeat_list F.slot_int_index.lookup
  (call_meets F.slot_int_rmul (typeIs_int s k t) F.entry_int_rmul (F.args_int_rmul_2 _ _) (int___rmul___int_list k t l its.toArray n)
   ⟨e,rfl,⟨_,e,rfl⟩,call_meets F.slot_list_mul ⟨_,e,rfl⟩ F.entry_list_mul (F.args_list_mul_2 _ _) (AutoListH.list___mul___list_int_3 l its.toArray n k t hfit hcap hlong) ⟨e,?_⟩⟩)
 rw [hnew]
 exact ⟨.ref _,_,I.lnew (t':=s.toks) (r.rep k.toNat) (by rw [len_rep,Nat.mul_comm];exact hz),rfl,q _ I.fresh⟩
end
section
variable {prog:Program} {w:World} {A:Around} {E:Value→Shared→Prop} {s:Shared}
end
section
variable {X:Cx}
end
end L2
namespace Att
open PySem PySem.W PySem.Calls PyProof.Rows
theorem ints_of_wellAll {P:Params} {h:Heap}:∀ (ns:List Int) (vs:List Value),WellAll P h vs (ns.map WData.int)→IntsAre vs ns:=by
 intro ns
 induction ns with
 | nil =>
  intro vs w
  rw [List.map_nil] at w
  cases w
  exact .nil
 | cons n ns ih =>
  intro vs w
  rw [List.map_cons] at w
  cases w with
  | cons a b =>
   cases a
   exact .cons _ _ (ih _ b)
theorem script_of {l:OpenLaw} {n:Nat} (hn:l.most = some n) {P:Params} {h:Heap} {args:List WData} {vals:List Value}
  (hpre:l.row.toRowW.claim.pre args = true) (hwl:WellAll P h vals args) :
  ∃ a vs ns,vals = [Value.ref a]∧args = [WData.list (ns.map WData.int)]∧h.get? a = some { cls:=.type "list",data:=.seq vs.toArray }∧IntsAre vs ns∧ns.length≤n:=by
 have hsh:WShape.hasAll [] args [.list .int] = true:=(pre_splitW hpre).1
 have hc:l.pre.holds [] { args:=args } = true:=(pre_splitW hpre).2
 obtain ⟨d,r,rfl,h1,h2⟩:=hasAllW_cons hsh
 obtain rfl:=hasAllW_nil h2
 obtain ⟨xs,rfl,h3⟩:=hasW_list h1
 obtain ⟨ns,rfl⟩:=items_int h3
 have hlen:ns.length≤n:=by
  unfold OpenLaw.pre at hc
  have h4:(WTm.not (.lt (.lit (.int (n:Int))) (.len (.arg 0)))).holds [] { args:=[.list (ns.map .int)] } = true:=by
   have h4:=(holds_andW hc).1
   rw [hn] at h4
   exact h4
  have h5:=condW_of h4 (w_not (w_lt w_lit (w_len_list (w_arg rfl))))
  rw [List.length_map] at h5
  refine Nat.le_of_not_lt fun q=>?_
  have q':(n:Int) < ((ns.length:Nat):Int):=by omega
  first
   | (rw [decide_eq_true q'] at h5;exact absurd h5 (by decide))
   | (simp at h5;omega)
 cases hwl with
 | cons w1 w2 =>
  cases w2
  cases w1 with
  | list ho hall=>exact ⟨_,_,ns,rfl,rfl,ho,ints_of_wellAll ns _ hall,hlen⟩
theorem post_true (l:OpenLaw) (args:List WData):l.row.toRowW.claim.post args (.bool true) args = true :=
 postW_of (r:=l.row.toRowW) (X:=(true == true))
  (show WShape.has [] (.bool true) .bool = true by first | rfl | decide | simp [WShape.has,WShape.arms,WShape.armsAll])
  (show (WTm.eq .res (.lit (.bool true))).value [] { args:=args,res:=some (.bool true),after:=args } = some (.bool (true == true)) from w_eq_bool (w_res rfl) w_lit) rfl
theorem attach_call {l:OpenLaw} {n:Nat} {q:Program} {loose:List Str} {XP:(Str→Option Value)→Heap→Prop} {YP:World→Heap→Prop} {d:DefRec}
  (hn:l.most = some n) (hdf:d.params.defaults = [])
  (call:∀ (w:World) (s₀ s₁:Shared) (mg mb:Str→Option Value) (fa:Addr) (o:Obj) (pm cd doc:Value) (a:Addr) (vs:List Value) (ns:List Int),
   Ground q loose [] XP w s₀ mg mb s₁.heap→YP w s₁.heap →
   s₁.heap.get? fa = some o→o.data = .func (docDef d.name d.params d.body d.scope pm cd doc)→s₁.heap.CodeRec cd d.name→mg d.name = some (.ref fa) →
   s₁.heap.get? a = some { cls:=.type "list",data:=.seq vs.toArray }→IntsAre vs ns→ns.length≤n→s₁.gens = #[] →
   codeAny (model l.prog w) callerA (.call (.ref fa) ⟨[.ref a],[]⟩) (fun r s'=>r = .ok (.ret (.bool true))∧OldK s₁.heap s'.heap∧s'.os = s₁.os∧AllBare s'.gens) s₁) :
  WalkO q loose XP YP l.row.toRowW d [] (fun f vs=>PySem.call f vs):=by
 intro w s₀ s₁ mg mb G Y fa o pm cd doc dV kV ho hd hcd hD hmg hg args vals as hpre hlay hrd hwl hlo
 obtain rfl:dV = .none:=Dflts.none hD hdf
 obtain rfl:kV = .none:=Dflts.noKw hD
 obtain ⟨a,vs,ns,rfl,rfl,hobj,hints,hlen⟩:=script_of hn hpre hwl
 refine enter_call (codeAny_mono (call w s₀ s₁ mg mb fa o pm cd doc a vs ns G Y ho (fd_plain hd) hcd hmg hobj hints hlen hg) fun r s' hq=>?_)
 obtain ⟨rfl,h2,h3,h4⟩:=hq
 exact ⟨.inl ⟨.bool true,.bool true,[],rfl,fun _=>rfl,.bool true,post_true l _,fun _=>⟨List.Pairwise.nil,fun _ hm=>(nomatch hm)⟩⟩,h2,h3,h4⟩
section
variable {prog:Program} {w:World} {A:Around} {E:Value→Shared→Prop} {s:Shared} {K:Frag}
end
end Att
namespace L2
open PySem PySem.Spec PyProof.Rows
theorem vals_ints:∀ {vs:List Value} {ns:List Int},IntsAre vs ns→Vals (ns.map V.int) vs
 | _,_,.nil=>.nil
 | _,_,.cons n t h=>.cons ⟨t,rfl⟩ (vals_ints h)
def Only (H:Hp):Prop:=∀ b,H b = none∨∃ o xs,H b = some (.frz o (.lst xs))
theorem law_call {P:Program} {w:World} {K:PySem.W.Frag} {mg mb:Str→Option Value} {CX:CXT} {k:Nat} {fa a:Addr} {fd:FuncData} {x:Str} {sp:Sp} {s₁:Shared} {vs:List Value} {ns:List Int}
  (KX:K.In s₁.heap) (hns:s₁.heap.Ns mainGlobals mg) (hb:s₁.heap.Ns builtinsNs mb) (hbb:∀ x:Str,x≠"__name__"→mb x = bootBuiltins x) (hlim:s₁.heap.NoLimit) (hg:s₁.gens = #[])
  (ha:s₁.heap.get? a = some { cls:=.type "list",data:=.seq vs.toArray }) (hi:IntsAre vs ns) (hl:ns.length≤sizeLine) (hr:Room k callerA)
  (F:∀ base:Heap,K.In base→base.Ns mainGlobals mg→FnOk P w K mg base CX k fa fd [x] sp) (hbind:∀ (s:Shared) (u:Value),BindsTo s fd ⟨[u],[]⟩ [(x,u)])
  (hsp:∀ H:Hp,Only H→SqL K H a (ns.map V.int)→sp [.ref a] H (fun v _=>v = .bl true) fun _ _ _=>False)
  (hCX:∀ H e s',CX [] H s₁ (fun _ _ _=>False) e s'→False) :
  codeAny (model P w) callerA (.call (.ref fa) ⟨[.ref a],[]⟩) (fun r s'=>r = .ok (.ret (.bool true))∧OldK s₁.heap s'.heap∧s'.os = s₁.os∧AllBare s'.gens) s₁:=by
 have rv:=vals_ints hi
 have lenV:=hi.length
 have core:∀ H:Hp,Only H→SqL K H a (ns.map V.int)→HOk P w H s₁.heap→(∀ b,H b≠none→b = a)→(H a≠none→K.lookup a = none) →
   codeAny (model P w) callerA (.call (.ref fa) ⟨[.ref a],[]⟩) (fun r s'=>r = .ok (.ret (.bool true))∧OldK s₁.heap s'.heap∧s'.os = s₁.os∧AllBare s'.gens) s₁:=by
  intro H hO hS hok hA hK
  have base_of:∀ {b:Addr} {o:Obj},s₁.heap.get? b = some o→H b = none→(hidT s₁.heap H).get? b = some o:=fun e n=>hidT_get e n
  have noA:∀ {b:Addr} {o:Obj} {es:Array DictEntry} {ep:Nat},s₁.heap.get? b = some o→o.data = .dict es ep→H b = none:=fun {b o es ep} e d=>by
   cases q:H b with
   | none=>rfl
   | some u =>
    have e':b = a:=hA b (by rw [q];simp)
    subst e'
    rw [ha] at e;cases e
    have d':Data.seq vs.toArray _ = Data.dict es ep:=d
    cases d'
  have nsK:∀ {b:Addr} {m:Str→Option Value},s₁.heap.Ns b m→(hidT s₁.heap H).Ns b m:=fun {b m} ⟨o,es,ep,e,d,r⟩=>⟨o,es,ep,base_of e (noA e d),d,r⟩
  have hKb:K.In (hidT s₁.heap H):=fun b o e=>base_of (KX b o e) (by
   cases q:H b with
   | none=>rfl
   | some u =>
    have e':b = a:=hA b (by rw [q];simp)
    subst e'
    rw [hK (by rw [q];simp)] at e;cases e)
  have hM:Mod K mg (hidT s₁.heap H):=⟨hKb,nsK hns,⟨mb,nsK hb,hbb⟩,let ⟨mc,h1,h2⟩:=hlim;⟨mc,nsK h1,h2⟩⟩
  have e0:Env0 P w K mg (hidT s₁.heap H) callerA [] s₁ H:=⟨rfl,hM,fun b o e=>of_hidT e,Nat.le_of_eq (hidT_size _ _),trivial,fun b hb=>absurd (show b∈([]:List Addr) from hb) (by simp),hok,.of_eq hg⟩
  refine codeAny_mono ((F _ hKb (nsK hns)).run callerA [] s₁ H ⟨[.ref a],[]⟩ [.ref a] [.ref a] _ _ hr e0 (hbind s₁ (.ref a)) (.cons rfl .nil) (hsp H hO hS)) fun r s' h=>?_
  cases r with
  | error e=>exact (hCX H e s' h).elim
  | ok fl =>
   cases fl with
   | next=>exact False.elim h
   | brk=>exact False.elim h
   | cont=>exact False.elim h
   | ret u =>
    obtain ⟨v,H',os,bare,un,hok',r',q⟩:=h
    have q':v = .bl true:=q
    subst q'
    obtain rfl:u = Value.bool true:=r'
    refine ⟨rfl,OldK.of_keep fun b o e=>?_,os,bare⟩
    cases q:H b with
    | none=>exact un.keep b o e q (by intro z;exact absurd (show b∈([]:List Addr) from z) (by simp)) (by simp)
    | some u =>
     rcases hO b with z | ⟨ob,xs,z⟩
     ·rw [q] at z;cases z
     ·have z2:=un.frzs b ob _ z
      obtain ⟨e1,_⟩:=hok b _ z
      obtain ⟨e2,_⟩:=hok' b _ z2
      rw [e] at e1;cases e1
      exact e2
 cases hk:K.lookup a with
 | some o =>
  have e:=KX a o hk
  rw [ha] at e
  cases e
  refine core (fun _=>none) (fun _=>.inl rfl) (.inr ⟨_,vs.toArray,_,hk,rfl,rfl,rfl,by rw [List.size_toArray,lenV];exact hl,by simpa using rv⟩) (fun b u z=>by have z':(none:Option HO) = some u:=z;cases z') (fun b z=>absurd rfl z) fun z=>absurd rfl z
 | none =>
  refine core (fun b=>if b = a then some (.frz { cls:=.type "list",data:=.seq vs.toArray } (.lst (ns.map V.int))) else none) (fun b=>?_) (.inl (.inr ⟨{ cls:=.type "list",data:=.seq vs.toArray },if_pos rfl⟩)) (fun b u z=>?_) (fun b z=>?_) fun _=>hk
  ·by_cases hb:b = a
   ·exact .inr ⟨_,_,if_pos hb⟩
   ·exact .inl (if_neg hb)
  ·by_cases hb:b = a
   ·have z':=(if_pos hb).symm.trans z
    cases z'
    subst hb
    exact ⟨ha,by rw [List.length_map];exact hl,vs,_,rv,ha⟩
   ·have z':=(if_neg hb).symm.trans z
    cases z'
  ·by_cases hb:b = a
   ·exact hb
   ·exact absurd (if_neg hb) z
end L2
namespace L2
open PySem PySem.Spec PyProof.Rows
theorem walk_of {l:PySem.W.OpenLaw} {n k:Nat} {q:Program} {loose:List Str} {XP:(Str→Option Value)→Heap→Prop} {YP:World→Heap→Prop} {d:DefRec} {K:Params→PySem.W.Frag} {CX:World→CXT} {sp:World→Sp} {x:Str}
  (hn:l.most = some n) (hn2:n≤sizeLine) (hdf:d.params.defaults = []) (hr:Room k callerA)
  (hY:∀ (w:World) (h:Heap),YP w h→(K w.params).In h)
  (F:∀ (w:World) (mg:Str→Option Value) (fa:Addr) (h:Heap),(K w.params).In h→h.Ns mainGlobals mg→mg d.name = some (.ref fa) →
   ∃ fd:FuncData,(∀ (s:Shared) (u:Value),BindsTo s fd ⟨[u],[]⟩ [(x,u)]) ∧
    ∀ base:Heap,(K w.params).In base→base.Ns mainGlobals mg→FnOk l.prog w (K w.params) mg base (CX w) k fa fd [x] (sp w))
  (hsp:∀ (w:World) (H:Hp) (a:Addr) (ns:List Int),ns.length≤n→Only H→SqL (K w.params) H a (ns.map V.int)→sp w [.ref a] H (fun v _=>v = .bl true) fun _ _ _=>False)
  (hCX:∀ (w:World) (H:Hp) (s:Shared) (e:Value) (s':Shared),CX w [] H s (fun _ _ _=>False) e s'→False) :
  PySem.W.WalkO q loose XP YP l.row.toRowW d [] (fun f vs=>PySem.call f vs):=by
 refine Att.attach_call hn hdf fun w s₀ s₁ mg mb fa o pm cd doc a vs ns G Y ho hd hcd hmg hobj hints hlen hg=>?_
 have KX:=hY w _ Y
 obtain ⟨fd,hb,hF⟩:=F w mg fa _ KX G.T.g hmg
 exact law_call KX G.T.g G.T.b G.T.builtins G.T.nolimit hg hobj hints (Nat.le_trans hlen hn2) hr hF hb (fun H hO hS=>hsp w H a ns hlen hO hS) fun H e s'=>hCX w H s₁ e s'
end L2
namespace L2
open PySem PySem.Spec PyProof.Rows
def inClass (s:Stmt) (j:Nat):Stmt:=match s with
 | .ClassDef _ _ _ body _ _ _ _ _ _ _=>body.getD j (.Pass ⟨0,0,0,0⟩)
 | _=>.Pass ⟨0,0,0,0⟩
def defArgs (s:Stmt):Arguments:=match s with
 | .FunctionDef _ a _ _ _ _ _ _ _ _=>a
 | _=>{ posonlyargs:=[],args:=[],vararg:=none,kwonlyargs:=[],kw_defaults:=[],kwarg:=none,defaults:=[] }
def defBody (s:Stmt):List Stmt:=match s with
 | .FunctionDef _ _ b _ _ _ _ _ _ _=>b
 | _=>[]
def defScope (s:Stmt):Scope:=match s with
 | .FunctionDef _ _ _ _ _ _ sc _ _ _=>sc
 | _=>{ kind:=.function,names:=[],isGenerator:=false,isCoroutine:=false }
abbrev CX0:CXT:=fun _ _ _ _ _ _=>False
abbrev E0:XK:=fun _ _ _=>False
theorem pass0 {X:Cx}:Passes CX0 X E0:=fun _ _ _ _ _ _ _ h=>h.elim
structure Fun (K:PySem.W.Frag) (x qual:Str) (st:Stmt) (f:Addr) (fd:FuncData):Prop where
 ex:∃ (oc:Value) (od:Option Addr) (kV doc pm:Value) (an:Option Addr) (cdv ct:Value) (osl:Array (Option Value)),
  fd = PySem.W.fnOf x qual (defArgs st) (defBody st) (defScope st) .none kV doc pm an cdv ct∧K.lookup f = some ⟨oc,od,.func fd,osl⟩∧PySem.W.codeIn K cdv qual = true
 kp:PySem.W.keepIn K (.ref f) = true
section
variable {P:Program} {w:World} {K:PySem.W.Frag} {mg:Str→Option Value} {base:Heap}
theorem Fun.ok {x qual:Str} {st:Stmt} {f:Addr} {fd:FuncData} {N ps:List Str} {k:Nat} {sp:Sp} (F:Fun K x qual st f fd) (S:FnScope N ps (defScope st)) (len:∀ vs H Q E,sp vs H Q E→vs.length = ps.length)
  (hbody:∀ (cdv:Value) (A:Around) (outer:List Env) (s:Shared) (H:Hp) (vs:List V) (Q:VK) (E:XK),Room k (A.deeper (envOfC qual (defScope st) s.heap.objs.size f cdv))→sp vs H Q E →
   ∃ t,PSs (cxOf CX0 P w K mg base N qual (defScope st) f cdv A outer s H E).nox (defBody st) t∧t { nx:=fun _ H'=>Q .non H',rt:=Q } (start N vs) H):FnOk P w K mg base CX0 (k + 1) f fd ps sp:=by
 obtain ⟨oc,od,kV,doc,pm,an,cdv,ct,osl,rfl,lk,hcd⟩:=F.ex
 refine fn_of lk hcd S len fun A outer s H vs Q E hr hsp=>?_
 obtain ⟨t,h,q⟩:=hbody cdv A outer s H vs Q E hr hsp
 exact ⟨t,h.nox,q⟩
theorem Fun.binds {x qual:Str} {st:Stmt} {f:Addr} {fd:FuncData} {ps:List Str} (F:Fun K x qual st f fd)
  (h:∀ (kV doc pm:Value) (an:Option Addr) (cdv ct:Value) (us:List Value),us.length = ps.length→bindArgs (PySem.W.fnOf x qual (defArgs st) (defBody st) (defScope st) .none kV doc pm an cdv ct) ⟨us,[]⟩ = pure (ps.zip us)):Binds K fd ps []:=by
 obtain ⟨oc,od,kV,doc,pm,an,cdv,ct,osl,rfl,lk,hcd⟩:=F.ex
 exact .all (h kV doc pm an cdv ct)
theorem fun_mk {x qual:Str} {st:Stmt} {f:Addr} {oc:Value} {od an:Option Addr} {osl:Array (Option Value)} {kV doc pm cdv ct:Value} (l:K.lookup f = some ⟨oc,od,.func (PySem.W.fnOf x qual (defArgs st) (defBody st) (defScope st) .none kV doc pm an cdv ct),osl⟩)
  (c:PySem.W.codeIn K cdv qual = true) (k:PySem.W.keepIn K (.ref f) = true):Fun K x qual st f (PySem.W.fnOf x qual (defArgs st) (defBody st) (defScope st) .none kV doc pm an cdv ct):=⟨⟨oc,od,kV,doc,pm,an,cdv,ct,osl,rfl,l,c⟩,k⟩
end
theorem small1000 {n:Nat} (h:n≤1000):n < sizeLine:=Nat.lt_of_le_of_lt h (by decide)
section
variable {X:Cx}
theorem pv (i:Nat) {x:Str} {pos:Pos} (hN:X.N[i]? = some x:=by rfl) (hv:Vis X.env.scope x:=by first | exact Or.inl rfl | exact Or.inr (Or.inl rfl) | exact Or.inr (Or.inr rfl)) (hd:(x == ("__debug__" : Str)) = false:=by decide)
  (hcd:(x == ("__classdict__" : Str)) = false:=by decide):PE X (.Name x pos) (tVar i):=pe_var hN hv hd hcd
end
theorem iteF {A B:Prop} (h:B):if false = true then A else B:=by
 rw [if_neg Bool.false_ne_true]
 exact h
theorem iteT {A B:Prop} (h:A):if true = true then A else B:=by
 rw [if_pos rfl]
 exact h
theorem ite2 {c A B:Prop} [Decidable c] (h1:c→A) (h2:¬ c→B):if c then A else B:=by
 by_cases h:c
 ·rw [if_pos h]
  exact h1 h
 ·rw [if_neg h]
  exact h2 h
theorem iteNS {c A B:Prop} [Decidable c] (hc:c) (h:B):if (!decide c) = true then A else B:=by
 rw [decide_eq_true hc]
 exact iteF h
def Same (H H':Hp):Prop:=∀ b o,H b = some o→H' b = some o
theorem Same.refl (H:Hp):Same H H:=fun _ _ h=>h
theorem Same.trans {H H1 H2:Hp} (a:Same H H1) (b:Same H1 H2):Same H H2:=fun c o h=>b c o (a c o h)
theorem Same.free {H H':Hp} (e:Same H H') {l:Addr} (h:H' l = Option.none):H l = Option.none:=by
 cases q:H l with
 | none=>rfl
 | some o =>
  rw [e l o q] at h
  cases h
theorem Same.seq {K:PySem.W.Frag} {H H':Hp} {a:Addr} {xs:List V} (e:Same H H') (h:SqL K H a xs):SqL K H' a xs:=by
 rcases h with (h | ⟨o,h⟩) | h
 ·exact .inl (.inl (e _ _ h))
 ·exact .inl (.inr ⟨o,e _ _ h⟩)
 ·exact .inr h
end L2
namespace L2
open PySem PySem.Spec PyProof.Rows
def closL (env:Env):List (Str×NameKind)→List (Str×Addr)→List (Str×Addr)
 | [],cs=>cs
 | (n,k) :: r,cs=>closL env r (if k == .free then (n,(env.cells.lookup n).getD 0) :: cs else cs)
theorem closL_mem {env:Env}:∀ (l:List (Str×NameKind)) (cs:List (Str×Addr)) (p:Str×Addr),p∈closL env l cs→p∈cs∨((p.1,NameKind.free)∈l∧p.2 = (env.cells.lookup p.1).getD 0)
 | [],_,_,h=>.inl h
 | (n,k) :: r,cs,p,h=>by
  rcases closL_mem r _ p h with q | ⟨q,e⟩
  ·by_cases hk:k = .free
   ·subst hk
    rw [if_pos (by rfl)] at q
    rcases List.mem_cons.mp q with z | z
    ·subst z;exact .inr ⟨List.mem_cons_self,rfl⟩
    ·exact .inl z
   ·rw [if_neg (by simpa using hk)] at q
    exact .inl q
  ·exact .inr ⟨List.mem_cons_of_mem _ q,e⟩
theorem closL_sub {env:Env}:∀ (l:List (Str×NameKind)) (cs:List (Str×Addr)) (p:Str×Addr),p∈cs→p∈closL env l cs
 | [],_,_,h=>h
 | (n,k) :: r,cs,p,h=>by
  refine closL_sub r _ p ?_
  split
  ·exact List.mem_cons_of_mem _ h
  ·exact h
theorem closL_has {env:Env} {x:Str}:∀ (l:List (Str×NameKind)) (cs:List (Str×Addr)),(x,NameKind.free)∈l→∃ c,(x,c)∈closL env l cs
 | [],_,h=>nomatch h
 | (n,k) :: r,cs,h=>by
  rcases List.mem_cons.mp h with z | z
  ·cases z
   exact ⟨_,closL_sub r _ _ (by rw [if_pos (by rfl)];exact List.mem_cons_self)⟩
  ·exact closL_has r _ z
theorem lookup_of_mem {α:Type} {x:Str}:∀ {l:List (Str×α)} {c:α},(x,c)∈l→∃ c',l.lookup x = some c'
 | [],_,h=>nomatch h
 | (n,d) :: r,c,h=>by
  by_cases e:x = n
  ·subst e;exact ⟨d,by simp [List.lookup_cons]⟩
  ·have:(x == n) = false:=by simpa using e
   simp only [List.lookup_cons,this]
   rcases List.mem_cons.mp h with z | z
   ·cases z;exact absurd rfl e
   ·exact lookup_of_mem z
theorem forIn_clos {env:Env}:∀ (l:List (Str×NameKind)) (cs:List (Str×Addr)),(∀ x∈l,x.2 = .free→(env.cells.lookup x.1).isSome = true) →
  (forIn l cs fun (x:Str×NameKind) (r:List (Str×Addr))=>(match x with
   | (name,kind)=>if (kind == NameKind.free) = true then do let a ← cellOf env name;pure (ForInStep.yield ((name,a) :: r)) else pure (ForInStep.yield r):Sem (ForInStep (List (Str×Addr))))) = pure (closL env l cs)
 | [],cs,_=>rfl
 | (n,k) :: r,cs,h=>by
  rw [List.forIn_cons]
  have ih:=fun cs'=>forIn_clos r cs' fun x hx=>h x (List.mem_cons_of_mem _ hx)
  by_cases hk:k = .free
  ·subst hk
   obtain ⟨a,ha⟩:=Option.isSome_iff_exists.mp (h (n,.free) List.mem_cons_self rfl)
   have hca:cellOf env n = pure a:=by unfold cellOf;rw [ha]
   have hn:closL env ((n,.free) :: r) cs = closL env r ((n,a) :: cs):=by
    show closL env r (if (NameKind.free == NameKind.free) = true then (n,(env.cells.lookup n).getD 0) :: cs else cs) = _
    rw [if_pos (by rfl),ha];rfl
   rw [hn]
   simp only [beq_self_eq_true,if_true,hca,pure_bind]
   exact ih _
  ·have hb:(k == NameKind.free) = false:=by simpa using hk
   have hn:closL env ((n,k) :: r) cs = closL env r cs:=by
    show closL env r (if (k == NameKind.free) = true then (n,(env.cells.lookup n).getD 0) :: cs else cs) = _
    rw [if_neg (by simp [hb])]
   rw [hn]
   simp only [hb,Bool.false_eq_true,if_false,pure_bind]
   exact ih _
theorem closureFor_clos {scope:Scope} {env:Env} (h:∀ x∈scope.names,x.2 = .free→(env.cells.lookup x.1).isSome = true):closureFor scope env = pure (closL env scope.names []):=by
 simp only [closureFor]
 have:=forIn_clos (env:=env) scope.names [] h
 first
  | (rw [this];rfl)
  | (erw [this];rfl)
  | (exact (congrArg (· >>= pure) this))
theorem closL_lookup {env:Env} {l:List (Str×NameKind)} (h:∀ x∈l,x.2 = .free→(env.cells.lookup x.1).isSome = true) {x:Str} {c:Addr} (e:(closL env l []).lookup x = some c):env.cells.lookup x = some c:=by
 rcases closL_mem l [] (x,c) (PySem.mem_of_lookup e) with q | ⟨q,e'⟩
 ·exact nomatch q
 ·obtain ⟨a,ha⟩:=Option.isSome_iff_exists.mp (h _ q rfl)
  have ha':env.cells.lookup x = some a:=ha
  have e2:c = (env.cells.lookup x).getD 0:=e'
  rw [ha'] at e2
  rw [ha',e2];rfl
theorem relabel_lookup {scope:Scope} {env:Env} {x:Str} {k':NameKind} (h:(relabel scope env).names.lookup x = some k'):∃ k,scope.names.lookup x = some k∧(k' = k∨(k = .free∧k' = .cell)):=by
 unfold relabel at h
 dsimp only at h
 generalize scope.names = l at h ⊢
 induction l with
 | nil=>simp at h
 | cons p r ih =>
  obtain ⟨n,k⟩:=p
  rw [List.map_cons] at h
  by_cases e:x = n
  ·subst e
   refine ⟨k,by simp [List.lookup_cons],?_⟩
   by_cases hc:(k == NameKind.free && env.scope.kind == .function && env.kindOf x == some .cell) = true
   ·simp only [hc,if_true,List.lookup_cons,beq_self_eq_true] at h
    have hk:k = .free:=by
     have:=(Bool.and_eq_true_iff.mp (Bool.and_eq_true_iff.mp hc).1).1
     simpa using this
    exact .inr ⟨hk,(Option.some.inj h).symm⟩
   ·simp only [hc,if_false,List.lookup_cons,beq_self_eq_true,Bool.false_eq_true] at h
    exact .inl (Option.some.inj h).symm
  ·have hb:(x == n) = false:=by simpa using e
   have h':List.lookup x (List.map (fun x=>match x with | (n,k)=>if (k == NameKind.free && env.scope.kind == ScopeKind.function && env.kindOf n == some NameKind.cell) = true then (n,NameKind.cell) else (n,k)) r) = some k':=by
    by_cases hc:(k == NameKind.free && env.scope.kind == .function && env.kindOf n == some .cell) = true
    ·simpa only [hc,if_true,List.lookup_cons,hb] using h
    ·simpa only [hc,if_false,List.lookup_cons,hb,Bool.false_eq_true] using h
   obtain ⟨k0,e0,q⟩:=ih h'
   exact ⟨k0,by simp only [List.lookup_cons,hb];exact e0,q⟩
theorem relabel_free {scope:Scope} {env:Env} {x:Str} (h:scope.names.lookup x = some .free):(relabel scope env).names.lookup x = some .cell∨(relabel scope env).names.lookup x = some .free:=by
 unfold relabel
 dsimp only
 generalize scope.names = l at h ⊢
 induction l with
 | nil=>simp at h
 | cons p r ih =>
  obtain ⟨n,k⟩:=p
  rw [List.map_cons]
  by_cases e:x = n
  ·subst e
   simp only [List.lookup_cons,beq_self_eq_true] at h
   cases h
   generalize List.map _ r = r'
   show List.lookup x ((if (NameKind.free == NameKind.free && env.scope.kind == .function && env.kindOf x == some .cell) = true then (x,NameKind.cell) else (x,NameKind.free)) :: r') = _∨List.lookup x ((if (NameKind.free == NameKind.free && env.scope.kind == .function && env.kindOf x == some .cell) = true then (x,NameKind.cell) else (x,NameKind.free)) :: r') = _
   by_cases hc:(NameKind.free == NameKind.free && env.scope.kind == .function && env.kindOf x == some .cell) = true
   ·rw [if_pos hc];exact .inl (by simp [List.lookup_cons])
   ·rw [if_neg hc];exact .inr (by simp [List.lookup_cons])
  ·have hb:(x == n) = false:=by simpa using e
   simp only [List.lookup_cons,hb] at h
   by_cases hc:(k == NameKind.free && env.scope.kind == .function && env.kindOf n == some .cell) = true
   ·simp only [hc,if_true,List.lookup_cons,hb];exact ih h
   ·simp only [hc,if_false,List.lookup_cons,hb,Bool.false_eq_true];exact ih h
def cxC (X:Cx) (N':List Str) (scope:Scope) (s:Shared) (H:Hp) (fp:List Addr) (C:Addr):Cx where
 prog:=X.prog
 w:=X.w
 K:=X.K
 mg:=X.mg
 base:=X.base
 A:=X.A
 N:=N'
 s₀:=s
 H₀:=H
 env:=compEnvC scope (closL X.env scope.names []) C X.env
 outer:=X.stack
 stack:=X.stack
 ex:=fp
 fn:=fun _=>false
 calm:=X.calm
 pn:=[]
 xe:=fun _ _=>False
structure CScope (N:List Str) (sc scope:Scope) (ts fr:List Str) (ix:List Nat):Prop where
 kind:scope.kind = .function
 nocell:∀ y∈scope.names,y.2≠.cell
 nms:∀ y∈scope.names,y.2 = .local→scope.names.lookup y.1 = some .local
 frs:∀ y∈scope.names,y.2 = .free→sc.names.lookup y.1 = some .cell∨sc.names.lookup y.1 = some .free
 cap:fr.map some = ix.map fun i=>N[i]?
 capf:∀ x∈fr,scope.names.lookup x = some .free
def capt (σ:St) (k:Nat) (ix:List Nat):St:=List.replicate k none++ix.map fun i=>(σ[i]?).join
def Kp (σ σ':St):Prop:=∀ (j:Nat) (v:V),σ[j]? = some (some v)→σ'[j]? = some (some v)
theorem Kp.refl (σ:St):Kp σ σ:=fun _ _ h=>h
theorem Kp.set {σ σ1:St} {i:Nat} {x:Option V} (h:σ[i]? = some none) (q:Kp σ σ1):Kp σ (σ1.set i x):=fun j v e=>by
 by_cases hj:j = i
 ·subst hj;rw [h] at e;cases e
 ·rw [List.getElem?_set_ne (Ne.symm hj)];exact q j v e
def PTs (X:Cx) (ifs:List Expr) (t:TT):Prop :=
 ∀ (pins:List (Addr×Obj)) (s:Shared) (σ:St) (H:Hp) (Q:Bool→Hp→Prop),Inv X pins σ H s→t σ H Q →
  wpAny (model X.prog X.w) X.A (forIn ifs true fun c r=>if r = true then do let ok ← isTrue c X.env (eval c X.env);pure (ForInStep.yield ok) else pure (ForInStep.yield r)) (TP X pins σ Q) X.xe s
def tTrue:TT:=fun _ H Q=>Q true H
theorem tTrue_ok {σ:St} {H:Hp} {A B:Hp→Prop} (h:A H):tTrue σ H (fun b H5=>if b = true then A H5 else B H5):=by
 show if true = true then A H else B H
 rw [if_pos rfl]
 exact h
theorem pts_nil {X:Cx}:PTs X [] tTrue:=fun _ _ _ H _ I h=>wpAny_tests_nil ⟨H,I,h⟩
theorem pts_one {X:Cx} {c:Expr} {t:TT} (h:PT X c t):PTs X [c] t:=fun pins s σ H Q I q=>wpAny_tests_one (h pins s σ H Q I q)
def CompOk (J:It) (D:Addr) (σ:St) (k:Nat) (ix:List Nat) (g:TG) (tt:TT) (te:TE) (Q:VK) (H1:Hp):Prop:=∃ W:Nat→Nat→List V→Hp→Prop,(∃ m,W 0 m [] (upd H1 D (.lst []))) ∧
 ∀ i m ys H2,W i m ys H2→H2 D = some (.lst ys)∧((J.stop i H2∧Q (.ref D) H2)∨(J.go i H2∧∃ N:List V→Hp→Prop,(∀ zs H',N zs H'→∃ m',m' < m∧W (i + 1) m' zs H')∧∀ x H3,J.yld i H2 x H3→g x (capt σ k ix) H3 fun σ2 H4=>Kp (capt σ k ix) σ2 ∧
  tt σ2 H4 fun b H5=>if b = true then te σ2 H5 fun y H6=>H6 D = some (.lst ys)∧ys.length < sizeLine∧N (ys++[y]) (upd H6 D (.lst (ys++[y]))) else N ys H5))
def tComp (k:Nat) (ix:List Nat) (wi:TI) (g:TG) (tt:TT) (te:TE):TE:=fun σ H Q=>wi σ H fun J H1=>∀ D,H1 D = none→CompOk J D σ k ix g tt te Q H1
section
variable {X:Cx} {elt tg iter:Expr} {ifs:List Expr} {scope:Scope} {pos:Pos} {ts fr:List Str} {ix:List Nat} {wi:TI} {g:TG} {tt:TT} {te:TE}
theorem capt_get {σ:St} {k:Nat} {ix:List Nat} {j:Nat} {v:V} (h:(capt σ k ix)[j]? = some (some v)):∃ a i,j = k + a∧ix[a]? = some i∧σ[i]? = some (some v):=by
 unfold capt at h
 by_cases hj:j < k
 ·rw [List.getElem?_append_left (by simpa using hj),List.getElem?_replicate,if_pos hj] at h
  cases h
 ·rw [List.getElem?_append_right (by simpa using hj),List.length_replicate,List.getElem?_map] at h
  cases e:ix[j - k]? with
  | none=>rw [e] at h;cases h
  | some i =>
   rw [e] at h
   refine ⟨j - k,i,by omega,e,?_⟩
   have h':(σ[i]?).join = some v:=Option.some.inj h
   cases e2:σ[i]? with
   | none=>rw [e2] at h';cases h'
   | some o=>rw [e2] at h';exact congrArg some h'
theorem capt_length {σ:St} {k:Nat} {ix:List Nat}:(capt σ k ix).length = k + ix.length:=by unfold capt;simp
theorem inv_comp {pins:List (Addr×Obj)} {σ:St} {H:Hp} {s:Shared} {fp:List Addr} {h1:Heap} {tk:Nat} {D C:Addr} (S:CScope X.N X.env.scope scope ts fr ix) (I:Inv X pins σ H s) (hf:∀ b∈fp,FpOk X pins H b) (hfp:∀ b∈fp,b < s.heap.objs.size)
  (hD:s.heap.objs.size≤D) (hC:s.heap.objs.size≤C) (hDC:D≠C) (hk:∀ b o,s.heap.get? b = some o→h1.get? b = some o) (ho:h1.get? D = some { cls:=.type "list",data:=.seq #[] }) {m0:Str→Option Value} (hn:h1.Ns C m0) :
  Inv (cxC X (ts++fr) scope s H fp C) [] (capt σ ts.length ix) (upd H D (.lst [])) { s with heap:=h1,toks:=tk }:=by
 have hcl:∀ x∈scope.names,x.2 = .free→(X.env.cells.lookup x.1).isSome = true:=fun x hx hfx=>by
  obtain ⟨c,hc⟩:=I.ok.has x.1 (S.frs x hx hfx)
  rw [hc];rfl
 have nCell:∀ b,s.heap.objs.size≤b→∀ x c,X.env.cells.lookup x = some c→c≠b:=fun b hb x c e z=>by
  obtain ⟨v,q⟩:=I.cell x c e
  exact absurd (Nat.lt_of_lt_of_le q.lt (by rw [z];exact hb)) (Nat.lt_irrefl _)
 have hasC:∀ x,scope.names.lookup x = some .free→∃ c,(closL X.env scope.names []).lookup x = some c∧X.env.cells.lookup x = some c:=fun x hx=>by
  obtain ⟨c,hc⟩:=closL_has (env:=X.env) scope.names [] (PySem.mem_of_lookup hx)
  obtain ⟨c',hc'⟩:=lookup_of_mem hc
  exact ⟨c',hc',closL_lookup hcl hc'⟩
 have hfrs:∀ b∈fp,b ∉ frs X.stack:=fun b hb z=>by
  obtain ⟨_,f1,f2,_⟩:=hf b hb
  rcases List.mem_cons.mp (I.stkSub b z) with e | e
  ·exact f1 e
  ·exact f2 e
 have hCn:H C = none:=I.hok.fresh hC
 have hDn:H D = none:=I.hok.fresh hD
 refine ⟨⟨I.ok.mod,?_,I.ok.glob,I.ok.blt,hC,fun x y c h1 h2=>?_,fun x hx=>?_,fun x c hfx=>?_,I.ok.hd,I.ok.frames,.inl rfl,fun b hb=>⟨?_,fun x c e=>?_⟩,I.bs,Nat.le_trans I.ok.bsz I.sz,fun b o e hb=>?_,hfrs,I.stack,I.stkFree⟩,
  rfl,I.bare,Un.laid hk hD hDn,⟨m0,hn,fun i x v e1 e2 e3=>?_⟩,fun x c e=>?_,?_,fun x c e=>?_,fun p hp=>?_,I.hok.laid hk hD ⟨?_,[],0,.nil,ho⟩,?_⟩
 ·show (relabel scope X.env).kind = _
  exact S.kind
 ·exact I.ok.inj x y c (closL_lookup hcl h1) (closL_lookup hcl h2)
 ·have hx':(relabel scope X.env).names.lookup x = some .cell∨(relabel scope X.env).names.lookup x = some .free:=hx
  have hfree:scope.names.lookup x = some .free:=by
   rcases hx' with q | q
   ·obtain ⟨k,e,z⟩:=relabel_lookup q
    rcases z with z | ⟨z,_⟩
    ·subst z;exact absurd rfl (S.nocell _ (PySem.mem_of_lookup e))
    ·rw [e,z]
   ·obtain ⟨k,e,z⟩:=relabel_lookup q
    rcases z with z | ⟨_,z⟩
    ·rw [e,← z]
    ·cases z
  obtain ⟨c,hc,_⟩:=hasC x hfree
  exact ⟨c,hc⟩
 ·exact absurd (show false = true from hfx) (by decide)
 ·exact Nat.ne_of_lt (Nat.lt_of_lt_of_le (hfp b hb) hC)
 ·exact (hf b hb).2.2.2.2.1 x c (closL_lookup hcl e)
 ·have f:=hf b hb
  rcases f.2.2.2.1 with z | z
  ·exact I.ok.noex b o e z
  ·exact absurd (Nat.lt_of_lt_of_le (Heap.lt_size (I.ok.bs b o e).1) z) (Nat.lt_irrefl _)
 ·obtain ⟨a,i',hj,hi,hσ⟩:=capt_get e2
  subst hj
  have e1':(ts++fr)[ts.length + a]? = some x:=e1
  rw [List.getElem?_append_right (by omega),Nat.add_sub_cancel_left] at e1'
  have hN:X.N[i']? = some x:=by
   have q:=congrArg (fun l=>l[a]?) S.cap
   simp only [List.getElem?_map,e1',hi] at q
   exact (Option.some.inj q).symm
  have hfree:=S.capf x (List.mem_of_getElem? e1')
  have hk':=S.frs (x,.free) (PySem.mem_of_lookup hfree) rfl
  obtain ⟨m,hnm,hl⟩:=I.loc
  obtain ⟨u,r,lk⟩:=hl i' x v hN hσ (.inr hk')
  refine ⟨u,r,?_⟩
  obtain ⟨c,hc,hc'⟩:=hasC x hfree
  rcases lk with ⟨z,_⟩ | ⟨_,c2,e4,z⟩
  ·have z':X.env.scope.names.lookup x = some .local:=z
   rcases hk' with y | y
   ·have y':X.env.scope.names.lookup x = some .cell:=y
    rw [z'] at y';cases y'
   ·have y':X.env.scope.names.lookup x = some .free:=y
    rw [z'] at y';cases y'
  ·have hcc:c2 = c:=Option.some.inj (e4.symm.trans hc')
   rw [hcc] at z
   obtain ⟨o,ho2,hd2⟩:=z
   exact .inr ⟨relabel_free hfree,c,hc,o,hk _ _ ho2,hd2⟩
 ·obtain ⟨v,o,ho2,hd2⟩:=I.cell x c (closL_lookup hcl e)
  exact ⟨v,o,hk _ _ ho2,hd2⟩
 ·show upd H D (.lst []) C = none
  rw [upd_ne (Ne.symm hDC)];exact hCn
 ·show upd H D (.lst []) c = none
  rw [upd_ne (nCell D hD x c (closL_lookup hcl e))]
  exact I.freeC x c (closL_lookup hcl e)
 ·exact absurd (show p∈([]:List (Addr×Obj)) from hp) (by simp)
 ·exact Nat.zero_le _
 ·have e:=congrArg List.length S.cap
  simp only [List.length_map] at e
  rw [capt_length]
  show _ = (ts++fr).length
  rw [List.length_append,e]
theorem comp_core {pins:List (Addr×Obj)} {σ:St} {H:Hp} {s:Shared} {Q:VK} {use:Option (Value→Sem Unit)} {Qv:Value→Shared→Prop} (hc:X.calm = true) (S:CScope X.N X.env.scope scope ts fr ix) (hi:PI X tg iter wi)
  (hb:∀ s H fp C,PG (cxC X (ts++fr) scope s H fp C) tg g∧PTs (cxC X (ts++fr) scope s H fp C) ifs tt∧PE (cxC X (ts++fr) scope s H fp C) elt te)
  (hs:∀ x,foldedSetIterable iter X.env x = pure x) (I:Inv X pins σ H s) (h:tComp ts.length ix wi g tt te σ H Q)
  (fin:∀ (D C:Addr) (H':Hp) (s':Shared),Inv X pins σ H' s'→FpOk X pins H' C→(∃ m,s'.heap.Ns C m)→Q (.ref D) H'→compPost (model X.prog X.w) X.A X.xe use Qv (.ref D) C (.ok .next) s') :
  wpAny (model X.prog X.w) X.A (comprehension (.ListComp elt [⟨tg,iter,ifs,0⟩] scope pos) scope X.env (firstIterPos [⟨tg,iter,ifs,0⟩] pos) (newList []) false (eval iter X.env) use) Qv X.xe s:=by
 have hcl:∀ x∈scope.names,x.2 = .free→(X.env.cells.lookup x.1).isSome = true:=fun x hx hfx=>by
  obtain ⟨c,hc⟩:=I.ok.has x.1 (S.frs x hx hfx)
  rw [hc];rfl
 refine wpAny_comprehension_free (use:=use) rfl hs (closureFor_clos hcl) S.kind S.nms (thn (hi pins s σ H _ I h) fun v s1 h1=>thn h1 fun itv s2 h2=>?_)
 obtain ⟨it,fp,tn,J,H2,rfl,I2,T,st2,f2,hW⟩:=h2
 refine wpAny_newObj_type (wpAny_newFunctionEnv S.nocell (by intro y hy;simp at hy) (fun h₁ hns₁ hsb₁=>?_) S.kind)
 dsimp only at hns₁ hsb₁ ⊢
 generalize hH2:s2.heap.push { cls:=.type "list",dict:=none,data:=.seq ([]:List Value).toArray } = G2 at hns₁ hsb₁ ⊢
 have hCs:G2.objs.size = s2.heap.objs.size + 1:=by rw [← hH2,Heap.size_push]
 have hDC:s2.heap.objs.size≠G2.objs.size:=by rw [hCs];exact Nat.ne_of_lt (Nat.lt_succ_self _)
 have hCle:s2.heap.objs.size≤G2.objs.size:=by rw [hCs];exact Nat.le_succ _
 have old:∀ b o,s2.heap.get? b = some o→h₁.get? b = some o:=fun b o e=>hsb₁.extBut b o (by rw [hCs];exact Nat.ne_of_lt (Nat.lt_succ_of_lt (Heap.lt_size e))) (Heap.get?_push_of_some _ (hH2 ▸ Heap.get?_push_of_some _ e))
 have hacc:h₁.get? s2.heap.objs.size = some { cls:=.type "list",data:=.seq #[] }:=hsb₁.extBut _ _ hDC (Heap.get?_push_of_some _ (hH2 ▸ Heap.get?_push_size _ rfl))
 have hfp:∀ b∈fp,b < s2.heap.objs.size:=fun b hb'=>by
  obtain ⟨o,e,_⟩:=T.obj _ _ st2 b hb'
  exact Heap.lt_size e
 have IC:Inv (cxC X (ts++fr) scope s2 H2 fp G2.objs.size) [] (capt σ ts.length ix) (upd H2 s2.heap.objs.size (.lst [])) { s2 with heap:=h₁,toks:=s2.toks + ([]:List (Str×Value)).length } :=
  inv_comp S I2 f2 hfp (Nat.le_refl _) hCle hDC old hacc hns₁
 have st1:tn 0 h₁:=T.keep _ _ _ st2 fun b hb' o e=>old b o e
 obtain ⟨W,⟨m0,w0⟩,turn⟩:=hW s2.heap.objs.size I2.fresh
 obtain ⟨bg,bt,be⟩:=hb s2 H2 fp G2.objs.size
 generalize hX:cxC X (ts++fr) scope s2 H2 fp G2.objs.size = Y at IC bg bt be
 have eP:Y.prog = X.prog:=by rw [← hX];rfl
 have eW:Y.w = X.w:=by rw [← hX];rfl
 have eK:Y.K = X.K:=by rw [← hX];rfl
 have eC:Y.calm = true:=by rw [← hX];exact hc
 have eA:Y.A = X.A:=by rw [← hX];rfl
 have eE:Y.env = compEnvC scope (closL X.env scope.names []) G2.objs.size X.env:=by rw [← hX];rfl
 have eX:Y.xe = fun _ _=>False:=by rw [← hX];rfl
 have stat:∀ {H':Hp},(∀ b∈fp,H' b = none)→∀ b∈fp,FpOk Y [] H' b:=fun hn b hb'=>by
  rw [← hX]
  have z:=IC.ok
  rw [← hX] at z
  refine ⟨hn b hb',(z.exf b hb').1,z.exfs b hb',.inl hb',(z.exf b hb').2,fun p hp=>absurd (show p∈([]:List (Addr×Obj)) from hp) (by simp)⟩
 have fr0:∀ b∈fp,upd H2 s2.heap.objs.size (.lst []) b = none:=fun b hb'=>by rw [upd_ne (Nat.ne_of_lt (hfp b hb'))];exact (f2 b hb').1
 have bot:∀ {α:Type} {t:Sem α} {R:α→Shared→Prop} {E:Value→Shared→Prop} {z:Shared},wpAny (model Y.prog Y.w) Y.A t R Y.xe z→wpAny (model X.prog X.w) X.A t R E z:=fun {α t R E z} q=>by
  rw [eP,eW,eA,eX] at q
  exact wpAny_mono q (fun _ _ y=>y) fun _ _ y=>y.elim
 have loop:codeAny (model X.prog X.w) X.A (.compLoop (.ListComp elt [⟨tg,iter,ifs,0⟩] scope pos) 0 (.ref it) (.ref s2.heap.objs.size) (compEnvC scope (closL X.env scope.names []) G2.objs.size X.env))
   (compPost (model X.prog X.w) X.A X.xe use Qv (.ref s2.heap.objs.size) G2.objs.size) { s2 with heap:=h₁,toks:=s2.toks + ([]:List (Str×Value)).length }:=by
  rw [← eE]
  refine codeAny_loop rfl (fun n s'=>∃ i ys H',Inv Y [] (capt σ ts.length ix) H' s'∧tn i s'.heap∧(∀ b∈fp,H' b = none)∧W i n ys H') (fun n s3 hI=>?_) m0 ⟨0,[],_,IC,st1,fr0,w0⟩
  obtain ⟨i,ys,H3,I3,st3,fr3,w3⟩:=hI
  show wpAny _ _ ((compTurn (.ListComp elt [⟨tg,iter,ifs,0⟩] scope pos) 0 (.ref it) (.ref s2.heap.objs.size) Y.env).onRaise (fun x=>do noteFrame x Y.env;theTreesLotGoes x)) _ _ s3
  refine wpAny_noted ?_
  rw [compTurn_list]
  obtain ⟨hD3,hcase⟩:=turn i n ys H3 w3
  rcases hcase with ⟨stop,qn⟩ | ⟨go,N,hN,step⟩
  ·have q:=T.done Y eP eW eK eC i [] s3 _ H3 (fun _ _=>False) I3 (stat fr3) st3 stop
   rw [eA] at q
   refine wpAny_bind (wpAny_standAt (wpAny_bind (wpAny_mono q (fun r s4 ⟨hr,I4⟩=>?_) fun _ _ y=>y.elim)))
   subst hr
   refine wpAny_pure ?_
   have b4:Un (frs X.stack) fp H2 H3 s2.heap s4.heap:=by have z:=I4.base;rw [← hX] at z;exact z
   have ok4:HOk X.prog X.w H3 s4.heap:=by have z:=I4.hok;rw [eP,eW] at z;exact z
   have os4:s4.os = s2.os:=by have z:=I4.os;rw [← hX] at z;exact z
   have I5:Inv X pins σ H3 s4:=I2.call' os4 b4 ok4 I4.bare fun b hb'=>⟨(f2 b hb').2.2.2.1,(f2 b hb').2.1,(f2 b hb').2.2.2.2.1,(f2 b hb').2.2.2.2.2⟩
   have fC:H3 G2.objs.size = none:=by have z:=I4.free;rw [eE] at z;exact z
   have nC:∃ m,s4.heap.Ns G2.objs.size m:=by obtain ⟨m,z,_⟩:=I4.loc;rw [eE] at z;exact ⟨m,z⟩
   exact fin _ _ H3 s4 I5 (I2.fpOk hCle fC) nC qn
  ·have q:=T.item Y eP eW eK eC i [] s3 _ H3 (fun _ _=>False) I3 (stat fr3) st3 go
   rw [eA] at q
   refine wpAny_bind (wpAny_standAt (wpAny_bind (wpAny_mono q (fun r s4 ⟨u,hr,h4⟩=>?_) fun _ _ y=>y.elim)))
   subst hr
   refine wpAny_bind (wpAny_mono h4 (fun _ s5 ⟨x,H5,I5,r5,y5,st5,fr5⟩=>?_) fun _ _ y=>y.elim)
   have I5':=I5.pinned (stat fr5) (T.obj _ _ st5)
   refine wpAny_bind (bot (thn (bg _ s5 _ H5 x u _ I5' r5 (step x H5 y5)) fun _ s6 ⟨σ6,H6,I6,kp6,q6⟩=>?_))
   refine wpAny_bind (bot (thn (bt _ s6 σ6 H6 _ I6 q6) fun ok s7 ⟨H7,I7,q7⟩=>?_))
   have again:∀ {H8:Hp} {s8:Shared} {zs:List V} {m':Nat},Inv Y ([]++pinsAt fp s5.heap) σ6 H8 s8→m' < n→W (i + 1) m' zs H8→∃ m,m < n∧∃ i ys H',Inv Y [] (capt σ ts.length ix) H' s8∧tn i s8.heap∧(∀ b∈fp,H' b = none)∧W i m ys H':=fun {H8 s8 zs m'} I8 hm w8=>by
    refine ⟨m',hm,i + 1,zs,H8,(I8.unpinned).weak ?_ kp6,T.keep _ _ _ st5 fun b hb' o e=>(I8.pin (b,o) (List.mem_append_right _ (List.mem_append_right _ (mem_pinsAt hb' e)))).1,fun b hb'=>?_,w8⟩
    ·rw [I8.len,I3.len]
    ·obtain ⟨o,e,d⟩:=T.obj _ _ st5 b hb'
     exact (I8.pin (b,o) (List.mem_append_right _ (List.mem_append_right _ (mem_pinsAt hb' e)))).2.1
   cases ok with
   | false =>
    rw [if_neg (by decide)] at q7
    obtain ⟨m',hm,w8⟩:=hN _ _ q7
    exact wpAny_pure ⟨rfl,again I7 hm w8⟩
   | true =>
    rw [if_pos rfl] at q7
    refine wpAny_bind (wpAny_bind (bot (thn (be _ s7 σ6 H7 _ I7 q7) fun u8 s8 ⟨y8,H8,I8,r8,hD8,hz,n8⟩=>?_)))
    obtain ⟨m',hm,w8⟩:=hN _ _ n8
    refine wpAny_bind (bot (thn (mt_append _ s8 σ6 H8 (.ref s2.heap.objs.size) [y8] _ [u8] (fun _ H9=>H9 = upd H8 s2.heap.objs.size (.lst (ys++[y8]))) I8 rfl (.cons r8 .nil) ⟨_,ys,y8,rfl,rfl,hD8,hz,rfl⟩) fun _ s9 ⟨_,H9,I9,_,e9⟩=>?_))
    subst e9
    exact wpAny_pure (wpAny_pure ⟨rfl,again I9 hm w8⟩)
 exact codeAny_compStart_list loop (T.self _ 0 _ _ _ st1 loop)
theorem pe_comp (hc:X.calm = true) (S:CScope X.N X.env.scope scope ts fr ix) (hi:PI X tg iter wi)
  (hb:∀ s H fp C,PG (cxC X (ts++fr) scope s H fp C) tg g∧PTs (cxC X (ts++fr) scope s H fp C) ifs tt∧PE (cxC X (ts++fr) scope s H fp C) elt te)
  (hs:∀ x,foldedSetIterable iter X.env x = pure x:=by intro _;rfl):PE X (.ListComp elt [⟨tg,iter,ifs,0⟩] scope pos) (tComp ts.length ix wi g tt te):=by
 intro pins s σ H Q I h
 rw [eval_ListComp]
 refine comp_core (use:=none) (Qv:=EP X pins σ Q) hc S hi hb hs I h fun D C H' s' I' f' n' q'=>?_
 obtain ⟨m,hm⟩:=n'
 refine ⟨m,hm,fun h' sb=>⟨.ref D,H',?_,rfl,q'⟩⟩
 exact I'.turned (t':=s'.toks) (fun b o hb' e=>(sb.2 b hb').trans e) f'.1 f'.2.1 f'.2.2.2.1 f'.2.2.2.2.1 f'.2.2.2.2.2
theorem ps_setC {i:Nat} {x:Str} {pos' pos2:Pos} (hc:X.calm = true) (S:CScope X.N X.env.scope scope ts fr ix) (hi:PI X tg iter wi)
  (hb:∀ s H fp C,PG (cxC X (ts++fr) scope s H fp C) tg g∧PTs (cxC X (ts++fr) scope s H fp C) ifs tt∧PE (cxC X (ts++fr) scope s H fp C) elt te)
  (hN:X.N.Nodup) (hix:X.N[i]? = some x) (hx:Loc X.env.scope x)
  (hw:swapsWith (.ListComp elt [⟨tg,iter,ifs,0⟩] scope pos) (some (.Name x pos')) pos2.line X.env = pure true:=by rfl)
  (hf:X.fn x = true∨X.env.scope.names.lookup x = some .local:=by first | exact .inl rfl | exact .inr rfl | assumption)
  (hs:∀ x,foldedSetIterable iter X.env x = pure x:=by intro _;rfl) :
  PS X (.Assign [.Name x pos'] (.ListComp elt [⟨tg,iter,ifs,0⟩] scope pos) pos2) (fun D σ H=>tComp ts.length ix wi g tt te σ H fun v H'=>D.nx (σ.set i (some v)) H'):=by
 intro pins s σ H D I h
 rw [exec_Assign_Name_used _ _ _ _ hw]
 refine wpAny_bind (wpAny_standAt (wpAny_bind ?_))
 show wpAny _ X.A (do let _ ← comprehension (.ListComp elt [⟨tg,iter,ifs,0⟩] scope pos) scope X.env _ (newList []) false (eval iter X.env) (some (assign (.Name x pos') X.env))) _ _ s
 refine wpAny_bind (wpAny_mono (comp_core (use:=some (assign (.Name x pos') X.env)) (Qv:=fun _ s'=>SP X pins D .next s') hc S hi hb hs I h fun D' C H' s' I' f' n' q'=>?_) (fun _ s' hq=>wpAny_pure (wpAny_pure hq)) fun _ _ e=>e)
 obtain ⟨m,hm⟩:=n'
 refine wpAny_assign_Name (store_ok2 I' hN hix hx (v:=.ref D') rfl (fun s'' I'' ⟨a,sb,ha⟩=>?_) hf)
 have hCa:C≠a:=by
  rcases ha with rfl | ha
  ·exact f'.2.1
  ·exact fun z=>f'.2.2.2.2.1 _ _ ha z.symm
 refine ⟨m,hm.sameBut sb hCa,fun h' sb'=>⟨_,H',?_,q'⟩⟩
 exact I''.turned (t':=s''.toks) (fun b o hb' e=>(sb'.2 b hb').trans e) f'.1 f'.2.1 f'.2.2.2.1 f'.2.2.2.2.1 f'.2.2.2.2.2
end
abbrev CTurn (D:Addr) (σ:St) (k:Nat) (ix:List Nat) (g:TG) (tt:TT) (te:TE) (x:V) (ys:List V) (H:Hp) (N:List V→Hp→Prop):Prop :=
 g x (capt σ k ix) H fun σ2 H4=>Kp (capt σ k ix) σ2∧tt σ2 H4 fun b H5=>if b = true then te σ2 H5 fun y H6=>H6 D = some (.lst ys)∧ys.length < sizeLine∧N (ys++[y]) (upd H6 D (.lst (ys++[y]))) else N ys H5
theorem comp_by {J:It} {n:Nat} {item:Nat→V} {D:Addr} {σ:St} {k:Nat} {ix:List Nat} {g:TG} {tt:TT} {te:TE} {Q:VK} {H1:Hp} (Pv:Nat→List V→Hp→Prop)
  (hJ:∀ i ys H,Pv i ys H→(i < n→J.go i H∧∀ x H',J.yld i H x H'→H' = H∧x = item i)∧(n≤i→J.stop i H)) (h0:Pv 0 [] (upd H1 D (.lst []))) (hD:∀ i ys H,Pv i ys H→H D = some (.lst ys))
  (hs:∀ i ys H,i < n→Pv i ys H→CTurn D σ k ix g tt te (item i) ys H (Pv (i + 1))) (hd:∀ ys H,Pv n ys H→Q (.ref D) H):CompOk J D σ k ix g tt te Q H1:=by
 refine ⟨fun i m ys H=>m = n - i∧i≤n∧Pv i ys H,⟨n,by simp,Nat.zero_le _,h0⟩,?_⟩
 rintro i m ys H ⟨rfl,hi,p⟩
 refine ⟨hD i ys H p,?_⟩
 obtain ⟨h1,h2⟩:=hJ i ys H p
 by_cases hlt:i < n
 ·obtain ⟨hg,hy⟩:=h1 hlt
  refine .inr ⟨hg,Pv (i + 1),fun zs H' p'=>⟨n - (i + 1),by omega,rfl,hlt,p'⟩,fun x H' y=>?_⟩
  obtain ⟨rfl,rfl⟩:=hy x H' y
  exact hs i ys H' hlt p
 ·have e:i = n:=by omega
  subst e
  exact .inl ⟨h2 (Nat.le_refl _),hd ys H p⟩
theorem comp_range {lo:Int} {n:Nat} {D:Addr} {σ:St} {k:Nat} {ix:List Nat} {g:TG} {tt:TT} {te:TE} {Q:VK} {H1:Hp} (Pv:Nat→List V→Hp→Prop) (h0:Pv 0 [] (upd H1 D (.lst []))) (hD:∀ i ys H,Pv i ys H→H D = some (.lst ys))
  (hs:∀ i ys H,i < n→Pv i ys H→CTurn D σ k ix g tt te (.int (lo + i)) ys H (Pv (i + 1))) (hd:∀ ys H,Pv n ys H→Q (.ref D) H):CompOk (Itr lo n) D σ k ix g tt te Q H1 :=
 comp_by (item:=fun i=>.int (lo + i)) Pv (fun i ys H _=>⟨fun h=>⟨h,fun x H' y=>y⟩,fun h=>h⟩) h0 hD hs hd
theorem comp_list {K:PySem.W.Frag} {a:Addr} {xs:List V} {D:Addr} {σ:St} {k:Nat} {ix:List Nat} {g:TG} {tt:TT} {te:TE} {Q:VK} {H1:Hp} (Pv:Nat→List V→Hp→Prop) (hl:∀ i ys H,Pv i ys H→SqL K H a xs) (h0:Pv 0 [] (upd H1 D (.lst []))) (hD:∀ i ys H,Pv i ys H→H D = some (.lst ys))
  (hs:∀ i ys H x,xs[i]? = some x→Pv i ys H→CTurn D σ k ix g tt te x ys H (Pv (i + 1))) (hd:∀ ys H,Pv xs.length ys H→Q (.ref D) H):CompOk (Itl K a) D σ k ix g tt te Q H1 :=
 comp_by (n:=xs.length) (item:=fun i=>xs.getD i .non) Pv (fun i ys H p=>⟨fun h=>⟨⟨xs,xs[i],hl i ys H p,by simp [h]⟩,fun x H' y=>⟨y.1,by
  have:=y.2 xs (hl i ys H p)
  rw [List.getD_eq_getElem?_getD,this];rfl⟩⟩,fun h=>⟨xs,hl i ys H p,h⟩⟩) h0 hD (fun i ys H h p=>hs i ys H _ (by rw [List.getD_eq_getElem?_getD,List.getElem?_eq_getElem h];rfl) p) hd
end L2
namespace L2
open PySem PySem.Spec PyProof.Rows
abbrev mkS (l:List Nat):Str:=⟨l.toArray⟩
theorem mkS_list (x:Str):mkS x.cps.toList = x:=by cases x;simp [mkS]
theorem mkS_len (l:List Nat):(mkS l).length = l.length:=by simp [mkS,Str.length]
theorem str_ext {x y:Str} (h:x.cps.toList = y.cps.toList):x = y:=by
 rw [← mkS_list x,← mkS_list y,h]
def cutG {α:Type} (xs:List α) (lo hi:Option Int):List α:=(xs.drop (HT.sIx xs.length 0 lo)).take (HT.sIx xs.length xs.length hi - HT.sIx xs.length 0 lo)
theorem sliceIx_eq (lo hi:Option Int) (n:Nat):Builtin.Str.strSliceIndices lo hi 1 n = (List.range (HT.sIx n n hi - HT.sIx n 0 lo)).map (HT.sIx n 0 lo + ·):=by
 rw [← sliceRange_one]
 unfold Builtin.Str.strSliceIndices
 simp only [show (1:Int) > 0 by decide,if_true]
 congr 1
 ·cases lo with
  | none=>simp [HT.sIx]
  | some i=>simp only [HT.sIx];by_cases h:i < 0 <;> simp only [h,if_true,if_false] <;> omega
 ·cases hi with
  | none=>simp [HT.sIx]
  | some i=>simp only [HT.sIx];by_cases h:i < 0 <;> simp only [h,if_true,if_false] <;> omega
theorem slice_text (x:Str) (lo hi:Option Int):Txt.slice x lo hi = mkS (cutG x.cps.toList lo hi):=by
 have e:(Builtin.Str.strSliceIndices lo hi 1 x.length).filterMap (x.cps[·]?) = cutG x.cps.toList lo hi:=by
  rw [sliceIx_eq,pick_run]
  unfold cutG
  simp only [Str.length,Array.length_toList]
 unfold Txt.slice
 split
 ·rename_i h
  have hl:(Builtin.Str.strSliceIndices lo hi 1 x.length).length = x.length:=by simpa using h
  have h1:cutG x.cps.toList lo hi = x.cps.toList:=by
   rw [sliceIx_eq,List.length_map,List.length_range] at hl
   have hn:x.length = x.cps.toList.length:=by simp [Str.length]
   rw [hn] at hl
   have b1:=HT.sIx_le x.cps.toList.length x.cps.toList.length (Nat.le_refl _) hi
   unfold cutG
   by_cases h0:HT.sIx x.cps.toList.length 0 lo = 0
   ·rw [h0,List.drop_zero,List.take_of_length_le (by omega)]
   ·have:x.cps.toList.length = 0:=by omega
    have h2:x.cps.toList = []:=List.length_eq_zero_iff.mp this
    rw [h2];simp
  rw [h1,mkS_list]
 ·rw [e]
section
variable {X:Cx}
def rSlS:V→Option Int→Option Int→Hp→VK→Prop:=fun x lo hi H Q=>∃ z,x = .str z∧z.length≤sizeLine∧Q (.str (mkS (cutG z.cps.toList lo hi))) H
theorem sl_str:SlR X rSlS:=by
 intro pins s σ H x v vl vu lo hi sl Q I rx hs pl pu h
 obtain ⟨z,rfl,hzl,q⟩:=h
 obtain ⟨t,rfl⟩:=rx
 obtain ⟨l,rfl,el⟩:∃ l:Option (Int×Tok),vl = partValue l∧l.map (·.1) = lo:=by
  cases pl with
  | none=>exact ⟨none,rfl,rfl⟩
  | int i t=>exact ⟨some (i,t),rfl,rfl⟩
 obtain ⟨u,rfl,eu⟩:∃ l:Option (Int×Tok),vu = partValue l∧l.map (·.1) = hi:=by
  cases pu with
  | none=>exact ⟨none,rfl,rfl⟩
  | int i t=>exact ⟨some (i,t),rfl,rfl⟩
 subst el eu
 refine ⟨"str",_,F.slot_str_getitem.lookup,typeIs_str s z t,wpAny_getItem_str_slice (l:=l) (u:=u) (st:=none) hs rfl ?_⟩
 have e:=slice_text z (l.map (·.1)) (u.map (·.1))
 unfold Txt.slice at e
 unfold sliceMade
 have hp:slicePicked z l u none = Builtin.Str.strSliceIndices (l.map (·.1)) (u.map (·.1)) 1 z.length:=rfl
 rw [hp]
 have h1:(((none:Option (Int×Tok)).map (·.1)).getD 1 == 1 && (Builtin.Str.strSliceIndices (l.map (·.1)) (u.map (·.1)) 1 z.length).length == z.length) = ((1:Int) == 1 && (Builtin.Str.strSliceIndices (l.map (·.1)) (u.map (·.1)) 1 z.length).length == z.length):=rfl
 rw [h1]
 by_cases hc:((1:Int) == 1 && (Builtin.Str.strSliceIndices (l.map (·.1)) (u.map (·.1)) 1 z.length).length == z.length) = true
 ·rw [if_pos hc] at e ⊢
  exact ⟨.str z,H,I,⟨t,rfl⟩,by rw [← e] at q;exact q⟩
 ·rw [if_neg hc] at e ⊢
  rw [← e] at q
  refine ⟨?_,⟨.str _,H,I.tok _,⟨_,rfl⟩,q⟩⟩
  have hle:=Txt.slice_le z (l.map (·.1)) (u.map (·.1))
  unfold Txt.slice at hle
  rw [if_neg hc] at hle
  exact Nat.le_trans hle hzl
theorem vals_strs:∀ {ts:List Str} {us:List Value},Vals (ts.map V.str) us→∃ l:List (Str×Tok),us = strValues l∧l.map (·.1) = ts
 | [],_,r=>by
  rw [List.map_nil] at r
  cases r
  exact ⟨[],rfl,rfl⟩
 | t :: ts,_,r=>by
  rw [List.map_cons] at r
  cases r with
  | cons r1 r2 =>
   obtain ⟨k,rfl⟩:=r1
   obtain ⟨l,rfl,e⟩:=vals_strs r2
   exact ⟨(t,k) :: l,rfl,by rw [List.map_cons,e]⟩
def rJoin (K:PySem.W.Frag):V→List V→Hp→VK→Prop:=fun x vs H Q=>∃ sep l ts,x = .str sep∧vs = [.ref l]∧SqL K H l (ts.map V.str)∧JoinOk sep ts = true∧Q (.str (Txt.join sep ts)) H
theorem mt_join:MtR X "str.join" (rJoin X.K):=by
 intro pins s σ H x vs v us Q I rx rv h
 obtain ⟨sep,l,ts,rfl,rfl,hq,ok,q⟩:=h
 obtain ⟨t,rfl⟩:=rx
 obtain ⟨u,rfl,ru⟩:=rv.one
 cases ru
 obtain ⟨its,r,p,hz⟩:=I.list hq
 obtain ⟨l',rfl,el⟩:=vals_strs r
 exact SC.join p.isList el ok fun t' k=>⟨.str _,H,I.tok _,⟨_,rfl⟩,q⟩
theorem call_all_b (hc:X.calm = true) (hin:X.A.in1.handled = none):CallR X (.builtin "all") (fun xs H Q=>∃ (p:Addr) (bs:List Bool),xs = [.ref p]∧SqL X.K H p (bs.map V.bl)∧Q (.bl (bs.all id)) H):=by
 intro pins s σ H xs us Q I r h
 obtain ⟨p,bs,rfl,hq,q⟩:=h
 obtain ⟨u,rfl,ru⟩:=vals1 r
 cases ru
 obtain ⟨its,rv,pl,hz⟩:=I.list hq
 have hlen:=rv.length
 rw [List.length_map] at hlen
 have hne:p≠s.heap.objs.size:=by
  obtain ⟨o,n,e,_⟩:=pl
  exact Nat.ne_of_lt (Heap.lt_size e)
 refine call_all_walk (wpAny_pyIter_list pl.isList ?_)
 refine ⟨s.heap.objs.size,_,_,its.toArray.size,_,_,fun i=>bs.getD i true,rfl,Walks.list hin s.heap.objs.size p hne its.toArray,⟨⟨_,Heap.get?_push_size _ rfl,rfl,rfl⟩,?_⟩,?_,?_⟩
 ·obtain ⟨o,n,e,c,d,dd⟩:=pl
  exact ⟨o,Heap.get?_push_of_some _ e,c,n,dd⟩
 ·intro i v s' Q' E' hv hQ'
  have hv':its[i]? = some v:=by simpa using hv
  have hi:i < its.length:=(List.getElem?_eq_some_iff.mp hv').1
  have hb:(bs.map V.bl)[i]? = some (V.bl (bs.getD i true)):=by
   rw [List.getElem?_map,List.getElem?_eq_getElem (by omega),List.getD_eq_getElem?_getD,List.getElem?_eq_getElem (by omega)];rfl
  obtain ⟨u,hu,ru⟩:=rv.get hb
  rw [hv'] at hu
  cases hu
  cases ru
  exact wpAny_truthy_bool hQ'
 ·intro h' tk kk
  have e:(List.range its.toArray.size).all (fun i=>bs.getD i true) = bs.all id:=by
   rw [List.size_toArray,← hlen,Bool.eq_iff_iff,List.all_eq_true,List.all_eq_true]
   constructor
   ·intro z b hb
    obtain ⟨i,hi,rfl⟩:=List.mem_iff_getElem.mp hb
    have:=z i (List.mem_range.mpr hi)
    rw [List.getD_eq_getElem?_getD,List.getElem?_eq_getElem hi] at this
    exact this
   ·intro z i hi
    have hi':=List.mem_range.mp hi
    rw [List.getD_eq_getElem?_getD,List.getElem?_eq_getElem hi']
    exact z _ (List.getElem_mem hi')
  rw [e]
  have I1:Inv X pins σ H { s with heap:=s.heap.push { cls:=.type "list_iterator",data:=.fields #[.ref p,.int 0 0] } }:=I.kept (t':=s.toks) fun b o e=>Heap.get?_push_of_some _ e
  obtain ⟨f0,f1,f2,f3,f4,f5⟩:=I.fpOk (Nat.le_refl _) (I.hok.fresh (Nat.le_refl _))
  exact ⟨.bl (bs.all id),H,I1.turned (fun b o hb e=>kk b o (by simpa using hb) e) f0 f1 f3 f4 f5,rfl,q⟩
theorem call_isinst:CallR X (.builtin "isinstance") (fun xs H Q=>∃ x T t b,xs = [x,.ty T]∧TyOf X.K H x t∧PySem.W.kitOne X.K t (.type T) = some b∧Q (.bl b) H):=by
 intro pins s σ H xs us Q I r h
 obtain ⟨x,T,t,b,rfl,ty,e,q⟩:=h
 obtain ⟨u,u',rfl,ru,ru'⟩:=vals2 r
 cases ru'
 exact isinst_ok I ru ty e fun tk=>⟨.bl b,H,I.tok _,rfl,q⟩
end
section
variable {X:Cx} {K:PySem.W.Frag}
theorem ix_listK (h:X.K = K:=by rfl):IxR X (rIxL K):=h ▸ ix_list
def rLenQ (K:PySem.W.Frag):List V→Hp→VK→Prop:=fun xs H Q=>∃ p ys,xs = [.ref p]∧(SqL K H p ys∨SqT K H p ys)∧Q (.int ys.length) H
theorem call_lenK (h:X.K = K:=by rfl):CallR X (.builtin "len") (rLenQ K):=h ▸ call_len_seq
def rIsi (K:PySem.W.Frag):List V→Hp→VK→Prop:=fun xs H Q=>∃ x T t b,xs = [x,.ty T]∧TyOf K H x t∧PySem.W.kitOne K t (.type T) = some b∧Q (.bl b) H
theorem call_isinstK (h:X.K = K:=by rfl):CallR X (.builtin "isinstance") (rIsi K):=h ▸ call_isinst
def rAll (K:PySem.W.Frag):List V→Hp→VK→Prop:=fun xs H Q=>∃ (p:Addr) (bs:List Bool),xs = [.ref p]∧SqL K H p (bs.map V.bl)∧Q (.bl (bs.all id)) H
theorem call_allK (hc:X.calm = true) (hin:X.A.in1.handled = none) (h:X.K = K:=by rfl):CallR X (.builtin "all") (rAll K):=h ▸ call_all_b hc hin
end
theorem bt_isinstance:bootBuiltins "isinstance" = some (.builtin "isinstance"):=by decide +kernel
theorem bt_all:bootBuiltins "all" = some (.builtin "all"):=by decide +kernel
theorem bt_abs:bootBuiltins "abs" = some (.builtin "abs"):=by decide +kernel
theorem bt_max:bootBuiltins "max" = some (.builtin "max"):=by decide +kernel
theorem bt_sorted:bootBuiltins "sorted" = some (.builtin "sorted"):=by decide +kernel
theorem bt_bool:bootBuiltins "bool" = some (.type "bool"):=by decide +kernel
theorem bt_int:bootBuiltins "int" = some (.type "int"):=by decide +kernel
theorem bt_str:bootBuiltins "str" = some (.type "str"):=by decide +kernel
theorem bt_list:bootBuiltins "list" = some (.type "list"):=by decide +kernel
theorem bt_tuple:bootBuiltins "tuple" = some (.type "tuple"):=by decide +kernel
theorem bt_zip:bootBuiltins "zip" = some (.type "zip"):=by decide +kernel
end L2
namespace L2
open PySem PySem.Spec PyProof.Rows
section
variable {prog:Program} {w:World} {A:Around} {E:Value→Shared→Prop} {s:Shared}
theorem nx_tup {it t:Addr} {i:Nat} {its:Array Value} {x:Value} {Q:Value→Shared→Prop} (hit:s.heap.IsTupleIter it t i) (ht:s.heap.IsTuple t its) (hx:its[i]? = some x)
  (hQ:∀ h',h'.IsTupleIter it t (i + 1)→Heap.SameBut it s.heap h'→Q x { s with heap:=h' }):wpAny (model prog w) A (Builtin.SmallTypes.nextOf (.ref it)) Q E s:=by
 obtain ⟨o,ho,hc,hd⟩:=id hit
 obtain ⟨ot,hot,_,nt,hdt⟩:=ht
 unfold Builtin.SmallTypes.nextOf
 refine wpAny_bind (wpAny_callSpecial?_slot (name:=Str.ofString "__next__") hit.typeIs F.slot_tuple_iterator_next (wpAny_call_entry F.slot_tuple_iterator_next hit.typeIs F.entry_tuple_iterator_next ?_ (F.args_tuple_iterator_next_1 _)))
 show wpAny _ _ (field (.ref it) 0 >>= _) _ _ s;refine wpAny_bind (wpAny_field ho hd (x:=.ref t) rfl ?_)
 show wpAny _ _ (if (Value.ref t == Value.none) = true then _ else _) _ _ s;rw [if_neg (show ¬ ((Value.ref t == Value.none) = true) from fun z=>Bool.false_ne_true z)]
 show wpAny _ _ (field (.ref it) 1 >>= _) _ _ s;refine wpAny_bind (wpAny_field ho hd (x:=.int i 0) rfl ?_)
 show wpAny _ _ (seqItems? (.ref t) >>= _) _ _ s;refine wpAny_bind (wpAny_seqItems hot hdt ?_);simp only [Int.toNat_natCast,hx]
 refine wpAny_bind (wpAny_setField ho hd (by simp) (wpAny_pure ⟨x,rfl,wpAny_pure (hQ _ ⟨_,Heap.get?_update_self _ ho (Obj.isFreed_of_fields (Obj.data_mapFields hd _)),(Obj.cls_mapFields ..).trans hc,by rw [Obj.data_mapFields hd];simp [rawInt]⟩ (Heap.SameBut.update ..))⟩))
theorem nx_tup_end {it t:Addr} {i:Nat} {its:Array Value} {Q:Value→Shared→Prop} (hh:A.handled = none) (hit:s.heap.IsTupleIter it t i) (ht:s.heap.IsTuple t its) (hx:its[i]? = none)
  (hE:∀ h' e,Heap.ExtBut it s.heap h'→(∃ o,h'.get? e = some o∧o.cls = .type "StopIteration")→E (.ref e) { s with heap:=h' }):wpAny (model prog w) A (Builtin.SmallTypes.nextOf (.ref it)) Q E s:=by
 obtain ⟨o,ho,hc,hd⟩:=id hit
 obtain ⟨ot,hot,_,nt,hdt⟩:=ht
 unfold Builtin.SmallTypes.nextOf
 refine wpAny_bind (wpAny_callSpecial?_slot (name:=Str.ofString "__next__") hit.typeIs F.slot_tuple_iterator_next (wpAny_call_entry F.slot_tuple_iterator_next hit.typeIs F.entry_tuple_iterator_next ?_ (F.args_tuple_iterator_next_1 _)))
 show wpAny _ _ (field (.ref it) 0 >>= _) _ _ s;refine wpAny_bind (wpAny_field ho hd (x:=.ref t) rfl ?_)
 show wpAny _ _ (if (Value.ref t == Value.none) = true then _ else _) _ _ s;rw [if_neg (show ¬ ((Value.ref t == Value.none) = true) from fun z=>Bool.false_ne_true z)]
 show wpAny _ _ (field (.ref it) 1 >>= _) _ _ s;refine wpAny_bind (wpAny_field ho hd (x:=.int i 0) rfl ?_)
 show wpAny _ _ (seqItems? (.ref t) >>= _) _ _ s;refine wpAny_bind (wpAny_seqItems hot hdt ?_);simp only [Int.toNat_natCast,hx]
 refine wpAny_bind (wpAny_rule (wpAny_bind (wpAny_setField ho hd (by simp) ?_)));show wpAny _ _ (newExc (.type "StopIteration") [] >>= _) _ _ _
 refine wpAny_bind ?_;simp only [newExc,newTuple];refine wpAny_bind (wpAny_newObj_type ?_ (by size_fits))
 refine wpAny_bind (m:=firstArgMember _ _) (wpAny_of_eq (a:=Value.none) (by first | rfl | (simp only [firstArgMember];rfl)) ?_);refine wpAny_newObj_type ?_ (by size_fits)
 simp only [raiseNew];refine wpAny_bind (wpAny_handled ?_);first | rw [show A.in1.handled = none from hh] | rw [hh]
 refine wpAny_bind (wpAny_pure (wpAny_throw (hE _ _ (((Heap.SameBut.update ..).extBut.push _).push _) ⟨_,Heap.get?_push_size _ rfl,rfl⟩)))
end
structure SubIt (P:Program) (w:World) (K:PySem.W.Frag) (it:Addr) (go stop:Nat→Hp→Prop) (yld:Nat→Hp→V→Prop) (tn:Nat→Heap→Prop):Prop where
 obj:∀ i h,tn i h→∃ o,h.get? it = some o∧∀ v,o.data≠.cell v
 keep:∀ i h h',tn i h→(∀ o,h.get? it = some o→h'.get? it = some o)→tn i h'
 item:∀ (X:Cx) (pins:List (Addr×Obj)) (σ:St) (H:Hp) (s₀:Shared) (i:Nat) (fp:List Addr),X.prog = P→X.w = w→X.K = K→Inv X pins σ H s₀→(∀ b∈fp,FpOk X pins H b)→go i H →
  ∃ U:Heap→Prop,U s₀.heap∧(∀ h h',U h→(∀ b o,b ∉ fp→h.get? b = some o→h'.get? b = some o)→U h')∧∃ x,yld i H x ∧
   ∀ (A:Around) (s:Shared) (Q:Value→Shared→Prop) (E:Value→Shared→Prop),U s.heap→tn i s.heap→(∀ u h' tk,RelV x u→tn (i + 1) h'→Heap.SameBut it s.heap h'→Q u { s with heap:=h',toks:=tk }) →
    wpAny (model P w) A (Builtin.SmallTypes.nextOf (.ref it)) Q E s
 done:∀ (X:Cx) (pins:List (Addr×Obj)) (σ:St) (H:Hp) (s₀:Shared) (i:Nat) (fp:List Addr),X.prog = P→X.w = w→X.K = K→Inv X pins σ H s₀→(∀ b∈fp,FpOk X pins H b)→stop i H →
  ∃ U:Heap→Prop,U s₀.heap∧(∀ h h',U h→(∀ b o,b ∉ fp→h.get? b = some o→h'.get? b = some o)→U h') ∧
   ∀ (A:Around) (s:Shared) (Q:Value→Shared→Prop) (E:Value→Shared→Prop),A.handled = none→U s.heap→tn i s.heap→(∀ h' e,Heap.ExtBut it s.heap h'→(∃ o,h'.get? e = some o∧o.cls = .type "StopIteration")→E (.ref e) { s with heap:=h' }) →
    wpAny (model P w) A (Builtin.SmallTypes.nextOf (.ref it)) Q E s
theorem base_notin {X:Cx} {pins:List (Addr×Obj)} {σ:St} {H:Hp} {s:Shared} {fp:List Addr} (I:Inv X pins σ H s) (hf:∀ b∈fp,FpOk X pins H b) {a:Addr} {o:Obj} (e:X.base.get? a = some o):a ∉ fp:=fun hb=>by
 rcases (hf a hb).2.2.2.1 with z | z
 ·exact I.ok.noex a o e z
 ·exact absurd (Nat.lt_of_lt_of_le (Heap.lt_size (I.ok.bs a o e).1) z) (Nat.lt_irrefl _)
theorem sqT_notin {X:Cx} {pins:List (Addr×Obj)} {σ:St} {H:Hp} {s:Shared} {fp:List Addr} {a:Addr} {xs:List V} (I:Inv X pins σ H s) (hf:∀ b∈fp,FpOk X pins H b) (h:SqT X.K H a xs):a ∉ fp:=by
 rcases h with (h | ⟨o,h⟩) | ⟨o,its,n,hk,_⟩
 ·exact fun hb=>by rw [(hf a hb).1] at h;cases h
 ·exact fun hb=>by rw [(hf a hb).1] at h;cases h
 ·exact base_notin I hf (I.ok.mod.kin a o hk)
theorem sqL_notin {X:Cx} {pins:List (Addr×Obj)} {σ:St} {H:Hp} {s:Shared} {fp:List Addr} {a:Addr} {xs:List V} (I:Inv X pins σ H s) (hf:∀ b∈fp,FpOk X pins H b) (h:SqL X.K H a xs):a ∉ fp:=by
 rcases h with (h | ⟨o,h⟩) | ⟨o,its,n,hk,_⟩
 ·exact fun hb=>by rw [(hf a hb).1] at h;cases h
 ·exact fun hb=>by rw [(hf a hb).1] at h;cases h
 ·exact base_notin I hf (I.ok.mod.kin a o hk)
theorem sub_tup {P:Program} {w:World} {K:PySem.W.Frag} (a it:Addr):SubIt P w K it (fun i H=>∃ xs x,SqT K H a xs∧xs[i]? = some x) (fun i H=>∃ xs,SqT K H a xs∧xs.length≤i) (fun i H x=>∀ xs,SqT K H a xs→xs[i]? = some x) (fun i h=>h.IsTupleIter it a i) where
 obj:=fun i h ⟨o,e,c,d⟩=>⟨o,e,fun v z=>by rw [d] at z;cases z⟩
 keep:=fun i h h' ⟨o,e,r⟩ k=>⟨o,k o e,r⟩
 item:=fun X pins σ H s₀ i fp hP hw hK I hf ⟨xs,x,hq,hx⟩=>by
  subst hP hw hK
  obtain ⟨its,rv,p,_⟩:=I.tuple hq
  have na:=sqT_notin I hf hq
  obtain ⟨u,hu,ru⟩:=rv.get hx
  refine ⟨fun h=>h.IsTuple a its.toArray,p,fun h h' ⟨o,e,r⟩ k=>⟨o,k a o na e,r⟩,x,fun ys hy=>by rw [I.tuple_inj hy hq];exact hx,fun A s Q E hU st hQ=>?_⟩
  exact nx_tup st hU (x:=u) (by simpa using hu) fun h' st' sb=>hQ u h' s.toks ru st' sb
 done:=fun X pins σ H s₀ i fp hP hw hK I hf ⟨xs,hq,hx⟩=>by
  subst hP hw hK
  obtain ⟨its,rv,p,_⟩:=I.tuple hq
  have na:=sqT_notin I hf hq
  have hl:=rv.length
  exact ⟨fun h=>h.IsTuple a its.toArray,p,fun h h' ⟨o,e,r⟩ k=>⟨o,k a o na e,r⟩,fun A s Q E hh hU st hE=>nx_tup_end hh st hU (by simp;omega) hE⟩
theorem sub_lst {P:Program} {w:World} {K:PySem.W.Frag} (a it:Addr):SubIt P w K it (fun i H=>∃ xs x,SqL K H a xs∧xs[i]? = some x) (fun i H=>∃ xs,SqL K H a xs∧xs.length≤i) (fun i H x=>∀ xs,SqL K H a xs→xs[i]? = some x) (fun i h=>h.IsListIter it a i) where
 obj:=fun i h ⟨o,e,c,d⟩=>⟨o,e,fun v z=>by rw [d] at z;cases z⟩
 keep:=fun i h h' ⟨o,e,r⟩ k=>⟨o,k o e,r⟩
 item:=fun X pins σ H s₀ i fp hP hw hK I hf ⟨xs,x,hq,hx⟩=>by
  subst hP hw hK
  obtain ⟨its,rv,p,_⟩:=I.list hq
  have na:=sqL_notin I hf hq
  obtain ⟨u,hu,ru⟩:=rv.get hx
  refine ⟨fun h=>h.IsList a its.toArray,p.isList,fun h h' ⟨o,e,r⟩ k=>⟨o,k a o na e,r⟩,x,fun ys hy=>by rw [I.list_inj hy hq];exact hx,fun A s Q E hU st hQ=>?_⟩
  exact wpAny_nextOf_list_item st hU (x:=u) (by simpa using hu) fun h' st' sb=>hQ u h' s.toks ru st' sb
 done:=fun X pins σ H s₀ i fp hP hw hK I hf ⟨xs,hq,hx⟩=>by
  subst hP hw hK
  obtain ⟨its,rv,p,_⟩:=I.list hq
  have na:=sqL_notin I hf hq
  have hl:=rv.length
  exact ⟨fun h=>h.IsList a its.toArray,p.isList,fun h h' ⟨o,e,r⟩ k=>⟨o,k a o na e,r⟩,fun A s Q E hh hU st hE=>wpAny_nextOf_list_end hh st hU (by simp;omega) hE⟩
structure ZA (z TI TO i1 i2:Addr):Prop where
 p1:TI≠z
 p2:TO≠z
 p3:i1≠z
 p4:i2≠z
 p5:TI≠TO
 p6:TI≠i1
 p7:TI≠i2
 p8:TO≠i1
 p9:TO≠i2
 p0:i1≠i2
section
variable {prog:Program} {w:World} {A:Around} {E:Value→Shared→Prop} {s:Shared}
theorem zip_one {z TI TO i1 i2:Addr} {x y:V} {a b:Value} {U1 U2 T1 T2 T1' T2':Heap→Prop} {Q:Value→Shared→Prop} (D:ZA z TI TO i1 i2)
  (hz:IsZip s.heap z TI TO .none) (hTI:IsPair s.heap TI (.ref i1) (.ref i2)) (hTO:IsPair s.heap TO a b) (u1:U1 s.heap) (u2:U2 s.heap) (t1:T1 s.heap) (t2:T2 s.heap)
  (k1:∀ h h',U1 h→(∀ b o,b ∉ [z,TI,TO,i1,i2]→h.get? b = some o→h'.get? b = some o)→U1 h') (k2:∀ h h',U2 h→(∀ b o,b ∉ [z,TI,TO,i1,i2]→h.get? b = some o→h'.get? b = some o)→U2 h')
  (q1:∀ h h',T1 h→(∀ o,h.get? i1 = some o→h'.get? i1 = some o)→T1 h') (q2:∀ h h',T2 h→(∀ o,h.get? i2 = some o→h'.get? i2 = some o)→T2 h')
  (q1':∀ h h',T1' h→(∀ o,h.get? i1 = some o→h'.get? i1 = some o)→T1' h') (q2':∀ h h',T2' h→(∀ o,h.get? i2 = some o→h'.get? i2 = some o)→T2' h')
  (d1:∀ (A:Around) (s:Shared) (Q:Value→Shared→Prop) (E:Value→Shared→Prop),U1 s.heap→T1 s.heap→(∀ u h' tk,RelV x u→T1' h'→Heap.SameBut i1 s.heap h'→Q u { s with heap:=h',toks:=tk })→wpAny (model prog w) A (Builtin.SmallTypes.nextOf (.ref i1)) Q E s)
  (d2:∀ (A:Around) (s:Shared) (Q:Value→Shared→Prop) (E:Value→Shared→Prop),U2 s.heap→T2 s.heap→(∀ u h' tk,RelV y u→T2' h'→Heap.SameBut i2 s.heap h'→Q u { s with heap:=h',toks:=tk })→wpAny (model prog w) A (Builtin.SmallTypes.nextOf (.ref i2)) Q E s)
  (hQ:∀ u v h' tk,RelV x u→RelV y v→IsZip h' z TI TO (rawInt s.heap.objs.size)→IsPair h' TI (.ref i1) (.ref i2)→IsPair h' TO u v→T1' h'→T2' h'→IsPair h' s.heap.objs.size u v →
   (∀ c o,c≠z→c≠TO→c≠i1→c≠i2→s.heap.get? c = some o→h'.get? c = some o)→Q (.ref s.heap.objs.size) { s with heap:=h',toks:=tk }) :
  wpAny (model prog w) A (Builtin.«zip.__next__» ⟨[.ref z],[]⟩) (fun fin s'=>∃ v,fin = .done (.ret v)∧Q v s') E s:=by
 have mz:∀ {c:Addr},c ∉ [z,TI,TO,i1,i2]→c≠z∧c≠TO∧c≠i1∧c≠i2:=fun {c} h=>by simp at h;exact ⟨h.1,h.2.2.1,h.2.2.2.1,h.2.2.2.2⟩
 show wpAny _ _ (field (.ref z) 2 >>= _) _ _ _;refine wpAny_bind (wpAny_field hz rfl (x:=.bool false) rfl ?_)
 show wpAny _ _ (field (.ref z) 3 >>= _) _ _ _;refine wpAny_bind (wpAny_field hz rfl (x:=.ref TI) rfl (wpAny_bind (wpAny_seqItems hTI rfl ?_)))
 show wpAny _ _ (Builtin.SmallTypes.ownedTupleIsFree (.ref z) >>= _) _ _ _;refine wpAny_bind ?_;unfold Builtin.SmallTypes.ownedTupleIsFree
 refine wpAny_bind (wpAny_field hz rfl (x:=.none) rfl (wpAny_pure ?_));simp only [if_true]
 refine wpAny_bind (wpAny_rule (wpAny_bind (wpAny_field hz rfl (x:=.ref TO) rfl (wpAny_bind (wpAny_setField_rec hz (by simp) fun g1 hz1 hs1=>?_)))))
 replace hz1:IsZip g1 z TI TO .ellipsis:=hz1
 refine wpAny_bind ?_;simp only [List.zipIdx_cons,List.zipIdx_nil,List.forIn_cons,List.forIn_nil]
 refine wpAny_bind (wpAny_bind (wpAny_onRaise ?_));show wpAny _ _ (Builtin.SmallTypes.nextOf (.ref i1) >>= _) _ _ _
 refine wpAny_bind (d1 _ _ _ _ (k1 _ _ u1 fun c o hc e=>hs1.extBut _ _ (mz hc).1 e) (q1 _ _ t1 fun o e=>hs1.extBut _ _ D.p3 e) fun u g2 tk2 ru t1b hs2=>wpAny_pure ?_)
 have hTO2:IsPair g2 TO a b:=hs2.extBut _ _ D.p8 (hs1.extBut _ _ D.p2 hTO)
 refine wpAny_bind (wpAny_seqItems hTO2 rfl (wpAny_bind (wpAny_updateSeq_pair hTO2 fun g3 hTO3 hs3=>?_)))
 replace hTO3:IsPair g3 TO u b:=hTO3
 refine wpAny_bind (wpAny_letGo (wpAny_pure (wpAny_bind (wpAny_bind (wpAny_onRaise ?_)))));show wpAny _ _ (Builtin.SmallTypes.nextOf (.ref i2) >>= _) _ _ _
 refine wpAny_bind (d2 _ _ _ _ (k2 _ _ u2 fun c o hc e=>hs3.extBut _ _ (mz hc).2.1 (hs2.extBut _ _ (mz hc).2.2.1 (hs1.extBut _ _ (mz hc).1 e))) (q2 _ _ t2 fun o e=>hs3.extBut _ _ D.p9.symm (hs2.extBut _ _ D.p0.symm (hs1.extBut _ _ D.p4 e))) fun v g4 tk4 rv t2b hs4=>wpAny_pure ?_)
 have hTO4:IsPair g4 TO u b:=hs4.extBut _ _ D.p9 hTO3
 refine wpAny_bind (wpAny_seqItems hTO4 rfl (wpAny_bind (wpAny_updateSeq_pair hTO4 fun g5 hTO5 hs5=>?_)))
 replace hTO5:IsPair g5 TO u v:=hTO5
 refine wpAny_bind (wpAny_letGo (wpAny_pure (wpAny_pure (wpAny_bind (wpAny_seqItems hTO5 rfl (wpAny_bind (wpAny_newTuple ?_)))))))
 have sz:g5.objs.size = s.heap.objs.size:=by rw [hs5.1,hs4.1,hs3.1,hs2.1,hs1.1]
 have all5:∀ c o,c≠z→c≠TO→c≠i1→c≠i2→s.heap.get? c = some o→g5.get? c = some o:=fun c o c1 c2 c3 c4 e=>hs5.extBut _ _ c2 (hs4.extBut _ _ c4 (hs3.extBut _ _ c2 (hs2.extBut _ _ c3 (hs1.extBut _ _ c1 e))))
 have hz5:IsZip g5 z TI TO .ellipsis:=hs5.extBut _ _ D.p2.symm (hs4.extBut _ _ D.p4.symm (hs3.extBut _ _ D.p2.symm (hs2.extBut _ _ D.p3.symm hz1)))
 have t15:T1' g5:=q1' _ _ t1b fun o e=>hs5.extBut _ _ D.p8.symm (hs4.extBut _ _ D.p0 (hs3.extBut _ _ D.p8.symm e))
 have t25:T2' g5:=q2' _ _ t2b fun o e=>hs5.extBut _ _ D.p9.symm e
 have zlt:z < g5.objs.size:=Heap.lt_size hz5
 show wpAny _ _ (Builtin.SmallTypes.ownedTupleHandOut (.ref z) (.ref g5.objs.size) >>= _) _ _ _;refine wpAny_bind ?_;unfold Builtin.SmallTypes.ownedTupleHandOut
 have hz6:IsZip (g5.push { cls:=.type "tuple",data:=.seq #[u,v] }) z TI TO .ellipsis:=Heap.get?_push_of_some _ hz5
 refine wpAny_bind (wpAny_setField_rec hz6 (by simp) fun g7 hz7 hs7=>?_)
 replace hz7:IsZip g7 z TI TO (rawInt g5.objs.size):=hz7
 refine wpAny_setField_rec hz7 (by simp) fun g8 hz8 hs8=>?_
 replace hz8:IsZip g8 z TI TO (rawInt g5.objs.size):=hz8
 have up8:∀ c o,c≠z→g5.get? c = some o→g8.get? c = some o:=fun c o c1 e=>hs8.extBut _ _ c1 (hs7.extBut _ _ c1 (Heap.get?_push_of_some _ e))
 have hT8:IsPair g8 g5.objs.size u v:=hs8.extBut _ _ (Nat.ne_of_gt zlt) (hs7.extBut _ _ (Nat.ne_of_gt zlt) (Heap.get?_push_size _ rfl))
 rw [sz] at hz8 hT8
 refine wpAny_pure ⟨_,rfl,?_⟩
 show Q (.ref g5.objs.size) _;rw [sz]
 exact hQ u v g8 _ ru rv hz8 (up8 _ _ D.p1 (all5 _ _ D.p1 D.p5 D.p6 D.p7 hTI)) (up8 _ _ D.p2 hTO5) (q1' _ _ t15 fun o e=>up8 _ o D.p3 e) (q2' _ _ t25 fun o e=>up8 _ o D.p4 e) hT8 fun c o c1 c2 c3 c4 e=>up8 c o c1 (all5 c o c1 c2 c3 c4 e)
theorem zip_stop {z TI TO i1 i2:Addr} {x:V} {a b:Value} {U1 U2 T1 T2 T1':Heap→Prop} {Q:Fin→Shared→Prop} (hh:A.handled = none) (D:ZA z TI TO i1 i2)
  (hz:IsZip s.heap z TI TO .none) (hTI:IsPair s.heap TI (.ref i1) (.ref i2)) (hTO:IsPair s.heap TO a b) (u1:U1 s.heap) (t1:T1 s.heap)
  (k1:∀ h h',U1 h→(∀ b o,b ∉ [z,TI,TO,i1,i2]→h.get? b = some o→h'.get? b = some o)→U1 h')
  (q1:∀ h h',T1 h→(∀ o,h.get? i1 = some o→h'.get? i1 = some o)→T1 h')
  (hd:(∀ (A:Around) (s:Shared) (Q:Value→Shared→Prop) (E:Value→Shared→Prop),A.handled = none→U1 s.heap→T1 s.heap→(∀ h' e,Heap.ExtBut i1 s.heap h'→(∃ o,h'.get? e = some o∧o.cls = .type "StopIteration")→E (.ref e) { s with heap:=h' })→wpAny (model prog w) A (Builtin.SmallTypes.nextOf (.ref i1)) Q E s) ∨
   ((∀ (A:Around) (s:Shared) (Q:Value→Shared→Prop) (E:Value→Shared→Prop),U1 s.heap→T1 s.heap→(∀ u h' tk,RelV x u→T1' h'→Heap.SameBut i1 s.heap h'→Q u { s with heap:=h',toks:=tk })→wpAny (model prog w) A (Builtin.SmallTypes.nextOf (.ref i1)) Q E s) ∧
    U2 s.heap∧T2 s.heap∧(∀ h h',U2 h→(∀ b o,b ∉ [z,TI,TO,i1,i2]→h.get? b = some o→h'.get? b = some o)→U2 h')∧(∀ h h',T2 h→(∀ o,h.get? i2 = some o→h'.get? i2 = some o)→T2 h') ∧
    ∀ (A:Around) (s:Shared) (Q:Value→Shared→Prop) (E:Value→Shared→Prop),A.handled = none→U2 s.heap→T2 s.heap→(∀ h' e,Heap.ExtBut i2 s.heap h'→(∃ o,h'.get? e = some o∧o.cls = .type "StopIteration")→E (.ref e) { s with heap:=h' })→wpAny (model prog w) A (Builtin.SmallTypes.nextOf (.ref i2)) Q E s))
  (hE:∀ h' tk e,(∀ c o,c≠z→c≠TO→c≠i1→c≠i2→s.heap.get? c = some o→h'.get? c = some o)→(∃ o,h'.get? e = some o∧o.cls = .type "StopIteration")→E (.ref e) { s with heap:=h',toks:=tk }) :
  wpAny (model prog w) A (Builtin.«zip.__next__» ⟨[.ref z],[]⟩) Q E s:=by
 have mz:∀ {c:Addr},c ∉ [z,TI,TO,i1,i2]→c≠z∧c≠TO∧c≠i1∧c≠i2:=fun {c} h=>by simp at h;exact ⟨h.1,h.2.2.1,h.2.2.2.1,h.2.2.2.2⟩
 show wpAny _ _ (field (.ref z) 2 >>= _) _ _ _;refine wpAny_bind (wpAny_field hz rfl (x:=.bool false) rfl ?_)
 show wpAny _ _ (field (.ref z) 3 >>= _) _ _ _;refine wpAny_bind (wpAny_field hz rfl (x:=.ref TI) rfl (wpAny_bind (wpAny_seqItems hTI rfl ?_)))
 show wpAny _ _ (Builtin.SmallTypes.ownedTupleIsFree (.ref z) >>= _) _ _ _;refine wpAny_bind ?_;unfold Builtin.SmallTypes.ownedTupleIsFree
 refine wpAny_bind (wpAny_field hz rfl (x:=.none) rfl (wpAny_pure ?_));simp only [if_true]
 refine wpAny_bind (wpAny_rule (wpAny_bind (wpAny_field hz rfl (x:=.ref TO) rfl (wpAny_bind (wpAny_setField_rec hz (by simp) fun g1 hz1 hs1=>?_)))))
 replace hz1:IsZip g1 z TI TO .ellipsis:=hz1
 refine wpAny_bind ?_;simp only [List.zipIdx_cons,List.zipIdx_nil,List.forIn_cons,List.forIn_nil]
 refine wpAny_bind (wpAny_bind (wpAny_onRaise ?_));show wpAny _ _ (Builtin.SmallTypes.nextOf (.ref i1) >>= _) _ _ _
 rcases hd with e1 | ⟨d1,u2,t2,k2,q2,e2⟩
 ·refine wpAny_bind (e1 _ _ _ _ hh (k1 _ _ u1 fun c o hc e=>hs1.extBut _ _ (mz hc).1 e) (q1 _ _ t1 fun o e=>hs1.extBut _ _ D.p3 e) fun g2 e hs2 he=>?_)
  obtain ⟨oe,hoe,hce⟩:=he
  have hz2:IsZip g2 z TI TO .ellipsis:=hs2 _ _ D.p3.symm hz1
  have nez:e≠z:=fun q=>by subst q;rw [hz2] at hoe;cases hoe;simp at hce
  exact wpAny_setField_rec hz2 (by simp) fun g3 _ hs3=>hE g3 _ e (fun c o c1 _ c3 _ q=>hs3.extBut _ _ c1 (hs2 _ _ c3 (hs1.extBut _ _ c1 q))) ⟨oe,hs3.extBut _ _ nez hoe,hce⟩
 ·refine wpAny_bind (d1 _ _ _ _ (k1 _ _ u1 fun c o hc e=>hs1.extBut _ _ (mz hc).1 e) (q1 _ _ t1 fun o e=>hs1.extBut _ _ D.p3 e) fun u g2 tk2 ru t1b hs2=>wpAny_pure ?_)
  have hTO2:IsPair g2 TO a b:=hs2.extBut _ _ D.p8 (hs1.extBut _ _ D.p2 hTO)
  refine wpAny_bind (wpAny_seqItems hTO2 rfl (wpAny_bind (wpAny_updateSeq_pair hTO2 fun g3 hTO3 hs3=>?_)))
  refine wpAny_bind (wpAny_letGo (wpAny_pure (wpAny_bind (wpAny_bind (wpAny_onRaise ?_)))));show wpAny _ _ (Builtin.SmallTypes.nextOf (.ref i2) >>= _) _ _ _
  refine wpAny_bind (e2 _ _ _ _ hh (k2 _ _ u2 fun c o hc e=>hs3.extBut _ _ (mz hc).2.1 (hs2.extBut _ _ (mz hc).2.2.1 (hs1.extBut _ _ (mz hc).1 e))) (q2 _ _ t2 fun o e=>hs3.extBut _ _ D.p9.symm (hs2.extBut _ _ D.p0.symm (hs1.extBut _ _ D.p4 e))) fun g4 e hs4 he=>?_)
  obtain ⟨oe,hoe,hce⟩:=he
  have hz4:IsZip g4 z TI TO .ellipsis:=hs4 _ _ D.p4.symm (hs3.extBut _ _ D.p2.symm (hs2.extBut _ _ D.p3.symm hz1))
  have nez:e≠z:=fun q=>by subst q;rw [hz4] at hoe;cases hoe;simp at hce
  exact wpAny_setField_rec hz4 (by simp) fun g5 _ hs5=>hE g5 _ e (fun c o c1 c2 c3 c4 q=>hs5.extBut _ _ c1 (hs4 _ _ c4 (hs3.extBut _ _ c2 (hs2.extBut _ _ c3 (hs1.extBut _ _ c1 q))))) ⟨oe,hs5.extBut _ _ nez hoe,hce⟩
end
section
variable {X:Cx} {pins:List (Addr×Obj)} {σ:St} {H:Hp} {s:Shared} {h':Heap} {fp:List Addr}
theorem Inv.nfp (I:Inv X pins σ H s) (hf:∀ b∈fp,FpOk X pins H b) {b:Addr} {u:HO} (e:H b = some u):b ∉ fp:=fun hb=>by rw [(hf b hb).1] at e;cases e
theorem Inv.turnedL {t':Nat} (I:Inv X pins σ H s) (hf:∀ b∈fp,FpOk X pins H b) (k:∀ b o,b ∉ fp→s.heap.get? b = some o→h'.get? b = some o):Inv X pins σ H { s with heap:=h',toks:=t' }:=by
 refine I.step (g':=s.gens) (d':=s.drawn) (ch:=fp) (fun b hb=>⟨(hf b hb).2.2.2.1,(hf b hb).2.1,(hf b hb).2.2.2.2.1,(hf b hb).2.2.2.2.2⟩) (fun b o _ _ hc e _=>k b o hc e) (fun b o _ _ hc e _=>⟨o.slots,k b o hc e⟩) (fun _ _ _ _ n=>n)
  (fun b o hc e=>⟨o,k b o hc e⟩) (fun _ _ e=>e) (fun _ _ _ e=>e) (fun b ps e=>⟨#[],by rw [e];simp⟩) (fun m hm=>?_) (fun b u e=>?_) I.bare
 ·obtain ⟨o,es,ep,ho,r⟩:=hm
  exact ⟨o,es,ep,k _ o (fun z=>(hf _ z).2.1 rfl) ho,r⟩
 ·refine (I.hok b u e).stay (fun c v hc q=>k c v ?_ q) (fun _ q=>q) fun _ _ q=>q
  rcases hc with z | z
  ·rw [z];exact I.nfp hf e
  ·exact I.nfp hf z
theorem Inv.turnLay {t':Nat} {p:Addr} {o:HO} (I:Inv X pins σ H s) (hf:∀ b∈fp,FpOk X pins H b) (k:∀ b o,b ∉ fp→s.heap.get? b = some o→h'.get? b = some o) (hp:s.heap.objs.size≤p) (new:ObjOk X.prog X.w (upd H p o) h' p o) :
  Inv X pins σ (upd H p o) { s with heap:=h',toks:=t' }:=by
 have hn:H p = none:=I.hok.fresh hp
 refine I.step (g':=s.gens) (d':=s.drawn) (ch:=fp) (fun b hb=>⟨(hf b hb).2.2.2.1,(hf b hb).2.1,(hf b hb).2.2.2.2.1,(hf b hb).2.2.2.2.2⟩) (fun b o _ _ hc e _=>k b o hc e) (fun b o _ _ hc e _=>⟨o.slots,k b o hc e⟩)
  (fun b o _ e n=>by rw [upd_ne (Nat.ne_of_lt (Nat.lt_of_lt_of_le (Heap.lt_size e) hp))];exact n)
  (fun b o hc e=>⟨o,k b o hc e⟩) (fun b xs e=>by rw [upd_ne (ne_of_none e hn)];exact e) (fun b u xs e=>by rw [upd_ne (ne_of_none e hn)];exact e) (fun b ps e=>⟨#[],by rw [upd_ne (ne_of_none e hn),e];simp⟩) (fun m hm=>?_) (fun b u e=>?_) I.bare
 ·obtain ⟨o,es,ep,ho,r⟩:=hm
  exact ⟨o,es,ep,k _ o (fun z=>(hf _ z).2.1 rfl) ho,r⟩
 ·by_cases hb:b = p
  ·subst hb
   rw [upd_same] at e
   cases e
   exact new
  ·rw [upd_ne hb] at e
   refine (I.hok b u e).stay (fun c v hc q=>k c v ?_ q) (fun c q=>?_) fun c xs q=>?_
   ·rcases hc with z | z
    ·rw [z];exact I.nfp hf e
    ·exact I.nfp hf z
   ·first
     | (rw [upd_ne (ne_of_none q hn)];exact q)
     | exact q
   ·first
     | (rw [upd_ne (ne_of_none q hn)];exact q)
     | exact q
end
def Itz (g1 g2 s1 s2:Nat→Hp→Prop) (y1 y2:Nat→Hp→V→Prop):It :=
 ⟨fun i H=>g1 i H∧g2 i H,fun i H v H'=>∃ p x y,v = .ref p∧H p = none∧H' = upd H p (.tup [x,y])∧y1 i H x∧y2 i H y,fun i H=>s1 i H∨(g1 i H∧s2 i H)⟩
theorem turn_zip {P:Program} {w:World} {K:PySem.W.Frag} {elts:List Expr} {x1:Nat} {tp:Pos} {z TI TO i1 i2:Addr} {g1 g2 s1 s2:Nat→Hp→Prop} {y1 y2:Nat→Hp→V→Prop} {t1 t2:Nat→Heap→Prop} (D:ZA z TI TO i1 i2)
  (S1:SubIt P w K i1 g1 s1 y1 t1) (S2:SubIt P w K i2 g2 s2 y2 t2) :
  Turn P w K (.Tuple elts x1 tp) (Itz g1 g2 s1 s2 y1 y2) [z,TI,TO,i1,i2] z (fun i h=>IsZip h z TI TO .none∧IsPair h TI (.ref i1) (.ref i2)∧(∃ a b,IsPair h TO a b)∧t1 i h∧t2 i h) where
 mem:=by simp
 obj:=fun i h ⟨hz,hTI,⟨a,b,hTO⟩,st1,st2⟩ c hc=>by
  simp only [List.mem_cons,List.not_mem_nil,or_false] at hc
  rcases hc with rfl | rfl | rfl | rfl | rfl
  ·exact ⟨_,hz,fun v e=>by cases e⟩
  ·exact ⟨_,hTI,fun v e=>by cases e⟩
  ·exact ⟨_,hTO,fun v e=>by cases e⟩
  ·exact S1.obj i h st1
  ·exact S2.obj i h st2
 keep:=fun i h h' ⟨hz,hTI,⟨a,b,hTO⟩,st1,st2⟩ k=>⟨k z (by simp) _ hz,k TI (by simp) _ hTI,⟨a,b,k TO (by simp) _ hTO⟩,S1.keep _ _ _ st1 fun o e=>k i1 (by simp) o e,S2.keep _ _ _ st2 fun o e=>k i2 (by simp) o e⟩
 item:=by
  intro X hP hw hK hc i pins s σ H E I hf ⟨hz,hTI,⟨a,b,hTO⟩,st1,st2⟩ ⟨hg1,hg2⟩
  obtain ⟨U1,u1,k1,x,hx,d1⟩:=S1.item X pins σ H s i [z,TI,TO,i1,i2] hP hw hK I hf hg1
  obtain ⟨U2,u2,k2,y,hy,d2⟩:=S2.item X pins σ H s i [z,TI,TO,i1,i2] hP hw hK I hf hg2
  subst hP hw hK
  have hT:s.TypeIs (.ref z) "zip":=⟨_,hz,rfl⟩
  unfold pyNext
  refine wpAny_bind (wpAny_attempt (wpAny_callSpecial?_slot (name:=Str.ofString "__next__") hT F.slot_zip_next (wpAny_call_entry F.slot_zip_next hT F.entry_zip_next
   (zip_one (x:=x) (y:=y) D hz hTI hTO u1 u2 st1 st2 k1 k2 (S1.keep i) (S2.keep i) (S1.keep (i + 1)) (S2.keep (i + 1)) d1 d2 fun u v h' tk ru rv hz' hTI' hTO' st1' st2' hp kk=>wpAny_pure ⟨_,rfl,?_⟩) (F.args_zip_next_1 _))))
  refine wpAny_letOwnedTupleGo_zip hz' fun h2 hz2 sb=>?_
  have lt:∀ {c o},s.heap.get? c = some o→c≠s.heap.objs.size:=fun e=>Nat.ne_of_lt (Heap.lt_size e)
  have nz:z≠s.heap.objs.size:=lt hz
  have kk2:∀ c o,c ∉ [z,TI,TO,i1,i2]→s.heap.get? c = some o→h2.get? c = some o:=fun c o hc e=>by
   simp only [List.mem_cons,List.not_mem_nil,or_false,not_or] at hc
   exact sb.extBut _ _ hc.1 (kk c o hc.1 hc.2.2.1 hc.2.2.2.1 hc.2.2.2.2 e)
  have hp2:IsPair h2 s.heap.objs.size u v:=sb.extBut _ _ nz.symm hp
  refine ⟨.ref s.heap.objs.size,_,I.turnLay (o:=.tup [x,y]) hf kk2 (Nat.le_refl _) ⟨small1000 (by simp) |> Nat.le_of_lt,[u,v],.cons ru (.cons rv .nil),⟨_,hp2,rfl,_,rfl⟩⟩,rfl,⟨_,x,y,rfl,I.fresh,rfl,hx,hy⟩,⟨hz2,sb.extBut _ _ D.p1 hTI',⟨_,_,sb.extBut _ _ D.p2 hTO'⟩,S1.keep _ _ _ st1' fun o e=>sb.extBut _ _ D.p3 e,S2.keep _ _ _ st2' fun o e=>sb.extBut _ _ D.p4 e⟩,fun c hc=>?_⟩
  have:∃ o,s.heap.get? c = some o:=by
   simp only [List.mem_cons,List.not_mem_nil,or_false] at hc
   rcases hc with rfl | rfl | rfl | rfl | rfl
   ·exact ⟨_,hz⟩
   ·exact ⟨_,hTI⟩
   ·exact ⟨_,hTO⟩
   ·obtain ⟨o,e,_⟩:=S1.obj _ _ st1;exact ⟨o,e⟩
   ·obtain ⟨o,e,_⟩:=S2.obj _ _ st2;exact ⟨o,e⟩
  obtain ⟨o,e⟩:=this
  rw [upd_ne (lt e)]
  exact (hf c hc).1
 done:=by
  intro X hP hw hK hc i pins s σ H E I hf ⟨hz,hTI,⟨a,b,hTO⟩,st1,st2⟩ hs
  have hT:s.TypeIs (.ref z) "zip":=⟨_,hz,rfl⟩
  have fin:∀ (h':Heap) (tk:Nat),(∀ c o,c≠z→c≠TO→c≠i1→c≠i2→s.heap.get? c = some o→h'.get? c = some o)→Inv X pins σ H { s with heap:=h',toks:=tk }:=fun h' tk kk=>I.turnedL hf fun c o hc e=>by
   simp only [List.mem_cons,List.not_mem_nil,or_false,not_or] at hc
   exact kk c o hc.1 hc.2.2.1 hc.2.2.2.1 hc.2.2.2.2 e
  have hh:=I.ok.hd hc
  rcases hs with hs1 | ⟨hg1,hs2⟩
  ·obtain ⟨U1,u1,k1,d1⟩:=S1.done X pins σ H s i [z,TI,TO,i1,i2] hP hw hK I hf hs1
   subst hP hw hK
   unfold pyNext
   refine wpAny_bind (wpAny_attempt (wpAny_callSpecial?_slot (name:=Str.ofString "__next__") hT F.slot_zip_next (wpAny_call_entry F.slot_zip_next hT F.entry_zip_next
    (zip_stop (x:=.non) (U2:=fun _=>True) (T2:=fun _=>True) (T1':=fun _=>True) hh D hz hTI hTO u1 st1 k1 (S1.keep i) (.inl d1) fun h' tk e kk he=>?_) (F.args_zip_next_1 _))))
   obtain ⟨o,ho,hc'⟩:=he
   exact wpAny_bind (wpAny_isInstance (T:="StopIteration") (b:=true) ⟨o,ho,hc'⟩ isSubtype_stop (wpAny_pure ⟨rfl,fin _ _ kk⟩))
  ·obtain ⟨U1,u1,k1,x,hx,d1⟩:=S1.item X pins σ H s i [z,TI,TO,i1,i2] hP hw hK I hf hg1
   obtain ⟨U2,u2,k2,d2⟩:=S2.done X pins σ H s i [z,TI,TO,i1,i2] hP hw hK I hf hs2
   subst hP hw hK
   unfold pyNext
   refine wpAny_bind (wpAny_attempt (wpAny_callSpecial?_slot (name:=Str.ofString "__next__") hT F.slot_zip_next (wpAny_call_entry F.slot_zip_next hT F.entry_zip_next
    (zip_stop (x:=x) (T1':=t1 (i + 1)) hh D hz hTI hTO u1 st1 k1 (S1.keep i) (.inr ⟨d1,u2,st2,k2,S2.keep i,d2⟩) fun h' tk e kk he=>?_) (F.args_zip_next_1 _))))
   obtain ⟨o,ho,hc'⟩:=he
   exact wpAny_bind (wpAny_isInstance (T:="StopIteration") (b:=true) ⟨o,ho,hc'⟩ isSubtype_stop (wpAny_pure ⟨rfl,fin _ _ kk⟩))
 self:=fun _ _ _ _ _ st h=>wpAny_pyIter_zip st.1 h
theorem zip_meets (v1 v2:Value) (o1 o2:Obj) (U:Heap→Prop) (hU:∀ h o,U h→U (h.push o))
  (h1:∀ (prog:Program) (w:World) (A:Around) (Q:Value→Shared→Prop) (E:Value→Shared→Prop) (s:Shared),U s.heap→Q (.ref s.heap.objs.size) { s with heap:=s.heap.push o1 }→wpAny (model prog w) A (pyIter v1) Q E s)
  (h2:∀ (prog:Program) (w:World) (A:Around) (Q:Value→Shared→Prop) (E:Value→Shared→Prop) (s:Shared),U s.heap→Q (.ref s.heap.objs.size) { s with heap:=s.heap.push o2 }→wpAny (model prog w) A (pyIter v2) Q E s) :
  Meets (Builtin.«zip.__new__» ⟨[.type "zip",v1,v2],[]⟩) (fun _ R s=>U s.heap ∧
   R (.ok (.ret (.ref ((((s.heap.push o1).push o2).push { cls:=.type "tuple",data:=.seq #[.ref s.heap.objs.size,.ref (s.heap.push o1).objs.size] }).push { cls:=.type "tuple",data:=.seq #[.none,.none] }).objs.size)))
    { s with heap:=((((s.heap.push o1).push o2).push { cls:=.type "tuple",data:=.seq #[.ref s.heap.objs.size,.ref (s.heap.push o1).objs.size] }).push { cls:=.type "tuple",data:=.seq #[.none,.none] }).push { cls:=.type "zip",data:=.fields #[.none,.bool false,.bool false,.ref ((s.heap.push o1).push o2).objs.size,.ref (((s.heap.push o1).push o2).push { cls:=.type "tuple",data:=.seq #[.ref s.heap.objs.size,.ref (s.heap.push o1).objs.size] }).objs.size] } }) :=
 .of_wp fun prog w A R s h=>by
  obtain ⟨hp,g,d,tk,os⟩:=s;obtain ⟨hu,h⟩:=h
  have hsub:=sub_zip
  have hu2:U (hp.push o1):=hU _ _ hu
  wp_walk using h1 prog w _ _ _ ⟨hp,g,d,tk,os⟩ hu,h2 prog w _ _ _ ⟨hp.push o1,g,d,tk,os⟩ hu2
  exact ⟨_,rfl,h⟩
end L2
namespace L2
open PySem PySem.Spec PyProof.Rows
section
variable {X:Cx} {elts:List Expr} {x1:Nat} {tp:Pos}
theorem zip_pi {pins:List (Addr×Obj)} {σ:St} {H:Hp} {s:Shared} {R:It→Hp→Prop} {E:Value→Shared→Prop} {v1 v2:Value} {o1 o2:Obj} {U:Heap→Prop} {g1 g2 s1 s2:Nat→Hp→Prop} {y1 y2:Nat→Hp→V→Prop} {t1 t2:Nat→Heap→Prop} (I:Inv X pins σ H s)
  (hu:U s.heap) (hU:∀ h o,U h→U (h.push o))
  (h1:∀ (prog:Program) (w:World) (A:Around) (Q:Value→Shared→Prop) (E:Value→Shared→Prop) (s:Shared),U s.heap→Q (.ref s.heap.objs.size) { s with heap:=s.heap.push o1 }→wpAny (model prog w) A (pyIter v1) Q E s)
  (h2:∀ (prog:Program) (w:World) (A:Around) (Q:Value→Shared→Prop) (E:Value→Shared→Prop) (s:Shared),U s.heap→Q (.ref s.heap.objs.size) { s with heap:=s.heap.push o2 }→wpAny (model prog w) A (pyIter v2) Q E s)
  (S1:SubIt X.prog X.w X.K s.heap.objs.size g1 s1 y1 t1) (S2:SubIt X.prog X.w X.K (s.heap.objs.size + 1) g2 s2 y2 t2) (b1:∀ h:Heap,h.get? s.heap.objs.size = some o1→t1 0 h) (b2:∀ h:Heap,h.get? (s.heap.objs.size + 1) = some o2→t2 0 h) (f1:o1.isFreed = false) (f2:o2.isFreed = false)
  (q:R (Itz g1 g2 s1 s2 y1 y2) H):wpAny (model X.prog X.w) X.A (call (.type "zip") [v1,v2]) (fun v s1=>wpAny (model X.prog X.w) X.A (pyIter v) (PIE X pins σ (.Tuple elts x1 tp) R) E s1) E s:=by
 refine callType_new F.called_zip (by decide) (F.typeCall_zip_2 _ _) (F.newCall_zip_2 _ _) (fun obj=>F.args_object_init_3 obj _ _) F.entry_zip_new (zip_meets v1 v2 o1 o2 U hU h1 h2) ⟨hu,?_⟩
 generalize hG1:s.heap.push o1 = G1
 have z1:G1.objs.size = s.heap.objs.size + 1:=by rw [← hG1];exact Heap.size_push ..
 generalize hG2:G1.push o2 = G2
 have z2:G2.objs.size = s.heap.objs.size + 2:=by rw [← hG2,Heap.size_push,z1]
 rw [z1,z2]
 generalize hG3:G2.push { cls:=.type "tuple",data:=.seq #[.ref s.heap.objs.size,.ref (s.heap.objs.size + 1)] } = G3
 have z3:G3.objs.size = s.heap.objs.size + 3:=by rw [← hG3,Heap.size_push,z2]
 rw [z3]
 generalize hG4:G3.push { cls:=.type "tuple",data:=.seq #[.none,.none] } = G4
 have z4:G4.objs.size = s.heap.objs.size + 4:=by rw [← hG4,Heap.size_push,z3]
 rw [z4]
 generalize hG5:G4.push { cls:=.type "zip",data:=.fields #[.none,.bool false,.bool false,.ref (s.heap.objs.size + 2),.ref (s.heap.objs.size + 3)] } = G5
 have e5:IsZip G5 (s.heap.objs.size + 4) (s.heap.objs.size + 2) (s.heap.objs.size + 3) .none:=by rw [← z4,← hG5];exact Heap.get?_push_size _ rfl
 have e4:IsPair G5 (s.heap.objs.size + 3) .none .none:=by rw [← z3,← hG5];exact Heap.get?_push_of_some _ (by rw [← hG4];exact Heap.get?_push_size _ rfl)
 have e3:IsPair G5 (s.heap.objs.size + 2) (.ref s.heap.objs.size) (.ref (s.heap.objs.size + 1)):=by rw [← z2,← hG5];exact Heap.get?_push_of_some _ (by rw [← hG4];exact Heap.get?_push_of_some _ (by rw [← hG3];exact Heap.get?_push_size _ rfl))
 have up2:∀ c o,G2.get? c = some o→G5.get? c = some o:=fun c o e=>by rw [← hG5];exact Heap.get?_push_of_some _ (by rw [← hG4];exact Heap.get?_push_of_some _ (by rw [← hG3];exact Heap.get?_push_of_some _ e))
 have e2:G5.get? (s.heap.objs.size + 1) = some o2:=up2 _ _ (by rw [← z1,← hG2];exact Heap.get?_push_size _ f2)
 have e1:G5.get? s.heap.objs.size = some o1:=up2 _ _ (by rw [← hG2];exact Heap.get?_push_of_some _ (by rw [← hG1];exact Heap.get?_push_size _ f1))
 have all:∀ c o,s.heap.get? c = some o→G5.get? c = some o:=fun c o e=>up2 _ _ (by rw [← hG2];exact Heap.get?_push_of_some _ (by rw [← hG1];exact Heap.get?_push_of_some _ e))
 refine ⟨⟨_,e5,rfl⟩,wpAny_pyIter_zip e5 ?_⟩
 have ne:∀ {m n:Nat},m≠n→s.heap.objs.size + m≠s.heap.objs.size + n:=fun h z=>h (Nat.add_left_cancel z)
 refine ⟨_,_,_,_,H,rfl,I.kept (t':=s.toks) all,turn_zip ⟨ne (by decide),ne (by decide),ne (m:=0) (by decide),ne (by decide),ne (by decide),ne (n:=0) (by decide),ne (by decide),ne (n:=0) (by decide),ne (by decide),ne (m:=0) (by decide)⟩ S1 S2,⟨e5,e3,⟨_,_,e4⟩,b1 _ e1,b2 _ e2⟩,fun b hb=>?_,q⟩
 have hle:s.heap.objs.size≤b:=by
  simp only [List.mem_cons,List.not_mem_nil,or_false] at hb
  rcases hb with rfl | rfl | rfl | rfl | rfl <;> omega
 exact I.fpOk hle (I.hok.fresh hle)
abbrev ItzTT (K:PySem.W.Frag) (a b:Addr):It:=Itz (fun i H=>∃ xs x,SqT K H a xs∧xs[i]? = some x) (fun i H=>∃ xs x,SqT K H b xs∧xs[i]? = some x) (fun i H=>∃ xs,SqT K H a xs∧xs.length≤i) (fun i H=>∃ xs,SqT K H b xs∧xs.length≤i)
 (fun i H x=>∀ xs,SqT K H a xs→xs[i]? = some x) (fun i H x=>∀ xs,SqT K H b xs→xs[i]? = some x)
abbrev ItzLL (K:PySem.W.Frag) (a b:Addr):It:=Itz (fun i H=>∃ xs x,SqL K H a xs∧xs[i]? = some x) (fun i H=>∃ xs x,SqL K H b xs∧xs[i]? = some x) (fun i H=>∃ xs,SqL K H a xs∧xs.length≤i) (fun i H=>∃ xs,SqL K H b xs∧xs.length≤i)
 (fun i H x=>∀ xs,SqL K H a xs→xs[i]? = some x) (fun i H x=>∀ xs,SqL K H b xs→xs[i]? = some x)
def iZipTT (K:PySem.W.Frag) (ta:TA):TI:=fun σ H R=>ta σ H fun vs H1=>∃ a b,vs = [.ref a,.ref b]∧(∃ xs,SqT K H1 a xs)∧(∃ xs,SqT K H1 b xs)∧R (ItzTT K a b) H1
def iZipLL (K:PySem.W.Frag) (ta:TA):TI:=fun σ H R=>ta σ H fun vs H1=>∃ a b,vs = [.ref a,.ref b]∧(∃ xs,SqL K H1 a xs)∧(∃ xs,SqL K H1 b xs)∧R (ItzLL K a b) H1
variable {a b:Expr} {ta:TA} {p pos:Pos}
theorem pi_zipTT (hg:Gl X "zip") (hm:X.mg "zip" = none) (ha:PA X [a,b] ta) (hs:starEach [a,b] X.env = [(false,eval a X.env),(false,eval b X.env)]:=by rfl) (hs2:starEach [b] X.env = [(false,eval b X.env)]:=by rfl) :
  PI X (.Tuple elts x1 tp) (.Call (.Name "zip" p) [a,b] [] pos) (iZipTT X.K ta):=by
 intro pins s σ H R I h
 refine Call_ (ld_blt I hg hm bt_zip (PyProof.Rows.callWith_type1 (thn (ha pos pins s σ H _ I h) fun us s1 ⟨vs,H1,I1,r1,q1⟩=>?_) (by rw [hs,hs2]) (by rw [hs2];rfl)))
 obtain ⟨c,d,rfl,⟨xs,hx⟩,⟨ys,hy⟩,q⟩:=q1
 obtain ⟨u,u',rfl,ru,ru'⟩:=vals2 r1
 cases ru;cases ru'
 obtain ⟨its,rv,p1,_⟩:=I1.tuple hx
 obtain ⟨its2,rv2,p2,_⟩:=I1.tuple hy
 exact zip_pi (U:=fun h=>h.IsTuple c its.toArray∧h.IsTuple d its2.toArray) I1 ⟨p1,p2⟩ (fun h o ⟨⟨oc,e,r⟩,⟨od,e',r'⟩⟩=>⟨⟨oc,Heap.get?_push_of_some _ e,r⟩,⟨od,Heap.get?_push_of_some _ e',r'⟩⟩)
  (fun prog w A Q E s hu hQ=>wpAny_pyIter_tuple hu.1 hQ) (fun prog w A Q E s hu hQ=>wpAny_pyIter_tuple hu.2 hQ) (sub_tup c _) (sub_tup d _) (fun h e=>⟨_,e,rfl,rfl⟩) (fun h e=>⟨_,e,rfl,rfl⟩) rfl rfl q
theorem pi_zipLL (hg:Gl X "zip") (hm:X.mg "zip" = none) (ha:PA X [a,b] ta) (hs:starEach [a,b] X.env = [(false,eval a X.env),(false,eval b X.env)]:=by rfl) (hs2:starEach [b] X.env = [(false,eval b X.env)]:=by rfl) :
  PI X (.Tuple elts x1 tp) (.Call (.Name "zip" p) [a,b] [] pos) (iZipLL X.K ta):=by
 intro pins s σ H R I h
 refine Call_ (ld_blt I hg hm bt_zip (PyProof.Rows.callWith_type1 (thn (ha pos pins s σ H _ I h) fun us s1 ⟨vs,H1,I1,r1,q1⟩=>?_) (by rw [hs,hs2]) (by rw [hs2];rfl)))
 obtain ⟨c,d,rfl,⟨xs,hx⟩,⟨ys,hy⟩,q⟩:=q1
 obtain ⟨u,u',rfl,ru,ru'⟩:=vals2 r1
 cases ru;cases ru'
 obtain ⟨its,rv,p1,_⟩:=I1.list hx
 obtain ⟨its2,rv2,p2,_⟩:=I1.list hy
 exact zip_pi (U:=fun h=>h.IsList c its.toArray∧h.IsList d its2.toArray) I1 ⟨p1.isList,p2.isList⟩ (fun h o ⟨⟨oc,e,r⟩,⟨od,e',r'⟩⟩=>⟨⟨oc,Heap.get?_push_of_some _ e,r⟩,⟨od,Heap.get?_push_of_some _ e',r'⟩⟩)
  (fun prog w A Q E s hu hQ=>wpAny_pyIter_list hu.1 hQ) (fun prog w A Q E s hu hQ=>wpAny_pyIter_list hu.2 hQ) (sub_lst c _) (sub_lst d _) (fun h e=>⟨_,e,rfl,rfl⟩) (fun h e=>⟨_,e,rfl,rfl⟩) rfl rfl q
end
theorem comp_zip {J:It} {n:Nat} {fx fy:Nat→V} {D:Addr} {σ:St} {k:Nat} {ix:List Nat} {g:TG} {tt:TT} {te:TE} {Q:VK} {H1:Hp} (Pv:Nat→List V→Hp→Prop)
  (hJ:∀ i ys H,Pv i ys H→(i < n→J.go i H∧∀ v H',J.yld i H v H'→∃ p,v = .ref p∧H p = none∧H' = upd H p (.tup [fx i,fy i]))∧(n≤i→J.stop i H)) (h0:Pv 0 [] (upd H1 D (.lst []))) (hD:∀ i ys H,Pv i ys H→H D = some (.lst ys))
  (hs:∀ i ys H p,i < n→Pv i ys H→H p = none→CTurn D σ k ix g tt te (.ref p) ys (upd H p (.tup [fx i,fy i])) (Pv (i + 1))) (hd:∀ ys H,Pv n ys H→Q (.ref D) H):CompOk J D σ k ix g tt te Q H1:=by
 refine ⟨fun i m ys H=>m = n - i∧i≤n∧Pv i ys H,⟨n,by simp,Nat.zero_le _,h0⟩,?_⟩
 rintro i m ys H ⟨rfl,hi,p⟩
 refine ⟨hD i ys H p,?_⟩
 obtain ⟨h1,h2⟩:=hJ i ys H p
 by_cases hlt:i < n
 ·obtain ⟨hg,hy⟩:=h1 hlt
  refine .inr ⟨hg,Pv (i + 1),fun zs H' p'=>⟨n - (i + 1),by omega,rfl,hlt,p'⟩,fun x H' y=>?_⟩
  obtain ⟨q,rfl,hq,rfl⟩:=hy x H' y
  exact hs i ys H q hlt p hq
 ·have e:i = n:=by omega
  subst e
  exact .inl ⟨h2 (Nat.le_refl _),hd ys H p⟩
theorem zipTT_steps {K:PySem.W.Frag} {a b:Addr} {xs ys:List V} {H:Hp} {i:Nat} (ha:SqT K H a xs) (hb:SqT K H b ys) (hl:xs.length = ys.length) :
  (i < xs.length→(ItzTT K a b).go i H∧∀ v H',(ItzTT K a b).yld i H v H'→∃ p,v = .ref p∧H p = none∧H' = upd H p (.tup [xs.getD i .non,ys.getD i .non]))∧(xs.length≤i→(ItzTT K a b).stop i H):=by
 refine ⟨fun hi=>⟨⟨⟨xs,xs[i],ha,by simp [hi]⟩,⟨ys,ys[i]'(by omega),hb,by simp [hl ▸ hi]⟩⟩,fun v H' ⟨p,x,y,e1,e2,e3,e4,e5⟩=>⟨p,e1,e2,?_⟩⟩,fun hi=>.inl ⟨xs,ha,hi⟩⟩
 rw [e3,List.getD_eq_getElem?_getD,List.getD_eq_getElem?_getD,e4 xs ha,e5 ys hb];rfl
theorem zipLL_steps {K:PySem.W.Frag} {a b:Addr} {xs ys:List V} {H:Hp} {i:Nat} (ha:SqL K H a xs) (hb:SqL K H b ys) (hl:xs.length = ys.length) :
  (i < xs.length→(ItzLL K a b).go i H∧∀ v H',(ItzLL K a b).yld i H v H'→∃ p,v = .ref p∧H p = none∧H' = upd H p (.tup [xs.getD i .non,ys.getD i .non]))∧(xs.length≤i→(ItzLL K a b).stop i H):=by
 refine ⟨fun hi=>⟨⟨⟨xs,xs[i],ha,by simp [hi]⟩,⟨ys,ys[i]'(by omega),hb,by simp [hl ▸ hi]⟩⟩,fun v H' ⟨p,x,y,e1,e2,e3,e4,e5⟩=>⟨p,e1,e2,?_⟩⟩,fun hi=>.inl ⟨xs,ha,hi⟩⟩
 rw [e3,List.getD_eq_getElem?_getD,List.getD_eq_getElem?_getD,e4 xs ha,e5 ys hb];rfl
theorem pg_tupK {X:Cx} {K:PySem.W.Frag} {pos:Pos} {es:List Expr} {k:Nat} {t:TGs} {n:Nat} (hc:X.calm = true) (h:PGs X es t) (hK:X.K = K:=by rfl)
  (hn:(assignEach es X.env).length = n:=by rfl) (hst:(assignEach es X.env).findIdx? (·.1) = none:=by rfl):PG X (.Tuple es k pos) (gTup K n t):=hK ▸ pg_tup hc h hn hst
end L2
namespace L2
open PySem PySem.Spec PyProof.Rows
def bigN:Nat:=2 ^ 9000
theorem big_log {n:Nat} (h:n < bigN):n.log2 < 9000:=by
 by_cases h0:n = 0
 ·subst h0;decide
 ·exact (Nat.log2_lt h0).mpr h
theorem big_bits {i:Int} (h:i.natAbs < bigN):Builtin.Int.intBits i≤2 ^ 20:=by
 have e:(2:Nat) ^ 20 = 1048576:=by decide
 have:=big_log h
 unfold Builtin.Int.intBits
 split <;> omega
section
variable {X:Cx}
theorem op_fdivB:OpR X (binaryOp .FloorDiv) (rI (fun _ j=>j≠0∧j.natAbs < bigN) fun i j=>.int (i.fdiv j)):=opI fun _ _ _ _ _ _ _ hc q=>floordiv_int hc.1 q (.inl (PyProof.noPylong_of_log2 (big_log hc.2)))
theorem op_mulB:OpR X (binaryOp .Mult) (rI (fun i j=>i.natAbs < bigN∧j.natAbs < bigN) fun i j=>.int (i * j)):=opI fun _ _ _ _ _ _ _ hc q=>mul_int q (IntMulOk.of_bits (big_bits hc.1) (big_bits hc.2))
def repS (n:Nat) (l:List Nat):List Nat:=(List.replicate n l).flatten
theorem rep_fold (l:Array Nat):∀ (n:Nat) (acc:Array Nat),((List.replicate n l).foldl (·++·) acc).toList = acc.toList++repS n l.toList
 | 0,acc=>by simp [repS]
 | n + 1,acc=>by
  rw [List.replicate_succ,List.foldl_cons,rep_fold l n]
  simp [repS,List.replicate_succ]
theorem rep_len (n:Nat) (l:List Nat):(repS n l).length = n * l.length:=by
 unfold repS
 induction n with
 | zero=>simp
 | succ n ih=>rw [List.replicate_succ,List.flatten_cons,List.length_append,ih,Nat.succ_mul];omega
theorem op_rep_str:OpR X (binaryOp .Mult) (fun x y H Q=>∃ z n,x = .str z∧y = .int n∧0≤n∧n≤1000∧z.length≤1000∧Q (.str (mkS (repS n.toNat z.cps.toList))) H):=by
 intro pins s σ H x y v u Q I rx ry h
 obtain ⟨z,n,rfl,rfl,h0,h1,hz,q⟩:=h
 obtain ⟨t,rfl⟩:=rx
 obtain ⟨t',rfl⟩:=ry
 have hl:z.length * n.toNat≤1000000:=Nat.le_trans (Nat.mul_le_mul hz (show n.toNat≤1000 by omega)) (by decide)
 have hsl:z.length * n.toNat≤sizeLine:=Nat.le_trans hl (by decide)
 refine PySem.P.mul_str (by rw [decide_eq_false (by omega),decide_eq_false (by omega)];rfl) (fun hn _=>?_) (fun _ _=>by unfold Builtin.Str.tooLong;simp;omega) ?_
 ·have:(1000:Int)≤(2 ^ 63 - 1) / n:=Int.le_ediv_of_mul_le (by omega) (by omega)
  omega
 ·by_cases hn:n < 1
  ·rw [if_pos hn]
   have e:n.toNat = 0:=by omega
   refine ⟨by decide,.str _,H,I.tok _,⟨_,rfl⟩,?_⟩
   have e2:mkS (repS n.toNat z.cps.toList) = Str.empty:=by rw [e];rfl
   rw [← e2];exact q
  ·rw [if_neg hn]
   by_cases hc:(n == 1 || z.length == 0) = true
   ·rw [if_pos hc]
    refine ⟨.str z,H,I,⟨t,rfl⟩,?_⟩
    have e2:mkS (repS n.toNat z.cps.toList) = z:=by
     rcases Bool.or_eq_true_iff.mp hc with e | e
     ·have e':n = 1:=by simpa using e
      subst e'
      simp [repS,mkS_list]
     ·have e':z.cps.toList = []:=by
       have:z.length = 0:=by simpa using e
       simp only [Str.length] at this
       simpa using this
      have:∀ k,repS k ([]:List Nat) = []:=fun k=>by simp [repS]
      rw [e',this,← e',mkS_list]
    rw [← e2];exact q
   ·rw [if_neg hc]
    have e2:(⟨(List.replicate n.toNat z.cps).foldl (·++·) #[]⟩:Str) = mkS (repS n.toNat z.cps.toList):=str_ext (by
     show ((List.replicate n.toNat z.cps).foldl (·++·) #[]).toList = _
     rw [rep_fold];simp)
    rw [e2]
    refine ⟨?_,.str _,H,I.tok _,⟨_,rfl⟩,q⟩
    rw [mkS_len,rep_len]
    have:z.cps.toList.length = z.length:=by simp [Str.length]
    rw [this,Nat.mul_comm];exact hsl
end
end L2
namespace L2
open PySem PySem.Spec PyProof.Rows
mutual
inductive DataAt (H:Hp):V→PyData→Prop
 | non:DataAt H .non .none
 | bl (b):DataAt H (.bl b) (.bool b)
 | int (i):DataAt H (.int i) (.int i)
 | str (x):DataAt H (.str x) (.str x)
 | lst {p xs ds}:H p = some (.lst xs)→DataAll H xs ds→DataAt H (.ref p) (.list ds)
 | tup {p xs ds}:H p = some (.tup xs)→DataAll H xs ds→DataAt H (.ref p) (.tuple ds)
inductive DataAll (H:Hp):List V→List PyData→Prop
 | nil:DataAll H [] []
 | cons {v vs d ds}:DataAt H v d→DataAll H vs ds→DataAll H (v :: vs) (d :: ds)
end
mutual
theorem DataAt.same {H H':Hp} (s:Same H H'):∀ {v:V} {d:PyData},DataAt H v d→DataAt H' v d
 | _,_,.non=>.non
 | _,_,.bl b=>.bl b
 | _,_,.int i=>.int i
 | _,_,.str x=>.str x
 | _,_,.lst h r=>.lst (s _ _ h) (DataAll.same s r)
 | _,_,.tup h r=>.tup (s _ _ h) (DataAll.same s r)
theorem DataAll.same {H H':Hp} (s:Same H H'):∀ {vs:List V} {ds:List PyData},DataAll H vs ds→DataAll H' vs ds
 | _,_,.nil=>.nil
 | _,_,.cons h r=>.cons (DataAt.same s h) (DataAll.same s r)
end
section
variable {X:Cx} {pins:List (Addr×Obj)} {σ:St} {H:Hp} {s:Shared}
mutual
theorem DataAt.reads (I:Inv X pins σ H s):∀ {v:V} {d:PyData} {u:Value},DataAt H v d→RelV v u→∃ as,Reads s.heap u d as
 | _,_,_,.non,r=>by cases r;exact ⟨_,.none⟩
 | _,_,_,.bl b,r=>by cases r;exact ⟨_,.bool b⟩
 | _,_,_,.int i,r=>by obtain ⟨t,rfl⟩:=r;exact ⟨_,.int i t⟩
 | _,_,_,.str x,r=>by obtain ⟨t,rfl⟩:=r;exact ⟨_,.str x t⟩
 | _,_,_,.lst h q,r=>by
  cases r
  obtain ⟨_,its,n,rv,e⟩:=(I.hok _ _ h)
  obtain ⟨as,ra⟩:=DataAll.reads I q rv
  exact ⟨_,.list e rfl rfl (by simpa using ra)⟩
 | _,_,_,.tup h q,r=>by
  cases r
  obtain ⟨_,its,rv,o,e,c,n,dd⟩:=(I.hok _ _ h)
  obtain ⟨as,ra⟩:=DataAll.reads I q rv
  exact ⟨_,.tuple e c dd (by simpa using ra)⟩
theorem DataAll.reads (I:Inv X pins σ H s):∀ {vs:List V} {ds:List PyData} {us:List Value},DataAll H vs ds→Vals vs us→∃ as,ReadsAll s.heap us ds as
 | _,_,_,.nil,r=>by cases r;exact ⟨_,.nil⟩
 | _,_,_,.cons h q,r=>by
  cases r with
  | cons r1 r2 =>
   obtain ⟨as,ra⟩:=DataAt.reads I h r1
   obtain ⟨bs,rb⟩:=DataAll.reads I q r2
   exact ⟨_,.cons ra rb⟩
end
def rEqD:R2:=fun x y H Q=>∃ dx dy,DataAt H x dx∧DataAt H y dy∧dx.canLay0 = true∧dy.canLay0 = true∧dx.depth≤8∧Q (.bl (PyData.eqv dx dy)) H
def rNeD:R2:=fun x y H Q=>∃ dx dy,DataAt H x dx∧DataAt H y dy∧dx.canLay0 = true∧dy.canLay0 = true∧dx.depth≤8∧Q (.bl (!PyData.eqv dx dy)) H
theorem op_eqD (hu:X.A.units + 64 < cLine):OpR X (compareOp .Eq) rEqD:=by
 intro pins s σ H x y v u Q I rx ry h
 obtain ⟨dx,dy,h1,h2,c1,c2,dp,q⟩:=h
 obtain ⟨as,ra⟩:=h1.reads I rx
 obtain ⟨bs,rb⟩:=h2.reads I ry
 exact SeqAt.compareEq_reads ra rb c1 c2 (by omega) ⟨.bl _,H,I,rfl,q⟩
theorem op_neD (hu:X.A.units + 64 < cLine):OpR X (compareOp .NotEq) rNeD:=by
 intro pins s σ H x y v u Q I rx ry h
 obtain ⟨dx,dy,h1,h2,c1,c2,dp,q⟩:=h
 obtain ⟨as,ra⟩:=h1.reads I rx
 obtain ⟨bs,rb⟩:=h2.reads I ry
 exact SeqAt.compareNe_reads ra rb c1 c2 (by omega) ⟨.bl _,H,I,rfl,q⟩
end
end L2
namespace L2
open PySem PySem.Spec PyProof.Rows PySem.W PySem.Builtin.ObjectAttr PySem.Builtin.Getset_descriptor
structure XC (K:PySem.W.Frag) (D:Addr):Prop where
 ga:findIn K (.ref D) "__getattribute__" = some (some (.builtin "BaseException.__getattribute__"))
 gh:findIn K (.ref D) "__getattr__" = some none
 cl:(clsIn K D).isSome = true
 ca:findIn K (.ref D) "__class__" = some (some (.builtin "object.__class__"))
 gs:specialIn K (.builtin "object.__class__") "__get__" = some (some (.builtin "getset_descriptor.__get__"))
 tk:takesIn K (.builtin "object.__class__") = some true
 ob:mroIn K D (.type "object") = some true
 be:mroIn K D (.type "BaseException") = some true
section
variable {prog:Program} {w:World} {A:Around} {E:Value→Shared→Prop} {s:Shared} {K:Frag} {x D:Addr}
end
structure Fly (B h0 h:Heap) (outer:List Env) (H':Hp) (ea:Addr) (C a0:Value):Prop where
 fl:Heap.FlyingW B outer ea C a0 h
 tr:∀ b o,H' b = some o→∃ u,B.get? b = some u
 old:∀ b o,h0.get? b = some o→b ∉ frs outer→∃ u,B.get? b = some u
section
variable {P:Program} {w:World} {K:PySem.W.Frag} {mg:Str→Option Value} {base:Heap} {N:List Str} {qual:Str} {scope:Scope} {f:Addr} {cd:Value} {A:Around} {outer:List Env} {s:Shared} {H:Hp} {E:XK}
end
end L2
namespace L2
open PySem PySem.Spec PyProof.Rows PySem.W
section
variable {X:Cx} {CX:CXT} {k:Nat} {f C:Addr} {fd:FuncData} {ps:List Str} {sp:Sp} {dvs:List V} {ds:List Value} {E:St→XK} {x m:Str} {p pos apos:Pos} {e o:Expr} {es:List Expr} {ta:TE} {t:TA}
end
section
variable {X:Cx} {pins pins':List (Addr×Obj)} {σ:St} {H:Hp} {s:Shared} {xe:Value→Shared→Prop} {ea:Addr}
end
end L2
namespace L2
open PySem PySem.Spec PyProof.Rows
section
variable {κ:Type} [DecidableEq κ]
def valV (kvs:List (κ×V)) (k:κ):Option V:=(kvs.find? fun kv=>decide (kv.1 = k)).map (·.2)
def putK (kvs:List (κ×V)) (k:κ) (v:V):List (κ×V) :=
 if (kvs.any fun kv=>decide (kv.1 = k)) = true then kvs.map (fun kv=>if kv.1 = k then (kv.1,v) else kv) else kvs++[(k,v)]
def dropK (kvs:List (κ×V)) (k:κ):List (κ×V):=kvs.filter fun kv=>decide (kv.1≠k)
theorem valV_pos {p:κ×V} {r:List (κ×V)} {k:κ} (e:p.1 = k):valV (p :: r) k = some p.2:=by simp [valV,List.find?_cons,e]
theorem valV_neg {p:κ×V} {r:List (κ×V)} {k:κ} (e:¬ p.1 = k):valV (p :: r) k = valV r k:=by simp [valV,List.find?_cons,e]
theorem valV_any (k:κ):∀ kvs:List (κ×V),(kvs.any fun kv=>decide (kv.1 = k)) = (valV kvs k).isSome
 | []=>rfl
 | p :: r=>by
  rw [List.any_cons]
  by_cases e:p.1 = k
  ·simp only [valV_pos e,decide_eq_true e,Bool.true_or,Option.isSome_some]
  ·rw [valV_neg e,decide_eq_false e,Bool.false_or];exact valV_any k r
theorem valV_map (k j:κ) (y:V):∀ kvs:List (κ×V),valV (kvs.map fun kv=>if kv.1 = k then (kv.1,y) else kv) j = (valV kvs j).map fun x=>if j = k then y else x
 | []=>rfl
 | p :: r=>by
  have ih:=valV_map k j y r
  rw [List.map_cons]
  by_cases h:p.1 = k
  ·rw [if_pos h]
   by_cases e:p.1 = j
   ·rw [valV_pos (p:=(p.1,y)) e,valV_pos e,Option.map_some,if_pos (e.symm.trans h)]
   ·rw [valV_neg (p:=(p.1,y)) e,valV_neg e,ih]
  ·rw [if_neg h]
   by_cases e:p.1 = j
   ·rw [valV_pos (p:=p) e,valV_pos e,Option.map_some,if_neg (fun z=>h (e.trans z))]
   ·rw [valV_neg (p:=p) e,valV_neg e,ih]
theorem valV_snoc (k j:κ) (y:V):∀ kvs:List (κ×V),valV kvs k = none→valV (kvs++[(k,y)]) j = if j = k then some y else valV kvs j
 | [],_=>by
  by_cases e:k = j
  ·rw [if_pos e.symm];exact valV_pos (p:=(k,y)) e
  ·rw [if_neg (fun z=>e z.symm)];exact valV_neg (p:=(k,y)) e
 | p :: r,hn=>by
  rw [List.cons_append]
  have hk:¬ p.1 = k:=fun z=>by rw [valV_pos z] at hn;cases hn
  rw [valV_neg hk] at hn
  have ih:=valV_snoc k j y r hn
  by_cases e:p.1 = j
  ·rw [valV_pos e,valV_pos e,if_neg (fun z=>hk (e.trans z))]
  ·rw [valV_neg e,valV_neg e,ih]
theorem valV_put (kvs:List (κ×V)) (k j:κ) (y:V):valV (putK kvs k y) j = if j = k then some y else valV kvs j:=by
 unfold putK
 by_cases a:(kvs.any fun kv=>decide (kv.1 = k)) = true
 ·rw [if_pos a,valV_map]
  rw [valV_any] at a
  by_cases e:j = k
  ·obtain ⟨x,hx⟩:=Option.isSome_iff_exists.mp a
   rw [if_pos e,e,hx,Option.map_some,if_pos rfl]
  ·rw [if_neg e]
   cases valV kvs j with
   | none=>rfl
   | some x=>rw [Option.map_some,if_neg e]
 ·rw [if_neg a]
  refine valV_snoc k j y kvs ?_
  rw [valV_any] at a
  cases q:valV kvs k with
  | none=>rfl
  | some x=>rw [q] at a;exact (a rfl).elim
theorem length_putK (kvs:List (κ×V)) (k:κ) (v:V):(putK kvs k v).length≤kvs.length + 1:=by
 unfold putK
 split
 ·rw [List.length_map];omega
 ·rw [List.length_append,List.length_cons,List.length_nil];omega
theorem putK_new {kvs:List (κ×V)} {k:κ} (v:V) (h:valV kvs k = none):putK kvs k v = kvs++[(k,v)]:=by
 unfold putK
 rw [valV_any,h]
 exact if_neg (by decide)
theorem RelO.isSome_eq {o:Option V} {u:Option Value} (r:RelO o u):o.isSome = u.isSome:=by
 cases o with
 | none=>cases u with
  | none=>rfl
  | some _=>exact (show False from r).elim
 | some _=>cases u with
  | none=>exact (show False from r).elim
  | some _=>rfl
theorem RelO.getD {o:Option V} {u:Option Value} {d:V} {d':Value} (r:RelO o u) (rd:RelV d d'):RelV (o.getD d) (u.getD d'):=by
 cases o with
 | none=>cases u with
  | none=>exact rd
  | some _=>exact (show False from r).elim
 | some _=>cases u with
  | none=>exact (show False from r).elim
  | some _=>exact r
theorem KV.val {kvs:List (κ×V)} {vs:List (κ×Value)} (r:KV kvs vs) (k:κ):RelO (valV kvs k) (valueAt vs k):=by
 unfold KV at r
 induction r with
 | nil=>exact True.intro
 | @cons p q ps qs h t ih =>
  obtain ⟨h1,h2⟩:=h
  by_cases e:p.1 = k
  ·have e':q.1 = k:=h1.symm.trans e
   have b:valueAt (q :: qs) k = some q.2:=by simp [valueAt,List.find?_cons,e']
   rw [valV_pos e,b];exact h2
  ·have e':¬ q.1 = k:=fun z=>e (h1.trans z)
   have b:valueAt (q :: qs) k = valueAt qs k:=by simp [valueAt,List.find?_cons,e']
   rw [valV_neg e,b];exact ih
theorem KV.any {kvs:List (κ×V)} {vs:List (κ×Value)} (r:KV kvs vs) (k:κ):(kvs.any fun kv=>decide (kv.1 = k)) = vs.any fun kv=>decide (kv.1 = k):=by
 unfold KV at r
 induction r with
 | nil=>rfl
 | cons h t ih=>rw [List.any_cons,List.any_cons,ih,h.1]
theorem KV.repl {kvs:List (κ×V)} {vs:List (κ×Value)} (r:KV kvs vs) (k:κ) {y:V} {u:Value} (ry:RelV y u) :
  KV (kvs.map fun kv=>if kv.1 = k then (kv.1,y) else kv) (vs.map fun kv=>if kv.1 = k then (kv.1,u) else kv):=by
 unfold KV at r ⊢
 induction r with
 | nil=>exact .nil
 | @cons p q ps qs h t ih =>
  rw [List.map_cons,List.map_cons]
  refine .cons ?_ ih
  obtain ⟨h1,h2⟩:=h
  by_cases e:p.1 = k
  ·rw [if_pos e,if_pos (h1.symm.trans e)];exact ⟨h1,ry⟩
  ·rw [if_neg e,if_neg (fun z=>e (h1.trans z))];exact ⟨h1,h2⟩
theorem KV.put {kvs:List (κ×V)} {vs:List (κ×Value)} (r:KV kvs vs) (k:κ) {y:V} {u:Value} (ry:RelV y u):KV (putK kvs k y) (stored vs k u):=by
 unfold putK stored
 rw [r.any k]
 by_cases e:(vs.any fun kv=>decide (kv.1 = k)) = true
 ·rw [if_pos e,if_pos e];exact r.repl k ry
 ·rw [if_neg e,if_neg e];exact Paired.snoc r ⟨rfl,ry⟩
theorem KV.drop {kvs:List (κ×V)} {vs:List (κ×Value)} (r:KV kvs vs) (k:κ):KV (dropK kvs k) (without vs k):=by
 unfold KV at r ⊢
 unfold dropK without
 induction r with
 | nil=>exact .nil
 | @cons p q ps qs h t ih =>
  obtain ⟨h1,h2⟩:=h
  rw [List.filter_cons,List.filter_cons]
  by_cases e:p.1 = k
  ·have a:¬ decide (p.1≠k) = true:=by simp [e]
   have b:¬ decide (q.1≠k) = true:=by simp [h1.symm.trans e]
   rw [if_neg a,if_neg b];exact ih
  ·have e':¬ q.1 = k:=fun z=>e (h1.trans z)
   have a:decide (p.1≠k) = true:=by simp [e]
   have b:decide (q.1≠k) = true:=by simp [e']
   rw [if_pos a,if_pos b];exact .cons ⟨h1,h2⟩ ih
theorem KV.length {kvs:List (κ×V)} {vs:List (κ×Value)} (r:KV kvs vs):kvs.length = vs.length:=Paired.length r
theorem dropK_le (kvs:List (κ×V)) (k:κ):(dropK kvs k).length≤kvs.length:=List.length_filter_le _ _
end
theorem kV_is {P:Program} {w:World} {k:Key} {u:Value} (r:RelV (kV k) u):(mixKind P w).is k u = true:=by
 cases k with
 | inl i=>obtain ⟨t,e⟩:=(show ∃ t,u = Value.int i t from r);subst e;exact mixKind_int P w i t
 | inr x=>obtain ⟨t,e⟩:=(show ∃ t,u = Value.str x t from r);subst e;exact mixKind_str P w x t
theorem items_are {P:Program} {w:World}:∀ {ks:List Key} {us:List Value},Vals (ks.map kV) us→ItemsAre (mixKind P w) ks us
 | [],_,r=>by rw [List.map_nil] at r;cases r;exact .nil
 | k :: ks,_,r=>by
  rw [List.map_cons] at r
  cases r with
  | cons h t=>exact .cons (kV_is h) (items_are t)
abbrev KT (H:Hp):List (List Key×V)→List (List Key×Addr×Value)→Prop:=Paired fun p q=>p.1 = q.1∧H q.2.1 = some (.tup (p.1.map kV))∧RelV p.2 q.2.2
theorem KT.val {H:Hp} {kvs:List (List Key×V)} {xs:List (List Key×Addr×Value)} (r:KT H kvs xs) (k:List Key):RelO (valV kvs k) ((atKey xs k).map (·.2)):=by
 induction r with
 | nil=>exact True.intro
 | @cons p q ps qs h t ih =>
  obtain ⟨h1,_,h2⟩:=h
  by_cases e:p.1 = k
  ·have e':q.1 = k:=h1.symm.trans e
   have b:atKey (q :: qs) k = some q.2:=by simp [atKey,List.find?_cons,e']
   rw [valV_pos e,b];exact h2
  ·have e':¬ q.1 = k:=fun z=>e (h1.trans z)
   have b:atKey (q :: qs) k = atKey qs k:=by simp [atKey,List.find?_cons,e']
   rw [valV_neg e,b];exact ih
theorem KT.repl {H:Hp} {kvs:List (List Key×V)} {xs:List (List Key×Addr×Value)} (r:KT H kvs xs) (k:List Key) {y:V} {u:Value} (ry:RelV y u) :
  KT H (kvs.map fun kv=>if kv.1 = k then (kv.1,y) else kv) (xs.map (putAt k u)):=by
 induction r with
 | nil=>exact .nil
 | @cons p q ps qs h t ih =>
  rw [List.map_cons,List.map_cons]
  refine .cons ?_ ih
  obtain ⟨h1,h2,h3⟩:=h
  unfold putAt
  by_cases e:p.1 = k
  ·rw [if_pos e,if_pos (h1.symm.trans e)];exact ⟨h1,h2,ry⟩
  ·rw [if_neg e,if_neg (fun z=>e (h1.trans z))];exact ⟨h1,h2,h3⟩
theorem KT.put {H:Hp} {kvs:List (List Key×V)} {xs:List (List Key×Addr×Value)} (r:KT H kvs xs) (k:List Key) {b:Addr} {y:V} {u:Value} (hb:H b = some (.tup (k.map kV))) (ry:RelV y u) :
  KT H (putK kvs k y) (storedH xs k b u):=by
 have e:(kvs.any fun kv=>decide (kv.1 = k)) = (atKey xs k).isSome:=by
  rw [valV_any,(r.val k).isSome_eq,Option.isSome_map]
 unfold putK storedH
 rw [e]
 by_cases q:(atKey xs k).isSome = true
 ·rw [if_pos q,if_pos q];exact r.repl k ry
 ·rw [if_neg q,if_neg q];exact Paired.snoc r ⟨rfl,hb,ry⟩
theorem KT.keeps {H H':Hp} {kvs:List (List Key×V)} {xs:List (List Key×Addr×Value)} (r:KT H kvs xs) (ht:∀ b ys,H b = some (.tup ys)→H' b = some (.tup ys)):KT H' kvs xs :=
 Paired.mapP r fun _ _ z=>⟨z.1,ht _ _ z.2.1,z.2.2⟩
section
variable {P:Program} {w:World} {H:Hp} {h:Heap} {a:Addr}
theorem rd_of {u:HO} (ok:HOk P w H h) (e:Rd H a u):ObjOk P w H h a u:=e.ok ok
theorem dk_rd {kvs:List (Key×V)} (ok:HOk P w H h) (e:Rd H a (.dK kvs)):kvs.length≤sizeLine∧(a == sysModules) = false∧∃ vs,KV kvs vs∧h.DictOf (mixKind P w) a vs :=
 show ObjOk P w H h a (.dK kvs) from rd_of ok e
theorem dk_of {kvs:List (Key×V)} (ok:HOk P w H h) (e:H a = some (.dK kvs)):kvs.length≤sizeLine∧(a == sysModules) = false∧∃ vs,KV kvs vs∧h.DictOf (mixKind P w) a vs:=dk_rd ok (.inl e)
theorem key_of {ks:List Key} (ok:HOk P w H h) (e:H a = some (.tup (ks.map kV))):(tupleKind (mixKind P w)).is h ks a:=by
 obtain ⟨_,its,r,o,h1,h2,n,h3⟩:=(show ObjOk P w H h a (.tup (ks.map kV)) from ok a _ e)
 exact ⟨o,its.toArray,n,h1,h2,h3,by simpa using items_are r⟩
theorem dt_rd {kvs:List (List Key×V)} (ok:HOk P w H h) (e:Rd H a (.dT kvs)):kvs.length≤sizeLine∧(a == sysModules) = false ∧
  ∃ xs,KT H kvs xs∧h.DictOfH (tupleKind (mixKind P w)) a xs:=by
 obtain ⟨z,y,xs,r,o,es,ep,h1,h2,h3,h4,h5⟩:=(show ObjOk P w H h a (.dT kvs) from rd_of ok e)
 refine ⟨z,y,xs,r,o,es,ep,h1,h2,h3,h4,fun x hx=>?_,h5⟩
 have all:∀ {l:List (List Key×V)} {m:List (List Key×Addr×Value)},KT H l m→∀ x∈m,(tupleKind (mixKind P w)).is h x.1 x.2.1:=by
  intro l m q
  induction q with
  | nil=>intro x hx;exact nomatch hx
  | @cons p q ps qs hq t ih =>
   intro x hx
   rcases List.mem_cons.mp hx with e | hx
   ·subst e
    exact key_of ok (by rw [← hq.1];exact hq.2.1)
   ·exact ih x hx
 exact all r x hx
theorem dt_of {kvs:List (List Key×V)} (ok:HOk P w H h) (e:H a = some (.dT kvs)):kvs.length≤sizeLine∧(a == sysModules) = false ∧
  ∃ xs,KT H kvs xs∧h.DictOfH (tupleKind (mixKind P w)) a xs:=dt_rd ok (.inl e)
end
def DGet (H:Hp) (a:Addr) (y:V) (r:Option V):Prop :=
 (∃ kvs k,Rd H a (.dK kvs)∧y = kV k∧r = valV kvs k)∨∃ kvs k b,Rd H a (.dT kvs)∧y = .ref b∧H b = some (.tup (k.map kV))∧r = valV kvs k
def DPut (H:Hp) (a:Addr) (y v:V) (H':Hp):Prop :=
 (∃ kvs k,H a = some (.dK kvs)∧y = kV k∧kvs.length < sizeLine∧H' = upd H a (.dK (putK kvs k v))) ∨
 ∃ kvs k b,H a = some (.dT kvs)∧y = .ref b∧H b = some (.tup (k.map kV))∧kvs.length < sizeLine∧H' = upd H a (.dT (putK kvs k v))
theorem DGet.k {H:Hp} {a:Addr} {kvs:List (Key×V)} {k:Key} (e:H a = some (.dK kvs)):DGet H a (kV k) (valV kvs k):=.inl ⟨kvs,k,.inl e,rfl,rfl⟩
theorem DPut.k {H:Hp} {a:Addr} {kvs:List (Key×V)} {k:Key} {v:V} (e:H a = some (.dK kvs)) (hl:kvs.length < sizeLine):DPut H a (kV k) v (upd H a (.dK (putK kvs k v))):=.inl ⟨kvs,k,e,rfl,hl,rfl⟩
section
variable {X:Cx} {pins:List (Addr×Obj)} {σ:St} {H:Hp} {s:Shared} {a:Addr} {y v:V} {u r:Value} {o:Option V} {A:Around} {E:Value→Shared→Prop}
theorem Inv.big (I:Inv X pins σ H s):sysModules < s.heap.objs.size:=by
 have h:mainGlobals < s.heap.objs.size:=(I.mod.glob.keeps I.bk).lt
 exact Nat.lt_trans (by decide) h
theorem d_getItem {Q:Value→Shared→Prop} (hu:A.units + 1 < cLine) (I:Inv X pins σ H s) (g:DGet H a y (some v)) (ry:RelV y u) (h:∀ w' s',Inv X pins σ H s'→RelV v w'→Q w' s') :
  wpAny (model X.prog X.w) A (getItem (.ref a) u) Q E s:=by
 rcases g with ⟨kvs,k,e,ey,l⟩ | ⟨kvs,k,b,e,ey,eb,l⟩
 ·subst ey
  obtain ⟨z,hd,vs,rel,dd⟩:=dk_rd I.hok e
  obtain ⟨w',hw,rw'⟩:=RelO.some_of (v:=v) (o:=valueAt vs k) (by rw [l];exact rel.val k)
  exact wpAny_getItem_of (kV_is ry) dd.mapOf hw (h w' _ (I.tok _) rw')
 ·subst ey
  cases (show u = Value.ref b from ry)
  obtain ⟨z,hd,xs,rel,dd⟩:=dt_rd I.hok e
  obtain ⟨w',hw,rw'⟩:=RelO.some_of (v:=v) (o:=(atKey xs k).map (·.2)) (by rw [l];exact rel.val k)
  obtain ⟨p,hp,hp2⟩:=Option.map_eq_some_iff.mp hw
  refine wpAny_getItem_heap (tupleKind_room_in1 hu) (key_of I.hok eb) dd hp ?_
  rw [hp2]
  exact h w' _ (I.tok _) rw'
theorem d_in {Q:Value→Shared→Prop} (hu:A.units + 1 < cLine) (I:Inv X pins σ H s) (g:DGet H a y o) (ry:RelV y u) (h:∀ s',Inv X pins σ H s'→Q (.bool o.isSome) s') :
  wpAny (model X.prog X.w) A (compareOp .In u (.ref a)) Q E s:=by
 rcases g with ⟨kvs,k,e,ey,l⟩ | ⟨kvs,k,b,e,ey,eb,l⟩
 ·subst ey
  obtain ⟨z,hd,vs,rel,dd⟩:=dk_rd I.hok e
  refine wpAny_in_of (kV_is ry) hd dd.mapOf ?_
  rw [← (rel.val k).isSome_eq,← l]
  exact h _ (I.tok _)
 ·subst ey
  cases (show u = Value.ref b from ry)
  obtain ⟨z,hd,xs,rel,dd⟩:=dt_rd I.hok e
  refine wpAny_in_heap (tupleKind_room_in1 hu) (key_of I.hok eb) hd dd ?_
  have q:=(rel.val k).isSome_eq
  rw [Option.isSome_map] at q
  rw [← q,← l]
  exact h _ (I.tok _)
theorem d_notIn {Q:Value→Shared→Prop} (hu:A.units + 1 < cLine) (I:Inv X pins σ H s) (g:DGet H a y o) (ry:RelV y u) (h:∀ s',Inv X pins σ H s'→Q (.bool (!o.isSome)) s') :
  wpAny (model X.prog X.w) A (compareOp .NotIn u (.ref a)) Q E s:=by
 rcases g with ⟨kvs,k,e,ey,l⟩ | ⟨kvs,k,b,e,ey,eb,l⟩
 ·subst ey
  obtain ⟨z,hd,vs,rel,dd⟩:=dk_rd I.hok e
  refine wpAny_notIn_of (kV_is ry) hd dd.mapOf ?_
  rw [← (rel.val k).isSome_eq,← l]
  exact h _ (I.tok _)
 ·subst ey
  cases (show u = Value.ref b from ry)
  obtain ⟨z,hd,xs,rel,dd⟩:=dt_rd I.hok e
  refine wpAny_notIn_heap (tupleKind_room_in1 hu) (key_of I.hok eb) hd dd ?_
  have q:=(rel.val k).isSome_eq
  rw [Option.isSome_map] at q
  rw [← q,← l]
  exact h _ (I.tok _)
theorem d_write {h':Heap} {t':Nat} {ob:HO} (I:Inv X pins σ H s) (mu:Mut (H a)) (hs:Heap.SameBut a s.heap h') (he:∃ q,h'.get? a = some q) (new:ObjOk X.prog X.w (upd H a ob) h' a ob) :
  Inv X pins σ (upd H a ob) { s with heap:=h',toks:=t' } :=
 I.write (x:=a) (e:=a) mu (.inl rfl) (fun b q hb z=>(hs.2 b hb).trans z) he new
theorem dk_new {P:Program} {w:World} {H':Hp} {h':Heap} {kvs:List (Key×V)} {vs:List (Key×Value)} (z:kvs.length≤sizeLine) (hd:(a == sysModules) = false) (rel:KV kvs vs) (dd:h'.DictOf (mixKind P w) a vs) :
  ObjOk P w H' h' a (.dK kvs):=⟨z,hd,vs,rel,dd⟩
theorem d_setItem {H':Hp} {Q:Unit→Shared→Prop} (hu:A.units + 1 < cLine) (I:Inv X pins σ H s) (g:DPut H a y v H') (ry:RelV y u) (rv:RelV v r) (h:∀ s',Inv X pins σ H' s'→Q () s') :
  wpAny (model X.prog X.w) A (setItem (.ref a) u r) Q E s:=by
 rcases g with ⟨kvs,k,e,ey,l,eH⟩ | ⟨kvs,k,b,e,ey,eb,l,eH⟩
 ·subst ey eH
  obtain ⟨z,hd,vs,rel,dd⟩:=dk_of I.hok e
  have hz:vs.length≤sizeLine:=by rw [← rel.length];exact z
  have hl:(putK kvs k v).length≤sizeLine:=by have:=length_putK kvs k v;omega
  refine wpAny_setItem_pairs (hsz:=hz) (kV_is ry) dd fun h' dd' hs=>h _ ?_
  have he:∃ q,h'.get? a = some q:=let ⟨q,_,_,hq,_⟩:=dd';⟨q,hq⟩
  exact d_write I (by rw [e];exact True.intro) hs he (dk_new hl hd (rel.put k rv) dd')
 ·subst ey eH
  cases (show u = Value.ref b from ry)
  obtain ⟨z,hd,xs,rel,dd⟩:=dt_of I.hok e
  have hz:xs.length≤sizeLine:=by rw [← Paired.length rel];exact z
  have hl:(putK kvs k v).length≤sizeLine:=by have:=length_putK kvs k v;omega
  refine wpAny_setItem_heap (hsz:=hz) (tupleKind_room_in1 hu) (key_of I.hok eb) dd fun h' dd' hs=>h _ ?_
  obtain ⟨q,es,ep,hq,h2,h3,h4,_,h5⟩:=dd'
  refine d_write I (by rw [e];exact True.intro) hs ⟨q,hq⟩ ⟨hl,hd,_,(rel.put k eb rv).keeps fun c ys ec=>?_,q,es,ep,hq,h2,h3,h4,h5⟩
  rw [upd_ne (ne_of ec e (fun z=>nomatch z))]
  exact ec
end
section
variable {X:Cx} {pins:List (Addr×Obj)} {σ:St} {H:Hp} {s:Shared} {a:Addr} {kvs:List (Key×V)} {k:Key} {u:Value} {A:Around} {E:Value→Shared→Prop}
theorem d_delItem {Q:Unit→Shared→Prop} (I:Inv X pins σ H s) (e:H a = some (.dK kvs)) (ry:RelV (kV k) u) (l:(valV kvs k).isSome = true) (h:∀ s',Inv X pins σ (upd H a (.dK (dropK kvs k))) s'→Q () s') :
  wpAny (model X.prog X.w) A (delItem (.ref a) u) Q E s:=by
 obtain ⟨z,hd,vs,rel,dd⟩:=dk_of I.hok e
 refine wpAny_delItem_slot dd.typeIs (by decide) PySem.F.slot_dict_delitem
  (call_meetsIn PySem.F.slot_dict_delitem dd.typeIs PySem.F.entry_dict_delitem (PySem.F.args_dict_delitem_2 _ _) (meets_dict_delitem_pairs (mixKind X.prog X.w) a (kV_is ry)) ⟨vs,dd,by rw [← rel.length];exact z,by rw [← (rel.val k).isSome_eq];exact l,fun h' dd' hs=>h _ ?_⟩)
 have he:∃ q,h'.get? a = some q:=let ⟨q,_,_,hq,_⟩:=dd';⟨q,hq⟩
 exact d_write I (by rw [e];exact True.intro) hs he (dk_new (Nat.le_trans (dropK_le kvs k) z) hd (rel.drop k) dd')
theorem d_pop {v:V} {more:List Value} {Q:Value→Shared→Prop} (I:Inv X pins σ H s) (e:H a = some (.dK kvs)) (ry:RelV (kV k) u) (l:valV kvs k = some v) (hm:more = []∨∃ x,more = [x])
  (h:∀ w' s',Inv X pins σ (upd H a (.dK (dropK kvs k))) s'→RelV v w'→Q w' s'):wpAny (model X.prog X.w) A (call (.builtin "dict.pop") (.ref a :: u :: more)) Q E s:=by
 obtain ⟨z,hd,vs,rel,dd⟩:=dk_of I.hok e
 obtain ⟨w',hw,rw'⟩:=RelO.some_of (v:=v) (o:=valueAt vs k) (by rw [← l];exact rel.val k)
 have hp:(keyPart u).isSome = true:=by
  cases k with
  | inl i=>obtain ⟨t,q⟩:=(show ∃ t,u = Value.int i t from ry);subst q;rfl
  | inr x=>obtain ⟨t,q⟩:=(show ∃ t,u = Value.str x t from ry);subst q;rfl
 have ha:argsOk "dict.pop" ⟨.ref a :: u :: more,[]⟩:=by
  rcases hm with q | ⟨x,q⟩
  ·subst q;exact PySem.F.args_dict_pop_2 _ _
  ·subst q;exact PySem.F.args_dict_pop_3 _ _ _
 refine call_meetsIn PySem.F.slot_dict_pop dd.typeIs PySem.F.entry_dict_pop ha (meets_dict_pop_there (mixKind X.prog X.w) a (kV_is ry) more hm hp)
  ⟨vs,w',dd,by rw [← rel.length];exact z,hw,fun h' dd' hs=>h w' _ ?_ rw'⟩
 have he:∃ q,h'.get? a = some q:=let ⟨q,_,_,hq,_⟩:=dd';⟨q,hq⟩
 exact d_write I (by rw [e];exact True.intro) hs he (dk_new (Nat.le_trans (dropK_le kvs k) z) hd (rel.drop k) dd')
end
def NoSl (i:Expr):Prop:=∀ ov iv,subscripted i false ov iv = operate [ov,iv] (getItem ov iv)
theorem subD_of {prog:Program} {w:World} {A:Around} {E:Value→Shared→Prop} {s:Shared} {env:Env} {value slice:Expr} {pos:Pos} {T id:String} {Q:Value→Shared→Prop}
  (hl:typeLookup (.type T) "__getitem__" = pure (some (.builtin id))) (hs:NoSl slice)
  (h:wpAny (model prog w) A (eval value env) (fun o s₁=>wpAny (model prog w) A (eval slice env) (fun i s₂=>s₂.TypeIs o T∧wpAny (model prog w) A (getItem o i) Q E s₂) E s₁) E s) :
  wpAny (model prog w) A (eval (.Subscript value slice pos) env) Q E s:=by
 refine Subscript_ (wpAny_mono h (fun o s₁ h₁=>wpAny_mono h₁ (fun i s₂ h₂=>?_) fun _ _ x=>x) fun _ _ x=>x)
 obtain ⟨hT,h₂⟩:=h₂
 unfold subscriptTail
 refine wpAny_bind ?_
 rw [getitemInPython_of_ne hT.not_modules]
 refine wpAny_bind (wpAny_specialOf hT hl ?_)
 have fin:wpAny (model prog w) A (subscripted slice false o i) (fun r s₃=>wpAny (model prog w) A (letTemporaryGo value o r >>= fun _=>pure r) Q E s₃) E s₂:=by
  rw [hs o i]
  exact wpAny_operating (wpAny_mono h₂ (fun r s₃ h₃=>wpAny_bind (wpAny_letTemporaryGo (wpAny_pure h₃))) fun _ _ x=>x)
 first
  | exact wpAny_pure (wpAny_bind fin)
  | exact wpAny_bind (wpAny_pure (wpAny_bind fin))
  | exact wpAny_bind fin
theorem dict_typeIs {X:Cx} {pins:List (Addr×Obj)} {σ:St} {H:Hp} {s:Shared} {a:Addr} {y:V} {o:Option V} (I:Inv X pins σ H s) (g:DGet H a y o):s.TypeIs (.ref a) "dict":=by
 rcases g with ⟨kvs,k,e,_,_⟩ | ⟨kvs,k,b,e,_,_,_⟩
 ·obtain ⟨_,_,vs,_,dd⟩:=dk_rd I.hok e
  exact dd.typeIs
 ·obtain ⟨_,_,xs,_,dd⟩:=dt_rd I.hok e
  exact dd.typeIs
def tDGet (td ty:TE):TE:=fun σ H Q=>td σ H fun x H1=>ty σ H1 fun y H2=>∃ a v,x = .ref a∧DGet H2 a y (some v)∧Q v H2
def tDIn (ty td:TE):TE:=fun σ H Q=>ty σ H fun y H1=>td σ H1 fun x H2=>∃ a o,x = .ref a∧DGet H2 a y o∧Q (.bl o.isSome) H2
def tDNotIn (ty td:TE):TE:=fun σ H Q=>ty σ H fun y H1=>td σ H1 fun x H2=>∃ a o,x = .ref a∧DGet H2 a y o∧Q (.bl (!o.isSome)) H2
def sDPut (td ty tv:TE):TS:=fun D σ H=>tv σ H fun v H1=>td σ H1 fun x H2=>ty σ H2 fun y H3=>∃ a H4,x = .ref a∧DPut H3 a y v H4∧D.nx σ H4
def sDAug (td ty tv:TE) (rd:V→V→Hp→VK→Prop):TS:=fun D σ H=>td σ H fun x H1=>ty σ H1 fun y H2=>∃ a v,x = .ref a∧DGet H2 a y (some v) ∧
 tv σ H2 fun y2 H3=>rd v y2 H3 fun z H4=>∃ H5,DPut H4 a y z H5∧D.nx σ H5
def sDDel (td ty:TE):TS:=fun D σ H=>td σ H fun x H1=>ty σ H1 fun y H2=>∃ a kvs k,x = .ref a∧H2 a = some (.dK kvs)∧y = kV k∧(valV kvs k).isSome = true∧D.nx σ (upd H2 a (.dK (dropK kvs k)))
section
variable {X:Cx} {o i e value:Expr} {pos pos' tpos:Pos} {td ty tv:TE}
theorem pe_dget (hu:X.A.units + 1 < cLine) (ho:PE X o td) (hi:PE X i ty) (hs:NoSl i):PE X (.Subscript o i pos) (tDGet td ty):=by
 intro pins s σ H Q I h
 refine subD_of PySem.F.slot_dict_getitem.lookup hs (thn (ho pins s σ H _ I h) fun u s1 ⟨x,H1,I1,rx,q1⟩=>thn (hi pins s1 σ H1 _ I1 q1) fun iv s2 ⟨y,H2,I2,ry,a,v,ex,g,q2⟩=>?_)
 subst ex
 obtain rfl:u = Value.ref a:=rx
 exact ⟨dict_typeIs I2 g,d_getItem hu I2 g ry fun w' s3 I3 rw'=>⟨v,H2,I3,rw',q2⟩⟩
theorem pc_din (hu:X.A.units + 1 < cLine) (hi:PE X i ty) (ho:PE X o td):PC X .In i o (tDIn ty td):=by
 intro pins s σ H Q I h
 refine thn (hi pins s σ H _ I h) fun iv s1 ⟨y,H1,I1,ry,q1⟩=>thn (ho pins s1 σ H1 _ I1 q1) fun u s2 ⟨x,H2,I2,rx,a,ov,ex,g,q2⟩=>?_
 subst ex
 obtain rfl:u = Value.ref a:=rx
 exact d_in hu I2 g ry fun s3 I3=>⟨.bl ov.isSome,H2,I3,rfl,q2⟩
theorem pc_dnotin (hu:X.A.units + 1 < cLine) (hi:PE X i ty) (ho:PE X o td):PC X .NotIn i o (tDNotIn ty td):=by
 intro pins s σ H Q I h
 refine thn (hi pins s σ H _ I h) fun iv s1 ⟨y,H1,I1,ry,q1⟩=>thn (ho pins s1 σ H1 _ I1 q1) fun u s2 ⟨x,H2,I2,rx,a,ov,ex,g,q2⟩=>?_
 subst ex
 obtain rfl:u = Value.ref a:=rx
 exact d_notIn hu I2 g ry fun s3 I3=>⟨.bl (!ov.isSome),H2,I3,rfl,q2⟩
theorem ps_dput (hu:X.A.units + 1 < cLine) (ho:PE X o td) (hi:PE X i ty) (hv:PE X value tv) (hs:swapsWith value (some (.Subscript o i pos')) pos.line X.env = pure false) :
  PS X (.Assign [.Subscript o i pos'] value pos) (sDPut td ty tv):=by
 intro pins s σ H D I h
 refine wpAny_Assign_Subscript (thn (hv pins s σ H _ I h) fun r s1 ⟨v,H1,I1,rv,q1⟩=>thn (ho pins s1 σ H1 _ I1 q1) fun u s2 ⟨x,H2,I2,rx,q2⟩=>thn (hi pins s2 σ H2 _ I2 q2) fun iv s3 ⟨y,H3,I3,ry,a,H4,ex,g,q3⟩=>?_) hs
 subst ex
 obtain rfl:u = Value.ref a:=rx
 exact d_setItem hu I3 g ry rv fun s4 I4=>⟨σ,H4,I4,q3⟩
theorem ps_daug {op:Operator} {rd:V→V→Hp→VK→Prop} (hu:X.A.units + 1 < cLine) (ho:PE X o td) (hi:PE X i ty) (hv:PE X value tv) (hop:InOp X op rd)
  (ha:∀ ov iv new,augStore i ov iv new = (do holding [new,ov,iv] (setItem ov iv new);release [new,ov,iv] [];pure .next)):PS X (.AugAssign (.Subscript o i tpos) op value pos) (sDAug td ty tv rd):=by
 intro pins s σ H D I h
 refine wpAny_AugAssign_SubscriptAny (thn (ho pins s σ H _ I h) fun u s1 ⟨x,H1,I1,rx,q1⟩=>thn (hi pins s1 σ H1 _ I1 q1) fun iv s2 ⟨y,H2,I2,ry,a,v,ex,g,q2⟩=>?_) ha
 subst ex
 obtain rfl:u = Value.ref a:=rx
 refine d_getItem hu I2 g ry fun w' s3 I3 rw'=>thn (hv pins s3 σ H2 _ I3 q2) fun w2 s4 ⟨y2,H3,I4,ry2,q3⟩=>thn (hop pins s4 σ H3 v y2 w' w2 _ I4 rw' ry2 q3) fun w3 s5 ⟨z,H4,I5,rz,H5,g5,q4⟩=>?_
 exact d_setItem hu I5 g5 ry rz fun s6 I6=>⟨σ,H5,I6,q4⟩
theorem ps_ddel (ho:PE X o td) (hi:PE X i ty):PS X (.Delete [.Subscript o i tpos] pos) (sDDel td ty):=by
 intro pins s σ H D I h
 refine wpAny_Delete (wpAny_deleteEach_cons (wpAny_delete_Subscript (thn (ho pins s σ H _ I h) fun u s1 ⟨x,H1,I1,rx,q1⟩=>thn (hi pins s1 σ H1 _ I1 q1) fun iv s2 ⟨y,H2,I2,ry,a,kvs,k,ex,e,ey,l,q2⟩=>?_)))
 subst ex ey
 obtain rfl:u = Value.ref a:=rx
 exact d_delItem I2 e ry l fun s3 I3=>wpAny_deleteEach_nil ⟨σ,_,I3,q2⟩
end
theorem dk_empty {P:Program} {w:World} {H:Hp} (h:Heap) (hb:sysModules < h.objs.size):ObjOk P w H (h.push { cls:=.type "dict",data:=.dict #[] }) h.objs.size (.dK []) :=
 ⟨Nat.zero_le _,beq_eq_false_iff_ne.mpr (Ne.symm (Nat.ne_of_lt hb)),[],.nil,Heap.DictOf.new h⟩
def tDNewK:TE:=fun _ H Q=>∀ p,H p = none→Q (.ref p) (upd H p (.dK []))
section
variable {X:Cx} {pos:Pos}
theorem pe_dnewK:PE X (.Dict [] [] pos) tDNewK:=fun pins s σ H Q I h =>
 wpAny_Dict_empty ⟨.ref s.heap.objs.size,_,I.laid (a:=s.heap.objs.size) (o:=.dK []) (t':=s.toks) (fun _ _ q=>Heap.get?_push_of_some _ q) (Nat.le_refl _) (dk_empty s.heap I.big),rfl,h _ (I.hok.fresh (Nat.le_refl _))⟩
end
def tPairs:List (TE×TE)→St→Hp→(List (V×V)→Hp→Prop)→Prop
 | [],_,H,Q=>Q [] H
 | (tk,tv) :: r,σ,H,Q=>tk σ H fun x H1=>tv σ H1 fun y H2=>tPairs r σ H2 fun ps H3=>Q ((x,y) :: ps) H3
abbrev VV:List (V×V)→List (Value×Value)→Prop:=Paired fun p q=>RelV p.1 q.1∧RelV p.2 q.2
def PPs (X:Cx) (pos:Pos) (keys:List (Option Expr)) (values:List Expr) (trs:List (TE×TE)):Prop :=
 ∀ (pins:List (Addr×Obj)) (s:Shared) (σ:St) (H:Hp) (Q:List (V×V)→Hp→Prop),Inv X pins σ H s→tPairs trs σ H Q →
  wpAny (model X.prog X.w) X.A (evalPairs (pairTrees keys values X.env pos)) (fun vs s'=>∃ ps H',Inv X pins σ H' s'∧VV ps vs∧Q ps H') X.xe s
theorem pps_nil {X:Cx} {pos:Pos}:PPs X pos [] [] []:=fun pins s σ H Q I h=>pairTrees_nil_walk ⟨[],H,I,.nil,h⟩
theorem pps_cons {X:Cx} {pos:Pos} {k v:Expr} {ks:List (Option Expr)} {vs:List Expr} {tk tv:TE} {trs:List (TE×TE)} (hk:PE X k tk) (hv:PE X v tv) (hr:PPs X pos ks vs trs) :
  PPs X pos (some k :: ks) (v :: vs) ((tk,tv) :: trs):=fun pins s σ H Q I h =>
 pairTrees_cons_walk (thn (hk pins s σ H _ I h) fun u s1 ⟨x,H1,I1,rx,q1⟩=>thn (hv pins s1 σ H1 _ I1 q1) fun w2 s2 ⟨y,H2,I2,ry,q2⟩ =>
  thn (hr pins s2 σ H2 _ I2 q2) fun ws s3 ⟨ps,H3,I3,rel,q3⟩=>⟨(x,y) :: ps,H3,I3,.cons ⟨rx,ry⟩ rel,q3⟩)
def mergeK (kvs more:List (Key×V)):List (Key×V):=more.foldl (fun acc kv=>putK acc kv.1 kv.2) kvs
theorem KV.merge:∀ {more:List (Key×V)} {rs:List (Key×Value)} {kvs:List (Key×V)} {vs:List (Key×Value)},KV more rs→KV kvs vs→KV (mergeK kvs more) (merged vs rs):=by
 intro more rs kvs vs r
 unfold KV at r
 induction r generalizing kvs vs with
 | nil=>intro q;exact q
 | @cons p q ps qs h t ih =>
  intro r0
  have e:KV (putK kvs p.1 p.2) (stored vs q.1 q.2):=by
   have:=r0.put p.1 h.2
   rw [← h.1];exact this
  exact ih e
theorem length_mergeK:∀ (more kvs:List (Key×V)),(mergeK kvs more).length≤kvs.length + more.length
 | [],kvs=>by show kvs.length≤kvs.length + 0;omega
 | p :: r,kvs=>by
  have h1:=length_mergeK r (putK kvs p.1 p.2)
  have h2:=length_putK kvs p.1 p.2
  show (mergeK (putK kvs p.1 p.2) r).length≤_
  rw [List.length_cons];omega
theorem carries_of {P:Program} {w:World}:∀ {kvs:List (Key×V)} {ws:List (Value×Value)},VV (kvs.map fun kv=>(kV kv.1,kv.2)) ws→∃ rs,Carries (mixKind P w) ws rs∧KV kvs rs
 | [],_,r=>by rw [List.map_nil] at r;cases r;exact ⟨[],True.intro,.nil⟩
 | p :: kvs,_,r=>by
  rw [List.map_cons] at r
  cases r with
  | @cons a b as bs h t =>
   obtain ⟨rs,c,q⟩:=carries_of (P:=P) (w:=w) t
   obtain ⟨b1,b2⟩:=b
   exact ⟨(p.1,b2) :: rs,⟨kV_is h.1,rfl,c⟩,.cons ⟨rfl,h.2⟩ q⟩
def tDisp (trs:List (TE×TE)):TE:=fun σ H Q=>∀ p,H p = none→tPairs trs σ (upd H p (.dK [])) fun ps H2=>H2 p = some (.dK [])∧∃ kvs:List (Key×V),ps = kvs.map (fun kv=>(kV kv.1,kv.2))∧kvs.length≤15∧Q (.ref p) (upd H2 p (.dK (mergeK [] kvs)))
theorem pe_disp {X:Cx} {pos:Pos} {keys:List (Option Expr)} {values:List Expr} {trs:List (TE×TE)} (h:PPs X pos keys values trs) (hall:keys.all (·.isSome) = true) (hl:keys.length = values.length) (h0:keys≠[])
  (h15:keys.length≤15):PE X (.Dict keys values pos) (tDisp trs):=by
 intro pins s σ H Q I q
 have hn:=I.hok.fresh (Nat.le_refl s.heap.objs.size)
 have I1:=I.laid (a:=s.heap.objs.size) (o:=.dK []) (h':=s.heap.push { cls:=.type "dict",data:=.dict #[] }) (t':=s.toks) (fun _ _ q=>Heap.get?_push_of_some _ q) (Nat.le_refl _) (dk_empty s.heap I.big)
 refine wpAny_Dict_walk (knd:=mixKind X.prog X.w) hall hl h0 h15 (thn (h pins _ σ _ _ I1 (q _ hn)) fun ws s2 ⟨ps,H2,I2,rel,e,kvs,ep,lk,q2⟩=>?_)
 subst ep
 obtain ⟨rs,c,rk⟩:=carries_of (P:=X.prog) (w:=X.w) rel
 obtain ⟨z,hd,vs0,r0,dd⟩:=dk_of I2.hok e
 cases r0
 refine ⟨rs,c,dd,fun h' dd' hs=>⟨.ref s.heap.objs.size,_,?_,rfl,q2⟩⟩
 have hz:(mergeK [] kvs).length≤sizeLine:=by
  have h1:=length_mergeK kvs []
  rw [List.length_nil] at h1
  rw [sizeLine_eq];omega
 have he:∃ q,h'.get? s.heap.objs.size = some q:=let ⟨q,_,_,hq,_⟩:=dd';⟨q,hq⟩
 exact d_write I2 (by rw [e];exact True.intro) hs he (dk_new hz hd (rk.merge .nil) dd')
structure M1 (X:Cx) (o:Expr) (m:Str) (apos:Pos) (e:Expr) (cpos:Pos):Prop where
 base:attributeBase o m X.env (eval o X.env) = eval o X.env
 few:((backTo cpos (starEach [e] X.env)).all (fun x=>!x.1) && (backToKw cpos (keywordEach [] X.env)).all (fun x=>x.1.isSome)
  && decide (([e]:List Expr).length + ([]:List Keyword).length + (if ([]:List Keyword).isEmpty then 0 else 1) < 30)) = true
 line:(apos.endLine == cpos.line) = true
 trees:backTo cpos (starEach [e] X.env) = [(false,eval e X.env)]
structure M2 (X:Cx) (o:Expr) (m:Str) (apos:Pos) (e f:Expr) (cpos:Pos):Prop where
 base:attributeBase o m X.env (eval o X.env) = eval o X.env
 few:((backTo cpos (starEach [e,f] X.env)).all (fun x=>!x.1) && (backToKw cpos (keywordEach [] X.env)).all (fun x=>x.1.isSome)
  && decide (([e,f]:List Expr).length + ([]:List Keyword).length + (if ([]:List Keyword).isEmpty then 0 else 1) < 30)) = true
 line:(apos.endLine == cpos.line) = true
 trees:backTo cpos (starEach [e,f] X.env) = [(false,eval e X.env),(false,eval f X.env)]
def IsD (H:Hp) (a:Addr):Prop:=(∃ kvs,Rd H a (.dK kvs))∨∃ kvs,Rd H a (.dT kvs)
theorem isD_at {X:Cx} {pins:List (Addr×Obj)} {σ:St} {H:Hp} {s:Shared} {a:Addr} (I:Inv X pins σ H s) (d:IsD H a) :
  s.TypeIs (.ref a) "dict"∧(∀ b,Value.ref a = .ref b→∃ ob,s.heap.get? b = some ob∧ob.dict = none)∧(a == sysModules) = false:=by
 rcases d with ⟨kvs,e⟩ | ⟨kvs,e⟩
 ·obtain ⟨_,hd,vs,_,dd⟩:=dk_rd I.hok e
  refine ⟨dd.typeIs,fun b q=>?_,hd⟩
  cases q
  obtain ⟨ob,_,_,h1,h2,_⟩:=dd
  exact ⟨ob,h1,h2.2.1⟩
 ·obtain ⟨_,hd,xs,_,dd⟩:=dt_rd I.hok e
  refine ⟨dd.typeIs,fun b q=>?_,hd⟩
  cases q
  obtain ⟨ob,_,_,h1,h2,_⟩:=dd
  exact ⟨ob,h1,h2.2.1⟩
section
variable {X:Cx} {pins:List (Addr×Obj)} {σ:St} {H:Hp} {s:Shared} {a:Addr} {y d:V} {u r:Value} {o:Option V} {A:Around} {E:Value→Shared→Prop}
theorem d_get2 {Q:Value→Shared→Prop} (hu:A.units + 1 < cLine) (I:Inv X pins σ H s) (g:DGet H a y o) (ry:RelV y u) (rd:RelV d r) (h:∀ w' s',Inv X pins σ H s'→RelV (o.getD d) w'→Q w' s') :
  wpAny (model X.prog X.w) A (call (.builtin "dict.get") [.ref a,u,r]) Q E s:=by
 rcases g with ⟨kvs,k,e,ey,l⟩ | ⟨kvs,k,b,e,ey,eb,l⟩
 ·subst ey
  obtain ⟨z,hd,vs,rel,dd⟩:=dk_rd I.hok e
  refine call_meetsIn PySem.F.slot_dict_get dd.typeIs PySem.F.entry_dict_get (PySem.F.args_dict_get_3 _ _ _) (meets_dict_get_default (mixKind X.prog X.w) a (kV_is ry) hd r) ⟨_,dd.mapOf,h _ _ (I.tok _) ?_⟩
  rw [l]
  exact (rel.val k).getD rd
 ·subst ey
  cases (show u = Value.ref b from ry)
  obtain ⟨z,hd,xs,rel,dd⟩:=dt_rd I.hok e
  refine call_meetsIn PySem.F.slot_dict_get dd.typeIs PySem.F.entry_dict_get (PySem.F.args_dict_get_3 _ _ _) (meetsH_dict_get_default (tupleKind (mixKind X.prog X.w)) a b hd r) ⟨tupleKind_room_in1 hu,k,xs,key_of I.hok eb,dd,h _ _ (I.tok _) ?_⟩
  rw [l]
  exact (rel.val k).getD rd
end
def tDGet2 (td ty tx:TE):TE:=fun σ H Q=>td σ H fun x H1=>∃ a,x = .ref a∧IsD H1 a∧ty σ H1 fun y H2=>tx σ H2 fun z H3=>∃ o,DGet H3 a y o∧Q (o.getD z) H3
def tDPop1 (td ty:TE):TE:=fun σ H Q=>td σ H fun x H1=>∃ a,x = .ref a∧IsD H1 a∧ty σ H1 fun y H2=>∃ kvs k v,H2 a = some (.dK kvs)∧y = kV k∧valV kvs k = some v∧Q v (upd H2 a (.dK (dropK kvs k)))
section
variable {X:Cx} {o e f:Expr} {apos cpos:Pos} {td ty tx:TE}
theorem pe_dget2 (hu:X.A.units + 1 < cLine) (ho:PE X o td) (he:PE X e ty) (hf:PE X f tx) (m:M2 X o "get" apos e f cpos):PE X (.Call (.Attribute o "get" apos) [e,f] [] cpos) (tDGet2 td ty tx):=by
 intro pins s σ H Q I h
 refine wpAny_Call_method m.base m.few m.line PySem.F.plainAttrs_dict PySem.F.slot_dict_get PySem.F.type_dict_get (thn (ho pins s σ H _ I h) fun u s1 ⟨x,H1,I1,rx,a,ex,d,q1⟩=>?_)
 subst ex
 obtain rfl:u = Value.ref a:=rx
 obtain ⟨t1,t2,_⟩:=isD_at I1 d
 refine ⟨t1,t2,?_⟩
 rw [m.trees]
 refine Calls.callWith_builtin rfl (Calls.evalArgs_plain (Calls.spliced_cons (thn (he pins s1 σ H1 _ I1 q1) fun iv s2 ⟨y,H2,I2,ry,q2⟩ =>
  Calls.spliced_cons (thn (hf pins s2 σ H2 _ I2 q2) fun fv s3 ⟨z,H3,I3,rz,ov,g,q3⟩=>Calls.spliced_nil ?_))))
 exact d_get2 hu I3 g ry rz fun w' s4 I4 rw'=>⟨_,H3,I4,rw',q3⟩
theorem pe_dpop1 (ho:PE X o td) (he:PE X e ty) (m:M1 X o "pop" apos e cpos):PE X (.Call (.Attribute o "pop" apos) [e] [] cpos) (tDPop1 td ty):=by
 intro pins s σ H Q I h
 refine wpAny_Call_method m.base m.few m.line PySem.F.plainAttrs_dict PySem.F.slot_dict_pop PySem.F.type_dict_pop (thn (ho pins s σ H _ I h) fun u s1 ⟨x,H1,I1,rx,a,ex,d,q1⟩=>?_)
 subst ex
 obtain rfl:u = Value.ref a:=rx
 obtain ⟨t1,t2,_⟩:=isD_at I1 d
 refine ⟨t1,t2,?_⟩
 rw [m.trees]
 refine Calls.callWith_builtin rfl (Calls.evalArgs_plain (Calls.spliced_cons (thn (he pins s1 σ H1 _ I1 q1) fun iv s2 ⟨y,H2,I2,ry,kvs,k,v,ea,ey,l,q2⟩=>Calls.spliced_nil ?_)))
 subst ey
 exact d_pop I2 ea ry l (.inl rfl) fun w' s3 I3 rw'=>⟨v,_,I3,rw',q2⟩
end
section
variable {X:Cx} {pins:List (Addr×Obj)} {σ:St} {H:Hp} {s:Shared} {a:Addr} {kvs:List (Key×V)} {A:Around} {E:Value→Shared→Prop}
end
section
variable {X:Cx} {pins:List (Addr×Obj)} {σ:St} {H:Hp} {s:Shared} {a:Addr} {y:V} {u:Value} {A:Around} {E:Value→Shared→Prop}
end
end L2
namespace L2
open PySem PySem.Spec PyProof.Rows PySem.W
section
variable {X:Cx} {elts:List Expr} {x1:Nat} {tp:Pos} {a b:Expr} {ta:TA} {p pos:Pos}
end
def EntsAre (P:Params):List DictEntry→List (Str×V)→Prop
 | [],[]=>True
 | e :: r,(k,v) :: q=>((∃ t,e.key = .str k t)∧e.hash = PyData.keyHash P k∧RelV v e.val)∧EntsAre P r q
 | _,_=>False
theorem EntsAre.lit {P:Params}:∀ {es:List DictEntry} {kvs:List (Str×V)},EntsAre P es kvs→KeysLit P es
 | [],[],_=>trivial
 | e :: r,(k,v) :: q,⟨⟨⟨t,h1⟩,h2,_⟩,h⟩=>⟨⟨k,t,h1,h2⟩,h.lit⟩
theorem EntsAre.rel {P:Params} (x:Str):∀ {es:List DictEntry} {kvs:List (Str×V)},EntsAre P es kvs→RelO (kvs.lookup x) ((es.find? fun e=>Value.isStrOf x e.key).map (·.val))
 | [],[],_=>trivial
 | e :: r,(k,v) :: q,⟨⟨⟨t,h1⟩,h2,h3⟩,h⟩=>by
  have hk:Value.isStrOf x e.key = (k == x):=by rw [h1];rfl
  by_cases hx:x = k
  ·subst hx
   have:Value.isStrOf x e.key = true:=by rw [hk];simp
   rw [List.find?_cons,this,List.lookup_cons]
   simp only [beq_self_eq_true]
   exact h3
  ·have h4:Value.isStrOf x e.key = false:=by rw [hk];simpa using fun z:k = x=>hx z.symm
   have h5:(x == k) = false:=by simpa using hx
   rw [List.find?_cons,h4,List.lookup_cons,h5]
   exact h.rel x
structure KD (K:PySem.W.Frag) (P:Params) (a:Addr) (kvs:List (Str×V)):Prop where
 ex:∃ es n,K.lookup a = some ⟨.type "dict",none,.dict es n,#[]⟩∧EntsAre P es.toList kvs
 lo:(a == sysModules) = false
theorem KD.map {K:PySem.W.Frag} {prog:Program} {w:World} {a:Addr} {kvs:List (Str×V)} (d:KD K w.params a kvs) {h:Heap} (X:K.In h):∃ f,h.MapOf (strKind prog w) a f∧∀ x,RelO (kvs.lookup x) (f x):=by
 obtain ⟨es,n,hl,he⟩:=d.ex
 refine ⟨_,mapOf_K X hl he.lit,fun x=>?_⟩
 obtain ⟨l⟩:=es
 have:=he.rel x
 unfold findBy
 rw [List.find?_toArray]
 exact this
section
variable {X:Cx}
def rInKD (K:PySem.W.Frag) (P:Params) (neg:Bool):R2:=fun x y H Q=>∃ z a kvs,x = .str z∧y = .ref a∧KD K P a kvs∧Q (.bl (neg != (kvs.lookup z).isSome)) H
theorem op_inKD:OpR X (compareOp .In) (rInKD X.K X.w.params false):=by
 intro pins s σ H x y v u Q I rx ry h
 obtain ⟨z,a,kvs,rfl,rfl,d,q⟩:=h
 obtain ⟨t,rfl⟩:=rx
 cases ry
 obtain ⟨f,hm,hr⟩:=d.map (prog:=X.prog) I.kIn
 refine wpAny_in_of (strKind_is X.prog X.w z t) d.lo hm ?_
 rw [← (hr z).isSome_eq]
 exact ⟨.bl _,H,I.tok _,rfl,by simpa using q⟩
def rIxKD (K:PySem.W.Frag) (P:Params):R2:=fun x y H Q=>∃ a kvs z v,x = .ref a∧y = .str z∧KD K P a kvs∧kvs.lookup z = some v∧Q v H
theorem ix_KD:IxR X (rIxKD X.K X.w.params):=by
 intro value slice pins s σ H x y v u Q I rx ry h hs
 obtain ⟨a,kvs,z,w',rfl,rfl,d,hl,q⟩:=h
 cases rx
 obtain ⟨t,rfl⟩:=ry
 obtain ⟨f,hm,hr⟩:=d.map (prog:=X.prog) I.kIn
 obtain ⟨u',hu,ru⟩:=RelO.some_of (v:=w') (o:=f z) (by rw [← hl];exact hr z)
 exact tail_any hm.typeIs slot_dict_getitem.lookup (wpAny_getItem_of (strKind_is X.prog X.w z t) hm hu ⟨w',H,I.tok _,ru,q⟩) hs
end
end L2
namespace HT
open PySem PySem.Spec PyProof.Rows
section
variable {prog:Program} {w:World} {A:Around} {E:Value→Shared→Prop} {s:Shared}
end
end HT
namespace L2
open PySem PySem.Spec PyProof.Rows PySem.W
section
variable {X:Cx} {K:PySem.W.Frag}
end
end L2
namespace L2
open PySem PySem.Spec PyProof.Rows PySem.W
section
variable {X:Cx} {pins:List (Addr×Obj)} {σ:St} {H:Hp} {s:Shared}
end
end L2
namespace L2
open PySem PySem.Spec PyProof.Rows PySem.W
theorem strs_of:∀ {ss:List Str} {us:List Value},Vals (ss.map V.str) us→StrsAre us ss
 | [],_,r=>by rw [List.map_nil] at r;cases r;exact .nil
 | x :: ss,_,r=>by
  rw [List.map_cons] at r
  cases r with
  | cons r1 r2 =>
   obtain ⟨t,rfl⟩:=r1
   exact .cons x t (strs_of r2)
theorem vals_of_strs:∀ {ss:List Str} {us:List Value},StrsAre us ss→Vals (ss.map V.str) us
 | _,_,.nil=>.nil
 | _,_,.cons y t r=>.cons ⟨t,rfl⟩ (vals_of_strs r)
def rSortS (K:PySem.W.Frag):List V→Hp→VK→Prop:=fun xs H Q=>∃ p ss,xs = [.ref p]∧SqL K H p (ss.map V.str)∧ss.length < 64∧∀ l ss',H l = none→ss'.Perm ss→sortedS ss' = true→Q (.ref l) (upd H l (.lst (ss'.map V.str)))
theorem call_sortedS {X:Cx}:CallR X (.builtin "sorted") (rSortS X.K):=by
 intro pins s σ H xs us Q I r h
 obtain ⟨p,ss,rfl,hq,hl,q⟩:=h
 obtain ⟨u,rfl,ru⟩:=vals1 r
 cases ru
 obtain ⟨its,rv,pl,hz⟩:=I.list hq
 have hlen:=rv.length
 rw [List.length_map] at hlen
 refine sorted_strs pl.isList (strs_of rv) (by omega) fun out ss' h1 h2 h3=>?_
 obtain ⟨e,he⟩:=sortedAll_at s.heap its out
 have hle:ss'.length < 64:=by rw [h2.length_eq];exact hl
 have new:ObjOk X.prog X.w (upd H (s.heap.objs.size + 1) (.lst (ss'.map V.str))) (sortedAll s.heap its out) (s.heap.objs.size + 1) (.lst (ss'.map V.str)) :=
  ⟨by rw [List.length_map];exact Nat.le_trans (Nat.le_of_lt hle) (by decide),out.toList,e,vals_of_strs h1,by rw [he]⟩
 exact ⟨.ref (s.heap.objs.size + 1),_,I.laid (t':=s.toks) (fun b o q=>sortedAll_old q) (Nat.le_succ _) new,rfl,q _ ss' (I.hok.fresh (Nat.le_succ _)) h2 h3⟩
section
variable {X:Cx} {pins:List (Addr×Obj)} {σ:St} {H:Hp} {s:Shared} {a:Addr} {kvs:List (Key×V)} {o:Obj}
theorem Inv.freeze (I:Inv X pins σ H s) (e:H a = some (.dK kvs)):∃ o,Inv X pins σ (upd H a (.frz o (.dK kvs))) s∧∀ o u,X.H₀ a≠some (.frz o u):=by
 obtain ⟨z,hd,vs,rel,dd⟩:=dk_of I.hok e
 obtain ⟨o,es,ep,ho,r⟩:=id dd
 refine ⟨o,d_write (t':=s.toks) I (by rw [e];exact True.intro) (Heap.SameBut.refl a s.heap) ⟨o,ho⟩ ⟨ho,z,hd,vs,rel,dd⟩,fun o' u q=>?_⟩
 have:=I.base.frzs a o' u q
 rw [e] at this
 cases this
theorem Inv.thaw (I:Inv X pins σ H s) (e:H a = some (.frz o (.dK kvs))) (n:∀ o u,X.H₀ a≠some (.frz o u)):Inv X pins σ (upd H a (.dK kvs)) s:=by
 have nn:∀ {b},H b = none→b≠a:=fun q h=>by rw [h,e] at q;cases q
 have nt:∀ {b xs},H b = some (.tup xs)→b≠a:=fun q h=>by rw [h,e] at q;cases q
 have no:∀ {b y},H b = some (.own y)→b≠a:=fun q h=>by rw [h,e] at q;cases q
 refine ⟨I.ok,I.os,I.bare,⟨I.base.keep,I.base.slot,fun b ob q hb hx=>?_,I.base.there,fun b xs q=>?_,fun b ob u q=>?_,fun b ps q=>?_⟩,I.loc,I.cell,?_,fun x c q=>?_,fun p hp=>?_,fun b u q=>?_,I.len⟩
 ·have z:=I.base.free b ob q hb hx
  rw [upd_ne (nn z)];exact z
 ·have z:=I.base.tups b xs q
  rw [upd_ne (nt z)];exact z
 ·by_cases h:b = a
  ·subst h;exact absurd q (n ob u)
  ·rw [upd_ne h];exact I.base.frzs b ob u q
 ·obtain ⟨more,z⟩:=I.base.tbls b ps q
  exact ⟨more,by rw [upd_ne (fun h=>by rw [h,e] at z;cases z)];exact z⟩
 ·rw [upd_ne (nn I.free)];exact I.free
 ·rw [upd_ne (nn (I.freeC x c q))];exact I.freeC x c q
 ·obtain ⟨q1,q2,q3⟩:=I.pin p hp
  exact ⟨q1,by rw [upd_ne (nn q2)];exact q2,q3⟩
 ·by_cases h:b = a
  ·subst h
   rw [upd_same] at q
   cases q
   obtain ⟨_,z⟩:=I.hok _ _ e
   exact z.stay (fun _ _ _ q=>q) (fun c q=>by rw [upd_ne (no q)];exact q) fun c xs q=>by rw [upd_ne (nt q)];exact q
  ·rw [upd_ne h] at q
   exact (I.hok b u q).stay (fun _ _ _ q=>q) (fun c q=>by rw [upd_ne (no q)];exact q) fun c xs q=>by rw [upd_ne (nt q)];exact q
def tFrz (t:TE):TE:=fun σ H Q=>∃ a kvs,H a = some (.dK kvs)∧∀ o,t σ (upd H a (.frz o (.dK kvs))) fun v H'=>H' a = some (.frz o (.dK kvs))∧Q v (upd H' a (.dK kvs))
theorem pe_frz {e:Expr} {t:TE} (he:PE X e t):PE X e (tFrz t):=by
 intro pins s σ H Q I ⟨a,kvs,ea,h⟩
 obtain ⟨o,I1,n⟩:=I.freeze ea
 exact wpAny_mono (he pins s σ _ _ I1 (h o)) (fun v s' ⟨x,H',I',r,e',q⟩=>⟨x,_,I'.thaw e' n,r,q⟩) fun _ _ y=>y
def Itd (a:Addr) (o:Obj) (kvs:List (Key×V)):It:=⟨fun i H=>H a = some (.frz o (.dK kvs))∧i < kvs.length,fun i H v H'=>H' = H∧∃ kv,kvs[i]? = some kv∧v = kV kv.1,fun i H=>H a = some (.frz o (.dK kvs))∧kvs.length≤i⟩
theorem is_kV {P:Program} {w:World} {k:Key} {u:Value} (h:(mixKind P w).is k u = true):RelV (kV k) u:=by
 rcases keyIs_shape (show keyIs k u = true from h) with ⟨i,t,rfl,rfl⟩ | ⟨x,t,rfl,rfl⟩
 ·exact ⟨t,rfl⟩
 ·exact ⟨t,rfl⟩
theorem KV.at {κ:Type}:∀ {kvs:List (κ×V)} {vs:List (κ×Value)},KV kvs vs→∀ {i:Nat} {kv:κ×V},kvs[i]? = some kv→∃ u,vs[i]? = some (kv.1,u)∧RelV kv.2 u:=by
 intro kvs vs r
 unfold KV at r
 induction r with
 | nil=>intro i kv h;simp at h
 | @cons p q ps qs h t ih =>
  intro i kv hi
  cases i with
  | zero =>
   simp only [List.getElem?_cons_zero,Option.some.injEq] at hi
   subst hi
   obtain ⟨q1,q2⟩:=q
   obtain ⟨h1,h2⟩:=h
   simp only at h1
   subst h1
   exact ⟨q2,rfl,h2⟩
  | succ j =>
   simp only [List.getElem?_cons_succ] at hi ⊢
   exact ih hi
theorem frz_at (I:Inv X pins σ H s) (e:H a = some (.frz o (.dK kvs))) {es:Array DictEntry} {ep:Nat} (hd:o.data = .dict es ep):(a == sysModules) = false∧∃ vs,KV kvs vs∧s.heap.DictAt (mixKind X.prog X.w) a vs ep:=by
 obtain ⟨ho,z,hs,vs,rel,o',es',ep',ho',r⟩:=I.hok _ _ e
 rw [ho] at ho'
 cases ho'
 obtain ⟨r1,r2,r3⟩:=r
 rw [hd] at r2
 injection r2 with q1 q2
 subst q1 q2
 exact ⟨hs,vs,rel,o,es,ho,r1,hd,r3⟩
theorem turn_dict {P:Program} {w:World} {K:PySem.W.Frag} {tg:Expr} (it:Addr) {es:Array DictEntry} {ep:Nat} (hd:o.data = .dict es ep) :
  Turn P w K tg (Itd a o kvs) [it] it (fun i h=>h.IsKeyIter it a i kvs.length ep) where
 mem:=by simp
 obj:=fun i h st b hb=>by
  have e:b = it:=by simpa using hb
  subst e
  obtain ⟨ob,e,c,d⟩:=st
  exact ⟨ob,e,fun v z=>by rw [d] at z;cases z⟩
 keep:=fun i h h' st k=>by
  obtain ⟨ob,e,r⟩:=st
  exact ⟨ob,k it (by simp) ob e,r⟩
 item:=by
  intro X hP hw hK hc i pins s σ H E I hf st hg
  subst hP hw hK
  obtain ⟨f0,f1,f2,f3,f4,f5⟩:=hf it (by simp)
  obtain ⟨hg1,hg2⟩:=hg
  obtain ⟨hs,vs,rel,dat⟩:=frz_at I hg1 hd
  have hl:kvs.length = vs.length:=rel.length
  obtain ⟨u,hu,ru⟩:=rel.at (List.getElem?_eq_getElem hg2)
  rw [hl] at st
  refine wpAny_pyNext_dict_item st dat hu fun key h' hkey hit' hsb=>?_
  have I1:Inv X pins σ H { s with heap:=h' }:=I.turned (t':=s.toks) (fun b ob hb e=>hsb.extBut b ob hb e) f0 f1 f3 f4 f5
  obtain ⟨ob,e,cc,d⟩:=id hit'
  refine ⟨_,rfl,go_of (s:={ s with heap:=h' }) e cc d (by decide) ⟨kV (kvs[i]).1,H,I1,is_kV hkey,⟨rfl,_,List.getElem?_eq_getElem hg2,rfl⟩,?_,fun b hb=>(hf b hb).1⟩⟩
  rw [hl];exact hit'
 done:=by
  intro X hP hw hK hc i pins s σ H E I hf st hg
  subst hP hw hK
  obtain ⟨f0,f1,f2,f3,f4,f5⟩:=hf it (by simp)
  obtain ⟨hg1,hg2⟩:=hg
  obtain ⟨hs,vs,rel,dat⟩:=frz_at I hg1 hd
  have hl:kvs.length = vs.length:=rel.length
  rw [hl] at st hg2
  exact wpAny_pyNext_dict_end (I.ok.hd hc) st dat (List.getElem?_eq_none hg2) fun h' eb=>⟨rfl,I.turned (t':=s.toks) (fun b ob hb e=>eb b ob hb e) f0 f1 f3 f4 f5⟩
 self:=fun A i s Q E st h=>wpAny_pyIter_keyiter st h
def iDict (tl:TE):TI:=fun σ H R=>tl σ H fun x H1=>∃ a o kvs,x = .ref a∧H1 a = some (.frz o (.dK kvs))∧R (Itd a o kvs) H1
theorem pi_dict {tg l:Expr} {tl:TE} (hl:PE X l tl):PI X tg l (iDict tl):=by
 intro pins s σ H R I h
 refine thn (hl pins s σ H _ I h) fun v s1 ⟨x,H1,I1,r1,a,o,kvs,ex,ea,q⟩=>?_
 subst ex
 cases r1
 obtain ⟨ho,z,hs,vs,rel,o',es,ep,ho',hx,hdd,r⟩:=id (I1.hok _ _ ea)
 rw [ho] at ho'
 cases ho'
 have dat:s1.heap.DictAt (mixKind X.prog X.w) a vs ep:=⟨o,es,ho,hx,hdd,r⟩
 have hlen:kvs.length = vs.length:=rel.length
 refine wpAny_pyIter_dict hs dat ?_
 refine ⟨s1.heap.objs.size,[s1.heap.objs.size],_,_,H1,rfl,I1.kept (t':=s1.toks) fun b o e=>Heap.get?_push_of_some _ e,turn_dict _ hdd,⟨_,Heap.get?_push_size _ rfl,rfl,by rw [hlen];rfl⟩,fun b hb=>?_,q⟩
 have e:b = s1.heap.objs.size:=by simpa using hb
 subst e
 exact I1.fpOk (Nat.le_refl _) (I1.hok.fresh (Nat.le_refl _))
theorem comp_dict {o:Obj} {D:Addr} {σ:St} {k:Nat} {ix:List Nat} {g:TG} {tt:TT} {te:TE} {Q:VK} {H1:Hp} (Pv:Nat→List V→Hp→Prop) (hl:∀ i ys H,Pv i ys H→H a = some (.frz o (.dK kvs))) (h0:Pv 0 [] (upd H1 D (.lst []))) (hD:∀ i ys H,Pv i ys H→H D = some (.lst ys))
  (hs:∀ i ys H kv,kvs[i]? = some kv→Pv i ys H→CTurn D σ k ix g tt te (kV kv.1) ys H (Pv (i + 1))) (hd:∀ ys H,Pv kvs.length ys H→Q (.ref D) H):CompOk (Itd a o kvs) D σ k ix g tt te Q H1 :=
 comp_by (n:=kvs.length) (item:=fun i=>match kvs[i]? with | some kv=>kV kv.1 | none=>.non) Pv (fun i ys H p=>⟨fun h=>⟨⟨hl i ys H p,h⟩,fun v H' y=>by
  obtain ⟨e,kv,hc,rfl⟩:=y
  exact ⟨e,by rw [hc]⟩⟩,fun h=>⟨hl i ys H p,h⟩⟩) h0 hD (fun i ys H h p=>by
   have e:kvs[i]? = some kvs[i]:=List.getElem?_eq_getElem h
   simp only [e]
   exact hs i ys H _ e p) hd
end
end L2
namespace PySem
theorem entry_itemiterator_iter:entryFor table "dict_itemiterator.__iter__" = some Builtin.«dict_keyiterator.__iter__» :=
 entryFor_alias (id':="dict_keyiterator.__iter__") (by kernel_rfl) rfl (by decide +kernel) (by kernel_rfl)
end PySem
namespace L2
open PySem PySem.Spec PyProof.Rows PySem.W
def Iti (a:Addr) (o:Obj) (kvs:List (Key×V)):It:=⟨fun i H=>H a = some (.frz o (.dK kvs))∧i < kvs.length,fun i H v H'=>∃ p kv,kvs[i]? = some kv∧v = .ref p∧H p = none∧H' = upd H p (.tup [kV kv.1,kv.2]),fun i H=>H a = some (.frz o (.dK kvs))∧kvs.length≤i⟩
section
variable {X:Cx} {pins:List (Addr×Obj)} {σ:St} {H:Hp} {s:Shared} {a:Addr} {kvs:List (Key×V)} {o:Obj}
theorem turn_items {P:Program} {w:World} {K:PySem.W.Frag} {elts:List Expr} {x1:Nat} {tp:Pos} (it:Addr) {es:Array DictEntry} {ep:Nat} (hd:o.data = .dict es ep) :
  Turn P w K (.Tuple elts x1 tp) (Iti a o kvs) [it] it (fun i h=>∃ ok ov,IsItemIter h it a i kvs.length ep ok ov) where
 mem:=by simp
 obj:=fun i h ⟨ok,ov,st⟩ b hb=>by
  have e:b = it:=by simpa using hb
  subst e
  exact ⟨_,st,fun v z=>by cases z⟩
 keep:=fun i h h' ⟨ok,ov,st⟩ k=>⟨ok,ov,k it (by simp) _ st⟩
 item:=by
  intro X hP hw hK hc i pins s σ H E I hf ⟨ok,ov,st⟩ hg
  subst hP hw hK
  obtain ⟨hg1,hg2⟩:=hg
  obtain ⟨hs,vs,rel,dat⟩:=frz_at I hg1 hd
  have hl:kvs.length = vs.length:=rel.length
  obtain ⟨u,hu,ru⟩:=rel.at (List.getElem?_eq_getElem hg2)
  rw [hl] at st
  refine wpAny_pyNext_items_item st dat hu fun key h' hkey ho hT hsz hk=>⟨_,rfl,wpAny_letOwnedTupleGo_items ho fun h2 he2 sb=>?_⟩
  have hilt:it < s.heap.objs.size:=Heap.lt_size st
  have hT2:=sb.extBut _ _ (Nat.ne_of_gt hilt) hT
  have kk:∀ b ob,b ∉ [it]→s.heap.get? b = some ob→h2.get? b = some ob:=fun b ob hb q=>by
   have hb':b≠it:=by simpa using hb
   exact sb.extBut _ _ hb' (hk b ob hb' q)
  refine ⟨.ref s.heap.objs.size,upd H s.heap.objs.size (.tup [kV (kvs[i]).1,(kvs[i]).2]),I.turnLay (t':=s.toks) hf kk (Nat.le_refl _) ⟨small1000 (by simp) |> Nat.le_of_lt,[key,u],.cons (is_kV hkey) (.cons ru .nil),⟨_,hT2,rfl,_,rfl⟩⟩,rfl,⟨_,kvs[i],List.getElem?_eq_getElem hg2,rfl,I.fresh,rfl⟩,?_,fun b hb=>?_⟩
  ·rw [hl];exact ⟨_,_,he2⟩
  ·have e:b = it:=by simpa using hb
   subst e
   rw [upd_ne (Nat.ne_of_lt hilt)];exact (hf _ (by simp)).1
 done:=by
  intro X hP hw hK hc i pins s σ H E I hf ⟨ok,ov,st⟩ hg
  subst hP hw hK
  obtain ⟨f0,f1,f2,f3,f4,f5⟩:=hf it (by simp)
  obtain ⟨hg1,hg2⟩:=hg
  obtain ⟨hs,vs,rel,dat⟩:=frz_at I hg1 hd
  have hl:kvs.length = vs.length:=rel.length
  rw [hl] at st hg2
  exact wpAny_pyNext_items_end (I.ok.hd hc) st dat (List.getElem?_eq_none hg2) fun h' eb=>⟨rfl,I.turned (t':=s.toks) (fun b ob hb e=>eb b ob hb e) f0 f1 f3 f4 f5⟩
 self:=fun A i s Q E ⟨ok,ov,st⟩ h=>by
  have hT:s.TypeIs (.ref it) "dict_itemiterator":=⟨_,st,rfl⟩
  refine wpAny_pyIter_slot hT PySem.F.slot_dict_itemiterator_iter (wpAny_call_entry PySem.F.slot_dict_itemiterator_iter hT PySem.entry_itemiterator_iter ?_ (PySem.F.args_dict_itemiterator_iter_1 _))
  show wpAny _ _ (ret (.ref it)) _ _ s
  exact wpAny_pure ⟨_,rfl, "dict_itemiterator",_,hT,PySem.F.slot_dict_itemiterator_next.lookup,h⟩
def iItems (tl:TE):TI:=fun σ H R=>tl σ H fun x H1=>∃ a o kvs,x = .ref a∧H1 a = some (.frz o (.dK kvs))∧R (Iti a o kvs) H1
theorem pi_items {elts:List Expr} {x1:Nat} {tp:Pos} {l:Expr} {tl:TE} {apos cpos:Pos} (hl:PE X l tl) (hbase:attributeBase l "items" X.env (eval l X.env) = eval l X.env:=by rfl) (hline:(apos.endLine == cpos.line) = true:=by rfl) :
  PI X (.Tuple elts x1 tp) (.Call (.Attribute l "items" apos) [] [] cpos) (iItems tl):=by
 intro pins s σ H R I h
 refine wpAny_Call_method0_late hbase hline (thn (hl pins s σ H _ I h) fun v s1 ⟨x,H1,I1,r1,a,o,kvs,ex,ea,q⟩=>?_)
 subst ex
 cases r1
 obtain ⟨ho,z,hs,vs,rel,o',es,ep,ho',hx,hdd,r⟩:=id (I1.hok _ _ ea)
 rw [ho] at ho'
 cases ho'
 have dat:s1.heap.DictAt (mixKind X.prog X.w) a vs ep:=⟨o,es,ho,hx,hdd,r⟩
 have hT:s1.TypeIs (.ref a) "dict":=dat.dictOf.typeIs
 refine ⟨"dict", "dict.items",PySem.F.plainAttrs_dict,PySem.F.slot_dict_items,PySem.F.type_dict_items,hT,(fun b e=>by injection e with e;subst e;exact ⟨o,ho,hx.2.1⟩),?_⟩
 refine Calls.callWith_builtin rfl (PySem.evalArgs_none ?_)
 refine call_meetsIn PySem.F.slot_dict_items hT PySem.F.entry_dict_items (PySem.F.args_dict_items_1 _) (meets_dict_items (mixKind X.prog X.w) a hs) ⟨⟨vs,dat.dictOf⟩,?_⟩
 have hlen:kvs.length = vs.length:=rel.length
 have hne:a≠s1.heap.objs.size:=Nat.ne_of_lt dat.lt_size
 have I2:Inv X pins σ H1 { s1 with heap:=s1.heap.push { cls:=.type "dict_items",data:=.fields #[.ref a] } }:=I1.kept (t':=s1.toks) fun b o e=>Heap.get?_push_of_some _ e
 have dat2:(s1.heap.push { cls:=.type "dict_items",data:=.fields #[.ref a] }).DictAt (mixKind X.prog X.w) a vs ep:=dat.at' fun o e=>Heap.get?_push_of_some _ e
 show wpAny _ _ (pyIter (.ref s1.heap.objs.size)) _ _ _
 refine wpAny_pyIter_items (s:={ s1 with heap:=s1.heap.push { cls:=.type "dict_items",data:=.fields #[.ref a] } }) ⟨_,Heap.get?_push_size _ rfl,rfl,rfl⟩ dat2 ?_
 refine ⟨_,[_],_,_,H1,rfl,I2.kept (t':=s1.toks) fun b o e=>Heap.get?_push_of_some _ e,turn_items _ hdd,⟨_,_,by rw [hlen];exact Heap.get?_push_size _ rfl⟩,fun b hb=>?_,q⟩
 have e:=List.mem_singleton.mp hb
 subst e
 exact I2.fpOk (Nat.le_refl _) (I2.hok.fresh (Nat.le_refl _))
theorem items_steps {i:Nat} (h:H a = some (.frz o (.dK kvs))):(i < kvs.length→(Iti a o kvs).go i H∧∀ v H',(Iti a o kvs).yld i H v H'→∃ p,v = .ref p∧H p = none∧H' = upd H p (.tup [(kvs.map fun kv=>kV kv.1).getD i .non,(kvs.map fun kv=>kv.2).getD i .non]))∧(kvs.length≤i→(Iti a o kvs).stop i H):=by
 refine ⟨fun hi=>⟨⟨h,hi⟩,fun v H' ⟨p,kv,e1,e2,e3,e4⟩=>⟨p,e2,e3,?_⟩⟩,fun hi=>⟨h,hi⟩⟩
 rw [e4,List.getD_eq_getElem?_getD,List.getD_eq_getElem?_getD,List.getElem?_map,List.getElem?_map,e1];rfl
end
end L2
namespace L2
open PySem PySem.W PyProof.Rows
def pat (p:Array Nat) (k:Nat):Nat:=p.getD k 0
structure Ord (n:Nat) (lt:Nat→Nat→Bool):Prop where
 tr:∀ i j k,i < n→j < n→k < n→lt i j = true→lt j k = true→lt i k = true
 tot:∀ i j,i < n→j < n→i≠j→lt i j = false→lt j i = true
def Cmp (n:Nat) (lt:Nat→Nat→Bool) (cmp:Nat→Nat→(Bool→Shared→Prop)→Shared→Prop) (J:Shared→Prop):Prop :=
 ∀ i j C s,i < n→j < n→i≠j→J s→(∀ s',J s'→C (lt i j) s')→cmp i j C s
def Pm (n:Nat) (p:Array Nat):Prop:=p.Perm (List.range n).toArray
theorem Pm.size {n:Nat} {p:Array Nat} (h:Pm n p):p.size = n:=by
 have:=h.size_eq
 simpa using this
theorem Pm.lt {n:Nat} {p:Array Nat} (h:Pm n p) {k:Nat} (hk:k < n):pat p k < n:=by
 have hs:=h.size
 have hk':k < p.size:=by omega
 have hm:p[k]∈p.toList:=by simp
 have:=(Array.perm_iff_toList_perm.mp h).mem_iff.mp hm
 simp at this
 unfold pat
 rw [Array.getD,dif_pos hk']
 exact this
theorem Pm.ne {n:Nat} {p:Array Nat} (h:Pm n p) {i j:Nat} (hi:i < n) (hj:j < n) (hij:i≠j):pat p i≠pat p j:=by
 have hs:=h.size
 have hi':i < p.size:=by omega
 have hj':j < p.size:=by omega
 have nd:p.toList.Nodup:=(Array.perm_iff_toList_perm.mp h).nodup_iff.mpr (by simpa using List.nodup_range)
 unfold pat
 rw [Array.getD,dif_pos hi',Array.getD,dif_pos hj']
 intro e
 have pw:=List.pairwise_iff_getElem.mp nd
 rcases Nat.lt_or_gt_of_ne hij with h1 | h1
 ·exact pw i j (by simpa using hi') (by simpa using hj') h1 (by simpa using e)
 ·exact pw j i (by simpa using hj') (by simpa using hi') h1 (by simpa using e.symm)
theorem pat_of {p q:Array Nat} {i j:Nat} (h:p[i]? = q[j]?):pat p i = pat q j:=by
 unfold pat
 rw [Array.getD_eq_getD_getElem?,Array.getD_eq_getD_getElem?,h]
def Up (lt:Nat→Nat→Bool) (p:Array Nat) (m:Nat):Prop:=∀ i j,i < j→j < m→lt (pat p i) (pat p j) = true
def Down (lt:Nat→Nat→Bool) (p:Array Nat) (m:Nat):Prop:=∀ i j,i < j→j < m→lt (pat p j) (pat p i) = true
section
variable {n:Nat} {lt:Nat→Nat→Bool} {cmp:Nat→Nat→(Bool→Shared→Prop)→Shared→Prop} {J:Shared→Prop} {p:Array Nat}
theorem Up.snoc (O:Ord n lt) (P:Pm n p) {m:Nat} (h1:1≤m) (hm:m < n) (h:Up lt p m) (hl:lt (pat p (m - 1)) (pat p m) = true):Up lt p (m + 1):=by
 intro i j hij hj
 by_cases e:j = m
 ·subst e
  by_cases e2:i = j - 1
  ·subst e2;exact hl
  ·exact O.tr _ _ _ (P.lt (by omega)) (P.lt (by omega)) (P.lt (by omega)) (h i (j - 1) (by omega) (by omega)) hl
 ·exact h i j hij (by omega)
theorem Down.snoc (O:Ord n lt) (P:Pm n p) {m:Nat} (h1:1≤m) (hm:m < n) (h:Down lt p m) (hl:lt (pat p m) (pat p (m - 1)) = true):Down lt p (m + 1):=by
 intro i j hij hj
 by_cases e:j = m
 ·subst e
  by_cases e2:i = j - 1
  ·subst e2;exact hl
  ·exact O.tr _ _ _ (P.lt (by omega)) (P.lt (by omega)) (P.lt (by omega)) hl (h i (j - 1) (by omega) (by omega))
 ·exact h i j hij (by omega)
theorem asc_wp (O:Ord n lt) (hc:Cmp n lt cmp J) (P:Pm n p) {G:Nat→Shared→Prop}:∀ (f m:Nat) (s:Shared),1≤m→m + f≤n→Up lt p m→J s →
  (∀ r s',m≤r→r≤m + f→Up lt p r→(r < m + f→lt (pat p r) (pat p (r - 1)) = true)→J s'→G r s')→(kas_asc p f m).kasWp cmp G s
 | 0,m,s,h1,hf,hU,hJ,k=>k m s (Nat.le_refl _) (Nat.le_refl _) hU (fun h=>absurd h (Nat.lt_irrefl _)) hJ
 | f + 1,m,s,h1,hf,hU,hJ,k=>by
  show cmp (p.getD m 0) (p.getD (m - 1) 0) _ s
  refine hc _ _ _ s (P.lt (k:=m) (by omega)) (P.lt (k:=m - 1) (by omega)) (P.ne (by omega) (by omega) (by omega)) hJ fun s' hJ'=>?_
  show KasT.kasWp cmp (if lt (pat p m) (pat p (m - 1)) = true then .ret m else kas_asc p f (m + 1)) G s'
  cases e:lt (pat p m) (pat p (m - 1)) with
  | true =>
   rw [if_pos rfl]
   exact k m s' (Nat.le_refl _) (by omega) hU (fun _=>e) hJ'
  | false =>
   rw [if_neg Bool.false_ne_true]
   have hl:=O.tot _ _ (P.lt (k:=m) (by omega)) (P.lt (k:=m - 1) (by omega)) (P.ne (by omega) (by omega) (by omega)) e
   exact asc_wp O hc P f (m + 1) s' (by omega) (by omega) (hU.snoc O P h1 (by omega) hl) hJ' fun r s'' a b c d e'=>k r s'' (by omega) (by omega) c (fun h=>d (by omega)) e'
theorem desc_wp (O:Ord n lt) (hc:Cmp n lt cmp J) (P:Pm n p) {G:Array Nat×Nat×Nat→Shared→Prop}:∀ (f m:Nat) (s:Shared),1≤m→m + f≤n→Down lt p m→J s →
  (∀ r s',m≤r→r≤m + f→Down lt p r→J s'→G (p,r,0) s')→(kas_desc f p m 0).kasWp cmp G s
 | 0,m,s,h1,hf,hU,hJ,k=>k m s (Nat.le_refl _) (Nat.le_refl _) hU hJ
 | f + 1,m,s,h1,hf,hU,hJ,k=>by
  show cmp (p.getD m 0) (p.getD (m - 1) 0) _ s
  refine hc _ _ _ s (P.lt (k:=m) (by omega)) (P.lt (k:=m - 1) (by omega)) (P.ne (by omega) (by omega) (by omega)) hJ fun s' hJ'=>?_
  cases e:lt (pat p m) (pat p (m - 1)) with
  | true =>
   have e':lt (p.getD m 0) (p.getD (m - 1) 0) = true:=e
   rw [e']
   dsimp only
   rw [if_pos rfl,if_neg (Nat.lt_irrefl 0)]
   exact desc_wp O hc P f (m + 1) s' (by omega) (by omega) (hU.snoc O P h1 (by omega) e) hJ' fun r s'' a b c d=>k r s'' (by omega) (by omega) c d
  | false =>
   have e':lt (p.getD m 0) (p.getD (m - 1) 0) = false:=e
   rw [e']
   dsimp only
   rw [if_neg Bool.false_ne_true]
   have hl:=O.tot _ _ (P.lt (k:=m) (by omega)) (P.lt (k:=m - 1) (by omega)) (P.ne (by omega) (by omega) (by omega)) e
   refine hc _ _ _ s' (P.lt (k:=m - 1) (by omega)) (P.lt (k:=m) (by omega)) (P.ne (by omega) (by omega) (by omega)) hJ' fun s'' hJ''=>?_
   have hl':lt (p.getD (m - 1) 0) (p.getD m 0) = true:=hl
   rw [hl']
   dsimp only
   rw [if_pos rfl]
   exact k m s'' (Nat.le_refl _) (by omega) hU hJ''
theorem rev_pm (P:Pm n p) (i j:Nat):Pm n (kas_rev p i j):=(mirror_perm p i j _).trans P
theorem rev_at (P:Pm n p) {r:Nat} (hr:r≤n) (k:Nat):pat (kas_rev p 0 r) k = if k < r then pat p (r - 1 - k) else pat p k:=by
 have h:=getElem?_mirror_all (xs:=p) (i:=0) (j:=r) (by rw [P.size];exact hr) k
 by_cases hk:k < r
 ·rw [if_pos hk]
  rw [if_pos ⟨Nat.zero_le _,hk⟩,Nat.zero_add] at h
  exact pat_of h
 ·rw [if_neg hk]
  rw [if_neg (fun z=>hk z.2)] at h
  exact pat_of h
theorem rev_up (P:Pm n p) {r:Nat} (hr:r≤n) (h:Down lt p r):Up lt (kas_rev p 0 r) r:=by
 intro i j hij hj
 rw [rev_at P hr,rev_at P hr,if_pos (by omega),if_pos hj]
 exact h _ _ (by omega) (by omega)
def CountOk (n:Nat) (lt:Nat→Nat→Bool) (J:Shared→Prop) (G:Nat×Array Nat→Shared→Prop):Prop:=∀ q p' s',Pm n p'→1≤q→q≤n→Up lt p' q→J s'→G (q,p') s'
theorem count_wp (O:Ord n lt) (hc:Cmp n lt cmp J) (P:Pm n p) (h2:2≤n) {G:Nat×Array Nat→Shared→Prop} {s:Shared} (hJ:J s) (k:CountOk n lt J G):(kas_count n p).kasWp cmp G s:=by
 unfold kas_count
 rw [KasT.kasWp_bind]
 refine asc_wp O hc P (n - 1) 1 s (Nat.le_refl _) (by omega) (fun i j hij hj=>by omega) hJ fun r s' h1 hr hU hstop hJ'=>?_
 by_cases e:r = n
 ·subst e
  rw [if_pos (by simp)]
  exact k r p s' P h1 (Nat.le_refl _) hU hJ'
 ·rw [if_neg (by simpa using e)]
  by_cases e1:r > 1
  ·rw [if_pos e1]
   refine hc _ _ _ s' (P.lt (k:=0) (by omega)) (P.lt (k:=r - 1) (by omega)) (P.ne (by omega) (by omega) (by omega)) hJ' fun s'' hJ''=>?_
   have hl:lt (p.getD 0 0) (p.getD (r - 1) 0) = true:=hU 0 (r - 1) (by omega) (by omega)
   rw [hl]
   dsimp only
   rw [if_pos rfl]
   exact k r p s'' P h1 (by omega) hU hJ''
  ·rw [if_neg e1]
   have er:r = 1:=by omega
   subst er
   have h0:=hstop (by omega)
   unfold kas_descPart
   rw [KasT.kasWp_bind]
   refine desc_wp O hc P (n - (1 + 1)) (1 + 1) s' (by omega) (by omega) (fun i j hij hj=>?_) hJ' fun r s'' a b c d=>?_
   ·have ei:i = 0:=by omega
    have ej:j = 1:=by omega
    subst ei ej
    exact h0
   ·rw [if_neg (Nat.lt_irrefl 0)]
    unfold kas_tail3
    rw [KasT.kasWp_bind]
    refine asc_wp O hc (rev_pm P 0 r) (n - r) r s'' (by omega) (by omega) (rev_up P (by omega) c) d fun q s3 h3 h4 h5 _ h6=>?_
    exact k q _ s3 (rev_pm P 0 r) (by omega) (by omega) h5 h6
theorem place_wp (O:Ord n lt) (hc:Cmp n lt cmp J) (P:Pm n p) {k:Nat} (hk:k < n) (hU:Up lt p k) {G:Nat→Shared→Prop}:∀ (f l r:Nat) (s:Shared),r - l≤f→l≤r→r≤k→(∀ i,i < l→lt (pat p i) (pat p k) = true)→(∀ i,r≤i→i < k→lt (pat p k) (pat p i) = true)→J s →
  (∀ l' s',l'≤k→(∀ i,i < l'→lt (pat p i) (pat p k) = true)→(∀ i,l'≤i→i < k→lt (pat p k) (pat p i) = true)→J s'→G l' s')→(kas_place p k f l r).kasWp cmp G s
 | 0,l,r,s,h0,h1,h2,hlo,hhi,hJ,w=>w l s (by omega) hlo (fun i hi=>hhi i (by omega)) hJ
 | f + 1,l,r,s,h0,h1,h2,hlo,hhi,hJ,w=>by
  unfold kas_place
  by_cases e:l ≥ r
  ·rw [if_pos e]
   exact w l s (by omega) hlo (fun i hi=>hhi i (by omega)) hJ
  ·rw [if_neg e]
   have hm1:l≤(l + r) / 2:=by omega
   have hm2:(l + r) / 2 < r:=by omega
   generalize hmd:(l + r) / 2 = md at hm1 hm2
   refine hc _ _ _ s (P.lt (k:=k) hk) (P.lt (k:=md) (by omega)) (P.ne hk (by omega) (by omega)) hJ fun s' hJ'=>?_
   cases c:lt (pat p k) (pat p md) with
   | true =>
    have c':lt (p.getD k 0) (p.getD md 0) = true:=c
    rw [c']
    dsimp only
    rw [if_pos rfl]
    refine place_wp O hc P hk hU f l md s' (by omega) hm1 (by omega) hlo (fun i hi hik=>?_) hJ' w
    by_cases ei:i = md
    ·subst ei;exact c
    ·exact O.tr _ _ _ (P.lt hk) (P.lt (by omega)) (P.lt (by omega)) c (hU md i (by omega) hik)
   | false =>
    have c':lt (p.getD k 0) (p.getD md 0) = false:=c
    rw [c']
    dsimp only
    rw [if_neg Bool.false_ne_true]
    have hl:=O.tot _ _ (P.lt hk) (P.lt (k:=md) (by omega)) (P.ne hk (by omega) (by omega)) c
    refine place_wp O hc P hk hU f (md + 1) r s' (by omega) (by omega) h2 (fun i hi=>?_) hhi hJ' w
    by_cases ei:i = md
    ·subst ei;exact hl
    ·exact O.tr _ _ _ (P.lt (by omega)) (P.lt (by omega)) (P.lt hk) (hU i md (by omega) (by omega)) hl
theorem bub_at (P:Pm n p) {k l:Nat} (hk:k < n) (hl:l≤k) (i:Nat):pat (bubble p k (k - l)) i = if i = l then pat p k else if l < i∧i≤k then pat p (i - 1) else pat p i:=by
 have h:=getElem?_bubble (xs:=p) (src:=k) (by rw [P.size];exact hk) (k - l) (by omega) i
 rw [show k - (k - l) = l by omega] at h
 by_cases e:i = l
 ·rw [if_pos e] at h ⊢
  exact pat_of h
 ·rw [if_neg e] at h ⊢
  by_cases e2:l < i∧i≤k
  ·rw [if_pos e2] at h ⊢
   exact pat_of h
  ·rw [if_neg e2] at h ⊢
   exact pat_of h
theorem bin_wp (O:Ord n lt) (hc:Cmp n lt cmp J) {G:Array Nat→Shared→Prop}:∀ (f k:Nat) (p:Array Nat) (s:Shared),k + f = n→Pm n p→Up lt p k→J s→(∀ p' s',Pm n p'→Up lt p' n→J s'→G p' s')→(kas_bin f p k).kasWp cmp G s
 | 0,k,p,s,hk,P,hU,hJ,w=>by
  have:k = n:=by omega
  subst this
  exact w p s P hU hJ
 | f + 1,k,p,s,hk,P,hU,hJ,w=>by
  unfold kas_bin
  rw [KasT.kasWp_bind]
  refine place_wp O hc P (by omega) hU k 0 k s (by omega) (Nat.zero_le _) (Nat.le_refl _) (fun i hi=>absurd hi (Nat.not_lt_zero _)) (fun i h1 h2=>by omega) hJ fun l s' hl hlo hhi hJ'=>?_
  refine bin_wp O hc f (k + 1) _ s' (by omega) ((bubble_perm p k _).trans P) (fun i j hij hj=>?_) hJ' w
  rw [bub_at P (by omega) hl,bub_at P (by omega) hl]
  by_cases a1:i = l
  ·rw [if_pos a1,if_neg (by omega),if_pos (by omega)]
   exact hhi _ (by omega) (by omega)
  ·rw [if_neg a1]
   by_cases a2:l < i
   ·rw [if_pos (by omega),if_neg (by omega),if_pos (by omega)]
    exact hU _ _ (by omega) (by omega)
   ·rw [if_neg (by omega)]
    by_cases a3:j = l
    ·rw [if_pos a3]
     exact hlo i (by omega)
    ·rw [if_neg a3]
     by_cases a4:l < j
     ·rw [if_pos (by omega)]
      by_cases a5:i = j - 1
      ·omega
      ·exact hU _ _ (by omega) (by omega)
     ·rw [if_neg (by omega)]
      exact hU _ _ hij (by omega)
theorem sort_wp (O:Ord n lt) (hc:Cmp n lt cmp J) (h2:2≤n) {G:Array Nat→Shared→Prop} {s:Shared} (hJ:J s) (w:∀ p' s',Pm n p'→Up lt p' n→J s'→G p' s'):(kas_sort n).kasWp cmp G s:=by
 unfold kas_sort
 rw [KasT.kasWp_bind]
 refine count_wp O hc (Array.Perm.refl _) h2 hJ fun q p' s' P h1 hq hU hJ'=>?_
 by_cases e:q < n
 ·rw [if_pos e,show max q 1 = q by omega]
  exact bin_wp O hc (n - q) q p' s' (by omega) P hU hJ' w
 ·rw [if_neg e]
  have:q = n:=by omega
  subst this
  exact w p' s' P hU hJ'
end
end L2
namespace L2
open PySem PySem.W PyProof.Rows
section
variable {prog:Program} {w:World} {A:Around} {E:Value→Shared→Prop} {s:Shared} {lt:Nat→Nat→Bool} {κ:SortKind}
def Keep (a:Addr) (s s':Shared):Prop:=∀ b o,b≠a→s.heap.get? b = some o→s'.heap.get? b = some o
theorem range_out (vs:List Value):((List.range vs.length).toArray.toList.map fun i=>vs.getD i Value.none) = vs:=by
 apply List.ext_getElem
 ·simp
 ·intro i h1 h2
  simp only [List.getElem_map,List.getElem_range]
  rw [List.getD_eq_getElem?_getD,List.getElem?_eq_getElem h2];rfl
theorem lsort_by {a:Addr} {vs:List Value} {n0:Nat} {P:PySem.Fin→Shared→Prop} (ho:s.heap.get? a = some (seqObj "list" vs.toArray n0)) (h64:vs.length < 64) (O:Ord vs.length lt)
  (hk:2≤vs.length→∀ (s':Shared) (Q:SortKind→Shared→Prop),Keep a s s'→Q κ s'→wpAny (model prog w) A (keyKind' vs.toArray) Q (fun _ _=>False) s')
  (hl:∀ (i j:Nat) (s':Shared) (C:Bool→Shared→Prop),i < vs.length→j < vs.length→i≠j→Keep a s s'→(∀ tk,C (lt i j) { s' with toks:=tk })→wpAny (model prog w) A (keyLt' κ (vs.getD i Value.none) (vs.getD j Value.none)) C (fun _ _=>False) s')
  (h:∀ (p:Array Nat) (tk:Nat),Pm vs.length p→Up lt p vs.length→P (.done (.ret .none)) { s with toks:=tk,heap:=sortedHeap s.heap a vs (p.toList.map fun i=>vs.getD i Value.none).toArray }) :
  wpAny (model prog w) A (Builtin.«list.sort» ⟨[.ref a],[]⟩) P E s:=by
 have ha:a < s.heap.objs.size:=Heap.lt_size ho
 rw [list_sort_plain]
 refine wpAny_bind (listItems_at ho rfl ?_)
 refine wpAny_bind (listUpdate_at ho rfl ?_ (by rw [List.size_toArray,sizeLine_eq];omega) (Nat.zero_le _))
 obtain ⟨ep,hz⟩:∃ ep,(s.heap.update a (Obj.mapSeq fun _=>#[])).get? a = some (seqObj "list" #[] ep):=⟨_,get?_update_seq ho (fun _=>#[])⟩
 refine wpAny_bind (seqEpoch_at hz rfl ?_)
 refine wpAny_bind (wpAny_newTuple ?_ (by show vs.length≤sizeLine;rw [sizeLine_eq];omega))
 refine wpAny_bind (wpAny_newList ?_ (Nat.zero_le _))
 refine wpAny_holding ?_
 have hz2:(((s.heap.update a (Obj.mapSeq fun _=>#[])).push (seqObj "tuple" vs.toArray 0)).push (seqObj "list" #[] 0)).get? a = some (seqObj "list" #[] ep):=Heap.get?_push_of_some _ (Heap.get?_push_of_some _ hz)
 have kp:Keep a s { s with heap:=((s.heap.update a (Obj.mapSeq fun _=>#[])).push (seqObj "tuple" vs.toArray 0)).push (seqObj "list" #[] 0) }:=fun b o hb q =>
  Heap.get?_push_of_some _ (Heap.get?_push_of_some _ ((Heap.get?_update_ne _ _ _ _ hb).trans q))
 show wpAny (model prog w) A _ P E { s with heap:=((s.heap.update a (Obj.mapSeq fun _=>#[])).push (seqObj "tuple" vs.toArray 0)).push (seqObj "list" #[] 0) }
 dsimp only
 have hsz:vs.toArray.size = vs.length:=by simp
 by_cases h2:vs.toArray.size < 2
 ·rw [if_pos h2,if_pos h2]
  refine wpAny_bind (wpAny_pure ?_)
  rw [StateT.run_pure]
  refine wpAny_bind (wpAny_pure ?_)
  dsimp only
  refine wpAny_bind (seqEpoch_at hz2 rfl ?_)
  have eo:(arrOf (SortSt.mk' general' (vs.toArray.zip vs.toArray) #[] 7 none)).map (·.2) = vs.toArray:=by
   exact Array.map_snd_zip (as:=vs.toArray) (bs:=vs.toArray) (Nat.le_refl _)
  rw [eo]
  refine wpAny_bind (listUpdate_at hz2 rfl ?_ (hsz2:=by rw [List.size_toArray,sizeLine_eq];omega))
  simp only [bne_self_eq_false,Bool.false_eq_true,if_false]
  have g:=h (List.range vs.length).toArray s.toks (Array.Perm.refl _) (fun i j hij hj=>by omega)
  rw [range_out] at g
  exact wpAny_pure g
 ·rw [if_neg h2,if_neg h2]
  have h2':2≤vs.length:=by omega
  refine wpAny_bind (wpAny_mono (hk h2' _ (fun κ' s'=>κ' = κ∧s' = { s with heap:=((s.heap.update a (Obj.mapSeq fun _=>#[])).push (seqObj "tuple" vs.toArray 0)).push (seqObj "list" #[] 0) }) kp ⟨rfl,rfl⟩) (fun κ' s' hκ=>?_) fun _ _ x=>x.elim)
  obtain ⟨rfl,rfl⟩:=hκ
  refine wpAny_bind (wpAny_mono (kat_run (κ:=κ') (ks:=vs) (vs:=vs) (Q:=fun st' s'=>∃ (p:Array Nat) (tk:Nat),Pm vs.length p∧Up lt p vs.length∧arrOf st' = p.map (kas_item (vs.toArray.zip vs.toArray))∧failedOf st' = none∧s' = { s with toks:=tk,heap:=((s.heap.update a (Obj.mapSeq fun _=>#[])).push (seqObj "tuple" vs.toArray 0)).push (seqObj "list" #[] 0) })
   (G:=fun p s'=>∃ tk:Nat,Pm vs.length p∧Up lt p vs.length∧s' = { s with toks:=tk,heap:=((s.heap.update a (Obj.mapSeq fun _=>#[])).push (seqObj "tuple" vs.toArray 0)).push (seqObj "list" #[] 0) })
   rfl h2' h64 (fun p st' s' _ a2 a3 ⟨tk,b1,b2,b3⟩=>⟨p,tk,b1,b2,a2,a3,b3⟩)
   (sort_wp (J:=fun s'=>∃ tk:Nat,s' = { s with toks:=tk,heap:=((s.heap.update a (Obj.mapSeq fun _=>#[])).push (seqObj "tuple" vs.toArray 0)).push (seqObj "list" #[] 0) }) O (fun i j C s' hi hj hij hJ hC=>?_) h2' ⟨s.toks,rfl⟩ fun p' s' hP hU ⟨tk,e⟩=>⟨tk,hP,hU,e⟩)) ?_ fun _ _ e=>e)
  ·obtain ⟨tk,rfl⟩:=hJ
   exact hl i j _ C hi hj hij kp fun tk'=>hC _ ⟨tk',rfl⟩
  rintro ⟨⟨⟩,st'⟩ s' ⟨p,tk,hP,hU,har,hf,rfl⟩
  dsimp only
  refine wpAny_bind (seqEpoch_at hz2 rfl ?_)
  rw [kat_snds rfl har]
  have lp:p.toList.length = vs.length:=by rw [Array.length_toList];exact hP.size
  refine wpAny_bind (listUpdate_at hz2 rfl ?_ (hsz2:=by rw [List.size_toArray,List.length_map,lp,sizeLine_eq];omega))
  rw [hf]
  simp only [bne_self_eq_false,Bool.false_eq_true,if_false]
  exact wpAny_pure (h p tk hP hU)
theorem sorted_by {x:Value} {Q:Value→Shared→Prop}
  (hc:wpAny (model prog w) A.in1 (collect x) (fun vs s1=>vs.length < 64∧∃ (lt:Nat→Nat→Bool) (κ:SortKind),Ord vs.length lt ∧
   (2≤vs.length→∀ (s':Shared) (R:SortKind→Shared→Prop),(∀ b o,s1.heap.get? b = some o→s'.heap.get? b = some o)→R κ s'→wpAny (model prog w) A.in1.in1 (keyKind' vs.toArray) R (fun _ _=>False) s') ∧
   (∀ (i j:Nat) (s':Shared) (C:Bool→Shared→Prop),i < vs.length→j < vs.length→i≠j→(∀ b o,s1.heap.get? b = some o→s'.heap.get? b = some o)→(∀ tk,C (lt i j) { s' with toks:=tk })→wpAny (model prog w) A.in1.in1 (keyLt' κ (vs.getD i Value.none) (vs.getD j Value.none)) C (fun _ _=>False) s') ∧
   ∀ (p:Array Nat) (tk:Nat) (h':Heap) (e:Nat),Pm vs.length p→Up lt p vs.length→(∀ b o,s1.heap.get? b = some o→h'.get? b = some o)→h'.get? s1.heap.objs.size = some (seqObj "list" (p.toList.map fun i=>vs.getD i Value.none).toArray e)→Q (.ref s1.heap.objs.size) { s1 with toks:=tk,heap:=h' }) (fun _ _=>False) s) :
  wpAny (model prog w) A (call (.builtin "sorted") [x]) Q E s:=by
 refine Calls.call_function_entry kind_sorted plain_sorted entry_sorted (args_sorted1 _) ?_
 unfold Builtin.«sorted»
 refine wpAny_bind (m:=checkCount "sorted" 1 1 _) (wpAny_pure ?_)
 refine wpAny_bind (wpAny_mono hc (fun vs s1 ⟨h64,lt,κ,O,hk,hl,hq⟩=>?_) fun _ _ z=>z.elim)
 refine wpAny_bind (wpAny_newList ?_ (by show vs.length≤sizeLine;rw [sizeLine_eq];omega))
 have hn:(s1.heap.push (seqObj "list" vs.toArray 0)).get? s1.heap.objs.size = some (seqObj "list" vs.toArray 0):=Heap.get?_push_size _ rfl
 have old:∀ b o,s1.heap.get? b = some o→b≠s1.heap.objs.size∧(s1.heap.push (seqObj "list" vs.toArray 0)).get? b = some o:=fun b o q=>⟨Nat.ne_of_lt (Heap.lt_size q),Heap.get?_push_of_some _ q⟩
 show wpAny _ _ _ _ _ { s1 with heap:=s1.heap.push (seqObj "list" vs.toArray 0) }
 refine wpAny_bind (wpAny_holding (wpAny_call_entry slot_list_sort ⟨_,hn,rfl⟩ entry_list_sort ?body (args_list_sort _)))
 case body =>
  refine lsort_by (s:={ s1 with heap:=s1.heap.push (seqObj "list" vs.toArray 0) }) hn h64 O (fun h2 s' R kp hR=>hk h2 s' R (fun b o q=>kp b o (old b o q).1 (old b o q).2) hR)
   (fun i j s' C hi hj hij kp hC=>hl i j s' C hi hj hij (fun b o q=>kp b o (old b o q).1 (old b o q).2) hC) fun p tk hP hU=>⟨_,rfl,wpAny_pure ⟨_,rfl,?_⟩⟩
  obtain ⟨e,he⟩:=sortedHeap_at (h:=s1.heap.push (seqObj "list" vs.toArray 0)) (a:=s1.heap.objs.size) (vs:=vs) (out:=(p.toList.map fun i=>vs.getD i Value.none).toArray) hn
  refine hq p tk _ e hP hU (fun b o q=>?_) he
  rw [sortedHeap_old (old b o q).1 (by have:=Heap.lt_size q;rw [size_push'];exact Nat.lt_succ_of_lt this)]
  exact (old b o q).2
end
end L2
namespace L2
open PySem PySem.Spec PyProof.Rows PySem.W
section
variable {X:Cx} {pins:List (Addr×Obj)} {σ:St} {H:Hp} {s:Shared} {h':Heap}
theorem ObjOk.obj {P:Program} {w:World} {h:Heap} {a:Addr} {o:HO} (x:ObjOk P w H h a o):∃ ob,h.get? a = some ob:=by
 cases o with
 | lst xs=>obtain ⟨_,_,_,_,e⟩:=x;exact ⟨_,e⟩
 | tup xs=>obtain ⟨_,_,_,ob,e,_⟩:=x;exact ⟨ob,e⟩
 | dK kvs=>obtain ⟨_,_,_,_,ob,_,_,e,_⟩:=x;exact ⟨ob,e⟩
 | dT kvs=>obtain ⟨_,_,_,_,ob,_,_,e,_⟩:=x;exact ⟨ob,e⟩
 | set S n=>obtain ⟨ob,_,_,_,e,_⟩:=x;exact ⟨ob,e⟩
 | ins C dx fs=>obtain ⟨_,_,_,e,_⟩:=x;exact ⟨_,e⟩
 | own y=>exact x
 | xd fs=>obtain ⟨_,⟨ob,_,_,e,_⟩,_⟩:=x;exact ⟨ob,e⟩
 | rng lo hi=>obtain ⟨_,_,_,e⟩:=x;exact ⟨_,e⟩
 | frz ob u=>obtain ⟨e,_⟩:=x;exact ⟨ob,e⟩
 | tbl ps=>exact ⟨_,x⟩
 | met f y=>exact ⟨_,x⟩
 | ext φ=>obtain ⟨_,e,_⟩:=x;exact e
theorem Inv.laidL {t':Nat} (H':Hp) (I:Inv X pins σ H s) (k:∀ b u,s.heap.get? b = some u→h'.get? b = some u) (hs:∀ b u,H b = some u→H' b = some u) (hn:∀ b u,H' b = some u→H b = none→(∀ o,s.heap.get? b≠some o)∧ObjOk X.prog X.w H' h' b u) :
  Inv X pins σ H' { s with heap:=h',toks:=t' }:=by
 have hf:∀ b o,s.heap.get? b = some o→H b = none→H' b = none:=fun b o q n=>by
  cases e:H' b with
  | none=>rfl
  | some u=>exact absurd q ((hn b u e n).1 o)
 refine I.un ⟨fun b u q _ _ _=>k b u q,fun b u q _ _ _=>⟨u.slots,k b u q⟩,fun b u q n _=>hf b u q n,fun b u q _=>⟨u,k b u q⟩,fun b xs q=>hs b _ q,fun b o u q=>hs b _ q,fun b ps q=>⟨#[],by rw [hs b _ q];simp⟩⟩ fun b u e=>?_
 cases q:H b with
 | none=>exact (hn b u e q).2
 | some v =>
  have e2:=hs b v q
  rw [e] at e2
  cases e2
  exact (I.hok b _ q).stay (fun c z _ r=>k c z r) (fun c r=>hs c _ r) fun c xs r=>hs c _ r
def ValuesV (p d:Addr):HO:=.ext fun h=>h.IsValuesView p d
theorem valuesV_ok {P:Program} {w:World} {h:Heap} {p d:Addr} (hv:h.IsValuesView p d):ObjOk P w H h p (ValuesV p d) :=
 ⟨hv,(let ⟨o,ho,_⟩:=hv;⟨o,ho⟩),fun h1 h2 ⟨o,ho,r⟩ k=>⟨o,k _ ho,r⟩⟩
theorem dk_at {a:Addr} {kvs:List (Key×V)} (I:Inv X pins σ H s) (e:H a = some (.dK kvs)):kvs.length≤sizeLine∧(a == sysModules) = false∧∃ vs ep,KV kvs vs∧s.heap.DictAt (mixKind X.prog X.w) a vs ep:=by
 obtain ⟨z,hs,vs,rel,o,es,ep,r⟩:=dk_of I.hok e
 exact ⟨z,hs,vs,ep,rel,o,es,r⟩
def tValues (td:TE):TE:=fun σ H Q=>td σ H fun x H1=>∃ a kvs,x = .ref a∧H1 a = some (.dK kvs)∧∀ p,H1 p = none→Q (.ref p) (upd H1 p (ValuesV p a))
theorem pe_values {l:Expr} {tl:TE} {apos cpos:Pos} (hl:PE X l tl) (hbase:attributeBase l "values" X.env (eval l X.env) = eval l X.env:=by rfl) (hline:(apos.endLine == cpos.line) = true:=by rfl) :
  PE X (.Call (.Attribute l "values" apos) [] [] cpos) (tValues tl):=by
 intro pins s σ H Q I h
 refine wpAny_Call_method0_late hbase hline (thn (hl pins s σ H _ I h) fun v s1 ⟨x,H1,I1,r1,a,kvs,ex,ea,q⟩=>?_)
 subst ex
 cases r1
 obtain ⟨z,hs,vs,ep,rel,dat⟩:=dk_at I1 ea
 have hT:s1.TypeIs (.ref a) "dict":=dat.dictOf.typeIs
 obtain ⟨o,es,ho,hx,r⟩:=id dat
 refine ⟨"dict", "dict.values",PySem.F.plainAttrs_dict,PySem.F.slot_dict_values,PySem.F.type_dict_values,hT,(fun b e=>by injection e with e;subst e;exact ⟨o,ho,hx.2.1⟩),?_⟩
 refine Calls.callWith_builtin rfl (PySem.evalArgs_none ?_)
 refine call_meetsIn PySem.F.slot_dict_values hT PySem.F.entry_dict_values (PySem.F.args_dict_values_1 _) (meets_dict_values (mixKind X.prog X.w) a hs) ⟨⟨vs,dat.dictOf⟩,?_⟩
 exact ⟨.ref s1.heap.objs.size,_,I1.laid (o:=ValuesV s1.heap.objs.size a) (t':=s1.toks) (fun b o q=>Heap.get?_push_of_some _ q) (Nat.le_refl _) (valuesV_ok ⟨_,Heap.get?_push_size _ rfl,rfl,rfl⟩),rfl,q _ (I1.hok.fresh (Nat.le_refl _))⟩
theorem kv_vals:∀ {κ:Type} {kvs:List (κ×V)} {vs:List (κ×Value)},KV kvs vs→Vals (kvs.map (·.2)) (vs.map (·.2))
 | _,[],[],_=>.nil
 | _,_ :: _,_ :: _,.cons h t=>.cons h.2 (kv_vals t)
def rListV:List V→Hp→VK→Prop:=fun xs H Q=>∃ v a kvs,xs = [.ref v]∧H v = some (ValuesV v a)∧H a = some (.dK kvs)∧∀ p,H p = none→Q (.ref p) (upd H p (.lst (kvs.map (·.2))))
theorem call_listV (hin:X.A.handled = none):CallR X (.type "list") rListV:=by
 intro pins s σ H xs us Q I r h
 obtain ⟨v,a,kvs,rfl,hv,ha,q⟩:=h
 obtain ⟨u,rfl,ru⟩:=vals1 r
 cases ru
 obtain ⟨z,hs,vs,ep,rel,dat⟩:=dk_at I ha
 have vw:s.heap.IsValuesView v a:=(I.hok _ _ hv).1
 have hlen:vs.length = kvs.length:=rel.length.symm
 refine kdl_call (kdl_values (knd:=mixKind X.prog X.w) (kvs:=vs) (ep:=ep)) hin ⟨vw,dat⟩ (by omega) fun h' tk acc c hk hS hI=>?_
 have ev:acc.toList = vs.map (·.2):=kdl_vals_eq acc.toList (by rw [Array.length_toList,hI.1]) fun j w hj=>hI.2 j w (by simpa using hj)
 have hl:(kvs.map (·.2)).length≤sizeLine:=by rw [List.length_map];exact z
 have hv2:=kv_vals rel
 rw [← ev] at hv2
 exact ⟨.ref s.heap.objs.size,_,I.laid (o:=.lst (kvs.map (·.2))) (t':=tk) hk (Nat.le_refl _) ⟨hl,acc.toList,c,hv2,hS⟩,rfl,q _ (I.hok.fresh (Nat.le_refl _))⟩
end
end L2
namespace L2
open PySem PySem.Spec PyProof.Rows PySem.W
end L2
namespace L2
open PySem
open AutoSeq1 (wpAny_loadPart')
section
variable {prog:Program} {w:World} {A:Around} {E:Value→Shared→Prop} {s:Shared}
end
end L2
namespace L2
open PySem PySem.Spec PyProof.Rows PySem.W
end L2
namespace L2
open PySem PySem.Spec PyProof.Rows PySem.W
section
variable {M:Model} {A:Around} {E:Value→Shared→Prop} {s:Shared} {env:Env}
end
section
variable {X:Cx}
end
end L2
namespace L2
open PySem PySem.W PySem.Calls PyProof.Rows
theorem sw_slot_iter:Slot "set_iterator" "__iter__" "set_iterator.__iter__":=Slot.of (owner:="set_iterator") (n:="__iter__") (by rw [typeLookup_type,builtinLookup_eq_fast];kernel_rfl) (by decide +kernel)
 (by decide +kernel) (by decide +kernel) (by first | exact .inl (by decide +kernel) | exact .inr (by decide +kernel)) (by rw [isSubtype_type];kernel_rfl)
theorem sw_slot_next:Slot "set_iterator" "__next__" "set_iterator.__next__":=Slot.of (owner:="set_iterator") (n:="__next__") (by rw [typeLookup_type,builtinLookup_eq_fast];kernel_rfl) (by decide +kernel)
 (by decide +kernel) (by decide +kernel) (by first | exact .inl (by decide +kernel) | exact .inr (by decide +kernel)) (by rw [isSubtype_type];kernel_rfl)
theorem sw_entry_iter:entryFor table "set_iterator.__iter__" = some Builtin.«dict_keyiterator.__iter__»:=entryFor_alias (id':="dict_keyiterator.__iter__") (by kernel_rfl) rfl (by decide +kernel) (by kernel_rfl)
theorem sw_entry_next:entryFor table "set_iterator.__next__" = some Builtin.«set_iterator.__next__»:=entryFor_of_tree (by kernel_rfl)
theorem sw_entry_set:entryFor table "set.__iter__" = some Builtin.«frozenset.__iter__»:=entryFor_alias (id':="frozenset.__iter__") (by kernel_rfl) rfl (by decide +kernel) (by kernel_rfl)
theorem sw_args_iter (a:Value):argsOk "set_iterator.__iter__" ⟨[a],[]⟩:=by unfold argsOk;kernel_rfl
theorem sw_args_next (a:Value):argsOk "set_iterator.__next__" ⟨[a],[]⟩:=by unfold argsOk;kernel_rfl
theorem erase_perm {α:Type}:∀ (xs:List α) (i:Nat) (hi:i < xs.length),(xs[i] :: xs.eraseIdx i).Perm xs
 | [],i,h=>by simp at h
 | x :: xs,0,_=>List.Perm.refl _
 | x :: xs,i + 1,h=>by
  have:=erase_perm xs i (by simpa using h)
  exact (List.Perm.swap _ _ _).trans ((List.perm_cons x).mpr this)
section
variable {M:Model} {A:Around} {E:Value→Shared→Prop}
theorem choose_any {s:Shared} {src:Source} {n:Nat} {Q:Nat→Shared→Prop} (hn:n≠0) (h:∀ i d,i < n→Q i { s with drawn:=d }):wpAny M A (choose src n) Q E s:=by
 intro Γ p hΓ
 unfold choose
 rw [Sem.wp_choose]
 refine ⟨hn,?_⟩
 exact wpAny_pure (h _ _ (Nat.mod_lt _ (Nat.pos_of_ne_zero hn))) Γ p hΓ
theorem draw_any {α:Type}:∀ (n:Nat) (xs:List α) (s:Shared) {Q:List α→Shared→Prop},xs.length = n→(∀ ys d,ys.Perm xs→Q ys { s with drawn:=d })→wpAny M A (drawOrder n xs) Q E s
 | 0,[],s,Q,_,h=>by
  unfold drawOrder
  exact wpAny_pure (h [] s.drawn (List.Perm.refl _))
 | 0,_ :: _,_,_,hl,_=>by simp at hl
 | _ + 1,[],_,_,hl,_=>by simp at hl
 | n + 1,x :: xs,s,Q,hl,h=>by
  unfold drawOrder
  refine wpAny_bind (choose_any (by simp) fun i d hi=>?_)
  have e:(x :: xs)[i]? = some (x :: xs)[i]:=List.getElem?_eq_getElem hi
  rw [e]
  dsimp only
  refine wpAny_bind (draw_any n ((x :: xs).eraseIdx i) { s with drawn:=d } (by rw [List.length_eraseIdx_of_lt hi];simpa using hl) fun ys d' hp=>?_)
  refine wpAny_pure (h _ d' ?_)
  exact ((List.perm_cons _).mpr hp).trans (erase_perm _ _ hi)
end
theorem pick_go {α:Type} (next:Nat→Nat):∀ (fuel k:Nat) (left:List α) (out:Array α),left.length = fuel→((pickOrder.go next fuel k left out).toList).Perm (out.toList++left)
 | 0,_,[],out,_=>by unfold pickOrder.go;simp
 | 0,_,_ :: _,_,h=>by simp at h
 | _ + 1,_,[],_,h=>by simp at h
 | fuel + 1,k,x :: xs,out,h=>by
  unfold pickOrder.go
  have hi:next k % (x :: xs).length < (x :: xs).length:=Nat.mod_lt _ (by simp)
  have e:(x :: xs)[next k % (x :: xs).length]? = some (x :: xs)[next k % (x :: xs).length]:=List.getElem?_eq_getElem hi
  rw [e]
  dsimp only
  refine (pick_go next fuel (k + 1) _ _ (by rw [List.length_eraseIdx_of_lt hi];simpa using h)).trans ?_
  rw [Array.toList_push,List.append_assoc]
  exact (List.perm_append_left_iff _).mpr (erase_perm _ _ hi)
theorem pick_perm {α:Type} (next:Nat→Nat) (xs:Array α):((pickOrder next xs).toList).Perm xs.toList:=by
 unfold pickOrder
 have:=pick_go next xs.size 0 xs.toList #[] (by simp)
 simpa using this
structure SetRaw (w:World) (h:Heap) (a:Addr) (es:Array (Int×Value)) (ep:Nat) (t:SetTable):Prop where
 o:∃ o,h.get? a = some o∧o.ExactSet∧o.data = .set es ep t
 fits:t.fits es.size = true
 small:es.size < scanBound
 led:w.params.followText "set-order" = false→t.led = true
 plain:1 < es.size→t.plain = false
theorem SetRaw.at {w:World} {h h':Heap} {a:Addr} {es:Array (Int×Value)} {ep:Nat} {t:SetTable} (x:SetRaw w h a es ep t) (k:∀ o,h.get? a = some o→h'.get? a = some o):SetRaw w h' a es ep t :=
 ⟨let ⟨o,ho,r⟩:=x.o;⟨o,k _ ho,r⟩,x.fits,x.small,x.led,x.plain⟩
theorem SetRaw.typeIs {w:World} {s:Shared} {a:Addr} {es:Array (Int×Value)} {ep:Nat} {t:SetTable} (x:SetRaw w s.heap a es ep t):s.TypeIs (.ref a) "set":=let ⟨o,ho,hx,_⟩:=x.o;⟨o,ho,hx.1⟩
theorem SetRaw.lt {w:World} {h:Heap} {a:Addr} {es:Array (Int×Value)} {ep:Nat} {t:SetTable} (x:SetRaw w h a es ep t):a < h.objs.size:=let ⟨_,ho,_⟩:=x.o;Heap.lt_size ho
section
variable {prog:Program} {w:World} {A:Around} {E:Value→Shared→Prop}
def itO (first:Value) (i:Nat) (a:Addr) (n ep:Nat):Obj:={ cls:=.type "set_iterator",data:=.fields #[first,.int i 0,.ref a,.int n 0,.int ep 0] }
inductive Mode (w:World) (a:Addr) (es:Array (Int×Value)) (ep:Nat) (t:SetTable):List Addr→(Nat→Heap→Value→Prop)→List Value→Prop
 | drawn (tp:Addr) (ps:List Nat):ps.Perm (List.range es.size)→Mode w a es ep t [tp] (fun _ h v=>v = .ref tp∧h.get? tp = some { cls:=.type "tuple",data:=.seq (ps.map fun (i:Nat)=>rawInt i).toArray }) (ps.map fun p=>(es.getD p (0,.none)).2)
 | text:w.params.followText "set-order" = true→Mode w a es ep t [] (fun _ _ v=>v = .int 0 0) ((pickOrder (w.params.setOrder a ep) es).toList.map (·.2))
 | one:w.params.followText "set-order" = false→es.size≤1→Mode w a es ep t [] (fun i _ v=>v = .int (if i = 0 then 0 else ((t.place.getD 0 0 + 1:Nat):Int)) 0) (es.toList.map (·.2))
theorem ord_perm {w:World} {a:Addr} {es:Array (Int×Value)} {ep:Nat} {t:SetTable} {tps:List Addr} {F:Nat→Heap→Value→Prop} {ord:List Value} (md:Mode w a es ep t tps F ord):ord.Perm (es.toList.map (·.2)):=by
 cases md with
 | drawn tp ps hp =>
  have h:=hp.map fun p=>(es.getD p (0,Value.none)).2
  have e:(List.range es.size).map (fun p=>(es.getD p (0,Value.none)).2) = es.toList.map (·.2):=by
   apply List.ext_getElem
   ·simp
   ·intro i h1 h2
    simp only [List.getElem_map,List.getElem_range]
    have hi:i < es.size:=by simpa using h2
    rw [Array.getD,dif_pos hi]
    simp
  rw [e] at h
  exact h
 | text bt=>exact (pick_perm _ es).map _
 | one bt h1=>exact List.Perm.refl _
theorem iter_set {s:Shared} {a:Addr} {es:Array (Int×Value)} {ep:Nat} {t:SetTable} {Q:Value→Shared→Prop} (hs:SetRaw w s.heap a es ep t)
  (h:∀ (h':Heap) (d:Drawn) (it:Addr) (tps:List Addr) (F:Nat→Heap→Value→Prop) (ord:List Value) (first:Value),(∀ b o,s.heap.get? b = some o→h'.get? b = some o)→(∀ o,s.heap.get? it≠some o)→(∀ b∈tps,b≠it∧∀ o,s.heap.get? b≠some o)→Mode w a es ep t tps F ord→F 0 h' first→h'.get? it = some (itO first 0 a es.size ep)→Q (.ref it) { s with heap:=h',drawn:=d }) :
  wpAny (model prog w) A (pyIter (.ref a)) Q E s:=by
 obtain ⟨o,ho,hx,hd⟩:=hs.o
 refine wpAny_pyIter_slot hs.typeIs PySem.F.slot_set_iter (wpAny_call_entry PySem.F.slot_set_iter hs.typeIs sw_entry_set ?_ (PySem.F.args_set_iter_1 _))
 unfold Builtin.«frozenset.__iter__» Builtin.Frozenset.slot0 slotArgs
 simp only [List.isEmpty_nil,Bool.not_true,Bool.false_eq_true,↓reduceIte,bind_assoc,List.length_nil,bne_self_eq_false]
 unfold Builtin.Frozenset.addrOf Builtin.Frozenset.sizeOf
 refine wpAny_bind (wpAny_pure ?_)
 dsimp only
 refine wpAny_bind (wpAny_pure ?_)
 refine wpAny_bind (wpAny_bind (wpAny_setEntries_of ho hd hs.fits (wpAny_pure ?_)))
 have hset:∀ (Q':Bool→Shared→Prop),Q' (!w.params.followText "set-order" && (!t.plain && decide (es.size > 1))) s→wpAny (model prog w) A.in1 (setDrawn a) Q' E s:=fun Q' hq=>by
  unfold setDrawn
  refine wpAny_bind (wpAny_setState_of ho hd hs.fits ?_)
  dsimp only
  unfold setsByText
  refine wpAny_bind (wpAny_bind (wpAny_askSetting (wpAny_pure ?_)))
  exact wpAny_pure hq
 refine wpAny_bind (hset _ ?_)
 have bylast:∀ (first:Value) (h1:Heap) (d:Drawn) (tps:List Addr) (F:Nat→Heap→Value→Prop) (ord:List Value),(∀ b u,s.heap.get? b = some u→h1.get? b = some u)→(∀ b∈tps,b < h1.objs.size∧s.heap.objs.size≤b)→Mode w a es ep t tps F ord→(∀ h2,(∀ b u,h1.get? b = some u→h2.get? b = some u)→F 0 h2 first) →
   wpAny (model prog w) A.in1 (do
    let e ← setEpoch a
    let r ← newFields "set_iterator" [first,rawInt 0,Value.ref a,rawInt ((es.size:Nat):Int),rawInt ((e:Nat):Int)]
    ret r) (fun fin s'=>∃ v,fin = Fin.done (Flow.ret v)∧∃ T' r,s'.TypeIs v T'∧typeLookup (Value.type T') (Str.ofString "__next__") = pure (some r)∧Q v s') E { s with heap:=h1,drawn:=d }:=fun first h1 d tps F ord k1 ht md hF=>by
  refine wpAny_bind (wpAny_setEpoch_of (k1 _ _ ho) hd hs.fits ?_)
  unfold newFields
  refine wpAny_bind (wpAny_newObj_type ?_ (by size_fits))
  refine wpAny_pure ⟨_,rfl, "set_iterator",_,⟨_,Heap.get?_push_size _ rfl,rfl⟩,sw_slot_next.lookup,?_⟩
  refine h _ d _ tps F ord first (fun b u q=>Heap.get?_push_of_some _ (k1 _ _ q)) (fun u q=>absurd (Heap.lt_size (k1 _ _ q)) (Nat.lt_irrefl _)) (fun b hb=>⟨Nat.ne_of_lt (ht b hb).1,fun u q=>absurd (Nat.lt_of_lt_of_le (Heap.lt_size q) (ht b hb).2) (Nat.lt_irrefl _)⟩) md (hF _ fun b u q=>Heap.get?_push_of_some _ q) (Heap.get?_push_size _ rfl)
 by_cases c:(!w.params.followText "set-order" && (!t.plain && decide (es.size > 1))) = true
 ·rw [if_pos c]
  simp only [Bool.and_eq_true,Bool.not_eq_true',decide_eq_true_eq] at c
  refine wpAny_bind (draw_any es.size (List.range es.size) s (by simp) fun ps d hp=>?_)
  refine wpAny_bind (wpAny_newTuple ?_ (by rw [List.length_map,hp.length_eq,List.length_range];exact Nat.le_of_lt (Nat.lt_of_lt_of_le hs.small (by rw [sizeLine_eq];decide))))
  exact bylast (.ref s.heap.objs.size) _ d _ _ _ (fun b u q=>Heap.get?_push_of_some _ q) (fun b hb=>by rw [List.mem_singleton.mp hb,size_push'];exact ⟨Nat.lt_succ_self _,Nat.le_refl _⟩) (.drawn s.heap.objs.size ps hp) fun h2 k2=>⟨rfl,k2 _ _ (Heap.get?_push_size _ rfl)⟩
 ·rw [if_neg c]
  refine wpAny_bind (wpAny_pure ?_)
  cases bt:w.params.followText "set-order" with
  | true=>exact bylast (rawInt 0) s.heap s.drawn [] _ _ (fun _ _ q=>q) (fun b hb=>by simp at hb) (.text bt) fun _ _=>rfl
  | false =>
   have hz:es.size≤1:=by
    rcases Nat.lt_or_ge 1 es.size with z | z
    ·exact absurd (by rw [bt,hs.plain z];simpa using z) c
    ·exact z
   exact bylast (rawInt 0) s.heap s.drawn [] _ _ (fun _ _ q=>q) (fun b hb=>by simp at hb) (.one bt hz) fun _ _=>rfl
theorem it_type {s:Shared} {it a:Addr} {first:Value} {i n ep:Nat} (h:s.heap.get? it = some (itO first i a n ep)):s.TypeIs (.ref it) "set_iterator":=⟨_,h,rfl⟩
theorem stop_any {s:Shared} {R:PySem.Fin→Shared→Prop} {Q:Option Value→Shared→Prop} (hh:A.handled = none) (hQ:∀ h',(∀ b o,s.heap.get? b = some o→h'.get? b = some o)→Q none { s with heap:=h' }) :
  wpAny (model prog w) A.in1 (do let e ← newExc (Value.type "StopIteration") [];(raiseNew e:Sem PySem.Fin)) R (fun e s'=>wpAny (model prog w) A (do
    let b ← isInstance e (Value.type "StopIteration")
    if b = true then pure none else throw e) Q E s') s:=by
 refine wpAny_bind ?_
 simp only [newExc,newTuple]
 refine wpAny_bind (wpAny_newObj_type ?_ (by size_fits))
 refine wpAny_bind (m:=firstArgMember _ _) (wpAny_of_eq (a:=Value.none) (by first | rfl | (simp only [firstArgMember];rfl)) ?_)
 refine wpAny_newObj_type ?_ (by size_fits)
 simp only [raiseNew]
 refine wpAny_bind (wpAny_handled ?_)
 rw [show A.in1.handled = none from hh]
 refine wpAny_bind (wpAny_pure (wpAny_throw ?_))
 refine wpAny_bind (wpAny_isInstance (T:="StopIteration") (b:=true) ⟨_,Heap.get?_push_size _ rfl,rfl⟩ isSubtype_stop ?_)
 exact wpAny_pure (hQ _ fun b u q=>Heap.get?_push_of_some _ (Heap.get?_push_of_some _ q))
theorem it_set {h:Heap} {it a:Addr} {first y:Value} {i n ep:Nat} (hi:h.get? it = some (itO first i a n ep)):(h.update it (Obj.mapFields (·.setIfInBounds 0 y))).get? it = some (itO y i a n ep)∧(h.update it (Obj.mapFields (·.setIfInBounds 1 (rawInt ((i:Int) + 1))))).get? it = some (itO first (i + 1) a n ep) :=
 ⟨Heap.get?_update_self _ hi rfl,by rw [Heap.get?_update_self _ hi rfl];rfl⟩
theorem next_tab {s:Shared} {it a:Addr} {es:Array (Int×Value)} {ep:Nat} {t:SetTable} {slot:Int} {tk:Tok} {i nx:Nat} {x:Value} {Q:Option Value→Shared→Prop} (hs:SetRaw w s.heap a es ep t) (hi:s.heap.get? it = some (itO (.int slot tk) i a es.size ep))
  (hn:∀ (E':Value→Shared→Prop) (Q':Option (Value×Nat)→Shared→Prop),Q' (some (x,nx)) s→wpAny (model prog w) A.in1 (setNext a slot.toNat i ep) Q' E' s)
  (hQ:∀ h',Heap.SameBut it s.heap h'→h'.get? it = some (itO (rawInt ((nx:Nat):Int)) (i + 1) a es.size ep)→Q (some x) { s with heap:=h' }):wpAny (model prog w) A (pyNext (.ref it)) Q E s:=by
 obtain ⟨o,ho,hx,hd⟩:=hs.o
 unfold pyNext
 refine wpAny_bind (wpAny_attempt (wpAny_callSpecial?_slot (name:=Str.ofString "__next__") (it_type hi) sw_slot_next (wpAny_call_entry sw_slot_next (it_type hi) sw_entry_next ?_ (sw_args_next _))))
 unfold Builtin.«set_iterator.__next__»
 refine wpAny_bind (wpAny_pure ?_)
 refine wpAny_bind (wpAny_fieldsOf hi rfl ?_)
 dsimp only
 refine wpAny_bind (wpAny_setEntries_of ho hd hs.fits ?_)
 rw [if_neg (by simp)]
 refine wpAny_bind (hn _ _ ?_)
 dsimp only
 have h1:=(it_set (y:=rawInt ((nx:Nat):Int)) hi).1
 have h2:=(it_set (y:=rawInt 0) h1).2
 refine wpAny_bind (wpAny_setField hi rfl (by simp) ?_)
 refine wpAny_bind (wpAny_setField h1 rfl (by simp) ?_)
 exact wpAny_pure ⟨_,rfl,wpAny_pure (hQ _ ((Heap.SameBut.update ..).trans (Heap.SameBut.update ..)) h2)⟩
theorem end_tab {s:Shared} {it a:Addr} {es:Array (Int×Value)} {ep:Nat} {t:SetTable} {slot:Int} {tk:Tok} {i:Nat} {Q:Option Value→Shared→Prop} (hh:A.handled = none) (hs:SetRaw w s.heap a es ep t) (hi:s.heap.get? it = some (itO (.int slot tk) i a es.size ep))
  (hn:∀ (E':Value→Shared→Prop) (Q':Option (Value×Nat)→Shared→Prop),Q' none s→wpAny (model prog w) A.in1 (setNext a slot.toNat i ep) Q' E' s)
  (hQ:∀ h',(∀ b o,b≠it→s.heap.get? b = some o→h'.get? b = some o)→Q none { s with heap:=h' }):wpAny (model prog w) A (pyNext (.ref it)) Q E s:=by
 obtain ⟨o,ho,hx,hd⟩:=hs.o
 unfold pyNext
 refine wpAny_bind (wpAny_attempt (wpAny_callSpecial?_slot (name:=Str.ofString "__next__") (it_type hi) sw_slot_next (wpAny_call_entry sw_slot_next (it_type hi) sw_entry_next ?_ (sw_args_next _))))
 unfold Builtin.«set_iterator.__next__»
 refine wpAny_bind (wpAny_pure ?_)
 refine wpAny_bind (wpAny_fieldsOf hi rfl ?_)
 dsimp only
 refine wpAny_bind (wpAny_setEntries_of ho hd hs.fits ?_)
 rw [if_neg (by simp)]
 refine wpAny_bind (hn _ _ ?_)
 dsimp only
 refine wpAny_bind (wpAny_setField hi rfl (by simp) ?_)
 exact stop_any hh fun h' k=>hQ h' fun b u hb q=>k b u ((Heap.get?_update_ne _ _ _ _ hb).trans q)
theorem next_drw {s:Shared} {it a tp:Addr} {es:Array (Int×Value)} {ep:Nat} {t:SetTable} {ps:List Nat} {i p:Nat} {e:Int×Value} {Q:Option Value→Shared→Prop} (hs:SetRaw w s.heap a es ep t) (hi:s.heap.get? it = some (itO (.ref tp) i a es.size ep))
  (ht:s.heap.get? tp = some { cls:=.type "tuple",data:=.seq (ps.map fun (i:Nat)=>rawInt i).toArray }) (hp:ps[i]? = some p) (he:es[p]? = some e)
  (hQ:∀ h',Heap.SameBut it s.heap h'→h'.get? it = some (itO (.ref tp) (i + 1) a es.size ep)→Q (some e.2) { s with heap:=h' }):wpAny (model prog w) A (pyNext (.ref it)) Q E s:=by
 obtain ⟨o,ho,hx,hd⟩:=hs.o
 unfold pyNext
 refine wpAny_bind (wpAny_attempt (wpAny_callSpecial?_slot (name:=Str.ofString "__next__") (it_type hi) sw_slot_next (wpAny_call_entry sw_slot_next (it_type hi) sw_entry_next ?_ (sw_args_next _))))
 unfold Builtin.«set_iterator.__next__»
 refine wpAny_bind (wpAny_pure ?_)
 refine wpAny_bind (wpAny_fieldsOf hi rfl ?_)
 dsimp only
 refine wpAny_bind (wpAny_setEntries_of ho hd hs.fits ?_)
 rw [if_neg (by simp)]
 refine wpAny_bind ?_
 unfold seqItems?
 refine wpAny_bind (wpAny_load ht (wpAny_pure ?_))
 dsimp only
 have hpi:(ps.map fun (i:Nat)=>rawInt i).toArray[((i:Nat):Int).toNat]? = some (rawInt p):=by
  rw [Int.toNat_natCast]
  simp [hp]
 rw [hpi]
 dsimp only [rawInt]
 refine wpAny_bind ?_
 unfold setNextDrawn
 refine wpAny_bind (wpAny_setState_of ho hd hs.fits ?_)
 dsimp only
 rw [if_neg (by simp)]
 rw [Int.toNat_natCast,he]
 refine wpAny_pure ?_
 have h2:=(it_set (y:=rawInt 0) hi).2
 refine wpAny_bind (wpAny_setField hi rfl (by simp) ?_)
 exact wpAny_pure ⟨_,rfl,wpAny_pure (hQ _ (Heap.SameBut.update ..) h2)⟩
theorem end_drw {s:Shared} {it a tp:Addr} {es:Array (Int×Value)} {ep:Nat} {t:SetTable} {ps:List Nat} {i:Nat} {Q:Option Value→Shared→Prop} (hh:A.handled = none) (hs:SetRaw w s.heap a es ep t) (hi:s.heap.get? it = some (itO (.ref tp) i a es.size ep))
  (ht:s.heap.get? tp = some { cls:=.type "tuple",data:=.seq (ps.map fun (i:Nat)=>rawInt i).toArray }) (hp:ps[i]? = none)
  (hQ:∀ h',(∀ b o,b≠it→s.heap.get? b = some o→h'.get? b = some o)→Q none { s with heap:=h' }):wpAny (model prog w) A (pyNext (.ref it)) Q E s:=by
 obtain ⟨o,ho,hx,hd⟩:=hs.o
 unfold pyNext
 refine wpAny_bind (wpAny_attempt (wpAny_callSpecial?_slot (name:=Str.ofString "__next__") (it_type hi) sw_slot_next (wpAny_call_entry sw_slot_next (it_type hi) sw_entry_next ?_ (sw_args_next _))))
 unfold Builtin.«set_iterator.__next__»
 refine wpAny_bind (wpAny_pure ?_)
 refine wpAny_bind (wpAny_fieldsOf hi rfl ?_)
 dsimp only
 refine wpAny_bind (wpAny_setEntries_of ho hd hs.fits ?_)
 rw [if_neg (by simp)]
 refine wpAny_bind ?_
 unfold seqItems?
 refine wpAny_bind (wpAny_load ht (wpAny_pure ?_))
 dsimp only
 have hpi:(ps.map fun (i:Nat)=>rawInt i).toArray[((i:Nat):Int).toNat]? = none:=by
  rw [Int.toNat_natCast]
  simp
  simpa using hp
 rw [hpi]
 dsimp only
 have h1:=(it_set (y:=rawInt 0) hi).1
 refine wpAny_bind (wpAny_setField hi rfl (by simp) ?_)
 refine wpAny_bind (wpAny_setField h1 rfl (by simp) ?_)
 exact stop_any hh fun h' k=>hQ h' fun b u hb q=>k b u ((Heap.get?_update_ne _ _ _ _ hb).trans ((Heap.get?_update_ne _ _ _ _ hb).trans q))
theorem tab_text {s:Shared} {a:Addr} {es:Array (Int×Value)} {ep slot i:Nat} {t:SetTable} (hs:SetRaw w s.heap a es ep t) (bt:w.params.followText "set-order" = true) (E':Value→Shared→Prop) (Q':Option (Value×Nat)→Shared→Prop)
  (h:Q' (((pickOrder (w.params.setOrder a ep) es)[i]?).map fun e=>(e.2,slot)) s):wpAny (model prog w) A (setNext a slot i ep) Q' E' s:=by
 obtain ⟨o,ho,hx,hd⟩:=hs.o
 unfold setNext
 refine wpAny_bind (wpAny_setState_of ho hd hs.fits ?_)
 dsimp only
 unfold setsByText
 refine wpAny_bind (wpAny_bind (wpAny_askSetting (wpAny_pure ?_)))
 dsimp only
 rw [show (model prog w).w.params.followText "set-order" = true from bt,if_pos rfl,if_neg (by simp)]
 refine wpAny_bind ?_
 unfold setWalk
 refine wpAny_bind (wpAny_setState_of ho hd hs.fits ?_)
 dsimp only
 unfold setsByText
 refine wpAny_bind (wpAny_bind (wpAny_askSetting (wpAny_pure ?_)))
 dsimp only
 rw [show (model prog w).w.params.followText "set-order" = true from bt,if_pos rfl]
 refine wpAny_bind (wpAny_askSetting (wpAny_pure ?_))
 exact wpAny_pure h
theorem tab_one {s:Shared} {a:Addr} {es:Array (Int×Value)} {ep slot i:Nat} {t:SetTable} (hs:SetRaw w s.heap a es ep t) (bt:w.params.followText "set-order" = false) (h1:es.size≤1) (E':Value→Shared→Prop) (Q':Option (Value×Nat)→Shared→Prop)
  (h:Q' (match es[SetTable.below t.place slot]?,t.place[SetTable.below t.place slot]? with | some (_,x),some j=>some (x,j + 1) | _,_=>none) s):wpAny (model prog w) A (setNext a slot i ep) Q' E' s:=by
 obtain ⟨o,ho,hx,hd⟩:=hs.o
 unfold setNext
 refine wpAny_bind (wpAny_setState_of ho hd hs.fits ?_)
 dsimp only
 unfold setsByText
 refine wpAny_bind (wpAny_bind (wpAny_askSetting (wpAny_pure ?_)))
 dsimp only
 rw [show (model prog w).w.params.followText "set-order" = false from bt,if_neg Bool.false_ne_true]
 show wpAny _ _ (if (!t.plain && decide (es.size > 1)) = true then _ else _) _ _ _
 rw [if_neg (by rw [decide_eq_false (by omega),Bool.and_false];exact Bool.false_ne_true)]
 refine wpAny_bind ?_
 show wpAny _ _ (if (!t.led && !es.isEmpty) = true then _ else _) _ _ _
 rw [if_neg (by rw [hs.led bt];exact Bool.false_ne_true)]
 refine wpAny_pure ?_
 exact wpAny_pure h
theorem below_one {j:Nat}:SetTable.below #[j] 0 = 0∧SetTable.below #[j] (j + 1) = 1:=by
 constructor
 ·simp [SetTable.below,SetTable.below.go]
 ·simp [SetTable.below,SetTable.below.go]
theorem place_one {t:SetTable} (h:t.fits 1 = true):∃ j,t.place = #[j]:=by
 simp only [SetTable.fits,Bool.and_eq_true,beq_iff_eq] at h
 exact Array.size_eq_one_iff.mp h.1
theorem walk_set {it a:Addr} {es:Array (Int×Value)} {ep:Nat} {t:SetTable} {tps:List Addr} {F:Nat→Heap→Value→Prop} {ord:List Value} (hh:A.handled = none) (hne:a≠it) (htp:∀ b∈tps,b≠it) (md:Mode w a es ep t tps F ord) :
  Walks prog w A it (it :: a :: tps) [it] es.size (fun i v=>ord[i]? = some v) (fun i h=>SetRaw w h a es ep t∧∃ first,F i h first∧h.get? it = some (itO first i a es.size ep)) where
 sub:=fun b hb=>by rw [List.mem_singleton.mp hb];exact List.mem_cons_self
 frame:=fun i h h' ⟨hs,first,hF,hi⟩ hk=>by
  refine ⟨hs.at fun o e=>hk a (by simp) o e,first,?_,hk it (by simp) _ hi⟩
  cases md with
  | drawn tp ps hp=>exact ⟨hF.1,hk tp (by simp) _ hF.2⟩
  | text bt=>exact hF
  | one bt h1=>exact hF
 item:=fun i s Q E hi ⟨hs,first,hF,hit⟩ hQ=>by
  cases md with
  | drawn tp ps hp =>
   obtain ⟨rfl,ht⟩:=hF
   have hl:ps.length = es.size:=by rw [hp.length_eq,List.length_range]
   have hil:i < ps.length:=by omega
   have hpm:ps[i] < es.size:=List.mem_range.mp (hp.mem_iff.mp (List.getElem_mem hil))
   refine next_drw hs hit ht (List.getElem?_eq_getElem hil) (Array.getElem?_eq_getElem hpm) fun h' sb hi'=>?_
   have ht':=sb.extBut _ _ (htp tp (by simp)) ht
   refine hQ _ h' s.toks ?_ ⟨hs.at fun o e=>sb.extBut _ _ hne e,_,⟨rfl,ht'⟩,hi'⟩ fun b u hb e=>sb.extBut _ _ (fun z=>hb (by simp [z])) e
   rw [List.getElem?_map,List.getElem?_eq_getElem hil]
   show some (es.getD ps[i] (0,Value.none)).2 = some es[ps[i]].2
   rw [Array.getD,dif_pos hpm]
   rfl
  | text bt =>
   subst hF
   have hl:(pickOrder (w.params.setOrder a ep) es).size = es.size:=by have:=(pick_perm (w.params.setOrder a ep) es).length_eq;simpa using this
   have hil:i < (pickOrder (w.params.setOrder a ep) es).size:=by omega
   refine next_tab (x:=(pickOrder (w.params.setOrder a ep) es)[i].2) (nx:=0) hs hit (fun E' Q' q=>tab_text hs bt E' Q' (by rw [Array.getElem?_eq_getElem hil];exact q)) fun h' sb hi'=>?_
   refine hQ _ h' s.toks ?_ ⟨hs.at fun o e=>sb.extBut _ _ hne e,_,rfl,hi'⟩ fun b u hb e=>sb.extBut _ _ (fun z=>hb (by simp [z])) e
   rw [List.getElem?_map,Array.getElem?_toList,Array.getElem?_eq_getElem hil]
   rfl
  | one bt h1 =>
   obtain rfl:i = 0:=by omega
   have hz:es.size = 1:=by omega
   subst hF
   obtain ⟨j,hj⟩:=place_one (by rw [← hz];exact hs.fits)
   refine next_tab (x:=es[0].2) (nx:=j + 1) hs hit (fun E' Q' q=>tab_one hs bt h1 E' Q' ?_) fun h' sb hi'=>?_
   ·show Q' (match es[SetTable.below t.place 0]?,t.place[SetTable.below t.place 0]? with | some (_,x),some j=>some (x,j + 1) | _,_=>none) s
    rw [hj,below_one.1,Array.getElem?_eq_getElem hi]
    exact q
   ·refine hQ _ h' s.toks ?_ ⟨hs.at fun o e=>sb.extBut _ _ hne e,_,?_,hi'⟩ fun b u hb e=>sb.extBut _ _ (fun z=>hb (by simp [z])) e
    ·rw [List.getElem?_map,Array.getElem?_toList,Array.getElem?_eq_getElem hi]
     rfl
    ·show rawInt ((j + 1:Nat):Int) = Value.int (if 0 + 1 = 0 then 0 else ((t.place.getD 0 0 + 1:Nat):Int)) 0
     rw [hj,if_neg (by omega)]
     rfl
 done:=fun s Q E ⟨hs,first,hF,hit⟩ hQ=>by
  have fin:∀ h',(∀ b o,b≠it→s.heap.get? b = some o→h'.get? b = some o)→Q none { s with heap:=h' }:=fun h' k=>hQ h' s.toks fun b o hb e=>k b o (fun z=>hb (by simp [z])) e
  cases md with
  | drawn tp ps hp =>
   obtain ⟨rfl,ht⟩:=hF
   have hl:ps.length = es.size:=by rw [hp.length_eq,List.length_range]
   exact end_drw hh hs hit ht (List.getElem?_eq_none (by omega)) fin
  | text bt =>
   subst hF
   have hl:(pickOrder (w.params.setOrder a ep) es).size = es.size:=by have:=(pick_perm (w.params.setOrder a ep) es).length_eq;simpa using this
   exact end_tab hh hs hit (fun E' Q' q=>tab_text hs bt E' Q' (by rw [Array.getElem?_eq_none (by omega)];exact q)) fin
  | one bt h1 =>
   subst hF
   refine end_tab hh hs hit (fun E' Q' q=>tab_one hs bt h1 E' Q' ?_) fin
   by_cases hz:es.size = 0
   ·rw [Array.getElem?_eq_none (by omega)]
    exact q
   ·have hz1:es.size = 1:=by omega
    obtain ⟨j,hj⟩:=place_one (by rw [← hz1];exact hs.fits)
    rw [if_neg hz,hj,Int.toNat_natCast]
    show Q' (match es[SetTable.below #[j] (j + 1)]?,(#[j]:Array Nat)[SetTable.below #[j] (j + 1)]? with | some (_,x),some j=>some (x,j + 1) | _,_=>none) s
    rw [below_one.2,Array.getElem?_eq_none (by omega)]
    exact q
 self:=fun i s Q E ⟨_,first,_,hit⟩ hQ=>by
  refine wpAny_pyIter_slot (it_type hit) sw_slot_iter (wpAny_call_entry sw_slot_iter (it_type hit) sw_entry_iter ?_ (sw_args_iter _))
  show wpAny _ _ (ret (.ref it)) _ _ s
  exact wpAny_pure ⟨_,rfl, "set_iterator",_,it_type hit,sw_slot_next.lookup,hQ⟩
end
end L2
namespace L2
open PySem PySem.W PySem.Calls PyProof.Rows
section
variable {prog:Program} {w:World} {A:Around} {E:Value→Shared→Prop}
theorem sw_hint {s:Shared} {a:Addr} {Q:Bool→Shared→Prop} (ht:s.TypeIs (.ref a) "set") (q:Q false s):wpAny (model prog w) A (Builtin.List.listLengthHint (.ref a)) Q E s:=by
 unfold Builtin.List.listLengthHint
 refine wpAny_bind (wpAny_specialOf ht PySem.F.slot_set_len.lookup ?_)
 generalize en:("set.__len__" : String) = name0
 wp_delta
 rw [show splitId name0 = some ("set", "__len__") from by subst en;decide +kernel]
 subst en
 refine wpAny_bind (wpAny_isInstance (T:="set") (b:=true) ht (by rw [isSubtype_type];kernel_rfl) ?_)
 refine wpAny_ite_split (fun z=>absurd z (by decide)) (fun _=>?_)
 refine wpAny_ite_split (fun _=>?_) (fun z=>absurd (by decide +kernel) z)
 exact wpAny_bind (wpAny_typeOf ht (wpAny_pure q))
theorem items_ord {ord:List Value} {acc:Array Value} {n:Nat} (h:ItemsOf (fun i v=>ord[i]? = some v) acc n) (hl:ord.length = n):acc.toList = ord:=by
 apply List.ext_getElem?
 intro i
 by_cases hi:i < acc.toList.length
 ·rw [List.getElem?_eq_getElem hi]
  have:=h.2 i acc.toList[i] (by rw [← Array.getElem?_toList];exact List.getElem?_eq_getElem hi)
  exact this.symm
 ·have hz:acc.toList.length = n:=by rw [Array.length_toList];exact h.1
  rw [List.getElem?_eq_none (by omega),List.getElem?_eq_none (by omega)]
set_option maxHeartbeats 1000000 in
theorem collect_set {s:Shared} {a:Addr} {es:Array (Int×Value)} {ep:Nat} {t:SetTable} {R:List Value→Shared→Prop} (hh:A.handled = none) (hs:SetRaw w s.heap a es ep t)
  (h:∀ (h':Heap) (tk:Nat) (d:Drawn) (vs:List Value),(∀ b o,s.heap.get? b = some o→h'.get? b = some o)→vs.Perm (es.toList.map (·.2))→R vs { s with heap:=h',toks:=tk,drawn:=d }):wpAny (model prog w) A (collect (.ref a)) R E s:=by
 have hlt:=hs.lt
 have zs:es.size≤sizeLine:=Nat.le_of_lt (Nat.lt_of_lt_of_le hs.small (by rw [sizeLine_eq];decide))
 unfold collect
 refine wpAny_bind (wpAny_runValue (codeAny_builtin entry_proto_collect' ?_))
 rw [Around.under_plainId PySem.F.plain_proto_collect _]
 show wpAny _ A.in1 (newList [] >>= fun l=>again (.builtin "list.__iadd__" ⟨[l,.ref a],[]⟩)) _ _ s
 refine wpAny_bind (wpAny_newObj_type ?_)
 refine wpAny_pure ⟨plainId_quiet PySem.F.plain_list_iadd _,codeAny_builtin entry_list_iadd' ?_⟩
 rw [Around.under_plainId PySem.F.plain_list_iadd _]
 have l0:(s.heap.push { cls:=.type "list",data:=.seq ([]:List Value).toArray }).get? s.heap.objs.size = some { cls:=.type "list",data:=.seq #[] 0 }:=Heap.get?_push_size _ rfl
 have hs0:SetRaw w (s.heap.push { cls:=.type "list",data:=.seq ([]:List Value).toArray }) a es ep t:=hs.at fun o e=>Heap.get?_push_of_some _ e
 show wpAny _ A.in1 (Builtin.List.listExtendWith (.ref s.heap.objs.size) (.ref a) (.ref s.heap.objs.size)) _ _ _
 unfold Builtin.List.listExtendWith
 refine wpAny_bind (wpAny_typeOf (T:="set") hs0.typeIs ?_)
 have nsame:Builtin.List.listSameRef (.ref s.heap.objs.size) (.ref a) = false:=by simp [Builtin.List.listSameRef,Nat.ne_of_gt hlt]
 simp only [nsame,show (Value.type "set" == Value.type "list") = false by decide,show (Value.type "set" == Value.type "tuple") = false by decide,Bool.or_false,Bool.false_eq_true,if_false]
 refine wpAny_bind (iter_set (s:={ s with heap:=s.heap.push { cls:=.type "list",data:=.seq ([]:List Value).toArray } }) hs0 fun h1 d it tps F ord first k1 nit ntp md hF hit=>?_)
 have nS:s.heap.objs.size≠it:=fun z=>nit _ (by rw [← z];exact l0)
 have l1:=k1 _ _ l0
 have hs1:SetRaw w h1 a es ep t:=hs0.at fun o e=>k1 _ _ e
 have na:a≠it:=fun z=>by obtain ⟨o,ho,_⟩:=hs0.o;exact nit o (by rw [← z];exact ho)
 have W:=walk_set (prog:=prog) (A:=A.in1) (it:=it) hh na (fun b hb=>(ntp b hb).1) md
 have ol:ord.length = es.size:=by have:=(ord_perm md).length_eq;simpa using this
 have key:∀ (Rr:Result→Shared→Prop),(∀ (h':Heap) (tk':Nat) (acc:Array Value) (c':Nat),(∀ b o,s.heap.get? b = some o→h'.get? b = some o)→h'.get? s.heap.objs.size = some { cls:=.type "list",dict:=none,data:=.seq acc c',slots:=#[] }→acc.toList.Perm (es.toList.map (·.2))→Rr (.ok (.ret (.ref s.heap.objs.size))) { s with heap:=h',toks:=tk',drawn:=d }) →
   ∀ (h2:Heap) (c tk:Nat),(∀ b o,b≠s.heap.objs.size→h1.get? b = some o→h2.get? b = some o)→h2.get? s.heap.objs.size = some { cls:=.type "list",data:=.seq #[] c } →
   codeAny (model prog w) A (.builtin "list.extend.loop" ⟨[.ref s.heap.objs.size,.ref it,.ref s.heap.objs.size],[]⟩) Rr { s with heap:=h2,toks:=tk,drawn:=d }:=fun Rr hR h2 c tk k2 l2=>by
  have old:∀ b o,s.heap.get? b = some o→h2.get? b = some o∧b≠s.heap.objs.size:=fun b o q=>by
   have hb:b≠s.heap.objs.size:=Nat.ne_of_lt (Heap.lt_size q)
   exact ⟨k2 b o hb (k1 _ _ (Heap.get?_push_of_some _ q)),hb⟩
  have ntps:∀ b∈tps,b≠s.heap.objs.size:=fun b hb z=>(ntp b hb).2 { cls:=.type "list",data:=.seq #[] 0 } (z ▸ l0)
  have st:SetRaw w h2 a es ep t∧∃ first,F 0 h2 first∧h2.get? it = some (itO first 0 a es.size ep):=by
   refine W.frame 0 h1 h2 ⟨hs1,first,hF,hit⟩ fun b hb o q=>k2 b o ?_ q
   rcases List.mem_cons.mp hb with rfl | hb
   ·exact Ne.symm nS
   rcases List.mem_cons.mp hb with rfl | hb
   ·exact Nat.ne_of_lt hlt
   ·exact ntps b hb
  have nf:s.heap.objs.size ∉ it :: a :: tps:=fun hm=>by
   rcases List.mem_cons.mp hm with z | hm
   ·exact nS z
   rcases List.mem_cons.mp hm with z | hm
   ·exact Nat.ne_of_gt hlt z
   ·exact ntps _ hm rfl
  refine codeAny_extend_loopS W.toS zs s.heap.objs.size nf _ es.size 0 _ #[] c rfl (Nat.zero_le _) st l2 (ItemsOf.nil _) fun s' acc c' hm hS hacc=>?_
  rw [Moved.eq_with hm]
  refine hR s'.heap s'.toks acc c' (fun b o q=>hm.heap b o (fun hmem=>?_) (old b o q).1) hS (by rw [items_ord hacc ol];exact ord_perm md)
  rcases List.mem_cons.mp hmem with z | hmem
  ·exact (old b o q).2 z
  ·exact nit o (by rw [← List.mem_singleton.mp hmem];exact Heap.get?_push_of_some _ q)
 refine wpAny_bind (wpAny_holding (sw_hint hs1.typeIs ?_))
 refine wpAny_ite_split (fun _=>?b1) (fun _=>wpAny_pure ⟨plainId_quiet PySem.F.plain_extend_loop _,key _ (fun h' tk' acc c' kp hS hp=>?b2) h1 0 _ (fun b o _ q=>q) l1⟩)
 case b2 =>
  show wpAny _ A (load s.heap.objs.size >>= _) _ _ _
  exact wpAny_bind (wpAny_load hS (wpAny_pure (h h' tk' d _ kp hp)))
 refine wpAny_bind (wpAny_rule ?_)
 refine wpAny_bind ?_
 show wpAny _ _ (updateSeq s.heap.objs.size (·.push .none) >>= fun _=>updateSeq s.heap.objs.size (·.pop)) _ _ _
 refine wpAny_bind (wpAny_updateSeq l1 rfl ?_)
 have l2:=Heap.get?_update_self (Obj.mapSeq (·.push Value.none)) l1 rfl
 refine wpAny_updateSeq (hz:=by seq_fits) l2 rfl ?_
 have l3:=Heap.get?_update_self (Obj.mapSeq (·.pop)) l2 rfl
 refine wpAny_pure ⟨plainId_quiet PySem.F.plain_extend_loop _,key _ (fun h' tk' acc c' kp hS hp=>?b3) _ _ _ (fun b o hb q=>?b4) l3⟩
 case b3 =>
  show wpAny _ A (load s.heap.objs.size >>= _) _ _ _
  exact wpAny_bind (wpAny_load hS (wpAny_pure (h h' tk' d _ kp hp)))
 case b4=>exact (Heap.get?_update_other _ _ (Ne.symm hb)).trans ((Heap.get?_update_other _ _ (Ne.symm hb)).trans q)
end
end L2
namespace L2
open PySem PySem.W PySem.Calls PyProof.Rows
theorem or_keeps (t:SetTable) (n:Nat):(t.orStandIn n).led = t.led:=by
 unfold SetTable.orStandIn
 split <;> rfl
theorem lay_keeps (t:SetTable) (es:Array (Int×Value)) (hv:Int) (x:Value):(layNew t es hv x).2.1.led = t.led:=by
 unfold layNew
 split
 ·rename_i slot wd _
  exact or_keeps _ _
 ·rfl
theorem relay_keeps (t:SetTable) (es:Array (Int×Value)) (n:Nat):(relayAll t es n).2.1.led = t.led∧(t.plain = false→(relayAll t es n).2.1.plain = false):=by
 unfold relayAll
 split
 ·rename_i t' order heq
  dsimp only
  split
  ·unfold SetTable.relaid SetTable.laid at heq
   simp only [Option.bind_eq_bind,Option.bind_eq_some_iff] at heq
   obtain ⟨ow,_,e⟩:=heq
   have e':=Option.some.inj e
   rw [← (Prod.mk.inj e').1]
   exact ⟨rfl,fun h=>h⟩
  ·exact ⟨rfl,fun _=>rfl⟩
 ·exact ⟨rfl,fun _=>rfl⟩
section
variable {prog:Program} {w:World} {A:Around} {E:Value→Shared→Prop}
theorem raw_store {h:Heap} {a:Addr} {es es':Array (Int×Value)} {ep:Nat} {t t':SetTable} (hs:SetRaw w h a es ep t) (hf:t'.fits es'.size = true) (hb:es'.size < scanBound) (hl:t'.led = t.led) (hp:t'.plain = false):SetRaw w (h.update a (Obj.putSet es' t')) a es' (ep + 1) t':=by
 obtain ⟨o,ho,hx,hd⟩:=hs.o
 have g:=Heap.get?_update_self (Obj.putSet es' t') ho (by rw [putSet_of es' t' hd];rfl)
 rw [putSet_of es' t' hd] at g
 exact ⟨⟨_,g,hx,rfl⟩,hf,hb,fun b=>by rw [hl];exact hs.led b,fun _=>hp⟩
set_option maxHeartbeats 1000000 in
theorem add_raw {s:Shared} {a:Addr} {es:Array (Int×Value)} {ep:Nat} {t:SetTable} {z:Str} {tk:Tok} {Q:Bool→Shared→Prop} (hs:SetRaw w s.heap a es ep t) (hel:ElemsOf (strKind prog w) es.toList) (room:es.size + 1 < scanBound)
  (h:∀ (h':Heap) (es':Array (Int×Value)) (ep':Nat) (t':SetTable) (b:Bool),Heap.SameBut a s.heap h'→SetRaw w h' a es' ep' t'→ElemsOf (strKind prog w) es'.toList →
   ((∃ e∈es.toList,(strKind prog w).is z e.2 = true)∧es' = es∨(∀ e∈es.toList,(strKind prog w).is z e.2 = false)∧es'.toList.Perm (es.toList++[((strKind prog w).hash z,.str z tk)]))→Q b { s with heap:=h' }) :
  wpAny (model prog w) A (setAddHashed a (.str z tk) ((strKind prog w).hash z)) Q E s:=by
 obtain ⟨o,ho,hx,hd⟩:=hs.o
 have hkey:(strKind prog w).is z (.str z tk) = true:=strKind_is prog w z tk
 have hsc:(Value.str z tk).scannable = true:=rfl
 unfold setAddHashed setAddHashedIn
 refine wpAny_holding (wpAny_bind (wpAny_setState_of ho hd hs.fits ?_))
 dsimp only
 rw [byScan_of hsc hs.small hel,if_pos rfl]
 unfold setAddByScan
 refine wpAny_bind (wpAny_bind (wpAny_rule (wpAny_bind (wpAny_setScan_of hkey ho hd hs.fits hel ?_))))
 cases hr:List.findIdx? (fun e=>(strKind prog w).is z e.2) es.toList with
 | some j =>
  dsimp only
  obtain ⟨hj,hpj,_⟩:=List.findIdx?_eq_some_iff_getElem.mp hr
  refine wpAny_pure (wpAny_pure ?_)
  exact h s.heap es ep t _ (Heap.SameBut.refl a s.heap) hs hel (.inl ⟨⟨_,List.getElem_mem hj,hpj⟩,rfl⟩)
 | none =>
  dsimp only
  have none_:∀ e∈es.toList,(strKind prog w).is z e.2 = false:=fun e he=>by simpa using List.findIdx?_eq_none_iff.mp hr e he
  have pm:=layNew_perm t es ((strKind prog w).hash z) (.str z tk)
  have ft:=layNew_fits t es ((strKind prog w).hash z) (.str z tk)
  have ld:=lay_keeps t es ((strKind prog w).hash z) (.str z tk)
  generalize layNew t es ((strKind prog w).hash z) (.str z tk) = L at pm ft ld ⊢
  obtain ⟨es1,t1,dummy,gave⟩:=L
  dsimp only at pm ft ld ⊢
  rw [Array.toList_push] at pm
  have el1:ElemsOf (strKind prog w) es1.toList:=(hel.push hkey hsc).perm pm
  have sz1:es1.size = es.size + 1:=by rw [← Array.length_toList,pm.length_eq,List.length_append,Array.length_toList];rfl
  have way:∀ (b:Bool) {s₁:Shared} {Q':Unit→Shared→Prop} {E':Value→Shared→Prop},Q' () s₁→wpAny (model prog w) A (match b with | true=>rule "set.scan.the-table-gave-way" | false=>pure ()) Q' E' s₁:=fun b s₁ Q' E' q=>by
   cases b
   ·exact wpAny_pure q
   ·exact wpAny_rule q
  refine wpAny_bind (way _ ?_)
  have tail:∀ t2:SetTable,t2.fits es1.size = true→t2.led = t.led→t2.plain = false→wpAny (model prog w) A (do
    storeSet a es1 t2
    if (!dummy && t2.tooFull) = true then do
      (match (relayAll t2 es1 (SetTable.grown es1.size)).2.2 with | true=>rule "set.scan.the-table-gave-way" | false=>pure ())
      storeSet a (relayAll t2 es1 (SetTable.grown es1.size)).1 (relayAll t2 es1 (SetTable.grown es1.size)).2.1
      pure (some true)
     else pure (some true)) (fun r s'=>wpAny (model prog w) A (match r with | some added=>pure added | none=>setAddHashedIn a (.str z tk) ((strKind prog w).hash z) 99999) Q E s') E s:=fun t2 f2 l2 p2=>by
   have r2:=raw_store (es':=es1) (t':=t2) hs f2 (by omega) l2 p2
   refine wpAny_bind (wpAny_storeSet_of ho hd ?_ (fits_of_scanBound (by omega)))
   have b2:=Heap.SameBut.update s.heap a (Obj.putSet es1 t2)
   split
   ·have pr:=relayAll_perm t2 es1 (SetTable.grown es1.size)
    have fr:=relayAll_fits t2 es1 (SetTable.grown es1.size)
    have kr:=relay_keeps t2 es1 (SetTable.grown es1.size)
    generalize relayAll t2 es1 (SetTable.grown es1.size) = L at pr fr kr ⊢
    obtain ⟨es3,t3,gave3⟩:=L
    dsimp only at pr fr kr ⊢
    have sz3:es3.size = es1.size:=by rw [← Array.length_toList,pr.length_eq,Array.length_toList]
    obtain ⟨o2,ho2,_,hd2⟩:=r2.o
    refine wpAny_bind (way _ (wpAny_bind (wpAny_storeSet_of ho2 hd2 ?_ (fits_of_scanBound (by omega)))))
    refine wpAny_pure (wpAny_pure (h _ es3 _ t3 _ (b2.trans (Heap.SameBut.update _ a _)) (raw_store r2 fr (by omega) kr.1 (kr.2 p2)) (el1.perm pr) (.inr ⟨none_,pr.trans pm⟩)))
   ·exact wpAny_pure (wpAny_pure (h _ es1 _ t2 _ b2 r2 el1 (.inr ⟨none_,pm⟩)))
  cases hpl:t1.plain with
  | true =>
   rw [if_pos rfl]
   refine wpAny_bind ?_
   rw [hashByValue_scannable 8 hsc]
   refine wpAny_pure ?_
   exact tail { t1 with plain:=false } (SetTable.fits_plain_off ft) ld rfl
  | false =>
   rw [if_neg Bool.false_ne_true]
   refine wpAny_bind (wpAny_pure ?_)
   exact tail t1 ft ld hpl
end
end L2
namespace L2
open PySem PySem.Spec PySem.W PySem.Calls PyProof.Rows
def txt:Value→Str
 | .str z _=>z
 | _=>Str.empty
def SetS (P:Program) (w:World) (a:Addr) (zs:List Str):HO:=.ext fun h=>∃ es ep t,SetRaw w h a es ep t∧ElemsOf (strKind P w) es.toList∧(es.toList.map fun e=>txt e.2).Perm zs∧zs.Nodup
theorem setS_ok {P:Program} {w:World} {H:Hp} {h:Heap} {a:Addr} {zs:List Str} {es:Array (Int×Value)} {ep:Nat} {t:SetTable} (r:SetRaw w h a es ep t) (el:ElemsOf (strKind P w) es.toList) (pm:(es.toList.map fun e=>txt e.2).Perm zs) (nd:zs.Nodup):ObjOk P w H h a (SetS P w a zs):=by
 refine ⟨⟨es,ep,t,r,el,pm,nd⟩,?_,fun h1 h2 p k=>?_⟩
 ·obtain ⟨o,ho,_⟩:=r.o
  exact ⟨o,ho⟩
 ·obtain ⟨es,ep,t,r,x⟩:=p
  exact ⟨es,ep,t,r.at fun o e=>k _ e,x⟩
section
variable {X:Cx} {pins:List (Addr×Obj)} {σ:St} {H:Hp} {s:Shared}
theorem Inv.drew (I:Inv X pins σ H s) (d:Drawn):Inv X pins σ H { s with drawn:=d } :=
 I.step (h':=s.heap) (H':=H) (g':=s.gens) (t':=s.toks) (d':=d) (ch:=[]) (fun b hb=>by simp at hb) (fun b o _ _ _ e _=>e) (fun b o _ _ _ e _=>⟨o.slots,e⟩) (fun b o _ e n=>n) (fun b o _ e=>⟨o,e⟩) (fun b xs e=>e) (fun b u xs e=>e) (fun b ps e=>⟨#[],by rw [e];simp⟩) (fun m hm=>hm) I.hok I.bare
theorem strs_at {P:Program} {w:World} {l:List (Int×Value)} (h:ElemsOf (strKind P w) l):∀ v∈l.map (·.2),∃ t,v = .str (txt v) t:=fun v hv=>by
 obtain ⟨e,he,rfl⟩:=List.mem_map.mp hv
 obtain ⟨⟨k,hk,_⟩,_⟩:=h e he
 obtain ⟨t,ht⟩:=Value.isStrOf_shape hk
 exact ⟨t,by rw [ht];rfl⟩
def rSortSet (P:Program) (w:World):List V→Hp→VK→Prop:=fun xs H Q=>∃ a zs,xs = [.ref a]∧H a = some (SetS P w a zs)∧zs.length < 64∧∀ (l:Addr) (ys:List Str),H l = none→ys.Perm zs→ys.Pairwise (fun x y=>x.cps.toList < y.cps.toList)→Q (.ref l) (upd H l (.lst (ys.map V.str)))
theorem set_size {es:Array (Int×Value)} {zs:List Str} (h:(es.toList.map fun e=>txt e.2).Perm zs):es.size = zs.length:=by have:=h.length_eq;simpa using this
set_option maxHeartbeats 1000000 in
theorem call_sortSet (hin:X.A.handled = none):CallR X (.builtin "sorted") (rSortSet X.prog X.w):=by
 intro pins s σ H xs us Q I r h
 obtain ⟨a,zs,rfl,ha,h64,q⟩:=h
 obtain ⟨u,rfl,ru⟩:=vals1 r
 cases ru
 obtain ⟨⟨es,ep,t,raw,el,pm,nd⟩,_⟩:=I.hok _ _ ha
 have hz:=set_size pm
 refine sorted_by (collect_set (E:=fun _ _=>False) hin raw fun h1 tk d vs k1 pv=>?_)
 have lv:vs.length = zs.length:=by rw [pv.length_eq,List.length_map,Array.length_toList,hz]
 have str:∀ v∈vs,∃ t,v = .str (txt v) t:=fun v hv=>strs_at el v (pv.mem_iff.mp hv)
 have pz:(vs.map txt).Perm zs:=by
  refine (pv.map txt).trans ?_
  rw [List.map_map]
  exact pm
 have ndv:(vs.map txt).Nodup:=pz.nodup_iff.mpr nd
 have at_:∀ i (hi:i < vs.length),∃ t,vs.getD i Value.none = .str (txt vs[i]) t:=fun i hi=>by
  obtain ⟨t,ht⟩:=str vs[i] (List.getElem_mem hi)
  refine ⟨t,?_⟩
  rw [List.getD_eq_getElem?_getD,List.getElem?_eq_getElem hi]
  exact ht
 have gT:∀ i (hi:i < vs.length),txt (vs.getD i Value.none) = txt vs[i]:=fun i hi=>by rw [List.getD_eq_getElem?_getD,List.getElem?_eq_getElem hi];rfl
 refine ⟨by omega,fun i j=>decide ((txt (vs.getD i Value.none)).cps.toList < (txt (vs.getD j Value.none)).cps.toList),oneType',⟨fun i j k _ _ _ x y=>?_,fun i j hi hj hij c=>?_⟩,fun h2 s' R _ hR=>?_,fun i j s' C hi hj hij _ hC=>?_,fun p tk2 h2 e hP hU k2 hS=>?_⟩
 ·exact decide_eq_true (List.lt_trans (of_decide_eq_true x) (of_decide_eq_true y))
 ·have c':=of_decide_eq_false c
  rw [gT i hi,gT j hj] at c' ⊢
  have ne:txt vs[i]≠txt vs[j]:=by
   have pw:=List.pairwise_iff_getElem.mp ndv
   have li:i < (vs.map txt).length:=by rw [List.length_map];exact hi
   have lj:j < (vs.map txt).length:=by rw [List.length_map];exact hj
   rcases Nat.lt_or_gt_of_ne hij with g | g
   ·have:=pw i j li lj g;simpa using this
   ·have:=pw j i lj li g;intro z;exact this (by simpa using z.symm)
  refine decide_eq_true ?_
  rcases List.le_iff_lt_or_eq.mp (List.not_lt.mp c') with z | z
  ·exact z
  ·exact absurd (str_ext z.symm) ne
 ·refine kas_kind (T:=Value.type "str") h2 (fun v hv=>?_) (by decide) (by rfl) hR
  obtain ⟨t,ht⟩:=str v hv
  rw [ht]
  exact fun A Q E s _ q=>wpAny_pure q
 ·obtain ⟨t1,e1⟩:=at_ i hi
  obtain ⟨t2,e2⟩:=at_ j hj
  have g:=hC s'.toks
  dsimp only at g
  rw [e1,e2] at g ⊢
  exact kas_lt_str g
 ·have lp:p.toList.length = vs.length:=by rw [Array.length_toList];exact hP.size
  have pmv:(p.toList.map fun i=>vs.getD i Value.none).Perm vs:=by
   have q1:p.toList.Perm (List.range vs.length):=by have:=Array.perm_iff_toList_perm.mp hP;simpa using this
   have q2:=q1.map fun i=>vs.getD i Value.none
   have ro:=range_out vs
   have e0:((List.range vs.length).toArray.toList.map fun i=>vs.getD i Value.none) = (List.range vs.length).map fun i=>vs.getD i Value.none:=by simp
   rw [e0] at ro
   rw [ro] at q2
   exact q2
  have hv:Vals (((p.toList.map fun i=>vs.getD i Value.none).map txt).map V.str) (p.toList.map fun i=>vs.getD i Value.none):=by
   generalize hw:(p.toList.map fun i=>vs.getD i Value.none) = ws at pmv
   have sw:∀ v∈ws,∃ t,v = .str (txt v) t:=fun v hv=>str v (pmv.mem_iff.mp hv)
   clear hw pmv hS
   induction ws with
   | nil=>exact .nil
   | cons x ws ih =>
    obtain ⟨t,ht⟩:=sw x List.mem_cons_self
    exact .cons ⟨t,ht⟩ (ih fun v hv=>sw v (List.mem_cons_of_mem _ hv))
  have gl:∀ o,s.heap.get? h1.objs.size≠some o:=fun o g=>absurd (Heap.lt_size (k1 _ _ g)) (Nat.lt_irrefl _)
  have hn:H h1.objs.size = none:=by
   cases g:H h1.objs.size with
   | none=>rfl
   | some u =>
    obtain ⟨ob,g2⟩:=(I.hok _ _ g).obj
    exact absurd g2 (gl ob)
  refine ⟨.ref h1.objs.size,upd H h1.objs.size (.lst (((p.toList.map fun i=>vs.getD i Value.none).map txt).map V.str)),(I.drew d).laidL (t':=tk2) _ (fun b u g=>k2 b u (k1 b u g)) (fun b u g=>by rw [upd_ne (ne_of_none g hn)];exact g) (fun b u g n=>?_),rfl,q _ _ hn ?_ ?_⟩
  ·by_cases hb:b = h1.objs.size
   ·subst hb
    rw [upd_same] at g
    cases g
    exact ⟨gl,by rw [List.length_map,List.length_map,List.length_map,lp,sizeLine_eq];omega,_,e,hv,hS⟩
   ·rw [upd_ne hb,n] at g
    cases g
  ·exact (pmv.map txt).trans pz
  ·rw [List.pairwise_iff_getElem]
   intro i j hi hj hij
   rw [List.length_map,List.length_map] at hi hj
   simp only [List.getElem_map]
   have m1:p.toList[i] = pat p i:=by
    have hs:i < p.size:=by rw [← Array.length_toList];exact hi
    unfold pat
    rw [Array.getD,dif_pos hs]
    simp
   have m2:p.toList[j] = pat p j:=by
    have hs:j < p.size:=by rw [← Array.length_toList];exact hj
    unfold pat
    rw [Array.getD,dif_pos hs]
    simp
   rw [m1,m2]
   exact of_decide_eq_true (hU i j hij (by omega))
end
end L2
namespace L2
open PySem PySem.Spec PySem.W PySem.Calls PyProof.Rows
def addS (zs:List Str) (z:Str):List Str:=if z∈zs then zs else zs++[z]
theorem addS_mem {zs:List Str} {z x:Str}:x∈addS zs z ↔ x∈zs∨x = z:=by
 unfold addS
 split
 ·rename_i h
  exact ⟨.inl,fun q=>q.elim id fun e=>by rw [e];exact h⟩
 ·simp
theorem addS_nodup {zs:List Str} {z:Str} (h:zs.Nodup):(addS zs z).Nodup:=by
 unfold addS
 split
 ·exact h
 ·rename_i q
  rw [List.nodup_append]
  refine ⟨h,by simp,fun a ha b hb=>?_⟩
  rw [List.mem_singleton.mp hb]
  exact fun e=>q (by rw [← e];exact ha)
theorem addS_len {zs:List Str} {z:Str}:(addS zs z).length≤zs.length + 1:=by
 unfold addS
 split
 ·omega
 ·simp
def allS (l:List Str):List Str:=l.foldl addS []
theorem allS_snoc (l:List Str) (z:Str):allS (l++[z]) = addS (allS l) z:=by unfold allS;rw [List.foldl_append];rfl
theorem allS_len (l:List Str):(allS l).length≤l.length:=by
 have g:∀ (l:List Str) (a:List Str),(l.foldl addS a).length≤a.length + l.length:=by
  intro l
  induction l with
  | nil=>intro a;exact Nat.le_refl _
  | cons x r ih =>
   intro a
   rw [List.foldl_cons,List.length_cons]
   have h1:=ih (addS a x)
   have h2:=addS_len (zs:=a) (z:=x)
   omega
 have:=g l []
 unfold allS
 simpa using this
theorem allS_mem {l:List Str} {x:Str}:x∈allS l ↔ x∈l:=by
 have g:∀ (l:List Str) (a:List Str),x∈l.foldl addS a ↔ x∈a∨x∈l:=by
  intro l
  induction l with
  | nil=>intro a;simp
  | cons y r ih =>
   intro a
   rw [List.foldl_cons,ih,addS_mem,List.mem_cons,or_assoc]
 have:=g l []
 unfold allS
 simpa using this
def SetH (P:Program) (w:World) (h:Heap) (a:Addr) (zs:List Str):Prop:=∃ es ep t,SetRaw w h a es ep t∧ElemsOf (strKind P w) es.toList∧(es.toList.map fun e=>txt e.2).Perm zs∧zs.Nodup
theorem SetH.at {P:Program} {w:World} {h h':Heap} {a:Addr} {zs:List Str} (x:SetH P w h a zs) (k:∀ o,h.get? a = some o→h'.get? a = some o):SetH P w h' a zs:=by
 obtain ⟨es,ep,t,r,q⟩:=x
 exact ⟨es,ep,t,r.at k,q⟩
theorem SetH.typeIs {P:Program} {w:World} {s:Shared} {a:Addr} {zs:List Str} (x:SetH P w s.heap a zs):s.TypeIs (.ref a) "set":=let ⟨_,_,_,r,_⟩:=x;r.typeIs
section
variable {prog:Program} {w:World} {A:Around} {E:Value→Shared→Prop} {s:Shared}
theorem is_txt {l:List (Int×Value)} (h:ElemsOf (strKind prog w) l) {z:Str} {e:Int×Value} (he:e∈l):(strKind prog w).is z e.2 = true ↔ txt e.2 = z:=by
 obtain ⟨⟨k,hk,_⟩,_⟩:=h e he
 obtain ⟨t,ht⟩:=Value.isStrOf_shape hk
 rw [ht]
 constructor
 ·intro q
  have q':Value.isStrOf z (Value.str k t) = true:=q
  obtain ⟨t',ht'⟩:=Value.isStrOf_shape q'
  injection ht' with h1 h2
 ·intro q
  have e:k = z:=q
  subst e
  exact strKind_is prog w k t
theorem add_T {a:Addr} {zs:List Str} {z:Str} {tk:Tok} {Q:Bool→Shared→Prop} (hs:SetH prog w s.heap a zs) (room:zs.length + 1 < scanBound)
  (h:∀ h' b,Heap.SameBut a s.heap h'→SetH prog w h' a (addS zs z)→Q b { s with heap:=h' }):wpAny (model prog w) A (setAddHashed a (.str z tk) ((strKind prog w).hash z)) Q E s:=by
 obtain ⟨es,ep,t,r,el,pm,nd⟩:=hs
 have hz:=set_size pm
 refine add_raw r el (by omega) fun h' es' ep' t' b sb r' el' q=>h h' b sb ⟨es',ep',t',r',el',?_,addS_nodup nd⟩
 rcases q with ⟨⟨e,he,q⟩,rfl⟩ | ⟨no,pm'⟩
 ·have hm:z∈zs:=pm.mem_iff.mp (List.mem_map.mpr ⟨e,he,(is_txt el he).mp q⟩)
  unfold addS
  rw [if_pos hm]
  exact pm
 ·have hm:z ∉ zs:=fun c=>by
   obtain ⟨e,he,q⟩:=List.mem_map.mp (pm.mem_iff.mpr c)
   have:=(is_txt el he).mpr q
   rw [no e he] at this
   cases this
  unfold addS
  rw [if_neg hm]
  refine (pm'.map fun e=>txt e.2).trans ?_
  rw [List.map_append]
  exact pm.append_right _
theorem addV_T {a:Addr} {zs:List Str} {z:Str} {tk:Tok} {Q:Bool→Shared→Prop} (hs:SetH prog w s.heap a zs) (room:zs.length + 1 < scanBound)
  (h:∀ h' b,Heap.SameBut a s.heap h'→SetH prog w h' a (addS zs z)→Q b { s with heap:=h',toks:=s.toks + 1 }):wpAny (model prog w) A (setAdd a (.str z tk)) Q E s:=by
 unfold setAdd
 refine wpAny_holding (wpAny_bind ((strKind prog w).pyHash (k:=z) (strKind_is prog w z tk) ?_))
 exact add_T (s:={ s with toks:=s.toks + 1 }) hs room h
theorem call_addT {a:Addr} {zs:List Str} {z:Str} {tk:Tok} {Q:Value→Shared→Prop} (hs:SetH prog w s.heap a zs) (room:zs.length + 1 < scanBound)
  (h:∀ h',Heap.SameBut a s.heap h'→SetH prog w h' a (addS zs z)→Q .none { s with heap:=h',toks:=s.toks + 1 }):wpAny (model prog w) A (call (.builtin "set.add") [.ref a,.str z tk]) Q E s:=by
 refine wpAny_call_entry PySem.F.slot_set_add hs.typeIs PySem.F.entry_set_add ?_ (PySem.F.args_set_add_2 _ _)
 unfold Builtin.«set.add» Builtin.Frozenset.oneOther
 simp only [List.isEmpty_nil,bind_assoc]
 unfold Builtin.Frozenset.addrOf
 refine wpAny_bind (wpAny_pure ?_)
 try dsimp only
 refine wpAny_bind (wpAny_pure ?_)
 try dsimp only
 refine wpAny_bind (addV_T hs room fun h' b sb hT=>?_)
 exact wpAny_pure ⟨_,rfl,h h' sb hT⟩
def emptySet (w:World):Obj:={ cls:=.type "set",dict:=none,data:=.set #[] 0 (.fresh 0 0 (!w.params.followText "set-order")) }
theorem empty_T {h:Heap} {a:Addr} (e:h.get? a = some (emptySet w)):SetH prog w h a []:=by
 refine ⟨#[],0,_,⟨⟨_,e,⟨rfl,rfl,rfl⟩,rfl⟩,by rfl,by decide,fun b=>?_,fun z=>absurd z (by simp)⟩,fun e he=>by simp at he,List.Perm.refl _,List.nodup_nil⟩
 show (!w.params.followText "set-order") = true
 rw [b];rfl
theorem newSet_T {Q:Value→Shared→Prop} (h:Q (.ref s.heap.objs.size) { s with heap:=s.heap.push (emptySet w) }):wpAny (model prog w) A (newSet (.type "set")) Q E s:=by
 unfold newSet setsByText
 refine wpAny_bind (wpAny_bind (wpAny_askSetting (wpAny_pure ?_)))
 dsimp only [newObj]
 exact wpAny_bind (wpAny_alloc (wpAny_pure h))
theorem take_bound (zs:List Str) (i:Nat):(allS (zs.take i)).length≤zs.length:=Nat.le_trans (allS_len _) (by rw [List.length_take];omega)
variable {R:Result→Shared→Prop} {I:Addr} {fp wr:List Addr} {G:Array GenState→Array GenState→Prop} {n:Nat} {P:Nat→Value→Prop} {St:Nat→Shared→Prop}
theorem loop_texts (W:WalksS prog w A.in1 I fp wr G n P St) (S:Addr) (hSf:S ∉ fp) (zs:List Str) (hn:zs.length = n) (hval:∀ i v,P i v→∃ z t,zs[i]? = some z∧v = .str z t) (hb:n + 1 < scanBound) :
  ∀ (k i:Nat) (s:Shared),n - i = k→i≤n→St i s→SetH prog w s.heap S (allS (zs.take i))→(∀ s',Moved (S :: wr) G s s'→SetH prog w s'.heap S (allS zs)→R (.ok (.ret .none)) s') →
   codeAny (model prog w) A (.builtin "set.update.loop" ⟨[.ref S,.ref I],[]⟩) R s:=by
 have hSw:S ∉ wr:=fun h=>hSf (W.sub _ h)
 have sub:∀ b∈wr,b∈S :: wr:=fun b hb=>List.mem_cons_of_mem _ hb
 intro k
 induction k with
 | zero =>
  intro i s hk hi st hS hR
  have hin:i = n:=by omega
  subst hin
  refine codeAny_builtin PyProof.Rows.F.entry_set_update_loop ?_
  rw [Around.under_plainId PyProof.Rows.F.plain_set_update_loop _]
  show wpAny _ A.in1 (pyNext (.ref I) >>= _) _ _ s
  refine wpAny_bind (W.done s _ _ st fun s' hm=>?_)
  rw [← hn,List.take_length] at hS
  exact wpAny_pure (hR s' (hm.mono sub) (hS.at fun o e=>hm.heap S _ hSw e))
 | succ k ih =>
  intro i s hk hi st hS hR
  have hlt:i < n:=by omega
  refine codeAny_builtin PyProof.Rows.F.entry_set_update_loop ?_
  rw [Around.under_plainId PyProof.Rows.F.plain_set_update_loop _]
  show wpAny _ A.in1 (pyNext (.ref I) >>= _) _ _ s
  refine wpAny_bind (W.item i s _ _ hlt st fun v s' hP st' hm=>?_)
  obtain ⟨z,t,hz,rfl⟩:=hval i v hP
  have hS':=hS.at fun o e=>hm.heap S _ hSw e
  show wpAny _ A.in1 (holding [Value.str z t] (setAdd S (.str z t)) >>= _) _ _ s'
  have tb:=take_bound zs i
  refine wpAny_bind (wpAny_holding (addV_T hS' (by omega) fun h' b sb hT=>?_))
  rw [← allS_snoc] at hT
  have e1:zs.take i++[z] = zs.take (i + 1):=by rw [List.take_add_one,hz];rfl
  rw [e1] at hT
  refine wpAny_pure ⟨plainId_quiet PyProof.Rows.F.plain_set_update_loop _,ih (i + 1) _ (by omega) hlt (W.frame _ s' _ _ st' (Nat.le_succ _) fun b hb o e=>?_) hT fun s2 hm2 hS2=>?_⟩
  ·rw [sb.2 b (fun h:b = S=>hSf (by rw [← h];exact hb))];exact e
  ·refine hR s2 (Moved.trans W.gtrans ((hm.mono sub).then_heap (Nat.le_succ _) fun b o hb e=>?_) hm2) hS2
   rw [sb.2 b (fun h:b = S=>hb (by rw [h];exact List.mem_cons_self))];exact e
end
section
variable {prog:Program} {w:World} {A:Around} {E:Value→Shared→Prop} {s:Shared}
theorem new_set (a:Value) {Q₁:Value→Shared→Prop} (h:Q₁ (.ref s.heap.objs.size) { s with heap:=s.heap.push (emptySet w) }) :
  codeAny (model prog w) A (.call (.builtin "set.__new__") ⟨[.type "set",a],[]⟩) (wants Q₁ E) s:=by
 refine codeAny_of_tree ?_
 show wpAny _ A.in1 (do checkBuiltinCall "set.__new__" ⟨[.type "set",a],[]⟩;again (.builtin "set.__new__" ⟨[.type "set",a],[]⟩)) _ _ s
 refine wpAny_bind (wpAny_of_eq (PySem.F.newCall_set_1 a) (wpAny_pure ⟨plainId_quiet PySem.F.plain_set_new _,codeAny_builtin PySem.F.entry_set_new ?_⟩))
 rw [Around.under_plainId PySem.F.plain_set_new _]
 unfold Builtin.«set.__new__» Builtin.Frozenset.newClass
 have hsub:=sub_set_self
 obtain ⟨hp,g,d,tk,os⟩:=s
 dsimp only
 wp_walk
 refine wpAny_askSetting (wpAny_pure ?_)
 dsimp only
 simp only [newObj]
 exact wpAny_bind (wpAny_alloc (wpAny_pure (wpAny_pure h)))
set_option maxRecDepth 100000 in
set_option maxHeartbeats 3200000 in
theorem call_setL {l:Addr} {its:List Value} {zs:List Str} {Q:Value→Shared→Prop} (hh:A.handled = none) (hl:s.heap.IsList l its.toArray) (hi:StrsAre its zs) (hb:zs.length + 1 < scanBound)
  (h:∀ (h':Heap) (tk:Nat),SetH prog w h' s.heap.objs.size (allS zs)→(∀ b o,s.heap.get? b = some o→h'.get? b = some o)→Q (.ref s.heap.objs.size) { s with heap:=h',toks:=tk }) :
  wpAny (model prog w) A (call (.type "set") [.ref l]) Q E s:=by
 obtain ⟨c,tl,hmro⟩:=PySem.F.called_set.mro
 have m1:=PySem.F.called_set.made
 have m2:=PySem.F.called_set.sub
 refine wpAny_call (codeAny_of_tree ?_)
 show wpAny (model prog w) _ (callAny (.type "set") ⟨[.ref l],[]⟩) _ _ _
 refine wpAny_pure ⟨Code.quiet_builtin _ (by decide +kernel),codeAny_builtin PySem.F.entry_type_call ?_⟩
 rw [Around.under_plain (weight_type_call_type "set" [.ref l] []) rfl]
 have m3:=PySem.F.called_set.notType
 have m4:=PySem.F.called_set.canCreate
 have m5:=PySem.F.typeCall_set_1 (.ref l)
 repeat (any_goals (first | assumption | wp_step))
 refine codeAny_mono (new_set (.ref l) (E:=E) (Q₁:=fun obj s₁=>obj = .ref s.heap.objs.size∧s₁ = { s with heap:=s.heap.push (emptySet w) }) ⟨rfl,rfl⟩) fun r s₁ hr=>?_
 rcases r with e | fl
 ·exact hr
 rcases fl with _ | _ | _ | obj
 rotate_right
 ·obtain ⟨rfl,rfl⟩:=hr
  have hS:(s.heap.push (emptySet w)).get? s.heap.objs.size = some (emptySet w):=Heap.get?_push_size _ rfl
  have hT:Shared.TypeIs { s with heap:=s.heap.push (emptySet w) } (.ref s.heap.objs.size) "set":=⟨_,hS,rfl⟩
  have i1:=PySem.F.called_set.init.lookup
  have i2:=PySem.F.called_set.init.bind (.ref s.heap.objs.size)
  repeat (any_goals (first | assumption | wp_step))
  refine codeAny_mono (codeAny_call_builtin (R:=wants (fun r s₂=>r = .none∧∃ h' tk,s₂ = { s with heap:=h',toks:=tk }∧SetH prog w h' s.heap.objs.size (allS zs)∧(∀ b o,s.heap.get? b = some o→h'.get? b = some o)) E) PySem.F.called_set.init.plain PySem.F.entry_set_init (check_set_init_1 hT ?_)) fun r₂ s₂ hr₂=>?_
  ·obtain ⟨ol,hol,hcl,nl,hdl⟩:=hl
   obtain ⟨ocls,odict,odata,oslots⟩:=ol
   simp only at hcl hdl
   subst hcl;subst hdl
   have hol':(s.heap.push (emptySet w)).get? l = some { cls:=.type "list",dict:=odict,data:=.seq its.toArray nl,slots:=oslots }:=Heap.get?_push_of_some _ hol
   have u1:=PySem.F.sub_list_set
   have u2:=PySem.F.sub_list_frozenset
   have u3:(Value.type "list" == Value.type "dict") = false:=by decide
   have hl1:(s.heap.push (emptySet w)).IsList l its.toArray:=⟨_,hol',rfl,nl,rfl⟩
   unfold Builtin.«set.__init__» noKeywords Builtin.Frozenset.updateFrom
   generalize hPI:pyIter = PI
   wp_walk
   subst hPI
   refine wpAny_pyIter_list hl1 ?_
   refine wpAny_bind (wpAny_runValue ?_)
   have lS:l < s.heap.objs.size:=Heap.lt_size hol
   have h3:A.in1.in1.in1.handled = none:=by simp [hh]
   have ne_:l≠(s.heap.push (emptySet w)).objs.size:=by
    rw [Heap.size_push];exact Nat.ne_of_lt (Nat.lt_succ_of_lt lS)
   have nS:s.heap.objs.size ∉ [(s.heap.push (emptySet w)).objs.size,l]:=by
    rw [Heap.size_push];simp only [List.mem_cons,List.mem_singleton,List.not_mem_nil,or_false,not_or]
    exact ⟨Nat.ne_of_lt (Nat.lt_succ_self _),Nat.ne_of_gt lS⟩
   have hz:its.length = zs.length:=hi.length
   have hval:∀ (i:Nat) (v:Value),its.toArray[i]? = some v→∃ z t,zs[i]? = some z∧v = .str z t:=fun i v hv=>by
    have hv':its[i]? = some v:=by simpa using hv
    clear hv hol hol' hl1 hz hb h
    induction hi generalizing i with
    | nil=>simp at hv'
    | cons y t r ih =>
     cases i with
     | zero=>simp only [List.getElem?_cons_zero,Option.some.injEq] at hv';exact ⟨y,t,rfl,hv'.symm⟩
     | succ j=>exact ih j (by simpa using hv')
   refine loop_texts ((Walks.list h3 _ l ne_ its.toArray).toS) s.heap.objs.size nS zs (by simp [hz]) hval (by simpa [hz] using hb) _ 0 _ rfl (Nat.zero_le _) ⟨⟨_,Heap.get?_push_size _ rfl,rfl,rfl⟩,(hl1.push _)⟩ ?hS0 ?hR
   case hS0=>exact empty_T (Heap.get?_push_of_some _ hS)
   case hR =>
    intro s' hm hS'
    obtain ⟨h',g',d',tk',os'⟩:=s'
    have eg:g' = s.gens:=hm.gens
    have ed:d' = s.drawn:=hm.drawn
    have eo:os' = s.os:=hm.os
    subst eg;subst ed;subst eo
    refine wpAny_pure ?_
    show wpAny _ _ (ret Value.none) _ _ _
    refine wpAny_pure ⟨rfl,h',tk',rfl,hS',fun b o e=>?_⟩
    have hlt:=Heap.lt_size e
    have b1:b≠s.heap.objs.size:=Nat.ne_of_lt hlt
    have b2:b≠(s.heap.push (emptySet w)).objs.size:=by
     rw [Heap.size_push];exact Nat.ne_of_lt (Nat.lt_succ_of_lt hlt)
    exact hm.heap b o (by simp only [List.mem_cons,List.mem_singleton,List.not_mem_nil,or_false,not_or];exact ⟨b1,b2⟩) (Heap.get?_push_of_some _ (Heap.get?_push_of_some _ e))
  ·rcases r₂ with e | fl₂
   ·exact hr₂
   rcases fl₂ with _ | _ | _ | r
   rotate_right
   ·obtain ⟨rfl,h',tk,rfl,hS',hk'⟩:=hr₂
    repeat (any_goals (first | assumption | wp_step))
    exact h _ _ hS' hk'
   all_goals exact hr₂.elim
 all_goals exact hr.elim
def rSetTs (X:Cx):List V→Hp→VK→Prop:=fun xs H Q=>∃ p ss,xs = [.ref p]∧SqL X.K H p (ss.map V.str)∧ss.length < 1000∧∀ l,H l = none→Q (.ref l) (upd H l (SetS X.prog X.w l (allS ss)))
theorem call_setTs {X:Cx} (hin:X.A.handled = none):CallR X (.type "set") (rSetTs X):=by
 intro pins s σ H xs us Q I r h
 obtain ⟨p,ss,rfl,hq,hl,q⟩:=h
 obtain ⟨u,rfl,ru⟩:=vals1 r
 cases ru
 obtain ⟨its,rv,pl,hz⟩:=I.list hq
 refine call_setL hin pl.isList (strs_of rv) (by unfold scanBound;omega) fun h' tk hT hk=>?_
 obtain ⟨es,ep,t,r0,el,pm,nd⟩:=hT
 exact ⟨.ref s.heap.objs.size,_,I.laid (o:=SetS X.prog X.w s.heap.objs.size (allS ss)) (t':=tk) hk (Nat.le_refl _) (setS_ok r0 el pm nd),rfl,q _ (I.hok.fresh (Nat.le_refl _))⟩
end
end L2
namespace PySem
theorem entry_valueiterator_iter:entryFor table "dict_valueiterator.__iter__" = some Builtin.«dict_keyiterator.__iter__» :=
 entryFor_alias (id':="dict_keyiterator.__iter__") (by kernel_rfl) rfl (by decide +kernel) (by kernel_rfl)
end PySem
namespace L2
open PySem PySem.Spec PyProof.Rows PySem.W
def Itv (a:Addr) (o:Obj) (kvs:List (Key×V)):It:=⟨fun i H=>H a = some (.frz o (.dK kvs))∧i < kvs.length,fun i H v H'=>H' = H∧∃ kv,kvs[i]? = some kv∧v = kv.2,fun i H=>H a = some (.frz o (.dK kvs))∧kvs.length≤i⟩
section
variable {X:Cx} {pins:List (Addr×Obj)} {σ:St} {H:Hp} {s:Shared} {a:Addr} {kvs:List (Key×V)} {o:Obj}
theorem turn_values {P:Program} {w:World} {K:PySem.W.Frag} {tg:Expr} (it:Addr) {es:Array DictEntry} {ep:Nat} (hd:o.data = .dict es ep) :
  Turn P w K tg (Itv a o kvs) [it] it (fun i h=>h.IsValIter it a i kvs.length ep) where
 mem:=by simp
 obj:=fun i h st b hb=>by
  have e:b = it:=by simpa using hb
  subst e
  obtain ⟨ob,e,c,d⟩:=st
  exact ⟨ob,e,fun v z=>by rw [d] at z;cases z⟩
 keep:=fun i h h' st k=>by
  obtain ⟨ob,e,r⟩:=st
  exact ⟨ob,k it (by simp) ob e,r⟩
 item:=by
  intro X hP hw hK hc i pins s σ H E I hf st hg
  subst hP hw hK
  obtain ⟨f0,f1,f2,f3,f4,f5⟩:=hf it (by simp)
  obtain ⟨hg1,hg2⟩:=hg
  obtain ⟨hs,vs,rel,dat⟩:=frz_at I hg1 hd
  have hl:kvs.length = vs.length:=rel.length
  obtain ⟨u,hu,ru⟩:=rel.at (List.getElem?_eq_getElem hg2)
  rw [hl] at st
  refine wpAny_pyNext_values_item st dat hu fun h' hit' hsb=>?_
  have I1:Inv X pins σ H { s with heap:=h' }:=I.turned (t':=s.toks) (fun b ob hb e=>hsb.extBut b ob hb e) f0 f1 f3 f4 f5
  obtain ⟨ob,e,cc,d⟩:=id hit'
  refine ⟨_,rfl,go_of (s:={ s with heap:=h' }) e cc d (by decide) ⟨(kvs[i]).2,H,I1,ru,⟨rfl,_,List.getElem?_eq_getElem hg2,rfl⟩,?_,fun b hb=>(hf b hb).1⟩⟩
  rw [hl];exact hit'
 done:=by
  intro X hP hw hK hc i pins s σ H E I hf st hg
  subst hP hw hK
  obtain ⟨f0,f1,f2,f3,f4,f5⟩:=hf it (by simp)
  obtain ⟨hg1,hg2⟩:=hg
  obtain ⟨hs,vs,rel,dat⟩:=frz_at I hg1 hd
  have hl:kvs.length = vs.length:=rel.length
  rw [hl] at st hg2
  exact wpAny_pyNext_values_end (I.ok.hd hc) st dat (List.getElem?_eq_none hg2) fun h' eb=>⟨rfl,I.turned (t':=s.toks) (fun b ob hb e=>eb b ob hb e) f0 f1 f3 f4 f5⟩
 self:=fun A i s Q E st h=>by
  have hT:s.TypeIs (.ref it) "dict_valueiterator":=st.typeIs
  refine wpAny_pyIter_slot hT PySem.F.slot_dict_valueiterator_iter (wpAny_call_entry PySem.F.slot_dict_valueiterator_iter hT PySem.entry_valueiterator_iter ?_ (PySem.F.args_dict_valueiterator_iter_1 _))
  show wpAny _ _ (ret (.ref it)) _ _ s
  exact wpAny_pure ⟨_,rfl, "dict_valueiterator",_,hT,PySem.F.slot_dict_valueiterator_next.lookup,h⟩
def iVals (tl:TE):TI:=fun σ H R=>tl σ H fun x H1=>∃ a o kvs,x = .ref a∧H1 a = some (.frz o (.dK kvs))∧R (Itv a o kvs) H1
theorem pi_vals {tg l:Expr} {tl:TE} {apos cpos:Pos} (hl:PE X l tl) (hbase:attributeBase l "values" X.env (eval l X.env) = eval l X.env:=by rfl) (hline:(apos.endLine == cpos.line) = true:=by rfl) :
  PI X tg (.Call (.Attribute l "values" apos) [] [] cpos) (iVals tl):=by
 intro pins s σ H R I h
 refine wpAny_Call_method0_late hbase hline (thn (hl pins s σ H _ I h) fun v s1 ⟨x,H1,I1,r1,a,o,kvs,ex,ea,q⟩=>?_)
 subst ex
 cases r1
 obtain ⟨ho,z,hs,vs,rel,o',es,ep,ho',hx,hdd,r⟩:=id (I1.hok _ _ ea)
 rw [ho] at ho'
 cases ho'
 have dat:s1.heap.DictAt (mixKind X.prog X.w) a vs ep:=⟨o,es,ho,hx,hdd,r⟩
 have hT:s1.TypeIs (.ref a) "dict":=dat.dictOf.typeIs
 refine ⟨"dict", "dict.values",PySem.F.plainAttrs_dict,PySem.F.slot_dict_values,PySem.F.type_dict_values,hT,(fun b e=>by injection e with e;subst e;exact ⟨o,ho,hx.2.1⟩),?_⟩
 refine Calls.callWith_builtin rfl (PySem.evalArgs_none ?_)
 refine call_meetsIn PySem.F.slot_dict_values hT PySem.F.entry_dict_values (PySem.F.args_dict_values_1 _) (meets_dict_values (mixKind X.prog X.w) a hs) ⟨⟨vs,dat.dictOf⟩,?_⟩
 have hlen:kvs.length = vs.length:=rel.length
 have I2:Inv X pins σ H1 { s1 with heap:=s1.heap.push { cls:=.type "dict_values",data:=.fields #[.ref a] } }:=I1.kept (t':=s1.toks) fun b o e=>Heap.get?_push_of_some _ e
 have dat2:(s1.heap.push { cls:=.type "dict_values",data:=.fields #[.ref a] }).DictAt (mixKind X.prog X.w) a vs ep:=dat.at' fun o e=>Heap.get?_push_of_some _ e
 show wpAny _ _ (pyIter (.ref s1.heap.objs.size)) _ _ _
 refine wpAny_pyIter_values (s:={ s1 with heap:=s1.heap.push { cls:=.type "dict_values",data:=.fields #[.ref a] } }) ⟨_,Heap.get?_push_size _ rfl,rfl,rfl⟩ dat2 ?_
 refine ⟨_,[_],_,_,H1,rfl,I2.kept (t':=s1.toks) fun b o e=>Heap.get?_push_of_some _ e,turn_values _ hdd,⟨_,Heap.get?_push_size _ rfl,rfl,by rw [hlen];rfl⟩,fun b hb=>?_,q⟩
 have e:=List.mem_singleton.mp hb
 subst e
 exact I2.fpOk (Nat.le_refl _) (I2.hok.fresh (Nat.le_refl _))
end
theorem compTurn_set (elt target iter:Expr) (ifs:List Expr) (scope:Scope) (pos:Pos) (it acc:Value) (env:Env) :
  compTurn (.SetComp elt [⟨target,iter,ifs,0⟩] scope pos) 0 it acc env = (do
   standAt iter.pos
   match ← pyNext it with
   | none=>pure (.done .next)
   | some v =>
    letOwnedTupleGo target it v
    assign target env v
    let mut fine:=true
    for d in ifs do
     if fine then fine ← isTrue d env (eval d env)
    if fine then
     (do let u ← eval elt env;standAt elt.pos;let _ ← call (.builtin "set.add") [acc,u])
    again (.compLoop (.SetComp elt [⟨target,iter,ifs,0⟩] scope pos) 0 it acc env)):=by rfl
theorem compStart_set {prog:Program} {w:World} {A:Around} {R:Result→Shared→Prop} {s:Shared} {elt target iter ifs rest scope pos it acc env}
  (h0:codeAny (model prog w) A (.compLoop (.SetComp elt (⟨target,iter,ifs,0⟩ :: rest) scope pos) 0 it acc env) R s)
  (h:wpAny (model prog w) A (pyIter it) (fun it' s'=>codeAny (model prog w) A (.compLoop (.SetComp elt (⟨target,iter,ifs,0⟩ :: rest) scope pos) 0 it' acc env) R s') (notedBy (model prog w) A env fun x s'=>R (.error x) s') s) :
  codeAny (model prog w) A (.compStart (.SetComp elt (⟨target,iter,ifs,0⟩ :: rest) scope pos) 0 it acc env) R s:=by
 refine codeAny_of_tree ?_
 show wpAny _ _ ((compStart (.SetComp elt (⟨target,iter,ifs,0⟩ :: rest) scope pos) 0 it acc env).onRaise (fun x=>do noteFrame x env;standAt theWindowsPlace)) _ _ s
 refine wpAny_notedAt ?_
 unfold compStart
 show wpAny _ _ (ask >>= _) _ _ s
 refine wpAny_bind (wpAny_askSetting (wpAny_ite ?_))
 split
 ·first
   | exact wpAny_bind (wpAny_pure (wpAny_pure (And.intro rfl h0)))
   | exact wpAny_pure (And.intro rfl h0)
 ·have go:∀ {Q:Fin→Shared→Prop} {E:Value→Shared→Prop},(∀ it' s',codeAny (model prog w) A (.compLoop (.SetComp elt (⟨target,iter,ifs,0⟩ :: rest) scope pos) 0 it' acc env) R s'→Q (.again (.compLoop (.SetComp elt (⟨target,iter,ifs,0⟩ :: rest) scope pos) 0 it' acc env)) s')→True:=fun _=>trivial
  refine wpAny_bind (wpAny_rule ?_)
  show wpAny _ _ (standAt iter.pos >>= _) _ _ s
  exact wpAny_bind (wpAny_standAt (wpAny_bind (wpAny_mono h (fun it' s' h'=>wpAny_pure (And.intro rfl h')) fun _ _ x=>x)))
end L2
namespace L2
open PySem PySem.Spec PyProof.Rows PySem.W
def CompOkS (P:Program) (w:World) (J:It) (D:Addr) (σ:St) (k:Nat) (ix:List Nat) (g:TG) (tt:TT) (te:TE) (Q:VK) (H1:Hp):Prop:=∃ W:Nat→Nat→List Str→Hp→Prop,(∃ m,W 0 m [] (upd H1 D (SetS P w D []))) ∧
 ∀ i m zs H2,W i m zs H2→H2 D = some (SetS P w D zs)∧((J.stop i H2∧Q (.ref D) H2)∨(J.go i H2∧∃ N:List Str→Hp→Prop,(∀ zs H',N zs H'→∃ m',m' < m∧W (i + 1) m' zs H')∧∀ x H3,J.yld i H2 x H3→g x (capt σ k ix) H3 fun σ2 H4=>Kp (capt σ k ix) σ2 ∧
  tt σ2 H4 fun b H5=>if b = true then te σ2 H5 fun y H6=>∃ z,y = .str z∧H6 D = some (SetS P w D zs)∧zs.length < 1000∧N (addS zs z) (upd H6 D (SetS P w D (addS zs z))) else N zs H5))
def tScomp (P:Program) (w:World) (k:Nat) (ix:List Nat) (wi:TI) (g:TG) (tt:TT) (te:TE):TE:=fun σ H Q=>wi σ H fun J H1=>∀ D,H1 D = none→CompOkS P w J D σ k ix g tt te Q H1
section
variable {X:Cx} {elt tg iter:Expr} {ifs:List Expr} {scope:Scope} {pos:Pos} {ts fr:List Str} {ix:List Nat} {wi:TI} {g:TG} {tt:TT} {te:TE}
theorem inv_compO {ob:HO} {pins:List (Addr×Obj)} {σ:St} {H:Hp} {s:Shared} {fp:List Addr} {h1:Heap} {tk:Nat} {D C:Addr} (S:CScope X.N X.env.scope scope ts fr ix) (I:Inv X pins σ H s) (hf:∀ b∈fp,FpOk X pins H b) (hfp:∀ b∈fp,b < s.heap.objs.size)
  (hD:s.heap.objs.size≤D) (hC:s.heap.objs.size≤C) (hDC:D≠C) (hk:∀ b o,s.heap.get? b = some o→h1.get? b = some o) (hob:ObjOk X.prog X.w (upd H D ob) h1 D ob) {m0:Str→Option Value} (hn:h1.Ns C m0) :
  Inv (cxC X (ts++fr) scope s H fp C) [] (capt σ ts.length ix) (upd H D ob) { s with heap:=h1,toks:=tk }:=by
 have hcl:∀ x∈scope.names,x.2 = .free→(X.env.cells.lookup x.1).isSome = true:=fun x hx hfx=>by
  obtain ⟨c,hc⟩:=I.ok.has x.1 (S.frs x hx hfx)
  rw [hc];rfl
 have nCell:∀ b,s.heap.objs.size≤b→∀ x c,X.env.cells.lookup x = some c→c≠b:=fun b hb x c e z=>by
  obtain ⟨v,q⟩:=I.cell x c e
  exact absurd (Nat.lt_of_lt_of_le q.lt (by rw [z];exact hb)) (Nat.lt_irrefl _)
 have hasC:∀ x,scope.names.lookup x = some .free→∃ c,(closL X.env scope.names []).lookup x = some c∧X.env.cells.lookup x = some c:=fun x hx=>by
  obtain ⟨c,hc⟩:=closL_has (env:=X.env) scope.names [] (PySem.mem_of_lookup hx)
  obtain ⟨c',hc'⟩:=lookup_of_mem hc
  exact ⟨c',hc',closL_lookup hcl hc'⟩
 have hfrs:∀ b∈fp,b ∉ frs X.stack:=fun b hb z=>by
  obtain ⟨_,f1,f2,_⟩:=hf b hb
  rcases List.mem_cons.mp (I.stkSub b z) with e | e
  ·exact f1 e
  ·exact f2 e
 have hCn:H C = none:=I.hok.fresh hC
 have hDn:H D = none:=I.hok.fresh hD
 refine ⟨⟨I.ok.mod,?_,I.ok.glob,I.ok.blt,hC,fun x y c h1 h2=>?_,fun x hx=>?_,fun x c hfx=>?_,I.ok.hd,I.ok.frames,.inl rfl,fun b hb=>⟨?_,fun x c e=>?_⟩,I.bs,Nat.le_trans I.ok.bsz I.sz,fun b o e hb=>?_,hfrs,I.stack,I.stkFree⟩,
  rfl,I.bare,Un.laid hk hD hDn,⟨m0,hn,fun i x v e1 e2 e3=>?_⟩,fun x c e=>?_,?_,fun x c e=>?_,fun p hp=>?_,I.hok.laid hk hD hob,?_⟩
 ·show (relabel scope X.env).kind = _
  exact S.kind
 ·exact I.ok.inj x y c (closL_lookup hcl h1) (closL_lookup hcl h2)
 ·have hx':(relabel scope X.env).names.lookup x = some .cell∨(relabel scope X.env).names.lookup x = some .free:=hx
  have hfree:scope.names.lookup x = some .free:=by
   rcases hx' with q | q
   ·obtain ⟨k,e,z⟩:=relabel_lookup q
    rcases z with z | ⟨z,_⟩
    ·subst z;exact absurd rfl (S.nocell _ (PySem.mem_of_lookup e))
    ·rw [e,z]
   ·obtain ⟨k,e,z⟩:=relabel_lookup q
    rcases z with z | ⟨_,z⟩
    ·rw [e,← z]
    ·cases z
  obtain ⟨c,hc,_⟩:=hasC x hfree
  exact ⟨c,hc⟩
 ·exact absurd (show false = true from hfx) (by decide)
 ·exact Nat.ne_of_lt (Nat.lt_of_lt_of_le (hfp b hb) hC)
 ·exact (hf b hb).2.2.2.2.1 x c (closL_lookup hcl e)
 ·have f:=hf b hb
  rcases f.2.2.2.1 with z | z
  ·exact I.ok.noex b o e z
  ·exact absurd (Nat.lt_of_lt_of_le (Heap.lt_size (I.ok.bs b o e).1) z) (Nat.lt_irrefl _)
 ·obtain ⟨a,i',hj,hi,hσ⟩:=capt_get e2
  subst hj
  have e1':(ts++fr)[ts.length + a]? = some x:=e1
  rw [List.getElem?_append_right (by omega),Nat.add_sub_cancel_left] at e1'
  have hN:X.N[i']? = some x:=by
   have q:=congrArg (fun l=>l[a]?) S.cap
   simp only [List.getElem?_map,e1',hi] at q
   exact (Option.some.inj q).symm
  have hfree:=S.capf x (List.mem_of_getElem? e1')
  have hk':=S.frs (x,.free) (PySem.mem_of_lookup hfree) rfl
  obtain ⟨m,hnm,hl⟩:=I.loc
  obtain ⟨u,r,lk⟩:=hl i' x v hN hσ (.inr hk')
  refine ⟨u,r,?_⟩
  obtain ⟨c,hc,hc'⟩:=hasC x hfree
  rcases lk with ⟨z,_⟩ | ⟨_,c2,e4,z⟩
  ·have z':X.env.scope.names.lookup x = some .local:=z
   rcases hk' with y | y
   ·have y':X.env.scope.names.lookup x = some .cell:=y
    rw [z'] at y';cases y'
   ·have y':X.env.scope.names.lookup x = some .free:=y
    rw [z'] at y';cases y'
  ·have hcc:c2 = c:=Option.some.inj (e4.symm.trans hc')
   rw [hcc] at z
   obtain ⟨o,ho2,hd2⟩:=z
   exact .inr ⟨relabel_free hfree,c,hc,o,hk _ _ ho2,hd2⟩
 ·obtain ⟨v,o,ho2,hd2⟩:=I.cell x c (closL_lookup hcl e)
  exact ⟨v,o,hk _ _ ho2,hd2⟩
 ·show upd H D ob C = none
  rw [upd_ne (Ne.symm hDC)];exact hCn
 ·show upd H D ob c = none
  rw [upd_ne (nCell D hD x c (closL_lookup hcl e))]
  exact I.freeC x c (closL_lookup hcl e)
 ·exact absurd (show p∈([]:List (Addr×Obj)) from hp) (by simp)
 ·have e:=congrArg List.length S.cap
  simp only [List.length_map] at e
  rw [capt_length]
  show _ = (ts++fr).length
  rw [List.length_append,e]
theorem setS_at {P:Program} {w:World} {H:Hp} {h:Heap} {a:Addr} {zs:List Str} (x:ObjOk P w H h a (SetS P w a zs)):SetH P w h a zs:=x.1
theorem setS_new {P:Program} {w:World} {H:Hp} {h:Heap} {a:Addr} {zs:List Str} (x:SetH P w h a zs):ObjOk P w H h a (SetS P w a zs):=by
 obtain ⟨es,ep,t,r,el,pm,nd⟩:=x
 exact setS_ok r el pm nd
theorem SetH.obj {P:Program} {w:World} {h:Heap} {a:Addr} {zs:List Str} (x:SetH P w h a zs):∃ o,h.get? a = some o:=by
 obtain ⟨es,ep,t,r,_⟩:=x
 obtain ⟨o,ho,_⟩:=r.o
 exact ⟨o,ho⟩
set_option maxHeartbeats 2000000 in
theorem pe_scomp (hc:X.calm = true) (S:CScope X.N X.env.scope scope ts fr ix) (hi:PI X tg iter wi)
  (hb:∀ s H fp C,PG (cxC X (ts++fr) scope s H fp C) tg g∧PTs (cxC X (ts++fr) scope s H fp C) ifs tt∧PE (cxC X (ts++fr) scope s H fp C) elt te)
  (hs:∀ x,foldedSetIterable iter X.env x = pure x:=by intro _;rfl):PE X (.SetComp elt [⟨tg,iter,ifs,0⟩] scope pos) (tScomp X.prog X.w ts.length ix wi g tt te):=by
 intro pins s σ H Q I h
 have hcl:∀ x∈scope.names,x.2 = .free→(X.env.cells.lookup x.1).isSome = true:=fun x hx hfx=>by
  obtain ⟨c,hc⟩:=I.ok.has x.1 (S.frs x hx hfx)
  rw [hc];rfl
 show wpAny (model X.prog X.w) X.A (comprehension (.SetComp elt [⟨tg,iter,ifs,0⟩] scope pos) scope X.env (firstIterPos [⟨tg,iter,ifs,0⟩] pos) (newSet (.type "set")) false (eval iter X.env)) _ X.xe s
 refine wpAny_comprehension_free (use:=none) rfl hs (closureFor_clos hcl) S.kind S.nms (thn (hi pins s σ H _ I h) fun v s1 h1=>thn h1 fun itv s2 h2=>?_)
 obtain ⟨it,fp,tn,J,H2,rfl,I2,T,st2,f2,hW⟩:=h2
 refine newSet_T (wpAny_newFunctionEnv S.nocell (by intro y hy;simp at hy) (fun h₁ hns₁ hsb₁=>?_) S.kind)
 dsimp only at hns₁ hsb₁ ⊢
 generalize hH2:s2.heap.push (emptySet X.w) = G2 at hns₁ hsb₁ ⊢
 have hCs:G2.objs.size = s2.heap.objs.size + 1:=by rw [← hH2,Heap.size_push]
 have hDC:s2.heap.objs.size≠G2.objs.size:=by rw [hCs];exact Nat.ne_of_lt (Nat.lt_succ_self _)
 have hCle:s2.heap.objs.size≤G2.objs.size:=by rw [hCs];exact Nat.le_succ _
 have old:∀ b o,s2.heap.get? b = some o→h₁.get? b = some o:=fun b o e=>hsb₁.extBut b o (by rw [hCs];exact Nat.ne_of_lt (Nat.lt_succ_of_lt (Heap.lt_size e))) (Heap.get?_push_of_some _ (hH2 ▸ Heap.get?_push_of_some _ e))
 have hacc:h₁.get? s2.heap.objs.size = some (emptySet X.w):=hsb₁.extBut _ _ hDC (Heap.get?_push_of_some _ (hH2 ▸ Heap.get?_push_size _ rfl))
 have hfp:∀ b∈fp,b < s2.heap.objs.size:=fun b hb'=>by
  obtain ⟨o,e,_⟩:=T.obj _ _ st2 b hb'
  exact Heap.lt_size e
 have IC:Inv (cxC X (ts++fr) scope s2 H2 fp G2.objs.size) [] (capt σ ts.length ix) (upd H2 s2.heap.objs.size (SetS X.prog X.w s2.heap.objs.size [])) { s2 with heap:=h₁,toks:=s2.toks + ([]:List (Str×Value)).length } :=
  inv_compO S I2 f2 hfp (Nat.le_refl _) hCle hDC old (setS_new (empty_T hacc)) hns₁
 have st1:tn 0 h₁:=T.keep _ _ _ st2 fun b hb' o e=>old b o e
 obtain ⟨W,⟨m0,w0⟩,turn⟩:=hW s2.heap.objs.size I2.fresh
 obtain ⟨bg,bt,be⟩:=hb s2 H2 fp G2.objs.size
 generalize hX:cxC X (ts++fr) scope s2 H2 fp G2.objs.size = Y at IC bg bt be
 have eP:Y.prog = X.prog:=by rw [← hX];rfl
 have eW:Y.w = X.w:=by rw [← hX];rfl
 have eK:Y.K = X.K:=by rw [← hX];rfl
 have eC:Y.calm = true:=by rw [← hX];exact hc
 have eA:Y.A = X.A:=by rw [← hX];rfl
 have eE:Y.env = compEnvC scope (closL X.env scope.names []) G2.objs.size X.env:=by rw [← hX];rfl
 have eX:Y.xe = fun _ _=>False:=by rw [← hX];rfl
 have stat:∀ {H':Hp},(∀ b∈fp,H' b = none)→∀ b∈fp,FpOk Y [] H' b:=fun hn b hb'=>by
  rw [← hX]
  have z:=IC.ok
  rw [← hX] at z
  refine ⟨hn b hb',(z.exf b hb').1,z.exfs b hb',.inl hb',(z.exf b hb').2,fun p hp=>absurd (show p∈([]:List (Addr×Obj)) from hp) (by simp)⟩
 have fr0:∀ b∈fp,upd H2 s2.heap.objs.size (SetS X.prog X.w s2.heap.objs.size []) b = none:=fun b hb'=>by rw [upd_ne (Nat.ne_of_lt (hfp b hb'))];exact (f2 b hb').1
 have bot:∀ {α:Type} {t:Sem α} {R:α→Shared→Prop} {E:Value→Shared→Prop} {z:Shared},wpAny (model Y.prog Y.w) Y.A t R Y.xe z→wpAny (model X.prog X.w) X.A t R E z:=fun {α t R E z} q=>by
  rw [eP,eW,eA,eX] at q
  exact wpAny_mono q (fun _ _ y=>y) fun _ _ y=>y.elim
 have fin:∀ (H':Hp) (s':Shared),Inv X pins σ H' s'→FpOk X pins H' G2.objs.size→(∃ m,s'.heap.Ns G2.objs.size m)→Q (.ref s2.heap.objs.size) H'→compPost (model X.prog X.w) X.A X.xe none (EP X pins σ Q) (.ref s2.heap.objs.size) G2.objs.size (.ok .next) s':=fun H' s' I' f' ⟨m,hm⟩ q'=>by
  refine ⟨m,hm,fun h' sb=>⟨.ref s2.heap.objs.size,H',?_,rfl,q'⟩⟩
  exact I'.turned (t':=s'.toks) (fun b o hb' e=>(sb.2 b hb').trans e) f'.1 f'.2.1 f'.2.2.2.1 f'.2.2.2.2.1 f'.2.2.2.2.2
 have loop:codeAny (model X.prog X.w) X.A (.compLoop (.SetComp elt [⟨tg,iter,ifs,0⟩] scope pos) 0 (.ref it) (.ref s2.heap.objs.size) (compEnvC scope (closL X.env scope.names []) G2.objs.size X.env))
   (compPost (model X.prog X.w) X.A X.xe none (EP X pins σ Q) (.ref s2.heap.objs.size) G2.objs.size) { s2 with heap:=h₁,toks:=s2.toks + ([]:List (Str×Value)).length }:=by
  rw [← eE]
  refine codeAny_loop rfl (fun n s'=>∃ i ys H',Inv Y [] (capt σ ts.length ix) H' s'∧tn i s'.heap∧(∀ b∈fp,H' b = none)∧W i n ys H') (fun n s3 hI=>?_) m0 ⟨0,[],_,IC,st1,fr0,w0⟩
  obtain ⟨i,ys,H3,I3,st3,fr3,w3⟩:=hI
  show wpAny _ _ ((compTurn (.SetComp elt [⟨tg,iter,ifs,0⟩] scope pos) 0 (.ref it) (.ref s2.heap.objs.size) Y.env).onRaise (fun x=>do noteFrame x Y.env;theTreesLotGoes x)) _ _ s3
  refine wpAny_noted ?_
  rw [compTurn_set]
  obtain ⟨hD3,hcase⟩:=turn i n ys H3 w3
  rcases hcase with ⟨stop,qn⟩ | ⟨go,N,hN,step⟩
  ·have q:=T.done Y eP eW eK eC i [] s3 _ H3 (fun _ _=>False) I3 (stat fr3) st3 stop
   rw [eA] at q
   refine wpAny_bind (wpAny_standAt (wpAny_bind (wpAny_mono q (fun r s4 ⟨hr,I4⟩=>?_) fun _ _ y=>y.elim)))
   subst hr
   refine wpAny_pure ?_
   have b4:Un (frs X.stack) fp H2 H3 s2.heap s4.heap:=by have z:=I4.base;rw [← hX] at z;exact z
   have ok4:HOk X.prog X.w H3 s4.heap:=by have z:=I4.hok;rw [eP,eW] at z;exact z
   have os4:s4.os = s2.os:=by have z:=I4.os;rw [← hX] at z;exact z
   have I5:Inv X pins σ H3 s4:=I2.call' os4 b4 ok4 I4.bare fun b hb'=>⟨(f2 b hb').2.2.2.1,(f2 b hb').2.1,(f2 b hb').2.2.2.2.1,(f2 b hb').2.2.2.2.2⟩
   have fC:H3 G2.objs.size = none:=by have z:=I4.free;rw [eE] at z;exact z
   have nC:∃ m,s4.heap.Ns G2.objs.size m:=by obtain ⟨m,z,_⟩:=I4.loc;rw [eE] at z;exact ⟨m,z⟩
   exact fin H3 s4 I5 (I2.fpOk hCle fC) nC qn
  ·have q:=T.item Y eP eW eK eC i [] s3 _ H3 (fun _ _=>False) I3 (stat fr3) st3 go
   rw [eA] at q
   refine wpAny_bind (wpAny_standAt (wpAny_bind (wpAny_mono q (fun r s4 ⟨u,hr,h4⟩=>?_) fun _ _ y=>y.elim)))
   subst hr
   refine wpAny_bind (wpAny_mono h4 (fun _ s5 ⟨x,H5,I5,r5,y5,st5,fr5⟩=>?_) fun _ _ y=>y.elim)
   have I5':=I5.pinned (stat fr5) (T.obj _ _ st5)
   refine wpAny_bind (bot (thn (bg _ s5 _ H5 x u _ I5' r5 (step x H5 y5)) fun _ s6 ⟨σ6,H6,I6,kp6,q6⟩=>?_))
   refine wpAny_bind (bot (thn (bt _ s6 σ6 H6 _ I6 q6) fun ok s7 ⟨H7,I7,q7⟩=>?_))
   have again:∀ {H8:Hp} {s8:Shared} {zs:List Str} {m':Nat},Inv Y ([]++pinsAt fp s5.heap) σ6 H8 s8→m' < n→W (i + 1) m' zs H8→∃ m,m < n∧∃ i ys H',Inv Y [] (capt σ ts.length ix) H' s8∧tn i s8.heap∧(∀ b∈fp,H' b = none)∧W i m ys H':=fun {H8 s8 zs m'} I8 hm w8=>by
    refine ⟨m',hm,i + 1,zs,H8,(I8.unpinned).weak ?_ kp6,T.keep _ _ _ st5 fun b hb' o e=>(I8.pin (b,o) (List.mem_append_right _ (List.mem_append_right _ (mem_pinsAt hb' e)))).1,fun b hb'=>?_,w8⟩
    ·rw [I8.len,I3.len]
    ·obtain ⟨o,e,d⟩:=T.obj _ _ st5 b hb'
     exact (I8.pin (b,o) (List.mem_append_right _ (List.mem_append_right _ (mem_pinsAt hb' e)))).2.1
   cases ok with
   | false =>
    rw [if_neg (by decide)] at q7
    obtain ⟨m',hm,w8⟩:=hN _ _ q7
    exact wpAny_pure ⟨rfl,again I7 hm w8⟩
   | true =>
    rw [if_pos rfl] at q7
    refine wpAny_bind (wpAny_bind (bot (thn (be _ s7 σ6 H7 _ I7 q7) fun u8 s8 ⟨y8,H8,I8,r8,z8,ey,hD8,hz,n8⟩=>?_)))
    subst ey
    obtain ⟨tk8,rfl⟩:=r8
    obtain ⟨m',hm,w8⟩:=hN _ _ n8
    refine wpAny_bind (wpAny_standAt (wpAny_bind ?_))
    have hS8:SetH X.prog X.w s8.heap s2.heap.objs.size ys:=by have z:=I8.hok _ _ hD8;rw [eP,eW] at z;exact setS_at z
    refine call_addT hS8 (by unfold scanBound;omega) fun h' sb hT=>?_
    have new:ObjOk Y.prog Y.w (upd H8 s2.heap.objs.size (SetS X.prog X.w s2.heap.objs.size (addS ys z8))) h' s2.heap.objs.size (SetS X.prog X.w s2.heap.objs.size (addS ys z8)):=by rw [eP,eW];exact setS_new hT
    have I9:=d_write (t':=s8.toks + 1) I8 (by rw [hD8];exact True.intro) sb hT.obj new
    exact wpAny_pure (wpAny_pure ⟨rfl,again I9 hm w8⟩)
 exact compStart_set loop (T.self _ 0 _ _ _ st1 loop)
theorem scomp_vals {P:Program} {w:World} {a:Addr} {o:Obj} {kvs:List (Key×V)} {D:Addr} {σ:St} {k:Nat} {ix:List Nat} {g:TG} {tt:TT} {te:TE} {Q:VK} {H1:Hp} (Pv:Nat→List Str→Hp→Prop) (hl:∀ i zs H,Pv i zs H→H a = some (.frz o (.dK kvs))) (h0:Pv 0 [] (upd H1 D (SetS P w D []))) (hD:∀ i zs H,Pv i zs H→H D = some (SetS P w D zs))
  (hs:∀ i zs H kv,kvs[i]? = some kv→Pv i zs H→g kv.2 (capt σ k ix) H fun σ2 H4=>Kp (capt σ k ix) σ2∧tt σ2 H4 fun b H5=>if b = true then te σ2 H5 fun y H6=>∃ z,y = .str z∧H6 D = some (SetS P w D zs)∧zs.length < 1000∧Pv (i + 1) (addS zs z) (upd H6 D (SetS P w D (addS zs z))) else Pv (i + 1) zs H5)
  (hd:∀ zs H,Pv kvs.length zs H→Q (.ref D) H):CompOkS P w (Itv a o kvs) D σ k ix g tt te Q H1:=by
 refine ⟨fun i m ys H=>m = kvs.length - i∧i≤kvs.length∧Pv i ys H,⟨kvs.length,by simp,Nat.zero_le _,h0⟩,?_⟩
 rintro i m ys H ⟨rfl,hi,p⟩
 refine ⟨hD i ys H p,?_⟩
 by_cases hlt:i < kvs.length
 ·refine .inr ⟨⟨hl _ _ _ p,hlt⟩,Pv (i + 1),fun zs H' p'=>⟨kvs.length - (i + 1),by omega,rfl,hlt,p'⟩,fun x H' y=>?_⟩
  obtain ⟨rfl,kv,hkv,rfl⟩:=y
  exact hs i ys _ kv hkv p
 ·have e:i = kvs.length:=by omega
  subst e
  exact .inl ⟨⟨hl _ _ _ p,Nat.le_refl _⟩,hd ys H p⟩
end
end L2
namespace L2
open PySem PySem.Spec PyProof.Rows PySem.W
section
variable {X:Cx}
def idxV (n:Nat) (lo hi st:Option Int):List Nat:=sliceRange (sliceBounds lo hi st n).1 (sliceBounds lo hi st n).2.1 (sliceBounds lo hi st n).2.2
def pickV (xs:List V) (lo hi st:Option Int):List V:=(idxV xs.length lo hi st).filterMap (xs[·]?)
theorem vals_pick {xs:List V} {us:List Value} (r:Vals xs us):∀ ix:List Nat,Vals (ix.filterMap (xs[·]?)) (ix.filterMap (us[·]?))
 | []=>.nil
 | i :: ix=>by
  rw [List.filterMap_cons,List.filterMap_cons]
  cases e:xs[i]? with
  | none=>rw [r.none_of e];exact vals_pick r ix
  | some x =>
   obtain ⟨u,eu,ru⟩:=r.get e
   rw [eu]
   exact .cons ru (vals_pick r ix)
def rSl3 (K:PySem.W.Frag) (x:V) (lo hi st:Option Int) (H:Hp) (Q:VK):Prop:=∃ a xs,x = .ref a∧SqL K H a xs∧st≠some 0∧(pickV xs lo hi st).length≤1000∧∀ p,H p = none→Q (.ref p) (upd H p (.lst (pickV xs lo hi st)))
def tSl3 (K:PySem.W.Frag) (te:TE) (tl th ts:TO):TE:=fun σ H Q=>te σ H fun x H1=>tl σ H1 fun l H2=>th σ H2 fun u H3=>ts σ H3 fun o H4=>rSl3 K x l u o H4 Q
theorem pe_slice3 {e:Expr} {te:TE} {lo hi:Option Expr} {st:Expr} {tl th ts:TO} {pos p2:Pos} (he:PE X e te) (hl:PO X lo tl) (hu:PO X hi th) (ht:PO X (some st) ts):PE X (.Subscript e (.Slice lo hi (some st) p2) pos) (tSl3 X.K te tl th ts):=by
 intro pins s σ H Q I h
 refine Subscript_ (thn (he pins s σ H _ I h) fun v s1 ⟨x,H1,I1,r1,q1⟩=>?_)
 refine wpAny_Slice (thn (hl pins s1 σ H1 _ I1 q1) fun vl s2 ⟨l,H2,I2,pl,q2⟩=>thn (hu pins s2 σ H2 _ I2 q2) fun vu s3 ⟨u,H3,I3,pu,q3⟩=>thn (ht pins s3 σ H3 _ I3 q3) fun vs s4 ⟨o,H4,I4,po,q4⟩=>?_)
 obtain ⟨a,xs,rfl,hx,h0,hz,q⟩:=q4
 cases r1
 have I5:Inv X pins σ H4 { s4 with heap:=s4.heap.push { cls:=.type "slice",data:=.fields #[vl,vu,vs] } }:=I4.kept (t':=s4.toks) fun b ob q=>Heap.get?_push_of_some _ q
 obtain ⟨its,r,pl',hz'⟩:=I5.list hx
 have hlen:=r.length
 show wpAny (model X.prog X.w) X.A (subscriptTail e (.Slice lo hi (some st) p2) (.ref a) (.ref s4.heap.objs.size)) (EP X pins σ Q) X.xe { s4 with heap:=s4.heap.push { cls:=.type "slice",data:=.fields #[vl,vu,vs] } }
 refine tail_any (ops:=[.ref a,.ref s4.heap.objs.size]) pl'.isList.typeIs slot_list_getitem.lookup ?_ (by with_unfolding_all rfl)
 refine wpAny_getItem_list_slice pl'.isList (Heap.IsSliceOf.new ..) pl pu po h0 ?_ (by rw [List.size_toArray] <;> omega)
 have e:slicePick its.toArray l u o = (((idxV xs.length l u o).filterMap (its[·]?))).toArray:=by
  unfold slicePick idxV
  rw [List.size_toArray,← hlen]
  simp
 rw [e]
 refine ⟨.ref _,_,I5.laid (t':=s4.toks) (o:=.lst (pickV xs l u o)) (fun b ob q=>Heap.get?_push_of_some _ q) (Nat.le_refl _) ?_,rfl,q _ (I5.hok.fresh (Nat.le_refl _))⟩
 exact ⟨Nat.le_trans hz (by rw [sizeLine_eq];decide),_,0,vals_pick r _,Heap.get?_push_size _ rfl⟩
def rLenD:List V→Hp→VK→Prop:=fun xs H Q=>∃ a kvs,xs = [V.ref a]∧H a = some (.dK kvs)∧Q (.int kvs.length) H
theorem call_lenDk:CallR X (.builtin "len") rLenD:=by
 intro pins s σ H xs us Q I r h
 obtain ⟨a,kvs,rfl,ha,q⟩:=h
 obtain ⟨u,rfl,ru⟩:=vals1 r
 cases ru
 obtain ⟨z,hs,vs,rel,dd⟩:=dk_of I.hok ha
 have hlen:vs.length = kvs.length:=rel.length.symm
 refine call_len_dict hs dd ?_ ?_
 ·have:sizeLine < 2 ^ 63:=by rw [sizeLine_eq];decide
  omega
 ·exact ⟨.int _,H,(I.tok _).tok _,⟨_,rfl⟩,by rw [hlen];exact q⟩
def sFrz (t:TS):TS:=fun D σ H=>∃ a kvs,H a = some (.dK kvs)∧∀ o,t { nx:=fun σ' H'=>H' a = some (.frz o (.dK kvs))∧D.nx σ' (upd H' a (.dK kvs)),rt:=fun _ _=>False } σ (upd H a (.frz o (.dK kvs)))
theorem ps_frz {st:Stmt} {t:TS} (h:PS X st t):PS X st (sFrz t):=by
 intro pins s σ H D I ⟨a,kvs,ea,q⟩
 obtain ⟨o,I1,n⟩:=I.freeze ea
 refine wpAny_mono (h pins s σ _ _ I1 (q o)) (fun fl s' hf=>?_) fun _ _ y=>y
 cases fl with
 | next =>
  obtain ⟨σ',H',I',e',q'⟩:=hf
  exact ⟨σ',_,I'.thaw e' n,q'⟩
 | brk=>obtain ⟨_,_,_,f⟩:=hf;exact f.elim
 | cont=>obtain ⟨_,_,_,f⟩:=hf;exact f.elim
 | ret u=>obtain ⟨_,_,_,_,_,f⟩:=hf;exact f.elim
end
end L2
namespace L2
open PySem PySem.Spec PyProof.Rows PySem.W
theorem ints_of:∀ {ns:List Int} {us:List Value},Vals (ns.map V.int) us→IntsAre us ns
 | [],_,r=>by rw [List.map_nil] at r;cases r;exact .nil
 | x :: ns,_,r=>by
  rw [List.map_cons] at r
  cases r with
  | cons r1 r2 =>
   obtain ⟨t,rfl⟩:=r1
   exact .cons x t (ints_of r2)
def rSum (K:PySem.W.Frag):List V→Hp→VK→Prop:=fun xs H Q=>∃ (p:Addr) (ns:List Int),xs = [.ref p]∧SqL K H p (ns.map V.int)∧Q (.int ns.sum) H
theorem call_sum {X:Cx} (hin:X.A.handled = none):CallR X (.builtin "sum") (rSum X.K):=by
 intro pins s σ H xs us Q I r h
 obtain ⟨p,ns,rfl,hq,q⟩:=h
 obtain ⟨u,rfl,ru⟩:=vals1 r
 cases ru
 obtain ⟨its,rv,pl,hz⟩:=I.list hq
 have hi:=ints_of rv
 obtain ⟨zs,hx⟩:=hi.allInts.items
 have hl:=pl.isList
 rw [hx] at hl
 refine sum_intListG hin hl fun h' tk t' hk=>?_
 have hn:zs.toList.map (·.1) = ns:=by rw [← nums_intItems,← hx];exact hi.numsOf
 have hs:preSum (numAt zs) zs.size = ns.sum:=by rw [preSum_eq,List.take_of_length_le (Nat.le_of_eq (by simp)),hn]
 rw [hs]
 exact ⟨.int ns.sum,H,I.kept hk,⟨_,rfl⟩,q⟩
theorem bt_sum:bootBuiltins "sum" = some (.builtin "sum"):=by decide +kernel
def rLenS (P:Program) (w:World):List V→Hp→VK→Prop:=fun xs H Q=>∃ a zs,xs = [V.ref a]∧H a = some (SetS P w a zs)∧zs.length < 1000∧Q (.int zs.length) H
theorem call_lenS {X:Cx}:CallR X (.builtin "len") (rLenS X.prog X.w):=by
 intro pins s σ H xs us Q I r h
 obtain ⟨a,zs,rfl,ha,hl,q⟩:=h
 obtain ⟨u,rfl,ru⟩:=vals1 r
 cases ru
 obtain ⟨⟨es,ep,t,raw,el,pm,nd⟩,_⟩:=I.hok _ _ ha
 have hz:=set_size pm
 obtain ⟨o,ho,hx,hd⟩:=raw.o
 refine call_len_set ho hx hd raw.fits (by omega) ?_
 exact ⟨.int _,H,(I.tok _).tok _,⟨_,rfl⟩,by rw [hz];exact q⟩
end L2
namespace M
open PySem L2
def top (i:Nat):Stmt:=PySem.Challenge.pw_manrent_k11_whole_land_by_a_plain_book.main.body.getD i (.Pass ⟨0,0,0,0⟩)
abbrev sInit:Stmt:=inClass (top 16) 0
abbrev sThere:Stmt:=inClass (top 16) 1
abbrev sEstates:Stmt:=inClass (top 16) 2
abbrev sHolder:Stmt:=inClass (top 16) 3
abbrev sLord:Stmt:=inClass (top 16) 4
abbrev sOwn:Stmt:=inClass (top 16) 5
abbrev sBreadth:Stmt:=inClass (top 16) 6
abbrev sService:Stmt:=inClass (top 16) 7
abbrev sChain:Stmt:=inClass (top 16) 8
abbrev sHeld:Stmt:=inClass (top 16) 9
abbrev sUnder:Stmt:=inClass (top 16) 10
abbrev sFolk:Stmt:=inClass (top 16) 11
abbrev sGrant:Stmt:=inClass (top 16) 12
abbrev sPartOff:Stmt:=inClass (top 16) 13
abbrev sConvey:Stmt:=inClass (top 16) 14
abbrev sFall:Stmt:=inClass (top 16) 15
abbrev sCheck:Stmt:=inClass (top 16) 18
abbrev sAdd:Stmt:=inClass (top 16) 19
theorem same_new {H:Hp} {p:Addr} (h:H p = none) (o:HO):Same H (upd H p o):=fun b u q=>by rw [upd_ne (ne_of_none q h)];exact q
theorem same_upd {H H2:Hp} {l:Addr} {o:HO} (s:Same H H2) (h:H l = none):Same H (upd H2 l o):=fun b u q=>by rw [upd_ne (ne_of_none q h)];exact s b u q
theorem small {n:Nat} (h:n≤1000000):n≤sizeLine:=Nat.le_trans h (by decide)
theorem small' {n:Nat} (h:n < 1000000):n < sizeLine:=Nat.lt_of_lt_of_le h (by decide)
theorem u1 {k:Nat} {A:Around} (r:Room k A):A.units + 1 < cLine:=by have:=r.un;omega
structure LandC (K:PySem.W.Frag) (C:Addr):Prop where
 cl:Cls K C
 n1:NoAttr K C "lord_of"
 n2:NoAttr K C "holder_of"
 n3:NoAttr K C "own_of"
 n4:NoAttr K C "service_of"
 n5:NoAttr K C "breadth_of"
abbrev F5 (a1 a2 a3 a4 a5:Addr):List (Str×V):=[("lord_of",.ref a1),("holder_of",.ref a2),("own_of",.ref a3),("service_of",.ref a4),("breadth_of",.ref a5)]
structure LandAt (C:Addr) (H:Hp) (x dx a1 a2 a3 a4 a5:Addr) (lo ho ow se br:List (Key×V)):Prop where
 o:H x = some (.ins C dx (F5 a1 a2 a3 a4 a5))
 l1:H a1 = some (.dK lo)
 l2:H a2 = some (.dK ho)
 l3:H a3 = some (.dK ow)
 l4:H a4 = some (.dK se)
 l5:H a5 = some (.dK br)
theorem LandAt.same {C:Addr} {H H':Hp} {x dx a1 a2 a3 a4 a5:Addr} {lo ho ow se br:List (Key×V)} (k:LandAt C H x dx a1 a2 a3 a4 a5 lo ho ow se br) (s:Same H H'):LandAt C H' x dx a1 a2 a3 a4 a5 lo ho ow se br:=⟨s _ _ k.o,s _ _ k.l1,s _ _ k.l2,s _ _ k.l3,s _ _ k.l4,s _ _ k.l5⟩
structure Ap5 (a1 a2 a3 a4 a5:Addr):Prop where
 n12:a1≠a2
 n13:a1≠a3
 n14:a1≠a4
 n15:a1≠a5
 n23:a2≠a3
 n24:a2≠a4
 n25:a2≠a5
 n34:a3≠a4
 n35:a3≠a5
 n45:a4≠a5
inductive Ch (lo:List (Key×V)):Str→List Str→Prop
 | crown {e:Str}:valV lo (.inr e) = some .non→Ch lo e [e]
 | up {e p:Str} {l:List Str}:valV lo (.inr e) = some (.str p)→Ch lo p l→Ch lo e (e :: l)
theorem dget {H:Hp} {a:Addr} {kvs:List (Key×V)} {e:Str} {v:V} (h:H a = some (.dK kvs)) (hv:valV kvs (.inr e) = some v):DGet H a (V.str e) (some v):=by
 have:=DGet.k (k:=.inr e) h
 rw [hv] at this
 exact this
def spThere (C:Addr):Sp:=fun vs H Q _=>∃ x dx a1 a2 a3 a4 a5 lo ho ow se br e,vs = [.ref x,.str e]∧LandAt C H x dx a1 a2 a3 a4 a5 lo ho ow se br∧Q (.bl (valV lo (.inr e)).isSome) H
def spCheckT (C:Addr):Sp:=fun vs H Q _=>∃ x dx a1 a2 a3 a4 a5 lo ho ow se br e,vs = [.ref x,.str e]∧LandAt C H x dx a1 a2 a3 a4 a5 lo ho ow se br∧(valV lo (.inr e)).isSome = true∧Q .non H
def spHolder (C:Addr):Sp:=fun vs H Q _=>∃ x dx a1 a2 a3 a4 a5 lo ho ow se br e v,vs = [.ref x,.str e]∧LandAt C H x dx a1 a2 a3 a4 a5 lo ho ow se br∧(valV lo (.inr e)).isSome = true∧valV ho (.inr e) = some v∧Q v H
def spLord (C:Addr):Sp:=fun vs H Q _=>∃ x dx a1 a2 a3 a4 a5 lo ho ow se br e v,vs = [.ref x,.str e]∧LandAt C H x dx a1 a2 a3 a4 a5 lo ho ow se br∧(valV lo (.inr e)).isSome = true∧valV lo (.inr e) = some v∧Q v H
def spOwn (C:Addr):Sp:=fun vs H Q _=>∃ x dx a1 a2 a3 a4 a5 lo ho ow se br e v,vs = [.ref x,.str e]∧LandAt C H x dx a1 a2 a3 a4 a5 lo ho ow se br∧(valV lo (.inr e)).isSome = true∧valV ow (.inr e) = some v∧Q v H
def spBreadth (C:Addr):Sp:=fun vs H Q _=>∃ x dx a1 a2 a3 a4 a5 lo ho ow se br e v,vs = [.ref x,.str e]∧LandAt C H x dx a1 a2 a3 a4 a5 lo ho ow se br∧(valV lo (.inr e)).isSome = true∧valV br (.inr e) = some v∧Q v H
def spService (C:Addr):Sp:=fun vs H Q _=>∃ x dx a1 a2 a3 a4 a5 lo ho ow se br e v,vs = [.ref x,.str e]∧LandAt C H x dx a1 a2 a3 a4 a5 lo ho ow se br∧(valV lo (.inr e)).isSome = true∧valV se (.inr e) = some v∧Q v H
def spChain (C:Addr):Sp:=fun vs H Q _=>∃ x dx a1 a2 a3 a4 a5 lo ho ow se br e l,vs = [.ref x,.str e]∧LandAt C H x dx a1 a2 a3 a4 a5 lo ho ow se br∧(valV lo (.inr e)).isSome = true∧Ch lo e l∧l.length≤1000∧∀ r H',Same H H'→H r = none→H' r = some (.lst (l.map V.str))→Q (.ref r) H'
def spConvey (C:Addr):Sp:=fun vs H Q _=>∃ x dx a1 a2 a3 a4 a5 lo ho ow se br e man,vs = [.ref x,.str e,.str man]∧LandAt C H x dx a1 a2 a3 a4 a5 lo ho ow se br∧ho.length≤900∧Q .non (upd H a2 (.dK (putK ho (.inr e) (.str man))))
def addH (H:Hp) (a1 a2 a3 a4 a5:Addr) (lo ho ow se br:List (Key×V)) (n:Str) (lord holder:Str) (acres:Int) (t:Addr):Hp :=
 upd (upd (upd (upd (upd H a1 (.dK (putK lo (.inr n) (.str lord)))) a2 (.dK (putK ho (.inr n) (.str holder)))) a3 (.dK (putK ow (.inr n) (.int acres)))) a4 (.dK (putK se (.inr n) (.ref t)))) a5 (.dK (putK br (.inr n) (.int acres)))
def spAdd (C:Addr):Sp:=fun vs H Q _=>∃ x dx a1 a2 a3 a4 a5 lo ho ow se br n lord holder acres t,vs = [.ref x,.str n,.str lord,.str holder,.int acres,.ref t]∧LandAt C H x dx a1 a2 a3 a4 a5 lo ho ow se br∧Ap5 a1 a2 a3 a4 a5∧lo.length≤900∧ho.length≤900∧ow.length≤900∧se.length≤900∧br.length≤900 ∧
 Q .non (addH H a1 a2 a3 a4 a5 lo ho ow se br n lord holder acres t)
section
variable {P:Program} {w:World} {K:PySem.W.Frag} {mg:Str→Option Value} {base:Heap} {f C:Addr} {fd:FuncData}
theorem scThere:FnScope ["self", "estate"] ["self", "estate"] (defScope sThere):=⟨rfl,rfl,rfl,by decide +kernel,rfl,by decide +kernel,by decide +kernel⟩
theorem ok_there (T:LandC K C) (F:Fun K "there" "Land.there" sThere f fd):FnOk P w K mg base CX0 1 f fd ["self", "estate"] (spThere C):=by
 refine F.ok scThere (fun vs H Q E h=>?_) (fun cdv A outer s H vs Q E hr h=>?_)
 ·obtain ⟨x,dx,a1,a2,a3,a4,a5,lo,ho,ow,se,br,e,rfl,_⟩:=h
  rfl
 obtain ⟨x,dx,a1,a2,a3,a4,a5,lo,ho,ow,se,br,e,rfl,L,k⟩:=h
 refine ⟨_,pss_one (ps_ret (pe_cmp (pc_din (u1 hr) (pv 1) (pe_fld (pv 0) rfl)) (by with_unfolding_all rfl))),?_⟩
 exact ⟨_,rfl,_,rfl,x,C,dx,_,_,rfl,L.o,T.cl,T.n1,rfl,a1,_,rfl,DGet.k (k:=.inr e) L.l1,k⟩
theorem scCheckT:FnScope ["self", "estate"] ["self", "estate"] (defScope sCheck):=⟨rfl,rfl,rfl,by decide +kernel,rfl,by decide +kernel,by decide +kernel⟩
theorem ok_checkT (T:LandC K C) (F:Fun K "check_there" "Land.check_there" sCheck f fd) {g1:Addr} {d1:FuncData} (G1:FnOk P w K mg base CX0 1 g1 d1 ["self", "estate"] (spThere C)) (m1:Meth K C "there" g1) (b1:Binds K d1 ["self", "estate"] []):FnOk P w K mg base CX0 2 f fd ["self", "estate"] (spCheckT C):=by
 refine F.ok scCheckT (fun vs H Q E h=>?_) (fun cdv A outer s H vs Q E hr h=>?_)
 ·obtain ⟨x,dx,a1,a2,a3,a4,a5,lo,ho,ow,se,br,e,rfl,_⟩:=h
  rfl
 obtain ⟨x,dx,a1,a2,a3,a4,a5,lo,ho,ow,se,br,e,rfl,L,he,k⟩:=h
 refine ⟨_,pss_one (ps_if (pt_not (pt_val (pe_meth (pv 0) T.cl m1 G1 hr b1 .nil pass0 (pa_cons (pv 1) pa_nil)))) pss_never pss_nil),?_⟩
 refine ⟨_,rfl,x,dx,_,rfl,L.o,rfl,_,rfl,x,dx,a1,a2,a3,a4,a5,lo,ho,ow,se,br,e,rfl,L,_,rfl,?_⟩
 rw [he]
 exact iteF k
theorem scHolder:FnScope ["self", "estate"] ["self", "estate"] (defScope sHolder):=⟨rfl,rfl,rfl,by decide +kernel,rfl,by decide +kernel,by decide +kernel⟩
theorem ok_holder (T:LandC K C) (F:Fun K "holder" "Land.holder" sHolder f fd) {g1:Addr} {d1:FuncData} (G1:FnOk P w K mg base CX0 2 g1 d1 ["self", "estate"] (spCheckT C)) (m1:Meth K C "check_there" g1) (b1:Binds K d1 ["self", "estate"] []):FnOk P w K mg base CX0 3 f fd ["self", "estate"] (spHolder C):=by
 refine F.ok scHolder (fun vs H Q E h=>?_) (fun cdv A outer s H vs Q E hr h=>?_)
 ·obtain ⟨x,dx,a1,a2,a3,a4,a5,lo,ho,ow,se,br,e,v,rfl,_⟩:=h
  rfl
 obtain ⟨x,dx,a1,a2,a3,a4,a5,lo,ho,ow,se,br,e,v,rfl,L,he,hv,k⟩:=h
 refine ⟨_,pss_cons (ps_expr (pe_meth (pv 0) T.cl m1 G1 hr b1 .nil pass0 (pa_cons (pv 1) pa_nil))) (pss_one (ps_ret (pe_dget (u1 hr) (pe_fld (pv 0) rfl) (pv 1) (fun _ _=>rfl)))),?_⟩
 refine ⟨_,rfl,x,dx,_,rfl,L.o,rfl,_,rfl,x,dx,a1,a2,a3,a4,a5,lo,ho,ow,se,br,e,rfl,L,he,?_⟩
 exact ⟨_,rfl,x,C,dx,_,_,rfl,L.o,T.cl,T.n2,rfl,_,rfl,_,v,rfl,dget L.l2 hv,k⟩
theorem scLord:FnScope ["self", "estate"] ["self", "estate"] (defScope sLord):=⟨rfl,rfl,rfl,by decide +kernel,rfl,by decide +kernel,by decide +kernel⟩
theorem ok_lord (T:LandC K C) (F:Fun K "lord" "Land.lord" sLord f fd) {g1:Addr} {d1:FuncData} (G1:FnOk P w K mg base CX0 2 g1 d1 ["self", "estate"] (spCheckT C)) (m1:Meth K C "check_there" g1) (b1:Binds K d1 ["self", "estate"] []):FnOk P w K mg base CX0 3 f fd ["self", "estate"] (spLord C):=by
 refine F.ok scLord (fun vs H Q E h=>?_) (fun cdv A outer s H vs Q E hr h=>?_)
 ·obtain ⟨x,dx,a1,a2,a3,a4,a5,lo,ho,ow,se,br,e,v,rfl,_⟩:=h
  rfl
 obtain ⟨x,dx,a1,a2,a3,a4,a5,lo,ho,ow,se,br,e,v,rfl,L,he,hv,k⟩:=h
 refine ⟨_,pss_cons (ps_expr (pe_meth (pv 0) T.cl m1 G1 hr b1 .nil pass0 (pa_cons (pv 1) pa_nil))) (pss_one (ps_ret (pe_dget (u1 hr) (pe_fld (pv 0) rfl) (pv 1) (fun _ _=>rfl)))),?_⟩
 refine ⟨_,rfl,x,dx,_,rfl,L.o,rfl,_,rfl,x,dx,a1,a2,a3,a4,a5,lo,ho,ow,se,br,e,rfl,L,he,?_⟩
 exact ⟨_,rfl,x,C,dx,_,_,rfl,L.o,T.cl,T.n1,rfl,_,rfl,_,v,rfl,dget L.l1 hv,k⟩
theorem scOwn:FnScope ["self", "estate"] ["self", "estate"] (defScope sOwn):=⟨rfl,rfl,rfl,by decide +kernel,rfl,by decide +kernel,by decide +kernel⟩
theorem ok_own (T:LandC K C) (F:Fun K "own" "Land.own" sOwn f fd) {g1:Addr} {d1:FuncData} (G1:FnOk P w K mg base CX0 2 g1 d1 ["self", "estate"] (spCheckT C)) (m1:Meth K C "check_there" g1) (b1:Binds K d1 ["self", "estate"] []):FnOk P w K mg base CX0 3 f fd ["self", "estate"] (spOwn C):=by
 refine F.ok scOwn (fun vs H Q E h=>?_) (fun cdv A outer s H vs Q E hr h=>?_)
 ·obtain ⟨x,dx,a1,a2,a3,a4,a5,lo,ho,ow,se,br,e,v,rfl,_⟩:=h
  rfl
 obtain ⟨x,dx,a1,a2,a3,a4,a5,lo,ho,ow,se,br,e,v,rfl,L,he,hv,k⟩:=h
 refine ⟨_,pss_cons (ps_expr (pe_meth (pv 0) T.cl m1 G1 hr b1 .nil pass0 (pa_cons (pv 1) pa_nil))) (pss_one (ps_ret (pe_dget (u1 hr) (pe_fld (pv 0) rfl) (pv 1) (fun _ _=>rfl)))),?_⟩
 refine ⟨_,rfl,x,dx,_,rfl,L.o,rfl,_,rfl,x,dx,a1,a2,a3,a4,a5,lo,ho,ow,se,br,e,rfl,L,he,?_⟩
 exact ⟨_,rfl,x,C,dx,_,_,rfl,L.o,T.cl,T.n3,rfl,_,rfl,_,v,rfl,dget L.l3 hv,k⟩
theorem scBreadth:FnScope ["self", "estate"] ["self", "estate"] (defScope sBreadth):=⟨rfl,rfl,rfl,by decide +kernel,rfl,by decide +kernel,by decide +kernel⟩
theorem ok_breadth (T:LandC K C) (F:Fun K "breadth" "Land.breadth" sBreadth f fd) {g1:Addr} {d1:FuncData} (G1:FnOk P w K mg base CX0 2 g1 d1 ["self", "estate"] (spCheckT C)) (m1:Meth K C "check_there" g1) (b1:Binds K d1 ["self", "estate"] []):FnOk P w K mg base CX0 3 f fd ["self", "estate"] (spBreadth C):=by
 refine F.ok scBreadth (fun vs H Q E h=>?_) (fun cdv A outer s H vs Q E hr h=>?_)
 ·obtain ⟨x,dx,a1,a2,a3,a4,a5,lo,ho,ow,se,br,e,v,rfl,_⟩:=h
  rfl
 obtain ⟨x,dx,a1,a2,a3,a4,a5,lo,ho,ow,se,br,e,v,rfl,L,he,hv,k⟩:=h
 refine ⟨_,pss_cons (ps_expr (pe_meth (pv 0) T.cl m1 G1 hr b1 .nil pass0 (pa_cons (pv 1) pa_nil))) (pss_one (ps_ret (pe_dget (u1 hr) (pe_fld (pv 0) rfl) (pv 1) (fun _ _=>rfl)))),?_⟩
 refine ⟨_,rfl,x,dx,_,rfl,L.o,rfl,_,rfl,x,dx,a1,a2,a3,a4,a5,lo,ho,ow,se,br,e,rfl,L,he,?_⟩
 exact ⟨_,rfl,x,C,dx,_,_,rfl,L.o,T.cl,T.n5,rfl,_,rfl,_,v,rfl,dget L.l5 hv,k⟩
theorem scService:FnScope ["self", "estate"] ["self", "estate"] (defScope sService):=⟨rfl,rfl,rfl,by decide +kernel,rfl,by decide +kernel,by decide +kernel⟩
theorem ok_service (T:LandC K C) (F:Fun K "service" "Land.service" sService f fd) {g1:Addr} {d1:FuncData} (G1:FnOk P w K mg base CX0 2 g1 d1 ["self", "estate"] (spCheckT C)) (m1:Meth K C "check_there" g1) (b1:Binds K d1 ["self", "estate"] []):FnOk P w K mg base CX0 3 f fd ["self", "estate"] (spService C):=by
 refine F.ok scService (fun vs H Q E h=>?_) (fun cdv A outer s H vs Q E hr h=>?_)
 ·obtain ⟨x,dx,a1,a2,a3,a4,a5,lo,ho,ow,se,br,e,v,rfl,_⟩:=h
  rfl
 obtain ⟨x,dx,a1,a2,a3,a4,a5,lo,ho,ow,se,br,e,v,rfl,L,he,hv,k⟩:=h
 refine ⟨_,pss_cons (ps_expr (pe_meth (pv 0) T.cl m1 G1 hr b1 .nil pass0 (pa_cons (pv 1) pa_nil))) (pss_one (ps_ret (pe_dget (u1 hr) (pe_fld (pv 0) rfl) (pv 1) (fun _ _=>rfl)))),?_⟩
 refine ⟨_,rfl,x,dx,_,rfl,L.o,rfl,_,rfl,x,dx,a1,a2,a3,a4,a5,lo,ho,ow,se,br,e,rfl,L,he,?_⟩
 exact ⟨_,rfl,x,C,dx,_,_,rfl,L.o,T.cl,T.n4,rfl,_,rfl,_,v,rfl,dget L.l4 hv,k⟩
theorem scChain:FnScope ["self", "estate", "row"] ["self", "estate"] (defScope sChain):=⟨rfl,rfl,rfl,by decide +kernel,rfl,by decide +kernel,by decide +kernel⟩
set_option maxHeartbeats 4000000 in
theorem ok_chain (T:LandC K C) (F:Fun K "chain" "Land.chain" sChain f fd) {g1:Addr} {d1:FuncData} (G1:FnOk P w K mg base CX0 2 g1 d1 ["self", "estate"] (spCheckT C)) (m1:Meth K C "check_there" g1) (b1:Binds K d1 ["self", "estate"] []):FnOk P w K mg base CX0 3 f fd ["self", "estate"] (spChain C):=by
 refine F.ok scChain (fun vs H Q E h=>?_) (fun cdv A outer s H vs Q E hr h=>?_)
 ·obtain ⟨x,dx,a1,a2,a3,a4,a5,lo,ho,ow,se,br,e,l,rfl,_⟩:=h
  rfl
 obtain ⟨x,dx,a1,a2,a3,a4,a5,lo,ho,ow,se,br,e,l,rfl,L,he,hc,hl,k⟩:=h
 refine ⟨_,pss_cons (ps_expr (pe_meth (pv 0) T.cl m1 G1 hr b1 .nil pass0 (pa_cons (pv 1) pa_nil)))
  (pss_cons (ps_set (i:=2) scChain.nd rfl (Or.inl rfl) (pe_lst pa_nil))
  (pss_cons (ps_while PassesOwn.never (pt_cmpR op_notN (pv 1) pe_non (nomark _))
   (pss_cons (ps_expr (pe_bm PySem.F.plainAttrs_list PySem.F.slot_list_append PySem.F.type_list_append mt_append (pv 2) (pa_cons (pv 1) pa_nil)))
   (pss_one (ps_set (i:=1) scChain.nd rfl (Or.inl rfl) (pe_dget (u1 hr) (pe_fld (pv 0) rfl) (pv 1) (fun _ _=>rfl))))))
  (pss_one (ps_ret (pv 2))))),?_⟩
 refine ⟨_,rfl,x,dx,_,rfl,L.o,rfl,_,rfl,x,dx,a1,a2,a3,a4,a5,lo,ho,ow,se,br,e,rfl,L,he,?_⟩
 refine ⟨small (by simp),fun r hr0=>?_⟩
 refine ⟨fun m σ Hx=>∃ (l0 l1:List Str) (cur:V),m = l1.length∧l = l0++l1∧σ = [some (.ref x),some cur,some (.ref r)]∧Same H Hx∧Hx r = some (.lst (l0.map V.str))∧((cur = .non∧l1 = [])∨∃ y,cur = .str y∧Ch lo y l1),
  ⟨_,[],l,.str e,rfl,rfl,rfl,same_new hr0 _,upd_same,.inr ⟨e,rfl,hc⟩⟩,?_⟩
 rintro m σ Hx ⟨l0,l1,cur,rfl,hl0,rfl,sx,rx,hcur⟩
 have Lx:=L.same sx
 rcases hcur with ⟨rfl,rfl⟩ | ⟨y,rfl,hy⟩
 ·refine ⟨_,rfl,rfl,_,rfl,iteF ?_⟩
  rw [List.append_nil] at hl0
  subst hl0
  exact ⟨_,rfl,k r Hx sx hr0 rx⟩
 ·refine ⟨_,rfl,rfl,_,rfl,iteT ?_⟩
  have step:∀ (l2:List Str) (nx:V),l1 = y :: l2→valV lo (.inr y) = some nx→((nx = .non∧l2 = [])∨∃ z,nx = .str z∧Ch lo z l2)→_:=fun l2 nx e1 e2 e3=>(⟨e1,e2,e3⟩:l1 = y :: l2∧valV lo (.inr y) = some nx∧((nx = .non∧l2 = [])∨∃ z,nx = .str z∧Ch lo z l2))
  obtain ⟨l2,nx,e1,e2,e3⟩:∃ l2 nx,l1 = y :: l2∧valV lo (.inr y) = some nx∧((nx = .non∧l2 = [])∨∃ z,nx = .str z∧Ch lo z l2):=by
   cases hy with
   | crown h=>exact ⟨[],.non,rfl,h,.inl ⟨rfl,rfl⟩⟩
   | up h hc=>exact ⟨_,_,rfl,h,.inr ⟨_,rfl,hc⟩⟩
  subst e1
  refine ⟨fun σ' H'=>∃ (l0' l1':List Str) (cur:V),l1'.length < (y :: l2).length∧l = l0'++l1'∧σ' = [some (.ref x),some cur,some (.ref r)]∧Same H H'∧H' r = some (.lst (l0'.map V.str))∧((cur = .non∧l1' = [])∨∃ y,cur = .str y∧Ch lo y l1'),
   fun σ' H' ⟨l0',l1',cur,q1,q⟩=>⟨_,q1,l0',l1',cur,rfl,q⟩,?_⟩
  have hll:l0.length + (l2.length + 1) = l.length:=by rw [hl0,List.length_append,List.length_cons]
  refine ⟨_,rfl,.inl ⟨rfl,_,SqL.of rx⟩,_,rfl,r,_,_,rfl,rfl,rx,(by rw [List.length_map];exact small' (by omega)),?_⟩
  have s2:=same_upd sx hr0 (o:=.lst (l0.map V.str++[V.str y]))
  refine ⟨_,rfl,x,C,dx,_,_,rfl,s2 _ _ L.o,T.cl,T.n1,rfl,_,rfl,_,nx,rfl,dget (s2 _ _ L.l1) e2,?_⟩
  exact ⟨l0++[y],l2,nx,by simp,by rw [hl0];simp,rfl,s2,by rw [upd_same,List.map_append];rfl,e3⟩
theorem scConvey:FnScope ["self", "estate", "man"] ["self", "estate", "man"] (defScope sConvey):=⟨rfl,rfl,rfl,by decide +kernel,rfl,by decide +kernel,by decide +kernel⟩
theorem ok_convey (T:LandC K C) (F:Fun K "convey" "Land.convey" sConvey f fd):FnOk P w K mg base CX0 1 f fd ["self", "estate", "man"] (spConvey C):=by
 refine F.ok scConvey (fun vs H Q E h=>?_) (fun cdv A outer s H vs Q E hr h=>?_)
 ·obtain ⟨x,dx,a1,a2,a3,a4,a5,lo,ho,ow,se,br,e,man,rfl,_⟩:=h
  rfl
 obtain ⟨x,dx,a1,a2,a3,a4,a5,lo,ho,ow,se,br,e,man,rfl,L,hl,k⟩:=h
 refine ⟨_,pss_one (ps_dput (u1 hr) (pe_fld (pv 0) rfl) (pv 1) (pv 2) rfl),?_⟩
 exact ⟨_,rfl,_,rfl,x,C,dx,_,_,rfl,L.o,T.cl,T.n2,rfl,_,rfl,a2,_,rfl,DPut.k (k:=.inr e) L.l2 (small' (by omega)),k⟩
theorem scAdd:FnScope ["self", "name", "lord", "holder", "acres", "service"] ["self", "name", "lord", "holder", "acres", "service"] (defScope sAdd):=⟨rfl,rfl,rfl,by decide +kernel,rfl,by decide +kernel,by decide +kernel⟩
set_option maxHeartbeats 4000000 in
theorem ok_add (T:LandC K C) (F:Fun K "add_estate" "Land.add_estate" sAdd f fd):FnOk P w K mg base CX0 1 f fd ["self", "name", "lord", "holder", "acres", "service"] (spAdd C):=by
 refine F.ok scAdd (fun vs H Q E h=>?_) (fun cdv A outer s H vs Q E hr h=>?_)
 ·obtain ⟨x,dx,a1,a2,a3,a4,a5,lo,ho,ow,se,br,n,lord,holder,acres,t,rfl,_⟩:=h
  rfl
 obtain ⟨x,dx,a1,a2,a3,a4,a5,lo,ho,ow,se,br,n,lord,holder,acres,t,rfl,L,ap,e1,e2,e3,e4,e5,k⟩:=h
 refine ⟨_,pss_cons (ps_dput (u1 hr) (pe_fld (pv 0) rfl) (pv 1) (pv 2) rfl) (pss_cons (ps_dput (u1 hr) (pe_fld (pv 0) rfl) (pv 1) (pv 3) rfl) (pss_cons (ps_dput (u1 hr) (pe_fld (pv 0) rfl) (pv 1) (pv 4) rfl)
  (pss_cons (ps_dput (u1 hr) (pe_fld (pv 0) rfl) (pv 1) (pv 5) rfl) (pss_one (ps_dput (u1 hr) (pe_fld (pv 0) rfl) (pv 1) (pv 4) rfl))))),?_⟩
 have x1:=ne_of L.o L.l1 (by intro q;cases q)
 have x2:=ne_of L.o L.l2 (by intro q;cases q)
 have x3:=ne_of L.o L.l3 (by intro q;cases q)
 have x4:=ne_of L.o L.l4 (by intro q;cases q)
 refine ⟨_,rfl,_,rfl,x,C,dx,_,_,rfl,L.o,T.cl,T.n1,rfl,_,rfl,a1,_,rfl,DPut.k (k:=.inr n) L.l1 (small' (by omega)),?_⟩
 refine ⟨_,rfl,_,rfl,x,C,dx,_,_,rfl,by rw [upd_ne x1];exact L.o,T.cl,T.n2,rfl,_,rfl,a2,_,rfl,DPut.k (k:=.inr n) (by rw [upd_ne (Ne.symm ap.n12)];exact L.l2) (small' (by omega)),?_⟩
 refine ⟨_,rfl,_,rfl,x,C,dx,_,_,rfl,by rw [upd_ne x2,upd_ne x1];exact L.o,T.cl,T.n3,rfl,_,rfl,a3,_,rfl,DPut.k (k:=.inr n) (by rw [upd_ne (Ne.symm ap.n23),upd_ne (Ne.symm ap.n13)];exact L.l3) (small' (by omega)),?_⟩
 refine ⟨_,rfl,_,rfl,x,C,dx,_,_,rfl,by rw [upd_ne x3,upd_ne x2,upd_ne x1];exact L.o,T.cl,T.n4,rfl,_,rfl,a4,_,rfl,DPut.k (k:=.inr n) (by rw [upd_ne (Ne.symm ap.n34),upd_ne (Ne.symm ap.n24),upd_ne (Ne.symm ap.n14)];exact L.l4) (small' (by omega)),?_⟩
 exact ⟨_,rfl,_,rfl,x,C,dx,_,_,rfl,by rw [upd_ne x4,upd_ne x3,upd_ne x2,upd_ne x1];exact L.o,T.cl,T.n5,rfl,_,rfl,a5,_,rfl,DPut.k (k:=.inr n) (by rw [upd_ne (Ne.symm ap.n45),upd_ne (Ne.symm ap.n35),upd_ne (Ne.symm ap.n25),upd_ne (Ne.symm ap.n15)];exact L.l5) (small' (by omega)),k⟩
end
end M
namespace M
open PySem L2 PyProof.Rows
def kstr (kv:Key×V):Str:=match kv.1 with
 | .inr s=>s
 | .inl _=>""
def TK (kvs:List (Key×V)):Prop:=∀ kv∈kvs,kV kv.1 = V.str (kstr kv)
def TV (kvs:List (Key×V)):Prop:=∀ kv∈kvs,kv.2 = .non∨∃ s,kv.2 = .str s
theorem filt_step {p:Key×V→Bool} {kvs:List (Key×V)} {i:Nat} {kv:Key×V} (h:kvs[i]? = some kv):((kvs.take (i + 1)).filter p).map (fun kv=>V.str (kstr kv)) = ((kvs.take i).filter p).map (fun kv=>V.str (kstr kv))++(if p kv = true then [V.str (kstr kv)] else []):=by
 rw [List.take_add_one,h,List.filter_append,List.map_append]
 congr 1
 cases e:p kv <;> simp [e]
theorem filt_len {p:Key×V→Bool} {kvs:List (Key×V)} {i n:Nat} (h:kvs.length≤n):(((kvs.take i).filter p).map (fun kv=>V.str (kstr kv))).length≤n:=by
 rw [List.length_map]
 have:=List.length_filter_le p (kvs.take i)
 rw [List.length_take] at this
 omega
theorem strs_map (l:List (Key×V)):l.map (fun kv=>V.str (kstr kv)) = (l.map kstr).map V.str:=by rw [List.map_map];rfl
theorem dec_str {x y:Str}:decide (V.str x = V.str y) = decide (x = y):=decide_eq_decide.mpr ⟨fun e=>by injection e,fun e=>by rw [e]⟩
def spEstates (C:Addr):Sp:=fun vs H Q _=>∃ x dx a1 a2 a3 a4 a5 lo ho ow se br,vs = [.ref x]∧LandAt C H x dx a1 a2 a3 a4 a5 lo ho ow se br∧TK lo∧lo.length < 64∧∀ r ss H',Same H H'→H r = none→H' r = some (.lst (ss.map V.str))→ss.Perm ((lo.filter fun kv=>!decide (kstr kv = "")).map kstr)→sortedS ss = true→Q (.ref r) H'
def spHeld (C:Addr):Sp:=fun vs H Q _=>∃ x dx a1 a2 a3 a4 a5 lo ho ow se br man,vs = [.ref x,.str man]∧LandAt C H x dx a1 a2 a3 a4 a5 lo ho ow se br∧TK ho∧TV ho∧ho.length < 64∧∀ r ss H',Same H H'→H r = none→H' r = some (.lst (ss.map V.str))→ss.Perm ((ho.filter fun kv=>decide (kv.2 = .str man)).map kstr)→sortedS ss = true→Q (.ref r) H'
def spUnder (C:Addr):Sp:=fun vs H Q _=>∃ x dx a1 a2 a3 a4 a5 lo ho ow se br e,vs = [.ref x,.str e]∧LandAt C H x dx a1 a2 a3 a4 a5 lo ho ow se br∧(valV lo (.inr e)).isSome = true∧TK lo∧TV lo∧lo.length < 64∧∀ r ss H',Same H H'→H r = none→H' r = some (.lst (ss.map V.str))→ss.Perm ((lo.filter fun kv=>decide (kv.2 = .str e)).map kstr)→sortedS ss = true→Q (.ref r) H'
section
variable {P:Program} {w:World} {K:PySem.W.Frag} {mg:Str→Option Value} {base:Heap} {f C:Addr} {fd:FuncData}
theorem scEst:FnScope ["self"] ["self"] (defScope sEstates):=⟨rfl,rfl,rfl,by decide +kernel,rfl,by decide +kernel,by decide +kernel⟩
def scE1:Scope:={ kind:=.function,names:=[(".0",.local),("name",.local),("CROWN",.globalImplicit)],isGenerator:=false,isCoroutine:=false }
theorem csE1:CScope ["self"] (defScope sEstates) scE1 ["name"] [] []:=⟨rfl,by decide +kernel,by decide +kernel,by decide +kernel,rfl,by decide +kernel⟩
theorem ndE1:((["name"]:List Str)++([]:List Str)).Nodup:=by decide +kernel
theorem thaw_same {H Hz:Hp} {a:Addr} {o:Obj} {kvs:List (Key×V)} (h:H a = some (.dK kvs)) (s:Same (upd H a (.frz o (.dK kvs))) Hz):Same H (upd Hz a (.dK kvs)):=fun b u q=>by
 by_cases e:b = a
 ·subst e
  rw [h] at q
  cases q
  exact upd_same
 ·rw [upd_ne e]
  exact s b u (by rw [upd_ne e];exact q)
set_option maxHeartbeats 4000000 in
theorem ok_estates (T:LandC K C) {tc:Tok} (mC:mg "CROWN" = some (.str "" tc)) (ms:mg "sorted" = none) (F:Fun K "estates" "Land.estates" sEstates f fd):FnOk P w K mg base CX0 1 f fd ["self"] (spEstates C):=by
 refine F.ok scEst (fun vs H Q E h=>?_) (fun cdv A outer s H vs Q E hr h=>?_)
 ·obtain ⟨x,dx,a1,a2,a3,a4,a5,lo,ho,ow,se,br,rfl,_⟩:=h
  rfl
 obtain ⟨x,dx,a1,a2,a3,a4,a5,lo,ho,ow,se,br,rfl,L,tk,hl,k⟩:=h
 refine ⟨_,pss_one (ps_ret (pe_callB call_sortedS rfl ms bt_sorted (pa_cons (pe_frz (pe_comp rfl csE1 (pi_dict (pe_fld (pv 0) rfl)) (fun s H fp C'=>⟨pg_name (i:=0) ndE1 rfl (Or.inl rfl),pts_one (pt_cmpR op_ne (pv 0) (pe_glob rfl mC ⟨_,rfl⟩ (v:=.str "")) (nomark _)),pv 0⟩))) pa_nil))),?_⟩
 have nx:=ne_of L.o L.l1 (by intro q;cases q)
 refine ⟨a1,lo,L.l1,fun o=>⟨_,rfl,x,C,dx,_,_,rfl,by rw [upd_ne nx];exact L.o,T.cl,T.n1,rfl,a1,o,lo,rfl,upd_same,fun D hD=>?_⟩⟩
 have nD:a1≠D:=ne_of_none (show (upd H a1 (.frz o (.dK lo))) a1 = some (.frz o (.dK lo)) from upd_same) hD
 have hD0:H D = none:=by rw [upd_ne (Ne.symm nD)] at hD;exact hD
 refine comp_dict (o:=o) (fun i ys Hz=>ys = ((lo.take i).filter fun kv=>!decide (kstr kv = "")).map (fun kv=>V.str (kstr kv))∧Same (upd H a1 (.frz o (.dK lo))) Hz∧Hz D = some (.lst ys)) (fun i ys Hz h=>h.2.1 _ _ upd_same) ⟨rfl,same_new hD _,upd_same⟩ (fun i ys Hz h=>h.2.2) ?_ ?_
 ·rintro i ys Hz kv hkv ⟨rfl,sz,hDz⟩
  rw [tk kv (List.mem_of_getElem? hkv)]
  refine ⟨Kp.set rfl (Kp.refl _),?_⟩
  refine ⟨_,rfl,rfl,_,rfl,?_⟩
  rw [dec_str]
  refine ite2 (fun c=>?_) (fun c=>?_)
  ·refine ⟨_,rfl,hDz,Nat.lt_of_le_of_lt (filt_len (Nat.le_of_lt hl)) (by decide),?_,same_upd sz hD,upd_same⟩
   rw [filt_step hkv,if_pos c]
  ·refine ⟨?_,sz,hDz⟩
   rw [filt_step hkv,if_neg c,List.append_nil]
 ·rintro ys Hz ⟨rfl,sz,hDz⟩
  rw [List.take_length] at hDz
  refine ⟨sz _ _ upd_same,?_⟩
  have s2:=thaw_same L.l1 sz
  have hDt:(upd Hz a1 (.dK lo)) D = some (.lst (((lo.filter fun kv=>!decide (kstr kv = "")).map kstr).map V.str)):=by rw [upd_ne (Ne.symm nD),hDz,strs_map]
  refine ⟨D,_,rfl,SqL.of hDt,?_,fun l ss hl0 hp hs=>?_⟩
  ·rw [List.length_map]
   exact Nat.lt_of_le_of_lt (List.length_filter_le _ _) hl
  ·exact k l ss _ (same_upd s2 (s2.free hl0)) (s2.free hl0) upd_same hp hs
theorem scHeld:FnScope ["self", "man"] ["self", "man"] (defScope sHeld):=⟨rfl,rfl,rfl,by decide +kernel,rfl,by decide +kernel,by decide +kernel⟩
def scHe1:Scope:={ kind:=.function,names:=[(".0",.local),("name",.local),("holder",.local),("man",.free)],isGenerator:=false,isCoroutine:=false }
theorem csHe1:CScope ["self", "man"] (defScope sHeld) scHe1 ["name", "holder"] ["man"] [1]:=⟨rfl,by decide +kernel,by decide +kernel,by decide +kernel,rfl,by decide +kernel⟩
theorem ndHe1:((["name", "holder"]:List Str)++(["man"]:List Str)).Nodup:=by decide +kernel
theorem map_at {α:Type} {g:Key×V→α} {kvs:List (Key×V)} {i:Nat} {d:α} {kv:Key×V} (h:kvs[i]? = some kv):(kvs.map g).getD i d = g kv:=by rw [List.getD_eq_getElem?_getD,List.getElem?_map,h];rfl
set_option maxHeartbeats 4000000 in
theorem ok_held (T:LandC K C) (ms:mg "sorted" = none) (F:Fun K "held" "Land.held" sHeld f fd):FnOk P w K mg base CX0 1 f fd ["self", "man"] (spHeld C):=by
 refine F.ok scHeld (fun vs H Q E h=>?_) (fun cdv A outer s H vs Q E hr h=>?_)
 ·obtain ⟨x,dx,a1,a2,a3,a4,a5,lo,ho,ow,se,br,man,rfl,_⟩:=h
  rfl
 obtain ⟨x,dx,a1,a2,a3,a4,a5,lo,ho,ow,se,br,man,rfl,L,tk,tv,hl,k⟩:=h
 refine ⟨_,pss_one (ps_ret (pe_callB call_sortedS rfl ms bt_sorted (pa_cons (pe_frz (pe_comp rfl csHe1 (pi_items (pe_fld (pv 0) rfl)) (fun s H fp C'=>⟨pg_tupK (K:=K) (n:=2) rfl (pgs_cons (pg_name (i:=0) ndHe1 rfl (Or.inl rfl)) (pgs_cons (pg_name (i:=1) ndHe1 rfl (Or.inl rfl)) pgs_nil)),pts_one (pt_cmpR op_eq (pv 1) (pv 2) (nomark _)),pv 0⟩))) pa_nil))),?_⟩
 have nx:=ne_of L.o L.l2 (by intro q;cases q)
 refine ⟨a2,ho,L.l2,fun o=>⟨_,rfl,x,C,dx,_,_,rfl,by rw [upd_ne nx];exact L.o,T.cl,T.n2,rfl,a2,o,ho,rfl,upd_same,fun D hD=>?_⟩⟩
 have nD:a2≠D:=ne_of_none (show (upd H a2 (.frz o (.dK ho))) a2 = some (.frz o (.dK ho)) from upd_same) hD
 refine comp_zip (n:=ho.length) (fx:=fun i=>(ho.map fun kv=>kV kv.1).getD i .non) (fy:=fun i=>(ho.map fun kv=>kv.2).getD i .non) (fun i ys Hz=>ys = ((ho.take i).filter fun kv=>decide (kv.2 = .str man)).map (fun kv=>V.str (kstr kv))∧Same (upd H a2 (.frz o (.dK ho))) Hz∧Hz D = some (.lst ys))
  (fun i ys Hz h=>items_steps (h.2.1 _ _ upd_same)) ⟨rfl,same_new hD _,upd_same⟩ (fun i ys Hz h=>h.2.2) ?_ ?_
 ·rintro i ys Hz p hi ⟨rfl,sz,hDz⟩ hp
  have hkv:ho[i]? = some ho[i]:=List.getElem?_eq_getElem hi
  rw [map_at hkv,map_at hkv]
  have hm:=List.getElem_mem hi
  rw [tk _ hm]
  have npD:D≠p:=ne_of_none hDz hp
  have sp:=same_new hp (.tup [V.str (kstr ho[i]),(ho[i]).2])
  refine ⟨p,_,rfl,SqT.of upd_same,rfl,_,_,rfl,_,_,rfl,rfl,Kp.set rfl (Kp.set rfl (Kp.refl _)),?_⟩
  have hsc:scal (ho[i]).2 (V.str man) = true:=by
   rcases tv _ hm with e | ⟨z,e⟩ <;> rw [e] <;> rfl
  refine ⟨_,rfl,_,rfl,hsc,_,rfl,?_⟩
  refine ite2 (fun c=>?_) (fun c=>?_)
  ·refine ⟨_,rfl,sp _ _ hDz,Nat.lt_of_le_of_lt (filt_len (Nat.le_of_lt hl)) (by decide),?_,same_upd (sz.trans sp) hD,upd_same⟩
   rw [filt_step hkv,if_pos c]
  ·refine ⟨?_,sz.trans sp,sp _ _ hDz⟩
   rw [filt_step hkv,if_neg c,List.append_nil]
 ·rintro ys Hz ⟨rfl,sz,hDz⟩
  rw [List.take_length] at hDz
  refine ⟨sz _ _ upd_same,?_⟩
  have s2:=thaw_same L.l2 sz
  have hDt:(upd Hz a2 (.dK ho)) D = some (.lst (((ho.filter fun kv=>decide (kv.2 = .str man)).map kstr).map V.str)):=by rw [upd_ne (Ne.symm nD),hDz,strs_map]
  refine ⟨D,_,rfl,SqL.of hDt,?_,fun l ss hl0 hp hs=>?_⟩
  ·rw [List.length_map]
   exact Nat.lt_of_le_of_lt (List.length_filter_le _ _) hl
  ·exact k l ss _ (same_upd s2 (s2.free hl0)) (s2.free hl0) upd_same hp hs
theorem scUn:FnScope ["self", "estate"] ["self", "estate"] (defScope sUnder):=⟨rfl,rfl,rfl,by decide +kernel,rfl,by decide +kernel,by decide +kernel⟩
def scUn1:Scope:={ kind:=.function,names:=[(".0",.local),("name",.local),("lord",.local),("estate",.free)],isGenerator:=false,isCoroutine:=false }
theorem csUn1:CScope ["self", "estate"] (defScope sUnder) scUn1 ["name", "lord"] ["estate"] [1]:=⟨rfl,by decide +kernel,by decide +kernel,by decide +kernel,rfl,by decide +kernel⟩
theorem ndUn1:((["name", "lord"]:List Str)++(["estate"]:List Str)).Nodup:=by decide +kernel
set_option maxHeartbeats 4000000 in
theorem ok_under (T:LandC K C) (ms:mg "sorted" = none) (F:Fun K "under" "Land.under" sUnder f fd) {g1:Addr} {d1:FuncData} (G1:FnOk P w K mg base CX0 2 g1 d1 ["self", "estate"] (spCheckT C)) (m1:Meth K C "check_there" g1) (b1:Binds K d1 ["self", "estate"] []):FnOk P w K mg base CX0 3 f fd ["self", "estate"] (spUnder C):=by
 refine F.ok scUn (fun vs H Q E h=>?_) (fun cdv A outer s H vs Q E hr h=>?_)
 ·obtain ⟨x,dx,a1,a2,a3,a4,a5,lo,ho,ow,se,br,man,rfl,_⟩:=h
  rfl
 obtain ⟨x,dx,a1,a2,a3,a4,a5,lo,ho,ow,se,br,man,rfl,L,he,tk,tv,hl,k⟩:=h
 refine ⟨_,pss_cons (ps_expr (pe_meth (pv 0) T.cl m1 G1 hr b1 .nil pass0 (pa_cons (pv 1) pa_nil))) (pss_one (ps_ret (pe_callB call_sortedS rfl ms bt_sorted (pa_cons (pe_frz (pe_comp rfl csUn1 (pi_items (pe_fld (pv 0) rfl)) (fun s H fp C'=>⟨pg_tupK (K:=K) (n:=2) rfl (pgs_cons (pg_name (i:=0) ndUn1 rfl (Or.inl rfl)) (pgs_cons (pg_name (i:=1) ndUn1 rfl (Or.inl rfl)) pgs_nil)),pts_one (pt_cmpR op_eq (pv 1) (pv 2) (nomark _)),pv 0⟩))) pa_nil)))),?_⟩
 refine ⟨_,rfl,x,dx,_,rfl,L.o,rfl,_,rfl,x,dx,a1,a2,a3,a4,a5,lo,ho,ow,se,br,man,rfl,L,he,?_⟩
 have nx:=ne_of L.o L.l1 (by intro q;cases q)
 refine ⟨a1,lo,L.l1,fun o=>⟨_,rfl,x,C,dx,_,_,rfl,by rw [upd_ne nx];exact L.o,T.cl,T.n1,rfl,a1,o,lo,rfl,upd_same,fun D hD=>?_⟩⟩
 have nD:a1≠D:=ne_of_none (show (upd H a1 (.frz o (.dK lo))) a1 = some (.frz o (.dK lo)) from upd_same) hD
 refine comp_zip (n:=lo.length) (fx:=fun i=>(lo.map fun kv=>kV kv.1).getD i .non) (fy:=fun i=>(lo.map fun kv=>kv.2).getD i .non) (fun i ys Hz=>ys = ((lo.take i).filter fun kv=>decide (kv.2 = .str man)).map (fun kv=>V.str (kstr kv))∧Same (upd H a1 (.frz o (.dK lo))) Hz∧Hz D = some (.lst ys))
  (fun i ys Hz h=>items_steps (h.2.1 _ _ upd_same)) ⟨rfl,same_new hD _,upd_same⟩ (fun i ys Hz h=>h.2.2) ?_ ?_
 ·rintro i ys Hz p hi ⟨rfl,sz,hDz⟩ hp
  have hkv:lo[i]? = some lo[i]:=List.getElem?_eq_getElem hi
  rw [map_at hkv,map_at hkv]
  have hm:=List.getElem_mem hi
  rw [tk _ hm]
  have npD:D≠p:=ne_of_none hDz hp
  have sp:=same_new hp (.tup [V.str (kstr lo[i]),(lo[i]).2])
  refine ⟨p,_,rfl,SqT.of upd_same,rfl,_,_,rfl,_,_,rfl,rfl,Kp.set rfl (Kp.set rfl (Kp.refl _)),?_⟩
  have hsc:scal (lo[i]).2 (V.str man) = true:=by
   rcases tv _ hm with e | ⟨z,e⟩ <;> rw [e] <;> rfl
  refine ⟨_,rfl,_,rfl,hsc,_,rfl,?_⟩
  refine ite2 (fun c=>?_) (fun c=>?_)
  ·refine ⟨_,rfl,sp _ _ hDz,Nat.lt_of_le_of_lt (filt_len (Nat.le_of_lt hl)) (by decide),?_,same_upd (sz.trans sp) hD,upd_same⟩
   rw [filt_step hkv,if_pos c]
  ·refine ⟨?_,sz.trans sp,sp _ _ hDz⟩
   rw [filt_step hkv,if_neg c,List.append_nil]
 ·rintro ys Hz ⟨rfl,sz,hDz⟩
  rw [List.take_length] at hDz
  refine ⟨sz _ _ upd_same,?_⟩
  have s2:=thaw_same L.l1 sz
  have hDt:(upd Hz a1 (.dK lo)) D = some (.lst (((lo.filter fun kv=>decide (kv.2 = .str man)).map kstr).map V.str)):=by rw [upd_ne (Ne.symm nD),hDz,strs_map]
  refine ⟨D,_,rfl,SqL.of hDt,?_,fun l ss hl0 hp hs=>?_⟩
  ·rw [List.length_map]
   exact Nat.lt_of_le_of_lt (List.length_filter_le _ _) hl
  ·exact k l ss _ (same_upd s2 (s2.free hl0)) (s2.free hl0) upd_same hp hs
end
end M
namespace M
open PySem L2 PyProof.Rows
def spGrant (C:Addr):Sp:=fun vs H Q _=>∃ x dx a1 a2 a3 a4 a5 lo ho ow se br e n man,∃ acres service own:Int,vs = [.ref x,.str e,.str n,.str man,.int acres,.int service]∧LandAt C H x dx a1 a2 a3 a4 a5 lo ho ow se br∧Ap5 a1 a2 a3 a4 a5∧valV ow (.inr e) = some (.int own)∧lo.length≤900∧ho.length≤900∧ow.length≤800∧se.length≤900∧br.length≤900 ∧
 ∀ t,H t = none→Q .non (addH (upd (upd H a3 (.dK (putK ow (.inr e) (.int (own - acres))))) t (.tup [.int service,.int 1])) a1 a2 a3 a4 a5 lo ho (putK ow (.inr e) (.int (own - acres))) se br n e man acres t)
def moved (lo:List (Key×V)) (ss:List Str) (p:Str):List (Key×V):=ss.foldl (fun acc n=>putK acc (.inr n) (.str p)) lo
theorem moved_snoc (lo:List (Key×V)) (ss:List Str) (n p:Str):moved lo (ss++[n]) p = putK (moved lo ss p) (.inr n) (.str p):=by
 unfold moved;rw [List.foldl_append];rfl
theorem moved_len (lo:List (Key×V)) (p:Str) (ss:List Str):(moved lo ss p).length≤lo.length + ss.length:=by
 unfold moved
 induction ss generalizing lo with
 | nil=>exact Nat.le_refl _
 | cons n r ih =>
  rw [List.foldl_cons,List.length_cons]
  have h1:=ih (putK lo (.inr n) (.str p))
  have h2:=length_putK lo (.inr n) (.str p)
  omega
def spFall (C:Addr):Sp:=fun vs H Q _=>∃ x dx a1 a2 a3 a4 a5 lo ho ow se br e p,∃ own1 own2:Int,vs = [.ref x,.str e]∧LandAt C H x dx a1 a2 a3 a4 a5 lo ho ow se br∧Ap5 a1 a2 a3 a4 a5∧valV lo (.inr e) = some (.str p)∧valV ow (.inr e) = some (.int own1)∧valV ow (.inr p) = some (.int own2) ∧
 (valV ho (.inr e)).isSome = true∧(valV se (.inr e)).isSome = true∧(valV br (.inr e)).isSome = true∧TK lo∧TV lo∧lo.length < 64∧ow.length≤800 ∧
 ∀ ss H',ss.Perm ((lo.filter fun kv=>decide (kv.2 = .str e)).map kstr)→(valV (moved lo ss p) (.inr e)).isSome = true →
  LandAt C H' x dx a1 a2 a3 a4 a5 (dropK (moved lo ss p) (.inr e)) (dropK ho (.inr e)) (dropK (putK ow (.inr p) (.int (own2 + own1))) (.inr e)) (dropK se (.inr e)) (dropK br (.inr e)) →
  (∀ c o,c≠a1→c≠a2→c≠a3→c≠a4→c≠a5→H c = some o→H' c = some o)→Q .non H'
theorem moved_some {lo:List (Key×V)} {k:Key} {p:Str} (h:(valV lo k).isSome = true):∀ ss:List Str,(valV (moved lo ss p) k).isSome = true:=by
 intro ss
 unfold moved
 induction ss generalizing lo with
 | nil=>exact h
 | cons n r ih =>
  rw [List.foldl_cons]
  refine ih ?_
  rw [valV_put]
  by_cases q:k = .inr n
  ·rw [if_pos q];rfl
  ·rw [if_neg q];exact h
section
variable {P:Program} {w:World} {K:PySem.W.Frag} {mg:Str→Option Value} {base:Heap} {f C:Addr} {fd:FuncData}
theorem scGrant:FnScope ["self", "estate", "new", "man", "acres", "service"] ["self", "estate", "new", "man", "acres", "service"] (defScope sGrant):=⟨rfl,rfl,rfl,by decide +kernel,rfl,by decide +kernel,by decide +kernel⟩
set_option maxHeartbeats 4000000 in
theorem ok_grant (T:LandC K C) (F:Fun K "grant" "Land.grant" sGrant f fd) {g1:Addr} {d1:FuncData} (G1:FnOk P w K mg base CX0 1 g1 d1 ["self", "name", "lord", "holder", "acres", "service"] (spAdd C)) (m1:Meth K C "add_estate" g1) (b1:Binds K d1 ["self", "name", "lord", "holder", "acres", "service"] []) :
  FnOk P w K mg base CX0 2 f fd ["self", "estate", "new", "man", "acres", "service"] (spGrant C):=by
 refine F.ok scGrant (fun vs H Q E h=>?_) (fun cdv A outer s H vs Q E hr h=>?_)
 ·obtain ⟨x,dx,a1,a2,a3,a4,a5,lo,ho,ow,se,br,e,n,man,acres,service,own,rfl,_⟩:=h
  rfl
 obtain ⟨x,dx,a1,a2,a3,a4,a5,lo,ho,ow,se,br,e,n,man,acres,service,own,rfl,L,ap,hn,e1,e2,e3,e4,e5,k⟩:=h
 refine ⟨_,pss_cons (ps_daug (u1 hr) (pe_fld (pv 0) rfl) (pv 1) (pv 4) in_sub (fun _ _ _=>rfl))
  (pss_one (ps_expr (pe_meth (pv 0) T.cl m1 G1 hr b1 .nil pass0 (pa_cons (pv 2) (pa_cons (pv 1) (pa_cons (pv 3) (pa_cons (pv 4) (pa_cons (pe_tup (pa_cons (pv 5) (pa_cons pe_int pa_nil))) pa_nil)))))))),?_⟩
 refine ⟨_,rfl,x,C,dx,_,_,rfl,L.o,T.cl,T.n3,rfl,_,rfl,a3,_,rfl,dget L.l3 hn,_,rfl,_,_,rfl,rfl,_,DPut.k (k:=.inr e) L.l3 (small' (by omega)),?_⟩
 have L1:LandAt C (upd H a3 (.dK (putK ow (.inr e) (.int (own - acres))))) x dx a1 a2 a3 a4 a5 lo ho (putK ow (.inr e) (.int (own - acres))) se br :=
  ⟨by rw [upd_ne (ne_of L.o L.l3 (by intro q;cases q))];exact L.o,by rw [upd_ne ap.n13];exact L.l1,by rw [upd_ne ap.n23];exact L.l2,upd_same,by rw [upd_ne (Ne.symm ap.n34)];exact L.l4,by rw [upd_ne (Ne.symm ap.n35)];exact L.l5⟩
 refine ⟨_,rfl,x,dx,_,rfl,L1.o,rfl,_,rfl,_,rfl,_,rfl,_,rfl,_,rfl,small (by simp),fun t ht=>?_⟩
 have nt:t≠a3:=fun q=>by rw [q,upd_same] at ht;cases ht
 have ht0:H t = none:=by rw [upd_ne nt] at ht;exact ht
 have hl:=length_putK ow (.inr e) (.int (own - acres))
 exact ⟨x,dx,a1,a2,a3,a4,a5,lo,ho,_,se,br,n,e,man,acres,t,rfl,L1.same (same_new ht _),ap,e1,e2,by omega,e4,e5,k t ht0⟩
theorem scFall:FnScope ["self", "estate", "lord", "name"] ["self", "estate"] (defScope sFall):=⟨rfl,rfl,rfl,by decide +kernel,rfl,by decide +kernel,by decide +kernel⟩
set_option maxHeartbeats 8000000 in
theorem ok_fall (T:LandC K C) (F:Fun K "fall_back" "Land.fall_back" sFall f fd) {g1:Addr} {d1:FuncData} (G1:FnOk P w K mg base CX0 3 g1 d1 ["self", "estate"] (spUnder C)) (m1:Meth K C "under" g1) (b1:Binds K d1 ["self", "estate"] []) :
  FnOk P w K mg base CX0 4 f fd ["self", "estate"] (spFall C):=by
 refine F.ok scFall (fun vs H Q E h=>?_) (fun cdv A outer s H vs Q E hr h=>?_)
 ·obtain ⟨x,dx,a1,a2,a3,a4,a5,lo,ho,ow,se,br,e,p,own1,own2,rfl,_⟩:=h
  rfl
 obtain ⟨x,dx,a1,a2,a3,a4,a5,lo,ho,ow,se,br,e,p,own1,own2,rfl,L,ap,hlo,ho1,ho2,hh,hse,hbr,tk,tv,hl,how,k⟩:=h
 refine ⟨_,pss_cons (ps_set (i:=2) scFall.nd rfl (Or.inl rfl) (pe_dget (u1 hr) (pe_fld (pv 0) rfl) (pv 1) (fun _ _=>rfl)))
  (pss_cons (ps_daug (u1 hr) (pe_fld (pv 0) rfl) (pv 2) (pe_dget (u1 hr) (pe_fld (pv 0) rfl) (pv 1) (fun _ _=>rfl)) in_add (fun _ _ _=>rfl))
  (pss_cons (ps_for PassesOwn.never rfl (pi_list (pe_meth (pv 0) T.cl m1 G1 hr b1 .nil pass0 (pa_cons (pv 1) pa_nil))) (pg_name (i:=3) scFall.nd rfl (Or.inl rfl)) (pss_one (ps_dput (u1 hr) (pe_fld (pv 0) rfl) (pv 3) (pv 2) rfl)))
  (pss_cons (ps_ddel (pe_fld (pv 0) rfl) (pv 1)) (pss_cons (ps_ddel (pe_fld (pv 0) rfl) (pv 1)) (pss_cons (ps_ddel (pe_fld (pv 0) rfl) (pv 1)) (pss_cons (ps_ddel (pe_fld (pv 0) rfl) (pv 1)) (pss_one (ps_ddel (pe_fld (pv 0) rfl) (pv 1))))))))),?_⟩
 refine ⟨_,rfl,x,C,dx,_,_,rfl,L.o,T.cl,T.n1,rfl,_,rfl,_,_,rfl,dget L.l1 hlo,?_⟩
 refine ⟨_,rfl,x,C,dx,_,_,rfl,L.o,T.cl,T.n3,rfl,_,rfl,a3,_,rfl,dget L.l3 ho2,_,rfl,x,C,dx,_,_,rfl,L.o,T.cl,T.n3,rfl,_,rfl,_,_,rfl,dget L.l3 ho1,_,_,rfl,rfl,_,DPut.k (k:=.inr p) L.l3 (small' (by omega)),?_⟩
 have L1:LandAt C (upd H a3 (.dK (putK ow (.inr p) (.int (own2 + own1))))) x dx a1 a2 a3 a4 a5 lo ho (putK ow (.inr p) (.int (own2 + own1))) se br :=
  ⟨by rw [upd_ne (ne_of L.o L.l3 (by intro q;cases q))];exact L.o,by rw [upd_ne ap.n13];exact L.l1,by rw [upd_ne ap.n23];exact L.l2,upd_same,by rw [upd_ne (Ne.symm ap.n34)];exact L.l4,by rw [upd_ne (Ne.symm ap.n35)];exact L.l5⟩
 have fr1:∀ c o,c≠a3→H c = some o→(upd H a3 (.dK (putK ow (.inr p) (.int (own2 + own1))))) c = some o:=fun c o hc q=>by rw [upd_ne hc];exact q
 have hown:(valV (putK ow (.inr p) (.int (own2 + own1))) (.inr e)).isSome = true:=by
  rw [valV_put]
  by_cases q:(Sum.inr e:Key) = .inr p
  ·rw [if_pos q];rfl
  ·rw [if_neg q,ho1];rfl
 generalize upd H a3 (.dK (putK ow (.inr p) (.int (own2 + own1)))) = H1 at L1 fr1 ⊢
 generalize putK ow (.inr p) (.int (own2 + own1)) = ow1 at L1 hown k ⊢
 refine ⟨_,rfl,x,dx,_,rfl,L1.o,rfl,_,rfl,x,dx,a1,a2,a3,a4,a5,lo,ho,ow1,se,br,e,rfl,L1,by rw [hlo];rfl,tk,tv,hl,fun r ss H2 s2 hr0 hr2 hp hs=>?_⟩
 have hsl:ss.length≤lo.length:=by
  rw [hp.length_eq,List.length_map]
  exact List.length_filter_le _ _
 have L2:=L1.same s2
 refine ⟨r,rfl,⟨_,SqL.of hr2⟩,for_list (K:=K) (a:=r) (xs:=ss.map V.str) (fun i σ Hx=>(∃ u3,σ = [some (.ref x),some (.str e),some (.str p),u3])∧Hx r = some (.lst (ss.map V.str))∧LandAt C Hx x dx a1 a2 a3 a4 a5 (moved lo (ss.take i) p) ho ow1 se br∧∀ c o,c≠a1→H1 c = some o→Hx c = some o)
  ⟨⟨none,rfl⟩,hr2,L2,fun c o _ q=>s2 c o q⟩ (fun i σ Hx _ h=>SqL.of h.2.1) ?_ ?_⟩
 ·rintro i v σ Hx hv ⟨⟨u3,rfl⟩,rx,Lx,fx⟩
  rw [List.getElem?_map] at hv
  obtain ⟨n,hn,rfl⟩:=Option.map_eq_some_iff.mp hv
  have hml:=moved_len lo p (ss.take i)
  rw [List.length_take] at hml
  refine ⟨_,rfl,_,rfl,x,C,dx,_,_,rfl,Lx.o,T.cl,T.n1,rfl,_,rfl,a1,_,rfl,DPut.k (k:=.inr n) Lx.l1 (small' (by omega)),?_⟩
  have em:moved lo (ss.take (i + 1)) p = putK (moved lo (ss.take i) p) (.inr n) (.str p):=by rw [List.take_add_one,hn];exact moved_snoc _ _ _ _
  refine ⟨⟨_,rfl⟩,by rw [upd_ne (ne_of rx Lx.l1 (by intro q;cases q))];exact rx,⟨by rw [upd_ne (ne_of Lx.o Lx.l1 (by intro q;cases q))];exact Lx.o,by rw [em];exact upd_same,by rw [upd_ne (Ne.symm ap.n12)];exact Lx.l2,by rw [upd_ne (Ne.symm ap.n13)];exact Lx.l3,by rw [upd_ne (Ne.symm ap.n14)];exact Lx.l4,by rw [upd_ne (Ne.symm ap.n15)];exact Lx.l5⟩,fun c o hc q=>by rw [upd_ne hc];exact fx c o hc q⟩
 ·rintro σ Hx ⟨⟨u3,rfl⟩,rx,Lx,fx⟩
  rw [List.length_map,List.take_length] at Lx
  have hmv:=moved_some (p:=p) (show (valV lo (.inr e)).isSome = true by rw [hlo];rfl) ss
  have x1:=ne_of Lx.o Lx.l1 (by intro q;cases q)
  have x2:=ne_of Lx.o Lx.l2 (by intro q;cases q)
  have x3:=ne_of Lx.o Lx.l3 (by intro q;cases q)
  have x4:=ne_of Lx.o Lx.l4 (by intro q;cases q)
  have x5:=ne_of Lx.o Lx.l5 (by intro q;cases q)
  refine ⟨_,rfl,x,C,dx,_,_,rfl,Lx.o,T.cl,T.n1,rfl,_,rfl,a1,_,.inr e,rfl,Lx.l1,rfl,hmv,?_⟩
  refine ⟨_,rfl,x,C,dx,_,_,rfl,by rw [upd_ne x1];exact Lx.o,T.cl,T.n2,rfl,_,rfl,a2,_,.inr e,rfl,by rw [upd_ne (Ne.symm ap.n12)];exact Lx.l2,rfl,hh,?_⟩
  refine ⟨_,rfl,x,C,dx,_,_,rfl,by rw [upd_ne x2,upd_ne x1];exact Lx.o,T.cl,T.n3,rfl,_,rfl,a3,_,.inr e,rfl,by rw [upd_ne (Ne.symm ap.n23),upd_ne (Ne.symm ap.n13)];exact Lx.l3,rfl,hown,?_⟩
  refine ⟨_,rfl,x,C,dx,_,_,rfl,by rw [upd_ne x3,upd_ne x2,upd_ne x1];exact Lx.o,T.cl,T.n4,rfl,_,rfl,a4,_,.inr e,rfl,by rw [upd_ne (Ne.symm ap.n34),upd_ne (Ne.symm ap.n24),upd_ne (Ne.symm ap.n14)];exact Lx.l4,rfl,hse,?_⟩
  refine ⟨_,rfl,x,C,dx,_,_,rfl,by rw [upd_ne x4,upd_ne x3,upd_ne x2,upd_ne x1];exact Lx.o,T.cl,T.n5,rfl,_,rfl,a5,_,.inr e,rfl,by rw [upd_ne (Ne.symm ap.n45),upd_ne (Ne.symm ap.n35),upd_ne (Ne.symm ap.n25),upd_ne (Ne.symm ap.n15)];exact Lx.l5,rfl,hbr,?_⟩
  refine k ss _ hp hmv ⟨?_,?_,?_,?_,?_,upd_same⟩ fun c o c1 c2 c3 c4 c5 q=>?_
  ·rw [upd_ne x5,upd_ne x4,upd_ne x3,upd_ne x2,upd_ne x1];exact Lx.o
  ·rw [upd_ne ap.n15,upd_ne ap.n14,upd_ne ap.n13,upd_ne ap.n12,upd_same]
  ·rw [upd_ne ap.n25,upd_ne ap.n24,upd_ne ap.n23,upd_same]
  ·rw [upd_ne ap.n35,upd_ne ap.n34,upd_same]
  ·rw [upd_ne ap.n45,upd_same]
  ·rw [upd_ne c5,upd_ne c4,upd_ne c3,upd_ne c2,upd_ne c1]
   exact fx c o c1 (fr1 c o c3 q)
end
end M
namespace M
open PySem L2 PyProof.Rows
abbrev sGcd:Stmt:=top 14
abbrev sPart:Stmt:=top 12
abbrev sMinus:Stmt:=top 13
abbrev sFeed:Stmt:=top 19
abbrev sSame:Stmt:=top 20
abbrev sLow:Stmt:=top 21
def Okn (v:Int):Prop:=0≤v∧v < 1000003
theorem ok_app {fs:List Int} {v:Int} (h:∀ x∈fs,Okn x) (hv:Okn v):∀ x∈fs++[v],Okn x:=fun x hx=>by
 rcases List.mem_append.mp hx with z | z
 ·exact h x z
 ·rw [List.mem_singleton.mp z];exact hv
theorem map_app (fs:List Int) (v:Int):fs.map V.int++[V.int v] = (fs++[v]).map V.int:=by simp
def spFeed (K:PySem.W.Frag):Sp:=fun vs H Q _=>∃ (a:Addr) (ns:List Int) (many:Int),vs = [.ref a,.int many]∧SqL K H a (ns.map V.int)∧ns.length≤63∧0≤many∧many≤100000 ∧
 ∀ (r:Addr) (H':Hp) (fs:List Int),Same H H'→H r = none→H' r = some (.lst (fs.map V.int))→(fs.length:Int) = many→(∀ v∈fs,Okn v)→Q (.ref r) H'
section
variable {P:Program} {w:World} {K:PySem.W.Frag} {mg:Str→Option Value} {base:Heap} {f:Addr} {fd:FuncData}
theorem scFeed:FnScope ["_law_script", "_law_many", "_law_feed_here", "_law_salt", "_law_cell", "_law_rest", "_law_k"] ["_law_script", "_law_many"] (defScope sFeed):=⟨rfl,rfl,rfl,by decide +kernel,rfl,by decide +kernel,by decide +kernel⟩
theorem ok_feed (F:Fun K "_law_feed" "_law_feed" sFeed f fd) (mr:mg "range" = none) (ml:mg "len" = none):FnOk P w K mg base CX0 1 f fd ["_law_script", "_law_many"] (spFeed K):=by
 refine F.ok scFeed (fun vs H Q E h=>?_) (fun cdv A outer s H vs Q E hr h=>?_)
 ·obtain ⟨a,ns,many,rfl,_⟩:=h
  rfl
 obtain ⟨a,ns,many,rfl,hS,h63,hm0,hm1,k⟩:=h
 refine ⟨_,pss_cons (ps_set (i:=2) scFeed.nd rfl (Or.inl rfl) (pe_lst pa_nil))
  (pss_cons (ps_set (i:=3) scFeed.nd rfl (Or.inl rfl) pe_int)
  (pss_cons (ps_for PassesOwn.never rfl (pi_list (pe_slice sl_list (pv 0) po_none (po_some pe_int))) (pg_name (i:=4) scFeed.nd rfl (Or.inl rfl))
   (pss_cons (ps_set (i:=3) scFeed.nd rfl (Or.inl rfl) (pe_op op_mod (pe_op op_add (pe_op op_add (pe_op op_mul (pv 3) pe_int) (pe_op op_mod (pv 4) pe_int)) pe_int) pe_int))
   (pss_cons (ps_set (i:=5) scFeed.nd rfl (Or.inl rfl) (pe_op op_sub (pv 4) (pe_op op_pow pe_int pe_int)))
   (pss_cons (ps_if (pt_cmpR op_lt (pv 5) pe_int (nomark _))
     (pss_one (ps_expr (pe_bm PySem.F.plainAttrs_list PySem.F.slot_list_append PySem.F.type_list_append mt_append (pv 2) (pa_cons (pe_op op_mod (pv 4) pe_int) pa_nil)))) pss_nil)
   (pss_one (ps_for PassesOwn.never rfl (pi_range1 rfl mr (pa_cons pe_int pa_nil)) (pg_name (i:=6) scFeed.nd rfl (Or.inl rfl))
    (pss_one (ps_if (pt_cmpR op_gt (pv 5) pe_int (nomark _))
     (pss_cons (ps_expr (pe_bm PySem.F.plainAttrs_list PySem.F.slot_list_append PySem.F.type_list_append mt_append (pv 2) (pa_cons (pe_op op_mod (pv 5) pe_int) pa_nil)))
     (pss_one (ps_set (i:=5) scFeed.nd rfl (Or.inl rfl) (pe_op op_fdiv (pv 5) pe_int)))) pss_nil))))))))
  (pss_cons (ps_for PassesOwn.never rfl (pi_range1 rfl mr (pa_cons (pe_op op_sub (pv 1) (pe_callB call_len_seq rfl ml PySem.boot_len (pa_cons (pv 2) pa_nil))) pa_nil)) (pg_name (i:=6) scFeed.nd rfl (Or.inl rfl))
   (pss_cons (ps_set (i:=3) scFeed.nd rfl (Or.inl rfl) (pe_op op_mod (pe_op op_add (pe_op op_add (pe_op op_add (pe_op op_mul (pe_op op_mul (pv 3) (pv 3)) (pv 3)) (pe_op op_mul pe_int (pv 3))) (pe_op op_mul pe_int (pv 6))) pe_int) pe_int))
   (pss_one (ps_expr (pe_bm PySem.F.plainAttrs_list PySem.F.slot_list_append PySem.F.type_list_append mt_append (pv 2) (pa_cons (pe_op op_mod (pe_op op_fdiv (pv 3) pe_int) pe_int) pa_nil))))))
  (pss_one (ps_ret (pe_slice sl_list (pv 2) po_none (po_some (pv 1)))))))),?_⟩
 refine ⟨small (by simp),fun l hl=>?_⟩
 have s1:Same H (upd H l (.lst [])):=same_new hl _
 refine ⟨_,rfl,_,rfl,a,_,rfl,s1.seq hS,fun p hp=>?_⟩
 have npl:p≠l:=fun e=>by rw [e,upd_same] at hp;cases hp
 have hp0:H p = none:=by rw [upd_ne npl] at hp;exact hp
 refine ⟨p,rfl,⟨_,SqL.of upd_same⟩,for_list (K:=K) (a:=p) (xs:=cutV (ns.map V.int) none (some 63)) (fun i σ H2=>∃ (fs:List Int) (salt:Int) (c r k:Option V),σ = [some (.ref a),some (.int many),some (.ref l),some (.int salt),c,r,k]∧Same H H2 ∧
   H2 p = some (.lst (cutV (ns.map V.int) none (some 63)))∧H2 l = some (.lst (fs.map V.int))∧fs.length≤61 * i∧(∀ v∈fs,Okn v)∧0≤salt∧salt < 2147483647)
  ⟨[],29,none,none,none,rfl,same_upd s1 hp0,upd_same,by rw [upd_ne (Ne.symm npl),upd_same];rfl,Nat.zero_le _,(fun v hv=>nomatch hv),by decide,by decide⟩ (fun i σ H2 _ ⟨_,_,_,_,_,_,_,hq,_⟩=>SqL.of hq) ?_ ?_⟩
 ·rintro i y σ H2 hi ⟨fs,salt,c,r,kk,rfl,s2,hq,hL,hlen,hok,z0,z1⟩
  have hil:i < (cutV (ns.map V.int) none (some 63)).length:=(List.getElem?_eq_some_iff.mp hi).1
  have hcl:=cutV_length (ns.map V.int) none (some 63)
  rw [List.length_map] at hcl
  obtain ⟨cell,rfl⟩:∃ z,y = V.int z:=by
   have hm:y∈cutV (ns.map V.int) none (some 63):=List.mem_of_getElem? hi
   have hm2:y∈ns.map V.int:=List.mem_of_mem_drop (List.mem_of_mem_take hm)
   obtain ⟨z,_,rfl⟩:=List.mem_map.mp hm2
   exact ⟨z,rfl⟩
  refine ⟨_,rfl,_,_,rfl,rfl,.inl ⟨by omega,by omega⟩,_,rfl,_,_,rfl,rfl,(by show (0:Int) < 2147483629;decide),_,_,rfl,rfl,_,_,rfl,rfl,_,_,rfl,rfl,(by show (0:Int) < 2147483647;decide),?_⟩
  refine ⟨_,rfl,_,_,rfl,rfl,⟨by decide,by decide,by decide⟩,_,_,rfl,rfl,?_⟩
  have z0':0≤(salt * 69621 + cell % 2147483629 + 11) % 2147483647:=Int.emod_nonneg _ (by decide)
  have z1':(salt * 69621 + cell % 2147483629 + 11) % 2147483647 < 2147483647:=Int.emod_lt_of_pos _ (by decide)
  refine ⟨_,rfl,_,_,rfl,rfl,_,rfl,?_⟩
  refine ite2 (fun c=>?_) (fun c=>?_)
  ·refine ⟨_,rfl,.inl ⟨rfl,_,SqL.of hL⟩,_,rfl,_,_,rfl,rfl,(by show (0:Int) < 1000003;decide),l,_,_,rfl,rfl,hL,(by rw [List.length_map];exact small' (by omega)),?_⟩
   have hgs:∃ gs:List Int,(upd H2 l (.lst (fs.map V.int++[V.int (cell % 1000003)]))) l = some (.lst (gs.map V.int))∧gs.length≤61 * i + 1∧∀ v∈gs,Okn v :=
    ⟨fs++[cell % 1000003],by rw [upd_same,map_app],by rw [List.length_append,List.length_singleton];omega,ok_app hok ⟨Int.emod_nonneg _ (by decide),Int.emod_lt_of_pos _ (by decide)⟩⟩
   have s3:Same H (upd H2 l (.lst (fs.map V.int++[V.int (cell % 1000003)]))):=same_upd s2 hl
   have hq3:(upd H2 l (.lst (fs.map V.int++[V.int (cell % 1000003)]))) p = some (.lst (cutV (ns.map V.int) none (some 63))):=by rw [upd_ne npl];exact hq
   generalize upd H2 l (.lst (fs.map V.int++[V.int (cell % 1000003)])) = H3 at hgs s3 hq3
   obtain ⟨gs,hL3,hg1,hg2⟩:=hgs
   refine ⟨60,rfl,by decide,by decide,for_range (lo:=0) (n:=60) (fun j σ H4=>∃ (hs:List Int) (rest salt':Int) (k:Option V),σ = [some (.ref a),some (.int many),some (.ref l),some (.int salt'),some (.int cell),some (.int rest),k]∧0≤salt'∧salt' < 2147483647∧Same H H4 ∧
    H4 p = some (.lst (cutV (ns.map V.int) none (some 63)))∧H4 l = some (.lst (hs.map V.int))∧hs.length≤61 * i + 1 + j∧(∀ v∈hs,Okn v)) ⟨gs,_,_,kk,rfl,z0',z1',s3,hq3,hL3,hg1,hg2⟩ ?_ ?_⟩
   ·rintro j σ H4 hj ⟨hs,rest,salt',k',rfl,x0,x1,s4,hq4,hL4,hh1,hh2⟩
    refine ⟨_,rfl,_,_,rfl,rfl,_,rfl,?_⟩
    refine ite2 (fun c=>?_) (fun c=>?_)
    ·refine ⟨_,rfl,.inl ⟨rfl,_,SqL.of hL4⟩,_,rfl,_,_,rfl,rfl,(by show (0:Int) < 1009;decide),l,_,_,rfl,rfl,hL4,(by rw [List.length_map];exact small' (by omega)),?_⟩
     refine ⟨_,rfl,_,_,rfl,rfl,⟨by decide,by decide⟩,?_⟩
     exact ⟨hs++[rest % 1009],_,_,_,rfl,x0,x1,same_upd s4 hl,by rw [upd_ne npl];exact hq4,by rw [upd_same,map_app],by rw [List.length_append,List.length_singleton];omega,
      ok_app hh2 ⟨Int.emod_nonneg _ (by decide),by have:=Int.emod_lt_of_pos rest (show (0:Int) < 1009 by decide);omega⟩⟩
    ·exact ⟨hs,_,_,_,rfl,x0,x1,s4,hq4,hL4,by omega,hh2⟩
   ·rintro σ H4 ⟨hs,rest,salt',k',rfl,x0,x1,s4,hq4,hL4,hh1,hh2⟩
    exact ⟨hs,_,_,_,_,rfl,s4,hq4,hL4,by omega,hh2,x0,x1⟩
  ·obtain ⟨gs,hL3,hg1,hg2⟩:∃ gs:List Int,H2 l = some (.lst (gs.map V.int))∧gs.length≤61 * i + 1∧∀ v∈gs,Okn v:=⟨fs,hL,by omega,hok⟩
   refine ⟨60,rfl,by decide,by decide,for_range (lo:=0) (n:=60) (fun j σ H4=>∃ (hs:List Int) (rest salt':Int) (k:Option V),σ = [some (.ref a),some (.int many),some (.ref l),some (.int salt'),some (.int cell),some (.int rest),k]∧0≤salt'∧salt' < 2147483647∧Same H H4 ∧
    H4 p = some (.lst (cutV (ns.map V.int) none (some 63)))∧H4 l = some (.lst (hs.map V.int))∧hs.length≤61 * i + 1 + j∧(∀ v∈hs,Okn v)) ⟨gs,_,_,kk,rfl,z0',z1',s2,hq,hL3,hg1,hg2⟩ ?_ ?_⟩
   ·rintro j σ H4 hj ⟨hs,rest,salt',k',rfl,x0,x1,s4,hq4,hL4,hh1,hh2⟩
    refine ⟨_,rfl,_,_,rfl,rfl,_,rfl,?_⟩
    refine ite2 (fun c=>?_) (fun c=>?_)
    ·refine ⟨_,rfl,.inl ⟨rfl,_,SqL.of hL4⟩,_,rfl,_,_,rfl,rfl,(by show (0:Int) < 1009;decide),l,_,_,rfl,rfl,hL4,(by rw [List.length_map];exact small' (by omega)),?_⟩
     refine ⟨_,rfl,_,_,rfl,rfl,⟨by decide,by decide⟩,?_⟩
     exact ⟨hs++[rest % 1009],_,_,_,rfl,x0,x1,same_upd s4 hl,by rw [upd_ne npl];exact hq4,by rw [upd_same,map_app],by rw [List.length_append,List.length_singleton];omega,
      ok_app hh2 ⟨Int.emod_nonneg _ (by decide),by have:=Int.emod_lt_of_pos rest (show (0:Int) < 1009 by decide);omega⟩⟩
    ·exact ⟨hs,_,_,_,rfl,x0,x1,s4,hq4,hL4,by omega,hh2⟩
   ·rintro σ H4 ⟨hs,rest,salt',k',rfl,x0,x1,s4,hq4,hL4,hh1,hh2⟩
    exact ⟨hs,_,_,_,_,rfl,s4,hq4,hL4,by omega,hh2,x0,x1⟩
 ·rintro σ H2 ⟨fs,salt,c,r,kk,rfl,s2,hq,hL,hlen,hok,z0,z1⟩
  have hcl:=cutV_length (ns.map V.int) none (some 63)
  rw [List.length_map] at hcl
  refine ⟨_,rfl,_,rfl,l,_,rfl,.inl (SqL.of hL),_,_,rfl,rfl,many - (fs.length:Int),(by rw [List.length_map]),by omega,by omega,?_⟩
  refine for_range (lo:=0) (n:=(many - (fs.length:Int)).toNat) (fun j σ H4=>∃ (hs:List Int) (salt:Int) (k:Option V),σ = [some (.ref a),some (.int many),some (.ref l),some (.int salt),c,r,k]∧Same H H4 ∧
    H4 l = some (.lst (hs.map V.int))∧hs.length = fs.length + j∧(∀ v∈hs,Okn v)∧0≤salt∧salt < 2147483647) ⟨fs,salt,kk,rfl,s2,hL,rfl,hok,z0,z1⟩ ?_ ?_
  ·rintro j σ H4 hj ⟨hs,salt,k',rfl,s4,hL4,hh1,hh2,y0,y1⟩
   refine ⟨_,rfl,_,rfl,_,_,rfl,rfl,.inl ⟨by omega,by omega⟩,_,rfl,_,_,rfl,rfl,.inr ⟨by omega,by omega⟩,_,rfl,_,_,rfl,rfl,.inl ⟨by decide,by decide⟩,_,_,rfl,rfl,_,rfl,_,_,rfl,rfl,.inl ⟨by decide,by decide⟩,_,_,rfl,rfl,_,_,rfl,rfl,_,_,rfl,rfl,(by show (0:Int) < 2147483629;decide),?_⟩
   refine ⟨_,rfl,.inl ⟨rfl,_,SqL.of hL4⟩,_,rfl,_,_,rfl,rfl,⟨by decide,by decide⟩,_,_,rfl,rfl,(by show (0:Int) < 1009;decide),l,_,_,rfl,rfl,hL4,(by rw [List.length_map];exact small' (by omega)),?_⟩
   refine ⟨hs++[_],_,_,rfl,same_upd s4 hl,by rw [upd_same,map_app],by rw [List.length_append,List.length_singleton];omega,ok_app hh2 ⟨Int.emod_nonneg _ (by decide),?_⟩,Int.emod_nonneg _ (by decide),?_⟩
   ·have:=Int.emod_lt_of_pos ((salt * salt * salt + 48271 * salt + 13 * (0 + (j:Int)) + 5) % 2147483629 / 1013) (show (0:Int) < 1009 by decide)
    omega
   ·have:=Int.emod_lt_of_pos (salt * salt * salt + 48271 * salt + 13 * (0 + (j:Int)) + 5) (show (0:Int) < 2147483629 by decide)
    omega
  ·rintro σ H4 ⟨hs,salt,k',rfl,s4,hL4,hh1,hh2,y0,y1⟩
   refine ⟨_,rfl,_,rfl,many,rfl,l,_,rfl,SqL.of hL4,fun q hq'=>?_⟩
   have hcut:cutV (hs.map V.int) none (some many) = (hs.take many.toNat).map V.int:=by
    unfold cutV
    have e1:HT.sIx (hs.map V.int).length 0 none = 0:=rfl
    have e2:HT.sIx (hs.map V.int).length (hs.map V.int).length (some many) = min many.toNat (hs.map V.int).length:=by
     have em:many = ((many.toNat:Nat):Int):=by omega
     generalize many.toNat = mm at em ⊢
     rw [em,HT.sIx_nat]
    rw [e1,e2,List.drop_zero,List.map_take,Nat.sub_zero,List.length_map]
    rw [List.take_eq_take_iff,List.length_map]
    omega
   refine k q _ (hs.take many.toNat) (same_upd s4 (s4.free hq')) (s4.free hq') (by rw [upd_same,hcut]) ?_ fun v hv=>hh2 v (List.mem_of_mem_take hv)
   rw [List.length_take]
   omega
end
def scalV:V→Bool
 | .non | .bl _ | .int _ | .str _=>true
 | _=>false
def EqD (H:Hp):Nat→V→V→Prop
 | 0,_,_=>False
 | n + 1,x,y=>(x = y∧scalV x = true)∨(∃ p q xs ys,x = .ref p∧y = .ref q∧H p = some (.tup xs)∧H q = some (.tup ys)∧xs.length = ys.length∧xs.length≤1000∧∀ (i:Nat) (x y:V),xs[i]? = some x→ys[i]? = some y→EqD H n x y) ∨
  (∃ p q xs ys,x = .ref p∧y = .ref q∧H p = some (.lst xs)∧H q = some (.lst ys)∧xs.length = ys.length∧xs.length≤1000∧∀ (i:Nat) (x y:V),xs[i]? = some x→ys[i]? = some y→EqD H n x y)
theorem EqD.same {H H':Hp} (s:Same H H'):∀ {n:Nat} {x y:V},EqD H n x y→EqD H' n x y
 | 0,_,_,h=>h
 | n + 1,x,y,h=>by
  rcases h with h | ⟨p,q,xs,ys,e1,e2,e3,e4,e5,e6,e7⟩ | ⟨p,q,xs,ys,e1,e2,e3,e4,e5,e6,e7⟩
  ·exact .inl h
  ·exact .inr (.inl ⟨p,q,xs,ys,e1,e2,s _ _ e3,s _ _ e4,e5,e6,fun i x y h1 h2=>(e7 i x y h1 h2).same s⟩)
  ·exact .inr (.inr ⟨p,q,xs,ys,e1,e2,s _ _ e3,s _ _ e4,e5,e6,fun i x y h1 h2=>(e7 i x y h1 h2).same s⟩)
def spSame (n:Nat):Sp:=fun vs H Q _=>∃ x y,vs = [x,y]∧EqD H n x y∧∀ H',Same H H'→Q (.bl true) H'
structure Ms (K:PySem.W.Frag) (mg:Str→Option Value) (x:Str) (g:Addr) (gd:FuncData) (ps:List Str):Prop where
 b:Binds K gd ps []
 k:PySem.W.keepIn K (.ref g) = true
 m:mg x = some (.ref g)
structure MgS (mg:Str→Option Value):Prop where
 isi:mg "isinstance" = none
 bool:mg "bool" = none
 int:mg "int" = none
 str:mg "str" = none
 list:mg "list" = none
 tuple:mg "tuple" = none
 len:mg "len" = none
 all:mg "all" = none
 zip:mg "zip" = none
section
variable {P:Program} {w:World} {K:PySem.W.Frag} {mg:Str→Option Value} {base:Heap} {f:Addr} {fd:FuncData}
theorem scSame:FnScope ["_law_found", "_law_due"] ["_law_found", "_law_due"] (defScope sSame):=⟨rfl,rfl,rfl,by decide +kernel,rfl,by decide +kernel,by decide +kernel⟩
def scS1:Scope:={ kind:=.function,names:=[(".0",.local),("_law_one",.local),("_law_other",.local),("_law_same",.globalImplicit)],isGenerator:=false,isCoroutine:=false }
theorem csS1:CScope ["_law_found", "_law_due"] (defScope sSame) scS1 ["_law_one", "_law_other"] [] []:=⟨rfl,by decide +kernel,by decide +kernel,by decide +kernel,rfl,by decide +kernel⟩
theorem ndS1:((["_law_one", "_law_other"]:List Str)++([]:List Str)).Nodup:=by decide +kernel
theorem all_true {bs:List Bool} (h:∀ b∈bs,b = true):bs.all id = true:=List.all_eq_true.mpr fun b hb=>h b hb
theorem rep_bl (n:Nat):List.replicate n (V.bl true) = (List.replicate n true).map V.bl:=by rw [List.map_replicate]
set_option maxHeartbeats 4000000 in
theorem ok_same1 {n:Nat} (F:Fun K "_law_same" "_law_same" sSame f fd) (m:MgS mg) (M:Ms K mg "_law_same" f fd ["_law_found", "_law_due"]) (G:FnOk P w K mg base CX0 n f fd ["_law_found", "_law_due"] (spSame n)):FnOk P w K mg base CX0 (n + 1) f fd ["_law_found", "_law_due"] (spSame (n + 1)):=by
 refine F.ok scSame (fun vs H Q E h=>?_) (fun cdv A outer s H vs Q E hr h=>?_)
 ·obtain ⟨x,y,rfl,_⟩:=h
  rfl
 obtain ⟨x,y,rfl,heq,k⟩:=h
 refine ⟨_,pss_cons (ps_if (pt_cmp (pc_isN (pv 1))) (pss_one (ps_ret (pe_cmp (pc_isN (pv 0))))) pss_nil)
  (pss_cons (ps_if (pt_val (pe_callB (call_isinstK (K:=K)) rfl m.isi bt_isinstance (pa_cons (pv 1) (pa_cons (pe_bltn rfl m.bool bt_bool rfl (v:=.ty "bool")) pa_nil))))
   (pss_one (ps_ret (pe_and (pe_callB (call_isinstK (K:=K)) rfl m.isi bt_isinstance (pa_cons (pv 0) (pa_cons (pe_bltn rfl m.bool bt_bool rfl (v:=.ty "bool")) pa_nil))) (pe_one (pe_cmpR op_eq (pv 0) (pv 1) (nomark _)))))) pss_nil)
  (pss_cons (ps_if (pt_val (pe_callB (call_isinstK (K:=K)) rfl m.isi bt_isinstance (pa_cons (pv 1) (pa_cons (pe_bltn rfl m.tuple bt_tuple rfl (v:=.ty "tuple")) pa_nil))))
   (pss_cons (ps_if (PW.pt (pw_or (pt_not (pt_val (pe_callB (call_isinstK (K:=K)) rfl m.isi bt_isinstance (pa_cons (pv 0) (pa_cons (pe_bltn rfl m.tuple bt_tuple rfl (v:=.ty "tuple")) pa_nil))))) (pw_or1 (pt_cmpR op_ne (pe_callB (call_lenK (K:=K)) rfl m.len PySem.boot_len (pa_cons (pv 0) pa_nil)) (pe_callB (call_lenK (K:=K)) rfl m.len PySem.boot_len (pa_cons (pv 1) pa_nil)) (nomark _))))) (pss_one (ps_ret pe_bl)) pss_nil)
   (pss_one (ps_ret (pe_callB (call_allK (K:=K) rfl hr.hd) rfl m.all bt_all (pa_cons (pe_comp rfl csS1 (pi_zipTT rfl m.zip (pa_cons (pv 0) (pa_cons (pv 1) pa_nil)))
    (fun s H fp C=>⟨pg_tupK (K:=K) (n:=2) rfl (pgs_cons (pg_name (i:=0) ndS1 rfl (Or.inl rfl)) (pgs_cons (pg_name (i:=1) ndS1 rfl (Or.inl rfl)) pgs_nil)),pts_nil,pe_call G hr rfl M.m M.k M.b .nil pass0 (pa_cons (pv 0) (pa_cons (pv 1) pa_nil))⟩)) pa_nil))))) pss_nil)
  (pss_cons (ps_if (pt_val (pe_callB (call_isinstK (K:=K)) rfl m.isi bt_isinstance (pa_cons (pv 1) (pa_cons (pe_bltn rfl m.list bt_list rfl (v:=.ty "list")) pa_nil))))
   (pss_cons (ps_if (PW.pt (pw_or (pt_not (pt_val (pe_callB (call_isinstK (K:=K)) rfl m.isi bt_isinstance (pa_cons (pv 0) (pa_cons (pe_bltn rfl m.list bt_list rfl (v:=.ty "list")) pa_nil))))) (pw_or1 (pt_cmpR op_ne (pe_callB (call_lenK (K:=K)) rfl m.len PySem.boot_len (pa_cons (pv 0) pa_nil)) (pe_callB (call_lenK (K:=K)) rfl m.len PySem.boot_len (pa_cons (pv 1) pa_nil)) (nomark _))))) (pss_one (ps_ret pe_bl)) pss_nil)
   (pss_one (ps_ret (pe_callB (call_allK (K:=K) rfl hr.hd) rfl m.all bt_all (pa_cons (pe_comp rfl csS1 (pi_zipLL rfl m.zip (pa_cons (pv 0) (pa_cons (pv 1) pa_nil)))
    (fun s H fp C=>⟨pg_tupK (K:=K) (n:=2) rfl (pgs_cons (pg_name (i:=0) ndS1 rfl (Or.inl rfl)) (pgs_cons (pg_name (i:=1) ndS1 rfl (Or.inl rfl)) pgs_nil)),pts_nil,pe_call G hr rfl M.m M.k M.b .nil pass0 (pa_cons (pv 0) (pa_cons (pv 1) pa_nil))⟩)) pa_nil))))) pss_nil)
  (pss_cons (ps_if (pt_val (pe_callB (call_isinstK (K:=K)) rfl m.isi bt_isinstance (pa_cons (pv 1) (pa_cons (pe_bltn rfl m.str bt_str rfl (v:=.ty "str")) pa_nil))))
   (pss_one (ps_ret (pe_and (pe_callB (call_isinstK (K:=K)) rfl m.isi bt_isinstance (pa_cons (pv 0) (pa_cons (pe_bltn rfl m.str bt_str rfl (v:=.ty "str")) pa_nil))) (pe_one (pe_cmpR op_eq (pv 0) (pv 1) (nomark _)))))) pss_nil)
  (pss_one (ps_ret (pe_and (pe_callB (call_isinstK (K:=K)) rfl m.isi bt_isinstance (pa_cons (pv 0) (pa_cons (pe_bltn rfl m.int bt_int rfl (v:=.ty "int")) pa_nil)))
   (pe_and (pe_not (pe_callB (call_isinstK (K:=K)) rfl m.isi bt_isinstance (pa_cons (pv 0) (pa_cons (pe_bltn rfl m.bool bt_bool rfl (v:=.ty "bool")) pa_nil)))) (pe_one (pe_cmpR op_eq (pv 0) (pv 1) (nomark _))))))))))),?_⟩
 rcases heq with ⟨rfl,hsc⟩ | ⟨p,q,xs,ys,rfl,rfl,hp,hq,hl,hz,hi⟩ | ⟨p,q,xs,ys,rfl,rfl,hp,hq,hl,hz,hi⟩
 ·cases x with
  | non=>exact ⟨_,rfl,_,rfl,iteT ⟨_,rfl,k _ (Same.refl _)⟩⟩
  | bl b =>
   refine ⟨_,rfl,_,rfl,iteF ?_⟩
   refine ⟨_,rfl,_,_,_,true,rfl,.bl b,rfl,_,rfl,iteT ?_⟩
   refine ⟨_,rfl,_,_,_,true,rfl,.bl b,rfl,_,rfl,iteT ?_⟩
   refine ⟨_,rfl,_,rfl,rfl,?_⟩
   show Q (.bl (decide (V.bl b = V.bl b))) H
   rw [decide_eq_true rfl];exact k _ (Same.refl _)
  | int i =>
   refine ⟨_,rfl,_,rfl,iteF ?_⟩
   refine ⟨_,rfl,_,_,_,false,rfl,.int i,rfl,_,rfl,iteF ?_⟩
   refine ⟨_,rfl,_,_,_,false,rfl,.int i,rfl,_,rfl,iteF ?_⟩
   refine ⟨_,rfl,_,_,_,false,rfl,.int i,rfl,_,rfl,iteF ?_⟩
   refine ⟨_,rfl,_,_,_,false,rfl,.int i,rfl,_,rfl,iteF ?_⟩
   refine ⟨_,rfl,_,_,_,true,rfl,.int i,rfl,_,rfl,iteT ?_⟩
   refine ⟨_,rfl,_,_,_,false,rfl,.int i,rfl,_,rfl,_,rfl,iteT ?_⟩
   refine ⟨_,rfl,_,rfl,rfl,?_⟩
   show Q (.bl (decide (V.int i = V.int i))) H
   rw [decide_eq_true rfl];exact k _ (Same.refl _)
  | str z =>
   refine ⟨_,rfl,_,rfl,iteF ?_⟩
   refine ⟨_,rfl,_,_,_,false,rfl,.str z,rfl,_,rfl,iteF ?_⟩
   refine ⟨_,rfl,_,_,_,false,rfl,.str z,rfl,_,rfl,iteF ?_⟩
   refine ⟨_,rfl,_,_,_,false,rfl,.str z,rfl,_,rfl,iteF ?_⟩
   refine ⟨_,rfl,_,_,_,true,rfl,.str z,rfl,_,rfl,iteT ?_⟩
   refine ⟨_,rfl,_,_,_,true,rfl,.str z,rfl,_,rfl,iteT ?_⟩
   refine ⟨_,rfl,_,rfl,rfl,?_⟩
   show Q (.bl (decide (V.str z = V.str z))) H
   rw [decide_eq_true rfl];exact k _ (Same.refl _)
  | byt _=>cases hsc
  | flt _=>cases hsc
  | ref _=>cases hsc
  | ty _=>cases hsc
 ·refine ⟨_,rfl,_,rfl,iteF ?_⟩
  refine ⟨_,rfl,_,_,_,false,rfl,.tup hq,rfl,_,rfl,iteF ?_⟩
  refine ⟨_,rfl,_,_,_,true,rfl,.tup hq,rfl,_,rfl,iteT ?_⟩
  refine ⟨_,rfl,_,_,_,true,rfl,.tup hp,rfl,_,rfl,iteF ?_⟩
  refine ⟨_,rfl,p,xs,rfl,.inr (SqT.of hp),_,rfl,q,ys,rfl,.inr (SqT.of hq),rfl,_,rfl,?_⟩
  refine iteNS (by rw [hl]) ?_
  refine ⟨_,rfl,_,rfl,p,q,rfl,⟨_,SqT.of hp⟩,⟨_,SqT.of hq⟩,fun D hD=>?_⟩
  refine comp_zip (n:=xs.length) (fx:=fun i=>xs.getD i .non) (fy:=fun i=>ys.getD i .non) (fun i zs H2=>zs = List.replicate i (V.bl true)∧Same H H2∧H2 D = some (.lst zs)) (fun i zs H2 ⟨_,s2,_⟩=>zipTT_steps (SqT.of (s2 _ _ hp)) (SqT.of (s2 _ _ hq)) hl) ⟨rfl,same_new hD _,upd_same⟩ (fun i zs H2 h=>h.2.2) ?_ ?_
  ·rintro i zs H2 r hir ⟨rfl,s2,hD2⟩ hr2
   have nrD:D≠r:=ne_of_none hD2 hr2
   have e1:xs[i]? = some (xs.getD i .non):=by rw [List.getD_eq_getElem?_getD,List.getElem?_eq_getElem hir];rfl
   have e2:ys[i]? = some (ys.getD i .non):=by rw [List.getD_eq_getElem?_getD,List.getElem?_eq_getElem (by omega)];rfl
   have s3:Same H (upd H2 r (.tup [xs.getD i .non,ys.getD i .non])):=same_upd s2 (s2.free hr2)
   refine ⟨r,_,rfl,SqT.of upd_same,rfl,_,_,rfl,_,_,rfl,rfl,Kp.set rfl (Kp.set rfl (Kp.refl _)),?_⟩
   refine tTrue_ok ?_
   refine ⟨_,rfl,_,rfl,_,_,rfl,(hi i _ _ e1 e2).same s3,fun H4 s4=>⟨s4 _ _ (by rw [upd_ne nrD];exact hD2),?_,?_,same_upd (s3.trans s4) hD,upd_same⟩⟩
   ·rw [List.length_replicate];exact small' (by omega)
   ·rw [List.replicate_succ']
  ·rintro zs H2 ⟨rfl,s2,hD2⟩
   refine ⟨D,List.replicate xs.length true,rfl,SqL.of (by rw [← rep_bl];exact hD2),?_⟩
   rw [all_true fun b hb=>List.eq_of_mem_replicate hb]
   exact k _ s2
 ·refine ⟨_,rfl,_,rfl,iteF ?_⟩
  refine ⟨_,rfl,_,_,_,false,rfl,.lst hq,rfl,_,rfl,iteF ?_⟩
  refine ⟨_,rfl,_,_,_,false,rfl,.lst hq,rfl,_,rfl,iteF ?_⟩
  refine ⟨_,rfl,_,_,_,true,rfl,.lst hq,rfl,_,rfl,iteT ?_⟩
  refine ⟨_,rfl,_,_,_,true,rfl,.lst hp,rfl,_,rfl,iteF ?_⟩
  refine ⟨_,rfl,p,xs,rfl,.inl (SqL.of hp),_,rfl,q,ys,rfl,.inl (SqL.of hq),rfl,_,rfl,?_⟩
  refine iteNS (by rw [hl]) ?_
  refine ⟨_,rfl,_,rfl,p,q,rfl,⟨_,SqL.of hp⟩,⟨_,SqL.of hq⟩,fun D hD=>?_⟩
  refine comp_zip (n:=xs.length) (fx:=fun i=>xs.getD i .non) (fy:=fun i=>ys.getD i .non) (fun i zs H2=>zs = List.replicate i (V.bl true)∧Same H H2∧H2 D = some (.lst zs)) (fun i zs H2 ⟨_,s2,_⟩=>zipLL_steps (SqL.of (s2 _ _ hp)) (SqL.of (s2 _ _ hq)) hl) ⟨rfl,same_new hD _,upd_same⟩ (fun i zs H2 h=>h.2.2) ?_ ?_
  ·rintro i zs H2 r hir ⟨rfl,s2,hD2⟩ hr2
   have nrD:D≠r:=ne_of_none hD2 hr2
   have e1:xs[i]? = some (xs.getD i .non):=by rw [List.getD_eq_getElem?_getD,List.getElem?_eq_getElem hir];rfl
   have e2:ys[i]? = some (ys.getD i .non):=by rw [List.getD_eq_getElem?_getD,List.getElem?_eq_getElem (by omega)];rfl
   have s3:Same H (upd H2 r (.tup [xs.getD i .non,ys.getD i .non])):=same_upd s2 (s2.free hr2)
   refine ⟨r,_,rfl,SqT.of upd_same,rfl,_,_,rfl,_,_,rfl,rfl,Kp.set rfl (Kp.set rfl (Kp.refl _)),?_⟩
   refine tTrue_ok ?_
   refine ⟨_,rfl,_,rfl,_,_,rfl,(hi i _ _ e1 e2).same s3,fun H4 s4=>⟨s4 _ _ (by rw [upd_ne nrD];exact hD2),?_,?_,same_upd (s3.trans s4) hD,upd_same⟩⟩
   ·rw [List.length_replicate];exact small' (by omega)
   ·rw [List.replicate_succ']
  ·rintro zs H2 ⟨rfl,s2,hD2⟩
   refine ⟨D,List.replicate xs.length true,rfl,SqL.of (by rw [← rep_bl];exact hD2),?_⟩
   rw [all_true fun b hb=>List.eq_of_mem_replicate hb]
   exact k _ s2
theorem ok_same (F:Fun K "_law_same" "_law_same" sSame f fd) (m:MgS mg) (M:Ms K mg "_law_same" f fd ["_law_found", "_law_due"]):∀ n:Nat,FnOk P w K mg base CX0 n f fd ["_law_found", "_law_due"] (spSame n)
 | 0=>⟨fun vs H Q E ⟨x,y,_,h,_⟩=>h.elim,fun A outer s H args us vs Q E _ _ _ _ ⟨x,y,_,h,_⟩=>h.elim⟩
 | n + 1=>ok_same1 F m M (ok_same F m M n)
end
def sgn (t b:Int):Int:=if b < 0 then -((Int.gcd t b:Nat):Int) else ((Int.gcd t b:Nat):Int)
def low1 (t b:Int):Int:=t.fdiv (sgn t b)
def low2 (t b:Int):Int:=b.fdiv (sgn t b)
theorem gcd_pos {t b:Int} (h:b≠0):0 < Int.gcd t b:=Int.gcd_pos_of_ne_zero_right t h
theorem sgn_ne {t b:Int} (h:b≠0):sgn t b≠0:=by
 have:=gcd_pos (t:=t) h
 unfold sgn
 split <;> omega
theorem sgn_t (t b:Int):sgn t b ∣ t:=by
 unfold sgn
 split
 ·exact (Int.neg_dvd).mpr (Int.gcd_dvd_left t b)
 ·exact Int.gcd_dvd_left t b
theorem sgn_b (t b:Int):sgn t b ∣ b:=by
 unfold sgn
 split
 ·exact (Int.neg_dvd).mpr (Int.gcd_dvd_right t b)
 ·exact Int.gcd_dvd_right t b
theorem sgn_abs (t b:Int):(sgn t b).natAbs = Int.gcd t b:=by
 unfold sgn
 split <;> omega
theorem fdiv_ex {s t:Int} (hs:s≠0) (h:s ∣ t):s * t.fdiv s = t:=by
 obtain ⟨q,rfl⟩:=h
 rw [Int.mul_fdiv_cancel_left _ hs]
theorem low1_eq {t b:Int} (h:b≠0):sgn t b * low1 t b = t:=fdiv_ex (sgn_ne h) (sgn_t t b)
theorem low2_eq {t b:Int} (h:b≠0):sgn t b * low2 t b = b:=fdiv_ex (sgn_ne h) (sgn_b t b)
theorem low2_pos {t b:Int} (h:b≠0):0 < low2 t b:=by
 have e:=low2_eq (t:=t) h
 have g:=gcd_pos (t:=t) h
 have hs:sgn t b = if b < 0 then -((Int.gcd t b:Nat):Int) else ((Int.gcd t b:Nat):Int):=rfl
 by_cases hb:b < 0
 ·rw [if_pos hb] at hs
  by_cases hp:0 < low2 t b
  ·exact hp
  ·have:0≤sgn t b * low2 t b:=by rw [hs];exact Int.mul_nonneg_of_nonpos_of_nonpos (by omega) (by omega)
   omega
 ·rw [if_neg hb] at hs
  by_cases hp:0 < low2 t b
  ·exact hp
  ·have:sgn t b * low2 t b≤0:=by rw [hs];exact Int.mul_nonpos_of_nonneg_of_nonpos (by omega) (by omega)
   omega
theorem low_gcd {t b:Int} (h:b≠0):Int.gcd (low1 t b) (low2 t b) = 1:=by
 have e1:=low1_eq (t:=t) h
 have e2:=low2_eq (t:=t) h
 have g:=gcd_pos (t:=t) h
 have e3:Int.gcd (sgn t b * low1 t b) (sgn t b * low2 t b) = (sgn t b).natAbs * Int.gcd (low1 t b) (low2 t b):=Int.gcd_mul_left _ _ _
 rw [e1,e2,sgn_abs] at e3
 exact Nat.eq_of_mul_eq_mul_left g (by rw [← e3,Nat.mul_one])
theorem low_of {x y k:Int} (hg:Int.gcd x y = 1) (hy:0 < y) (hk:0 < k):low1 (x * k) (y * k) = x∧low2 (x * k) (y * k) = y:=by
 have e:Int.gcd (x * k) (y * k) = k.natAbs:=by rw [Int.gcd_mul_right,hg,Nat.one_mul]
 have hpos:0 < y * k:=Int.mul_pos hy hk
 have es:sgn (x * k) (y * k) = k:=by
  unfold sgn
  rw [if_neg (by omega),e]
  omega
 unfold low1 low2
 rw [es]
 exact ⟨Int.mul_fdiv_cancel _ (by omega),Int.mul_fdiv_cancel _ (by omega)⟩
theorem low2_le {t b:Int} (h:b≠0):(low2 t b).natAbs≤b.natAbs:=by
 have e:=congrArg Int.natAbs (low2_eq (t:=t) h)
 rw [Int.natAbs_mul,sgn_abs] at e
 rw [← e]
 exact Nat.le_mul_of_pos_left _ (gcd_pos h)
theorem low1_le {t b:Int} (h:b≠0):(low1 t b).natAbs≤t.natAbs:=by
 have e:=congrArg Int.natAbs (low1_eq (t:=t) h)
 rw [Int.natAbs_mul,sgn_abs] at e
 rw [← e]
 exact Nat.le_mul_of_pos_left _ (gcd_pos h)
theorem gcd_step {a b:Int} (ha:0≤a) (hb:0 < b):Int.gcd b (a % b) = Int.gcd a b:=by
 obtain ⟨m,rfl⟩:=Int.eq_ofNat_of_zero_le ha
 obtain ⟨n,rfl⟩:=Int.eq_ofNat_of_zero_le (Int.le_of_lt hb)
 have e:((m:Int) % (n:Int)) = ((m % n:Nat):Int):=by omega
 rw [e]
 show Nat.gcd n (m % n) = Nat.gcd m n
 rw [Nat.gcd_comm m n,Nat.gcd_rec n m,Nat.gcd_comm n (m % n)]
theorem gcd_abs (t b:Int):Int.gcd (if t < 0 then -t else t) (if b < 0 then -b else b) = Int.gcd t b:=by
 have e:∀ x:Int,(if x < 0 then -x else x).natAbs = x.natAbs:=fun x=>by split <;> omega
 unfold Int.gcd
 rw [e,e]
theorem gcd_le_right {t b:Int} (h:b≠0):Int.gcd t b≤b.natAbs:=by
 exact Nat.gcd_le_right _ (by omega)
def Fr2 (H:Hp) (p:Addr) (t b:Int):Prop:=H p = some (.tup [.int t,.int b])
def spGcd:Sp:=fun vs H Q _=>∃ a b:Int,vs = [.int a,.int b]∧0≤a∧0≤b∧Q (.int ((Int.gcd a b:Nat):Int)) H
def spLow:Sp:=fun vs H Q _=>∃ t b:Int,vs = [.int t,.int b]∧b≠0∧b.natAbs < bigN∧∀ p,H p = none→Q (.ref p) (upd H p (.tup [.int (low1 t b),.int (low2 t b)]))
section
variable {P:Program} {w:World} {K:PySem.W.Frag} {mg:Str→Option Value} {base:Heap} {f:Addr} {fd:FuncData}
theorem scGcd:FnScope ["a", "b"] ["a", "b"] (defScope sGcd):=⟨rfl,rfl,rfl,by decide +kernel,rfl,by decide +kernel,by decide +kernel⟩
theorem ok_gcd (F:Fun K "common_measure" "common_measure" sGcd f fd):FnOk P w K mg base CX0 1 f fd ["a", "b"] spGcd:=by
 refine F.ok scGcd (fun vs H Q E h=>?_) (fun cdv A outer s H vs Q E hr h=>?_)
 ·obtain ⟨a,b,rfl,_⟩:=h
  rfl
 obtain ⟨a,b,rfl,ha,hb,k⟩:=h
 refine ⟨_,pss_cons (ps_while PassesOwn.never (pt_cmpR op_ne (pv 1) pe_int (nomark _)) (pss_one (ps_par (i:=0) (j:=1) rfl scGcd.nd rfl rfl (by decide) rfl rfl (pa_cons (pv 1) (pa_cons (pe_op op_mod (pv 0) (pv 1)) pa_nil)) (by rfl))))
  (pss_one (ps_ret (pv 0))),?_⟩
 refine while_by (fun σ H2=>H2 = H∧∃ x y:Int,σ = [some (.int x),some (.int y)]∧0≤x∧0≤y∧Int.gcd x y = Int.gcd a b) (fun σ _=>match σ with | [_,some (.int y)]=>y.toNat | _=>0) ⟨rfl,a,b,rfl,ha,hb,rfl⟩ ?_ ?_
 ·rintro σ H2 ⟨rfl,x,y,rfl,hx,hy,hg⟩
  refine ⟨_,rfl,rfl,_,rfl,?_⟩
  by_cases h0:y = 0
  ·subst h0
   refine iteNS rfl ?_
   refine ⟨_,rfl,?_⟩
   have e:x = ((Int.gcd a b:Nat):Int):=by rw [← hg,Int.gcd_zero_right];omega
   rw [e];exact k
  ·have e:decide (V.int y = V.int 0) = false:=by rw [dec_int];simpa using h0
   rw [e]
   refine iteT ?_
   refine ⟨_,rfl,_,rfl,_,rfl,_,_,rfl,rfl,(by show 0 < y;omega),_,_,rfl,⟨rfl,y,x % y,rfl,hy,Int.emod_nonneg _ h0,by rw [gcd_step hx (by omega)];exact hg⟩,?_⟩
   show (x % y).toNat < y.toNat
   have:=Int.emod_lt_of_pos x (show 0 < y by omega)
   omega
 ·rintro σ H2 Q1 Q2 hq ⟨v,hv,hsc,c,hc,h⟩
  exact ⟨v,hv,hsc,c,hc,hq _ _ h⟩
theorem scPart:FnScope ["top", "bottom", "measure"] ["top", "bottom"] (defScope sPart):=⟨rfl,rfl,rfl,by decide +kernel,rfl,by decide +kernel,by decide +kernel⟩
theorem ok_part (F:Fun K "part" "part" sPart f fd) (ma:mg "abs" = none) {g:Addr} {gd:FuncData} (G:FnOk P w K mg base CX0 1 g gd ["a", "b"] spGcd) (M:Ms K mg "common_measure" g gd ["a", "b"]):FnOk P w K mg base CX0 2 f fd ["top", "bottom"] spLow:=by
 refine F.ok scPart (fun vs H Q E h=>?_) (fun cdv A outer s H vs Q E hr h=>?_)
 ·obtain ⟨a,b,rfl,_⟩:=h
  rfl
 obtain ⟨t,b,rfl,hb,hbig,k⟩:=h
 refine ⟨_,pss_cons (ps_set (i:=2) scPart.nd rfl (Or.inl rfl) (pe_call G hr rfl M.m M.k M.b .nil pass0 (pa_cons (pe_callB call_abs rfl ma bt_abs (pa_cons (pv 0) pa_nil)) (pa_cons (pe_callB call_abs rfl ma bt_abs (pa_cons (pv 1) pa_nil)) pa_nil))))
  (pss_cons (ps_if (pt_cmpR op_lt (pv 1) pe_int (nomark _)) (pss_one (ps_set (i:=2) scPart.nd rfl (Or.inl rfl) (pe_un un_neg (pv 2)))) pss_nil)
  (pss_one (ps_ret (pe_tup (pa_cons (pe_op op_fdivB (pv 0) (pv 2)) (pa_cons (pe_op op_fdivB (pv 1) (pv 2)) pa_nil)))))),?_⟩
 refine ⟨_,rfl,_,rfl,_,rfl,_,rfl,_,_,rfl,by split <;> omega,by split <;> omega,?_⟩
 rw [gcd_abs]
 have hg:=gcd_pos (t:=t) hb
 have hle:=gcd_le_right (t:=t) hb
 refine ⟨_,rfl,_,_,rfl,rfl,_,rfl,?_⟩
 refine ite2 (fun c=>?_) (fun c=>?_)
 ·have c':=of_decide_eq_true c
  have es:sgn t b = -((Int.gcd t b:Nat):Int):=by unfold sgn;rw [if_pos c']
  have hbg:(-((Int.gcd t b:Nat):Int)).natAbs < bigN:=Nat.lt_of_le_of_lt (by omega) hbig
  refine ⟨_,rfl,_,rfl,_,rfl,_,rfl,_,_,rfl,rfl,⟨by omega,hbg⟩,_,rfl,_,rfl,_,_,rfl,rfl,⟨by omega,hbg⟩,(by show 2≤sizeLine;decide),fun p hp=>?_⟩
  have q:=k p hp
  unfold low1 low2 at q
  rw [es] at q
  exact q
 ·have c':=of_decide_eq_false (Bool.eq_false_iff.mpr c)
  have es:sgn t b = ((Int.gcd t b:Nat):Int):=by unfold sgn;rw [if_neg c']
  have hbg:(((Int.gcd t b:Nat):Int)).natAbs < bigN:=Nat.lt_of_le_of_lt (by omega) hbig
  refine ⟨_,rfl,_,rfl,_,_,rfl,rfl,⟨by omega,hbg⟩,_,rfl,_,rfl,_,_,rfl,rfl,⟨by omega,hbg⟩,(by show 2≤sizeLine;decide),fun p hp=>?_⟩
  have q:=k p hp
  unfold low1 low2 at q
  rw [es] at q
  exact q
theorem scLow:FnScope ["_law_top", "_law_bottom", "_law_one", "_law_other"] ["_law_top", "_law_bottom"] (defScope sLow):=⟨rfl,rfl,rfl,by decide +kernel,rfl,by decide +kernel,by decide +kernel⟩
theorem ok_low (F:Fun K "_law_low" "_law_low" sLow f fd) (ma:mg "abs" = none):FnOk P w K mg base CX0 1 f fd ["_law_top", "_law_bottom"] spLow:=by
 refine F.ok scLow (fun vs H Q E h=>?_) (fun cdv A outer s H vs Q E hr h=>?_)
 ·obtain ⟨a,b,rfl,_⟩:=h
  rfl
 obtain ⟨t,b,rfl,hb,hbig,k⟩:=h
 refine ⟨_,pss_cons (ps_set (i:=2) scLow.nd rfl (Or.inl rfl) (pe_callB call_abs rfl ma bt_abs (pa_cons (pv 0) pa_nil)))
  (pss_cons (ps_set (i:=3) scLow.nd rfl (Or.inl rfl) (pe_callB call_abs rfl ma bt_abs (pa_cons (pv 1) pa_nil)))
  (pss_cons (ps_while PassesOwn.never (pt_cmpR op_ne (pv 3) pe_int (nomark _)) (pss_one (ps_par (i:=2) (j:=3) rfl scLow.nd rfl rfl (by decide) rfl rfl (pa_cons (pv 3) (pa_cons (pe_op op_mod (pv 2) (pv 3)) pa_nil)) (by rfl))))
  (pss_cons (ps_if (pt_cmpR op_lt (pv 1) pe_int (nomark _)) (pss_one (ps_set (i:=2) scLow.nd rfl (Or.inl rfl) (pe_op op_sub pe_int (pv 2)))) pss_nil)
  (pss_one (ps_ret (pe_tup (pa_cons (pe_op op_fdivB (pv 0) (pv 2)) (pa_cons (pe_op op_fdivB (pv 1) (pv 2)) pa_nil)))))))),?_⟩
 have hg:=gcd_pos (t:=t) hb
 have hle:=gcd_le_right (t:=t) hb
 refine ⟨_,rfl,_,rfl,_,rfl,_,rfl,?_⟩
 refine while_by (fun σ H2=>H2 = H∧∃ x y:Int,σ = [some (.int t),some (.int b),some (.int x),some (.int y)]∧0≤x∧0≤y∧Int.gcd x y = Int.gcd t b) (fun σ _=>match σ with | [_,_,_,some (.int y)]=>y.toNat | _=>0) ⟨rfl,_,_,rfl,by split <;> omega,by split <;> omega,gcd_abs t b⟩ ?_ ?_
 ·rintro σ H2 ⟨rfl,x,y,rfl,hx,hy,hxy⟩
  refine ⟨_,rfl,rfl,_,rfl,?_⟩
  by_cases h0:y = 0
  ·subst h0
   refine iteNS rfl ?_
   have e:x = ((Int.gcd t b:Nat):Int):=by rw [← hxy,Int.gcd_zero_right];omega
   subst e
   refine ⟨_,rfl,_,_,rfl,rfl,_,rfl,?_⟩
   refine ite2 (fun c=>?_) (fun c=>?_)
   ·have c':=of_decide_eq_true c
    have es:sgn t b = 0 - ((Int.gcd t b:Nat):Int):=by unfold sgn;rw [if_pos c'];omega
    have hbg:(0 - ((Int.gcd t b:Nat):Int)).natAbs < bigN:=Nat.lt_of_le_of_lt (by omega) hbig
    refine ⟨_,rfl,_,_,rfl,rfl,_,rfl,_,rfl,_,_,rfl,rfl,⟨by omega,hbg⟩,_,rfl,_,rfl,_,_,rfl,rfl,⟨by omega,hbg⟩,(by show 2≤sizeLine;decide),fun p hp=>?_⟩
    have q:=k p hp
    unfold low1 low2 at q
    rw [es] at q
    exact q
   ·have c':=of_decide_eq_false (Bool.eq_false_iff.mpr c)
    have es:sgn t b = ((Int.gcd t b:Nat):Int):=by unfold sgn;rw [if_neg c']
    have hbg:(((Int.gcd t b:Nat):Int)).natAbs < bigN:=Nat.lt_of_le_of_lt (by omega) hbig
    refine ⟨_,rfl,_,rfl,_,_,rfl,rfl,⟨by omega,hbg⟩,_,rfl,_,rfl,_,_,rfl,rfl,⟨by omega,hbg⟩,(by show 2≤sizeLine;decide),fun p hp=>?_⟩
    have q:=k p hp
    unfold low1 low2 at q
    rw [es] at q
    exact q
  ·have e:decide (V.int y = V.int 0) = false:=by rw [dec_int];simpa using h0
   rw [e]
   refine iteT ?_
   refine ⟨_,rfl,_,rfl,_,rfl,_,_,rfl,rfl,(by show 0 < y;omega),_,_,rfl,⟨rfl,y,x % y,rfl,hy,Int.emod_nonneg _ h0,by rw [gcd_step hx (by omega)];exact hxy⟩,?_⟩
   show (x % y).toNat < y.toNat
   have:=Int.emod_lt_of_pos x (show 0 < y by omega)
   omega
 ·rintro σ H2 Q1 Q2 hq ⟨v,hv,hsc,c,hc,h⟩
  exact ⟨v,hv,hsc,c,hc,hq _ _ h⟩
end
theorem ten_big:10 ^ 1200 < bigN:=by unfold bigN;decide +kernel
theorem big_e {n e:Nat} (h:n < 10 ^ e) (he:e≤1200):n < bigN:=Nat.lt_trans (Nat.lt_of_lt_of_le h (Nat.pow_le_pow_right (by decide) he)) ten_big
def Bd (e:Nat) (x:Int×Int):Prop:=x.1.natAbs < 10 ^ e∧0 < x.2∧x.2.natAbs < 10 ^ e
theorem Bd.mono {e f:Nat} {x:Int×Int} (h:Bd e x) (he:e≤f):Bd f x:=⟨Nat.lt_of_lt_of_le h.1 (Nat.pow_le_pow_right (by decide) he),h.2.1,Nat.lt_of_lt_of_le h.2.2 (Nat.pow_le_pow_right (by decide) he)⟩
def frt (t b:Int):Int×Int:=(low1 t b,low2 t b)
def sbF (x y:Int×Int):Int×Int:=frt (x.1 * y.2 - y.1 * x.2) (x.2 * y.2)
theorem mul_lt {a b:Int} {e f:Nat} (ha:a.natAbs < 10 ^ e) (hb:b.natAbs < 10 ^ f):(a * b).natAbs < 10 ^ (e + f):=by
 rw [Int.natAbs_mul,Nat.pow_add]
 exact Nat.mul_lt_mul'' ha hb
theorem frt_bd {t b:Int} {e:Nat} (hb:0 < b) (h1:t.natAbs < 10 ^ e) (h2:b.natAbs < 10 ^ e):Bd e (frt t b) :=
 ⟨Nat.lt_of_le_of_lt (low1_le (by omega)) h1,low2_pos (by omega),Nat.lt_of_le_of_lt (low2_le (by omega)) h2⟩
def spSub:Sp:=fun vs H Q _=>∃ (p q:Addr) (x y:Int×Int),vs = [.ref p,.ref q]∧Fr2 H p x.1 x.2∧Fr2 H q y.1 y.2∧Bd 500 x∧Bd 500 y∧∀ r,H r = none→Q (.ref r) (upd H r (.tup [.int (sbF x y).1,.int (sbF x y).2]))
section
variable {P:Program} {w:World} {K:PySem.W.Frag} {mg:Str→Option Value} {base:Heap} {f:Addr} {fd:FuncData}
theorem scMinus:FnScope ["a", "b"] ["a", "b"] (defScope sMinus):=⟨rfl,rfl,rfl,by decide +kernel,rfl,by decide +kernel,by decide +kernel⟩
theorem ok_minus (F:Fun K "minus" "minus" sMinus f fd) {g:Addr} {gd:FuncData} (G:FnOk P w K mg base CX0 2 g gd ["top", "bottom"] spLow) (M:Ms K mg "part" g gd ["top", "bottom"]):FnOk P w K mg base CX0 3 f fd ["a", "b"] spSub:=by
 refine F.ok scMinus (fun vs H Q E h=>?_) (fun cdv A outer s H vs Q E hr h=>?_)
 ·obtain ⟨p,q,x,y,rfl,_⟩:=h
  rfl
 obtain ⟨p,q,x,y,rfl,hp,hq,bx,by',k⟩:=h
 refine ⟨_,pss_one (ps_ret (pe_call G hr rfl M.m M.k M.b .nil pass0 (pa_cons (pe_op op_sub (pe_op op_mulB (pe_ix ix_tup (pv 0) pe_int (fun _ _=>rfl)) (pe_ix ix_tup (pv 1) pe_int (fun _ _=>rfl))) (pe_op op_mulB (pe_ix ix_tup (pv 1) pe_int (fun _ _=>rfl)) (pe_ix ix_tup (pv 0) pe_int (fun _ _=>rfl)))) (pa_cons (pe_op op_mulB (pe_ix ix_tup (pv 0) pe_int (fun _ _=>rfl)) (pe_ix ix_tup (pv 1) pe_int (fun _ _=>rfl))) pa_nil)))),?_⟩
 have b1:=big_e bx.1 (by decide)
 have b2:=big_e bx.2.2 (by decide)
 have b3:=big_e by'.1 (by decide)
 have b4:=big_e by'.2.2 (by decide)
 exact ⟨_,rfl,p,_,_,_,rfl,rfl,SqT.of hp,atI_nat (j:=0) rfl,_,rfl,q,_,_,_,rfl,rfl,SqT.of hq,atI_nat (j:=1) rfl,_,_,rfl,rfl,⟨b1,b4⟩,_,rfl,q,_,_,_,rfl,rfl,SqT.of hq,atI_nat (j:=0) rfl,_,rfl,p,_,_,_,rfl,rfl,SqT.of hp,atI_nat (j:=1) rfl,_,_,rfl,rfl,⟨b3,b2⟩,_,_,rfl,rfl,
  _,rfl,p,_,_,_,rfl,rfl,SqT.of hp,atI_nat (j:=1) rfl,_,rfl,q,_,_,_,rfl,rfl,SqT.of hq,atI_nat (j:=1) rfl,_,_,rfl,rfl,⟨b2,b4⟩,_,_,rfl,Int.ne_of_gt (Int.mul_pos bx.2.1 by'.2.1),big_e (mul_lt bx.2.2 by'.2.2) (by decide),k⟩
end
end M
namespace M
open PySem L2 PyProof.Rows
def spPartOff (C:Addr):Sp:=fun vs H Q _=>∃ x dx a1 a2 a3 a4 a5 lo ho ow se br e n man p t0,∃ (acres own brd:Int) (sx:Int×Int),vs = [.ref x,.str e,.str n,.str man,.int acres]∧LandAt C H x dx a1 a2 a3 a4 a5 lo ho ow se br∧Ap5 a1 a2 a3 a4 a5 ∧
 valV lo (.inr e) = some (.str p)∧valV ow (.inr e) = some (.int own)∧valV se (.inr e) = some (.ref t0)∧valV br (.inr e) = some (.int brd)∧Fr2 H t0 sx.1 sx.2∧Bd 400 sx∧0 < brd∧brd.natAbs < 10 ^ 5∧acres.natAbs < 10 ^ 5 ∧
 lo.length≤800∧ho.length≤800∧ow.length≤800∧se.length≤800∧br.length≤800 ∧
 ∀ g r H',H g = none→H r = none→g≠r →
  LandAt C H' x dx a1 a2 a3 a4 a5 (putK lo (.inr n) (.str p)) (putK ho (.inr n) (.str man)) (putK (putK ow (.inr e) (.int (own - acres))) (.inr n) (.int acres)) (putK (putK se (.inr e) (.ref r)) (.inr n) (.ref g)) (putK (putK br (.inr e) (.int (brd - acres))) (.inr n) (.int acres)) →
  Fr2 H' g (frt (sx.1 * acres) (sx.2 * brd)).1 (frt (sx.1 * acres) (sx.2 * brd)).2→Fr2 H' r (sbF sx (frt (sx.1 * acres) (sx.2 * brd))).1 (sbF sx (frt (sx.1 * acres) (sx.2 * brd))).2 →
  (∀ c o,c≠a1→c≠a2→c≠a3→c≠a4→c≠a5→H c = some o→H' c = some o)→Q .non H'
section
variable {P:Program} {w:World} {K:PySem.W.Frag} {mg:Str→Option Value} {base:Heap} {f C:Addr} {fd:FuncData}
theorem scPartOff:FnScope ["self", "estate", "new", "man", "acres", "service", "going"] ["self", "estate", "new", "man", "acres"] (defScope sPartOff):=⟨rfl,rfl,rfl,by decide +kernel,rfl,by decide +kernel,by decide +kernel⟩
set_option maxHeartbeats 8000000 in
theorem ok_partOff (T:LandC K C) (F:Fun K "part_off" "Land.part_off" sPartOff f fd) {g1 g2 g3:Addr} {d1 d2 d3:FuncData} (G1:FnOk P w K mg base CX0 1 g1 d1 ["self", "name", "lord", "holder", "acres", "service"] (spAdd C)) (m1:Meth K C "add_estate" g1) (b1:Binds K d1 ["self", "name", "lord", "holder", "acres", "service"] [])
  (G2:FnOk P w K mg base CX0 2 g2 d2 ["top", "bottom"] spLow) (M2:Ms K mg "part" g2 d2 ["top", "bottom"]) (G3:FnOk P w K mg base CX0 3 g3 d3 ["a", "b"] spSub) (M3:Ms K mg "minus" g3 d3 ["a", "b"]) :
  FnOk P w K mg base CX0 4 f fd ["self", "estate", "new", "man", "acres"] (spPartOff C):=by
 refine F.ok scPartOff (fun vs H Q E h=>?_) (fun cdv A outer s H vs Q E hr h=>?_)
 ·obtain ⟨x,dx,a1,a2,a3,a4,a5,lo,ho,ow,se,br,e,n,man,p,t0,acres,own,brd,sx,rfl,_⟩:=h
  rfl
 obtain ⟨x,dx,a1,a2,a3,a4,a5,lo,ho,ow,se,br,e,n,man,p,t0,acres,own,brd,sx,rfl,L,ap,hlo,how,hse,hbr,h0,bx,hb0,hb1,hac,e1,e2,e3,e4,e5,k⟩:=h
 have G1:=FnOk.mono (k:=3) G1 (by omega)
 have G2:=FnOk.mono (k:=3) G2 (by omega)
 refine ⟨_,pss_cons (ps_set (i:=5) scPartOff.nd rfl (Or.inl rfl) (pe_dget (u1 hr) (pe_fld (pv 0) rfl) (pv 1) (fun _ _=>rfl)))
  (pss_cons (ps_set (i:=6) scPartOff.nd rfl (Or.inl rfl) (pe_call G2 hr rfl M2.m M2.k M2.b .nil pass0 (pa_cons (pe_op op_mulB (pe_ix ix_tup (pv 5) pe_int (fun _ _=>rfl)) (pv 4)) (pa_cons (pe_op op_mulB (pe_ix ix_tup (pv 5) pe_int (fun _ _=>rfl)) (pe_dget (u1 hr) (pe_fld (pv 0) rfl) (pv 1) (fun _ _=>rfl))) pa_nil))))
  (pss_cons (ps_daug (u1 hr) (pe_fld (pv 0) rfl) (pv 1) (pv 4) in_sub (fun _ _ _=>rfl))
  (pss_cons (ps_daug (u1 hr) (pe_fld (pv 0) rfl) (pv 1) (pv 4) in_sub (fun _ _ _=>rfl))
  (pss_cons (ps_dput (u1 hr) (pe_fld (pv 0) rfl) (pv 1) (pe_call G3 hr rfl M3.m M3.k M3.b .nil pass0 (pa_cons (pv 5) (pa_cons (pv 6) pa_nil))) rfl)
  (pss_one (ps_expr (pe_meth (pv 0) T.cl m1 G1 hr b1 .nil pass0 (pa_cons (pv 2) (pa_cons (pe_dget (u1 hr) (pe_fld (pv 0) rfl) (pv 1) (fun _ _=>rfl)) (pa_cons (pv 3) (pa_cons (pv 4) (pa_cons (pv 6) pa_nil)))))))))))),?_⟩
 have q1:=big_e bx.1 (by decide)
 have q2:=big_e bx.2.2 (by decide)
 have q3:=big_e hac (by decide)
 have q4:=big_e hb1 (by decide)
 refine ⟨_,rfl,x,C,dx,_,_,rfl,L.o,T.cl,T.n4,rfl,_,rfl,_,_,rfl,dget L.l4 hse,?_⟩
 refine ⟨_,rfl,t0,_,_,_,rfl,rfl,SqT.of h0,atI_nat (j:=0) rfl,_,rfl,_,_,rfl,rfl,⟨q1,q3⟩,_,rfl,t0,_,_,_,rfl,rfl,SqT.of h0,atI_nat (j:=1) rfl,?_⟩
 refine ⟨_,rfl,x,C,dx,_,_,rfl,L.o,T.cl,T.n5,rfl,_,rfl,_,_,rfl,dget L.l5 hbr,_,_,rfl,rfl,⟨q2,q4⟩,_,_,rfl,Int.ne_of_gt (Int.mul_pos bx.2.1 hb0),big_e (mul_lt bx.2.2 hb1) (by decide),fun g hg=>?_⟩
 have L1:=L.same (same_new hg (.tup [.int (frt (sx.1 * acres) (sx.2 * brd)).1,.int (frt (sx.1 * acres) (sx.2 * brd)).2]))
 have f1:=(same_new hg (.tup [.int (frt (sx.1 * acres) (sx.2 * brd)).1,.int (frt (sx.1 * acres) (sx.2 * brd)).2]))
 have hg1:(upd H g (.tup [.int (frt (sx.1 * acres) (sx.2 * brd)).1,.int (frt (sx.1 * acres) (sx.2 * brd)).2])) g = some (.tup [.int (frt (sx.1 * acres) (sx.2 * brd)).1,.int (frt (sx.1 * acres) (sx.2 * brd)).2]):=upd_same
 have bg:Bd 405 (frt (sx.1 * acres) (sx.2 * brd)):=frt_bd (Int.mul_pos bx.2.1 hb0) (mul_lt bx.1 hac) (mul_lt bx.2.2 hb1)
 change (tSeq _ _) _ _ (upd H g (.tup [.int (frt (sx.1 * acres) (sx.2 * brd)).1,.int (frt (sx.1 * acres) (sx.2 * brd)).2]))
 generalize frt (sx.1 * acres) (sx.2 * brd) = go at L1 f1 hg1 bg k ⊢
 have h01:=f1 _ _ h0
 have back1:∀ c,(upd H g (.tup [.int go.1,.int go.2])) c = none→H c = none∧c≠g:=fun c hc=>by
  by_cases q:c = g
  ·rw [q,upd_same] at hc;cases hc
  ·rw [upd_ne q] at hc;exact ⟨hc,q⟩
 generalize upd H g (.tup [.int go.1,.int go.2]) = H1 at L1 f1 hg1 h01 back1 ⊢
 refine ⟨_,rfl,x,C,dx,_,_,rfl,L1.o,T.cl,T.n3,rfl,_,rfl,a3,_,rfl,dget L1.l3 how,_,rfl,_,_,rfl,rfl,_,DPut.k (k:=.inr e) L1.l3 (small' (by omega)),?_⟩
 have g3:=ne_of hg1 L1.l3 (by intro q;cases q)
 have g4:=ne_of hg1 L1.l4 (by intro q;cases q)
 have g5:=ne_of hg1 L1.l5 (by intro q;cases q)
 have t3:=ne_of h01 L1.l3 (by intro q;cases q)
 have t5:=ne_of h01 L1.l5 (by intro q;cases q)
 have L2:LandAt C (upd H1 a3 (.dK (putK ow (.inr e) (.int (own - acres))))) x dx a1 a2 a3 a4 a5 lo ho (putK ow (.inr e) (.int (own - acres))) se br :=
  ⟨by rw [upd_ne (ne_of L1.o L1.l3 (by intro q;cases q))];exact L1.o,by rw [upd_ne ap.n13];exact L1.l1,by rw [upd_ne ap.n23];exact L1.l2,upd_same,by rw [upd_ne (Ne.symm ap.n34)];exact L1.l4,by rw [upd_ne (Ne.symm ap.n35)];exact L1.l5⟩
 have hg2:(upd H1 a3 (.dK (putK ow (.inr e) (.int (own - acres))))) g = some (.tup [.int go.1,.int go.2]):=by rw [upd_ne g3];exact hg1
 have h02:(upd H1 a3 (.dK (putK ow (.inr e) (.int (own - acres))))) t0 = some (.tup [.int sx.1,.int sx.2]):=by rw [upd_ne t3];exact h01
 have f2:∀ c o,c≠a3→H c = some o→(upd H1 a3 (.dK (putK ow (.inr e) (.int (own - acres))))) c = some o:=fun c o hc q=>by rw [upd_ne hc];exact f1 c o q
 have back2:∀ c,(upd H1 a3 (.dK (putK ow (.inr e) (.int (own - acres))))) c = none→H c = none∧c≠g:=fun c hc=>by
  by_cases q:c = a3
  ·rw [q,upd_same] at hc;cases hc
  ·rw [upd_ne q] at hc;exact back1 c hc
 generalize upd H1 a3 (.dK (putK ow (.inr e) (.int (own - acres)))) = H2 at L2 hg2 h02 f2 back2 ⊢
 have hl2:=length_putK ow (.inr e) (.int (own - acres))
 generalize putK ow (.inr e) (.int (own - acres)) = ow2 at L2 hl2 k ⊢
 refine ⟨_,rfl,x,C,dx,_,_,rfl,L2.o,T.cl,T.n5,rfl,_,rfl,a5,_,rfl,dget L2.l5 hbr,_,rfl,_,_,rfl,rfl,_,DPut.k (k:=.inr e) L2.l5 (small' (by omega)),?_⟩
 have L3:LandAt C (upd H2 a5 (.dK (putK br (.inr e) (.int (brd - acres))))) x dx a1 a2 a3 a4 a5 lo ho ow2 se (putK br (.inr e) (.int (brd - acres))) :=
  ⟨by rw [upd_ne (ne_of L2.o L2.l5 (by intro q;cases q))];exact L2.o,by rw [upd_ne ap.n15];exact L2.l1,by rw [upd_ne ap.n25];exact L2.l2,by rw [upd_ne ap.n35];exact L2.l3,by rw [upd_ne ap.n45];exact L2.l4,upd_same⟩
 have hg3:(upd H2 a5 (.dK (putK br (.inr e) (.int (brd - acres))))) g = some (.tup [.int go.1,.int go.2]):=by rw [upd_ne g5];exact hg2
 have h03:(upd H2 a5 (.dK (putK br (.inr e) (.int (brd - acres))))) t0 = some (.tup [.int sx.1,.int sx.2]):=by rw [upd_ne t5];exact h02
 have f3:∀ c o,c≠a3→c≠a5→H c = some o→(upd H2 a5 (.dK (putK br (.inr e) (.int (brd - acres))))) c = some o:=fun c o hc hc2 q=>by rw [upd_ne hc2];exact f2 c o hc q
 have back3:∀ c,(upd H2 a5 (.dK (putK br (.inr e) (.int (brd - acres))))) c = none→H c = none∧c≠g:=fun c hc=>by
  by_cases q:c = a5
  ·rw [q,upd_same] at hc;cases hc
  ·rw [upd_ne q] at hc;exact back2 c hc
 generalize upd H2 a5 (.dK (putK br (.inr e) (.int (brd - acres)))) = H3 at L3 hg3 h03 f3 back3 ⊢
 have hl3:=length_putK br (.inr e) (.int (brd - acres))
 generalize putK br (.inr e) (.int (brd - acres)) = br2 at L3 hl3 k ⊢
 refine ⟨_,rfl,_,rfl,t0,g,sx,go,rfl,h03,hg3,bx.mono (by decide),bg.mono (by decide),fun r hr3=>?_⟩
 obtain ⟨hr0,hrg⟩:=back3 r hr3
 have s4:=same_new hr3 (.tup [.int (sbF sx go).1,.int (sbF sx go).2])
 have L4:=L3.same s4
 have hg4:=s4 _ _ hg3
 have f4:∀ c o,c≠a3→c≠a5→H c = some o→_:=fun c o hc hc2 q=>s4 _ _ (f3 c o hc hc2 q)
 have hr4:(upd H3 r (.tup [.int (sbF sx go).1,.int (sbF sx go).2])) r = some (.tup [.int (sbF sx go).1,.int (sbF sx go).2]):=upd_same
 generalize upd H3 r (.tup [.int (sbF sx go).1,.int (sbF sx go).2]) = H4 at L4 hg4 f4 hr4 ⊢
 refine ⟨_,rfl,x,C,dx,_,_,rfl,L4.o,T.cl,T.n4,rfl,_,rfl,a4,_,rfl,DPut.k (k:=.inr e) L4.l4 (small' (by omega)),?_⟩
 have hl4:=length_putK se (.inr e) (.ref r)
 have r4:=ne_of hr4 L4.l4 (by intro q;cases q)
 have L5:LandAt C (upd H4 a4 (.dK (putK se (.inr e) (.ref r)))) x dx a1 a2 a3 a4 a5 lo ho ow2 (putK se (.inr e) (.ref r)) br2 :=
  ⟨by rw [upd_ne (ne_of L4.o L4.l4 (by intro q;cases q))];exact L4.o,by rw [upd_ne ap.n14];exact L4.l1,by rw [upd_ne ap.n24];exact L4.l2,by rw [upd_ne ap.n34];exact L4.l3,upd_same,by rw [upd_ne (Ne.symm ap.n45)];exact L4.l5⟩
 have hg5:(upd H4 a4 (.dK (putK se (.inr e) (.ref r)))) g = some (.tup [.int go.1,.int go.2]):=by rw [upd_ne g4];exact hg4
 have hr5:(upd H4 a4 (.dK (putK se (.inr e) (.ref r)))) r = some (.tup [.int (sbF sx go).1,.int (sbF sx go).2]):=by rw [upd_ne r4];exact hr4
 have f5:∀ c o,c≠a3→c≠a4→c≠a5→H c = some o→(upd H4 a4 (.dK (putK se (.inr e) (.ref r)))) c = some o:=fun c o hc hc4 hc5 q=>by rw [upd_ne hc4];exact f4 c o hc hc5 q
 generalize upd H4 a4 (.dK (putK se (.inr e) (.ref r))) = H5 at L5 hg5 hr5 f5 ⊢
 refine ⟨_,rfl,x,dx,_,rfl,L5.o,rfl,_,rfl,?_⟩
 refine ⟨_,rfl,x,C,dx,_,_,rfl,L5.o,T.cl,T.n1,rfl,_,rfl,_,_,rfl,dget L5.l1 hlo,_,rfl,_,rfl,_,rfl,?_⟩
 refine ⟨x,dx,a1,a2,a3,a4,a5,lo,ho,ow2,_,br2,n,p,man,acres,g,rfl,L5,ap,by omega,by omega,by omega,by omega,by omega,?_⟩
 have x1:=ne_of L5.o L5.l1 (by intro q;cases q)
 have x2:=ne_of L5.o L5.l2 (by intro q;cases q)
 have x3:=ne_of L5.o L5.l3 (by intro q;cases q)
 have x4:=ne_of L5.o L5.l4 (by intro q;cases q)
 have x5:=ne_of L5.o L5.l5 (by intro q;cases q)
 have out:∀ c o,c≠a1→c≠a2→c≠a3→c≠a4→c≠a5→H5 c = some o→addH H5 a1 a2 a3 a4 a5 lo ho ow2 (putK se (.inr e) (.ref r)) br2 n p man acres g c = some o:=fun c o c1 c2 c3 c4 c5 q=>by
  unfold addH;rw [upd_ne c5,upd_ne c4,upd_ne c3,upd_ne c2,upd_ne c1];exact q
 refine k g r _ hg hr0 (Ne.symm hrg) ⟨out _ _ x1 x2 x3 x4 x5 L5.o,?_,?_,?_,?_,?_⟩ ?_ ?_ fun c o c1 c2 c3 c4 c5 q=>out c o c1 c2 c3 c4 c5 (f5 c o c3 c4 c5 q)
 ·unfold addH;rw [upd_ne ap.n15,upd_ne ap.n14,upd_ne ap.n13,upd_ne ap.n12,upd_same]
 ·unfold addH;rw [upd_ne ap.n25,upd_ne ap.n24,upd_ne ap.n23,upd_same]
 ·unfold addH;rw [upd_ne ap.n35,upd_ne ap.n34,upd_same]
 ·unfold addH;rw [upd_ne ap.n45,upd_same]
 ·unfold addH;exact upd_same
 ·exact out _ _ (ne_of hg5 L5.l1 (by intro q;cases q)) (ne_of hg5 L5.l2 (by intro q;cases q)) (ne_of hg5 L5.l3 (by intro q;cases q)) (ne_of hg5 L5.l4 (by intro q;cases q)) (ne_of hg5 L5.l5 (by intro q;cases q)) hg5
 ·exact out _ _ (ne_of hr5 L5.l1 (by intro q;cases q)) (ne_of hr5 L5.l2 (by intro q;cases q)) (ne_of hr5 L5.l3 (by intro q;cases q)) (ne_of hr5 L5.l4 (by intro q;cases q)) (ne_of hr5 L5.l5 (by intro q;cases q)) hr5
end
end M
namespace M
open PySem L2 PyProof.Rows
abbrev sFits:Stmt:=top 10
abbrev sCkA:Stmt:=top 17
def KTp (K:PySem.W.Frag) (a:Addr) (xs:List V):Prop:=∃ (o:Obj) (its:Array Value) (n:Nat),K.lookup a = some o∧o.cls = .type "tuple"∧o.data = .seq its n∧its.size≤sizeLine∧Vals xs its.toList
theorem KTp.sq {K:PySem.W.Frag} {a:Addr} {xs:List V} (h:KTp K a xs) (H:Hp):SqT K H a xs:=.inr h
structure Mods (K:PySem.W.Frag) (P:Params) (mg:Str→Option Value):Prop where
 bounds:∃ a b1 b2 b3 b4 b5 b6 b7,mg "BOUNDS" = some (.ref a)∧KD K P a [("day",.ref b1),("acres",.ref b2),("service",.ref b3),("bears",.ref b4),("edge",.ref b5),("number",.ref b6),("entry",.ref b7)]∧KTp K b2 [.int 1,.int 9999]
 crown:∃ t,mg "CROWN" = some (.str "" t)
def spFitA:Sp:=fun vs H Q _=>∃ n:Int,vs = [.str "acres",.int n]∧1≤n∧n≤9999∧Q (.bl true) H
def spCkA:Sp:=fun vs H Q _=>∃ n:Int,vs = [.int n]∧1≤n∧n≤9999∧Q .non H
abbrev one0 (v:V):List (Key×V):=[(.inr "",v)]
def spInit (C:Addr):Sp:=fun vs H Q _=>∃ x dx,∃ n:Int,vs = [.ref x,.int n]∧H x = some (.ins C dx [])∧1≤n∧n≤9999 ∧
 ∀ a1 a2 a3 a4 a5 t H',(∀ c o,c≠x→H c = some o→H' c = some o)→LandAt C H' x dx a1 a2 a3 a4 a5 (one0 .non) (one0 (.str "")) (one0 (.int n)) (one0 (.ref t)) (one0 (.int n))→Ap5 a1 a2 a3 a4 a5 →
  H a1 = none→H a2 = none→H a3 = none→H a4 = none→H a5 = none→H t = none→Fr2 H' t 0 1→Q .non H'
theorem pe_disp1 {X:Cx} {pos:Pos} {k v:Expr} {tk tv:TE} (hk:PE X k tk) (hv:PE X v tv):PE X (.Dict [some k] [v] pos) (tDisp [(tk,tv)]):=by
 refine pe_disp ?h ?a ?b ?c ?d
 case a=>exact rfl
 case b=>exact rfl
 case c=>exact List.cons_ne_nil _ _
 case d=>exact Nat.le_of_ble_eq_true rfl
 case h=>exact pps_cons hk hv pps_nil
theorem seq_fd {K:PySem.W.Frag} {ta tv:TE} {f:Str} {rest:TS} {D:Ends} {σ:L2.St} {H:Hp} (h:tv σ H fun y H1=>ta σ H1 fun x H2=>∃ a C dx fs,x = .ref a∧H2 a = some (.ins C dx fs)∧Cls K C∧NoAttr K C f∧fs.length < 1000∧rest D σ (upd H2 a (.ins C dx (putF f y fs)))):tSeq (sFld K ta tv f) rest D σ H:=h
theorem back_none {H H':Hp} {x:Addr} {o o':HO} (h0:H x = some o) (h1:H' x = some o') (f:∀ c o,c≠x→H c = some o→H' c = some o):∀ c,H' c = none→H c = none:=fun c hc=>by
 cases q:H c with
 | none=>rfl
 | some u =>
  by_cases hcx:c = x
  ·rw [hcx,h1] at hc;cases hc
  ·rw [f c u hcx q] at hc;cases hc
theorem disp1 {k:Str} {tv:TE} {σ:L2.St} {H:Hp} {Q:VK} (h:∀ p,H p = none→∀ Q':VK,(∀ y H2,H2 p = some (.dK [])→Q (.ref p) (upd H2 p (.dK [(.inr k,y)]))→Q' y H2)→tv σ (upd H p (.dK [])) Q'):tDisp [(tC (.str k),tv)] σ H Q:=by
 intro p hp
 show tv σ _ _
 refine h p hp _ fun y H2 e q=>?_
 exact ⟨e,[(.inr k,y)],rfl,Nat.le_of_ble_eq_true rfl,q⟩
section
variable {P:Program} {w:World} {K:PySem.W.Frag} {mg:Str→Option Value} {base:Heap} {f C:Addr} {fd:FuncData}
theorem scFits:FnScope ["sort", "piece", "least", "greatest"] ["sort", "piece"] (defScope sFits):=⟨rfl,rfl,rfl,by decide +kernel,rfl,by decide +kernel,by decide +kernel⟩
set_option maxHeartbeats 4000000 in
theorem ok_fits (F:Fun K "fits" "fits" sFits f fd) (mo:Mods K w.params mg):FnOk P w K mg base CX0 1 f fd ["sort", "piece"] spFitA:=by
 obtain ⟨aB,b1,b2,b3,b4,b5,b6,b7,mB,kB,t2⟩:=mo.bounds
 refine F.ok scFits (fun vs H Q E h=>?_) (fun cdv A outer s H vs Q E hr h=>?_)
 ·obtain ⟨n,rfl,_⟩:=h
  rfl
 obtain ⟨n,rfl,h1,h2,k⟩:=h
 refine ⟨_,pss_cons (ps_if (pt_cmpR op_inKD (pv 0) (pe_glob rfl mB rfl (v:=.ref aB)) (by with_unfolding_all rfl))
   (pss_cons (ps_asg (pe_ix ix_KD (pe_glob rfl mB rfl (v:=.ref aB)) (pv 0) (fun _ _=>rfl)) (pg_tup rfl (pgs_cons (pg_name (i:=2) scFits.nd rfl (Or.inl rfl)) (pgs_cons (pg_name (i:=3) scFits.nd rfl (Or.inl rfl)) pgs_nil))))
   (pss_one (ps_ret (pe_chain op_le op_le (pv 2) (pv 1) (pv 3))))) pss_nil) pss_never,?_⟩
 refine ⟨_,rfl,_,aB,_,rfl,rfl,kB,_,rfl,iteT ?_⟩
 refine ⟨_,rfl,aB,_,_,_,rfl,rfl,kB,rfl,?_⟩
 refine ⟨b2,_,rfl,t2.sq _,rfl,_,_,rfl,_,_,rfl,rfl,?_⟩
 refine ⟨_,rfl,_,rfl,_,_,rfl,rfl,_,rfl,?_⟩
 rw [decide_eq_true h1]
 refine iteT ⟨_,rfl,_,_,rfl,rfl,?_⟩
 show Q (.bl (decide (n≤9999))) H
 rw [decide_eq_true h2]
 exact k
theorem scCkA:FnScope ["acres"] ["acres"] (defScope sCkA):=⟨rfl,rfl,rfl,by decide +kernel,rfl,by decide +kernel,by decide +kernel⟩
theorem ok_ckA (F:Fun K "check_acres" "check_acres" sCkA f fd) {g1:Addr} {d1:FuncData} (G1:FnOk P w K mg base CX0 1 g1 d1 ["sort", "piece"] spFitA) (M1:Ms K mg "fits" g1 d1 ["sort", "piece"]):FnOk P w K mg base CX0 2 f fd ["acres"] spCkA:=by
 refine F.ok scCkA (fun vs H Q E h=>?_) (fun cdv A outer s H vs Q E hr h=>?_)
 ·obtain ⟨n,rfl,_⟩:=h
  rfl
 obtain ⟨n,rfl,h1,h2,k⟩:=h
 refine ⟨_,pss_one (ps_if (pt_not (pt_val (pe_call G1 hr rfl M1.m M1.k M1.b .nil pass0 (pa_cons pe_str (pa_cons (pv 0) pa_nil))))) pss_never pss_nil),?_⟩
 exact ⟨_,rfl,n,rfl,h1,h2,_,rfl,iteF k⟩
theorem scInit:FnScope ["self", "acres"] ["self", "acres"] (defScope sInit):=⟨rfl,rfl,rfl,by decide +kernel,rfl,by decide +kernel,by decide +kernel⟩
set_option maxHeartbeats 8000000 in
theorem ok_init (T:LandC K C) (F:Fun K "__init__" "Land.__init__" sInit f fd) (mo:Mods K w.params mg) {g1:Addr} {d1:FuncData} (G1:FnOk P w K mg base CX0 2 g1 d1 ["acres"] spCkA) (M1:Ms K mg "check_acres" g1 d1 ["acres"]):FnOk P w K mg base CX0 3 f fd ["self", "acres"] (spInit C):=by
 obtain ⟨tc,mC⟩:=mo.crown
 refine F.ok scInit (fun vs H Q E h=>?_) (fun cdv A outer s H vs Q E hr h=>?_)
 ·obtain ⟨x,dx,n,rfl,_⟩:=h
  rfl
 obtain ⟨x,dx,n,rfl,hx,h1,h2,k⟩:=h
 refine ⟨_,pss_cons (ps_expr (pe_call G1 hr rfl M1.m M1.k M1.b .nil pass0 (pa_cons (pv 1) pa_nil)))
  (pss_cons (ps_fld (pv 0) (pe_disp1 (pe_glob rfl mC ⟨_,rfl⟩ (v:=.str "")) pe_non) rfl)
  (pss_cons (ps_fld (pv 0) (pe_disp1 (pe_glob rfl mC ⟨_,rfl⟩ (v:=.str "")) (pe_glob rfl mC ⟨_,rfl⟩ (v:=.str ""))) rfl)
  (pss_cons (ps_fld (pv 0) (pe_disp1 (pe_glob rfl mC ⟨_,rfl⟩ (v:=.str "")) (pv 1)) rfl)
  (pss_cons (ps_fld (pv 0) (pe_disp1 (pe_glob rfl mC ⟨_,rfl⟩ (v:=.str "")) (pe_tup (pa_cons pe_int (pa_cons pe_int pa_nil)))) rfl)
  (pss_one (ps_fld (pv 0) (pe_disp1 (pe_glob rfl mC ⟨_,rfl⟩ (v:=.str "")) (pv 1)) rfl)))))),?_⟩
 refine ⟨_,rfl,n,rfl,h1,h2,?_⟩
 refine seq_fd (disp1 (k:="") (tv:=tC .non) fun a1 e1 Q1 k1=>k1 _ _ upd_same ?_)
 have n1:x≠a1:=ne_of_none hx e1
 refine ⟨_,rfl,x,C,dx,_,rfl,by rw [upd_ne n1,upd_ne n1];exact hx,T.cl,T.n1,Nat.lt_of_sub_eq_succ rfl,?_⟩
 generalize hH1:upd _ x _ = H1
 have x1:H1 x = some (.ins C dx [("lord_of",.ref a1)]):=by rw [← hH1,upd_same];rfl
 have p1:H1 a1 = some (.dK (one0 .non)):=by rw [← hH1,upd_ne (Ne.symm n1),upd_same]
 have f1:∀ c o,c≠x→H c = some o→H1 c = some o:=fun c o hc ho=>by rw [← hH1,upd_ne hc,upd_ne (ne_of_none ho e1),upd_ne (ne_of_none ho e1)];exact ho
 have z1:∀ c,H1 c = none→H c = none:=back_none hx x1 f1
 clear hH1
 refine seq_fd (disp1 (k:="") (tv:=tC (.str "")) fun a2 e2 Q2 k2=>k2 _ _ upd_same ?_)
 have n2:x≠a2:=ne_of_none x1 e2
 refine ⟨_,rfl,x,C,dx,_,rfl,by rw [upd_ne n2,upd_ne n2];exact x1,T.cl,T.n2,Nat.lt_of_sub_eq_succ rfl,?_⟩
 generalize hH2:upd _ x _ = H2
 have x2:H2 x = some (.ins C dx [("lord_of",.ref a1),("holder_of",.ref a2)]):=by rw [← hH2,upd_same];rfl
 have p2:H2 a2 = some (.dK (one0 (.str ""))):=by rw [← hH2,upd_ne (Ne.symm n2),upd_same]
 have f2:∀ c o,c≠x→H1 c = some o→H2 c = some o:=fun c o hc ho=>by rw [← hH2,upd_ne hc,upd_ne (ne_of_none ho e2),upd_ne (ne_of_none ho e2)];exact ho
 have z2:∀ c,H2 c = none→H1 c = none:=back_none x1 x2 f2
 clear hH2
 refine seq_fd (disp1 (k:="") (tv:=tVar 1) fun a3 e3 Q3 k3=>⟨_,rfl,k3 _ _ upd_same ?_⟩)
 have n3:x≠a3:=ne_of_none x2 e3
 refine ⟨_,rfl,x,C,dx,_,rfl,by rw [upd_ne n3,upd_ne n3];exact x2,T.cl,T.n3,Nat.lt_of_sub_eq_succ rfl,?_⟩
 generalize hH3:upd _ x _ = H3
 have x3:H3 x = some (.ins C dx [("lord_of",.ref a1),("holder_of",.ref a2),("own_of",.ref a3)]):=by rw [← hH3,upd_same];rfl
 have p3:H3 a3 = some (.dK (one0 (.int n))):=by rw [← hH3,upd_ne (Ne.symm n3),upd_same]
 have f3:∀ c o,c≠x→H2 c = some o→H3 c = some o:=fun c o hc ho=>by rw [← hH3,upd_ne hc,upd_ne (ne_of_none ho e3),upd_ne (ne_of_none ho e3)];exact ho
 have z3:∀ c,H3 c = none→H2 c = none:=back_none x2 x3 f3
 clear hH3
 refine seq_fd (disp1 (k:="") (tv:=tTup (tCons (tC (.int 0)) (tCons (tC (.int 1)) tNil))) fun a4 e4 Q4 k4=>⟨small (by simp),fun t ht=>k4 _ _ (by rw [upd_ne (fun q=>by rw [← q,upd_same] at ht;cases ht)];exact upd_same) ?_⟩)
 have n4:x≠a4:=ne_of_none x3 e4
 have t4:t≠a4:=fun q=>by rw [q,upd_same] at ht;cases ht
 have ht0:H3 t = none:=by rw [upd_ne t4] at ht;exact ht
 have nt:x≠t:=ne_of_none x3 ht0
 refine ⟨_,rfl,x,C,dx,_,rfl,by rw [upd_ne n4,upd_ne nt,upd_ne n4];exact x3,T.cl,T.n4,Nat.lt_of_sub_eq_succ rfl,?_⟩
 generalize hH4:upd _ x _ = H4
 have x4:H4 x = some (.ins C dx [("lord_of",.ref a1),("holder_of",.ref a2),("own_of",.ref a3),("service_of",.ref a4)]):=by rw [← hH4,upd_same];rfl
 have p4:H4 a4 = some (.dK (one0 (.ref t))):=by rw [← hH4,upd_ne (Ne.symm n4),upd_same]
 have f4:∀ c o,c≠x→H3 c = some o→H4 c = some o:=fun c o hc ho=>by rw [← hH4,upd_ne hc,upd_ne (ne_of_none ho e4),upd_ne (ne_of_none ho ht0),upd_ne (ne_of_none ho e4)];exact ho
 have pt:H4 t = some (.tup [.int 0,.int 1]):=by rw [← hH4,upd_ne (Ne.symm nt),upd_ne t4,upd_same]
 have z4:∀ c,H4 c = none→H3 c = none:=back_none x3 x4 f4
 clear hH4
 refine disp1 (k:="") (tv:=tVar 1) fun a5 e5 Q5 k5=>⟨_,rfl,k5 _ _ upd_same ?_⟩
 have n5:x≠a5:=ne_of_none x4 e5
 refine ⟨_,rfl,x,C,dx,_,rfl,by rw [upd_ne n5,upd_ne n5];exact x4,T.cl,T.n5,Nat.lt_of_sub_eq_succ rfl,?_⟩
 generalize hH5:upd _ x _ = H5
 have x5:H5 x = some (.ins C dx [("lord_of",.ref a1),("holder_of",.ref a2),("own_of",.ref a3),("service_of",.ref a4),("breadth_of",.ref a5)]):=by rw [← hH5,upd_same];rfl
 have p5:H5 a5 = some (.dK (one0 (.int n))):=by rw [← hH5,upd_ne (Ne.symm n5),upd_same]
 have f5:∀ c o,c≠x→H4 c = some o→H5 c = some o:=fun c o hc ho=>by rw [← hH5,upd_ne hc,upd_ne (ne_of_none ho e5),upd_ne (ne_of_none ho e5)];exact ho
 have z5:∀ c,H5 c = none→H4 c = none:=back_none x4 x5 f5
 clear hH5
 have q15:=f2 _ _ (Ne.symm n1) p1
 have q25:=f3 _ _ (Ne.symm n1) q15
 have q35:=f4 _ _ (Ne.symm n1) q25
 have q45:=f5 _ _ (Ne.symm n1) q35
 have r3:=f3 _ _ (Ne.symm n2) p2
 have r4:=f4 _ _ (Ne.symm n2) r3
 have r5:=f5 _ _ (Ne.symm n2) r4
 have s4:=f4 _ _ (Ne.symm n3) p3
 have s5:=f5 _ _ (Ne.symm n3) s4
 have u5:=f5 _ _ (Ne.symm n4) p4
 refine k a1 a2 a3 a4 a5 t _ (fun c o hc ho=>f5 _ _ hc (f4 _ _ hc (f3 _ _ hc (f2 _ _ hc (f1 _ _ hc ho))))) ⟨x5,q45,r5,s5,u5,p5⟩
  ⟨ne_of_none p1 e2,ne_of_none q15 e3,ne_of_none q25 e4,ne_of_none q35 e5,ne_of_none p2 e3,ne_of_none r3 e4,ne_of_none r4 e5,ne_of_none p3 e4,ne_of_none s4 e5,ne_of_none p4 e5⟩
  e1 (z1 _ e2) (z1 _ (z2 _ e3)) (z1 _ (z2 _ (z3 _ e4))) (z1 _ (z2 _ (z3 _ (z4 _ e5)))) (z1 _ (z2 _ (z3 _ ht0))) (f5 _ _ (Ne.symm nt) pt)
end
end M
namespace M
open PySem L2 PyProof.Rows
abbrev sBook:Stmt:=top 23
theorem book_body:∃ k1 x1 k2 x2 x3 k4 x4 k5 x5 x6 k7 x7 x8 x9 k10 x10 k11 x11 k12 x12 k13 x13 x14 x15 x16 x17 x18 j0 j1 j2 j3 j4 j5 j6 j7 p0 p1 p2 p3 p4 p5 p6 p7 q q',defBody sBook = [.Return (some (.Dict [some (.Constant (.str "lords") j0 p0),some (.Constant (.str "holders") j1 p1),some (.Constant (.str "own") j2 p2),some (.Constant (.str "due") j3 p3),some (.Constant (.str "known") j4 p4),some (.Constant (.str "heirs") j5 p5),some (.Constant (.str "dead") j6 p6),some (.Constant (.str "lieges") j7 p7)] [.Dict [some (.Constant (.str "") k1 x1)] [.Constant .none k2 x2] x3,.Dict [some (.Constant (.str "") k4 x4)] [.Constant (.str "") k5 x5] x6,.Dict [some (.Constant (.str "") k7 x7)] [.Name "_law_acres" x8] x9,.Dict [some (.Constant (.str "") k10 x10)] [.Tuple [.Constant (.int 0) k11 x11,.Constant (.int 1) k12 x12] k13 x13] x14,.List [] x15,.Dict [] [] x16,.List [] x17,.Dict [] [] x18] q)) q']:=⟨_,_,_,_,_,_,_,_,_,_,_,_,_,_,_,_,_,_,_,_,_,_,_,_,_,_,_,_,_,_,_,_,_,_,_,_,_,_,_,_,_,_,_,_,_,rfl⟩
set_option maxHeartbeats 8000000 in
theorem pss_book {X:Cx} (hv:∀ p,PE X (.Name "_law_acres" p) (tVar 0)):PSs X (defBody sBook) (tRet (tDisp [(tC (.str "lords"),tDisp [(tC (.str ""),tC .non)]),(tC (.str "holders"),tDisp [(tC (.str ""),tC (.str ""))]),(tC (.str "own"),tDisp [(tC (.str ""),tVar 0)]),(tC (.str "due"),tDisp [(tC (.str ""),tTup (tCons (tC (.int 0)) (tCons (tC (.int 1)) tNil)))]),(tC (.str "known"),tLst tNil),(tC (.str "heirs"),tDNewK),(tC (.str "dead"),tLst tNil),(tC (.str "lieges"),tDNewK)])):=by
 obtain ⟨k1,x1,k2,x2,x3,k4,x4,k5,x5,x6,k7,x7,x8,x9,k10,x10,k11,x11,k12,x12,k13,x13,x14,x15,x16,x17,x18,j0,j1,j2,j3,j4,j5,j6,j7,p0,p1,p2,p3,p4,p5,p6,p7,q,q',h⟩:=book_body
 rw [h]
 refine pss_one ?_
 refine ps_ret ?_
 refine pe_disp ?h ?a ?b ?c ?d
 case a=>exact rfl
 case b=>exact rfl
 case c=>exact List.cons_ne_nil _ _
 case d=>exact Nat.le_of_ble_eq_true rfl
 case h =>
  refine pps_cons (X:=X) (pe_str (X:=X)) ?_ ?_
  ·exact pe_disp1 (X:=X) (pe_str (X:=X)) (pe_non (X:=X))
  refine pps_cons (X:=X) (pe_str (X:=X)) ?_ ?_
  ·exact pe_disp1 (X:=X) (pe_str (X:=X)) (pe_str (X:=X))
  refine pps_cons (X:=X) (pe_str (X:=X)) ?_ ?_
  ·exact pe_disp1 (X:=X) (pe_str (X:=X)) (hv _)
  refine pps_cons (X:=X) (pe_str (X:=X)) ?_ ?_
  ·exact pe_disp1 (X:=X) (pe_str (X:=X)) (pe_tup (X:=X) (pa_cons (X:=X) (pe_int (X:=X)) (pa_cons (X:=X) (pe_int (X:=X)) (pa_nil (X:=X)))))
  refine pps_cons (X:=X) (pe_str (X:=X)) ?_ ?_
  ·exact pe_lst (X:=X) (pa_nil (X:=X))
  refine pps_cons (X:=X) (pe_str (X:=X)) ?_ ?_
  ·exact pe_dnewK (X:=X)
  refine pps_cons (X:=X) (pe_str (X:=X)) ?_ ?_
  ·exact pe_lst (X:=X) (pa_nil (X:=X))
  refine pps_cons (X:=X) (pe_str (X:=X)) ?_ ?_
  ·exact pe_dnewK (X:=X)
  exact pps_nil
theorem tPairs_v {a:V} {tv:TE} {r:List (TE×TE)} {σ:L2.St} {H:Hp} {Q:List (V×V)→Hp→Prop} (h:tv σ H fun y H2=>tPairs r σ H2 fun ps H3=>Q ((a,y) :: ps) H3):tPairs ((tC a,tv) :: r) σ H Q:=h
theorem tPairs_n {σ:L2.St} {H:Hp} {Q:List (V×V)→Hp→Prop} (h:Q [] H):tPairs [] σ H Q:=h
theorem tRD {D:Ends} {trs:List (TE×TE)} {σ:L2.St} {H:Hp} (h:∀ p,H p = none→tPairs trs σ (upd H p (.dK [])) fun ps H2=>H2 p = some (.dK [])∧∃ kvs:List (Key×V),ps = kvs.map (fun kv=>(kV kv.1,kv.2))∧kvs.length≤15∧D.rt (.ref p) (upd H2 p (.dK (mergeK [] kvs)))):tRet (tDisp trs) D σ H:=h
def bookKV (p1 p2 p3 p4 p5 ph pd p8:Addr):List (Key×V):=[(.inr "lords",.ref p1),(.inr "holders",.ref p2),(.inr "own",.ref p3),(.inr "due",.ref p4),(.inr "known",.ref p5),(.inr "heirs",.ref ph),(.inr "dead",.ref pd),(.inr "lieges",.ref p8)]
section
variable {p1 p2 p3 p4 p5 ph pd p8:Addr}
theorem book_pairs:[(V.str "lords",V.ref p1),(V.str "holders",V.ref p2),(V.str "own",V.ref p3),(V.str "due",V.ref p4),(V.str "known",V.ref p5),(V.str "heirs",V.ref ph),(V.str "dead",V.ref pd),(V.str "lieges",V.ref p8)] = (bookKV p1 p2 p3 p4 p5 ph pd p8).map fun kv=>(kV kv.1,kv.2):=rfl
theorem book_lords:valV (mergeK [] (bookKV p1 p2 p3 p4 p5 ph pd p8)) (.inr "lords") = some (.ref p1):=by
 unfold mergeK bookKV
 simp only [List.foldl_cons,List.foldl_nil]
 rw [valV_put,if_neg (by decide +kernel),valV_put,if_neg (by decide +kernel),valV_put,if_neg (by decide +kernel),valV_put,if_neg (by decide +kernel),valV_put,if_neg (by decide +kernel),valV_put,if_neg (by decide +kernel),valV_put,if_neg (by decide +kernel),valV_put,if_pos rfl]
theorem book_holders:valV (mergeK [] (bookKV p1 p2 p3 p4 p5 ph pd p8)) (.inr "holders") = some (.ref p2):=by
 unfold mergeK bookKV
 simp only [List.foldl_cons,List.foldl_nil]
 rw [valV_put,if_neg (by decide +kernel),valV_put,if_neg (by decide +kernel),valV_put,if_neg (by decide +kernel),valV_put,if_neg (by decide +kernel),valV_put,if_neg (by decide +kernel),valV_put,if_neg (by decide +kernel),valV_put,if_pos rfl]
theorem book_own:valV (mergeK [] (bookKV p1 p2 p3 p4 p5 ph pd p8)) (.inr "own") = some (.ref p3):=by
 unfold mergeK bookKV
 simp only [List.foldl_cons,List.foldl_nil]
 rw [valV_put,if_neg (by decide +kernel),valV_put,if_neg (by decide +kernel),valV_put,if_neg (by decide +kernel),valV_put,if_neg (by decide +kernel),valV_put,if_neg (by decide +kernel),valV_put,if_pos rfl]
theorem book_due:valV (mergeK [] (bookKV p1 p2 p3 p4 p5 ph pd p8)) (.inr "due") = some (.ref p4):=by
 unfold mergeK bookKV
 simp only [List.foldl_cons,List.foldl_nil]
 rw [valV_put,if_neg (by decide +kernel),valV_put,if_neg (by decide +kernel),valV_put,if_neg (by decide +kernel),valV_put,if_neg (by decide +kernel),valV_put,if_pos rfl]
theorem book_known:valV (mergeK [] (bookKV p1 p2 p3 p4 p5 ph pd p8)) (.inr "known") = some (.ref p5):=by
 unfold mergeK bookKV
 simp only [List.foldl_cons,List.foldl_nil]
 rw [valV_put,if_neg (by decide +kernel),valV_put,if_neg (by decide +kernel),valV_put,if_neg (by decide +kernel),valV_put,if_pos rfl]
theorem book_dead:valV (mergeK [] (bookKV p1 p2 p3 p4 p5 ph pd p8)) (.inr "dead") = some (.ref pd):=by
 unfold mergeK bookKV
 simp only [List.foldl_cons,List.foldl_nil]
 rw [valV_put,if_neg (by decide +kernel),valV_put,if_pos rfl]
theorem book_len:(mergeK [] (bookKV p1 p2 p3 p4 p5 ph pd p8)).length≤20:=Nat.le_trans (length_mergeK (bookKV p1 p2 p3 p4 p5 ph pd p8) []) (show 0 + 8≤20 by decide)
end
structure BookL (H:Hp) (B l h o d kn dd:Addr) (kvs lo ho ow du:List (Key×V)) (ks:List Str):Prop where
 b:H B = some (.dK kvs)
 vl:valV kvs (.inr "lords") = some (.ref l)
 vh:valV kvs (.inr "holders") = some (.ref h)
 vo:valV kvs (.inr "own") = some (.ref o)
 vd:valV kvs (.inr "due") = some (.ref d)
 vk:valV kvs (.inr "known") = some (.ref kn)
 vx:valV kvs (.inr "dead") = some (.ref dd)
 l:H l = some (.dK lo)
 h:H h = some (.dK ho)
 o:H o = some (.dK ow)
 d:H d = some (.dK du)
 k:H kn = some (.lst (ks.map V.str))
 x:H dd = some (.lst [])
 len:kvs.length≤20
theorem BookL.same {H H':Hp} {B l h o d kn dd:Addr} {kvs lo ho ow du:List (Key×V)} {ks:List Str} (k:BookL H B l h o d kn dd kvs lo ho ow du ks) (s:Same H H'):BookL H' B l h o d kn dd kvs lo ho ow du ks :=
 ⟨s _ _ k.b,k.vl,k.vh,k.vo,k.vd,k.vk,k.vx,s _ _ k.l,s _ _ k.h,s _ _ k.o,s _ _ k.d,s _ _ k.k,s _ _ k.x,k.len⟩
def spBook:Sp:=fun vs H Q _=>∃ n:Int,vs = [.int n]∧∀ B l h o d kn dd t kvs H',Same H H'→H B = none→H l = none→H h = none→H o = none→H d = none→H kn = none→H dd = none→H t = none →
 Ap5 B l h o d→kn≠dd→BookL H' B l h o d kn dd kvs (one0 .non) (one0 (.str "")) (one0 (.int n)) (one0 (.ref t)) []→Fr2 H' t 0 1→Q (.ref B) H'
section
variable {P:Program} {w:World} {K:PySem.W.Frag} {mg:Str→Option Value} {base:Heap} {f:Addr} {fd:FuncData}
theorem scBook:FnScope ["_law_acres"] ["_law_acres"] (defScope sBook):=⟨rfl,rfl,rfl,by decide +kernel,rfl,by decide +kernel,by decide +kernel⟩
set_option maxHeartbeats 8000000 in
theorem ok_book (F:Fun K "_law_book" "_law_book" sBook f fd):FnOk P w K mg base CX0 1 f fd ["_law_acres"] spBook:=by
 refine F.ok scBook (fun vs H Q E h=>?_) (fun cdv A outer s H vs Q E hr h=>?_)
 ·obtain ⟨n,rfl,_⟩:=h
  rfl
 obtain ⟨n,rfl,k⟩:=h
 refine ⟨tRet (tDisp _),@pss_book _ ?hv,?y⟩
 case hv=>exact fun p=>pv 0
 refine tRD fun B hB=>?_
 have sB:Same H (upd H B (.dK [])):=same_new hB _
 have kB:(upd H B (.dK [])) B = some (.dK []):=upd_same
 generalize upd H B (.dK []) = H0 at sB kB ⊢
 refine tPairs_v (disp1 (k:="") (tv:=tC .non) fun p1 e1 Q1 k1=>k1 _ _ upd_same ?_)
 generalize hH1:upd _ p1 (.dK [(.inr "",_)]) = H1
 have s1:Same H0 H1:=fun c u q=>by rw [← hH1,upd_ne (ne_of_none q e1),upd_ne (ne_of_none q e1)];exact q
 have c1:H1 p1 = some (.dK (one0 .non)):=by rw [← hH1,upd_same]
 clear hH1
 refine tPairs_v (disp1 (k:="") (tv:=tC (.str "")) fun p2 e2 Q2 k2=>k2 _ _ upd_same ?_)
 generalize hH2:upd _ p2 (.dK [(.inr "",_)]) = H2
 have s2:Same H1 H2:=fun c u q=>by rw [← hH2,upd_ne (ne_of_none q e2),upd_ne (ne_of_none q e2)];exact q
 have c2:H2 p2 = some (.dK (one0 (.str ""))):=by rw [← hH2,upd_same]
 clear hH2
 refine tPairs_v (disp1 (k:="") (tv:=tVar 0) fun p3 e3 Q3 k3=>⟨_,rfl,k3 _ _ upd_same ?_⟩)
 generalize hH3:upd _ p3 (.dK [(.inr "",_)]) = H3
 have s3:Same H2 H3:=fun c u q=>by rw [← hH3,upd_ne (ne_of_none q e3),upd_ne (ne_of_none q e3)];exact q
 have c3:H3 p3 = some (.dK (one0 (.int n))):=by rw [← hH3,upd_same]
 clear hH3
 refine tPairs_v (disp1 (k:="") (tv:=tTup (tCons (tC (.int 0)) (tCons (tC (.int 1)) tNil))) fun p4 e4 Q4 k4=>⟨small (by simp),fun t ht=>k4 _ _ (by rw [upd_ne (fun q=>by rw [← q,upd_same] at ht;cases ht)];exact upd_same) ?_⟩)
 have t4:t≠p4:=fun q=>by rw [q,upd_same] at ht;cases ht
 have ht0:H3 t = none:=by rw [upd_ne t4] at ht;exact ht
 generalize hH4:upd _ p4 (.dK [(.inr "",_)]) = H4
 have s4:Same H3 H4:=fun c u q=>by rw [← hH4,upd_ne (ne_of_none q e4),upd_ne (ne_of_none q ht0),upd_ne (ne_of_none q e4)];exact q
 have pt:H4 t = some (.tup [.int 0,.int 1]):=by rw [← hH4,upd_ne t4,upd_same]
 have c4:H4 p4 = some (.dK (one0 (.ref t))):=by rw [← hH4,upd_same]
 clear hH4
 refine tPairs_v ⟨small (by simp),fun p5 e5=>?_⟩
 have s5:=same_new e5 (.lst [])
 have c5:(upd H4 p5 (.lst [])) p5 = some (.lst []):=upd_same
 generalize upd H4 p5 (.lst []) = H5 at s5 c5 ⊢
 refine tPairs_v fun ph eh=>?_
 have s6:=same_new eh (.dK [])
 generalize upd H5 ph (.dK []) = H6 at s6 ⊢
 refine tPairs_v ⟨small (by simp),fun pd ed=>?_⟩
 have s7:=same_new ed (.lst [])
 have c7:(upd H6 pd (.lst [])) pd = some (.lst []):=upd_same
 generalize upd H6 pd (.lst []) = H7 at s7 c7 ⊢
 refine tPairs_v fun p8 e8=>tPairs_n ?_
 have s8:=same_new e8 (.dK [])
 generalize upd H7 p8 (.dK []) = H8 at s8 ⊢
 have w01:=sB.trans s1
 have w02:=w01.trans s2
 have w03:=w02.trans s3
 have w04:=w03.trans s4
 have w06:=(w04.trans s5).trans s6
 have w78:=s7.trans s8
 have w58:=(s5.trans s6).trans w78
 have w48:=s4.trans w58
 have w38:=s3.trans w48
 have w28:=s2.trans w38
 have w08:=sB.trans (s1.trans w28)
 have kB1:=s1 _ _ kB
 have kB2:=s2 _ _ kB1
 have kB3:=s3 _ _ kB2
 have kB8:=w48 _ _ kB3
 have n1:=ne_of_none kB e1
 have n2:=ne_of_none kB1 e2
 have n3:=ne_of_none kB2 e3
 have n4:=ne_of_none kB3 e4
 have out:∀ c u,c≠B→H8 c = some u→(upd H8 B (.dK (mergeK [] (bookKV p1 p2 p3 p4 p5 ph pd p8)))) c = some u:=fun c u hc q=>by rw [upd_ne hc];exact q
 refine ⟨kB8,bookKV p1 p2 p3 p4 p5 ph pd p8,book_pairs,Nat.le_of_ble_eq_true rfl,?_⟩
 have d5:=((s6.trans w78)) _ _ c5
 have d7:=s8 _ _ c7
 have d1:=w28 _ _ c1
 have d2:=w38 _ _ c2
 have d3:=w48 _ _ c3
 have d4:=w58 _ _ c4
 have dt:=w58 _ _ pt
 refine k B p1 p2 p3 p4 p5 pd t _ _ (same_upd w08 hB) hB (sB.free e1) (w01.free e2) (w02.free e3) (w03.free e4) (w04.free e5) (w06.free ed) (w03.free ht0)
  ⟨n1,n2,n3,n4,ne_of_none c1 e2,ne_of_none (s2 _ _ c1) e3,ne_of_none (s3 _ _ (s2 _ _ c1)) e4,ne_of_none c2 e3,ne_of_none (s3 _ _ c2) e4,ne_of_none c3 e4⟩
  (ne_of_none (s6 _ _ c5) ed)
  ⟨upd_same,book_lords,book_holders,book_own,book_due,book_known,book_dead,out _ _ (Ne.symm n1) d1,out _ _ (Ne.symm n2) d2,out _ _ (Ne.symm n3) d3,out _ _ (Ne.symm n4) d4,out _ _ (ne_of d5 kB8 (by intro q;cases q)) d5,out _ _ (ne_of d7 kB8 (by intro q;cases q)) d7,book_len⟩
  (out _ _ (ne_of dt kB8 (by intro q;cases q)) dt)
end
end M
namespace M
open PySem L2
structure Est where
 n:Str
 lord:Option Str
 man:Str
 own:Int
 br:Int
 due:Int×Int
 ta:Addr
 tb:Addr
def lordV:Option Str→V
 | none=>.non
 | some p=>.str p
theorem lordV_str {o:Option Str} {p:Str}:lordV o = .str p ↔ o = some p:=by
 cases o with
 | none=>exact ⟨fun h=>(by cases h),fun h=>(by cases h)⟩
 | some q=>exact ⟨fun h=>(by injection h with e;rw [e]),fun h=>(by injection h with e;rw [e];rfl)⟩
abbrev kv (f:Est→V) (es:List Est):List (Key×V):=es.map fun e=>(Sum.inr e.n,f e)
abbrev nms (es:List Est):List Str:=es.map (·.n)
abbrev loL (es:List Est):=kv (fun e=>lordV e.lord) es
abbrev hoL (es:List Est):=kv (fun e=>V.str e.man) es
abbrev owL (es:List Est):=kv (fun e=>V.int e.own) es
abbrev brL (es:List Est):=kv (fun e=>V.int e.br) es
abbrev seL (es:List Est):=kv (fun e=>V.ref e.ta) es
abbrev duL (es:List Est):=kv (fun e=>V.ref e.tb) es
theorem key_eq {a b:Str}:(Sum.inr a:Key) = .inr b ↔ a = b:=⟨fun h=>by injection h,fun h=>by rw [h]⟩
theorem val_none {f:Est→V} {n:Str}:∀ {es:List Est},n ∉ nms es→valV (kv f es) (.inr n) = none
 | [],_=>rfl
 | x :: r,h=>by
  have h1:x.n≠n:=fun q=>h (by rw [← q];exact List.mem_cons_self)
  show valV ((Sum.inr x.n,f x) :: kv f r) _ = none
  rw [valV_neg (fun q=>h1 (key_eq.mp q))]
  exact val_none fun q=>h (List.mem_cons_of_mem _ q)
theorem val_kv {f:Est→V} {e:Est}:∀ {es:List Est},(nms es).Nodup→e∈es→valV (kv f es) (.inr e.n) = some (f e)
 | [],_,h=>by cases h
 | x :: r,nd,h=>by
  show valV ((Sum.inr x.n,f x) :: kv f r) _ = _
  have nd':=List.nodup_cons.mp nd
  rcases List.mem_cons.mp h with q | q
  ·subst q;exact valV_pos rfl
  ·have ne:x.n≠e.n:=fun z=>nd'.1 (by show x.n∈nms r;rw [z];exact List.mem_map.mpr ⟨e,q,rfl⟩)
   rw [valV_neg (fun z=>ne (key_eq.mp z))]
   exact val_kv nd'.2 q
theorem mem_nms {es:List Est} {n:Str} (h:n∈nms es):∃ e∈es,e.n = n:=by
 obtain ⟨e,he,q⟩:=List.mem_map.mp h
 exact ⟨e,he,q⟩
theorem val_some {f:Est→V} {es:List Est} (n:Str):(valV (kv f es) (.inr n)).isSome = decide (n∈nms es):=by
 by_cases h:n∈nms es
 ·rw [decide_eq_true h]
  induction es with
  | nil=>cases h
  | cons x r ih =>
   show (valV ((Sum.inr x.n,f x) :: kv f r) _).isSome = true
   by_cases q:x.n = n
   ·rw [valV_pos (key_eq.mpr q)];rfl
   ·rw [valV_neg (fun z=>q (key_eq.mp z))]
    refine ih ?_
    rcases List.mem_cons.mp h with z | z
    ·exact absurd z.symm q
    ·exact z
 ·rw [decide_eq_false h,val_none h];rfl
theorem kv_congr {f g:Est→V} {es:List Est} (h:∀ e∈es,f e = g e):kv f es = kv g es:=List.map_congr_left fun e he=>by rw [h e he]
theorem kv_any {f:Est→V} {n:Str} (es:List Est):((kv f es).any fun x=>decide (x.1 = Sum.inr n)) = decide (n∈nms es):=by rw [valV_any,val_some]
theorem put_in {f:Est→V} {es:List Est} {n:Str} {v:V} (h:n∈nms es):putK (kv f es) (.inr n) v = kv (fun e=>if e.n = n then v else f e) es:=by
 unfold putK
 rw [kv_any,decide_eq_true h,if_pos rfl]
 show (es.map _).map _ = _
 rw [List.map_map]
 refine List.map_congr_left fun e _=>?_
 show (if (Sum.inr e.n:Key) = .inr n then (Sum.inr e.n,v) else (Sum.inr e.n,f e)) = (Sum.inr e.n,if e.n = n then v else f e)
 by_cases q:e.n = n
 ·rw [if_pos (key_eq.mpr q),if_pos q]
 ·rw [if_neg (fun z=>q (key_eq.mp z)),if_neg q]
theorem put_new {f:Est→V} {es:List Est} {n:Str} {v:V} (h:n ∉ nms es):putK (kv f es) (.inr n) v = kv f es++[(.inr n,v)]:=putK_new v (val_none h)
theorem drop_kv {f:Est→V} {es:List Est} {n:Str}:dropK (kv f es) (.inr n) = kv f (es.filter fun e=>decide (e.n≠n)):=by
 unfold dropK
 rw [List.filter_map]
 congr 1
 refine List.filter_congr fun e _=>?_
 show decide ((Sum.inr e.n:Key)≠.inr n) = decide (e.n≠n)
 exact decide_eq_decide.mpr ⟨fun h q=>h (key_eq.mpr q),fun h q=>h (key_eq.mp q)⟩
theorem kv_map {f:Est→V} {g:Est→Est} {es:List Est} (hg:∀ e,(g e).n = e.n):kv f (es.map g) = kv (fun e=>f (g e)) es:=by
 show (es.map g).map _ = _
 rw [List.map_map]
 refine List.map_congr_left fun e _=>?_
 show (Sum.inr (g e).n,f (g e)) = _
 rw [hg]
theorem kv_app {f:Est→V} {es:List Est} {x:Est}:kv f (es++[x]) = kv f es++[(.inr x.n,f x)]:=List.map_append
theorem kv_len {f:Est→V} {es:List Est}:(kv f es).length = es.length:=List.length_map _
theorem moved_kv {f:Est→V} {es:List Est} {p:Str}:∀ (ss:List Str) ,(∀ s∈ss,s∈nms es)→moved (kv f es) ss p = kv (fun e=>if e.n∈ss then V.str p else f e) es:=by
 intro ss
 unfold moved
 induction ss generalizing f with
 | nil=>intro _;exact kv_congr fun e _=>by rw [if_neg (by simp)]
 | cons s r ih =>
  intro h
  rw [List.foldl_cons,put_in (h s List.mem_cons_self),ih fun x hx=>h x (List.mem_cons_of_mem _ hx)]
  refine kv_congr fun e _=>?_
  by_cases q:e.n∈r
  ·rw [if_pos q,if_pos (List.mem_cons_of_mem _ q)]
  ·rw [if_neg q]
   by_cases z:e.n = s
   ·rw [if_pos z,if_pos (by rw [z];exact List.mem_cons_self)]
   ·rw [if_neg z,if_neg]
    intro c
    rcases List.mem_cons.mp c with y | y
    ·exact z y
    ·exact q y
theorem kstr_kv {f:Est→V} (p:Key×V→Bool) (es:List Est):((kv f es).filter p).map kstr = (es.filter fun e=>p (.inr e.n,f e)).map (·.n):=by
 rw [List.filter_map,List.map_map]
 rfl
theorem tk_kv {f:Est→V} {es:List Est}:TK (kv f es):=fun x hx=>by
 obtain ⟨e,he,rfl⟩:=List.mem_map.mp hx
 rfl
theorem tv_lo {es:List Est}:TV (loL es):=fun x hx=>by
 obtain ⟨e,he,rfl⟩:=List.mem_map.mp hx
 show lordV e.lord = .non∨∃ s,lordV e.lord = .str s
 cases e.lord with
 | none=>exact .inl rfl
 | some p=>exact .inr ⟨p,rfl⟩
theorem tv_ho {es:List Est}:TV (hoL es):=fun x hx=>by
 obtain ⟨e,he,rfl⟩:=List.mem_map.mp hx
 exact .inr ⟨_,rfl⟩
def Ord:List Str→List Est→Prop
 | _,[]=>True
 | seen,e :: r=>(∃ p,e.lord = some p∧p∈seen)∧Ord (e.n :: seen) r
theorem Ord.snoc:∀ {r:List Est} {s:List Str} {x:Est} {p:Str},Ord s r→x.lord = some p→(p∈s∨p∈nms r)→Ord s (r++[x])
 | [],s,x,p,_,hx,h=>⟨⟨p,hx,h.elim id fun q=>by cases q⟩,True.intro⟩
 | e :: r,s,x,p,⟨h1,h2⟩,hx,h=>⟨h1,Ord.snoc (r:=r) h2 hx (by
   rcases h with q | q
   ·exact .inl (List.mem_cons_of_mem _ q)
   ·rcases List.mem_cons.mp q with z | z
    ·exact .inl (by rw [z];exact List.mem_cons_self)
    ·exact .inr z)⟩
theorem Ord.map {g:Est→Est} (h1:∀ e,(g e).n = e.n) (h2:∀ e,(g e).lord = e.lord):∀ {r:List Est} {s:List Str},Ord s r→Ord s (r.map g)
 | [],_,_=>True.intro
 | e :: r,s,⟨⟨p,hp,hs⟩,ho⟩=>⟨⟨p,by rw [h2,hp],hs⟩,by rw [h1];exact Ord.map h1 h2 ho⟩
theorem Ord.lord:∀ {r:List Est} {s:List Str},Ord s r→∀ e∈r,∃ p,e.lord = some p∧(p∈s∨p∈nms r)
 | e :: r,s,⟨⟨p,hp,hs⟩,ho⟩,x,hx=>by
  rcases List.mem_cons.mp hx with q | q
  ·subst q;exact ⟨p,hp,.inl hs⟩
  ·obtain ⟨p',h1,h2⟩:=Ord.lord ho x q
   refine ⟨p',h1,?_⟩
   rcases h2 with z | z
   ·rcases List.mem_cons.mp z with y | y
    ·exact .inr (by rw [y];exact List.mem_cons_self)
    ·exact .inl y
   ·exact .inr (List.mem_cons_of_mem _ z)
def fal (e p:Str) (a:Int) (y:Est):Est:={ y with lord:=if y.lord = some e then some p else y.lord,own:=if y.n = p then y.own + a else y.own }
theorem Ord.fall {e p:Str} {a:Int}:∀ {r:List Est} {s t:List Str},Ord s r→(∀ x∈r,x.n = e→x.lord = some p)→(∀ x∈s,x≠e→x∈t)→(e∈s→p∈t)→p≠e→Ord t ((r.filter fun y=>decide (y.n≠e)).map (fal e p a))
 | [],_,_,_,_,_,_,_=>True.intro
 | y :: r,s,t,⟨⟨q,hq,hs⟩,ho⟩,hl,h1,h2,hp=>by
  have tl:∀ x∈r,x.n = e→x.lord = some p:=fun x hx=>hl x (List.mem_cons_of_mem _ hx)
  by_cases c:y.n = e
  ·rw [List.filter_cons_of_neg (by simpa using c)]
   have hy:=hl y List.mem_cons_self c
   refine Ord.fall (s:=y.n :: s) (t:=t) ho tl (fun x hx hne=>?_) (fun _=>?_) hp
   ·rcases List.mem_cons.mp hx with z | z
    ·exact absurd (z.trans c) hne
    ·exact h1 x z hne
   ·rw [hq] at hy
    injection hy with hy
    exact h1 p (hy ▸ hs) hp
  ·rw [List.filter_cons_of_pos (by simpa using c),List.map_cons]
   refine ⟨?_,Ord.fall (s:=y.n :: s) (t:=y.n :: t) ho tl (fun x hx hne=>?_) (fun hx=>?_) hp⟩
   ·show ∃ p',(if y.lord = some e then some p else y.lord) = some p'∧p'∈t
    by_cases z:y.lord = some e
    ·rw [hq] at z
     injection z with z
     exact ⟨p,by rw [if_pos (by rw [hq,z])],h2 (z ▸ hs)⟩
    ·have:q≠e:=fun w=>z (by rw [hq,w])
     exact ⟨q,by rw [if_neg z,hq],h1 q hs this⟩
   ·rcases List.mem_cons.mp hx with z | z
    ·rw [z];exact List.mem_cons_self
    ·exact List.mem_cons_of_mem _ (h1 x z hne)
   ·rcases List.mem_cons.mp hx with z | z
    ·exact absurd z.symm c
    ·exact List.mem_cons_of_mem _ (h2 z)
end M
namespace M
open PySem L2
theorem sum_same {F G:Est→Int} {es:List Est} (h:∀ y∈es,G y = F y):(es.map G).sum = (es.map F).sum:=by rw [List.map_congr_left h]
theorem sum_one {F G:Est→Int} {e0:Est}:∀ {es:List Est},(nms es).Nodup→e0∈es→(∀ y∈es,y.n≠e0.n→G y = F y)→(es.map G).sum = (es.map F).sum - F e0 + G e0
 | [],_,h,_=>by cases h
 | x :: r,nd,h,hg=>by
  have nd':=List.nodup_cons.mp nd
  simp only [List.map_cons,List.sum_cons]
  rcases List.mem_cons.mp h with q | q
  ·subst q
   rw [sum_same (F:=F) (G:=G) (es:=r) fun y hy=>hg y (List.mem_cons_of_mem _ hy) fun z=>nd'.1 (show e0.n∈nms r by rw [← z];exact List.mem_map.mpr ⟨y,hy,rfl⟩)]
   omega
  ·have ne:x.n≠e0.n:=fun z=>nd'.1 (show x.n∈nms r by rw [z];exact List.mem_map.mpr ⟨e0,q,rfl⟩)
   rw [hg x List.mem_cons_self ne,sum_one nd'.2 q fun y hy=>hg y (List.mem_cons_of_mem _ hy)]
   omega
theorem sum_drop {F:Est→Int} {e0:Est}:∀ {es:List Est},(nms es).Nodup→e0∈es→((es.filter fun y=>decide (y.n≠e0.n)).map F).sum = (es.map F).sum - F e0
 | [],_,h=>by cases h
 | x :: r,nd,h=>by
  have nd':=List.nodup_cons.mp nd
  rcases List.mem_cons.mp h with q | q
  ·subst q
   have:(r.filter fun y=>decide (y.n≠e0.n)) = r:=List.filter_eq_self.mpr fun y hy=>by
    refine decide_eq_true fun z=>nd'.1 (show e0.n∈nms r by rw [← z];exact List.mem_map.mpr ⟨y,hy,rfl⟩)
   rw [List.filter_cons_of_neg (by simp),this,List.map_cons,List.sum_cons]
   omega
  ·have ne:x.n≠e0.n:=fun z=>nd'.1 (show x.n∈nms r by rw [z];exact List.mem_map.mpr ⟨e0,q,rfl⟩)
   rw [List.filter_cons_of_pos (by simpa using ne),List.map_cons,List.map_cons,List.sum_cons,List.sum_cons,sum_drop nd'.2 q]
   omega
theorem sum_add {F G:Est→Int}:∀ (es:List Est),(es.map fun y=>F y + G y).sum = (es.map F).sum + (es.map G).sum
 | []=>rfl
 | x :: r=>by simp only [List.map_cons,List.sum_cons,sum_add r];omega
theorem sum_zero {F:Est→Int}:∀ {es:List Est},(∀ y∈es,F y = 0)→(es.map F).sum = 0
 | [],_=>rfl
 | x :: r,h=>by rw [List.map_cons,List.sum_cons,h x List.mem_cons_self,sum_zero fun y hy=>h y (List.mem_cons_of_mem _ hy)];rfl
theorem sum_nn {F:Est→Int}:∀ {es:List Est},(∀ y∈es,0≤F y)→0≤(es.map F).sum
 | [],_=>Int.le_refl _
 | x :: r,h=>by
  rw [List.map_cons,List.sum_cons]
  have h1:=h x List.mem_cons_self
  have h2:=sum_nn (F:=F) (es:=r) fun y hy=>h y (List.mem_cons_of_mem _ hy)
  omega
def Sb (es:List Est) (q:Str):Int:=(es.map fun y=>if y.lord = some q then y.br else 0).sum
structure WF (es:List Est):Prop where
 nd:(nms es).Nodup
 hd:∃ c r,es = c :: r∧c.n = ""∧c.lord = none∧Ord [""] r
 bnd:∀ e∈es,0≤e.own∧0≤e.br∧e.br≤9999
 br:∀ e∈es,e.br = e.own + Sb es e.n
 ok:∀ e∈es,PyData.strOk e.n = true
theorem WF.lord {es:List Est} (W:WF es):∀ e∈es,e.n≠""→∃ p,e.lord = some p∧p∈nms es∧p≠e.n:=by
 obtain ⟨c,r,rfl,hc,hl,ho⟩:=W.hd
 intro e he hne
 rcases List.mem_cons.mp he with q | q
 ·rw [q] at hne;exact absurd hc hne
 ·obtain ⟨p,hp,hm⟩:=ho.lord e q
  refine ⟨p,hp,?_,?_⟩
  ·rcases hm with z | z
   ·rw [List.mem_singleton.mp z,← hc];exact List.mem_cons_self
   ·exact List.mem_cons_of_mem _ z
  ·-- not its own lord
   have key:∀ {r:List Est} {s:List Str},Ord s r→(nms r).Nodup→(∀ x∈s,x ∉ nms r)→∀ e∈r,e.lord≠some e.n:=by
    intro r
    induction r with
    | nil=>intro s _ _ _ e he;cases he
    | cons y r ih =>
     rintro s ⟨⟨p,hp,hs⟩,ho⟩ nd hx e he
     have nd':=List.nodup_cons.mp nd
     rcases List.mem_cons.mp he with q | q
     ·rw [q,hp]
      intro z
      injection z with z
      exact hx p hs (by rw [z];exact List.mem_cons_self)
     ·refine ih ho nd'.2 (fun x hxs=>?_) e q
      rcases List.mem_cons.mp hxs with z | z
      ·rw [z];exact nd'.1
      ·exact fun w=>hx x z (List.mem_cons_of_mem _ w)
   have nd':=List.nodup_cons.mp W.nd
   have:=key ho nd'.2 (fun x hx=>by rw [List.mem_singleton.mp hx,← hc];exact nd'.1) e q
   intro z
   exact this (by rw [hp,z])
theorem WF.crown {es:List Est} (W:WF es):∀ e∈es,e.n = ""→e.lord = none:=by
 obtain ⟨c,r,rfl,hc,hl,ho⟩:=W.hd
 intro e he h
 have nd':=List.nodup_cons.mp W.nd
 rcases List.mem_cons.mp he with q | q
 ·rw [q];exact hl
 ·exact absurd (show c.n∈nms r by rw [hc,← h];exact List.mem_map.mpr ⟨e,q,rfl⟩) nd'.1
theorem WF.mem0 {es:List Est} (W:WF es):("" : Str)∈nms es:=by
 obtain ⟨c,r,rfl,hc,_⟩:=W.hd
 rw [← hc];exact List.mem_cons_self
theorem WF.nolord {es:List Est} (W:WF es) {n:Str} (h:n ∉ nms es):∀ y∈es,y.lord≠some n:=fun y hy q=>by
 by_cases c:y.n = ""
 ·rw [W.crown y hy c] at q;cases q
 ·obtain ⟨p,hp,hm,_⟩:=W.lord y hy c
  rw [hp] at q
  injection q with q
  exact h (q ▸ hm)
theorem WF.sb0 {es:List Est} (W:WF es) {n:Str} (h:n ∉ nms es):Sb es n = 0:=sum_zero fun y hy=>if_neg (W.nolord h y hy)
theorem WF.sbn {es:List Est} (W:WF es) (q:Str):0≤Sb es q:=sum_nn fun y hy=>by
 split
 ·exact (W.bnd y hy).2.1
 ·exact Int.le_refl _
theorem WF.own_le {es:List Est} (W:WF es):∀ e∈es,e.own≤e.br:=fun e he=>by
 have h1:=W.br e he
 have h2:=W.sbn e.n
 omega
def mod (n:Str) (g:Est→Est) (es:List Est):List Est:=es.map fun y=>if y.n = n then g y else y
theorem nms_mod {n:Str} {g:Est→Est} (hg:∀ e,(g e).n = e.n) (es:List Est):nms (mod n g es) = nms es:=by
 unfold mod
 show (es.map _).map _ = _
 rw [List.map_map]
 refine List.map_congr_left fun e _=>?_
 show (if e.n = n then g e else e).n = e.n
 split
 ·exact hg e
 ·rfl
theorem mem_mod {n:Str} {g:Est→Est} {es:List Est} {y:Est} (h:y∈mod n g es):∃ y0∈es,y = if y0.n = n then g y0 else y0:=by
 obtain ⟨y0,h0,q⟩:=List.mem_map.mp h
 exact ⟨y0,h0,q.symm⟩
theorem kv_mod {f:Est→V} {n:Str} {g:Est→Est} (hg:∀ e,(g e).n = e.n) (es:List Est):kv f (mod n g es) = kv (fun e=>if e.n = n then f (g e) else f e) es:=by
 unfold mod
 rw [kv_map (g:=fun y=>if y.n = n then g y else y) (fun e=>by split;exact hg e;rfl)]
 exact kv_congr fun e _=>by split <;> rfl
theorem kv_same {f:Est→V} {n:Str} {g:Est→Est} (hg:∀ e,(g e).n = e.n) (hf:∀ e,f (g e) = f e) (es:List Est):kv f (mod n g es) = kv f es:=by
 rw [kv_mod hg]
 exact kv_congr fun e _=>by split;exact hf e;rfl
theorem hd_mod {n:Str} {g:Est→Est} (hg:∀ e,(g e).n = e.n) (hl:∀ e,(g e).lord = e.lord) {es:List Est} (h:∃ c r,es = c :: r∧c.n = ""∧c.lord = none∧Ord [""] r):∃ c r,mod n g es = c :: r∧c.n = ""∧c.lord = none∧Ord [""] r:=by
 obtain ⟨c,r,rfl,hc,hcl,ho⟩:=h
 refine ⟨_,_,rfl,?_,?_,Ord.map (fun e=>?_) (fun e=>?_) ho⟩
 ·show (if c.n = n then g c else c).n = ""
  split
  ·rw [hg,hc]
  ·exact hc
 ·show (if c.n = n then g c else c).lord = none
  split
  ·rw [hl,hcl]
  ·exact hcl
 ·show (if e.n = n then g e else e).n = e.n
  split
  ·exact hg e
  ·rfl
 ·show (if e.n = n then g e else e).lord = e.lord
  split
  ·exact hl e
  ·rfl
theorem sb_mod {n:Str} {g:Est→Est} (hl:∀ e,(g e).lord = e.lord) {es:List Est} {e0:Est} (nd:(nms es).Nodup) (h0:e0∈es) (hn:e0.n = n) (q:Str):Sb (mod n g es) q = Sb es q + (if e0.lord = some q then (g e0).br - e0.br else 0):=by
 unfold Sb mod
 rw [List.map_map]
 rw [sum_one (F:=fun y=>if y.lord = some q then y.br else 0) (e0:=e0) nd h0 (fun y hy ne=>?_)]
 ·show _ - (if e0.lord = some q then e0.br else 0) + (if (if e0.n = n then g e0 else e0).lord = some q then (if e0.n = n then g e0 else e0).br else 0) = _
  rw [if_pos hn,hl]
  by_cases c:e0.lord = some q
  ·rw [if_pos c,if_pos c,if_pos c];omega
  ·rw [if_neg c,if_neg c,if_neg c];omega
 ·show (if (if y.n = n then g y else y).lord = some q then (if y.n = n then g y else y).br else 0) = _
  have c:¬ y.n = n:=by rw [← hn];exact ne
  rw [if_neg c]
theorem sb_app (es:List Est) (x:Est) (q:Str):Sb (es++[x]) q = Sb es q + (if x.lord = some q then x.br else 0):=by
 unfold Sb
 rw [List.map_append,List.sum_append]
 simp
theorem eq_of_n {es:List Est} (nd:(nms es).Nodup) {a b:Est} (ha:a∈es) (hb:b∈es) (h:a.n = b.n):a = b:=by
 induction es with
 | nil=>cases ha
 | cons x r ih =>
  have nd':=List.nodup_cons.mp nd
  rcases List.mem_cons.mp ha with p | p <;> rcases List.mem_cons.mp hb with q | q
  ·rw [p,q]
  ·exact absurd (show x.n∈nms r by rw [← p,h];exact List.mem_map.mpr ⟨b,q,rfl⟩) nd'.1
  ·exact absurd (show x.n∈nms r by rw [← q,← h];exact List.mem_map.mpr ⟨a,p,rfl⟩) nd'.1
  ·exact ih nd'.2 p q
theorem WF.new {es:List Est} (W:WF es) {e0 x:Est} {g:Est→Est} {a:Int} (h0:e0∈es) (hg:∀ e,(g e).n = e.n) (hl:∀ e,(g e).lord = e.lord) (ho:(g e0).own = e0.own - a) (ha:0≤a) (hb:a≤e0.own) (hx:x.n ∉ nms es) (hok:PyData.strOk x.n = true) (ho2:x.own = a) (hb2:x.br = a)
  (way:(x.lord = some e0.n∧(g e0).br = e0.br)∨(x.lord = e0.lord∧e0.n≠""∧(g e0).br = e0.br - a)):WF (mod e0.n g es++[x]):=by
 have onm:nms (mod e0.n g es++[x]) = nms es++[x.n]:=by
  show (mod e0.n g es++[x]).map _ = _
  rw [List.map_append]
  have:=nms_mod (n:=e0.n) hg es
  show nms (mod e0.n g es)++_ = _
  rw [this];rfl
 have b0:=W.bnd e0 h0
 have ow:=W.own_le e0 h0
 have sbs:∀ q,Sb (mod e0.n g es++[x]) q = Sb es q + (if q = e0.n then e0.own - (g e0).own + ((g e0).br - e0.br) else 0):=by
  intro q
  rw [sb_app,sb_mod hl W.nd h0 rfl]
  rcases way with ⟨w1,w2⟩ | ⟨w1,w0,w2⟩
  ·have z0:(if e0.lord = some q then (g e0).br - e0.br else 0) = (0:Int):=by rw [w2];split <;> omega
   rw [z0,w1,w2,hb2,ho]
   by_cases c:q = e0.n
   ·subst c
    rw [if_pos rfl,if_pos rfl]
    omega
   ·rw [if_neg c,if_neg (fun z=>c (by injection z with z;exact z.symm))]
    omega
  ·rw [w1,w2,hb2,ho]
   split
   ·split <;> omega
   ·split <;> omega
 refine ⟨?_,?_,?_,?_,fun e he=>?_⟩
 rotate_right
 ·rcases List.mem_append.mp he with q | q
  ·obtain ⟨y,hy,rfl⟩:=mem_mod q
   split
   ·rw [hg];exact W.ok y hy
   ·exact W.ok y hy
  ·rw [List.mem_singleton.mp q];exact hok
 ·rw [onm,List.nodup_append]
  refine ⟨W.nd,by simp,fun u hu v hv=>?_⟩
  rw [List.mem_singleton.mp hv]
  exact fun z=>hx (z ▸ hu)
 ·obtain ⟨c,r,e1,e2,e3,e4⟩:=hd_mod (n:=e0.n) hg hl W.hd
  rw [e1]
  have hp:∃ p,x.lord = some p∧p∈nms es:=by
   rcases way with ⟨w1,_⟩ | ⟨w1,w0,_⟩
   ·exact ⟨_,w1,List.mem_map.mpr ⟨e0,h0,rfl⟩⟩
   ·obtain ⟨p,hp,hm,_⟩:=W.lord e0 h0 w0
    exact ⟨p,w1.trans hp,hm⟩
  obtain ⟨p,hp,hm⟩:=hp
  refine ⟨c,r++[x],rfl,e2,e3,Ord.snoc e4 hp ?_⟩
  have hm':p∈nms (mod e0.n g es):=by rw [nms_mod hg];exact hm
  rw [e1] at hm'
  rcases List.mem_cons.mp hm' with z | z
  ·exact .inl (by rw [z];show c.n∈([""]:List Str);rw [e2];exact List.mem_singleton.mpr rfl)
  ·exact .inr z
 ·intro e he
  rcases List.mem_append.mp he with q | q
  ·obtain ⟨y,hy,rfl⟩:=mem_mod q
   have by_:=W.bnd y hy
   split
   ·rename_i c
    obtain rfl:=eq_of_n W.nd hy h0 c
    rw [ho]
    rcases way with ⟨_,w2⟩ | ⟨_,_,w2⟩ <;> rw [w2] <;> omega
   ·exact by_
  ·rw [List.mem_singleton.mp q,ho2,hb2]
   omega
 ·intro e he
  rcases List.mem_append.mp he with q | q
  ·obtain ⟨y,hy,rfl⟩:=mem_mod q
   have hbr:=W.br y hy
   split
   ·rename_i c
    obtain rfl:=eq_of_n W.nd hy h0 c
    rw [hg,sbs,if_pos rfl]
    omega
   ·rename_i c
    rw [sbs,if_neg c]
    omega
  ·rw [List.mem_singleton.mp q,ho2,hb2,sbs,W.sb0 hx,if_neg (fun z=>hx (by rw [z];exact List.mem_map.mpr ⟨e0,h0,rfl⟩))]
   omega
theorem WF.mod {es:List Est} (W:WF es) {n:Str} {g:Est→Est} (hg:∀ e,(g e).n = e.n) (hl:∀ e,(g e).lord = e.lord) (ho:∀ e,(g e).own = e.own) (hb:∀ e,(g e).br = e.br):WF (mod n g es):=by
 have sbs:∀ q,Sb (M.mod n g es) q = Sb es q:=by
  intro q
  unfold Sb M.mod
  rw [List.map_map]
  refine sum_same fun y _=>?_
  show (if (if y.n = n then g y else y).lord = some q then (if y.n = n then g y else y).br else 0) = _
  by_cases c:y.n = n
  ·rw [if_pos c,hl,hb]
  ·rw [if_neg c]
 refine ⟨by rw [nms_mod hg];exact W.nd,hd_mod hg hl W.hd,fun e he=>?_,fun e he=>?_,fun e he=>?_⟩
 rotate_right
 ·obtain ⟨y,hy,rfl⟩:=mem_mod he
  split
  ·rw [hg];exact W.ok y hy
  ·exact W.ok y hy
 ·obtain ⟨y,hy,rfl⟩:=mem_mod he
  split
  ·rw [ho,hb];exact W.bnd y hy
  ·exact W.bnd y hy
 ·obtain ⟨y,hy,rfl⟩:=mem_mod he
  rw [sbs]
  split
  ·rw [hg,ho,hb];exact W.br y hy
  ·exact W.br y hy
def fallE (e p:Str) (a:Int) (es:List Est):List Est:=(es.filter fun y=>decide (y.n≠e)).map (fal e p a)
theorem WF.fall {es:List Est} (W:WF es) {e0:Est} {p:Str} (h0:e0∈es) (hne:e0.n≠"") (hp:e0.lord = some p):WF (fallE e0.n p e0.own es):=by
 obtain ⟨p',hp',hpm,hpn⟩:=W.lord e0 h0 hne
 obtain rfl:p = p':=by rw [hp] at hp';injection hp'
 have mem:∀ y,y∈fallE e0.n p e0.own es→∃ y0∈es,y0.n≠e0.n∧y = fal e0.n p e0.own y0:=fun y hy=>by
  obtain ⟨y0,h1,h2⟩:=List.mem_map.mp hy
  obtain ⟨h3,h4⟩:=List.mem_filter.mp h1
  exact ⟨y0,h3,of_decide_eq_true h4,h2.symm⟩
 have eo:=W.br e0 h0
 have sbs:∀ q,q≠e0.n→Sb (fallE e0.n p e0.own es) q = Sb es q - (if q = p then e0.own else 0):=by
  intro q hq
  unfold Sb fallE
  rw [List.map_map]
  rw [sum_drop (F:=(fun y=>if y.lord = some q then y.br else 0) ∘ fal e0.n p e0.own) W.nd h0]
  have val:∀ y,((fun y=>if y.lord = some q then y.br else 0) ∘ fal e0.n p e0.own) y = (if y.lord = some q then y.br else 0) + (if q = p then (if y.lord = some e0.n then y.br else 0) else 0):=by
   intro y
   show (if (if y.lord = some e0.n then some p else y.lord) = some q then y.br else 0) = _
   by_cases c:y.lord = some e0.n
   ·rw [if_pos c,c,if_neg (fun z:some e0.n = some q=>hq (by injection z with z;exact z.symm)),if_pos rfl]
    by_cases d:q = p
    ·rw [if_pos d,d,if_pos rfl];omega
    ·rw [if_neg d,if_neg (fun z=>d (by injection z with z;exact z.symm))];rfl
   ·rw [if_neg c,if_neg c]
    split <;> split <;> omega
  rw [sum_same (fun y _=>val y),sum_add,val e0,hp,if_neg (fun z:some p = some e0.n=>hpn (by injection z))]
  by_cases d:q = p
  ·subst d
   rw [if_pos rfl,if_pos rfl,if_pos rfl]
   have e1:(es.map fun y=>if q = q then (if y.lord = some e0.n then y.br else 0) else 0).sum = Sb es e0.n:=by
    unfold Sb
    exact sum_same fun y _=>if_pos rfl
   rw [e1]
   omega
  ·rw [if_neg d,if_neg d,if_neg (fun z=>d (by injection z with z;exact z.symm))]
   have e1:(es.map fun y=>if q = p then (if y.lord = some e0.n then y.br else 0) else 0).sum = 0:=sum_zero fun y _=>if_neg d
   rw [e1]
   omega
 refine ⟨?_,?_,?_,?_,fun y hy=>?_⟩
 rotate_right
 ·obtain ⟨y0,h1,h2,rfl⟩:=mem y hy
  exact W.ok y0 h1
 ·have:nms (fallE e0.n p e0.own es) = (nms es).filter fun n=>decide (n≠e0.n):=by
   unfold fallE
   show ((es.filter _).map _).map _ = _
   rw [List.map_map,List.filter_map]
   rfl
  rw [this]
  exact W.nd.filter _
 ·obtain ⟨c,r,rfl,hc,hcl,ho⟩:=W.hd
  unfold fallE
  rw [List.filter_cons_of_pos (by simpa [hc] using fun z=>hne z.symm),List.map_cons]
  refine ⟨_,_,rfl,hc,?_,Ord.fall ho (fun x hx hxn=>?_) (fun x hx _=>hx) (fun hx=>absurd (List.mem_singleton.mp hx) hne) hpn⟩
  ·show (if c.lord = some e0.n then some p else c.lord) = none
   rw [hcl,if_neg (fun z=>by cases z)]
  ·rw [eq_of_n W.nd (List.mem_cons_of_mem _ hx) h0 hxn];exact hp
 ·intro y hy
  obtain ⟨y0,h1,h2,rfl⟩:=mem y hy
  have b:=W.bnd y0 h1
  have be:=W.bnd e0 h0
  refine ⟨?_,b.2⟩
  show 0≤(if y0.n = p then y0.own + e0.own else y0.own)
  split <;> omega
 ·intro y hy
  obtain ⟨y0,h1,h2,rfl⟩:=mem y hy
  have b:=W.br y0 h1
  show y0.br = (if y0.n = p then y0.own + e0.own else y0.own) + Sb _ y0.n
  rw [sbs _ h2]
  split <;> omega
end M
namespace M
open PySem L2
theorem sgn_pos {t b:Int} (h:0 < b):0 < sgn t b:=by
 unfold sgn
 rw [if_neg (by omega)]
 exact Int.ofNat_lt.mpr (gcd_pos (by omega))
theorem frt_mul {t b k:Int} (hb:0 < b) (hk:0 < k):frt (t * k) (b * k) = frt t b:=by
 have h:=low_of (low_gcd (t:=t) (b:=b) (by omega)) (low2_pos (by omega)) (Int.mul_pos (sgn_pos (t:=t) hb) hk)
 have e1:low1 t b * (sgn t b * k) = t * k:=by rw [← Int.mul_assoc,Int.mul_comm (low1 t b),low1_eq (by omega)]
 have e2:low2 t b * (sgn t b * k) = b * k:=by rw [← Int.mul_assoc,Int.mul_comm (low2 t b),low2_eq (by omega)]
 rw [e1,e2] at h
 unfold frt
 rw [h.1,h.2]
theorem part_left {s:Int×Int} {a b:Int} (hs:0 < s.2) (hb:0 < b):sbF s (frt (s.1 * a) (s.2 * b)) = frt (s.1 * (b - a)) (s.2 * b):=by
 have hB:0 < s.2 * b:=Int.mul_pos hs hb
 have hk:=sgn_pos (t:=s.1 * a) hB
 have e1:=low1_eq (t:=s.1 * a) (b:=s.2 * b) (by omega)
 have e2:=low2_eq (t:=s.1 * a) (b:=s.2 * b) (by omega)
 have hy:=low2_pos (t:=s.1 * a) (b:=s.2 * b) (by omega)
 unfold sbF
 show frt (s.1 * low2 (s.1 * a) (s.2 * b) - low1 (s.1 * a) (s.2 * b) * s.2) (s.2 * low2 (s.1 * a) (s.2 * b)) = _
 rw [← frt_mul (Int.mul_pos hs hy) hk,← frt_mul (t:=s.1 * (b - a)) hB hs]
 generalize low2 (s.1 * a) (s.2 * b) = y at e2
 generalize low1 (s.1 * a) (s.2 * b) = x at e1
 generalize sgn (s.1 * a) (s.2 * b) = k at e1 e2
 have c1:(s.1 * y - x * s.2) * k = s.1 * (b - a) * s.2:=by
  have q1:(s.1 * y - x * s.2) * k = s.1 * (k * y) - (k * x) * s.2:=by
   rw [Int.sub_mul,Int.mul_assoc,Int.mul_comm y k,Int.mul_assoc,Int.mul_comm s.2 k,← Int.mul_assoc x k,Int.mul_comm x k]
  rw [q1,e1,e2,Int.mul_sub,Int.sub_mul,Int.mul_comm s.2 b,Int.mul_assoc s.1 b]
 have c2:s.2 * y * k = s.2 * b * s.2:=by rw [Int.mul_assoc,Int.mul_comm y k,e2,Int.mul_comm s.2 (s.2 * b)]
 rw [c1,c2]
theorem perm_sum {l m:List Int} (h:l.Perm m):l.sum = m.sum:=by
 induction h with
 | nil=>rfl
 | cons x _ ih=>rw [List.sum_cons,List.sum_cons,ih]
 | swap x y l=>rw [List.sum_cons,List.sum_cons,List.sum_cons,List.sum_cons];omega
 | trans _ _ h1 h2=>rw [h1,h2]
theorem perm_sumN {l m:List Nat} (h:l.Perm m):l.sum = m.sum:=by
 induction h with
 | nil=>rfl
 | cons x _ ih=>rw [List.sum_cons,List.sum_cons,ih]
 | swap x y l=>rw [List.sum_cons,List.sum_cons,List.sum_cons,List.sum_cons];omega
 | trans _ _ h1 h2=>rw [h1,h2]
def brOf (es:List Est) (n:Str):Int:=((es.find? fun e=>decide (e.n = n)).map (·.br)).getD 0
theorem find_e {es:List Est} (nd:(nms es).Nodup) {e:Est} (he:e∈es):es.find? (fun x=>decide (x.n = e.n)) = some e:=by
 induction es with
 | nil=>cases he
 | cons x r ih =>
  have nd':=List.nodup_cons.mp nd
  rcases List.mem_cons.mp he with q | q
  ·rw [q,List.find?_cons_of_pos (by simp)]
  ·rw [List.find?_cons_of_neg (by
    have:x.n≠e.n:=fun z=>nd'.1 (show x.n∈nms r by rw [z];exact List.mem_map.mpr ⟨e,q,rfl⟩)
    simpa using this)]
   exact ih nd'.2 q
theorem brOf_e {es:List Est} (nd:(nms es).Nodup) {e:Est} (he:e∈es):brOf es e.n = e.br:=by unfold brOf;rw [find_e nd he];rfl
theorem filt_sum {F:Est→Int} (c:Est→Bool):∀ es:List Est,((es.filter c).map F).sum = (es.map fun y=>if c y = true then F y else 0).sum
 | []=>rfl
 | x :: r=>by
  have ih:=filt_sum (F:=F) c r
  by_cases h:c x = true
  ·rw [List.filter_cons_of_pos h,List.map_cons,List.map_cons,List.sum_cons,List.sum_cons,if_pos h,ih]
  ·rw [List.filter_cons_of_neg h,List.map_cons,List.sum_cons,if_neg h,ih];omega
theorem under_sum {es:List Est} (nd:(nms es).Nodup) {q:Str} {ss:List Str} (h:ss.Perm ((es.filter fun y=>decide (y.lord = some q)).map (·.n))):(ss.map (brOf es)).sum = Sb es q:=by
 rw [perm_sum (h.map _),List.map_map]
 have:((es.filter fun y=>decide (y.lord = some q)).map (brOf es ∘ fun x=>x.n)) = (es.filter fun y=>decide (y.lord = some q)).map (·.br):=List.map_congr_left fun y hy=>brOf_e nd (List.mem_filter.mp hy).1
 rw [this,filt_sum]
 unfold Sb
 exact sum_same fun y _=>by simp only [decide_eq_true_eq]
def wt:List Est→Str→Nat
 | [],_=>0
 | x :: r,n=>if x.n = n then 2 ^ r.length else wt r n
def Sw (es:List Est) (c:Est→Bool) (ws:List Est):Nat:=(es.map fun y=>if c y = true then wt ws y.n else 0).sum
theorem Sw_cons {x:Est} {r:List Est} {c:Est→Bool}:∀ {es:List Est},(∀ y∈es,y.n≠x.n)→Sw es c (x :: r) = Sw es c r
 | [],_=>rfl
 | y :: es,h=>by
  have ih:=Sw_cons (x:=x) (r:=r) (c:=c) (es:=es) fun z hz=>h z (List.mem_cons_of_mem _ hz)
  unfold Sw at ih ⊢
  rw [List.map_cons,List.map_cons,List.sum_cons,List.sum_cons,ih]
  have:wt (x :: r) y.n = wt r y.n:=if_neg fun z=>h y List.mem_cons_self z.symm
  rw [this]
theorem nd_ne {x:Est} {r:List Est} (nd:(nms (x :: r)).Nodup):∀ y∈r,y.n≠x.n:=fun y hy z=>(List.nodup_cons.mp nd).1 (show x.n∈nms r by rw [← z];exact List.mem_map.mpr ⟨y,hy,rfl⟩)
theorem Sw_lt {c:Est→Bool}:∀ {r:List Est},(nms r).Nodup→Sw r c r < 2 ^ r.length
 | [],_=>show 0 < 1 by decide
 | x :: r,nd=>by
  have ih:=Sw_lt (c:=c) (r:=r) (List.nodup_cons.mp nd).2
  unfold Sw
  rw [List.map_cons,List.sum_cons]
  have e:=Sw_cons (x:=x) (r:=r) (c:=c) (es:=r) (nd_ne nd)
  unfold Sw at e ih
  rw [e,List.length_cons,Nat.pow_succ]
  have:wt (x :: r) x.n = 2 ^ r.length:=if_pos rfl
  rw [this]
  split <;> omega
theorem Sw_ord {e:Est}:∀ {r:List Est} {s:List Str},Ord s r→(nms r).Nodup→(∀ x∈s,x ∉ nms r)→e∈r→Sw r (fun y=>decide (y.lord = some e.n)) r < wt r e.n
 | x :: r,s,⟨⟨p,hp,hs⟩,ho⟩,nd,hx,he=>by
  have nd':=List.nodup_cons.mp nd
  unfold Sw
  rw [List.map_cons,List.sum_cons]
  have e1:=Sw_cons (x:=x) (r:=r) (c:=fun y=>decide (y.lord = some e.n)) (es:=r) (nd_ne nd)
  have nx:¬ (decide (x.lord = some e.n) = true):=fun z=>by
   have z:=of_decide_eq_true z
   rw [hp] at z
   injection z with z
   exact hx p hs (by rw [z];exact List.mem_map.mpr ⟨e,he,rfl⟩)
  rw [if_neg nx]
  unfold Sw at e1
  rw [e1]
  rcases List.mem_cons.mp he with q | q
  ·have:wt (x :: r) e.n = 2 ^ r.length:=if_pos (by rw [q])
   rw [this]
   have:=Sw_lt (c:=fun y=>decide (y.lord = some e.n)) nd'.2
   unfold Sw at this
   omega
  ·have:wt (x :: r) e.n = wt r e.n:=if_neg fun z=>nd'.1 (show x.n∈nms r by rw [z];exact List.mem_map.mpr ⟨e,q,rfl⟩)
   rw [this]
   have:=Sw_ord (e:=e) ho nd'.2 (fun y hy w=>by
    rcases List.mem_cons.mp hy with z | z
    ·exact nd'.1 (by rw [z] at w;exact w)
    ·exact hx y z (List.mem_cons_of_mem _ w)) q
   unfold Sw at this
   omega
theorem WF.meas {es:List Est} (W:WF es) {e:Est} (he:e∈es):Sw es (fun y=>decide (y.lord = some e.n)) es < wt es e.n:=by
 obtain ⟨c,r,rfl,hc,hl,ho⟩:=W.hd
 have nd':=List.nodup_cons.mp W.nd
 unfold Sw
 rw [List.map_cons,List.sum_cons,if_neg (by show ¬ decide (c.lord = some e.n) = true;rw [hl];simp)]
 have e1:=Sw_cons (x:=c) (r:=r) (c:=fun y=>decide (y.lord = some e.n)) (es:=r) (nd_ne W.nd)
 unfold Sw at e1
 rw [e1]
 rcases List.mem_cons.mp he with q | q
 ·have:wt (c :: r) e.n = 2 ^ r.length:=if_pos (by rw [q])
  rw [this]
  have:=Sw_lt (c:=fun y=>decide (y.lord = some e.n)) nd'.2
  unfold Sw at this
  omega
 ·have:wt (c :: r) e.n = wt r e.n:=if_neg fun z=>nd'.1 (show c.n∈nms r by rw [z];exact List.mem_map.mpr ⟨e,q,rfl⟩)
  rw [this]
  have:=Sw_ord (e:=e) ho nd'.2 (fun y hy w=>by rw [List.mem_singleton.mp hy,← hc] at w;exact nd'.1 w) q
  unfold Sw at this
  omega
theorem filt_sumN {F:Est→Nat} (c:Est→Bool):∀ es:List Est,((es.filter c).map F).sum = (es.map fun y=>if c y = true then F y else 0).sum
 | []=>rfl
 | x :: r=>by
  have ih:=filt_sumN (F:=F) c r
  by_cases h:c x = true
  ·rw [List.filter_cons_of_pos h,List.map_cons,List.map_cons,List.sum_cons,List.sum_cons,if_pos h,ih]
  ·rw [List.filter_cons_of_neg h,List.map_cons,List.sum_cons,if_neg h,ih];omega
theorem under_meas {es:List Est} (W:WF es) {e:Est} (he:e∈es) {ss:List Str} (h:ss.Perm ((es.filter fun y=>decide (y.lord = some e.n)).map (·.n))):(ss.map (wt es)).sum < wt es e.n:=by
 have:=W.meas he
 unfold Sw at this
 rw [perm_sumN (h.map _),List.map_map]
 have e2:=filt_sumN (F:=wt es ∘ fun x=>x.n) (fun y=>decide (y.lord = some e.n)) es
 rw [e2]
 exact this
theorem ch_ord {lo:List (Key×V)} {m:Nat}:∀ {r:List Est} {s:List Str},Ord s r→(∀ y∈r,valV lo (.inr y.n) = some (lordV y.lord))→(∀ x∈s,∃ l,Ch lo x l∧l.length≤m)→∀ y∈r,∃ l,Ch lo y.n l∧l.length≤m + r.length
 | x :: r,s,⟨⟨p,hp,hs⟩,ho⟩,hv,h,y,hy=>by
  have hx:∃ l,Ch lo x.n l∧l.length≤m + 1:=by
   obtain ⟨l,h1,h2⟩:=h p hs
   refine ⟨x.n :: l,.up ?_ h1,by rw [List.length_cons];omega⟩
   rw [hv x List.mem_cons_self,hp];rfl
  rcases List.mem_cons.mp hy with q | q
  ·rw [q]
   obtain ⟨l,h1,h2⟩:=hx
   exact ⟨l,h1,by rw [List.length_cons];omega⟩
  ·obtain ⟨l,h1,h2⟩:=ch_ord (m:=m + 1) ho (fun z hz=>hv z (List.mem_cons_of_mem _ hz)) (fun z hz=>by
    rcases List.mem_cons.mp hz with w | w
    ·rw [w];exact hx
    ·obtain ⟨l,h1,h2⟩:=h z w
     exact ⟨l,h1,by omega⟩) y q
   exact ⟨l,h1,by rw [List.length_cons];omega⟩
theorem WF.chain {es:List Est} (W:WF es) {e:Est} (he:e∈es):∃ l,Ch (loL es) e.n l∧l.length≤es.length:=by
 have hv:∀ y∈es,valV (loL es) (.inr y.n) = some (lordV y.lord):=fun y hy=>val_kv W.nd hy
 obtain ⟨c,r,rfl,hc,hl,ho⟩:=W.hd
 have h0:Ch (loL (c :: r)) "" [""]:=by
  refine .crown ?_
  rw [← hc,hv c List.mem_cons_self,hl];rfl
 rcases List.mem_cons.mp he with q | q
 ·rw [q,hc]
  exact ⟨_,h0,by simp⟩
 ·obtain ⟨l,h1,h2⟩:=ch_ord (m:=1) ho (fun y hy=>hv y (List.mem_cons_of_mem _ hy)) (fun x hx=>by rw [List.mem_singleton.mp hx];exact ⟨_,h0,by simp⟩) e q
  exact ⟨l,h1,by rw [List.length_cons];omega⟩
theorem ch_nd {lo:List (Key×V)} {m:Nat}:∀ {r:List Est} {s:List Str},Ord s r→(nms r).Nodup→(∀ x∈s,x ∉ nms r)→(∀ y∈r,valV lo (.inr y.n) = some (lordV y.lord))→(∀ x∈s,∃ l,Ch lo x l∧l.length≤m∧l.Nodup∧∀ z∈l,z∈s)→∀ y∈r,∃ l,Ch lo y.n l∧l.length≤m + r.length∧l.Nodup
 | x :: r,s,⟨⟨p,hp,hs⟩,ho⟩,nd,hd,hv,h,y,hy=>by
  have nd':=List.nodup_cons.mp nd
  have hx:∃ l,Ch lo x.n l∧l.length≤m + 1∧l.Nodup∧∀ z∈l,z∈x.n :: s:=by
   obtain ⟨l,h1,h2,h3,h4⟩:=h p hs
   refine ⟨x.n :: l,.up ?_ h1,by rw [List.length_cons];omega,List.nodup_cons.mpr ⟨fun c=>hd x.n (h4 _ c) List.mem_cons_self,h3⟩,fun z hz=>?_⟩
   ·rw [hv x List.mem_cons_self,hp];rfl
   ·rcases List.mem_cons.mp hz with q | q
    ·rw [q];exact List.mem_cons_self
    ·exact List.mem_cons_of_mem _ (h4 z q)
  rcases List.mem_cons.mp hy with q | q
  ·rw [q]
   obtain ⟨l,h1,h2,h3,_⟩:=hx
   exact ⟨l,h1,by rw [List.length_cons];omega,h3⟩
  ·obtain ⟨l,h1,h2,h3⟩:=ch_nd (m:=m + 1) ho nd'.2 (fun z hz w=>by
    rcases List.mem_cons.mp hz with q' | q'
    ·exact nd'.1 (by rw [q'] at w;exact w)
    ·exact hd z q' (List.mem_cons_of_mem _ w)) (fun z hz=>hv z (List.mem_cons_of_mem _ hz)) (fun z hz=>by
    rcases List.mem_cons.mp hz with w | w
    ·rw [w];exact hx
    ·obtain ⟨l,h1,h2,h3,h4⟩:=h z w
     exact ⟨l,h1,by omega,h3,fun u hu=>List.mem_cons_of_mem _ (h4 u hu)⟩) y q
   exact ⟨l,h1,by rw [List.length_cons];omega,h3⟩
theorem WF.chainN {es:List Est} (W:WF es) {e:Est} (he:e∈es):∃ l,Ch (loL es) e.n l∧l.length≤es.length∧l.Nodup:=by
 have hv:∀ y∈es,valV (loL es) (.inr y.n) = some (lordV y.lord):=fun y hy=>val_kv W.nd hy
 obtain ⟨c,r,rfl,hc,hl,ho⟩:=W.hd
 have nd':=List.nodup_cons.mp W.nd
 have h0:Ch (loL (c :: r)) "" [""]:=by
  refine .crown ?_
  rw [← hc,hv c List.mem_cons_self,hl];rfl
 rcases List.mem_cons.mp he with q | q
 ·rw [q,hc]
  exact ⟨_,h0,by simp,by simp⟩
 ·obtain ⟨l,h1,h2,h3⟩:=ch_nd (m:=1) ho nd'.2 (fun x hx w=>by rw [List.mem_singleton.mp hx,← hc] at w;exact nd'.1 w) (fun y hy=>hv y (List.mem_cons_of_mem _ hy)) (fun x hx=>by rw [List.mem_singleton.mp hx];exact ⟨_,h0,by simp,by simp,by simp⟩) e q
  exact ⟨l,h1,by rw [List.length_cons];omega,h3⟩
theorem sub_len {α:Type} [DecidableEq α]:∀ {l m:List α},l.Nodup→(∀ x∈l,x∈m)→l.length≤m.length
 | [],_,_,_=>Nat.zero_le _
 | x :: l,m,nd,h=>by
  have nd':=List.nodup_cons.mp nd
  have hx:=h x List.mem_cons_self
  have ih:=sub_len (l:=l) (m:=m.erase x) nd'.2 fun y hy=>by
   have ne:y≠x:=fun z=>nd'.1 (z ▸ hy)
   exact (List.mem_erase_of_ne ne).mpr (h y (List.mem_cons_of_mem _ hy))
  rw [List.length_erase_of_mem hx] at ih
  have:=List.length_pos_of_mem hx
  rw [List.length_cons]
  omega
theorem under_mem {es:List Est} (nd:(nms es).Nodup) {q:Str} {ss:List Str} (h:ss.Perm ((es.filter fun y=>decide (y.lord = some q)).map (·.n))):(∀ s∈ss,s∈nms es)∧∀ y∈es,(y.n∈ss ↔ y.lord = some q):=by
 refine ⟨fun s hs=>?_,fun y hy=>⟨fun hs=>?_,fun hl=>?_⟩⟩
 ·obtain ⟨y,hy,rfl⟩:=List.mem_map.mp (h.mem_iff.mp hs)
  exact List.mem_map.mpr ⟨y,(List.mem_filter.mp hy).1,rfl⟩
 ·obtain ⟨z,hz,e⟩:=List.mem_map.mp (h.mem_iff.mp hs)
  obtain ⟨z1,z2⟩:=List.mem_filter.mp hz
  obtain rfl:=eq_of_n nd z1 hy e
  exact of_decide_eq_true z2
 ·exact h.mem_iff.mpr (List.mem_map.mpr ⟨y,List.mem_filter.mpr ⟨hy,decide_eq_true hl⟩,rfl⟩)
theorem lo_perm {es:List Est} {q:Str} {ss:List Str} (h:ss.Perm (((loL es).filter fun x=>decide (x.2 = .str q)).map kstr)):ss.Perm ((es.filter fun y=>decide (y.lord = some q)).map (·.n)):=by
 rw [kstr_kv] at h
 have:(es.filter fun e=>decide (lordV e.lord = V.str q)) = es.filter fun y=>decide (y.lord = some q):=List.filter_congr fun y _=>decide_eq_decide.mpr lordV_str
 rw [← this]
 exact h
theorem fal_lo {e p:Str} {a:Int} {es:List Est}:loL (fallE e p a es) = kv (fun y=>if y.lord = some e then V.str p else lordV y.lord) (es.filter fun y=>decide (y.n≠e)):=by
 unfold fallE loL
 rw [kv_map (g:=fal e p a) (fun _=>rfl)]
 refine kv_congr fun y _=>?_
 show lordV (if y.lord = some e then some p else y.lord) = _
 split <;> rfl
theorem fall_land {es:List Est} (nd:(nms es).Nodup) {e p:Str} {a:Int} {ss:List Str} (h:ss.Perm (((loL es).filter fun x=>decide (x.2 = .str e)).map kstr)):dropK (moved (loL es) ss p) (.inr e) = loL (fallE e p a es):=by
 obtain ⟨h1,h2⟩:=under_mem nd (lo_perm h)
 rw [moved_kv ss h1,drop_kv,fal_lo]
 refine kv_congr fun y hy=>?_
 have:=h2 y (List.mem_filter.mp hy).1
 by_cases c:y.lord = some e
 ·rw [if_pos c,if_pos (this.mpr c)]
 ·rw [if_neg c,if_neg fun z=>c (this.mp z)]
theorem fall_book {es:List Est} (nd:(nms es).Nodup) {e p:Str} {a:Int} {ss:List Str} (h:ss.Perm ((((es.filter fun y=>decide (y.n≠e))).filter fun y=>decide (y.lord = some e)).map (·.n))):moved (loL (es.filter fun y=>decide (y.n≠e))) ss p = loL (fallE e p a es):=by
 have nd2:(nms (es.filter fun y=>decide (y.n≠e))).Nodup:=(List.filter_sublist.map _).nodup nd
 obtain ⟨h1,h2⟩:=under_mem nd2 h
 rw [moved_kv ss h1,fal_lo]
 refine kv_congr fun y hy=>?_
 have:=h2 y hy
 by_cases c:y.lord = some e
 ·rw [if_pos c,if_pos (this.mpr c)]
 ·rw [if_neg c,if_neg fun z=>c (this.mp z)]
theorem fall_other {f:Est→V} {es:List Est} {e p:Str} {a:Int} (hf:∀ y,f (fal e p a y) = f y):dropK (kv f es) (.inr e) = kv f (fallE e p a es):=by
 rw [drop_kv]
 unfold fallE
 rw [kv_map (g:=fal e p a) (fun _=>rfl)]
 exact kv_congr fun y _=>(hf y).symm
theorem fall_own {es:List Est} (nd:(nms es).Nodup) {e0 y0:Est} {p:Str} (hp:y0∈es) (hn:y0.n = p):dropK (putK (owL es) (.inr p) (.int (y0.own + e0.own))) (.inr e0.n) = owL (fallE e0.n p e0.own es):=by
 rw [put_in (by rw [← hn];exact List.mem_map.mpr ⟨y0,hp,rfl⟩),drop_kv]
 unfold fallE owL
 rw [kv_map (g:=fal e0.n p e0.own) (fun _=>rfl)]
 refine kv_congr fun y hy=>?_
 show (if y.n = p then V.int (y0.own + e0.own) else V.int y.own) = V.int (if y.n = p then y.own + e0.own else y.own)
 split
 ·rename_i c
  rw [eq_of_n nd (List.mem_filter.mp hy).1 hp (c.trans hn.symm)]
 ·rfl
theorem fall_own2 {es:List Est} (nd:(nms es).Nodup) {e0 y0:Est} {p:Str} (hp:y0∈es) (hn:y0.n = p) (hne:p≠e0.n):putK (owL (es.filter fun y=>decide (y.n≠e0.n))) (.inr p) (.int (y0.own + e0.own)) = owL (fallE e0.n p e0.own es):=by
 rw [put_in (by rw [← hn] at hne ⊢;exact List.mem_map.mpr ⟨y0,List.mem_filter.mpr ⟨hp,decide_eq_true hne⟩,rfl⟩)]
 unfold fallE owL
 rw [kv_map (g:=fal e0.n p e0.own) (fun _=>rfl)]
 refine kv_congr fun y hy=>?_
 show (if y.n = p then V.int (y0.own + e0.own) else V.int y.own) = V.int (if y.n = p then y.own + e0.own else y.own)
 split
 ·rename_i c
  rw [eq_of_n nd (List.mem_filter.mp hy).1 hp (c.trans hn.symm)]
 ·rfl
end M
namespace L2
open PySem PySem.Spec PyProof.Rows PySem.W
theorem ltC_iff:∀ (a b:List Nat),ltCps a b = true ↔ a < b
 | [],[]=>by simp [ltCps]
 | [],_ :: _=>by simp [ltCps]
 | _ :: _,[]=>by simp [ltCps]
 | x :: xs,y :: ys=>by
  have ih:=ltC_iff xs ys
  unfold ltCps
  rw [List.cons_lt_cons_iff]
  by_cases h:x < y
  ·simp [h]
  ·by_cases h2:x = y
   ·subst h2;simp [ih]
   ·simp [h,h2]
theorem sorted_pw:∀ (l:List Str),sortedS l = true→l.Pairwise fun a b=>a.cps.toList≤b.cps.toList
 | [],_=>.nil
 | x :: r,h=>by
  have key:∀ (r:List Str) (p:Str),risingS p r = true→(∀ y∈r,p.cps.toList≤y.cps.toList)∧r.Pairwise fun a b=>a.cps.toList≤b.cps.toList:=by
   intro r
   induction r with
   | nil=>intro p _;exact ⟨fun y hy=>(by cases hy),.nil⟩
   | cons x r ih =>
    intro p hp
    simp only [risingS,Bool.and_eq_true,Bool.not_eq_true'] at hp
    obtain ⟨h1,h2⟩:=ih x hp.2
    have h0:p.cps.toList≤x.cps.toList:=by
     refine List.not_lt.mp fun c=>?_
     rw [(ltC_iff _ _).mpr c] at hp
     exact absurd hp.1 (by decide)
    refine ⟨fun y hy=>?_,.cons (fun y hy=>h1 y hy) h2⟩
    rcases List.mem_cons.mp hy with q | q
    ·rw [q];exact h0
    ·exact List.le_trans h0 (h1 y q)
  obtain ⟨h1,h2⟩:=key r x h
  exact .cons (fun y hy=>h1 y hy) h2
theorem sorted_one {l m:List Str} (p:l.Perm m) (h1:sortedS l = true) (h2:sortedS m = true):l = m :=
 List.Perm.eq_of_pairwise (fun a b _ _ x y=>str_ext (List.le_antisymm x y)) (sorted_pw l h1) (sorted_pw m h2) p
theorem sorted_two {l m:List Str} (p:l.Perm m) (h1:l.Pairwise fun x y=>x.cps.toList < y.cps.toList) (h2:m.Pairwise fun x y=>x.cps.toList < y.cps.toList):l = m :=
 List.Perm.eq_of_pairwise (le:=fun x y=>x.cps.toList≤y.cps.toList) (fun a b _ _ x y=>str_ext (List.le_antisymm x y)) (h1.imp fun q=>List.le_of_lt q) (h2.imp fun q=>List.le_of_lt q) p
theorem vals_ix:∀ {xs:List V} {us:List Value},xs.length = us.length→(∀ (i:Nat) (x:V) (u:Value),xs[i]? = some x→us[i]? = some u→RelV x u)→Vals xs us
 | [],[],_,_=>.nil
 | [],_ :: _,h,_=>by simp at h
 | _ :: _,[],h,_=>by simp at h
 | x :: xs,u :: us,h,hr=>.cons (hr 0 x u rfl rfl) (vals_ix (by simpa using h) fun i a b h1 h2=>hr (i + 1) a b (by simpa using h1) (by simpa using h2))
def rListD:List V→Hp→VK→Prop:=fun xs H Q=>∃ a kvs,xs = [.ref a]∧H a = some (.dK kvs)∧∀ p,H p = none→Q (.ref p) (upd H p (.lst (kvs.map fun kv=>kV kv.1)))
theorem call_listD {X:Cx} (hin:X.A.handled = none):CallR X (.type "list") rListD:=by
 intro pins s σ H xs us Q I r h
 obtain ⟨a,kvs,rfl,ha,q⟩:=h
 obtain ⟨u,rfl,ru⟩:=vals1 r
 cases ru
 obtain ⟨z,hs,vs,ep,rel,dat⟩:=dk_at I ha
 have hlen:vs.length = kvs.length:=rel.length.symm
 refine kdl_call (kdl_dict (knd:=mixKind X.prog X.w) (kvs:=vs) (ep:=ep) hs) hin dat (by omega) fun h' tk acc c hk hS hI=>?_
 have hv:Vals (kvs.map fun kv=>kV kv.1) acc.toList:=by
  refine vals_ix (by have h1:=hI.1;have h2:acc.toList.length = acc.size:=Array.length_toList;rw [List.length_map];omega) fun i x u h1 h2=>?_
  rw [List.getElem?_map] at h1
  obtain ⟨kv,hkv,rfl⟩:=Option.map_eq_some_iff.mp h1
  obtain ⟨u',hu',_⟩:=rel.at hkv
  obtain ⟨k,y,e1,e2⟩:=hI.2 i u (by rw [← Array.getElem?_toList];exact h2)
  rw [hu'] at e1
  cases e1
  exact is_kV e2
 exact ⟨.ref s.heap.objs.size,_,I.laid (o:=.lst (kvs.map fun kv=>kV kv.1)) (t':=tk) hk (Nat.le_refl _) ⟨by rw [List.length_map];exact z,acc.toList,c,hv,hS⟩,rfl,q _ (I.hok.fresh (Nat.le_refl _))⟩
theorem dgetF {H:Hp} {a:Addr} {o:Obj} {kvs:List (Key×V)} {e:Str} {v:V} (h:H a = some (.frz o (.dK kvs))) (hv:valV kvs (.inr e) = some v):DGet H a (V.str e) (some v):=.inl ⟨kvs,.inr e,.inr ⟨_,h⟩,rfl,hv.symm⟩
end L2
namespace M
open PySem L2 PyProof.Rows
theorem frz_names {f:Est→V} {es:List Est} {a:Addr} {H:Hp} {σ:L2.St} {k:Nat} {ix:List Nat} {td:TE} {g:TG} {tt:TT} {te:TE} {Q:VK} (p:Est→Bool) (ha:H a = some (.dK (kv f es))) (hl:es.length≤1000)
  (hd:∀ (o:Obj) (R:VK),R (.ref a) (upd H a (.frz o (.dK (kv f es))))→td σ (upd H a (.frz o (.dK (kv f es)))) R)
  (turn:∀ (o:Obj) (y:Est) (Hz:Hp) (A:V→Hp→Prop) (B:Hp→Prop),y∈es→Same (upd H a (.frz o (.dK (kv f es)))) Hz→(if p y = true then A (V.str y.n) Hz else B Hz)→g (V.str y.n) (capt σ k ix) Hz fun σ2 H4=>Kp (capt σ k ix) σ2∧tt σ2 H4 fun b H5=>if b = true then te σ2 H5 A else B H5)
  (done:∀ D Hz,Same H Hz→H D = none→Hz D = some (.lst (((es.filter p).map (·.n)).map V.str))→Q (.ref D) Hz):tFrz (tComp k ix (iDict td) g tt te) σ H Q:=by
 refine ⟨a,_,ha,fun o=>hd o _ ⟨a,o,kv f es,rfl,upd_same,fun D hD=>?_⟩⟩
 have nD:a≠D:=ne_of_none (show (upd H a (.frz o (.dK (kv f es)))) a = some (.frz o (.dK (kv f es))) from upd_same) hD
 have hD0:H D = none:=by rw [upd_ne (Ne.symm nD)] at hD;exact hD
 refine comp_dict (o:=o) (fun i ys Hz=>ys = (((es.take i).filter p).map (·.n)).map V.str∧Same (upd H a (.frz o (.dK (kv f es)))) Hz∧Hz D = some (.lst ys)) (fun i ys Hz h=>h.2.1 _ _ upd_same) ⟨rfl,same_new hD _,upd_same⟩ (fun i ys Hz h=>h.2.2) ?_ ?_
 ·rintro i ys Hz kx hkv ⟨rfl,sz,hDz⟩
  rw [List.getElem?_map] at hkv
  obtain ⟨y,hy,rfl⟩:=Option.map_eq_some_iff.mp hkv
  refine turn o y Hz _ _ (List.mem_of_getElem? hy) sz ?_
  have step:(((es.take (i + 1)).filter p).map (·.n)).map V.str = (((es.take i).filter p).map (·.n)).map V.str++(if p y = true then [V.str y.n] else []):=by
   rw [List.take_add_one,hy,List.filter_append,List.map_append,List.map_append]
   congr 1
   cases e:p y <;> simp [e]
  by_cases c:p y = true
  ·rw [if_pos c] at step ⊢
   refine ⟨hDz,?_,step.symm,same_upd sz hD,upd_same⟩
   rw [List.length_map,List.length_map]
   have:=List.length_filter_le p (es.take i)
   rw [List.length_take] at this
   exact small' (by omega)
  ·rw [if_neg c] at step ⊢
   refine ⟨by rw [step,List.append_nil],sz,hDz⟩
 ·rintro ys Hz ⟨rfl,sz,hDz⟩
  rw [kv_len,List.take_length] at hDz
  refine ⟨sz _ _ upd_same,?_⟩
  exact done D _ (thaw_same ha sz) hD0 (by rw [upd_ne (Ne.symm nD)];exact hDz)
theorem comp_strs {K:PySem.W.Frag} {a D:Addr} {xs:List Str} {H1:Hp} {σ:L2.St} {k:Nat} {ix:List Nat} {g:TG} {tt:TT} {te:TE} {Q:VK} (p:Str→Bool) (e:Str→V) (hs:SqL K H1 a (xs.map V.str)) (hD:H1 D = none) (hl:xs.length≤1000)
  (turn:∀ (x:Str) (Hz:Hp) (A:V→Hp→Prop) (B:Hp→Prop),x∈xs→Same H1 Hz→(∀ H',Same Hz H'→if p x = true then A (e x) H' else B H')→g (V.str x) (capt σ k ix) Hz fun σ2 H4=>Kp (capt σ k ix) σ2∧tt σ2 H4 fun b H5=>if b = true then te σ2 H5 A else B H5)
  (done:∀ Hz,Same H1 Hz→Hz D = some (.lst ((xs.filter p).map e))→Q (.ref D) Hz):CompOk (Itl K a) D σ k ix g tt te Q H1:=by
 refine comp_list (xs:=xs.map V.str) (fun i ys Hz=>ys = ((xs.take i).filter p).map e∧Same H1 Hz∧Hz D = some (.lst ys)) (fun i ys Hz h=>h.2.1.seq hs) ⟨rfl,same_new hD _,upd_same⟩ (fun i ys Hz h=>h.2.2) ?_ ?_
 ·rintro i ys Hz v hv ⟨rfl,sz,hDz⟩
  rw [List.getElem?_map] at hv
  obtain ⟨x,hx,rfl⟩:=Option.map_eq_some_iff.mp hv
  refine turn x Hz _ _ (List.mem_of_getElem? hx) sz fun H' s'=>?_
  have step:((xs.take (i + 1)).filter p).map e = ((xs.take i).filter p).map e++(if p x = true then [e x] else []):=by
   rw [List.take_add_one,hx,List.filter_append,List.map_append]
   congr 1
   cases c:p x <;> simp [c]
  by_cases c:p x = true
  ·rw [if_pos c] at step ⊢
   refine ⟨s' _ _ hDz,?_,step.symm,same_upd (sz.trans s') hD,upd_same⟩
   rw [List.length_map]
   have:=List.length_filter_le p (xs.take i)
   rw [List.length_take] at this
   exact small' (by omega)
  ·rw [if_neg c] at step ⊢
   exact ⟨by rw [step,List.append_nil],sz.trans s',s' _ _ hDz⟩
 ·rintro ys Hz ⟨rfl,sz,hDz⟩
  rw [List.length_map,List.take_length] at hDz
  exact done Hz sz hDz
structure Ad where
 x:Addr
 dx:Addr
 a1:Addr
 a2:Addr
 a3:Addr
 a4:Addr
 a5:Addr
 B:Addr
 l:Addr
 h:Addr
 o:Addr
 d:Addr
 kn:Addr
 dd:Addr
 kvs:List (Key×V)
 wd:Int
abbrev Bk (q:Ad) (H:Hp) (es:List Est) (ks:List Str):Prop:=BookL H q.B q.l q.h q.o q.d q.kn q.dd q.kvs (loL es) (hoL es) (owL es) (duL es) ks
abbrev Ln (C:Addr) (q:Ad) (H:Hp) (es:List Est):Prop:=LandAt C H q.x q.dx q.a1 q.a2 q.a3 q.a4 q.a5 (loL es) (hoL es) (owL es) (seL es) (brL es)
def spFolk (C:Addr):Sp:=fun vs H Q _=>∃ q es,vs = [.ref q.x]∧Ln C q H es∧es.length < 64∧∀ (r:Addr) (ss:List Str) (H':Hp),Same H H'→H r = none→H' r = some (.lst (ss.map V.str))→ss.Perm (allS (es.map (·.man)))→ss.Pairwise (fun x y=>x.cps.toList < y.cps.toList)→Q (.ref r) H'
section
variable {P:Program} {w:World} {K:PySem.W.Frag} {mg:Str→Option Value} {base:Heap} {f C:Addr} {fd:FuncData}
theorem scFolk:FnScope ["self"] ["self"] (defScope sFolk):=⟨rfl,rfl,rfl,by decide +kernel,rfl,by decide +kernel,by decide +kernel⟩
def scF1:Scope:={ kind:=.function,names:=[(".0",.local),("man",.local)],isGenerator:=false,isCoroutine:=false }
theorem csF1:CScope ["self"] (defScope sFolk) scF1 ["man"] [] []:=⟨rfl,by decide +kernel,by decide +kernel,by decide +kernel,rfl,by decide +kernel⟩
theorem ndF1:((["man"]:List Str)++([]:List Str)).Nodup:=by decide +kernel
set_option maxHeartbeats 4000000 in
theorem ok_folk (T:LandC K C) (ms:mg "sorted" = none) (F:Fun K "folk" "Land.folk" sFolk f fd):FnOk P w K mg base CX0 1 f fd ["self"] (spFolk C):=by
 refine F.ok scFolk (fun vs H Q E h=>?_) (fun cdv A outer s H vs Q E hr h=>?_)
 ·obtain ⟨q,es,rfl,_⟩:=h
  rfl
 obtain ⟨q,es,rfl,L,hl,k⟩:=h
 refine ⟨_,pss_one (ps_ret (pe_callB (call_sortSet hr.hd) rfl ms bt_sorted (pa_cons (pe_frz (pe_scomp rfl csF1 (pi_vals (pe_fld (pv 0) rfl)) (fun s H fp C'=>⟨pg_name (i:=0) ndF1 rfl (Or.inl rfl),pts_nil,pv 0⟩))) pa_nil))),?_⟩
 have nx:=ne_of L.o L.l2 (by intro q;cases q)
 refine ⟨q.a2,_,L.l2,fun o=>⟨_,rfl,q.x,C,q.dx,_,_,rfl,by rw [upd_ne nx];exact L.o,T.cl,T.n2,rfl,q.a2,o,_,rfl,upd_same,fun D hD=>?_⟩⟩
 have nD:q.a2≠D:=ne_of_none (show (upd H q.a2 (.frz o (.dK (hoL es)))) q.a2 = some (.frz o (.dK (hoL es))) from upd_same) hD
 have hD0:H D = none:=by rw [upd_ne (Ne.symm nD)] at hD;exact hD
 refine scomp_vals (fun i zs Hz=>zs = allS ((es.take i).map (·.man))∧Same (upd H q.a2 (.frz o (.dK (hoL es)))) Hz∧Hz D = some (SetS P w D zs)) (fun i zs Hz h=>h.2.1 _ _ upd_same) ⟨rfl,same_new hD _,upd_same⟩ (fun i zs Hz h=>h.2.2) ?_ ?_
 ·rintro i zs Hz kx hkv ⟨rfl,sz,hDz⟩
  rw [List.getElem?_map] at hkv
  obtain ⟨y,hy,rfl⟩:=Option.map_eq_some_iff.mp hkv
  refine ⟨Kp.set rfl (Kp.refl _),tTrue_ok ⟨_,rfl,y.man,rfl,hDz,?_,?_,same_upd sz hD,upd_same⟩⟩
  ·have:=allS_len ((es.take i).map (·.man))
   rw [List.length_map,List.length_take] at this
   omega
  ·rw [List.take_add_one,hy,List.map_append]
   exact (allS_snoc _ _).symm
 ·rintro zs Hz ⟨rfl,sz,hDz⟩
  rw [kv_len,List.take_length] at hDz
  have s2:=thaw_same L.l2 sz
  refine ⟨sz _ _ upd_same,D,_,rfl,by rw [upd_ne (Ne.symm nD)];exact hDz,?_,fun l ys hl0 hp hs=>?_⟩
  ·have:=allS_len (es.map (·.man))
   rw [List.length_map] at this
   omega
  ·exact k l ys _ (same_upd s2 (s2.free hl0)) (s2.free hl0) upd_same hp hs
end
end M
namespace M
open PySem L2 PyProof.Rows
abbrev sUnd:Stmt:=top 24
abbrev sBrd:Stmt:=top 25
abbrev sHel:Stmt:=top 26
abbrev sBnd:Stmt:=top 27
abbrev sChn:Stmt:=top 36
def Ap (q:Ad):Prop:=[q.a1,q.a2,q.a3,q.a4,q.a5,q.B,q.l,q.h,q.o,q.d,q.kn,q.dd].Nodup
theorem ap_ne {l:List Addr} (h:l.Nodup) (i j:Nat) {a b:Addr} (ha:l[i]? = some a) (hb:l[j]? = some b) (hij:i≠j):a≠b:=by
 obtain ⟨h1,e1⟩:=List.getElem?_eq_some_iff.mp ha
 obtain ⟨h2,e2⟩:=List.getElem?_eq_some_iff.mp hb
 intro q
 exact hij ((List.getElem_inj h).mp (by rw [e1,e2,q]))
def spUnd:Sp:=fun vs H Q _=>∃ q es ks e,vs = [.ref q.B,.str e]∧Ap q∧Bk q H es ks∧(nms es).Nodup∧es.length < 64∧∀ (r:Addr) (ss:List Str) (H':Hp),Same H H'→H r = none→H' r = some (.lst (ss.map V.str))→ss.Perm ((es.filter fun y=>decide (y.lord = some e)).map (·.n))→sortedS ss = true→Q (.ref r) H'
def spHel:Sp:=fun vs H Q _=>∃ q es ks m,vs = [.ref q.B,.str m]∧Ap q∧Bk q H es ks∧(nms es).Nodup∧es.length < 64∧∀ (r:Addr) (ss:List Str) (H':Hp),Same H H'→H r = none→H' r = some (.lst (ss.map V.str))→ss.Perm ((es.filter fun y=>decide (y.man = m)).map (·.n))→sortedS ss = true→Q (.ref r) H'
def spChn:Sp:=fun vs H Q _=>∃ q es ks e l,vs = [.ref q.B,.str e]∧Ap q∧Bk q H es ks∧WF es∧e∈nms es∧Ch (loL es) e l∧l.length≤1000∧∀ (r:Addr) (H':Hp),Same H H'→H r = none→H' r = some (.lst (l.map V.str))→Q (.ref r) H'
def spBnd:Sp:=fun vs H Q _=>∃ q es ks m,vs = [.ref q.B,.str m]∧Ap q∧Bk q H es ks∧WF es∧es.length < 64∧∀ (r:Addr) (ss:List Str) (H':Hp),Same H H'→H r = none→H' r = some (.lst (ss.map V.str))→ss.length < 64→Q (.ref r) H'
theorem scal_lord (o:Option Str) (e:Str):scal (lordV o) (V.str e) = true:=by cases o <;> rfl
theorem dec_lord {o:Option Str} {e:Str}:decide (lordV o = V.str e) = decide (o = some e):=decide_eq_decide.mpr lordV_str
theorem BookL.gl {q:Ad} {H:Hp} {es:List Est} {ks:List Str} (b:Bk q H es ks):DGet H q.B (V.str "lords") (some (.ref q.l)):=dget b.b b.vl
theorem BookL.gh {q:Ad} {H:Hp} {es:List Est} {ks:List Str} (b:Bk q H es ks):DGet H q.B (V.str "holders") (some (.ref q.h)):=dget b.b b.vh
theorem BookL.go {q:Ad} {H:Hp} {es:List Est} {ks:List Str} (b:Bk q H es ks):DGet H q.B (V.str "own") (some (.ref q.o)):=dget b.b b.vo
theorem BookL.gd {q:Ad} {H:Hp} {es:List Est} {ks:List Str} (b:Bk q H es ks):DGet H q.B (V.str "due") (some (.ref q.d)):=dget b.b b.vd
theorem BookL.gk {q:Ad} {H:Hp} {es:List Est} {ks:List Str} (b:Bk q H es ks):DGet H q.B (V.str "known") (some (.ref q.kn)):=dget b.b b.vk
theorem BookL.gx {q:Ad} {H:Hp} {es:List Est} {ks:List Str} (b:Bk q H es ks):DGet H q.B (V.str "dead") (some (.ref q.dd)):=dget b.b b.vx
theorem gkv {f:Est→V} {es:List Est} {H:Hp} {a:Addr} {e:Est} (h:H a = some (.dK (kv f es))) (nd:(nms es).Nodup) (he:e∈es):DGet H a (V.str e.n) (some (f e)):=dget h (val_kv nd he)
section
variable {P:Program} {w:World} {K:PySem.W.Frag} {mg:Str→Option Value} {base:Heap} {f C:Addr} {fd:FuncData}
theorem scUnd:FnScope ["_law_book_here", "_law_estate"] ["_law_book_here", "_law_estate"] (defScope sUnd):=⟨rfl,rfl,rfl,by decide +kernel,rfl,by decide +kernel,by decide +kernel⟩
def scUd1:Scope:={ kind:=.function,names:=[(".0",.local),("_law_one",.local),("_law_book_here",.free),("_law_estate",.free)],isGenerator:=false,isCoroutine:=false }
theorem csUd1:CScope ["_law_book_here", "_law_estate"] (defScope sUnd) scUd1 ["_law_one"] ["_law_book_here", "_law_estate"] [0,1]:=⟨rfl,by decide +kernel,by decide +kernel,by decide +kernel,rfl,by decide +kernel⟩
theorem ndUd1:((["_law_one"]:List Str)++(["_law_book_here", "_law_estate"]:List Str)).Nodup:=by decide +kernel
set_option maxHeartbeats 4000000 in
theorem ok_und (ms:mg "sorted" = none) (F:Fun K "_law_under" "_law_under" sUnd f fd):FnOk P w K mg base CX0 1 f fd ["_law_book_here", "_law_estate"] spUnd:=by
 refine F.ok scUnd (fun vs H Q E h=>?_) (fun cdv A outer s H vs Q E hr h=>?_)
 ·obtain ⟨q,es,ks,e,rfl,_⟩:=h
  rfl
 obtain ⟨q,es,ks,e,rfl,ap,bk,nd,hl,k⟩:=h
 refine ⟨_,pss_one (ps_ret (pe_callB call_sortedS rfl ms bt_sorted (pa_cons (pe_frz (pe_comp rfl csUd1 (pi_dict (pe_dget (u1 hr) (pv 0) pe_str (fun _ _=>rfl))) (fun s H fp C'=>⟨pg_name (i:=0) ndUd1 rfl (Or.inl rfl),pts_one (pt_cmpR op_eq (pe_dget (u1 hr) (pe_dget (u1 hr) (pv 1) pe_str (fun _ _=>rfl)) (pv 0) (fun _ _=>rfl)) (pv 2) (nomark _)),pv 0⟩))) pa_nil))),?_⟩
 have nB:q.B≠q.l:=ap_ne ap 5 6 rfl rfl (by decide)
 have gB:∀ {o:Obj} {Hz:Hp},Same (upd H q.l (.frz o (.dK (loL es)))) Hz→DGet Hz q.B (V.str "lords") (some (.ref q.l)):=fun sz=>dget (sz _ _ (by rw [upd_ne nB];exact bk.b)) bk.vl
 refine frz_names (fun y=>decide (y.lord = some e)) bk.l (by omega) (fun o R hR=>⟨_,rfl,q.B,_,rfl,gB (Same.refl _),hR⟩) (fun o y Hz A B hy sz hAB=>?_) (fun D Hz sz hD0 hDz=>?_)
 ·refine ⟨Kp.set rfl (Kp.refl _),_,rfl,q.B,_,rfl,gB sz,_,rfl,q.l,_,rfl,dgetF (sz _ _ upd_same) (val_kv nd hy),_,rfl,scal_lord _ _,_,rfl,?_⟩
  rw [dec_lord]
  refine ite2 (fun c=>?_) (fun c=>?_)
  ·rw [if_pos c] at hAB
   exact ⟨_,rfl,hAB⟩
  ·rw [if_neg c] at hAB
   exact hAB
 ·refine ⟨D,_,rfl,SqL.of hDz,?_,fun l ss hl0 hp hs=>?_⟩
  ·rw [List.length_map]
   exact Nat.lt_of_le_of_lt (List.length_filter_le _ _) hl
  ·exact k l ss _ (same_upd sz (sz.free hl0)) (sz.free hl0) upd_same hp hs
theorem scHel:FnScope ["_law_book_here", "_law_man"] ["_law_book_here", "_law_man"] (defScope sHel):=⟨rfl,rfl,rfl,by decide +kernel,rfl,by decide +kernel,by decide +kernel⟩
def scHl1:Scope:={ kind:=.function,names:=[(".0",.local),("_law_one",.local),("_law_book_here",.free),("_law_man",.free)],isGenerator:=false,isCoroutine:=false }
theorem csHl1:CScope ["_law_book_here", "_law_man"] (defScope sHel) scHl1 ["_law_one"] ["_law_book_here", "_law_man"] [0,1]:=⟨rfl,by decide +kernel,by decide +kernel,by decide +kernel,rfl,by decide +kernel⟩
theorem ndHl1:((["_law_one"]:List Str)++(["_law_book_here", "_law_man"]:List Str)).Nodup:=by decide +kernel
set_option maxHeartbeats 4000000 in
theorem ok_hel (ms:mg "sorted" = none) (F:Fun K "_law_held" "_law_held" sHel f fd):FnOk P w K mg base CX0 1 f fd ["_law_book_here", "_law_man"] spHel:=by
 refine F.ok scHel (fun vs H Q E h=>?_) (fun cdv A outer s H vs Q E hr h=>?_)
 ·obtain ⟨q,es,ks,e,rfl,_⟩:=h
  rfl
 obtain ⟨q,es,ks,m,rfl,ap,bk,nd,hl,k⟩:=h
 refine ⟨_,pss_one (ps_ret (pe_callB call_sortedS rfl ms bt_sorted (pa_cons (pe_frz (pe_comp rfl csHl1 (pi_dict (pe_dget (u1 hr) (pv 0) pe_str (fun _ _=>rfl))) (fun s H fp C'=>⟨pg_name (i:=0) ndHl1 rfl (Or.inl rfl),pts_one (pt_cmpR op_eq (pe_dget (u1 hr) (pe_dget (u1 hr) (pv 1) pe_str (fun _ _=>rfl)) (pv 0) (fun _ _=>rfl)) (pv 2) (nomark _)),pv 0⟩))) pa_nil))),?_⟩
 have nB:q.B≠q.h:=ap_ne ap 5 7 rfl rfl (by decide)
 have gB:∀ {o:Obj} {Hz:Hp},Same (upd H q.h (.frz o (.dK (hoL es)))) Hz→DGet Hz q.B (V.str "holders") (some (.ref q.h)):=fun sz=>dget (sz _ _ (by rw [upd_ne nB];exact bk.b)) bk.vh
 refine frz_names (fun y=>decide (y.man = m)) bk.h (by omega) (fun o R hR=>⟨_,rfl,q.B,_,rfl,gB (Same.refl _),hR⟩) (fun o y Hz A B hy sz hAB=>?_) (fun D Hz sz hD0 hDz=>?_)
 ·refine ⟨Kp.set rfl (Kp.refl _),_,rfl,q.B,_,rfl,gB sz,_,rfl,q.h,_,rfl,dgetF (sz _ _ upd_same) (val_kv nd hy),_,rfl,rfl,_,rfl,?_⟩
  rw [dec_str]
  refine ite2 (fun c=>?_) (fun c=>?_)
  ·rw [if_pos c] at hAB
   exact ⟨_,rfl,hAB⟩
  ·rw [if_neg c] at hAB
   exact hAB
 ·refine ⟨D,_,rfl,SqL.of hDz,?_,fun l ss hl0 hp hs=>?_⟩
  ·rw [List.length_map]
   exact Nat.lt_of_le_of_lt (List.length_filter_le _ _) hl
  ·exact k l ss _ (same_upd sz (sz.free hl0)) (sz.free hl0) upd_same hp hs
theorem scBnd:FnScope ["_law_book_here", "_law_man"] ["_law_book_here", "_law_man"] (defScope sBnd):=⟨rfl,rfl,rfl,by decide +kernel,rfl,by decide +kernel,by decide +kernel⟩
def scBn1:Scope:={ kind:=.function,names:=[(".0",.local),("_law_one",.local),("_law_book_here",.free)],isGenerator:=false,isCoroutine:=false }
theorem csBn1:CScope ["_law_book_here", "_law_man"] (defScope sBnd) scBn1 ["_law_one"] ["_law_book_here"] [0]:=⟨rfl,by decide +kernel,by decide +kernel,by decide +kernel,rfl,by decide +kernel⟩
theorem ndBn1:((["_law_one"]:List Str)++(["_law_book_here"]:List Str)).Nodup:=by decide +kernel
def upMan (es:List Est) (n:Str):Str:=match es.find? fun e=>decide (e.n = n) with
 | some e=>match e.lord with
  | some p=>match es.find? fun e=>decide (e.n = p) with
   | some y=>y.man
   | none=>""
  | none=>""
 | none=>""
set_option maxHeartbeats 4000000 in
theorem ok_bnd (F:Fun K "_law_bound_to" "_law_bound_to" sBnd f fd) {g1:Addr} {d1:FuncData} (G1:FnOk P w K mg base CX0 1 g1 d1 ["_law_book_here", "_law_man"] spHel) (M1:Ms K mg "_law_held" g1 d1 ["_law_book_here", "_law_man"]):FnOk P w K mg base CX0 2 f fd ["_law_book_here", "_law_man"] spBnd:=by
 refine F.ok scBnd (fun vs H Q E h=>?_) (fun cdv A outer s H vs Q E hr h=>?_)
 ·obtain ⟨q,es,ks,e,rfl,_⟩:=h
  rfl
 obtain ⟨q,es,ks,m,rfl,ap,bk,W,hl,k⟩:=h
 refine ⟨_,pss_one (ps_ret (pe_comp rfl csBn1 (pi_list (pe_call G1 hr rfl M1.m M1.k M1.b .nil pass0 (pa_cons (pv 0) (pa_cons (pv 1) pa_nil)))) (fun s H fp C'=>⟨pg_name (i:=0) ndBn1 rfl (Or.inl rfl),pts_one (pt_cmpR op_ne (pv 0) pe_str (nomark _)),pe_dget (u1 hr) (pe_dget (u1 hr) (pv 1) pe_str (fun _ _=>rfl)) (pe_dget (u1 hr) (pe_dget (u1 hr) (pv 1) pe_str (fun _ _=>rfl)) (pv 0) (fun _ _=>rfl)) (fun _ _=>rfl)⟩))),?_⟩
 refine ⟨_,rfl,_,rfl,q,es,ks,m,rfl,ap,bk,W.nd,hl,fun r ss H' s' hr0 hr1 hp hs=>?_⟩
 have hsl:ss.length < 64:=by
  rw [hp.length_eq,List.length_map]
  exact Nat.lt_of_le_of_lt (List.length_filter_le _ _) hl
 refine ⟨r,rfl,⟨_,SqL.of hr1⟩,fun D hD=>comp_strs (xs:=ss) (fun x=>!decide (x = "")) (fun x=>V.str (upMan es x)) (SqL.of hr1) hD (by omega) (fun x Hz A B hx sz hAB=>?_) (fun Hz sz hDz=>?_)⟩
 ·obtain ⟨y,hy,rfl⟩:=List.mem_map.mp (hp.mem_iff.mp hx)
  have hye:=(List.mem_filter.mp hy).1
  have hAB:=hAB _ (Same.refl _)
  refine ⟨Kp.set rfl (Kp.refl _),_,rfl,rfl,_,rfl,?_⟩
  rw [dec_str]
  refine ite2 (fun c=>?_) (fun c=>?_)
  ·rw [if_pos c] at hAB
   have bz:=(bk.same s').same sz
   have hne:y.n≠"":=by
    intro z
    rw [z] at c
    exact absurd c (by decide)
   obtain ⟨p,hp1,hp2,_⟩:=W.lord y hye hne
   obtain ⟨z,hz,hzn⟩:=mem_nms hp2
   have eu:upMan es y.n = z.man:=by
    unfold upMan
    rw [find_e W.nd hye]
    dsimp only
    rw [hp1]
    dsimp only
    rw [← hzn,find_e W.nd hz]
   rw [eu] at hAB
   have g1:=gkv bz.l W.nd hye
   rw [hp1] at g1
   have g2:=gkv bz.h W.nd hz
   rw [hzn] at g2
   exact ⟨_,rfl,q.B,_,rfl,bz.gh,_,rfl,q.B,_,rfl,bz.gl,_,rfl,q.l,_,rfl,g1,q.h,_,rfl,g2,hAB⟩
  ·rw [if_neg c] at hAB
   exact hAB
 ·have hDz':Hz D = some (.lst ((((ss.filter fun x:Str=>!decide (x = "")).map (upMan es))).map V.str)):=by rw [hDz,List.map_map];rfl
  exact k D _ Hz (s'.trans sz) (s'.free hD) hDz' (by rw [List.length_map];exact Nat.lt_of_le_of_lt (List.length_filter_le _ _) hsl)
end
end M
namespace M
open PySem L2 PyProof.Rows
theorem strs_dat {H:Hp}:∀ ss:List Str,DataAll H (ss.map V.str) (ss.map PyData.str)
 | []=>.nil
 | x :: r=>.cons (.str x) (strs_dat r)
theorem strs_layA:∀ {ss:List Str},(∀ s∈ss,PyData.strOk s = true)→PyData.canLayAll0 (ss.map PyData.str) = true
 | [],_=>by simp [PyData.canLayAll0]
 | x :: r,h=>by simp [PyData.canLayAll0,PyData.canLay0,h x List.mem_cons_self,strs_layA fun s hs=>h s (List.mem_cons_of_mem _ hs)]
theorem strs_lay {ss:List Str} (h:∀ s∈ss,PyData.strOk s = true):(PyData.list (ss.map .str)).canLay0 = true:=by
 have:=strs_layA h
 simpa [PyData.canLay0] using this
theorem strs_depA:∀ ss:List Str,PyData.depthAll (ss.map PyData.str)≤2
 | []=>by simp [PyData.depthAll]
 | x :: r=>by
  have:=strs_depA r
  simp [PyData.depthAll,PyData.depth]
  omega
theorem strs_dep (ss:List Str):(PyData.list (ss.map .str)).depth≤8:=by
 have:=strs_depA ss
 simp [PyData.depth]
 omega
theorem strs_nil:∀ ss:List Str,PyData.eqv (.list (ss.map .str)) (.list []) = decide (ss = [])
 | []=>by simp [PyData.eqv,PyData.eqvAll]
 | x :: r=>by simp [PyData.eqv,PyData.eqvAll]
theorem cut_tail (x:V) (xs:List V):cutV (x :: xs) (some 1) none = xs:=by
 unfold cutV
 have e1:HT.sIx (x :: xs).length 0 (some 1) = 1:=by
  unfold HT.sIx
  simp
 have e2:HT.sIx (x :: xs).length (x :: xs).length none = xs.length + 1:=rfl
 rw [e1,e2]
 simp
theorem wt_le:∀ (es:List Est) (n:Str),wt es n≤2 ^ es.length
 | [],_=>Nat.zero_le _
 | x :: r,n=>by
  unfold wt
  rw [List.length_cons,Nat.pow_succ]
  have:=wt_le r n
  have h2:0 < 2 ^ r.length:=Nat.pow_pos (by decide)
  split <;> omega
theorem wt_pos:∀ {es:List Est} {n:Str},n∈nms es→1≤wt es n
 | x :: r,n,h=>by
  unfold wt
  have h2:0 < 2 ^ r.length:=Nat.pow_pos (by decide)
  split
  ·omega
  ·rename_i c
   rcases List.mem_cons.mp h with q | q
   ·exact absurd q.symm c
   ·exact wt_pos q
theorem wt_len {es:List Est}:∀ {ss:List Str},(∀ s∈ss,s∈nms es)→ss.length≤(ss.map (wt es)).sum
 | [],_=>Nat.le_refl _
 | x :: r,h=>by
  have h1:=wt_pos (h x List.mem_cons_self)
  have h2:=wt_len (es:=es) (ss:=r) fun s hs=>h s (List.mem_cons_of_mem _ hs)
  rw [List.length_cons,List.map_cons,List.sum_cons]
  omega
section
variable {P:Program} {w:World} {K:PySem.W.Frag} {mg:Str→Option Value} {base:Heap} {f C:Addr} {fd:FuncData}
theorem scBrd:FnScope ["_law_book_here", "_law_estate", "_law_found", "_law_ahead"] ["_law_book_here", "_law_estate"] (defScope sBrd):=⟨rfl,rfl,rfl,by decide +kernel,rfl,by decide +kernel,by decide +kernel⟩
def spBr:Sp:=fun vs H Q _=>∃ q es ks e,vs = [.ref q.B,.str e.n]∧Ap q∧Bk q H es ks∧WF es∧e∈es∧es.length≤18∧∀ H':Hp,Same H H'→Q (.int e.br) H'
set_option maxHeartbeats 4000000 in
theorem ok_brd (F:Fun K "_law_breadth" "_law_breadth" sBrd f fd) {g1:Addr} {d1:FuncData} (G1:FnOk P w K mg base CX0 1 g1 d1 ["_law_book_here", "_law_estate"] spUnd) (M1:Ms K mg "_law_under" g1 d1 ["_law_book_here", "_law_estate"]):FnOk P w K mg base CX0 2 f fd ["_law_book_here", "_law_estate"] spBr:=by
 refine F.ok scBrd (fun vs H Q E h=>?_) (fun cdv A outer s H vs Q E hr h=>?_)
 ·obtain ⟨q,es,ks,e,rfl,_⟩:=h
  rfl
 obtain ⟨q,es,ks,e,rfl,ap,bk,W,he,hl,k⟩:=h
 refine ⟨_,pss_cons (ps_set (i:=2) scBrd.nd rfl (Or.inl rfl) (pe_dget (u1 hr) (pe_dget (u1 hr) (pv 0) pe_str (fun _ _=>rfl)) (pv 1) (fun _ _=>rfl)))
  (pss_cons (ps_set (i:=3) scBrd.nd rfl (Or.inl rfl) (pe_call G1 hr rfl M1.m M1.k M1.b .nil pass0 (pa_cons (pv 0) (pa_cons (pv 1) pa_nil))))
  (pss_cons (ps_while PassesOwn.never (pt_cmpR (op_neD hr.units) (pv 3) (pe_lst pa_nil) (nomark _))
   (pss_cons (ps_set (i:=2) scBrd.nd rfl (Or.inl rfl) (pe_op op_add (pv 2) (pe_dget (u1 hr) (pe_dget (u1 hr) (pv 0) pe_str (fun _ _=>rfl)) (pe_ix ix_list (pv 3) pe_int (fun _ _=>rfl)) (fun _ _=>rfl))))
   (pss_one (ps_set (i:=3) scBrd.nd rfl (Or.inl rfl) (pe_op op_cat (pe_slice sl_list (pv 3) (po_some pe_int) po_none) (pe_call G1 hr rfl M1.m M1.k M1.b .nil pass0 (pa_cons (pv 0) (pa_cons (pe_ix ix_list (pv 3) pe_int (fun _ _=>rfl)) pa_nil))))))))
  (pss_one (ps_ret (pv 2))))),?_⟩
 have hw:2 ^ es.length≤262144:=Nat.le_trans (Nat.pow_le_pow_right (by decide) hl) (by decide)
 refine ⟨_,rfl,q.B,_,rfl,bk.go,_,rfl,q.o,_,rfl,gkv bk.o W.nd he,?_⟩
 refine ⟨_,rfl,_,rfl,q,es,ks,e.n,rfl,ap,bk,W.nd,by omega,fun t ss H1 s1 ht0 ht1 hp hs=>?_⟩
 refine ⟨fun m σ Hx=>∃ (found:Int) (t:Addr) (ss:List Str),m = (ss.map (wt es)).sum∧σ = [some (.ref q.B),some (.str e.n),some (.int found),some (.ref t)]∧Same H Hx∧Hx t = some (.lst (ss.map V.str))∧(∀ s∈ss,s∈nms es)∧found + (ss.map (brOf es)).sum = e.br∧(ss.map (wt es)).sum≤262144,⟨_,e.own,t,ss,rfl,rfl,s1,ht1,(under_mem W.nd hp).1,?_,?_⟩,?_⟩
 ·rw [under_sum W.nd hp];exact (W.br e he).symm
 ·have:=under_meas W he hp
  have h2:=wt_le es e.n
  omega
 rintro m σ Hx ⟨found,t,ss,rfl,rfl,sx,tx,hm,hf,hb⟩
 refine ⟨_,rfl,small (by simp),fun z hz=>?_⟩
 have sz:=same_new hz (.lst [])
 refine ⟨_,_,.lst (sz _ _ tx) (strs_dat ss),.lst upd_same .nil,strs_lay (fun s hs=>by obtain ⟨y,hy,rfl⟩:=mem_nms (hm s hs);exact W.ok y hy),strs_lay (ss:=[]) (fun _ h=>nomatch h),strs_dep ss,_,rfl,?_⟩
 rw [strs_nil]
 cases ss with
 | nil =>
  refine iteF ⟨_,rfl,?_⟩
  have:found = e.br:=by simpa using hf
  rw [this]
  exact k _ (sx.trans sz)
 | cons x r =>
  refine iteT ?_
  obtain ⟨y,hy,rfl⟩:=mem_nms (hm x List.mem_cons_self)
  have sxz:=sx.trans sz
  have bz:=bk.same sxz
  have tz:=sz _ _ tx
  rw [List.map_cons,List.sum_cons] at hf hb
  have lr:=wt_len (es:=es) (ss:=r) fun s hs=>hm s (List.mem_cons_of_mem _ hs)
  refine ⟨fun σ' H'=>∃ (found:Int) (t:Addr) (ss:List Str),(ss.map (wt es)).sum < wt es y.n + (r.map (wt es)).sum∧σ' = [some (.ref q.B),some (.str e.n),some (.int found),some (.ref t)]∧Same H H'∧H' t = some (.lst (ss.map V.str))∧(∀ s∈ss,s∈nms es)∧found + (ss.map (brOf es)).sum = e.br∧(ss.map (wt es)).sum≤262144,fun σ' H' ⟨fo,t',ss',q1,q2⟩=>⟨_,by rw [List.map_cons,List.sum_cons];exact q1,fo,t',ss',rfl,q2⟩,?_⟩
  refine ⟨_,rfl,_,rfl,q.B,_,rfl,bz.go,_,rfl,t,_,_,_,rfl,rfl,SqL.of tz,atI_nat (j:=0) rfl,q.o,_,rfl,gkv bz.o W.nd hy,_,_,rfl,rfl,?_⟩
  refine ⟨_,rfl,_,rfl,t,_,rfl,SqL.of tz,fun c hc=>?_⟩
  rw [List.map_cons,cut_tail]
  have sc:=same_new hc (.lst (r.map V.str))
  have bc:=bz.same sc
  refine ⟨_,rfl,_,rfl,t,_,_,_,rfl,rfl,SqL.of (sc _ _ tz),atI_nat (j:=0) rfl,q,es,ks,y.n,rfl,ap,bc,W.nd,by omega,fun u su H2 s2 hu0 hu1 hpu hsu=>?_⟩
  have hum:=under_meas W hy hpu
  have hus:=under_sum W.nd hpu
  have humm:=(under_mem W.nd hpu).1
  have lu:=wt_len humm
  refine ⟨c,u,_,_,rfl,rfl,s2 _ _ upd_same,hu1,?_,fun v hv=>?_⟩
  ·rw [List.length_map,List.length_map]
   exact small (by omega)
  have e2:r.map V.str++su.map V.str = (r++su).map V.str:=by rw [List.map_append]
  rw [e2]
  refine ⟨_,v,r++su,?_,rfl,same_upd ((sxz.trans sc).trans s2) (((sxz.trans sc).trans s2).free hv),upd_same,fun s hs=>?_,?_,?_⟩
  ·rw [List.map_append,List.sum_append];omega
  ·rcases List.mem_append.mp hs with z | z
   ·exact hm s (List.mem_cons_of_mem _ z)
   ·exact humm s z
  ·rw [List.map_append,List.sum_append,hus]
   have b1:=brOf_e W.nd hy
   have b2:=W.br y hy
   rw [b1] at hf
   omega
  ·rw [List.map_append,List.sum_append];omega
theorem ch_head {lo:List (Key×V)} {e:Str} {l:List Str} (h:Ch lo e l):∃ r,l = e :: r:=by cases h <;> exact ⟨_,rfl⟩
theorem scChn:FnScope ["_law_book_here", "_law_estate", "_law_found"] ["_law_book_here", "_law_estate"] (defScope sChn):=⟨rfl,rfl,rfl,by decide +kernel,rfl,by decide +kernel,by decide +kernel⟩
theorem last_at (l0:List Str) (y:Str):atI ((l0++[y]).map V.str) (-1) = some (V.str y):=by
 rw [List.map_append];exact atI_last _ _
set_option maxHeartbeats 4000000 in
theorem ok_chn (F:Fun K "_law_chain" "_law_chain" sChn f fd):FnOk P w K mg base CX0 1 f fd ["_law_book_here", "_law_estate"] spChn:=by
 refine F.ok scChn (fun vs H Q E h=>?_) (fun cdv A outer s H vs Q E hr h=>?_)
 ·obtain ⟨q,es,ks,e,l,rfl,_⟩:=h
  rfl
 obtain ⟨q,es,ks,e,l,rfl,ap,bk,W,he,hc,hl,k⟩:=h
 refine ⟨_,pss_cons (ps_set (i:=2) scChn.nd rfl (Or.inl rfl) (pe_lst (pa_cons (pv 1) pa_nil)))
  (pss_cons (ps_while PassesOwn.never (pt_cmpR op_ne (pe_ix ix_list (pv 2) (pe_un un_neg pe_int) (fun _ _=>rfl)) pe_str (nomark _))
   (pss_one (ps_expr (pe_bm PySem.F.plainAttrs_list PySem.F.slot_list_append PySem.F.type_list_append mt_append (pv 2) (pa_cons (pe_dget (u1 hr) (pe_dget (u1 hr) (pv 0) pe_str (fun _ _=>rfl)) (pe_ix ix_list (pv 2) (pe_un un_neg pe_int) (fun _ _=>rfl)) (fun _ _=>rfl)) pa_nil)))))
  (pss_one (ps_ret (pv 2)))),?_⟩
 refine ⟨_,rfl,small (by simp),fun t ht=>?_⟩
 have s1:=same_new ht (.lst [V.str e])
 obtain ⟨r0,hr0⟩:=ch_head hc
 refine ⟨fun m σ Hx=>∃ (pre:List Str) (cur:Str) (rest:List Str),m = rest.length∧l = pre++cur :: rest∧Ch (loL es) cur (cur :: rest)∧cur∈nms es∧σ = [some (.ref q.B),some (.str e),some (.ref t)]∧Same H Hx∧Hx t = some (.lst ((pre++[cur]).map V.str)),⟨_,[],e,r0,rfl,hr0,hr0 ▸ hc,he,rfl,s1,upd_same⟩,?_⟩
 rintro m σ Hx ⟨pre,cur,rest,rfl,hle,hch,hcm,rfl,sx,tx⟩
 have bx:=bk.same sx
 obtain ⟨y,hy,rfl⟩:=mem_nms hcm
 have hvy:=val_kv (f:=fun e=>lordV e.lord) W.nd hy
 refine ⟨_,rfl,_,rfl,t,_,_,_,rfl,rfl,SqL.of tx,last_at pre y.n,rfl,_,rfl,?_⟩
 rw [dec_str]
 by_cases c:y.n = ""
 ·rw [decide_eq_true c]
  refine iteF ⟨_,rfl,?_⟩
  have:rest = []:=by
   generalize hz:y.n :: rest = z at hch
   cases hch with
   | crown _=>injection hz
   | up hv _ =>
    rw [hvy,W.crown y hy c] at hv
    cases hv
  rw [this] at hle
  exact k t Hx sx ht (by rw [tx,hle])
 ·rw [decide_eq_false c]
  obtain ⟨p,hp1,hp2,_⟩:=W.lord y hy c
  have g1:=gkv bx.l W.nd hy
  rw [hp1] at g1
  have hrest:∃ r',rest = p :: r'∧Ch (loL es) p (p :: r'):=by
   generalize hz:y.n :: rest = z at hch
   cases hch with
   | crown hv =>
    rw [hvy,hp1] at hv
    cases hv
   | up hv h2 =>
    rw [hvy,hp1] at hv
    injection hv with hv
    injection hv with hv
    injection hz with _ hz
    obtain ⟨r',hr'⟩:=ch_head h2
    rw [hz]
    rw [hr'] at h2 ⊢
    rw [hv]
    exact ⟨r',rfl,h2⟩
  obtain ⟨r',rfl,hch2⟩:=hrest
  have hlen:pre.length + (r'.length + 2) = l.length:=by rw [hle];simp
  refine iteT ⟨fun σ' H'=>∃ (pre:List Str) (cur:Str) (rest:List Str),rest.length < (p :: r').length∧l = pre++cur :: rest∧Ch (loL es) cur (cur :: rest)∧cur∈nms es∧σ' = [some (.ref q.B),some (.str e),some (.ref t)]∧Same H H'∧H' t = some (.lst ((pre++[cur]).map V.str)),fun σ' H' ⟨a,b,c,q1,q2⟩=>⟨_,q1,a,b,c,rfl,q2⟩,?_⟩
  refine ⟨_,rfl,.inl ⟨rfl,_,SqL.of tx⟩,_,rfl,q.B,_,rfl,bx.gl,_,rfl,_,rfl,t,_,_,_,rfl,rfl,SqL.of tx,last_at pre y.n,q.l,_,rfl,g1,t,_,_,rfl,rfl,tx,?_,?_⟩
  ·rw [List.length_map,List.length_append,List.length_singleton]
   exact small' (by omega)
  ·refine ⟨pre++[y.n],p,r',by rw [List.length_cons];omega,by rw [hle];simp,hch2,hp2,rfl,same_upd sx ht,?_⟩
   rw [upd_same,List.map_append (l₂:=[p])];rfl
end
end M
namespace M
open PySem L2 PyProof.Rows
abbrev sFal:Stmt:=top 29
abbrev sNew:Stmt:=top 31
abbrev BQ (q:Ad) (H:Hp) (lo ho ow du:List (Key×V)) (ks:List Str):Prop:=BookL H q.B q.l q.h q.o q.d q.kn q.dd q.kvs lo ho ow du ks
section
variable {q:Ad} {H:Hp} {lo ho ow du l':List (Key×V)} {ks:List Str}
theorem BookL.ul (ap:Ap q) (b:BQ q H lo ho ow du ks):BQ q (upd H q.l (.dK l')) l' ho ow du ks :=
 ⟨by rw [upd_ne (ap_ne ap 5 6 rfl rfl (by decide))];exact b.b,b.vl,b.vh,b.vo,b.vd,b.vk,b.vx,upd_same,by rw [upd_ne (ap_ne ap 7 6 rfl rfl (by decide))];exact b.h,by rw [upd_ne (ap_ne ap 8 6 rfl rfl (by decide))];exact b.o,by rw [upd_ne (ap_ne ap 9 6 rfl rfl (by decide))];exact b.d,by rw [upd_ne (ap_ne ap 10 6 rfl rfl (by decide))];exact b.k,by rw [upd_ne (ap_ne ap 11 6 rfl rfl (by decide))];exact b.x,b.len⟩
theorem BookL.uh (ap:Ap q) (b:BQ q H lo ho ow du ks):BQ q (upd H q.h (.dK l')) lo l' ow du ks :=
 ⟨by rw [upd_ne (ap_ne ap 5 7 rfl rfl (by decide))];exact b.b,b.vl,b.vh,b.vo,b.vd,b.vk,b.vx,by rw [upd_ne (ap_ne ap 6 7 rfl rfl (by decide))];exact b.l,upd_same,by rw [upd_ne (ap_ne ap 8 7 rfl rfl (by decide))];exact b.o,by rw [upd_ne (ap_ne ap 9 7 rfl rfl (by decide))];exact b.d,by rw [upd_ne (ap_ne ap 10 7 rfl rfl (by decide))];exact b.k,by rw [upd_ne (ap_ne ap 11 7 rfl rfl (by decide))];exact b.x,b.len⟩
theorem BookL.uo (ap:Ap q) (b:BQ q H lo ho ow du ks):BQ q (upd H q.o (.dK l')) lo ho l' du ks :=
 ⟨by rw [upd_ne (ap_ne ap 5 8 rfl rfl (by decide))];exact b.b,b.vl,b.vh,b.vo,b.vd,b.vk,b.vx,by rw [upd_ne (ap_ne ap 6 8 rfl rfl (by decide))];exact b.l,by rw [upd_ne (ap_ne ap 7 8 rfl rfl (by decide))];exact b.h,upd_same,by rw [upd_ne (ap_ne ap 9 8 rfl rfl (by decide))];exact b.d,by rw [upd_ne (ap_ne ap 10 8 rfl rfl (by decide))];exact b.k,by rw [upd_ne (ap_ne ap 11 8 rfl rfl (by decide))];exact b.x,b.len⟩
theorem BookL.ud (ap:Ap q) (b:BQ q H lo ho ow du ks):BQ q (upd H q.d (.dK l')) lo ho ow l' ks :=
 ⟨by rw [upd_ne (ap_ne ap 5 9 rfl rfl (by decide))];exact b.b,b.vl,b.vh,b.vo,b.vd,b.vk,b.vx,by rw [upd_ne (ap_ne ap 6 9 rfl rfl (by decide))];exact b.l,by rw [upd_ne (ap_ne ap 7 9 rfl rfl (by decide))];exact b.h,by rw [upd_ne (ap_ne ap 8 9 rfl rfl (by decide))];exact b.o,upd_same,by rw [upd_ne (ap_ne ap 10 9 rfl rfl (by decide))];exact b.k,by rw [upd_ne (ap_ne ap 11 9 rfl rfl (by decide))];exact b.x,b.len⟩
theorem BookL.uk {ks':List Str} (ap:Ap q) (b:BQ q H lo ho ow du ks):BQ q (upd H q.kn (.lst (ks'.map V.str))) lo ho ow du ks' :=
 ⟨by rw [upd_ne (ap_ne ap 5 10 rfl rfl (by decide))];exact b.b,b.vl,b.vh,b.vo,b.vd,b.vk,b.vx,by rw [upd_ne (ap_ne ap 6 10 rfl rfl (by decide))];exact b.l,by rw [upd_ne (ap_ne ap 7 10 rfl rfl (by decide))];exact b.h,by rw [upd_ne (ap_ne ap 8 10 rfl rfl (by decide))];exact b.o,by rw [upd_ne (ap_ne ap 9 10 rfl rfl (by decide))];exact b.d,upd_same,by rw [upd_ne (ap_ne ap 11 10 rfl rfl (by decide))];exact b.x,b.len⟩
theorem BookL.kl (b:BQ q H lo ho ow du ks):DGet H q.B (V.str "lords") (some (.ref q.l)):=dget b.b b.vl
theorem BookL.kh (b:BQ q H lo ho ow du ks):DGet H q.B (V.str "holders") (some (.ref q.h)):=dget b.b b.vh
theorem BookL.ko (b:BQ q H lo ho ow du ks):DGet H q.B (V.str "own") (some (.ref q.o)):=dget b.b b.vo
theorem BookL.kd (b:BQ q H lo ho ow du ks):DGet H q.B (V.str "due") (some (.ref q.d)):=dget b.b b.vd
theorem BookL.kk (b:BQ q H lo ho ow du ks):DGet H q.B (V.str "known") (some (.ref q.kn)):=dget b.b b.vk
end
def OutB (q:Ad) (H H':Hp):Prop:=∀ c u,c≠q.l→c≠q.h→c≠q.o→c≠q.d→c≠q.kn→H c = some u→H' c = some u
theorem OutB.trans {q:Ad} {H H1 H2:Hp} (a:OutB q H H1) (b:OutB q H1 H2):OutB q H H2:=fun c u h1 h2 h3 h4 h5 e=>b c u h1 h2 h3 h4 h5 (a c u h1 h2 h3 h4 h5 e)
theorem OutB.ul {q:Ad} {H:Hp} {o:HO}:OutB q H (upd H q.l o):=fun c u h1 h2 h3 h4 h5 e=>by rw [upd_ne h1];exact e
theorem OutB.uh {q:Ad} {H:Hp} {o:HO}:OutB q H (upd H q.h o):=fun c u h1 h2 h3 h4 h5 e=>by rw [upd_ne h2];exact e
theorem OutB.uo {q:Ad} {H:Hp} {o:HO}:OutB q H (upd H q.o o):=fun c u h1 h2 h3 h4 h5 e=>by rw [upd_ne h3];exact e
theorem OutB.ud {q:Ad} {H:Hp} {o:HO}:OutB q H (upd H q.d o):=fun c u h1 h2 h3 h4 h5 e=>by rw [upd_ne h4];exact e
theorem OutB.uk {q:Ad} {H:Hp} {o:HO}:OutB q H (upd H q.kn o):=fun c u h1 h2 h3 h4 h5 e=>by rw [upd_ne h5];exact e
theorem OutB.same {q:Ad} {H H':Hp} (s:Same H H'):OutB q H H':=fun c u _ _ _ _ _ e=>s c u e
theorem out_tup {q:Ad} {H H':Hp} {lo ho ow du:List (Key×V)} {ks:List Str} {r:Addr} {xs:List V} (b:BQ q H lo ho ow du ks) (o:OutB q H H') (h:H r = some (.tup xs)):H' r = some (.tup xs) :=
 o r _ (ne_of h b.l (by intro z;cases z)) (ne_of h b.h (by intro z;cases z)) (ne_of h b.o (by intro z;cases z)) (ne_of h b.d (by intro z;cases z)) (ne_of h b.k (by intro z;cases z)) h
def spNew:Sp:=fun vs H Q _=>∃ q lo ho ow du ks r xs e n man lord due,∃ a own:Int,vs = [.ref q.B,.ref r,.str lord,.ref due]∧Ap q∧BQ q H lo ho ow du ks∧H r = some (.tup xs)∧xs[2]? = some (.str e)∧xs[3]? = some (.str n)∧xs[4]? = some (.str man)∧xs[5]? = some (.int a) ∧
 valV (putK ow (.inr n) (.int a)) (.inr e) = some (.int own)∧lo.length≤800∧ho.length≤800∧ow.length≤800∧du.length≤800∧ks.length≤800 ∧
 ∀ H':Hp,BQ q H' (putK lo (.inr n) (.str lord)) (putK ho (.inr n) (.str man)) (putK (putK ow (.inr n) (.int a)) (.inr e) (.int (own - a))) (putK du (.inr n) (.ref due)) (ks++[n])→OutB q H H'→Q .non H'
def spFl:Sp:=fun vs H Q _=>∃ q es ks e0 p,vs = [.ref q.B,.str e0.n]∧Ap q∧Bk q H es ks∧WF es∧e0∈es∧e0.n≠""∧e0.lord = some p∧es.length < 64∧∀ H':Hp,Bk q H' (fallE e0.n p e0.own es) ks→OutB q H H'→Q .non H'
section
variable {P:Program} {w:World} {K:PySem.W.Frag} {mg:Str→Option Value} {base:Heap} {f C:Addr} {fd:FuncData}
theorem scNew:FnScope ["_law_book_here", "_law_row_here", "_law_lord", "_law_due"] ["_law_book_here", "_law_row_here", "_law_lord", "_law_due"] (defScope sNew):=⟨rfl,rfl,rfl,by decide +kernel,rfl,by decide +kernel,by decide +kernel⟩
set_option maxHeartbeats 8000000 in
theorem ok_new (F:Fun K "_law_new" "_law_new" sNew f fd):FnOk P w K mg base CX0 1 f fd ["_law_book_here", "_law_row_here", "_law_lord", "_law_due"] spNew:=by
 refine F.ok scNew (fun vs H Q E h=>?_) (fun cdv A outer s H vs Q E hr h=>?_)
 ·obtain ⟨q,lo,ho,ow,du,ks,r,xs,e,n,man,lord,due,a,own,rfl,_⟩:=h
  rfl
 obtain ⟨q,lo,ho,ow,du,ks,r,xs,e,n,man,lord,due,a,own,rfl,ap,bk,hx,x2,x3,x4,x5,hown,l1,l2,l3,l4,l5,k⟩:=h
 refine ⟨_,pss_cons (ps_dput (u1 hr) (pe_dget (u1 hr) (pv 0) pe_str (fun _ _=>rfl)) (pe_ix ix_tup (pv 1) pe_int (fun _ _=>rfl)) (pv 2) rfl)
  (pss_cons (ps_dput (u1 hr) (pe_dget (u1 hr) (pv 0) pe_str (fun _ _=>rfl)) (pe_ix ix_tup (pv 1) pe_int (fun _ _=>rfl)) (pe_ix ix_tup (pv 1) pe_int (fun _ _=>rfl)) rfl)
  (pss_cons (ps_dput (u1 hr) (pe_dget (u1 hr) (pv 0) pe_str (fun _ _=>rfl)) (pe_ix ix_tup (pv 1) pe_int (fun _ _=>rfl)) (pe_ix ix_tup (pv 1) pe_int (fun _ _=>rfl)) rfl)
  (pss_cons (ps_dput (u1 hr) (pe_dget (u1 hr) (pv 0) pe_str (fun _ _=>rfl)) (pe_ix ix_tup (pv 1) pe_int (fun _ _=>rfl)) (pv 3) rfl)
  (pss_cons (ps_daug (u1 hr) (pe_dget (u1 hr) (pv 0) pe_str (fun _ _=>rfl)) (pe_ix ix_tup (pv 1) pe_int (fun _ _=>rfl)) (pe_ix ix_tup (pv 1) pe_int (fun _ _=>rfl)) in_sub (fun _ _ _=>rfl))
  (pss_one (ps_expr (pe_bm PySem.F.plainAttrs_list PySem.F.slot_list_append PySem.F.type_list_append mt_append (pe_dget (u1 hr) (pv 0) pe_str (fun _ _=>rfl)) (pa_cons (pe_ix ix_tup (pv 1) pe_int (fun _ _=>rfl)) pa_nil)))))))),?_⟩
 refine ⟨_,rfl,_,rfl,q.B,_,rfl,bk.kl,_,rfl,r,_,_,_,rfl,rfl,SqT.of hx,atI_nat (j:=3) x3,q.l,_,rfl,DPut.k (k:=.inr n) bk.l (small' (by omega)),?_⟩
 have b1:=bk.ul (l':=putK lo (.inr n) (.str lord)) ap
 have o1:OutB q H (upd H q.l (.dK (putK lo (.inr n) (.str lord)))):=OutB.ul
 have hx1:=out_tup bk o1 hx
 generalize upd H q.l (.dK (putK lo (.inr n) (.str lord))) = H1 at b1 o1 hx1 ⊢
 refine ⟨_,rfl,r,_,_,_,rfl,rfl,SqT.of hx1,atI_nat (j:=4) x4,_,rfl,q.B,_,rfl,b1.kh,_,rfl,r,_,_,_,rfl,rfl,SqT.of hx1,atI_nat (j:=3) x3,q.h,_,rfl,DPut.k (k:=.inr n) b1.h (small' (by omega)),?_⟩
 have b2:=b1.uh (l':=putK ho (.inr n) (.str man)) ap
 have o2:=o1.trans (OutB.uh (H:=H1) (o:=.dK (putK ho (.inr n) (.str man))))
 have hx2:=out_tup bk o2 hx
 generalize upd H1 q.h (.dK (putK ho (.inr n) (.str man))) = H2 at b2 o2 hx2 ⊢
 refine ⟨_,rfl,r,_,_,_,rfl,rfl,SqT.of hx2,atI_nat (j:=5) x5,_,rfl,q.B,_,rfl,b2.ko,_,rfl,r,_,_,_,rfl,rfl,SqT.of hx2,atI_nat (j:=3) x3,q.o,_,rfl,DPut.k (k:=.inr n) b2.o (small' (by omega)),?_⟩
 have b3:=b2.uo (l':=putK ow (.inr n) (.int a)) ap
 have o3:=o2.trans (OutB.uo (H:=H2) (o:=.dK (putK ow (.inr n) (.int a))))
 have hx3:=out_tup bk o3 hx
 generalize upd H2 q.o (.dK (putK ow (.inr n) (.int a))) = H3 at b3 o3 hx3 ⊢
 refine ⟨_,rfl,_,rfl,q.B,_,rfl,b3.kd,_,rfl,r,_,_,_,rfl,rfl,SqT.of hx3,atI_nat (j:=3) x3,q.d,_,rfl,DPut.k (k:=.inr n) b3.d (small' (by omega)),?_⟩
 have b4:=b3.ud (l':=putK du (.inr n) (.ref due)) ap
 have o4:=o3.trans (OutB.ud (H:=H3) (o:=.dK (putK du (.inr n) (.ref due))))
 have hx4:=out_tup bk o4 hx
 generalize upd H3 q.d (.dK (putK du (.inr n) (.ref due))) = H4 at b4 o4 hx4 ⊢
 have hl3:=length_putK ow (.inr n) (.int a)
 refine ⟨_,rfl,q.B,_,rfl,b4.ko,_,rfl,r,_,_,_,rfl,rfl,SqT.of hx4,atI_nat (j:=2) x2,q.o,_,rfl,dget b4.o hown,_,rfl,r,_,_,_,rfl,rfl,SqT.of hx4,atI_nat (j:=5) x5,_,_,rfl,rfl,_,DPut.k (k:=.inr e) b4.o (small' (by omega)),?_⟩
 have b5:=b4.uo (l':=putK (putK ow (.inr n) (.int a)) (.inr e) (.int (own - a))) ap
 have o5:=o4.trans (OutB.uo (H:=H4) (o:=.dK (putK (putK ow (.inr n) (.int a)) (.inr e) (.int (own - a)))))
 have hx5:=out_tup bk o5 hx
 generalize upd H4 q.o (.dK (putK (putK ow (.inr n) (.int a)) (.inr e) (.int (own - a)))) = H5 at b5 o5 hx5 ⊢
 refine ⟨_,rfl,q.B,_,rfl,b5.kk,.inl ⟨rfl,_,SqL.of b5.k⟩,_,rfl,r,_,_,_,rfl,rfl,SqT.of hx5,atI_nat (j:=3) x3,q.kn,_,_,rfl,rfl,b5.k,(by rw [List.length_map];exact small' (by omega)),?_⟩
 have e1:ks.map V.str++[V.str n] = (ks++[n]).map V.str:=by rw [List.map_append];rfl
 rw [e1]
 exact k _ (b5.uk ap) (o5.trans OutB.uk)
theorem scFal:FnScope ["_law_book_here", "_law_estate", "_law_lord", "_law_one"] ["_law_book_here", "_law_estate"] (defScope sFal):=⟨rfl,rfl,rfl,by decide +kernel,rfl,by decide +kernel,by decide +kernel⟩
theorem ne_of_none' {H:Hp} {a b:Addr} {o:HO} (h:H a = none) (h2:H b = some o):a≠b:=fun q=>by rw [q,h2] at h;cases h
theorem isD {H:Hp} {a:Addr} {kvs:List (Key×V)} (h:H a = some (.dK kvs)):IsD H a:=.inl ⟨kvs,.inl h⟩
set_option maxHeartbeats 8000000 in
theorem ok_fl (F:Fun K "_law_fall" "_law_fall" sFal f fd) {g1:Addr} {d1:FuncData} (G1:FnOk P w K mg base CX0 1 g1 d1 ["_law_book_here", "_law_estate"] spUnd) (M1:Ms K mg "_law_under" g1 d1 ["_law_book_here", "_law_estate"]):FnOk P w K mg base CX0 2 f fd ["_law_book_here", "_law_estate"] spFl:=by
 refine F.ok scFal (fun vs H Q E h=>?_) (fun cdv A outer s H vs Q E hr h=>?_)
 ·obtain ⟨q,es,ks,e0,p,rfl,_⟩:=h
  rfl
 obtain ⟨q,es,ks,e0,p,rfl,ap,bk,W,he,hne,hp,hl,k⟩:=h
 refine ⟨_,pss_cons (ps_set (i:=2) scFal.nd rfl (Or.inl rfl) (pe_dpop1 (pe_dget (u1 hr) (pv 0) pe_str (fun _ _=>rfl)) (pv 1) ⟨rfl,rfl,rfl,rfl⟩))
  (pss_cons (ps_daug (u1 hr) (pe_dget (u1 hr) (pv 0) pe_str (fun _ _=>rfl)) (pv 2) (pe_dpop1 (pe_dget (u1 hr) (pv 0) pe_str (fun _ _=>rfl)) (pv 1) ⟨rfl,rfl,rfl,rfl⟩) in_add (fun _ _ _=>rfl))
  (pss_cons (ps_expr (pe_dpop1 (pe_dget (u1 hr) (pv 0) pe_str (fun _ _=>rfl)) (pv 1) ⟨rfl,rfl,rfl,rfl⟩))
  (pss_cons (ps_expr (pe_dpop1 (pe_dget (u1 hr) (pv 0) pe_str (fun _ _=>rfl)) (pv 1) ⟨rfl,rfl,rfl,rfl⟩))
  (pss_one (ps_for PassesOwn.never rfl (pi_list (pe_call G1 hr rfl M1.m M1.k M1.b .nil pass0 (pa_cons (pv 0) (pa_cons (pv 1) pa_nil)))) (pg_name (i:=3) scFal.nd rfl (Or.inl rfl)) (pss_one (ps_dput (u1 hr) (pe_dget (u1 hr) (pv 0) pe_str (fun _ _=>rfl)) (pv 3) (pv 2) rfl))))))),?_⟩
 obtain ⟨p',hp',hpm,hpn⟩:=W.lord e0 he hne
 obtain rfl:p = p':=by rw [hp] at hp';injection hp'
 obtain ⟨y0,hy0,hyn⟩:=mem_nms hpm
 have v1:=val_kv (f:=fun e=>lordV e.lord) W.nd he
 rw [hp] at v1
 refine ⟨_,rfl,q.B,_,rfl,bk.kl,q.l,rfl,isD bk.l,_,rfl,_,.inr e0.n,_,bk.l,rfl,v1,?_⟩
 rw [drop_kv]
 have b1:=BookL.ul (l':=loL (es.filter fun y=>decide (y.n≠e0.n))) ap bk
 have o1:OutB q H (upd H q.l (.dK (loL (es.filter fun y=>decide (y.n≠e0.n))))):=OutB.ul
 generalize upd H q.l (.dK (loL (es.filter fun y=>decide (y.n≠e0.n)))) = H1 at b1 o1 ⊢
 have gp:=gkv b1.o W.nd hy0
 rw [hyn] at gp
 refine ⟨_,rfl,q.B,_,rfl,b1.ko,_,rfl,q.o,_,rfl,gp,_,rfl,q.B,_,rfl,b1.ko,q.o,rfl,isD b1.o,_,rfl,_,.inr e0.n,_,b1.o,rfl,val_kv W.nd he,?_⟩
 rw [drop_kv]
 have b2:=b1.uo (l':=owL (es.filter fun y=>decide (y.n≠e0.n))) ap
 have o2:=o1.trans (OutB.uo (H:=H1) (o:=.dK (owL (es.filter fun y=>decide (y.n≠e0.n)))))
 generalize upd H1 q.o (.dK (owL (es.filter fun y=>decide (y.n≠e0.n)))) = H2 at b2 o2 ⊢
 have fl:(es.filter fun y=>decide (y.n≠e0.n)).length≤es.length:=List.length_filter_le _ _
 refine ⟨_,_,rfl,rfl,_,DPut.k (k:=.inr p) b2.o (by rw [kv_len];exact small' (by omega)),?_⟩
 rw [fall_own2 W.nd hy0 hyn hpn]
 have b3:=b2.uo (l':=owL (fallE e0.n p e0.own es)) ap
 have o3:=o2.trans (OutB.uo (H:=H2) (o:=.dK (owL (fallE e0.n p e0.own es))))
 generalize upd H2 q.o (.dK (owL (fallE e0.n p e0.own es))) = H3 at b3 o3 ⊢
 refine ⟨_,rfl,q.B,_,rfl,b3.kh,q.h,rfl,isD b3.h,_,rfl,_,.inr e0.n,_,b3.h,rfl,val_kv W.nd he,?_⟩
 rw [drop_kv]
 have b4:=b3.uh (l':=hoL (es.filter fun y=>decide (y.n≠e0.n))) ap
 have o4:=o3.trans (OutB.uh (H:=H3) (o:=.dK (hoL (es.filter fun y=>decide (y.n≠e0.n)))))
 generalize upd H3 q.h (.dK (hoL (es.filter fun y=>decide (y.n≠e0.n)))) = H4 at b4 o4 ⊢
 refine ⟨_,rfl,q.B,_,rfl,b4.kd,q.d,rfl,isD b4.d,_,rfl,_,.inr e0.n,_,b4.d,rfl,val_kv W.nd he,?_⟩
 rw [drop_kv]
 have b5:=b4.ud (l':=duL (es.filter fun y=>decide (y.n≠e0.n))) ap
 have o5:=o4.trans (OutB.ud (H:=H4) (o:=.dK (duL (es.filter fun y=>decide (y.n≠e0.n)))))
 generalize upd H4 q.d (.dK (duL (es.filter fun y=>decide (y.n≠e0.n)))) = H5 at b5 o5 ⊢
 have nd1:(nms (es.filter fun y=>decide (y.n≠e0.n))).Nodup:=(List.filter_sublist.map _).nodup W.nd
 generalize hes1:(es.filter fun y=>decide (y.n≠e0.n)) = es1 at b5 nd1 fl
 let g2:Est→Est:=fun y=>{ y with own:=if y.n = p then y.own + e0.own else y.own }
 have m1:loL (es1.map g2) = loL es1:=kv_map (g:=g2) fun _=>rfl
 have m2:hoL (es1.map g2) = hoL es1:=kv_map (g:=g2) fun _=>rfl
 have m3:owL (es1.map g2) = owL (fallE e0.n p e0.own es):=by
  unfold fallE
  rw [hes1]
  show kv _ (es1.map g2) = kv _ (es1.map _)
  rw [kv_map (g:=g2) (fun _=>rfl),kv_map (g:=fal e0.n p e0.own) (fun _=>rfl)]
  rfl
 have m4:duL (es1.map g2) = duL es1:=kv_map (g:=g2) fun _=>rfl
 have b6:Bk q H5 (es1.map g2) ks:=by
  show BQ q H5 (loL (es1.map g2)) (hoL (es1.map g2)) (owL (es1.map g2)) (duL (es1.map g2)) ks
  rw [m1,m2,m3,m4]
  exact b5
 have nd2:(nms (es1.map g2)).Nodup:=by
  have:nms (es1.map g2) = nms es1:=by
   show (es1.map g2).map _ = _
   rw [List.map_map]
   rfl
  rw [this];exact nd1
 refine ⟨_,rfl,_,rfl,q,es1.map g2,ks,e0.n,rfl,ap,b6,nd2,by rw [List.length_map];omega,fun r ss H6 s6 hr0 hr1 hpp hs=>?_⟩
 have hpp1:ss.Perm ((es1.filter fun y=>decide (y.lord = some e0.n)).map (·.n)):=by
  rw [List.filter_map,List.map_map] at hpp
  exact hpp
 have hsl:ss.length≤es1.length:=by
  rw [hpp1.length_eq,List.length_map]
  exact List.length_filter_le _ _
 have b7:=b5.same s6
 have o6:=o5.trans (OutB.same (q:=q) s6)
 refine ⟨r,rfl,⟨_,SqL.of hr1⟩,for_list (K:=K) (a:=r) (xs:=ss.map V.str) (fun i σ Hx=>(∃ u3,σ = [some (.ref q.B),some (.str e0.n),some (.str p),u3])∧Hx r = some (.lst (ss.map V.str))∧BQ q Hx (moved (loL es1) (ss.take i) p) (hoL es1) (owL (fallE e0.n p e0.own es)) (duL es1) ks∧OutB q H Hx∧r≠q.l)
  ⟨⟨none,rfl⟩,hr1,b7,o6,ne_of_none' hr0 b5.l⟩ (fun i σ Hx _ h=>SqL.of h.2.1) ?_ ?_⟩
 ·rintro i v σ Hx hv ⟨⟨u3,rfl⟩,rx,bx,ox,nr⟩
  rw [List.getElem?_map] at hv
  obtain ⟨n,hn,rfl⟩:=Option.map_eq_some_iff.mp hv
  have hml:=moved_len (loL es1) p (ss.take i)
  rw [List.length_take,kv_len] at hml
  refine ⟨_,rfl,_,rfl,q.B,_,rfl,bx.kl,_,rfl,q.l,_,rfl,DPut.k (k:=.inr n) bx.l (small' (by omega)),?_⟩
  have em:moved (loL es1) (ss.take (i + 1)) p = putK (moved (loL es1) (ss.take i) p) (.inr n) (.str p):=by rw [List.take_add_one,hn];exact moved_snoc _ _ _ _
  refine ⟨⟨_,rfl⟩,by rw [upd_ne nr];exact rx,?_,ox.trans OutB.ul,nr⟩
  rw [em]
  exact bx.ul ap
 ·rintro σ Hx ⟨⟨u3,rfl⟩,rx,bx,ox,nr⟩
  rw [List.length_map,List.take_length] at bx
  subst hes1
  rw [fall_book (a:=e0.own) W.nd hpp1] at bx
  refine k Hx ?_ ox
  have f1:hoL (fallE e0.n p e0.own es) = hoL (es.filter fun y=>decide (y.n≠e0.n)):=kv_map (g:=fal e0.n p e0.own) fun _=>rfl
  have f2:duL (fallE e0.n p e0.own es) = duL (es.filter fun y=>decide (y.n≠e0.n)):=kv_map (g:=fal e0.n p e0.own) fun _=>rfl
  show BQ q Hx (loL (fallE e0.n p e0.own es)) (hoL (fallE e0.n p e0.own es)) (owL (fallE e0.n p e0.own es)) (duL (fallE e0.n p e0.own es)) ks
  rw [f1,f2]
  exact bx
end
end M
namespace M
open PySem L2 PyProof.Rows
inductive Rw
 | grant (e n m:Str) (a s:Int)
 | part (e n m:Str) (a:Int)
 | convey (e m:Str)
 | surr (e:Str)
def Rw.vs:Rw→List V
 | .grant e n m a s=>[.str "grant",.int 0,.str e,.str n,.str m,.int a,.int s]
 | .part e n m a=>[.str "part",.int 0,.str e,.str n,.str m,.int a]
 | .convey e m=>[.str "convey",.int 0,.str e,.str m]
 | .surr e=>[.str "surrender",.int 0,.str e]
def Rw.Ok (ls:List Str):Rw→Prop
 | .grant _ n _ a s=>n∈ls∧1≤a∧a≤9999∧0≤s∧s≤9999
 | .part e n _ a=>n∈ls∧1≤a∧a≤9999∧e≠""
 | .convey e _=>e≠""
 | .surr e=>e≠""
def Stands (es:List Est) (ks:List Str) (y:Est):Rw→Prop
 | .grant e n _ a _=>y∈es∧y.n = e∧n ∉ ks∧a≤y.own
 | .part e n _ a=>y∈es∧y.n = e∧n ∉ ks∧a≤y.own
 | .convey e _=>y∈es∧y.n = e
 | .surr e=>y∈es∧y.n = e
def gGr (a:Int) (y:Est):Est:={ y with own:=y.own - a }
def gPa (a:Int) (t b:Addr) (y:Est):Est:={ y with own:=y.own - a,br:=y.br - a,due:=frt (y.due.1 * (y.br - a)) (y.due.2 * y.br),ta:=t,tb:=b }
def gCo (m:Str) (y:Est):Est:={ y with man:=m }
def xGr (e n m:Str) (a s:Int) (t b:Addr):Est:=⟨n,some e,m,a,a,(s,1),t,b⟩
def xPa (y:Est) (n m:Str) (a:Int) (t b:Addr):Est:=⟨n,y.lord,m,a,a,frt (y.due.1 * a) (y.due.2 * y.br),t,b⟩
def stp (y:Est) (es:List Est) (t1 t2 b1 b2:Addr):Rw→List Est
 | .grant _ n m a s=>mod y.n (gGr a) es++[xGr y.n n m a s t1 b1]
 | .part _ n m a=>mod y.n (gPa a t2 b2) es++[xPa y n m a t1 b1]
 | .convey _ m=>mod y.n (gCo m) es
 | .surr _=>fallE y.n (y.lord.getD "") y.own es
def stK (ks:List Str):Rw→List Str
 | .grant _ n _ _ _=>ks++[n]
 | .part _ n _ _=>ks++[n]
 | _=>ks
theorem mod_put {f:Est→V} {es:List Est} {y:Est} {g:Est→Est} (hg:∀ e,(g e).n = e.n) (nd:(nms es).Nodup) (hy:y∈es):kv f (mod y.n g es) = putK (kv f es) (.inr y.n) (f (g y)):=by
 rw [kv_mod hg,put_in (List.mem_map.mpr ⟨y,hy,rfl⟩)]
 refine kv_congr fun e he=>?_
 split
 ·rename_i c
  rw [eq_of_n nd he hy c]
 ·rfl
theorem snoc_put {f:Est→V} {es:List Est} {n:Str} {g:Est→Est} {x:Est} (hg:∀ e,(g e).n = e.n) (h:x.n ∉ nms es):kv f (mod n g es++[x]) = putK (kv f (mod n g es)) (.inr x.n) (f x):=by
 rw [kv_app,put_new (by rw [nms_mod hg];exact h)]
theorem put_swap {f:Est→V} {es:List Est} {e n:Str} {u v:V} (he:e∈nms es) (hn:n ∉ nms es):putK (putK (kv f es) (.inr n) v) (.inr e) u = putK (putK (kv f es) (.inr e) u) (.inr n) v:=by
 have ne:n≠e:=fun z=>hn (z ▸ he)
 rw [put_new hn,put_in he,put_new hn]
 unfold putK
 have ha:((kv f es++[(Sum.inr n,v)]).any fun x=>decide (x.1 = Sum.inr e)) = true:=by
  rw [List.any_append,kv_any,decide_eq_true he];rfl
 rw [if_pos ha,List.map_append,List.map_map]
 congr 1
 ·refine List.map_congr_left fun y _=>?_
  show (if (Sum.inr y.n:Key) = .inr e then (Sum.inr y.n,u) else (Sum.inr y.n,f y)) = (Sum.inr y.n,if y.n = e then u else f y)
  by_cases q:y.n = e
  ·rw [if_pos (key_eq.mpr q),if_pos q]
  ·rw [if_neg (fun z=>q (key_eq.mp z)),if_neg q]
 ·show [if (Sum.inr n:Key) = .inr e then (Sum.inr n,u) else (Sum.inr n,v)] = _
  rw [if_neg fun z=>ne (key_eq.mp z)]
structure Rel (C:Addr) (q:Ad) (H:Hp) (es:List Est) (ks:List Str) (ls:List Str) (j:Nat):Prop where
 ap:Ap q
 L:Ln C q H es
 B:Bk q H es ks
 W:WF es
 fr:∀ e∈es,Fr2 H e.ta e.due.1 e.due.2∧Fr2 H e.tb e.due.1 e.due.2∧Bd (10 + 5 * j) e.due
 kn:∀ e∈es,e.n≠""→e.n∈ks
 ln:es.length≤1 + j
 lk:ks.length≤j
 nl:∀ e∈es,e.n = ""∨e.n∈ls
 tot:(es.map (·.own)).sum = q.wd
theorem Rel.same {C:Addr} {q:Ad} {H H':Hp} {es:List Est} {ks ls:List Str} {j:Nat} (r:Rel C q H es ks ls j) (s:Same H H'):Rel C q H' es ks ls j :=
 ⟨r.ap,r.L.same s,r.B.same s,r.W,fun e he=>⟨s _ _ (r.fr e he).1,s _ _ (r.fr e he).2.1,(r.fr e he).2.2⟩,r.kn,r.ln,r.lk,r.nl,r.tot⟩
theorem Rel.up {C:Addr} {q:Ad} {H:Hp} {es:List Est} {ks ls:List Str} {j k:Nat} (r:Rel C q H es ks ls j) (h:j≤k):Rel C q H es ks ls k :=
 ⟨r.ap,r.L,r.B,r.W,fun e he=>⟨(r.fr e he).1,(r.fr e he).2.1,(r.fr e he).2.2.mono (by omega)⟩,r.kn,by have:=r.ln;omega,by have:=r.lk;omega,r.nl,r.tot⟩
theorem Rel.ten {C:Addr} {q:Ad} {H:Hp} {es:List Est} {ks ls:List Str} {j:Nat} (r:Rel C q H es ks ls j) (h:ls.length = 9):es.length≤10:=by
 have:=sub_len (l:=nms es) (m:=("" : Str) :: ls) r.W.nd fun x hx=>by
  obtain ⟨y,hy,rfl⟩:=mem_nms hx
  rcases r.nl y hy with z | z
  ·rw [z];exact List.mem_cons_self
  ·exact List.mem_cons_of_mem _ z
 rw [List.length_map,List.length_cons] at this
 omega
theorem Rel.new {C:Addr} {q:Ad} {H:Hp} {es:List Est} {ks ls:List Str} {j:Nat} (r:Rel C q H es ks ls j) {n:Str} (h:n ∉ ks) (h0:n≠""):n ∉ nms es:=fun c=>by
 obtain ⟨y,hy,rfl⟩:=mem_nms c
 exact h (r.kn y hy h0)
theorem stp_nl {C:Addr} {q:Ad} {H:Hp} {es:List Est} {ks ls:List Str} {j:Nat} {rw':Rw} {y:Est} {t1 t2 b1 b2:Addr} (r:Rel C q H es ks ls j) (hok:rw'.Ok ls):∀ e∈stp y es t1 t2 b1 b2 rw',e.n = ""∨e.n∈ls:=by
 intro z hz
 cases rw' with
 | grant e n m a s =>
  rcases List.mem_append.mp hz with c | c
  ·obtain ⟨z0,h0,rfl⟩:=mem_mod c
   have e1:(if z0.n = y.n then gGr a z0 else z0).n = z0.n:=by split <;> rfl
   rw [e1];exact r.nl z0 h0
  ·rw [List.mem_singleton.mp c];exact .inr hok.1
 | part e n m a =>
  rcases List.mem_append.mp hz with c | c
  ·obtain ⟨z0,h0,rfl⟩:=mem_mod c
   have e1:(if z0.n = y.n then gPa a t2 b2 z0 else z0).n = z0.n:=by split <;> rfl
   rw [e1];exact r.nl z0 h0
  ·rw [List.mem_singleton.mp c];exact .inr hok.1
 | convey e m =>
  obtain ⟨z0,h0,rfl⟩:=mem_mod hz
  have e1:(if z0.n = y.n then gCo m z0 else z0).n = z0.n:=by split <;> rfl
  rw [e1];exact r.nl z0 h0
 | surr e =>
  obtain ⟨z0,h0,rfl⟩:=List.mem_map.mp hz
  exact r.nl z0 (List.mem_filter.mp h0).1
theorem own_mod {es:List Est} {y:Est} {g:Est→Est} (nd:(nms es).Nodup) (hy:y∈es):((mod y.n g es).map (·.own)).sum = (es.map (·.own)).sum - y.own + (g y).own:=by
 unfold mod
 rw [List.map_map,sum_one (F:=(·.own)) (e0:=y) nd hy fun z _ ne=>?_]
 ·show _ - y.own + (if y.n = y.n then g y else y).own = _
  rw [if_pos rfl]
 ·show (if z.n = y.n then g z else z).own = z.own
  rw [if_neg ne]
theorem stp_tot {es:List Est} {ks ls:List Str} {rw':Rw} {y:Est} {t1 t2 b1 b2:Addr} (W:WF es) (hst:Stands es ks y rw') (hok:rw'.Ok ls):((stp y es t1 t2 b1 b2 rw').map (·.own)).sum = (es.map (·.own)).sum:=by
 cases rw' with
 | grant e n m a s =>
  obtain ⟨hy,rfl,_⟩:=hst
  show ((mod y.n (gGr a) es++[xGr y.n n m a s t1 b1]).map (·.own)).sum = _
  rw [List.map_append,List.sum_append,own_mod W.nd hy]
  show _ - y.own + (y.own - a) + (a + 0) = _
  omega
 | part e n m a =>
  obtain ⟨hy,rfl,_⟩:=hst
  show ((mod y.n (gPa a t2 b2) es++[xPa y n m a t1 b1]).map (·.own)).sum = _
  rw [List.map_append,List.sum_append,own_mod W.nd hy]
  show _ - y.own + (y.own - a) + (a + 0) = _
  omega
 | convey e m =>
  obtain ⟨hy,rfl⟩:=hst
  show ((mod y.n (gCo m) es).map (·.own)).sum = _
  rw [own_mod W.nd hy]
  show _ - y.own + y.own = _
  omega
 | surr e =>
  obtain ⟨hy,rfl⟩:=hst
  obtain ⟨p,hp,hpm,hpn⟩:=W.lord y hy hok
  obtain ⟨z,hz,hzn⟩:=mem_nms hpm
  have ep:y.lord.getD "" = p:=by rw [hp];rfl
  show ((fallE y.n (y.lord.getD "") y.own es).map (·.own)).sum = _
  rw [ep]
  unfold fallE
  rw [List.map_map,sum_drop (F:=(·.own) ∘ fal y.n p y.own) W.nd hy]
  have e1:(es.map ((·.own) ∘ fal y.n p y.own)).sum = (es.map (·.own)).sum - z.own + (z.own + y.own):=by
   rw [sum_one (F:=(·.own)) (e0:=z) W.nd hz fun u _ ne=>?_]
   ·show _ - z.own + (if z.n = p then z.own + y.own else z.own) = _
    rw [if_pos hzn]
   ·show (if u.n = p then u.own + y.own else u.own) = u.own
    rw [if_neg (by rw [← hzn];exact ne)]
  rw [e1]
  show _ - (if y.n = p then y.own + y.own else y.own) = _
  rw [if_neg (Ne.symm hpn)]
  omega
theorem stp_wf {C:Addr} {q:Ad} {H:Hp} {es:List Est} {ks ls:List Str} {j:Nat} {rw':Rw} {y:Est} {t1 t2 b1 b2:Addr} (r:Rel C q H es ks ls j) (hst:Stands es ks y rw') (hok:rw'.Ok ls) (hls:∀ n∈ls,n≠""∧PyData.strOk n = true) :
  WF (stp y es t1 t2 b1 b2 rw')∧(∀ e∈stp y es t1 t2 b1 b2 rw',e.n≠""→e.n∈stK ks rw')∧(stp y es t1 t2 b1 b2 rw').length≤1 + (j + 1)∧(stK ks rw').length≤j + 1:=by
 have lk:=r.lk
 have ln:=r.ln
 have ml:∀ (n:Str) (g:Est→Est),(mod n g es).length = es.length:=fun n g=>List.length_map _
 cases rw' with
 | grant e n m a s =>
  obtain ⟨hy,rfl,hn,ha⟩:=hst
  obtain ⟨h1,h2,h3,h4,h5⟩:=hok
  have hx:=r.new hn (hls n h1).1
  refine ⟨WF.new r.W hy (x:=xGr y.n n m a s t1 b1) (fun _=>rfl) (fun _=>rfl) rfl (by omega) ha hx (hls n h1).2 rfl rfl (.inl ⟨rfl,rfl⟩),fun z hz hne=>?_,?_,?_⟩
  ·rcases List.mem_append.mp hz with c | c
   ·obtain ⟨z0,h0,rfl⟩:=mem_mod c
    refine List.mem_append_left _ ?_
    have e1:(if z0.n = y.n then gGr a z0 else z0).n = z0.n:=by split <;> rfl
    rw [e1] at hne ⊢
    exact r.kn z0 h0 hne
   ·rw [List.mem_singleton.mp c]
    exact List.mem_append_right _ (List.mem_singleton.mpr rfl)
  ·show (mod y.n (gGr a) es++[xGr y.n n m a s t1 b1]).length≤_
   rw [List.length_append,ml,List.length_singleton];omega
  ·show (ks++[n]).length≤_
   rw [List.length_append,List.length_singleton];omega
 | part e n m a =>
  obtain ⟨hy,rfl,hn,ha⟩:=hst
  obtain ⟨h1,h2,h3,h4⟩:=hok
  have hx:=r.new hn (hls n h1).1
  refine ⟨WF.new r.W hy (x:=xPa y n m a t1 b1) (fun _=>rfl) (fun _=>rfl) rfl (by omega) ha hx (hls n h1).2 rfl rfl (.inr ⟨rfl,h4,rfl⟩),fun z hz hne=>?_,?_,?_⟩
  ·rcases List.mem_append.mp hz with c | c
   ·obtain ⟨z0,h0,rfl⟩:=mem_mod c
    refine List.mem_append_left _ ?_
    have e1:(if z0.n = y.n then gPa a t2 b2 z0 else z0).n = z0.n:=by split <;> rfl
    rw [e1] at hne ⊢
    exact r.kn z0 h0 hne
   ·rw [List.mem_singleton.mp c]
    exact List.mem_append_right _ (List.mem_singleton.mpr rfl)
  ·show (mod y.n (gPa a t2 b2) es++[xPa y n m a t1 b1]).length≤_
   rw [List.length_append,ml,List.length_singleton];omega
  ·show (ks++[n]).length≤_
   rw [List.length_append,List.length_singleton];omega
 | convey e m =>
  refine ⟨WF.mod r.W (fun _=>rfl) (fun _=>rfl) (fun _=>rfl) fun _=>rfl,fun z hz hne=>?_,?_,?_⟩
  ·obtain ⟨z0,h0,rfl⟩:=mem_mod hz
   have e1:(if z0.n = y.n then gCo m z0 else z0).n = z0.n:=by split <;> rfl
   rw [e1] at hne ⊢
   exact r.kn z0 h0 hne
  ·show (mod y.n (gCo m) es).length≤_
   rw [ml];omega
  ·show ks.length≤_
   omega
 | surr e =>
  obtain ⟨hy,rfl⟩:=hst
  obtain ⟨p,hp,_,_⟩:=r.W.lord y hy hok
  have ep:y.lord.getD "" = p:=by rw [hp];rfl
  refine ⟨?_,fun z hz hne=>?_,?_,?_⟩
  ·show WF (fallE y.n (y.lord.getD "") y.own es)
   rw [ep]
   exact WF.fall r.W hy hok hp
  ·obtain ⟨z0,h0,rfl⟩:=List.mem_map.mp hz
   exact r.kn z0 (List.mem_filter.mp h0).1 hne
  ·show (fallE y.n (y.lord.getD "") y.own es).length≤_
   unfold fallE
   rw [List.length_map]
   have:=List.length_filter_le (fun x=>decide (x.n≠y.n)) es
   omega
  ·show ks.length≤_
   omega
end M
namespace M
open PySem L2 PyProof.Rows
abbrev sWhy:Stmt:=top 28
abbrev sLet:Stmt:=top 42
theorem inV_str (h:Str) (l:List Str):inV (V.str h) (l.map V.str) = decide (h∈l):=by
 unfold inV
 induction l with
 | nil=>rfl
 | cons x r ih =>
  rw [List.map_cons,List.any_cons,ih]
  show ((x == h) || decide (h∈r)) = _
  rw [Bool.eq_iff_iff,Bool.or_eq_true,decide_eq_true_iff,decide_eq_true_iff,List.mem_cons,beq_iff_eq]
  constructor
  ·rintro (e | e)
   ·exact .inl e.symm
   ·exact .inr e
  ·rintro (e | e)
   ·exact .inl e.symm
   ·exact .inr e
theorem flat_strs (l:List Str):(l.map V.str).all flatV = true:=by
 rw [List.all_map];exact List.all_eq_true.mpr fun x _=>rfl
theorem lit_in {k:Str} {ls:List Str} {b:Bool} {A B:Prop} (h:decide (k∈ls) = b) (g:if b = true then A else B):if (if (false:Bool) = true then !inV (V.str k) (ls.map V.str) else inV (V.str k) (ls.map V.str)) = true then A else B:=by
 rw [if_neg Bool.false_ne_true,inV_str,h];exact g
theorem lit_eq {k l:Str} {b:Bool} {A B:Prop} (h:decide (k = l) = b) (g:if b = true then A else B):if decide (V.str k = V.str l) = true then A else B:=by
 rw [dec_str,h];exact g
theorem lit_ne {k l:Str} {b:Bool} {A B:Prop} (h:decide (k = l) = b) (g:if (!b) = true then A else B):if (!decide (V.str k = V.str l)) = true then A else B:=by
 rw [dec_str,h];exact g
theorem list_in {h:Str} {l:List Str} {A B:Prop} (h1:h∈l→A) (h2:h ∉ l→B):if (if (false:Bool) = true then !inV (V.str h) (l.map V.str) else inV (V.str h) (l.map V.str)) = true then A else B:=by
 rw [if_neg Bool.false_ne_true,inV_str]
 exact ite2 (fun c=>h1 (of_decide_eq_true c)) fun c=>h2 fun z=>c (decide_eq_true z)
def tNeverT:TT:=fun _ _ _=>False
theorem pt_neverT {X:Cx} {e:Expr}:PT X e tNeverT:=fun _ _ _ _ _ _ h=>h.elim
def spWhy:Sp:=fun vs H Q _=>∃ q es ks r rw',vs = [.ref q.B,.ref r]∧Ap q∧Bk q H es ks∧(nms es).Nodup∧H r = some (.tup (Rw.vs rw'))∧∀ (z:Str) (H':Hp),Same H H'→(z = "stands"→∃ y,Stands es ks y rw')→Q (.str z) H'
def spLet:Sp:=fun vs H Q _=>∃ q es ks r rw',vs = [.ref q.B,.ref r]∧Ap q∧Bk q H es ks∧(nms es).Nodup∧H r = some (.tup (Rw.vs rw'))∧∀ (b:Bool) (H':Hp),Same H H'→(b = true→∃ y,Stands es ks y rw')→Q (.bl b) H'
section
variable {P:Program} {w:World} {K:PySem.W.Frag} {mg:Str→Option Value} {base:Heap} {f C:Addr} {fd:FuncData}
theorem scWhy:FnScope ["_law_book_here", "_law_row_here", "_law_kind", "_law_man"] ["_law_book_here", "_law_row_here"] (defScope sWhy):=⟨rfl,rfl,rfl,by decide +kernel,rfl,by decide +kernel,by decide +kernel⟩
set_option maxHeartbeats 8000000 in
theorem ok_why (F:Fun K "_law_why" "_law_why" sWhy f fd):FnOk P w K mg base CX0 1 f fd ["_law_book_here", "_law_row_here"] spWhy:=by
 refine F.ok scWhy (fun vs H Q E h=>?_) (fun cdv A outer s H vs Q E hr h=>?_)
 ·obtain ⟨q,es,ks,r,rw',rfl,_⟩:=h
  rfl
 obtain ⟨q,es,ks,r,rw',rfl,ap,b0,nd,hx,k⟩:=h
 refine ⟨_,(pss_cons (ps_set (i:=2) scWhy.nd rfl (Or.inl rfl) (pe_ix ix_tup (pv 1) pe_int (fun _ _=>rfl)))
  (pss_cons (ps_if (PW.pt (pw_and (pt_cmpR op_in_seq (pv 2) (pe_tup (pa_cons pe_str (pa_cons pe_str (pa_cons pe_str (pa_cons pe_str pa_nil))))) (by with_unfolding_all rfl)) (pw_and1 (pt_cmp (pc_dnotin (u1 hr) (pe_ix ix_tup (pv 1) pe_int (fun _ _=>rfl)) (pe_dget (u1 hr) (pv 0) pe_str (fun _ _=>rfl))) (by with_unfolding_all rfl))))) (pss_one (ps_ret pe_str)) pss_nil)
  (pss_cons (ps_if (PW.pt (pw_and (pt_cmpR op_in_seq (pv 2) (pe_tup (pa_cons pe_str (pa_cons pe_str pa_nil))) (by with_unfolding_all rfl)) (pw_and1 (pt_cmpR op_in_seq (pe_ix ix_tup (pv 1) pe_int (fun _ _=>rfl)) (pe_dget (u1 hr) (pv 0) pe_str (fun _ _=>rfl)) (by with_unfolding_all rfl))))) (pss_one (ps_ret pe_str)) pss_nil)
  (pss_cons (ps_set (i:=3) scWhy.nd rfl (Or.inl rfl) (pe_ix ix_tup (pv 1) pe_int (fun _ _=>rfl)))
  (pss_cons (ps_if (pt_cmpR op_in_seq (pv 2) (pe_tup (pa_cons pe_str (pa_cons pe_str pa_nil))) (by with_unfolding_all rfl)) (pss_one (ps_set (i:=3) scWhy.nd rfl (Or.inl rfl) (pe_ix ix_tup (pv 1) pe_int (fun _ _=>rfl)))) pss_nil)
  (pss_cons (ps_if (pt_cmpR op_eq (pv 2) pe_str (nomark _)) (pss_one (ps_set (i:=3) scWhy.nd rfl (Or.inl rfl) (pe_ix ix_tup (pv 1) pe_int (fun _ _=>rfl)))) pss_nil)
  (pss_cons (ps_if (PW.pt (pw_and (pt_cmpR op_ne (pv 2) pe_str (nomark _)) (pw_and1 (pt_cmpR op_in_seq (pv 3) (pe_dget (u1 hr) (pv 0) pe_str (fun _ _=>rfl)) (by with_unfolding_all rfl))))) (pss_one (ps_ret pe_str)) pss_nil)
  (pss_cons (ps_if (PW.pt (pw_and (pt_cmpR op_in_seq (pv 2) (pe_tup (pa_cons pe_str (pa_cons pe_str pa_nil))) (by with_unfolding_all rfl)) (pw_and1 (pt_cmpR op_gt (pe_ix ix_tup (pv 1) pe_int (fun _ _=>rfl)) (pe_dget (u1 hr) (pe_dget (u1 hr) (pv 0) pe_str (fun _ _=>rfl)) (pe_ix ix_tup (pv 1) pe_int (fun _ _=>rfl)) (fun _ _=>rfl)) (nomark _))))) (pss_one (ps_ret pe_str)) pss_nil)
  (pss_cons (ps_if (PW.pt (pw_and (pt_cmpR op_eq (pv 2) pe_str (nomark _)) (pw_and1 pt_neverT))) pss_never pss_nil)
  (pss_one (ps_ret pe_str))))))))))),?_⟩
 cases rw' with
 | grant e n m a s =>
  refine ⟨_,rfl,r,_,_,_,rfl,rfl,SqT.of hx,atI_nat (j:=0) rfl,?_⟩
  refine ⟨_,rfl,small (by simp),fun t1 ht1=>⟨t1,_,rfl,.inr (SqT.of upd_same),rfl,rfl,_,rfl,lit_in (k:="grant") (ls:=["grant", "part", "convey", "surrender"]) (b:=true) (by decide +kernel) ?_⟩⟩
  have n1:=same_new ht1 (.tup [.str "grant",.str "part",.str "convey",.str "surrender"])
  have s1:=(Same.refl H).trans n1
  have b1:=b0.same n1
  have x1:=n1 _ _ hx
  generalize upd H t1 (.tup [.str "grant",.str "part",.str "convey",.str "surrender"]) = H1 at n1 s1 b1 x1 ⊢
  refine iteT ?_
  refine ⟨_,rfl,r,_,_,_,rfl,rfl,SqT.of x1,atI_nat (j:=2) rfl,_,rfl,q.B,_,rfl,b1.gl,q.l,_,rfl,DGet.k (k:=.inr e) b1.l,_,rfl,?_⟩
  rw [val_some]
  by_cases he:e∈nms es
  rotate_left
  ·rw [decide_eq_false he]
   refine iteT ?_
   exact k _ _ s1 fun z=>absurd z (by decide +kernel)
  rw [decide_eq_true he]
  refine iteF ?_
  obtain ⟨y,hy,rfl⟩:=mem_nms he
  refine ⟨_,rfl,small (by simp),fun t2 ht2=>⟨t2,_,rfl,.inr (SqT.of upd_same),rfl,rfl,_,rfl,lit_in (k:="grant") (ls:=["grant", "part"]) (b:=true) (by decide +kernel) ?_⟩⟩
  have n2:=same_new ht2 (.tup [.str "grant",.str "part"])
  have s2:=s1.trans n2
  have b2:=b1.same n2
  have x2:=n2 _ _ x1
  generalize upd H1 t2 (.tup [.str "grant",.str "part"]) = H2 at n2 s2 b2 x2 ⊢
  refine iteT ?_
  refine ⟨_,rfl,r,_,_,_,rfl,rfl,SqT.of x2,atI_nat (j:=3) rfl,_,rfl,q.B,_,rfl,b2.gk,q.kn,_,rfl,.inl (SqL.of b2.k),rfl,flat_strs _,_,rfl,list_in (fun _=>?_) (fun hn=>?_)⟩
  ·exact k _ _ s2 fun z=>absurd z (by decide +kernel)
  refine ⟨_,rfl,r,_,_,_,rfl,rfl,SqT.of x2,atI_nat (j:=2) rfl,?_⟩
  refine ⟨_,rfl,small (by simp),fun t3 ht3=>⟨t3,_,rfl,.inr (SqT.of upd_same),rfl,rfl,_,rfl,lit_in (k:="grant") (ls:=["grant", "part"]) (b:=true) (by decide +kernel) ?_⟩⟩
  have n3:=same_new ht3 (.tup [.str "grant",.str "part"])
  have s3:=s2.trans n3
  have b3:=b2.same n3
  have x3:=n3 _ _ x2
  generalize upd H2 t3 (.tup [.str "grant",.str "part"]) = H3 at n3 s3 b3 x3 ⊢
  refine iteT ?_
  refine ⟨_,rfl,r,_,_,_,rfl,rfl,SqT.of x3,atI_nat (j:=4) rfl,?_⟩
  refine ⟨_,rfl,rfl,_,rfl,lit_eq (b:=false) (by decide +kernel) ?_⟩
  refine iteF ?_
  refine ⟨_,rfl,rfl,_,rfl,lit_ne (b:=false) (by decide +kernel) ?_⟩
  refine iteT ⟨_,rfl,_,rfl,q.B,_,rfl,b3.gx,q.dd,_,rfl,.inl (SqL.of b3.x),rfl,rfl,_,rfl,list_in (l:=[]) (fun z=>absurd z (by simp)) (fun _=>?_)⟩
  refine ⟨_,rfl,small (by simp),fun t4 ht4=>⟨t4,_,rfl,.inr (SqT.of upd_same),rfl,rfl,_,rfl,lit_in (k:="grant") (ls:=["grant", "part"]) (b:=true) (by decide +kernel) ?_⟩⟩
  have n4:=same_new ht4 (.tup [.str "grant",.str "part"])
  have s4:=s3.trans n4
  have b4:=b3.same n4
  have x4:=n4 _ _ x3
  generalize upd H3 t4 (.tup [.str "grant",.str "part"]) = H4 at n4 s4 b4 x4 ⊢
  refine iteT ?_
  refine ⟨_,rfl,r,_,_,_,rfl,rfl,SqT.of x4,atI_nat (j:=5) rfl,_,rfl,q.B,_,rfl,b4.go,_,rfl,r,_,_,_,rfl,rfl,SqT.of x4,atI_nat (j:=2) rfl,q.o,_,rfl,gkv b4.o nd hy,_,_,rfl,rfl,_,rfl,?_⟩
  refine ite2 (fun _=>?_) (fun hle=>?_)
  ·exact k _ _ s4 fun z=>absurd z (by decide +kernel)
  refine ⟨_,rfl,rfl,_,rfl,lit_eq (b:=false) (by decide +kernel) (iteF (iteF ?_))⟩
  exact k _ _ s4 fun _=>⟨y,hy,rfl,hn,by have h:=hle;simp only [decide_eq_true_eq] at h;omega⟩
 | part e n m a =>
  refine ⟨_,rfl,r,_,_,_,rfl,rfl,SqT.of hx,atI_nat (j:=0) rfl,?_⟩
  refine ⟨_,rfl,small (by simp),fun t1 ht1=>⟨t1,_,rfl,.inr (SqT.of upd_same),rfl,rfl,_,rfl,lit_in (k:="part") (ls:=["grant", "part", "convey", "surrender"]) (b:=true) (by decide +kernel) ?_⟩⟩
  have n1:=same_new ht1 (.tup [.str "grant",.str "part",.str "convey",.str "surrender"])
  have s1:=(Same.refl H).trans n1
  have b1:=b0.same n1
  have x1:=n1 _ _ hx
  generalize upd H t1 (.tup [.str "grant",.str "part",.str "convey",.str "surrender"]) = H1 at n1 s1 b1 x1 ⊢
  refine iteT ?_
  refine ⟨_,rfl,r,_,_,_,rfl,rfl,SqT.of x1,atI_nat (j:=2) rfl,_,rfl,q.B,_,rfl,b1.gl,q.l,_,rfl,DGet.k (k:=.inr e) b1.l,_,rfl,?_⟩
  rw [val_some]
  by_cases he:e∈nms es
  rotate_left
  ·rw [decide_eq_false he]
   refine iteT ?_
   exact k _ _ s1 fun z=>absurd z (by decide +kernel)
  rw [decide_eq_true he]
  refine iteF ?_
  obtain ⟨y,hy,rfl⟩:=mem_nms he
  refine ⟨_,rfl,small (by simp),fun t2 ht2=>⟨t2,_,rfl,.inr (SqT.of upd_same),rfl,rfl,_,rfl,lit_in (k:="part") (ls:=["grant", "part"]) (b:=true) (by decide +kernel) ?_⟩⟩
  have n2:=same_new ht2 (.tup [.str "grant",.str "part"])
  have s2:=s1.trans n2
  have b2:=b1.same n2
  have x2:=n2 _ _ x1
  generalize upd H1 t2 (.tup [.str "grant",.str "part"]) = H2 at n2 s2 b2 x2 ⊢
  refine iteT ?_
  refine ⟨_,rfl,r,_,_,_,rfl,rfl,SqT.of x2,atI_nat (j:=3) rfl,_,rfl,q.B,_,rfl,b2.gk,q.kn,_,rfl,.inl (SqL.of b2.k),rfl,flat_strs _,_,rfl,list_in (fun _=>?_) (fun hn=>?_)⟩
  ·exact k _ _ s2 fun z=>absurd z (by decide +kernel)
  refine ⟨_,rfl,r,_,_,_,rfl,rfl,SqT.of x2,atI_nat (j:=2) rfl,?_⟩
  refine ⟨_,rfl,small (by simp),fun t3 ht3=>⟨t3,_,rfl,.inr (SqT.of upd_same),rfl,rfl,_,rfl,lit_in (k:="part") (ls:=["grant", "part"]) (b:=true) (by decide +kernel) ?_⟩⟩
  have n3:=same_new ht3 (.tup [.str "grant",.str "part"])
  have s3:=s2.trans n3
  have b3:=b2.same n3
  have x3:=n3 _ _ x2
  generalize upd H2 t3 (.tup [.str "grant",.str "part"]) = H3 at n3 s3 b3 x3 ⊢
  refine iteT ?_
  refine ⟨_,rfl,r,_,_,_,rfl,rfl,SqT.of x3,atI_nat (j:=4) rfl,?_⟩
  refine ⟨_,rfl,rfl,_,rfl,lit_eq (b:=false) (by decide +kernel) ?_⟩
  refine iteF ?_
  refine ⟨_,rfl,rfl,_,rfl,lit_ne (b:=false) (by decide +kernel) ?_⟩
  refine iteT ⟨_,rfl,_,rfl,q.B,_,rfl,b3.gx,q.dd,_,rfl,.inl (SqL.of b3.x),rfl,rfl,_,rfl,list_in (l:=[]) (fun z=>absurd z (by simp)) (fun _=>?_)⟩
  refine ⟨_,rfl,small (by simp),fun t4 ht4=>⟨t4,_,rfl,.inr (SqT.of upd_same),rfl,rfl,_,rfl,lit_in (k:="part") (ls:=["grant", "part"]) (b:=true) (by decide +kernel) ?_⟩⟩
  have n4:=same_new ht4 (.tup [.str "grant",.str "part"])
  have s4:=s3.trans n4
  have b4:=b3.same n4
  have x4:=n4 _ _ x3
  generalize upd H3 t4 (.tup [.str "grant",.str "part"]) = H4 at n4 s4 b4 x4 ⊢
  refine iteT ?_
  refine ⟨_,rfl,r,_,_,_,rfl,rfl,SqT.of x4,atI_nat (j:=5) rfl,_,rfl,q.B,_,rfl,b4.go,_,rfl,r,_,_,_,rfl,rfl,SqT.of x4,atI_nat (j:=2) rfl,q.o,_,rfl,gkv b4.o nd hy,_,_,rfl,rfl,_,rfl,?_⟩
  refine ite2 (fun _=>?_) (fun hle=>?_)
  ·exact k _ _ s4 fun z=>absurd z (by decide +kernel)
  refine ⟨_,rfl,rfl,_,rfl,lit_eq (b:=false) (by decide +kernel) (iteF (iteF ?_))⟩
  exact k _ _ s4 fun _=>⟨y,hy,rfl,hn,by have h:=hle;simp only [decide_eq_true_eq] at h;omega⟩
 | convey e m =>
  refine ⟨_,rfl,r,_,_,_,rfl,rfl,SqT.of hx,atI_nat (j:=0) rfl,?_⟩
  refine ⟨_,rfl,small (by simp),fun t1 ht1=>⟨t1,_,rfl,.inr (SqT.of upd_same),rfl,rfl,_,rfl,lit_in (k:="convey") (ls:=["grant", "part", "convey", "surrender"]) (b:=true) (by decide +kernel) ?_⟩⟩
  have n1:=same_new ht1 (.tup [.str "grant",.str "part",.str "convey",.str "surrender"])
  have s1:=(Same.refl H).trans n1
  have b1:=b0.same n1
  have x1:=n1 _ _ hx
  generalize upd H t1 (.tup [.str "grant",.str "part",.str "convey",.str "surrender"]) = H1 at n1 s1 b1 x1 ⊢
  refine iteT ?_
  refine ⟨_,rfl,r,_,_,_,rfl,rfl,SqT.of x1,atI_nat (j:=2) rfl,_,rfl,q.B,_,rfl,b1.gl,q.l,_,rfl,DGet.k (k:=.inr e) b1.l,_,rfl,?_⟩
  rw [val_some]
  by_cases he:e∈nms es
  rotate_left
  ·rw [decide_eq_false he]
   refine iteT ?_
   exact k _ _ s1 fun z=>absurd z (by decide +kernel)
  rw [decide_eq_true he]
  refine iteF ?_
  obtain ⟨y,hy,rfl⟩:=mem_nms he
  refine ⟨_,rfl,small (by simp),fun t2 ht2=>⟨t2,_,rfl,.inr (SqT.of upd_same),rfl,rfl,_,rfl,lit_in (k:="convey") (ls:=["grant", "part"]) (b:=false) (by decide +kernel) ?_⟩⟩
  have n2:=same_new ht2 (.tup [.str "grant",.str "part"])
  have s2:=s1.trans n2
  have b2:=b1.same n2
  have x2:=n2 _ _ x1
  generalize upd H1 t2 (.tup [.str "grant",.str "part"]) = H2 at n2 s2 b2 x2 ⊢
  refine iteF ?_
  refine ⟨_,rfl,r,_,_,_,rfl,rfl,SqT.of x2,atI_nat (j:=2) rfl,?_⟩
  refine ⟨_,rfl,small (by simp),fun t3 ht3=>⟨t3,_,rfl,.inr (SqT.of upd_same),rfl,rfl,_,rfl,lit_in (k:="convey") (ls:=["grant", "part"]) (b:=false) (by decide +kernel) ?_⟩⟩
  have n3:=same_new ht3 (.tup [.str "grant",.str "part"])
  have s3:=s2.trans n3
  have b3:=b2.same n3
  have x3:=n3 _ _ x2
  generalize upd H2 t3 (.tup [.str "grant",.str "part"]) = H3 at n3 s3 b3 x3 ⊢
  refine iteF ?_
  refine ⟨_,rfl,rfl,_,rfl,lit_eq (b:=true) (by decide +kernel) ?_⟩
  refine iteT ⟨_,rfl,r,_,_,_,rfl,rfl,SqT.of x3,atI_nat (j:=3) rfl,?_⟩
  refine ⟨_,rfl,rfl,_,rfl,lit_ne (b:=false) (by decide +kernel) ?_⟩
  refine iteT ⟨_,rfl,_,rfl,q.B,_,rfl,b3.gx,q.dd,_,rfl,.inl (SqL.of b3.x),rfl,rfl,_,rfl,list_in (l:=[]) (fun z=>absurd z (by simp)) (fun _=>?_)⟩
  refine ⟨_,rfl,small (by simp),fun t4 ht4=>⟨t4,_,rfl,.inr (SqT.of upd_same),rfl,rfl,_,rfl,lit_in (k:="convey") (ls:=["grant", "part"]) (b:=false) (by decide +kernel) ?_⟩⟩
  have n4:=same_new ht4 (.tup [.str "grant",.str "part"])
  have s4:=s3.trans n4
  have b4:=b3.same n4
  have x4:=n4 _ _ x3
  generalize upd H3 t4 (.tup [.str "grant",.str "part"]) = H4 at n4 s4 b4 x4 ⊢
  refine iteF ?_
  refine ⟨_,rfl,rfl,_,rfl,lit_eq (b:=false) (by decide +kernel) (iteF (iteF ?_))⟩
  exact k _ _ s4 fun _=>⟨y,hy,rfl⟩
 | surr e =>
  refine ⟨_,rfl,r,_,_,_,rfl,rfl,SqT.of hx,atI_nat (j:=0) rfl,?_⟩
  refine ⟨_,rfl,small (by simp),fun t1 ht1=>⟨t1,_,rfl,.inr (SqT.of upd_same),rfl,rfl,_,rfl,lit_in (k:="surrender") (ls:=["grant", "part", "convey", "surrender"]) (b:=true) (by decide +kernel) ?_⟩⟩
  have n1:=same_new ht1 (.tup [.str "grant",.str "part",.str "convey",.str "surrender"])
  have s1:=(Same.refl H).trans n1
  have b1:=b0.same n1
  have x1:=n1 _ _ hx
  generalize upd H t1 (.tup [.str "grant",.str "part",.str "convey",.str "surrender"]) = H1 at n1 s1 b1 x1 ⊢
  refine iteT ?_
  refine ⟨_,rfl,r,_,_,_,rfl,rfl,SqT.of x1,atI_nat (j:=2) rfl,_,rfl,q.B,_,rfl,b1.gl,q.l,_,rfl,DGet.k (k:=.inr e) b1.l,_,rfl,?_⟩
  rw [val_some]
  by_cases he:e∈nms es
  rotate_left
  ·rw [decide_eq_false he]
   refine iteT ?_
   exact k _ _ s1 fun z=>absurd z (by decide +kernel)
  rw [decide_eq_true he]
  refine iteF ?_
  obtain ⟨y,hy,rfl⟩:=mem_nms he
  refine ⟨_,rfl,small (by simp),fun t2 ht2=>⟨t2,_,rfl,.inr (SqT.of upd_same),rfl,rfl,_,rfl,lit_in (k:="surrender") (ls:=["grant", "part"]) (b:=false) (by decide +kernel) ?_⟩⟩
  have n2:=same_new ht2 (.tup [.str "grant",.str "part"])
  have s2:=s1.trans n2
  have b2:=b1.same n2
  have x2:=n2 _ _ x1
  generalize upd H1 t2 (.tup [.str "grant",.str "part"]) = H2 at n2 s2 b2 x2 ⊢
  refine iteF ?_
  refine ⟨_,rfl,r,_,_,_,rfl,rfl,SqT.of x2,atI_nat (j:=2) rfl,?_⟩
  refine ⟨_,rfl,small (by simp),fun t3 ht3=>⟨t3,_,rfl,.inr (SqT.of upd_same),rfl,rfl,_,rfl,lit_in (k:="surrender") (ls:=["grant", "part"]) (b:=false) (by decide +kernel) ?_⟩⟩
  have n3:=same_new ht3 (.tup [.str "grant",.str "part"])
  have s3:=s2.trans n3
  have b3:=b2.same n3
  have x3:=n3 _ _ x2
  generalize upd H2 t3 (.tup [.str "grant",.str "part"]) = H3 at n3 s3 b3 x3 ⊢
  refine iteF ?_
  refine ⟨_,rfl,rfl,_,rfl,lit_eq (b:=false) (by decide +kernel) ?_⟩
  refine iteF ?_
  refine ⟨_,rfl,rfl,_,rfl,lit_ne (b:=true) (by decide +kernel) ?_⟩
  refine iteF ?_
  refine ⟨_,rfl,small (by simp),fun t4 ht4=>⟨t4,_,rfl,.inr (SqT.of upd_same),rfl,rfl,_,rfl,lit_in (k:="surrender") (ls:=["grant", "part"]) (b:=false) (by decide +kernel) ?_⟩⟩
  have n4:=same_new ht4 (.tup [.str "grant",.str "part"])
  have s4:=s3.trans n4
  have b4:=b3.same n4
  have x4:=n4 _ _ x3
  generalize upd H3 t4 (.tup [.str "grant",.str "part"]) = H4 at n4 s4 b4 x4 ⊢
  refine iteF ?_
  refine ⟨_,rfl,rfl,_,rfl,lit_eq (b:=false) (by decide +kernel) (iteF (iteF ?_))⟩
  exact k _ _ s4 fun _=>⟨y,hy,rfl⟩
theorem scLet:FnScope ["_law_book_here", "_law_row_here"] ["_law_book_here", "_law_row_here"] (defScope sLet):=⟨rfl,rfl,rfl,by decide +kernel,rfl,by decide +kernel,by decide +kernel⟩
def Rw.kind:Rw→Str
 | .grant _ _ _ _ _=>"grant"
 | .part _ _ _ _=>"part"
 | .convey _ _=>"convey"
 | .surr _=>"surrender"
theorem Rw.vs0 (rw':Rw):rw'.vs[0]? = some (.str rw'.kind):=by cases rw' <;> rfl
theorem Rw.kind_in (rw':Rw):decide (rw'.kind∈(["grant", "part", "convey", "surrender"]:List Str)) = true:=by
 cases rw'
 ·exact (show decide (("grant" : Str)∈(["grant", "part", "convey", "surrender"]:List Str)) = true by decide +kernel)
 ·exact (show decide (("part" : Str)∈(["grant", "part", "convey", "surrender"]:List Str)) = true by decide +kernel)
 ·exact (show decide (("convey" : Str)∈(["grant", "part", "convey", "surrender"]:List Str)) = true by decide +kernel)
 ·exact (show decide (("surrender" : Str)∈(["grant", "part", "convey", "surrender"]:List Str)) = true by decide +kernel)
set_option maxHeartbeats 8000000 in
theorem ok_let (F:Fun K "_law_let_by" "_law_let_by" sLet f fd) {g1:Addr} {d1:FuncData} (G1:FnOk P w K mg base CX0 1 g1 d1 ["_law_book_here", "_law_row_here"] spWhy) (M1:Ms K mg "_law_why" g1 d1 ["_law_book_here", "_law_row_here"]):FnOk P w K mg base CX0 2 f fd ["_law_book_here", "_law_row_here"] spLet:=by
 refine F.ok scLet (fun vs H Q E h=>?_) (fun cdv A outer s H vs Q E hr h=>?_)
 ·obtain ⟨q,es,ks,r,rw',rfl,_⟩:=h
  rfl
 obtain ⟨q,es,ks,r,rw',rfl,ap,b0,nd,hx,k⟩:=h
 refine ⟨_,(pss_one (ps_ret (pe_and (pe_cmpR op_in_seq (pe_ix ix_tup (pv 1) pe_int (fun _ _=>rfl)) (pe_tup (pa_cons pe_str (pa_cons pe_str (pa_cons pe_str (pa_cons pe_str pa_nil))))) (by with_unfolding_all rfl)) (pe_one (pe_cmpR op_eq (pe_call G1 hr rfl M1.m M1.k M1.b .nil pass0 (pa_cons (pv 0) (pa_cons (pv 1) pa_nil))) pe_str (nomark _)))))),?_⟩
 refine ⟨_,rfl,r,_,_,_,rfl,rfl,SqT.of hx,atI_nat (j:=0) rw'.vs0,small (by simp),fun t ht=>⟨t,_,rfl,.inr (SqT.of upd_same),rfl,rfl,?_⟩⟩
 have s1:=same_new ht (.tup [.str "grant",.str "part",.str "convey",.str "surrender"])
 refine ⟨_,rfl,lit_in (k:=rw'.kind) (ls:=["grant", "part", "convey", "surrender"]) (b:=true) rw'.kind_in (iteT ?_)⟩
 refine ⟨_,rfl,_,rfl,q,es,ks,r,rw',rfl,ap,b0.same s1,nd,s1 _ _ hx,fun z H' s' hz=>⟨rfl,?_⟩⟩
 exact k _ _ (s1.trans s') fun c=>hz (by rw [dec_str] at c;exact of_decide_eq_true c)
end
end M
namespace M
open PySem L2 PyProof.Rows
abbrev sDo:Stmt:=top 32
abbrev sLdo:Stmt:=top 39
def OutL (q:Ad) (H H':Hp):Prop:=∀ c u,c≠q.a1→c≠q.a2→c≠q.a3→c≠q.a4→c≠q.a5→H c = some u→H' c = some u
def FrN (y:Est) (t1 t2:Addr) (H:Hp):Rw→Prop
 | .grant _ _ _ _ s=>Fr2 H t1 s 1
 | .part _ _ _ a=>Fr2 H t1 (frt (y.due.1 * a) (y.due.2 * y.br)).1 (frt (y.due.1 * a) (y.due.2 * y.br)).2∧Fr2 H t2 (frt (y.due.1 * (y.br - a)) (y.due.2 * y.br)).1 (frt (y.due.1 * (y.br - a)) (y.due.2 * y.br)).2
 | .convey _ _=>True
 | .surr _=>True
theorem Ap.five {q:Ad} (ap:Ap q):Ap5 q.a1 q.a2 q.a3 q.a4 q.a5 :=
 ⟨ap_ne ap 0 1 rfl rfl (by decide),ap_ne ap 0 2 rfl rfl (by decide),ap_ne ap 0 3 rfl rfl (by decide),ap_ne ap 0 4 rfl rfl (by decide),ap_ne ap 1 2 rfl rfl (by decide),ap_ne ap 1 3 rfl rfl (by decide),ap_ne ap 1 4 rfl rfl (by decide),ap_ne ap 2 3 rfl rfl (by decide),ap_ne ap 2 4 rfl rfl (by decide),ap_ne ap 3 4 rfl rfl (by decide)⟩
def spLdo (C:Addr):Sp:=fun vs H Q _=>∃ q es ks ls j r rw' y,vs = [.ref q.x,.ref r]∧Rel C q H es ks ls j∧H r = some (.tup (Rw.vs rw'))∧Stands es ks y rw'∧Rw.Ok ls rw'∧(∀ n∈ls,n≠""∧PyData.strOk n = true)∧j≤60 ∧
 ∀ t1 t2 H',(∀ b1 b2,Ln C q H' (stp y es t1 t2 b1 b2 rw'))→FrN y t1 t2 H' rw'→OutL q H H'→Q .non H'
def spDo:Sp:=fun vs H Q _=>∃ q es ks r rw' y,vs = [.ref q.B,.ref r]∧Ap q∧Bk q H es ks∧WF es∧Fr2 H y.tb y.due.1 y.due.2∧Bd 400 y.due∧H r = some (.tup (Rw.vs rw'))∧Stands es ks y rw'∧(∀ e n m a s,rw' = .grant e n m a s→n ∉ nms es)∧(∀ e n m a,rw' = .part e n m a→n ∉ nms es∧1≤a∧a≤9999∧e≠"")∧(∀ e,rw' = .surr e→e≠"")∧es.length≤18∧ks.length≤60 ∧
 ∀ b1 b2 H',(∀ t1 t2,Bk q H' (stp y es t1 t2 b1 b2 rw') (stK ks rw'))→FrN y b1 b2 H' rw'→OutB q H H'→Q .non H'
theorem no_eq {k l:Str} {A B:Prop} (h:decide (k = l) = false) (g:B):if decide (V.str k = V.str l) = true then A else B:=lit_eq h (iteF g)
theorem is_eq {k l:Str} {A B:Prop} (h:decide (k = l) = true) (g:A):if decide (V.str k = V.str l) = true then A else B:=lit_eq h (iteT g)
section
variable {P:Program} {w:World} {K:PySem.W.Frag} {mg:Str→Option Value} {base:Heap} {f C:Addr} {fd:FuncData}
theorem scLdo:FnScope ["_law_land", "_law_row_here"] ["_law_land", "_law_row_here"] (defScope sLdo):=⟨rfl,rfl,rfl,by decide +kernel,rfl,by decide +kernel,by decide +kernel⟩
set_option maxHeartbeats 8000000 in
theorem ok_ldo (T:LandC K C) (F:Fun K "_law_land_do" "_law_land_do" sLdo f fd) {g1 g2 g3 g4:Addr} {d1 d2 d3 d4:FuncData}
  (G1:FnOk P w K mg base CX0 2 g1 d1 ["self", "estate", "new", "man", "acres", "service"] (spGrant C)) (m1:Meth K C "grant" g1) (b1:Binds K d1 ["self", "estate", "new", "man", "acres", "service"] [])
  (G2:FnOk P w K mg base CX0 4 g2 d2 ["self", "estate", "new", "man", "acres"] (spPartOff C)) (m2:Meth K C "part_off" g2) (b2:Binds K d2 ["self", "estate", "new", "man", "acres"] [])
  (G3:FnOk P w K mg base CX0 1 g3 d3 ["self", "estate", "man"] (spConvey C)) (m3:Meth K C "convey" g3) (b3:Binds K d3 ["self", "estate", "man"] [])
  (G4:FnOk P w K mg base CX0 4 g4 d4 ["self", "estate"] (spFall C)) (m4:Meth K C "fall_back" g4) (b4:Binds K d4 ["self", "estate"] []) :
  FnOk P w K mg base CX0 5 f fd ["_law_land", "_law_row_here"] (spLdo C):=by
 refine F.ok scLdo (fun vs H Q E h=>?_) (fun cdv A outer s H vs Q E hr h=>?_)
 ·obtain ⟨q,es,ks,ls,j,r,rw',y,rfl,_⟩:=h
  rfl
 obtain ⟨q,es,ks,ls,j,r,rw',y,rfl,R,hx,hst,hok,hls,hj,k⟩:=h
 have G1:=FnOk.mono (k:=4) G1 (by omega)
 have G3:=FnOk.mono (k:=4) G3 (by omega)
 refine ⟨_,(pss_cons (ps_if (pt_cmpR op_eq (pe_ix ix_tup (pv 1) pe_int (fun _ _=>rfl)) pe_str (nomark _)) (pss_one (ps_ret (pe_meth (pv 0) T.cl m1 G1 hr b1 .nil pass0 (pa_cons (pe_ix ix_tup (pv 1) pe_int (fun _ _=>rfl)) (pa_cons (pe_ix ix_tup (pv 1) pe_int (fun _ _=>rfl)) (pa_cons (pe_ix ix_tup (pv 1) pe_int (fun _ _=>rfl)) (pa_cons (pe_ix ix_tup (pv 1) pe_int (fun _ _=>rfl)) (pa_cons (pe_ix ix_tup (pv 1) pe_int (fun _ _=>rfl)) pa_nil)))))))) pss_nil)
  (pss_cons (ps_if (pt_cmpR op_eq (pe_ix ix_tup (pv 1) pe_int (fun _ _=>rfl)) pe_str (nomark _)) (pss_one (ps_ret (pe_meth (pv 0) T.cl m2 G2 hr b2 .nil pass0 (pa_cons (pe_ix ix_tup (pv 1) pe_int (fun _ _=>rfl)) (pa_cons (pe_ix ix_tup (pv 1) pe_int (fun _ _=>rfl)) (pa_cons (pe_ix ix_tup (pv 1) pe_int (fun _ _=>rfl)) (pa_cons (pe_ix ix_tup (pv 1) pe_int (fun _ _=>rfl)) pa_nil))))))) pss_nil)
  (pss_cons (ps_if (pt_cmpR op_eq (pe_ix ix_tup (pv 1) pe_int (fun _ _=>rfl)) pe_str (nomark _)) (pss_one (ps_ret (pe_meth (pv 0) T.cl m3 G3 hr b3 .nil pass0 (pa_cons (pe_ix ix_tup (pv 1) pe_int (fun _ _=>rfl)) (pa_cons (pe_ix ix_tup (pv 1) pe_int (fun _ _=>rfl)) pa_nil))))) pss_nil)
  (pss_cons (ps_if (pt_cmpR op_eq (pe_ix ix_tup (pv 1) pe_int (fun _ _=>rfl)) pe_str (nomark _)) (pss_one (ps_ret (pe_meth (pv 0) T.cl m4 G4 hr b4 .nil pass0 (pa_cons (pe_ix ix_tup (pv 1) pe_int (fun _ _=>rfl)) pa_nil)))) pss_nil)
  (pss_one (ps_ret pe_non)))))),?_⟩
 have W:=R.W
 have L:=R.L
 have ln:=R.ln
 have a5:=R.ap.five
 have kl:∀ {f:Est→V},(kv f es).length≤800:=by intro f;rw [kv_len];omega
 cases rw' with
 | grant e n m a s =>
  obtain ⟨hy,rfl,hn,ha⟩:=hst
  obtain ⟨h1,h2,h3,h4,h5⟩:=hok
  have hnn:=R.new hn (hls n h1).1
  refine ⟨_,rfl,r,_,_,_,rfl,rfl,SqT.of hx,atI_nat (j:=0) rfl,rfl,_,rfl,is_eq (by decide +kernel) ?_⟩
  refine ⟨_,rfl,q.x,q.dx,_,rfl,L.o,rfl,_,rfl,r,_,_,_,rfl,rfl,SqT.of hx,atI_nat (j:=2) rfl,_,rfl,r,_,_,_,rfl,rfl,SqT.of hx,atI_nat (j:=3) rfl,_,rfl,r,_,_,_,rfl,rfl,SqT.of hx,atI_nat (j:=4) rfl,_,rfl,r,_,_,_,rfl,rfl,SqT.of hx,atI_nat (j:=5) rfl,_,rfl,r,_,_,_,rfl,rfl,SqT.of hx,atI_nat (j:=6) rfl,?_⟩
  refine ⟨q.x,q.dx,q.a1,q.a2,q.a3,q.a4,q.a5,_,_,_,_,_,y.n,n,m,a,s,y.own,rfl,L,a5,val_kv W.nd hy,Nat.le_trans kl (by decide),Nat.le_trans kl (by decide),kl,Nat.le_trans kl (by decide),Nat.le_trans kl (by decide),fun t ht=>?_⟩
  have nt:∀ {b:Addr} {u:HO},H b = some u→t≠b:=fun hb z=>by rw [z,hb] at ht;cases ht
  refine k t 0 _ (fun c1 c2=>?_) ?_ ?_
  ·have e1:loL (stp y es t 0 c1 c2 (.grant y.n n m a s)) = putK (loL es) (.inr n) (.str y.n):=by
    show kv _ (mod y.n (gGr a) es++[xGr y.n n m a s t c1]) = _
    rw [snoc_put (g:=gGr a) (x:=xGr y.n n m a s t c1) (fun _=>rfl) hnn,kv_same (g:=gGr a) (fun _=>rfl) (fun _=>rfl)];rfl
   have e2:hoL (stp y es t 0 c1 c2 (.grant y.n n m a s)) = putK (hoL es) (.inr n) (.str m):=by
    show kv _ (mod y.n (gGr a) es++[xGr y.n n m a s t c1]) = _
    rw [snoc_put (g:=gGr a) (x:=xGr y.n n m a s t c1) (fun _=>rfl) hnn,kv_same (g:=gGr a) (fun _=>rfl) (fun _=>rfl)];rfl
   have e3:owL (stp y es t 0 c1 c2 (.grant y.n n m a s)) = putK (putK (owL es) (.inr y.n) (.int (y.own - a))) (.inr n) (.int a):=by
    show kv _ (mod y.n (gGr a) es++[xGr y.n n m a s t c1]) = _
    rw [snoc_put (g:=gGr a) (x:=xGr y.n n m a s t c1) (fun _=>rfl) hnn,mod_put (g:=gGr a) (fun _=>rfl) W.nd hy];rfl
   have e4:seL (stp y es t 0 c1 c2 (.grant y.n n m a s)) = putK (seL es) (.inr n) (.ref t):=by
    show kv _ (mod y.n (gGr a) es++[xGr y.n n m a s t c1]) = _
    rw [snoc_put (g:=gGr a) (x:=xGr y.n n m a s t c1) (fun _=>rfl) hnn,kv_same (g:=gGr a) (fun _=>rfl) (fun _=>rfl)];rfl
   have e5:brL (stp y es t 0 c1 c2 (.grant y.n n m a s)) = putK (brL es) (.inr n) (.int a):=by
    show kv _ (mod y.n (gGr a) es++[xGr y.n n m a s t c1]) = _
    rw [snoc_put (g:=gGr a) (x:=xGr y.n n m a s t c1) (fun _=>rfl) hnn,kv_same (g:=gGr a) (fun _=>rfl) (fun _=>rfl)];rfl
   show LandAt C _ q.x q.dx q.a1 q.a2 q.a3 q.a4 q.a5 _ _ _ _ _
   rw [e1,e2,e3,e4,e5]
   have x1:=ne_of L.o L.l1 (by intro z;cases z)
   have x2:=ne_of L.o L.l2 (by intro z;cases z)
   have x3:=ne_of L.o L.l3 (by intro z;cases z)
   have x4:=ne_of L.o L.l4 (by intro z;cases z)
   have x5:=ne_of L.o L.l5 (by intro z;cases z)
   unfold addH
   refine ⟨?_,?_,?_,?_,?_,upd_same⟩
   ·rw [upd_ne x5,upd_ne x4,upd_ne x3,upd_ne x2,upd_ne x1,upd_ne (Ne.symm (nt L.o)),upd_ne x3];exact L.o
   ·rw [upd_ne a5.n15,upd_ne a5.n14,upd_ne a5.n13,upd_ne a5.n12,upd_same]
   ·rw [upd_ne a5.n25,upd_ne a5.n24,upd_ne a5.n23,upd_same]
   ·rw [upd_ne a5.n35,upd_ne a5.n34,upd_same]
   ·rw [upd_ne a5.n45,upd_same]
  ·show addH _ _ _ _ _ _ _ _ _ _ _ _ _ _ _ _ t = some (.tup [.int s,.int 1])
   unfold addH
   rw [upd_ne (nt L.l5),upd_ne (nt L.l4),upd_ne (nt L.l3),upd_ne (nt L.l2),upd_ne (nt L.l1),upd_same]
  ·intro c u c1 c2 c3 c4 c5 hc
   unfold addH
   rw [upd_ne c5,upd_ne c4,upd_ne c3,upd_ne c2,upd_ne c1,upd_ne (Ne.symm (nt hc)),upd_ne c3]
   exact hc
 | part e n m a =>
  obtain ⟨hy,rfl,hn,ha⟩:=hst
  obtain ⟨h1,h2,h3,h4⟩:=hok
  have hnn:=R.new hn (hls n h1).1
  obtain ⟨p,hp,_,_⟩:=W.lord y hy h4
  have hfr:=R.fr y hy
  have hbb:=W.bnd y hy
  have hob:=W.own_le y hy
  refine ⟨_,rfl,r,_,_,_,rfl,rfl,SqT.of hx,atI_nat (j:=0) rfl,rfl,_,rfl,no_eq (by decide +kernel) ?_⟩
  refine ⟨_,rfl,r,_,_,_,rfl,rfl,SqT.of hx,atI_nat (j:=0) rfl,rfl,_,rfl,is_eq (by decide +kernel) ?_⟩
  refine ⟨_,rfl,q.x,q.dx,_,rfl,L.o,rfl,_,rfl,r,_,_,_,rfl,rfl,SqT.of hx,atI_nat (j:=2) rfl,_,rfl,r,_,_,_,rfl,rfl,SqT.of hx,atI_nat (j:=3) rfl,_,rfl,r,_,_,_,rfl,rfl,SqT.of hx,atI_nat (j:=4) rfl,_,rfl,r,_,_,_,rfl,rfl,SqT.of hx,atI_nat (j:=5) rfl,?_⟩
  refine ⟨q.x,q.dx,q.a1,q.a2,q.a3,q.a4,q.a5,_,_,_,_,_,y.n,n,m,p,y.ta,a,y.own,y.br,y.due,rfl,L,a5,(by rw [val_kv W.nd hy,hp];rfl),val_kv W.nd hy,val_kv W.nd hy,val_kv W.nd hy,hfr.1,hfr.2.2.mono (by omega),by omega,by omega,by omega,kl,kl,kl,kl,kl,fun g r' H' hg hr0 hgr L' f1 f2 out=>?_⟩
  rw [part_left hfr.2.2.2.1 (by omega)] at f2
  refine k g r' H' (fun c1 c2=>?_) ⟨f1,f2⟩ out
  have e1:loL (stp y es g r' c1 c2 (.part y.n n m a)) = putK (loL es) (.inr n) (.str p):=by
   show kv _ (mod y.n (gPa a r' c2) es++[xPa y n m a g c1]) = _
   rw [snoc_put (g:=gPa a r' c2) (x:=xPa y n m a g c1) (fun _=>rfl) hnn,kv_same (g:=gPa a r' c2) (fun _=>rfl) (fun _=>rfl)]
   show putK _ _ (lordV y.lord) = _
   rw [hp];rfl
  have e2:hoL (stp y es g r' c1 c2 (.part y.n n m a)) = putK (hoL es) (.inr n) (.str m):=by
   show kv _ (mod y.n (gPa a r' c2) es++[xPa y n m a g c1]) = _
   rw [snoc_put (g:=gPa a r' c2) (x:=xPa y n m a g c1) (fun _=>rfl) hnn,kv_same (g:=gPa a r' c2) (fun _=>rfl) (fun _=>rfl)];rfl
  have e3:owL (stp y es g r' c1 c2 (.part y.n n m a)) = putK (putK (owL es) (.inr y.n) (.int (y.own - a))) (.inr n) (.int a):=by
   show kv _ (mod y.n (gPa a r' c2) es++[xPa y n m a g c1]) = _
   rw [snoc_put (g:=gPa a r' c2) (x:=xPa y n m a g c1) (fun _=>rfl) hnn,mod_put (g:=gPa a r' c2) (fun _=>rfl) W.nd hy];rfl
  have e4:seL (stp y es g r' c1 c2 (.part y.n n m a)) = putK (putK (seL es) (.inr y.n) (.ref r')) (.inr n) (.ref g):=by
   show kv _ (mod y.n (gPa a r' c2) es++[xPa y n m a g c1]) = _
   rw [snoc_put (g:=gPa a r' c2) (x:=xPa y n m a g c1) (fun _=>rfl) hnn,mod_put (g:=gPa a r' c2) (fun _=>rfl) W.nd hy];rfl
  have e5:brL (stp y es g r' c1 c2 (.part y.n n m a)) = putK (putK (brL es) (.inr y.n) (.int (y.br - a))) (.inr n) (.int a):=by
   show kv _ (mod y.n (gPa a r' c2) es++[xPa y n m a g c1]) = _
   rw [snoc_put (g:=gPa a r' c2) (x:=xPa y n m a g c1) (fun _=>rfl) hnn,mod_put (g:=gPa a r' c2) (fun _=>rfl) W.nd hy];rfl
  show LandAt C H' q.x q.dx q.a1 q.a2 q.a3 q.a4 q.a5 _ _ _ _ _
  rw [e1,e2,e3,e4,e5]
  exact L'
 | convey e m =>
  obtain ⟨hy,rfl⟩:=hst
  refine ⟨_,rfl,r,_,_,_,rfl,rfl,SqT.of hx,atI_nat (j:=0) rfl,rfl,_,rfl,no_eq (by decide +kernel) ?_⟩
  refine ⟨_,rfl,r,_,_,_,rfl,rfl,SqT.of hx,atI_nat (j:=0) rfl,rfl,_,rfl,no_eq (by decide +kernel) ?_⟩
  refine ⟨_,rfl,r,_,_,_,rfl,rfl,SqT.of hx,atI_nat (j:=0) rfl,rfl,_,rfl,is_eq (by decide +kernel) ?_⟩
  refine ⟨_,rfl,q.x,q.dx,_,rfl,L.o,rfl,_,rfl,r,_,_,_,rfl,rfl,SqT.of hx,atI_nat (j:=2) rfl,_,rfl,r,_,_,_,rfl,rfl,SqT.of hx,atI_nat (j:=3) rfl,?_⟩
  refine ⟨q.x,q.dx,q.a1,q.a2,q.a3,q.a4,q.a5,_,_,_,_,_,y.n,m,rfl,L,Nat.le_trans kl (by decide),?_⟩
  refine k 0 0 _ (fun c1 c2=>?_) True.intro fun c u _ c2 _ _ _ hc=>by rw [upd_ne c2];exact hc
  have e2:hoL (mod y.n (gCo m) es) = putK (hoL es) (.inr y.n) (.str m):=mod_put (g:=gCo m) (fun _=>rfl) W.nd hy
  show LandAt C _ q.x q.dx q.a1 q.a2 q.a3 q.a4 q.a5 (loL (mod y.n (gCo m) es)) (hoL (mod y.n (gCo m) es)) (owL (mod y.n (gCo m) es)) (seL (mod y.n (gCo m) es)) (brL (mod y.n (gCo m) es))
  rw [e2]
  have e1:loL (mod y.n (gCo m) es) = loL es:=kv_same (g:=gCo m) (fun _=>rfl) (fun _=>rfl) es
  have e3:owL (mod y.n (gCo m) es) = owL es:=kv_same (g:=gCo m) (fun _=>rfl) (fun _=>rfl) es
  have e4:seL (mod y.n (gCo m) es) = seL es:=kv_same (g:=gCo m) (fun _=>rfl) (fun _=>rfl) es
  have e5:brL (mod y.n (gCo m) es) = brL es:=kv_same (g:=gCo m) (fun _=>rfl) (fun _=>rfl) es
  rw [e1,e3,e4,e5]
  exact ⟨by rw [upd_ne (ne_of L.o L.l2 (by intro z;cases z))];exact L.o,by rw [upd_ne a5.n12];exact L.l1,upd_same,by rw [upd_ne (Ne.symm a5.n23)];exact L.l3,by rw [upd_ne (Ne.symm a5.n24)];exact L.l4,by rw [upd_ne (Ne.symm a5.n25)];exact L.l5⟩
 | surr e =>
  obtain ⟨hy,rfl⟩:=hst
  obtain ⟨p,hp,hpm,hpn⟩:=W.lord y hy hok
  obtain ⟨z,hz,hzn⟩:=mem_nms hpm
  have ep:y.lord.getD "" = p:=by rw [hp];rfl
  refine ⟨_,rfl,r,_,_,_,rfl,rfl,SqT.of hx,atI_nat (j:=0) rfl,rfl,_,rfl,no_eq (by decide +kernel) ?_⟩
  refine ⟨_,rfl,r,_,_,_,rfl,rfl,SqT.of hx,atI_nat (j:=0) rfl,rfl,_,rfl,no_eq (by decide +kernel) ?_⟩
  refine ⟨_,rfl,r,_,_,_,rfl,rfl,SqT.of hx,atI_nat (j:=0) rfl,rfl,_,rfl,no_eq (by decide +kernel) ?_⟩
  refine ⟨_,rfl,r,_,_,_,rfl,rfl,SqT.of hx,atI_nat (j:=0) rfl,rfl,_,rfl,is_eq (by decide +kernel) ?_⟩
  refine ⟨_,rfl,q.x,q.dx,_,rfl,L.o,rfl,_,rfl,r,_,_,_,rfl,rfl,SqT.of hx,atI_nat (j:=2) rfl,?_⟩
  have vp:=val_kv (f:=fun e=>V.int e.own) W.nd hz
  rw [hzn] at vp
  refine ⟨q.x,q.dx,q.a1,q.a2,q.a3,q.a4,q.a5,_,_,_,_,_,y.n,p,y.own,z.own,rfl,L,a5,(by rw [val_kv W.nd hy,hp];rfl),val_kv W.nd hy,vp,(by rw [val_kv W.nd hy];rfl),(by rw [val_kv W.nd hy];rfl),(by rw [val_kv W.nd hy];rfl),tk_kv,tv_lo,(by rw [kv_len];omega),kl,fun ss H' hss _ L' out=>?_⟩
  rw [fall_land (a:=y.own) W.nd hss,fall_own W.nd hz hzn,fall_other (p:=p) (a:=y.own) (f:=fun e=>V.str e.man) (fun _=>rfl),fall_other (p:=p) (a:=y.own) (f:=fun e=>V.ref e.ta) (fun _=>rfl),fall_other (p:=p) (a:=y.own) (f:=fun e=>V.int e.br) (fun _=>rfl)] at L'
  refine k 0 0 H' (fun c1 c2=>?_) True.intro out
  show Ln C q H' (fallE y.n (y.lord.getD "") y.own es)
  rw [ep]
  exact L'
theorem scDo:FnScope ["_law_book_here", "_law_row_here", "_law_whole", "_law_wide", "_law_taker_here", "_law_estate"] ["_law_book_here", "_law_row_here"] (defScope sDo):=⟨rfl,rfl,rfl,by decide +kernel,rfl,by decide +kernel,by decide +kernel⟩
set_option maxHeartbeats 8000000 in
theorem ok_do (F:Fun K "_law_do" "_law_do" sDo f fd) {g1 g2 g3 g4:Addr} {d1 d2 d3 d4:FuncData}
  (G1:FnOk P w K mg base CX0 1 g1 d1 ["_law_book_here", "_law_row_here", "_law_lord", "_law_due"] spNew) (M1:Ms K mg "_law_new" g1 d1 ["_law_book_here", "_law_row_here", "_law_lord", "_law_due"])
  (G2:FnOk P w K mg base CX0 2 g2 d2 ["_law_book_here", "_law_estate"] spBr) (M2:Ms K mg "_law_breadth" g2 d2 ["_law_book_here", "_law_estate"])
  (G3:FnOk P w K mg base CX0 1 g3 d3 ["_law_top", "_law_bottom"] spLow) (M3:Ms K mg "_law_low" g3 d3 ["_law_top", "_law_bottom"])
  (G4:FnOk P w K mg base CX0 2 g4 d4 ["_law_book_here", "_law_estate"] spFl) (M4:Ms K mg "_law_fall" g4 d4 ["_law_book_here", "_law_estate"]) :
  FnOk P w K mg base CX0 3 f fd ["_law_book_here", "_law_row_here"] spDo:=by
 refine F.ok scDo (fun vs H Q E h=>?_) (fun cdv A outer s H vs Q E hr h=>?_)
 ·obtain ⟨q,es,ks,r,rw',y,rfl,_⟩:=h
  rfl
 obtain ⟨q,es,ks,r,rw',y,rfl,ap,bk,W,hfr,hbd,hx,hst,hgr,hpa,hsu,hl,hk,k⟩:=h
 have G1:=FnOk.mono (k:=2) G1 (by omega)
 have G3:=FnOk.mono (k:=2) G3 (by omega)
 refine ⟨_,(pss_cons (ps_if (pt_cmpR op_eq (pe_ix ix_tup (pv 1) pe_int (fun _ _=>rfl)) pe_str (nomark _)) (pss_one (ps_expr (pe_call G1 hr rfl M1.m M1.k M1.b .nil pass0 (pa_cons (pv 0) (pa_cons (pv 1) (pa_cons (pe_ix ix_tup (pv 1) pe_int (fun _ _=>rfl)) (pa_cons (pe_tup (pa_cons (pe_ix ix_tup (pv 1) pe_int (fun _ _=>rfl)) (pa_cons pe_int pa_nil))) pa_nil))))))) pss_nil)
  (pss_cons (ps_if (pt_cmpR op_eq (pe_ix ix_tup (pv 1) pe_int (fun _ _=>rfl)) pe_str (nomark _)) (pss_cons (ps_set (i:=2) scDo.nd rfl (Or.inl rfl) (pe_dget (u1 hr) (pe_dget (u1 hr) (pv 0) pe_str (fun _ _=>rfl)) (pe_ix ix_tup (pv 1) pe_int (fun _ _=>rfl)) (fun _ _=>rfl)))
  (pss_cons (ps_set (i:=3) scDo.nd rfl (Or.inl rfl) (pe_call G2 hr rfl M2.m M2.k M2.b .nil pass0 (pa_cons (pv 0) (pa_cons (pe_ix ix_tup (pv 1) pe_int (fun _ _=>rfl)) pa_nil))))
  (pss_cons (ps_expr (pe_call G1 hr rfl M1.m M1.k M1.b .nil pass0 (pa_cons (pv 0) (pa_cons (pv 1) (pa_cons (pe_dget (u1 hr) (pe_dget (u1 hr) (pv 0) pe_str (fun _ _=>rfl)) (pe_ix ix_tup (pv 1) pe_int (fun _ _=>rfl)) (fun _ _=>rfl)) (pa_cons (pe_call G3 hr rfl M3.m M3.k M3.b .nil pass0 (pa_cons (pe_op op_mulB (pe_ix ix_tup (pv 2) pe_int (fun _ _=>rfl)) (pe_ix ix_tup (pv 1) pe_int (fun _ _=>rfl))) (pa_cons (pe_op op_mulB (pe_ix ix_tup (pv 2) pe_int (fun _ _=>rfl)) (pv 3)) pa_nil))) pa_nil))))))
  (pss_one (ps_dput (u1 hr) (pe_dget (u1 hr) (pv 0) pe_str (fun _ _=>rfl)) (pe_ix ix_tup (pv 1) pe_int (fun _ _=>rfl)) (pe_call G3 hr rfl M3.m M3.k M3.b .nil pass0 (pa_cons (pe_op op_mulB (pe_ix ix_tup (pv 2) pe_int (fun _ _=>rfl)) (pe_op op_sub (pv 3) (pe_ix ix_tup (pv 1) pe_int (fun _ _=>rfl)))) (pa_cons (pe_op op_mulB (pe_ix ix_tup (pv 2) pe_int (fun _ _=>rfl)) (pv 3)) pa_nil))) rfl))))) pss_nil)
  (pss_cons (ps_if (pt_cmpR op_eq (pe_ix ix_tup (pv 1) pe_int (fun _ _=>rfl)) pe_str (nomark _)) (pss_one (ps_dput (u1 hr) (pe_dget (u1 hr) (pv 0) pe_str (fun _ _=>rfl)) (pe_ix ix_tup (pv 1) pe_int (fun _ _=>rfl)) (pe_ix ix_tup (pv 1) pe_int (fun _ _=>rfl)) rfl)) pss_nil)
  (pss_cons (ps_if (pt_cmpR op_eq (pe_ix ix_tup (pv 1) pe_int (fun _ _=>rfl)) pe_str (nomark _)) (pss_one (ps_expr (pe_call G4 hr rfl M4.m M4.k M4.b .nil pass0 (pa_cons (pv 0) (pa_cons (pe_ix ix_tup (pv 1) pe_int (fun _ _=>rfl)) pa_nil))))) pss_nil)
  (pss_cons (ps_if (pt_cmpR op_eq (pe_ix ix_tup (pv 1) pe_int (fun _ _=>rfl)) pe_str (nomark _)) pss_never pss_nil)
  (pss_cons (ps_if (pt_cmpR op_eq (pe_ix ix_tup (pv 1) pe_int (fun _ _=>rfl)) pe_str (nomark _)) pss_never pss_nil)
  (pss_one (ps_if (pt_cmpR op_eq (pe_ix ix_tup (pv 1) pe_int (fun _ _=>rfl)) pe_str (nomark _)) pss_never pss_nil)))))))),?_⟩
 have kl:∀ {f:Est→V},(kv f es).length≤800:=by intro f;rw [kv_len];omega
 cases rw' with
 | grant e n m a s =>
  obtain ⟨hy,rfl,hn,ha⟩:=hst
  have hnn:=hgr _ _ _ _ _ rfl
  refine ⟨_,rfl,r,_,_,_,rfl,rfl,SqT.of hx,atI_nat (j:=0) rfl,rfl,_,rfl,is_eq (by decide +kernel) ?_⟩
  refine ⟨_,rfl,_,rfl,_,rfl,r,_,_,_,rfl,rfl,SqT.of hx,atI_nat (j:=2) rfl,_,rfl,r,_,_,_,rfl,rfl,SqT.of hx,atI_nat (j:=6) rfl,small (by simp),fun t ht=>?_⟩
  have s1:=same_new ht (.tup [.int s,.int 1])
  have b1:=bk.same s1
  have x1:=s1 _ _ hx
  have ht1:(upd H t (.tup [.int s,.int 1])) t = some (.tup [.int s,.int 1]):=upd_same
  generalize upd H t (.tup [.int s,.int 1]) = H1 at s1 b1 x1 ht1 ⊢
  refine ⟨q,_,_,_,_,ks,r,_,y.n,n,m,y.n,t,a,y.own,rfl,ap,b1,x1,rfl,rfl,rfl,rfl,?_,kl,kl,kl,kl,by omega,fun H' b' o'=>?_⟩
  ·rw [valV_put,if_neg (fun z=>hnn (by rw [← key_eq.mp z];exact List.mem_map.mpr ⟨y,hy,rfl⟩))]
   exact val_kv W.nd hy
  have x2:=out_tup b1 o' x1
  have ht2:=out_tup b1 o' ht1
  refine ⟨_,rfl,r,_,_,_,rfl,rfl,SqT.of x2,atI_nat (j:=0) rfl,rfl,_,rfl,no_eq (by decide +kernel) ?_⟩
  refine ⟨_,rfl,r,_,_,_,rfl,rfl,SqT.of x2,atI_nat (j:=0) rfl,rfl,_,rfl,no_eq (by decide +kernel) ?_⟩
  refine ⟨_,rfl,r,_,_,_,rfl,rfl,SqT.of x2,atI_nat (j:=0) rfl,rfl,_,rfl,no_eq (by decide +kernel) ?_⟩
  refine ⟨_,rfl,r,_,_,_,rfl,rfl,SqT.of x2,atI_nat (j:=0) rfl,rfl,_,rfl,no_eq (by decide +kernel) ?_⟩
  refine ⟨_,rfl,r,_,_,_,rfl,rfl,SqT.of x2,atI_nat (j:=0) rfl,rfl,_,rfl,no_eq (by decide +kernel) ?_⟩
  refine ⟨_,rfl,r,_,_,_,rfl,rfl,SqT.of x2,atI_nat (j:=0) rfl,rfl,_,rfl,no_eq (by decide +kernel) ?_⟩
  refine k t 0 H' (fun c1 c2=>?_) ht2 ((OutB.same s1).trans o')
  have hyn:y.n∈nms es:=List.mem_map.mpr ⟨y,hy,rfl⟩
  rw [put_swap hyn hnn] at b'
  have e1:loL (stp y es c1 c2 t 0 (.grant y.n n m a s)) = putK (loL es) (.inr n) (.str y.n):=by
   show kv _ (mod y.n (gGr a) es++[xGr y.n n m a s c1 t]) = _
   rw [snoc_put (g:=gGr a) (x:=xGr y.n n m a s c1 t) (fun _=>rfl) hnn,kv_same (g:=gGr a) (fun _=>rfl) (fun _=>rfl)];rfl
  have e2:hoL (stp y es c1 c2 t 0 (.grant y.n n m a s)) = putK (hoL es) (.inr n) (.str m):=by
   show kv _ (mod y.n (gGr a) es++[xGr y.n n m a s c1 t]) = _
   rw [snoc_put (g:=gGr a) (x:=xGr y.n n m a s c1 t) (fun _=>rfl) hnn,kv_same (g:=gGr a) (fun _=>rfl) (fun _=>rfl)];rfl
  have e3:owL (stp y es c1 c2 t 0 (.grant y.n n m a s)) = putK (putK (owL es) (.inr y.n) (.int (y.own - a))) (.inr n) (.int a):=by
   show kv _ (mod y.n (gGr a) es++[xGr y.n n m a s c1 t]) = _
   rw [snoc_put (g:=gGr a) (x:=xGr y.n n m a s c1 t) (fun _=>rfl) hnn,mod_put (g:=gGr a) (fun _=>rfl) W.nd hy];rfl
  have e4:duL (stp y es c1 c2 t 0 (.grant y.n n m a s)) = putK (duL es) (.inr n) (.ref t):=by
   show kv _ (mod y.n (gGr a) es++[xGr y.n n m a s c1 t]) = _
   rw [snoc_put (g:=gGr a) (x:=xGr y.n n m a s c1 t) (fun _=>rfl) hnn,kv_same (g:=gGr a) (fun _=>rfl) (fun _=>rfl)];rfl
  show BQ q H' _ _ _ _ (ks++[n])
  rw [e1,e2,e3,e4]
  exact b'
 | part e n m a =>
  obtain ⟨hy,rfl,hn,ha⟩:=hst
  obtain ⟨hnn,h2,h3,h4⟩:=hpa _ _ _ _ rfl
  obtain ⟨p,hp,_,_⟩:=W.lord y hy h4
  have hbb:=W.bnd y hy
  have hob:=W.own_le y hy
  have hyn:y.n∈nms es:=List.mem_map.mpr ⟨y,hy,rfl⟩
  have q1:=big_e hbd.1 (by decide)
  have q2:=big_e hbd.2.2 (by decide)
  have q3:a.natAbs < bigN:=big_e (e:=5) (by omega) (by decide)
  have q4:y.br.natAbs < bigN:=big_e (e:=5) (by omega) (by decide)
  have q5:(y.br - a).natAbs < bigN:=big_e (e:=5) (by omega) (by decide)
  have q6:(y.due.2 * y.br).natAbs < bigN:=big_e (mul_lt (f:=5) hbd.2.2 (by omega)) (by decide)
  have q7:y.due.2 * y.br≠0:=Int.ne_of_gt (Int.mul_pos hbd.2.1 (by omega))
  have gl:∀ {Hx:Hp},Bk q Hx es ks→DGet Hx q.l (V.str y.n) (some (.str p)):=fun b=>by
   have:=gkv b.l W.nd hy
   rw [hp] at this
   exact this
  refine ⟨_,rfl,r,_,_,_,rfl,rfl,SqT.of hx,atI_nat (j:=0) rfl,rfl,_,rfl,no_eq (by decide +kernel) ?_⟩
  refine ⟨_,rfl,r,_,_,_,rfl,rfl,SqT.of hx,atI_nat (j:=0) rfl,rfl,_,rfl,is_eq (by decide +kernel) ?_⟩
  refine ⟨_,rfl,q.B,_,rfl,bk.gd,_,rfl,r,_,_,_,rfl,rfl,SqT.of hx,atI_nat (j:=2) rfl,q.d,_,rfl,gkv bk.d W.nd hy,?_⟩
  refine ⟨_,rfl,_,rfl,r,_,_,_,rfl,rfl,SqT.of hx,atI_nat (j:=2) rfl,q,es,ks,y,rfl,ap,bk,W,hy,hl,fun H1 s1=>?_⟩
  have b1:=bk.same s1
  have x1:=s1 _ _ hx
  have f1:H1 y.tb = some (.tup [.int y.due.1,.int y.due.2]):=s1 _ _ hfr
  refine ⟨_,rfl,_,rfl,_,rfl,q.B,_,rfl,b1.gl,_,rfl,r,_,_,_,rfl,rfl,SqT.of x1,atI_nat (j:=2) rfl,q.l,_,rfl,gl b1,?_⟩
  refine ⟨_,rfl,y.tb,_,_,_,rfl,rfl,SqT.of f1,atI_nat (j:=0) rfl,_,rfl,r,_,_,_,rfl,rfl,SqT.of x1,atI_nat (j:=5) rfl,_,_,rfl,rfl,⟨q1,q3⟩,_,rfl,y.tb,_,_,_,rfl,rfl,SqT.of f1,atI_nat (j:=1) rfl,_,rfl,_,_,rfl,rfl,⟨q2,q4⟩,_,_,rfl,q7,q6,fun t ht=>?_⟩
  have s2:=same_new ht (.tup [.int (low1 (y.due.1 * a) (y.due.2 * y.br)),.int (low2 (y.due.1 * a) (y.due.2 * y.br))])
  have b2:=b1.same s2
  have x2:=s2 _ _ x1
  have f2:=s2 _ _ f1
  have ht2:(upd H1 t (.tup [.int (low1 (y.due.1 * a) (y.due.2 * y.br)),.int (low2 (y.due.1 * a) (y.due.2 * y.br))])) t = some (.tup [.int (low1 (y.due.1 * a) (y.due.2 * y.br)),.int (low2 (y.due.1 * a) (y.due.2 * y.br))]):=upd_same
  have o2:=OutB.same (q:=q) (s1.trans s2)
  generalize upd H1 t (.tup [.int (low1 (y.due.1 * a) (y.due.2 * y.br)),.int (low2 (y.due.1 * a) (y.due.2 * y.br))]) = H2 at s2 b2 x2 f2 ht2 o2 ⊢
  refine ⟨q,_,_,_,_,ks,r,_,y.n,n,m,p,t,a,y.own,rfl,ap,b2,x2,rfl,rfl,rfl,rfl,?_,kl,kl,kl,kl,by omega,fun H3 b3 o3=>?_⟩
  ·rw [valV_put,if_neg (fun z=>hnn (by rw [← key_eq.mp z];exact hyn))]
   exact val_kv W.nd hy
  have x3:=out_tup b2 o3 x2
  have f3:=out_tup b2 o3 f2
  have ht3:=out_tup b2 o3 ht2
  have o4:=o2.trans o3
  refine ⟨_,rfl,y.tb,_,_,_,rfl,rfl,SqT.of f3,atI_nat (j:=0) rfl,_,rfl,_,rfl,r,_,_,_,rfl,rfl,SqT.of x3,atI_nat (j:=5) rfl,_,_,rfl,rfl,_,_,rfl,rfl,⟨q1,q5⟩,_,rfl,y.tb,_,_,_,rfl,rfl,SqT.of f3,atI_nat (j:=1) rfl,_,rfl,_,_,rfl,rfl,⟨q2,q4⟩,_,_,rfl,q7,q6,fun u hu=>?_⟩
  have s5:=same_new hu (.tup [.int (low1 (y.due.1 * (y.br - a)) (y.due.2 * y.br)),.int (low2 (y.due.1 * (y.br - a)) (y.due.2 * y.br))])
  have b5:=b3.same s5
  have x5:=s5 _ _ x3
  have ht5:=s5 _ _ ht3
  have hu5:(upd H3 u (.tup [.int (low1 (y.due.1 * (y.br - a)) (y.due.2 * y.br)),.int (low2 (y.due.1 * (y.br - a)) (y.due.2 * y.br))])) u = some (.tup [.int (low1 (y.due.1 * (y.br - a)) (y.due.2 * y.br)),.int (low2 (y.due.1 * (y.br - a)) (y.due.2 * y.br))]):=upd_same
  have o5:=o4.trans (OutB.same (q:=q) s5)
  generalize upd H3 u (.tup [.int (low1 (y.due.1 * (y.br - a)) (y.due.2 * y.br)),.int (low2 (y.due.1 * (y.br - a)) (y.due.2 * y.br))]) = H5 at s5 b5 x5 ht5 hu5 o5 ⊢
  have kl2:(putK (duL es) (.inr n) (.ref t)).length≤801:=Nat.le_trans (length_putK _ _ _) (Nat.succ_le_succ kl)
  refine ⟨_,rfl,q.B,_,rfl,b5.kd,_,rfl,r,_,_,_,rfl,rfl,SqT.of x5,atI_nat (j:=2) rfl,q.d,_,rfl,DPut.k (k:=.inr y.n) b5.d (small' (by omega)),?_⟩
  have b6:=b5.ud (l':=putK (putK (duL es) (.inr n) (.ref t)) (.inr y.n) (.ref u)) ap
  have o6:=o5.trans (OutB.ud (H:=H5) (o:=.dK (putK (putK (duL es) (.inr n) (.ref t)) (.inr y.n) (.ref u))))
  have x6:=out_tup b5 (OutB.ud (H:=H5) (o:=.dK (putK (putK (duL es) (.inr n) (.ref t)) (.inr y.n) (.ref u)))) x5
  have ht6:=out_tup b5 (OutB.ud (H:=H5) (o:=.dK (putK (putK (duL es) (.inr n) (.ref t)) (.inr y.n) (.ref u)))) ht5
  have hu6:=out_tup b5 (OutB.ud (H:=H5) (o:=.dK (putK (putK (duL es) (.inr n) (.ref t)) (.inr y.n) (.ref u)))) hu5
  generalize upd H5 q.d (.dK (putK (putK (duL es) (.inr n) (.ref t)) (.inr y.n) (.ref u))) = H6 at b6 o6 x6 ht6 hu6 ⊢
  refine ⟨_,rfl,r,_,_,_,rfl,rfl,SqT.of x6,atI_nat (j:=0) rfl,rfl,_,rfl,no_eq (by decide +kernel) ?_⟩
  refine ⟨_,rfl,r,_,_,_,rfl,rfl,SqT.of x6,atI_nat (j:=0) rfl,rfl,_,rfl,no_eq (by decide +kernel) ?_⟩
  refine ⟨_,rfl,r,_,_,_,rfl,rfl,SqT.of x6,atI_nat (j:=0) rfl,rfl,_,rfl,no_eq (by decide +kernel) ?_⟩
  refine ⟨_,rfl,r,_,_,_,rfl,rfl,SqT.of x6,atI_nat (j:=0) rfl,rfl,_,rfl,no_eq (by decide +kernel) ?_⟩
  refine ⟨_,rfl,r,_,_,_,rfl,rfl,SqT.of x6,atI_nat (j:=0) rfl,rfl,_,rfl,no_eq (by decide +kernel) ?_⟩
  refine k t u H6 (fun c1 c2=>?_) ⟨ht6,hu6⟩ o6
  rw [put_swap hyn hnn,put_swap hyn hnn] at b6
  have e1:loL (stp y es c1 c2 t u (.part y.n n m a)) = putK (loL es) (.inr n) (.str p):=by
   show kv _ (mod y.n (gPa a c2 u) es++[xPa y n m a c1 t]) = _
   rw [snoc_put (g:=gPa a c2 u) (x:=xPa y n m a c1 t) (fun _=>rfl) hnn,kv_same (g:=gPa a c2 u) (fun _=>rfl) (fun _=>rfl)]
   show putK _ _ (lordV y.lord) = _
   rw [hp];rfl
  have e2:hoL (stp y es c1 c2 t u (.part y.n n m a)) = putK (hoL es) (.inr n) (.str m):=by
   show kv _ (mod y.n (gPa a c2 u) es++[xPa y n m a c1 t]) = _
   rw [snoc_put (g:=gPa a c2 u) (x:=xPa y n m a c1 t) (fun _=>rfl) hnn,kv_same (g:=gPa a c2 u) (fun _=>rfl) (fun _=>rfl)];rfl
  have e3:owL (stp y es c1 c2 t u (.part y.n n m a)) = putK (putK (owL es) (.inr y.n) (.int (y.own - a))) (.inr n) (.int a):=by
   show kv _ (mod y.n (gPa a c2 u) es++[xPa y n m a c1 t]) = _
   rw [snoc_put (g:=gPa a c2 u) (x:=xPa y n m a c1 t) (fun _=>rfl) hnn,mod_put (g:=gPa a c2 u) (fun _=>rfl) W.nd hy];rfl
  have e4:duL (stp y es c1 c2 t u (.part y.n n m a)) = putK (putK (duL es) (.inr y.n) (.ref u)) (.inr n) (.ref t):=by
   show kv _ (mod y.n (gPa a c2 u) es++[xPa y n m a c1 t]) = _
   rw [snoc_put (g:=gPa a c2 u) (x:=xPa y n m a c1 t) (fun _=>rfl) hnn,mod_put (g:=gPa a c2 u) (fun _=>rfl) W.nd hy];rfl
  show BQ q H6 _ _ _ _ (ks++[n])
  rw [e1,e2,e3,e4]
  exact b6
 | convey e m =>
  obtain ⟨hy,rfl⟩:=hst
  refine ⟨_,rfl,r,_,_,_,rfl,rfl,SqT.of hx,atI_nat (j:=0) rfl,rfl,_,rfl,no_eq (by decide +kernel) ?_⟩
  refine ⟨_,rfl,r,_,_,_,rfl,rfl,SqT.of hx,atI_nat (j:=0) rfl,rfl,_,rfl,no_eq (by decide +kernel) ?_⟩
  refine ⟨_,rfl,r,_,_,_,rfl,rfl,SqT.of hx,atI_nat (j:=0) rfl,rfl,_,rfl,is_eq (by decide +kernel) ?_⟩
  refine ⟨_,rfl,r,_,_,_,rfl,rfl,SqT.of hx,atI_nat (j:=3) rfl,_,rfl,q.B,_,rfl,bk.gh,_,rfl,r,_,_,_,rfl,rfl,SqT.of hx,atI_nat (j:=2) rfl,q.h,_,rfl,DPut.k (k:=.inr y.n) bk.h (small' (Nat.lt_of_le_of_lt kl (by decide))),?_⟩
  have b1:=BookL.uh (l':=putK (hoL es) (.inr y.n) (.str m)) ap bk
  have o1:=OutB.uh (q:=q) (H:=H) (o:=.dK (putK (hoL es) (.inr y.n) (.str m)))
  have x1:=out_tup bk o1 hx
  generalize upd H q.h (.dK (putK (hoL es) (.inr y.n) (.str m))) = H1 at b1 o1 x1 ⊢
  refine ⟨_,rfl,r,_,_,_,rfl,rfl,SqT.of x1,atI_nat (j:=0) rfl,rfl,_,rfl,no_eq (by decide +kernel) ?_⟩
  refine ⟨_,rfl,r,_,_,_,rfl,rfl,SqT.of x1,atI_nat (j:=0) rfl,rfl,_,rfl,no_eq (by decide +kernel) ?_⟩
  refine ⟨_,rfl,r,_,_,_,rfl,rfl,SqT.of x1,atI_nat (j:=0) rfl,rfl,_,rfl,no_eq (by decide +kernel) ?_⟩
  refine ⟨_,rfl,r,_,_,_,rfl,rfl,SqT.of x1,atI_nat (j:=0) rfl,rfl,_,rfl,no_eq (by decide +kernel) ?_⟩
  refine k 0 0 H1 (fun c1 c2=>?_) True.intro o1
  have e2:hoL (mod y.n (gCo m) es) = putK (hoL es) (.inr y.n) (.str m):=mod_put (g:=gCo m) (fun _=>rfl) W.nd hy
  have e1:loL (mod y.n (gCo m) es) = loL es:=kv_same (g:=gCo m) (fun _=>rfl) (fun _=>rfl) es
  have e3:owL (mod y.n (gCo m) es) = owL es:=kv_same (g:=gCo m) (fun _=>rfl) (fun _=>rfl) es
  have e4:duL (mod y.n (gCo m) es) = duL es:=kv_same (g:=gCo m) (fun _=>rfl) (fun _=>rfl) es
  show BQ q H1 (loL (mod y.n (gCo m) es)) (hoL (mod y.n (gCo m) es)) (owL (mod y.n (gCo m) es)) (duL (mod y.n (gCo m) es)) ks
  rw [e1,e2,e3,e4]
  exact b1
 | surr e =>
  obtain ⟨hy,rfl⟩:=hst
  have hne:=hsu _ rfl
  obtain ⟨p,hp,_,_⟩:=W.lord y hy hne
  have ep:y.lord.getD "" = p:=by rw [hp];rfl
  refine ⟨_,rfl,r,_,_,_,rfl,rfl,SqT.of hx,atI_nat (j:=0) rfl,rfl,_,rfl,no_eq (by decide +kernel) ?_⟩
  refine ⟨_,rfl,r,_,_,_,rfl,rfl,SqT.of hx,atI_nat (j:=0) rfl,rfl,_,rfl,no_eq (by decide +kernel) ?_⟩
  refine ⟨_,rfl,r,_,_,_,rfl,rfl,SqT.of hx,atI_nat (j:=0) rfl,rfl,_,rfl,no_eq (by decide +kernel) ?_⟩
  refine ⟨_,rfl,r,_,_,_,rfl,rfl,SqT.of hx,atI_nat (j:=0) rfl,rfl,_,rfl,is_eq (by decide +kernel) ?_⟩
  refine ⟨_,rfl,_,rfl,r,_,_,_,rfl,rfl,SqT.of hx,atI_nat (j:=2) rfl,q,es,ks,y,p,rfl,ap,bk,W,hy,hne,hp,by omega,fun H1 b1 o1=>?_⟩
  have x1:=out_tup bk o1 hx
  refine ⟨_,rfl,r,_,_,_,rfl,rfl,SqT.of x1,atI_nat (j:=0) rfl,rfl,_,rfl,no_eq (by decide +kernel) ?_⟩
  refine ⟨_,rfl,r,_,_,_,rfl,rfl,SqT.of x1,atI_nat (j:=0) rfl,rfl,_,rfl,no_eq (by decide +kernel) ?_⟩
  refine ⟨_,rfl,r,_,_,_,rfl,rfl,SqT.of x1,atI_nat (j:=0) rfl,rfl,_,rfl,no_eq (by decide +kernel) ?_⟩
  refine k 0 0 H1 (fun c1 c2=>?_) True.intro o1
  show Bk q H1 (fallE y.n (y.lord.getD "") y.own es) ks
  rw [ep]
  exact b1
end
end M
namespace M
open PySem L2 PyProof.Rows
abbrev sEi:Stmt:=top 37
abbrev sLi:Stmt:=top 38
theorem eq_strs {H:Hp} {p q:Addr} {ss:List Str} (hp:H p = some (.lst (ss.map V.str))) (hq:H q = some (.lst (ss.map V.str))) (hl:ss.length≤1000):EqD H 3 (.ref p) (.ref q):=by
 refine .inr (.inr ⟨p,q,_,_,rfl,rfl,hp,hq,rfl,by rw [List.length_map];exact hl,fun i x y h1 h2=>?_⟩)
 rw [h1] at h2
 cases h2
 rw [List.getElem?_map] at h1
 obtain ⟨z,_,rfl⟩:=Option.map_eq_some_iff.mp h1
 exact .inl ⟨rfl,rfl⟩
theorem eq_fr {H:Hp} {p q:Addr} {x y:Int} (hp:H p = some (.tup [.int x,.int y])) (hq:H q = some (.tup [.int x,.int y])):EqD H 2 (.ref p) (.ref q):=by
 refine .inr (.inl ⟨p,q,_,_,rfl,rfl,hp,hq,rfl,by simp,fun i u v h1 h2=>?_⟩)
 rw [h1] at h2
 cases h2
 have:u = .int x∨u = .int y:=by
  match i,h1 with
  | 0,h1=>exact .inl (by simpa using h1.symm)
  | 1,h1=>exact .inr (by simpa using h1.symm)
  | (i + 2),h1=>simp at h1
 rcases this with rfl | rfl <;> exact .inl ⟨rfl,rfl⟩
theorem lord_scal (o:Option Str):scalV (lordV o) = true:=by cases o <;> rfl
theorem eq_told {H:Hp} {p q ta tb:Addr} {m:Str} {o:Option Str} {i j:Int} {d:Int×Int} (hp:H p = some (.tup [.str m,lordV o,.int i,.int j,.ref ta])) (hq:H q = some (.tup [.str m,lordV o,.int i,.int j,.ref tb])) (h1:Fr2 H ta d.1 d.2) (h2:Fr2 H tb d.1 d.2):EqD H 3 (.ref p) (.ref q):=by
 refine .inr (.inl ⟨p,q,_,_,rfl,rfl,hp,hq,rfl,by simp,fun i u v e1 e2=>?_⟩)
 match i,e1,e2 with
 | 0,e1,e2=>simp at e1 e2;subst e1 e2;exact .inl ⟨rfl,rfl⟩
 | 1,e1,e2=>simp at e1 e2;subst e1 e2;exact .inl ⟨rfl,lord_scal o⟩
 | 2,e1,e2=>simp at e1 e2;subst e1 e2;exact .inl ⟨rfl,rfl⟩
 | 3,e1,e2=>simp at e1 e2;subst e1 e2;exact .inl ⟨rfl,rfl⟩
 | 4,e1,e2=>simp at e1 e2;subst e1 e2;exact eq_fr h1 h2
 | (i + 5),e1,e2=>simp at e1
def spEi (C:Addr):Sp:=fun vs H Q _=>∃ q es ks ls j e,vs = [.ref q.x,.ref q.B,.str e.n]∧Rel C q H es ks ls j∧e∈es∧es.length≤18∧∀ H',Same H H'→Q (.bl true) H'
def spLi (C:Addr):Sp:=fun vs H Q _=>∃ q es ks ls j,vs = [.ref q.x,.ref q.B]∧Rel C q H es ks ls j∧es.length≤18∧∀ H',Same H H'→Q (.bl true) H'
section
variable {P:Program} {w:World} {K:PySem.W.Frag} {mg:Str→Option Value} {base:Heap} {f C:Addr} {fd:FuncData}
theorem scEi:FnScope ["_law_land", "_law_book_here", "_law_estate", "_law_told", "_law_due"] ["_law_land", "_law_book_here", "_law_estate"] (defScope sEi):=⟨rfl,rfl,rfl,by decide +kernel,rfl,by decide +kernel,by decide +kernel⟩
set_option maxHeartbeats 8000000 in
theorem ok_ei (T:LandC K C) (F:Fun K "_law_estate_is" "_law_estate_is" sEi f fd) {g1 g2 g3 g4 g5 g6 g7 g8 g9 g10 g11 g12:Addr} {d1 d2 d3 d4 d5 d6 d7 d8 d9 d10 d11 d12:FuncData}
  (G1:FnOk P w K mg base CX0 3 g1 d1 ["self", "estate"] (spHolder C)) (m1:Meth K C "holder" g1) (b1:Binds K d1 ["self", "estate"] [])
  (G2:FnOk P w K mg base CX0 3 g2 d2 ["self", "estate"] (spLord C)) (m2:Meth K C "lord" g2) (b2:Binds K d2 ["self", "estate"] [])
  (G3:FnOk P w K mg base CX0 3 g3 d3 ["self", "estate"] (spOwn C)) (m3:Meth K C "own" g3) (b3:Binds K d3 ["self", "estate"] [])
  (G4:FnOk P w K mg base CX0 3 g4 d4 ["self", "estate"] (spBreadth C)) (m4:Meth K C "breadth" g4) (b4:Binds K d4 ["self", "estate"] [])
  (G5:FnOk P w K mg base CX0 3 g5 d5 ["self", "estate"] (spService C)) (m5:Meth K C "service" g5) (b5:Binds K d5 ["self", "estate"] [])
  (G6:FnOk P w K mg base CX0 3 g6 d6 ["self", "estate"] (spChain C)) (m6:Meth K C "chain" g6) (b6:Binds K d6 ["self", "estate"] [])
  (G7:FnOk P w K mg base CX0 1 g7 d7 ["self", "estate"] (spThere C)) (m7:Meth K C "there" g7) (b7:Binds K d7 ["self", "estate"] [])
  (G8:FnOk P w K mg base CX0 3 g8 d8 ["self", "estate"] (spUnder C)) (m8:Meth K C "under" g8) (b8:Binds K d8 ["self", "estate"] [])
  (G9:FnOk P w K mg base CX0 2 g9 d9 ["_law_book_here", "_law_estate"] spBr) (M9:Ms K mg "_law_breadth" g9 d9 ["_law_book_here", "_law_estate"])
  (G10:FnOk P w K mg base CX0 1 g10 d10 ["_law_book_here", "_law_estate"] spChn) (M10:Ms K mg "_law_chain" g10 d10 ["_law_book_here", "_law_estate"])
  (G11:FnOk P w K mg base CX0 1 g11 d11 ["_law_book_here", "_law_estate"] spUnd) (M11:Ms K mg "_law_under" g11 d11 ["_law_book_here", "_law_estate"])
  (G12:FnOk P w K mg base CX0 3 g12 d12 ["_law_found", "_law_due"] (spSame 3)) (M12:Ms K mg "_law_same" g12 d12 ["_law_found", "_law_due"]) :
  FnOk P w K mg base CX0 4 f fd ["_law_land", "_law_book_here", "_law_estate"] (spEi C):=by
 refine F.ok scEi (fun vs H Q E h=>?_) (fun cdv A outer s H vs Q E hr h=>?_)
 ·obtain ⟨q,es,ks,ls,j,e,rfl,_⟩:=h
  rfl
 obtain ⟨q,es,ks,ls,j,e,rfl,R,he,hl,k⟩:=h
 have G7:=FnOk.mono (k:=3) G7 (by omega)
 have G9:=FnOk.mono (k:=3) G9 (by omega)
 have G10:=FnOk.mono (k:=3) G10 (by omega)
 have G11:=FnOk.mono (k:=3) G11 (by omega)
 refine ⟨_,(pss_cons (ps_set (i:=3) scEi.nd rfl (Or.inl rfl) (pe_tup (pa_cons (pe_meth (pv 0) T.cl m1 G1 hr b1 .nil pass0 (pa_cons (pv 2) pa_nil)) (pa_cons (pe_meth (pv 0) T.cl m2 G2 hr b2 .nil pass0 (pa_cons (pv 2) pa_nil)) (pa_cons (pe_meth (pv 0) T.cl m3 G3 hr b3 .nil pass0 (pa_cons (pv 2) pa_nil)) (pa_cons (pe_meth (pv 0) T.cl m4 G4 hr b4 .nil pass0 (pa_cons (pv 2) pa_nil)) (pa_cons (pe_meth (pv 0) T.cl m5 G5 hr b5 .nil pass0 (pa_cons (pv 2) pa_nil)) pa_nil)))))))
  (pss_cons (ps_set (i:=4) scEi.nd rfl (Or.inl rfl) (pe_tup (pa_cons (pe_dget (u1 hr) (pe_dget (u1 hr) (pv 1) pe_str (fun _ _=>rfl)) (pv 2) (fun _ _=>rfl)) (pa_cons (pe_dget (u1 hr) (pe_dget (u1 hr) (pv 1) pe_str (fun _ _=>rfl)) (pv 2) (fun _ _=>rfl)) (pa_cons (pe_dget (u1 hr) (pe_dget (u1 hr) (pv 1) pe_str (fun _ _=>rfl)) (pv 2) (fun _ _=>rfl)) (pa_cons (pe_call G9 hr rfl M9.m M9.k M9.b .nil pass0 (pa_cons (pv 1) (pa_cons (pv 2) pa_nil))) pa_nil))))))
  (pss_cons (ps_if (pt_not (pt_val (pe_call G12 hr rfl M12.m M12.k M12.b .nil pass0 (pa_cons (pv 3) (pa_cons (pe_op op_catT (pv 4) (pe_tup (pa_cons (pe_dget (u1 hr) (pe_dget (u1 hr) (pv 1) pe_str (fun _ _=>rfl)) (pv 2) (fun _ _=>rfl)) pa_nil))) pa_nil))))) pss_never pss_nil)
  (pss_cons (ps_if (PW.pt (pw_or (pt_not (pt_val (pe_call G12 hr rfl M12.m M12.k M12.b .nil pass0 (pa_cons (pe_meth (pv 0) T.cl m6 G6 hr b6 .nil pass0 (pa_cons (pv 2) pa_nil)) (pa_cons (pe_call G10 hr rfl M10.m M10.k M10.b .nil pass0 (pa_cons (pv 1) (pa_cons (pv 2) pa_nil))) pa_nil))))) (pw_or1 (pt_not (pt_val (pe_call G12 hr rfl M12.m M12.k M12.b .nil pass0 (pa_cons (pe_meth (pv 0) T.cl m7 G7 hr b7 .nil pass0 (pa_cons (pv 2) pa_nil)) (pa_cons pe_bl pa_nil)))))))) pss_never pss_nil)
  (pss_one (ps_ret (pe_call G12 hr rfl M12.m M12.k M12.b .nil pass0 (pa_cons (pe_meth (pv 0) T.cl m8 G8 hr b8 .nil pass0 (pa_cons (pv 2) pa_nil)) (pa_cons (pe_call G11 hr rfl M11.m M11.k M11.b .nil pass0 (pa_cons (pv 1) (pa_cons (pv 2) pa_nil))) pa_nil))))))))),?_⟩
 have W:=R.W
 have L:=R.L
 have bk:=R.B
 have ap:=R.ap
 have hen:e.n∈nms es:=List.mem_map.mpr ⟨e,he,rfl⟩
 have hs:(valV (loL es) (.inr e.n)).isSome = true:=by rw [val_some,decide_eq_true hen]
 obtain ⟨f1,f2,_⟩:=R.fr e he
 obtain ⟨l,hch,hll⟩:=W.chain he
 refine ⟨_,rfl,q.x,q.dx,_,rfl,L.o,rfl,_,rfl,q.x,q.dx,q.a1,q.a2,q.a3,q.a4,q.a5,_,_,_,_,_,e.n,_,rfl,L,hs,val_kv W.nd he,_,rfl,q.x,q.dx,_,rfl,L.o,rfl,_,rfl,q.x,q.dx,q.a1,q.a2,q.a3,q.a4,q.a5,_,_,_,_,_,e.n,_,rfl,L,hs,val_kv W.nd he,_,rfl,q.x,q.dx,_,rfl,L.o,rfl,_,rfl,q.x,q.dx,q.a1,q.a2,q.a3,q.a4,q.a5,_,_,_,_,_,e.n,_,rfl,L,hs,val_kv W.nd he,_,rfl,q.x,q.dx,_,rfl,L.o,rfl,_,rfl,q.x,q.dx,q.a1,q.a2,q.a3,q.a4,q.a5,_,_,_,_,_,e.n,_,rfl,L,hs,val_kv W.nd he,_,rfl,q.x,q.dx,_,rfl,L.o,rfl,_,rfl,q.x,q.dx,q.a1,q.a2,q.a3,q.a4,q.a5,_,_,_,_,_,e.n,_,rfl,L,hs,val_kv W.nd he,small (by simp),fun t1 ht1=>?_⟩
 have s1:=same_new ht1 (.tup [.str e.man,lordV e.lord,.int e.own,.int e.br,.ref e.ta])
 have k1:(upd H t1 (.tup [.str e.man,lordV e.lord,.int e.own,.int e.br,.ref e.ta])) t1 = some (.tup [.str e.man,lordV e.lord,.int e.own,.int e.br,.ref e.ta]):=upd_same
 generalize upd H t1 (.tup [.str e.man,lordV e.lord,.int e.own,.int e.br,.ref e.ta]) = H1 at s1 k1 ⊢
 have R1:=R.same s1
 refine ⟨_,rfl,q.B,_,rfl,R1.B.gh,_,rfl,q.h,_,rfl,gkv R1.B.h W.nd he,_,rfl,q.B,_,rfl,R1.B.gl,_,rfl,q.l,_,rfl,gkv R1.B.l W.nd he,_,rfl,q.B,_,rfl,R1.B.go,_,rfl,q.o,_,rfl,gkv R1.B.o W.nd he,_,rfl,_,rfl,q,es,ks,e,rfl,ap,R1.B,W,he,hl,fun H2 s2=>⟨small (by simp),fun t2 ht2=>?_⟩⟩
 have s3:=same_new ht2 (.tup [.str e.man,lordV e.lord,.int e.own,.int e.br])
 have k2:(upd H2 t2 (.tup [.str e.man,lordV e.lord,.int e.own,.int e.br])) t2 = some (.tup [.str e.man,lordV e.lord,.int e.own,.int e.br]):=upd_same
 generalize upd H2 t2 (.tup [.str e.man,lordV e.lord,.int e.own,.int e.br]) = H3 at s3 k2 ⊢
 have s13:=s2.trans s3
 have s03:=s1.trans s13
 have R3:=R.same s03
 refine ⟨_,rfl,_,rfl,_,rfl,q.B,_,rfl,R3.B.gd,_,rfl,q.d,_,rfl,gkv R3.B.d W.nd he,small (by simp),fun t3 ht3=>?_⟩
 have s4:=same_new ht3 (.tup [.ref e.tb])
 refine ⟨t2,t3,_,_,rfl,rfl,SqT.of (s4 _ _ k2),SqT.of upd_same,(by simp),small (by simp),(fun z=>absurd z (by simp)),fun _ t4 ht4=>?_⟩
 have s5:=same_new ht4 (.tup [.str e.man,lordV e.lord,.int e.own,.int e.br,.ref e.tb])
 have s35:=s4.trans s5
 refine ⟨_,_,rfl,eq_told (d:=e.due) (s35 _ _ (s13 _ _ k1)) upd_same (s35 _ _ (s03 _ _ f1)) (s35 _ _ (s03 _ _ f2)),fun H6 s6=>⟨_,rfl,iteF ?_⟩⟩
 have s06:=(s03.trans s35).trans s6
 have R6:=R.same s06
 refine ⟨_,rfl,q.x,q.dx,_,rfl,R6.L.o,rfl,_,rfl,q.x,q.dx,q.a1,q.a2,q.a3,q.a4,q.a5,_,_,_,_,_,e.n,l,rfl,R6.L,hs,hch,by omega,fun r1 H7 s7 hr1 hr1'=>?_⟩
 have R7:=R6.same s7
 refine ⟨_,rfl,_,rfl,q,es,ks,e.n,l,rfl,ap,R7.B,W,hen,hch,by omega,fun r2 H8 s8 hr2 hr2'=>?_⟩
 refine ⟨_,_,rfl,eq_strs (s8 _ _ hr1') hr2' (by omega),fun H9 s9=>⟨_,rfl,iteF ?_⟩⟩
 have s09:=((s06.trans s7).trans s8).trans s9
 have R9:=R.same s09
 refine ⟨_,rfl,q.x,q.dx,_,rfl,R9.L.o,rfl,_,rfl,q.x,q.dx,q.a1,q.a2,q.a3,q.a4,q.a5,_,_,_,_,_,e.n,rfl,R9.L,?_⟩
 rw [hs]
 refine ⟨_,_,rfl,.inl ⟨rfl,rfl⟩,fun H10 s10=>⟨_,rfl,iteF ?_⟩⟩
 have s010:=s09.trans s10
 have R10:=R.same s010
 refine ⟨_,rfl,q.x,q.dx,_,rfl,R10.L.o,rfl,_,rfl,q.x,q.dx,q.a1,q.a2,q.a3,q.a4,q.a5,_,_,_,_,_,e.n,rfl,R10.L,hs,tk_kv,tv_lo,by rw [kv_len];omega,fun r3 ss H11 s11 hr3 hr3' hp hso=>?_⟩
 have R11:=R10.same s11
 refine ⟨_,rfl,_,rfl,q,es,ks,e.n,rfl,ap,R11.B,W.nd,by omega,fun r4 ss' H12 s12 hr4 hr4' hp' hso'=>?_⟩
 have ess:ss = ss':=sorted_one ((lo_perm hp).trans hp'.symm) hso hso'
 subst ess
 have hsl:ss.length≤es.length:=by
  rw [hp'.length_eq,List.length_map]
  exact List.length_filter_le _ _
 exact ⟨_,_,rfl,eq_strs (s12 _ _ hr3') hr4' (by omega),fun H13 s13=>k _ (((s010.trans s11).trans s12).trans s13)⟩
theorem scLi:FnScope ["_law_land", "_law_book_here", "_law_names_here", "_law_folk"] ["_law_land", "_law_book_here"] (defScope sLi):=⟨rfl,rfl,rfl,by decide +kernel,rfl,by decide +kernel,by decide +kernel⟩
def scLi1:Scope:={ kind:=.function,names:=[(".0",.local),("_law_one",.local)],isGenerator:=false,isCoroutine:=false }
theorem csLi1:CScope ["_law_land", "_law_book_here", "_law_names_here", "_law_folk"] (defScope sLi) scLi1 ["_law_one"] [] []:=⟨rfl,by decide +kernel,by decide +kernel,by decide +kernel,rfl,by decide +kernel⟩
theorem ndLi1:((["_law_one"]:List Str)++([]:List Str)).Nodup:=by decide +kernel
def scLi2:Scope:={ kind:=.function,names:=[(".0",.local),("_law_man",.local),("_law_same",.globalImplicit),("_law_held",.globalImplicit),("_law_book_here",.free),("_law_land",.free)],isGenerator:=false,isCoroutine:=false }
theorem csLi2:CScope ["_law_land", "_law_book_here", "_law_names_here", "_law_folk"] (defScope sLi) scLi2 ["_law_man"] ["_law_book_here", "_law_land"] [1,0]:=⟨rfl,by decide +kernel,by decide +kernel,by decide +kernel,rfl,by decide +kernel⟩
theorem ndLi2:((["_law_man"]:List Str)++(["_law_book_here", "_law_land"]:List Str)).Nodup:=by decide +kernel
def scLi3:Scope:={ kind:=.function,names:=[(".0",.local),("_law_estate",.local),("_law_estate_is",.globalImplicit),("_law_book_here",.free),("_law_land",.free)],isGenerator:=false,isCoroutine:=false }
theorem csLi3:CScope ["_law_land", "_law_book_here", "_law_names_here", "_law_folk"] (defScope sLi) scLi3 ["_law_estate"] ["_law_book_here", "_law_land"] [1,0]:=⟨rfl,by decide +kernel,by decide +kernel,by decide +kernel,rfl,by decide +kernel⟩
theorem ndLi3:((["_law_estate"]:List Str)++(["_law_book_here", "_law_land"]:List Str)).Nodup:=by decide +kernel
theorem bt_set:bootBuiltins "set" = some (.type "set"):=by decide +kernel
theorem filt_true {α:Type} (l:List α):l.filter (fun _=>true) = l:=List.filter_eq_self.mpr fun _ _=>rfl
set_option maxHeartbeats 8000000 in
theorem ok_li (T:LandC K C) (F:Fun K "_law_land_is" "_law_land_is" sLi f fd) (m:MgS mg) (ms:mg "sorted" = none) (mse:mg "set" = none) {g1 g2 g3 g4 g5 g6:Addr} {d1 d2 d3 d4 d5 d6:FuncData}
  (G1:FnOk P w K mg base CX0 1 g1 d1 ["self"] (spEstates C)) (m1:Meth K C "estates" g1) (b1:Binds K d1 ["self"] [])
  (G2:FnOk P w K mg base CX0 1 g2 d2 ["self"] (spFolk C)) (m2:Meth K C "folk" g2) (b2:Binds K d2 ["self"] [])
  (G3:FnOk P w K mg base CX0 1 g3 d3 ["self", "man"] (spHeld C)) (m3:Meth K C "held" g3) (b3:Binds K d3 ["self", "man"] [])
  (G4:FnOk P w K mg base CX0 1 g4 d4 ["_law_book_here", "_law_man"] spHel) (M4:Ms K mg "_law_held" g4 d4 ["_law_book_here", "_law_man"])
  (G5:FnOk P w K mg base CX0 3 g5 d5 ["_law_found", "_law_due"] (spSame 3)) (M5:Ms K mg "_law_same" g5 d5 ["_law_found", "_law_due"])
  (G6:FnOk P w K mg base CX0 4 g6 d6 ["_law_land", "_law_book_here", "_law_estate"] (spEi C)) (M6:Ms K mg "_law_estate_is" g6 d6 ["_law_land", "_law_book_here", "_law_estate"]) :
  FnOk P w K mg base CX0 5 f fd ["_law_land", "_law_book_here"] (spLi C):=by
 refine F.ok scLi (fun vs H Q E h=>?_) (fun cdv A outer s H vs Q E hr h=>?_)
 ·obtain ⟨q,es,ks,ls,j,rfl,_⟩:=h
  rfl
 obtain ⟨q,es,ks,ls,j,rfl,R,hl,k⟩:=h
 have G1:=FnOk.mono (k:=4) G1 (by omega)
 have G2:=FnOk.mono (k:=4) G2 (by omega)
 have G3:=FnOk.mono (k:=4) G3 (by omega)
 have G4:=FnOk.mono (k:=4) G4 (by omega)
 have G5:=FnOk.mono (k:=4) G5 (by omega)
 refine ⟨_,(pss_cons (ps_set (i:=2) scLi.nd rfl (Or.inl rfl) (pe_callB call_sortedS rfl ms bt_sorted (pa_cons (pe_frz (pe_comp rfl csLi1 (pi_dict (pe_dget (u1 hr) (pv 1) pe_str (fun _ _=>rfl))) (fun s H fp C'=>⟨pg_name (i:=0) ndLi1 rfl (Or.inl rfl),pts_one (pt_cmpR op_ne (pv 0) pe_str (nomark _)),pv 0⟩))) pa_nil)))
  (pss_cons (ps_set (i:=3) scLi.nd rfl (Or.inl rfl) (pe_callB (call_sortSet hr.hd) rfl ms bt_sorted (pa_cons (pe_callTy (call_setTs hr.hd) rfl mse bt_set (pa_cons (pe_callTy (call_listV hr.hd) rfl m.list bt_list (pa_cons (pe_values (pe_dget (u1 hr) (pv 1) pe_str (fun _ _=>rfl))) pa_nil)) pa_nil)) pa_nil)))
  (pss_cons (ps_if (PW.pt (pw_or (pt_not (pt_val (pe_call G5 hr rfl M5.m M5.k M5.b .nil pass0 (pa_cons (pe_meth0 (pv 0) T.cl m1 G1 hr b1 .nil pass0) (pa_cons (pv 2) pa_nil))))) (pw_or1 (pt_not (pt_val (pe_call G5 hr rfl M5.m M5.k M5.b .nil pass0 (pa_cons (pe_meth0 (pv 0) T.cl m2 G2 hr b2 .nil pass0) (pa_cons (pv 3) pa_nil)))))))) pss_never pss_nil)
  (pss_cons (ps_if (pt_not (pt_val (pe_callB (call_allK (K:=K) rfl hr.hd) rfl m.all bt_all (pa_cons (pe_comp rfl csLi2 (pi_list (pv 3)) (fun s H fp C'=>⟨pg_name (i:=0) ndLi2 rfl (Or.inl rfl),pts_nil,(pe_call G5 hr rfl M5.m M5.k M5.b .nil pass0 (pa_cons (pe_meth (pv 2) T.cl m3 G3 hr b3 .nil pass0 (pa_cons (pv 0) pa_nil)) (pa_cons (pe_call G4 hr rfl M4.m M4.k M4.b .nil pass0 (pa_cons (pv 1) (pa_cons (pv 0) pa_nil))) pa_nil)))⟩)) pa_nil)))) pss_never pss_nil)
  (pss_one (ps_ret (pe_callB (call_allK (K:=K) rfl hr.hd) rfl m.all bt_all (pa_cons (pe_comp rfl csLi3 (pi_list (pe_op op_cat (pe_lst (pa_cons pe_str pa_nil)) (pv 2))) (fun s H fp C'=>⟨pg_name (i:=0) ndLi3 rfl (Or.inl rfl),pts_nil,(pe_call G6 hr rfl M6.m M6.k M6.b .nil pass0 (pa_cons (pv 2) (pa_cons (pv 1) (pa_cons (pv 0) pa_nil))))⟩)) pa_nil)))))))),?_⟩
 have W:=R.W
 have bk:=R.B
 have ap:=R.ap
 have nB:q.B≠q.l:=ap_ne ap 5 6 rfl rfl (by decide)
 have gB:∀ {o:Obj} {Hz:Hp},Same (upd H q.l (.frz o (.dK (loL es)))) Hz→DGet Hz q.B (V.str "lords") (some (.ref q.l)):=fun sz=>dget (sz _ _ (by rw [upd_ne nB];exact bk.b)) bk.vl
 refine frz_names (fun y=>!decide (y.n = "")) bk.l (by omega) (fun o R' hR=>⟨_,rfl,q.B,_,rfl,gB (Same.refl _),hR⟩) (fun o y Hz A B hy sz hAB=>?_) (fun D Hz sz hD0 hDz=>?_)
 ·refine ⟨Kp.set rfl (Kp.refl _),_,rfl,rfl,_,rfl,?_⟩
  rw [dec_str]
  refine ite2 (fun c=>?_) (fun c=>?_)
  ·rw [if_pos c] at hAB
   exact ⟨_,rfl,hAB⟩
  ·rw [if_neg c] at hAB
   exact hAB
 have fle:(es.filter fun y:Est=>!decide (y.n = ("" : Str))).length≤es.length:=List.length_filter_le _ _
 refine ⟨D,_,rfl,SqL.of hDz,(by rw [List.length_map];omega),fun r1 ns hr1 hpn hsn=>?_⟩
 have s1:=sz.trans (same_new hr1 (.lst (ns.map V.str)))
 have k1:(upd Hz r1 (.lst (ns.map V.str))) r1 = some (.lst (ns.map V.str)):=upd_same
 generalize upd Hz r1 (.lst (ns.map V.str)) = H1 at s1 k1 ⊢
 have R1:=R.same s1
 have nl:ns.length≤es.length:=by rw [hpn.length_eq,List.length_map];exact fle
 refine ⟨_,rfl,q.B,_,rfl,R1.B.gh,q.h,_,rfl,R1.B.h,fun v1 hv1=>?_⟩
 have sv:=same_new hv1 (ValuesV v1 q.h)
 have kv1:(upd H1 v1 (ValuesV v1 q.h)) v1 = some (ValuesV v1 q.h):=upd_same
 generalize upd H1 v1 (ValuesV v1 q.h) = Ha at sv kv1 ⊢
 refine ⟨v1,q.h,_,rfl,kv1,sv _ _ R1.B.h,fun l1 hl1=>?_⟩
 have em:(hoL es).map (·.2) = (es.map (·.man)).map V.str:=by rw [List.map_map,List.map_map];rfl
 rw [em]
 have sl:=sv.trans (same_new hl1 (.lst ((es.map (·.man)).map V.str)))
 have kl1:(upd Ha l1 (.lst ((es.map (·.man)).map V.str))) l1 = some (.lst ((es.map (·.man)).map V.str)):=upd_same
 generalize upd Ha l1 (.lst ((es.map (·.man)).map V.str)) = Hb at sl kl1 ⊢
 refine ⟨l1,_,rfl,SqL.of kl1,(by rw [List.length_map];omega),fun se hse=>?_⟩
 have al:=allS_len (es.map (·.man))
 rw [List.length_map] at al
 have ss0:=sl.trans (same_new hse (SetS P w se (allS (es.map (·.man)))))
 have kse:(upd Hb se (SetS P w se (allS (es.map (·.man))))) se = some (SetS P w se (allS (es.map (·.man)))):=upd_same
 refine ⟨se,_,rfl,upd_same,by omega,fun r2 fk hr2 hpf hsf=>?_⟩
 have hr2':(upd Hb se (SetS P w se (allS (es.map (·.man))))) r2 = none:=hr2
 have s12:=ss0.trans (same_new hr2' (.lst (fk.map V.str)))
 have s2:=s1.trans s12
 have k1':=s12 _ _ k1
 have k2:(upd (upd Hb se (SetS P w se (allS (es.map (·.man))))) r2 (.lst (fk.map V.str))) r2 = some (.lst (fk.map V.str)):=upd_same
 change (tSeq _ _) _ _ (upd (upd Hb se (SetS P w se (allS (es.map (·.man))))) r2 (.lst (fk.map V.str)))
 generalize upd (upd Hb se (SetS P w se (allS (es.map (·.man))))) r2 (.lst (fk.map V.str)) = H2 at s2 k1' k2 ⊢
 have R2:=R.same s2
 have fl:fk.length≤es.length:=by rw [hpf.length_eq];exact al
 refine ⟨_,rfl,q.x,q.dx,_,rfl,R2.L.o,rfl,q.x,q.dx,q.a1,q.a2,q.a3,q.a4,q.a5,_,_,_,_,_,rfl,R2.L,tk_kv,by rw [kv_len];omega,fun r3 ss H3 s3 hr3 hr3' hp3 hs3=>?_⟩
 have e3:ss = ns:=by
  rw [kstr_kv] at hp3
  exact sorted_one (hp3.trans hpn.symm) hs3 hsn
 subst e3
 refine ⟨_,rfl,_,_,rfl,eq_strs hr3' (s3 _ _ k1') (by omega),fun H4 s4=>⟨_,rfl,iteF ?_⟩⟩
 have s04:=(s2.trans s3).trans s4
 have R4:=R.same s04
 refine ⟨_,rfl,q.x,q.dx,_,rfl,R4.L.o,rfl,q,es,rfl,R4.L,by omega,fun r5 ff H5 s5 hr5 hr5' hp5 hs5=>?_⟩
 have e5:ff = fk:=sorted_two (hp5.trans hpf.symm) hs5 hsf
 subst e5
 have k2':=s4 _ _ (s3 _ _ k2)
 refine ⟨_,rfl,_,_,rfl,eq_strs hr5' (s5 _ _ k2') (by omega),fun H6 s6=>⟨_,rfl,iteF ?_⟩⟩
 have s06:=(s04.trans s5).trans s6
 have k26:=s6 _ _ (s5 _ _ k2')
 have k16:=s6 _ _ (s5 _ _ (s4 _ _ (s3 _ _ k1')))
 refine ⟨_,rfl,r2,rfl,⟨_,SqL.of k26⟩,fun D2 hD2=>comp_strs (xs:=ff) (fun _=>true) (fun _=>V.bl true) (SqL.of k26) hD2 (by omega) (fun x Hz2 A B hx sz2 hAB=>?_) (fun Hz2 sz2 hDz2=>?_)⟩
 ·refine ⟨Kp.set rfl (Kp.refl _),tTrue_ok ?_⟩
  have s07:=s06.trans sz2
  have R7:=R.same s07
  refine ⟨_,rfl,q.x,q.dx,_,rfl,R7.L.o,rfl,_,rfl,q.x,q.dx,q.a1,q.a2,q.a3,q.a4,q.a5,_,_,_,_,_,x,rfl,R7.L,tk_kv,tv_ho,by rw [kv_len];omega,fun r8 s8l H8 s8 hr8 hr8' hp8 hs8=>?_⟩
  have R8:=R7.same s8
  refine ⟨_,rfl,_,rfl,q,es,ks,x,rfl,ap,R8.B,W.nd,by omega,fun r9 s9l H9 s9 hr9 hr9' hp9 hs9=>?_⟩
  have e9:s8l = s9l:=by
   rw [kstr_kv] at hp8
   have ef:(es.filter fun e=>decide (V.str e.man = V.str x)) = es.filter fun y=>decide (y.man = x):=List.filter_congr fun y _=>dec_str
   have hp8':s8l.Perm ((es.filter fun y=>decide (y.man = x)).map (·.n)):=by rw [← ef];exact hp8
   exact sorted_one (hp8'.trans hp9.symm) hs8 hs9
  subst e9
  have l8:s8l.length≤es.length:=by rw [hp9.length_eq,List.length_map];exact List.length_filter_le _ _
  refine ⟨_,_,rfl,eq_strs (s9 _ _ hr8') hr9' (by omega),fun H10 s10=>?_⟩
  have:=hAB _ ((s8.trans s9).trans s10)
  rw [if_pos rfl] at this
  exact this
 have ebl:(ff.filter fun _=>true).map (fun _=>V.bl true) = (List.replicate ff.length true).map V.bl:=by rw [filt_true,List.map_const',List.map_replicate]
 refine ⟨D2,List.replicate ff.length true,rfl,SqL.of (by rw [← ebl];exact hDz2),?_⟩
 rw [all_true fun b hb=>List.eq_of_mem_replicate hb]
 refine ⟨_,rfl,iteF ?_⟩
 have s07:=s06.trans sz2
 have k17:=sz2 _ _ k16
 refine ⟨small (by simp),fun c1 hc1=>?_⟩
 have sc1:=same_new hc1 (.lst [.str ""])
 refine ⟨_,rfl,c1,r1,_,_,rfl,rfl,upd_same,sc1 _ _ k17,(by rw [List.length_map,List.length_singleton];exact small (by omega)),fun c2 hc2=>?_⟩
 have sc2:=sc1.trans (same_new hc2 (.lst ([.str ""]++ss.map V.str)))
 have kc2:(upd (upd Hz2 c1 (.lst [.str ""])) c2 (.lst ([.str ""]++ss.map V.str))) c2 = some (.lst (((("" : Str) :: ss)).map V.str)):=upd_same
 generalize upd (upd Hz2 c1 (.lst [.str ""])) c2 (.lst ([.str ""]++ss.map V.str)) = H11 at sc2 kc2 ⊢
 have s011:=s07.trans sc2
 refine ⟨c2,rfl,⟨_,SqL.of kc2⟩,fun D3 hD3=>comp_strs (xs:="" :: ss) (fun _=>true) (fun _=>V.bl true) (SqL.of kc2) hD3 (by rw [List.length_cons];omega) (fun x Hz3 A B hx sz3 hAB=>?_) (fun Hz3 sz3 hDz3=>?_)⟩
 ·refine ⟨Kp.set rfl (Kp.refl _),tTrue_ok ?_⟩
  have hxn:x∈nms es:=by
   rcases List.mem_cons.mp hx with z | z
   ·rw [z];exact W.mem0
   ·obtain ⟨y,hy,rfl⟩:=List.mem_map.mp (hpn.mem_iff.mp z)
    exact List.mem_map.mpr ⟨y,(List.mem_filter.mp hy).1,rfl⟩
  obtain ⟨y,hy,rfl⟩:=mem_nms hxn
  refine ⟨_,rfl,_,rfl,_,rfl,q,es,ks,ls,j,y,rfl,R.same (s011.trans sz3),hy,hl,fun H12 s12=>?_⟩
  have:=hAB _ s12
  rw [if_pos rfl] at this
  exact this
 have ebl3:((("" : Str) :: ss).filter fun _=>true).map (fun _=>V.bl true) = (List.replicate (("" : Str) :: ss).length true).map V.bl:=by rw [filt_true,List.map_const',List.map_replicate]
 refine ⟨D3,List.replicate (("" : Str) :: ss).length true,rfl,SqL.of (by rw [← ebl3];exact hDz3),?_⟩
 rw [all_true fun b hb=>List.eq_of_mem_replicate hb]
 exact k _ (s011.trans sz3)
end
end M
namespace M
open PySem L2
abbrev sNames:Stmt:=top 22
def az:Str:="abcdefghijklmnopqrstuvwxyz"
def low (c:Nat):Bool:=decide (97≤c) && decide (c≤122)
def nameB (l:List Nat):Bool:=l.all low && (decide (1≤l.length) && decide (l.length≤8))
theorem at_some {α:Type} {xs:List α} {i:Int} (h0:0≤i) (h1:i < xs.length):∃ v,atI xs i = some v∧v∈xs:=by
 have hi:i.toNat < xs.length:=by omega
 have e:i = ((i.toNat:Nat):Int):=by omega
 refine ⟨xs[i.toNat],?_,List.getElem_mem hi⟩
 have q:atI xs ((i.toNat:Nat):Int) = some xs[i.toNat]:=atI_nat (by simp [hi])
 rw [← e] at q
 exact q
theorem join_signs (cs:List Nat):(Txt.join (Str.ofString "") (cs.map fun c=>mkS [c])) = mkS cs:=by
 have e:(Str.ofString "").cps = #[]:=by decide +kernel
 have fo:∀ (ds:List Nat) (acc:Array Nat),(ds.map fun c=>mkS [c]).foldl (fun acc p=>acc++(Str.ofString "").cps++p.cps) acc = acc++ds.toArray:=by
  intro ds
  induction ds with
  | nil=>intro acc;simp
  | cons d r ih =>
   intro acc
   rw [List.map_cons,List.foldl_cons,ih,e]
   simp
 show Builtin.Str.glued (Str.ofString "") (cs.map fun c=>mkS [c]) = _
 cases cs with
 | nil=>rfl
 | cons c r =>
  unfold Builtin.Str.glued
  rw [List.map_cons,List.drop_one,List.tail_cons,fo,List.headD_cons]
  simp [mkS]
theorem join_ok {cs:List Nat} (h:cs.length≤1000):JoinOk (Str.ofString "") (cs.map fun c=>mkS [c]) = true:=by
 have e:(Str.ofString "").length = 0:=by decide +kernel
 have fo:∀ (ds:List Nat) (n:Nat),(ds.map fun c=>mkS [c]).foldl (fun a p=>a + p.length + (Str.ofString "").length) n = n + ds.length:=by
  intro ds
  induction ds with
  | nil=>intro n;simp
  | cons d r ih =>
   intro n
   rw [List.map_cons,List.foldl_cons,ih,e,mkS_len]
   simp;omega
 unfold JoinOk
 rw [List.foldl_toArray',fo]
 ·unfold Builtin.Str.tooLong
  have:=small (n:=cs.length) (by omega)
  simp;omega
 ·rfl
theorem app_list (x y:Str):(x++y).cps.toList = x.cps.toList++y.cps.toList:=by
 show (x.cps++y.cps).toList = _
 simp
theorem app_len (x y:Str):(x++y).length = x.length + y.length:=by
 have e:∀ z:Str,z.length = z.cps.toList.length:=fun z=>by simp [Str.length]
 rw [e,e,e,app_list,List.length_append]
theorem fs_at {fs:List Int} (h:∀ v∈fs,Okn v) {i:Int} (h0:0≤i) (h1:i < fs.length):∃ v:Int,atI (fs.map V.int) i = some (.int v)∧Okn v:=by
 obtain ⟨x,e,m⟩:=at_some (xs:=fs.map V.int) h0 (by rw [List.length_map];exact h1)
 obtain ⟨v,hv,rfl⟩:=List.mem_map.mp m
 exact ⟨v,e,h v hv⟩
theorem az_at:∀ i:_root_.Fin 26,az.cps.toList[i.val]? = some (97 + i.val):=by decide +kernel
theorem az_atI {i:Int} (h0:0≤i) (h1:i < 26):atI az.cps.toList i = some (97 + i.toNat):=by
 have e:i = ((i.toNat:Nat):Int):=by omega
 have q:atI az.cps.toList ((i.toNat:Nat):Int) = some (97 + i.toNat):=atI_nat (az_at ⟨i.toNat,by omega⟩)
 rw [← e] at q
 exact q
theorem low_az {i:Nat} (h:i < 26):low (97 + i) = true:=by simp [low];omega
theorem rep1 (n c:Nat):repS n [c] = List.replicate n c:=by
 unfold repS
 induction n with
 | zero=>rfl
 | succ n ih=>rw [List.replicate_succ,List.flatten_cons,ih];rfl
theorem cutG_to {α:Type} {xs:List α} {j:Nat} (h:j≤xs.length):cutG xs none (some (j:Int)) = xs.take j:=by
 unfold cutG
 have e1:HT.sIx xs.length 0 none = 0:=rfl
 rw [e1,HT.sIx_nat,List.drop_zero,Nat.sub_zero,Nat.min_eq_left h]
theorem cutG_from {α:Type} {xs:List α} {j:Nat} (h:j≤xs.length):cutG xs (some (j:Int)) none = xs.drop j:=by
 unfold cutG
 have e2:HT.sIx xs.length xs.length none = xs.length:=rfl
 rw [e2,HT.sIx_nat,Nat.min_eq_left h,List.take_of_length_le (by rw [List.length_drop];exact Nat.le_refl _)]
def Told (p:Nat) (e:Int) (zs:List Str):Prop:=∀ (j:Nat) (z:Str),zs[j]? = some z→z.cps.toList[p]? = some (97 + ((e + 7 * (j:Int)) % 26).toNat)∧nameB z.cps.toList = true
theorem Told.nodup {p:Nat} {e:Int} {zs:List Str} (h:Told p e zs) (hl:zs.length≤26):zs.Nodup:=by
 unfold List.Nodup
 rw [List.pairwise_iff_getElem]
 intro i j hi hj hij he
 have h1:=(h i _ (List.getElem?_eq_getElem hi)).1
 have h2:=(h j _ (List.getElem?_eq_getElem hj)).1
 rw [he,h2] at h1
 have h3:=Option.some.inj h1
 omega
theorem Told.snoc {p:Nat} {e:Int} {zs:List Str} {z:Str} (h:Told p e zs) (h1:z.cps.toList[p]? = some (97 + ((e + 7 * (zs.length:Int)) % 26).toNat)) (h2:nameB z.cps.toList = true):Told p e (zs++[z]):=by
 intro j y hj
 by_cases hlt:j < zs.length
 ·rw [List.getElem?_append_left hlt] at hj;exact h j y hj
 ·have hj':j < (zs++[z]).length:=(List.getElem?_eq_some_iff.mp hj).1
  have e:j = zs.length:=by rw [List.length_append,List.length_singleton] at hj';omega
  subst e
  rw [List.getElem?_append_right (Nat.le_refl _),Nat.sub_self] at hj
  have:z = y:=by simpa using hj
  subst this
  exact ⟨h1,h2⟩
theorem nameB_of {l:List Nat} (h:∀ c∈l,low c = true) (h1:1≤l.length) (h2:l.length≤8):nameB l = true:=by
 unfold nameB
 rw [List.all_eq_true.mpr h,decide_eq_true h1,decide_eq_true h2];rfl
def spNames (K:PySem.W.Frag):Sp:=fun vs H Q _=>∃ (a:Addr) (ds:List Int) (many:Int),vs = [.ref a,.int many]∧SqL K H a (ds.map V.int)∧4≤ds.length∧(∀ v∈ds,Okn v)∧0≤many∧many≤26 ∧
 ∀ (r:Addr) (H':Hp) (zs:List Str),Same H H'→H r = none→H' r = some (.lst (zs.map V.str))→zs.length = many.toNat→(∀ z∈zs,nameB z.cps.toList = true)→zs.Nodup→Q (.ref r) H'
section
variable {P:Program} {w:World} {K:PySem.W.Frag} {mg:Str→Option Value} {base:Heap} {f:Addr} {fd:FuncData}
theorem scNames:FnScope ["_law_d", "_law_many", "_law_letters", "_law_k", "_law_base", "_law_at", "_law_names_here", "_law_sign", "_law_name"] ["_law_d", "_law_many"] (defScope sNames):=⟨rfl,rfl,rfl,by decide +kernel,rfl,by decide +kernel,by decide +kernel⟩
def scN1:Scope:={ kind:=.function,names:=[(".0",.local),("_law_k",.local),("_law_d",.free),("_law_letters",.free)],isGenerator:=false,isCoroutine:=false }
theorem csN1:CScope ["_law_d", "_law_many", "_law_letters", "_law_k", "_law_base", "_law_at", "_law_names_here", "_law_sign", "_law_name"] (defScope sNames) scN1 ["_law_k"] ["_law_d", "_law_letters"] [0,2]:=⟨rfl,by decide +kernel,by decide +kernel,by decide +kernel,rfl,by decide +kernel⟩
theorem ndN1:((["_law_k"]:List Str)++(["_law_d", "_law_letters"]:List Str)).Nodup:=by decide +kernel
set_option maxHeartbeats 4000000 in
theorem ok_names (F:Fun K "_law_names" "_law_names" sNames f fd) (ml:mg "len" = none) (mr:mg "range" = none):FnOk P w K mg base CX0 1 f fd ["_law_d", "_law_many"] (spNames K):=by
 refine F.ok scNames (fun vs H Q E h=>?_) (fun cdv A outer s H vs Q E hr h=>?_)
 ·obtain ⟨a,ds,many,rfl,_⟩:=h
  rfl
 obtain ⟨a,ds,many,rfl,hS,hlen,hok,m0,m1,k⟩:=h
 refine ⟨_,pss_cons (ps_set (i:=2) scNames.nd rfl (Or.inr rfl) pe_str)
  (pss_cons (ps_set (i:=4) scNames.nd rfl (Or.inl rfl) (pe_bm PySem.F.plainAttrs_str PySem.F.slot_str_join PySem.F.type_str_join mt_join pe_str (pa_cons
    (pe_comp rfl csN1
     (pi_range1 rfl mr (pa_cons (pe_op op_mod (pe_ix ix_list (pv 0) pe_int (fun _ _=>rfl)) pe_int) pa_nil))
     (fun s H fp C=>⟨pg_name (i:=0) ndN1 rfl (Or.inl rfl),pts_nil,pe_ix ix_str (pv 2) (pe_op op_mod (pe_op op_add (pe_ix (ix_listK (K:=K)) (pv 1) pe_int (fun _ _=>rfl))
      (pe_op op_mul (pe_op op_add (pv 0) pe_int) (pe_op op_fdiv (pe_ix (ix_listK (K:=K)) (pv 1) pe_int (fun _ _=>rfl)) pe_int))) pe_int) (fun _ _=>rfl)⟩)) pa_nil)))
  (pss_cons (ps_set (i:=5) scNames.nd rfl (Or.inl rfl) (pe_op op_mod (pe_ix ix_list (pv 0) pe_int (fun _ _=>rfl)) (pe_op op_add (pe_callB call_len_str rfl ml PySem.boot_len (pa_cons (pv 4) pa_nil)) pe_int)))
  (pss_cons (ps_set (i:=6) scNames.nd rfl (Or.inl rfl) (pe_lst pa_nil))
  (pss_cons (ps_for PassesOwn.never rfl (pi_range1 rfl mr (pa_cons (pv 1) pa_nil)) (pg_name (i:=3) scNames.nd rfl (Or.inl rfl))
   (pss_cons (ps_set (i:=7) scNames.nd rfl (Or.inl rfl) (pe_ix ix_str (pv 2) (pe_op op_mod (pe_op op_add (pe_ix ix_list (pv 0) pe_int (fun _ _=>rfl)) (pe_op op_mul pe_int (pv 3))) pe_int) (fun _ _=>rfl)))
   (pss_cons (ps_set (i:=8) scNames.nd rfl (Or.inl rfl) (pe_op op_add_str (pe_op op_add_str (pe_slice sl_str (pv 4) po_none (po_some (pv 5))) (pv 7)) (pe_slice sl_str (pv 4) (po_some (pv 5)) po_none)))
   (pss_cons (ps_if (pt_cmpR op_eq (pe_op op_mod (pe_op op_fdiv (pe_ix ix_list (pv 0) pe_int (fun _ _=>rfl)) pe_int) pe_int) pe_int (nomark _))
    (pss_one (ps_set (i:=8) scNames.nd rfl (Or.inl rfl) (pe_op op_rep_str (pv 7) (pe_op op_add pe_int (pe_op op_mod (pe_op op_add (pe_ix ix_list (pv 0) pe_int (fun _ _=>rfl)) (pe_op op_mul pe_int (pv 3))) pe_int))))) pss_nil)
   (pss_one (ps_expr (pe_bm PySem.F.plainAttrs_list PySem.F.slot_list_append PySem.F.type_list_append mt_append (pv 6) (pa_cons (pv 8) pa_nil))))))))
  (pss_one (ps_ret (pv 6))))))),?_⟩
 obtain ⟨d0,e0,o0⟩:=fs_at hok (i:=0) (by decide) (by omega)
 obtain ⟨d1,e1,o1⟩:=fs_at hok (i:=1) (by decide) (by omega)
 obtain ⟨d2,e2,o2⟩:=fs_at hok (i:=2) (by decide) (by omega)
 obtain ⟨d3,e3,o3⟩:=fs_at hok (i:=3) (by decide) (by omega)
 obtain ⟨o0a,o0b⟩:=o0
 obtain ⟨o1a,o1b⟩:=o1
 obtain ⟨o2a,o2b⟩:=o2
 obtain ⟨o3a,o3b⟩:=o3
 refine ⟨rfl,_,rfl,a,_,_,_,rfl,rfl,hS,e1,_,_,rfl,rfl,(by show (0:Int) < 8;decide),d1 % 8,rfl,by omega,by omega,fun D hD=>?_⟩
 refine comp_range (lo:=0) (n:=(d1 % 8).toNat) (fun i ys H2=>∃ cs:List Nat,ys = cs.map (fun c=>V.str (mkS [c]))∧cs.length = i∧(∀ c∈cs,low c = true)∧Same H H2∧H2 D = some (.lst ys))
  ⟨[],rfl,rfl,(fun c hc=>nomatch hc),same_new hD _,upd_same⟩ (fun i ys H2 ⟨cs,_,_,_,_,h⟩=>h) ?_ ?_
 ·rintro i ys H2 hi ⟨cs,rfl,hl,hc,s2,h2⟩
  have S2:=s2.seq hS
  refine ⟨Kp.set rfl (Kp.refl _),?_⟩
  refine tTrue_ok ?_
  have hm0:=Int.emod_nonneg (d0 + (0 + (i:Int) + 1) * (d1 / 8)) (show (26:Int)≠0 by decide)
  have hm1:=Int.emod_lt_of_pos (d0 + (0 + (i:Int) + 1) * (d1 / 8)) (show (0:Int) < 26 by decide)
  have hT:((d0 + (0 + (i:Int) + 1) * (d1 / 8)) % 26).toNat < 26:=by
   generalize (d0 + (0 + (i:Int) + 1) * (d1 / 8)) % 26 = T at hm0 hm1 ⊢
   omega
  refine ⟨_,rfl,_,rfl,a,_,_,_,rfl,rfl,S2,e0,_,rfl,_,_,rfl,rfl,_,rfl,a,_,_,_,rfl,rfl,S2,e1,_,_,rfl,rfl,⟨by decide,by decide⟩,_,_,rfl,rfl,.inl ⟨by omega,by omega⟩,_,_,rfl,rfl,_,_,rfl,rfl,(by show (0:Int) < 26;decide),
   _,_,_,rfl,rfl,(by show az.length≤sizeLine;decide +kernel),az_atI hm0 hm1,h2,?_,?_⟩
  ·rw [List.length_map];exact small' (by omega)
  ·exact ⟨cs++[97 + ((d0 + (0 + (i:Int) + 1) * (d1 / 8)) % 26).toNat],by rw [List.map_append];rfl,by simp [hl],(fun d hd=>by
    rcases List.mem_append.mp hd with z | z
    ·exact hc d z
    ·rw [List.mem_singleton.mp z];exact low_az hT),same_upd s2 hD,upd_same⟩
 ·rintro ys H2 ⟨cs,rfl,hl,hc,s2,h2⟩
  have hm:cs.map (fun c=>V.str (mkS [c])) = (cs.map (fun c=>mkS [c])).map V.str:=by simp
  refine ⟨_,D,cs.map (fun c=>mkS [c]),rfl,rfl,SqL.of (by rw [← hm];exact h2),join_ok (by omega),?_⟩
  rw [join_signs]
  have S2:=s2.seq hS
  have lc:(mkS cs).length = cs.length:=mkS_len cs
  refine ⟨_,rfl,a,_,_,_,rfl,rfl,S2,e2,_,rfl,_,rfl,(by rw [lc];exact small (by omega)),_,_,rfl,rfl,_,_,rfl,rfl,(by rw [lc];omega),?_⟩
  rw [lc]
  have q0:0≤d2 % ((cs.length:Int) + 1):=Int.emod_nonneg _ (by omega)
  have q1:d2 % ((cs.length:Int) + 1) < (cs.length:Int) + 1:=Int.emod_lt_of_pos _ (by omega)
  obtain ⟨at_,hat⟩:∃ n:Nat,d2 % ((cs.length:Int) + 1) = (n:Int):=⟨(d2 % ((cs.length:Int) + 1)).toNat,by omega⟩
  rw [hat] at q0 q1
  refine ⟨small (by simp),fun l hl0=>?_⟩
  have hl1:H l = none:=s2.free hl0
  refine ⟨_,rfl,many,rfl,by omega,by omega,?_⟩
  refine for_range (lo:=0) (n:=many.toNat) (fun j σ H4=>∃ (zs:List Str) (u1 u2 u3:Option V),σ = [some (.ref a),some (.int many),some (.str az),u1,some (.str (mkS cs)),some (.int (at_:Int)),some (.ref l),u2,u3]∧Same H H4∧H4 l = some (.lst (zs.map V.str))∧zs.length = j∧Told (if d2 / 8 % 2 = 1 then 0 else at_) d3 zs)
   ⟨[],none,none,none,(by rw [← hat];rfl),same_upd s2 hl1,upd_same,rfl,fun j z h=>by simp at h⟩ ?_ ?_
  ·rintro j σ H4 hj ⟨zs,u1,u2,u3,rfl,s4,hL,hz,ht⟩
   have S4:=s4.seq hS
   have hm0:=Int.emod_nonneg (d3 + 7 * (0 + (j:Int))) (show (26:Int)≠0 by decide)
   have hm1:=Int.emod_lt_of_pos (d3 + 7 * (0 + (j:Int))) (show (0:Int) < 26 by decide)
   refine ⟨_,rfl,_,rfl,a,_,_,_,rfl,rfl,S4,e3,_,rfl,_,_,rfl,rfl,.inl ⟨by decide,by decide⟩,_,_,rfl,rfl,_,_,rfl,rfl,(by show (0:Int) < 26;decide),_,_,_,rfl,rfl,(by show az.length≤sizeLine;decide +kernel),az_atI hm0 hm1,?_⟩
   have hc0:low (97 + ((d3 + 7 * (0 + (j:Int))) % 26).toNat) = true:=low_az (by omega)
   have hcj:97 + ((d3 + 7 * (0 + (j:Int))) % 26).toNat = 97 + ((d3 + 7 * (zs.length:Int)) % 26).toNat:=by rw [hz,Int.zero_add]
   generalize 97 + ((d3 + 7 * (0 + (j:Int))) % 26).toNat = c at hc0 hcj ⊢
   refine ⟨_,rfl,_,rfl,_,rfl,_,rfl,(by rw [lc];exact small (by omega)),_,rfl,?_⟩
   have f1:cutG (mkS cs).cps.toList none (some (at_:Int)) = cs.take at_:=cutG_to (by show at_≤cs.length;omega)
   have f2:cutG (mkS cs).cps.toList (some (at_:Int)) none = cs.drop at_:=cutG_from (by show at_≤cs.length;omega)
   rw [f1]
   have l1:(mkS (cs.take at_)++mkS [c]).length = at_ + 1:=by rw [app_len,mkS_len,mkS_len,List.length_take,Nat.min_eq_left (by omega)];rfl
   refine ⟨_,_,rfl,rfl,(by rw [mkS_len,mkS_len,List.length_take];exact small (by simp;omega)),?_⟩
   refine ⟨_,rfl,_,rfl,_,rfl,_,rfl,(by rw [lc];exact small (by omega)),?_⟩
   rw [f2]
   refine ⟨_,_,rfl,rfl,(by rw [l1,mkS_len,List.length_drop];exact small (by omega)),?_⟩
   have en:(mkS (cs.take at_)++mkS [c]++mkS (cs.drop at_)).cps.toList = cs.take at_++[c]++cs.drop at_:=by rw [app_list,app_list]
   refine ⟨_,rfl,a,_,_,_,rfl,rfl,S4,e2,_,_,rfl,rfl,⟨by decide,by decide⟩,_,_,rfl,rfl,(by show (0:Int) < 2;decide),rfl,_,rfl,?_⟩
   refine ite2 (fun hb=>?_) (fun hb=>?_)
   ·have hb1:d2 / 8 % 2 = 1:=by
     have:=of_decide_eq_true hb
     injection this
    rw [if_pos hb1] at ht ⊢
    refine ⟨_,rfl,_,rfl,a,_,_,_,rfl,rfl,S4,e0,_,rfl,_,_,rfl,rfl,.inl ⟨by decide,by decide⟩,_,_,rfl,rfl,_,_,rfl,rfl,(by show (0:Int) < 8;decide),_,_,rfl,rfl,?_⟩
    have r0:=Int.emod_nonneg (d0 + 3 * (0 + (j:Int))) (show (8:Int)≠0 by decide)
    have r1:=Int.emod_lt_of_pos (d0 + 3 * (0 + (j:Int))) (show (0:Int) < 8 by decide)
    refine ⟨_,_,rfl,rfl,by omega,by omega,(by show (mkS [c]).length≤1000;rw [mkS_len];simp),?_⟩
    have ec:(mkS [c]).cps.toList = [c]:=rfl
    rw [ec,rep1]
    refine ⟨_,rfl,.inl ⟨rfl,_,SqL.of hL⟩,_,rfl,l,_,_,rfl,rfl,hL,(by rw [List.length_map];exact small' (by omega)),?_⟩
    refine ⟨zs++[mkS (List.replicate (1 + (d0 + 3 * (0 + (j:Int))) % 8).toNat c)],_,_,_,rfl,same_upd s4 hl1,by rw [upd_same,List.map_append];rfl,by rw [List.length_append,List.length_singleton,hz],ht.snoc ?_ ?_⟩
    ·rw [← hcj]
     show (List.replicate _ c)[0]? = some c
     rw [List.getElem?_replicate,if_pos (by omega)]
    ·refine nameB_of (fun x hx=>?_) ?_ ?_
     ·have:=(List.mem_replicate.mp hx).2
      rw [this];exact hc0
     ·show 1≤(List.replicate _ c).length
      rw [List.length_replicate];omega
     ·show (List.replicate _ c).length≤8
      rw [List.length_replicate];omega
   ·have hb1:¬ d2 / 8 % 2 = 1:=fun e=>hb (by show decide (V.int (d2 / 8 % 2) = V.int 1) = true;rw [e];rfl)
    rw [if_neg hb1] at ht ⊢
    refine ⟨_,rfl,.inl ⟨rfl,_,SqL.of hL⟩,_,rfl,l,_,_,rfl,rfl,hL,(by rw [List.length_map];exact small' (by omega)),?_⟩
    refine ⟨zs++[mkS (cs.take at_)++mkS [c]++mkS (cs.drop at_)],_,_,_,rfl,same_upd s4 hl1,by rw [upd_same,List.map_append];rfl,by rw [List.length_append,List.length_singleton,hz],ht.snoc ?_ ?_⟩
    ·rw [en,← hcj,List.append_assoc,List.getElem?_append_right (by rw [List.length_take];omega),List.length_take,Nat.min_eq_left (by omega),Nat.sub_self]
     rfl
    ·rw [en]
     refine nameB_of (fun x hx=>?_) ?_ ?_
     ·rcases List.mem_append.mp hx with z | z
      ·rcases List.mem_append.mp z with z | z
       ·exact hc x (List.mem_of_mem_take z)
       ·rw [List.mem_singleton.mp z];exact hc0
      ·exact hc x (List.mem_of_mem_drop z)
     ·rw [List.length_append,List.length_append,List.length_singleton];omega
     ·rw [List.length_append,List.length_append,List.length_take,List.length_drop,List.length_singleton];omega
  ·rintro σ H4 ⟨zs,u1,u2,u3,rfl,s4,hL,hz,ht⟩
   refine ⟨_,rfl,k l H4 zs s4 hl1 hL hz (fun z hzm=>?_) (ht.nodup (by omega))⟩
   obtain ⟨i,hi,rfl⟩:=List.mem_iff_getElem.mp hzm
   exact (ht i _ (List.getElem?_eq_getElem hi)).2
end
end M
namespace M
open PySem L2 PyProof.Rows
abbrev sPools:Stmt:=top 33
abbrev sLf:Stmt:=top 34
theorem cut_feed {fs:List Int} {i j:Nat} (h:i≤j) (hj:j≤fs.length):cutV (fs.map V.int) (some (i:Int)) (some (j:Int)) = ((fs.drop i).take (j - i)).map V.int:=by
 unfold cutV
 rw [HT.sIx_nat,HT.sIx_nat,List.length_map,Nat.min_eq_left hj,Nat.min_eq_left (Nat.le_trans h hj),List.map_take,List.map_drop]
theorem cut_ok {fs:List Int} {i n:Nat} (h:∀ v∈fs,Okn v):∀ v∈(fs.drop i).take n,Okn v:=fun v hv=>h v (List.mem_of_mem_drop (List.mem_of_mem_take hv))
def Nm (z:Str):Prop:=nameB z.cps.toList = true
theorem Nm.ne {z:Str} (h:Nm z):z≠""∧PyData.strOk z = true:=by
 unfold Nm nameB at h
 rw [Bool.and_eq_true,Bool.and_eq_true] at h
 constructor
 ·intro e
  rw [e] at h
  have:=of_decide_eq_true h.2.1
  exact absurd this (by decide +kernel)
 ·unfold PyData.strOk
  rw [← Array.all_toList,List.all_eq_true]
  intro c hc
  have:=List.all_eq_true.mp h.1 c hc
  unfold low at this
  simp at this ⊢
  omega
structure PlAt (H:Hp) (r m la:Addr) (ms ls:List Str) (wd:Int):Prop where
 r:H r = some (.tup [.ref m,.ref la,.int wd])
 m:H m = some (.lst (ms.map V.str))
 la:H la = some (.lst (ls.map V.str))
 lm:ms.length = 6
 ll:ls.length = 9
 nm:ms.Nodup
 om:∀ z∈ms,Nm z
 ol:∀ z∈ls,Nm z
 w1:1≤wd
 w2:wd≤9999
theorem PlAt.same {H H':Hp} {r m la:Addr} {ms ls:List Str} {wd:Int} (p:PlAt H r m la ms ls wd) (s:Same H H'):PlAt H' r m la ms ls wd:=⟨s _ _ p.r,s _ _ p.m,s _ _ p.la,p.lm,p.ll,p.nm,p.om,p.ol,p.w1,p.w2⟩
def spPools (K:PySem.W.Frag):Sp:=fun vs H Q _=>∃ (a:Addr) (fs:List Int),vs = [.ref a]∧SqL K H a (fs.map V.int)∧20≤fs.length∧(∀ v∈fs,Okn v)∧∀ r m la ms ls wd H',Same H H'→PlAt H' r m la ms ls wd→Q (.ref r) H'
theorem idx9:idxV 9 (some 8) (some 2) (some (-1)) = [8,7,6,5,4,3]:=by decide +kernel
theorem nine {ls:List Str} (h:ls.length = 9):∃ a b c d e f g i j,ls = [a,b,c,d,e,f,g,i,j]:=by
 match ls,h with
 | [a,b,c,d,e,f,g,i,j],_=>exact ⟨a,b,c,d,e,f,g,i,j,rfl⟩
def spLf (K:PySem.W.Frag):Sp:=fun vs H Q _=>∃ q es ks,∃ (me:Addr) (ms:List Str) (m:Str) (n:Int),vs = [.ref q.B,.ref me,.str m,.int n]∧Ap q∧Bk q H es ks∧WF es∧es.length < 64∧H me = some (.lst (ms.map V.str))∧ms.length≤20∧m≠""∧∀ (z:Str) (H':Hp),Same H H'→Q (.str z) H'
section
variable {P:Program} {w:World} {K:PySem.W.Frag} {mg:Str→Option Value} {base:Heap} {f C:Addr} {fd:FuncData}
theorem scPools:FnScope ["_law_feed_here", "_law_wide", "_law_lands"] ["_law_feed_here"] (defScope sPools):=⟨rfl,rfl,rfl,by decide +kernel,rfl,by decide +kernel,by decide +kernel⟩
set_option maxHeartbeats 8000000 in
theorem ok_pools (F:Fun K "_law_pools" "_law_pools" sPools f fd) {g1:Addr} {d1:FuncData} (G1:FnOk P w K mg base CX0 1 g1 d1 ["_law_d", "_law_many"] (spNames K)) (M1:Ms K mg "_law_names" g1 d1 ["_law_d", "_law_many"]):FnOk P w K mg base CX0 2 f fd ["_law_feed_here"] (spPools K):=by
 refine F.ok scPools (fun vs H Q E h=>?_) (fun cdv A outer s H vs Q E hr h=>?_)
 ·obtain ⟨a,fs,rfl,_⟩:=h
  rfl
 obtain ⟨a,fs,rfl,hS,hlen,hok,k⟩:=h
 refine ⟨_,(pss_cons (ps_set (i:=1) scPools.nd rfl (Or.inl rfl) (pe_ix ix_list (pe_lst (pa_cons (pe_op op_add pe_int (pe_op op_mod (pe_ix ix_list (pv 0) pe_int (fun _ _=>rfl)) pe_int)) (pa_cons (pe_op op_add pe_int (pe_op op_mod (pe_ix ix_list (pv 0) pe_int (fun _ _=>rfl)) pe_int)) (pa_cons (pe_op op_sub pe_int (pe_op op_mod (pe_ix ix_list (pv 0) pe_int (fun _ _=>rfl)) pe_int)) (pa_cons pe_int pa_nil))))) (pe_op op_mod (pe_ix ix_list (pv 0) pe_int (fun _ _=>rfl)) pe_int) (fun _ _=>rfl)))
  (pss_cons (ps_set (i:=2) scPools.nd rfl (Or.inl rfl) (pe_call G1 hr rfl M1.m M1.k M1.b .nil pass0 (pa_cons (pe_slice sl_list (pv 0) (po_some pe_int) (po_some pe_int)) (pa_cons pe_int pa_nil))))
  (pss_cons (ps_if (pt_cmpR op_eq (pe_op op_mod (pe_op op_fdiv (pe_ix ix_list (pv 0) pe_int (fun _ _=>rfl)) pe_int) pe_int) pe_int (nomark _)) (pss_one (ps_ret (pe_tup (pa_cons (pe_slice3 (pv 2) (po_some pe_int) (po_some pe_int) (po_some (pe_un un_neg pe_int))) (pa_cons (pv 2) (pa_cons (pv 1) pa_nil)))))) pss_nil)
  (pss_one (ps_ret (pe_tup (pa_cons (pe_call G1 hr rfl M1.m M1.k M1.b .nil pass0 (pa_cons (pe_slice sl_list (pv 0) (po_some pe_int) (po_some pe_int)) (pa_cons pe_int pa_nil))) (pa_cons (pv 2) (pa_cons (pv 1) pa_nil))))))))),?_⟩
 obtain ⟨d12,e12,o12⟩:=fs_at hok (i:=12) (by decide) (by omega)
 obtain ⟨d13,e13,o13⟩:=fs_at hok (i:=13) (by decide) (by omega)
 obtain ⟨o12a,o12b⟩:=o12
 obtain ⟨o13a,o13b⟩:=o13
 refine ⟨_,rfl,a,_,_,_,rfl,rfl,hS,e12,_,_,rfl,rfl,(by show (0:Int) < 200;decide),_,_,rfl,rfl,_,rfl,a,_,_,_,rfl,rfl,hS,e12,_,_,rfl,rfl,(by show (0:Int) < 9;decide),_,_,rfl,rfl,_,rfl,a,_,_,_,rfl,rfl,hS,e12,_,_,rfl,rfl,(by show (0:Int) < 50;decide),_,_,rfl,rfl,small (by simp),fun l hl=>?_⟩
 have s1:=same_new hl (.lst [.int (7 + d12 % 200),.int (1 + d12 % 9),.int (9999 - d12 % 50),.int 40])
 have k1:(upd H l (.lst [.int (7 + d12 % 200),.int (1 + d12 % 9),.int (9999 - d12 % 50),.int 40])) l = some (.lst [.int (7 + d12 % 200),.int (1 + d12 % 9),.int (9999 - d12 % 50),.int 40]):=upd_same
 generalize upd H l (.lst [.int (7 + d12 % 200),.int (1 + d12 % 9),.int (9999 - d12 % 50),.int 40]) = H1 at s1 k1 ⊢
 have S1:=s1.seq hS
 obtain ⟨x,hx,hm⟩:=at_some (xs:=[V.int (7 + d12 % 200),.int (1 + d12 % 9),.int (9999 - d12 % 50),.int 40]) (i:=d13 % 4) (by omega) (by simp;omega)
 obtain ⟨wd,rfl,w1,w2⟩:∃ wd:Int,x = .int wd∧1≤wd∧wd≤9999:=by
  simp only [List.mem_cons,List.not_mem_nil,or_false] at hm
  rcases hm with rfl | rfl | rfl | rfl
  ·exact ⟨_,rfl,by omega,by omega⟩
  ·exact ⟨_,rfl,by omega,by omega⟩
  ·exact ⟨_,rfl,by omega,by omega⟩
  ·exact ⟨_,rfl,by omega,by omega⟩
 refine ⟨_,rfl,a,_,_,_,rfl,rfl,S1,e13,_,_,rfl,rfl,(by show (0:Int) < 4;decide),l,_,_,_,rfl,rfl,SqL.of k1,hx,?_⟩
 refine ⟨_,rfl,_,rfl,_,rfl,a,_,rfl,S1,fun p1 hp1=>?_⟩
 have c1:cutV (fs.map V.int) (some 8) (some 12) = ((fs.drop 8).take 4).map V.int:=cut_feed (i:=8) (j:=12) (by decide) (by omega)
 rw [c1]
 have s2:=s1.trans (same_new hp1 (.lst (((fs.drop 8).take 4).map V.int)))
 refine ⟨p1,_,9,rfl,SqL.of upd_same,by rw [List.length_take,List.length_drop];omega,cut_ok hok,by decide,by decide,fun la H2 ls s12 hla hla' hll hln hnd=>?_⟩
 have s02:=s2.trans s12
 have S2:=s02.seq hS
 refine ⟨_,rfl,a,_,_,_,rfl,rfl,S2,e13,_,_,rfl,rfl,⟨by decide,by decide⟩,_,_,rfl,rfl,(by show (0:Int) < 4;decide),rfl,_,rfl,?_⟩
 refine ite2 (fun _=>?_) (fun _=>?_)
 ·refine ⟨_,rfl,_,rfl,_,rfl,_,rfl,_,rfl,la,_,rfl,SqL.of hla',by decide,?_,fun p2 hp2=>?_⟩
  ·unfold pickV
   rw [List.length_map,show ls.length = 9 from hll,idx9]
   exact Nat.le_trans (List.length_filterMap_le _ _) (by decide)
  have ep:pickV (ls.map V.str) (some 8) (some 2) (some (-1)) = ([8,7,6,5,4,3].filterMap (ls[·]?)).map V.str:=by
   unfold pickV
   rw [List.length_map,show ls.length = 9 from hll,idx9]
   obtain ⟨a,b,c,d,e,f,g,i,j,rfl⟩:=nine (show ls.length = 9 from hll)
   rfl
  rw [ep]
  have s3:=same_new hp2 (.lst (([8,7,6,5,4,3].filterMap (ls[·]?)).map V.str))
  refine ⟨_,rfl,_,rfl,small (by simp),fun r hr0=>?_⟩
  have s4:=same_new hr0 (.tup [.ref p2,.ref la,.int wd])
  refine k r p2 la ([8,7,6,5,4,3].filterMap (ls[·]?)) ls wd _ ((s02.trans s3).trans s4) ⟨upd_same,s4 _ _ upd_same,s4 _ _ (s3 _ _ hla'),?_,hll,?_,?_,hln,w1,w2⟩
  ·obtain ⟨a,b,c,d,e,f,g,i,j,rfl⟩:=nine (show ls.length = 9 from hll)
   rfl
  ·obtain ⟨a,b,c,d,e,f,g,i,j,rfl⟩:=nine (show ls.length = 9 from hll)
   show [j,i,g,f,e,d].Nodup
   simp only [List.nodup_cons,List.mem_cons,List.not_mem_nil,or_false,not_or,List.nodup_nil,and_true,not_false_eq_true] at hnd ⊢
   obtain ⟨_,_,_,h4,h5,h6,h7,h8⟩:=hnd
   refine ⟨⟨Ne.symm h8,Ne.symm h7.2,Ne.symm h6.2.2,Ne.symm h5.2.2.2,Ne.symm h4.2.2.2.2⟩,⟨Ne.symm h7.1,Ne.symm h6.2.1,Ne.symm h5.2.2.1,Ne.symm h4.2.2.2.1⟩,⟨Ne.symm h6.1,Ne.symm h5.2.1,Ne.symm h4.2.2.1⟩,⟨Ne.symm h5.1,Ne.symm h4.2.1⟩,Ne.symm h4.1⟩
  ·intro z hz
   obtain ⟨i,_,hi⟩:=List.mem_filterMap.mp hz
   exact hln z (List.mem_of_getElem? hi)
 ·refine ⟨_,rfl,_,rfl,_,rfl,a,_,rfl,S2,fun p2 hp2=>?_⟩
  have c2:cutV (fs.map V.int) (some 4) (some 8) = ((fs.drop 4).take 4).map V.int:=cut_feed (i:=4) (j:=8) (by decide) (by omega)
  rw [c2]
  have s3:=same_new hp2 (.lst (((fs.drop 4).take 4).map V.int))
  refine ⟨p2,_,6,rfl,SqL.of upd_same,by rw [List.length_take,List.length_drop];omega,cut_ok hok,by decide,by decide,fun me H3 ms s13 hme hme' hlm hmn hmd=>?_⟩
  refine ⟨_,rfl,_,rfl,small (by simp),fun r hr0=>?_⟩
  have s4:=same_new hr0 (.tup [.ref me,.ref la,.int wd])
  exact k r me la ms ls wd _ (((s02.trans s3).trans s13).trans s4) ⟨upd_same,s4 _ _ hme',s4 _ _ (s13 _ _ (s3 _ _ hla')),hlm,hll,hmd,hmn,hln,w1,w2⟩
theorem scLf:FnScope ["_law_book_here", "_law_men", "_law_man", "_law_number", "_law_some"] ["_law_book_here", "_law_men", "_law_man", "_law_number"] (defScope sLf):=⟨rfl,rfl,rfl,by decide +kernel,rfl,by decide +kernel,by decide +kernel⟩
def scLf1:Scope:={ kind:=.function,names:=[(".0",.local),("_law_one",.local),("_law_man",.free)],isGenerator:=false,isCoroutine:=false }
theorem csLf1:CScope ["_law_book_here", "_law_men", "_law_man", "_law_number", "_law_some"] (defScope sLf) scLf1 ["_law_one"] ["_law_man"] [2]:=⟨rfl,by decide +kernel,by decide +kernel,by decide +kernel,rfl,by decide +kernel⟩
theorem ndLf1:((["_law_one"]:List Str)++(["_law_man"]:List Str)).Nodup:=by decide +kernel
set_option maxHeartbeats 8000000 in
theorem ok_lf (F:Fun K "_law_lord_for" "_law_lord_for" sLf f fd) (ml:mg "len" = none) {g1:Addr} {d1:FuncData} (G1:FnOk P w K mg base CX0 2 g1 d1 ["_law_book_here", "_law_man"] spBnd) (M1:Ms K mg "_law_bound_to" g1 d1 ["_law_book_here", "_law_man"]):FnOk P w K mg base CX0 3 f fd ["_law_book_here", "_law_men", "_law_man", "_law_number"] (spLf K):=by
 refine F.ok scLf (fun vs H Q E h=>?_) (fun cdv A outer s H vs Q E hr h=>?_)
 ·obtain ⟨q,es,ks,me,ms,m,n,rfl,_⟩:=h
  rfl
 obtain ⟨q,es,ks,me,ms,m,n,rfl,ap,bk,W,hl,hme,hml,hm,k⟩:=h
 refine ⟨_,(pss_cons (ps_setC (i:=4) rfl csLf1 (pi_list (pe_op op_cat (pe_op op_cat (pe_op op_rep (pe_call G1 hr rfl M1.m M1.k M1.b .nil pass0 (pa_cons (pv 0) (pa_cons (pv 2) pa_nil))) pe_int) (pv 1)) (pe_lst (pa_cons pe_str pa_nil)))) (fun s H fp C'=>⟨pg_name (i:=0) ndLf1 rfl (Or.inl rfl),pts_one (pt_cmpR op_ne (pv 0) (pv 1) (nomark _)),pv 0⟩) scLf.nd rfl (Or.inl rfl))
  (pss_one (ps_ret (pe_ix ix_list (pv 4) (pe_op op_mod (pv 3) (pe_callB call_len_seq rfl ml PySem.boot_len (pa_cons (pv 4) pa_nil))) (fun _ _=>rfl))))),?_⟩
 refine ⟨_,rfl,_,rfl,q,es,ks,m,rfl,ap,bk,W,hl,fun r1 ss H1 s1 hr1 hr1' hss=>?_⟩
 refine ⟨r1,3,_,rfl,rfl,hr1',by decide,by decide,(by rw [List.length_map];exact small (by show ss.length * 3≤_;omega)),fun r2 hr2=>?_⟩
 have er:(List.replicate (3:Int).toNat (ss.map V.str)).flatten = (ss++ss++ss).map V.str:=by
  show (List.replicate 3 (ss.map V.str)).flatten = _
  simp [List.replicate]
 rw [er]
 have s2:=s1.trans (same_new hr2 (.lst ((ss++ss++ss).map V.str)))
 have k2:(upd H1 r2 (.lst ((ss++ss++ss).map V.str))) r2 = some (.lst ((ss++ss++ss).map V.str)):=upd_same
 generalize upd H1 r2 (.lst ((ss++ss++ss).map V.str)) = H2 at s2 k2 ⊢
 have l3:(ss++ss++ss).length≤200:=by simp;omega
 generalize ss++ss++ss = tt3 at k2 l3
 refine ⟨_,rfl,r2,me,_,_,rfl,rfl,k2,s2 _ _ hme,(by rw [List.length_map,List.length_map];exact small (by omega)),fun r3 hr3=>?_⟩
 have e3:tt3.map V.str++ms.map V.str = (tt3++ms).map V.str:=by rw [List.map_append]
 rw [e3]
 have s3:=s2.trans (same_new hr3 (.lst ((tt3++ms).map V.str)))
 have k3:(upd H2 r3 (.lst ((tt3++ms).map V.str))) r3 = some (.lst ((tt3++ms).map V.str)):=upd_same
 generalize upd H2 r3 (.lst ((tt3++ms).map V.str)) = H3 at s3 k3 ⊢
 refine ⟨small (by simp),fun r4 hr4=>?_⟩
 have s4:=same_new hr4 (.lst [.str ""])
 refine ⟨r3,r4,_,_,rfl,rfl,s4 _ _ k3,upd_same,(by rw [List.length_map,List.length_append,List.length_singleton];exact small (by omega)),fun r5 hr5=>?_⟩
 have e5:(tt3++ms).map V.str++[V.str ""] = (tt3++ms++[("" : Str)]).map V.str:=by rw [List.map_append (l₂:=[("" : Str)])];rfl
 rw [e5]
 have s5:=(s3.trans s4).trans (same_new hr5 (.lst ((tt3++ms++[("" : Str)]).map V.str)))
 have k5:(upd (upd H3 r4 (.lst [.str ""])) r5 (.lst ((tt3++ms++[("" : Str)]).map V.str))) r5 = some (.lst ((tt3++ms++[("" : Str)]).map V.str)):=upd_same
 generalize upd (upd H3 r4 (.lst [.str ""])) r5 (.lst ((tt3++ms++[("" : Str)]).map V.str)) = H5 at s5 k5 ⊢
 have l5:(tt3++ms++[("" : Str)]).length≤300:=by simp;omega
 have in5:("" : Str)∈tt3++ms++[("" : Str)]:=List.mem_append_right _ (List.mem_singleton.mpr rfl)
 generalize tt3++ms++[("" : Str)] = xs at k5 l5 in5
 refine ⟨r5,rfl,⟨_,SqL.of k5⟩,fun D hD=>comp_strs (xs:=xs) (fun x=>!decide (x = m)) V.str (SqL.of k5) hD (by omega) (fun x Hz A B hx sz hAB=>?_) (fun Hz sz hDz=>?_)⟩
 ·have hAB:=hAB _ (Same.refl _)
  refine ⟨Kp.set rfl (Kp.refl _),_,rfl,_,rfl,rfl,_,rfl,?_⟩
  rw [dec_str]
  refine ite2 (fun c=>?_) (fun c=>?_)
  ·rw [if_pos c] at hAB
   exact ⟨_,rfl,hAB⟩
  ·rw [if_neg c] at hAB
   exact hAB
 ·have hin:("" : Str)∈xs.filter fun x=>!decide (x = m):=List.mem_filter.mpr ⟨in5,by rw [decide_eq_false (Ne.symm hm)];rfl⟩
  have hpos:0 < (xs.filter fun x=>!decide (x = m)).length:=List.length_pos_of_mem hin
  generalize (xs.filter fun x=>!decide (x = m)) = zs at hDz hpos
  refine ⟨_,rfl,_,rfl,_,rfl,D,_,rfl,.inl (SqL.of hDz),_,_,rfl,rfl,(by rw [List.length_map];show (0:Int) < ((zs.length:Nat):Int);omega),?_⟩
  have p0:=Int.emod_nonneg n (show ((zs.map V.str).length:Int)≠0 by rw [List.length_map];omega)
  have p1:=Int.emod_lt_of_pos n (show (0:Int) < ((zs.map V.str).length:Int) by rw [List.length_map];omega)
  obtain ⟨v,hv,hvm⟩:=at_some (xs:=zs.map V.str) p0 p1
  obtain ⟨z,_,rfl⟩:=List.mem_map.mp hvm
  exact ⟨D,_,_,_,rfl,rfl,SqL.of hDz,hv,k z Hz (s5.trans sz)⟩
end
end M
namespace L2
open PySem PySem.Spec PyProof.Rows PySem.W
theorem op_notIn_seqK {X:Cx} {K:PySem.W.Frag} (h:X.K = K:=by rfl):OpR X (compareOp .NotIn) (rIn K true):=h ▸ op_notIn_seq
theorem bt_min:bootBuiltins "min" = some (.builtin "min"):=by decide +kernel
theorem grab {a b:TS} {D:Ends} {σ:St} {H:Hp} (Pv:St→Hp→Prop) (h2:∀ σ' H',Pv σ' H'→b D σ' H') (h1:(∀ σ' H',Pv σ' H'→b D σ' H')→a { D with nx:=fun σ' H'=>b D σ' H' } σ H):tSeq a b D σ H:=h1 h2
end L2
namespace M
open PySem L2 PyProof.Rows
abbrev sRow:Stmt:=top 35
def RowOut (ls:List Str) (xs:List V):Prop:=(∃ rw':Rw,xs = rw'.vs∧rw'.Ok ls)∨∃ (k z:Str) (rest:List V),xs = .str k :: .int 0 :: .str z :: rest∧k∈(["heir", "liege", "death"]:List Str)
theorem inV_int (h:Int) (l:List Int):inV (V.int h) (l.map V.int) = decide (h∈l):=by
 unfold inV
 induction l with
 | nil=>rfl
 | cons x r ih =>
  rw [List.map_cons,List.any_cons,ih]
  show ((x == h) || decide (h∈r)) = _
  rw [Bool.eq_iff_iff,Bool.or_eq_true,decide_eq_true_iff,decide_eq_true_iff,List.mem_cons,beq_iff_eq]
  constructor
  ·rintro (e | e)
   ·exact .inl e.symm
   ·exact .inr e
  ·rintro (e | e)
   ·exact .inl e.symm
   ·exact .inr e
theorem int_in {h:Int} (l:List Int) {A B:Prop} (h1:h∈l→A) (h2:h ∉ l→B):if (if (false:Bool) = true then !inV (V.int h) (l.map V.int) else inV (V.int h) (l.map V.int)) = true then A else B:=by
 rw [if_neg Bool.false_ne_true,inV_int]
 exact ite2 (fun c=>h1 (of_decide_eq_true c)) fun c=>h2 fun z=>c (decide_eq_true z)
theorem eq_int {h l:Int} {A B:Prop} (h1:h = l→A) (h2:h≠l→B):if decide (V.int h = V.int l) = true then A else B:=by
 refine ite2 (fun c=>h1 ?_) fun c=>h2 fun z=>c (decide_eq_true (by rw [z]))
 have:=of_decide_eq_true c
 injection this
theorem eq_str {h l:Str} {A B:Prop} (h1:h = l→A) (h2:h≠l→B):if decide (V.str h = V.str l) = true then A else B:=by
 refine ite2 (fun c=>h1 ?_) fun c=>h2 fun z=>c (decide_eq_true (by rw [z]))
 have:=of_decide_eq_true c
 injection this
theorem str_at {zs:List Str} {i:Int} (h0:0≤i) (h1:i < zs.length):∃ z,atI (zs.map V.str) i = some (V.str z)∧z∈zs:=by
 obtain ⟨v,hv,hm⟩:=at_some (xs:=zs.map V.str) h0 (by rw [List.length_map];exact h1)
 obtain ⟨z,hz,rfl⟩:=List.mem_map.mp hm
 exact ⟨z,hv,hz⟩
theorem keys_kv {f:Est→V} (es:List Est):(kv f es).map (fun x=>kV x.1) = (nms es).map V.str:=by rw [List.map_map,List.map_map];rfl
def spRow (K:PySem.W.Frag):Sp:=fun vs H Q _=>∃ q es ks,∃ (p d m la:Addr) (ms ls:List Str) (wd:Int) (ds:List Int),vs = [.ref q.B,.ref p,.ref d,.int 0]∧Ap q∧Bk q H es ks∧WF es∧es.length < 64∧PlAt H p m la ms ls wd∧SqL K H d (ds.map V.int)∧ds.length = 8∧(∀ v∈ds,Okn v) ∧
 ∀ r xs H',Same H H'→H' r = some (.tup xs)→RowOut ls xs→Q (.ref r) H'
section
variable {P:Program} {w:World} {K:PySem.W.Frag} {mg:Str→Option Value} {base:Heap} {f C:Addr} {fd:FuncData}
theorem scRow:FnScope ["_law_book_here", "_law_pools_here", "_law_d", "_law_day", "_law_men", "_law_lands", "_law_there", "_law_estate", "_law_man", "_law_fresh", "_law_new_here", "_law_wide", "_law_many", "_law_way", "_law_others"] ["_law_book_here", "_law_pools_here", "_law_d", "_law_day"] (defScope sRow):=⟨rfl,rfl,rfl,by decide +kernel,rfl,by decide +kernel,by decide +kernel⟩
def scRw1:Scope:={ kind:=.function,names:=[(".0",.local),("_law_one",.local),("_law_book_here",.free)],isGenerator:=false,isCoroutine:=false }
theorem csRw1:CScope ["_law_book_here", "_law_pools_here", "_law_d", "_law_day", "_law_men", "_law_lands", "_law_there", "_law_estate", "_law_man", "_law_fresh", "_law_new_here", "_law_wide", "_law_many", "_law_way", "_law_others"] (defScope sRow) scRw1 ["_law_one"] ["_law_book_here"] [0]:=⟨rfl,by decide +kernel,by decide +kernel,by decide +kernel,rfl,by decide +kernel⟩
theorem ndRw1:((["_law_one"]:List Str)++(["_law_book_here"]:List Str)).Nodup:=by decide +kernel
def scRw2:Scope:={ kind:=.function,names:=[(".0",.local),("_law_one",.local),("_law_man",.free)],isGenerator:=false,isCoroutine:=false }
theorem csRw2:CScope ["_law_book_here", "_law_pools_here", "_law_d", "_law_day", "_law_men", "_law_lands", "_law_there", "_law_estate", "_law_man", "_law_fresh", "_law_new_here", "_law_wide", "_law_many", "_law_way", "_law_others"] (defScope sRow) scRw2 ["_law_one"] ["_law_man"] [8]:=⟨rfl,by decide +kernel,by decide +kernel,by decide +kernel,rfl,by decide +kernel⟩
theorem ndRw2:((["_law_one"]:List Str)++(["_law_man"]:List Str)).Nodup:=by decide +kernel
set_option maxHeartbeats 16000000 in
theorem ok_row (F:Fun K "_law_row" "_law_row" sRow f fd) (ms:mg "sorted" = none) (mli:mg "list" = none) (mn:mg "len" = none) (mmax:mg "max" = none) (mmin:mg "min" = none) {g1:Addr} {d1:FuncData}
  (G1:FnOk P w K mg base CX0 3 g1 d1 ["_law_book_here", "_law_men", "_law_man", "_law_number"] (spLf K)) (M1:Ms K mg "_law_lord_for" g1 d1 ["_law_book_here", "_law_men", "_law_man", "_law_number"]):FnOk P w K mg base CX0 4 f fd ["_law_book_here", "_law_pools_here", "_law_d", "_law_day"] (spRow K):=by
 refine F.ok scRow (fun vs H Q E h=>?_) (fun cdv A outer s H vs Q E hr h=>?_)
 ·obtain ⟨q,es,ks,p,d,m,la,mz,ls,wd,ds,rfl,_⟩:=h
  rfl
 obtain ⟨q,es,ks,p,d,m,la,mz,ls,wd,ds,rfl,ap,bk,W,hl,pl,hS,hdl,hdo,k⟩:=h
 refine ⟨_,(pss_cons (ps_set (i:=4) scRow.nd rfl (Or.inl rfl) (pe_ix ix_tup (pv 1) pe_int (fun _ _=>rfl)))
  (pss_cons (ps_set (i:=5) scRow.nd rfl (Or.inl rfl) (pe_ix ix_tup (pv 1) pe_int (fun _ _=>rfl)))
  (pss_cons (ps_set (i:=6) scRow.nd rfl (Or.inl rfl) (pe_callB call_sortedS rfl ms bt_sorted (pa_cons (pe_callTy (call_listD hr.hd) rfl mli bt_list (pa_cons (pe_dget (u1 hr) (pv 0) pe_str (fun _ _=>rfl)) pa_nil)) pa_nil)))
  (pss_cons (ps_set (i:=7) scRow.nd rfl (Or.inl rfl) (pe_ix ix_list (pv 6) (pe_op op_mod (pe_ix ix_list (pv 2) pe_int (fun _ _=>rfl)) (pe_callB call_len_seq rfl mn PySem.boot_len (pa_cons (pv 6) pa_nil))) (fun _ _=>rfl)))
  (pss_cons (ps_set (i:=8) scRow.nd rfl (Or.inr rfl) (pe_ix ix_list (pv 4) (pe_op op_mod (pe_ix ix_list (pv 2) pe_int (fun _ _=>rfl)) (pe_callB call_len_seq rfl mn PySem.boot_len (pa_cons (pv 4) pa_nil))) (fun _ _=>rfl)))
  (pss_cons (ps_setC (i:=9) rfl csRw1 (pi_list (pv 5)) (fun s H fp C'=>⟨pg_name (i:=0) ndRw1 rfl (Or.inl rfl),pts_one (pt_cmpR (op_notIn_seqK (K:=K)) (pv 0) (pe_dget (u1 hr) (pv 1) pe_str (fun _ _=>rfl)) (by with_unfolding_all rfl)),(pv 0)⟩) scRow.nd rfl (Or.inl rfl))
  (pss_cons (ps_set (i:=10) scRow.nd rfl (Or.inl rfl) (pe_ix ix_list (pe_op op_cat (pv 9) (pv 5)) (pe_op op_mod (pe_ix ix_list (pv 2) pe_int (fun _ _=>rfl)) (pe_callB (call_max2 rfl) rfl mmax bt_max (pa_cons pe_int (pa_cons (pe_callB call_len_seq rfl mn PySem.boot_len (pa_cons (pv 9) pa_nil)) pa_nil)))) (fun _ _=>rfl)))
  (pss_cons (ps_if (pt_cmpR op_gt (pe_op op_mod (pe_ix ix_list (pv 2) pe_int (fun _ _=>rfl)) pe_int) pe_int (nomark _)) (pss_cons (ps_set (i:=10) scRow.nd rfl (Or.inl rfl) (pe_ix ix_list (pv 5) (pe_op op_mod (pe_ix ix_list (pv 2) pe_int (fun _ _=>rfl)) (pe_callB call_len_seq rfl mn PySem.boot_len (pa_cons (pv 5) pa_nil))) (fun _ _=>rfl)))
  (pss_one (ps_set (i:=7) scRow.nd rfl (Or.inl rfl) (pe_ix ix_list (pe_op op_cat (pe_lst (pa_cons pe_str pa_nil)) (pv 5)) (pe_op op_mod (pe_ix ix_list (pv 2) pe_int (fun _ _=>rfl)) pe_int) (fun _ _=>rfl))))) pss_nil)
  (pss_cons (ps_set (i:=11) scRow.nd rfl (Or.inl rfl) (pe_dget2 (u1 hr) (pe_dget (u1 hr) (pv 0) pe_str (fun _ _=>rfl)) (pv 7) pe_int ⟨rfl,rfl,rfl,rfl⟩))
  (pss_cons (ps_set (i:=12) scRow.nd rfl (Or.inl rfl) (pe_op op_add pe_int (pe_op op_mod (pe_ix ix_list (pv 2) pe_int (fun _ _=>rfl)) (pe_callB (call_max2 rfl) rfl mmax bt_max (pa_cons pe_int (pa_cons (pv 11) pa_nil))))))
  (pss_cons (ps_if (pt_cmpR op_eq (pe_op op_mod (pe_ix ix_list (pv 2) pe_int (fun _ _=>rfl)) pe_int) pe_int (nomark _)) (pss_one (ps_set (i:=12) scRow.nd rfl (Or.inl rfl) (pe_callB (call_min2 rfl) rfl mmin bt_min (pa_cons pe_int (pa_cons (pe_op op_add (pe_op op_add (pv 11) pe_int) (pe_op op_mod (pe_ix ix_list (pv 2) pe_int (fun _ _=>rfl)) pe_int)) pa_nil))))) pss_nil)
  (pss_cons (ps_set (i:=13) scRow.nd rfl (Or.inl rfl) (pe_op op_mod (pe_ix ix_list (pv 2) pe_int (fun _ _=>rfl)) pe_int))
  (pss_cons (ps_if (PW.pt (pw_or (pt_cmpR op_lt (pv 13) pe_int (nomark _)) (pw_or1 (PW.pt (pw_and (pt_cmpR op_eq (pv 7) pe_str (nomark _)) (pw_and1 (pt_cmpR op_in_seq (pv 13) (pe_tup (pa_cons pe_int (pa_cons pe_int (pa_cons pe_int (pa_cons pe_int (pa_cons pe_int pa_nil)))))) (by with_unfolding_all rfl)))))))) (pss_one (ps_ret (pe_tup (pa_cons pe_str (pa_cons (pv 3) (pa_cons (pv 7) (pa_cons (pv 10) (pa_cons (pv 8) (pa_cons (pv 12) (pa_cons (pe_ix ix_list (pe_lst (pa_cons pe_int (pa_cons pe_int (pa_cons (pe_op op_mod (pe_ix ix_list (pv 2) pe_int (fun _ _=>rfl)) pe_int) (pa_cons (pe_op op_sub pe_int (pe_op op_mod (pe_ix ix_list (pv 2) pe_int (fun _ _=>rfl)) pe_int)) pa_nil))))) (pe_op op_mod (pe_ix ix_list (pv 2) pe_int (fun _ _=>rfl)) pe_int) (fun _ _=>rfl)) pa_nil)))))))))) pss_nil)
  (pss_cons (ps_if (PW.pt (pw_or (pt_cmpR op_eq (pv 13) pe_int (nomark _)) (pw_or1 (pt_cmpR op_eq (pv 13) pe_int (nomark _))))) (pss_one (ps_ret (pe_tup (pa_cons pe_str (pa_cons (pv 3) (pa_cons (pv 7) (pa_cons (pv 10) (pa_cons (pv 8) (pa_cons (pv 12) pa_nil))))))))) pss_nil)
  (pss_cons (ps_if (pt_cmpR op_lt (pv 13) pe_int (nomark _)) (pss_one (ps_ret (pe_tup (pa_cons pe_str (pa_cons (pv 3) (pa_cons (pv 7) (pa_cons (pv 8) pa_nil))))))) pss_nil)
  (pss_cons (ps_if (PW.pt (pw_or (pt_cmpR op_eq (pv 13) pe_int (nomark _)) (pw_or1 (pt_cmpR op_eq (pv 13) pe_int (nomark _))))) (pss_cons (ps_setC (i:=14) rfl csRw2 (pi_list (pv 4)) (fun s H fp C'=>⟨pg_name (i:=0) ndRw2 rfl (Or.inl rfl),pts_one (pt_cmpR op_ne (pv 0) (pv 1) (nomark _)),(pv 0)⟩) scRow.nd rfl (Or.inl rfl))
  (pss_one (ps_ret (pe_tup (pa_cons pe_str (pa_cons (pv 3) (pa_cons (pv 8) (pa_cons (pe_ix ix_list (pv 14) (pe_op op_mod (pe_ix ix_list (pv 2) pe_int (fun _ _=>rfl)) (pe_callB call_len_seq rfl mn PySem.boot_len (pa_cons (pv 14) pa_nil))) (fun _ _=>rfl)) pa_nil)))))))) pss_nil)
  (pss_cons (ps_if (pt_cmpR op_eq (pv 13) pe_int (nomark _)) (pss_one (ps_ret (pe_tup (pa_cons pe_str (pa_cons (pv 3) (pa_cons (pv 8) (pa_cons (pe_call G1 hr rfl M1.m M1.k M1.b .nil pass0 (pa_cons (pv 0) (pa_cons (pv 4) (pa_cons (pv 8) (pa_cons (pe_ix ix_list (pv 2) pe_int (fun _ _=>rfl)) pa_nil))))) pa_nil))))))) pss_nil)
  (pss_cons (ps_if (pt_cmpR op_eq (pv 13) pe_int (nomark _)) (pss_one (ps_ret (pe_tup (pa_cons pe_str (pa_cons (pv 3) (pa_cons (pv 7) pa_nil)))))) pss_nil)
  (pss_one (ps_ret (pe_tup (pa_cons pe_str (pa_cons (pv 3) (pa_cons (pv 8) pa_nil)))))))))))))))))))))))),?_⟩
 obtain ⟨d0,e0,o0⟩:=fs_at hdo (i:=0) (by decide) (by omega)
 obtain ⟨o0a,o0b⟩:=o0
 obtain ⟨d1,e1,o1⟩:=fs_at hdo (i:=1) (by decide) (by omega)
 obtain ⟨o1a,o1b⟩:=o1
 obtain ⟨d2,e2,o2⟩:=fs_at hdo (i:=2) (by decide) (by omega)
 obtain ⟨o2a,o2b⟩:=o2
 obtain ⟨d3,e3,o3⟩:=fs_at hdo (i:=3) (by decide) (by omega)
 obtain ⟨o3a,o3b⟩:=o3
 obtain ⟨d4,e4,o4⟩:=fs_at hdo (i:=4) (by decide) (by omega)
 obtain ⟨o4a,o4b⟩:=o4
 obtain ⟨d5,e5,o5⟩:=fs_at hdo (i:=5) (by decide) (by omega)
 obtain ⟨o5a,o5b⟩:=o5
 obtain ⟨d6,e6,o6⟩:=fs_at hdo (i:=6) (by decide) (by omega)
 obtain ⟨o6a,o6b⟩:=o6
 obtain ⟨d7,e7,o7⟩:=fs_at hdo (i:=7) (by decide) (by omega)
 obtain ⟨o7a,o7b⟩:=o7
 have lm:=pl.lm
 have ll:=pl.ll
 have npos:0 < es.length:=by
  obtain ⟨c,r,e,_⟩:=W.hd
  rw [e];simp
 refine ⟨_,rfl,p,_,_,_,rfl,rfl,SqT.of pl.r,atI_nat (j:=0) rfl,?_⟩
 refine ⟨_,rfl,p,_,_,_,rfl,rfl,SqT.of pl.r,atI_nat (j:=1) rfl,?_⟩
 refine ⟨_,rfl,q.B,_,rfl,bk.gl,q.l,_,rfl,bk.l,fun t1 ht1=>?_⟩
 rw [keys_kv]
 have s1:=same_new ht1 (.lst ((nms es).map V.str))
 refine ⟨t1,nms es,rfl,SqL.of upd_same,by rw [List.length_map];exact hl,fun th ts hth hpt _=>?_⟩
 have s2:=s1.trans (same_new hth (.lst (ts.map V.str)))
 have k2:(upd (upd H t1 (.lst ((nms es).map V.str))) th (.lst (ts.map V.str))) th = some (.lst (ts.map V.str)):=upd_same
 generalize upd (upd H t1 (.lst ((nms es).map V.str))) th (.lst (ts.map V.str)) = H2 at s2 k2 ⊢
 have tl:ts.length = es.length:=by rw [hpt.length_eq,List.length_map]
 have S2:=s2.seq hS
 obtain ⟨est0,he0,_⟩:=str_at (zs:=ts) (i:=d1 % ((ts.map V.str).length:Int)) (Int.emod_nonneg _ (by rw [List.length_map];omega)) (by have:=Int.emod_lt_of_pos d1 (show (0:Int) < ((ts.map V.str).length:Int) by rw [List.length_map];omega);rw [List.length_map] at this ⊢;exact this)
 refine ⟨_,rfl,_,rfl,d,_,_,_,rfl,rfl,S2,e1,_,rfl,th,_,rfl,.inl (SqL.of k2),_,_,rfl,rfl,(by rw [List.length_map];show (0:Int) < ((ts.length:Nat):Int);omega),th,_,_,_,rfl,rfl,SqL.of k2,he0,?_⟩
 have km2:=s2 _ _ pl.m
 have kl2:=s2 _ _ pl.la
 obtain ⟨man,hm0,hmm⟩:=str_at (zs:=mz) (i:=d2 % ((mz.map V.str).length:Int)) (Int.emod_nonneg _ (by rw [List.length_map];omega)) (by have:=Int.emod_lt_of_pos d2 (show (0:Int) < ((mz.map V.str).length:Int) by rw [List.length_map];omega);rw [List.length_map] at this ⊢;exact this)
 refine ⟨_,rfl,_,rfl,d,_,_,_,rfl,rfl,S2,e2,_,rfl,m,_,rfl,.inl (SqL.of km2),_,_,rfl,rfl,(by rw [List.length_map];show (0:Int) < ((mz.length:Nat):Int);omega),m,_,_,_,rfl,rfl,SqL.of km2,hm0,?_⟩
 have hman:man≠"":=((pl.om man hmm).ne).1
 refine ⟨_,rfl,la,rfl,⟨_,SqL.of kl2⟩,fun D hD=>comp_strs (xs:=ls) (fun x=>!decide (x∈ks)) V.str (SqL.of kl2) hD (by omega) (fun x Hz A B hx sz hAB=>?_) (fun Hz sz hDz=>?_)⟩
 ·have hAB:=hAB _ (Same.refl _)
  have bz:=bk.same (s2.trans sz)
  refine ⟨Kp.set rfl (Kp.refl _),_,rfl,_,rfl,q.B,_,rfl,bz.gk,q.kn,_,rfl,.inl (SqL.of bz.k),rfl,flat_strs _,_,rfl,?_⟩
  show if (!inV (V.str x) (ks.map V.str)) = true then _ else _
  rw [inV_str]
  refine ite2 (fun c=>?_) (fun c=>?_)
  ·rw [if_pos c] at hAB
   exact ⟨_,rfl,hAB⟩
  ·rw [if_neg c] at hAB
   exact hAB
 have fsub:∀ z∈ls.filter (fun x=>!decide (x∈ks)),z∈ls:=fun z hz=>(List.mem_filter.mp hz).1
 have fle:(ls.filter fun x=>!decide (x∈ks)).length≤9:=by have:=List.length_filter_le (fun x=>!decide (x∈ks)) ls;omega
 generalize (ls.filter fun x=>!decide (x∈ks)) = fr at hDz fsub fle
 have s3:=s2.trans sz
 have S3:=s3.seq hS
 have kl3:=sz _ _ kl2
 refine ⟨_,rfl,_,rfl,D,la,_,_,rfl,rfl,hDz,kl3,(by rw [List.length_map,List.length_map];exact small (by omega)),fun c1 hc1=>?_⟩
 have e1':fr.map V.str++ls.map V.str = (fr++ls).map V.str:=by rw [List.map_append]
 rw [e1']
 have s4:=s3.trans (same_new hc1 (.lst ((fr++ls).map V.str)))
 have k4:(upd Hz c1 (.lst ((fr++ls).map V.str))) c1 = some (.lst ((fr++ls).map V.str)):=upd_same
 have kD4:=(same_new hc1 (.lst ((fr++ls).map V.str))) _ _ hDz
 have kl4:=(same_new hc1 (.lst ((fr++ls).map V.str))) _ _ kl3
 generalize upd Hz c1 (.lst ((fr++ls).map V.str)) = H4 at s4 k4 kD4 kl4 ⊢
 have S4:=s4.seq hS
 have mxp:(0:Int) < (if ((fr.map V.str).length:Int) > 1 then ((fr.map V.str).length:Int) else 1):=by split <;> omega
 have mxl:(if ((fr.map V.str).length:Int) > 1 then ((fr.map V.str).length:Int) else 1)≤((fr++ls).length:Int):=by
  rw [List.length_map,List.length_append]
  split <;> omega
 obtain ⟨nw0,hn0,hnm⟩:=str_at (zs:=fr++ls) (i:=d3 % (if ((fr.map V.str).length:Int) > 1 then ((fr.map V.str).length:Int) else 1)) (Int.emod_nonneg _ (by omega)) (by have:=Int.emod_lt_of_pos d3 mxp;omega)
 have hnw0:nw0∈ls:=by
  rcases List.mem_append.mp hnm with z | z
  ·exact fsub _ z
  ·exact z
 refine ⟨_,rfl,d,_,_,_,rfl,rfl,S4,e3,_,rfl,D,_,rfl,.inl (SqL.of kD4),_,_,rfl,_,_,rfl,rfl,mxp,c1,_,_,_,rfl,rfl,SqL.of k4,hn0,?_⟩
 dsimp only [gName]
 refine grab (a:=tIfS _ _ _) (fun σ' Hx=>∃ est nw,σ' = [some (.ref q.B),some (.ref p),some (.ref d),some (.int 0),some (.ref m),some (.ref la),some (.ref th),some (.str est),some (.str man),some (.ref D),some (.str nw),none,none,none,none]∧Same H Hx∧nw∈ls) (fun σ' Hx hp=>?_) (fun go=>?_)
 rotate_left
 ·refine ⟨_,rfl,d,_,_,_,rfl,rfl,S4,e7,_,_,rfl,rfl,(by show (0:Int) < 12;decide),_,_,rfl,rfl,_,rfl,?_⟩
  refine ite2 (fun _=>?_) (fun _=>?_)
  ·obtain ⟨nw1,hn1,hnm1⟩:=str_at (zs:=ls) (i:=d3 % ((ls.map V.str).length:Int)) (Int.emod_nonneg _ (by rw [List.length_map];omega)) (by have:=Int.emod_lt_of_pos d3 (show (0:Int) < ((ls.map V.str).length:Int) by rw [List.length_map];omega);rw [List.length_map] at this ⊢;exact this)
   refine ⟨_,rfl,_,rfl,d,_,_,_,rfl,rfl,S4,e3,_,rfl,la,_,rfl,.inl (SqL.of kl4),_,_,rfl,rfl,(by rw [List.length_map];show (0:Int) < ((ls.length:Nat):Int);omega),la,_,_,_,rfl,rfl,SqL.of kl4,hn1,?_⟩
   refine ⟨small (by simp),fun c2 hc2=>?_⟩
   have sc2:=same_new hc2 (.lst [.str ""])
   refine ⟨_,rfl,c2,la,_,_,rfl,rfl,upd_same,sc2 _ _ kl4,(by rw [List.length_map,List.length_singleton];exact small (by omega)),fun c3 hc3=>?_⟩
   have e3':[V.str ""]++ls.map V.str = (("" : Str) :: ls).map V.str:=rfl
   rw [e3']
   have sc3:=sc2.trans (same_new hc3 (.lst ((("" : Str) :: ls).map V.str)))
   have k5:(upd (upd H4 c2 (.lst [.str ""])) c3 (.lst ((("" : Str) :: ls).map V.str))) c3 = some (.lst ((("" : Str) :: ls).map V.str)):=upd_same
   change (fun σ' H'=>_) _ _
   obtain ⟨est1,he1,_⟩:=str_at (zs:=("" : Str) :: ls) (i:=d1 % 10) (by omega) (by rw [List.length_cons];omega)
   refine ⟨_,rfl,d,_,_,_,rfl,rfl,(sc3.seq S4),e1,_,_,rfl,rfl,(by show (0:Int) < 10;decide),c3,_,_,_,rfl,rfl,SqL.of k5,he1,?_⟩
   exact go _ _ ⟨est1,nw1,rfl,s4.trans sc3,hnm1⟩
  ·exact go _ _ ⟨est0,nw0,rfl,s4,hnw0⟩
 obtain ⟨est,nw,rfl,sx,hnw⟩:=hp
 have bx:=bk.same sx
 have Sx:=sx.seq hS
 obtain ⟨wv,hwv,w0,w1⟩:∃ wv:Int,(valV (owL es) (.inr est)).getD (.int 0) = .int wv∧0≤wv∧wv≤9999:=by
  by_cases c:est∈nms es
  ·obtain ⟨y,hy,rfl⟩:=mem_nms c
   rw [val_kv W.nd hy]
   have b1:=W.bnd y hy
   have b2:=W.own_le y hy
   exact ⟨y.own,rfl,by omega,by omega⟩
  ·rw [val_none c]
   exact ⟨0,rfl,by omega,by omega⟩
 refine ⟨_,rfl,q.B,_,rfl,bx.go,q.o,rfl,isD bx.o,_,rfl,_,DGet.k (k:=.inr est) bx.o,?_⟩
 rw [hwv]
 have mw:(0:Int) < (if wv > 1 then wv else 1):=by split <;> omega
 have mw2:(if wv > 1 then wv else 1)≤9999:=by split <;> omega
 have q40:=Int.emod_nonneg d4 (Int.ne_of_gt mw)
 have q41:=Int.emod_lt_of_pos d4 mw
 refine ⟨_,rfl,d,_,_,_,rfl,rfl,Sx,e4,_,rfl,_,_,rfl,_,_,rfl,rfl,mw,_,_,rfl,rfl,?_⟩
 generalize d4 % (if wv > 1 then wv else 1) = q4 at q40 q41 ⊢
 dsimp only [gName]
 refine grab (a:=tIfS _ _ _) (fun σ' Hy=>∃ many:Int,σ' = [some (.ref q.B),some (.ref p),some (.ref d),some (.int 0),some (.ref m),some (.ref la),some (.ref th),some (.str est),some (.str man),some (.ref D),some (.str nw),some (.int wv),some (.int many),none,none]∧Hy = Hx∧1≤many∧many≤9999) (fun σ' Hy hp=>?_) (fun go=>?_)
 rotate_left
 ·refine ⟨_,rfl,d,_,_,_,rfl,rfl,Sx,e7,_,_,rfl,rfl,(by show (0:Int) < 12;decide),rfl,_,rfl,eq_int (fun _=>?_) (fun _=>?_)⟩
  ·refine ⟨_,rfl,_,_,rfl,rfl,_,rfl,d,_,_,_,rfl,rfl,Sx,e4,_,_,rfl,rfl,(by show (0:Int) < 2;decide),_,_,rfl,rfl,_,_,rfl,go _ _ ⟨_,rfl,rfl,?_,?_⟩⟩
   ·split <;> omega
   ·split <;> omega
  ·exact go _ _ ⟨_,rfl,rfl,by omega,by omega⟩
 obtain ⟨many,rfl,rfl,mn1,mn2⟩:=hp
 refine ⟨_,rfl,d,_,_,_,rfl,rfl,Sx,e0,_,_,rfl,rfl,(by show (0:Int) < 13;decide),?_⟩
 dsimp only [gName]
 have y0:=Int.emod_nonneg d0 (show (13:Int)≠0 by decide)
 have y1:=Int.emod_lt_of_pos d0 (show (0:Int) < 13 by decide)
 generalize d0 % 13 = way at y0 y1 ⊢
 obtain ⟨sr,hsr,hsm⟩:=at_some (xs:=[V.int 0,.int 1,.int (d5 % 30),.int (9999 - d5 % 9)]) (i:=d6 % 4) (by omega) (by simp;omega)
 obtain ⟨sr,rfl,sr0,sr1⟩:∃ z:Int,sr = .int z∧0≤z∧z≤9999:=by
  simp only [List.mem_cons,List.not_mem_nil,or_false] at hsm
  rcases hsm with rfl | rfl | rfl | rfl
  ·exact ⟨_,rfl,by omega,by omega⟩
  ·exact ⟨_,rfl,by omega,by omega⟩
  ·exact ⟨_,rfl,by omega,by omega⟩
  ·exact ⟨_,rfl,by omega,by omega⟩
 refine grab (a:=tIfS _ _ _) (fun σ' Hw=>σ' = [some (.ref q.B),some (.ref p),some (.ref d),some (.int 0),some (.ref m),some (.ref la),some (.ref th),some (.str est),some (.str man),some (.ref D),some (.str nw),some (.int wv),some (.int many),some (.int way),none]∧Same H Hw∧4≤way∧(est = ""→way ∉ [(4:Int),5,6,9,12])) (fun σ' Hw hp=>?_) (fun go=>?_)
 rotate_left
 ·have fin:∀ {Hw:Hp},Same H Hw→∀ r,Hw r = none→Q (.ref r) (upd Hw r (.tup [.str "grant",.int 0,.str est,.str nw,.str man,.int many,.int sr])):=fun {Hw} sw r hr0=>k r _ _ (same_upd sw (sw.free hr0)) upd_same (.inl ⟨.grant est nw man many sr,rfl,hnw,mn1,mn2,sr0,sr1⟩)
  refine ⟨_,rfl,_,_,rfl,rfl,_,rfl,ite2 (fun _=>?_) (fun c4=>?_)⟩
  ·refine iteT ⟨_,rfl,_,rfl,_,rfl,_,rfl,_,rfl,_,rfl,d,_,_,_,rfl,rfl,Sx,e5,_,_,rfl,rfl,(by show (0:Int) < 30;decide),_,rfl,d,_,_,_,rfl,rfl,Sx,e5,_,_,rfl,rfl,(by show (0:Int) < 9;decide),_,_,rfl,rfl,small (by simp),fun c hc=>?_⟩
   have sc:=same_new hc (.lst [.int 0,.int 1,.int (d5 % 30),.int (9999 - d5 % 9)])
   refine ⟨_,rfl,d,_,_,_,rfl,rfl,(sc.seq Sx),e6,_,_,rfl,rfl,(by show (0:Int) < 4;decide),c,_,_,_,rfl,rfl,SqL.of upd_same,hsr,small (by simp),fun r hr0=>?_⟩
   exact fin (sx.trans sc) r hr0
  ·have c4':4≤way:=by simpa using c4
   refine ⟨_,rfl,rfl,_,rfl,eq_str (fun he=>?_) (fun he=>?_)⟩
   ·refine ⟨_,rfl,small (by simp),fun c hc=>⟨c,_,rfl,.inr (SqT.of upd_same),rfl,rfl,_,rfl,int_in [4,5,6,9,12] (fun hin=>?_) (fun hin=>?_)⟩⟩
    ·have sc0:=same_new hc (.tup [.int 4,.int 5,.int 6,.int 9,.int 12])
     have Sx2:=sc0.seq Sx
     refine ⟨_,rfl,_,rfl,_,rfl,_,rfl,_,rfl,_,rfl,d,_,_,_,rfl,rfl,Sx2,e5,_,_,rfl,rfl,(by show (0:Int) < 30;decide),_,rfl,d,_,_,_,rfl,rfl,Sx2,e5,_,_,rfl,rfl,(by show (0:Int) < 9;decide),_,_,rfl,rfl,small (by simp),fun c' hc'=>?_⟩
     have sc:=same_new hc' (.lst [.int 0,.int 1,.int (d5 % 30),.int (9999 - d5 % 9)])
     refine ⟨_,rfl,d,_,_,_,rfl,rfl,(sc.seq Sx2),e6,_,_,rfl,rfl,(by show (0:Int) < 4;decide),c',_,_,_,rfl,rfl,SqL.of upd_same,hsr,small (by simp),fun r hr0=>?_⟩
     exact fin ((sx.trans sc0).trans sc) r hr0
    ·exact go _ _ ⟨rfl,sx.trans (same_new hc _),c4',fun _=>hin⟩
   ·refine iteF ?_
    exact go _ _ ⟨rfl,sx,c4',fun z=>absurd z he⟩
 obtain ⟨rfl,sw,c4,hcr⟩:=hp
 have Sw:=sw.seq hS
 have bw:=bk.same sw
 have plw:=pl.same sw
 have part:way∈[(4:Int),5,6,9,12]→est≠"":=fun h1 h2=>hcr h2 h1
 have fpart:(way = 4∨way = 12)→∀ r,Hw r = none→Q (.ref r) (upd Hw r (.tup [.str "part",.int 0,.str est,.str nw,.str man,.int many])):=fun hy r hr0=>k r _ _ (same_upd sw (sw.free hr0)) upd_same (.inl ⟨.part est nw man many,rfl,hnw,mn1,mn2,part (by rcases hy with rfl | rfl <;> decide)⟩)
 refine ⟨_,rfl,rfl,_,rfl,eq_int (fun hy=>iteT ?_) (fun n4=>?_)⟩
 ·exact ⟨_,rfl,_,rfl,_,rfl,_,rfl,_,rfl,small (by simp),fpart (.inl hy)⟩
 refine ⟨_,rfl,rfl,_,rfl,eq_int (fun hy=>?_) (fun n12=>?_)⟩
 ·exact ⟨_,rfl,_,rfl,_,rfl,_,rfl,_,rfl,small (by simp),fpart (.inr hy)⟩
 refine ⟨_,rfl,_,_,rfl,rfl,_,rfl,ite2 (fun c7=>?_) (fun c7=>?_)⟩
 ·have c7':way < 7:=by simpa using c7
  refine ⟨_,rfl,_,rfl,_,rfl,small (by simp),fun r hr0=>?_⟩
  refine k r _ _ (same_upd sw (sw.free hr0)) upd_same (.inl ⟨.convey est man,rfl,part ?_⟩)
  have:way = 5∨way = 6:=by omega
  rcases this with rfl | rfl <;> decide
 have c7':7≤way:=by simpa using c7
 have fheir:∃ other,other∈mz∧other≠man:=by
  have h2:∃ a b r,mz = a :: b :: r:=by
   match mz,lm with
   | a :: b :: r,_=>exact ⟨a,b,r,rfl⟩
  obtain ⟨a,b,r,rfl⟩:=h2
  have hab:a≠b:=fun z=>(List.nodup_cons.mp pl.nm).1 (by rw [z];exact List.mem_cons_self)
  by_cases c:a = man
  ·exact ⟨b,by simp,fun z=>hab (c.trans z.symm)⟩
  ·exact ⟨a,by simp,c⟩
 refine ⟨_,rfl,rfl,_,rfl,eq_int (fun hy=>iteT ?_) (fun n7=>?_)⟩
 ·refine ⟨_,rfl,m,rfl,⟨_,SqL.of plw.m⟩,fun D2 hD2=>comp_strs (xs:=mz) (fun x=>!decide (x = man)) V.str (SqL.of plw.m) hD2 (by omega) (fun x Hz2 A B hx sz2 hAB=>?_) (fun Hz2 sz2 hDz2=>?_)⟩
  ·have hAB:=hAB _ (Same.refl _)
   refine ⟨Kp.set rfl (Kp.refl _),_,rfl,_,rfl,rfl,_,rfl,?_⟩
   rw [dec_str]
   refine ite2 (fun c=>?_) (fun c=>?_)
   ·rw [if_pos c] at hAB
    exact ⟨_,rfl,hAB⟩
   ·rw [if_neg c] at hAB
    exact hAB
  ·obtain ⟨ot,ho1,ho2⟩:=fheir
   have hpos:0 < (mz.filter fun x=>!decide (x = man)).length:=List.length_pos_of_mem (List.mem_filter.mpr ⟨ho1,by rw [decide_eq_false ho2];rfl⟩)
   generalize (mz.filter fun x=>!decide (x = man)) = zs at hDz2 hpos
   obtain ⟨oth,hoa,_⟩:=str_at (zs:=zs) (i:=d3 % ((zs.map V.str).length:Int)) (Int.emod_nonneg _ (by rw [List.length_map];omega)) (by have:=Int.emod_lt_of_pos d3 (show (0:Int) < ((zs.map V.str).length:Int) by rw [List.length_map];omega);rw [List.length_map] at this ⊢;exact this)
   have swz:=sw.trans sz2
   refine ⟨_,rfl,_,rfl,_,rfl,_,rfl,d,_,_,_,rfl,rfl,(swz.seq hS),e3,_,rfl,D2,_,rfl,.inl (SqL.of hDz2),_,_,rfl,rfl,(by rw [List.length_map];show (0:Int) < ((zs.length:Nat):Int);omega),D2,_,_,_,rfl,rfl,SqL.of hDz2,hoa,small (by simp),fun r hr0=>?_⟩
   exact k r _ _ (same_upd swz (swz.free hr0)) upd_same (.inr ⟨"heir",man,_,rfl,by decide +kernel⟩)
 refine ⟨_,rfl,rfl,_,rfl,eq_int (fun hy=>?_) (fun n11=>?_)⟩
 ·refine ⟨_,rfl,m,rfl,⟨_,SqL.of plw.m⟩,fun D2 hD2=>comp_strs (xs:=mz) (fun x=>!decide (x = man)) V.str (SqL.of plw.m) hD2 (by omega) (fun x Hz2 A B hx sz2 hAB=>?_) (fun Hz2 sz2 hDz2=>?_)⟩
  ·have hAB:=hAB _ (Same.refl _)
   refine ⟨Kp.set rfl (Kp.refl _),_,rfl,_,rfl,rfl,_,rfl,?_⟩
   rw [dec_str]
   refine ite2 (fun c=>?_) (fun c=>?_)
   ·rw [if_pos c] at hAB
    exact ⟨_,rfl,hAB⟩
   ·rw [if_neg c] at hAB
    exact hAB
  ·obtain ⟨ot,ho1,ho2⟩:=fheir
   have hpos:0 < (mz.filter fun x=>!decide (x = man)).length:=List.length_pos_of_mem (List.mem_filter.mpr ⟨ho1,by rw [decide_eq_false ho2];rfl⟩)
   generalize (mz.filter fun x=>!decide (x = man)) = zs at hDz2 hpos
   obtain ⟨oth,hoa,_⟩:=str_at (zs:=zs) (i:=d3 % ((zs.map V.str).length:Int)) (Int.emod_nonneg _ (by rw [List.length_map];omega)) (by have:=Int.emod_lt_of_pos d3 (show (0:Int) < ((zs.map V.str).length:Int) by rw [List.length_map];omega);rw [List.length_map] at this ⊢;exact this)
   have swz:=sw.trans sz2
   refine ⟨_,rfl,_,rfl,_,rfl,_,rfl,d,_,_,_,rfl,rfl,(swz.seq hS),e3,_,rfl,D2,_,rfl,.inl (SqL.of hDz2),_,_,rfl,rfl,(by rw [List.length_map];show (0:Int) < ((zs.length:Nat):Int);omega),D2,_,_,_,rfl,rfl,SqL.of hDz2,hoa,small (by simp),fun r hr0=>?_⟩
   exact k r _ _ (same_upd swz (swz.free hr0)) upd_same (.inr ⟨"heir",man,_,rfl,by decide +kernel⟩)
 refine ⟨_,rfl,rfl,_,rfl,eq_int (fun hy=>?_) (fun n8=>?_)⟩
 ·refine ⟨_,rfl,_,rfl,_,rfl,_,rfl,_,rfl,_,rfl,d,_,_,_,rfl,rfl,Sw,e3,q,es,ks,m,mz,man,d3,rfl,ap,bw,W,hl,plw.m,by omega,hman,fun z Hv sv=>⟨small (by simp),fun r hr0=>?_⟩⟩
  exact k r _ _ (same_upd (sw.trans sv) ((sw.trans sv).free hr0)) upd_same (.inr ⟨"liege",man,_,rfl,by decide +kernel⟩)
 refine ⟨_,rfl,rfl,_,rfl,eq_int (fun hy=>?_) (fun n9=>?_)⟩
 ·refine ⟨_,rfl,_,rfl,small (by simp),fun r hr0=>?_⟩
  exact k r _ _ (same_upd sw (sw.free hr0)) upd_same (.inl ⟨.surr est,rfl,part (by rw [hy];decide)⟩)
 refine ⟨_,rfl,_,rfl,small (by simp),fun r hr0=>?_⟩
 exact k r _ _ (same_upd sw (sw.free hr0)) upd_same (.inr ⟨"death",man,_,rfl,by decide +kernel⟩)
end
end M
namespace M
open PySem L2 PyProof.Rows
abbrev sSome:Stmt:=top 40
abbrev sStr:Stmt:=top 41
theorem frzS {t:TE} {D:Ends} {σ:L2.St} {H:Hp} {i:Nat} (h:tFrz t σ H fun v H'=>D.nx (σ.set i (some v)) H'):sFrz (fun D σ H=>t σ H fun v H'=>D.nx (σ.set i (some v)) H') D σ H:=h
theorem Rw.kind_no (rw':Rw):decide (rw'.kind∈(["heir", "liege", "death"]:List Str)) = false:=by
 cases rw'
 ·exact (show decide (("grant" : Str)∈(["heir", "liege", "death"]:List Str)) = false by decide +kernel)
 ·exact (show decide (("part" : Str)∈(["heir", "liege", "death"]:List Str)) = false by decide +kernel)
 ·exact (show decide (("convey" : Str)∈(["heir", "liege", "death"]:List Str)) = false by decide +kernel)
 ·exact (show decide (("surrender" : Str)∈(["heir", "liege", "death"]:List Str)) = false by decide +kernel)
def spSome (K:PySem.W.Frag):Sp:=fun vs H Q _=>∃ q es ks,∃ (p d m la:Addr) (ms ls:List Str) (wd:Int) (ds:List Int),vs = [.ref q.B,.ref p,.ref d]∧Ap q∧Bk q H es ks∧WF es∧es.length < 64∧PlAt H p m la ms ls wd∧SqL K H d (ds.map V.int)∧ds.length = 8∧(∀ v∈ds,Okn v) ∧
 ∀ r rw' H',Same H H'→H' r = some (.tup (Rw.vs rw'))→rw'.Ok ls→Q (.ref r) H'
def spStr (K:PySem.W.Frag):Sp:=fun vs H Q _=>∃ q es ks,∃ (p d m la kd:Addr) (ms ls kl:List Str) (wd:Int) (ds:List Int),vs = [.ref q.B,.ref p,.ref d,.ref kd]∧Ap q∧Bk q H es ks∧WF es∧es.length < 64∧PlAt H p m la ms ls wd∧SqL K H d (ds.map V.int)∧ds.length = 8∧(∀ v∈ds,Okn v)∧H kd = some (.lst (kl.map V.str))∧0 < kl.length∧kl.length≤100 ∧
 ∀ r rw' H',Same H H'→H' r = some (.tup (Rw.vs rw'))→rw'.Ok ls→Q (.ref r) H'
section
variable {P:Program} {w:World} {K:PySem.W.Frag} {mg:Str→Option Value} {base:Heap} {f C:Addr} {fd:FuncData}
theorem scSome:FnScope ["_law_book_here", "_law_pools_here", "_law_d", "_law_row_here", "_law_fresh"] ["_law_book_here", "_law_pools_here", "_law_d"] (defScope sSome):=⟨rfl,rfl,rfl,by decide +kernel,rfl,by decide +kernel,by decide +kernel⟩
def scSm1:Scope:={ kind:=.function,names:=[(".0",.local),("_law_one",.local),("_law_book_here",.free)],isGenerator:=false,isCoroutine:=false }
theorem csSm1:CScope ["_law_book_here", "_law_pools_here", "_law_d", "_law_row_here", "_law_fresh"] (defScope sSome) scSm1 ["_law_one"] ["_law_book_here"] [0]:=⟨rfl,by decide +kernel,by decide +kernel,by decide +kernel,rfl,by decide +kernel⟩
theorem ndSm1:((["_law_one"]:List Str)++(["_law_book_here"]:List Str)).Nodup:=by decide +kernel
set_option maxHeartbeats 16000000 in
theorem ok_some (F:Fun K "_law_some_deed" "_law_some_deed" sSome f fd) (ms:mg "sorted" = none) (mli:mg "list" = none) (mn:mg "len" = none) {g1:Addr} {d1:FuncData}
  (G1:FnOk P w K mg base CX0 4 g1 d1 ["_law_book_here", "_law_pools_here", "_law_d", "_law_day"] (spRow K)) (M1:Ms K mg "_law_row" g1 d1 ["_law_book_here", "_law_pools_here", "_law_d", "_law_day"]):FnOk P w K mg base CX0 5 f fd ["_law_book_here", "_law_pools_here", "_law_d"] (spSome K):=by
 refine F.ok scSome (fun vs H Q E h=>?_) (fun cdv A outer s H vs Q E hr h=>?_)
 ·obtain ⟨q,es,ks,p,d,m,la,mz,ls,wd,ds,rfl,_⟩:=h
  rfl
 obtain ⟨q,es,ks,p,d,m,la,mz,ls,wd,ds,rfl,ap,bk,W,hl,pl,hS,hdl,hdo,k⟩:=h
 refine ⟨_,(pss_cons (ps_set (i:=3) scSome.nd rfl (Or.inl rfl) (pe_call G1 hr rfl M1.m M1.k M1.b .nil pass0 (pa_cons (pv 0) (pa_cons (pv 1) (pa_cons (pv 2) (pa_cons pe_int pa_nil))))))
  (pss_cons (ps_if (pt_cmpR op_in_seq (pe_ix ix_tup (pv 3) pe_int (fun _ _=>rfl)) (pe_tup (pa_cons pe_str (pa_cons pe_str (pa_cons pe_str pa_nil)))) (by with_unfolding_all rfl)) (pss_cons (ps_set (i:=3) scSome.nd rfl (Or.inl rfl) (pe_tup (pa_cons pe_str (pa_cons pe_int (pa_cons (pe_ix ix_list (pe_callB call_sortedS rfl ms bt_sorted (pa_cons (pe_callTy (call_listD hr.hd) rfl mli bt_list (pa_cons (pe_dget (u1 hr) (pv 0) pe_str (fun _ _=>rfl)) pa_nil)) pa_nil)) (pe_op op_mod (pe_ix ix_list (pv 2) pe_int (fun _ _=>rfl)) (pe_callB call_lenDk rfl mn PySem.boot_len (pa_cons (pe_dget (u1 hr) (pv 0) pe_str (fun _ _=>rfl)) pa_nil))) (fun _ _=>rfl)) (pa_cons (pe_ix ix_tup (pv 3) pe_int (fun _ _=>rfl)) (pa_cons (pe_ix ix_list (pe_ix ix_tup (pv 1) pe_int (fun _ _=>rfl)) (pe_op op_mod (pe_ix ix_list (pv 2) pe_int (fun _ _=>rfl)) pe_int) (fun _ _=>rfl)) (pa_cons pe_int (pa_cons pe_int pa_nil)))))))))
  (pss_cons (ps_setC (i:=4) rfl csSm1 (pi_list (pe_ix ix_tup (pv 1) pe_int (fun _ _=>rfl))) (fun s H fp C'=>⟨pg_name (i:=0) ndSm1 rfl (Or.inl rfl),pts_one (pt_cmpR (op_notIn_seqK (K:=K)) (pv 0) (pe_dget (u1 hr) (pv 1) pe_str (fun _ _=>rfl)) (by with_unfolding_all rfl)),(pv 0)⟩) scSome.nd rfl (Or.inl rfl))
  (pss_one (ps_set (i:=3) scSome.nd rfl (Or.inl rfl) (pe_op op_catT (pe_op op_catT (pe_slice sl_tup (pv 3) po_none (po_some pe_int)) (pe_tup (pa_cons (pe_ix ix_list (pe_op op_cat (pv 4) (pe_ix ix_tup (pv 1) pe_int (fun _ _=>rfl))) pe_int (fun _ _=>rfl)) pa_nil))) (pe_slice sl_tup (pv 3) (po_some pe_int) po_none)))))) pss_nil)
  (pss_one (ps_ret (pv 3))))),?_⟩
 obtain ⟨d1,e1,o1⟩:=fs_at hdo (i:=1) (by decide) (by omega)
 obtain ⟨d2,e2,o2⟩:=fs_at hdo (i:=2) (by decide) (by omega)
 obtain ⟨o2a,o2b⟩:=o2
 have lm:=pl.lm
 have ll:=pl.ll
 have npos:0 < es.length:=by
  obtain ⟨c,r,e,_⟩:=W.hd
  rw [e];simp
 refine ⟨_,rfl,_,rfl,_,rfl,q,es,ks,p,d,m,la,mz,ls,wd,ds,rfl,ap,bk,W,hl,pl,hS,hdl,hdo,fun r xs H1 s1 hr1 hout=>?_⟩
 rcases hout with ⟨rw',rfl,hok⟩ | ⟨k0,z0,rest,rfl,hk0⟩
 ·refine ⟨_,rfl,r,_,_,_,rfl,rfl,SqT.of hr1,atI_nat (j:=0) rw'.vs0,small (by simp),fun t ht=>⟨t,_,rfl,.inr (SqT.of upd_same),rfl,rfl,_,rfl,lit_in (k:=rw'.kind) (ls:=["heir", "liege", "death"]) (b:=false) rw'.kind_no (iteF ?_)⟩⟩
  have s2:=same_new ht (.tup [.str "heir",.str "liege",.str "death"])
  exact ⟨_,rfl,k r rw' _ (s1.trans s2) (s2 _ _ hr1) hok⟩
 refine ⟨_,rfl,r,_,_,_,rfl,rfl,SqT.of hr1,atI_nat (j:=0) rfl,small (by simp),fun t ht=>⟨t,_,rfl,.inr (SqT.of upd_same),rfl,rfl,_,rfl,lit_in (k:=k0) (ls:=["heir", "liege", "death"]) (b:=true) (decide_eq_true hk0) (iteT ?_)⟩⟩
 have s12:=same_new ht (.tup [.str "heir",.str "liege",.str "death"])
 have s2:=s1.trans s12
 have hr2:=s12 _ _ hr1
 generalize upd H1 t (.tup [.str "heir",.str "liege",.str "death"]) = H2 at s12 s2 hr2 ⊢
 have b2:=bk.same s2
 refine ⟨_,rfl,q.B,_,rfl,b2.gl,q.l,_,rfl,b2.l,fun t1 ht1=>?_⟩
 rw [keys_kv]
 have s3:=same_new ht1 (.lst ((nms es).map V.str))
 refine ⟨t1,nms es,rfl,SqL.of upd_same,by rw [List.length_map];exact hl,fun th ts hth hpt _=>?_⟩
 have s4:=s3.trans (same_new hth (.lst (ts.map V.str)))
 have k4:(upd (upd H2 t1 (.lst ((nms es).map V.str))) th (.lst (ts.map V.str))) th = some (.lst (ts.map V.str)):=upd_same
 generalize upd (upd H2 t1 (.lst ((nms es).map V.str))) th (.lst (ts.map V.str)) = H4 at s4 k4 ⊢
 have s04:=s2.trans s4
 have b4:=bk.same s04
 have S4:=s04.seq hS
 have p4:=pl.same s04
 have tl:ts.length = es.length:=by rw [hpt.length_eq,List.length_map]
 have l0:((loL es).length:Int) = (es.length:Int):=by rw [kv_len]
 obtain ⟨est,hest,_⟩:=str_at (zs:=ts) (i:=d1 % ((loL es).length:Int)) (Int.emod_nonneg _ (by omega)) (by have:=Int.emod_lt_of_pos d1 (show (0:Int) < ((loL es).length:Int) by omega);omega)
 refine ⟨_,rfl,d,_,_,_,rfl,rfl,S4,e1,_,rfl,q.B,_,rfl,b4.gl,q.l,_,rfl,b4.l,_,_,rfl,rfl,(by show (0:Int) < ((loL es).length:Int);omega),th,_,_,_,rfl,rfl,SqL.of k4,hest,?_⟩
 obtain ⟨man,hman,_⟩:=str_at (zs:=mz) (i:=d2 % 6) (by omega) (by omega)
 refine ⟨_,rfl,r,_,_,_,rfl,rfl,SqT.of (s4 _ _ hr2),atI_nat (j:=2) rfl,_,rfl,p,_,_,_,rfl,rfl,SqT.of p4.r,atI_nat (j:=0) rfl,_,rfl,d,_,_,_,rfl,rfl,S4,e2,_,_,rfl,rfl,(by show (0:Int) < 6;decide),m,_,_,_,rfl,rfl,SqL.of p4.m,hman,small (by simp),fun r3 hr3=>?_⟩
 have s45:=same_new hr3 (.tup [.str "grant",.int 0,.str est,.str z0,.str man,.int 1,.int 2])
 have k5:(upd H4 r3 (.tup [.str "grant",.int 0,.str est,.str z0,.str man,.int 1,.int 2])) r3 = some (.tup [.str "grant",.int 0,.str est,.str z0,.str man,.int 1,.int 2]):=upd_same
 dsimp only [gName]
 generalize upd H4 r3 (.tup [.str "grant",.int 0,.str est,.str z0,.str man,.int 1,.int 2]) = H5 at s45 k5 ⊢
 have s2:=s04.trans s45
 have p5:=pl.same s2
 have kl2:=p5.la
 refine ⟨_,rfl,p,_,_,_,rfl,rfl,SqT.of p5.r,atI_nat (j:=1) rfl,la,rfl,⟨_,SqL.of kl2⟩,fun D hD=>comp_strs (xs:=ls) (fun x=>!decide (x∈ks)) V.str (SqL.of kl2) hD (by omega) (fun x Hz A B hx sz hAB=>?_) (fun Hz sz hDz=>?_)⟩
 ·have hAB:=hAB _ (Same.refl _)
  have bz:=bk.same (s2.trans sz)
  refine ⟨Kp.set rfl (Kp.refl _),_,rfl,_,rfl,q.B,_,rfl,bz.gk,q.kn,_,rfl,.inl (SqL.of bz.k),rfl,flat_strs _,_,rfl,?_⟩
  show if (!inV (V.str x) (ks.map V.str)) = true then _ else _
  rw [inV_str]
  refine ite2 (fun c=>?_) (fun c=>?_)
  ·rw [if_pos c] at hAB
   exact ⟨_,rfl,hAB⟩
  ·rw [if_neg c] at hAB
   exact hAB
 have fsub:∀ z∈ls.filter (fun x=>!decide (x∈ks)),z∈ls:=fun z hz=>(List.mem_filter.mp hz).1
 have fle:(ls.filter fun x=>!decide (x∈ks)).length≤9:=by have:=List.length_filter_le (fun x=>!decide (x∈ks)) ls;omega
 generalize (ls.filter fun x=>!decide (x∈ks)) = fr at hDz fsub fle
 have s06:=s2.trans sz
 have p6:=pl.same s06
 have k6:=sz _ _ k5
 refine ⟨_,rfl,_,rfl,r3,_,rfl,SqT.of k6,(by intro h;exact absurd (show HT.sIx 7 7 (some 3) = 7 from h.2) (by decide)),fun c1 hc1=>?_⟩
 have ec1:cutV [V.str "grant",.int 0,.str est,.str z0,.str man,.int 1,.int 2] none (some 3) = [.str "grant",.int 0,.str est]:=rfl
 rw [ec1]
 have t1':=same_new hc1 (.tup [.str "grant",.int 0,.str est])
 have kc1:(upd Hz c1 (.tup [.str "grant",.int 0,.str est])) c1 = some (.tup [.str "grant",.int 0,.str est]):=upd_same
 generalize upd Hz c1 (.tup [.str "grant",.int 0,.str est]) = H7 at t1' kc1 ⊢
 have p7:=p6.same t1'
 refine ⟨_,rfl,_,rfl,p,_,_,_,rfl,rfl,SqT.of p7.r,atI_nat (j:=1) rfl,D,la,_,_,rfl,rfl,t1' _ _ hDz,p7.la,(by rw [List.length_map,List.length_map];exact small (by omega)),fun c2 hc2=>?_⟩
 have ec2:fr.map V.str++ls.map V.str = (fr++ls).map V.str:=by rw [List.map_append]
 rw [ec2]
 obtain ⟨nw,hnw,hnm⟩:=str_at (zs:=fr++ls) (i:=0) (by decide) (by rw [List.length_append];omega)
 have hnl:nw∈ls:=by
  rcases List.mem_append.mp hnm with z | z
  ·exact fsub _ z
  ·exact z
 have t2:=same_new hc2 (.lst ((fr++ls).map V.str))
 refine ⟨c2,_,_,_,rfl,rfl,SqL.of upd_same,hnw,small (by simp),fun c3 hc3=>?_⟩
 have t3:=t2.trans (same_new hc3 (.tup [.str nw]))
 have kc3:(upd (upd H7 c2 (.lst ((fr++ls).map V.str))) c3 (.tup [.str nw])) c3 = some (.tup [.str nw]):=upd_same
 refine ⟨c1,c3,_,_,rfl,rfl,SqT.of (t3 _ _ kc1),SqT.of kc3,(by simp),small (by simp),(fun z=>absurd z (by simp)),fun _ c4 hc4=>?_⟩
 have t4:=t3.trans (same_new hc4 (.tup [.str "grant",.int 0,.str est,.str nw]))
 have kc4:(upd (upd (upd H7 c2 (.lst ((fr++ls).map V.str))) c3 (.tup [.str nw])) c4 (.tup [.str "grant",.int 0,.str est,.str nw])) c4 = some (.tup [.str "grant",.int 0,.str est,.str nw]):=upd_same
 refine ⟨_,rfl,_,rfl,r3,_,rfl,SqT.of (t4 _ _ (t1' _ _ k6)),(by intro h;exact absurd (show HT.sIx 7 0 (some 4) = 0 from h.1) (by decide)),fun c5 hc5=>?_⟩
 have ec5:cutV [V.str "grant",.int 0,.str est,.str z0,.str man,.int 1,.int 2] (some 4) none = [.str man,.int 1,.int 2]:=rfl
 rw [ec5]
 have t5:=t4.trans (same_new hc5 (.tup [.str man,.int 1,.int 2]))
 refine ⟨c4,c5,_,_,rfl,rfl,SqT.of ((same_new hc5 (.tup [.str man,.int 1,.int 2])) _ _ kc4),SqT.of upd_same,(by simp),small (by simp),(fun z=>absurd z (by simp)),fun _ c6 hc6=>?_⟩
 have t6:=(s06.trans t1').trans (t5.trans (same_new hc6 (.tup [.str "grant",.int 0,.str est,.str nw,.str man,.int 1,.int 2])))
 exact ⟨_,rfl,k c6 (.grant est nw man 1 2) _ t6 upd_same ⟨hnl,by decide,by decide,by decide,by decide⟩⟩
theorem scStr:FnScope ["_law_book_here", "_law_pools_here", "_law_d", "_law_kinds", "_law_fresh", "_law_there", "_law_row_here", "_law_estate", "_law_man"] ["_law_book_here", "_law_pools_here", "_law_d", "_law_kinds"] (defScope sStr):=⟨rfl,rfl,rfl,by decide +kernel,rfl,by decide +kernel,by decide +kernel⟩
def scSt1:Scope:={ kind:=.function,names:=[(".0",.local),("_law_one",.local),("_law_book_here",.free)],isGenerator:=false,isCoroutine:=false }
theorem csSt1:CScope ["_law_book_here", "_law_pools_here", "_law_d", "_law_kinds", "_law_fresh", "_law_there", "_law_row_here", "_law_estate", "_law_man"] (defScope sStr) scSt1 ["_law_one"] ["_law_book_here"] [0]:=⟨rfl,by decide +kernel,by decide +kernel,by decide +kernel,rfl,by decide +kernel⟩
theorem ndSt1:((["_law_one"]:List Str)++(["_law_book_here"]:List Str)).Nodup:=by decide +kernel
def scSt2:Scope:={ kind:=.function,names:=[(".0",.local),("_law_one",.local)],isGenerator:=false,isCoroutine:=false }
theorem csSt2:CScope ["_law_book_here", "_law_pools_here", "_law_d", "_law_kinds", "_law_fresh", "_law_there", "_law_row_here", "_law_estate", "_law_man"] (defScope sStr) scSt2 ["_law_one"] [] []:=⟨rfl,by decide +kernel,by decide +kernel,by decide +kernel,rfl,by decide +kernel⟩
theorem ndSt2:((["_law_one"]:List Str)++([]:List Str)).Nodup:=by decide +kernel
set_option maxHeartbeats 16000000 in
theorem ok_str (F:Fun K "_law_steered" "_law_steered" sStr f fd) (mn:mg "len" = none) (mmax:mg "max" = none) {g1:Addr} {d1:FuncData}
  (G1:FnOk P w K mg base CX0 5 g1 d1 ["_law_book_here", "_law_pools_here", "_law_d"] (spSome K)) (M1:Ms K mg "_law_some_deed" g1 d1 ["_law_book_here", "_law_pools_here", "_law_d"]):FnOk P w K mg base CX0 6 f fd ["_law_book_here", "_law_pools_here", "_law_d", "_law_kinds"] (spStr K):=by
 refine F.ok scStr (fun vs H Q E h=>?_) (fun cdv A outer s H vs Q E hr h=>?_)
 ·obtain ⟨q,es,ks,p,d,m,la,kd,mz,ls,kl,wd,ds,rfl,_⟩:=h
  rfl
 obtain ⟨q,es,ks,p,d,m,la,kd,mz,ls,kl,wd,ds,rfl,ap,bk,W,hl,pl,hS,hdl,hdo,hkd,hk0,hk1,k⟩:=h
 refine ⟨_,(pss_cons (ps_setC (i:=4) rfl csSt1 (pi_list (pe_ix ix_tup (pv 1) pe_int (fun _ _=>rfl))) (fun s H fp C'=>⟨pg_name (i:=0) ndSt1 rfl (Or.inl rfl),pts_one (pt_cmpR (op_notIn_seqK (K:=K)) (pv 0) (pe_dget (u1 hr) (pv 1) pe_str (fun _ _=>rfl)) (by with_unfolding_all rfl)),(pv 0)⟩) scStr.nd rfl (Or.inl rfl))
  (pss_cons (ps_frz (ps_setC (i:=5) rfl csSt2 (pi_dict (pe_dget (u1 hr) (pv 0) pe_str (fun _ _=>rfl))) (fun s H fp C'=>⟨pg_name (i:=0) ndSt2 rfl (Or.inl rfl),pts_one (pt_cmpR op_ne (pv 0) pe_str (nomark _)),pv 0⟩) scStr.nd rfl (Or.inl rfl)))
  (pss_cons (ps_set (i:=6) scStr.nd rfl (Or.inl rfl) (pe_call G1 hr rfl M1.m M1.k M1.b .nil pass0 (pa_cons (pv 0) (pa_cons (pv 1) (pa_cons (pv 2) pa_nil)))))
  (pss_cons (ps_if (PW.pt (pw_or (pt_cmpR op_in_seq (pe_ix ix_tup (pv 6) pe_int (fun _ _=>rfl)) (pv 3) (by with_unfolding_all rfl)) (pw_or1 (pt_cmpR (op_eqD hr.units) (pv 5) (pe_lst pa_nil) (nomark _))))) (pss_one (ps_ret (pv 6))) pss_nil)
  (pss_cons (ps_set (i:=7) scStr.nd rfl (Or.inl rfl) (pe_ix ix_list (pv 5) (pe_op op_mod (pe_ix ix_list (pv 2) pe_int (fun _ _=>rfl)) (pe_callB call_len_seq rfl mn PySem.boot_len (pa_cons (pv 5) pa_nil))) (fun _ _=>rfl)))
  (pss_cons (ps_set (i:=8) scStr.nd rfl (Or.inl rfl) (pe_ix ix_list (pe_ix ix_tup (pv 1) pe_int (fun _ _=>rfl)) (pe_op op_mod (pe_ix ix_list (pv 2) pe_int (fun _ _=>rfl)) pe_int) (fun _ _=>rfl)))
  (pss_cons (ps_if (PW.pt (pw_and (pt_cmpR op_eq (pe_ix ix_list (pv 3) (pe_op op_mod (pe_ix ix_list (pv 2) pe_int (fun _ _=>rfl)) (pe_callB call_len_seq rfl mn PySem.boot_len (pa_cons (pv 3) pa_nil))) (fun _ _=>rfl)) pe_str (nomark _)) (pw_and1 (pt_cmpR (op_neD hr.units) (pv 4) (pe_lst pa_nil) (nomark _))))) (pss_one (ps_ret (pe_tup (pa_cons pe_str (pa_cons pe_int (pa_cons (pv 7) (pa_cons (pe_ix ix_list (pv 4) pe_int (fun _ _=>rfl)) (pa_cons (pv 8) (pa_cons (pe_op op_add pe_int (pe_op op_mod (pe_ix ix_list (pv 2) pe_int (fun _ _=>rfl)) (pe_callB (call_max2 rfl) rfl mmax bt_max (pa_cons pe_int (pa_cons (pe_dget (u1 hr) (pe_dget (u1 hr) (pv 0) pe_str (fun _ _=>rfl)) (pv 7) (fun _ _=>rfl)) pa_nil))))) pa_nil))))))))) pss_nil)
  (pss_cons (ps_if (pt_cmpR op_eq (pe_ix ix_list (pv 3) (pe_op op_mod (pe_ix ix_list (pv 2) pe_int (fun _ _=>rfl)) (pe_callB call_len_seq rfl mn PySem.boot_len (pa_cons (pv 3) pa_nil))) (fun _ _=>rfl)) pe_str (nomark _)) (pss_one (ps_ret (pe_tup (pa_cons pe_str (pa_cons pe_int (pa_cons (pv 7) (pa_cons (pv 8) pa_nil))))))) pss_nil)
  (pss_cons (ps_if (pt_cmpR op_eq (pe_ix ix_list (pv 3) (pe_op op_mod (pe_ix ix_list (pv 2) pe_int (fun _ _=>rfl)) (pe_callB call_len_seq rfl mn PySem.boot_len (pa_cons (pv 3) pa_nil))) (fun _ _=>rfl)) pe_str (nomark _)) (pss_one (ps_ret (pe_tup (pa_cons pe_str (pa_cons pe_int (pa_cons (pv 7) pa_nil)))))) pss_nil)
  (pss_one (ps_ret (pv 6)))))))))))),?_⟩
 obtain ⟨d0,e0,o0⟩:=fs_at hdo (i:=0) (by decide) (by omega)
 obtain ⟨d1,e1,o1⟩:=fs_at hdo (i:=1) (by decide) (by omega)
 obtain ⟨d2,e2,o2⟩:=fs_at hdo (i:=2) (by decide) (by omega)
 obtain ⟨d4,e4,o4⟩:=fs_at hdo (i:=4) (by decide) (by omega)
 obtain ⟨o2a,o2b⟩:=o2
 obtain ⟨o4a,o4b⟩:=o4
 have lm:=pl.lm
 have ll:=pl.ll
 have s2:=Same.refl H
 have kl2:=pl.la
 refine ⟨_,rfl,p,_,_,_,rfl,rfl,SqT.of pl.r,atI_nat (j:=1) rfl,la,rfl,⟨_,SqL.of kl2⟩,fun D hD=>comp_strs (xs:=ls) (fun x=>!decide (x∈ks)) V.str (SqL.of kl2) hD (by omega) (fun x Hz A B hx sz hAB=>?_) (fun Hz sz hDz=>?_)⟩
 ·have hAB:=hAB _ (Same.refl _)
  have bz:=bk.same (s2.trans sz)
  refine ⟨Kp.set rfl (Kp.refl _),_,rfl,_,rfl,q.B,_,rfl,bz.gk,q.kn,_,rfl,.inl (SqL.of bz.k),rfl,flat_strs _,_,rfl,?_⟩
  show if (!inV (V.str x) (ks.map V.str)) = true then _ else _
  rw [inV_str]
  refine ite2 (fun c=>?_) (fun c=>?_)
  ·rw [if_pos c] at hAB
   exact ⟨_,rfl,hAB⟩
  ·rw [if_neg c] at hAB
   exact hAB
 have fsub:∀ z∈ls.filter (fun x=>!decide (x∈ks)),z∈ls:=fun z hz=>(List.mem_filter.mp hz).1
 have fle:(ls.filter fun x=>!decide (x∈ks)).length≤9:=by have:=List.length_filter_le (fun x=>!decide (x∈ks)) ls;omega
 generalize (ls.filter fun x=>!decide (x∈ks)) = fr at hDz fsub fle
 have b1:=bk.same sz
 have nB:q.B≠q.l:=ap_ne ap 5 6 rfl rfl (by decide)
 have gB:∀ {o:Obj} {Hx:Hp},Same (upd Hz q.l (.frz o (.dK (loL es)))) Hx→DGet Hx q.B (V.str "lords") (some (.ref q.l)):=fun sx=>dget (sx _ _ (by rw [upd_ne nB];exact b1.b)) bk.vl
 refine frzS (frz_names (fun y=>!decide (y.n = "")) b1.l (by omega) (fun o R' hR=>⟨_,rfl,q.B,_,rfl,gB (Same.refl _),hR⟩) (fun o y Hx A B hy sx hAB=>?_) (fun D2 H2 sz2 hD20 hDz2=>?_))
 ·refine ⟨Kp.set rfl (Kp.refl _),_,rfl,rfl,_,rfl,?_⟩
  rw [dec_str]
  refine ite2 (fun c=>?_) (fun c=>?_)
  ·rw [if_pos c] at hAB
   exact ⟨_,rfl,hAB⟩
  ·rw [if_neg c] at hAB
   exact hAB
 have thm:∀ z∈(es.filter fun y:Est=>!decide (y.n = ("" : Str))).map (·.n),∃ y∈es,y.n = z∧z≠"":=fun z hz=>by
  obtain ⟨y,hy,rfl⟩:=List.mem_map.mp hz
  obtain ⟨h1,h2⟩:=List.mem_filter.mp hy
  refine ⟨y,h1,rfl,fun c=>?_⟩
  rw [decide_eq_true c] at h2
  cases h2
 generalize (es.filter fun y:Est=>!decide (y.n = ("" : Str))).map (·.n) = ths at hDz2 thm
 have s02:=sz.trans sz2
 have b2:=bk.same s02
 have S2:=s02.seq hS
 have p2:=pl.same s02
 refine ⟨_,rfl,_,rfl,_,rfl,q,es,ks,p,d,m,la,mz,ls,wd,ds,rfl,ap,b2,W,hl,p2,S2,hdl,hdo,fun r rw' H3 s3 hr3 hok=>?_⟩
 have s03:=s02.trans s3
 have kd3:=s03 _ _ hkd
 have th3:=s3 _ _ hDz2
 have fr3:=s3 _ _ (sz2 _ _ hDz)
 have S3:=s03.seq hS
 have b3:=bk.same s03
 have p3:=pl.same s03
 refine ⟨_,rfl,r,_,_,_,rfl,rfl,SqT.of hr3,atI_nat (j:=0) rw'.vs0,_,rfl,kd,_,rfl,.inl (SqL.of kd3),rfl,flat_strs _,_,rfl,list_in (fun _=>iteT ?_) (fun _=>?_)⟩
 ·exact ⟨_,rfl,k r rw' H3 s03 hr3 hok⟩
 refine ⟨_,rfl,small (by simp),fun z hz=>?_⟩
 have sz4:=same_new hz (.lst [])
 refine ⟨_,_,.lst (sz4 _ _ th3) (strs_dat ths),.lst upd_same .nil,strs_lay (fun s hs=>by obtain ⟨y,hy,e,_⟩:=thm s hs;rw [← e];exact W.ok y hy),strs_lay (ss:=[]) (fun _ h=>nomatch h),strs_dep ths,_,rfl,?_⟩
 rw [strs_nil]
 have s04:=s03.trans sz4
 have hr4:=sz4 _ _ hr3
 have th4:=sz4 _ _ th3
 have fr4:=sz4 _ _ fr3
 have kd4:=sz4 _ _ kd3
 refine ite2 (fun _=>?_) (fun hne=>?_)
 ·exact ⟨_,rfl,k r rw' _ s04 hr4 hok⟩
 generalize upd H3 z (.lst []) = H4 at s04 hr4 th4 fr4 kd4 ⊢
 have S4:=s04.seq hS
 have p4:=pl.same s04
 have b4:=bk.same s04
 have tpos:0 < ths.length:=by
  cases ths with
  | nil=>exact absurd (by decide) hne
  | cons x r=>simp
 obtain ⟨est,hest,hem⟩:=str_at (zs:=ths) (i:=d1 % ((ths.map V.str).length:Int)) (Int.emod_nonneg _ (by rw [List.length_map];omega)) (by have:=Int.emod_lt_of_pos d1 (show (0:Int) < ((ths.map V.str).length:Int) by rw [List.length_map];omega);rw [List.length_map] at this ⊢;exact this)
 obtain ⟨y,hy,rfl,hyn⟩:=thm est hem
 refine ⟨_,rfl,_,rfl,d,_,_,_,rfl,rfl,S4,e1,_,rfl,D2,_,rfl,.inl (SqL.of th4),_,_,rfl,rfl,(by rw [List.length_map];show (0:Int) < ((ths.length:Nat):Int);omega),D2,_,_,_,rfl,rfl,SqL.of th4,hest,?_⟩
 obtain ⟨man,hman,_⟩:=str_at (zs:=mz) (i:=d2 % 6) (by omega) (by omega)
 refine ⟨_,rfl,p,_,_,_,rfl,rfl,SqT.of p4.r,atI_nat (j:=0) rfl,_,rfl,d,_,_,_,rfl,rfl,S4,e2,_,_,rfl,rfl,(by show (0:Int) < 6;decide),m,_,_,_,rfl,rfl,SqL.of p4.m,hman,?_⟩
 obtain ⟨kn,hkn,_⟩:=str_at (zs:=kl) (i:=d0 % ((kl.map V.str).length:Int)) (Int.emod_nonneg _ (by rw [List.length_map];omega)) (by have:=Int.emod_lt_of_pos d0 (show (0:Int) < ((kl.map V.str).length:Int) by rw [List.length_map];omega);rw [List.length_map] at this ⊢;exact this)
 dsimp only [gName]
 refine grab (a:=tIfS _ _ _) (fun σ' Hx=>σ' = [some (.ref q.B),some (.ref p),some (.ref d),some (.ref kd),some (.ref D),some (.ref D2),some (.ref r),some (.str y.n),some (.str man)]∧Same H4 Hx) (fun σ' Hx hp=>?_) (fun go=>?_)
 rotate_left
 ·refine ⟨_,rfl,_,rfl,d,_,_,_,rfl,rfl,S4,e0,_,rfl,kd,_,rfl,.inl (SqL.of kd4),_,_,rfl,rfl,(by rw [List.length_map];show (0:Int) < ((kl.length:Nat):Int);omega),kd,_,_,_,rfl,rfl,SqL.of kd4,hkn,rfl,_,rfl,eq_str (fun _=>?_) (fun _=>?_)⟩
  ·refine ⟨_,rfl,small (by simp),fun z hz=>?_⟩
   have sz5:=same_new hz (.lst [])
   refine ⟨_,_,.lst (sz5 _ _ fr4) (strs_dat fr),.lst upd_same .nil,strs_lay (fun s hs=>((pl.ol s (fsub s hs)).ne).2),strs_lay (ss:=[]) (fun _ h=>nomatch h),strs_dep fr,_,rfl,?_⟩
   rw [strs_nil]
   have s05:=s04.trans sz5
   have S5:=s05.seq hS
   have b5:=bk.same s05
   have fr5:=sz5 _ _ fr4
   have go5:=fun σ' (e:σ' = _)=>go σ' _ ⟨e,sz5⟩
   refine ite2 (fun hfr=>?_) (fun _=>?_)
   ·have fpos:0 < fr.length:=by
     cases fr with
     | nil=>exact absurd hfr (by decide)
     | cons x r=>simp
    obtain ⟨nw,hnw,hnm⟩:=str_at (zs:=fr) (i:=0) (by decide) (by omega)
    have bb:=W.bnd y hy
    have ob:=W.own_le y hy
    have mw:(0:Int) < (if y.own > 1 then y.own else 1):=by split <;> omega
    have mw2:(if y.own > 1 then y.own else 1)≤9999:=by split <;> omega
    have q40:=Int.emod_nonneg d4 (Int.ne_of_gt mw)
    have q41:=Int.emod_lt_of_pos d4 mw
    refine ⟨_,rfl,_,rfl,D,_,_,_,rfl,rfl,SqL.of fr5,hnw,_,rfl,_,rfl,d,_,_,_,rfl,rfl,S5,e4,_,rfl,q.B,_,rfl,b5.go,_,rfl,q.o,_,rfl,gkv b5.o W.nd hy,_,_,rfl,_,_,rfl,rfl,mw,_,_,rfl,rfl,small (by simp),fun r6 hr6=>?_⟩
    exact k r6 (.part y.n nw man (1 + d4 % (if y.own > 1 then y.own else 1))) _ (same_upd s05 (s05.free hr6)) upd_same ⟨fsub _ hnm,by omega,by omega,hyn⟩
   ·exact go5 _ rfl
  ·refine iteF ?_
   exact go _ _ ⟨rfl,Same.refl _⟩
 obtain ⟨rfl,sx⟩:=hp
 have s0x:=s04.trans sx
 have Sx:=s0x.seq hS
 have kdx:=sx _ _ kd4
 refine ⟨_,rfl,_,rfl,d,_,_,_,rfl,rfl,Sx,e0,_,rfl,kd,_,rfl,.inl (SqL.of kdx),_,_,rfl,rfl,(by rw [List.length_map];show (0:Int) < ((kl.length:Nat):Int);omega),kd,_,_,_,rfl,rfl,SqL.of kdx,hkn,rfl,_,rfl,eq_str (fun _=>?_) (fun _=>?_)⟩
 ·refine ⟨_,rfl,_,rfl,small (by simp),fun r6 hr6=>?_⟩
  exact k r6 (.convey y.n man) _ (same_upd s0x (s0x.free hr6)) upd_same hyn
 refine ⟨_,rfl,_,rfl,d,_,_,_,rfl,rfl,Sx,e0,_,rfl,kd,_,rfl,.inl (SqL.of kdx),_,_,rfl,rfl,(by rw [List.length_map];show (0:Int) < ((kl.length:Nat):Int);omega),kd,_,_,_,rfl,rfl,SqL.of kdx,hkn,rfl,_,rfl,eq_str (fun _=>?_) (fun _=>?_)⟩
 ·refine ⟨_,rfl,small (by simp),fun r6 hr6=>?_⟩
  exact k r6 (.surr y.n) _ (same_upd s0x (s0x.free hr6)) upd_same hyn
 exact ⟨_,rfl,k r rw' _ s0x (sx _ _ hr4) hok⟩
end
end M
namespace M
open PySem L2 PyProof.Rows
abbrev sPl:Stmt:=top 43
def OutA (q:Ad) (H H':Hp):Prop:=∀ c u,c ∉ [q.a1,q.a2,q.a3,q.a4,q.a5,q.l,q.h,q.o,q.d,q.kn]→H c = some u→H' c = some u
theorem OutA.refl {q:Ad} {H:Hp}:OutA q H H:=fun _ _ _ e=>e
theorem OutA.trans {q:Ad} {H H1 H2:Hp} (a:OutA q H H1) (b:OutA q H1 H2):OutA q H H2:=fun c u h e=>b c u h (a c u h e)
theorem OutA.same {q:Ad} {H H':Hp} (s:Same H H'):OutA q H H':=fun c u _ e=>s c u e
theorem OutL.all {q:Ad} {H H':Hp} (o:OutL q H H'):OutA q H H':=fun c u h e=>by
 simp only [List.mem_cons,List.not_mem_nil,or_false,not_or] at h
 exact o c u h.1 h.2.1 h.2.2.1 h.2.2.2.1 h.2.2.2.2.1 e
theorem OutB.all {q:Ad} {H H':Hp} (o:OutB q H H'):OutA q H H':=fun c u h e=>by
 simp only [List.mem_cons,List.not_mem_nil,or_false,not_or] at h
 exact o c u h.2.2.2.2.2.1 h.2.2.2.2.2.2.1 h.2.2.2.2.2.2.2.1 h.2.2.2.2.2.2.2.2.1 h.2.2.2.2.2.2.2.2.2 e
theorem outA_tup {C:Addr} {q:Ad} {H H':Hp} {es:List Est} {ks ls:List Str} {j:Nat} {r:Addr} {xs:List V} (R:Rel C q H es ks ls j) (o:OutA q H H') (h:H r = some (.tup xs)):H' r = some (.tup xs):=by
 refine o r _ ?_ h
 simp only [List.mem_cons,List.not_mem_nil,or_false,not_or]
 exact ⟨ne_of h R.L.l1 (by intro z;cases z),ne_of h R.L.l2 (by intro z;cases z),ne_of h R.L.l3 (by intro z;cases z),ne_of h R.L.l4 (by intro z;cases z),ne_of h R.L.l5 (by intro z;cases z),ne_of h R.B.l (by intro z;cases z),ne_of h R.B.h (by intro z;cases z),ne_of h R.B.o (by intro z;cases z),ne_of h R.B.d (by intro z;cases z),ne_of h R.B.k (by intro z;cases z)⟩
theorem outA_lst {C:Addr} {q:Ad} {H H':Hp} {es:List Est} {ks ls:List Str} {j:Nat} {r:Addr} {xs:List V} (R:Rel C q H es ks ls j) (o:OutA q H H') (h:H r = some (.lst xs)) (hn:r≠q.kn):H' r = some (.lst xs):=by
 refine o r _ ?_ h
 simp only [List.mem_cons,List.not_mem_nil,or_false,not_or]
 exact ⟨ne_of h R.L.l1 (by intro z;cases z),ne_of h R.L.l2 (by intro z;cases z),ne_of h R.L.l3 (by intro z;cases z),ne_of h R.L.l4 (by intro z;cases z),ne_of h R.L.l5 (by intro z;cases z),ne_of h R.B.l (by intro z;cases z),ne_of h R.B.h (by intro z;cases z),ne_of h R.B.o (by intro z;cases z),ne_of h R.B.d (by intro z;cases z),hn⟩
theorem out_book {q:Ad} {H H':Hp} {lo ho ow du:List (Key×V)} {ks:List Str} (ap:Ap q) (b:BQ q H lo ho ow du ks) (o:OutL q H H'):BQ q H' lo ho ow du ks:=by
 have g:∀ {c:Addr} {u:HO} (i:Nat),4 < i→[q.a1,q.a2,q.a3,q.a4,q.a5,q.B,q.l,q.h,q.o,q.d,q.kn,q.dd][i]? = some c→H c = some u→H' c = some u:=fun {c u} i hi hc e=>o c u (ap_ne ap i 0 hc rfl (by omega)) (ap_ne ap i 1 hc rfl (by omega)) (ap_ne ap i 2 hc rfl (by omega)) (ap_ne ap i 3 hc rfl (by omega)) (ap_ne ap i 4 hc rfl (by omega)) e
 exact ⟨g 5 (by decide) rfl b.b,b.vl,b.vh,b.vo,b.vd,b.vk,b.vx,g 6 (by decide) rfl b.l,g 7 (by decide) rfl b.h,g 8 (by decide) rfl b.o,g 9 (by decide) rfl b.d,g 10 (by decide) rfl b.k,g 11 (by decide) rfl b.x,b.len⟩
theorem out_land {C:Addr} {q:Ad} {H H':Hp} {es:List Est} {lo ho ow du:List (Key×V)} {ks:List Str} (ap:Ap q) (L:Ln C q H es) (b:BQ q H lo ho ow du ks) (o:OutB q H H'):Ln C q H' es:=by
 have g:∀ {c:Addr} {u:HO} (i:Nat),i < 5→[q.a1,q.a2,q.a3,q.a4,q.a5,q.B,q.l,q.h,q.o,q.d,q.kn,q.dd][i]? = some c→H c = some u→H' c = some u:=fun {c u} i hi hc e=>o c u (ap_ne ap i 6 hc rfl (by omega)) (ap_ne ap i 7 hc rfl (by omega)) (ap_ne ap i 8 hc rfl (by omega)) (ap_ne ap i 9 hc rfl (by omega)) (ap_ne ap i 10 hc rfl (by omega)) e
 refine ⟨o _ _ ?_ ?_ ?_ ?_ ?_ L.o,g 0 (by decide) rfl L.l1,g 1 (by decide) rfl L.l2,g 2 (by decide) rfl L.l3,g 3 (by decide) rfl L.l4,g 4 (by decide) rfl L.l5⟩
 ·exact ne_of L.o b.l (by intro z;cases z)
 ·exact ne_of L.o b.h (by intro z;cases z)
 ·exact ne_of L.o b.o (by intro z;cases z)
 ·exact ne_of L.o b.d (by intro z;cases z)
 ·exact ne_of L.o b.k (by intro z;cases z)
theorem rel_step {C:Addr} {q:Ad} {H H1 H2:Hp} {es:List Est} {ks ls:List Str} {j:Nat} {rw':Rw} {y:Est} {t1 t2 b1 b2:Addr} (R:Rel C q H es ks ls j) (hst:Stands es ks y rw') (hok:rw'.Ok ls) (hls:∀ n∈ls,n≠""∧PyData.strOk n = true)
  (hL:∀ b1 b2,Ln C q H1 (stp y es t1 t2 b1 b2 rw')) (f1:FrN y t1 t2 H1 rw') (o1:OutL q H H1) (hB:∀ t1 t2,Bk q H2 (stp y es t1 t2 b1 b2 rw') (stK ks rw')) (f2:FrN y b1 b2 H2 rw') (o2:OutB q H1 H2) :
  Rel C q H2 (stp y es t1 t2 b1 b2 rw') (stK ks rw') ls (j + 1):=by
 obtain ⟨w1,w2,w3,w4⟩:=stp_wf (t1:=t1) (t2:=t2) (b1:=b1) (b2:=b2) R hst hok hls
 have bk1:=out_book R.ap R.B o1
 refine ⟨R.ap,out_land R.ap (hL b1 b2) bk1 o2,hB t1 t2,w1,?_,w2,w3,w4,stp_nl R hok,(stp_tot R.W hst hok).trans R.tot⟩
 have old:∀ y0∈es,Fr2 H2 y0.ta y0.due.1 y0.due.2∧Fr2 H2 y0.tb y0.due.1 y0.due.2∧Bd (10 + 5 * (j + 1)) y0.due:=fun y0 h0=>by
  obtain ⟨g1,g2,g3⟩:=R.fr y0 h0
  exact ⟨out_tup bk1 o2 (outA_tup R o1.all g1),out_tup bk1 o2 (outA_tup R o1.all g2),g3.mono (by omega)⟩
 cases rw' with
 | grant e n m a s =>
  obtain ⟨hy,rfl,hn,ha⟩:=hst
  obtain ⟨h1,h2,h3,h4,h5⟩:=hok
  intro z hz
  rcases List.mem_append.mp hz with c | c
  ·obtain ⟨y0,h0,rfl⟩:=mem_mod c
   have:=old y0 h0
   split
   ·exact this
   ·exact this
  ·rw [List.mem_singleton.mp c]
   refine ⟨out_tup bk1 o2 f1,f2,?_⟩
   show Bd _ (s,1)
   have hp:10 ^ 5≤10 ^ (10 + 5 * (j + 1)):=Nat.pow_le_pow_right (by decide) (by omega)
   refine ⟨Nat.lt_of_lt_of_le ?_ hp,by show (0:Int) < 1;decide,Nat.lt_of_lt_of_le ?_ hp⟩
   ·show s.natAbs < 10 ^ 5
    omega
   ·show (1:Int).natAbs < 10 ^ 5
    decide
 | part e n m a =>
  obtain ⟨hy,rfl,hn,ha⟩:=hst
  obtain ⟨h1,h2,h3,h4⟩:=hok
  obtain ⟨f1a,f1b⟩:=f1
  obtain ⟨f2a,f2b⟩:=f2
  obtain ⟨_,_,bd⟩:=R.fr y hy
  have bb:=R.W.bnd y hy
  have ob:=R.W.own_le y hy
  have hB0:0 < y.due.2 * y.br:=Int.mul_pos bd.2.1 (by omega)
  have e5:10 + 5 * j + 5 = 10 + 5 * (j + 1):=by omega
  have m2:=mul_lt (f:=5) bd.2.2 (show y.br.natAbs < 10 ^ 5 by omega)
  have m1:=mul_lt (f:=5) bd.1 (show a.natAbs < 10 ^ 5 by omega)
  have m3:=mul_lt (f:=5) bd.1 (show (y.br - a).natAbs < 10 ^ 5 by omega)
  rw [e5] at m1 m2 m3
  intro z hz
  rcases List.mem_append.mp hz with c | c
  ·obtain ⟨y0,h0,rfl⟩:=mem_mod c
   split
   ·rename_i hc
    obtain rfl:=eq_of_n R.W.nd h0 hy hc
    exact ⟨out_tup bk1 o2 f1b,f2b,frt_bd hB0 m3 m2⟩
   ·exact old y0 h0
  ·rw [List.mem_singleton.mp c]
   exact ⟨out_tup bk1 o2 f1a,f2a,frt_bd hB0 m1 m2⟩
 | convey e m =>
  intro z hz
  obtain ⟨y0,h0,rfl⟩:=mem_mod hz
  have:=old y0 h0
  split
  ·exact this
  ·exact this
 | surr e =>
  intro z hz
  obtain ⟨y0,h0,rfl⟩:=List.mem_map.mp hz
  exact old y0 (List.mem_filter.mp h0).1
theorem PlAt.out {C:Addr} {q:Ad} {H H':Hp} {es:List Est} {ks ls':List Str} {j:Nat} {r m la:Addr} {ms ls:List Str} {wd:Int} (R:Rel C q H es ks ls' j) (o:OutA q H H') (p:PlAt H r m la ms ls wd) (h1:m≠q.kn) (h2:la≠q.kn):PlAt H' r m la ms ls wd :=
 ⟨outA_tup R o p.r,outA_lst R o p.m h1,outA_lst R o p.la h2,p.lm,p.ll,p.nm,p.om,p.ol,p.w1,p.w2⟩
def spPl (C:Addr):Sp:=fun vs H Q _=>∃ q es ks j,∃ (p m la fa kd:Addr) (ms ls kl:List Str) (wd at_ many:Int) (fs:List Int),vs = [.ref q.x,.ref q.B,.ref p,.ref fa,.int at_,.int many,.ref kd]∧Rel C q H es ks ls j∧PlAt H p m la ms ls wd∧H fa = some (.lst (fs.map V.int))∧(∀ v∈fs,Okn v)∧H kd = some (.lst (kl.map V.str))∧0 < kl.length∧kl.length≤100∧m≠q.kn∧la≠q.kn∧fa≠q.kn∧kd≠q.kn ∧
 0≤at_∧0≤many∧at_ + 8 * many≤fs.length∧fs.length≤1000∧j + many.toNat≤50∧∀ es' ks' H',Rel C q H' es' ks' ls (j + many.toNat)→OutA q H H'→Q (.bl true) H'
section
variable {P:Program} {w:World} {K:PySem.W.Frag} {mg:Str→Option Value} {base:Heap} {f C:Addr} {fd:FuncData}
theorem scPl:FnScope ["_law_land", "_law_book_here", "_law_pools_here", "_law_feed_here", "_law_at", "_law_many", "_law_kinds", "_law_k", "_law_row_here"] ["_law_land", "_law_book_here", "_law_pools_here", "_law_feed_here", "_law_at", "_law_many", "_law_kinds"] (defScope sPl):=⟨rfl,rfl,rfl,by decide +kernel,rfl,by decide +kernel,by decide +kernel⟩
set_option maxHeartbeats 16000000 in
theorem ok_pl (F:Fun K "_law_played" "_law_played" sPl f fd) (mr:mg "range" = none) {g1 g2 g3 g4:Addr} {d1 d2 d3 d4:FuncData}
  (G1:FnOk P w K mg base CX0 6 g1 d1 ["_law_book_here", "_law_pools_here", "_law_d", "_law_kinds"] (spStr K)) (M1:Ms K mg "_law_steered" g1 d1 ["_law_book_here", "_law_pools_here", "_law_d", "_law_kinds"])
  (G2:FnOk P w K mg base CX0 2 g2 d2 ["_law_book_here", "_law_row_here"] spLet) (M2:Ms K mg "_law_let_by" g2 d2 ["_law_book_here", "_law_row_here"])
  (G3:FnOk P w K mg base CX0 5 g3 d3 ["_law_land", "_law_row_here"] (spLdo C)) (M3:Ms K mg "_law_land_do" g3 d3 ["_law_land", "_law_row_here"])
  (G4:FnOk P w K mg base CX0 3 g4 d4 ["_law_book_here", "_law_row_here"] spDo) (M4:Ms K mg "_law_do" g4 d4 ["_law_book_here", "_law_row_here"]) :
  FnOk P w K mg base CX0 7 f fd ["_law_land", "_law_book_here", "_law_pools_here", "_law_feed_here", "_law_at", "_law_many", "_law_kinds"] (spPl C):=by
 refine F.ok scPl (fun vs H Q E h=>?_) (fun cdv A outer s H vs Q E hr h=>?_)
 ·obtain ⟨q,es,ks,j,p,m,la,fa,kd,mz,ls,kl,wd,at_,many,fs,rfl,_⟩:=h
  rfl
 obtain ⟨q,es,ks,j,p,m,la,fa,kd,mz,ls,kl,wd,at_,many,fs,rfl,R0,pl0,hfa0,hfo,hkd0,hk0,hk1,nm,nla,nfa,nkd,ha0,hm0,ham,hfl,hj,k⟩:=h
 have G2:=FnOk.mono (k:=6) G2 (by omega)
 have G3:=FnOk.mono (k:=6) G3 (by omega)
 have G4:=FnOk.mono (k:=6) G4 (by omega)
 refine ⟨_,(pss_cons (ps_for PassesOwn.never rfl (pi_range1 rfl mr (pa_cons (pv 5) pa_nil)) (pg_name (i:=7) scPl.nd rfl (Or.inl rfl)) (pss_cons (ps_set (i:=8) scPl.nd rfl (Or.inl rfl) (pe_call G1 hr rfl M1.m M1.k M1.b .nil pass0 (pa_cons (pv 1) (pa_cons (pv 2) (pa_cons (pe_slice sl_list (pv 3) (po_some (pe_op op_add (pv 4) (pe_op op_mul pe_int (pv 7)))) (po_some (pe_op op_add (pe_op op_add (pv 4) (pe_op op_mul pe_int (pv 7))) pe_int))) (pa_cons (pv 6) pa_nil))))))
  (pss_one (ps_if (pt_val (pe_call G2 hr rfl M2.m M2.k M2.b .nil pass0 (pa_cons (pv 1) (pa_cons (pv 8) pa_nil)))) (pss_cons (ps_if (pt_cmpR op_notN (pe_call G3 hr rfl M3.m M3.k M3.b .nil pass0 (pa_cons (pv 0) (pa_cons (pv 8) pa_nil))) pe_non (nomark _)) pss_never pss_nil)
  (pss_one (ps_expr (pe_call G4 hr rfl M4.m M4.k M4.b .nil pass0 (pa_cons (pv 1) (pa_cons (pv 8) pa_nil)))))) pss_nil))))
  (pss_one (ps_ret pe_bl))),?_⟩
 have hls:∀ n∈ls,n≠""∧PyData.strOk n = true:=fun n hn=>(pl0.ol n hn).ne
 refine ⟨_,rfl,many,rfl,by omega,by omega,?_⟩
 refine for_range (lo:=0) (n:=many.toNat) (fun i σ Hx=>∃ (es':List Est) (ks':List Str) (u7 u8:Option V),σ = [some (.ref q.x),some (.ref q.B),some (.ref p),some (.ref fa),some (.int at_),some (.int many),some (.ref kd),u7,u8]∧Rel C q Hx es' ks' ls (j + i)∧OutA q H Hx) ⟨es,ks,none,none,rfl,R0,OutA.refl⟩ ?_ ?_
 ·rintro i σ Hx hi ⟨es',ks',u7,u8,rfl,R,ox⟩
  have pl:=pl0.out R0 ox nm nla
  have hfa:=outA_lst R0 ox hfa0 nfa
  have hkd:=outA_lst R0 ox hkd0 nkd
  have ln:=R.ten pl0.ll
  have lk:=R.lk
  refine ⟨_,rfl,_,rfl,_,rfl,_,rfl,_,rfl,_,_,rfl,rfl,.inl ⟨by decide,by decide⟩,_,_,rfl,rfl,_,rfl,_,rfl,_,rfl,_,_,rfl,rfl,.inl ⟨by decide,by decide⟩,_,_,rfl,rfl,_,_,rfl,rfl,_,rfl,fa,_,rfl,SqL.of hfa,fun c1 hc1=>?_⟩
  have ec:cutV (fs.map V.int) (some (at_ + 8 * (0 + (i:Int)))) (some (at_ + 8 * (0 + (i:Int)) + 8)) = ((fs.drop (at_.toNat + 8 * i)).take 8).map V.int:=by
   have x1:at_ + 8 * (0 + (i:Int)) = ((at_.toNat + 8 * i:Nat):Int):=by omega
   have x2:at_ + 8 * (0 + (i:Int)) + 8 = ((at_.toNat + 8 * i + 8:Nat):Int):=by omega
   rw [x2,x1,cut_feed (by omega) (by omega)]
   congr 2
   omega
  rw [ec]
  have dl:((fs.drop (at_.toNat + 8 * i)).take 8).length = 8:=by rw [List.length_take,List.length_drop];omega
  have s1:=same_new hc1 (.lst (((fs.drop (at_.toNat + 8 * i)).take 8).map V.int))
  have k1:(upd Hx c1 (.lst (((fs.drop (at_.toNat + 8 * i)).take 8).map V.int))) c1 = some (.lst (((fs.drop (at_.toNat + 8 * i)).take 8).map V.int)):=upd_same
  generalize upd Hx c1 (.lst (((fs.drop (at_.toNat + 8 * i)).take 8).map V.int)) = H1 at s1 k1 ⊢
  refine ⟨_,rfl,q,es',ks',p,c1,m,la,kd,mz,ls,kl,wd,_,rfl,R.ap,R.B.same s1,R.W,by omega,pl.same s1,SqL.of k1,dl,cut_ok hfo,s1 _ _ hkd,hk0,hk1,fun r rw' H2 s2 hr2 hok=>?_⟩
  have s02:=s1.trans s2
  have R2:=R.same s02
  refine ⟨_,rfl,_,rfl,q,es',ks',r,rw',rfl,R2.ap,R2.B,R2.W.nd,hr2,fun b H3 s3 hb=>⟨_,rfl,?_⟩⟩
  have s03:=s02.trans s3
  have R3:=R.same s03
  have hr3:=s3 _ _ hr2
  cases b with
  | false =>
   refine iteF ?_
   exact ⟨es',ks',_,_,rfl,(R3.up (by omega)),ox.trans (OutA.same s03)⟩
  | true =>
   obtain ⟨y,hst⟩:=hb rfl
   refine iteT ?_
   refine ⟨_,rfl,_,rfl,q,es',ks',ls,j + i,r,rw',y,rfl,R3,hr3,hst,hok,hls,by omega,fun t1 t2 H4 hL f1 o1=>?_⟩
   refine ⟨rfl,_,rfl,iteF ?_⟩
   have hr4:=outA_tup R3 o1.all hr3
   have b4:=out_book R3.ap R3.B o1
   have hyes:y∈es':=by cases rw' <;> exact hst.1
   obtain ⟨g1,g2,g3⟩:=R3.fr y hyes
   have hnew:∀ n,n∈ls→n ∉ ks'→n ∉ nms es':=fun n hn hk=>R3.new hk (hls n hn).1
   refine ⟨_,rfl,_,rfl,q,es',ks',r,rw',y,rfl,R3.ap,b4,R3.W,outA_tup R3 o1.all g2,g3.mono (by omega),hr4,hst,?_,?_,?_,by omega,by omega,fun c1 c2 H5 hB f2 o2=>?_⟩
   ·rintro e n mm a s rfl
    exact hnew n hok.1 hst.2.2.1
   ·rintro e n mm a rfl
    exact ⟨hnew n hok.1 hst.2.2.1,hok.2.1,hok.2.2.1,hok.2.2.2⟩
   ·rintro e rfl
    exact hok
   ·exact ⟨_,_,_,_,rfl,rel_step R3 hst hok hls hL f1 o1 hB f2 o2,(ox.trans (OutA.same s03)).trans (o1.all.trans o2.all)⟩
 ·rintro σ Hx ⟨es',ks',u7,u8,rfl,R,ox⟩
  exact k es' ks' Hx R ox
end
end M
namespace M
open PySem L2 PyProof.Rows
abbrev sLaw:Stmt:=top 44
def kindsL:List Str:=["grant", "part", "convey", "surrender"]
def spLaw (K:PySem.W.Frag):Sp:=fun vs H Q _=>∃ (a:Addr) (ns:List Int),vs = [.ref a]∧SqL K H a (ns.map V.int)∧ns.length≤63∧∀ H',Q (.bl true) H'
theorem ne_none {H:Hp} {a b:Addr} {o:HO} (h:H a = some o) (h2:H b = none):a≠b:=fun q=>by rw [q,h2] at h;cases h
def ownOf (es:List Est) (n:Str):Int:=((es.find? fun e=>decide (e.n = n)).map (·.own)).getD 0
theorem ownOf_e {es:List Est} (nd:(nms es).Nodup) {e:Est} (he:e∈es):ownOf es e.n = e.own:=by unfold ownOf;rw [find_e nd he];rfl
theorem names_all {es:List Est} (W:WF es) {ss:List Str} (h:ss.Perm ((es.filter fun y=>!decide (y.n = ("" : Str))).map (·.n))):(("" : Str) :: ss).Perm (nms es):=by
 obtain ⟨c,r,rfl,hc,hl,ho⟩:=W.hd
 have nd':=List.nodup_cons.mp W.nd
 have e1:((c :: r).filter fun y=>!decide (y.n = ("" : Str))) = r:=by
  rw [List.filter_cons_of_neg (by simp [hc])]
  refine List.filter_eq_self.mpr fun y hy=>?_
  have:y.n≠"":=fun z=>nd'.1 (show c.n∈nms r by rw [hc,← z];exact List.mem_map.mpr ⟨y,hy,rfl⟩)
  simp [this]
 rw [e1] at h
 show List.Perm _ (c.n :: nms r)
 rw [hc]
 exact (List.perm_cons _).mpr h
theorem own_sum {es:List Est} (W:WF es) {xs:List Str} (h:xs.Perm (nms es)):(xs.map (ownOf es)).sum = (es.map (·.own)).sum:=by
 rw [perm_sum (h.map _),List.map_map]
 exact sum_same fun y hy=>ownOf_e W.nd hy
theorem ch_mem {es:List Est} (W:WF es) {e:Str} {l:List Str} (h:Ch (loL es) e l):e∈nms es→(∀ x∈l,x∈nms es)∧∃ l0,l = l0++[("" : Str)]:=by
 induction h with
 | @crown e hv =>
  intro he
  obtain ⟨y,hy,rfl⟩:=mem_nms he
  have:y.n = "":=by
   refine Classical.byContradiction fun c=>?_
   obtain ⟨p,hp,_⟩:=W.lord y hy c
   rw [val_kv W.nd hy,hp] at hv
   cases hv
  refine ⟨fun x hx=>by rw [List.mem_singleton.mp hx];exact he,[],by rw [this];rfl⟩
 | @up e p l hv _ ih =>
  intro he
  obtain ⟨y,hy,rfl⟩:=mem_nms he
  have hpm:p∈nms es:=by
   by_cases c:y.n = ""
   ·rw [val_kv W.nd hy,W.crown y hy c] at hv
    cases hv
   ·obtain ⟨p',hp,hm,_⟩:=W.lord y hy c
    rw [val_kv W.nd hy,hp] at hv
    injection hv with hv
    injection hv with hv
    rw [← hv];exact hm
  obtain ⟨h1,l0,rfl⟩:=ih hpm
  refine ⟨fun x hx=>?_,y.n :: l0,rfl⟩
  rcases List.mem_cons.mp hx with z | z
  ·rw [z];exact he
  ·exact h1 x z
theorem allS_full {l:List Str} (h:l.Nodup):(allS l).length = l.length :=
 Nat.le_antisymm (allS_len l) (sub_len h fun x hx=>allS_mem.mpr hx)
theorem strs_refl:∀ ss:List Str,PyData.eqv (.list (ss.map .str)) (.list (ss.map .str)) = true:=by
 intro ss
 have key:∀ ss:List Str,PyData.eqvAll (ss.map PyData.str) (ss.map PyData.str) = true:=by
  intro ss
  induction ss with
  | nil=>simp [PyData.eqvAll]
  | cons x r ih=>simp [PyData.eqvAll,PyData.eqv,ih]
 simpa [PyData.eqv] using key ss
section
variable {P:Program} {w:World} {K:PySem.W.Frag} {mg:Str→Option Value} {base:Heap} {f C:Addr} {fd:FuncData}
theorem scLaw:FnScope ["_law_script", "_law_feed_here", "_law_pools_here", "_law_land", "_law_book_here", "_law_k", "_law_names_here", "_law_estate", "_law_chain_here", "_law_below"] ["_law_script"] (defScope sLaw):=⟨rfl,rfl,rfl,by decide +kernel,rfl,by decide +kernel,by decide +kernel⟩
def scLw1:Scope:={ kind:=.function,names:=[(".0",.local),("_law_estate",.local),("_law_land",.free)],isGenerator:=false,isCoroutine:=false }
theorem csLw1:CScope ["_law_script", "_law_feed_here", "_law_pools_here", "_law_land", "_law_book_here", "_law_k", "_law_names_here", "_law_estate", "_law_chain_here", "_law_below"] (defScope sLaw) scLw1 ["_law_estate"] ["_law_land"] [3]:=⟨rfl,by decide +kernel,by decide +kernel,by decide +kernel,rfl,by decide +kernel⟩
theorem ndLw1:((["_law_estate"]:List Str)++(["_law_land"]:List Str)).Nodup:=by decide +kernel
def scLw2:Scope:={ kind:=.function,names:=[(".0",.local),("_law_one",.local),("_law_land",.free)],isGenerator:=false,isCoroutine:=false }
theorem csLw2:CScope ["_law_script", "_law_feed_here", "_law_pools_here", "_law_land", "_law_book_here", "_law_k", "_law_names_here", "_law_estate", "_law_chain_here", "_law_below"] (defScope sLaw) scLw2 ["_law_one"] ["_law_land"] [3]:=⟨rfl,by decide +kernel,by decide +kernel,by decide +kernel,rfl,by decide +kernel⟩
theorem ndLw2:((["_law_one"]:List Str)++(["_law_land"]:List Str)).Nodup:=by decide +kernel
theorem rel_start {H:Hp} {q:Ad} {n:Int} {t u:Addr} {ls:List Str} (ap:Ap q) (L:LandAt C H q.x q.dx q.a1 q.a2 q.a3 q.a4 q.a5 (one0 .non) (one0 (.str "")) (one0 (.int n)) (one0 (.ref t)) (one0 (.int n))) (b:BQ q H (one0 .non) (one0 (.str "")) (one0 (.int n)) (one0 (.ref u)) []) (h1:1≤n) (h2:n≤9999) (ft:Fr2 H t 0 1) (fu:Fr2 H u 0 1) (hw:q.wd = n) :
  Rel C q H [⟨"",none, "",n,n,(0,1),t,u⟩] [] ls 0:=by
 refine ⟨ap,L,b,⟨by simp,⟨_,[],rfl,rfl,rfl,True.intro⟩,?_,?_,?_⟩,?_,?_,by simp,by simp,?_,?_⟩
 ·intro e he
  rw [List.mem_singleton.mp he]
  exact ⟨by show (0:Int)≤n;omega,by show (0:Int)≤n;omega,h2⟩
 ·intro e he
  rw [List.mem_singleton.mp he]
  have e0:Sb [(⟨"",none, "",n,n,(0,1),t,u⟩:Est)] "" = 0:=by unfold Sb;simp
  show n = n + Sb [(⟨"",none, "",n,n,(0,1),t,u⟩:Est)] ""
  rw [e0];omega
 ·intro e he
  rw [List.mem_singleton.mp he]
  show PyData.strOk "" = true
  decide +kernel
 ·intro e he
  rw [List.mem_singleton.mp he]
  refine ⟨ft,fu,?_⟩
  show Bd 10 (0,1)
  exact ⟨by show (0:Int).natAbs < 10 ^ 10;decide,by show (0:Int) < 1;decide,by show (1:Int).natAbs < 10 ^ 10;decide⟩
 ·intro e he hne
  rw [List.mem_singleton.mp he] at hne
  exact absurd rfl hne
 ·intro e he
  rw [List.mem_singleton.mp he]
  exact .inl rfl
 ·rw [hw]
  show n + 0 = n
  omega
set_option maxHeartbeats 16000000 in
theorem ok_law (T:LandC K C) (F:Fun K "law" "law" sLaw f fd) (mr:mg "range" = none) (mn:mg "len" = none) (mse:mg "set" = none) (msum:mg "sum" = none) (mL:mg "Land" = some (.ref C)) {g1 g2 g3 g4 g5 g6 g7 g8 g9 g10 g11 g12:Addr} {d1 d2 d3 d4 d5 d6 d7 d8 d9 d10 d11 d12:FuncData} (MK:Mk K C g3)
  (G1:FnOk P w K mg base CX0 1 g1 d1 ["_law_script", "_law_many"] (spFeed K)) (M1:Ms K mg "_law_feed" g1 d1 ["_law_script", "_law_many"])
  (G2:FnOk P w K mg base CX0 2 g2 d2 ["_law_feed_here"] (spPools K)) (M2:Ms K mg "_law_pools" g2 d2 ["_law_feed_here"])
  (G3:FnOk P w K mg base CX0 3 g3 d3 ["self", "acres"] (spInit C)) (b3:Binds K d3 ["self", "acres"] [])
  (G4:FnOk P w K mg base CX0 1 g4 d4 ["_law_acres"] spBook) (M4:Ms K mg "_law_book" g4 d4 ["_law_acres"])
  (G5:FnOk P w K mg base CX0 7 g5 d5 ["_law_land", "_law_book_here", "_law_pools_here", "_law_feed_here", "_law_at", "_law_many", "_law_kinds"] (spPl C)) (M5:Ms K mg "_law_played" g5 d5 ["_law_land", "_law_book_here", "_law_pools_here", "_law_feed_here", "_law_at", "_law_many", "_law_kinds"])
  (G6:FnOk P w K mg base CX0 5 g6 d6 ["_law_land", "_law_book_here"] (spLi C)) (M6:Ms K mg "_law_land_is" g6 d6 ["_law_land", "_law_book_here"])
  (G7:FnOk P w K mg base CX0 1 g7 d7 ["self"] (spEstates C)) (m7:Meth K C "estates" g7) (b7:Binds K d7 ["self"] [])
  (G8:FnOk P w K mg base CX0 3 g8 d8 ["self", "estate"] (spOwn C)) (m8:Meth K C "own" g8) (b8:Binds K d8 ["self", "estate"] [])
  (G9:FnOk P w K mg base CX0 3 g9 d9 ["self", "estate"] (spUnder C)) (m9:Meth K C "under" g9) (b9:Binds K d9 ["self", "estate"] [])
  (G10:FnOk P w K mg base CX0 3 g10 d10 ["self", "estate"] (spBreadth C)) (m10:Meth K C "breadth" g10) (b10:Binds K d10 ["self", "estate"] [])
  (G11:FnOk P w K mg base CX0 3 g11 d11 ["self", "estate"] (spChain C)) (m11:Meth K C "chain" g11) (b11:Binds K d11 ["self", "estate"] [])
  (G12:FnOk P w K mg base CX0 3 g12 d12 ["self", "estate"] (spLord C)) (m12:Meth K C "lord" g12) (b12:Binds K d12 ["self", "estate"] []) :
  FnOk P w K mg base CX0 8 f fd ["_law_script"] (spLaw K):=by
 refine F.ok scLaw (fun vs H Q E h=>?_) (fun cdv A outer s H vs Q E hr h=>?_)
 ·obtain ⟨a,ns,rfl,_⟩:=h
  rfl
 obtain ⟨sA,ns,rfl,hS,h63,kk⟩:=h
 have hr1:Room 1 _:=hr.mono (by decide)
 have hr2:Room 2 _:=hr.mono (by decide)
 have hr3:Room 3 _:=hr.mono (by decide)
 have hr4:Room 4 _:=hr.mono (by decide)
 have hr5:Room 5 _:=hr.mono (by decide)
 refine ⟨_,(pss_cons (ps_set (i:=1) scLaw.nd rfl (Or.inl rfl) (pe_call G1 hr1 rfl M1.m M1.k M1.b .nil pass0 (pa_cons (pv 0) (pa_cons pe_int pa_nil))))
  (pss_cons (ps_set (i:=2) scLaw.nd rfl (Or.inl rfl) (pe_call G2 hr2 rfl M2.m M2.k M2.b .nil pass0 (pa_cons (pv 1) pa_nil)))
  (pss_cons (ps_set (i:=3) scLaw.nd rfl (Or.inr rfl) (pe_make MK G3 hr4 rfl mL b3 .nil pass0 (pa_cons (pe_ix ix_tup (pv 2) pe_int (fun _ _=>rfl)) pa_nil)))
  (pss_cons (ps_set (i:=4) scLaw.nd rfl (Or.inl rfl) (pe_call G4 hr1 rfl M4.m M4.k M4.b .nil pass0 (pa_cons (pe_ix ix_tup (pv 2) pe_int (fun _ _=>rfl)) pa_nil)))
  (pss_cons (ps_for PassesOwn.never rfl (pi_range1 rfl mr (pa_cons (pe_op op_mod (pe_ix ix_list (pv 1) pe_int (fun _ _=>rfl)) pe_int) pa_nil)) (pg_name (i:=5) scLaw.nd rfl (Or.inl rfl)) (pss_cons (ps_if (pt_not (pt_val (pe_call G5 hr rfl M5.m M5.k M5.b .nil pass0 (pa_cons (pv 3) (pa_cons (pv 4) (pa_cons (pv 2) (pa_cons (pv 1) (pa_cons (pe_op op_add pe_int (pe_op op_mul pe_int (pv 5))) (pa_cons pe_int (pa_cons (pe_lst (pa_cons pe_str (pa_cons pe_str (pa_cons pe_str (pa_cons pe_str pa_nil))))) pa_nil)))))))))) pss_never pss_nil)
  (pss_one (ps_if (PW.pt (pw_and (pt_cmpR op_eq (pe_op op_mod (pe_ix ix_list (pv 1) (pe_op op_add pe_int (pe_op op_mul pe_int (pv 5))) (fun _ _=>rfl)) pe_int) pe_int (nomark _)) (pw_and1 (pt_not (pt_val (pe_call G6 hr5 rfl M6.m M6.k M6.b .nil pass0 (pa_cons (pv 3) (pa_cons (pv 4) pa_nil)))))))) pss_never pss_nil))))
  (pss_cons (ps_set (i:=6) scLaw.nd rfl (Or.inl rfl) (pe_op op_cat (pe_lst (pa_cons pe_str pa_nil)) (pe_meth0 (pv 3) T.cl m7 G7 hr1 b7 .nil pass0)))
  (pss_cons (ps_if (pt_cmpR op_ne (pe_callB (call_sum hr.hd) rfl msum bt_sum (pa_cons (pe_comp rfl csLw1 (pi_list (pv 6)) (fun s H fp C'=>⟨pg_name (i:=0) ndLw1 rfl (Or.inl rfl),pts_nil,(pe_meth (pv 1) T.cl m8 G8 hr3 b8 .nil pass0 (pa_cons (pv 0) pa_nil))⟩)) pa_nil)) (pe_ix ix_tup (pv 2) pe_int (fun _ _=>rfl)) (nomark _)) pss_never pss_nil)
  (pss_cons (ps_for PassesOwn.never rfl (pi_list (pv 6)) (pg_name (i:=7) scLaw.nd rfl (Or.inl rfl)) (pss_cons (ps_set (i:=8) scLaw.nd rfl (Or.inl rfl) (pe_meth (pv 3) T.cl m11 G11 hr3 b11 .nil pass0 (pa_cons (pv 7) pa_nil)))
  (pss_cons (ps_set (i:=9) scLaw.nd rfl (Or.inl rfl) (pe_callB (call_sum hr.hd) rfl msum bt_sum (pa_cons (pe_comp rfl csLw2 (pi_list (pe_meth (pv 3) T.cl m9 G9 hr3 b9 .nil pass0 (pa_cons (pv 7) pa_nil))) (fun s H fp C'=>⟨pg_name (i:=0) ndLw2 rfl (Or.inl rfl),pts_nil,(pe_meth (pv 1) T.cl m10 G10 hr3 b10 .nil pass0 (pa_cons (pv 0) pa_nil))⟩)) pa_nil)))
  (pss_cons (ps_if (PW.pt (pw_or (pt_cmpR op_ne (pe_ix ix_list (pv 8) (pe_un un_neg pe_int) (fun _ _=>rfl)) pe_str (nomark _)) (pw_or (pt_cmpR op_ne (pe_callB call_lenS rfl mn PySem.boot_len (pa_cons (pe_callTy (call_setTs hr.hd) rfl mse bt_set (pa_cons (pv 8) pa_nil)) pa_nil)) (pe_callB call_len_seq rfl mn PySem.boot_len (pa_cons (pv 8) pa_nil)) (nomark _)) (pw_or1 (pt_cmpR op_ne (pe_meth (pv 3) T.cl m10 G10 hr3 b10 .nil pass0 (pa_cons (pv 7) pa_nil)) (pe_op op_add (pe_meth (pv 3) T.cl m8 G8 hr3 b8 .nil pass0 (pa_cons (pv 7) pa_nil)) (pv 9)) (nomark _)))))) pss_never pss_nil)
  (pss_one (ps_if (PW.pt (pw_and (pt_cmpR op_ne (pv 7) pe_str (nomark _)) (pw_and1 (pt_cmpR (op_neD hr.units) (pe_slice sl_list (pv 8) (po_some pe_int) po_none) (pe_meth (pv 3) T.cl m11 G11 hr3 b11 .nil pass0 (pa_cons (pe_meth (pv 3) T.cl m12 G12 hr3 b12 .nil pass0 (pa_cons (pv 7) pa_nil)) pa_nil)) (nomark _))))) pss_never pss_nil))))))
  (pss_one (ps_ret (pe_call G6 hr5 rfl M6.m M6.k M6.b .nil pass0 (pa_cons (pv 3) (pa_cons (pv 4) pa_nil))))))))))))),?_⟩
 refine ⟨_,rfl,sA,ns,230,rfl,hS,h63,by decide,by decide,fun fa H1 fs s1 hfa0 hfa1 hfl hfo=>?_⟩
 have hl:fs.length = 230:=by omega
 obtain ⟨f0,e0,o0⟩:=fs_at hfo (i:=0) (by decide) (by omega)
 obtain ⟨o0a,o0b⟩:=o0
 refine ⟨_,rfl,fa,fs,rfl,SqL.of hfa1,by omega,hfo,fun p m la mz ls wd H2 s2 pl=>?_⟩
 have hfa2:=s2 _ _ hfa1
 refine ⟨_,rfl,p,_,_,_,rfl,rfl,SqT.of pl.r,atI_nat (j:=2) rfl,?_⟩
 intro x dx hx hdx hxd
 refine ⟨x,dx,wd,rfl,upd_same,pl.w1,pl.w2,fun a1 a2 a3 a4 a5_ t H3 fr L a5 _ _ _ _ _ _ ft=>⟨rfl,?_⟩⟩
 have s3:Same H2 H3:=fun c u e=>by
  have c1:c≠x:=ne_none e hx
  have c2:c≠dx:=ne_none e hdx
  exact fr c u c1 (by rw [upd_ne c1,upd_ne c2];exact e)
 have ln1:=L.l1
 have ln2:=L.l2
 have ln3:=L.l3
 have ln4:=L.l4
 have ln5:=L.l5
 have pl3:=pl.same s3
 have hfa3:=s3 _ _ hfa2
 refine ⟨_,rfl,p,_,_,_,rfl,rfl,SqT.of pl3.r,atI_nat (j:=2) rfl,wd,rfl,fun B l h o d kn dd u kvs H4 s4 nB nl nh no nd nkn ndd nu ap5 nkd bk fu=>?_⟩
 have ap:Ap ⟨x,dx,a1,a2,a3,a4,a5_,B,l,h,o,d,kn,dd,kvs,wd⟩:=by
  simp only [Ap,List.nodup_cons,List.mem_cons,List.not_mem_nil,or_false,not_or,List.nodup_nil,and_true,not_false_eq_true]
  exact ⟨⟨a5.n12,a5.n13,a5.n14,a5.n15,ne_none ln1 nB,ne_none ln1 nl,ne_none ln1 nh,ne_none ln1 no,ne_none ln1 nd,ne_none ln1 nkn,ne_none ln1 ndd⟩,⟨a5.n23,a5.n24,a5.n25,ne_none ln2 nB,ne_none ln2 nl,ne_none ln2 nh,ne_none ln2 no,ne_none ln2 nd,ne_none ln2 nkn,ne_none ln2 ndd⟩,⟨a5.n34,a5.n35,ne_none ln3 nB,ne_none ln3 nl,ne_none ln3 nh,ne_none ln3 no,ne_none ln3 nd,ne_none ln3 nkn,ne_none ln3 ndd⟩,⟨a5.n45,ne_none ln4 nB,ne_none ln4 nl,ne_none ln4 nh,ne_none ln4 no,ne_none ln4 nd,ne_none ln4 nkn,ne_none ln4 ndd⟩,⟨ne_none ln5 nB,ne_none ln5 nl,ne_none ln5 nh,ne_none ln5 no,ne_none ln5 nd,ne_none ln5 nkn,ne_none ln5 ndd⟩,⟨ap5.n12,ap5.n13,ap5.n14,ap5.n15,ne_of bk.b bk.k (by intro z;cases z),ne_of bk.b bk.x (by intro z;cases z)⟩,⟨ap5.n23,ap5.n24,ap5.n25,ne_of bk.l bk.k (by intro z;cases z),ne_of bk.l bk.x (by intro z;cases z)⟩,⟨ap5.n34,ap5.n35,ne_of bk.h bk.k (by intro z;cases z),ne_of bk.h bk.x (by intro z;cases z)⟩,⟨ap5.n45,ne_of bk.o bk.k (by intro z;cases z),ne_of bk.o bk.x (by intro z;cases z)⟩,⟨ne_of bk.d bk.k (by intro z;cases z),ne_of bk.d bk.x (by intro z;cases z)⟩,(nkd)⟩
 have R0:Rel C ⟨x,dx,a1,a2,a3,a4,a5_,B,l,h,o,d,kn,dd,kvs,wd⟩ H4 [⟨"",none, "",wd,wd,(0,1),t,u⟩] [] ls 0:=rel_start ap (L.same s4) bk pl.w1 pl.w2 (s4 _ _ ft) fu rfl
 have pl4:=pl3.same s4
 have hfa4:=s4 _ _ hfa3
 have nm:m≠kn:=ne_none pl3.m nkn
 have nla:la≠kn:=ne_none pl3.la nkn
 have nfa:fa≠kn:=ne_none hfa3 nkn
 have kn4:=bk.k
 generalize hq:(⟨x,dx,a1,a2,a3,a4,a5_,B,l,h,o,d,kn,dd,kvs,wd⟩:Ad) = q at ap R0
 have qx:x = q.x:=by rw [← hq]
 have qB:B = q.B:=by rw [← hq]
 have qk:kn = q.kn:=by rw [← hq]
 rw [qk] at nm nla nfa
 have qw:wd = q.wd:=by rw [← hq]
 refine ⟨_,rfl,fa,_,_,_,rfl,rfl,SqL.of hfa4,e0,_,_,rfl,rfl,(by show (0:Int) < 25;decide),f0 % 25,rfl,by omega,by omega,?_⟩
 refine for_range (lo:=0) (n:=(f0 % 25).toNat) (fun i σ Hx=>∃ (es:List Est) (ks:List Str) (u5:Option V),σ = [some (.ref sA),some (.ref fa),some (.ref p),some (.ref x),some (.ref B),u5,none,none,none,none]∧Rel C q Hx es ks ls i∧OutA q H4 Hx) ⟨_,_,none,rfl,R0,OutA.refl⟩ ?_ ?_
 ·rintro i σ Hx hi ⟨es,ks,u5,rfl,R,ox⟩
  have plx:=pl4.out R0 ox nm nla
  have hfx:=outA_lst R0 ox hfa4 nfa
  have i24:i≤23:=by omega
  have ln:=R.ten pl.ll
  refine ⟨_,rfl,_,rfl,_,rfl,_,rfl,_,rfl,_,_,rfl,rfl,.inl ⟨by decide,by decide⟩,_,_,rfl,rfl,small (by simp),fun kd hkd=>?_⟩
  have sk:=same_new hkd (.lst [.str "grant",.str "part",.str "convey",.str "surrender"])
  have kk1:(upd Hx kd (.lst [.str "grant",.str "part",.str "convey",.str "surrender"])) kd = some (.lst (kindsL.map V.str)):=upd_same
  have nkdd:kd≠q.kn:=by
   intro z
   rw [z] at hkd
   have:=R.B.k
   rw [hkd] at this
   cases this
  refine ⟨q,es,ks,i,p,m,la,fa,kd,mz,ls,kindsL,wd,20 + 8 * (0 + (i:Int)),1,fs,(by subst hq;rfl),R.same sk,plx.same sk,sk _ _ hfx,hfo,kk1,by decide,by decide,nm,nla,nfa,nkdd,by omega,by omega,by omega,by omega,(by show i + 1≤50;omega),fun es' ks' H5 R5 o5=>⟨_,rfl,iteF ?_⟩⟩
  have R5:Rel C q H5 es' ks' ls (i + 1):=R5
  have oa:=ox.trans ((OutA.same sk).trans o5)
  have hf5:=outA_lst R0 oa hfa4 nfa
  have ln5:=R5.ten pl.ll
  have fin:∀ {H6:Hp},Same H5 H6→∃ (es:List Est) (ks:List Str) (u5:Option V),[some (V.ref sA),some (.ref fa),some (.ref p),some (.ref x),some (.ref B),some (.int (0 + (i:Int))),none,none,none,none] = [some (.ref sA),some (.ref fa),some (.ref p),some (.ref x),some (.ref B),u5,none,none,none,none]∧Rel C q H6 es ks ls (i + 1)∧OutA q H4 H6:=fun s6=>⟨es',ks',_,rfl,R5.same s6,oa.trans (OutA.same s6)⟩
  obtain ⟨fk,ek,_⟩:=fs_at hfo (i:=20 + 8 * (0 + (i:Int))) (by omega) (by omega)
  refine ⟨_,rfl,_,rfl,_,_,rfl,rfl,.inl ⟨by decide,by decide⟩,_,_,rfl,rfl,fa,_,_,_,rfl,rfl,SqL.of hf5,ek,_,_,rfl,rfl,(by show (0:Int) < 3;decide),rfl,_,rfl,eq_int (fun _=>?_) (fun _=>?_)⟩
  ·refine ⟨_,rfl,_,rfl,q,es',ks',ls,_,(by subst hq;rfl),R5,by omega,fun H6 s6=>⟨_,rfl,iteF ?_⟩⟩
   exact fin s6
  ·exact iteF (fin (Same.refl _))
 ·rintro σ Hx ⟨es,ks,u5,rfl,R,ox⟩
  have ln:=R.ten pl.ll
  have W:=R.W
  have plx:=pl4.out R0 ox nm nla
  subst hq
  generalize hq:(⟨x,dx,a1,a2,a3,a4,a5_,B,l,h,o,d,kn,dd,kvs,wd⟩:Ad) = q at R qx qB qw
  have hs:∀ (e:Est),e∈es→(valV (loL es) (.inr e.n)).isSome = true:=fun e he=>by rw [val_some,decide_eq_true (List.mem_map.mpr ⟨e,he,rfl⟩)]
  refine ⟨small (by simp),fun c1 hc1=>?_⟩
  have sc1:=same_new hc1 (.lst [.str ""])
  have kc1:(upd Hx c1 (.lst [.str ""])) c1 = some (.lst [.str ""]):=upd_same
  generalize upd Hx c1 (.lst [.str ""]) = H5 at sc1 kc1 ⊢
  have R5:=R.same sc1
  have L5:=R5.L
  refine ⟨_,rfl,x,dx,_,rfl,(by subst hq;exact L5.o),rfl,q.x,q.dx,q.a1,q.a2,q.a3,q.a4,q.a5,_,_,_,_,_,(by subst hq;rfl),L5,tk_kv,by rw [kv_len];omega,fun c2 ss H6 s6 hc2 kc2 hp6 _=>?_⟩
  rw [kstr_kv] at hp6
  have hpall:=names_all W hp6
  have sl:ss.length≤es.length:=by
   rw [hp6.length_eq,List.length_map]
   exact List.length_filter_le _ _
  refine ⟨c1,c2,_,_,rfl,rfl,s6 _ _ kc1,kc2,(by rw [List.length_map,List.length_singleton];exact small (by omega)),fun c3 hc3=>?_⟩
  have s7:=(sc1.trans s6).trans (same_new hc3 (.lst ([.str ""]++ss.map V.str)))
  have kc3:(upd H6 c3 (.lst ([.str ""]++ss.map V.str))) c3 = some (.lst ((("" : Str) :: ss).map V.str)):=upd_same
  dsimp only [gName]
  generalize upd H6 c3 (.lst ([.str ""]++ss.map V.str)) = H7 at s7 kc3 ⊢
  have hmem:∀ z∈("" : Str) :: ss,z∈nms es:=fun z hz=>hpall.mem_iff.mp hz
  have nlen:(("" : Str) :: ss).length≤11:=by rw [List.length_cons];omega
  generalize ("" : Str) :: ss = xs at kc3 hpall hmem nlen
  have R7:=R.same s7
  have pl7:=plx.same s7
  refine ⟨_,rfl,c3,rfl,⟨_,SqL.of kc3⟩,fun D hD=>comp_strs (xs:=xs) (fun _=>true) (fun z=>V.int (ownOf es z)) (SqL.of kc3) hD (by omega) (fun z Hz A B hz sz hAB=>?_) (fun Hz sz hDz=>?_)⟩
  ·obtain ⟨e,he,rfl⟩:=mem_nms (hmem z hz)
   have Lz:=(R7.same sz).L
   refine ⟨Kp.set rfl (Kp.refl _),tTrue_ok ?_⟩
   have:=hAB _ (Same.refl _)
   rw [if_pos rfl,ownOf_e W.nd he] at this
   exact ⟨_,rfl,x,dx,_,rfl,(by subst hq;exact Lz.o),rfl,_,rfl,q.x,q.dx,q.a1,q.a2,q.a3,q.a4,q.a5,_,_,_,_,_,e.n,_,(by subst hq;rfl),Lz,hs e he,val_kv W.nd he,this⟩
  have es1:(xs.filter fun _=>true).map (fun z=>V.int (ownOf es z)) = (xs.map (ownOf es)).map V.int:=by rw [filt_true,List.map_map];rfl
  rw [es1] at hDz
  have s8:=s7.trans sz
  have R8:=R.same s8
  have pl8:=plx.same s8
  refine ⟨D,_,rfl,SqL.of hDz,_,rfl,p,_,_,_,rfl,rfl,SqT.of pl8.r,atI_nat (j:=2) rfl,rfl,_,rfl,?_⟩
  have esum:(xs.map (ownOf es)).sum = wd:=by rw [own_sum W hpall,R.tot,qw]
  rw [esum,decide_eq_true rfl]
  refine iteF ?_
  have kc8:=sz _ _ kc3
  refine ⟨_,rfl,c3,rfl,⟨_,SqL.of kc8⟩,for_list (K:=K) (a:=c3) (xs:=xs.map V.str) (fun i σ Hy=>(∃ u7 u8 u9,σ = [some (.ref sA),some (.ref fa),some (.ref p),some (.ref x),some (.ref B),u5,some (.ref c3),u7,u8,u9])∧Same Hz Hy) ⟨⟨none,none,none,rfl⟩,Same.refl _⟩ (fun i σ Hy _ h=>SqL.of (h.2 _ _ kc8)) ?_ ?_⟩
  ·rintro i v σ Hy hv ⟨⟨u7,u8,u9,rfl⟩,sy⟩
   rw [List.getElem?_map] at hv
   obtain ⟨en,hen,rfl⟩:=Option.map_eq_some_iff.mp hv
   obtain ⟨e,he,rfl⟩:=mem_nms (hmem en (List.mem_of_getElem? hen))
   have hem:e.n∈nms es:=List.mem_map.mpr ⟨e,he,rfl⟩
   obtain ⟨l1,hch,hll,hnd⟩:=W.chainN he
   obtain ⟨hcm,l0,hl0⟩:=ch_mem W hch hem
   have R9:=R8.same sy
   have L9:=R9.L
   have mth:∀ {Ha:Hp},Rel C q Ha es ks ls (f0 % 25).toNat→Ha x = some (.ins C dx (F5 q.a1 q.a2 q.a3 q.a4 q.a5)):=fun r=>by subst hq;exact r.L.o
   refine ⟨_,rfl,x,dx,_,rfl,mth R9,rfl,_,rfl,q.x,q.dx,q.a1,q.a2,q.a3,q.a4,q.a5,_,_,_,_,_,e.n,l1,(by subst hq;rfl),L9,hs e he,hch,by omega,fun r1 Ha sa hr1 kr1=>?_⟩
   have Ra:=R9.same sa
   refine ⟨_,rfl,x,dx,_,rfl,mth Ra,rfl,_,rfl,q.x,q.dx,q.a1,q.a2,q.a3,q.a4,q.a5,_,_,_,_,_,e.n,(by subst hq;rfl),Ra.L,hs e he,tk_kv,tv_lo,by rw [kv_len];omega,fun r2 us Hb sb hr2 kr2 hpu _=>?_⟩
   have hpu':=lo_perm hpu
   have usl:us.length≤es.length:=by rw [hpu'.length_eq,List.length_map];exact List.length_filter_le _ _
   have hum:=(under_mem W.nd hpu').1
   have Rb:=Ra.same sb
   refine ⟨r2,rfl,⟨_,SqL.of kr2⟩,fun D2 hD2=>comp_strs (xs:=us) (fun _=>true) (fun z=>V.int (brOf es z)) (SqL.of kr2) hD2 (by omega) (fun z Hc A B hz sc hAB=>?_) (fun Hc sc hDc=>?_)⟩
   ·obtain ⟨y,hy,rfl⟩:=mem_nms (hum z hz)
    have Rc:=Rb.same sc
    refine ⟨Kp.set rfl (Kp.refl _),tTrue_ok ?_⟩
    have:=hAB _ (Same.refl _)
    rw [if_pos rfl,brOf_e W.nd hy] at this
    exact ⟨_,rfl,x,dx,_,rfl,mth Rc,rfl,_,rfl,q.x,q.dx,q.a1,q.a2,q.a3,q.a4,q.a5,_,_,_,_,_,y.n,_,(by subst hq;rfl),Rc.L,hs y hy,val_kv W.nd hy,this⟩
   have es2:(us.filter fun _=>true).map (fun z=>V.int (brOf es z)) = (us.map (brOf es)).map V.int:=by rw [filt_true,List.map_map];rfl
   rw [es2] at hDc
   have sac:=(sb.trans sc)
   have kr1c:=sac _ _ kr1
   have Rc:=Rb.same sc
   refine ⟨D2,_,rfl,SqL.of hDc,?_⟩
   rw [under_sum W.nd hpu']
   dsimp only [gName]
   refine ⟨_,rfl,_,rfl,r1,_,_,_,rfl,rfl,SqL.of kr1c,(by rw [hl0];exact last_at l0 ""),rfl,_,rfl,?_⟩
   rw [decide_eq_true rfl]
   refine iteF ?_
   refine ⟨_,rfl,r1,l1,rfl,SqL.of kr1c,by omega,fun se hse=>?_⟩
   have al:=allS_full hnd
   have sse:Same Hc (upd Hc se (SetS P w se (allS l1))):=same_new hse _
   refine ⟨se,allS l1,rfl,upd_same,by omega,_,rfl,r1,_,rfl,.inl (SqL.of (sse _ _ kr1c)),rfl,_,rfl,?_⟩
   have el:decide (V.int ((allS l1).length:Int) = V.int ((l1.map V.str).length:Int)) = true:=by rw [List.length_map,al];exact decide_eq_true rfl
   rw [el]
   refine iteF ?_
   have Rd:=Rc.same sse
   refine ⟨_,rfl,x,dx,_,rfl,mth Rd,rfl,_,rfl,q.x,q.dx,q.a1,q.a2,q.a3,q.a4,q.a5,_,_,_,_,_,e.n,_,(by subst hq;rfl),Rd.L,hs e he,val_kv W.nd he,_,rfl,x,dx,_,rfl,mth Rd,rfl,_,rfl,q.x,q.dx,q.a1,q.a2,q.a3,q.a4,q.a5,_,_,_,_,_,e.n,_,(by subst hq;rfl),Rd.L,hs e he,val_kv W.nd he,_,rfl,_,_,rfl,rfl,rfl,_,rfl,?_⟩
   have eb:decide (V.int e.br = V.int (e.own + Sb es e.n)) = true:=decide_eq_true (by rw [← W.br e he])
   rw [eb]
   refine iteF ?_
   have syd:=((sy.trans sa).trans sac).trans sse
   refine ⟨_,rfl,rfl,_,rfl,?_⟩
   rw [dec_str]
   by_cases c0:e.n = ""
   ·rw [decide_eq_true c0]
    exact iteF (iteF ⟨⟨_,_,_,rfl⟩,syd⟩)
   rw [decide_eq_false c0]
   refine iteT ?_
   obtain ⟨pl',hpl1,hpl2,_⟩:=W.lord e he c0
   obtain ⟨y,hy,rfl⟩:=mem_nms hpl2
   have htl:∃ l2,l1 = e.n :: l2∧Ch (loL es) y.n l2:=by
    have hve:=val_kv (f:=fun e=>lordV e.lord) W.nd he
    cases hch with
    | crown hv =>
     rw [hve,hpl1] at hv
     cases hv
    | up hv h2 =>
     rw [hve,hpl1] at hv
     injection hv with hv
     injection hv with hv
     rw [hv]
     exact ⟨_,rfl,h2⟩
   obtain ⟨l2,rfl,hch2⟩:=htl
   refine ⟨_,rfl,_,rfl,r1,_,rfl,SqL.of (sse _ _ kr1c),fun c5 hc5=>?_⟩
   rw [List.map_cons,cut_tail]
   have s5':=same_new hc5 (.lst (l2.map V.str))
   have Re:=Rd.same s5'
   have vl:=val_kv (f:=fun e=>lordV e.lord) W.nd he
   rw [hpl1] at vl
   refine ⟨_,rfl,x,dx,_,rfl,mth Re,rfl,_,rfl,x,dx,_,rfl,mth Re,rfl,_,rfl,q.x,q.dx,q.a1,q.a2,q.a3,q.a4,q.a5,_,_,_,_,_,e.n,_,(by subst hq;rfl),Re.L,hs e he,vl,q.x,q.dx,q.a1,q.a2,q.a3,q.a4,q.a5,_,_,_,_,_,y.n,l2,(by subst hq;rfl),Re.L,hs y hy,hch2,(by rw [List.length_cons] at hll;omega),fun r6 Hf sf hr6 kr6=>?_⟩
   have l2ok:∀ s∈l2,PyData.strOk s = true:=fun s hs'=>by
    obtain ⟨u,hu,rfl⟩:=mem_nms (hcm s (List.mem_cons_of_mem _ hs'))
    exact W.ok u hu
   refine ⟨_,_,.lst (sf _ _ upd_same) (strs_dat l2),.lst kr6 (strs_dat l2),strs_lay l2ok,strs_lay l2ok,strs_dep l2,_,rfl,?_⟩
   rw [strs_refl]
   exact iteF ⟨⟨_,_,_,rfl⟩,(syd.trans s5').trans sf⟩
  ·rintro σ Hy ⟨⟨u7,u8,u9,rfl⟩,sy⟩
   exact ⟨_,rfl,_,rfl,q,es,ks,ls,_,(by subst hq;rfl),R8.same sy,by omega,fun H6 _=>kk H6⟩
end
end M
namespace M
open PySem L2
theorem on0 {P:List Value→Prop} (h:P []):∀ us:List Value,us.length = 0→P us
 | [],_=>h
theorem onS {n:Nat} {P:List Value→Prop} (h:∀ (a:Value) (us:List Value),us.length = n→P (a :: us)):∀ us:List Value,us.length = n + 1→P us
 | a :: us,e=>h a us (Nat.succ.inj e)
theorem ktp_of {K:PySem.W.Frag} {a:Addr} {xs:List V} {d:Option Addr} {it:Array Value} {n:Nat} {ss:Array (Option Value)} (h:K.lookup a = some ⟨.type "tuple",d,.seq it n,ss⟩) (hs:it.size≤sizeLine) (hv:Vals xs it.toList):KTp K a xs:=⟨_,it,n,h,rfl,rfl,hs,hv⟩
set_option maxHeartbeats 4000000 in
theorem all_mk {l:PySem.W.OpenLaw} {w:World} {K:PySem.W.Frag} {h:Heap} {mg:Str→Option Value} {fa f1 f2 f3 f4 f5 f6 f7 f8 f9 f10 f11 f12 f13 f14 f15 f16 f17 f18 f19 f20 f21 f22 f23 f24 f25 f26 f27 f28 f29 f30:Addr} (X:K.In h) (G:h.Ns mainGlobals mg) (hfa:mg "law" = some (.ref fa))
  {od1 an1 od2 an2 od3 an3 od4 an4 od5 an5 od6 an6 od7 an7 od8 an8 od9 an9 od10 an10 od11 an11 od12 an12 od13 an13 od14 an14 od15 an15 od16 an16 od17 an17 od18 an18 od19 an19 od20 an20 od21 an21 od22 an22 od23 an23 od24 an24 od25 an25 od26 an26 od27 an27 od28 an28 od29 an29 od30 an30:Option Addr} {sl1 sl2 sl3 sl4 sl5 sl6 sl7 sl8 sl9 sl10 sl11 sl12 sl13 sl14 sl15 sl16 sl17 sl18 sl19 sl20 sl21 sl22 sl23 sl24 sl25 sl26 sl27 sl28 sl29 sl30:Array (Option Value)} {oc1 kV1 dc1 pm1 cd1 ct1 oc2 kV2 dc2 pm2 cd2 ct2 oc3 kV3 dc3 pm3 cd3 ct3 oc4 kV4 dc4 pm4 cd4 ct4 oc5 kV5 dc5 pm5 cd5 ct5 oc6 kV6 dc6 pm6 cd6 ct6 oc7 kV7 dc7 pm7 cd7 ct7 oc8 kV8 dc8 pm8 cd8 ct8 oc9 kV9 dc9 pm9 cd9 ct9 oc10 kV10 dc10 pm10 cd10 ct10 oc11 kV11 dc11 pm11 cd11 ct11 oc12 kV12 dc12 pm12 cd12 ct12 oc13 kV13 dc13 pm13 cd13 ct13 oc14 kV14 dc14 pm14 cd14 ct14 oc15 kV15 dc15 pm15 cd15 ct15 oc16 kV16 dc16 pm16 cd16 ct16 oc17 kV17 dc17 pm17 cd17 ct17 oc18 kV18 dc18 pm18 cd18 ct18 oc19 kV19 dc19 pm19 cd19 ct19 oc20 kV20 dc20 pm20 cd20 ct20 oc21 kV21 dc21 pm21 cd21 ct21 oc22 kV22 dc22 pm22 cd22 ct22 oc23 kV23 dc23 pm23 cd23 ct23 oc24 kV24 dc24 pm24 cd24 ct24 oc25 kV25 dc25 pm25 cd25 ct25 oc26 kV26 dc26 pm26 cd26 ct26 oc27 kV27 dc27 pm27 cd27 ct27 oc28 kV28 dc28 pm28 cd28 ct28 oc29 kV29 dc29 pm29 cd29 ct29 oc30 kV30 dc30 pm30 cd30 ct30:Value} {tC:Tok} {C aB b1_ b2_ b3_ b4_ b5_ b6_ b7_ f_I f_Th f_Es f_Ho f_Lo f_Ow f_Br f_Se f_Ch f_He f_Un f_Fo f_Gr f_Pa f_Co f_Fa f_Ck f_Ad:Addr} {od_I an_I od_Th an_Th od_Es an_Es od_Ho an_Ho od_Lo an_Lo od_Ow an_Ow od_Br an_Br od_Se an_Se od_Ch an_Ch od_He an_He od_Un an_Un od_Fo an_Fo od_Gr an_Gr od_Pa an_Pa od_Co an_Co od_Fa an_Fa od_Ck an_Ck od_Ad an_Ad:Option Addr} {sl_I sl_Th sl_Es sl_Ho sl_Lo sl_Ow sl_Br sl_Se sl_Ch sl_He sl_Un sl_Fo sl_Gr sl_Pa sl_Co sl_Fa sl_Ck sl_Ad:Array (Option Value)} {oc_I kV_I dc_I pm_I cd_I ct_I oc_Th kV_Th dc_Th pm_Th cd_Th ct_Th oc_Es kV_Es dc_Es pm_Es cd_Es ct_Es oc_Ho kV_Ho dc_Ho pm_Ho cd_Ho ct_Ho oc_Lo kV_Lo dc_Lo pm_Lo cd_Lo ct_Lo oc_Ow kV_Ow dc_Ow pm_Ow cd_Ow ct_Ow oc_Br kV_Br dc_Br pm_Br cd_Br ct_Br oc_Se kV_Se dc_Se pm_Se cd_Se ct_Se oc_Ch kV_Ch dc_Ch pm_Ch cd_Ch ct_Ch oc_He kV_He dc_He pm_He cd_He ct_He oc_Un kV_Un dc_Un pm_Un cd_Un ct_Un oc_Fo kV_Fo dc_Fo pm_Fo cd_Fo ct_Fo oc_Gr kV_Gr dc_Gr pm_Gr cd_Gr ct_Gr oc_Pa kV_Pa dc_Pa pm_Pa cd_Pa ct_Pa oc_Co kV_Co dc_Co pm_Co cd_Co ct_Co oc_Fa kV_Fa dc_Fa pm_Fa cd_Fa ct_Fa oc_Ck kV_Ck dc_Ck pm_Ck cd_Ck ct_Ck oc_Ad kV_Ad dc_Ad pm_Ad cd_Ad ct_Ad:Value} {it_b2_:Array Value} {n_b2_:Nat} {dd_b2_:Option Addr} {ss_b2_:Array (Option Value)} {esB:Array DictEntry} {nB:Nat}
  (a1:PySem.W.nsIn K mainGlobals "fits" = some (some (.ref f1))) (l1:K.lookup f1 = some ⟨oc1,od1,.func (PySem.W.fnOf "fits" "fits" (defArgs sFits) (defBody sFits) (defScope sFits) .none kV1 dc1 pm1 an1 cd1 ct1),sl1⟩) (c1:PySem.W.codeIn K cd1 "fits" = true) (k1:PySem.W.keepIn K (.ref f1) = true)
  (a2:PySem.W.nsIn K mainGlobals "check_acres" = some (some (.ref f2))) (l2:K.lookup f2 = some ⟨oc2,od2,.func (PySem.W.fnOf "check_acres" "check_acres" (defArgs sCkA) (defBody sCkA) (defScope sCkA) .none kV2 dc2 pm2 an2 cd2 ct2),sl2⟩) (c2:PySem.W.codeIn K cd2 "check_acres" = true) (k2:PySem.W.keepIn K (.ref f2) = true)
  (a3:PySem.W.nsIn K mainGlobals "part" = some (some (.ref f3))) (l3:K.lookup f3 = some ⟨oc3,od3,.func (PySem.W.fnOf "part" "part" (defArgs sPart) (defBody sPart) (defScope sPart) .none kV3 dc3 pm3 an3 cd3 ct3),sl3⟩) (c3:PySem.W.codeIn K cd3 "part" = true) (k3:PySem.W.keepIn K (.ref f3) = true)
  (a4:PySem.W.nsIn K mainGlobals "minus" = some (some (.ref f4))) (l4:K.lookup f4 = some ⟨oc4,od4,.func (PySem.W.fnOf "minus" "minus" (defArgs sMinus) (defBody sMinus) (defScope sMinus) .none kV4 dc4 pm4 an4 cd4 ct4),sl4⟩) (c4:PySem.W.codeIn K cd4 "minus" = true) (k4:PySem.W.keepIn K (.ref f4) = true)
  (a5:PySem.W.nsIn K mainGlobals "common_measure" = some (some (.ref f5))) (l5:K.lookup f5 = some ⟨oc5,od5,.func (PySem.W.fnOf "common_measure" "common_measure" (defArgs sGcd) (defBody sGcd) (defScope sGcd) .none kV5 dc5 pm5 an5 cd5 ct5),sl5⟩) (c5:PySem.W.codeIn K cd5 "common_measure" = true) (k5:PySem.W.keepIn K (.ref f5) = true)
  (a6:PySem.W.nsIn K mainGlobals "_law_feed" = some (some (.ref f6))) (l6:K.lookup f6 = some ⟨oc6,od6,.func (PySem.W.fnOf "_law_feed" "_law_feed" (defArgs sFeed) (defBody sFeed) (defScope sFeed) .none kV6 dc6 pm6 an6 cd6 ct6),sl6⟩) (c6:PySem.W.codeIn K cd6 "_law_feed" = true) (k6:PySem.W.keepIn K (.ref f6) = true)
  (a7:PySem.W.nsIn K mainGlobals "_law_same" = some (some (.ref f7))) (l7:K.lookup f7 = some ⟨oc7,od7,.func (PySem.W.fnOf "_law_same" "_law_same" (defArgs sSame) (defBody sSame) (defScope sSame) .none kV7 dc7 pm7 an7 cd7 ct7),sl7⟩) (c7:PySem.W.codeIn K cd7 "_law_same" = true) (k7:PySem.W.keepIn K (.ref f7) = true)
  (a8:PySem.W.nsIn K mainGlobals "_law_low" = some (some (.ref f8))) (l8:K.lookup f8 = some ⟨oc8,od8,.func (PySem.W.fnOf "_law_low" "_law_low" (defArgs sLow) (defBody sLow) (defScope sLow) .none kV8 dc8 pm8 an8 cd8 ct8),sl8⟩) (c8:PySem.W.codeIn K cd8 "_law_low" = true) (k8:PySem.W.keepIn K (.ref f8) = true)
  (a9:PySem.W.nsIn K mainGlobals "_law_names" = some (some (.ref f9))) (l9:K.lookup f9 = some ⟨oc9,od9,.func (PySem.W.fnOf "_law_names" "_law_names" (defArgs sNames) (defBody sNames) (defScope sNames) .none kV9 dc9 pm9 an9 cd9 ct9),sl9⟩) (c9:PySem.W.codeIn K cd9 "_law_names" = true) (k9:PySem.W.keepIn K (.ref f9) = true)
  (a10:PySem.W.nsIn K mainGlobals "_law_book" = some (some (.ref f10))) (l10:K.lookup f10 = some ⟨oc10,od10,.func (PySem.W.fnOf "_law_book" "_law_book" (defArgs sBook) (defBody sBook) (defScope sBook) .none kV10 dc10 pm10 an10 cd10 ct10),sl10⟩) (c10:PySem.W.codeIn K cd10 "_law_book" = true) (k10:PySem.W.keepIn K (.ref f10) = true)
  (a11:PySem.W.nsIn K mainGlobals "_law_under" = some (some (.ref f11))) (l11:K.lookup f11 = some ⟨oc11,od11,.func (PySem.W.fnOf "_law_under" "_law_under" (defArgs sUnd) (defBody sUnd) (defScope sUnd) .none kV11 dc11 pm11 an11 cd11 ct11),sl11⟩) (c11:PySem.W.codeIn K cd11 "_law_under" = true) (k11:PySem.W.keepIn K (.ref f11) = true)
  (a12:PySem.W.nsIn K mainGlobals "_law_breadth" = some (some (.ref f12))) (l12:K.lookup f12 = some ⟨oc12,od12,.func (PySem.W.fnOf "_law_breadth" "_law_breadth" (defArgs sBrd) (defBody sBrd) (defScope sBrd) .none kV12 dc12 pm12 an12 cd12 ct12),sl12⟩) (c12:PySem.W.codeIn K cd12 "_law_breadth" = true) (k12:PySem.W.keepIn K (.ref f12) = true)
  (a13:PySem.W.nsIn K mainGlobals "_law_held" = some (some (.ref f13))) (l13:K.lookup f13 = some ⟨oc13,od13,.func (PySem.W.fnOf "_law_held" "_law_held" (defArgs sHel) (defBody sHel) (defScope sHel) .none kV13 dc13 pm13 an13 cd13 ct13),sl13⟩) (c13:PySem.W.codeIn K cd13 "_law_held" = true) (k13:PySem.W.keepIn K (.ref f13) = true)
  (a14:PySem.W.nsIn K mainGlobals "_law_bound_to" = some (some (.ref f14))) (l14:K.lookup f14 = some ⟨oc14,od14,.func (PySem.W.fnOf "_law_bound_to" "_law_bound_to" (defArgs sBnd) (defBody sBnd) (defScope sBnd) .none kV14 dc14 pm14 an14 cd14 ct14),sl14⟩) (c14:PySem.W.codeIn K cd14 "_law_bound_to" = true) (k14:PySem.W.keepIn K (.ref f14) = true)
  (a15:PySem.W.nsIn K mainGlobals "_law_why" = some (some (.ref f15))) (l15:K.lookup f15 = some ⟨oc15,od15,.func (PySem.W.fnOf "_law_why" "_law_why" (defArgs sWhy) (defBody sWhy) (defScope sWhy) .none kV15 dc15 pm15 an15 cd15 ct15),sl15⟩) (c15:PySem.W.codeIn K cd15 "_law_why" = true) (k15:PySem.W.keepIn K (.ref f15) = true)
  (a16:PySem.W.nsIn K mainGlobals "_law_fall" = some (some (.ref f16))) (l16:K.lookup f16 = some ⟨oc16,od16,.func (PySem.W.fnOf "_law_fall" "_law_fall" (defArgs sFal) (defBody sFal) (defScope sFal) .none kV16 dc16 pm16 an16 cd16 ct16),sl16⟩) (c16:PySem.W.codeIn K cd16 "_law_fall" = true) (k16:PySem.W.keepIn K (.ref f16) = true)
  (a17:PySem.W.nsIn K mainGlobals "_law_new" = some (some (.ref f17))) (l17:K.lookup f17 = some ⟨oc17,od17,.func (PySem.W.fnOf "_law_new" "_law_new" (defArgs sNew) (defBody sNew) (defScope sNew) .none kV17 dc17 pm17 an17 cd17 ct17),sl17⟩) (c17:PySem.W.codeIn K cd17 "_law_new" = true) (k17:PySem.W.keepIn K (.ref f17) = true)
  (a18:PySem.W.nsIn K mainGlobals "_law_do" = some (some (.ref f18))) (l18:K.lookup f18 = some ⟨oc18,od18,.func (PySem.W.fnOf "_law_do" "_law_do" (defArgs sDo) (defBody sDo) (defScope sDo) .none kV18 dc18 pm18 an18 cd18 ct18),sl18⟩) (c18:PySem.W.codeIn K cd18 "_law_do" = true) (k18:PySem.W.keepIn K (.ref f18) = true)
  (a19:PySem.W.nsIn K mainGlobals "_law_pools" = some (some (.ref f19))) (l19:K.lookup f19 = some ⟨oc19,od19,.func (PySem.W.fnOf "_law_pools" "_law_pools" (defArgs sPools) (defBody sPools) (defScope sPools) .none kV19 dc19 pm19 an19 cd19 ct19),sl19⟩) (c19:PySem.W.codeIn K cd19 "_law_pools" = true) (k19:PySem.W.keepIn K (.ref f19) = true)
  (a20:PySem.W.nsIn K mainGlobals "_law_lord_for" = some (some (.ref f20))) (l20:K.lookup f20 = some ⟨oc20,od20,.func (PySem.W.fnOf "_law_lord_for" "_law_lord_for" (defArgs sLf) (defBody sLf) (defScope sLf) .none kV20 dc20 pm20 an20 cd20 ct20),sl20⟩) (c20:PySem.W.codeIn K cd20 "_law_lord_for" = true) (k20:PySem.W.keepIn K (.ref f20) = true)
  (a21:PySem.W.nsIn K mainGlobals "_law_row" = some (some (.ref f21))) (l21:K.lookup f21 = some ⟨oc21,od21,.func (PySem.W.fnOf "_law_row" "_law_row" (defArgs sRow) (defBody sRow) (defScope sRow) .none kV21 dc21 pm21 an21 cd21 ct21),sl21⟩) (c21:PySem.W.codeIn K cd21 "_law_row" = true) (k21:PySem.W.keepIn K (.ref f21) = true)
  (a22:PySem.W.nsIn K mainGlobals "_law_chain" = some (some (.ref f22))) (l22:K.lookup f22 = some ⟨oc22,od22,.func (PySem.W.fnOf "_law_chain" "_law_chain" (defArgs sChn) (defBody sChn) (defScope sChn) .none kV22 dc22 pm22 an22 cd22 ct22),sl22⟩) (c22:PySem.W.codeIn K cd22 "_law_chain" = true) (k22:PySem.W.keepIn K (.ref f22) = true)
  (a23:PySem.W.nsIn K mainGlobals "_law_estate_is" = some (some (.ref f23))) (l23:K.lookup f23 = some ⟨oc23,od23,.func (PySem.W.fnOf "_law_estate_is" "_law_estate_is" (defArgs sEi) (defBody sEi) (defScope sEi) .none kV23 dc23 pm23 an23 cd23 ct23),sl23⟩) (c23:PySem.W.codeIn K cd23 "_law_estate_is" = true) (k23:PySem.W.keepIn K (.ref f23) = true)
  (a24:PySem.W.nsIn K mainGlobals "_law_land_is" = some (some (.ref f24))) (l24:K.lookup f24 = some ⟨oc24,od24,.func (PySem.W.fnOf "_law_land_is" "_law_land_is" (defArgs sLi) (defBody sLi) (defScope sLi) .none kV24 dc24 pm24 an24 cd24 ct24),sl24⟩) (c24:PySem.W.codeIn K cd24 "_law_land_is" = true) (k24:PySem.W.keepIn K (.ref f24) = true)
  (a25:PySem.W.nsIn K mainGlobals "_law_land_do" = some (some (.ref f25))) (l25:K.lookup f25 = some ⟨oc25,od25,.func (PySem.W.fnOf "_law_land_do" "_law_land_do" (defArgs sLdo) (defBody sLdo) (defScope sLdo) .none kV25 dc25 pm25 an25 cd25 ct25),sl25⟩) (c25:PySem.W.codeIn K cd25 "_law_land_do" = true) (k25:PySem.W.keepIn K (.ref f25) = true)
  (a26:PySem.W.nsIn K mainGlobals "_law_some_deed" = some (some (.ref f26))) (l26:K.lookup f26 = some ⟨oc26,od26,.func (PySem.W.fnOf "_law_some_deed" "_law_some_deed" (defArgs sSome) (defBody sSome) (defScope sSome) .none kV26 dc26 pm26 an26 cd26 ct26),sl26⟩) (c26:PySem.W.codeIn K cd26 "_law_some_deed" = true) (k26:PySem.W.keepIn K (.ref f26) = true)
  (a27:PySem.W.nsIn K mainGlobals "_law_steered" = some (some (.ref f27))) (l27:K.lookup f27 = some ⟨oc27,od27,.func (PySem.W.fnOf "_law_steered" "_law_steered" (defArgs sStr) (defBody sStr) (defScope sStr) .none kV27 dc27 pm27 an27 cd27 ct27),sl27⟩) (c27:PySem.W.codeIn K cd27 "_law_steered" = true) (k27:PySem.W.keepIn K (.ref f27) = true)
  (a28:PySem.W.nsIn K mainGlobals "_law_let_by" = some (some (.ref f28))) (l28:K.lookup f28 = some ⟨oc28,od28,.func (PySem.W.fnOf "_law_let_by" "_law_let_by" (defArgs sLet) (defBody sLet) (defScope sLet) .none kV28 dc28 pm28 an28 cd28 ct28),sl28⟩) (c28:PySem.W.codeIn K cd28 "_law_let_by" = true) (k28:PySem.W.keepIn K (.ref f28) = true)
  (a29:PySem.W.nsIn K mainGlobals "_law_played" = some (some (.ref f29))) (l29:K.lookup f29 = some ⟨oc29,od29,.func (PySem.W.fnOf "_law_played" "_law_played" (defArgs sPl) (defBody sPl) (defScope sPl) .none kV29 dc29 pm29 an29 cd29 ct29),sl29⟩) (c29:PySem.W.codeIn K cd29 "_law_played" = true) (k29:PySem.W.keepIn K (.ref f29) = true)
  (a30:PySem.W.nsIn K mainGlobals "law" = some (some (.ref f30))) (l30:K.lookup f30 = some ⟨oc30,od30,.func (PySem.W.fnOf "law" "law" (defArgs sLaw) (defBody sLaw) (defScope sLaw) .none kV30 dc30 pm30 an30 cd30 ct30),sl30⟩) (c30:PySem.W.codeIn K cd30 "law" = true) (k30:PySem.W.keepIn K (.ref f30) = true)
  (q1:PySem.W.nsIn K mainGlobals "CROWN" = some (some (.str "" tC)))
  (q2:PySem.W.nsIn K mainGlobals "BOUNDS" = some (some (.ref aB)))
  (q3:PySem.W.nsIn K mainGlobals "Land" = some (some (.ref C)))
  (z1:PySem.W.nsIn K mainGlobals "isinstance" = some none)
  (z2:PySem.W.nsIn K mainGlobals "bool" = some none)
  (z3:PySem.W.nsIn K mainGlobals "int" = some none)
  (z4:PySem.W.nsIn K mainGlobals "str" = some none)
  (z5:PySem.W.nsIn K mainGlobals "list" = some none)
  (z6:PySem.W.nsIn K mainGlobals "tuple" = some none)
  (z7:PySem.W.nsIn K mainGlobals "len" = some none)
  (z8:PySem.W.nsIn K mainGlobals "all" = some none)
  (z9:PySem.W.nsIn K mainGlobals "zip" = some none)
  (z10:PySem.W.nsIn K mainGlobals "range" = some none)
  (z11:PySem.W.nsIn K mainGlobals "sorted" = some none)
  (z12:PySem.W.nsIn K mainGlobals "set" = some none)
  (z13:PySem.W.nsIn K mainGlobals "max" = some none)
  (z14:PySem.W.nsIn K mainGlobals "min" = some none)
  (z15:PySem.W.nsIn K mainGlobals "abs" = some none)
  (z16:PySem.W.nsIn K mainGlobals "sum" = some none)
  (fa_I:PySem.W.findIn K (.ref C) "__init__" = some (some (.ref f_I)))
  (la_I:K.lookup f_I = some ⟨oc_I,od_I,.func (PySem.W.fnOf "__init__" "Land.__init__" (defArgs sInit) (defBody sInit) (defScope sInit) .none kV_I dc_I pm_I an_I cd_I ct_I),sl_I⟩)
  (ca_I:PySem.W.codeIn K cd_I "Land.__init__" = true)
  (ka_I:PySem.W.keepIn K (.ref f_I) = true)
  (ia_I:PySem.W.isFn K (.ref f_I) = true)
  (fa_Th:PySem.W.findIn K (.ref C) "there" = some (some (.ref f_Th)))
  (la_Th:K.lookup f_Th = some ⟨oc_Th,od_Th,.func (PySem.W.fnOf "there" "Land.there" (defArgs sThere) (defBody sThere) (defScope sThere) .none kV_Th dc_Th pm_Th an_Th cd_Th ct_Th),sl_Th⟩)
  (ca_Th:PySem.W.codeIn K cd_Th "Land.there" = true)
  (ka_Th:PySem.W.keepIn K (.ref f_Th) = true)
  (ia_Th:PySem.W.isFn K (.ref f_Th) = true)
  (fa_Es:PySem.W.findIn K (.ref C) "estates" = some (some (.ref f_Es)))
  (la_Es:K.lookup f_Es = some ⟨oc_Es,od_Es,.func (PySem.W.fnOf "estates" "Land.estates" (defArgs sEstates) (defBody sEstates) (defScope sEstates) .none kV_Es dc_Es pm_Es an_Es cd_Es ct_Es),sl_Es⟩)
  (ca_Es:PySem.W.codeIn K cd_Es "Land.estates" = true)
  (ka_Es:PySem.W.keepIn K (.ref f_Es) = true)
  (ia_Es:PySem.W.isFn K (.ref f_Es) = true)
  (fa_Ho:PySem.W.findIn K (.ref C) "holder" = some (some (.ref f_Ho)))
  (la_Ho:K.lookup f_Ho = some ⟨oc_Ho,od_Ho,.func (PySem.W.fnOf "holder" "Land.holder" (defArgs sHolder) (defBody sHolder) (defScope sHolder) .none kV_Ho dc_Ho pm_Ho an_Ho cd_Ho ct_Ho),sl_Ho⟩)
  (ca_Ho:PySem.W.codeIn K cd_Ho "Land.holder" = true)
  (ka_Ho:PySem.W.keepIn K (.ref f_Ho) = true)
  (ia_Ho:PySem.W.isFn K (.ref f_Ho) = true)
  (fa_Lo:PySem.W.findIn K (.ref C) "lord" = some (some (.ref f_Lo)))
  (la_Lo:K.lookup f_Lo = some ⟨oc_Lo,od_Lo,.func (PySem.W.fnOf "lord" "Land.lord" (defArgs sLord) (defBody sLord) (defScope sLord) .none kV_Lo dc_Lo pm_Lo an_Lo cd_Lo ct_Lo),sl_Lo⟩)
  (ca_Lo:PySem.W.codeIn K cd_Lo "Land.lord" = true)
  (ka_Lo:PySem.W.keepIn K (.ref f_Lo) = true)
  (ia_Lo:PySem.W.isFn K (.ref f_Lo) = true)
  (fa_Ow:PySem.W.findIn K (.ref C) "own" = some (some (.ref f_Ow)))
  (la_Ow:K.lookup f_Ow = some ⟨oc_Ow,od_Ow,.func (PySem.W.fnOf "own" "Land.own" (defArgs sOwn) (defBody sOwn) (defScope sOwn) .none kV_Ow dc_Ow pm_Ow an_Ow cd_Ow ct_Ow),sl_Ow⟩)
  (ca_Ow:PySem.W.codeIn K cd_Ow "Land.own" = true)
  (ka_Ow:PySem.W.keepIn K (.ref f_Ow) = true)
  (ia_Ow:PySem.W.isFn K (.ref f_Ow) = true)
  (fa_Br:PySem.W.findIn K (.ref C) "breadth" = some (some (.ref f_Br)))
  (la_Br:K.lookup f_Br = some ⟨oc_Br,od_Br,.func (PySem.W.fnOf "breadth" "Land.breadth" (defArgs sBreadth) (defBody sBreadth) (defScope sBreadth) .none kV_Br dc_Br pm_Br an_Br cd_Br ct_Br),sl_Br⟩)
  (ca_Br:PySem.W.codeIn K cd_Br "Land.breadth" = true)
  (ka_Br:PySem.W.keepIn K (.ref f_Br) = true)
  (ia_Br:PySem.W.isFn K (.ref f_Br) = true)
  (fa_Se:PySem.W.findIn K (.ref C) "service" = some (some (.ref f_Se)))
  (la_Se:K.lookup f_Se = some ⟨oc_Se,od_Se,.func (PySem.W.fnOf "service" "Land.service" (defArgs sService) (defBody sService) (defScope sService) .none kV_Se dc_Se pm_Se an_Se cd_Se ct_Se),sl_Se⟩)
  (ca_Se:PySem.W.codeIn K cd_Se "Land.service" = true)
  (ka_Se:PySem.W.keepIn K (.ref f_Se) = true)
  (ia_Se:PySem.W.isFn K (.ref f_Se) = true)
  (fa_Ch:PySem.W.findIn K (.ref C) "chain" = some (some (.ref f_Ch)))
  (la_Ch:K.lookup f_Ch = some ⟨oc_Ch,od_Ch,.func (PySem.W.fnOf "chain" "Land.chain" (defArgs sChain) (defBody sChain) (defScope sChain) .none kV_Ch dc_Ch pm_Ch an_Ch cd_Ch ct_Ch),sl_Ch⟩)
  (ca_Ch:PySem.W.codeIn K cd_Ch "Land.chain" = true)
  (ka_Ch:PySem.W.keepIn K (.ref f_Ch) = true)
  (ia_Ch:PySem.W.isFn K (.ref f_Ch) = true)
  (fa_He:PySem.W.findIn K (.ref C) "held" = some (some (.ref f_He)))
  (la_He:K.lookup f_He = some ⟨oc_He,od_He,.func (PySem.W.fnOf "held" "Land.held" (defArgs sHeld) (defBody sHeld) (defScope sHeld) .none kV_He dc_He pm_He an_He cd_He ct_He),sl_He⟩)
  (ca_He:PySem.W.codeIn K cd_He "Land.held" = true)
  (ka_He:PySem.W.keepIn K (.ref f_He) = true)
  (ia_He:PySem.W.isFn K (.ref f_He) = true)
  (fa_Un:PySem.W.findIn K (.ref C) "under" = some (some (.ref f_Un)))
  (la_Un:K.lookup f_Un = some ⟨oc_Un,od_Un,.func (PySem.W.fnOf "under" "Land.under" (defArgs sUnder) (defBody sUnder) (defScope sUnder) .none kV_Un dc_Un pm_Un an_Un cd_Un ct_Un),sl_Un⟩)
  (ca_Un:PySem.W.codeIn K cd_Un "Land.under" = true)
  (ka_Un:PySem.W.keepIn K (.ref f_Un) = true)
  (ia_Un:PySem.W.isFn K (.ref f_Un) = true)
  (fa_Fo:PySem.W.findIn K (.ref C) "folk" = some (some (.ref f_Fo)))
  (la_Fo:K.lookup f_Fo = some ⟨oc_Fo,od_Fo,.func (PySem.W.fnOf "folk" "Land.folk" (defArgs sFolk) (defBody sFolk) (defScope sFolk) .none kV_Fo dc_Fo pm_Fo an_Fo cd_Fo ct_Fo),sl_Fo⟩)
  (ca_Fo:PySem.W.codeIn K cd_Fo "Land.folk" = true)
  (ka_Fo:PySem.W.keepIn K (.ref f_Fo) = true)
  (ia_Fo:PySem.W.isFn K (.ref f_Fo) = true)
  (fa_Gr:PySem.W.findIn K (.ref C) "grant" = some (some (.ref f_Gr)))
  (la_Gr:K.lookup f_Gr = some ⟨oc_Gr,od_Gr,.func (PySem.W.fnOf "grant" "Land.grant" (defArgs sGrant) (defBody sGrant) (defScope sGrant) .none kV_Gr dc_Gr pm_Gr an_Gr cd_Gr ct_Gr),sl_Gr⟩)
  (ca_Gr:PySem.W.codeIn K cd_Gr "Land.grant" = true)
  (ka_Gr:PySem.W.keepIn K (.ref f_Gr) = true)
  (ia_Gr:PySem.W.isFn K (.ref f_Gr) = true)
  (fa_Pa:PySem.W.findIn K (.ref C) "part_off" = some (some (.ref f_Pa)))
  (la_Pa:K.lookup f_Pa = some ⟨oc_Pa,od_Pa,.func (PySem.W.fnOf "part_off" "Land.part_off" (defArgs sPartOff) (defBody sPartOff) (defScope sPartOff) .none kV_Pa dc_Pa pm_Pa an_Pa cd_Pa ct_Pa),sl_Pa⟩)
  (ca_Pa:PySem.W.codeIn K cd_Pa "Land.part_off" = true)
  (ka_Pa:PySem.W.keepIn K (.ref f_Pa) = true)
  (ia_Pa:PySem.W.isFn K (.ref f_Pa) = true)
  (fa_Co:PySem.W.findIn K (.ref C) "convey" = some (some (.ref f_Co)))
  (la_Co:K.lookup f_Co = some ⟨oc_Co,od_Co,.func (PySem.W.fnOf "convey" "Land.convey" (defArgs sConvey) (defBody sConvey) (defScope sConvey) .none kV_Co dc_Co pm_Co an_Co cd_Co ct_Co),sl_Co⟩)
  (ca_Co:PySem.W.codeIn K cd_Co "Land.convey" = true)
  (ka_Co:PySem.W.keepIn K (.ref f_Co) = true)
  (ia_Co:PySem.W.isFn K (.ref f_Co) = true)
  (fa_Fa:PySem.W.findIn K (.ref C) "fall_back" = some (some (.ref f_Fa)))
  (la_Fa:K.lookup f_Fa = some ⟨oc_Fa,od_Fa,.func (PySem.W.fnOf "fall_back" "Land.fall_back" (defArgs sFall) (defBody sFall) (defScope sFall) .none kV_Fa dc_Fa pm_Fa an_Fa cd_Fa ct_Fa),sl_Fa⟩)
  (ca_Fa:PySem.W.codeIn K cd_Fa "Land.fall_back" = true)
  (ka_Fa:PySem.W.keepIn K (.ref f_Fa) = true)
  (ia_Fa:PySem.W.isFn K (.ref f_Fa) = true)
  (fa_Ck:PySem.W.findIn K (.ref C) "check_there" = some (some (.ref f_Ck)))
  (la_Ck:K.lookup f_Ck = some ⟨oc_Ck,od_Ck,.func (PySem.W.fnOf "check_there" "Land.check_there" (defArgs sCheck) (defBody sCheck) (defScope sCheck) .none kV_Ck dc_Ck pm_Ck an_Ck cd_Ck ct_Ck),sl_Ck⟩)
  (ca_Ck:PySem.W.codeIn K cd_Ck "Land.check_there" = true)
  (ka_Ck:PySem.W.keepIn K (.ref f_Ck) = true)
  (ia_Ck:PySem.W.isFn K (.ref f_Ck) = true)
  (fa_Ad:PySem.W.findIn K (.ref C) "add_estate" = some (some (.ref f_Ad)))
  (la_Ad:K.lookup f_Ad = some ⟨oc_Ad,od_Ad,.func (PySem.W.fnOf "add_estate" "Land.add_estate" (defArgs sAdd) (defBody sAdd) (defScope sAdd) .none kV_Ad dc_Ad pm_Ad an_Ad cd_Ad ct_Ad),sl_Ad⟩)
  (ca_Ad:PySem.W.codeIn K cd_Ad "Land.add_estate" = true)
  (ka_Ad:PySem.W.keepIn K (.ref f_Ad) = true)
  (ia_Ad:PySem.W.isFn K (.ref f_Ad) = true)
  (pg:PySem.W.plainGet K C Str.empty = true)
  (hd:PySem.W.hasDictIn K C = true)
  (po:PySem.W.plainOver K C = true)
  (sa:PySem.W.findIn K (.ref C) "__setattr__" = some (some (.builtin "object.__setattr__")))
  (na1:PySem.W.findIn K (.ref C) "lord_of" = some none)
  (na2:PySem.W.findIn K (.ref C) "holder_of" = some none)
  (na3:PySem.W.findIn K (.ref C) "own_of" = some none)
  (na4:PySem.W.findIn K (.ref C) "service_of" = some none)
  (na5:PySem.W.findIn K (.ref C) "breadth_of" = some none)
  (mk:PySem.W.makesIn K C = true)
  (kpC:PySem.W.keepIn K (.ref C) = true)
  (kB:K.lookup aB = some ⟨.type "dict",none,.dict esB nB,#[]⟩)
  (eB:EntsAre w.params esB.toList [("day",.ref b1_),("acres",.ref b2_),("service",.ref b3_),("bears",.ref b4_),("edge",.ref b5_),("number",.ref b6_),("entry",.ref b7_)])
  (lB:(aB == sysModules) = false)
  (t_b2_:K.lookup b2_ = some ⟨.type "tuple",dd_b2_,.seq it_b2_ n_b2_,ss_b2_⟩)
  (s_b2_:it_b2_.size≤sizeLine)
  (v_b2_:Vals [.int 1,.int 9999] it_b2_.toList) :
  ∃ fd:FuncData,(∀ (s:Shared) (v:Value),BindsTo s fd ⟨[v],[]⟩ [("_law_script",v)])∧∀ base:Heap,K.In base→base.Ns mainGlobals mg→FnOk l.prog w K mg base CX0 8 fa fd ["_law_script"] (spLaw K):=by
 have e:=hfa.symm.trans (PySem.W.mg_of X G a30)
 cases e
 have F1:=fun_mk (st:=sFits) l1 c1 k1
 have M1:Ms K mg "fits" f1 _ _:=⟨F1.binds (ps:=["sort", "piece"]) fun _ _ _ _ _ _=>onS fun _=>onS fun _=>on0 rfl,k1,PySem.W.mg_of X G a1⟩
 have F2:=fun_mk (st:=sCkA) l2 c2 k2
 have M2:Ms K mg "check_acres" f2 _ _:=⟨F2.binds (ps:=["acres"]) fun _ _ _ _ _ _=>onS fun _=>on0 rfl,k2,PySem.W.mg_of X G a2⟩
 have F3:=fun_mk (st:=sPart) l3 c3 k3
 have M3:Ms K mg "part" f3 _ _:=⟨F3.binds (ps:=["top", "bottom"]) fun _ _ _ _ _ _=>onS fun _=>onS fun _=>on0 rfl,k3,PySem.W.mg_of X G a3⟩
 have F4:=fun_mk (st:=sMinus) l4 c4 k4
 have M4:Ms K mg "minus" f4 _ _:=⟨F4.binds (ps:=["a", "b"]) fun _ _ _ _ _ _=>onS fun _=>onS fun _=>on0 rfl,k4,PySem.W.mg_of X G a4⟩
 have F5:=fun_mk (st:=sGcd) l5 c5 k5
 have M5:Ms K mg "common_measure" f5 _ _:=⟨F5.binds (ps:=["a", "b"]) fun _ _ _ _ _ _=>onS fun _=>onS fun _=>on0 rfl,k5,PySem.W.mg_of X G a5⟩
 have F6:=fun_mk (st:=sFeed) l6 c6 k6
 have M6:Ms K mg "_law_feed" f6 _ _:=⟨F6.binds (ps:=["_law_script", "_law_many"]) fun _ _ _ _ _ _=>onS fun _=>onS fun _=>on0 rfl,k6,PySem.W.mg_of X G a6⟩
 have F7:=fun_mk (st:=sSame) l7 c7 k7
 have M7:Ms K mg "_law_same" f7 _ _:=⟨F7.binds (ps:=["_law_found", "_law_due"]) fun _ _ _ _ _ _=>onS fun _=>onS fun _=>on0 rfl,k7,PySem.W.mg_of X G a7⟩
 have F8:=fun_mk (st:=sLow) l8 c8 k8
 have M8:Ms K mg "_law_low" f8 _ _:=⟨F8.binds (ps:=["_law_top", "_law_bottom"]) fun _ _ _ _ _ _=>onS fun _=>onS fun _=>on0 rfl,k8,PySem.W.mg_of X G a8⟩
 have F9:=fun_mk (st:=sNames) l9 c9 k9
 have M9:Ms K mg "_law_names" f9 _ _:=⟨F9.binds (ps:=["_law_d", "_law_many"]) fun _ _ _ _ _ _=>onS fun _=>onS fun _=>on0 rfl,k9,PySem.W.mg_of X G a9⟩
 have F10:=fun_mk (st:=sBook) l10 c10 k10
 have M10:Ms K mg "_law_book" f10 _ _:=⟨F10.binds (ps:=["_law_acres"]) fun _ _ _ _ _ _=>onS fun _=>on0 rfl,k10,PySem.W.mg_of X G a10⟩
 have F11:=fun_mk (st:=sUnd) l11 c11 k11
 have M11:Ms K mg "_law_under" f11 _ _:=⟨F11.binds (ps:=["_law_book_here", "_law_estate"]) fun _ _ _ _ _ _=>onS fun _=>onS fun _=>on0 rfl,k11,PySem.W.mg_of X G a11⟩
 have F12:=fun_mk (st:=sBrd) l12 c12 k12
 have M12:Ms K mg "_law_breadth" f12 _ _:=⟨F12.binds (ps:=["_law_book_here", "_law_estate"]) fun _ _ _ _ _ _=>onS fun _=>onS fun _=>on0 rfl,k12,PySem.W.mg_of X G a12⟩
 have F13:=fun_mk (st:=sHel) l13 c13 k13
 have M13:Ms K mg "_law_held" f13 _ _:=⟨F13.binds (ps:=["_law_book_here", "_law_man"]) fun _ _ _ _ _ _=>onS fun _=>onS fun _=>on0 rfl,k13,PySem.W.mg_of X G a13⟩
 have F14:=fun_mk (st:=sBnd) l14 c14 k14
 have M14:Ms K mg "_law_bound_to" f14 _ _:=⟨F14.binds (ps:=["_law_book_here", "_law_man"]) fun _ _ _ _ _ _=>onS fun _=>onS fun _=>on0 rfl,k14,PySem.W.mg_of X G a14⟩
 have F15:=fun_mk (st:=sWhy) l15 c15 k15
 have M15:Ms K mg "_law_why" f15 _ _:=⟨F15.binds (ps:=["_law_book_here", "_law_row_here"]) fun _ _ _ _ _ _=>onS fun _=>onS fun _=>on0 rfl,k15,PySem.W.mg_of X G a15⟩
 have F16:=fun_mk (st:=sFal) l16 c16 k16
 have M16:Ms K mg "_law_fall" f16 _ _:=⟨F16.binds (ps:=["_law_book_here", "_law_estate"]) fun _ _ _ _ _ _=>onS fun _=>onS fun _=>on0 rfl,k16,PySem.W.mg_of X G a16⟩
 have F17:=fun_mk (st:=sNew) l17 c17 k17
 have M17:Ms K mg "_law_new" f17 _ _:=⟨F17.binds (ps:=["_law_book_here", "_law_row_here", "_law_lord", "_law_due"]) fun _ _ _ _ _ _=>onS fun _=>onS fun _=>onS fun _=>onS fun _=>on0 rfl,k17,PySem.W.mg_of X G a17⟩
 have F18:=fun_mk (st:=sDo) l18 c18 k18
 have M18:Ms K mg "_law_do" f18 _ _:=⟨F18.binds (ps:=["_law_book_here", "_law_row_here"]) fun _ _ _ _ _ _=>onS fun _=>onS fun _=>on0 rfl,k18,PySem.W.mg_of X G a18⟩
 have F19:=fun_mk (st:=sPools) l19 c19 k19
 have M19:Ms K mg "_law_pools" f19 _ _:=⟨F19.binds (ps:=["_law_feed_here"]) fun _ _ _ _ _ _=>onS fun _=>on0 rfl,k19,PySem.W.mg_of X G a19⟩
 have F20:=fun_mk (st:=sLf) l20 c20 k20
 have M20:Ms K mg "_law_lord_for" f20 _ _:=⟨F20.binds (ps:=["_law_book_here", "_law_men", "_law_man", "_law_number"]) fun _ _ _ _ _ _=>onS fun _=>onS fun _=>onS fun _=>onS fun _=>on0 rfl,k20,PySem.W.mg_of X G a20⟩
 have F21:=fun_mk (st:=sRow) l21 c21 k21
 have M21:Ms K mg "_law_row" f21 _ _:=⟨F21.binds (ps:=["_law_book_here", "_law_pools_here", "_law_d", "_law_day"]) fun _ _ _ _ _ _=>onS fun _=>onS fun _=>onS fun _=>onS fun _=>on0 rfl,k21,PySem.W.mg_of X G a21⟩
 have F22:=fun_mk (st:=sChn) l22 c22 k22
 have M22:Ms K mg "_law_chain" f22 _ _:=⟨F22.binds (ps:=["_law_book_here", "_law_estate"]) fun _ _ _ _ _ _=>onS fun _=>onS fun _=>on0 rfl,k22,PySem.W.mg_of X G a22⟩
 have F23:=fun_mk (st:=sEi) l23 c23 k23
 have M23:Ms K mg "_law_estate_is" f23 _ _:=⟨F23.binds (ps:=["_law_land", "_law_book_here", "_law_estate"]) fun _ _ _ _ _ _=>onS fun _=>onS fun _=>onS fun _=>on0 rfl,k23,PySem.W.mg_of X G a23⟩
 have F24:=fun_mk (st:=sLi) l24 c24 k24
 have M24:Ms K mg "_law_land_is" f24 _ _:=⟨F24.binds (ps:=["_law_land", "_law_book_here"]) fun _ _ _ _ _ _=>onS fun _=>onS fun _=>on0 rfl,k24,PySem.W.mg_of X G a24⟩
 have F25:=fun_mk (st:=sLdo) l25 c25 k25
 have M25:Ms K mg "_law_land_do" f25 _ _:=⟨F25.binds (ps:=["_law_land", "_law_row_here"]) fun _ _ _ _ _ _=>onS fun _=>onS fun _=>on0 rfl,k25,PySem.W.mg_of X G a25⟩
 have F26:=fun_mk (st:=sSome) l26 c26 k26
 have M26:Ms K mg "_law_some_deed" f26 _ _:=⟨F26.binds (ps:=["_law_book_here", "_law_pools_here", "_law_d"]) fun _ _ _ _ _ _=>onS fun _=>onS fun _=>onS fun _=>on0 rfl,k26,PySem.W.mg_of X G a26⟩
 have F27:=fun_mk (st:=sStr) l27 c27 k27
 have M27:Ms K mg "_law_steered" f27 _ _:=⟨F27.binds (ps:=["_law_book_here", "_law_pools_here", "_law_d", "_law_kinds"]) fun _ _ _ _ _ _=>onS fun _=>onS fun _=>onS fun _=>onS fun _=>on0 rfl,k27,PySem.W.mg_of X G a27⟩
 have F28:=fun_mk (st:=sLet) l28 c28 k28
 have M28:Ms K mg "_law_let_by" f28 _ _:=⟨F28.binds (ps:=["_law_book_here", "_law_row_here"]) fun _ _ _ _ _ _=>onS fun _=>onS fun _=>on0 rfl,k28,PySem.W.mg_of X G a28⟩
 have F29:=fun_mk (st:=sPl) l29 c29 k29
 have M29:Ms K mg "_law_played" f29 _ _:=⟨F29.binds (ps:=["_law_land", "_law_book_here", "_law_pools_here", "_law_feed_here", "_law_at", "_law_many", "_law_kinds"]) fun _ _ _ _ _ _=>onS fun _=>onS fun _=>onS fun _=>onS fun _=>onS fun _=>onS fun _=>onS fun _=>on0 rfl,k29,PySem.W.mg_of X G a29⟩
 have F30:=fun_mk (st:=sLaw) l30 c30 k30
 have c_CROWN:=PySem.W.mg_of X G q1
 have c_BOUNDS:=PySem.W.mg_of X G q2
 have c_Land:=PySem.W.mg_of X G q3
 have n_isinstance:=PySem.W.mg_none_of X G z1
 have n_bool:=PySem.W.mg_none_of X G z2
 have n_int:=PySem.W.mg_none_of X G z3
 have n_str:=PySem.W.mg_none_of X G z4
 have n_list:=PySem.W.mg_none_of X G z5
 have n_tuple:=PySem.W.mg_none_of X G z6
 have n_len:=PySem.W.mg_none_of X G z7
 have n_all:=PySem.W.mg_none_of X G z8
 have n_zip:=PySem.W.mg_none_of X G z9
 have n_range:=PySem.W.mg_none_of X G z10
 have n_sorted:=PySem.W.mg_none_of X G z11
 have n_set:=PySem.W.mg_none_of X G z12
 have n_max:=PySem.W.mg_none_of X G z13
 have n_min:=PySem.W.mg_none_of X G z14
 have n_abs:=PySem.W.mg_none_of X G z15
 have n_sum:=PySem.W.mg_none_of X G z16
 refine ⟨PySem.W.fnOf "law" "law" (defArgs sLaw) (defBody sLaw) (defScope sLaw) .none kV30 dc30 pm30 an30 cd30 ct30,fun s v=>.of_eq rfl,fun base _ _=>?_⟩
 have ms:MgS mg:=⟨n_isinstance,n_bool,n_int,n_str,n_list,n_tuple,n_len,n_all,n_zip⟩
 have T:LandC K C:=⟨⟨pg,hd,po,sa⟩,na1,na2,na3,na4,na5⟩
 have mo:Mods K w.params mg:=⟨⟨aB,b1_,b2_,b3_,b4_,b5_,b6_,b7_,c_BOUNDS,⟨⟨_,_,kB,eB⟩,lB⟩,ktp_of t_b2_ s_b2_ v_b2_⟩,⟨tC,c_CROWN⟩⟩
 have F_I:=fun_mk (st:=sInit) la_I ca_I ka_I
 have b_I:=F_I.binds (ps:=["self", "acres"]) fun _ _ _ _ _ _=>onS fun _=>onS fun _=>on0 rfl
 have F_Th:=fun_mk (st:=sThere) la_Th ca_Th ka_Th
 have b_Th:=F_Th.binds (ps:=["self", "estate"]) fun _ _ _ _ _ _=>onS fun _=>onS fun _=>on0 rfl
 have F_Es:=fun_mk (st:=sEstates) la_Es ca_Es ka_Es
 have b_Es:=F_Es.binds (ps:=["self"]) fun _ _ _ _ _ _=>onS fun _=>on0 rfl
 have F_Ho:=fun_mk (st:=sHolder) la_Ho ca_Ho ka_Ho
 have b_Ho:=F_Ho.binds (ps:=["self", "estate"]) fun _ _ _ _ _ _=>onS fun _=>onS fun _=>on0 rfl
 have F_Lo:=fun_mk (st:=sLord) la_Lo ca_Lo ka_Lo
 have b_Lo:=F_Lo.binds (ps:=["self", "estate"]) fun _ _ _ _ _ _=>onS fun _=>onS fun _=>on0 rfl
 have F_Ow:=fun_mk (st:=sOwn) la_Ow ca_Ow ka_Ow
 have b_Ow:=F_Ow.binds (ps:=["self", "estate"]) fun _ _ _ _ _ _=>onS fun _=>onS fun _=>on0 rfl
 have F_Br:=fun_mk (st:=sBreadth) la_Br ca_Br ka_Br
 have b_Br:=F_Br.binds (ps:=["self", "estate"]) fun _ _ _ _ _ _=>onS fun _=>onS fun _=>on0 rfl
 have F_Se:=fun_mk (st:=sService) la_Se ca_Se ka_Se
 have b_Se:=F_Se.binds (ps:=["self", "estate"]) fun _ _ _ _ _ _=>onS fun _=>onS fun _=>on0 rfl
 have F_Ch:=fun_mk (st:=sChain) la_Ch ca_Ch ka_Ch
 have b_Ch:=F_Ch.binds (ps:=["self", "estate"]) fun _ _ _ _ _ _=>onS fun _=>onS fun _=>on0 rfl
 have F_He:=fun_mk (st:=sHeld) la_He ca_He ka_He
 have b_He:=F_He.binds (ps:=["self", "man"]) fun _ _ _ _ _ _=>onS fun _=>onS fun _=>on0 rfl
 have F_Un:=fun_mk (st:=sUnder) la_Un ca_Un ka_Un
 have b_Un:=F_Un.binds (ps:=["self", "estate"]) fun _ _ _ _ _ _=>onS fun _=>onS fun _=>on0 rfl
 have F_Fo:=fun_mk (st:=sFolk) la_Fo ca_Fo ka_Fo
 have b_Fo:=F_Fo.binds (ps:=["self"]) fun _ _ _ _ _ _=>onS fun _=>on0 rfl
 have F_Gr:=fun_mk (st:=sGrant) la_Gr ca_Gr ka_Gr
 have b_Gr:=F_Gr.binds (ps:=["self", "estate", "new", "man", "acres", "service"]) fun _ _ _ _ _ _=>onS fun _=>onS fun _=>onS fun _=>onS fun _=>onS fun _=>onS fun _=>on0 rfl
 have F_Pa:=fun_mk (st:=sPartOff) la_Pa ca_Pa ka_Pa
 have b_Pa:=F_Pa.binds (ps:=["self", "estate", "new", "man", "acres"]) fun _ _ _ _ _ _=>onS fun _=>onS fun _=>onS fun _=>onS fun _=>onS fun _=>on0 rfl
 have F_Co:=fun_mk (st:=sConvey) la_Co ca_Co ka_Co
 have b_Co:=F_Co.binds (ps:=["self", "estate", "man"]) fun _ _ _ _ _ _=>onS fun _=>onS fun _=>onS fun _=>on0 rfl
 have F_Fa:=fun_mk (st:=sFall) la_Fa ca_Fa ka_Fa
 have b_Fa:=F_Fa.binds (ps:=["self", "estate"]) fun _ _ _ _ _ _=>onS fun _=>onS fun _=>on0 rfl
 have F_Ck:=fun_mk (st:=sCheck) la_Ck ca_Ck ka_Ck
 have b_Ck:=F_Ck.binds (ps:=["self", "estate"]) fun _ _ _ _ _ _=>onS fun _=>onS fun _=>on0 rfl
 have F_Ad:=fun_mk (st:=sAdd) la_Ad ca_Ad ka_Ad
 have b_Ad:=F_Ad.binds (ps:=["self", "name", "lord", "holder", "acres", "service"]) fun _ _ _ _ _ _=>onS fun _=>onS fun _=>onS fun _=>onS fun _=>onS fun _=>onS fun _=>on0 rfl
 have G5:=ok_gcd (P:=l.prog) (w:=w) (mg:=mg) (base:=base) F5
 have G3:=ok_part (P:=l.prog) (w:=w) (base:=base) F3 n_abs G5 M5
 have G4:=ok_minus (P:=l.prog) (w:=w) (base:=base) F4 G3 M3
 have G1:=ok_fits (P:=l.prog) (w:=w) (base:=base) F1 mo
 have G2:=ok_ckA (P:=l.prog) (w:=w) (base:=base) F2 G1 M1
 have G_I:=ok_init (P:=l.prog) (w:=w) (base:=base) T F_I mo G2 M2
 have G_Th:=ok_there (P:=l.prog) (w:=w) (mg:=mg) (base:=base) T F_Th
 have G_Ck:=ok_checkT (P:=l.prog) (w:=w) (mg:=mg) (base:=base) T F_Ck G_Th ⟨fa_Th,ia_Th,ka_Th⟩ b_Th
 have G_Ho:=ok_holder (P:=l.prog) (w:=w) (mg:=mg) (base:=base) T F_Ho G_Ck ⟨fa_Ck,ia_Ck,ka_Ck⟩ b_Ck
 have G_Lo:=ok_lord (P:=l.prog) (w:=w) (mg:=mg) (base:=base) T F_Lo G_Ck ⟨fa_Ck,ia_Ck,ka_Ck⟩ b_Ck
 have G_Ow:=ok_own (P:=l.prog) (w:=w) (mg:=mg) (base:=base) T F_Ow G_Ck ⟨fa_Ck,ia_Ck,ka_Ck⟩ b_Ck
 have G_Br:=ok_breadth (P:=l.prog) (w:=w) (mg:=mg) (base:=base) T F_Br G_Ck ⟨fa_Ck,ia_Ck,ka_Ck⟩ b_Ck
 have G_Se:=ok_service (P:=l.prog) (w:=w) (mg:=mg) (base:=base) T F_Se G_Ck ⟨fa_Ck,ia_Ck,ka_Ck⟩ b_Ck
 have G_Ch:=ok_chain (P:=l.prog) (w:=w) (mg:=mg) (base:=base) T F_Ch G_Ck ⟨fa_Ck,ia_Ck,ka_Ck⟩ b_Ck
 have G_Es:=ok_estates (P:=l.prog) (w:=w) (base:=base) T c_CROWN n_sorted F_Es
 have G_He:=ok_held (P:=l.prog) (w:=w) (base:=base) T n_sorted F_He
 have G_Un:=ok_under (P:=l.prog) (w:=w) (base:=base) T n_sorted F_Un G_Ck ⟨fa_Ck,ia_Ck,ka_Ck⟩ b_Ck
 have G_Fo:=ok_folk (P:=l.prog) (w:=w) (base:=base) T n_sorted F_Fo
 have G_Ad:=ok_add (P:=l.prog) (w:=w) (mg:=mg) (base:=base) T F_Ad
 have G_Co:=ok_convey (P:=l.prog) (w:=w) (mg:=mg) (base:=base) T F_Co
 have G_Gr:=ok_grant (P:=l.prog) (w:=w) (mg:=mg) (base:=base) T F_Gr G_Ad ⟨fa_Ad,ia_Ad,ka_Ad⟩ b_Ad
 have G_Fa:=ok_fall (P:=l.prog) (w:=w) (mg:=mg) (base:=base) T F_Fa G_Un ⟨fa_Un,ia_Un,ka_Un⟩ b_Un
 have G_Pa:=ok_partOff (P:=l.prog) (w:=w) (base:=base) T F_Pa G_Ad ⟨fa_Ad,ia_Ad,ka_Ad⟩ b_Ad G3 M3 G4 M4
 have G6:=ok_feed (P:=l.prog) (w:=w) (base:=base) F6 n_range n_len
 have G7:=ok_same (P:=l.prog) (w:=w) (base:=base) F7 ms M7 3
 have G8:=ok_low (P:=l.prog) (w:=w) (base:=base) F8 n_abs
 have G9:=ok_names (P:=l.prog) (w:=w) (base:=base) F9 n_len n_range
 have G10:=ok_book (P:=l.prog) (w:=w) (mg:=mg) (base:=base) F10
 have G11:=ok_und (P:=l.prog) (w:=w) (base:=base) n_sorted F11
 have G13:=ok_hel (P:=l.prog) (w:=w) (base:=base) n_sorted F13
 have G12:=ok_brd (P:=l.prog) (w:=w) (base:=base) F12 G11 M11
 have G14:=ok_bnd (P:=l.prog) (w:=w) (base:=base) F14 G13 M13
 have G22:=ok_chn (P:=l.prog) (w:=w) (mg:=mg) (base:=base) F22
 have G15:=ok_why (P:=l.prog) (w:=w) (mg:=mg) (base:=base) F15
 have G28:=ok_let (P:=l.prog) (w:=w) (base:=base) F28 G15 M15
 have G16:=ok_fl (P:=l.prog) (w:=w) (base:=base) F16 G11 M11
 have G17:=ok_new (P:=l.prog) (w:=w) (mg:=mg) (base:=base) F17
 have G18:=ok_do (P:=l.prog) (w:=w) (base:=base) F18 G17 M17 G12 M12 G8 M8 G16 M16
 have G25:=ok_ldo (P:=l.prog) (w:=w) (base:=base) T F25 G_Gr ⟨fa_Gr,ia_Gr,ka_Gr⟩ b_Gr G_Pa ⟨fa_Pa,ia_Pa,ka_Pa⟩ b_Pa G_Co ⟨fa_Co,ia_Co,ka_Co⟩ b_Co G_Fa ⟨fa_Fa,ia_Fa,ka_Fa⟩ b_Fa
 have G23:=ok_ei (P:=l.prog) (w:=w) (base:=base) T F23 G_Ho ⟨fa_Ho,ia_Ho,ka_Ho⟩ b_Ho G_Lo ⟨fa_Lo,ia_Lo,ka_Lo⟩ b_Lo G_Ow ⟨fa_Ow,ia_Ow,ka_Ow⟩ b_Ow G_Br ⟨fa_Br,ia_Br,ka_Br⟩ b_Br G_Se ⟨fa_Se,ia_Se,ka_Se⟩ b_Se G_Ch ⟨fa_Ch,ia_Ch,ka_Ch⟩ b_Ch G_Th ⟨fa_Th,ia_Th,ka_Th⟩ b_Th G_Un ⟨fa_Un,ia_Un,ka_Un⟩ b_Un G12 M12 G22 M22 G11 M11 G7 M7
 have G24:=ok_li (P:=l.prog) (w:=w) (base:=base) T F24 ms n_sorted n_set G_Es ⟨fa_Es,ia_Es,ka_Es⟩ b_Es G_Fo ⟨fa_Fo,ia_Fo,ka_Fo⟩ b_Fo G_He ⟨fa_He,ia_He,ka_He⟩ b_He G13 M13 G7 M7 G23 M23
 have G19:=ok_pools (P:=l.prog) (w:=w) (base:=base) F19 G9 M9
 have G20:=ok_lf (P:=l.prog) (w:=w) (base:=base) F20 n_len G14 M14
 have G21:=ok_row (P:=l.prog) (w:=w) (base:=base) F21 n_sorted n_list n_len n_max n_min G20 M20
 have G26:=ok_some (P:=l.prog) (w:=w) (base:=base) F26 n_sorted n_list n_len G21 M21
 have G27:=ok_str (P:=l.prog) (w:=w) (base:=base) F27 n_len n_max G26 M26
 have G29:=ok_pl (P:=l.prog) (w:=w) (base:=base) F29 n_range G27 M27 G28 M28 G25 M25 G18 M18
 exact ok_law T F30 n_range n_len n_set n_sum c_Land ⟨mk,fa_I,ia_I,kpC⟩ G6 M6 G19 M19 G_I b_I G10 M10 G29 M29 G24 M24 G_Es ⟨fa_Es,ia_Es,ka_Es⟩ b_Es G_Ow ⟨fa_Ow,ia_Ow,ka_Ow⟩ b_Ow G_Un ⟨fa_Un,ia_Un,ka_Un⟩ b_Un G_Br ⟨fa_Br,ia_Br,ka_Br⟩ b_Br G_Ch ⟨fa_Ch,ia_Ch,ka_Ch⟩ b_Ch G_Lo ⟨fa_Lo,ia_Lo,ka_Lo⟩ b_Lo
theorem walk {l:PySem.W.OpenLaw} {q:Program} {loose:List Str} {XP:(Str→Option Value)→Heap→Prop} {YP:World→Heap→Prop} {d:DefRec} {K:Params→PySem.W.Frag} (hn:l.most = some 63) (hdf:d.params.defaults = [])
  (hY:∀ (w:World) (h:Heap),YP w h→(K w.params).In h)
  (F:∀ (w:World) (mg:Str→Option Value) (fa:Addr) (h:Heap),(K w.params).In h→h.Ns mainGlobals mg→mg d.name = some (.ref fa) →
   ∃ fd:FuncData,(∀ (s:Shared) (u:Value),BindsTo s fd ⟨[u],[]⟩ [("_law_script",u)])∧∀ base:Heap,(K w.params).In base→base.Ns mainGlobals mg→FnOk l.prog w (K w.params) mg base CX0 8 fa fd ["_law_script"] (spLaw (K w.params))) :
  PySem.W.WalkO q loose XP YP l.row.toRowW d [] (fun f vs=>PySem.call f vs) :=
 L2.walk_of (n:=63) (k:=8) (x:="_law_script") (CX:=fun _=>CX0) (sp:=fun w=>spLaw (K w.params)) hn (by decide) hdf ⟨rfl,by decide,by decide⟩ hY F (fun _ _ a ns hl _ hS=>⟨a,ns,rfl,hS,hl,fun _=>rfl⟩) fun _ _ _ _ _ z=>z
end M
def PySem.W.Fast.tw15834941933429281985:Nat:=0
def PySem.W.Fast.tw15469260501419301120:Nat:=0
def PySem.W.Fast.tw8121720977233159276:Nat:=0
def PySem.W.Fast.tw4780372353965374678:Nat:=0
def PySem.W.Fast.tw14023377187149115269:Nat:=0
def PySem.W.Fast.tw1713802267278744298:Nat:=0
def PySem.W.Fast.tw110745317168007614:Nat:=0
def PySem.W.Fast.tw7177151612804861805:Nat:=0
def PySem.W.Fast.tw15976669217005133638:Nat:=0
def PySem.W.Fast.tw4441263345874024809:Nat:=0
def PySem.W.Fast.tw15087616138869936582:Nat:=0
def PySem.W.Fast.tw17925764025460798816:Nat:=0
def PySem.W.Fast.tw1402296315951283587:Nat:=0
def PySem.W.Fast.tw8577385165842978361:Nat:=0
def PySem.W.Fast.tw7472678168591242518:Nat:=0
def PySem.W.Fast.tw2532244185797469136:Nat:=0
def PySem.W.Fast.tw4888224665046427870:Nat:=0
def PySem.W.Fast.tw16908428665256944758:Nat:=0
def PySem.W.Fast.tw17007645170409295988:Nat:=0
def PySem.W.Fast.tw13847739837391252702:Nat:=0
def PySem.W.Fast.tw11329889431143151282:Nat:=0
def PySem.W.Fast.tw2008418528754962414:Nat:=0
def PySem.W.Fast.tw17467296076200305528:Nat:=0
def PySem.W.Fast.tw5543463253775116821:Nat:=0
open PySem PySem.W PyProof.Rows
set_option maxRecDepth 100000 in
set_option maxHeartbeats 0 in
theorem PySem.Challenge.cw_manrent_k11_whole_land_by_a_plain_book_holds : PySem.Challenge.rw_manrent_k11_whole_land_by_a_plain_book.Holds := by
 w_on;o_law;k_head;(case hw=>w_witness2)
 k_fill
 refine M.walk (l:=PySem.Challenge.rw_manrent_k11_whole_land_by_a_plain_book) rfl rfl (fun w h Y=>PySem.W.kIn_of Y) ?F
 case F =>
  intro w mg fa h KX G hmg
  refine' M.all_mk KX G hmg ?a1 ?l1 ?c1 ?k1 ?a2 ?l2 ?c2 ?k2 ?a3 ?l3 ?c3 ?k3 ?a4 ?l4 ?c4 ?k4 ?a5 ?l5 ?c5 ?k5 ?a6 ?l6 ?c6 ?k6 ?a7 ?l7 ?c7 ?k7 ?a8 ?l8 ?c8 ?k8 ?a9 ?l9 ?c9 ?k9 ?a10 ?l10 ?c10 ?k10 ?a11 ?l11 ?c11 ?k11 ?a12 ?l12 ?c12 ?k12 ?a13 ?l13 ?c13 ?k13 ?a14 ?l14 ?c14 ?k14 ?a15 ?l15 ?c15 ?k15 ?a16 ?l16 ?c16 ?k16 ?a17 ?l17 ?c17 ?k17 ?a18 ?l18 ?c18 ?k18 ?a19 ?l19 ?c19 ?k19 ?a20 ?l20 ?c20 ?k20 ?a21 ?l21 ?c21 ?k21 ?a22 ?l22 ?c22 ?k22 ?a23 ?l23 ?c23 ?k23 ?a24 ?l24 ?c24 ?k24 ?a25 ?l25 ?c25 ?k25 ?a26 ?l26 ?c26 ?k26 ?a27 ?l27 ?c27 ?k27 ?a28 ?l28 ?c28 ?k28 ?a29 ?l29 ?c29 ?k29 ?a30 ?l30 ?c30 ?k30 ?q1 ?q2 ?q3 ?z1 ?z2 ?z3 ?z4 ?z5 ?z6 ?z7 ?z8 ?z9 ?z10 ?z11 ?z12 ?z13 ?z14 ?z15 ?z16 ?fa_I ?la_I ?ca_I ?ka_I ?ia_I ?fa_Th ?la_Th ?ca_Th ?ka_Th ?ia_Th ?fa_Es ?la_Es ?ca_Es ?ka_Es ?ia_Es ?fa_Ho ?la_Ho ?ca_Ho ?ka_Ho ?ia_Ho ?fa_Lo ?la_Lo ?ca_Lo ?ka_Lo ?ia_Lo ?fa_Ow ?la_Ow ?ca_Ow ?ka_Ow ?ia_Ow ?fa_Br ?la_Br ?ca_Br ?ka_Br ?ia_Br ?fa_Se ?la_Se ?ca_Se ?ka_Se ?ia_Se ?fa_Ch ?la_Ch ?ca_Ch ?ka_Ch ?ia_Ch ?fa_He ?la_He ?ca_He ?ka_He ?ia_He ?fa_Un ?la_Un ?ca_Un ?ka_Un ?ia_Un ?fa_Fo ?la_Fo ?ca_Fo ?ka_Fo ?ia_Fo ?fa_Gr ?la_Gr ?ca_Gr ?ka_Gr ?ia_Gr ?fa_Pa ?la_Pa ?ca_Pa ?ka_Pa ?ia_Pa ?fa_Co ?la_Co ?ca_Co ?ka_Co ?ia_Co ?fa_Fa ?la_Fa ?ca_Fa ?ka_Fa ?ia_Fa ?fa_Ck ?la_Ck ?ca_Ck ?ka_Ck ?ia_Ck ?fa_Ad ?la_Ad ?ca_Ad ?ka_Ad ?ia_Ad ?pg ?hd ?po ?sa ?na1 ?na2 ?na3 ?na4 ?na5 ?mk ?kpC ?kB ?eB ?lB ?t_b2_ ?s_b2_ ?v_b2_
  (case a1=>k_is);(case l1=>k_is);(case c1=>k_is);(case k1=>k_is)
  (case a2=>k_is);(case l2=>k_is);(case c2=>k_is);(case k2=>k_is)
  (case a3=>k_is);(case l3=>k_is);(case c3=>k_is);(case k3=>k_is)
  (case a4=>k_is);(case l4=>k_is);(case c4=>k_is);(case k4=>k_is)
  (case a5=>k_is);(case l5=>k_is);(case c5=>k_is);(case k5=>k_is)
  (case a6=>k_is);(case l6=>k_is);(case c6=>k_is);(case k6=>k_is)
  (case a7=>k_is);(case l7=>k_is);(case c7=>k_is);(case k7=>k_is)
  (case a8=>k_is);(case l8=>k_is);(case c8=>k_is);(case k8=>k_is)
  (case a9=>k_is);(case l9=>k_is);(case c9=>k_is);(case k9=>k_is)
  (case a10=>k_is);(case l10=>k_is);(case c10=>k_is);(case k10=>k_is)
  (case a11=>k_is);(case l11=>k_is);(case c11=>k_is);(case k11=>k_is)
  (case a12=>k_is);(case l12=>k_is);(case c12=>k_is);(case k12=>k_is)
  (case a13=>k_is);(case l13=>k_is);(case c13=>k_is);(case k13=>k_is)
  (case a14=>k_is);(case l14=>k_is);(case c14=>k_is);(case k14=>k_is)
  (case a15=>k_is);(case l15=>k_is);(case c15=>k_is);(case k15=>k_is)
  (case a16=>k_is);(case l16=>k_is);(case c16=>k_is);(case k16=>k_is)
  (case a17=>k_is);(case l17=>k_is);(case c17=>k_is);(case k17=>k_is)
  (case a18=>k_is);(case l18=>k_is);(case c18=>k_is);(case k18=>k_is)
  (case a19=>k_is);(case l19=>k_is);(case c19=>k_is);(case k19=>k_is)
  (case a20=>k_is);(case l20=>k_is);(case c20=>k_is);(case k20=>k_is)
  (case a21=>k_is);(case l21=>k_is);(case c21=>k_is);(case k21=>k_is)
  (case a22=>k_is);(case l22=>k_is);(case c22=>k_is);(case k22=>k_is)
  (case a23=>k_is);(case l23=>k_is);(case c23=>k_is);(case k23=>k_is)
  (case a24=>k_is);(case l24=>k_is);(case c24=>k_is);(case k24=>k_is)
  (case a25=>k_is);(case l25=>k_is);(case c25=>k_is);(case k25=>k_is)
  (case a26=>k_is);(case l26=>k_is);(case c26=>k_is);(case k26=>k_is)
  (case a27=>k_is);(case l27=>k_is);(case c27=>k_is);(case k27=>k_is)
  (case a28=>k_is);(case l28=>k_is);(case c28=>k_is);(case k28=>k_is)
  (case a29=>k_is);(case l29=>k_is);(case c29=>k_is);(case k29=>k_is)
  (case a30=>k_is);(case l30=>k_is);(case c30=>k_is);(case k30=>k_is)
  (case q1=>k_is);(case q2=>k_is);(case q3=>k_is);(case z1=>k_is)
  (case z2=>k_is);(case z3=>k_is);(case z4=>k_is);(case z5=>k_is)
  (case z6=>k_is);(case z7=>k_is);(case z8=>k_is);(case z9=>k_is)
  (case z10=>k_is);(case z11=>k_is);(case z12=>k_is);(case z13=>k_is)
  (case z14=>k_is);(case z15=>k_is);(case z16=>k_is)
  (case fa_I=>k_is)
  (case la_I=>k_is)
  (case ca_I=>k_is)
  (case ka_I=>k_is)
  (case ia_I=>k_is)
  (case fa_Th=>k_is)
  (case la_Th=>k_is)
  (case ca_Th=>k_is)
  (case ka_Th=>k_is)
  (case ia_Th=>k_is)
  (case fa_Es=>k_is)
  (case la_Es=>k_is)
  (case ca_Es=>k_is)
  (case ka_Es=>k_is)
  (case ia_Es=>k_is)
  (case fa_Ho=>k_is)
  (case la_Ho=>k_is)
  (case ca_Ho=>k_is)
  (case ka_Ho=>k_is)
  (case ia_Ho=>k_is)
  (case fa_Lo=>k_is)
  (case la_Lo=>k_is)
  (case ca_Lo=>k_is)
  (case ka_Lo=>k_is)
  (case ia_Lo=>k_is)
  (case fa_Ow=>k_is)
  (case la_Ow=>k_is)
  (case ca_Ow=>k_is)
  (case ka_Ow=>k_is)
  (case ia_Ow=>k_is)
  (case fa_Br=>k_is)
  (case la_Br=>k_is)
  (case ca_Br=>k_is)
  (case ka_Br=>k_is)
  (case ia_Br=>k_is)
  (case fa_Se=>k_is)
  (case la_Se=>k_is)
  (case ca_Se=>k_is)
  (case ka_Se=>k_is)
  (case ia_Se=>k_is)
  (case fa_Ch=>k_is)
  (case la_Ch=>k_is)
  (case ca_Ch=>k_is)
  (case ka_Ch=>k_is)
  (case ia_Ch=>k_is)
  (case fa_He=>k_is)
  (case la_He=>k_is)
  (case ca_He=>k_is)
  (case ka_He=>k_is)
  (case ia_He=>k_is)
  (case fa_Un=>k_is)
  (case la_Un=>k_is)
  (case ca_Un=>k_is)
  (case ka_Un=>k_is)
  (case ia_Un=>k_is)
  (case fa_Fo=>k_is)
  (case la_Fo=>k_is)
  (case ca_Fo=>k_is)
  (case ka_Fo=>k_is)
  (case ia_Fo=>k_is)
  (case fa_Gr=>k_is)
  (case la_Gr=>k_is)
  (case ca_Gr=>k_is)
  (case ka_Gr=>k_is)
  (case ia_Gr=>k_is)
  (case fa_Pa=>k_is)
  (case la_Pa=>k_is)
  (case ca_Pa=>k_is)
  (case ka_Pa=>k_is)
  (case ia_Pa=>k_is)
  (case fa_Co=>k_is)
  (case la_Co=>k_is)
  (case ca_Co=>k_is)
  (case ka_Co=>k_is)
  (case ia_Co=>k_is)
  (case fa_Fa=>k_is)
  (case la_Fa=>k_is)
  (case ca_Fa=>k_is)
  (case ka_Fa=>k_is)
  (case ia_Fa=>k_is)
  (case fa_Ck=>k_is)
  (case la_Ck=>k_is)
  (case ca_Ck=>k_is)
  (case ka_Ck=>k_is)
  (case ia_Ck=>k_is)
  (case fa_Ad=>k_is)
  (case la_Ad=>k_is)
  (case ca_Ad=>k_is)
  (case ka_Ad=>k_is)
  (case ia_Ad=>k_is)
  (case pg=>k_is)
  (case hd=>k_is)
  (case po=>k_is)
  (case sa=>k_is)
  (case na1=>k_is)
  (case na2=>k_is)
  (case na3=>k_is)
  (case na4=>k_is)
  (case na5=>k_is)
  (case mk=>k_is)
  (case kpC=>k_is)
  (case kB=>k_is)
  (case eB=>exact ⟨⟨⟨_,rfl⟩,rfl,rfl⟩,⟨⟨_,rfl⟩,rfl,rfl⟩,⟨⟨_,rfl⟩,rfl,rfl⟩,⟨⟨_,rfl⟩,rfl,rfl⟩,⟨⟨_,rfl⟩,rfl,rfl⟩,⟨⟨_,rfl⟩,rfl,rfl⟩,⟨⟨_,rfl⟩,rfl,rfl⟩,True.intro⟩)
  (case lB=>rfl)
  (case t_b2_=>k_is)
  (case s_b2_=>exact M.small (Nat.le_of_ble_eq_true rfl))
  (case v_b2_=>exact .cons ⟨_,rfl⟩ (.cons ⟨_,rfl⟩ (.nil)))
