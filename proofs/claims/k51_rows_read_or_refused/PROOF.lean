import PyProof.Rows.All
import Wide.All
import OpenK.AllK
import Wide.FinOn
import Lean
import PyProof.EqAt
import PyProof.EqKinds
import PyProof.TupleCall
import PyProof.P3Eq
import PyProof.NeData
import KE.KTryDeep
import KE.KTryMore
import KE.KIsAll
import PyProof.NsDelKeeps
import PyProof.ExcArgsOwn
import OpenK.KTop
import PyProof.ExcBaseAll.ValueError
import PyProof.EnumMake
import PyProof.Draws
import KE.KSetDisp
import PyProof.SetRoads
import PyProof.StrLawsTight
import PyProof.StrLawsChain
import PyProof.StrCalls2
import KE.KIntText
import PyProof.PassesOwn
import PyProof.ExcInit
import PyProof.InstStoreFacts
import KE.RegKIsAll
import KE.RegKTryMore
import PySem.Challenge.RW_manrent_k51_rows_read_or_refused
set_option Elab.async false
set_option linter.all false
set_option maxRecDepth 100000

namespace L2
open PySem PySem.Spec PyProof.Rows


abbrev Key := Sum Int Str
def keyIs : Key → Value → Bool
  | .inl k, v => Value.isInt k v
  | .inr x, v => Value.isStrOf x v
def keyH (w : World) : Key → Int
  | .inl k => hashInt k
  | .inr x => hashStr w x
theorem keyIs_shape : ∀ {k : Key} {v : Value}, keyIs k v = true → (∃ i t, k = Sum.inl i ∧ v = Value.int i t) ∨ (∃ x t, k = Sum.inr x ∧ v = Value.str x t)
  | .inl i, v, h => by
    obtain ⟨t, e⟩ := Value.isInt_shape (k := i) (v := v) h
    exact .inl ⟨i, t, rfl, e⟩
  | .inr x, v, h => by
    obtain ⟨t, e⟩ := Value.isStrOf_shape (x := x) (v := v) h
    exact .inr ⟨x, t, rfl, e⟩
theorem keyIs_int (i : Int) (t : Tok) : keyIs (.inl i) (.int i t) = true := by simp [keyIs, Value.isInt]
theorem keyIs_str (x : Str) (t : Tok) : keyIs (.inr x) (.str x t) = true := by simp [keyIs, Value.isStrOf]
theorem key_ll (a b : Int) : decide ((Sum.inl a : Key) = Sum.inl b) = (a == b) := by
  by_cases e : a = b
  · subst e; simp
  · have h : ¬ (Sum.inl a : Key) = Sum.inl b := fun q => e (Sum.inl.inj q)
    rw [decide_eq_false h]
    exact (beq_eq_false_iff_ne.mpr e).symm
theorem key_rr (a b : Str) : decide ((Sum.inr a : Key) = Sum.inr b) = decide (a = b) := by
  by_cases e : a = b
  · subst e; simp
  · have h : ¬ (Sum.inr a : Key) = Sum.inr b := fun q => e (Sum.inr.inj q)
    rw [decide_eq_false h, decide_eq_false e]
theorem key_lr (a : Int) (b : Str) : decide ((Sum.inl a : Key) = Sum.inr b) = false := decide_eq_false (fun q => nomatch q)
theorem key_rl (a : Str) (b : Int) : decide ((Sum.inr a : Key) = Sum.inl b) = false := decide_eq_false (fun q => nomatch q)

def mixKind (prog : Program) (w : World) : PySem.KeyKind prog w Key where
  is := keyIs
  hash := keyH w
  inj := fun v a b ha hb => by
    rcases keyIs_shape ha with ⟨i, t, rfl, rfl⟩ | ⟨x, t, rfl, rfl⟩
    · rcases keyIs_shape hb with ⟨j, u, rfl, e⟩ | ⟨y, u, rfl, e⟩
      · injection e with e1 _; rw [e1]
      · exact nomatch e
    · rcases keyIs_shape hb with ⟨j, u, rfl, e⟩ | ⟨y, u, rfl, e⟩
      · exact nomatch e
      · injection e with e1 _; rw [e1]
  byValue := fun k v h => by
    rcases keyIs_shape h with ⟨i, t, rfl, rfl⟩ | ⟨x, t, rfl, rfl⟩ <;> rfl
  pyHash := fun hv h => by
    rcases keyIs_shape hv with ⟨i, t, rfl, rfl⟩ | ⟨x, t, rfl, rfl⟩
    · exact wpAny_pyHash_int h
    · exact wpAny_pyHash_str h
  eqBool := fun hu hv h => by
    rcases keyIs_shape hu with ⟨i, t, rfl, rfl⟩ | ⟨x, t, rfl, rfl⟩
    · rcases keyIs_shape hv with ⟨j, u, rfl, rfl⟩ | ⟨y, u, rfl, rfl⟩
      · rw [key_ll] at h; exact wpAny_eqBool_int h
      · rw [key_lr] at h; exact SeqAt.EqAt.int_str i t y u _ _ _ _ h
    · rcases keyIs_shape hv with ⟨j, u, rfl, rfl⟩ | ⟨y, u, rfl, rfl⟩
      · rw [key_rl] at h; exact SeqAt.EqAt.str_int x t j u _ _ _ _ h
      · rw [key_rr] at h; exact wpAny_eqBool_str h
  «strs» := fun k x t v h => by
    rcases keyIs_shape h with ⟨i, u, rfl, e⟩ | ⟨y, u, rfl, e⟩
    · exact nomatch e
    · injection e with e1 _
      subst e1
      cases v <;> rfl

theorem mixKind_int (prog : Program) (w : World) (i : Int) (t : Tok) : (mixKind prog w).is (.inl i) (.int i t) = true := keyIs_int i t
theorem mixKind_str (prog : Program) (w : World) (x : Str) (t : Tok) : (mixKind prog w).is (.inr x) (.str x t) = true := keyIs_str x t
end L2

namespace L2
open PySem PySem.Spec PyProof.Rows


inductive V where
  | non | bl (b : Bool) | int (i : Int) | str (x : Str) | byt (b : Array UInt8) | flt (b : UInt64) | ref (a : Addr) | ty (n : String)
  deriving DecidableEq

def RelV : V → Value → Prop
  | .non, u => u = Value.none
  | .bl b, u => u = Value.bool b
  | .int i, u => ∃ t, u = Value.int i t
  | .str x, u => ∃ t, u = Value.str x t
  | .byt b, u => ∃ t, u = Value.bytes b t
  | .flt b, u => ∃ t, u = Value.float b t
  | .ref a, u => u = Value.ref a
  | .ty n, u => u = Value.type n

abbrev Vals : List V → List Value → Prop := Paired RelV
theorem Vals.length {xs : List V} {us : List Value} (r : Vals xs us) : xs.length = us.length := Paired.length r
theorem Vals.get : ∀ {xs : List V} {us : List Value} {i : Nat} {x : V}, Vals xs us → xs[i]? = some x → ∃ u, us[i]? = some u ∧ RelV x u
  | _, _, _, _, .nil, e => by simp at e
  | _, _, 0, _, .cons r _, e => by simp at e; subst e; exact ⟨_, rfl, r⟩
  | _, _, i + 1, x, .cons _ t, e => by
    obtain ⟨u, h1, h2⟩ := Vals.get (i := i) (x := x) t (by simpa using e)
    exact ⟨u, by simpa using h1, h2⟩
theorem Vals.set {x : V} {u : Value} (r : RelV x u) : ∀ {xs : List V} {us : List Value} (i : Nat), Vals xs us → Vals (xs.set i x) (us.set i u)
  | _, _, _, .nil => .nil
  | _, _, 0, .cons _ t => .cons r t
  | _, _, i + 1, .cons q t => .cons q (Vals.set r i t)
theorem Vals.append : ∀ {xs ys : List V} {us ws : List Value}, Vals xs us → Vals ys ws → Vals (xs ++ ys) (us ++ ws)
  | _, _, _, _, .nil, s => s
  | _, _, _, _, .cons r t, s => .cons r (Vals.append t s)
theorem Vals.take : ∀ {xs : List V} {us : List Value} (n : Nat), Vals xs us → Vals (xs.take n) (us.take n)
  | _, _, 0, _ => .nil
  | _, _, _ + 1, .nil => .nil
  | _, _, n + 1, .cons r t => .cons r (Vals.take n t)
theorem Vals.drop : ∀ {xs : List V} {us : List Value} (n : Nat), Vals xs us → Vals (xs.drop n) (us.drop n)
  | _, _, 0, r => r
  | _, _, _ + 1, .nil => .nil
  | _, _, n + 1, .cons _ t => Vals.drop n t
def RelO : Option V → Option Value → Prop
  | some v, some u => RelV v u
  | none, none => True
  | _, _ => False
def KV {κ : Type} : List (κ × V) → List (κ × Value) → Prop := Paired fun (p : κ × V) (q : κ × Value) => p.1 = q.1 ∧ RelV p.2 q.2


def kV : Key → V
  | .inl i => .int i
  | .inr x => .str x


inductive HO where
  
  | lst (xs : List V)
  
  | tup (xs : List V)
  
  | dK (kvs : List (Key × V)) | dT (kvs : List (List Key × V))
  
  | set (S : Int → Bool) (n : Nat)
  
  | ins (C dx : Addr) (fs : List (Str × V))
  
  | own (x : Addr)
  
  | xd (fs : List (Str × V))
  
  | met (f x : Addr)
  
  | rng (lo hi : Int)
  
  | frz (o : Obj) (u : HO)
  
  | tbl (ps : Array Value)
  
  | ext (φ : Heap → Prop)

abbrev Hp := Addr → Option HO
def upd (H : Hp) (a : Addr) (o : HO) : Hp := fun b => if b = a then some o else H b
theorem upd_same {H : Hp} {a : Addr} {o : HO} : upd H a o a = some o := by unfold upd; rw [if_pos rfl]
theorem upd_ne {H : Hp} {a b : Addr} {o : HO} (h : b ≠ a) : upd H a o b = H b := by unfold upd; rw [if_neg h]
theorem upd_upd {H : Hp} {a : Addr} {o u : HO} : upd (upd H a o) a u = upd H a u := by
  funext b; unfold upd; split <;> rfl

theorem ne_of_none {H : Hp} {a b : Addr} {o : HO} (h : H a = some o) (h' : H b = none) : a ≠ b := by
  intro e; subst e; rw [h] at h'; cases h'

section
variable (P : Program) (w : World)
def ObjOk (H : Hp) (h : Heap) (a : Addr) : HO → Prop
  | .lst xs => xs.length ≤ sizeLine ∧ ∃ (its : List Value) (n : Nat), Vals xs its ∧ h.get? a = some { cls := .type "list", data := .seq its.toArray n }
  | .tup xs => xs.length ≤ sizeLine ∧ ∃ its : List Value, Vals xs its ∧ IsTup h a its.toArray
  | .dK kvs => kvs.length ≤ sizeLine ∧ (a == sysModules) = false ∧ ∃ vs, KV kvs vs ∧ h.DictOf (mixKind P w) a vs
  | .dT kvs => kvs.length ≤ sizeLine ∧ (a == sysModules) = false ∧ ∃ xs : List (List Key × Addr × Value),
      Paired (fun (p : List Key × V) (q : List Key × Addr × Value) => p.1 = q.1 ∧ H q.2.1 = some (.tup (p.1.map kV)) ∧ RelV p.2 q.2.2) kvs xs ∧
      ∃ o es ep, h.get? a = some o ∧ o.ExactDict ∧ o.data = .dict es ep ∧ es.toList = xs.map (entryOfKey (tupleKind (mixKind P w))) ∧ (xs.map (·.1)).Nodup
  | .set S n => h.SetOf (intKind P w) a S n
  | .ins C dx fs => H dx = some (.own a) ∧ fs.length ≤ 1000 ∧ dx ≠ a ∧ h.get? a = some (PySem.W.instObj C dx) ∧
      ∃ mA, h.Ns1 dx mA ∧ (∀ f, RelO (fs.lookup f) (mA f)) ∧ PySem.Within mA (fs.map (·.1))
  | .own _ => ∃ o, h.get? a = some o
  | .xd fs => ∃ mA, h.Ns1 a mA ∧ ∀ f, RelO (fs.lookup f) (mA f)
  | .rng lo hi => ∃ t u v, h.get? a = some { cls := .type "range", data := .fields #[.int lo t, .int hi u, .int 1 v] }
  | .frz o u => h.get? a = some o ∧ ObjOk H h a u
  | .tbl ps => h.get? a = some { cls := .none, data := .fields ps }
  | .met f x => h.get? a = some (PySem.W.methodObj (.ref f) (.ref x))
  | .ext φ => φ h ∧ (∃ o, h.get? a = some o) ∧ ∀ h1 h2 : Heap, φ h1 → (∀ o, h1.get? a = some o → h2.get? a = some o) → φ h2

def HOk (H : Hp) (h : Heap) : Prop := ∀ a o, H a = some o → ObjOk P w H h a o
end

section
variable {P : Program} {w : World} {H H' : Hp} {h h' : Heap} {a : Addr} {o : HO}
theorem ObjOk.lt (x : ObjOk P w H h a o) : a < h.objs.size := by
  cases o with
  | lst xs => obtain ⟨_, _, _, _, e⟩ := x; exact Heap.lt_size e
  | tup xs => obtain ⟨_, _, _, p⟩ := x; exact p.lt
  | dK kvs => obtain ⟨_, _, _, _, o, _, _, e, _⟩ := x; exact Heap.lt_size e
  | dT kvs => obtain ⟨_, _, _, _, o, _, _, e, _⟩ := x; exact Heap.lt_size e
  | set S n => obtain ⟨o, _, _, _, e, _⟩ := x; exact Heap.lt_size e
  | ins C dx fs => obtain ⟨_, _, _, e, _⟩ := x; exact Heap.lt_size e
  | own y => obtain ⟨_, e⟩ := x; exact Heap.lt_size e
  | xd fs => obtain ⟨_, ⟨_, _, _, e, _⟩, _⟩ := x; exact Heap.lt_size e
  | rng lo hi => obtain ⟨_, _, _, e⟩ := x; exact Heap.lt_size e
  | frz ob u => obtain ⟨e, _⟩ := x; exact Heap.lt_size e
  | tbl ps => exact Heap.lt_size (show h.get? a = some _ from x)
  | met f y => exact Heap.lt_size (show h.get? a = some _ from x)
  | ext φ => obtain ⟨_, ⟨_, e⟩, _⟩ := x; exact Heap.lt_size e
theorem Paired.mapP {α β : Type} {F G : α → β → Prop} : ∀ {l₁ : List α} {l₂ : List β}, Paired F l₁ l₂ → (∀ a b, F a b → G a b) → Paired G l₁ l₂
  | _, _, .nil, _ => .nil
  | _, _, .cons r t, f => .cons (f _ _ r) (Paired.mapP t f)
theorem ObjOk.stay (x : ObjOk P w H h a o) (k : ∀ b u, (b = a ∨ H b = some (.own a)) → h.get? b = some u → h'.get? b = some u)
    (ho : ∀ b, H b = some (.own a) → H' b = some (.own a)) (ht : ∀ b xs, H b = some (.tup xs) → H' b = some (.tup xs)) : ObjOk P w H' h' a o := by
  induction o with
  | lst xs => obtain ⟨z, its, n, r, e⟩ := x; exact ⟨z, its, n, r, k _ _ (.inl rfl) e⟩
  | tup xs => obtain ⟨z, its, r, ob, e, c⟩ := x; exact ⟨z, its, r, ob, k _ _ (.inl rfl) e, c⟩
  | dK kvs => obtain ⟨z, y, vs, r, ob, es, ep, e, c⟩ := x; exact ⟨z, y, vs, r, ob, es, ep, k _ _ (.inl rfl) e, c⟩
  | dT kvs =>
    obtain ⟨z, y, xs, r, ob, es, ep, e, c⟩ := x
    exact ⟨z, y, xs, Paired.mapP r fun p q z => ⟨z.1, ht _ _ z.2.1, z.2.2⟩, ob, es, ep, k _ _ (.inl rfl) e, c⟩
  | set S n => obtain ⟨ob, es, ep, t, e, c⟩ := x; exact ⟨ob, es, ep, t, k _ _ (.inl rfl) e, c⟩
  | ins C dx fs =>
    obtain ⟨d, z, ne, e, mA, ⟨od, es, ep, e2, c⟩, r⟩ := x
    exact ⟨ho _ d, z, ne, k _ _ (.inl rfl) e, mA, ⟨od, es, ep, k _ _ (.inr d) e2, c⟩, r⟩
  | own y => obtain ⟨ob, e⟩ := x; exact ⟨ob, k _ _ (.inl rfl) e⟩
  | xd fs => obtain ⟨mA, ⟨od, es, ep, e, c⟩, r⟩ := x; exact ⟨mA, ⟨od, es, ep, k _ _ (.inl rfl) e, c⟩, r⟩
  | rng lo hi => obtain ⟨t, u, v, e⟩ := x; exact ⟨t, u, v, k _ _ (.inl rfl) e⟩
  | frz ob u ih => obtain ⟨e, q⟩ := x; exact ⟨k _ _ (.inl rfl) e, ih q⟩
  | tbl ps =>
    have e : h.get? a = some { cls := .none, data := .fields ps } := x
    show h'.get? a = some { cls := .none, data := .fields ps }
    exact k a _ (.inl rfl) e
  | met f y =>
    have e : h.get? a = some (PySem.W.methodObj (.ref f) (.ref y)) := x
    show h'.get? a = some (PySem.W.methodObj (.ref f) (.ref y))
    exact k a _ (.inl rfl) e
  | ext φ => obtain ⟨p, ⟨o, e⟩, st⟩ := x; exact ⟨st _ _ p fun o q => k _ _ (.inl rfl) q, ⟨o, k _ _ (.inl rfl) e⟩, st⟩
theorem HOk.lt (x : HOk P w H h) (e : H a = some o) : a < h.objs.size := (x a o e).lt
theorem HOk.fresh (x : HOk P w H h) (e : h.objs.size ≤ a) : H a = none := by
  cases q : H a with
  | none => rfl
  | some u => exact absurd (Nat.lt_of_lt_of_le (x.lt q) e) (Nat.lt_irrefl _)

theorem HOk.kept (x : HOk P w H h) (k : ∀ b u, h.get? b = some u → h'.get? b = some u) : HOk P w H h' := fun a o e =>
  (x a o e).stay (fun b u _ q => k b u q) (fun _ q => q) fun _ _ q => q

theorem HOk.laid (x : HOk P w H h) (k : ∀ b u, h.get? b = some u → h'.get? b = some u) (hp : h.objs.size ≤ a) (new : ObjOk P w (upd H a o) h' a o) : HOk P w (upd H a o) h' := fun b u e => by
  have hn := x.fresh hp
  by_cases hb : b = a
  · subst hb; rw [upd_same] at e; cases e; exact new
  · rw [upd_ne hb] at e
    exact (x b u e).stay (fun c v _ q => k c v q) (fun c q => by rw [upd_ne (ne_of_none q hn)]; exact q) fun c xs q => by rw [upd_ne (ne_of_none q hn)]; exact q
end


def Rd (H : Hp) (a : Addr) (u : HO) : Prop := H a = some u ∨ ∃ o, H a = some (.frz o u)
theorem Rd.ok {P : Program} {w : World} {H : Hp} {h : Heap} {a : Addr} {u : HO} (r : Rd H a u) (x : HOk P w H h) : ObjOk P w H h a u := by
  rcases r with r | ⟨o, r⟩
  · exact x a u r
  · obtain ⟨_, q⟩ := x a _ r
    exact q

def Mut : Option HO → Prop
  | some (.lst _) => True
  | some (.dK _) => True
  | some (.dT _) => True
  | some (.set _ _) => True
  | some (.ins _ _ _) => True
  | some (.ext _) => True
  | _ => False
section
variable {P : Program} {w : World} {H : Hp} {h h' : Heap} {x e : Addr} {o' : HO}

theorem HOk.write (ok : HOk P w H h) (mu : Mut (H x)) (he : e = x ∨ H e = some (.own x)) (k : ∀ b u, b ≠ e → h.get? b = some u → h'.get? b = some u) (heo : ∃ u, h'.get? e = some u)
    (new : ObjOk P w (upd H x o') h' x o') : HOk P w (upd H x o') h' := fun b u q => by
  have nown : ∀ c y, H c = some (.own y) → c ≠ x := fun c y r z => by subst z; rw [r] at mu; exact mu
  have ntup : ∀ c xs, H c = some (.tup xs) → c ≠ x := fun c xs r z => by subst z; rw [r] at mu; exact mu
  by_cases hb : b = x
  · subst hb; rw [upd_same] at q; cases q; exact new
  · rw [upd_ne hb] at q
    by_cases hbe : b = e
    · have q' : H b = some (.own x) := by
        rcases he with z | z
        · exact absurd (hbe.trans z) hb
        · rw [hbe]; exact z
      rw [q] at q'; cases q'
      obtain ⟨v, hv⟩ := heo
      exact ⟨v, by rw [hbe]; exact hv⟩
    · refine (ok b u q).stay (fun c v hc r => k c v ?_ r) (fun c r => by rw [upd_ne (nown c b r)]; exact r) fun c xs r => by rw [upd_ne (ntup c xs r)]; exact r
      rcases hc with rfl | hc
      · exact hbe
      · rintro rfl
        rcases he with z | z
        · exact nown c b hc z
        · rw [hc] at z; cases z; exact hb rfl
end


structure Un (fs ex : List Addr) (H H' : Hp) (h h' : Heap) : Prop where
  keep : ∀ b o, h.get? b = some o → H b = none → b ∉ fs → b ∉ ex → h'.get? b = some o
  slot : ∀ b o, h.get? b = some o → H b = none → b ∈ fs → b ∉ ex → ∃ sl, h'.get? b = some { o with slots := sl }
  free : ∀ b o, h.get? b = some o → H b = none → b ∉ ex → H' b = none
  there : ∀ b o, h.get? b = some o → b ∉ ex → ∃ o', h'.get? b = some o'
  tups : ∀ b xs, H b = some (.tup xs) → H' b = some (.tup xs)
  frzs : ∀ b o u, H b = some (.frz o u) → H' b = some (.frz o u)
  tbls : ∀ b ps, H b = some (.tbl ps) → ∃ more, H' b = some (.tbl (ps ++ more))
section
variable {fs fs' ex ex' : List Addr} {H H1 H2 : Hp} {h h1 h2 h' : Heap} {a x e : Addr} {o : HO}
theorem Un.any (u : Un fs ex H H1 h h1) {b : Addr} {ob : Obj} (q : h.get? b = some ob) (n : H b = none) (hx : b ∉ ex) : ∃ sl, h1.get? b = some { ob with slots := sl } := by
  by_cases hb : b ∈ fs
  · exact u.slot b ob q n hb hx
  · exact ⟨ob.slots, u.keep b ob q n hb hx⟩
theorem Un.kept (k : ∀ b u, h.get? b = some u → h'.get? b = some u) : Un fs ex H H h h' :=
  ⟨fun b ob q _ _ _ => k b ob q, fun b ob q _ _ _ => ⟨ob.slots, k b ob q⟩, fun _ _ _ n _ => n, fun b ob q _ => ⟨ob, k b ob q⟩, fun _ _ q => q, fun _ _ _ q => q, fun _ ps q => ⟨#[], by rw [q]; simp⟩⟩
theorem Un.refl : Un fs ex H H h h := Un.kept fun _ _ q => q
theorem Un.laid (k : ∀ b u, h.get? b = some u → h'.get? b = some u) (hp : h.objs.size ≤ a) (hn : H a = none) : Un fs ex H (upd H a o) h h' where
  keep := fun b u q _ _ _ => k b u q
  slot := fun b u q _ _ _ => ⟨u.slots, k b u q⟩
  free := fun b u q n _ => by rw [upd_ne (Nat.ne_of_lt (Nat.lt_of_lt_of_le (Heap.lt_size q) hp))]; exact n
  there := fun b u q _ => ⟨u, k b u q⟩
  tups := fun b xs q => by rw [upd_ne (ne_of_none q hn)]; exact q
  frzs := fun b u xs q => by rw [upd_ne (ne_of_none q hn)]; exact q
  tbls := fun b ps q => ⟨#[], by rw [upd_ne (ne_of_none q hn), q]; simp⟩
theorem Un.write (mu : Mut (H x)) (he : e = x ∨ H e = some (.own x)) (k : ∀ b u, b ≠ e → h.get? b = some u → h'.get? b = some u) (heo : ∃ u, h'.get? e = some u) : Un fs ex H (upd H x o) h h' := by
  have hx : ∀ b, H b = none → b ≠ x := fun b n z => by subst z; rw [n] at mu; exact mu
  have hb : ∀ b, H b = none → b ≠ e := fun b n z => by
    subst z
    rcases he with r | r
    · exact hx b n r
    · rw [n] at r; cases r
  have hm : ∀ b u, H b = some u → ¬ Mut (some u) → b ≠ x := fun b u q nm z => by subst z; rw [q] at mu; exact nm mu
  refine ⟨fun b u q n _ _ => k b u (hb b n) q, fun b u q n _ _ => ⟨u.slots, k b u (hb b n) q⟩, fun b u q n _ => by rw [upd_ne (hx b n)]; exact n, fun b u q _ => ?_,
    fun b xs q => by rw [upd_ne (hm b _ q fun z => z)]; exact q, fun b u xs q => by rw [upd_ne (hm b _ q fun z => z)]; exact q, fun b ps q => ⟨#[], by rw [upd_ne (hm b _ q fun z => z), q]; simp⟩⟩
  by_cases hbe : b = e
  · subst hbe; exact heo
  · exact ⟨u, k b u hbe q⟩
end


def trk (h : Heap) (H : Hp) : List Addr := (List.range h.objs.size).filter fun a => (H a).isSome
def hidT (h : Heap) (H : Hp) : Heap := PySem.W.hideAll h (trk h H)
theorem hidT_size (h : Heap) (H : Hp) : (hidT h H).objs.size = h.objs.size := PySem.W.hideAll_size _ _
theorem hidT_get {h : Heap} {H : Hp} {b : Addr} {o : Obj} (e : h.get? b = some o) (n : H b = none) : (hidT h H).get? b = some o :=
  PySem.W.hideAll_get _ e fun hm => by
    have q : (H b).isSome = true := (List.mem_filter.mp hm).2
    rw [n] at q; simp at q
theorem of_hidT {h : Heap} {H : Hp} {b : Addr} {o : Obj} (e : (hidT h H).get? b = some o) : h.get? b = some o ∧ H b = none := by
  have e' : h.get? b = some o := PySem.W.of_hideAll (trk h H) e
  refine ⟨e', ?_⟩
  cases q : H b with
  | none => rfl
  | some x =>
    have hm : b ∈ trk h H := List.mem_filter.mpr ⟨List.mem_range.mpr (Heap.lt_size e'), by simp [q]⟩
    have z : (hidT h H).get? b = none := PySem.W.hideAll_none (trk h H) hm
    rw [z] at e; cases e


end L2

namespace L2
open PySem PySem.Spec PyProof.Rows


structure Mod (K : PySem.W.Frag) (mg : Str → Option Value) (base : Heap) : Prop where
  kin : K.In base
  glob : base.Ns mainGlobals mg
  blt : ∃ mb, base.Ns builtinsNs mb ∧ ∀ x : Str, x ≠ "__name__" → mb x = bootBuiltins x
  nolimit : base.NoLimit


structure Cx where
  prog : Program
  w : World
  K : PySem.W.Frag
  mg : Str → Option Value
  base : Heap
  A : Around
  N : List Str
  s₀ : Shared
  H₀ : Hp
  env : Env
  outer : List Env
  stack : List Env
  ex : List Addr
  fn : Str → Bool
  calm : Bool
  pn : List (Addr × Obj)
  xe : Value → Shared → Prop

def frs (l : List Env) : List Addr := l.filterMap (·.frame)
abbrev Cx.fs (X : Cx) : List Addr := frs X.outer

def Vis (sc : Scope) (x : Str) : Prop := sc.names.lookup x = some .local ∨ sc.names.lookup x = some .cell ∨ sc.names.lookup x = some .free
def Loc (sc : Scope) (x : Str) : Prop := sc.names.lookup x = some .local ∨ sc.names.lookup x = some .cell
def Look (env : Env) (h : Heap) (m : Str → Option Value) (x : Str) (u : Value) : Prop :=
  (env.kindOf x = some .local ∧ m x = some u) ∨ ((env.kindOf x = some .cell ∨ env.kindOf x = some .free) ∧ ∃ c, env.cells.lookup x = some c ∧ h.IsCell c (some u))

structure Cx.Ok (X : Cx) : Prop where
  mod : Mod X.K X.mg X.base
  kind : X.env.scope.kind = .function
  glob : X.env.globals = mainGlobals
  blt : X.env.builtins = builtinsNs
  above : X.s₀.heap.objs.size ≤ X.env.locals
  inj : ∀ x y c, X.env.cells.lookup x = some c → X.env.cells.lookup y = some c → x = y
  has : ∀ x, (X.env.kindOf x = some .cell ∨ X.env.kindOf x = some .free) → ∃ c, X.env.cells.lookup x = some c
  cab : ∀ x c, X.fn x = true → X.env.cells.lookup x = some c → X.s₀.heap.objs.size ≤ c
  hd : X.calm = true → X.A.handled = none
  frames : X.A.frames = some X.stack
  stk : X.stack = X.outer ∨ (X.stack = X.env :: X.outer ∧ X.env.frame = some X.env.locals)
  exf : ∀ b ∈ X.ex, b ≠ X.env.locals ∧ ∀ x c, X.env.cells.lookup x = some c → c ≠ b
  bs : ∀ b o, X.base.get? b = some o → X.s₀.heap.get? b = some o ∧ X.H₀ b = none
  bsz : X.base.objs.size ≤ X.s₀.heap.objs.size
  noex : ∀ b o, X.base.get? b = some o → b ∉ X.ex
  exfs : ∀ b ∈ X.ex, b ∉ X.fs
  funs : X.s₀.heap.FunFrames X.base X.outer
  frf : ∀ b ∈ X.fs, X.H₀ b = none

structure Inv (X : Cx) (pins : List (Addr × Obj)) (σ : List (Option V)) (H : Hp) (s : Shared) : Prop where
  ok : X.Ok
  os : s.os = X.s₀.os
  bare : AllBare s.gens
  base : Un X.fs X.ex X.H₀ H X.s₀.heap s.heap
  loc : ∃ m, s.heap.Ns X.env.locals m ∧ ∀ (i : Nat) (x : Str) (v : V), X.N[i]? = some x → σ[i]? = some (some v) → Vis X.env.scope x → ∃ u, RelV v u ∧ Look X.env s.heap m x u
  cell : ∀ x c, X.env.cells.lookup x = some c → ∃ v, s.heap.IsCell c v
  free : H X.env.locals = none
  freeC : ∀ x c, X.env.cells.lookup x = some c → H c = none
  pin : ∀ p ∈ X.pn ++ pins, s.heap.get? p.1 = some p.2 ∧ H p.1 = none ∧ p.1 ≠ X.env.locals ∧ p.1 ∉ X.fs ∧ ∀ v, p.2.data ≠ .cell v
  hok : HOk X.prog X.w H s.heap
  len : σ.length = X.N.length

section
variable {X : Cx} {pins : List (Addr × Obj)} {σ : List (Option V)} {H H' : Hp} {s : Shared} {h' : Heap}

theorem Cx.Ok.nofr (ok : X.Ok) {b : Addr} {o : Obj} (e : X.base.get? b = some o) : b ∉ X.fs := fun hb => by
  have := (ok.funs.mem hb).1
  rw [e] at this; cases this
theorem Inv.bs (I : Inv X pins σ H s) : ∀ b o, X.base.get? b = some o → s.heap.get? b = some o ∧ H b = none := fun b o e =>
  ⟨I.base.keep b o (I.ok.bs b o e).1 (I.ok.bs b o e).2 (I.ok.nofr e) (I.ok.noex b o e), I.base.free b o (I.ok.bs b o e).1 (I.ok.bs b o e).2 (I.ok.noex b o e)⟩
theorem Inv.bk (I : Inv X pins σ H s) : ∀ b o, X.base.get? b = some o → s.heap.get? b = some o := fun b o e => (I.bs b o e).1
theorem Inv.mod (I : Inv X pins σ H s) : Mod X.K X.mg X.base := I.ok.mod
theorem Inv.kIn (I : Inv X pins σ H s) : X.K.In s.heap := I.ok.mod.kin.keeps I.bk
theorem Inv.lt (I : Inv X pins σ H s) : X.env.locals < s.heap.objs.size := let ⟨_, hn, _⟩ := I.loc; hn.lt
theorem Inv.sz (I : Inv X pins σ H s) : X.s₀.heap.objs.size ≤ s.heap.objs.size := Nat.le_trans I.ok.above (Nat.le_of_lt I.lt)
theorem Inv.nofs (I : Inv X pins σ H s) {a : Addr} (h : s.heap.objs.size ≤ a) : a ∉ X.fs := fun hb => by
  obtain ⟨_, o, ho, _⟩ := I.ok.funs.mem hb
  exact absurd (Nat.lt_of_lt_of_le (Heap.lt_size ho) (Nat.le_trans I.sz h)) (Nat.lt_irrefl _)
theorem Inv.cne (I : Inv X pins σ H s) : ∀ x c, X.env.cells.lookup x = some c → c ≠ X.env.locals := fun x c e z => by
  obtain ⟨v, o, ho, hd⟩ := I.cell x c e
  obtain ⟨m, ⟨o', es, ep, ho', hd', _⟩, _⟩ := I.loc
  rw [z, ho'] at ho; cases ho; rw [hd'] at hd; cases hd
theorem Inv.funs (I : Inv X pins σ H s) : s.heap.FunFrames X.base X.outer := by
  have all : ∀ (l : List Env), (∀ b ∈ frs l, b ∈ X.fs) → X.s₀.heap.FunFrames X.base l → s.heap.FunFrames X.base l := by
    intro l
    induction l with
    | nil => intro _ _; trivial
    | cons env r ih =>
      intro hs hl
      obtain ⟨hk, ⟨L, o, hf, hn, ho, hd⟩, hr⟩ := hl
      have hL : L ∈ X.fs := hs L (by unfold frs; rw [List.filterMap_cons, hf]; exact List.mem_cons_self)
      obtain ⟨sl, e⟩ := I.base.slot L o ho (I.ok.frf L hL) hL fun z => I.ok.exfs L z hL
      exact ⟨hk, ⟨L, _, hf, hn, e, hd⟩, ih (fun b hb => hs b (by unfold frs; rw [List.filterMap_cons, hf]; exact List.mem_cons_of_mem _ hb)) hr⟩
  exact all X.outer (fun _ hb => hb) I.ok.funs


theorem Inv.stack (I : Inv X pins σ H s) : s.heap.FunFrames X.base X.stack := by
  rcases I.ok.stk with e | ⟨e, hf⟩
  · rw [e]; exact I.funs
  · rw [e]
    obtain ⟨m, hn, _⟩ := I.loc
    refine .cons (by rw [I.ok.kind]; decide) hf hn ?_ I.funs
    exact Heap.get?_none_of_le (Nat.le_trans I.ok.bsz I.ok.above)
theorem Inv.stkSub (I : Inv X pins σ H s) : ∀ b ∈ frs X.stack, b ∈ X.env.locals :: X.fs := fun b hb => by
  rcases I.ok.stk with e | ⟨e, hf⟩
  · rw [e] at hb; exact List.mem_cons_of_mem _ hb
  · rw [e] at hb
    unfold frs at hb
    rw [List.filterMap_cons, hf] at hb
    exact hb
theorem Inv.stkFree (I : Inv X pins σ H s) : ∀ b ∈ frs X.stack, H b = none := fun b hb => by
  rcases List.mem_cons.mp (I.stkSub b hb) with e | hb
  · rw [e]; exact I.free
  · obtain ⟨_, o, ho, _⟩ := I.ok.funs.mem hb
    exact I.base.free b o ho (I.ok.frf b hb) fun z => I.ok.exfs b z hb


theorem Inv.step {g' : Array GenState} {t' : Nat} {d' : Drawn} {ch : List Addr} (I : Inv X pins σ H s)
    (hch : ∀ b ∈ ch, (b ∈ X.ex ∨ X.s₀.heap.objs.size ≤ b) ∧ b ≠ X.env.locals ∧ (∀ x c, X.env.cells.lookup x = some c → c ≠ b) ∧ ∀ p ∈ X.pn ++ pins, p.1 ≠ b)
    (keep : ∀ b o, b ≠ X.env.locals → b ∉ X.fs → b ∉ ch → s.heap.get? b = some o → H b = none → h'.get? b = some o)
    (slot : ∀ b o, b ≠ X.env.locals → b ∈ X.fs → b ∉ ch → s.heap.get? b = some o → H b = none → ∃ sl, h'.get? b = some { o with slots := sl }) (free : ∀ b o, b ∉ ch → s.heap.get? b = some o → H b = none → H' b = none)
    (there : ∀ b o, b ∉ ch → s.heap.get? b = some o → ∃ o', h'.get? b = some o')
    (tups : ∀ b xs, H b = some (.tup xs) → H' b = some (.tup xs)) (frzs : ∀ b o u, H b = some (.frz o u) → H' b = some (.frz o u)) (tbls : ∀ b ps, H b = some (.tbl ps) → ∃ more, H' b = some (.tbl (ps ++ more)))
    (ns : ∀ m, s.heap.Ns X.env.locals m → h'.Ns X.env.locals m) (hok : HOk X.prog X.w H' h') (hg : AllBare g') :
    Inv X pins σ H' { s with heap := h', gens := g', drawn := d', toks := t' } := by
  have neL : ∀ b o, X.s₀.heap.get? b = some o → b ≠ X.env.locals := fun b o e => Nat.ne_of_lt (Nat.lt_of_lt_of_le (Heap.lt_size e) I.ok.above)
  have neC : ∀ b o, X.s₀.heap.get? b = some o → b ∉ X.ex → b ∉ ch := fun b o e hx hb => by
    rcases (hch b hb).1 with z | z
    · exact hx z
    · exact absurd (Nat.lt_of_lt_of_le (Heap.lt_size e) z) (Nat.lt_irrefl _)
  have cellK : ∀ x c, X.env.cells.lookup x = some c → ∀ v, s.heap.IsCell c v → h'.IsCell c v := fun x c e v ⟨o, ho, hd⟩ => by
    have nch : c ∉ ch := fun z => (hch c z).2.2.1 x c e rfl
    by_cases hc : c ∈ X.fs
    · obtain ⟨sl, q⟩ := slot c o (I.cne x c e) hc nch ho (I.freeC x c e)
      exact ⟨_, q, hd⟩
    · exact ⟨o, keep c o (I.cne x c e) hc nch ho (I.freeC x c e), hd⟩
  refine ⟨I.ok, I.os, hg, ⟨fun b o e n hb hx => ?_, fun b o e n hb hx => ?_, fun b o e n hx => ?_, fun b o e hx => ?_, fun b xs e => tups b xs (I.base.tups b xs e), fun b o xs e => frzs b o xs (I.base.frzs b o xs e), fun b ps e => ?_⟩, ?_, fun x c e => ?_, ?_, fun x c e => ?_, fun p hp => ?_, hok, I.len⟩
  · exact keep b o (neL b o e) hb (neC b o e hx) (I.base.keep b o e n hb hx) (I.base.free b o e n hx)
  · obtain ⟨sl, e1⟩ := I.base.slot b o e n hb hx
    obtain ⟨sl', e2⟩ := slot b _ (neL b o e) hb (neC b o e hx) e1 (I.base.free b o e n hx)
    exact ⟨sl', e2⟩
  · obtain ⟨o', e1⟩ := I.base.there b o e hx
    exact free b o' (neC b o e hx) e1 (I.base.free b o e n hx)
  · obtain ⟨o', e1⟩ := I.base.there b o e hx
    exact there b o' (neC b o e hx) e1
  · obtain ⟨m1, e1⟩ := I.base.tbls b ps e
    obtain ⟨m2, e2⟩ := tbls b _ e1
    exact ⟨m1 ++ m2, by rw [e2, Array.append_assoc]⟩
  · obtain ⟨m, hn, hl⟩ := I.loc
    refine ⟨m, ns m hn, fun i x v e1 e2 e3 => ?_⟩
    obtain ⟨u, r, l⟩ := hl i x v e1 e2 e3
    refine ⟨u, r, ?_⟩
    rcases l with l | ⟨k, c, e, z⟩
    · exact .inl l
    · exact .inr ⟨k, c, e, cellK x c e _ z⟩
  · obtain ⟨v, z⟩ := I.cell x c e
    exact ⟨v, cellK x c e v z⟩
  · obtain ⟨m, ⟨o, _, _, ho, _⟩, _⟩ := I.loc
    exact free _ o (fun z => (hch _ z).2.1 rfl) ho I.free
  · obtain ⟨v, o, ho, hd⟩ := I.cell x c e
    exact free c o (fun z => (hch c z).2.2.1 x c e rfl) ho (I.freeC x c e)
  · obtain ⟨e, n, ne, nf, d⟩ := I.pin p hp
    have nch : p.1 ∉ ch := fun z => (hch p.1 z).2.2.2 p hp rfl
    exact ⟨keep p.1 p.2 ne nf nch e n, free p.1 p.2 nch e n, ne, nf, d⟩

theorem Inv.un {t' : Nat} (I : Inv X pins σ H s) (u : Un X.fs [] H H' s.heap h') (hok : HOk X.prog X.w H' h') : Inv X pins σ H' { s with heap := h', toks := t' } := by
  obtain ⟨m, ⟨o, es, ep, ho, r⟩, _⟩ := id I.loc
  obtain ⟨sl, hL⟩ := u.any ho I.free (by simp)
  exact I.step (g' := s.gens) (d' := s.drawn) (ch := []) (fun _ z => nomatch z) (fun b o _ hb _ e n => u.keep b o e n hb (by simp)) (fun b o _ hb _ e n => u.slot b o e n hb (by simp)) (fun b o _ e n => u.free b o e n (by simp)) (fun b o _ e => u.there b o e (by simp)) u.tups u.frzs u.tbls (fun m' hm => by
    obtain ⟨o', es', ep', ho', r'⟩ := hm
    rw [ho] at ho'; cases ho'
    exact ⟨_, es', ep', hL, r'⟩) hok I.bare

theorem Inv.call {g' : Array GenState} {t' : Nat} {d' : Drawn} {ch : List Addr} (I : Inv X pins σ H s) (u : Un (frs X.stack) ch H H' s.heap h') (hok : HOk X.prog X.w H' h') (hg : AllBare g')
    (hch : ∀ b ∈ ch, (b ∈ X.ex ∨ X.s₀.heap.objs.size ≤ b) ∧ b ≠ X.env.locals ∧ (∀ x c, X.env.cells.lookup x = some c → c ≠ b) ∧ ∀ p ∈ X.pn ++ pins, p.1 ≠ b) :
    Inv X pins σ H' { s with heap := h', gens := g', drawn := d', toks := t' } := by
  obtain ⟨m, ⟨o, es, ep, ho, r⟩, _⟩ := id I.loc
  obtain ⟨sl, hL⟩ := u.any ho I.free fun z => (hch _ z).2.1 rfl
  exact I.step (ch := ch) hch (fun b o hL hb hc e n => u.keep b o e n (fun z => (List.mem_cons.mp (I.stkSub b z)).elim hL hb) hc) (fun b o _ _ hc e n => u.any e n hc) (fun b o hc e n => u.free b o e n hc) (fun b o hc e => u.there b o e hc) u.tups u.frzs u.tbls (fun m' hm => by
    obtain ⟨o', es', ep', ho', r'⟩ := hm
    rw [ho] at ho'; cases ho'
    exact ⟨_, es', ep', hL, r'⟩) hok hg

theorem Inv.turned {t' : Nat} {it : Addr} (I : Inv X pins σ H s) (k : ∀ b o, b ≠ it → s.heap.get? b = some o → h'.get? b = some o) (hn : H it = none) (hL : it ≠ X.env.locals)
    (h1 : it ∈ X.ex ∨ X.s₀.heap.objs.size ≤ it) (h2 : ∀ x c, X.env.cells.lookup x = some c → c ≠ it) (h3 : ∀ p ∈ X.pn ++ pins, p.1 ≠ it) : Inv X pins σ H { s with heap := h', toks := t' } := by
  have nit : ∀ b u, H b = some u → b ≠ it := fun b u e z => by rw [z, hn] at e; cases e
  refine I.step (g' := s.gens) (d' := s.drawn) (ch := [it]) (fun b hb => ?_) (fun b o _ _ hc e _ => k b o (fun z => hc (by simp [z])) e) (fun b o _ _ hc e _ => ⟨o.slots, k b o (fun z => hc (by simp [z])) e⟩) (fun _ _ _ _ n => n)
    (fun b o hc e => ⟨o, k b o (fun z => hc (by simp [z])) e⟩) (fun _ _ e => e) (fun _ _ _ e => e) (fun b ps e => ⟨#[], by rw [e]; simp⟩) (fun m hm => ?_) (fun b u e => ?_) I.bare
  · have e : b = it := by simpa using hb
    subst e
    exact ⟨h1, hL, h2, h3⟩
  · obtain ⟨o, es, ep, ho, r⟩ := hm
    exact ⟨o, es, ep, k _ o (Ne.symm hL) ho, r⟩
  · refine (I.hok b u e).stay (fun c v hc q => k c v ?_ q) (fun _ q => q) fun _ _ q => q
    rcases hc with z | z
    · rw [z]; exact nit b u e
    · exact nit c _ z
theorem Inv.tok (I : Inv X pins σ H s) (t : Nat) : Inv X pins σ H { s with toks := t } := I.un (h' := s.heap) (t' := t) Un.refl I.hok

theorem Inv.kept {t' : Nat} (I : Inv X pins σ H s) (k : ∀ b u, s.heap.get? b = some u → h'.get? b = some u) : Inv X pins σ H { s with heap := h', toks := t' } := I.un (Un.kept k) (I.hok.kept k)

theorem Inv.laid {a : Addr} {o : HO} {t' : Nat} (I : Inv X pins σ H s) (k : ∀ b u, s.heap.get? b = some u → h'.get? b = some u) (hp : s.heap.objs.size ≤ a) (new : ObjOk X.prog X.w (upd H a o) h' a o) :
    Inv X pins σ (upd H a o) { s with heap := h', toks := t' } := I.un (Un.laid k hp (I.hok.fresh hp)) (I.hok.laid k hp new)

theorem Inv.write {x e : Addr} {o : HO} {t' : Nat} (I : Inv X pins σ H s) (mu : Mut (H x)) (he : e = x ∨ H e = some (.own x)) (k : ∀ b u, b ≠ e → s.heap.get? b = some u → h'.get? b = some u) (heo : ∃ u, h'.get? e = some u)
    (new : ObjOk X.prog X.w (upd H x o) h' x o) : Inv X pins σ (upd H x o) { s with heap := h', toks := t' } := I.un (Un.write mu he k heo) (I.hok.write mu he k heo new)

theorem Inv.weak {σ' : List (Option V)} (I : Inv X pins σ H s) (hl : σ'.length = σ.length) (w : ∀ (i : Nat) v, σ'[i]? = some (some v) → σ[i]? = some (some v)) : Inv X pins σ' H s :=
  ⟨I.ok, I.os, I.bare, I.base, let ⟨m, hn, hl'⟩ := I.loc; ⟨m, hn, fun i x v e1 e2 e3 => hl' i x v e1 (w i v e2) e3⟩, I.cell, I.free, I.freeC, I.pin, I.hok, hl.trans I.len⟩
theorem Inv.pins_of {pins' : List (Addr × Obj)} (I : Inv X pins σ H s) (h : ∀ p ∈ pins', s.heap.get? p.1 = some p.2 ∧ H p.1 = none ∧ p.1 ≠ X.env.locals ∧ p.1 ∉ X.fs ∧ ∀ v, p.2.data ≠ .cell v) : Inv X pins' σ H s :=
  ⟨I.ok, I.os, I.bare, I.base, I.loc, I.cell, I.free, I.freeC, fun p hp => (List.mem_append.mp hp).elim (fun z => I.pin p (List.mem_append_left _ z)) (h p), I.hok, I.len⟩

theorem nodup_ix {N : List Str} (hN : N.Nodup) {i j : Nat} {x : Str} (a : N[i]? = some x) (b : N[j]? = some x) : i = j := by
  obtain ⟨h1, e1⟩ := List.getElem?_eq_some_iff.mp a
  obtain ⟨h2, e2⟩ := List.getElem?_eq_some_iff.mp b
  exact (List.getElem_inj hN).mp (e1.trans e2.symm)


theorem store_ok2 {M : Model} {A : Around} {E : Value → Shared → Prop} {i : Nat} {x : Str} {v : V} {u : Value} {Q : Unit → Shared → Prop} (I : Inv X pins σ H s) (hN : X.N.Nodup) (hi : X.N[i]? = some x) (hx : Loc X.env.scope x) (r : RelV v u)
    (h : ∀ s', Inv X pins (σ.set i (some v)) H s' → (∃ a, Heap.SameBut a s.heap s'.heap ∧ (a = X.env.locals ∨ X.env.cells.lookup x = some a)) → Q () s') (hf : X.fn x = true ∨ X.env.scope.names.lookup x = some .local := by first | exact .inl rfl | exact .inr rfl | assumption) : wpAny M A (storeName X.env x u) Q E s := by
  obtain ⟨m, hn, hl⟩ := id I.loc
  have hcls : (X.env.scope.kind == .class || (X.env.scope.kind == .module && X.env.locals != X.env.globals)) = false := by rw [I.ok.kind]; rfl
  have hiσ : i < σ.length := by rw [I.len]; exact (List.getElem?_eq_some_iff.mp hi).1
  have cne := I.cne
  have tracked : ∀ {a : Addr} {h' : Heap}, (∃ o, s.heap.get? a = some o ∧ H a = none) → Heap.SameBut a s.heap h' → HOk X.prog X.w H h' := fun {a h'} ha hs b ob e => by
    obtain ⟨_, _, hfree⟩ := ha
    refine (I.hok b ob e).stay (fun c w' hc q => (hs.2 c ?_).trans q) (fun _ q => q) fun _ _ q => q
    rintro rfl
    rcases hc with rfl | hc
    · rw [hfree] at e; cases e
    · rw [hfree] at hc; cases hc
  rcases hx with hk | hk
  · refine wpAny_storeName_local hk hn (fun h' hn' hs => ?_) hcls
    obtain ⟨oL, _, _, hoL, _⟩ := id hn
    refine h _ ⟨I.ok, I.os, I.bare, ⟨fun b o e n hb hx => ?_, fun b o e n hb hx => ?_, I.base.free, fun b o e hx => ?_, I.base.tups, I.base.frzs, I.base.tbls⟩, ⟨_, hn', fun j y v' e1 e2 e3 => ?_⟩, fun y c e => ?_, I.free, I.freeC, fun p hp => ?_, tracked ⟨oL, hoL, I.free⟩ hs, by simpa using I.len⟩ ⟨_, hs, .inl rfl⟩
    · exact (hs.2 b (Nat.ne_of_lt (Nat.lt_of_lt_of_le (Heap.lt_size e) I.ok.above))).trans (I.base.keep b o e n hb hx)
    · obtain ⟨sl, e1⟩ := I.base.slot b o e n hb hx
      exact ⟨sl, (hs.2 b (Nat.ne_of_lt (Nat.lt_of_lt_of_le (Heap.lt_size e) I.ok.above))).trans e1⟩
    · obtain ⟨o', e1⟩ := I.base.there b o e hx
      exact ⟨o', (hs.2 b (Nat.ne_of_lt (Nat.lt_of_lt_of_le (Heap.lt_size e) I.ok.above))).trans e1⟩
    · by_cases hj : j = i
      · subst hj
        rw [hi] at e1; cases e1
        rw [List.getElem?_set_self hiσ] at e2
        cases e2
        exact ⟨u, r, .inl ⟨hk, by simp⟩⟩
      · rw [List.getElem?_set_ne (Ne.symm hj)] at e2
        obtain ⟨u', r', q⟩ := hl j y v' e1 e2 e3
        refine ⟨u', r', ?_⟩
        rcases q with ⟨k, e⟩ | ⟨k, c, e, z⟩
        · refine .inl ⟨k, ?_⟩
          have : y ≠ x := fun e => hj (nodup_ix hN e1 (e ▸ hi))
          simp [this, e]
        · exact .inr ⟨k, c, e, z.sameBut hs (cne y c e)⟩
    · obtain ⟨w', z⟩ := I.cell y c e
      exact ⟨w', z.sameBut hs (cne y c e)⟩
    · obtain ⟨e, n, ne, nf, d⟩ := I.pin p hp
      exact ⟨(hs.2 p.1 ne).trans e, n, ne, nf, d⟩
  · have hfn : X.fn x = true := by
      rcases hf with z | z
      · exact z
      · rw [z] at hk; cases hk
    obtain ⟨c, hc⟩ := I.ok.has x (.inl hk)
    obtain ⟨w', z⟩ := I.cell x c hc
    refine wpAny_storeName_cell I.ok.kind hk hc z (fun h' hc' hs => ?_)
    obtain ⟨oc, hoc, hocd⟩ := id z
    refine h { s with heap := h' } ⟨I.ok, I.os, I.bare, ⟨fun b o e n hb hx => ?_, fun b o e n hb hx => ?_, I.base.free, fun b o e hx => ?_, I.base.tups, I.base.frzs, I.base.tbls⟩, ⟨m, hn.sameBut hs (Ne.symm (cne x c hc)), fun j y v' e1 e2 e3 => ?_⟩, fun y c' e => ?_, I.free, I.freeC, fun p hp => ?_, tracked ⟨oc, hoc, I.freeC x c hc⟩ hs, by simpa using I.len⟩ ⟨c, hs, .inr hc⟩
    · exact (hs.2 b (Nat.ne_of_lt (Nat.lt_of_lt_of_le (Heap.lt_size e) (I.ok.cab x c hfn hc)))).trans (I.base.keep b o e n hb hx)
    · obtain ⟨sl, e1⟩ := I.base.slot b o e n hb hx
      exact ⟨sl, (hs.2 b (Nat.ne_of_lt (Nat.lt_of_lt_of_le (Heap.lt_size e) (I.ok.cab x c hfn hc)))).trans e1⟩
    · obtain ⟨o', e1⟩ := I.base.there b o e hx
      exact ⟨o', (hs.2 b (Nat.ne_of_lt (Nat.lt_of_lt_of_le (Heap.lt_size e) (I.ok.cab x c hfn hc)))).trans e1⟩
    · by_cases hj : j = i
      · subst hj
        rw [hi] at e1; cases e1
        rw [List.getElem?_set_self hiσ] at e2
        cases e2
        exact ⟨u, r, .inr ⟨.inl hk, c, hc, hc'⟩⟩
      · rw [List.getElem?_set_ne (Ne.symm hj)] at e2
        obtain ⟨u', r', q⟩ := hl j y v' e1 e2 e3
        refine ⟨u', r', ?_⟩
        rcases q with q | ⟨k, c', e, z'⟩
        · exact .inl q
        · refine .inr ⟨k, c', e, z'.sameBut hs ?_⟩
          rintro rfl
          exact hj (nodup_ix hN e1 (I.ok.inj _ _ _ e hc ▸ hi))
    · by_cases hcc : c' = c
      · subst hcc; exact ⟨_, hc'⟩
      · obtain ⟨w2, z2⟩ := I.cell y c' e
        exact ⟨w2, z2.sameBut hs hcc⟩
    · obtain ⟨e, n, ne, nf, d⟩ := I.pin p hp
      refine ⟨(hs.2 p.1 ?_).trans e, n, ne, nf, d⟩
      intro q
      rw [q, hoc] at e
      have q' : oc = p.2 := Option.some.inj e
      exact d w' (by rw [← q']; exact hocd)
theorem store_ok {M : Model} {A : Around} {E : Value → Shared → Prop} {i : Nat} {x : Str} {v : V} {u : Value} {Q : Unit → Shared → Prop} (I : Inv X pins σ H s) (hN : X.N.Nodup) (hi : X.N[i]? = some x) (hx : Loc X.env.scope x) (r : RelV v u)
    (h : ∀ s', Inv X pins (σ.set i (some v)) H s' → Q () s') (hf : X.fn x = true ∨ X.env.scope.names.lookup x = some .local := by first | exact .inl rfl | exact .inr rfl | assumption) : wpAny M A (storeName X.env x u) Q E s :=
  store_ok2 I hN hi hx r (fun s' I' _ => h s' I') hf

theorem Inv.call' {s' : Shared} {ch : List Addr} (I : Inv X pins σ H s) (ho : s'.os = s.os) (u : Un (frs X.stack) ch H H' s.heap s'.heap) (hok : HOk X.prog X.w H' s'.heap) (hg : AllBare s'.gens)
    (hch : ∀ b ∈ ch, (b ∈ X.ex ∨ X.s₀.heap.objs.size ≤ b) ∧ b ≠ X.env.locals ∧ (∀ x c, X.env.cells.lookup x = some c → c ≠ b) ∧ ∀ p ∈ X.pn ++ pins, p.1 ≠ b) : Inv X pins σ H' s' := by
  obtain ⟨h', g', d', t', o'⟩ := s'
  have e : o' = s.os := ho
  subst e
  exact I.call (g' := g') (t' := t') (d' := d') u hok hg hch
end



abbrev XK := Value → Option Addr → Hp → Prop
abbrev St := List (Option V)
abbrev VK := V → Hp → Prop

abbrev TE := St → Hp → VK → Prop
abbrev TT := St → Hp → (Bool → Hp → Prop) → Prop
abbrev TA := St → Hp → (List V → Hp → Prop) → Prop

structure Ends where
  nx : St → Hp → Prop
  rt : VK
  bk : St → Hp → Prop := fun _ _ => False
  ct : St → Hp → Prop := fun _ _ => False
abbrev TS := Ends → St → Hp → Prop

def EP (X : Cx) (pins : List (Addr × Obj)) (σ : St) (Q : VK) (u : Value) (s' : Shared) : Prop := ∃ v H', Inv X pins σ H' s' ∧ RelV v u ∧ Q v H'
def TP (X : Cx) (pins : List (Addr × Obj)) (σ : St) (Q : Bool → Hp → Prop) (b : Bool) (s' : Shared) : Prop := ∃ H', Inv X pins σ H' s' ∧ Q b H'
def AP (X : Cx) (pins : List (Addr × Obj)) (σ : St) (Q : List V → Hp → Prop) (us : List Value) (s' : Shared) : Prop := ∃ vs H', Inv X pins σ H' s' ∧ Vals vs us ∧ Q vs H'
def SP (X : Cx) (pins : List (Addr × Obj)) (D : Ends) (f : Flow) (s' : Shared) : Prop :=
  match f with
  | .next => ∃ σ' H', Inv X pins σ' H' s' ∧ D.nx σ' H'
  | .brk => ∃ σ' H', Inv X pins σ' H' s' ∧ D.bk σ' H'
  | .cont => ∃ σ' H', Inv X pins σ' H' s' ∧ D.ct σ' H'
  | .ret u => ∃ v σ' H', Inv X pins σ' H' s' ∧ RelV v u ∧ D.rt v H'

def PE (X : Cx) (e : Expr) (t : TE) : Prop :=
  ∀ (pins : List (Addr × Obj)) (s : Shared) (σ : St) (H : Hp) (Q : VK), Inv X pins σ H s → t σ H Q → wpAny (model X.prog X.w) X.A (eval e X.env) (EP X pins σ Q) X.xe s
def PT (X : Cx) (e : Expr) (t : TT) : Prop :=
  ∀ (pins : List (Addr × Obj)) (s : Shared) (σ : St) (H : Hp) (Q : Bool → Hp → Prop), Inv X pins σ H s → t σ H Q → wpAny (model X.prog X.w) X.A (isTrue e X.env (eval e X.env)) (TP X pins σ Q) X.xe s

def PW (X : Cx) (e : Expr) (t : TT) : Prop :=
  ∀ (whole : Sem Value) (pins : List (Addr × Obj)) (s : Shared) (σ : St) (H : Hp) (Q : Bool → Hp → Prop), Inv X pins σ H s → t σ H Q → wpAny (model X.prog X.w) X.A (isTrue e X.env whole) (TP X pins σ Q) X.xe s
theorem PW.pt {X : Cx} {e : Expr} {t : TT} (h : PW X e t) : PT X e t := h _

def PA (X : Cx) (es : List Expr) (t : TA) : Prop :=
  ∀ (pos : Pos) (pins : List (Addr × Obj)) (s : Shared) (σ : St) (H : Hp) (Q : List V → Hp → Prop), Inv X pins σ H s → t σ H Q → wpAny (model X.prog X.w) X.A (spliced (backTo pos (starEach es X.env))) (AP X pins σ Q) X.xe s
def PS (X : Cx) (st : Stmt) (t : TS) : Prop :=
  ∀ (pins : List (Addr × Obj)) (s : Shared) (σ : St) (H : Hp) (D : Ends), Inv X pins σ H s → t D σ H → wpAny (model X.prog X.w) X.A (exec st X.env) (SP X pins D) X.xe s
def PSs (X : Cx) (st : List Stmt) (t : TS) : Prop :=
  ∀ (pins : List (Addr × Obj)) (s : Shared) (σ : St) (H : Hp) (D : Ends), Inv X pins σ H s → t D σ H → wpAny (model X.prog X.w) X.A (execs st X.env) (SP X pins D) X.xe s

theorem thn {α : Type} {t : Sem α} {Q Q' : α → Shared → Prop} {M : Model} {A : Around} {E : Value → Shared → Prop} {s : Shared} (h : wpAny M A t Q E s) (hQ : ∀ a s, Q a s → Q' a s) : wpAny M A t Q' E s := wpAny_mono h hQ fun _ _ x => x
end L2

namespace L2
open PySem PySem.Spec PyProof.Rows
section
variable {X : Cx}


def tVar (i : Nat) : TE := fun σ H Q => ∃ v, σ[i]? = some (some v) ∧ Q v H
def tC (v : V) : TE := fun _ H Q => Q v H
theorem pe_var {i : Nat} {x : Str} {pos : Pos} (hN : X.N[i]? = some x) (hv : Vis X.env.scope x) (hd : (x == ("__debug__" : Str)) = false := by decide) (hcd : (x == ("__classdict__" : Str)) = false := by decide) : PE X (.Name x pos) (tVar i) := by
  intro pins s σ H Q I h
  obtain ⟨v, e, h⟩ := h
  obtain ⟨m, hn, hl⟩ := I.loc
  obtain ⟨u, r, l⟩ := hl i x v hN e hv
  have fin : EP X pins σ Q u s := ⟨v, H, I, r, h⟩
  rcases l with ⟨hk, hm⟩ | ⟨hk, c, hc, hcell⟩
  · exact wpAny_Name (wpAny_loadName_local I.ok.kind hk hn hm fin) hd
  · rcases hk with hk | hk
    · exact wpAny_Name (wpAny_loadName_cell I.ok.kind hk hc hcell fin) hd
    · exact wpAny_Name (wpAny_loadName_free I.ok.kind hk hc hcell fin hcd) hd
theorem pe_int {i j pos} : PE X (.Constant (.int i) j pos) (tC (.int i)) := fun _ _ _ H _ I h => wpAny_Constant_int ⟨.int i, H, I.tok _, ⟨_, rfl⟩, h⟩
theorem pe_bl {b j pos} : PE X (.Constant (.bool b) j pos) (tC (.bl b)) := fun _ _ _ H _ I h => Constant_bool ⟨.bl b, H, I, rfl, h⟩
theorem pe_non {j pos} : PE X (.Constant .none j pos) (tC .non) := fun _ _ _ H _ I h => Constant_none ⟨.non, H, I, rfl, h⟩
theorem pe_str {x j pos} : PE X (.Constant (.str x) j pos) (tC (.str x)) := fun _ _ _ H _ I h => Calls.Constant_str ⟨.str x, H, I.tok _, ⟨_, rfl⟩, h⟩


def Gl (X : Cx) (x : Str) : Prop := X.env.kindOf x = some .globalImplicit
theorem ld_glob {E : Value → Shared → Prop} {pins : List (Addr × Obj)} {s : Shared} {σ : St} {H : Hp} {x : Str} {u : Value} {pos : Pos} {Q : Value → Shared → Prop} (I : Inv X pins σ H s) (hg : Gl X x) (hm : X.mg x = some u) (h : Q u s)
    (hd : (x == ("__debug__" : Str)) = false := by decide) : wpAny (model X.prog X.w) X.A (eval (.Name x pos) X.env) Q E s :=
  Calls.Name_function_global I.ok.kind hg (Calls.loadGlobal_global (by rw [I.ok.glob]; exact I.mod.glob.keeps I.bk) hm h) hd
theorem ld_blt {E : Value → Shared → Prop} {pins : List (Addr × Obj)} {s : Shared} {σ : St} {H : Hp} {x : Str} {u : Value} {pos : Pos} {Q : Value → Shared → Prop} (I : Inv X pins σ H s) (hg : Gl X x) (hm : X.mg x = none) (hv : bootBuiltins x = some u) (h : Q u s)
    (hn : x ≠ "__name__" := by decide) (hd : (x == ("__debug__" : Str)) = false := by decide) : wpAny (model X.prog X.w) X.A (eval (.Name x pos) X.env) Q E s := by
  obtain ⟨mb, h1, h2⟩ := I.mod.blt
  exact Calls.Name_function_global I.ok.kind hg (Calls.loadGlobal_builtin (by rw [I.ok.glob]; exact I.mod.glob.keeps I.bk) hm (by rw [I.ok.blt]; exact h1.keeps I.bk) ((h2 x hn).trans hv) h) hd

theorem pe_glob {x : Str} {v : V} {u : Value} {pos : Pos} (hg : Gl X x) (hm : X.mg x = some u) (r : RelV v u) (hd : (x == ("__debug__" : Str)) = false := by decide) : PE X (.Name x pos) (tC v) :=
  fun _ _ _ H _ I h => ld_glob I hg hm ⟨v, H, I, r, h⟩ hd
theorem pe_bltn {x : Str} {v : V} {u : Value} {pos : Pos} (hg : Gl X x) (hm : X.mg x = none) (hv : bootBuiltins x = some u) (r : RelV v u) (hn : x ≠ "__name__" := by decide) (hd : (x == ("__debug__" : Str)) = false := by decide) : PE X (.Name x pos) (tC v) :=
  fun _ _ _ H _ I h => ld_blt I hg hm hv ⟨v, H, I, r, h⟩ hn hd



variable {a b : Expr} {ta tb : TE} {pos : Pos}
def PC (X : Cx) (op : CmpOp) (a b : Expr) (t : TE) : Prop :=
  ∀ (pins : List (Addr × Obj)) (s : Shared) (σ : St) (H : Hp) (Q : VK), Inv X pins σ H s → t σ H Q →
    wpAny (model X.prog X.w) X.A (eval a X.env) (fun v s₁ => wpAny (model X.prog X.w) X.A (eval b X.env) (fun u s₂ => wpAny (model X.prog X.w) X.A (compareOp op v u) (EP X pins σ Q) X.xe s₂) X.xe s₁) X.xe s
theorem nobehind (b : Expr) {op : CmpOp} (h : op ≠ .In) (h2 : op ≠ .NotIn) : behindInMarks op b = false := by
  have e1 : (op == CmpOp.In) = false := by cases op <;> first | rfl | exact absurd rfl h
  have e2 : (op == CmpOp.NotIn) = false := by cases op <;> first | rfl | exact absurd rfl h2
  cases b <;> simp [behindInMarks, e1, e2]
def tIsN (ta : TE) : TE := fun σ H Q => ta σ H fun x H1 => Q (.bl (decide (x = .non))) H1
def tNotN (ta : TE) : TE := fun σ H Q => ta σ H fun x H1 => Q (.bl (!decide (x = .non))) H1
theorem RelV.none_iff {x : V} {v : Value} (r : RelV x v) : (v == Value.none) = decide (x = .non) := by
  cases x with
  | non => cases r; rfl
  | bl _ => cases r; rfl
  | int _ => obtain ⟨t, rfl⟩ := r; rfl
  | str _ => obtain ⟨t, rfl⟩ := r; rfl
  | byt _ => obtain ⟨t, rfl⟩ := r; rfl
  | flt _ => obtain ⟨t, rfl⟩ := r; rfl
  | ref _ => cases r; rfl
  | ty _ => cases r; rfl
theorem pc_isN {j pos'} (ha : PE X a ta) : PC X .Is a (.Constant .none j pos') (tIsN ta) := by
  intro pins s σ H Q I h
  refine thn (ha pins s σ H _ I h) fun v s1 ⟨x, H1, I1, r1, q1⟩ => ?_
  exact Constant_none (is_none_gen ⟨.bl _, H1, I1, by rw [r1.none_iff]; rfl, q1⟩)
theorem pc_notN {j pos'} (ha : PE X a ta) : PC X .IsNot a (.Constant .none j pos') (tNotN ta) := by
  intro pins s σ H Q I h
  refine thn (ha pins s σ H _ I h) fun v s1 ⟨x, H1, I1, r1, q1⟩ => ?_
  exact Constant_none (isnot_none_gen ⟨.bl _, H1, I1, by rw [r1.none_iff]; rfl, q1⟩)

def tB (t : TE) : TT := fun σ H Q => t σ H fun x H1 => ∃ c, x = .bl c ∧ Q c H1
theorem pe_cmp {op : CmpOp} {t : TE} (h : PC X op a b t) (h1 : behindInMarks op b = false := by first | exact nobehind _ (by decide) (by decide) | rfl) : PE X (.Compare a [op] [b] pos) t := fun pins s σ H Q I hw => wpAny_Compare1 (h pins s σ H Q I hw) h1
theorem pt_cmp {op : CmpOp} {t : TE} (h : PC X op a b t) (h1 : behindInMarks op b = false := by first | exact nobehind _ (by decide) (by decide) | rfl) : PT X (.Compare a [op] [b] pos) (tB t) := by
  intro pins s σ H Q I hw
  refine wpAny_isTrue_Compare1 (thn (h pins s σ H _ I hw) fun v s1 h1 => thn h1 fun u s2 h2 => thn h2 fun c s3 ⟨x, H1, I1, r1, q1⟩ => ?_) h1
  obtain ⟨d, rfl, q⟩ := q1
  cases r1
  exact wpAny_truthy_bool ⟨H1, I1, q⟩

theorem pt_val {e : Expr} {t : TE} (h : PE X e t) (he : ∀ whole, isTrue e X.env whole = (do let v ← whole; standAt e.pos; holding [v] (truthy v)) := by intro _; rfl) : PT X e (tB t) := by
  intro pins s σ H Q I hw
  refine isTrue_plain (thn (h pins s σ H _ I hw) fun v s1 ⟨x, H1, I1, r1, q1⟩ => ?_) (he _)
  obtain ⟨d, rfl, q⟩ := q1
  cases r1
  exact wpAny_truthy_bool ⟨H1, I1, q⟩


variable {tA tB' : TT} {rest : List Expr}
def tAnd (t u : TT) : TT := fun σ H Q => t σ H fun c H1 => if c = true then u σ H1 Q else Q false H1
def tOr (t u : TT) : TT := fun σ H Q => t σ H fun c H1 => if c = true then Q true H1 else u σ H1 Q
def tNot (t : TT) : TT := fun σ H Q => t σ H fun c H1 => Q (!c) H1
theorem pw_and1 (ha : PT X a tA) : PW X (.BoolOp .And [a] pos) tA := by
  intro wh pins s σ H Q I h
  refine isTrue_and (thn (ha pins s σ H Q I h) fun c s1 e => ?_)
  cases c with
  | true => exact isTrue_and_nil e
  | false => exact e
theorem pw_or1 (ha : PT X a tA) : PW X (.BoolOp .Or [a] pos) tA := by
  intro wh pins s σ H Q I h
  refine isTrue_or (thn (ha pins s σ H Q I h) fun c s1 e => ?_)
  cases c with
  | false => exact isTrue_or_nil e
  | true => exact e
theorem pw_and (ha : PT X a tA) (hb : PW X (.BoolOp .And (b :: rest) pos) tB') : PW X (.BoolOp .And (a :: b :: rest) pos) (tAnd tA tB') := by
  intro wh pins s σ H Q I h
  refine isTrue_and (thn (ha pins s σ H _ I h) fun c s1 ⟨H1, I1, q1⟩ => ?_)
  cases c with
  | true => exact hb wh pins s1 σ H1 Q I1 q1
  | false => exact ⟨H1, I1, q1⟩
theorem pw_or (ha : PT X a tA) (hb : PW X (.BoolOp .Or (b :: rest) pos) tB') : PW X (.BoolOp .Or (a :: b :: rest) pos) (tOr tA tB') := by
  intro wh pins s σ H Q I h
  refine isTrue_or (thn (ha pins s σ H _ I h) fun c s1 ⟨H1, I1, q1⟩ => ?_)
  cases c with
  | true => exact ⟨H1, I1, q1⟩
  | false => exact hb wh pins s1 σ H1 Q I1 q1
theorem pt_not (ha : PT X a tA) : PT X (.UnaryOp .Not a pos) (tNot tA) := by
  intro pins s σ H Q I h
  exact isTrue_not (ha pins s σ H (fun c H1 => Q (!c) H1) I h)

def tAndV (ta tb : TE) : TE := fun σ H Q => ta σ H fun x H1 => ∃ c, x = .bl c ∧ if c = true then tb σ H1 Q else Q (.bl false) H1
def tOrV (ta tb : TE) : TE := fun σ H Q => ta σ H fun x H1 => ∃ c, x = .bl c ∧ if c = true then Q (.bl true) H1 else tb σ H1 Q
def tNotV (ta : TE) : TE := fun σ H Q => ta σ H fun x H1 => ∃ c, x = .bl c ∧ Q (.bl (!c)) H1
theorem pe_one {op} {t : TE} (h : PE X a t) : PE X (.BoolOp op [a] pos) t := fun pins s σ H Q I hw => BoolOp_one (h pins s σ H Q I hw)
theorem pe_and (ha : PE X a ta) (hb : PE X (.BoolOp .And (b :: rest) pos) tb) : PE X (.BoolOp .And (a :: b :: rest) pos) (tAndV ta tb) := by
  intro pins s σ H Q I h
  refine BoolOp_and (thn (ha pins s σ H _ I h) fun v s1 ⟨x, H1, I1, r1, q1⟩ => ?_)
  obtain ⟨c, rfl, q1⟩ := q1
  cases r1
  refine wpAny_truthy_bool ?_
  cases c with
  | true => exact hb pins s1 σ H1 Q I1 q1
  | false => exact ⟨.bl false, H1, I1, rfl, q1⟩
theorem pe_or (ha : PE X a ta) (hb : PE X (.BoolOp .Or (b :: rest) pos) tb) : PE X (.BoolOp .Or (a :: b :: rest) pos) (tOrV ta tb) := by
  intro pins s σ H Q I h
  refine BoolOp_or (thn (ha pins s σ H _ I h) fun v s1 ⟨x, H1, I1, r1, q1⟩ => ?_)
  obtain ⟨c, rfl, q1⟩ := q1
  cases r1
  refine wpAny_truthy_bool ?_
  cases c with
  | false => exact hb pins s1 σ H1 Q I1 q1
  | true => exact ⟨.bl true, H1, I1, rfl, q1⟩
theorem pe_not (ha : PE X a ta) : PE X (.UnaryOp .Not a pos) (tNotV ta) := by
  intro pins s σ H Q I h
  refine UnaryOp_ (thn (ha pins s σ H _ I h) fun v s1 ⟨x, H1, I1, r1, q1⟩ => ?_)
  obtain ⟨c, rfl, q1⟩ := q1
  cases r1
  exact not_of (wpAny_truthy_bool ⟨.bl (!c), H1, I1, rfl, q1⟩)

def tIf (t : TT) (ta tb : TE) : TE := fun σ H Q => t σ H fun c H1 => if c = true then ta σ H1 Q else tb σ H1 Q
theorem pe_ifExp {c : Expr} (hc : PT X c tA) (ha : PE X a ta) (hb : PE X b tb) : PE X (.IfExp c a b pos) (tIf tA ta tb) := by
  intro pins s σ H Q I h
  refine wpAny_IfExp (thn (hc pins s σ H _ I h) fun d s1 ⟨H1, I1, q1⟩ => ?_)
  cases d with
  | true => exact ha pins s1 σ H1 Q I1 q1
  | false => exact hb pins s1 σ H1 Q I1 q1
end
end L2

namespace L2
open PySem PySem.Spec PyProof.Rows


def SqL (K : PySem.W.Frag) (H : Hp) (a : Addr) (xs : List V) : Prop :=
  Rd H a (.lst xs) ∨
    ∃ (o : Obj) (its : Array Value) (n : Nat), K.lookup a = some o ∧ o.cls = .type "list" ∧ o.dict = none ∧ o.data = .seq its n ∧ its.size ≤ sizeLine ∧ Vals xs its.toList
def SqT (K : PySem.W.Frag) (H : Hp) (a : Addr) (xs : List V) : Prop :=
  Rd H a (.tup xs) ∨
    ∃ (o : Obj) (its : Array Value) (n : Nat), K.lookup a = some o ∧ o.cls = .type "tuple" ∧ o.data = .seq its n ∧ its.size ≤ sizeLine ∧ Vals xs its.toList
def absV : Value → Option V
  | .none => some .non
  | .bool b => some (.bl b)
  | .int i _ => some (.int i)
  | .str x _ => some (.str x)
  | .bytes b _ => some (.byt b)
  | .float b _ => some (.flt b)
  | .ref a => some (.ref a)
  | .type n => some (.ty n)
  | _ => none
theorem RelV.abs {x : V} {u : Value} (r : RelV x u) : absV u = some x := by
  cases x with
  | non => cases r; rfl
  | bl _ => cases r; rfl
  | int _ => obtain ⟨t, rfl⟩ := r; rfl
  | str _ => obtain ⟨t, rfl⟩ := r; rfl
  | byt _ => obtain ⟨t, rfl⟩ := r; rfl
  | flt _ => obtain ⟨t, rfl⟩ := r; rfl
  | ref _ => cases r; rfl
  | ty _ => cases r; rfl
theorem RelV.inj {x y : V} {u : Value} (r : RelV x u) (q : RelV y u) : x = y := Option.some.inj (r.abs.symm.trans q.abs)
theorem Vals.inj : ∀ {xs ys : List V} {us : List Value}, Vals xs us → Vals ys us → xs = ys
  | _, _, _, .nil, .nil => rfl
  | _, _, _, .cons r t, .cons r' t' => by rw [r.inj r', Vals.inj t t']
section
variable {X : Cx} {pins : List (Addr × Obj)} {σ : St} {H : Hp} {s : Shared} {a : Addr} {xs ys : List V}
theorem SqL.of {K : PySem.W.Frag} (h : H a = some (.lst xs)) : SqL K H a xs := .inl (.inl h)
theorem SqT.of {K : PySem.W.Frag} (h : H a = some (.tup xs)) : SqT K H a xs := .inl (.inl h)
theorem Inv.list (I : Inv X pins σ H s) (h : SqL X.K H a xs) : ∃ its : List Value, Vals xs its ∧ PlainL s.heap a its.toArray ∧ xs.length ≤ sizeLine := by
  rcases h with h | ⟨o, its, n, hk, hc, hd, hs, hz, r⟩
  · obtain ⟨z, its, n, r, e⟩ := h.ok I.hok
    exact ⟨its, r, ⟨_, n, e, rfl, rfl, rfl⟩, z⟩
  · refine ⟨its.toList, r, ⟨o, n, I.kIn a o hk, hc, hd, by simpa using hs⟩, ?_⟩
    have e := r.length
    simp only [Array.length_toList] at e
    omega
theorem Inv.tuple (I : Inv X pins σ H s) (h : SqT X.K H a xs) : ∃ its : List Value, Vals xs its ∧ IsTup s.heap a its.toArray ∧ xs.length ≤ sizeLine := by
  rcases h with h | ⟨o, its, n, hk, hc, hs, hz, r⟩
  · obtain ⟨z, its, r, p⟩ := h.ok I.hok
    exact ⟨its, r, p, z⟩
  · refine ⟨its.toList, r, ⟨o, I.kIn a o hk, hc, n, by simpa using hs⟩, ?_⟩
    have e := r.length
    simp only [Array.length_toList] at e
    omega
theorem Inv.list_inj (I : Inv X pins σ H s) (h : SqL X.K H a xs) (h' : SqL X.K H a ys) : xs = ys := by
  obtain ⟨its, r, ⟨o, n, e, _, _, d⟩, _⟩ := I.list h
  obtain ⟨its', r', ⟨o', n', e', _, _, d'⟩, _⟩ := I.list h'
  rw [e] at e'; cases e'
  rw [d] at d'
  injection d' with d1 _
  have : its = its' := by simpa using congrArg Array.toList d1
  subst this
  exact r.inj r'
theorem Inv.tuple_inj (I : Inv X pins σ H s) (h : SqT X.K H a xs) (h' : SqT X.K H a ys) : xs = ys := by
  obtain ⟨its, r, ⟨o, e, _, n, d⟩, _⟩ := I.tuple h
  obtain ⟨its', r', ⟨o', e', _, n', d'⟩, _⟩ := I.tuple h'
  rw [e] at e'; cases e'
  rw [d] at d'
  injection d' with d1 _
  have : its = its' := by simpa using congrArg Array.toList d1
  subst this
  exact r.inj r'
end


abbrev Cx.wish (X : Cx) (E : Value → Shared → Prop) : Cx := { X with xe := E }

abbrev Cx.nox (X : Cx) : Cx := X.wish fun _ _ => False
theorem Cx.Ok.wish {X : Cx} (ok : X.Ok) (E : Value → Shared → Prop) : (X.wish E).Ok :=
  ⟨ok.mod, ok.kind, ok.glob, ok.blt, ok.above, ok.inj, ok.has, ok.cab, ok.hd, ok.frames, ok.stk, ok.exf, ok.bs, ok.bsz, ok.noex, ok.exfs, ok.funs, ok.frf⟩
theorem Cx.Ok.unwish {X : Cx} {E : Value → Shared → Prop} (ok : (X.wish E).Ok) : X.Ok :=
  ⟨ok.mod, ok.kind, ok.glob, ok.blt, ok.above, ok.inj, ok.has, ok.cab, ok.hd, ok.frames, ok.stk, ok.exf, ok.bs, ok.bsz, ok.noex, ok.exfs, ok.funs, ok.frf⟩
section
variable {X : Cx} {pins : List (Addr × Obj)} {σ : St} {H : Hp} {s : Shared} {E : Value → Shared → Prop}
theorem Inv.wish (I : Inv X pins σ H s) (E : Value → Shared → Prop) : Inv (X.wish E) pins σ H s := ⟨I.ok.wish E, I.os, I.bare, I.base, I.loc, I.cell, I.free, I.freeC, I.pin, I.hok, I.len⟩
theorem Inv.unwish (I : Inv (X.wish E) pins σ H s) : Inv X pins σ H s := ⟨I.ok.unwish, I.os, I.bare, I.base, I.loc, I.cell, I.free, I.freeC, I.pin, I.hok, I.len⟩
theorem SP.unwish {D : Ends} {f : Flow} {s' : Shared} (h : SP (X.wish E) pins D f s') : SP X pins D f s' := by
  cases f with
  | next => obtain ⟨σ', H', I, q⟩ := h; exact ⟨σ', H', I.unwish, q⟩
  | brk => obtain ⟨σ', H', I, q⟩ := h; exact ⟨σ', H', I.unwish, q⟩
  | cont => obtain ⟨σ', H', I, q⟩ := h; exact ⟨σ', H', I.unwish, q⟩
  | ret u => obtain ⟨v, σ', H', I, r, q⟩ := h; exact ⟨v, σ', H', I.unwish, r, q⟩
theorem PSs.nox {st : List Stmt} {t : TS} (h : PSs X.nox st t) : PSs X st t := fun pins s σ H D I hw =>
  wpAny_mono (h pins s σ H D (I.wish _) hw) (fun _ _ q => q.unwish) fun _ _ z => False.elim z
end


section
variable {X : Cx} {st : Stmt} {rest : List Stmt} {t u : TS} {e : Expr} {te : TE} {pos : Pos}
def tNext : TS := fun D σ H => D.nx σ H
def tSeq (t u : TS) : TS := fun D σ H => t { D with nx := u D } σ H
theorem pss_nil : PSs X [] tNext := fun _ _ σ H _ I h => wpAny_execs_nil ⟨σ, H, I, h⟩
theorem pss_cons (h1 : PS X st t) (h2 : PSs X rest u) : PSs X (st :: rest) (tSeq t u) := by
  intro pins s σ H D I h
  refine wpAny_execs_cons (thn (h1 pins s σ H { D with nx := u D } I h) fun f s1 q => ?_)
  cases f with
  | next =>
    obtain ⟨σ', H', I', q⟩ := q
    exact h2 pins s1 σ' H' D I' q
  | ret v => exact q
  | brk => exact q
  | cont => exact q
theorem pss_one (h1 : PS X st t) : PSs X [st] t := by
  intro pins s σ H D I h
  refine wpAny_execs_cons (thn (h1 pins s σ H D I h) fun f s1 q => ?_)
  cases f with
  | next => exact wpAny_execs_nil q
  | ret v => exact q
  | brk => exact q
  | cont => exact q
theorem Inv.quiet {pins : List (Addr × Obj)} {σ : St} {H : Hp} {s : Shared} (I : Inv X pins σ H s) : interactive X.env = false := by simp [interactive, I.ok.kind]

def tDrop (te : TE) : TS := fun D σ H => te σ H fun _ H1 => D.nx σ H1
theorem ps_expr (he : PE X e te) (hs : swapsWith e none pos.line X.env = pure false := by rfl) : PS X (.Expr e pos) (tDrop te) := by
  intro pins s σ H D I h
  exact wpAny_Expr_any (thn (he pins s σ H _ I h) fun v s1 ⟨x, H1, I1, r1, q1⟩ => ⟨σ, H1, I1, q1⟩) I.quiet hs
def tRet (te : TE) : TS := fun D σ H => te σ H D.rt
theorem ps_ret (he : PE X e te) : PS X (.Return (some e) pos) (tRet te) := by
  intro pins s σ H D I h
  exact wpAny_Return_some (thn (he pins s σ H _ I h) fun v s1 ⟨x, H1, I1, r1, q1⟩ => ⟨x, σ, H1, I1, r1, q1⟩)
def tIfS (c : TT) (t u : TS) : TS := fun D σ H => c σ H fun b H1 => if b = true then t D σ H1 else u D σ H1
theorem ps_if {c : Expr} {a b : List Stmt} {tc : TT} (hc : PT X c tc) (ha : PSs X a t) (hb : PSs X b u) : PS X (.If c a b pos) (tIfS tc t u) := by
  intro pins s σ H D I h
  refine wpAny_If (thn (hc pins s σ H _ I h) fun d s1 ⟨H1, I1, q1⟩ => ?_)
  cases d with
  | true => exact ha pins s1 σ H1 D I1 q1
  | false => exact hb pins s1 σ H1 D I1 q1

def tNever : TS := fun _ _ _ => False
theorem pss_never {sts : List Stmt} : PSs X sts tNever := fun _ _ _ _ _ _ h => h.elim
end


abbrev TG := V → St → Hp → (St → Hp → Prop) → Prop
abbrev TGs := List V → St → Hp → (St → Hp → Prop) → Prop
def PG (X : Cx) (target : Expr) (t : TG) : Prop :=
  ∀ (pins : List (Addr × Obj)) (s : Shared) (σ : St) (H : Hp) (v : V) (u : Value) (Q : St → Hp → Prop), Inv X pins σ H s → RelV v u → t v σ H Q →
    wpAny (model X.prog X.w) X.A (assign target X.env u) (fun _ s' => ∃ σ' H', Inv X pins σ' H' s' ∧ Q σ' H') X.xe s

def PGs (X : Cx) (ts : List Expr) (t : TGs) : Prop :=
  ∀ (pins : List (Addr × Obj)) (s : Shared) (σ : St) (H : Hp) (vs : List V) (us : List Value) (Q : St → Hp → Prop), Inv X pins σ H s → Vals vs us → t vs σ H Q →
    wpAny (model X.prog X.w) X.A (assignInOrder ((assignEach ts X.env).map (·.2)) us) (fun _ s' => ∃ σ' H', Inv X pins σ' H' s' ∧ Q σ' H') X.xe s

abbrev TSet := V → V → V → Hp → (Hp → Prop) → Prop
def PSet (X : Cx) (t : TSet) : Prop :=
  ∀ (pins : List (Addr × Obj)) (s : Shared) (σ : St) (H : Hp) (o i v : V) (ov iv u : Value) (Q : Hp → Prop), Inv X pins σ H s → RelV o ov → RelV i iv → RelV v u → t o i v H Q →
    wpAny (model X.prog X.w) X.A (setItem ov iv u) (fun _ s' => ∃ H', Inv X pins σ H' s' ∧ Q H') X.xe s

section
variable {X : Cx} {pos : Pos}
def gName (i : Nat) : TG := fun v σ H Q => Q (σ.set i (some v)) H
theorem pg_name {i : Nat} {x : Str} (hN : X.N.Nodup) (hi : X.N[i]? = some x) (hx : Loc X.env.scope x) (hf : X.fn x = true ∨ X.env.scope.names.lookup x = some .local := by first | exact .inl rfl | exact .inr rfl | assumption) : PG X (.Name x pos) (gName i) := by
  intro pins s σ H v u Q I r h
  exact wpAny_assign_Name (store_ok I hN hi hx r (fun s' I' => ⟨_, H, I', h⟩) hf)
def gNil : TGs := fun vs σ H Q => vs = [] ∧ Q σ H
def gCons (t : TG) (u : TGs) : TGs := fun vs σ H Q => ∃ v r, vs = v :: r ∧ t v σ H fun σ' H' => u r σ' H' Q
theorem pgs_nil : PGs X [] gNil := by
  intro pins s σ H vs us Q I r h
  obtain ⟨e, h⟩ := h
  subst e
  cases r
  exact assignInOrder_nil ⟨σ, H, I, h⟩
theorem pgs_cons {e : Expr} {es : List Expr} {t : TG} {u : TGs} (h1 : PG X e t) (h2 : PGs X es u)
    (hs : (assignEach (e :: es) X.env).map (·.2) = assign e X.env :: (assignEach es X.env).map (·.2) := by rfl) : PGs X (e :: es) (gCons t u) := by
  intro pins s σ H vs us Q I r h
  obtain ⟨v, vr, e1, h⟩ := h
  subst e1
  cases r with
  | cons r rr =>
    rw [hs]
    refine assignInOrder_cons (thn (h1 pins s σ H _ _ _ I r h) fun _ s1 ⟨σ1, H1, I1, q1⟩ => ?_)
    exact h2 pins s1 σ1 H1 _ _ Q I1 rr q1

def gTup (K : PySem.W.Frag) (n : Nat) (t : TGs) : TG := fun v σ H Q => ∃ a xs, v = .ref a ∧ SqT K H a xs ∧ xs.length = n ∧ t xs σ H Q
theorem pg_tup {es : List Expr} {k : Nat} {t : TGs} {n : Nat} (hc : X.calm = true) (h : PGs X es t)
    (hn : (assignEach es X.env).length = n := by rfl) (hst : (assignEach es X.env).findIdx? (·.1) = none := by rfl) : PG X (.Tuple es k pos) (gTup X.K n t) := by
  intro pins s σ H v u Q I r hw
  obtain ⟨a, xs, e1, hq, hl, hw⟩ := hw
  subst e1
  cases r
  obtain ⟨its, rv, ht, hz⟩ := I.tuple hq
  refine assign_Tuple_tuple (I.ok.hd hc) ht (by simp [hn, ← hl, rv.length]) hst fun h' hx => ?_
  have I1 : Inv X pins σ H { s with heap := h' } := I.kept (t' := s.toks) fun b o e => hx b o (Nat.ne_of_lt (Heap.lt_size e)) e
  exact h pins _ σ H xs _ Q I1 (by simpa using rv) hw

def gSub (to ti : TE) (t : TSet) : TG := fun v σ H Q => to σ H fun o H1 => ti σ H1 fun i H2 => t o i v H2 fun H3 => Q σ H3
theorem pg_sub {o i : Expr} {to ti : TE} {t : TSet} (ho : PE X o to) (hi : PE X i ti) (hs : PSet X t)
    (ha : ∀ v, assign (.Subscript o i pos) X.env v = (do
      let ov ← holding [v] (eval o X.env)
      let iv ← holding [v, ov] (eval i X.env)
      standAt pos
      holding [v, ov, iv] (setItem ov iv v)
      release [v, ov, iv] []) := by intro _; rfl) : PG X (.Subscript o i pos) (gSub to ti t) := by
  intro pins s σ H v u Q I r h
  rw [ha]
  refine wpAny_bind (wpAny_holding (thn (ho pins s σ H _ I h) fun ov s1 ⟨x, H1, I1, r1, q1⟩ => ?_))
  refine wpAny_bind (wpAny_holding (thn (hi pins s1 σ H1 _ I1 q1) fun iv s2 ⟨y, H2, I2, r2, q2⟩ => ?_))
  refine wpAny_bind (wpAny_standAt (wpAny_bind (wpAny_holding (thn (hs pins s2 σ H2 x y v ov iv u _ I2 r1 r2 r q2) fun _ s3 ⟨H3, I3, q3⟩ => ?_))))
  exact wpAny_release ⟨σ, H3, I3, q3⟩

def tAsg (te : TE) (g : TG) : TS := fun D σ H => te σ H fun x H1 => g x σ H1 D.nx
theorem ps_asg {tg e : Expr} {te : TE} {g : TG} (he : PE X e te) (hg : PG X tg g) (hs : swapsWithSole [tg] e pos.line X.env = pure false := by rfl) (hw : swappedStores [tg] e X.env = pure none := by rfl)
    (h1 : (assignEach [tg] X.env).map (·.2) = [assign tg X.env] := by rfl) : PS X (.Assign [tg] e pos) (tAsg te g) := by
  intro pins s σ H D I h
  refine wpAny_Assign_stores (thn (he pins s σ H _ I h) fun v s1 ⟨x, H1, I1, r1, q1⟩ => ?_) hs hw
  rw [h1]
  exact thn (hg pins s1 σ H1 x v _ I1 r1 q1) fun _ s2 q => q

theorem ps_set {i : Nat} {x : Str} {e : Expr} {te : TE} {pos' : Pos} (hN : X.N.Nodup) (hi : X.N[i]? = some x) (hx : Loc X.env.scope x) (he : PE X e te) (hs : swapsWith e (some (.Name x pos')) pos.line X.env = pure false := by rfl) (hf : X.fn x = true ∨ X.env.scope.names.lookup x = some .local := by first | exact .inl rfl | exact .inr rfl | assumption) :
    PS X (.Assign [.Name x pos'] e pos) (tAsg te (gName i)) := by
  intro pins s σ H D I h
  refine wpAny_Assign_Name (thn (he pins s σ H _ I h) fun v s1 ⟨y, H1, I1, r1, q1⟩ => ?_) hs
  exact store_ok I1 hN hi hx r1 (fun s2 I2 => ⟨_, H1, I2, q1⟩) hf

end


section
variable {X : Cx} {pos : Pos}

end



structure It where
  go : Nat → Hp → Prop
  yld : Nat → Hp → V → Hp → Prop
  stop : Nat → Hp → Prop

def FpOk (X : Cx) (pins : List (Addr × Obj)) (H : Hp) (b : Addr) : Prop :=
  H b = none ∧ b ≠ X.env.locals ∧ b ∉ X.fs ∧ (b ∈ X.ex ∨ X.s₀.heap.objs.size ≤ b) ∧ (∀ x c, X.env.cells.lookup x = some c → c ≠ b) ∧ ∀ p ∈ X.pn ++ pins, p.1 ≠ b
theorem Inv.fpOk {X : Cx} {pins : List (Addr × Obj)} {σ : St} {H H' : Hp} {s : Shared} {b : Addr} (I : Inv X pins σ H s) (hb : s.heap.objs.size ≤ b) (hn : H' b = none) : FpOk X pins H' b := by
  refine ⟨hn, Nat.ne_of_gt (Nat.lt_of_lt_of_le I.lt hb), I.nofs hb, .inr (Nat.le_trans I.sz hb), fun x c e z => ?_, fun p hp z => ?_⟩
  · obtain ⟨v, q⟩ := I.cell x c e
    exact absurd (Nat.lt_of_lt_of_le q.lt (by rw [z]; exact hb)) (Nat.lt_irrefl _)
  · exact absurd (Nat.lt_of_lt_of_le (Heap.lt_size (I.pin p hp).1) (by rw [z]; exact hb)) (Nat.lt_irrefl _)
structure Turn (P : Program) (w : World) (K : PySem.W.Frag) (tg : Expr) (J : It) (fp : List Addr) (it : Addr) (tn : Nat → Heap → Prop) : Prop where
  mem : it ∈ fp
  obj : ∀ i h, tn i h → ∀ b ∈ fp, ∃ o, h.get? b = some o ∧ ∀ v, o.data ≠ .cell v
  keep : ∀ i h h', tn i h → (∀ b ∈ fp, ∀ o, h.get? b = some o → h'.get? b = some o) → tn i h'
  item : ∀ (X : Cx), X.prog = P → X.w = w → X.K = K → X.calm = true → ∀ (i : Nat) (pins : List (Addr × Obj)) (s : Shared) (σ : St) (H : Hp) (E : Value → Shared → Prop), Inv X pins σ H s → (∀ b ∈ fp, FpOk X pins H b) → tn i s.heap → J.go i H →
    wpAny (model P w) X.A (pyNext (.ref it)) (fun r s1 => ∃ u, r = some u ∧
      wpAny (model P w) X.A (letOwnedTupleGo tg (.ref it) u) (fun _ s2 => ∃ x H', Inv X pins σ H' s2 ∧ RelV x u ∧ J.yld i H x H' ∧ tn (i + 1) s2.heap ∧ ∀ b ∈ fp, H' b = none) E s1) E s
  done : ∀ (X : Cx), X.prog = P → X.w = w → X.K = K → X.calm = true → ∀ (i : Nat) (pins : List (Addr × Obj)) (s : Shared) (σ : St) (H : Hp) (E : Value → Shared → Prop), Inv X pins σ H s → (∀ b ∈ fp, FpOk X pins H b) → tn i s.heap → J.stop i H →
    wpAny (model P w) X.A (pyNext (.ref it)) (fun r s1 => r = none ∧ Inv X pins σ H s1) E s
  self : ∀ (A : Around) (i : Nat) (s : Shared) (Q : Value → Shared → Prop) (E : Value → Shared → Prop), tn i s.heap → Q (.ref it) s → wpAny (model P w) A (pyIter (.ref it)) Q E s
abbrev TI := St → Hp → (It → Hp → Prop) → Prop

def PIE (X : Cx) (pins : List (Addr × Obj)) (σ : St) (tg : Expr) (R : It → Hp → Prop) (itv : Value) (s2 : Shared) : Prop :=
  ∃ (it : Addr) (fp : List Addr) (tn : Nat → Heap → Prop) (J : It) (H' : Hp), itv = .ref it ∧ Inv X pins σ H' s2 ∧ Turn X.prog X.w X.K tg J fp it tn ∧ tn 0 s2.heap ∧ (∀ b ∈ fp, FpOk X pins H' b) ∧ R J H'
def PI (X : Cx) (tg iter : Expr) (wi : TI) : Prop :=
  ∀ (pins : List (Addr × Obj)) (s : Shared) (σ : St) (H : Hp) (R : It → Hp → Prop), Inv X pins σ H s → wi σ H R →
    wpAny (model X.prog X.w) X.A (eval iter X.env) (fun v s1 => wpAny (model X.prog X.w) X.A (pyIter v) (PIE X pins σ tg R) X.xe s1) X.xe s


theorem go_of {M : Model} {A : Around} {E : Value → Shared → Prop} {s : Shared} {tg : Expr} {it : Addr} {u : Value} {o : Obj} {n : String} {vs : Array Value} {Q : Unit → Shared → Prop} (ho : s.heap.get? it = some o) (hc : o.cls = .type n) (hd : o.data = .fields vs)
    (hn : ["enumerate", "zip", "dict_itemiterator", "dict_reverseitemiterator", "odict_iterator", "itertools.zip_longest", "itertools.pairwise"].contains n = false) (hQ : Q () s) : wpAny M A (letOwnedTupleGo tg (.ref it) u) Q E s := by
  unfold letOwnedTupleGo
  cases tg <;> first
    | exact wpAny_pure hQ
    | (cases u <;> first
        | exact wpAny_pure hQ
        | (refine wpAny_bind (wpAny_load ho ?_)
           rw [hc, hd]
           show wpAny M A (if (["enumerate", "zip", "dict_itemiterator", "dict_reverseitemiterator", "odict_iterator", "itertools.zip_longest", "itertools.pairwise"].contains n && vs[0]? == some (rawInt _)) = true then _ else _) Q E s
           rw [if_neg (by intro h; rw [hn, Bool.false_and] at h; cases h)]
           exact wpAny_pure hQ))


def Itl (K : PySem.W.Frag) (a : Addr) : It :=
  ⟨fun i H => ∃ xs x, SqL K H a xs ∧ xs[i]? = some x, fun i H x H' => H' = H ∧ ∀ xs, SqL K H a xs → xs[i]? = some x, fun i H => ∃ xs, SqL K H a xs ∧ xs.length ≤ i⟩
def Itt (K : PySem.W.Frag) (a : Addr) : It :=
  ⟨fun i H => ∃ xs x, SqT K H a xs ∧ xs[i]? = some x, fun i H x H' => H' = H ∧ ∀ xs, SqT K H a xs → xs[i]? = some x, fun i H => ∃ xs, SqT K H a xs ∧ xs.length ≤ i⟩

def Itr (lo : Int) (n : Nat) : It := ⟨fun i _ => i < n, fun i H x H' => H' = H ∧ x = .int (lo + i), fun i _ => n ≤ i⟩
theorem turn_list {P : Program} {w : World} {K : PySem.W.Frag} {tg : Expr} (a it : Addr) : Turn P w K tg (Itl K a) [it] it (fun i h => h.IsListIter it a i) where
  mem := by simp
  obj := fun i h st b hb => by
    have e : b = it := by simpa using hb
    subst e
    obtain ⟨o, e, c, d⟩ := st
    exact ⟨o, e, fun v z => by rw [d] at z; cases z⟩
  keep := fun i h h' st k => st.at fun o e => k it (by simp) o e
  item := by
    intro X hP hw hK hc i pins s σ H E I hf st hg
    subst hP hw hK
    obtain ⟨xs, x, hq, hx⟩ := hg
    obtain ⟨its, rv, p, hz⟩ := I.list hq
    obtain ⟨u, hu, ru⟩ := rv.get hx
    obtain ⟨f0, f1, f2, f3, f4, f5⟩ := hf it (by simp)
    refine wpAny_pyNext_list_item st p.isList (x := u) (by simpa using hu) fun h' st' sb => ?_
    have I1 : Inv X pins σ H { s with heap := h' } := I.turned (t' := s.toks) (fun b o hb e => (sb.2 b hb).trans e) f0 f1 f3 f4 f5
    obtain ⟨o, e, c, d⟩ := id st'
    exact ⟨u, rfl, go_of (s := { s with heap := h' }) e c d (by decide) ⟨x, H, I1, ru, ⟨rfl, fun ys hy => by rw [I.list_inj hy hq]; exact hx⟩, st', fun b hb => (hf b hb).1⟩⟩
  done := by
    intro X hP hw hK hc i pins s σ H E I hf st hg
    subst hP hw hK
    obtain ⟨xs, hq, hx⟩ := hg
    obtain ⟨its, rv, p, hz⟩ := I.list hq
    obtain ⟨f0, f1, f2, f3, f4, f5⟩ := hf it (by simp)
    have hl := rv.length
    exact wpAny_pyNext_list_end (I.ok.hd hc) st p.isList (by simp; omega) fun h' eb => ⟨rfl, I.turned (t' := s.toks) (fun b o hb e => eb b o hb e) f0 f1 f3 f4 f5⟩
  self := fun _ _ _ _ _ st h => wpAny_pyIter_listiter st h
theorem turn_tuple {P : Program} {w : World} {K : PySem.W.Frag} {tg : Expr} (a it : Addr) : Turn P w K tg (Itt K a) [it] it (fun i h => h.IsTupleIter it a i) where
  mem := by simp
  obj := fun i h st b hb => by
    have e : b = it := by simpa using hb
    subst e
    obtain ⟨o, e, c, d⟩ := st
    exact ⟨o, e, fun v z => by rw [d] at z; cases z⟩
  keep := fun i h h' st k => st.at fun o e => k it (by simp) o e
  item := by
    intro X hP hw hK hc i pins s σ H E I hf st hg
    subst hP hw hK
    obtain ⟨xs, x, hq, hx⟩ := hg
    obtain ⟨its, rv, p, hz⟩ := I.tuple hq
    obtain ⟨u, hu, ru⟩ := rv.get hx
    obtain ⟨f0, f1, f2, f3, f4, f5⟩ := hf it (by simp)
    refine wpAny_pyNext_tuple_item st (show s.heap.IsTuple a its.toArray from p) (x := u) (by simpa using hu) fun h' st' sb => ?_
    have I1 : Inv X pins σ H { s with heap := h' } := I.turned (t' := s.toks) (fun b o hb e => (sb.2 b hb).trans e) f0 f1 f3 f4 f5
    obtain ⟨o, e, c, d⟩ := id st'
    exact ⟨u, rfl, go_of (s := { s with heap := h' }) e c d (by decide) ⟨x, H, I1, ru, ⟨rfl, fun ys hy => by rw [I.tuple_inj hy hq]; exact hx⟩, st', fun b hb => (hf b hb).1⟩⟩
  done := by
    intro X hP hw hK hc i pins s σ H E I hf st hg
    subst hP hw hK
    obtain ⟨xs, hq, hx⟩ := hg
    obtain ⟨its, rv, p, hz⟩ := I.tuple hq
    obtain ⟨f0, f1, f2, f3, f4, f5⟩ := hf it (by simp)
    have hl := rv.length
    exact wpAny_pyNext_tuple_end (I.ok.hd hc) st (show s.heap.IsTuple a its.toArray from p) (by simp; omega) fun h' eb => ⟨rfl, I.turned (t' := s.toks) (fun b o hb e => eb b o hb e) f0 f1 f3 f4 f5⟩
  self := fun _ _ _ _ _ st h => wpAny_pyIter_tupleiter st h
theorem turn_range {P : Program} {w : World} {K : PySem.W.Frag} {tg : Expr} (it : Addr) (lo : Int) (n : Nat) : Turn P w K tg (Itr lo n) [it] it (fun i h => IsRangeIter h it (lo + (i : Nat) * 1) ((n : Int) - (i : Nat)) 1) where
  mem := by simp
  obj := fun i h st b hb => by
    have e : b = it := by simpa using hb
    subst e
    exact ⟨_, st, fun v z => by
      have z' : Data.fields _ = Data.cell v := z
      cases z'⟩
  keep := fun i h h' st k => k it (by simp) _ st
  item := by
    intro X hP hw hK hc i pins s σ H E I hf st hg
    subst hP hw hK
    obtain ⟨f0, f1, f2, f3, f4, f5⟩ := hf it (by simp)
    have W := Walks.range (prog := X.prog) (w := X.w) (I.ok.hd hc) it lo 1 n
    refine W.item i s _ _ hg st fun v h' tk hv st' kk => ?_
    obtain ⟨t, rfl⟩ := hv
    have I1 : Inv X pins σ H { s with heap := h', toks := tk } := I.turned (fun b o hb e => kk b o (by simpa using hb) e) f0 f1 f3 f4 f5
    refine ⟨_, rfl, go_of (s := { s with heap := h', toks := tk }) (n := "range_iterator") st' rfl rfl (by decide) ⟨.int (lo + i), H, I1, ⟨t, ?_⟩, ⟨rfl, rfl⟩, st', fun b hb => (hf b hb).1⟩⟩
    rw [Int.mul_one]
  done := by
    intro X hP hw hK hc i pins s σ H E I hf st hg
    subst hP hw hK
    obtain ⟨f0, f1, f2, f3, f4, f5⟩ := hf it (by simp)
    exact wpAny_pyNext_range_end (I.ok.hd hc) st (by have : n ≤ i := hg; omega) fun h' eb => ⟨rfl, I.turned (t' := s.toks) (fun b o hb e => eb b o hb e) f0 f1 f3 f4 f5⟩
  self := fun _ _ _ _ _ st h => wpAny_pyIter_rangeiter st h
end L2

namespace L2
open PySem PySem.Spec PyProof.Rows
section
variable {X : Cx} {tg : Expr}
def iList (K : PySem.W.Frag) (tl : TE) : TI := fun σ H R => tl σ H fun x H1 => ∃ a, x = .ref a ∧ (∃ xs, SqL K H1 a xs) ∧ R (Itl K a) H1
def iTup (K : PySem.W.Frag) (tl : TE) : TI := fun σ H R => tl σ H fun x H1 => ∃ a, x = .ref a ∧ (∃ xs, SqT K H1 a xs) ∧ R (Itt K a) H1
theorem pi_list {l : Expr} {tl : TE} (hl : PE X l tl) : PI X tg l (iList X.K tl) := by
  intro pins s σ H R I h
  refine thn (hl pins s σ H _ I h) fun v s1 ⟨x, H1, I1, r1, q1⟩ => ?_
  obtain ⟨a, e, ⟨xs, hq⟩, q⟩ := q1
  subst e
  cases r1
  obtain ⟨its, rv, p, hz⟩ := I1.list hq
  refine wpAny_pyIter_list p.isList ?_
  refine ⟨s1.heap.objs.size, [s1.heap.objs.size], _, _, H1, rfl, I1.kept (t' := s1.toks) fun b o e => Heap.get?_push_of_some _ e, turn_list a _, ⟨_, Heap.get?_push_size _ rfl, rfl, rfl⟩, fun b hb => ?_, q⟩
  have e : b = s1.heap.objs.size := by simpa using hb
  subst e
  exact I1.fpOk (Nat.le_refl _) (I1.hok.fresh (Nat.le_refl _))
theorem pi_tup {l : Expr} {tl : TE} (hl : PE X l tl) : PI X tg l (iTup X.K tl) := by
  intro pins s σ H R I h
  refine thn (hl pins s σ H _ I h) fun v s1 ⟨x, H1, I1, r1, q1⟩ => ?_
  obtain ⟨a, e, ⟨xs, hq⟩, q⟩ := q1
  subst e
  cases r1
  obtain ⟨its, rv, p, hz⟩ := I1.tuple hq
  refine wpAny_pyIter_tuple (show s1.heap.IsTuple a its.toArray from p) ?_
  refine ⟨s1.heap.objs.size, [s1.heap.objs.size], _, _, H1, rfl, I1.kept (t' := s1.toks) fun b o e => Heap.get?_push_of_some _ e, turn_tuple a _, ⟨_, Heap.get?_push_size _ rfl, rfl, rfl⟩, fun b hb => ?_, q⟩
  have e : b = s1.heap.objs.size := by simpa using hb
  subst e
  exact I1.fpOk (Nat.le_refl _) (I1.hok.fresh (Nat.le_refl _))

theorem range_it {pins : List (Addr × Obj)} {σ : St} {H : Hp} {s : Shared} {R : It → Hp → Prop} {E : Value → Shared → Prop} {lo hi : Int} {t u v : Tok} {tk : Nat} (I : Inv X pins σ H s) (h1 : -(2 ^ 62) ≤ lo) (h2 : lo < 2 ^ 62) (h3 : -(2 ^ 62) ≤ hi) (h4 : hi < 2 ^ 62)
    (q : R (Itr lo (hi - lo).toNat) H) : wpAny (model X.prog X.w) X.A (pyIter (.ref s.heap.objs.size)) (PIE X pins σ tg R) E { s with heap := s.heap.push { cls := .type "range", data := .fields #[.int lo t, .int hi u, .int 1 v] }, toks := tk } := by
  refine wpAny_pyIter_range (IsRange.new ..) (small_one h1 h2 h3 h4) ?_
  have I1 : Inv X pins σ H { s with heap := s.heap.push { cls := .type "range", data := .fields #[.int lo t, .int hi u, .int 1 v] }, toks := tk } := I.kept fun b o e => Heap.get?_push_of_some _ e
  refine ⟨(s.heap.push { cls := .type "range", data := .fields #[.int lo t, .int hi u, .int 1 v] }).objs.size, [(s.heap.push { cls := .type "range", data := .fields #[.int lo t, .int hi u, .int 1 v] }).objs.size], _, _, H, rfl,
    I1.kept (t' := tk) fun b o e => Heap.get?_push_of_some _ e, turn_range _ lo (hi - lo).toNat, ?_, fun b hb => ?_, q⟩
  · have e1 : lo + ((0 : Nat) : Int) * 1 = lo := by simp
    have e2 : (((hi - lo).toNat : Nat) : Int) - ((0 : Nat) : Int) = Builtin.Range.rangeSize lo hi 1 := by rw [rangeSize_one]; split <;> omega
    show IsRangeIter _ _ (lo + ((0 : Nat) : Int) * 1) ((((hi - lo).toNat : Nat) : Int) - ((0 : Nat) : Int)) 1
    rw [e1, e2]
    exact Heap.get?_push_size _ rfl
  · have e : b = (s.heap.push { cls := .type "range", data := .fields #[.int lo t, .int hi u, .int 1 v] }).objs.size := by simpa using hb
    subst e
    exact I1.fpOk (Nat.le_refl _) (I1.hok.fresh (Nat.le_refl _))
def iRng1 (ta : TA) : TI := fun σ H R => ta σ H fun vs H1 => ∃ j : Int, vs = [.int j] ∧ -(2 ^ 62) ≤ j ∧ j < 2 ^ 62 ∧ R (Itr 0 j.toNat) H1
theorem pi_range1 {a : Expr} {ta : TA} {p pos : Pos} (hg : Gl X "range") (hm : X.mg "range" = none) (ha : PA X [a] ta) (hs : starEach [a] X.env = [(false, eval a X.env)] := by rfl) : PI X tg (.Call (.Name "range" p) [a] [] pos) (iRng1 ta) := by
  intro pins s σ H R I h
  refine Call_ (ld_blt I hg hm boot_range (PyProof.Rows.callWith_type1 (thn (ha pos pins s σ H _ I h) fun us s1 ⟨vs, H1, I1, r1, q1⟩ => ?_) hs rfl))
  obtain ⟨j, e, q1, q2, q⟩ := q1
  subst e
  cases r1 with
  | cons r rr =>
    cases rr
    obtain ⟨t, rfl⟩ := r
    exact call_range_1 (range_it I1 (by omega) (by omega) q1 q2 (by simpa using q))
def tFor (wi : TI) (g : TG) (tb : TS) : TS := fun D σ H => wi σ H fun J H1 => ∃ W : Nat → Nat → St → Hp → Prop, (∃ m, W 0 m σ H1) ∧ ∀ i m σ H, W i m σ H →
  (J.stop i H ∧ D.nx σ H) ∨ (J.go i H ∧ ∃ N : St → Hp → Prop, (∀ σ' H', N σ' H' → ∃ m', m' < m ∧ W (i + 1) m' σ' H') ∧ ∀ x H', J.yld i H x H' → g x σ H' fun σ2 H2 => tb { D with nx := N, ct := N, bk := D.nx } σ2 H2)

def pinsAt (fp : List Addr) (h : Heap) : List (Addr × Obj) := fp.filterMap fun b => (h.get? b).map fun o => (b, o)
theorem mem_pinsAt {fp : List Addr} {h : Heap} {b : Addr} {o : Obj} (hb : b ∈ fp) (e : h.get? b = some o) : (b, o) ∈ pinsAt fp h := List.mem_filterMap.mpr ⟨b, hb, by rw [e]; rfl⟩
theorem of_pinsAt {fp : List Addr} {h : Heap} {p : Addr × Obj} (hp : p ∈ pinsAt fp h) : p.1 ∈ fp ∧ h.get? p.1 = some p.2 := by
  obtain ⟨b, hb, e⟩ := List.mem_filterMap.mp hp
  cases q : h.get? b with
  | none => rw [q] at e; cases e
  | some o =>
    rw [q] at e
    have e' : (b, o) = p := Option.some.inj e
    subst e'
    exact ⟨hb, q⟩
theorem Inv.pinned {pins : List (Addr × Obj)} {σ : St} {H : Hp} {s : Shared} {fp : List Addr} (I : Inv X pins σ H s) (hf : ∀ b ∈ fp, FpOk X pins H b) (ho : ∀ b ∈ fp, ∃ o, s.heap.get? b = some o ∧ ∀ v, o.data ≠ .cell v) : Inv X (pins ++ pinsAt fp s.heap) σ H s :=
  I.pins_of fun p hp => (List.mem_append.mp hp).elim (fun z => I.pin p (List.mem_append_right _ z)) fun z => by
    obtain ⟨hb, e⟩ := of_pinsAt z
    obtain ⟨f0, f1, f2, _⟩ := hf p.1 hb
    obtain ⟨o, e', d⟩ := ho p.1 hb
    rw [e] at e'; cases e'
    exact ⟨e, f0, f1, f2, d⟩
theorem Inv.unpinned {pins pl : List (Addr × Obj)} {σ : St} {H : Hp} {s : Shared} (I : Inv X (pins ++ pl) σ H s) : Inv X pins σ H s := I.pins_of fun p hp => I.pin p (List.mem_append_right _ (List.mem_append_left _ hp))
theorem ps_for {iter : Expr} {body : List Stmt} {wi : TI} {g : TG} {tb : TS} {pos : Pos} (hp : PassesOwn (model X.prog X.w) X.A X.env X.xe) (hc : X.calm = true) (hi : PI X tg iter wi) (hg : PG X tg g) (hb : PSs X body tb)
    (hs : ∀ x, foldedSetIterable iter X.env x = pure x := by intro _; rfl) : PS X (.For tg iter body [] pos) (tFor wi g tb) := by
  intro pins s σ H D I h
  refine wpAny_For (thn (hi pins s σ H _ I h) fun v s1 h1 => thn h1 fun itv s2 h2 => ?_) hs
  obtain ⟨it, fp, tn, J, H2, e, I2, T, st2, f2, W, ⟨m0, w0⟩, turn⟩ := h2
  subst e
  have stat : ∀ {H' : Hp}, (∀ b ∈ fp, H' b = none) → ∀ b ∈ fp, FpOk X pins H' b := fun hn b hb => ⟨hn b hb, (f2 b hb).2⟩
  refine codeAny_forLoop_any (fun n s' => ∃ i σ' H', Inv X pins σ' H' s' ∧ tn i s'.heap ∧ (∀ b ∈ fp, H' b = none) ∧ W i n σ' H') ?_ m0 ⟨0, σ, H2, I2, st2, fun b hb => (f2 b hb).1, w0⟩
  rintro n s3 ⟨i, σ3, H3, I3, st3, fr3, w3⟩
  rcases turn i n σ3 H3 w3 with ⟨stop, qn⟩ | ⟨go, N, hN, step⟩
  · refine wpAny_passesOwn hp (thn (T.done X rfl rfl rfl hc i pins s3 σ3 H3 X.xe I3 (stat fr3) st3 stop) fun r s4 ⟨hr, I4⟩ => ?_)
    subst hr
    exact wpAny_execs_nil ⟨σ3, H3, I4, qn⟩
  · refine wpAny_passesOwn hp (thn (T.item X rfl rfl rfl hc i pins s3 σ3 H3 X.xe I3 (stat fr3) st3 go) fun r s4 ⟨u, hr, h4⟩ => ?_)
    subst hr
    refine wpAny_passesOwn hp (thn h4 fun _ s5 ⟨x, H5, I5, r5, y5, st5, fr5⟩ => ?_)
    have I5' := I5.pinned (stat fr5) (T.obj _ _ st5)
    refine wpAny_passesOwn hp (thn (hg _ s5 σ3 H5 x u _ I5' r5 (step x H5 y5)) fun _ s6 ⟨σ6, H6, I6, q6⟩ => ?_)
    refine wpAny_passesOwn hp (thn (hb _ s6 σ6 H6 _ I6 q6) fun f s7 q7 => ?_)
    have again : ∀ {σ7 : St} {H7 : Hp}, Inv X (pins ++ pinsAt fp s5.heap) σ7 H7 s7 → N σ7 H7 → ∃ m, m < n ∧ ∃ i σ' H', Inv X pins σ' H' s7 ∧ tn i s7.heap ∧ (∀ b ∈ fp, H' b = none) ∧ W i m σ' H' := fun {σ7 H7} I7 n7 => by
      obtain ⟨m', hm, w7⟩ := hN σ7 H7 n7
      refine ⟨m', hm, i + 1, σ7, H7, I7.unpinned, T.keep _ _ _ st5 fun b hb o e => (I7.pin (b, o) (List.mem_append_right _ (List.mem_append_right _ (mem_pinsAt hb e)))).1, fun b hb => ?_, w7⟩
      obtain ⟨o, e, d⟩ := T.obj _ _ st5 b hb
      exact (I7.pin (b, o) (List.mem_append_right _ (List.mem_append_right _ (mem_pinsAt hb e)))).2.1
    cases f with
    | next => obtain ⟨σ7, H7, I7, n7⟩ := q7; exact again I7 n7
    | cont => obtain ⟨σ7, H7, I7, n7⟩ := q7; exact again I7 n7
    | brk => obtain ⟨σ7, H7, I7, q7⟩ := q7; exact ⟨σ7, H7, I7.unpinned, q7⟩
    | ret v => obtain ⟨x7, σ7, H7, I7, r7, q7⟩ := q7; exact ⟨x7, σ7, H7, I7.unpinned, r7, q7⟩
end



theorem for_list {K : PySem.W.Frag} {a : Addr} {xs : List V} {g : TG} {tb : TS} {D : Ends} {σ : St} {H : Hp} (Pv : Nat → St → Hp → Prop) (h0 : Pv 0 σ H) (hl : ∀ i σ H, i ≤ xs.length → Pv i σ H → SqL K H a xs)
    (hs : ∀ i x σ H, xs[i]? = some x → Pv i σ H → g x σ H fun σ2 H2 => tb { D with nx := Pv (i + 1), ct := Pv (i + 1), bk := D.nx } σ2 H2) (hd : ∀ σ H, Pv xs.length σ H → D.nx σ H) :
    ∃ W : Nat → Nat → St → Hp → Prop, (∃ m, W 0 m σ H) ∧ ∀ i m σ H, W i m σ H →
      ((Itl K a).stop i H ∧ D.nx σ H) ∨ ((Itl K a).go i H ∧ ∃ N : St → Hp → Prop, (∀ σ' H', N σ' H' → ∃ m', m' < m ∧ W (i + 1) m' σ' H') ∧ ∀ x H', (Itl K a).yld i H x H' → g x σ H' fun σ2 H2 => tb { D with nx := N, ct := N, bk := D.nx } σ2 H2) := by
  refine ⟨fun i m σ H => m = xs.length - i ∧ i ≤ xs.length ∧ Pv i σ H, ⟨xs.length, by simp, Nat.zero_le _, h0⟩, ?_⟩
  rintro i m σ H ⟨rfl, hi, p⟩
  have q := hl i σ H hi p
  by_cases hlt : i < xs.length
  · refine .inr ⟨⟨xs, xs[i], q, by simp [hlt]⟩, Pv (i + 1), fun σ' H' p' => ⟨xs.length - (i + 1), by omega, rfl, hlt, p'⟩, fun x H' y => ?_⟩
    obtain ⟨e, y⟩ := y
    subst e
    exact hs i x σ _ (y xs q) p
  · have e : i = xs.length := by omega
    subst e
    exact .inl ⟨⟨xs, q, Nat.le_refl _⟩, hd σ H p⟩
theorem for_range {lo : Int} {n : Nat} {g : TG} {tb : TS} {D : Ends} {σ : St} {H : Hp} (Pv : Nat → St → Hp → Prop) (h0 : Pv 0 σ H)
    (hs : ∀ i σ H, i < n → Pv i σ H → g (.int (lo + i)) σ H fun σ2 H2 => tb { D with nx := Pv (i + 1), ct := Pv (i + 1), bk := D.nx } σ2 H2) (hd : ∀ σ H, Pv n σ H → D.nx σ H) :
    ∃ W : Nat → Nat → St → Hp → Prop, (∃ m, W 0 m σ H) ∧ ∀ i m σ H, W i m σ H →
      ((Itr lo n).stop i H ∧ D.nx σ H) ∨ ((Itr lo n).go i H ∧ ∃ N : St → Hp → Prop, (∀ σ' H', N σ' H' → ∃ m', m' < m ∧ W (i + 1) m' σ' H') ∧ ∀ x H', (Itr lo n).yld i H x H' → g x σ H' fun σ2 H2 => tb { D with nx := N, ct := N, bk := D.nx } σ2 H2) := by
  refine ⟨fun i m σ H => m = n - i ∧ i ≤ n ∧ Pv i σ H, ⟨n, by simp, Nat.zero_le _, h0⟩, ?_⟩
  rintro i m σ H ⟨rfl, hi, p⟩
  by_cases hlt : i < n
  · refine .inr ⟨hlt, Pv (i + 1), fun σ' H' p' => ⟨n - (i + 1), by omega, rfl, hlt, p'⟩, fun x H' y => ?_⟩
    obtain ⟨e, y⟩ := y
    subst e y
    exact hs i σ _ hlt p
  · have e : i = n := by omega
    subst e
    exact .inl ⟨Nat.le_refl _, hd σ H p⟩

end L2

namespace L2
open PySem PySem.Spec PyProof.Rows

abbrev R2 := V → V → Hp → VK → Prop

def OpR (X : Cx) (f : Value → Value → Sem Value) (r : R2) : Prop :=
  ∀ (pins : List (Addr × Obj)) (s : Shared) (σ : St) (H : Hp) (x y : V) (v u : Value) (Q : VK), Inv X pins σ H s → RelV x v → RelV y u → r x y H Q →
    wpAny (model X.prog X.w) X.A (f v u) (EP X pins σ Q) X.xe s

def UnR (X : Cx) (f : Value → Sem Value) (r : V → Hp → VK → Prop) : Prop :=
  ∀ (pins : List (Addr × Obj)) (s : Shared) (σ : St) (H : Hp) (x : V) (v : Value) (Q : VK), Inv X pins σ H s → RelV x v → r x H Q →
    wpAny (model X.prog X.w) X.A (f v) (EP X pins σ Q) X.xe s

def CallR (X : Cx) (f : Value) (r : List V → Hp → VK → Prop) : Prop :=
  ∀ (pins : List (Addr × Obj)) (s : Shared) (σ : St) (H : Hp) (xs : List V) (us : List Value) (Q : VK), Inv X pins σ H s → Vals xs us → r xs H Q →
    wpAny (model X.prog X.w) X.A (call f us) (EP X pins σ Q) X.xe s

def tOp (r : R2) (ta tb : TE) : TE := fun σ H Q => ta σ H fun x H1 => tb σ H1 fun y H2 => r x y H2 Q
def tUn (r : V → Hp → VK → Prop) (ta : TE) : TE := fun σ H Q => ta σ H fun x H1 => r x H1 Q

def rI (C : Int → Int → Prop) (g : Int → Int → V) : R2 := fun x y H Q => ∃ i j, x = .int i ∧ y = .int j ∧ C i j ∧ Q (g i j) H
def rI0 (g : Int → Int → V) : R2 := fun x y H Q => ∃ i j, x = .int i ∧ y = .int j ∧ Q (g i j) H
def rU (g : Int → V) : V → Hp → VK → Prop := fun x H Q => ∃ i, x = .int i ∧ Q (g i) H

section
variable {X : Cx} {a b c : Expr} {ta tb tc : TE} {pos : Pos}

theorem binT (ha : PE X a ta) (hb : PE X b tb) {pins : List (Addr × Obj)} {s : Shared} {σ : St} {H : Hp} {R : V → V → Hp → Prop} (I : Inv X pins σ H s)
    (h : ta σ H fun x H1 => tb σ H1 fun y H2 => R x y H2) {Q : Value → Shared → Prop} {f : Value → Value → Sem Value}
    (hf : ∀ v u s2 x y H2, Inv X pins σ H2 s2 → RelV x v → RelV y u → R x y H2 → wpAny (model X.prog X.w) X.A (f v u) Q X.xe s2) :
    wpAny (model X.prog X.w) X.A (eval a X.env) (fun v s₁ => wpAny (model X.prog X.w) X.A (eval b X.env) (fun u s₂ => wpAny (model X.prog X.w) X.A (f v u) Q X.xe s₂) X.xe s₁) X.xe s := by
  refine thn (ha pins s σ H _ I h) fun v s1 ⟨x, H1, I1, r1, q1⟩ => ?_
  refine thn (hb pins s1 σ H1 _ I1 q1) fun u s2 ⟨y, H2, I2, r2, q2⟩ => ?_
  exact hf v u s2 x y H2 I2 r1 r2 q2

theorem pe_op {op : Operator} {r : R2} (ho : OpR X (binaryOp op) r) (ha : PE X a ta) (hb : PE X b tb) : PE X (.BinOp a op b pos) (tOp r ta tb) := by
  intro pins s σ H Q I h
  exact wpAny_BinOp (binT ha hb I h fun v u s2 x y H2 I2 rx ry q => ho pins s2 σ H2 x y v u Q I2 rx ry q)
theorem pe_un {op : UnaryOp} {r : V → Hp → VK → Prop} (ho : UnR X (unaryOp op) r) (ha : PE X a ta) : PE X (.UnaryOp op a pos) (tUn r ta) := by
  intro pins s σ H Q I h
  exact UnaryOp_ (thn (ha pins s σ H _ I h) fun v s1 ⟨x, H1, I1, r1, q1⟩ => ho pins s1 σ H1 x v Q I1 r1 q1)

theorem opI {f : Value → Value → Sem Value} {C : Int → Int → Prop} {g : Int → Int → Int}
    (rule : ∀ (i j : Int) (t u : Tok) (s : Shared) (Q : Value → Shared → Prop) (E : Value → Shared → Prop), C i j → Q (.int (g i j) s.toks) { s with toks := s.toks + 1 } → wpAny (model X.prog X.w) X.A (f (.int i t) (.int j u)) Q E s) :
    OpR X f (rI C fun i j => .int (g i j)) := by
  intro pins s σ H x y v u Q I rx ry h
  obtain ⟨i, j, rfl, rfl, hc, q⟩ := h
  obtain ⟨t, rfl⟩ := rx
  obtain ⟨t', rfl⟩ := ry
  exact rule i j t t' s _ _ hc ⟨.int (g i j), H, I.tok _, ⟨_, rfl⟩, q⟩
theorem opI0 {f : Value → Value → Sem Value} {g : Int → Int → Int}
    (rule : ∀ (i j : Int) (t u : Tok) (s : Shared) (Q : Value → Shared → Prop) (E : Value → Shared → Prop), Q (.int (g i j) s.toks) { s with toks := s.toks + 1 } → wpAny (model X.prog X.w) X.A (f (.int i t) (.int j u)) Q E s) :
    OpR X f (rI0 fun i j => .int (g i j)) := by
  intro pins s σ H x y v u Q I rx ry h
  obtain ⟨i, j, rfl, rfl, q⟩ := h
  obtain ⟨t, rfl⟩ := rx
  obtain ⟨t', rfl⟩ := ry
  exact rule i j t t' s _ _ ⟨.int (g i j), H, I.tok _, ⟨_, rfl⟩, q⟩
theorem opB0 {f : Value → Value → Sem Value} {g : Int → Int → Bool}
    (rule : ∀ (i j : Int) (t u : Tok) (s : Shared) (Q : Value → Shared → Prop) (E : Value → Shared → Prop), Q (.bool (g i j)) s → wpAny (model X.prog X.w) X.A (f (.int i t) (.int j u)) Q E s) :
    OpR X f (rI0 fun i j => .bl (g i j)) := by
  intro pins s σ H x y v u Q I rx ry h
  obtain ⟨i, j, rfl, rfl, q⟩ := h
  obtain ⟨t, rfl⟩ := rx
  obtain ⟨t', rfl⟩ := ry
  exact rule i j t t' s _ _ ⟨.bl (g i j), H, I, rfl, q⟩

def CDiv (i j : Int) : Prop := 0 < j ∧ j < 1073741824
def CPow (i j : Int) : Prop := 0 ≤ j ∧ j ≤ 1000000 ∧ i.natAbs < 2 ^ 64
def CMul (i j : Int) : Prop := (-(2 ^ 64) < i ∧ i < 2 ^ 64) ∨ (-(2 ^ 64) < j ∧ j < 2 ^ 64)
theorem CMul.ok {i j : Int} (h : CMul i j) : IntMulOk i j := by
  rcases h with ⟨h1, h2⟩ | ⟨h1, h2⟩
  · exact .of_left (intBits_le_64 h1 h2)
  · exact .of_right (intBits_le_64 h1 h2)
theorem op_add : OpR X (binaryOp .Add) (rI0 fun i j => .int (i + j)) := opI0 fun _ _ _ _ _ _ _ q => add_int q
theorem op_sub : OpR X (binaryOp .Sub) (rI0 fun i j => .int (i - j)) := opI0 fun _ _ _ _ _ _ _ q => sub_int q
theorem op_mul : OpR X (binaryOp .Mult) (rI CMul fun i j => .int (i * j)) := opI fun _ _ _ _ _ _ _ hc q => mul_int q hc.ok

theorem op_fdiv : OpR X (binaryOp .FloorDiv) (rI CDiv fun i j => .int (i / j)) := opI fun i j _ _ _ _ _ hc q => by
  have h1 : (0 : Int) < j := hc.1
  have h2 : j < 1073741824 := hc.2
  exact floordiv_int (by omega) (by rw [Int.fdiv_eq_ediv_of_nonneg i (by omega)]; exact q) (.inl (PyProof.noPylong_small (by omega)))
theorem op_mod : OpR X (binaryOp .Mod) (rI (fun _ j => 0 < j) fun i j => .int (i % j)) := opI fun i j _ _ _ _ _ hc q => by
  have h1 : (0 : Int) < j := hc
  exact mod_int' (by omega) (by rw [Int.fmod_eq_emod_of_nonneg i (by omega)]; exact q)
theorem op_pow : OpR X (binaryOp .Pow) (rI CPow fun i j => .int (i ^ j.toNat)) := opI fun _ _ _ _ _ _ _ hc q => pow_int_small hc.1 hc.2.1 hc.2.2 q
theorem unI {f : Value → Sem Value} {g : Int → Int}
    (rule : ∀ (i : Int) (t : Tok) (s : Shared) (Q : Value → Shared → Prop) (E : Value → Shared → Prop), Q (.int (g i) s.toks) { s with toks := s.toks + 1 } → wpAny (model X.prog X.w) X.A (f (.int i t)) Q E s) :
    UnR X f (rU fun i => .int (g i)) := by
  intro pins s σ H x v Q I rx h
  obtain ⟨i, rfl, q⟩ := h
  obtain ⟨t, rfl⟩ := rx
  exact rule i t s _ _ ⟨.int (g i), H, I.tok _, ⟨_, rfl⟩, q⟩
theorem un_neg : UnR X (unaryOp .USub) (rU fun i => .int (-i)) := unI fun _ _ _ _ _ q => neg_int q
end



def scal : V → V → Bool
  | .non, .non => true | .non, .int _ => true | .int _, .non => true | .non, .bl _ => true | .bl _, .non => true | .non, .str _ => true | .str _, .non => true
  | .int _, .int _ => true | .bl _, .bl _ => true | .str _, .str _ => true | .byt _, .byt _ => true
  | .int _, .str _ => true | .str _, .int _ => true | .bl _, .str _ => true | .str _, .bl _ => true
  | _, _ => false
def rEq : R2 := fun x y H Q => scal x y = true ∧ Q (.bl (decide (x = y))) H
def rNe : R2 := fun x y H Q => scal x y = true ∧ Q (.bl (!decide (x = y))) H

theorem dec_int {i j : Int} : decide (V.int i = V.int j) = (i == j) := by
  rw [Bool.eq_iff_iff]
  simp
theorem dec_bl {i j : Bool} : decide (V.bl i = V.bl j) = (i == j) := by
  rw [Bool.eq_iff_iff]
  simp
theorem dec_str {i j : Str} : decide (V.str i = V.str j) = (i == j) := by
  rw [Bool.eq_iff_iff]
  simp
theorem dec_byt {i j : Array UInt8} : decide (V.byt i = V.byt j) = (i.toList == j.toList) := by
  rw [Bool.eq_iff_iff]
  cases i
  cases j
  simp

section
variable {X : Cx} {a b c : Expr} {ta tb tc : TE} {pos : Pos}
theorem fin_bl {pins : List (Addr × Obj)} {σ : St} {H : Hp} {s : Shared} {Q : VK} {k k' : Bool} (I : Inv X pins σ H s) (q : Q (.bl k) H) (e : k = k') : EP X pins σ Q (.bool k') s := by
  subst e
  exact ⟨.bl k, H, I, rfl, q⟩
theorem op_eq : OpR X (compareOp .Eq) rEq := by
  intro pins s σ H x y v u Q I rx ry h
  obtain ⟨hs, q⟩ := h
  cases x with
  | non =>
    cases rx
    cases y with
    | non => cases ry; exact PySem.EqNone.eq_none_none (fin_bl I q (by simp))
    | bl j => cases ry; exact PySem.EqNone.eq_none_bool (fin_bl I q (by simp))
    | int j => obtain ⟨t', rfl⟩ := ry; exact PySem.EqNone.eq_none_int (fin_bl I q (by simp))
    | str j => obtain ⟨t', rfl⟩ := ry; exact PySem.EqNone.eq_none_str (fin_bl I q (by simp))
    | _ => exact absurd (show false = true from hs) Bool.false_ne_true
  | bl i =>
    cases rx
    cases y with
    | non => cases ry; exact PySem.EqNone.eq_bool_none (fin_bl I q (by simp))
    | bl j => cases ry; exact eq_bool (fin_bl I q dec_bl)
    | str j => obtain ⟨t', rfl⟩ := ry; exact PySem.EqMixed.eq_bool_str (fin_bl I q (by simp))
    | _ => exact absurd (show false = true from hs) Bool.false_ne_true
  | int i =>
    obtain ⟨t, rfl⟩ := rx
    cases y with
    | non => cases ry; exact PySem.EqNone.eq_int_none (fin_bl I q (by simp))
    | int j => obtain ⟨t', rfl⟩ := ry; exact eq_int (fin_bl I q dec_int)
    | str j => obtain ⟨t', rfl⟩ := ry; exact PySem.EqMixed.eq_int_str (fin_bl I q (by simp))
    | _ => exact absurd (show false = true from hs) Bool.false_ne_true
  | str i =>
    obtain ⟨t, rfl⟩ := rx
    cases y with
    | non => cases ry; exact PySem.EqNone.eq_str_none (fin_bl I q (by simp))
    | bl j => cases ry; exact PySem.EqMixed.eq_str_bool (fin_bl I q (by simp))
    | int j => obtain ⟨t', rfl⟩ := ry; exact PySem.EqMixed.eq_str_int (fin_bl I q (by simp))
    | str j => obtain ⟨t', rfl⟩ := ry; exact eq_str (fin_bl I q dec_str)
    | _ => exact absurd (show false = true from hs) Bool.false_ne_true
  | byt i =>
    obtain ⟨t, rfl⟩ := rx
    cases y with
    | byt j => obtain ⟨t', rfl⟩ := ry; exact PySem.W.eq_bytes (fin_bl I q dec_byt)
    | _ => exact absurd (show false = true from hs) Bool.false_ne_true
  | _ => cases y <;> exact absurd (show false = true from hs) Bool.false_ne_true
theorem op_ne : OpR X (compareOp .NotEq) rNe := by
  intro pins s σ H x y v u Q I rx ry h
  obtain ⟨hs, q⟩ := h
  cases x with
  | non =>
    cases rx
    cases y with
    | non => cases ry; exact PySem.EqNone.ne_none_none (fin_bl I q (by simp))
    | bl j => cases ry; exact PySem.EqNone.ne_none_bool (fin_bl I q (by simp))
    | int j => obtain ⟨t', rfl⟩ := ry; exact PySem.EqNone.ne_none_int (fin_bl I q (by simp))
    | str j => obtain ⟨t', rfl⟩ := ry; exact PySem.EqNone.ne_none_str (fin_bl I q (by simp))
    | _ => exact absurd (show false = true from hs) Bool.false_ne_true
  | bl i =>
    cases rx
    cases y with
    | non => cases ry; exact PySem.EqNone.ne_bool_none (fin_bl I q (by simp))
    | bl j => cases ry; exact ne_bool (fin_bl I q (congrArg not dec_bl))
    | str j => obtain ⟨t', rfl⟩ := ry; exact PySem.EqMixed.ne_bool_str (fin_bl I q (by simp))
    | _ => exact absurd (show false = true from hs) Bool.false_ne_true
  | int i =>
    obtain ⟨t, rfl⟩ := rx
    cases y with
    | non => cases ry; exact PySem.EqNone.ne_int_none (fin_bl I q (by simp))
    | int j => obtain ⟨t', rfl⟩ := ry; exact ne_int (fin_bl I q (congrArg not dec_int))
    | str j => obtain ⟨t', rfl⟩ := ry; exact PySem.EqMixed.ne_int_str (fin_bl I q (by simp))
    | _ => exact absurd (show false = true from hs) Bool.false_ne_true
  | str i =>
    obtain ⟨t, rfl⟩ := rx
    cases y with
    | non => cases ry; exact PySem.EqNone.ne_str_none (fin_bl I q (by simp))
    | bl j => cases ry; exact PySem.EqMixed.ne_str_bool (fin_bl I q (by simp))
    | int j => obtain ⟨t', rfl⟩ := ry; exact PySem.EqMixed.ne_str_int (fin_bl I q (by simp))
    | str j => obtain ⟨t', rfl⟩ := ry; exact ne_str (fin_bl I q (congrArg not dec_str))
    | _ => exact absurd (show false = true from hs) Bool.false_ne_true
  | byt i =>
    obtain ⟨t, rfl⟩ := rx
    cases y with
    | byt j => obtain ⟨t', rfl⟩ := ry; exact PySem.W.ne_bytes (fin_bl I q (congrArg not dec_byt))
    | _ => exact absurd (show false = true from hs) Bool.false_ne_true
  | _ => cases y <;> exact absurd (show false = true from hs) Bool.false_ne_true

theorem op_lt : OpR X (compareOp .Lt) (rI0 fun i j => .bl (decide (i < j))) := opB0 fun _ _ _ _ _ _ _ q => lt_int q
theorem op_le : OpR X (compareOp .LtE) (rI0 fun i j => .bl (decide (i ≤ j))) := opB0 fun _ _ _ _ _ _ _ q => le_int q
theorem op_gt : OpR X (compareOp .Gt) (rI0 fun i j => .bl (decide (j < i))) := opB0 fun _ _ _ _ _ _ _ q => gt_int q
theorem op_lt_str : OpR X (compareOp .Lt) (fun x y H Q => ∃ i j, x = .str i ∧ y = .str j ∧ Q (.bl (decide (i.cps.toList < j.cps.toList))) H) := by
  intro pins s σ H x y v u Q I rx ry h
  obtain ⟨i, j, rfl, rfl, q⟩ := h
  obtain ⟨t, rfl⟩ := rx
  obtain ⟨t', rfl⟩ := ry
  exact lt_str (fin_bl I q rfl)

theorem op_in_str : OpR X (compareOp .In) (fun x y H Q => ∃ i j, x = .str i ∧ y = .str j ∧ Q (.bl (!(Builtin.Str.occurrences j i 0 j.length 1).isEmpty)) H) := by
  intro pins s σ H x y v u Q I rx ry h
  obtain ⟨i, j, rfl, rfl, q⟩ := h
  obtain ⟨t, rfl⟩ := rx
  obtain ⟨t', rfl⟩ := ry
  exact in_str (fin_bl I q rfl)


theorem nomark (b : Expr) {op : CmpOp} (h : op ≠ .In := by decide) (h2 : op ≠ .NotIn := by decide) : behindInMarks op b = false := by
  have e1 : (op == CmpOp.In) = false := by cases op <;> first | rfl | exact absurd rfl h
  have e2 : (op == CmpOp.NotIn) = false := by cases op <;> first | rfl | exact absurd rfl h2
  cases b <;> simp [behindInMarks, e1, e2]

theorem pe_cmpR {op : CmpOp} {r : R2} (ho : OpR X (compareOp op) r) (ha : PE X a ta) (hb : PE X b tb) (hm : behindInMarks op b = false) : PE X (.Compare a [op] [b] pos) (tOp r ta tb) := by
  intro pins s σ H Q I h
  exact wpAny_Compare1 (binT ha hb I h fun v u s2 x y H2 I2 rx ry q => ho pins s2 σ H2 x y v u Q I2 rx ry q) hm

def tTest (t : TE) : TT := fun σ H Q => t σ H fun x H' => ∃ k, x = .bl k ∧ Q k H'
theorem pt_cmpR {op : CmpOp} {r : R2} (ho : OpR X (compareOp op) r) (ha : PE X a ta) (hb : PE X b tb) (hm : behindInMarks op b = false) : PT X (.Compare a [op] [b] pos) (tTest (tOp r ta tb)) := by
  intro pins s σ H Q I h
  refine wpAny_isTrue_Compare1 (thn (ha pins s σ H _ I h) fun v s1 ⟨x, H1, I1, r1, q1⟩ => thn (hb pins s1 σ H1 _ I1 q1) fun u s2 ⟨y, H2, I2, r2, q2⟩ =>
    thn (ho pins s2 σ H2 x y v u _ I2 r1 r2 q2) fun c s3 ⟨z, H3, I3, r3, k, e, q3⟩ => ?_) hm
  subst e
  cases r3
  exact wpAny_truthy_bool ⟨H3, I3, q3⟩

def tChain (r r' : R2) (ta tb tc : TE) : TE := fun σ H Q => ta σ H fun x H1 => tb σ H1 fun y H2 => r x y H2 fun z H3 => ∃ k, z = .bl k ∧
  (if k = true then tc σ H3 fun w' H4 => r' y w' H4 Q else Q (.bl false) H3)
theorem pe_chain {op op' : CmpOp} {r r' : R2} (ho : OpR X (compareOp op) r) (ho' : OpR X (compareOp op') r') (ha : PE X a ta) (hb : PE X b tb) (hc : PE X c tc)
    (hm : lastMarks [op, op'] [b, c] = false := by with_unfolding_all rfl) : PE X (.Compare a [op, op'] [b, c] pos) (tChain r r' ta tb tc) := by
  intro pins s σ H Q I h
  refine Compare_chain (thn (ha pins s σ H _ I h) fun v s1 ⟨x, H1, I1, r1, q1⟩ => chain_link (thn (hb pins s1 σ H1 _ I1 q1) fun u s2 ⟨y, H2, I2, r2, q2⟩ =>
    thn (ho pins s2 σ H2 x y v u _ I2 r1 r2 q2) fun d s3 ⟨z, H3, I3, r3, k, e, q3⟩ => ?_)) hm
  subst e
  cases r3
  refine wpAny_truthy_bool ?_
  cases k with
  | false => exact ite_ff ⟨.bl false, H3, I3, rfl, q3⟩
  | true => exact ite_tt (chain_last (thn (hc pins s3 σ H3 _ I3 q3) fun w' s4 ⟨z', H4, I4, r4, q4⟩ => ho' pins s4 σ H4 y z' u w' Q I4 r2 r4 q4))
theorem pt_chain {op op' : CmpOp} {r r' : R2} (ho : OpR X (compareOp op) r) (ho' : OpR X (compareOp op') r') (ha : PE X a ta) (hb : PE X b tb) (hc : PE X c tc)
    (hm : lastMarks [op, op'] [b, c] = false := by with_unfolding_all rfl) : PT X (.Compare a [op, op'] [b, c] pos) (tTest (tChain r r' ta tb tc)) := by
  intro pins s σ H Q I h
  refine isTrue_chain (thn (ha pins s σ H _ I h) fun v s1 ⟨x, H1, I1, r1, q1⟩ => test_link (thn (hb pins s1 σ H1 _ I1 q1) fun u s2 ⟨y, H2, I2, r2, q2⟩ =>
    thn (ho pins s2 σ H2 x y v u _ I2 r1 r2 q2) fun d s3 ⟨z, H3, I3, r3, k, e, q3⟩ => ?_)) hm
  subst e
  cases r3
  refine wpAny_truthy_bool ?_
  cases k with
  | false =>
    obtain ⟨k', e', q'⟩ := q3
    cases e'
    exact ite_ff ⟨H3, I3, q'⟩
  | true =>
    refine ite_tt (test_last (thn (hc pins s3 σ H3 _ I3 q3) fun w' s4 ⟨z', H4, I4, r4, q4⟩ => thn (ho' pins s4 σ H4 y z' u w' _ I4 r2 r4 q4) fun d' s5 ⟨z2, H5, I5, r5, k2, e2, q5⟩ => ?_))
    subst e2
    cases r5
    exact wpAny_truthy_bool ⟨H5, I5, q5⟩



theorem line63 : (sizeLine : Nat) < 2 ^ 63 := by rw [sizeLine_eq]; decide
theorem op_add_str : OpR X (binaryOp .Add) (fun x y H Q => ∃ i j, x = .str i ∧ y = .str j ∧ i.length + j.length ≤ sizeLine ∧ Q (.str (i ++ j)) H) := by
  intro pins s σ H x y v u Q I rx ry h
  obtain ⟨i, j, rfl, rfl, hz, q⟩ := h
  obtain ⟨t, rfl⟩ := rx
  obtain ⟨t', rfl⟩ := ry
  exact add_str (fun t' tk => ⟨.str (i ++ j), H, I.tok _, ⟨_, rfl⟩, q⟩) hz
theorem vals1 {x : V} {us : List Value} (r : Vals [x] us) : ∃ u, us = [u] ∧ RelV x u := by
  cases r with
  | cons r1 r2 => cases r2; exact ⟨_, rfl, r1⟩
theorem vals2 {x y : V} {us : List Value} (r : Vals [x, y] us) : ∃ u w', us = [u, w'] ∧ RelV x u ∧ RelV y w' := by
  cases r with
  | cons r1 r2 =>
    cases r2 with
    | cons r3 r4 => cases r4; exact ⟨_, _, rfl, r1, r3⟩
theorem call_max2 (hc : X.calm = true) : CallR X (.builtin "max") (fun xs H Q => ∃ i j, xs = [.int i, .int j] ∧ Q (.int (if j > i then j else i)) H) := by
  intro pins s σ H xs us Q I r h
  obtain ⟨i, j, rfl, q⟩ := h
  obtain ⟨u, w', rfl, ⟨t, rfl⟩, ⟨t', rfl⟩⟩ := vals2 r
  refine max_two_ints (I.ok.hd hc) fun h' tk k => ⟨_, H, I.kept k, ?_, q⟩
  by_cases hj : j > i
  · rw [if_pos hj, if_pos hj]; exact ⟨_, rfl⟩
  · rw [if_neg hj, if_neg hj]; exact ⟨_, rfl⟩
theorem call_int1 : CallR X (.type "int") (fun xs H Q => (∃ i, xs = [.int i] ∧ Q (.int i) H) ∨ ∃ k, xs = [.bl k] ∧ Q (.int (if k then 1 else 0)) H) := by
  intro pins s σ H xs us Q I r h
  rcases h with ⟨i, rfl, q⟩ | ⟨k, rfl, q⟩
  · obtain ⟨u, rfl, t, rfl⟩ := vals1 r
    exact call_int_int ⟨.int i, H, I, ⟨_, rfl⟩, q⟩
  · obtain ⟨u, rfl, r1⟩ := vals1 r
    cases r1
    exact call_int_bool ⟨.int (if k then 1 else 0), H, I.tok _, ⟨_, rfl⟩, q⟩
theorem call_str_int : CallR X (.type "str") (fun xs H Q => ∃ i, xs = [.int i] ∧ i.natAbs.log2 < 1920 ∧ Q (.str (toString i)) H) := by
  intro pins s σ H xs us Q I r h
  obtain ⟨i, rfl, hz, q⟩ := h
  obtain ⟨u, rfl, t, rfl⟩ := vals1 r
  exact PySem.P.str_of_int hz ⟨.str _, H, I.tok _, ⟨_, rfl⟩, q⟩
end
end L2

namespace L2
open PySem PySem.Spec PyProof.Rows


structure ObjM (h : Heap) (x dx C : Addr) (mA : Str → Option Value) : Prop where
  obj : h.get? x = some (PySem.W.instObj C dx)
  ns : h.Ns1 dx mA
  ne : dx ≠ x

theorem lookIn_ns {h : Heap} {dx : Addr} {mA : Str → Option Value} (n : h.Ns1 dx mA) : ∃ od, h.get? dx = some od ∧ ∀ name, PySem.W.lookIn name od = some (mA name) := by
  obtain ⟨o, es, ep, ho, hd, hk, _, hm⟩ := n
  refine ⟨o, ho, fun name => ?_⟩
  have e := hm name
  unfold nsFind findBy at e
  rw [← Array.find?_toList] at e
  unfold PySem.W.lookIn
  rw [hd]
  dsimp only
  split
  · rename_i y q
    rw [q] at e
    exact congrArg some e
  · rename_i q
    rw [q] at e
    have a : es.toList.any (·.refKey) = false := by
      rw [List.any_eq_false]
      intro y hy
      obtain ⟨z, t, hkey⟩ := hk y (Array.mem_toList_iff.mp hy)
      simp [DictEntry.refKey, hkey]
    have a' : ¬ es.toList.any (·.refKey) = true := by rw [a]; exact Bool.false_ne_true
    rw [if_neg a']
    exact congrArg some e

theorem ObjM.look {h : Heap} {x dx C : Addr} {mA : Str → Option Value} (I : ObjM h x dx C mA) : ∃ od, PySem.W.InstAt h x (PySem.W.instObj C dx) C (some od) ∧ ∀ name, PySem.W.lookIn name od = some (mA name) :=
  let ⟨od, ho, hl⟩ := lookIn_ns I.ns
  ⟨od, ⟨I.obj, rfl, rfl, ho⟩, hl⟩

section
variable {prog : Program} {w : World} {A : Around} {E : Value → Shared → Prop} {s : Shared} {K : PySem.W.Frag} {x dx C f : Addr} {mA : Str → Option Value} {name : Str} {v : Value}

end


theorem RelO.some_of {v : V} {o : Option Value} (r : RelO (some v) o) : ∃ u, o = some u ∧ RelV v u := by
  cases o with
  | none => exact (show False from r).elim
  | some u => exact ⟨u, rfl, r⟩
theorem handed_of {v : V} {u : Value} (r : RelV v u) : PySem.W.handedIn u = true := by
  cases v with
  | non => cases (show u = Value.none from r); rfl
  | bl b => cases (show u = Value.bool b from r); rfl
  | int i => obtain ⟨t, e⟩ := (show ∃ t, u = Value.int i t from r); cases e; rfl
  | str x => obtain ⟨t, e⟩ := (show ∃ t, u = Value.str x t from r); cases e; rfl
  | byt b => obtain ⟨t, e⟩ := (show ∃ t, u = Value.bytes b t from r); cases e; rfl
  | flt b => obtain ⟨t, e⟩ := (show ∃ t, u = Value.float b t from r); cases e; rfl
  | ref a => cases (show u = Value.ref a from r); rfl
  | ty n => cases (show u = Value.type n from r); rfl

section
variable {P : Program} {w : World} {H H' : Hp} {h h' : Heap} {a C dx : Addr} {fs fs' : List (Str × V)}
theorem ins_get (hok : HOk P w H h) (e : H a = some (.ins C dx fs)) : ∃ mA, ObjM h a dx C mA ∧ (∀ f, RelO (fs.lookup f) (mA f)) ∧ PySem.Within mA (fs.map (·.1)) ∧ fs.length ≤ 1000 ∧ H dx = some (.own a) := by
  obtain ⟨d, z, ne, ob, mA, n, r, q⟩ := (show ObjOk P w H h a (.ins C dx fs) from hok a _ e)
  exact ⟨mA, ⟨ob, n, ne⟩, r, q, z, d⟩
end


structure Cls (K : PySem.W.Frag) (C : Addr) : Prop where
  pg : PySem.W.plainGet K C Str.empty = true
  hd : PySem.W.hasDictIn K C = true
  po : PySem.W.plainOver K C = true
  sa : PySem.W.findIn K (.ref C) "__setattr__" = some (some (.builtin "object.__setattr__"))
theorem Cls.get {K : PySem.W.Frag} {C : Addr} (c : Cls K C) (f : Str) : PySem.W.plainGet K C f = true := c.pg

structure Con (K : PySem.W.Frag) (C : Addr) (f : Str) (v : V) (u : Value) : Prop where
  at_ : PySem.W.findIn K (.ref C) f = some (some u)
  rel : RelV v u
  get : PySem.W.specialIn K u "__get__" = some none
  cp : PySem.W.copiedNames.contains f = false

structure Meth (K : PySem.W.Frag) (C : Addr) (m : Str) (f : Addr) : Prop where
  at_ : PySem.W.findIn K (.ref C) m = some (some (.ref f))
  fn : PySem.W.isFn K (.ref f) = true
  kp : PySem.W.keepIn K (.ref f) = true

section
variable {X : Cx} {pins : List (Addr × Obj)} {σ : St} {H : Hp} {s : Shared} {a C dx : Addr} {fs : List (Str × V)} {f : Str} {v : V} {A : Around} {E : Value → Shared → Prop}

theorem attr_of {prog : Program} {w : World} {env : Env} {e : Expr} {f : Str} {pos : Pos} {s : Shared} {Q : Value → Shared → Prop} (hb : attributeBase e f env (eval e env) = eval e env)
    (h : wpAny (model prog w) A (eval e env) (fun o s₁ => wpAny (model prog w) A (getAttr o f true) Q E s₁) E s) : wpAny (model prog w) A (eval (.Attribute e f pos) env) Q E s :=
  Attribute_any_ h (by rw [arm_eval_Attribute, hb])
end



section
variable {X : Cx} {o e value : Expr} {f : Str} {pos pos' tpos : Pos} {ta tv : TE}
end


section
variable {X : Cx} {pins : List (Addr × Obj)} {σ : St} {H : Hp} {s : Shared} {A : Around} {E : Value → Shared → Prop} {Q : Value → Shared → Prop} {c : Value} {b : Bool}

inductive TyOf (K : PySem.W.Frag) (H : Hp) : V → Value → Prop where
  | non : TyOf K H .non (.type "NoneType")
  | bl (x : Bool) : TyOf K H (.bl x) (.type "bool")
  | int (i : Int) : TyOf K H (.int i) (.type "int")
  | str (x : Str) : TyOf K H (.str x) (.type "str")
  | flt (x : UInt64) : TyOf K H (.flt x) (.type "float")
  | lst {a : Addr} {xs : List V} (e : H a = some (.lst xs)) : TyOf K H (.ref a) (.type "list")
  | frz {a : Addr} {o : Obj} {xs : List V} (e : H a = some (.frz o (.lst xs))) : TyOf K H (.ref a) (.type "list")
  | tup {a : Addr} {xs : List V} (e : H a = some (.tup xs)) : TyOf K H (.ref a) (.type "tuple")
  | dK {a : Addr} {kvs : List (Key × V)} (e : H a = some (.dK kvs)) : TyOf K H (.ref a) (.type "dict")
  | dT {a : Addr} {kvs : List (List Key × V)} (e : H a = some (.dT kvs)) : TyOf K H (.ref a) (.type "dict")
  | ins {a C dx : Addr} {fs : List (Str × V)} (e : H a = some (.ins C dx fs)) (cl : Cls K C) (ha : PySem.W.findIn K (.ref C) "__class__" = some (some (.builtin "object.__class__")))
      (hn : PySem.W.specialIn K (.builtin "object.__class__") "__get__" = some (some (.builtin "getset_descriptor.__get__"))) (htk : PySem.W.takesIn K (.builtin "object.__class__") = some true)
      (hm : PySem.W.mroIn K C (.type "object") = some true) : TyOf K H (.ref a) (.ref C)

theorem isinst_ok {x : V} {u t : Value} (I : Inv X pins σ H s) (rx : RelV x u) (ty : TyOf X.K H x t) (e : PySem.W.kitOne X.K t c = some b) (h : ∀ tk, Q (.bool b) { s with toks := tk }) :
    wpAny (model X.prog X.w) A (call (.builtin "isinstance") [u, c]) Q E s := by
  cases ty with
  | non => cases (show u = Value.none from rx); exact PySem.W.kia_one PySem.W.kitx_none I.kIn True.intro e (fun z => nomatch z) h
  | bl y => cases (show u = Value.bool y from rx); exact PySem.W.kia_one PySem.W.kitx_bool I.kIn True.intro e (fun z => nomatch z) h
  | int i => obtain ⟨t, q⟩ := (show ∃ t, u = Value.int i t from rx); cases q; exact PySem.W.kia_one PySem.W.kitx_int I.kIn True.intro e (fun z => nomatch z) h
  | str y => obtain ⟨t, q⟩ := (show ∃ t, u = Value.str y t from rx); cases q; exact PySem.W.kia_one PySem.W.kitx_str I.kIn True.intro e (fun z => nomatch z) h
  | flt y => obtain ⟨t, q⟩ := (show ∃ t, u = Value.float y t from rx); cases q; exact PySem.W.kia_one PySem.W.kitx_float I.kIn True.intro e (fun z => nomatch z) h
  | @lst a xs ea =>
    cases (show u = Value.ref a from rx)
    obtain ⟨_, _, n, _, h1⟩ := (show ObjOk X.prog X.w H s.heap a (.lst xs) from I.hok a _ ea)
    exact PySem.W.kia_one PySem.W.kitx_list I.kIn ⟨_, h1, rfl⟩ e (fun z => nomatch z) h
  | @frz a ob xs ea =>
    cases (show u = Value.ref a from rx)
    obtain ⟨_, _, _, n, _, h1⟩ := (show ObjOk X.prog X.w H s.heap a (.frz ob (.lst xs)) from I.hok a _ ea)
    exact PySem.W.kia_one PySem.W.kitx_list I.kIn ⟨_, h1, rfl⟩ e (fun z => nomatch z) h
  | @tup a xs ea =>
    cases (show u = Value.ref a from rx)
    obtain ⟨_, _, _, p⟩ := (show ObjOk X.prog X.w H s.heap a (.tup xs) from I.hok a _ ea)
    obtain ⟨o, h1, h2, _⟩ := p
    exact PySem.W.kia_one PySem.W.kitx_tuple I.kIn ⟨o, h1, h2⟩ e (fun z => nomatch z) h
  | @dK a kvs ea =>
    cases (show u = Value.ref a from rx)
    obtain ⟨_, _, vs, _, p⟩ := (show ObjOk X.prog X.w H s.heap a (.dK kvs) from I.hok a _ ea)
    obtain ⟨o, es, ep, h1, h2, _⟩ := p
    exact PySem.W.kia_one PySem.W.kitx_dict I.kIn ⟨o, h1, h2.1⟩ e (fun z => nomatch z) h
  | @dT a kvs ea =>
    cases (show u = Value.ref a from rx)
    obtain ⟨_, _, xs, _, o, es, ep, h1, h2, _⟩ := (show ObjOk X.prog X.w H s.heap a (.dT kvs) from I.hok a _ ea)
    exact PySem.W.kia_one PySem.W.kitx_dict I.kIn ⟨o, h1, h2.1⟩ e (fun z => nomatch z) h
  | @ins a C dx fs ea cl ha hn htk hm =>
    cases (show u = Value.ref a from rx)
    obtain ⟨mA, O, _⟩ := ins_get I.hok ea
    obtain ⟨od, J, _⟩ := O.look
    exact PySem.W.kia_one (PySem.W.kitx_own (cl.get _) cl.hd ha hn htk hm) I.kIn J e (fun z => nomatch z) h
end
end L2

namespace L2
open PySem PySem.Spec PyProof.Rows


structure Room (k : Nat) (A : Around) : Prop where
  hd : A.handled = none
  dp : A.depth + 3 * k + 5 < recursionLimit
  un : A.units + 16 * k + 200 < cLine
theorem Room.mono {j k : Nat} {A : Around} (r : Room k A) (h : j ≤ k) : Room j A := ⟨r.hd, by have := r.dp; omega, by have := r.un; omega⟩
theorem Room.deeper {k : Nat} {A : Around} (r : Room (k + 1) A) (env : Env) : Room k (A.deeper env) :=
  ⟨r.hd, by have := r.dp; show A.depth + 1 + 3 * k + 5 < _; omega, by have := r.un; show A.units + 3 + 16 * k + 200 < _; omega⟩
theorem make_depth {A : Around} {C : Addr} {us : List Value} {kw : List (Str × Value)} : (A.under (.builtin "type.__call__" ⟨.ref C :: us, kw⟩)).depth = A.depth + 1 := by
  first | rfl | simp [Around.under, Code.weight, Code.isCreation, Code.isGuard, Code.isCaller, Code.frames, Code.isFrame, guardIds]
theorem make_units {A : Around} {C : Addr} {us : List Value} {kw : List (Str × Value)} : (A.under (.builtin "type.__call__" ⟨.ref C :: us, kw⟩)).units = A.units + 1 := by
  first | rfl | simp [Around.under, Code.cUnits, Code.frames, Code.isFrame]
theorem Room.make {k : Nat} {A : Around} (r : Room (k + 1) A) (C : Addr) (us : List Value) (kw : List (Str × Value)) : Room k (A.under (.builtin "type.__call__" ⟨.ref C :: us, kw⟩)) :=
  ⟨r.hd, by have := r.dp; rw [make_depth]; omega, by have := r.un; rw [make_units]; omega⟩
theorem Room.depth {k : Nat} {A : Around} (r : Room k A) : A.depth < recursionLimit := by have := r.dp; omega
theorem Room.units {k : Nat} {A : Around} (r : Room k A) : A.units + 64 < cLine := by have := r.un; omega
def tNil : TA := fun _ H Q => Q [] H
def tCons (ta : TE) (tr : TA) : TA := fun σ H Q => ta σ H fun x H1 => tr σ H1 fun xs H2 => Q (x :: xs) H2
section
variable {X : Cx} {e : Expr} {es : List Expr} {te : TE} {t : TA} {pos : Pos}
theorem pa_nil : PA X [] tNil := fun _ _ _ _ H Q I h => Calls.spliced_nil ⟨[], H, I, .nil, h⟩
theorem pa_cons (ha : PE X e te) (hr : PA X es t) (hs : starEach (e :: es) X.env = (false, eval e X.env) :: starEach es X.env := by rfl) : PA X (e :: es) (tCons te t) := by
  intro pos pins s σ H Q I h
  rw [hs]
  show wpAny _ _ (spliced ((false, eval e X.env) :: backTo pos (starEach es X.env))) _ _ s
  refine Calls.spliced_cons (thn (ha pins s σ H _ I h) fun u s1 ⟨x, H1, I1, r1, q1⟩ => ?_)
  exact thn (hr pos pins s1 σ H1 _ I1 q1) fun us s2 ⟨xs, H2, I2, r2, q2⟩ => ⟨x :: xs, H2, I2, .cons r1 r2, q2⟩


def tTup (t : TA) : TE := fun σ H Q => t σ H fun xs H1 => xs.length ≤ sizeLine ∧ ∀ p, H1 p = none → Q (.ref p) (upd H1 p (.tup xs))
def tLst (t : TA) : TE := fun σ H Q => t σ H fun xs H1 => xs.length ≤ sizeLine ∧ ∀ p, H1 p = none → Q (.ref p) (upd H1 p (.lst xs))
theorem pe_tup {x1} (h : PA X es t) : PE X (.Tuple es x1 pos) (tTup t) := by
  intro pins s σ H Q I hq
  refine wpAny_Tuple_spliced (thn (h pos pins s σ H _ I hq) fun us s1 ⟨xs, H1, I1, r, z, q⟩ => ⟨by rw [← r.length]; exact z, ?_⟩)
  have hf : H1 s1.heap.objs.size = none := I1.hok.fresh (Nat.le_refl _)
  refine ⟨.ref s1.heap.objs.size, upd H1 s1.heap.objs.size (.tup xs), I1.laid (t' := s1.toks) (fun b u e => Heap.get?_push_of_some _ e) (Nat.le_refl _) ?_, rfl, q _ hf⟩
  exact ⟨z, us, r, ⟨_, Heap.get?_push_size _ rfl, rfl, _, rfl⟩⟩
theorem pe_lst (h : PA X es t) : PE X (.List es pos) (tLst t) := by
  intro pins s σ H Q I hq
  refine wpAny_List_spliced (thn (h pos pins s σ H _ I hq) fun us s1 ⟨xs, H1, I1, r, z, q⟩ => ⟨by rw [← r.length]; exact z, ?_⟩)
  have hf : H1 s1.heap.objs.size = none := I1.hok.fresh (Nat.le_refl _)
  refine ⟨.ref s1.heap.objs.size, upd H1 s1.heap.objs.size (.lst xs), I1.laid (t' := s1.toks) (fun b u e => Heap.get?_push_of_some _ e) (Nat.le_refl _) ?_, rfl, q _ hf⟩
  exact ⟨z, us, 0, r, Heap.get?_push_size _ rfl⟩
end



abbrev Sp := List V → Hp → VK → XK → Prop

abbrev CXT := List Env → Hp → Shared → XK → Value → Shared → Prop


structure Env0 (P : Program) (w : World) (K : PySem.W.Frag) (mg : Str → Option Value) (base : Heap) (A : Around) (outer : List Env) (s : Shared) (H : Hp) : Prop where
  frames : A.frames = some outer
  mod : Mod K mg base
  bs : ∀ b o, base.get? b = some o → s.heap.get? b = some o ∧ H b = none
  bsz : base.objs.size ≤ s.heap.objs.size
  funs : s.heap.FunFrames base outer
  frf : ∀ b ∈ frs outer, H b = none
  hok : HOk P w H s.heap
  bare : AllBare s.gens

def CE (outer : List Env) (P : Program) (w : World) (H : Hp) (s : Shared) (Q : VK) (u : Value) (s' : Shared) : Prop :=
  ∃ v H', s'.os = s.os ∧ AllBare s'.gens ∧ Un (frs outer) [] H H' s.heap s'.heap ∧ HOk P w H' s'.heap ∧ RelV v u ∧ Q v H'
def CR (CX : CXT) (outer : List Env) (P : Program) (w : World) (H : Hp) (s : Shared) (Q : VK) (E : XK) (r : Result) (s' : Shared) : Prop :=
  match r with
  | .ok (.ret u) => CE outer P w H s Q u s'
  | .ok _ => False
  | .error e => CX outer H s E e s'
structure FnOk (P : Program) (w : World) (K : PySem.W.Frag) (mg : Str → Option Value) (base : Heap) (CX : CXT) (k : Nat) (f : Addr) (fd : FuncData) (ps : List Str) (sp : Sp) : Prop where
  len : ∀ vs H Q E, sp vs H Q E → vs.length = ps.length
  run : ∀ (A : Around) (outer : List Env) (s : Shared) (H : Hp) (args : Args) (us : List Value) (vs : List V) (Q : VK) (E : XK), Room k A → Env0 P w K mg base A outer s H → BindsTo s fd args (ps.zip us) → Vals vs us → sp vs H Q E →
    codeAny (model P w) A (.call (.ref f) args) (CR CX outer P w H s Q E) s
theorem Env0.make {P : Program} {w : World} {K : PySem.W.Frag} {mg : Str → Option Value} {base : Heap} {A : Around} {outer : List Env} {s : Shared} {H : Hp} (e : Env0 P w K mg base A outer s H) (C : Addr) (us : List Value) (kw : List (Str × Value)) :
    Env0 P w K mg base (A.under (.builtin "type.__call__" ⟨.ref C :: us, kw⟩)) outer s H := ⟨by first | exact e.frames | (simpa [Around.under, Code.envs, Code.isFrame, pushEnvs] using e.frames), e.mod, e.bs, e.bsz, e.funs, e.frf, e.hok, e.bare⟩
section
variable {X : Cx} {pins : List (Addr × Obj)} {σ : St} {H : Hp} {s s' : Shared}

theorem Inv.env0 (I : Inv X pins σ H s) : Env0 X.prog X.w X.K X.mg X.base X.A X.stack s H :=
  ⟨I.ok.frames, I.ok.mod, I.bs, Nat.le_trans I.ok.bsz I.sz, I.stack, I.stkFree, I.hok, I.bare⟩

theorem Inv.after {Q : VK} {u : Value} (I : Inv X pins σ H s) (h : CE X.stack X.prog X.w H s Q u s') : EP X pins σ Q u s' := by
  obtain ⟨v, H', os, bare, un, hok, r, q⟩ := h
  obtain ⟨hh, g, d, t, os'⟩ := s'
  obtain rfl : os' = s.os := os
  exact ⟨v, H', I.call (h' := hh) (g' := g) (d' := d) (t' := t) (ch := []) un hok bare (fun b z => absurd z (by simp)), r, q⟩
end



def tCall (sp : Sp) (dvs : List V) (E : XK) (t : TA) : TE := fun σ H Q => t σ H fun vs H1 => sp (vs ++ dvs) H1 Q E

def Binds (K : PySem.W.Frag) (fd : FuncData) (ps : List Str) (ds : List Value) : Prop :=
  ∀ (s : Shared) (us : List Value), K.In s.heap → (us ++ ds).length = ps.length → BindsTo s fd ⟨us, []⟩ (ps.zip (us ++ ds))

theorem Binds.all {K : PySem.W.Frag} {fd : FuncData} {ps : List Str} (h : ∀ us : List Value, us.length = ps.length → bindArgs fd ⟨us, []⟩ = pure (ps.zip us)) : Binds K fd ps [] := fun s us _ hl => by
  rw [List.append_nil] at hl ⊢
  exact .of_eq (h us hl)


def Passes (CX : CXT) (X : Cx) (E : XK) : Prop := ∀ (pins : List (Addr × Obj)) (σ : St) (H : Hp) (s : Shared) (e : Value) (s' : Shared), Inv X pins σ H s → CX X.stack H s E e s' → X.xe e s'

section
variable {X : Cx} {CX : CXT} {k : Nat} {f C : Addr} {fd : FuncData} {ps : List Str} {sp : Sp} {dvs : List V} {ds : List Value} {E : XK} {x m : Str} {p pos apos : Pos} {e o : Expr} {es : List Expr} {ta : TE} {t : TA}


theorem run_fn {pins : List (Addr × Obj)} {σ : St} {H : Hp} {s : Shared} {Q : VK} {us : List Value} {vs : List V} (F : FnOk X.prog X.w X.K X.mg X.base CX k f fd ps sp) (hr : Room k X.A) (hb : Binds X.K fd ps ds) (hd : Vals dvs ds) (hx : Passes CX X E)
    (I : Inv X pins σ H s) (r : Vals vs us) (h : sp (vs ++ dvs) H Q E) : wpAny (model X.prog X.w) X.A (call (.ref f) us) (EP X pins σ Q) X.xe s := by
  have r2 : Vals (vs ++ dvs) (us ++ ds) := r.append hd
  have hl : (us ++ ds).length = ps.length := by rw [← r2.length]; exact F.len _ _ _ _ h
  refine wpAny_call (codeAny_mono (F.run X.A X.stack s H ⟨us, []⟩ (us ++ ds) (vs ++ dvs) Q E hr I.env0 (hb s us I.kIn hl) r2 h) fun r s' hq => ?_)
  cases r with
  | error e => exact hx pins σ H s e s' I hq
  | ok fl =>
    cases fl with
    | ret u => exact I.after hq
    | next => exact False.elim hq
    | brk => exact False.elim hq
    | cont => exact False.elim hq

theorem pe_call (F : FnOk X.prog X.w X.K X.mg X.base CX k f fd ps sp) (hr : Room k X.A) (hg : Gl X x) (hm : X.mg x = some (.ref f)) (hk : PySem.W.keepIn X.K (.ref f) = true) (hb : Binds X.K fd ps ds) (hd : Vals dvs ds) (hx : Passes CX X E)
    (ha : PA X (e :: es) t) (hdb : (x == ("__debug__" : Str)) = false := by decide) (he : starEach (e :: es) X.env = (false, eval e X.env) :: starEach es X.env := by rfl) (hpl : (backTo pos (starEach es X.env)).any (·.1) = false := by rfl) :
    PE X (.Call (.Name x p) (e :: es) [] pos) (tCall sp dvs E t) := by
  intro pins s σ H Q I h
  refine wpAny_Call_Name_kw (ld_glob I hg hm ?_ hdb)
  refine PySem.W.callWith_K (h₀ := X.base) I.ok.mod.kin hk (thn (ha pos pins s σ H _ I h) fun us s1 ⟨vs, H1, I1, r, q⟩ => ⟨I1.kIn, ?_⟩) he hpl
  exact run_fn F hr hb hd hx I1 r q
theorem pe_call0 (F : FnOk X.prog X.w X.K X.mg X.base CX k f fd ps sp) (hr : Room k X.A) (hg : Gl X x) (hm : X.mg x = some (.ref f)) (hk : PySem.W.keepIn X.K (.ref f) = true) (hb : Binds X.K fd ps ds) (hd : Vals dvs ds) (hx : Passes CX X E)
    (hdb : (x == ("__debug__" : Str)) = false := by decide) : PE X (.Call (.Name x p) [] [] pos) (tCall sp dvs E tNil) := by
  intro pins s σ H Q I h
  refine wpAny_Call_Name_kw (ld_glob I hg hm ?_ hdb)
  exact PySem.W.callWith_K0 I.kIn hk (run_fn (us := []) F hr hb hd hx I .nil h)


structure Mk (K : PySem.W.Frag) (C f : Addr) : Prop where
  makes : PySem.W.makesIn K C = true
  init : PySem.W.findIn K (.ref C) "__init__" = some (some (.ref f))
  fn : PySem.W.isFn K (.ref f) = true
  kp : PySem.W.keepIn K (.ref C) = true

end



section
variable {X : Cx} {CX : CXT} {k : Nat} {f C : Addr} {fd : FuncData} {ps ks : List Str} {sp : Sp} {E : XK} {x m : Str} {p pos apos kpos : Pos} {e o : Expr} {es : List Expr} {kws : List Keyword} {te ta : TE} {t tk : TA} {nm : Option Str}
structure KBinds (K : PySem.W.Frag) (fd : FuncData) (ps ks : List Str) (g : List Value → List Value → List Value) (gV : List V → List V → List V) : Prop where
  to : ∀ (s : Shared) (us ws : List Value), K.In s.heap → (g us ws).length = ps.length → BindsTo s fd ⟨us, ks.zip ws⟩ (ps.zip (g us ws))
  rel : ∀ {vs : List V} {us : List Value} {zs : List V} {ws : List Value}, Vals vs us → Vals zs ws → Vals (gV vs zs) (g us ws)
variable {g : List Value → List Value → List Value} {gV : List V → List V → List V}
end



structure FnScope (N P : List Str) (sc : Scope) : Prop where
  kind : sc.kind = .function
  co : sc.isCoroutine = false
  gen : sc.isGenerator = false
  nd : N.Nodup
  pre : N.take P.length = P
  par : ∀ x ∈ P, sc.names.lookup x = some .local ∨ sc.names.lookup x = some .cell
  nofree : ∀ y ∈ sc.names, y.2 ≠ .free

theorem bindL_out {kindOf : Str → Option NameKind} {x : Str} : ∀ {binds : List (Str × Value)} {m : Str → Option Value}, (∀ v, (x, v) ∉ binds) → bindL kindOf binds m x = m x
  | [], _, _ => rfl
  | (n, v) :: r, m, h => by
    unfold bindL
    rw [bindL_out fun w hw => h w (List.mem_cons_of_mem _ hw)]
    split
    · have : x ≠ n := by rintro rfl; exact h v List.mem_cons_self
      simp [this]
    · rfl
theorem bindC_out {kindOf : Str → Option NameKind} {x : Str} : ∀ {binds : List (Str × Value)} {m : Str → Option Value}, (∀ v, (x, v) ∉ binds) → bindC kindOf binds m x = m x
  | [], _, _ => rfl
  | (n, v) :: r, m, h => by
    unfold bindC
    rw [bindC_out fun w hw => h w (List.mem_cons_of_mem _ hw)]
    split
    · rfl
    · have : x ≠ n := by rintro rfl; exact h v List.mem_cons_self
      simp [this]
theorem bindL_get {kindOf : Str → Option NameKind} {x : Str} {v : Value} : ∀ {P : List Str} {vs : List Value} {i : Nat} {m : Str → Option Value}, P.Nodup → P[i]? = some x → vs[i]? = some v → kindOf x = some .local →
    bindL kindOf (P.zip vs) m x = some v
  | [], _, _, _, _, h, _, _ => by simp at h
  | _ :: _, [], _, _, _, _, h, _ => by simp at h
  | p :: P, w :: vs, 0, m, nd, h1, h2, hk => by
    simp at h1 h2; subst h1; subst h2
    show bindL kindOf ((p, w) :: P.zip vs) m p = _
    unfold bindL
    rw [bindL_out fun v hv => (List.nodup_cons.mp nd).1 (List.of_mem_zip hv).1, if_pos hk]
    simp
  | p :: P, w :: vs, i + 1, m, nd, h1, h2, hk => by
    show bindL kindOf ((p, w) :: P.zip vs) m x = _
    unfold bindL
    exact bindL_get (i := i) (List.nodup_cons.mp nd).2 (by simpa using h1) (by simpa using h2) hk
theorem bindC_get {kindOf : Str → Option NameKind} {x : Str} {v : Value} : ∀ {P : List Str} {vs : List Value} {i : Nat} {m : Str → Option Value}, P.Nodup → P[i]? = some x → vs[i]? = some v → kindOf x ≠ some .local →
    bindC kindOf (P.zip vs) m x = some v
  | [], _, _, _, _, h, _, _ => by simp at h
  | _ :: _, [], _, _, _, _, h, _ => by simp at h
  | p :: P, w :: vs, 0, m, nd, h1, h2, hk => by
    simp at h1 h2; subst h1; subst h2
    show bindC kindOf ((p, w) :: P.zip vs) m p = _
    unfold bindC
    rw [bindC_out fun v hv => (List.nodup_cons.mp nd).1 (List.of_mem_zip hv).1, if_neg hk]
    simp
  | p :: P, w :: vs, i + 1, m, nd, h1, h2, hk => by
    show bindC kindOf ((p, w) :: P.zip vs) m x = _
    unfold bindC
    exact bindC_get (i := i) (List.nodup_cons.mp nd).2 (by simpa using h1) (by simpa using h2) hk


def start (N : List Str) (vs : List V) : St := vs.map some ++ List.replicate (N.length - vs.length) none


def cxOf (CX : CXT) (P : Program) (w : World) (K : PySem.W.Frag) (mg : Str → Option Value) (base : Heap) (N : List Str) (qual : Str) (scope : Scope) (f : Addr) (cd : Value) (A : Around) (outer : List Env) (s : Shared) (H : Hp) (E : XK) : Cx where
  prog := P
  w := w
  K := K
  mg := mg
  base := base
  A := A.deeper (envOfC qual scope s.heap.objs.size f cd)
  N := N
  s₀ := s
  H₀ := H
  env := envOfC qual scope s.heap.objs.size f cd
  outer := outer
  stack := envOfC qual scope s.heap.objs.size f cd :: outer
  ex := []
  calm := true
  fn := fun _ => true
  pn := []
  xe := fun e s' => wpAny (model P w) (A.deeper (envOfC qual scope s.heap.objs.size f cd)) (leaving (envOfC qual scope s.heap.objs.size f cd) e) (fun _ s'' => CX outer H s E e s'') (fun e' s'' => CX outer H s E e' s'') s'

theorem cell_has {sc : Scope} {n : Nat} {x : Str} (h : sc.names.lookup x = some .cell) : ∃ c, (cellsFrom n sc.names []).lookup x = some c := by
  have q := PySem.W.cellsFrom_some sc.names n [] (.inl h)
  exact Option.isSome_iff_exists.mp q

theorem inv_start {CX : CXT} {P : Program} {w : World} {K : PySem.W.Frag} {mg : Str → Option Value} {base : Heap} {N ps : List Str} {qual : Str} {scope : Scope} {f : Addr} {cd : Value} {A : Around} {outer : List Env} {s s1 : Shared} {H : Hp} {E : XK} {us : List Value} {vs : List V}
    (S : FnScope N ps scope) (hd : A.handled = none) (e0 : Env0 P w K mg base A outer s H) (hl : vs.length = ps.length) (r : Vals vs us)
    (x : InCallC s s.heap.objs.size (bindL (envOfC qual scope s.heap.objs.size f cd).kindOf (ps.zip us) fun _ => none) (cellsFrom (s.heap.objs.size + 1) scope.names []) (bindC (envOfC qual scope s.heap.objs.size f cd).kindOf (ps.zip us) fun _ => none) s1) :
    Inv (cxOf CX P w K mg base N qual scope f cd A outer s H E) [] (start N vs) H s1 := by
  have hpl : ps.length ≤ N.length := by have := congrArg List.length S.pre; rw [List.length_take] at this; omega
  obtain ⟨h1, tk, rfl, hk⟩ := x.done
  have noA : ∀ b : Addr, b ∉ (cxOf CX P w K mg base N qual scope f cd A outer s H E).ex := fun b z => absurd (show b ∈ ([] : List Addr) from z) (by simp)
  refine ⟨⟨e0.mod, S.kind, rfl, rfl, Nat.le_refl _, fun y z c h1 h2 => ?_, fun y hy => ?_, fun y c _ h => ?_, fun _ => hd, Around.frames_deeper e0.frames, .inr ⟨rfl, rfl⟩, fun b z => absurd z (noA b), e0.bs, e0.bsz, fun b _ _ => noA b, fun b z => absurd z (noA b), e0.funs, e0.frf⟩,
    rfl, e0.bare, Un.kept hk, ⟨_, x.toInCall.ns, fun i y v h1 h2 h3 => ?_⟩, fun y c h => ⟨_, x.cell y c h⟩, e0.hok.fresh (Nat.le_refl _), fun y c h => ?_, fun p hp => absurd (show p ∈ ([] : List (Addr × Obj)) from hp) (by simp), e0.hok.kept hk, ?_⟩
  · exact name_of_addr x.apart (PySem.mem_of_lookup h1) (PySem.mem_of_lookup h2)
  · have hy : scope.names.lookup y = some .cell ∨ scope.names.lookup y = some .free := hy
    rcases hy with hy | hy
    · exact cell_has hy
    · exact absurd rfl (S.nofree _ (PySem.mem_of_lookup hy))
  · exact Nat.le_of_lt (x.above y c (PySem.mem_of_lookup h))
  · have hi : i < vs.length := by
      unfold start at h2
      by_cases hi : i < vs.length
      · exact hi
      · rw [List.getElem?_append_right (by simpa using hi)] at h2
        rw [List.getElem?_replicate] at h2
        split at h2 <;> cases h2
    have ha : vs[i]? = some v := by
      unfold start at h2
      rw [List.getElem?_append_left (by simpa using hi), List.getElem?_map] at h2
      cases e : vs[i]? with
      | none => rw [e] at h2; cases h2
      | some a => rw [e] at h2; cases h2; rfl
    obtain ⟨u, hu, rv⟩ := r.get ha
    have hp : ps[i]? = some y := by
      rw [← S.pre, List.getElem?_take_of_lt (by omega)]; exact h1
    have ndP : ps.Nodup := by rw [← S.pre]; exact S.nd.sublist (List.take_sublist _ _)
    refine ⟨u, rv, ?_⟩
    rcases S.par y (List.mem_of_getElem? hp) with k | k
    · exact .inl ⟨k, bindL_get ndP hp hu k⟩
    · obtain ⟨c, e⟩ := cell_has (n := s.heap.objs.size + 1) k
      refine .inr ⟨.inl k, c, e, ?_⟩
      have q := x.cell y c e
      rw [bindC_get ndP hp hu (by show scope.names.lookup y ≠ _; rw [k]; decide)] at q
      exact q
  · exact e0.hok.fresh (Nat.le_of_lt (x.above y c (PySem.mem_of_lookup h)))
  · unfold start
    show _ = N.length
    rw [List.length_append, List.length_map, List.length_replicate]
    omega


theorem fn_of {CX : CXT} {P : Program} {w : World} {K : PySem.W.Frag} {mg : Str → Option Value} {base : Heap} {k : Nat} {f : Addr} {name qual : Str} {params : Arguments} {body : List Stmt} {scope : Scope} {dV kV doc pm cdv ct oc : Value} {an od : Option Addr}
    {osl : Array (Option Value)} {N ps : List Str} {sp : Sp} (lk : K.lookup f = some ⟨oc, od, .func (PySem.W.fnOf name qual params body scope dV kV doc pm an cdv ct), osl⟩) (hcd : PySem.W.codeIn K cdv qual = true) (S : FnScope N ps scope)
    (len : ∀ vs H Q E, sp vs H Q E → vs.length = ps.length)
    (hbody : ∀ (A : Around) (outer : List Env) (s : Shared) (H : Hp) (vs : List V) (Q : VK) (E : XK), Room k (A.deeper (envOfC qual scope s.heap.objs.size f cdv)) → sp vs H Q E →
      ∃ t, PSs (cxOf CX P w K mg base N qual scope f cdv A outer s H E) body t ∧ t { nx := fun _ H' => Q .non H', rt := Q } (start N vs) H) :
    FnOk P w K mg base CX (k + 1) f (PySem.W.fnOf name qual params body scope dV kV doc pm an cdv ct) ps sp := by
  refine ⟨len, fun A outer s H args us vs Q E hr e0 hb r hsp => ?_⟩
  have hl := len _ _ _ _ hsp
  have KX : K.In s.heap := e0.mod.kin.keeps fun b o e => (e0.bs b o e).1
  have lim : s.heap.NoLimit := e0.mod.nolimit.keeps fun b o e => (e0.bs b o e).1
  have hkind : ∀ y ∈ ps.zip us, scope.names.lookup y.1 = some .local ∨ (scope.names.lookup y.1 = some .cell ∧ ((cellsFrom (s.heap.objs.size + 1) scope.names []).lookup y.1).isSome = true) := fun ⟨n, v⟩ hy => by
    rcases S.par n (List.of_mem_zip hy).1 with q | q
    · exact .inl q
    · exact .inr ⟨q, PySem.W.cellsFrom_some _ _ _ (.inl q)⟩
  refine codeAny_call_function hr.depth (KX _ _ lk) rfl S.co S.gen rfl (PySem.W.codeRec_of KX hcd) (hb _ _ _ _ ?_)
  refine wpAny_newFunctionEnv_cells S.kind hkind fun env he s1 x => ?_
  subst he
  refine ⟨lim.keeps x.toInCall.keep, codeAny_func ?_⟩
  obtain ⟨t, ht, hq⟩ := hbody A outer s H vs Q E (hr.deeper _) hsp
  have I : Inv (cxOf CX P w K mg base N qual scope f cdv A outer s H E) [] (start N vs) H s1 := inv_start S hr.hd e0 hl r x
  refine wpAny_mono (ht [] s1 (start N vs) H _ I hq) (fun fl s' hs => ?_) fun e s' hs => hs
  have fin : ∀ {σ' : St} {H' : Hp} {v : V} {u : Value}, Inv (cxOf CX P w K mg base N qual scope f cdv A outer s H E) [] σ' H' s' → RelV v u → Q v H' → CE outer P w H s Q u s' :=
    fun {σ' H' v u} J rv q => ⟨v, H', J.os, J.bare, J.base, J.hok, rv, q⟩
  cases fl with
  | ret u =>
    obtain ⟨v, σ', H', J, rv, q⟩ := hs
    exact fin J rv q
  | next =>
    obtain ⟨σ', H', J, q⟩ := hs
    exact fin (v := V.non) (u := Value.none) J rfl q
  | brk =>
    obtain ⟨_, _, _, q⟩ := hs
    exact False.elim q
  | cont =>
    obtain ⟨_, _, _, q⟩ := hs
    exact False.elim q
end L2

namespace L2
open PySem PySem.Spec PyProof.Rows
section
variable {X : Cx} {x : Str} {p pos : Pos} {e : Expr} {es : List Expr} {t : TA} {id T : String} {r : List V → Hp → VK → Prop}

def tCB (r : List V → Hp → VK → Prop) (t : TA) : TE := fun σ H Q => t σ H fun vs H1 => r vs H1 Q

theorem pe_callB (hc : CallR X (.builtin id) r) (hg : Gl X x) (hm : X.mg x = none) (hv : bootBuiltins x = some (.builtin id)) (ha : PA X (e :: es) t) (hn : x ≠ "__name__" := by decide) (hdb : (x == ("__debug__" : Str)) = false := by decide)
    (he : starEach (e :: es) X.env = (false, eval e X.env) :: starEach es X.env := by rfl) (hpl : (backTo pos (starEach es X.env)).any (·.1) = false := by rfl) : PE X (.Call (.Name x p) (e :: es) [] pos) (tCB r t) := by
  intro pins s σ H Q I h
  refine wpAny_Call_Name_kw (ld_blt I hg hm hv ?_ hn hdb)
  exact PyProof.Rows.callWith_builtin1 (thn (ha pos pins s σ H _ I h) fun us s1 ⟨vs, H1, I1, r1, q1⟩ => hc pins s1 σ H1 vs us Q I1 r1 q1) he hpl

theorem pe_callTy (hc : CallR X (.type T) r) (hg : Gl X x) (hm : X.mg x = none) (hv : bootBuiltins x = some (.type T)) (ha : PA X (e :: es) t) (hn : x ≠ "__name__" := by decide) (hdb : (x == ("__debug__" : Str)) = false := by decide)
    (he : starEach (e :: es) X.env = (false, eval e X.env) :: starEach es X.env := by rfl) (hpl : (backTo pos (starEach es X.env)).any (·.1) = false := by rfl) : PE X (.Call (.Name x p) (e :: es) [] pos) (tCB r t) := by
  intro pins s σ H Q I h
  refine wpAny_Call_Name_kw (ld_blt I hg hm hv ?_ hn hdb)
  exact PyProof.Rows.callWith_type1 (thn (ha pos pins s σ H _ I h) fun us s1 ⟨vs, H1, I1, r1, q1⟩ => hc pins s1 σ H1 vs us Q I1 r1 q1) he hpl

end
end L2

namespace HT
open PySem PyProof.Rows


section
open PySem.SeqAt
open PySem.AutoSeq1 (wpAny_loadPart')
open PySem.MeetsSeq PySem.MeetsSeq2 PySem.MeetsSeq3

end

section
variable {prog : Program} {w : World} {A : Around} {E : Value → Shared → Prop} {s : Shared}

def sIx (n d : Nat) : Option Int → Nat
  | none => d
  | some v => if v < 0 then (v + (n : Int)).toNat else min v.toNat n
theorem sIx_nat (n d k : Nat) : sIx n d (some (k : Int)) = min k n := by
  show (if (k : Int) < 0 then ((k : Int) + (n : Int)).toNat else min (k : Int).toNat n) = min k n
  rw [if_neg (by omega), Int.toNat_natCast]
theorem sIx_le (n d : Nat) (hd : d ≤ n) (o : Option Int) : sIx n d o ≤ n := by
  cases o with
  | none => exact hd
  | some v =>
    show (if v < 0 then (v + (n : Int)).toNat else min v.toNat n) ≤ n
    by_cases hv : v < 0
    · rw [if_pos hv]; omega
    · rw [if_neg hv]; exact Nat.min_le_right _ _
theorem clip_eq (v : Int) (n d : Nat) : (if v < 0 then max (v + (n : Int)) 0 else min v (n : Int)) = ((sIx n d (some v) : Nat) : Int) := by
  show (if v < 0 then max (v + (n : Int)) 0 else min v (n : Int)) = (((if v < 0 then (v + (n : Int)).toNat else min v.toNat n) : Nat) : Int)
  by_cases hv : v < 0
  · simp only [if_pos hv]; omega
  · simp only [if_neg hv]; omega
theorem adjust_gen (lo hi : Option Int) (n : Nat) : Builtin.Slice.sliceAdjust lo hi 1 (n : Int) = (((sIx n 0 lo : Nat) : Int), ((sIx n n hi : Nat) : Int)) := by
  have h1 : ¬ ((1 : Int) < 0) := by omega
  unfold Builtin.Slice.sliceAdjust
  simp only [h1, if_false]
  refine Prod.ext ?_ ?_
  · cases lo with
    | none => rfl
    | some v => exact clip_eq v n 0
  · cases hi with
    | none => rfl
    | some v => exact clip_eq v n n
theorem places_gen (i j : Nat) : Builtin.Slice.slicePlaces (i : Int) (j : Int) 1 = j - i := by
  unfold Builtin.Slice.slicePlaces
  have h1 : (1 : Int) > 0 := by omega
  simp only [h1, if_true, Int.ediv_one]
  split <;> omega
theorem slicePart_ {v : Value} {o : Option Int} {Q : Option Int → Shared → Prop} (p : IsPart v o) (h : Q o s) : wpAny (model prog w) A (Builtin.Slice.slicePartIndex v) Q E s := by
  cases p with
  | none => exact slicePart_none h
  | int i t => exact slicePart_int h
theorem sliceApplied_gen {sl : Addr} {vl vu : Value} {lo hi : Option Int} {n : Nat} {Q : Int × Int × Nat → Shared → Prop} (hs : s.heap.IsSliceOf sl vl vu .none) (pl : IsPart vl lo) (pu : IsPart vu hi)
    (h : Q (((sIx n 0 lo : Nat) : Int), 1, sIx n n hi - sIx n 0 lo) s) : wpAny (model prog w) A (Builtin.Slice.sliceApplied (.ref sl) (pure (n : Int))) Q E s := by
  obtain ⟨os, hos, hcs, hds⟩ := id hs
  unfold Builtin.Slice.sliceApplied Builtin.Slice.sliceFields
  refine wpAny_bind (wpAny_bind (wpAny_field hos hds (x := vl) rfl (wpAny_bind (wpAny_field hos hds (x := vu) rfl (wpAny_bind (wpAny_field hos hds (x := .none) rfl (wpAny_pure ?_)))))))
  refine wpAny_bind (slicePart_none ?_)
  show wpAny _ _ (if ((1 : Int) == 0) = true then _ else _) _ _ s
  rw [if_neg (by decide)]
  refine wpAny_bind (slicePart_ pl (wpAny_bind (slicePart_ pu (wpAny_bind (wpAny_pure ?_)))))
  show wpAny _ _ (match Builtin.Slice.sliceAdjust lo hi 1 (n : Int) with | (lo, hi) => pure (lo, (1 : Int), Builtin.Slice.slicePlaces lo hi 1)) _ _ s
  rw [adjust_gen lo hi n]
  show wpAny _ _ (pure (((sIx n 0 lo : Nat) : Int), (1 : Int), Builtin.Slice.slicePlaces ((sIx n 0 lo : Nat) : Int) ((sIx n n hi : Nat) : Int) 1)) _ _ s
  rw [places_gen]
  exact wpAny_pure h
theorem pick_gen (xs : Array Value) (i k : Nat) : ((List.range k).filterMap fun (m : Nat) => xs[((i : Int) + (m : Int) * 1).toNat]?).toArray = ((xs.toList.drop i).take k).toArray := by
  have e : (fun (m : Nat) => xs[((i : Int) + (m : Int) * 1).toNat]?) = fun m => xs[i + m]? := by
    funext m
    have : ((i : Int) + (m : Int) * 1).toNat = i + m := by omega
    rw [this]
  rw [e]
  have := pick_run xs i k
  rw [List.filterMap_map] at this
  have e2 : ((fun x => xs[x]?) ∘ fun x => i + x) = fun m => xs[i + m]? := rfl
  rw [e2] at this
  rw [this]

theorem getItem_tuple_cut {t sl : Addr} {items : Array Value} {vl vu : Value} {lo hi : Option Int} {Q : Value → Shared → Prop} (ht : IsTup s.heap t items) (hs : s.heap.IsSliceOf sl vl vu .none) (pl : IsPart vl lo) (pu : IsPart vu hi)
    (hw : ¬ (sIx items.size 0 lo = 0 ∧ sIx items.size items.size hi = items.size))
    (h : Q (.ref s.heap.objs.size) { s with heap := s.heap.push { cls := .type "tuple", data := .seq ((items.toList.drop (sIx items.size 0 lo)).take (sIx items.size items.size hi - sIx items.size 0 lo)).toArray } })
    (hsz : items.size ≤ sizeLine) : wpAny (model prog w) A (getItem (.ref t) (.ref sl)) Q E s := by
  have htake : sizeOk (.seq ((items.toList.drop (sIx items.size 0 lo)).take (sIx items.size items.size hi - sIx items.size 0 lo)).toArray) := by
    show ((items.toList.drop (sIx items.size 0 lo)).take (sIx items.size items.size hi - sIx items.size 0 lo)).toArray.size ≤ sizeLine
    rw [List.size_toArray, List.length_take, List.length_drop, Array.length_toList]
    omega
  have hj : sIx items.size items.size hi ≤ items.size := sIx_le _ _ (Nat.le_refl _) hi
  obtain ⟨os, hos, hcs, hds⟩ := id hs
  have hTs : s.TypeIs (.ref sl) "slice" := ⟨os, hos, hcs⟩
  unfold getItem
  try with_reducible refine wpAny_holding ?_
  first | refine wpAny_bind (wpAny_pure ?_) | skip
  refine wpAny_bind (wpAny_sequenceKey ht.typeIs (by decide) ?_)
  refine wpAny_bind (wpAny_callSpecial?_slot (name := Str.ofString "__getitem__") ht.typeIs PyProof.Rows.slot_tuple_getitem
    (wpAny_call_entry PyProof.Rows.slot_tuple_getitem ht.typeIs entry_tuple_getitem ?_ (args_tuple_getitem _ _)))
  show wpAny _ _ (Builtin.Tuple.tupleItemsOf (.ref t) >>= _) _ _ s
  refine wpAny_bind (tupleItemsOf_ ht ?_)
  refine wpAny_bind (wpAny_typeOf hTs ?_)
  rw [if_pos (by decide)]
  refine wpAny_bind (sliceApplied_gen hs pl pu ?_)
  have hno : ¬ ((((sIx items.size 0 lo : Nat) : Int) == 0 && (1 : Int) == 1 && (sIx items.size items.size hi - sIx items.size 0 lo) == items.size) = true) := by
    intro q
    rw [Bool.and_eq_true, Bool.and_eq_true] at q
    have q1 : ((sIx items.size 0 lo : Nat) : Int) = 0 := eq_of_beq q.1.1
    have q2 : sIx items.size items.size hi - sIx items.size 0 lo = items.size := eq_of_beq q.2
    exact hw ⟨by omega, by omega⟩
  show wpAny _ _ (if (((sIx items.size 0 lo : Nat) : Int) == 0 && (1 : Int) == 1 && (sIx items.size items.size hi - sIx items.size 0 lo) == items.size) = true then _ else _) _ _ s
  rw [if_neg hno, pick_gen]
  first
    | exact wpAny_bind (m := Builtin.Tuple.tupleExact _) (wpAny_newObj_type (wpAny_pure ⟨_, rfl, wpAny_pure h⟩) htake)
    | exact wpAny_bind (m := Builtin.Tuple.tupleExact _) (wpAny_newObj_type (wpAny_bind (wpAny_pure (wpAny_pure ⟨_, rfl, wpAny_pure h⟩))) htake)
    | exact wpAny_bind (wpAny_bind (m := Builtin.Tuple.tupleExact _) (wpAny_newObj_type (wpAny_pure (wpAny_pure ⟨_, rfl, wpAny_pure h⟩)) htake))
    | exact wpAny_bind (wpAny_bind (m := Builtin.Tuple.tupleExact _) (wpAny_newObj_type (wpAny_pure ⟨_, rfl, wpAny_pure h⟩) htake))
end
end HT

namespace L2
open PySem PySem.Spec PyProof.Rows


abbrev TO := St → Hp → (Option Int → Hp → Prop) → Prop

def PO (X : Cx) (e : Option Expr) (t : TO) : Prop :=
  ∀ (pins : List (Addr × Obj)) (s : Shared) (σ : St) (H : Hp) (Q : Option Int → Hp → Prop), Inv X pins σ H s → t σ H Q →
    wpAny (model X.prog X.w) X.A (evalPart e X.env) (fun u s' => ∃ o H', Inv X pins σ H' s' ∧ IsPart u o ∧ Q o H') X.xe s
def tNoPart : TO := fun _ H Q => Q none H
def tPart (t : TE) : TO := fun σ H Q => t σ H fun x H1 => ∃ i, x = .int i ∧ Q (some i) H1

section
variable {X : Cx} {e : Expr} {te : TE} {lo hi : Option Expr} {tl th : TO} {pos p2 : Pos}

theorem po_none : PO X none tNoPart := by
  intro pins s σ H Q I h
  rw [evalPart_none]
  exact wpAny_pure ⟨none, H, I, .none, h⟩
theorem po_some (h : PE X e te) : PO X (some e) (tPart te) := by
  intro pins s σ H Q I hw
  rw [evalPart_some]
  refine thn (h pins s σ H _ I hw) fun u s1 ⟨x, H1, I1, r1, q1⟩ => ?_
  obtain ⟨i, rfl, q⟩ := q1
  obtain ⟨t, rfl⟩ := r1
  exact ⟨some i, H1, I1, .int i t, q⟩


def SlR (X : Cx) (r : V → Option Int → Option Int → Hp → VK → Prop) : Prop :=
  ∀ (pins : List (Addr × Obj)) (s : Shared) (σ : St) (H : Hp) (x : V) (v vl vu : Value) (lo hi : Option Int) (sl : Addr) (Q : VK), Inv X pins σ H s → RelV x v → s.heap.IsSliceOf sl vl vu .none → IsPart vl lo → IsPart vu hi → r x lo hi H Q →
    ∃ T id, typeLookup (.type T) "__getitem__" = pure (some (.builtin id)) ∧ s.TypeIs v T ∧ wpAny (model X.prog X.w) X.A (getItem v (.ref sl)) (EP X pins σ Q) X.xe s
def tSl (r : V → Option Int → Option Int → Hp → VK → Prop) (te : TE) (tl th : TO) : TE := fun σ H Q => te σ H fun x H1 => tl σ H1 fun l H2 => th σ H2 fun u H3 => r x l u H3 Q

theorem pe_slice {r : V → Option Int → Option Int → Hp → VK → Prop} (hr : SlR X r) (he : PE X e te) (hl : PO X lo tl) (hu : PO X hi th) : PE X (.Subscript e (.Slice lo hi none p2) pos) (tSl r te tl th) := by
  intro pins s σ H Q I h
  refine Subscript_ (thn (he pins s σ H _ I h) fun v s1 ⟨x, H1, I1, r1, q1⟩ => ?_)
  refine wpAny_Slice (thn (hl pins s1 σ H1 _ I1 q1) fun vl s2 ⟨l, H2, I2, pl, q2⟩ => thn (hu pins s2 σ H2 _ I2 q2) fun vu s3 ⟨u, H3, I3, pu, q3⟩ => ?_)
  rw [evalPart_none]
  refine wpAny_pure ?_
  have I4 : Inv X pins σ H3 { s3 with heap := s3.heap.push { cls := .type "slice", data := .fields #[vl, vu, .none] } } := I3.kept (t' := s3.toks) fun b ob q => Heap.get?_push_of_some _ q
  obtain ⟨T, id, hT, ht, hg⟩ := hr pins { s3 with heap := s3.heap.push { cls := .type "slice", data := .fields #[vl, vu, .none] } } σ H3 x v vl vu l u s3.heap.objs.size Q I4 r1 (Heap.IsSliceOf.new ..) pl pu q3
  show wpAny (model X.prog X.w) X.A (subscriptTail e (.Slice lo hi none p2) v (.ref s3.heap.objs.size)) (EP X pins σ Q) X.xe { s3 with heap := s3.heap.push { cls := .type "slice", data := .fields #[vl, vu, .none] } }
  exact tail_any (ops := [.ref s3.heap.objs.size, v]) ht hT hg (by with_unfolding_all rfl)


def cutV (xs : List V) (lo hi : Option Int) : List V := (xs.drop (HT.sIx xs.length 0 lo)).take (HT.sIx xs.length xs.length hi - HT.sIx xs.length 0 lo)
theorem cutV_length (xs : List V) (lo hi : Option Int) : (cutV xs lo hi).length ≤ xs.length := by
  unfold cutV
  rw [List.length_take, List.length_drop]
  omega

def rSlT (K : PySem.W.Frag) : V → Option Int → Option Int → Hp → VK → Prop := fun x lo hi H Q => ∃ a xs, x = .ref a ∧ SqT K H a xs ∧
  ¬ (HT.sIx xs.length 0 lo = 0 ∧ HT.sIx xs.length xs.length hi = xs.length) ∧ ∀ p, H p = none → Q (.ref p) (upd H p (.tup (cutV xs lo hi)))
theorem sl_tup : SlR X (rSlT X.K) := by
  intro pins s σ H x v vl vu lo hi sl Q I rx hs pl pu h
  obtain ⟨a, xs, rfl, hx, hw, q⟩ := h
  cases rx
  obtain ⟨its, r, ht, hz⟩ := I.tuple hx
  have hlen : its.toArray.size = xs.length := by rw [List.size_toArray]; exact r.length.symm
  refine ⟨"tuple", _, PyProof.Rows.slot_tuple_getitem.lookup, ht.typeIs, ?_⟩
  refine HT.getItem_tuple_cut ht hs pl pu (by rw [hlen]; exact hw) ?_ (by rw [hlen]; exact hz)
  rw [hlen]
  refine ⟨.ref s.heap.objs.size, _, I.laid (t' := s.toks) (o := .tup (cutV xs lo hi)) (fun b ob q => Heap.get?_push_of_some _ q) (Nat.le_refl _) ?_, rfl, q _ (I.hok.fresh (Nat.le_refl _))⟩
  exact ⟨Nat.le_trans (cutV_length xs lo hi) hz, _, (r.drop (HT.sIx xs.length 0 lo)).take (HT.sIx xs.length xs.length hi - HT.sIx xs.length 0 lo), IsTup.new _ _⟩


end
end L2

namespace L2
open PySem PySem.Spec PyProof.Rows



def ixN (n : Nat) (i : Int) : Option Nat := if 0 ≤ i then (if i < n then some i.toNat else none) else if -(n : Int) ≤ i then some (i + n).toNat else none
def atI {α : Type} (xs : List α) (i : Int) : Option α := (ixN xs.length i).bind fun j => xs[j]?
theorem ixN_seq {n : Nat} {i : Int} {j : Nat} (h : ixN n i = some j) : seqIndex? i n = some j ∧ j < n ∧ -(n : Int) ≤ i ∧ i < n := by
  unfold ixN at h
  by_cases h0 : 0 ≤ i
  · rw [if_pos h0] at h
    by_cases h1 : i < n
    · rw [if_pos h1] at h
      have e : i.toNat = j := Option.some.inj h
      exact ⟨by rw [seqIndex_of h0 h1, e], by omega, by omega, h1⟩
    · rw [if_neg h1] at h; cases h
  · rw [if_neg h0] at h
    by_cases h1 : -(n : Int) ≤ i
    · rw [if_pos h1] at h
      have e : (i + n).toNat = j := Option.some.inj h
      exact ⟨by rw [seqIndex_neg (by omega) h1, e], by omega, h1, by omega⟩
    · rw [if_neg h1] at h; cases h
theorem atI_get {α : Type} {xs : List α} {i : Int} {v : α} (h : atI xs i = some v) : ∃ j, seqIndex? i xs.length = some j ∧ xs[j]? = some v ∧ j < xs.length ∧ -(xs.length : Int) ≤ i ∧ i < xs.length := by
  unfold atI at h
  cases e : ixN xs.length i with
  | none => rw [e] at h; cases h
  | some j =>
    rw [e] at h
    obtain ⟨h1, h2, h3, h4⟩ := ixN_seq e
    exact ⟨j, h1, h, h2, h3, h4⟩
theorem atI_nat {α : Type} {xs : List α} {j : Nat} {v : α} (h : xs[j]? = some v) : atI xs (j : Int) = some v := by
  have hj : j < xs.length := (List.getElem?_eq_some_iff.mp h).1
  have e : ixN xs.length (j : Int) = some j := by
    unfold ixN
    rw [if_pos (by omega), if_pos (by omega)]; simp
  unfold atI; rw [e]; exact h
def PlainIx (b : Expr) : Prop := ∀ o i, subscripted b false o i = operate [o, i] (getItem o i)

def IxR (X : Cx) (r : R2) : Prop :=
  ∀ (value slice : Expr) (pins : List (Addr × Obj)) (s : Shared) (σ : St) (H : Hp) (x y : V) (v u : Value) (Q : VK), Inv X pins σ H s → RelV x v → RelV y u → r x y H Q →
    subscripted slice false v u = operate [v, u] (getItem v u) → wpAny (model X.prog X.w) X.A (subscriptTail value slice v u) (EP X pins σ Q) X.xe s

def MtR (X : Cx) (id : String) (r : V → List V → Hp → VK → Prop) : Prop :=
  ∀ (pins : List (Addr × Obj)) (s : Shared) (σ : St) (H : Hp) (x : V) (xs : List V) (v : Value) (us : List Value) (Q : VK), Inv X pins σ H s → RelV x v → Vals xs us → r x xs H Q →
    wpAny (model X.prog X.w) X.A (call (.builtin id) (v :: us)) (EP X pins σ Q) X.xe s
section
variable {X : Cx} {a b : Expr} {ta tb : TE} {pos : Pos}
theorem pe_ix {r : R2} (hr : IxR X r) (ha : PE X a ta) (hb : PE X b tb) (hs : PlainIx b) : PE X (.Subscript a b pos) (tOp r ta tb) := by
  intro pins s σ H Q I h
  exact Subscript_ (binT ha hb I h fun v u s2 x y H2 I2 rx ry q => hr a b pins s2 σ H2 x y v u Q I2 rx ry q (hs _ _))

def rIxL (K : PySem.W.Frag) : R2 := fun x y H Q => ∃ p xs i v, x = .ref p ∧ y = .int i ∧ SqL K H p xs ∧ atI xs i = some v ∧ Q v H
def rIxT (K : PySem.W.Frag) : R2 := fun x y H Q => ∃ p xs i v, x = .ref p ∧ y = .int i ∧ SqT K H p xs ∧ atI xs i = some v ∧ Q v H
def rIxS : R2 := fun x y H Q => ∃ z i c, x = .str z ∧ y = .int i ∧ z.length ≤ sizeLine ∧ atI z.cps.toList i = some c ∧ Q (.str ⟨#[c]⟩) H
theorem ix_list : IxR X (rIxL X.K) := by
  intro value slice pins s σ H x y v u Q I rx ry h hs
  obtain ⟨p, xs, i, z, rfl, rfl, hq, he, q⟩ := h
  cases rx
  obtain ⟨t, rfl⟩ := ry
  obtain ⟨its, r, pl, hz⟩ := I.list hq
  obtain ⟨j, h1, h2, h3, h4, h5⟩ := atI_get he
  obtain ⟨w, ew, rw'⟩ := r.get h2
  have hl := r.length
  have hn := line63
  have fin : EP X pins σ Q w s := ⟨z, H, I, rw', q⟩
  by_cases h0 : 0 ≤ i
  · have hj : i.toNat = j := by
      rw [seqIndex_of h0 h5] at h1
      exact Option.some.inj h1
    exact item_listR pl.isList h0 (by omega) (by rw [hj]; simpa using ew) fin hs
  · have hj : (i + (its.toArray.size : Int)).toNat = j := by
      rw [seqIndex_neg (by omega) h4] at h1
      rw [List.size_toArray, ← hl]
      exact Option.some.inj h1
    exact subscriptTail_builtinR (x := w) pl.isList.typeIs slot_list_getitem.lookup
      (wpAny_getItem_list_neg (Q := fun r s' => r = w ∧ EP X pins σ Q r s') pl.isList (by omega) (by rw [List.size_toArray] <;> omega) (by omega) (by rw [hj]; simpa using ew) ⟨rfl, fin⟩) hs
theorem ix_tup : IxR X (rIxT X.K) := by
  intro value slice pins s σ H x y v u Q I rx ry h hs
  obtain ⟨p, xs, i, z, rfl, rfl, hq, he, q⟩ := h
  cases rx
  obtain ⟨t, rfl⟩ := ry
  obtain ⟨its, r, pl, hz⟩ := I.tuple hq
  obtain ⟨j, h1, h2, h3, h4, h5⟩ := atI_get he
  obtain ⟨w, ew, rw'⟩ := r.get h2
  have hl := r.length
  have hn := line63
  have fin : EP X pins σ Q w s := ⟨z, H, I, rw', q⟩
  exact subscriptTail_builtinR (x := w) pl.typeIs slot_tuple_getitem.lookup
    (getItem_tuple (j := j) (Q := fun r s' => r = w ∧ EP X pins σ Q r s') pl (by omega) (by omega) (by rw [List.size_toArray, ← hl]; exact h1) (by simpa using ew) ⟨rfl, fin⟩) hs
theorem ix_str : IxR X rIxS := by
  intro value slice pins s σ H x y v u Q I rx ry h hs
  obtain ⟨z, i, c, rfl, rfl, hz, he, q⟩ := h
  obtain ⟨t, rfl⟩ := rx
  obtain ⟨t', rfl⟩ := ry
  obtain ⟨j, h1, h2, h3, h4, h5⟩ := atI_get he
  have hl : z.cps.toList.length = z.length := by simp [Str.length]
  rw [hl] at h1 h4 h5
  have hn := line63
  exact tail_any (typeIs_str s z t) slot_str_getitem.lookup (getItem_str (c := c) (by
    have e1 : decide (i < -(2 ^ 63 : Int)) = false := decide_eq_false (by omega)
    have e2 : decide (i ≥ 2 ^ 63) = false := decide_eq_false (by omega)
    rw [e1, e2, Bool.or_false]) (by rw [h1]; simpa using h2) ⟨.str ⟨#[c]⟩, H, I.tok _, ⟨_, rfl⟩, q⟩) hs

theorem mapSeq_set (its : List Value) (n j : Nat) (u : Value) : Obj.mapSeq (·.setIfInBounds j u) { cls := .type "list", data := .seq its.toArray n } = { cls := .type "list", data := .seq (its.set j u).toArray n } := by
  simp [Obj.mapSeq]
theorem Inv.lst {pins : List (Addr × Obj)} {σ : St} {H : Hp} {s : Shared} {p : Addr} {xs : List V} (I : Inv X pins σ H s) (h : H p = some (.lst xs)) :
    ∃ (its : List Value) (n : Nat), Vals xs its ∧ s.heap.get? p = some { cls := .type "list", data := .seq its.toArray n } ∧ xs.length ≤ sizeLine := by
  obtain ⟨z, its, n, r, e⟩ := I.hok p _ h
  exact ⟨its, n, r, e, z⟩

theorem Inv.lstUpd {pins : List (Addr × Obj)} {σ : St} {H : Hp} {s : Shared} {p : Addr} {xs ys : List V} {its its' : List Value} {n n' : Nat} {f : Obj → Obj} (I : Inv X pins σ H s) (h : H p = some (.lst xs))
    (ho : s.heap.get? p = some { cls := .type "list", data := .seq its.toArray n }) (hf : f { cls := .type "list", data := .seq its.toArray n } = { cls := .type "list", data := .seq its'.toArray n' }) (r : Vals ys its') (hz : ys.length ≤ sizeLine) (t : Nat) :
    Inv X pins σ (upd H p (.lst ys)) { s with heap := s.heap.update p f, toks := t } := by
  have e : (s.heap.update p f).get? p = some { cls := .type "list", data := .seq its'.toArray n' } := by
    rw [Heap.get?_update_self f ho (by rw [hf] <;> rfl), hf]
  refine I.write (x := p) (e := p) (by rw [h]; trivial) (.inl rfl) (fun b u hb q => (Heap.get?_update_other _ _ (Ne.symm hb)).trans q) ⟨_, e⟩ ?_
  exact ⟨hz, its', n', r, e⟩
def rSetL : V → V → V → Hp → (Hp → Prop) → Prop := fun o i v H Q => ∃ p xs k j, o = .ref p ∧ i = .int k ∧ H p = some (.lst xs) ∧ ixN xs.length k = some j ∧ Q (upd H p (.lst (xs.set j v)))
theorem set_list : PSet X rSetL := by
  intro pins s σ H o i v ov iv u Q I ro ri rv h
  obtain ⟨p, xs, k, j, rfl, rfl, hp, hj, q⟩ := h
  cases ro
  obtain ⟨t, rfl⟩ := ri
  obtain ⟨its, n, r, ho, hz⟩ := I.lst hp
  obtain ⟨h1, h2, h3, h4⟩ := ixN_seq hj
  have hl := r.length
  have hn := line63
  have I' : Inv X pins σ (upd H p (.lst (xs.set j v))) { s with heap := s.heap.update p (Obj.mapSeq (·.setIfInBounds j u)) } :=
    I.lstUpd hp ho (mapSeq_set its n j u) (r.set rv j) (by rw [List.length_set]; exact hz) s.toks
  by_cases h0 : 0 ≤ k
  · have hk : k.toNat = j := by
      rw [seqIndex_of h0 h4] at h1
      exact Option.some.inj h1
    exact PySem.W.ki_setAt ho h0 (by omega) (by rw [List.size_toArray, ← hl]; exact h4) (by rw [hk]; exact ⟨_, I', q⟩)
  · have hk : (k + (its.toArray.size : Int)).toNat = j := by
      rw [seqIndex_neg (by omega) h3] at h1
      rw [List.size_toArray, ← hl]
      exact Option.some.inj h1
    exact PySem.W.ki_setBack ho (by omega) (by rw [List.size_toArray, ← hl]; exact h3) (by omega) (by rw [hk]; exact ⟨_, I', q⟩)


theorem slice_bounds (lo hi : Option Int) (n : Nat) : (sliceBounds lo hi none n).1 = ((HT.sIx n 0 lo : Nat) : Int) ∧ (sliceBounds lo hi none n).2.1 = ((HT.sIx n n hi : Nat) : Int) ∧ (sliceBounds lo hi none n).2.2 = 1 := by
  refine ⟨?_, ?_, rfl⟩
  · cases lo with
    | none => simp [sliceBounds, HT.sIx]
    | some i =>
      simp only [sliceBounds, HT.sIx, Option.getD_none, show (1 : Int) > 0 by decide, if_true]
      by_cases h : i < 0
      · simp only [h, if_true] <;> omega
      · simp only [h, if_false] <;> omega
  · cases hi with
    | none => simp [sliceBounds, HT.sIx]
    | some i =>
      simp only [sliceBounds, HT.sIx, Option.getD_none, show (1 : Int) > 0 by decide, if_true]
      by_cases h : i < 0
      · simp only [h, if_true] <;> omega
      · simp only [h, if_false] <;> omega
theorem slicePick_cut (its : List Value) (lo hi : Option Int) : slicePick its.toArray lo hi none = ((its.drop (HT.sIx its.length 0 lo)).take (HT.sIx its.length its.length hi - HT.sIx its.length 0 lo)).toArray := by
  obtain ⟨h1, h2, h3⟩ := slice_bounds lo hi its.toArray.size
  unfold slicePick
  rw [h1, h2, h3]
  simp only [sliceRange_one, pick_run, List.size_toArray] <;> rfl

def rSlL (K : PySem.W.Frag) : V → Option Int → Option Int → Hp → VK → Prop := fun x lo hi H Q => ∃ a xs, x = .ref a ∧ SqL K H a xs ∧ ∀ p, H p = none → Q (.ref p) (upd H p (.lst (cutV xs lo hi)))
theorem sl_list : SlR X (rSlL X.K) := by
  intro pins s σ H x v vl vu lo hi sl Q I rx hs pl pu h
  obtain ⟨a, xs, rfl, hx, q⟩ := h
  cases rx
  obtain ⟨its, r, ht, hz⟩ := I.list hx
  have hlen := r.length
  refine ⟨"list", _, slot_list_getitem.lookup, ht.isList.typeIs, ?_⟩
  refine wpAny_getItem_list_slice ht.isList hs pl pu .none (by simp) ?_ (by rw [List.size_toArray] <;> omega)
  rw [slicePick_cut, ← hlen]
  refine ⟨.ref s.heap.objs.size, _, I.laid (t' := s.toks) (o := .lst (cutV xs lo hi)) (fun b ob q => Heap.get?_push_of_some _ q) (Nat.le_refl _) ?_, rfl, q _ (I.hok.fresh (Nat.le_refl _))⟩
  exact ⟨Nat.le_trans (cutV_length xs lo hi) hz, _, 0, (r.drop (HT.sIx xs.length 0 lo)).take (HT.sIx xs.length xs.length hi - HT.sIx xs.length 0 lo), Heap.get?_push_size _ rfl⟩


def flatV : V → Bool
  | .non => true
  | .bl _ => true
  | .int _ => true
  | .str _ => true
  | _ => false

def eqV : V → V → Bool
  | .non, .non => true
  | .bl a, .bl b => a == b
  | .bl a, .int b => (if a then 1 else 0) == b
  | .int a, .bl b => a == (if b then 1 else 0)
  | .int a, .int b => a == b
  | .str a, .str b => a == b
  | _, _ => false
theorem eqAt_V {A : Around} {s : Shared} {y x : V} {u v : Value} (ry : RelV y u) (rx : RelV x v) (fy : flatV y = true) (fx : flatV x = true) : SeqAt.EqAt A s u v (eqV y x) := by
  cases y with
  | non =>
    cases ry
    cases x with
    | non => cases rx; exact SeqAt.EqAt.same _
    | bl b => cases rx; exact SeqAt.EqAt.none_bool b
    | int b => obtain ⟨t, rfl⟩ := rx; exact SeqAt.EqAt.none_int b t
    | str b => obtain ⟨t, rfl⟩ := rx; exact SeqAt.EqAt.none_str b t
    | _ => exact absurd (show false = true from fx) Bool.false_ne_true
  | bl a =>
    cases ry
    cases x with
    | non => cases rx; exact SeqAt.EqAt.bool_none a
    | bl b => cases rx; exact SeqAt.EqAt.bool_bool a b
    | int b => obtain ⟨t, rfl⟩ := rx; exact SeqAt.EqAt.bool_int a b t
    | str b => obtain ⟨t, rfl⟩ := rx; exact SeqAt.EqAt.bool_str a b t
    | _ => exact absurd (show false = true from fx) Bool.false_ne_true
  | int a =>
    obtain ⟨t', rfl⟩ := ry
    cases x with
    | non => cases rx; exact SeqAt.EqAt.int_none a t'
    | bl b => cases rx; exact SeqAt.EqAt.int_bool a t' b
    | int b => obtain ⟨t, rfl⟩ := rx; exact SeqAt.EqAt.int_int a t' b t
    | str b => obtain ⟨t, rfl⟩ := rx; exact SeqAt.EqAt.int_str a t' b t
    | _ => exact absurd (show false = true from fx) Bool.false_ne_true
  | str a =>
    obtain ⟨t', rfl⟩ := ry
    cases x with
    | non => cases rx; exact SeqAt.EqAt.str_none a t'
    | bl b => cases rx; exact SeqAt.EqAt.str_bool a t' b
    | int b => obtain ⟨t, rfl⟩ := rx; exact SeqAt.EqAt.str_int a t' b t
    | str b => obtain ⟨t, rfl⟩ := rx; exact SeqAt.EqAt.str_str a t' b t
    | _ => exact absurd (show false = true from fx) Bool.false_ne_true
  | _ => exact absurd (show false = true from fy) Bool.false_ne_true

def eqU (x : V) (u : Value) : Bool := match u with
  | .none => eqV .non x
  | .bool b => eqV (.bl b) x
  | .int i _ => eqV (.int i) x
  | .str z _ => eqV (.str z) x
  | _ => false
theorem eqU_of {x y : V} {u : Value} (r : RelV y u) (f : flatV y = true) : eqU x u = eqV y x := by
  cases y with
  | non => cases r; rfl
  | bl b => cases r; rfl
  | int i => obtain ⟨t, rfl⟩ := r; rfl
  | str z => obtain ⟨t, rfl⟩ := r; rfl
  | _ => exact absurd (show false = true from f) Bool.false_ne_true
theorem any_eqU {x : V} : ∀ {xs : List V} {us : List Value}, Vals xs us → xs.all flatV = true → us.any (eqU x) = xs.any fun y => eqV y x
  | _, _, .nil, _ => rfl
  | y :: xs, u :: us, .cons r t, f => by
    rw [List.all_cons, Bool.and_eq_true] at f
    rw [List.any_cons, List.any_cons, eqU_of r f.1, any_eqU t f.2]
theorem mem_eqAt {A : Around} {s : Shared} {x : V} {v : Value} (rx : RelV x v) (fx : flatV x = true) : ∀ {xs : List V} {us : List Value}, Vals xs us → xs.all flatV = true → ∀ u ∈ us, SeqAt.EqAt A s u v (eqU x u)
  | _, _, .nil, _ => fun u hu => by cases hu
  | y :: xs, u :: us, .cons r t, f => fun u' hu => by
    rw [List.all_cons, Bool.and_eq_true] at f
    rcases List.mem_cons.mp hu with rfl | hu
    · rw [eqU_of r f.1]; exact eqAt_V r rx f.1 fx
    · exact mem_eqAt rx fx t f.2 u' hu
def inV (x : V) (xs : List V) : Bool := xs.any fun y => eqV y x

def rIn (K : PySem.W.Frag) (neg : Bool) : R2 := fun x y H Q => ∃ p xs, y = .ref p ∧ (SqL K H p xs ∨ SqT K H p xs) ∧ flatV x = true ∧ xs.all flatV = true ∧ Q (.bl (if neg then !inV x xs else inV x xs)) H
theorem op_in_seq : OpR X (compareOp .In) (rIn X.K false) := by
  intro pins s σ H x y v u Q I rx ry h
  obtain ⟨p, xs, rfl, hq, fx, fs, q⟩ := h
  cases ry
  rcases hq with hq | hq
  · obtain ⟨its, r, pl, hz⟩ := I.list hq
    refine SeqAt.in_listAt (eqU x) pl.isList (fun w hw => mem_eqAt rx fx r fs w (by simpa using hw)) ⟨.bl _, H, I, rfl, ?_⟩
    rw [show its.toArray.any (eqU x) = its.any (eqU x) by simp, any_eqU r fs]
    exact q
  · obtain ⟨its, r, pl, hz⟩ := I.tuple hq
    refine SeqAt.in_tupleAt (eqU x) pl (fun w hw => mem_eqAt rx fx r fs w (by simpa using hw)) ⟨.bl _, H, I, rfl, ?_⟩
    rw [show its.toArray.any (eqU x) = its.any (eqU x) by simp, any_eqU r fs]
    exact q
theorem op_notIn_seq : OpR X (compareOp .NotIn) (rIn X.K true) := by
  intro pins s σ H x y v u Q I rx ry h
  obtain ⟨p, xs, rfl, hq, fx, fs, q⟩ := h
  cases ry
  rcases hq with hq | hq
  · obtain ⟨its, r, pl, hz⟩ := I.list hq
    refine SeqAt.notIn_listAt (eqU x) pl.isList (fun w hw => mem_eqAt rx fx r fs w (by simpa using hw)) ⟨.bl _, H, I, rfl, ?_⟩
    rw [show its.toArray.any (eqU x) = its.any (eqU x) by simp, any_eqU r fs]
    exact q
  · obtain ⟨its, r, pl, hz⟩ := I.tuple hq
    refine SeqAt.notIn_tupleAt (eqU x) pl (fun w hw => mem_eqAt rx fx r fs w (by simpa using hw)) ⟨.bl _, H, I, rfl, ?_⟩
    rw [show its.toArray.any (eqU x) = its.any (eqU x) by simp, any_eqU r fs]
    exact q
theorem call_len_seq : CallR X (.builtin "len") (fun xs H Q => ∃ p ys, xs = [.ref p] ∧ (SqL X.K H p ys ∨ SqT X.K H p ys) ∧ Q (.int ys.length) H) := by
  intro pins s σ H xs us Q I r h
  obtain ⟨p, ys, rfl, hq, q⟩ := h
  obtain ⟨u, rfl, rx⟩ := vals1 r
  cases rx
  have hn := line63
  rcases hq with hq | hq
  · obtain ⟨its, r', pl, hz⟩ := I.list hq
    have hlen := r'.length
    exact Calls.call_len_list pl.isList (by simp only [List.size_toArray] <;> omega) ⟨.int ys.length, H, I.tok _, ⟨s.toks + 1, by rw [List.size_toArray, hlen]⟩, q⟩
  · obtain ⟨its, r', pl, hz⟩ := I.tuple hq
    have hlen := r'.length
    exact len_tuple pl (by simp only [List.size_toArray] <;> omega) ⟨.int ys.length, H, I.tok _, ⟨s.toks + 1, by rw [List.size_toArray, hlen]⟩, q⟩
theorem call_len_str : CallR X (.builtin "len") (fun xs H Q => ∃ z, xs = [.str z] ∧ z.length ≤ sizeLine ∧ Q (.int z.length) H) := by
  intro pins s σ H xs us Q I r h
  obtain ⟨z, rfl, hz, q⟩ := h
  obtain ⟨u, rfl, t, rfl⟩ := vals1 r
  have hn := line63
  exact len_str (by omega) ⟨.int z.length, H, I.tok _, ⟨_, rfl⟩, q⟩
theorem call_tuple_of : CallR X (.type "tuple") (fun xs H Q => ∃ p ys, xs = [.ref p] ∧ ((SqL X.K H p ys ∧ ∀ l, H l = none → Q (.ref l) (upd H l (.tup ys))) ∨ (SqT X.K H p ys ∧ Q (.ref p) H))) := by
  intro pins s σ H xs us Q I r h
  obtain ⟨p, ys, rfl, h⟩ := h
  obtain ⟨u, rfl, rx⟩ := vals1 r
  cases rx
  rcases h with ⟨hq, q⟩ | ⟨hq, q⟩
  · obtain ⟨its, r', pl, hz⟩ := I.list hq
    have hlen := r'.length
    refine call_tuple_list pl.isList (fun h' kp => ?_) (by simp only [List.size_toArray] <;> omega)
    have I1 : Inv X pins σ H { s with heap := h' } := I.kept (t' := s.toks) kp
    have I2 : Inv X pins σ (upd H h'.objs.size (.tup ys)) { s with heap := h'.push { cls := .type "tuple", data := .seq its.toArray } } :=
      I1.laid (t' := s.toks) (fun b o e => Heap.get?_push_of_some _ e) (Nat.le_refl _) (show ObjOk X.prog X.w _ _ _ (.tup ys) from ⟨hz, its, r', IsTup.new _ _⟩)
    exact ⟨.ref h'.objs.size, _, I2, rfl, q _ (I1.hok.fresh (Nat.le_refl _))⟩
  · obtain ⟨its, r', pl, hz⟩ := I.tuple hq
    exact call_tuple_same pl ⟨.ref p, H, I, rfl, q⟩



def tyV (K : PySem.W.Frag) (T : String) (x : V) (H : Hp) : Prop := match x with
  | .str _ => T = "str"
  | .int _ => T = "int"
  | .ref p => (T = "list" ∧ ∃ xs, SqL K H p xs) ∨ (T = "tuple" ∧ ∃ o, K.lookup p = some o ∧ o.cls = .type "tuple" ∧ o.dict = none) ∨
      (T = "dict" ∧ ((∃ kvs, H p = some (.dK kvs)) ∨ ∃ kvs, H p = some (.dT kvs))) ∨ (T = "set" ∧ ∃ S n, H p = some (.set S n))
  | _ => False
theorem tyV_is {pins : List (Addr × Obj)} {σ : St} {H : Hp} {s : Shared} {T : String} {x : V} {v : Value} (I : Inv X pins σ H s) (r : RelV x v) (ty : tyV X.K T x H) :
    s.TypeIs v T ∧ ∀ a, v = .ref a → ∃ ob, s.heap.get? a = some ob ∧ ob.dict = none := by
  cases x with
  | str z =>
    obtain ⟨t, rfl⟩ := r
    cases (show T = "str" from ty)
    exact ⟨typeIs_str s z t, fun _ e => nomatch e⟩
  | int i =>
    obtain ⟨t, rfl⟩ := r
    cases (show T = "int" from ty)
    exact ⟨typeIs_int s i t, fun _ e => nomatch e⟩
  | ref p =>
    cases r
    rcases ty with ⟨rfl, xs, hq⟩ | ⟨rfl, o, hk, hc, hd⟩ | ⟨rfl, hk⟩ | ⟨rfl, S, n, hk⟩
    · obtain ⟨its, _, pl, _⟩ := I.list hq
      refine ⟨pl.isList.typeIs, fun a e => ?_⟩
      cases e
      obtain ⟨o, n, e, c, hd, _⟩ := pl
      exact ⟨o, e, hd⟩
    · refine ⟨⟨o, I.kIn p o hk, hc⟩, fun a e => ?_⟩
      cases e
      exact ⟨o, I.kIn _ o hk, hd⟩
    · have z : ∃ o, s.heap.get? p = some o ∧ o.ExactDict := by
        rcases hk with ⟨kvs, hk⟩ | ⟨kvs, hk⟩
        · obtain ⟨_, _, _, _, o, _, _, e, ex, _⟩ := I.hok p _ hk
          exact ⟨o, e, ex⟩
        · obtain ⟨_, _, _, _, o, _, _, e, ex, _⟩ := I.hok p _ hk
          exact ⟨o, e, ex⟩
      obtain ⟨o, e, ex⟩ := z
      refine ⟨⟨o, e, ex.1⟩, fun a e2 => ?_⟩
      cases e2
      exact ⟨o, e, ex.2.1⟩
    · obtain ⟨o, _, _, _, e, ex, _⟩ := I.hok p _ hk
      refine ⟨⟨o, e, ex.1⟩, fun a e2 => ?_⟩
      cases e2
      exact ⟨o, e, ex.2.1⟩
  | _ => exact False.elim ty
def tBM (K : PySem.W.Frag) (T : String) (r : V → List V → Hp → VK → Prop) (to : TE) (t : TA) : TE := fun σ H Q => to σ H fun x H1 => tyV K T x H1 ∧ t σ H1 fun xs H2 => r x xs H2 Q
variable {o e : Expr} {es : List Expr} {to : TE} {t : TA} {name : Str} {apos cpos : Pos} {T id : String} {r : V → List V → Hp → VK → Prop}
theorem pe_bm (pa : PlainAttrs T) (slot : Slot T name id) (hty : typeOf (.builtin id) = pure (.type "method_descriptor")) (hm : MtR X id r) (ho : PE X o to) (ha : PA X (e :: es) t)
    (hbase : attributeBase o name X.env (eval o X.env) = eval o X.env := by rfl)
    (hfew : ((backTo cpos (starEach (e :: es) X.env)).all (fun x => !x.1) && (backToKw cpos (keywordEach [] X.env)).all (fun x => x.1.isSome)
      && decide ((e :: es).length + ([] : List Keyword).length + (if ([] : List Keyword).isEmpty then 0 else 1) < 30)) = true := by rfl)
    (hline : (apos.endLine == cpos.line) = true := by rfl) (hs : starEach (e :: es) X.env = (false, eval e X.env) :: starEach es X.env := by rfl) (hplain : (backTo cpos (starEach es X.env)).any (·.1) = false := by rfl) :
    PE X (.Call (.Attribute o name apos) (e :: es) [] cpos) (tBM X.K T r to t) := by
  intro pins s σ H Q I h
  refine wpAny_Call_method_late hbase hfew hline rfl (thn (ho pins s σ H _ I h) fun v s1 ⟨x, H1, I1, r1, ty, q1⟩ => ?_)
  obtain ⟨h1, h2⟩ := tyV_is I1 r1 ty
  refine ⟨T, id, pa, slot, hty, h1, h2, ?_⟩
  have hA := ha cpos pins s1 σ H1 _ I1 q1
  rw [hs] at hA ⊢
  refine Calls.callWith_builtin (by show (false || (backTo cpos (starEach es X.env)).any (·.1)) = false; rw [hplain] <;> rfl) (Calls.evalArgs_plain ?_)
  exact thn hA fun us s2 ⟨vs, H2, I2, r2, q2⟩ => hm pins s2 σ H2 x vs v us Q I2 r1 r2 q2

end
end L2

namespace L2
open PySem PySem.Spec PyProof.Rows

def MtM (X : Cx) (id : String) (r : V → List V → Hp → VK → Prop) : Prop :=
  ∀ (pins : List (Addr × Obj)) (s : Shared) (σ : St) (H : Hp) (x : V) (xs : List V) (v : Value) (us : List Value) (Q : VK), Inv X pins σ H s → RelV x v → Vals xs us → r x xs H Q →
    wpAny (model X.prog X.w) X.A (call (.builtin id) (v :: us)) (EP X pins σ Q) X.xe s


theorem Vals.one : ∀ {x : V} {us : List Value}, Vals [x] us → ∃ u, us = [u] ∧ RelV x u
  | _, _, .cons r .nil => ⟨_, rfl, r⟩
section
variable {X : Cx} {pins : List (Addr × Obj)} {σ : St} {H : Hp} {s : Shared} {l b : Addr} {xs ys zs : List V}


theorem Inv.lset {its its' : List Value} {n : Nat} {f : Array Value → Array Value} {t' : Nat} (I : Inv X pins σ H s) (hH : H l = some (.lst xs))
    (e : s.heap.get? l = some { cls := .type "list", data := .seq its.toArray n }) (hf : f its.toArray = its'.toArray) (hv : Vals ys its') (hz : ys.length ≤ sizeLine) :
    Inv X pins σ (upd H l (.lst ys)) { s with heap := s.heap.update l (Obj.mapSeq f), toks := t' } := by
  have q := PySem.IsL.update e f
  rw [hf] at q
  refine I.write (x := l) (e := l) (by rw [hH]; exact trivial) (.inl rfl) (fun b' u hb hu => (Heap.get?_update_other s.heap (Obj.mapSeq f) (Ne.symm hb)).trans hu) ⟨_, q⟩ ?_
  exact ⟨hz, its', _, hv, q⟩
theorem Inv.lnew {its : List Value} {t' : Nat} (I : Inv X pins σ H s) (hv : Vals ys its) (hz : ys.length ≤ sizeLine) :
    Inv X pins σ (upd H s.heap.objs.size (.lst ys)) { s with heap := s.heap.push { cls := .type "list", data := .seq its.toArray }, toks := t' } :=
  I.laid (fun _ _ q => Heap.get?_push_of_some _ q) (Nat.le_refl _) ⟨hz, its, 0, hv, Heap.get?_push_size _ rfl⟩
theorem Inv.fresh (I : Inv X pins σ H s) : H s.heap.objs.size = none := I.hok.fresh (Nat.le_refl _)
theorem Inv.lstM (I : Inv X pins σ H s) (hH : H l = some (.lst xs)) : xs.length ≤ sizeLine ∧ ∃ (its : List Value) (n : Nat), Vals xs its ∧ xs.length = its.length ∧ s.heap.get? l = some { cls := .type "list", data := .seq its.toArray n } := by
  obtain ⟨z, its, n, r, e⟩ := I.hok l _ hH
  exact ⟨z, its, n, r, r.length, e⟩

end

section
variable {X : Cx}


def rAppend : V → List V → Hp → VK → Prop := fun x vs H Q => ∃ l xs y, x = .ref l ∧ vs = [y] ∧ H l = some (.lst xs) ∧ xs.length < sizeLine ∧ Q .non (upd H l (.lst (xs ++ [y])))
theorem mt_append : MtM X "list.append" rAppend := by
  intro pins s σ H x vs v us Q I rx rv h
  obtain ⟨l, xs, y, rfl, rfl, hH, hz, q⟩ := h
  cases rx
  obtain ⟨u, rfl, ru⟩ := rv.one
  obtain ⟨z, its, n, r, hl, e⟩ := I.lstM hH
  refine call_meets F.slot_list_append ⟨_, e, rfl⟩ F.entry_list_append (F.args_list_append_2 _ _) (PySem.list_append l its.toArray n u (by rw [List.size_toArray]; omega)) ⟨e, ?_⟩
  refine ⟨.non, _, I.lset (its' := its ++ [u]) hH e (by simp) (r.append (.cons ru .nil)) ?_, rfl, q⟩
  rw [List.length_append, List.length_singleton]
  omega

def rCat : R2 := fun x y H Q => ∃ l b xs zs, x = .ref l ∧ y = .ref b ∧ H l = some (.lst xs) ∧ H b = some (.lst zs) ∧ xs.length + zs.length ≤ sizeLine ∧ ∀ p, H p = none → Q (.ref p) (upd H p (.lst (xs ++ zs)))
theorem op_cat : OpR X (binaryOp .Add) rCat := by
  intro pins s σ H x y v u Q I rx ry h
  obtain ⟨l, b, xs, zs, rfl, rfl, hH, hB, hz, q⟩ := h
  cases rx
  cases ry
  obtain ⟨z, its, n, r, hl, e⟩ := I.lstM hH
  obtain ⟨z2, its2, n2, r2, hl2, e2⟩ := I.lstM hB
  refine PySem.P.add_list e e2 ?_ (by rw [List.size_toArray, List.size_toArray]; omega)
  have ea : its.toArray ++ its2.toArray = (its ++ its2).toArray := by simp
  rw [ea]
  exact ⟨.ref _, _, I.lnew (t' := s.toks) (r.append r2) (by rw [List.length_append]; omega), rfl, q _ I.fresh⟩

end


section
variable {prog : Program} {w : World} {A : Around} {E : Value → Shared → Prop} {s : Shared}
end

section
variable {X : Cx}

end
end L2

namespace Att
open PySem PySem.W PySem.Calls PyProof.Rows


theorem ints_of_wellAll {P : Params} {h : Heap} : ∀ (ns : List Int) (vs : List Value), WellAll P h vs (ns.map WData.int) → IntsAre vs ns := by
  intro ns
  induction ns with
  | nil =>
    intro vs w
    rw [List.map_nil] at w
    cases w
    exact .nil
  | cons n ns ih =>
    intro vs w
    rw [List.map_cons] at w
    cases w with
    | cons a b =>
      cases a
      exact .cons _ _ (ih _ b)

theorem script_of {l : OpenLaw} {n : Nat} (hn : l.most = some n) {P : Params} {h : Heap} {args : List WData} {vals : List Value}
    (hpre : l.row.toRowW.claim.pre args = true) (hwl : WellAll P h vals args) :
    ∃ a vs ns, vals = [Value.ref a] ∧ args = [WData.list (ns.map WData.int)] ∧ h.get? a = some { cls := .type "list", data := .seq vs.toArray } ∧ IntsAre vs ns ∧ ns.length ≤ n := by
  have hsh : WShape.hasAll [] args [.list .int] = true := (pre_splitW hpre).1
  have hc : l.pre.holds [] { args := args } = true := (pre_splitW hpre).2
  obtain ⟨d, r, rfl, h1, h2⟩ := hasAllW_cons hsh
  obtain rfl := hasAllW_nil h2
  obtain ⟨xs, rfl, h3⟩ := hasW_list h1
  obtain ⟨ns, rfl⟩ := items_int h3
  have hlen : ns.length ≤ n := by
    unfold OpenLaw.pre at hc
    have h4 : (WTm.not (.lt (.lit (.int (n : Int))) (.len (.arg 0)))).holds [] { args := [.list (ns.map .int)] } = true := by
      have h4 := (holds_andW hc).1
      rw [hn] at h4
      exact h4
    have h5 := condW_of h4 (w_not (w_lt w_lit (w_len_list (w_arg rfl))))
    rw [List.length_map] at h5
    refine Nat.le_of_not_lt fun q => ?_
    have q' : (n : Int) < ((ns.length : Nat) : Int) := by omega
    first
      | (rw [decide_eq_true q'] at h5; exact absurd h5 (by decide))
      | (simp at h5; omega)
  cases hwl with
  | cons w1 w2 =>
    cases w2
    cases w1 with
    | list ho hall => exact ⟨_, _, ns, rfl, rfl, ho, ints_of_wellAll ns _ hall, hlen⟩

theorem post_true (l : OpenLaw) (args : List WData) : l.row.toRowW.claim.post args (.bool true) args = true :=
  postW_of (r := l.row.toRowW) (X := (true == true))
    (show WShape.has [] (.bool true) .bool = true by first | rfl | decide | simp [WShape.has, WShape.arms, WShape.armsAll])
    (show (WTm.eq .res (.lit (.bool true))).value [] { args := args, res := some (.bool true), after := args } = some (.bool (true == true)) from w_eq_bool (w_res rfl) w_lit) rfl


theorem attach_call {l : OpenLaw} {n : Nat} {q : Program} {loose : List Str} {XP : (Str → Option Value) → Heap → Prop} {YP : World → Heap → Prop} {d : DefRec}
    (hn : l.most = some n) (hdf : d.params.defaults = [])
    (call : ∀ (w : World) (s₀ s₁ : Shared) (mg mb : Str → Option Value) (fa : Addr) (o : Obj) (pm cd doc : Value) (a : Addr) (vs : List Value) (ns : List Int),
      Ground q loose [] XP w s₀ mg mb s₁.heap → YP w s₁.heap →
      s₁.heap.get? fa = some o → o.data = .func (docDef d.name d.params d.body d.scope pm cd doc) → s₁.heap.CodeRec cd d.name → mg d.name = some (.ref fa) →
      s₁.heap.get? a = some { cls := .type "list", data := .seq vs.toArray } → IntsAre vs ns → ns.length ≤ n → s₁.gens = #[] →
      codeAny (model l.prog w) callerA (.call (.ref fa) ⟨[.ref a], []⟩) (fun r s' => r = .ok (.ret (.bool true)) ∧ OldK s₁.heap s'.heap ∧ s'.os = s₁.os ∧ AllBare s'.gens) s₁) :
    WalkO q loose XP YP l.row.toRowW d [] (fun f vs => PySem.call f vs) := by
  intro w s₀ s₁ mg mb G Y fa o pm cd doc dV kV ho hd hcd hD hmg hg args vals as hpre hlay hrd hwl hlo
  obtain rfl : dV = .none := Dflts.none hD hdf
  obtain rfl : kV = .none := Dflts.noKw hD
  obtain ⟨a, vs, ns, rfl, rfl, hobj, hints, hlen⟩ := script_of hn hpre hwl
  refine enter_call (codeAny_mono (call w s₀ s₁ mg mb fa o pm cd doc a vs ns G Y ho (fd_plain hd) hcd hmg hobj hints hlen hg) fun r s' hq => ?_)
  obtain ⟨rfl, h2, h3, h4⟩ := hq
  exact ⟨.inl ⟨.bool true, .bool true, [], rfl, fun _ => rfl, .bool true, post_true l _, fun _ => ⟨List.Pairwise.nil, fun _ hm => (nomatch hm)⟩⟩, h2, h3, h4⟩


section
variable {prog : Program} {w : World} {A : Around} {E : Value → Shared → Prop} {s : Shared} {K : Frag}


end
end Att

namespace L2
open PySem PySem.Spec PyProof.Rows

theorem vals_ints : ∀ {vs : List Value} {ns : List Int}, IntsAre vs ns → Vals (ns.map V.int) vs
  | _, _, .nil => .nil
  | _, _, .cons n t h => .cons ⟨t, rfl⟩ (vals_ints h)


def Only (H : Hp) : Prop := ∀ b, H b = none ∨ ∃ o xs, H b = some (.frz o (.lst xs))


theorem law_call {P : Program} {w : World} {K : PySem.W.Frag} {mg mb : Str → Option Value} {CX : CXT} {k : Nat} {fa a : Addr} {fd : FuncData} {x : Str} {sp : Sp} {s₁ : Shared} {vs : List Value} {ns : List Int}
    (KX : K.In s₁.heap) (hns : s₁.heap.Ns mainGlobals mg) (hb : s₁.heap.Ns builtinsNs mb) (hbb : ∀ x : Str, x ≠ "__name__" → mb x = bootBuiltins x) (hlim : s₁.heap.NoLimit) (hg : s₁.gens = #[])
    (ha : s₁.heap.get? a = some { cls := .type "list", data := .seq vs.toArray }) (hi : IntsAre vs ns) (hl : ns.length ≤ sizeLine) (hr : Room k callerA)
    (F : ∀ base : Heap, K.In base → base.Ns mainGlobals mg → FnOk P w K mg base CX k fa fd [x] sp) (hbind : ∀ (s : Shared) (u : Value), BindsTo s fd ⟨[u], []⟩ [(x, u)])
    (hsp : ∀ H : Hp, Only H → SqL K H a (ns.map V.int) → sp [.ref a] H (fun v _ => v = .bl true) fun _ _ _ => False)
    (hCX : ∀ H e s', CX [] H s₁ (fun _ _ _ => False) e s' → False) :
    codeAny (model P w) callerA (.call (.ref fa) ⟨[.ref a], []⟩) (fun r s' => r = .ok (.ret (.bool true)) ∧ OldK s₁.heap s'.heap ∧ s'.os = s₁.os ∧ AllBare s'.gens) s₁ := by
  have rv := vals_ints hi
  have lenV := hi.length
  have core : ∀ H : Hp, Only H → SqL K H a (ns.map V.int) → HOk P w H s₁.heap → (∀ b, H b ≠ none → b = a) → (H a ≠ none → K.lookup a = none) →
      codeAny (model P w) callerA (.call (.ref fa) ⟨[.ref a], []⟩) (fun r s' => r = .ok (.ret (.bool true)) ∧ OldK s₁.heap s'.heap ∧ s'.os = s₁.os ∧ AllBare s'.gens) s₁ := by
    intro H hO hS hok hA hK
    have base_of : ∀ {b : Addr} {o : Obj}, s₁.heap.get? b = some o → H b = none → (hidT s₁.heap H).get? b = some o := fun e n => hidT_get e n
    have noA : ∀ {b : Addr} {o : Obj} {es : Array DictEntry} {ep : Nat}, s₁.heap.get? b = some o → o.data = .dict es ep → H b = none := fun {b o es ep} e d => by
      cases q : H b with
      | none => rfl
      | some u =>
        have e' : b = a := hA b (by rw [q]; simp)
        subst e'
        rw [ha] at e; cases e
        have d' : Data.seq vs.toArray _ = Data.dict es ep := d
        cases d'
    have nsK : ∀ {b : Addr} {m : Str → Option Value}, s₁.heap.Ns b m → (hidT s₁.heap H).Ns b m := fun {b m} ⟨o, es, ep, e, d, r⟩ => ⟨o, es, ep, base_of e (noA e d), d, r⟩
    have hKb : K.In (hidT s₁.heap H) := fun b o e => base_of (KX b o e) (by
      cases q : H b with
      | none => rfl
      | some u =>
        have e' : b = a := hA b (by rw [q]; simp)
        subst e'
        rw [hK (by rw [q]; simp)] at e; cases e)
    have hM : Mod K mg (hidT s₁.heap H) := ⟨hKb, nsK hns, ⟨mb, nsK hb, hbb⟩, let ⟨mc, h1, h2⟩ := hlim; ⟨mc, nsK h1, h2⟩⟩
    have e0 : Env0 P w K mg (hidT s₁.heap H) callerA [] s₁ H := ⟨rfl, hM, fun b o e => of_hidT e, Nat.le_of_eq (hidT_size _ _), trivial, fun b hb => absurd (show b ∈ ([] : List Addr) from hb) (by simp), hok, .of_eq hg⟩
    refine codeAny_mono ((F _ hKb (nsK hns)).run callerA [] s₁ H ⟨[.ref a], []⟩ [.ref a] [.ref a] _ _ hr e0 (hbind s₁ (.ref a)) (.cons rfl .nil) (hsp H hO hS)) fun r s' h => ?_
    cases r with
    | error e => exact (hCX H e s' h).elim
    | ok fl =>
      cases fl with
      | next => exact False.elim h
      | brk => exact False.elim h
      | cont => exact False.elim h
      | ret u =>
        obtain ⟨v, H', os, bare, un, hok', r', q⟩ := h
        have q' : v = .bl true := q
        subst q'
        obtain rfl : u = Value.bool true := r'
        refine ⟨rfl, OldK.of_keep fun b o e => ?_, os, bare⟩
        cases q : H b with
        | none => exact un.keep b o e q (by intro z; exact absurd (show b ∈ ([] : List Addr) from z) (by simp)) (by simp)
        | some u =>
          rcases hO b with z | ⟨ob, xs, z⟩
          · rw [q] at z; cases z
          · have z2 := un.frzs b ob _ z
            obtain ⟨e1, _⟩ := hok b _ z
            obtain ⟨e2, _⟩ := hok' b _ z2
            rw [e] at e1; cases e1
            exact e2
  cases hk : K.lookup a with
  | some o =>
    have e := KX a o hk
    rw [ha] at e
    cases e
    refine core (fun _ => none) (fun _ => .inl rfl) (.inr ⟨_, vs.toArray, _, hk, rfl, rfl, rfl, by rw [List.size_toArray, lenV]; exact hl, by simpa using rv⟩) (fun b u z => by have z' : (none : Option HO) = some u := z; cases z') (fun b z => absurd rfl z) fun z => absurd rfl z
  | none =>
    refine core (fun b => if b = a then some (.frz { cls := .type "list", data := .seq vs.toArray } (.lst (ns.map V.int))) else none) (fun b => ?_) (.inl (.inr ⟨{ cls := .type "list", data := .seq vs.toArray }, if_pos rfl⟩)) (fun b u z => ?_) (fun b z => ?_) fun _ => hk
    · by_cases hb : b = a
      · exact .inr ⟨_, _, if_pos hb⟩
      · exact .inl (if_neg hb)
    · by_cases hb : b = a
      · have z' := (if_pos hb).symm.trans z
        cases z'
        subst hb
        exact ⟨ha, by rw [List.length_map]; exact hl, vs, _, rv, ha⟩
      · have z' := (if_neg hb).symm.trans z
        cases z'
    · by_cases hb : b = a
      · exact hb
      · exact absurd (if_neg hb) z
end L2

namespace L2
open PySem PySem.Spec PyProof.Rows

theorem walk_of {l : PySem.W.OpenLaw} {n k : Nat} {q : Program} {loose : List Str} {XP : (Str → Option Value) → Heap → Prop} {YP : World → Heap → Prop} {d : DefRec} {K : Params → PySem.W.Frag} {CX : World → CXT} {sp : World → Sp} {x : Str}
    (hn : l.most = some n) (hn2 : n ≤ sizeLine) (hdf : d.params.defaults = []) (hr : Room k callerA)
    (hY : ∀ (w : World) (h : Heap), YP w h → (K w.params).In h)
    (F : ∀ (w : World) (mg : Str → Option Value) (fa : Addr) (h : Heap), (K w.params).In h → h.Ns mainGlobals mg → mg d.name = some (.ref fa) →
      ∃ fd : FuncData, (∀ (s : Shared) (u : Value), BindsTo s fd ⟨[u], []⟩ [(x, u)]) ∧
        ∀ base : Heap, (K w.params).In base → base.Ns mainGlobals mg → FnOk l.prog w (K w.params) mg base (CX w) k fa fd [x] (sp w))
    (hsp : ∀ (w : World) (H : Hp) (a : Addr) (ns : List Int), ns.length ≤ n → Only H → SqL (K w.params) H a (ns.map V.int) → sp w [.ref a] H (fun v _ => v = .bl true) fun _ _ _ => False)
    (hCX : ∀ (w : World) (H : Hp) (s : Shared) (e : Value) (s' : Shared), CX w [] H s (fun _ _ _ => False) e s' → False) :
    PySem.W.WalkO q loose XP YP l.row.toRowW d [] (fun f vs => PySem.call f vs) := by
  refine Att.attach_call hn hdf fun w s₀ s₁ mg mb fa o pm cd doc a vs ns G Y ho hd hcd hmg hobj hints hlen hg => ?_
  have KX := hY w _ Y
  obtain ⟨fd, hb, hF⟩ := F w mg fa _ KX G.T.g hmg
  exact law_call KX G.T.g G.T.b G.T.builtins G.T.nolimit hg hobj hints (Nat.le_trans hlen hn2) hr hF hb (fun H hO hS => hsp w H a ns hlen hO hS) fun H e s' => hCX w H s₁ e s'

end L2




namespace L2
open PySem PySem.Spec PyProof.Rows



def inClass (s : Stmt) (j : Nat) : Stmt := match s with
  | .ClassDef _ _ _ body _ _ _ _ _ _ _ => body.getD j (.Pass ⟨0, 0, 0, 0⟩)
  | _ => .Pass ⟨0, 0, 0, 0⟩
def defArgs (s : Stmt) : Arguments := match s with
  | .FunctionDef _ a _ _ _ _ _ _ _ _ => a
  | _ => { posonlyargs := [], args := [], vararg := none, kwonlyargs := [], kw_defaults := [], kwarg := none, defaults := [] }
def defBody (s : Stmt) : List Stmt := match s with
  | .FunctionDef _ _ b _ _ _ _ _ _ _ => b
  | _ => []
def defScope (s : Stmt) : Scope := match s with
  | .FunctionDef _ _ _ _ _ _ sc _ _ _ => sc
  | _ => { kind := .function, names := [], isGenerator := false, isCoroutine := false }


abbrev CX0 : CXT := fun _ _ _ _ _ _ => False
abbrev E0 : XK := fun _ _ _ => False
theorem pass0 {X : Cx} : Passes CX0 X E0 := fun _ _ _ _ _ _ _ h => h.elim


structure Fun (K : PySem.W.Frag) (x qual : Str) (st : Stmt) (f : Addr) (fd : FuncData) : Prop where
  ex : ∃ (oc : Value) (od : Option Addr) (kV doc pm : Value) (an : Option Addr) (cdv ct : Value) (osl : Array (Option Value)),
    fd = PySem.W.fnOf x qual (defArgs st) (defBody st) (defScope st) .none kV doc pm an cdv ct ∧ K.lookup f = some ⟨oc, od, .func fd, osl⟩ ∧ PySem.W.codeIn K cdv qual = true
  kp : PySem.W.keepIn K (.ref f) = true
section
variable {P : Program} {w : World} {K : PySem.W.Frag} {mg : Str → Option Value} {base : Heap}

theorem Fun.ok {x qual : Str} {st : Stmt} {f : Addr} {fd : FuncData} {N ps : List Str} {k : Nat} {sp : Sp} (F : Fun K x qual st f fd) (S : FnScope N ps (defScope st)) (len : ∀ vs H Q E, sp vs H Q E → vs.length = ps.length)
    (hbody : ∀ (cdv : Value) (A : Around) (outer : List Env) (s : Shared) (H : Hp) (vs : List V) (Q : VK) (E : XK), Room k (A.deeper (envOfC qual (defScope st) s.heap.objs.size f cdv)) → sp vs H Q E →
      ∃ t, PSs (cxOf CX0 P w K mg base N qual (defScope st) f cdv A outer s H E).nox (defBody st) t ∧ t { nx := fun _ H' => Q .non H', rt := Q } (start N vs) H) : FnOk P w K mg base CX0 (k + 1) f fd ps sp := by
  obtain ⟨oc, od, kV, doc, pm, an, cdv, ct, osl, rfl, lk, hcd⟩ := F.ex
  refine fn_of lk hcd S len fun A outer s H vs Q E hr hsp => ?_
  obtain ⟨t, h, q⟩ := hbody cdv A outer s H vs Q E hr hsp
  exact ⟨t, h.nox, q⟩

theorem Fun.binds {x qual : Str} {st : Stmt} {f : Addr} {fd : FuncData} {ps : List Str} (F : Fun K x qual st f fd)
    (h : ∀ (kV doc pm : Value) (an : Option Addr) (cdv ct : Value) (us : List Value), us.length = ps.length → bindArgs (PySem.W.fnOf x qual (defArgs st) (defBody st) (defScope st) .none kV doc pm an cdv ct) ⟨us, []⟩ = pure (ps.zip us)) : Binds K fd ps [] := by
  obtain ⟨oc, od, kV, doc, pm, an, cdv, ct, osl, rfl, lk, hcd⟩ := F.ex
  exact .all (h kV doc pm an cdv ct)
theorem fun_mk {x qual : Str} {st : Stmt} {f : Addr} {oc : Value} {od an : Option Addr} {osl : Array (Option Value)} {kV doc pm cdv ct : Value} (l : K.lookup f = some ⟨oc, od, .func (PySem.W.fnOf x qual (defArgs st) (defBody st) (defScope st) .none kV doc pm an cdv ct), osl⟩)
    (c : PySem.W.codeIn K cdv qual = true) (k : PySem.W.keepIn K (.ref f) = true) : Fun K x qual st f (PySem.W.fnOf x qual (defArgs st) (defBody st) (defScope st) .none kV doc pm an cdv ct) := ⟨⟨oc, od, kV, doc, pm, an, cdv, ct, osl, rfl, l, c⟩, k⟩
end
theorem small1000 {n : Nat} (h : n ≤ 1000) : n < sizeLine := Nat.lt_of_le_of_lt h (by decide)


section
variable {X : Cx}
theorem pv (i : Nat) {x : Str} {pos : Pos} (hN : X.N[i]? = some x := by rfl) (hv : Vis X.env.scope x := by first | exact Or.inl rfl | exact Or.inr (Or.inl rfl) | exact Or.inr (Or.inr rfl)) (hd : (x == ("__debug__" : Str)) = false := by decide)
    (hcd : (x == ("__classdict__" : Str)) = false := by decide) : PE X (.Name x pos) (tVar i) := pe_var hN hv hd hcd
end


theorem iteF {A B : Prop} (h : B) : if false = true then A else B := by
  rw [if_neg Bool.false_ne_true]
  exact h
theorem iteT {A B : Prop} (h : A) : if true = true then A else B := by
  rw [if_pos rfl]
  exact h
theorem ite2 {c A B : Prop} [Decidable c] (h1 : c → A) (h2 : ¬ c → B) : if c then A else B := by
  by_cases h : c
  · rw [if_pos h]
    exact h1 h
  · rw [if_neg h]
    exact h2 h
theorem iteNS {c A B : Prop} [Decidable c] (hc : c) (h : B) : if (!decide c) = true then A else B := by
  rw [decide_eq_true hc]
  exact iteF h



def Same (H H' : Hp) : Prop := ∀ b o, H b = some o → H' b = some o
theorem Same.refl (H : Hp) : Same H H := fun _ _ h => h
theorem Same.trans {H H1 H2 : Hp} (a : Same H H1) (b : Same H1 H2) : Same H H2 := fun c o h => b c o (a c o h)
theorem Same.free {H H' : Hp} (e : Same H H') {l : Addr} (h : H' l = Option.none) : H l = Option.none := by
  cases q : H l with
  | none => rfl
  | some o =>
    rw [e l o q] at h
    cases h
theorem Same.seq {K : PySem.W.Frag} {H H' : Hp} {a : Addr} {xs : List V} (e : Same H H') (h : SqL K H a xs) : SqL K H' a xs := by
  rcases h with (h | ⟨o, h⟩) | h
  · exact .inl (.inl (e _ _ h))
  · exact .inl (.inr ⟨o, e _ _ h⟩)
  · exact .inr h

end L2

namespace L2
open PySem PySem.Spec PyProof.Rows


def closL (env : Env) : List (Str × NameKind) → List (Str × Addr) → List (Str × Addr)
  | [], cs => cs
  | (n, k) :: r, cs => closL env r (if k == .free then (n, (env.cells.lookup n).getD 0) :: cs else cs)
theorem closL_mem {env : Env} : ∀ (l : List (Str × NameKind)) (cs : List (Str × Addr)) (p : Str × Addr), p ∈ closL env l cs → p ∈ cs ∨ ((p.1, NameKind.free) ∈ l ∧ p.2 = (env.cells.lookup p.1).getD 0)
  | [], _, _, h => .inl h
  | (n, k) :: r, cs, p, h => by
    rcases closL_mem r _ p h with q | ⟨q, e⟩
    · by_cases hk : k = .free
      · subst hk
        rw [if_pos (by rfl)] at q
        rcases List.mem_cons.mp q with z | z
        · subst z; exact .inr ⟨List.mem_cons_self, rfl⟩
        · exact .inl z
      · rw [if_neg (by simpa using hk)] at q
        exact .inl q
    · exact .inr ⟨List.mem_cons_of_mem _ q, e⟩
theorem closL_sub {env : Env} : ∀ (l : List (Str × NameKind)) (cs : List (Str × Addr)) (p : Str × Addr), p ∈ cs → p ∈ closL env l cs
  | [], _, _, h => h
  | (n, k) :: r, cs, p, h => by
    refine closL_sub r _ p ?_
    split
    · exact List.mem_cons_of_mem _ h
    · exact h
theorem closL_has {env : Env} {x : Str} : ∀ (l : List (Str × NameKind)) (cs : List (Str × Addr)), (x, NameKind.free) ∈ l → ∃ c, (x, c) ∈ closL env l cs
  | [], _, h => nomatch h
  | (n, k) :: r, cs, h => by
    rcases List.mem_cons.mp h with z | z
    · cases z
      exact ⟨_, closL_sub r _ _ (by rw [if_pos (by rfl)]; exact List.mem_cons_self)⟩
    · exact closL_has r _ z
theorem lookup_of_mem {α : Type} {x : Str} : ∀ {l : List (Str × α)} {c : α}, (x, c) ∈ l → ∃ c', l.lookup x = some c'
  | [], _, h => nomatch h
  | (n, d) :: r, c, h => by
    by_cases e : x = n
    · subst e; exact ⟨d, by simp [List.lookup_cons]⟩
    · have : (x == n) = false := by simpa using e
      simp only [List.lookup_cons, this]
      rcases List.mem_cons.mp h with z | z
      · cases z; exact absurd rfl e
      · exact lookup_of_mem z
theorem forIn_clos {env : Env} : ∀ (l : List (Str × NameKind)) (cs : List (Str × Addr)), (∀ x ∈ l, x.2 = .free → (env.cells.lookup x.1).isSome = true) →
    (forIn l cs fun (x : Str × NameKind) (r : List (Str × Addr)) => (match x with
      | (name, kind) => if (kind == NameKind.free) = true then do let a ← cellOf env name; pure (ForInStep.yield ((name, a) :: r)) else pure (ForInStep.yield r) : Sem (ForInStep (List (Str × Addr))))) = pure (closL env l cs)
  | [], cs, _ => rfl
  | (n, k) :: r, cs, h => by
    rw [List.forIn_cons]
    have ih := fun cs' => forIn_clos r cs' fun x hx => h x (List.mem_cons_of_mem _ hx)
    by_cases hk : k = .free
    · subst hk
      obtain ⟨a, ha⟩ := Option.isSome_iff_exists.mp (h (n, .free) List.mem_cons_self rfl)
      have hca : cellOf env n = pure a := by unfold cellOf; rw [ha]
      have hn : closL env ((n, .free) :: r) cs = closL env r ((n, a) :: cs) := by
        show closL env r (if (NameKind.free == NameKind.free) = true then (n, (env.cells.lookup n).getD 0) :: cs else cs) = _
        rw [if_pos (by rfl), ha]; rfl
      rw [hn]
      simp only [beq_self_eq_true, if_true, hca, pure_bind]
      exact ih _
    · have hb : (k == NameKind.free) = false := by simpa using hk
      have hn : closL env ((n, k) :: r) cs = closL env r cs := by
        show closL env r (if (k == NameKind.free) = true then (n, (env.cells.lookup n).getD 0) :: cs else cs) = _
        rw [if_neg (by simp [hb])]
      rw [hn]
      simp only [hb, Bool.false_eq_true, if_false, pure_bind]
      exact ih _
theorem closureFor_clos {scope : Scope} {env : Env} (h : ∀ x ∈ scope.names, x.2 = .free → (env.cells.lookup x.1).isSome = true) : closureFor scope env = pure (closL env scope.names []) := by
  simp only [closureFor]
  have := forIn_clos (env := env) scope.names [] h
  first
    | (rw [this]; rfl)
    | (erw [this]; rfl)
    | (exact (congrArg (· >>= pure) this))

theorem closL_lookup {env : Env} {l : List (Str × NameKind)} (h : ∀ x ∈ l, x.2 = .free → (env.cells.lookup x.1).isSome = true) {x : Str} {c : Addr} (e : (closL env l []).lookup x = some c) : env.cells.lookup x = some c := by
  rcases closL_mem l [] (x, c) (PySem.mem_of_lookup e) with q | ⟨q, e'⟩
  · exact nomatch q
  · obtain ⟨a, ha⟩ := Option.isSome_iff_exists.mp (h _ q rfl)
    have ha' : env.cells.lookup x = some a := ha
    have e2 : c = (env.cells.lookup x).getD 0 := e'
    rw [ha'] at e2
    rw [ha', e2]; rfl
theorem relabel_lookup {scope : Scope} {env : Env} {x : Str} {k' : NameKind} (h : (relabel scope env).names.lookup x = some k') : ∃ k, scope.names.lookup x = some k ∧ (k' = k ∨ (k = .free ∧ k' = .cell)) := by
  unfold relabel at h
  dsimp only at h
  generalize scope.names = l at h ⊢
  induction l with
  | nil => simp at h
  | cons p r ih =>
    obtain ⟨n, k⟩ := p
    rw [List.map_cons] at h
    by_cases e : x = n
    · subst e
      refine ⟨k, by simp [List.lookup_cons], ?_⟩
      by_cases hc : (k == NameKind.free && env.scope.kind == .function && env.kindOf x == some .cell) = true
      · simp only [hc, if_true, List.lookup_cons, beq_self_eq_true] at h
        have hk : k = .free := by
          have := (Bool.and_eq_true_iff.mp (Bool.and_eq_true_iff.mp hc).1).1
          simpa using this
        exact .inr ⟨hk, (Option.some.inj h).symm⟩
      · simp only [hc, if_false, List.lookup_cons, beq_self_eq_true, Bool.false_eq_true] at h
        exact .inl (Option.some.inj h).symm
    · have hb : (x == n) = false := by simpa using e
      have h' : List.lookup x (List.map (fun x => match x with | (n, k) => if (k == NameKind.free && env.scope.kind == ScopeKind.function && env.kindOf n == some NameKind.cell) = true then (n, NameKind.cell) else (n, k)) r) = some k' := by
        by_cases hc : (k == NameKind.free && env.scope.kind == .function && env.kindOf n == some .cell) = true
        · simpa only [hc, if_true, List.lookup_cons, hb] using h
        · simpa only [hc, if_false, List.lookup_cons, hb, Bool.false_eq_true] using h
      obtain ⟨k0, e0, q⟩ := ih h'
      exact ⟨k0, by simp only [List.lookup_cons, hb]; exact e0, q⟩
theorem relabel_free {scope : Scope} {env : Env} {x : Str} (h : scope.names.lookup x = some .free) : (relabel scope env).names.lookup x = some .cell ∨ (relabel scope env).names.lookup x = some .free := by
  unfold relabel
  dsimp only
  generalize scope.names = l at h ⊢
  induction l with
  | nil => simp at h
  | cons p r ih =>
    obtain ⟨n, k⟩ := p
    rw [List.map_cons]
    by_cases e : x = n
    · subst e
      simp only [List.lookup_cons, beq_self_eq_true] at h
      cases h
      generalize List.map _ r = r'
      show List.lookup x ((if (NameKind.free == NameKind.free && env.scope.kind == .function && env.kindOf x == some .cell) = true then (x, NameKind.cell) else (x, NameKind.free)) :: r') = _ ∨ List.lookup x ((if (NameKind.free == NameKind.free && env.scope.kind == .function && env.kindOf x == some .cell) = true then (x, NameKind.cell) else (x, NameKind.free)) :: r') = _
      by_cases hc : (NameKind.free == NameKind.free && env.scope.kind == .function && env.kindOf x == some .cell) = true
      · rw [if_pos hc]; exact .inl (by simp [List.lookup_cons])
      · rw [if_neg hc]; exact .inr (by simp [List.lookup_cons])
    · have hb : (x == n) = false := by simpa using e
      simp only [List.lookup_cons, hb] at h
      by_cases hc : (k == NameKind.free && env.scope.kind == .function && env.kindOf n == some .cell) = true
      · simp only [hc, if_true, List.lookup_cons, hb]; exact ih h
      · simp only [hc, if_false, List.lookup_cons, hb, Bool.false_eq_true]; exact ih h


def cxC (X : Cx) (N' : List Str) (scope : Scope) (s : Shared) (H : Hp) (fp : List Addr) (C : Addr) : Cx where
  prog := X.prog
  w := X.w
  K := X.K
  mg := X.mg
  base := X.base
  A := X.A
  N := N'
  s₀ := s
  H₀ := H
  env := compEnvC scope (closL X.env scope.names []) C X.env
  outer := X.stack
  stack := X.stack
  ex := fp
  fn := fun _ => false
  calm := X.calm
  pn := []
  xe := fun _ _ => False


structure CScope (N : List Str) (sc scope : Scope) (ts fr : List Str) (ix : List Nat) : Prop where
  kind : scope.kind = .function
  nocell : ∀ y ∈ scope.names, y.2 ≠ .cell
  nms : ∀ y ∈ scope.names, y.2 = .local → scope.names.lookup y.1 = some .local
  frs : ∀ y ∈ scope.names, y.2 = .free → sc.names.lookup y.1 = some .cell ∨ sc.names.lookup y.1 = some .free
  cap : fr.map some = ix.map fun i => N[i]?
  capf : ∀ x ∈ fr, scope.names.lookup x = some .free

def capt (σ : St) (k : Nat) (ix : List Nat) : St := List.replicate k none ++ ix.map fun i => (σ[i]?).join
def Kp (σ σ' : St) : Prop := ∀ (j : Nat) (v : V), σ[j]? = some (some v) → σ'[j]? = some (some v)
theorem Kp.refl (σ : St) : Kp σ σ := fun _ _ h => h
theorem Kp.set {σ σ1 : St} {i : Nat} {x : Option V} (h : σ[i]? = some none) (q : Kp σ σ1) : Kp σ (σ1.set i x) := fun j v e => by
  by_cases hj : j = i
  · subst hj; rw [h] at e; cases e
  · rw [List.getElem?_set_ne (Ne.symm hj)]; exact q j v e


def PTs (X : Cx) (ifs : List Expr) (t : TT) : Prop :=
  ∀ (pins : List (Addr × Obj)) (s : Shared) (σ : St) (H : Hp) (Q : Bool → Hp → Prop), Inv X pins σ H s → t σ H Q →
    wpAny (model X.prog X.w) X.A (forIn ifs true fun c r => if r = true then do let ok ← isTrue c X.env (eval c X.env); pure (ForInStep.yield ok) else pure (ForInStep.yield r)) (TP X pins σ Q) X.xe s
def tTrue : TT := fun _ H Q => Q true H
theorem tTrue_ok {σ : St} {H : Hp} {A B : Hp → Prop} (h : A H) : tTrue σ H (fun b H5 => if b = true then A H5 else B H5) := by
  show if true = true then A H else B H
  rw [if_pos rfl]
  exact h
theorem pts_nil {X : Cx} : PTs X [] tTrue := fun _ _ _ H _ I h => wpAny_tests_nil ⟨H, I, h⟩
theorem pts_one {X : Cx} {c : Expr} {t : TT} (h : PT X c t) : PTs X [c] t := fun pins s σ H Q I q => wpAny_tests_one (h pins s σ H Q I q)


def CompOk (J : It) (D : Addr) (σ : St) (k : Nat) (ix : List Nat) (g : TG) (tt : TT) (te : TE) (Q : VK) (H1 : Hp) : Prop := ∃ W : Nat → Nat → List V → Hp → Prop, (∃ m, W 0 m [] (upd H1 D (.lst []))) ∧
  ∀ i m ys H2, W i m ys H2 → H2 D = some (.lst ys) ∧ ((J.stop i H2 ∧ Q (.ref D) H2) ∨ (J.go i H2 ∧ ∃ N : List V → Hp → Prop, (∀ zs H', N zs H' → ∃ m', m' < m ∧ W (i + 1) m' zs H') ∧ ∀ x H3, J.yld i H2 x H3 → g x (capt σ k ix) H3 fun σ2 H4 => Kp (capt σ k ix) σ2 ∧
    tt σ2 H4 fun b H5 => if b = true then te σ2 H5 fun y H6 => H6 D = some (.lst ys) ∧ ys.length < sizeLine ∧ N (ys ++ [y]) (upd H6 D (.lst (ys ++ [y]))) else N ys H5))

def tComp (k : Nat) (ix : List Nat) (wi : TI) (g : TG) (tt : TT) (te : TE) : TE := fun σ H Q => wi σ H fun J H1 => ∀ D, H1 D = none → CompOk J D σ k ix g tt te Q H1

section
variable {X : Cx} {elt tg iter : Expr} {ifs : List Expr} {scope : Scope} {pos : Pos} {ts fr : List Str} {ix : List Nat} {wi : TI} {g : TG} {tt : TT} {te : TE}

theorem capt_get {σ : St} {k : Nat} {ix : List Nat} {j : Nat} {v : V} (h : (capt σ k ix)[j]? = some (some v)) : ∃ a i, j = k + a ∧ ix[a]? = some i ∧ σ[i]? = some (some v) := by
  unfold capt at h
  by_cases hj : j < k
  · rw [List.getElem?_append_left (by simpa using hj), List.getElem?_replicate, if_pos hj] at h
    cases h
  · rw [List.getElem?_append_right (by simpa using hj), List.length_replicate, List.getElem?_map] at h
    cases e : ix[j - k]? with
    | none => rw [e] at h; cases h
    | some i =>
      rw [e] at h
      refine ⟨j - k, i, by omega, e, ?_⟩
      have h' : (σ[i]?).join = some v := Option.some.inj h
      cases e2 : σ[i]? with
      | none => rw [e2] at h'; cases h'
      | some o => rw [e2] at h'; exact congrArg some h'
theorem capt_length {σ : St} {k : Nat} {ix : List Nat} : (capt σ k ix).length = k + ix.length := by unfold capt; simp


theorem inv_comp {pins : List (Addr × Obj)} {σ : St} {H : Hp} {s : Shared} {fp : List Addr} {h1 : Heap} {tk : Nat} {D C : Addr} (S : CScope X.N X.env.scope scope ts fr ix) (I : Inv X pins σ H s) (hf : ∀ b ∈ fp, FpOk X pins H b) (hfp : ∀ b ∈ fp, b < s.heap.objs.size)
    (hD : s.heap.objs.size ≤ D) (hC : s.heap.objs.size ≤ C) (hDC : D ≠ C) (hk : ∀ b o, s.heap.get? b = some o → h1.get? b = some o) (ho : h1.get? D = some { cls := .type "list", data := .seq #[] }) {m0 : Str → Option Value} (hn : h1.Ns C m0) :
    Inv (cxC X (ts ++ fr) scope s H fp C) [] (capt σ ts.length ix) (upd H D (.lst [])) { s with heap := h1, toks := tk } := by
  have hcl : ∀ x ∈ scope.names, x.2 = .free → (X.env.cells.lookup x.1).isSome = true := fun x hx hfx => by
    obtain ⟨c, hc⟩ := I.ok.has x.1 (S.frs x hx hfx)
    rw [hc]; rfl
  have nCell : ∀ b, s.heap.objs.size ≤ b → ∀ x c, X.env.cells.lookup x = some c → c ≠ b := fun b hb x c e z => by
    obtain ⟨v, q⟩ := I.cell x c e
    exact absurd (Nat.lt_of_lt_of_le q.lt (by rw [z]; exact hb)) (Nat.lt_irrefl _)
  have hasC : ∀ x, scope.names.lookup x = some .free → ∃ c, (closL X.env scope.names []).lookup x = some c ∧ X.env.cells.lookup x = some c := fun x hx => by
    obtain ⟨c, hc⟩ := closL_has (env := X.env) scope.names [] (PySem.mem_of_lookup hx)
    obtain ⟨c', hc'⟩ := lookup_of_mem hc
    exact ⟨c', hc', closL_lookup hcl hc'⟩
  have hfrs : ∀ b ∈ fp, b ∉ frs X.stack := fun b hb z => by
    obtain ⟨_, f1, f2, _⟩ := hf b hb
    rcases List.mem_cons.mp (I.stkSub b z) with e | e
    · exact f1 e
    · exact f2 e
  have hCn : H C = none := I.hok.fresh hC
  have hDn : H D = none := I.hok.fresh hD
  refine ⟨⟨I.ok.mod, ?_, I.ok.glob, I.ok.blt, hC, fun x y c h1 h2 => ?_, fun x hx => ?_, fun x c hfx => ?_, I.ok.hd, I.ok.frames, .inl rfl, fun b hb => ⟨?_, fun x c e => ?_⟩, I.bs, Nat.le_trans I.ok.bsz I.sz, fun b o e hb => ?_, hfrs, I.stack, I.stkFree⟩,
    rfl, I.bare, Un.laid hk hD hDn, ⟨m0, hn, fun i x v e1 e2 e3 => ?_⟩, fun x c e => ?_, ?_, fun x c e => ?_, fun p hp => ?_, I.hok.laid hk hD ⟨?_, [], 0, .nil, ho⟩, ?_⟩
  · show (relabel scope X.env).kind = _
    exact S.kind
  · exact I.ok.inj x y c (closL_lookup hcl h1) (closL_lookup hcl h2)
  · have hx' : (relabel scope X.env).names.lookup x = some .cell ∨ (relabel scope X.env).names.lookup x = some .free := hx
    have hfree : scope.names.lookup x = some .free := by
      rcases hx' with q | q
      · obtain ⟨k, e, z⟩ := relabel_lookup q
        rcases z with z | ⟨z, _⟩
        · subst z; exact absurd rfl (S.nocell _ (PySem.mem_of_lookup e))
        · rw [e, z]
      · obtain ⟨k, e, z⟩ := relabel_lookup q
        rcases z with z | ⟨_, z⟩
        · rw [e, ← z]
        · cases z
    obtain ⟨c, hc, _⟩ := hasC x hfree
    exact ⟨c, hc⟩
  · exact absurd (show false = true from hfx) (by decide)
  · exact Nat.ne_of_lt (Nat.lt_of_lt_of_le (hfp b hb) hC)
  · exact (hf b hb).2.2.2.2.1 x c (closL_lookup hcl e)
  · have f := hf b hb
    rcases f.2.2.2.1 with z | z
    · exact I.ok.noex b o e z
    · exact absurd (Nat.lt_of_lt_of_le (Heap.lt_size (I.ok.bs b o e).1) z) (Nat.lt_irrefl _)
  · obtain ⟨a, i', hj, hi, hσ⟩ := capt_get e2
    subst hj
    have e1' : (ts ++ fr)[ts.length + a]? = some x := e1
    rw [List.getElem?_append_right (by omega), Nat.add_sub_cancel_left] at e1'
    have hN : X.N[i']? = some x := by
      have q := congrArg (fun l => l[a]?) S.cap
      simp only [List.getElem?_map, e1', hi] at q
      exact (Option.some.inj q).symm
    have hfree := S.capf x (List.mem_of_getElem? e1')
    have hk' := S.frs (x, .free) (PySem.mem_of_lookup hfree) rfl
    obtain ⟨m, hnm, hl⟩ := I.loc
    obtain ⟨u, r, lk⟩ := hl i' x v hN hσ (.inr hk')
    refine ⟨u, r, ?_⟩
    obtain ⟨c, hc, hc'⟩ := hasC x hfree
    rcases lk with ⟨z, _⟩ | ⟨_, c2, e4, z⟩
    · have z' : X.env.scope.names.lookup x = some .local := z
      rcases hk' with y | y
      · have y' : X.env.scope.names.lookup x = some .cell := y
        rw [z'] at y'; cases y'
      · have y' : X.env.scope.names.lookup x = some .free := y
        rw [z'] at y'; cases y'
    · have hcc : c2 = c := Option.some.inj (e4.symm.trans hc')
      rw [hcc] at z
      obtain ⟨o, ho2, hd2⟩ := z
      exact .inr ⟨relabel_free hfree, c, hc, o, hk _ _ ho2, hd2⟩
  · obtain ⟨v, o, ho2, hd2⟩ := I.cell x c (closL_lookup hcl e)
    exact ⟨v, o, hk _ _ ho2, hd2⟩
  · show upd H D (.lst []) C = none
    rw [upd_ne (Ne.symm hDC)]; exact hCn
  · show upd H D (.lst []) c = none
    rw [upd_ne (nCell D hD x c (closL_lookup hcl e))]
    exact I.freeC x c (closL_lookup hcl e)
  · exact absurd (show p ∈ ([] : List (Addr × Obj)) from hp) (by simp)
  · exact Nat.zero_le _
  · have e := congrArg List.length S.cap
    simp only [List.length_map] at e
    rw [capt_length]
    show _ = (ts ++ fr).length
    rw [List.length_append, e]


theorem comp_core {pins : List (Addr × Obj)} {σ : St} {H : Hp} {s : Shared} {Q : VK} {use : Option (Value → Sem Unit)} {Qv : Value → Shared → Prop} (hc : X.calm = true) (S : CScope X.N X.env.scope scope ts fr ix) (hi : PI X tg iter wi)
    (hb : ∀ s H fp C, PG (cxC X (ts ++ fr) scope s H fp C) tg g ∧ PTs (cxC X (ts ++ fr) scope s H fp C) ifs tt ∧ PE (cxC X (ts ++ fr) scope s H fp C) elt te)
    (hs : ∀ x, foldedSetIterable iter X.env x = pure x) (I : Inv X pins σ H s) (h : tComp ts.length ix wi g tt te σ H Q)
    (fin : ∀ (D C : Addr) (H' : Hp) (s' : Shared), Inv X pins σ H' s' → FpOk X pins H' C → (∃ m, s'.heap.Ns C m) → Q (.ref D) H' → compPost (model X.prog X.w) X.A X.xe use Qv (.ref D) C (.ok .next) s') :
    wpAny (model X.prog X.w) X.A (comprehension (.ListComp elt [⟨tg, iter, ifs, 0⟩] scope pos) scope X.env (firstIterPos [⟨tg, iter, ifs, 0⟩] pos) (newList []) false (eval iter X.env) use) Qv X.xe s := by
  have hcl : ∀ x ∈ scope.names, x.2 = .free → (X.env.cells.lookup x.1).isSome = true := fun x hx hfx => by
    obtain ⟨c, hc⟩ := I.ok.has x.1 (S.frs x hx hfx)
    rw [hc]; rfl
  refine wpAny_comprehension_free (use := use) rfl hs (closureFor_clos hcl) S.kind S.nms (thn (hi pins s σ H _ I h) fun v s1 h1 => thn h1 fun itv s2 h2 => ?_)
  obtain ⟨it, fp, tn, J, H2, rfl, I2, T, st2, f2, hW⟩ := h2
  refine wpAny_newObj_type (wpAny_newFunctionEnv S.nocell (by intro y hy; simp at hy) (fun h₁ hns₁ hsb₁ => ?_) S.kind)
  dsimp only at hns₁ hsb₁ ⊢
  generalize hH2 : s2.heap.push { cls := .type "list", dict := none, data := .seq ([] : List Value).toArray } = G2 at hns₁ hsb₁ ⊢
  have hCs : G2.objs.size = s2.heap.objs.size + 1 := by rw [← hH2, Heap.size_push]
  have hDC : s2.heap.objs.size ≠ G2.objs.size := by rw [hCs]; exact Nat.ne_of_lt (Nat.lt_succ_self _)
  have hCle : s2.heap.objs.size ≤ G2.objs.size := by rw [hCs]; exact Nat.le_succ _
  have old : ∀ b o, s2.heap.get? b = some o → h₁.get? b = some o := fun b o e => hsb₁.extBut b o (by rw [hCs]; exact Nat.ne_of_lt (Nat.lt_succ_of_lt (Heap.lt_size e))) (Heap.get?_push_of_some _ (hH2 ▸ Heap.get?_push_of_some _ e))
  have hacc : h₁.get? s2.heap.objs.size = some { cls := .type "list", data := .seq #[] } := hsb₁.extBut _ _ hDC (Heap.get?_push_of_some _ (hH2 ▸ Heap.get?_push_size _ rfl))
  have hfp : ∀ b ∈ fp, b < s2.heap.objs.size := fun b hb' => by
    obtain ⟨o, e, _⟩ := T.obj _ _ st2 b hb'
    exact Heap.lt_size e
  have IC : Inv (cxC X (ts ++ fr) scope s2 H2 fp G2.objs.size) [] (capt σ ts.length ix) (upd H2 s2.heap.objs.size (.lst [])) { s2 with heap := h₁, toks := s2.toks + ([] : List (Str × Value)).length } :=
    inv_comp S I2 f2 hfp (Nat.le_refl _) hCle hDC old hacc hns₁
  have st1 : tn 0 h₁ := T.keep _ _ _ st2 fun b hb' o e => old b o e
  obtain ⟨W, ⟨m0, w0⟩, turn⟩ := hW s2.heap.objs.size I2.fresh
  obtain ⟨bg, bt, be⟩ := hb s2 H2 fp G2.objs.size
  generalize hX : cxC X (ts ++ fr) scope s2 H2 fp G2.objs.size = Y at IC bg bt be
  have eP : Y.prog = X.prog := by rw [← hX]; rfl
  have eW : Y.w = X.w := by rw [← hX]; rfl
  have eK : Y.K = X.K := by rw [← hX]; rfl
  have eC : Y.calm = true := by rw [← hX]; exact hc
  have eA : Y.A = X.A := by rw [← hX]; rfl
  have eE : Y.env = compEnvC scope (closL X.env scope.names []) G2.objs.size X.env := by rw [← hX]; rfl
  have eX : Y.xe = fun _ _ => False := by rw [← hX]; rfl
  have stat : ∀ {H' : Hp}, (∀ b ∈ fp, H' b = none) → ∀ b ∈ fp, FpOk Y [] H' b := fun hn b hb' => by
    rw [← hX]
    have z := IC.ok
    rw [← hX] at z
    refine ⟨hn b hb', (z.exf b hb').1, z.exfs b hb', .inl hb', (z.exf b hb').2, fun p hp => absurd (show p ∈ ([] : List (Addr × Obj)) from hp) (by simp)⟩
  have fr0 : ∀ b ∈ fp, upd H2 s2.heap.objs.size (.lst []) b = none := fun b hb' => by rw [upd_ne (Nat.ne_of_lt (hfp b hb'))]; exact (f2 b hb').1
  have bot : ∀ {α : Type} {t : Sem α} {R : α → Shared → Prop} {E : Value → Shared → Prop} {z : Shared}, wpAny (model Y.prog Y.w) Y.A t R Y.xe z → wpAny (model X.prog X.w) X.A t R E z := fun {α t R E z} q => by
    rw [eP, eW, eA, eX] at q
    exact wpAny_mono q (fun _ _ y => y) fun _ _ y => y.elim
  have loop : codeAny (model X.prog X.w) X.A (.compLoop (.ListComp elt [⟨tg, iter, ifs, 0⟩] scope pos) 0 (.ref it) (.ref s2.heap.objs.size) (compEnvC scope (closL X.env scope.names []) G2.objs.size X.env))
      (compPost (model X.prog X.w) X.A X.xe use Qv (.ref s2.heap.objs.size) G2.objs.size) { s2 with heap := h₁, toks := s2.toks + ([] : List (Str × Value)).length } := by
    rw [← eE]
    refine codeAny_loop rfl (fun n s' => ∃ i ys H', Inv Y [] (capt σ ts.length ix) H' s' ∧ tn i s'.heap ∧ (∀ b ∈ fp, H' b = none) ∧ W i n ys H') (fun n s3 hI => ?_) m0 ⟨0, [], _, IC, st1, fr0, w0⟩
    obtain ⟨i, ys, H3, I3, st3, fr3, w3⟩ := hI
    show wpAny _ _ ((compTurn (.ListComp elt [⟨tg, iter, ifs, 0⟩] scope pos) 0 (.ref it) (.ref s2.heap.objs.size) Y.env).onRaise (fun x => do noteFrame x Y.env; theTreesLotGoes x)) _ _ s3
    refine wpAny_noted ?_
    rw [compTurn_list]
    obtain ⟨hD3, hcase⟩ := turn i n ys H3 w3
    rcases hcase with ⟨stop, qn⟩ | ⟨go, N, hN, step⟩
    · have q := T.done Y eP eW eK eC i [] s3 _ H3 (fun _ _ => False) I3 (stat fr3) st3 stop
      rw [eA] at q
      refine wpAny_bind (wpAny_standAt (wpAny_bind (wpAny_mono q (fun r s4 ⟨hr, I4⟩ => ?_) fun _ _ y => y.elim)))
      subst hr
      refine wpAny_pure ?_
      have b4 : Un (frs X.stack) fp H2 H3 s2.heap s4.heap := by have z := I4.base; rw [← hX] at z; exact z
      have ok4 : HOk X.prog X.w H3 s4.heap := by have z := I4.hok; rw [eP, eW] at z; exact z
      have os4 : s4.os = s2.os := by have z := I4.os; rw [← hX] at z; exact z
      have I5 : Inv X pins σ H3 s4 := I2.call' os4 b4 ok4 I4.bare fun b hb' => ⟨(f2 b hb').2.2.2.1, (f2 b hb').2.1, (f2 b hb').2.2.2.2.1, (f2 b hb').2.2.2.2.2⟩
      have fC : H3 G2.objs.size = none := by have z := I4.free; rw [eE] at z; exact z
      have nC : ∃ m, s4.heap.Ns G2.objs.size m := by obtain ⟨m, z, _⟩ := I4.loc; rw [eE] at z; exact ⟨m, z⟩
      exact fin _ _ H3 s4 I5 (I2.fpOk hCle fC) nC qn
    · have q := T.item Y eP eW eK eC i [] s3 _ H3 (fun _ _ => False) I3 (stat fr3) st3 go
      rw [eA] at q
      refine wpAny_bind (wpAny_standAt (wpAny_bind (wpAny_mono q (fun r s4 ⟨u, hr, h4⟩ => ?_) fun _ _ y => y.elim)))
      subst hr
      refine wpAny_bind (wpAny_mono h4 (fun _ s5 ⟨x, H5, I5, r5, y5, st5, fr5⟩ => ?_) fun _ _ y => y.elim)
      have I5' := I5.pinned (stat fr5) (T.obj _ _ st5)
      refine wpAny_bind (bot (thn (bg _ s5 _ H5 x u _ I5' r5 (step x H5 y5)) fun _ s6 ⟨σ6, H6, I6, kp6, q6⟩ => ?_))
      refine wpAny_bind (bot (thn (bt _ s6 σ6 H6 _ I6 q6) fun ok s7 ⟨H7, I7, q7⟩ => ?_))
      have again : ∀ {H8 : Hp} {s8 : Shared} {zs : List V} {m' : Nat}, Inv Y ([] ++ pinsAt fp s5.heap) σ6 H8 s8 → m' < n → W (i + 1) m' zs H8 → ∃ m, m < n ∧ ∃ i ys H', Inv Y [] (capt σ ts.length ix) H' s8 ∧ tn i s8.heap ∧ (∀ b ∈ fp, H' b = none) ∧ W i m ys H' := fun {H8 s8 zs m'} I8 hm w8 => by
        refine ⟨m', hm, i + 1, zs, H8, (I8.unpinned).weak ?_ kp6, T.keep _ _ _ st5 fun b hb' o e => (I8.pin (b, o) (List.mem_append_right _ (List.mem_append_right _ (mem_pinsAt hb' e)))).1, fun b hb' => ?_, w8⟩
        · rw [I8.len, I3.len]
        · obtain ⟨o, e, d⟩ := T.obj _ _ st5 b hb'
          exact (I8.pin (b, o) (List.mem_append_right _ (List.mem_append_right _ (mem_pinsAt hb' e)))).2.1
      cases ok with
      | false =>
        rw [if_neg (by decide)] at q7
        obtain ⟨m', hm, w8⟩ := hN _ _ q7
        exact wpAny_pure ⟨rfl, again I7 hm w8⟩
      | true =>
        rw [if_pos rfl] at q7
        refine wpAny_bind (wpAny_bind (bot (thn (be _ s7 σ6 H7 _ I7 q7) fun u8 s8 ⟨y8, H8, I8, r8, hD8, hz, n8⟩ => ?_)))
        obtain ⟨m', hm, w8⟩ := hN _ _ n8
        refine wpAny_bind (bot (thn (mt_append _ s8 σ6 H8 (.ref s2.heap.objs.size) [y8] _ [u8] (fun _ H9 => H9 = upd H8 s2.heap.objs.size (.lst (ys ++ [y8]))) I8 rfl (.cons r8 .nil) ⟨_, ys, y8, rfl, rfl, hD8, hz, rfl⟩) fun _ s9 ⟨_, H9, I9, _, e9⟩ => ?_))
        subst e9
        exact wpAny_pure (wpAny_pure ⟨rfl, again I9 hm w8⟩)
  exact codeAny_compStart_list loop (T.self _ 0 _ _ _ st1 loop)


theorem pe_comp (hc : X.calm = true) (S : CScope X.N X.env.scope scope ts fr ix) (hi : PI X tg iter wi)
    (hb : ∀ s H fp C, PG (cxC X (ts ++ fr) scope s H fp C) tg g ∧ PTs (cxC X (ts ++ fr) scope s H fp C) ifs tt ∧ PE (cxC X (ts ++ fr) scope s H fp C) elt te)
    (hs : ∀ x, foldedSetIterable iter X.env x = pure x := by intro _; rfl) : PE X (.ListComp elt [⟨tg, iter, ifs, 0⟩] scope pos) (tComp ts.length ix wi g tt te) := by
  intro pins s σ H Q I h
  rw [eval_ListComp]
  refine comp_core (use := none) (Qv := EP X pins σ Q) hc S hi hb hs I h fun D C H' s' I' f' n' q' => ?_
  obtain ⟨m, hm⟩ := n'
  refine ⟨m, hm, fun h' sb => ⟨.ref D, H', ?_, rfl, q'⟩⟩
  exact I'.turned (t' := s'.toks) (fun b o hb' e => (sb.2 b hb').trans e) f'.1 f'.2.1 f'.2.2.2.1 f'.2.2.2.2.1 f'.2.2.2.2.2


theorem ps_setC {i : Nat} {x : Str} {pos' pos2 : Pos} (hc : X.calm = true) (S : CScope X.N X.env.scope scope ts fr ix) (hi : PI X tg iter wi)
    (hb : ∀ s H fp C, PG (cxC X (ts ++ fr) scope s H fp C) tg g ∧ PTs (cxC X (ts ++ fr) scope s H fp C) ifs tt ∧ PE (cxC X (ts ++ fr) scope s H fp C) elt te)
    (hN : X.N.Nodup) (hix : X.N[i]? = some x) (hx : Loc X.env.scope x)
    (hw : swapsWith (.ListComp elt [⟨tg, iter, ifs, 0⟩] scope pos) (some (.Name x pos')) pos2.line X.env = pure true := by rfl)
    (hf : X.fn x = true ∨ X.env.scope.names.lookup x = some .local := by first | exact .inl rfl | exact .inr rfl | assumption)
    (hs : ∀ x, foldedSetIterable iter X.env x = pure x := by intro _; rfl) :
    PS X (.Assign [.Name x pos'] (.ListComp elt [⟨tg, iter, ifs, 0⟩] scope pos) pos2) (fun D σ H => tComp ts.length ix wi g tt te σ H fun v H' => D.nx (σ.set i (some v)) H') := by
  intro pins s σ H D I h
  rw [exec_Assign_Name_used _ _ _ _ hw]
  refine wpAny_bind (wpAny_standAt (wpAny_bind ?_))
  show wpAny _ X.A (do let _ ← comprehension (.ListComp elt [⟨tg, iter, ifs, 0⟩] scope pos) scope X.env _ (newList []) false (eval iter X.env) (some (assign (.Name x pos') X.env))) _ _ s
  refine wpAny_bind (wpAny_mono (comp_core (use := some (assign (.Name x pos') X.env)) (Qv := fun _ s' => SP X pins D .next s') hc S hi hb hs I h fun D' C H' s' I' f' n' q' => ?_) (fun _ s' hq => wpAny_pure (wpAny_pure hq)) fun _ _ e => e)
  obtain ⟨m, hm⟩ := n'
  refine wpAny_assign_Name (store_ok2 I' hN hix hx (v := .ref D') rfl (fun s'' I'' ⟨a, sb, ha⟩ => ?_) hf)
  have hCa : C ≠ a := by
    rcases ha with rfl | ha
    · exact f'.2.1
    · exact fun z => f'.2.2.2.2.1 _ _ ha z.symm
  refine ⟨m, hm.sameBut sb hCa, fun h' sb' => ⟨_, H', ?_, q'⟩⟩
  exact I''.turned (t' := s''.toks) (fun b o hb' e => (sb'.2 b hb').trans e) f'.1 f'.2.1 f'.2.2.2.1 f'.2.2.2.2.1 f'.2.2.2.2.2
end



abbrev CTurn (D : Addr) (σ : St) (k : Nat) (ix : List Nat) (g : TG) (tt : TT) (te : TE) (x : V) (ys : List V) (H : Hp) (N : List V → Hp → Prop) : Prop :=
  g x (capt σ k ix) H fun σ2 H4 => Kp (capt σ k ix) σ2 ∧ tt σ2 H4 fun b H5 => if b = true then te σ2 H5 fun y H6 => H6 D = some (.lst ys) ∧ ys.length < sizeLine ∧ N (ys ++ [y]) (upd H6 D (.lst (ys ++ [y]))) else N ys H5
theorem comp_by {J : It} {n : Nat} {item : Nat → V} {D : Addr} {σ : St} {k : Nat} {ix : List Nat} {g : TG} {tt : TT} {te : TE} {Q : VK} {H1 : Hp} (Pv : Nat → List V → Hp → Prop)
    (hJ : ∀ i ys H, Pv i ys H → (i < n → J.go i H ∧ ∀ x H', J.yld i H x H' → H' = H ∧ x = item i) ∧ (n ≤ i → J.stop i H)) (h0 : Pv 0 [] (upd H1 D (.lst []))) (hD : ∀ i ys H, Pv i ys H → H D = some (.lst ys))
    (hs : ∀ i ys H, i < n → Pv i ys H → CTurn D σ k ix g tt te (item i) ys H (Pv (i + 1))) (hd : ∀ ys H, Pv n ys H → Q (.ref D) H) : CompOk J D σ k ix g tt te Q H1 := by
  refine ⟨fun i m ys H => m = n - i ∧ i ≤ n ∧ Pv i ys H, ⟨n, by simp, Nat.zero_le _, h0⟩, ?_⟩
  rintro i m ys H ⟨rfl, hi, p⟩
  refine ⟨hD i ys H p, ?_⟩
  obtain ⟨h1, h2⟩ := hJ i ys H p
  by_cases hlt : i < n
  · obtain ⟨hg, hy⟩ := h1 hlt
    refine .inr ⟨hg, Pv (i + 1), fun zs H' p' => ⟨n - (i + 1), by omega, rfl, hlt, p'⟩, fun x H' y => ?_⟩
    obtain ⟨rfl, rfl⟩ := hy x H' y
    exact hs i ys H' hlt p
  · have e : i = n := by omega
    subst e
    exact .inl ⟨h2 (Nat.le_refl _), hd ys H p⟩
theorem comp_range {lo : Int} {n : Nat} {D : Addr} {σ : St} {k : Nat} {ix : List Nat} {g : TG} {tt : TT} {te : TE} {Q : VK} {H1 : Hp} (Pv : Nat → List V → Hp → Prop) (h0 : Pv 0 [] (upd H1 D (.lst []))) (hD : ∀ i ys H, Pv i ys H → H D = some (.lst ys))
    (hs : ∀ i ys H, i < n → Pv i ys H → CTurn D σ k ix g tt te (.int (lo + i)) ys H (Pv (i + 1))) (hd : ∀ ys H, Pv n ys H → Q (.ref D) H) : CompOk (Itr lo n) D σ k ix g tt te Q H1 :=
  comp_by (item := fun i => .int (lo + i)) Pv (fun i ys H _ => ⟨fun h => ⟨h, fun x H' y => y⟩, fun h => h⟩) h0 hD hs hd
theorem comp_list {K : PySem.W.Frag} {a : Addr} {xs : List V} {D : Addr} {σ : St} {k : Nat} {ix : List Nat} {g : TG} {tt : TT} {te : TE} {Q : VK} {H1 : Hp} (Pv : Nat → List V → Hp → Prop) (hl : ∀ i ys H, Pv i ys H → SqL K H a xs) (h0 : Pv 0 [] (upd H1 D (.lst []))) (hD : ∀ i ys H, Pv i ys H → H D = some (.lst ys))
    (hs : ∀ i ys H x, xs[i]? = some x → Pv i ys H → CTurn D σ k ix g tt te x ys H (Pv (i + 1))) (hd : ∀ ys H, Pv xs.length ys H → Q (.ref D) H) : CompOk (Itl K a) D σ k ix g tt te Q H1 :=
  comp_by (n := xs.length) (item := fun i => xs.getD i .non) Pv (fun i ys H p => ⟨fun h => ⟨⟨xs, xs[i], hl i ys H p, by simp [h]⟩, fun x H' y => ⟨y.1, by
    have := y.2 xs (hl i ys H p)
    rw [List.getD_eq_getElem?_getD, this]; rfl⟩⟩, fun h => ⟨xs, hl i ys H p, h⟩⟩) h0 hD (fun i ys H h p => hs i ys H _ (by rw [List.getD_eq_getElem?_getD, List.getElem?_eq_getElem h]; rfl) p) hd
theorem comp_tup {K : PySem.W.Frag} {a : Addr} {xs : List V} {D : Addr} {σ : St} {k : Nat} {ix : List Nat} {g : TG} {tt : TT} {te : TE} {Q : VK} {H1 : Hp} (Pv : Nat → List V → Hp → Prop) (hl : ∀ i ys H, Pv i ys H → SqT K H a xs) (h0 : Pv 0 [] (upd H1 D (.lst []))) (hD : ∀ i ys H, Pv i ys H → H D = some (.lst ys))
    (hs : ∀ i ys H x, xs[i]? = some x → Pv i ys H → CTurn D σ k ix g tt te x ys H (Pv (i + 1))) (hd : ∀ ys H, Pv xs.length ys H → Q (.ref D) H) : CompOk (Itt K a) D σ k ix g tt te Q H1 :=
  comp_by (n := xs.length) (item := fun i => xs.getD i .non) Pv (fun i ys H p => ⟨fun h => ⟨⟨xs, xs[i], hl i ys H p, by simp [h]⟩, fun x H' y => ⟨y.1, by
    have := y.2 xs (hl i ys H p)
    rw [List.getD_eq_getElem?_getD, this]; rfl⟩⟩, fun h => ⟨xs, hl i ys H p, h⟩⟩) h0 hD (fun i ys H h p => hs i ys H _ (by rw [List.getD_eq_getElem?_getD, List.getElem?_eq_getElem h]; rfl) p) hd
end L2

namespace L2
open PySem PySem.Spec PyProof.Rows



abbrev mkS (l : List Nat) : Str := ⟨l.toArray⟩
theorem mkS_list (x : Str) : mkS x.cps.toList = x := by cases x; simp [mkS]
theorem mkS_len (l : List Nat) : (mkS l).length = l.length := by simp [mkS, Str.length]
theorem str_ext {x y : Str} (h : x.cps.toList = y.cps.toList) : x = y := by
  rw [← mkS_list x, ← mkS_list y, h]
def cutG {α : Type} (xs : List α) (lo hi : Option Int) : List α := (xs.drop (HT.sIx xs.length 0 lo)).take (HT.sIx xs.length xs.length hi - HT.sIx xs.length 0 lo)
theorem sliceIx_eq (lo hi : Option Int) (n : Nat) : Builtin.Str.strSliceIndices lo hi 1 n = (List.range (HT.sIx n n hi - HT.sIx n 0 lo)).map (HT.sIx n 0 lo + ·) := by
  rw [← sliceRange_one]
  unfold Builtin.Str.strSliceIndices
  simp only [show (1 : Int) > 0 by decide, if_true]
  congr 1
  · cases lo with
    | none => simp [HT.sIx]
    | some i => simp only [HT.sIx]; by_cases h : i < 0 <;> simp only [h, if_true, if_false] <;> omega
  · cases hi with
    | none => simp [HT.sIx]
    | some i => simp only [HT.sIx]; by_cases h : i < 0 <;> simp only [h, if_true, if_false] <;> omega
theorem slice_text (x : Str) (lo hi : Option Int) : Txt.slice x lo hi = mkS (cutG x.cps.toList lo hi) := by
  have e : (Builtin.Str.strSliceIndices lo hi 1 x.length).filterMap (x.cps[·]?) = cutG x.cps.toList lo hi := by
    rw [sliceIx_eq, pick_run]
    unfold cutG
    simp only [Str.length, Array.length_toList]
  unfold Txt.slice
  split
  · rename_i h
    have hl : (Builtin.Str.strSliceIndices lo hi 1 x.length).length = x.length := by simpa using h
    have h1 : cutG x.cps.toList lo hi = x.cps.toList := by
      rw [sliceIx_eq, List.length_map, List.length_range] at hl
      have hn : x.length = x.cps.toList.length := by simp [Str.length]
      rw [hn] at hl
      have b1 := HT.sIx_le x.cps.toList.length x.cps.toList.length (Nat.le_refl _) hi
      unfold cutG
      by_cases h0 : HT.sIx x.cps.toList.length 0 lo = 0
      · rw [h0, List.drop_zero, List.take_of_length_le (by omega)]
      · have : x.cps.toList.length = 0 := by omega
        have h2 : x.cps.toList = [] := List.length_eq_zero_iff.mp this
        rw [h2]; simp
    rw [h1, mkS_list]
  · rw [e]

section
variable {X : Cx}
theorem op_gt_str : OpR X (compareOp .Gt) (fun x y H Q => ∃ i j, x = .str i ∧ y = .str j ∧ Q (.bl (decide (j.cps.toList < i.cps.toList))) H) := by
  intro pins s σ H x y v u Q I rx ry h
  obtain ⟨i, j, rfl, rfl, q⟩ := h
  obtain ⟨t, rfl⟩ := rx
  obtain ⟨t', rfl⟩ := ry
  exact PySem.P.gt_str (fin_bl I q rfl)

def rSlS : V → Option Int → Option Int → Hp → VK → Prop := fun x lo hi H Q => ∃ z, x = .str z ∧ z.length ≤ sizeLine ∧ Q (.str (mkS (cutG z.cps.toList lo hi))) H
theorem sl_str : SlR X rSlS := by
  intro pins s σ H x v vl vu lo hi sl Q I rx hs pl pu h
  obtain ⟨z, rfl, hzl, q⟩ := h
  obtain ⟨t, rfl⟩ := rx
  obtain ⟨l, rfl, el⟩ : ∃ l : Option (Int × Tok), vl = partValue l ∧ l.map (·.1) = lo := by
    cases pl with
    | none => exact ⟨none, rfl, rfl⟩
    | int i t => exact ⟨some (i, t), rfl, rfl⟩
  obtain ⟨u, rfl, eu⟩ : ∃ l : Option (Int × Tok), vu = partValue l ∧ l.map (·.1) = hi := by
    cases pu with
    | none => exact ⟨none, rfl, rfl⟩
    | int i t => exact ⟨some (i, t), rfl, rfl⟩
  subst el eu
  refine ⟨"str", _, F.slot_str_getitem.lookup, typeIs_str s z t, wpAny_getItem_str_slice (l := l) (u := u) (st := none) hs rfl ?_⟩
  have e := slice_text z (l.map (·.1)) (u.map (·.1))
  unfold Txt.slice at e
  unfold sliceMade
  have hp : slicePicked z l u none = Builtin.Str.strSliceIndices (l.map (·.1)) (u.map (·.1)) 1 z.length := rfl
  rw [hp]
  have h1 : (((none : Option (Int × Tok)).map (·.1)).getD 1 == 1 && (Builtin.Str.strSliceIndices (l.map (·.1)) (u.map (·.1)) 1 z.length).length == z.length) = ((1 : Int) == 1 && (Builtin.Str.strSliceIndices (l.map (·.1)) (u.map (·.1)) 1 z.length).length == z.length) := rfl
  rw [h1]
  by_cases hc : ((1 : Int) == 1 && (Builtin.Str.strSliceIndices (l.map (·.1)) (u.map (·.1)) 1 z.length).length == z.length) = true
  · rw [if_pos hc] at e ⊢
    exact ⟨.str z, H, I, ⟨t, rfl⟩, by rw [← e] at q; exact q⟩
  · rw [if_neg hc] at e ⊢
    rw [← e] at q
    refine ⟨?_, ⟨.str _, H, I.tok _, ⟨_, rfl⟩, q⟩⟩
    have hle := Txt.slice_le z (l.map (·.1)) (u.map (·.1))
    unfold Txt.slice at hle
    rw [if_neg hc] at hle
    exact Nat.le_trans hle hzl


def Its (x : Str) : It := ⟨fun i _ => i < x.cps.toList.length, fun i H v H' => H' = H ∧ ∃ c, x.cps.toList[i]? = some c ∧ v = .str (mkS [c]), fun i _ => x.cps.toList.length ≤ i⟩
theorem turn_str {P : Program} {w : World} {K : PySem.W.Frag} {tg : Expr} (it : Addr) (x : Str) (t : Tok) (ty : String)
    (hn : ["enumerate", "zip", "dict_itemiterator", "dict_reverseitemiterator", "odict_iterator", "itertools.zip_longest", "itertools.pairwise"].contains ty = false)
    (W : ∀ A' : Around, A'.handled = none → Walks P w A' it [it] [it] x.cps.size (SignAt x) (fun i h => h.IsStrIter it ty x t i))
    (hself : ∀ (A : Around) (i : Nat) (s : Shared) (Q : Value → Shared → Prop) (E : Value → Shared → Prop), s.heap.IsStrIter it ty x t i → Q (.ref it) s → wpAny (model P w) A (pyIter (.ref it)) Q E s)
    (hend : ∀ (A : Around) (i : Nat) (s : Shared) (Q : Option Value → Shared → Prop) (E : Value → Shared → Prop), A.handled = none → s.heap.IsStrIter it ty x t i → x.cps[i]? = none → (∀ h', Heap.ExtBut it s.heap h' → Q none { s with heap := h' }) → wpAny (model P w) A (pyNext (.ref it)) Q E s) :
    Turn P w K tg (Its x) [it] it (fun i h => h.IsStrIter it ty x t i) where
  mem := by simp
  obj := fun i h st b hb => by
    have e : b = it := by simpa using hb
    subst e
    obtain ⟨o, e, c, d⟩ := st
    exact ⟨o, e, fun v z => by rw [d] at z; cases z⟩
  keep := fun i h h' st k => by
    obtain ⟨o, e, r⟩ := st
    exact ⟨o, k it (by simp) o e, r⟩
  item := by
    intro X hP hw hK hc i pins s σ H E I hf st hg
    subst hP hw hK
    obtain ⟨f0, f1, f2, f3, f4, f5⟩ := hf it (by simp)
    have hg' : i < x.cps.toList.length := hg
    have hi : i < x.cps.size := by simpa using hg'
    refine (W X.A (I.ok.hd hc)).item i s _ _ hi st fun v h' tk hv st' kk => ?_
    obtain ⟨c, u, hcx, rfl⟩ := hv
    have I1 : Inv X pins σ H { s with heap := h', toks := tk } := I.turned (fun b o hb e => kk b o (by simpa using hb) e) f0 f1 f3 f4 f5
    obtain ⟨o, e, cc, d⟩ := id st'
    refine ⟨_, rfl, go_of (s := { s with heap := h', toks := tk }) e cc d hn ⟨.str (mkS [c]), H, I1, ⟨u, rfl⟩, ⟨rfl, c, by simpa using hcx, rfl⟩, st', fun b hb => (hf b hb).1⟩⟩
  done := by
    intro X hP hw hK hc i pins s σ H E I hf st hg
    subst hP hw hK
    obtain ⟨f0, f1, f2, f3, f4, f5⟩ := hf it (by simp)
    have hg' : x.cps.toList.length ≤ i := hg
    have hi : x.cps.size ≤ i := by simpa using hg'
    have hnone : x.cps[i]? = none := by simpa using hi
    exact hend X.A i s _ _ (I.ok.hd hc) st hnone fun h' eb => ⟨rfl, I.turned (t' := s.toks) (fun b o hb e => eb b o hb e) f0 f1 f3 f4 f5⟩
  self := fun A i s Q E st h => hself A i s Q E st h
def iStr (tl : TE) : TI := fun σ H R => tl σ H fun x H1 => ∃ z, x = .str z ∧ R (Its z) H1
theorem pi_str {tg l : Expr} {tl : TE} (hl : PE X l tl) : PI X tg l (iStr tl) := by
  intro pins s σ H R I h
  refine thn (hl pins s σ H _ I h) fun v s1 ⟨x, H1, I1, r1, q1⟩ => ?_
  obtain ⟨z, rfl, q⟩ := q1
  obtain ⟨t, rfl⟩ := r1
  have fin : ∀ ty : String, Turn X.prog X.w X.K tg (Its z) [s1.heap.objs.size] s1.heap.objs.size (fun i h => h.IsStrIter s1.heap.objs.size ty z t i) →
      PIE X pins σ tg R (.ref s1.heap.objs.size) { s1 with heap := s1.heap.push { cls := .type ty, data := .fields #[.str z t, .int 0 0] } } := fun ty T => by
    refine ⟨s1.heap.objs.size, [s1.heap.objs.size], _, _, H1, rfl, I1.kept (t' := s1.toks) fun b o e => Heap.get?_push_of_some _ e, T, ⟨_, Heap.get?_push_size _ rfl, rfl, rfl⟩, fun b hb => ?_, q⟩
    have e : b = s1.heap.objs.size := by simpa using hb
    subst e
    exact I1.fpOk (Nat.le_refl _) (I1.hok.fresh (Nat.le_refl _))
  cases ha : z.cps.all (· < 128)
  · exact wpAny_pyIter_wide ha (fin _ (turn_str _ z t _ (by decide) (fun A' hA => Walks.strWide hA _ z t) (fun A i s Q E st h => wpAny_pyIter_striter_wide st h) fun A i s Q E hh st hx hQ => wpAny_pyNext_wide_end hh st hx hQ))
  · exact wpAny_pyIter_ascii ha (fin _ (turn_str _ z t _ (by decide) (fun A' hA => Walks.strAscii hA _ z t) (fun A i s Q E st h => wpAny_pyIter_striter_ascii st h) fun A i s Q E hh st hx hQ => wpAny_pyNext_ascii_end hh st hx hQ))
theorem for_str {x : Str} {g : TG} {tb : TS} {D : Ends} {σ : St} {H : Hp} (Pv : Nat → St → Hp → Prop) (h0 : Pv 0 σ H)
    (hs : ∀ i c σ H, x.cps.toList[i]? = some c → Pv i σ H → g (.str (mkS [c])) σ H fun σ2 H2 => tb { D with nx := Pv (i + 1), ct := Pv (i + 1), bk := D.nx } σ2 H2) (hd : ∀ σ H, Pv x.cps.toList.length σ H → D.nx σ H) :
    ∃ W : Nat → Nat → St → Hp → Prop, (∃ m, W 0 m σ H) ∧ ∀ i m σ H, W i m σ H →
      ((Its x).stop i H ∧ D.nx σ H) ∨ ((Its x).go i H ∧ ∃ N : St → Hp → Prop, (∀ σ' H', N σ' H' → ∃ m', m' < m ∧ W (i + 1) m' σ' H') ∧ ∀ v H', (Its x).yld i H v H' → g v σ H' fun σ2 H2 => tb { D with nx := N, ct := N, bk := D.nx } σ2 H2) := by
  refine ⟨fun i m σ H => m = x.cps.toList.length - i ∧ i ≤ x.cps.toList.length ∧ Pv i σ H, ⟨_, rfl, Nat.zero_le _, h0⟩, ?_⟩
  rintro i m σ H ⟨rfl, hi, p⟩
  by_cases hlt : i < x.cps.toList.length
  · refine .inr ⟨hlt, Pv (i + 1), fun σ' H' p' => ⟨_, by omega, rfl, hlt, p'⟩, fun v H' y => ?_⟩
    obtain ⟨rfl, c, hc, rfl⟩ := y
    exact hs i c σ _ hc p
  · have e : i = x.cps.toList.length := by omega
    subst e
    exact .inl ⟨Nat.le_refl _, hd σ H p⟩

theorem comp_str {x : Str} {D : Addr} {σ : St} {k : Nat} {ix : List Nat} {g : TG} {tt : TT} {te : TE} {Q : VK} {H1 : Hp} (Pv : Nat → List V → Hp → Prop) (h0 : Pv 0 [] (upd H1 D (.lst []))) (hD : ∀ i ys H, Pv i ys H → H D = some (.lst ys))
    (hs : ∀ i ys H c, x.cps.toList[i]? = some c → Pv i ys H → CTurn D σ k ix g tt te (.str (mkS [c])) ys H (Pv (i + 1))) (hd : ∀ ys H, Pv x.cps.toList.length ys H → Q (.ref D) H) : CompOk (Its x) D σ k ix g tt te Q H1 :=
  comp_by (n := x.cps.toList.length) (item := fun i => .str (mkS [x.cps.toList.getD i 0])) Pv (fun i ys H p => ⟨fun h => ⟨h, fun v H' y => by
    obtain ⟨e, c, hc, rfl⟩ := y
    exact ⟨e, by rw [List.getD_eq_getElem?_getD, hc]; rfl⟩⟩, fun h => h⟩) h0 hD (fun i ys H h p => hs i ys H _ (by rw [List.getD_eq_getElem?_getD, List.getElem?_eq_getElem h]; rfl) p) hd


theorem vals_strs : ∀ {ts : List Str} {us : List Value}, Vals (ts.map V.str) us → ∃ l : List (Str × Tok), us = strValues l ∧ l.map (·.1) = ts
  | [], _, r => by
    rw [List.map_nil] at r
    cases r
    exact ⟨[], rfl, rfl⟩
  | t :: ts, _, r => by
    rw [List.map_cons] at r
    cases r with
    | cons r1 r2 =>
      obtain ⟨k, rfl⟩ := r1
      obtain ⟨l, rfl, e⟩ := vals_strs r2
      exact ⟨(t, k) :: l, rfl, by rw [List.map_cons, e]⟩
def rJoin (K : PySem.W.Frag) : V → List V → Hp → VK → Prop := fun x vs H Q => ∃ sep l ts, x = .str sep ∧ vs = [.ref l] ∧ SqL K H l (ts.map V.str) ∧ JoinOk sep ts = true ∧ Q (.str (Txt.join sep ts)) H
theorem mt_join : MtR X "str.join" (rJoin X.K) := by
  intro pins s σ H x vs v us Q I rx rv h
  obtain ⟨sep, l, ts, rfl, rfl, hq, ok, q⟩ := h
  obtain ⟨t, rfl⟩ := rx
  obtain ⟨u, rfl, ru⟩ := rv.one
  cases ru
  obtain ⟨its, r, p, hz⟩ := I.list hq
  obtain ⟨l', rfl, el⟩ := vals_strs r
  exact SC.join p.isList el ok fun t' k => ⟨.str _, H, I.tok _, ⟨_, rfl⟩, q⟩


theorem call_all_b (hc : X.calm = true) (hin : X.A.in1.handled = none) : CallR X (.builtin "all") (fun xs H Q => ∃ (p : Addr) (bs : List Bool), xs = [.ref p] ∧ SqL X.K H p (bs.map V.bl) ∧ Q (.bl (bs.all id)) H) := by
  intro pins s σ H xs us Q I r h
  obtain ⟨p, bs, rfl, hq, q⟩ := h
  obtain ⟨u, rfl, ru⟩ := vals1 r
  cases ru
  obtain ⟨its, rv, pl, hz⟩ := I.list hq
  have hlen := rv.length
  rw [List.length_map] at hlen
  have hne : p ≠ s.heap.objs.size := by
    obtain ⟨o, n, e, _⟩ := pl
    exact Nat.ne_of_lt (Heap.lt_size e)
  refine call_all_walk (wpAny_pyIter_list pl.isList ?_)
  refine ⟨s.heap.objs.size, _, _, its.toArray.size, _, _, fun i => bs.getD i true, rfl, Walks.list hin s.heap.objs.size p hne its.toArray, ⟨⟨_, Heap.get?_push_size _ rfl, rfl, rfl⟩, ?_⟩, ?_, ?_⟩
  · obtain ⟨o, n, e, c, d, dd⟩ := pl
    exact ⟨o, Heap.get?_push_of_some _ e, c, n, dd⟩
  · intro i v s' Q' E' hv hQ'
    have hv' : its[i]? = some v := by simpa using hv
    have hi : i < its.length := (List.getElem?_eq_some_iff.mp hv').1
    have hb : (bs.map V.bl)[i]? = some (V.bl (bs.getD i true)) := by
      rw [List.getElem?_map, List.getElem?_eq_getElem (by omega), List.getD_eq_getElem?_getD, List.getElem?_eq_getElem (by omega)]; rfl
    obtain ⟨u, hu, ru⟩ := rv.get hb
    rw [hv'] at hu
    cases hu
    cases ru
    exact wpAny_truthy_bool hQ'
  · intro h' tk kk
    have e : (List.range its.toArray.size).all (fun i => bs.getD i true) = bs.all id := by
      rw [List.size_toArray, ← hlen, Bool.eq_iff_iff, List.all_eq_true, List.all_eq_true]
      constructor
      · intro z b hb
        obtain ⟨i, hi, rfl⟩ := List.mem_iff_getElem.mp hb
        have := z i (List.mem_range.mpr hi)
        rw [List.getD_eq_getElem?_getD, List.getElem?_eq_getElem hi] at this
        exact this
      · intro z i hi
        have hi' := List.mem_range.mp hi
        rw [List.getD_eq_getElem?_getD, List.getElem?_eq_getElem hi']
        exact z _ (List.getElem_mem hi')
    rw [e]
    have I1 : Inv X pins σ H { s with heap := s.heap.push { cls := .type "list_iterator", data := .fields #[.ref p, .int 0 0] } } := I.kept (t' := s.toks) fun b o e => Heap.get?_push_of_some _ e
    obtain ⟨f0, f1, f2, f3, f4, f5⟩ := I.fpOk (Nat.le_refl _) (I.hok.fresh (Nat.le_refl _))
    exact ⟨.bl (bs.all id), H, I1.turned (fun b o hb e => kk b o (by simpa using hb) e) f0 f1 f3 f4 f5, rfl, q⟩


theorem call_isinst : CallR X (.builtin "isinstance") (fun xs H Q => ∃ x T t b, xs = [x, .ty T] ∧ TyOf X.K H x t ∧ PySem.W.kitOne X.K t (.type T) = some b ∧ Q (.bl b) H) := by
  intro pins s σ H xs us Q I r h
  obtain ⟨x, T, t, b, rfl, ty, e, q⟩ := h
  obtain ⟨u, u', rfl, ru, ru'⟩ := vals2 r
  cases ru'
  exact isinst_ok I ru ty e fun tk => ⟨.bl b, H, I.tok _, rfl, q⟩
end

section
variable {X : Cx} {K : PySem.W.Frag}
theorem ix_listK (h : X.K = K := by rfl) : IxR X (rIxL K) := h ▸ ix_list
theorem op_in_seqK (h : X.K = K := by rfl) : OpR X (compareOp .In) (rIn K false) := h ▸ op_in_seq
def rLenQ (K : PySem.W.Frag) : List V → Hp → VK → Prop := fun xs H Q => ∃ p ys, xs = [.ref p] ∧ (SqL K H p ys ∨ SqT K H p ys) ∧ Q (.int ys.length) H
theorem call_lenK (h : X.K = K := by rfl) : CallR X (.builtin "len") (rLenQ K) := h ▸ call_len_seq
def rIsi (K : PySem.W.Frag) : List V → Hp → VK → Prop := fun xs H Q => ∃ x T t b, xs = [x, .ty T] ∧ TyOf K H x t ∧ PySem.W.kitOne K t (.type T) = some b ∧ Q (.bl b) H
theorem call_isinstK (h : X.K = K := by rfl) : CallR X (.builtin "isinstance") (rIsi K) := h ▸ call_isinst
def rAll (K : PySem.W.Frag) : List V → Hp → VK → Prop := fun xs H Q => ∃ (p : Addr) (bs : List Bool), xs = [.ref p] ∧ SqL K H p (bs.map V.bl) ∧ Q (.bl (bs.all id)) H
theorem call_allK (hc : X.calm = true) (hin : X.A.in1.handled = none) (h : X.K = K := by rfl) : CallR X (.builtin "all") (rAll K) := h ▸ call_all_b hc hin
end
theorem bt_isinstance : bootBuiltins "isinstance" = some (.builtin "isinstance") := by decide +kernel
theorem bt_all : bootBuiltins "all" = some (.builtin "all") := by decide +kernel
theorem bt_max : bootBuiltins "max" = some (.builtin "max") := by decide +kernel
theorem bt_bool : bootBuiltins "bool" = some (.type "bool") := by decide +kernel
theorem bt_int : bootBuiltins "int" = some (.type "int") := by decide +kernel
theorem bt_str : bootBuiltins "str" = some (.type "str") := by decide +kernel
theorem bt_list : bootBuiltins "list" = some (.type "list") := by decide +kernel
theorem bt_tuple : bootBuiltins "tuple" = some (.type "tuple") := by decide +kernel
theorem bt_zip : bootBuiltins "zip" = some (.type "zip") := by decide +kernel
theorem bt_enumerate : bootBuiltins "enumerate" = some (.type "enumerate") := by decide +kernel
end L2

namespace L2
open PySem PySem.Spec PyProof.Rows


section
variable {prog : Program} {w : World} {A : Around} {E : Value → Shared → Prop} {s : Shared}
theorem nx_tup {it t : Addr} {i : Nat} {its : Array Value} {x : Value} {Q : Value → Shared → Prop} (hit : s.heap.IsTupleIter it t i) (ht : s.heap.IsTuple t its) (hx : its[i]? = some x)
    (hQ : ∀ h', h'.IsTupleIter it t (i + 1) → Heap.SameBut it s.heap h' → Q x { s with heap := h' }) : wpAny (model prog w) A (Builtin.SmallTypes.nextOf (.ref it)) Q E s := by
  obtain ⟨o, ho, hc, hd⟩ := id hit
  obtain ⟨ot, hot, _, nt, hdt⟩ := ht
  unfold Builtin.SmallTypes.nextOf
  refine wpAny_bind (wpAny_callSpecial?_slot (name := Str.ofString "__next__") hit.typeIs F.slot_tuple_iterator_next (wpAny_call_entry F.slot_tuple_iterator_next hit.typeIs F.entry_tuple_iterator_next ?_ (F.args_tuple_iterator_next_1 _)))
  show wpAny _ _ (field (.ref it) 0 >>= _) _ _ s; refine wpAny_bind (wpAny_field ho hd (x := .ref t) rfl ?_)
  show wpAny _ _ (if (Value.ref t == Value.none) = true then _ else _) _ _ s; rw [if_neg (show ¬ ((Value.ref t == Value.none) = true) from fun z => Bool.false_ne_true z)]
  show wpAny _ _ (field (.ref it) 1 >>= _) _ _ s; refine wpAny_bind (wpAny_field ho hd (x := .int i 0) rfl ?_)
  show wpAny _ _ (seqItems? (.ref t) >>= _) _ _ s; refine wpAny_bind (wpAny_seqItems hot hdt ?_); simp only [Int.toNat_natCast, hx]
  refine wpAny_bind (wpAny_setField ho hd (by simp) (wpAny_pure ⟨x, rfl, wpAny_pure (hQ _ ⟨_, Heap.get?_update_self _ ho (Obj.isFreed_of_fields (Obj.data_mapFields hd _)), (Obj.cls_mapFields ..).trans hc, by rw [Obj.data_mapFields hd]; simp [rawInt]⟩ (Heap.SameBut.update ..))⟩))
theorem nx_tup_end {it t : Addr} {i : Nat} {its : Array Value} {Q : Value → Shared → Prop} (hh : A.handled = none) (hit : s.heap.IsTupleIter it t i) (ht : s.heap.IsTuple t its) (hx : its[i]? = none)
    (hE : ∀ h' e, Heap.ExtBut it s.heap h' → (∃ o, h'.get? e = some o ∧ o.cls = .type "StopIteration") → E (.ref e) { s with heap := h' }) : wpAny (model prog w) A (Builtin.SmallTypes.nextOf (.ref it)) Q E s := by
  obtain ⟨o, ho, hc, hd⟩ := id hit
  obtain ⟨ot, hot, _, nt, hdt⟩ := ht
  unfold Builtin.SmallTypes.nextOf
  refine wpAny_bind (wpAny_callSpecial?_slot (name := Str.ofString "__next__") hit.typeIs F.slot_tuple_iterator_next (wpAny_call_entry F.slot_tuple_iterator_next hit.typeIs F.entry_tuple_iterator_next ?_ (F.args_tuple_iterator_next_1 _)))
  show wpAny _ _ (field (.ref it) 0 >>= _) _ _ s; refine wpAny_bind (wpAny_field ho hd (x := .ref t) rfl ?_)
  show wpAny _ _ (if (Value.ref t == Value.none) = true then _ else _) _ _ s; rw [if_neg (show ¬ ((Value.ref t == Value.none) = true) from fun z => Bool.false_ne_true z)]
  show wpAny _ _ (field (.ref it) 1 >>= _) _ _ s; refine wpAny_bind (wpAny_field ho hd (x := .int i 0) rfl ?_)
  show wpAny _ _ (seqItems? (.ref t) >>= _) _ _ s; refine wpAny_bind (wpAny_seqItems hot hdt ?_); simp only [Int.toNat_natCast, hx]
  refine wpAny_bind (wpAny_rule (wpAny_bind (wpAny_setField ho hd (by simp) ?_))); show wpAny _ _ (newExc (.type "StopIteration") [] >>= _) _ _ _
  refine wpAny_bind ?_; simp only [newExc, newTuple]; refine wpAny_bind (wpAny_newObj_type ?_ (by size_fits))
  refine wpAny_bind (m := firstArgMember _ _) (wpAny_of_eq (a := Value.none) (by first | rfl | (simp only [firstArgMember]; rfl)) ?_); refine wpAny_newObj_type ?_ (by size_fits)
  simp only [raiseNew]; refine wpAny_bind (wpAny_handled ?_); first | rw [show A.in1.handled = none from hh] | rw [hh]
  refine wpAny_bind (wpAny_pure (wpAny_throw (hE _ _ (((Heap.SameBut.update ..).extBut.push _).push _) ⟨_, Heap.get?_push_size _ rfl, rfl⟩)))
end



structure SubIt (P : Program) (w : World) (K : PySem.W.Frag) (it : Addr) (go stop : Nat → Hp → Prop) (yld : Nat → Hp → V → Prop) (tn : Nat → Heap → Prop) : Prop where
  obj : ∀ i h, tn i h → ∃ o, h.get? it = some o ∧ ∀ v, o.data ≠ .cell v
  keep : ∀ i h h', tn i h → (∀ o, h.get? it = some o → h'.get? it = some o) → tn i h'
  item : ∀ (X : Cx) (pins : List (Addr × Obj)) (σ : St) (H : Hp) (s₀ : Shared) (i : Nat) (fp : List Addr), X.prog = P → X.w = w → X.K = K → Inv X pins σ H s₀ → (∀ b ∈ fp, FpOk X pins H b) → go i H →
    ∃ U : Heap → Prop, U s₀.heap ∧ (∀ h h', U h → (∀ b o, b ∉ fp → h.get? b = some o → h'.get? b = some o) → U h') ∧ ∃ x, yld i H x ∧
      ∀ (A : Around) (s : Shared) (Q : Value → Shared → Prop) (E : Value → Shared → Prop), U s.heap → tn i s.heap → (∀ u h' tk, RelV x u → tn (i + 1) h' → Heap.SameBut it s.heap h' → Q u { s with heap := h', toks := tk }) →
        wpAny (model P w) A (Builtin.SmallTypes.nextOf (.ref it)) Q E s
  done : ∀ (X : Cx) (pins : List (Addr × Obj)) (σ : St) (H : Hp) (s₀ : Shared) (i : Nat) (fp : List Addr), X.prog = P → X.w = w → X.K = K → Inv X pins σ H s₀ → (∀ b ∈ fp, FpOk X pins H b) → stop i H →
    ∃ U : Heap → Prop, U s₀.heap ∧ (∀ h h', U h → (∀ b o, b ∉ fp → h.get? b = some o → h'.get? b = some o) → U h') ∧
      ∀ (A : Around) (s : Shared) (Q : Value → Shared → Prop) (E : Value → Shared → Prop), A.handled = none → U s.heap → tn i s.heap → (∀ h' e, Heap.ExtBut it s.heap h' → (∃ o, h'.get? e = some o ∧ o.cls = .type "StopIteration") → E (.ref e) { s with heap := h' }) →
        wpAny (model P w) A (Builtin.SmallTypes.nextOf (.ref it)) Q E s
theorem base_notin {X : Cx} {pins : List (Addr × Obj)} {σ : St} {H : Hp} {s : Shared} {fp : List Addr} (I : Inv X pins σ H s) (hf : ∀ b ∈ fp, FpOk X pins H b) {a : Addr} {o : Obj} (e : X.base.get? a = some o) : a ∉ fp := fun hb => by
  rcases (hf a hb).2.2.2.1 with z | z
  · exact I.ok.noex a o e z
  · exact absurd (Nat.lt_of_lt_of_le (Heap.lt_size (I.ok.bs a o e).1) z) (Nat.lt_irrefl _)
theorem sqT_notin {X : Cx} {pins : List (Addr × Obj)} {σ : St} {H : Hp} {s : Shared} {fp : List Addr} {a : Addr} {xs : List V} (I : Inv X pins σ H s) (hf : ∀ b ∈ fp, FpOk X pins H b) (h : SqT X.K H a xs) : a ∉ fp := by
  rcases h with (h | ⟨o, h⟩) | ⟨o, its, n, hk, _⟩
  · exact fun hb => by rw [(hf a hb).1] at h; cases h
  · exact fun hb => by rw [(hf a hb).1] at h; cases h
  · exact base_notin I hf (I.ok.mod.kin a o hk)
theorem sqL_notin {X : Cx} {pins : List (Addr × Obj)} {σ : St} {H : Hp} {s : Shared} {fp : List Addr} {a : Addr} {xs : List V} (I : Inv X pins σ H s) (hf : ∀ b ∈ fp, FpOk X pins H b) (h : SqL X.K H a xs) : a ∉ fp := by
  rcases h with (h | ⟨o, h⟩) | ⟨o, its, n, hk, _⟩
  · exact fun hb => by rw [(hf a hb).1] at h; cases h
  · exact fun hb => by rw [(hf a hb).1] at h; cases h
  · exact base_notin I hf (I.ok.mod.kin a o hk)
theorem sub_tup {P : Program} {w : World} {K : PySem.W.Frag} (a it : Addr) : SubIt P w K it (fun i H => ∃ xs x, SqT K H a xs ∧ xs[i]? = some x) (fun i H => ∃ xs, SqT K H a xs ∧ xs.length ≤ i) (fun i H x => ∀ xs, SqT K H a xs → xs[i]? = some x) (fun i h => h.IsTupleIter it a i) where
  obj := fun i h ⟨o, e, c, d⟩ => ⟨o, e, fun v z => by rw [d] at z; cases z⟩
  keep := fun i h h' ⟨o, e, r⟩ k => ⟨o, k o e, r⟩
  item := fun X pins σ H s₀ i fp hP hw hK I hf ⟨xs, x, hq, hx⟩ => by
    subst hP hw hK
    obtain ⟨its, rv, p, _⟩ := I.tuple hq
    have na := sqT_notin I hf hq
    obtain ⟨u, hu, ru⟩ := rv.get hx
    refine ⟨fun h => h.IsTuple a its.toArray, p, fun h h' ⟨o, e, r⟩ k => ⟨o, k a o na e, r⟩, x, fun ys hy => by rw [I.tuple_inj hy hq]; exact hx, fun A s Q E hU st hQ => ?_⟩
    exact nx_tup st hU (x := u) (by simpa using hu) fun h' st' sb => hQ u h' s.toks ru st' sb
  done := fun X pins σ H s₀ i fp hP hw hK I hf ⟨xs, hq, hx⟩ => by
    subst hP hw hK
    obtain ⟨its, rv, p, _⟩ := I.tuple hq
    have na := sqT_notin I hf hq
    have hl := rv.length
    exact ⟨fun h => h.IsTuple a its.toArray, p, fun h h' ⟨o, e, r⟩ k => ⟨o, k a o na e, r⟩, fun A s Q E hh hU st hE => nx_tup_end hh st hU (by simp; omega) hE⟩
theorem sub_lst {P : Program} {w : World} {K : PySem.W.Frag} (a it : Addr) : SubIt P w K it (fun i H => ∃ xs x, SqL K H a xs ∧ xs[i]? = some x) (fun i H => ∃ xs, SqL K H a xs ∧ xs.length ≤ i) (fun i H x => ∀ xs, SqL K H a xs → xs[i]? = some x) (fun i h => h.IsListIter it a i) where
  obj := fun i h ⟨o, e, c, d⟩ => ⟨o, e, fun v z => by rw [d] at z; cases z⟩
  keep := fun i h h' ⟨o, e, r⟩ k => ⟨o, k o e, r⟩
  item := fun X pins σ H s₀ i fp hP hw hK I hf ⟨xs, x, hq, hx⟩ => by
    subst hP hw hK
    obtain ⟨its, rv, p, _⟩ := I.list hq
    have na := sqL_notin I hf hq
    obtain ⟨u, hu, ru⟩ := rv.get hx
    refine ⟨fun h => h.IsList a its.toArray, p.isList, fun h h' ⟨o, e, r⟩ k => ⟨o, k a o na e, r⟩, x, fun ys hy => by rw [I.list_inj hy hq]; exact hx, fun A s Q E hU st hQ => ?_⟩
    exact wpAny_nextOf_list_item st hU (x := u) (by simpa using hu) fun h' st' sb => hQ u h' s.toks ru st' sb
  done := fun X pins σ H s₀ i fp hP hw hK I hf ⟨xs, hq, hx⟩ => by
    subst hP hw hK
    obtain ⟨its, rv, p, _⟩ := I.list hq
    have na := sqL_notin I hf hq
    have hl := rv.length
    exact ⟨fun h => h.IsList a its.toArray, p.isList, fun h h' ⟨o, e, r⟩ k => ⟨o, k a o na e, r⟩, fun A s Q E hh hU st hE => wpAny_nextOf_list_end hh st hU (by simp; omega) hE⟩


structure ZA (z TI TO i1 i2 : Addr) : Prop where
  p1 : TI ≠ z
  p2 : TO ≠ z
  p3 : i1 ≠ z
  p4 : i2 ≠ z
  p5 : TI ≠ TO
  p6 : TI ≠ i1
  p7 : TI ≠ i2
  p8 : TO ≠ i1
  p9 : TO ≠ i2
  p0 : i1 ≠ i2
section
variable {prog : Program} {w : World} {A : Around} {E : Value → Shared → Prop} {s : Shared}
theorem zip_one {z TI TO i1 i2 : Addr} {x y : V} {a b : Value} {U1 U2 T1 T2 T1' T2' : Heap → Prop} {Q : Value → Shared → Prop} (D : ZA z TI TO i1 i2)
    (hz : IsZip s.heap z TI TO .none) (hTI : IsPair s.heap TI (.ref i1) (.ref i2)) (hTO : IsPair s.heap TO a b) (u1 : U1 s.heap) (u2 : U2 s.heap) (t1 : T1 s.heap) (t2 : T2 s.heap)
    (k1 : ∀ h h', U1 h → (∀ b o, b ∉ [z, TI, TO, i1, i2] → h.get? b = some o → h'.get? b = some o) → U1 h') (k2 : ∀ h h', U2 h → (∀ b o, b ∉ [z, TI, TO, i1, i2] → h.get? b = some o → h'.get? b = some o) → U2 h')
    (q1 : ∀ h h', T1 h → (∀ o, h.get? i1 = some o → h'.get? i1 = some o) → T1 h') (q2 : ∀ h h', T2 h → (∀ o, h.get? i2 = some o → h'.get? i2 = some o) → T2 h')
    (q1' : ∀ h h', T1' h → (∀ o, h.get? i1 = some o → h'.get? i1 = some o) → T1' h') (q2' : ∀ h h', T2' h → (∀ o, h.get? i2 = some o → h'.get? i2 = some o) → T2' h')
    (d1 : ∀ (A : Around) (s : Shared) (Q : Value → Shared → Prop) (E : Value → Shared → Prop), U1 s.heap → T1 s.heap → (∀ u h' tk, RelV x u → T1' h' → Heap.SameBut i1 s.heap h' → Q u { s with heap := h', toks := tk }) → wpAny (model prog w) A (Builtin.SmallTypes.nextOf (.ref i1)) Q E s)
    (d2 : ∀ (A : Around) (s : Shared) (Q : Value → Shared → Prop) (E : Value → Shared → Prop), U2 s.heap → T2 s.heap → (∀ u h' tk, RelV y u → T2' h' → Heap.SameBut i2 s.heap h' → Q u { s with heap := h', toks := tk }) → wpAny (model prog w) A (Builtin.SmallTypes.nextOf (.ref i2)) Q E s)
    (hQ : ∀ u v h' tk, RelV x u → RelV y v → IsZip h' z TI TO (rawInt s.heap.objs.size) → IsPair h' TI (.ref i1) (.ref i2) → IsPair h' TO u v → T1' h' → T2' h' → IsPair h' s.heap.objs.size u v →
      (∀ c o, c ≠ z → c ≠ TO → c ≠ i1 → c ≠ i2 → s.heap.get? c = some o → h'.get? c = some o) → Q (.ref s.heap.objs.size) { s with heap := h', toks := tk }) :
    wpAny (model prog w) A (Builtin.«zip.__next__» ⟨[.ref z], []⟩) (fun fin s' => ∃ v, fin = .done (.ret v) ∧ Q v s') E s := by
  have mz : ∀ {c : Addr}, c ∉ [z, TI, TO, i1, i2] → c ≠ z ∧ c ≠ TO ∧ c ≠ i1 ∧ c ≠ i2 := fun {c} h => by simp at h; exact ⟨h.1, h.2.2.1, h.2.2.2.1, h.2.2.2.2⟩
  show wpAny _ _ (field (.ref z) 2 >>= _) _ _ _; refine wpAny_bind (wpAny_field hz rfl (x := .bool false) rfl ?_)
  show wpAny _ _ (field (.ref z) 3 >>= _) _ _ _; refine wpAny_bind (wpAny_field hz rfl (x := .ref TI) rfl (wpAny_bind (wpAny_seqItems hTI rfl ?_)))
  show wpAny _ _ (Builtin.SmallTypes.ownedTupleIsFree (.ref z) >>= _) _ _ _; refine wpAny_bind ?_; unfold Builtin.SmallTypes.ownedTupleIsFree
  refine wpAny_bind (wpAny_field hz rfl (x := .none) rfl (wpAny_pure ?_)); simp only [if_true]
  refine wpAny_bind (wpAny_rule (wpAny_bind (wpAny_field hz rfl (x := .ref TO) rfl (wpAny_bind (wpAny_setField_rec hz (by simp) fun g1 hz1 hs1 => ?_)))))
  replace hz1 : IsZip g1 z TI TO .ellipsis := hz1
  refine wpAny_bind ?_; simp only [List.zipIdx_cons, List.zipIdx_nil, List.forIn_cons, List.forIn_nil]
  refine wpAny_bind (wpAny_bind (wpAny_onRaise ?_)); show wpAny _ _ (Builtin.SmallTypes.nextOf (.ref i1) >>= _) _ _ _
  refine wpAny_bind (d1 _ _ _ _ (k1 _ _ u1 fun c o hc e => hs1.extBut _ _ (mz hc).1 e) (q1 _ _ t1 fun o e => hs1.extBut _ _ D.p3 e) fun u g2 tk2 ru t1b hs2 => wpAny_pure ?_)
  have hTO2 : IsPair g2 TO a b := hs2.extBut _ _ D.p8 (hs1.extBut _ _ D.p2 hTO)
  refine wpAny_bind (wpAny_seqItems hTO2 rfl (wpAny_bind (wpAny_updateSeq_pair hTO2 fun g3 hTO3 hs3 => ?_)))
  replace hTO3 : IsPair g3 TO u b := hTO3
  refine wpAny_bind (wpAny_letGo (wpAny_pure (wpAny_bind (wpAny_bind (wpAny_onRaise ?_))))); show wpAny _ _ (Builtin.SmallTypes.nextOf (.ref i2) >>= _) _ _ _
  refine wpAny_bind (d2 _ _ _ _ (k2 _ _ u2 fun c o hc e => hs3.extBut _ _ (mz hc).2.1 (hs2.extBut _ _ (mz hc).2.2.1 (hs1.extBut _ _ (mz hc).1 e))) (q2 _ _ t2 fun o e => hs3.extBut _ _ D.p9.symm (hs2.extBut _ _ D.p0.symm (hs1.extBut _ _ D.p4 e))) fun v g4 tk4 rv t2b hs4 => wpAny_pure ?_)
  have hTO4 : IsPair g4 TO u b := hs4.extBut _ _ D.p9 hTO3
  refine wpAny_bind (wpAny_seqItems hTO4 rfl (wpAny_bind (wpAny_updateSeq_pair hTO4 fun g5 hTO5 hs5 => ?_)))
  replace hTO5 : IsPair g5 TO u v := hTO5
  refine wpAny_bind (wpAny_letGo (wpAny_pure (wpAny_pure (wpAny_bind (wpAny_seqItems hTO5 rfl (wpAny_bind (wpAny_newTuple ?_)))))))
  have sz : g5.objs.size = s.heap.objs.size := by rw [hs5.1, hs4.1, hs3.1, hs2.1, hs1.1]
  have all5 : ∀ c o, c ≠ z → c ≠ TO → c ≠ i1 → c ≠ i2 → s.heap.get? c = some o → g5.get? c = some o := fun c o c1 c2 c3 c4 e => hs5.extBut _ _ c2 (hs4.extBut _ _ c4 (hs3.extBut _ _ c2 (hs2.extBut _ _ c3 (hs1.extBut _ _ c1 e))))
  have hz5 : IsZip g5 z TI TO .ellipsis := hs5.extBut _ _ D.p2.symm (hs4.extBut _ _ D.p4.symm (hs3.extBut _ _ D.p2.symm (hs2.extBut _ _ D.p3.symm hz1)))
  have t15 : T1' g5 := q1' _ _ t1b fun o e => hs5.extBut _ _ D.p8.symm (hs4.extBut _ _ D.p0 (hs3.extBut _ _ D.p8.symm e))
  have t25 : T2' g5 := q2' _ _ t2b fun o e => hs5.extBut _ _ D.p9.symm e
  have zlt : z < g5.objs.size := Heap.lt_size hz5
  show wpAny _ _ (Builtin.SmallTypes.ownedTupleHandOut (.ref z) (.ref g5.objs.size) >>= _) _ _ _; refine wpAny_bind ?_; unfold Builtin.SmallTypes.ownedTupleHandOut
  have hz6 : IsZip (g5.push { cls := .type "tuple", data := .seq #[u, v] }) z TI TO .ellipsis := Heap.get?_push_of_some _ hz5
  refine wpAny_bind (wpAny_setField_rec hz6 (by simp) fun g7 hz7 hs7 => ?_)
  replace hz7 : IsZip g7 z TI TO (rawInt g5.objs.size) := hz7
  refine wpAny_setField_rec hz7 (by simp) fun g8 hz8 hs8 => ?_
  replace hz8 : IsZip g8 z TI TO (rawInt g5.objs.size) := hz8
  have up8 : ∀ c o, c ≠ z → g5.get? c = some o → g8.get? c = some o := fun c o c1 e => hs8.extBut _ _ c1 (hs7.extBut _ _ c1 (Heap.get?_push_of_some _ e))
  have hT8 : IsPair g8 g5.objs.size u v := hs8.extBut _ _ (Nat.ne_of_gt zlt) (hs7.extBut _ _ (Nat.ne_of_gt zlt) (Heap.get?_push_size _ rfl))
  rw [sz] at hz8 hT8
  refine wpAny_pure ⟨_, rfl, ?_⟩
  show Q (.ref g5.objs.size) _; rw [sz]
  exact hQ u v g8 _ ru rv hz8 (up8 _ _ D.p1 (all5 _ _ D.p1 D.p5 D.p6 D.p7 hTI)) (up8 _ _ D.p2 hTO5) (q1' _ _ t15 fun o e => up8 _ o D.p3 e) (q2' _ _ t25 fun o e => up8 _ o D.p4 e) hT8 fun c o c1 c2 c3 c4 e => up8 c o c1 (all5 c o c1 c2 c3 c4 e)
theorem zip_stop {z TI TO i1 i2 : Addr} {x : V} {a b : Value} {U1 U2 T1 T2 T1' : Heap → Prop} {Q : Fin → Shared → Prop} (hh : A.handled = none) (D : ZA z TI TO i1 i2)
    (hz : IsZip s.heap z TI TO .none) (hTI : IsPair s.heap TI (.ref i1) (.ref i2)) (hTO : IsPair s.heap TO a b) (u1 : U1 s.heap) (t1 : T1 s.heap)
    (k1 : ∀ h h', U1 h → (∀ b o, b ∉ [z, TI, TO, i1, i2] → h.get? b = some o → h'.get? b = some o) → U1 h')
    (q1 : ∀ h h', T1 h → (∀ o, h.get? i1 = some o → h'.get? i1 = some o) → T1 h')
    (hd : (∀ (A : Around) (s : Shared) (Q : Value → Shared → Prop) (E : Value → Shared → Prop), A.handled = none → U1 s.heap → T1 s.heap → (∀ h' e, Heap.ExtBut i1 s.heap h' → (∃ o, h'.get? e = some o ∧ o.cls = .type "StopIteration") → E (.ref e) { s with heap := h' }) → wpAny (model prog w) A (Builtin.SmallTypes.nextOf (.ref i1)) Q E s) ∨
      ((∀ (A : Around) (s : Shared) (Q : Value → Shared → Prop) (E : Value → Shared → Prop), U1 s.heap → T1 s.heap → (∀ u h' tk, RelV x u → T1' h' → Heap.SameBut i1 s.heap h' → Q u { s with heap := h', toks := tk }) → wpAny (model prog w) A (Builtin.SmallTypes.nextOf (.ref i1)) Q E s) ∧
        U2 s.heap ∧ T2 s.heap ∧ (∀ h h', U2 h → (∀ b o, b ∉ [z, TI, TO, i1, i2] → h.get? b = some o → h'.get? b = some o) → U2 h') ∧ (∀ h h', T2 h → (∀ o, h.get? i2 = some o → h'.get? i2 = some o) → T2 h') ∧
        ∀ (A : Around) (s : Shared) (Q : Value → Shared → Prop) (E : Value → Shared → Prop), A.handled = none → U2 s.heap → T2 s.heap → (∀ h' e, Heap.ExtBut i2 s.heap h' → (∃ o, h'.get? e = some o ∧ o.cls = .type "StopIteration") → E (.ref e) { s with heap := h' }) → wpAny (model prog w) A (Builtin.SmallTypes.nextOf (.ref i2)) Q E s))
    (hE : ∀ h' tk e, (∀ c o, c ≠ z → c ≠ TO → c ≠ i1 → c ≠ i2 → s.heap.get? c = some o → h'.get? c = some o) → (∃ o, h'.get? e = some o ∧ o.cls = .type "StopIteration") → E (.ref e) { s with heap := h', toks := tk }) :
    wpAny (model prog w) A (Builtin.«zip.__next__» ⟨[.ref z], []⟩) Q E s := by
  have mz : ∀ {c : Addr}, c ∉ [z, TI, TO, i1, i2] → c ≠ z ∧ c ≠ TO ∧ c ≠ i1 ∧ c ≠ i2 := fun {c} h => by simp at h; exact ⟨h.1, h.2.2.1, h.2.2.2.1, h.2.2.2.2⟩
  show wpAny _ _ (field (.ref z) 2 >>= _) _ _ _; refine wpAny_bind (wpAny_field hz rfl (x := .bool false) rfl ?_)
  show wpAny _ _ (field (.ref z) 3 >>= _) _ _ _; refine wpAny_bind (wpAny_field hz rfl (x := .ref TI) rfl (wpAny_bind (wpAny_seqItems hTI rfl ?_)))
  show wpAny _ _ (Builtin.SmallTypes.ownedTupleIsFree (.ref z) >>= _) _ _ _; refine wpAny_bind ?_; unfold Builtin.SmallTypes.ownedTupleIsFree
  refine wpAny_bind (wpAny_field hz rfl (x := .none) rfl (wpAny_pure ?_)); simp only [if_true]
  refine wpAny_bind (wpAny_rule (wpAny_bind (wpAny_field hz rfl (x := .ref TO) rfl (wpAny_bind (wpAny_setField_rec hz (by simp) fun g1 hz1 hs1 => ?_)))))
  replace hz1 : IsZip g1 z TI TO .ellipsis := hz1
  refine wpAny_bind ?_; simp only [List.zipIdx_cons, List.zipIdx_nil, List.forIn_cons, List.forIn_nil]
  refine wpAny_bind (wpAny_bind (wpAny_onRaise ?_)); show wpAny _ _ (Builtin.SmallTypes.nextOf (.ref i1) >>= _) _ _ _
  rcases hd with e1 | ⟨d1, u2, t2, k2, q2, e2⟩
  · refine wpAny_bind (e1 _ _ _ _ hh (k1 _ _ u1 fun c o hc e => hs1.extBut _ _ (mz hc).1 e) (q1 _ _ t1 fun o e => hs1.extBut _ _ D.p3 e) fun g2 e hs2 he => ?_)
    obtain ⟨oe, hoe, hce⟩ := he
    have hz2 : IsZip g2 z TI TO .ellipsis := hs2 _ _ D.p3.symm hz1
    have nez : e ≠ z := fun q => by subst q; rw [hz2] at hoe; cases hoe; simp at hce
    exact wpAny_setField_rec hz2 (by simp) fun g3 _ hs3 => hE g3 _ e (fun c o c1 _ c3 _ q => hs3.extBut _ _ c1 (hs2 _ _ c3 (hs1.extBut _ _ c1 q))) ⟨oe, hs3.extBut _ _ nez hoe, hce⟩
  · refine wpAny_bind (d1 _ _ _ _ (k1 _ _ u1 fun c o hc e => hs1.extBut _ _ (mz hc).1 e) (q1 _ _ t1 fun o e => hs1.extBut _ _ D.p3 e) fun u g2 tk2 ru t1b hs2 => wpAny_pure ?_)
    have hTO2 : IsPair g2 TO a b := hs2.extBut _ _ D.p8 (hs1.extBut _ _ D.p2 hTO)
    refine wpAny_bind (wpAny_seqItems hTO2 rfl (wpAny_bind (wpAny_updateSeq_pair hTO2 fun g3 hTO3 hs3 => ?_)))
    refine wpAny_bind (wpAny_letGo (wpAny_pure (wpAny_bind (wpAny_bind (wpAny_onRaise ?_))))); show wpAny _ _ (Builtin.SmallTypes.nextOf (.ref i2) >>= _) _ _ _
    refine wpAny_bind (e2 _ _ _ _ hh (k2 _ _ u2 fun c o hc e => hs3.extBut _ _ (mz hc).2.1 (hs2.extBut _ _ (mz hc).2.2.1 (hs1.extBut _ _ (mz hc).1 e))) (q2 _ _ t2 fun o e => hs3.extBut _ _ D.p9.symm (hs2.extBut _ _ D.p0.symm (hs1.extBut _ _ D.p4 e))) fun g4 e hs4 he => ?_)
    obtain ⟨oe, hoe, hce⟩ := he
    have hz4 : IsZip g4 z TI TO .ellipsis := hs4 _ _ D.p4.symm (hs3.extBut _ _ D.p2.symm (hs2.extBut _ _ D.p3.symm hz1))
    have nez : e ≠ z := fun q => by subst q; rw [hz4] at hoe; cases hoe; simp at hce
    exact wpAny_setField_rec hz4 (by simp) fun g5 _ hs5 => hE g5 _ e (fun c o c1 c2 c3 c4 q => hs5.extBut _ _ c1 (hs4 _ _ c4 (hs3.extBut _ _ c2 (hs2.extBut _ _ c3 (hs1.extBut _ _ c1 q))))) ⟨oe, hs5.extBut _ _ nez hoe, hce⟩
end
section
variable {X : Cx} {pins : List (Addr × Obj)} {σ : St} {H : Hp} {s : Shared} {h' : Heap} {fp : List Addr}
theorem Inv.nfp (I : Inv X pins σ H s) (hf : ∀ b ∈ fp, FpOk X pins H b) {b : Addr} {u : HO} (e : H b = some u) : b ∉ fp := fun hb => by rw [(hf b hb).1] at e; cases e

theorem Inv.turnedL {t' : Nat} (I : Inv X pins σ H s) (hf : ∀ b ∈ fp, FpOk X pins H b) (k : ∀ b o, b ∉ fp → s.heap.get? b = some o → h'.get? b = some o) : Inv X pins σ H { s with heap := h', toks := t' } := by
  refine I.step (g' := s.gens) (d' := s.drawn) (ch := fp) (fun b hb => ⟨(hf b hb).2.2.2.1, (hf b hb).2.1, (hf b hb).2.2.2.2.1, (hf b hb).2.2.2.2.2⟩) (fun b o _ _ hc e _ => k b o hc e) (fun b o _ _ hc e _ => ⟨o.slots, k b o hc e⟩) (fun _ _ _ _ n => n)
    (fun b o hc e => ⟨o, k b o hc e⟩) (fun _ _ e => e) (fun _ _ _ e => e) (fun b ps e => ⟨#[], by rw [e]; simp⟩) (fun m hm => ?_) (fun b u e => ?_) I.bare
  · obtain ⟨o, es, ep, ho, r⟩ := hm
    exact ⟨o, es, ep, k _ o (fun z => (hf _ z).2.1 rfl) ho, r⟩
  · refine (I.hok b u e).stay (fun c v hc q => k c v ?_ q) (fun _ q => q) fun _ _ q => q
    rcases hc with z | z
    · rw [z]; exact I.nfp hf e
    · exact I.nfp hf z

theorem Inv.turnLay {t' : Nat} {p : Addr} {o : HO} (I : Inv X pins σ H s) (hf : ∀ b ∈ fp, FpOk X pins H b) (k : ∀ b o, b ∉ fp → s.heap.get? b = some o → h'.get? b = some o) (hp : s.heap.objs.size ≤ p) (new : ObjOk X.prog X.w (upd H p o) h' p o) :
    Inv X pins σ (upd H p o) { s with heap := h', toks := t' } := by
  have hn : H p = none := I.hok.fresh hp
  refine I.step (g' := s.gens) (d' := s.drawn) (ch := fp) (fun b hb => ⟨(hf b hb).2.2.2.1, (hf b hb).2.1, (hf b hb).2.2.2.2.1, (hf b hb).2.2.2.2.2⟩) (fun b o _ _ hc e _ => k b o hc e) (fun b o _ _ hc e _ => ⟨o.slots, k b o hc e⟩)
    (fun b o _ e n => by rw [upd_ne (Nat.ne_of_lt (Nat.lt_of_lt_of_le (Heap.lt_size e) hp))]; exact n)
    (fun b o hc e => ⟨o, k b o hc e⟩) (fun b xs e => by rw [upd_ne (ne_of_none e hn)]; exact e) (fun b u xs e => by rw [upd_ne (ne_of_none e hn)]; exact e) (fun b ps e => ⟨#[], by rw [upd_ne (ne_of_none e hn), e]; simp⟩) (fun m hm => ?_) (fun b u e => ?_) I.bare
  · obtain ⟨o, es, ep, ho, r⟩ := hm
    exact ⟨o, es, ep, k _ o (fun z => (hf _ z).2.1 rfl) ho, r⟩
  · by_cases hb : b = p
    · subst hb
      rw [upd_same] at e
      cases e
      exact new
    · rw [upd_ne hb] at e
      refine (I.hok b u e).stay (fun c v hc q => k c v ?_ q) (fun c q => ?_) fun c xs q => ?_
      · rcases hc with z | z
        · rw [z]; exact I.nfp hf e
        · exact I.nfp hf z
      · first
          | (rw [upd_ne (ne_of_none q hn)]; exact q)
          | exact q
      · first
          | (rw [upd_ne (ne_of_none q hn)]; exact q)
          | exact q
end

def Itz (g1 g2 s1 s2 : Nat → Hp → Prop) (y1 y2 : Nat → Hp → V → Prop) : It :=
  ⟨fun i H => g1 i H ∧ g2 i H, fun i H v H' => ∃ p x y, v = .ref p ∧ H p = none ∧ H' = upd H p (.tup [x, y]) ∧ y1 i H x ∧ y2 i H y, fun i H => s1 i H ∨ (g1 i H ∧ s2 i H)⟩
theorem turn_zip {P : Program} {w : World} {K : PySem.W.Frag} {elts : List Expr} {x1 : Nat} {tp : Pos} {z TI TO i1 i2 : Addr} {g1 g2 s1 s2 : Nat → Hp → Prop} {y1 y2 : Nat → Hp → V → Prop} {t1 t2 : Nat → Heap → Prop} (D : ZA z TI TO i1 i2)
    (S1 : SubIt P w K i1 g1 s1 y1 t1) (S2 : SubIt P w K i2 g2 s2 y2 t2) :
    Turn P w K (.Tuple elts x1 tp) (Itz g1 g2 s1 s2 y1 y2) [z, TI, TO, i1, i2] z (fun i h => IsZip h z TI TO .none ∧ IsPair h TI (.ref i1) (.ref i2) ∧ (∃ a b, IsPair h TO a b) ∧ t1 i h ∧ t2 i h) where
  mem := by simp
  obj := fun i h ⟨hz, hTI, ⟨a, b, hTO⟩, st1, st2⟩ c hc => by
    simp only [List.mem_cons, List.not_mem_nil, or_false] at hc
    rcases hc with rfl | rfl | rfl | rfl | rfl
    · exact ⟨_, hz, fun v e => by cases e⟩
    · exact ⟨_, hTI, fun v e => by cases e⟩
    · exact ⟨_, hTO, fun v e => by cases e⟩
    · exact S1.obj i h st1
    · exact S2.obj i h st2
  keep := fun i h h' ⟨hz, hTI, ⟨a, b, hTO⟩, st1, st2⟩ k => ⟨k z (by simp) _ hz, k TI (by simp) _ hTI, ⟨a, b, k TO (by simp) _ hTO⟩, S1.keep _ _ _ st1 fun o e => k i1 (by simp) o e, S2.keep _ _ _ st2 fun o e => k i2 (by simp) o e⟩
  item := by
    intro X hP hw hK hc i pins s σ H E I hf ⟨hz, hTI, ⟨a, b, hTO⟩, st1, st2⟩ ⟨hg1, hg2⟩
    obtain ⟨U1, u1, k1, x, hx, d1⟩ := S1.item X pins σ H s i [z, TI, TO, i1, i2] hP hw hK I hf hg1
    obtain ⟨U2, u2, k2, y, hy, d2⟩ := S2.item X pins σ H s i [z, TI, TO, i1, i2] hP hw hK I hf hg2
    subst hP hw hK
    have hT : s.TypeIs (.ref z) "zip" := ⟨_, hz, rfl⟩
    unfold pyNext
    refine wpAny_bind (wpAny_attempt (wpAny_callSpecial?_slot (name := Str.ofString "__next__") hT F.slot_zip_next (wpAny_call_entry F.slot_zip_next hT F.entry_zip_next
      (zip_one (x := x) (y := y) D hz hTI hTO u1 u2 st1 st2 k1 k2 (S1.keep i) (S2.keep i) (S1.keep (i + 1)) (S2.keep (i + 1)) d1 d2 fun u v h' tk ru rv hz' hTI' hTO' st1' st2' hp kk => wpAny_pure ⟨_, rfl, ?_⟩) (F.args_zip_next_1 _))))
    refine wpAny_letOwnedTupleGo_zip hz' fun h2 hz2 sb => ?_
    have lt : ∀ {c o}, s.heap.get? c = some o → c ≠ s.heap.objs.size := fun e => Nat.ne_of_lt (Heap.lt_size e)
    have nz : z ≠ s.heap.objs.size := lt hz
    have kk2 : ∀ c o, c ∉ [z, TI, TO, i1, i2] → s.heap.get? c = some o → h2.get? c = some o := fun c o hc e => by
      simp only [List.mem_cons, List.not_mem_nil, or_false, not_or] at hc
      exact sb.extBut _ _ hc.1 (kk c o hc.1 hc.2.2.1 hc.2.2.2.1 hc.2.2.2.2 e)
    have hp2 : IsPair h2 s.heap.objs.size u v := sb.extBut _ _ nz.symm hp
    refine ⟨.ref s.heap.objs.size, _, I.turnLay (o := .tup [x, y]) hf kk2 (Nat.le_refl _) ⟨small1000 (by simp) |> Nat.le_of_lt, [u, v], .cons ru (.cons rv .nil), ⟨_, hp2, rfl, _, rfl⟩⟩, rfl, ⟨_, x, y, rfl, I.fresh, rfl, hx, hy⟩, ⟨hz2, sb.extBut _ _ D.p1 hTI', ⟨_, _, sb.extBut _ _ D.p2 hTO'⟩, S1.keep _ _ _ st1' fun o e => sb.extBut _ _ D.p3 e, S2.keep _ _ _ st2' fun o e => sb.extBut _ _ D.p4 e⟩, fun c hc => ?_⟩
    have : ∃ o, s.heap.get? c = some o := by
      simp only [List.mem_cons, List.not_mem_nil, or_false] at hc
      rcases hc with rfl | rfl | rfl | rfl | rfl
      · exact ⟨_, hz⟩
      · exact ⟨_, hTI⟩
      · exact ⟨_, hTO⟩
      · obtain ⟨o, e, _⟩ := S1.obj _ _ st1; exact ⟨o, e⟩
      · obtain ⟨o, e, _⟩ := S2.obj _ _ st2; exact ⟨o, e⟩
    obtain ⟨o, e⟩ := this
    rw [upd_ne (lt e)]
    exact (hf c hc).1
  done := by
    intro X hP hw hK hc i pins s σ H E I hf ⟨hz, hTI, ⟨a, b, hTO⟩, st1, st2⟩ hs
    have hT : s.TypeIs (.ref z) "zip" := ⟨_, hz, rfl⟩
    have fin : ∀ (h' : Heap) (tk : Nat), (∀ c o, c ≠ z → c ≠ TO → c ≠ i1 → c ≠ i2 → s.heap.get? c = some o → h'.get? c = some o) → Inv X pins σ H { s with heap := h', toks := tk } := fun h' tk kk => I.turnedL hf fun c o hc e => by
      simp only [List.mem_cons, List.not_mem_nil, or_false, not_or] at hc
      exact kk c o hc.1 hc.2.2.1 hc.2.2.2.1 hc.2.2.2.2 e
    have hh := I.ok.hd hc
    rcases hs with hs1 | ⟨hg1, hs2⟩
    · obtain ⟨U1, u1, k1, d1⟩ := S1.done X pins σ H s i [z, TI, TO, i1, i2] hP hw hK I hf hs1
      subst hP hw hK
      unfold pyNext
      refine wpAny_bind (wpAny_attempt (wpAny_callSpecial?_slot (name := Str.ofString "__next__") hT F.slot_zip_next (wpAny_call_entry F.slot_zip_next hT F.entry_zip_next
        (zip_stop (x := .non) (U2 := fun _ => True) (T2 := fun _ => True) (T1' := fun _ => True) hh D hz hTI hTO u1 st1 k1 (S1.keep i) (.inl d1) fun h' tk e kk he => ?_) (F.args_zip_next_1 _))))
      obtain ⟨o, ho, hc'⟩ := he
      exact wpAny_bind (wpAny_isInstance (T := "StopIteration") (b := true) ⟨o, ho, hc'⟩ isSubtype_stop (wpAny_pure ⟨rfl, fin _ _ kk⟩))
    · obtain ⟨U1, u1, k1, x, hx, d1⟩ := S1.item X pins σ H s i [z, TI, TO, i1, i2] hP hw hK I hf hg1
      obtain ⟨U2, u2, k2, d2⟩ := S2.done X pins σ H s i [z, TI, TO, i1, i2] hP hw hK I hf hs2
      subst hP hw hK
      unfold pyNext
      refine wpAny_bind (wpAny_attempt (wpAny_callSpecial?_slot (name := Str.ofString "__next__") hT F.slot_zip_next (wpAny_call_entry F.slot_zip_next hT F.entry_zip_next
        (zip_stop (x := x) (T1' := t1 (i + 1)) hh D hz hTI hTO u1 st1 k1 (S1.keep i) (.inr ⟨d1, u2, st2, k2, S2.keep i, d2⟩) fun h' tk e kk he => ?_) (F.args_zip_next_1 _))))
      obtain ⟨o, ho, hc'⟩ := he
      exact wpAny_bind (wpAny_isInstance (T := "StopIteration") (b := true) ⟨o, ho, hc'⟩ isSubtype_stop (wpAny_pure ⟨rfl, fin _ _ kk⟩))
  self := fun _ _ _ _ _ st h => wpAny_pyIter_zip st.1 h


theorem zip_meets (v1 v2 : Value) (o1 o2 : Obj) (U : Heap → Prop) (hU : ∀ h o, U h → U (h.push o))
    (h1 : ∀ (prog : Program) (w : World) (A : Around) (Q : Value → Shared → Prop) (E : Value → Shared → Prop) (s : Shared), U s.heap → Q (.ref s.heap.objs.size) { s with heap := s.heap.push o1 } → wpAny (model prog w) A (pyIter v1) Q E s)
    (h2 : ∀ (prog : Program) (w : World) (A : Around) (Q : Value → Shared → Prop) (E : Value → Shared → Prop) (s : Shared), U s.heap → Q (.ref s.heap.objs.size) { s with heap := s.heap.push o2 } → wpAny (model prog w) A (pyIter v2) Q E s) :
    Meets (Builtin.«zip.__new__» ⟨[.type "zip", v1, v2], []⟩) (fun _ R s => U s.heap ∧
      R (.ok (.ret (.ref ((((s.heap.push o1).push o2).push { cls := .type "tuple", data := .seq #[.ref s.heap.objs.size, .ref (s.heap.push o1).objs.size] }).push { cls := .type "tuple", data := .seq #[.none, .none] }).objs.size)))
        { s with heap := ((((s.heap.push o1).push o2).push { cls := .type "tuple", data := .seq #[.ref s.heap.objs.size, .ref (s.heap.push o1).objs.size] }).push { cls := .type "tuple", data := .seq #[.none, .none] }).push { cls := .type "zip", data := .fields #[.none, .bool false, .bool false, .ref ((s.heap.push o1).push o2).objs.size, .ref (((s.heap.push o1).push o2).push { cls := .type "tuple", data := .seq #[.ref s.heap.objs.size, .ref (s.heap.push o1).objs.size] }).objs.size] } }) :=
  .of_wp fun prog w A R s h => by
    obtain ⟨hp, g, d, tk, os⟩ := s; obtain ⟨hu, h⟩ := h
    have hsub := sub_zip
    have hu2 : U (hp.push o1) := hU _ _ hu
    wp_walk using h1 prog w _ _ _ ⟨hp, g, d, tk, os⟩ hu, h2 prog w _ _ _ ⟨hp.push o1, g, d, tk, os⟩ hu2
    exact ⟨_, rfl, h⟩
end L2
namespace L2
open PySem PySem.Spec PyProof.Rows
theorem sub_str {P : Program} {w : World} {K : PySem.W.Frag} (x : Str) (t : Tok) (it : Addr) (ty : String)
    (d : ∀ (A : Around), A.handled = none → Draws P w A it [it] x.cps.size (fun i v => ∃ c u, x.cps[i]? = some c ∧ v = .str ⟨#[c]⟩ u) (fun i h => h.IsStrIter it ty x t i))
    (d' : ∀ (A : Around) (i c : Nat) (s : Shared) (Q : Value → Shared → Prop) (E : Value → Shared → Prop), s.heap.IsStrIter it ty x t i → x.cps[i]? = some c → (∀ h', h'.IsStrIter it ty x t (i + 1) → Heap.SameBut it s.heap h' → Q (.str ⟨#[c]⟩ s.toks) { s with heap := h', toks := s.toks + 1 }) → wpAny (model P w) A (Builtin.SmallTypes.nextOf (.ref it)) Q E s)
    (e' : ∀ (A : Around) (i : Nat) (s : Shared) (Q : Value → Shared → Prop) (E : Value → Shared → Prop), A.handled = none → s.heap.IsStrIter it ty x t i → x.cps[i]? = none → (∀ h' e, Heap.ExtBut it s.heap h' → (∃ o, h'.get? e = some o ∧ o.cls = .type "StopIteration") → E (.ref e) { s with heap := h' }) → wpAny (model P w) A (Builtin.SmallTypes.nextOf (.ref it)) Q E s) :
    SubIt P w K it (fun i _ => i < x.cps.toList.length) (fun i _ => x.cps.toList.length ≤ i) (fun i _ v => ∃ c, x.cps.toList[i]? = some c ∧ v = .str (mkS [c])) (fun i h => h.IsStrIter it ty x t i) where
  obj := fun i h ⟨o, e, c, dd⟩ => ⟨o, e, fun v z => by rw [dd] at z; cases z⟩
  keep := fun i h h' ⟨o, e, r⟩ k => ⟨o, k o e, r⟩
  item := fun X pins σ H s₀ i fp hP hw hK I hf hg => by
    have hi : i < x.cps.size := by simpa using hg
    refine ⟨fun _ => True, trivial, fun _ _ _ _ => trivial, .str (mkS [x.cps[i]]), ⟨x.cps[i], by simp [hi], rfl⟩, fun A s Q E _ st hQ => ?_⟩
    exact d' A i x.cps[i] s Q E st (by simp [hi]) fun h' st' sb => hQ _ h' _ ⟨_, rfl⟩ st' sb
  done := fun X pins σ H s₀ i fp hP hw hK I hf hg => by
    have hi : x.cps.size ≤ i := by simpa using hg
    exact ⟨fun _ => True, trivial, fun _ _ _ _ => trivial, fun A s Q E hh _ st hE => e' A i s Q E hh st (by simpa using hi) hE⟩
section
variable {X : Cx} {elts : List Expr} {x1 : Nat} {tp : Pos}

theorem zip_pi {pins : List (Addr × Obj)} {σ : St} {H : Hp} {s : Shared} {R : It → Hp → Prop} {E : Value → Shared → Prop} {v1 v2 : Value} {o1 o2 : Obj} {U : Heap → Prop} {g1 g2 s1 s2 : Nat → Hp → Prop} {y1 y2 : Nat → Hp → V → Prop} {t1 t2 : Nat → Heap → Prop} (I : Inv X pins σ H s)
    (hu : U s.heap) (hU : ∀ h o, U h → U (h.push o))
    (h1 : ∀ (prog : Program) (w : World) (A : Around) (Q : Value → Shared → Prop) (E : Value → Shared → Prop) (s : Shared), U s.heap → Q (.ref s.heap.objs.size) { s with heap := s.heap.push o1 } → wpAny (model prog w) A (pyIter v1) Q E s)
    (h2 : ∀ (prog : Program) (w : World) (A : Around) (Q : Value → Shared → Prop) (E : Value → Shared → Prop) (s : Shared), U s.heap → Q (.ref s.heap.objs.size) { s with heap := s.heap.push o2 } → wpAny (model prog w) A (pyIter v2) Q E s)
    (S1 : SubIt X.prog X.w X.K s.heap.objs.size g1 s1 y1 t1) (S2 : SubIt X.prog X.w X.K (s.heap.objs.size + 1) g2 s2 y2 t2) (b1 : ∀ h : Heap, h.get? s.heap.objs.size = some o1 → t1 0 h) (b2 : ∀ h : Heap, h.get? (s.heap.objs.size + 1) = some o2 → t2 0 h) (f1 : o1.isFreed = false) (f2 : o2.isFreed = false)
    (q : R (Itz g1 g2 s1 s2 y1 y2) H) : wpAny (model X.prog X.w) X.A (call (.type "zip") [v1, v2]) (fun v s1 => wpAny (model X.prog X.w) X.A (pyIter v) (PIE X pins σ (.Tuple elts x1 tp) R) E s1) E s := by
  refine callType_new F.called_zip (by decide) (F.typeCall_zip_2 _ _) (F.newCall_zip_2 _ _) (fun obj => F.args_object_init_3 obj _ _) F.entry_zip_new (zip_meets v1 v2 o1 o2 U hU h1 h2) ⟨hu, ?_⟩
  generalize hG1 : s.heap.push o1 = G1
  have z1 : G1.objs.size = s.heap.objs.size + 1 := by rw [← hG1]; exact Heap.size_push ..
  generalize hG2 : G1.push o2 = G2
  have z2 : G2.objs.size = s.heap.objs.size + 2 := by rw [← hG2, Heap.size_push, z1]
  rw [z1, z2]
  generalize hG3 : G2.push { cls := .type "tuple", data := .seq #[.ref s.heap.objs.size, .ref (s.heap.objs.size + 1)] } = G3
  have z3 : G3.objs.size = s.heap.objs.size + 3 := by rw [← hG3, Heap.size_push, z2]
  rw [z3]
  generalize hG4 : G3.push { cls := .type "tuple", data := .seq #[.none, .none] } = G4
  have z4 : G4.objs.size = s.heap.objs.size + 4 := by rw [← hG4, Heap.size_push, z3]
  rw [z4]
  generalize hG5 : G4.push { cls := .type "zip", data := .fields #[.none, .bool false, .bool false, .ref (s.heap.objs.size + 2), .ref (s.heap.objs.size + 3)] } = G5
  have e5 : IsZip G5 (s.heap.objs.size + 4) (s.heap.objs.size + 2) (s.heap.objs.size + 3) .none := by rw [← z4, ← hG5]; exact Heap.get?_push_size _ rfl
  have e4 : IsPair G5 (s.heap.objs.size + 3) .none .none := by rw [← z3, ← hG5]; exact Heap.get?_push_of_some _ (by rw [← hG4]; exact Heap.get?_push_size _ rfl)
  have e3 : IsPair G5 (s.heap.objs.size + 2) (.ref s.heap.objs.size) (.ref (s.heap.objs.size + 1)) := by rw [← z2, ← hG5]; exact Heap.get?_push_of_some _ (by rw [← hG4]; exact Heap.get?_push_of_some _ (by rw [← hG3]; exact Heap.get?_push_size _ rfl))
  have up2 : ∀ c o, G2.get? c = some o → G5.get? c = some o := fun c o e => by rw [← hG5]; exact Heap.get?_push_of_some _ (by rw [← hG4]; exact Heap.get?_push_of_some _ (by rw [← hG3]; exact Heap.get?_push_of_some _ e))
  have e2 : G5.get? (s.heap.objs.size + 1) = some o2 := up2 _ _ (by rw [← z1, ← hG2]; exact Heap.get?_push_size _ f2)
  have e1 : G5.get? s.heap.objs.size = some o1 := up2 _ _ (by rw [← hG2]; exact Heap.get?_push_of_some _ (by rw [← hG1]; exact Heap.get?_push_size _ f1))
  have all : ∀ c o, s.heap.get? c = some o → G5.get? c = some o := fun c o e => up2 _ _ (by rw [← hG2]; exact Heap.get?_push_of_some _ (by rw [← hG1]; exact Heap.get?_push_of_some _ e))
  refine ⟨⟨_, e5, rfl⟩, wpAny_pyIter_zip e5 ?_⟩
  have ne : ∀ {m n : Nat}, m ≠ n → s.heap.objs.size + m ≠ s.heap.objs.size + n := fun h z => h (Nat.add_left_cancel z)
  refine ⟨_, _, _, _, H, rfl, I.kept (t' := s.toks) all, turn_zip ⟨ne (by decide), ne (by decide), ne (m := 0) (by decide), ne (by decide), ne (by decide), ne (n := 0) (by decide), ne (by decide), ne (n := 0) (by decide), ne (by decide), ne (m := 0) (by decide)⟩ S1 S2, ⟨e5, e3, ⟨_, _, e4⟩, b1 _ e1, b2 _ e2⟩, fun b hb => ?_, q⟩
  have hle : s.heap.objs.size ≤ b := by
    simp only [List.mem_cons, List.not_mem_nil, or_false] at hb
    rcases hb with rfl | rfl | rfl | rfl | rfl <;> omega
  exact I.fpOk hle (I.hok.fresh hle)
abbrev ItzTT (K : PySem.W.Frag) (a b : Addr) : It := Itz (fun i H => ∃ xs x, SqT K H a xs ∧ xs[i]? = some x) (fun i H => ∃ xs x, SqT K H b xs ∧ xs[i]? = some x) (fun i H => ∃ xs, SqT K H a xs ∧ xs.length ≤ i) (fun i H => ∃ xs, SqT K H b xs ∧ xs.length ≤ i)
  (fun i H x => ∀ xs, SqT K H a xs → xs[i]? = some x) (fun i H x => ∀ xs, SqT K H b xs → xs[i]? = some x)
abbrev ItzLL (K : PySem.W.Frag) (a b : Addr) : It := Itz (fun i H => ∃ xs x, SqL K H a xs ∧ xs[i]? = some x) (fun i H => ∃ xs x, SqL K H b xs ∧ xs[i]? = some x) (fun i H => ∃ xs, SqL K H a xs ∧ xs.length ≤ i) (fun i H => ∃ xs, SqL K H b xs ∧ xs.length ≤ i)
  (fun i H x => ∀ xs, SqL K H a xs → xs[i]? = some x) (fun i H x => ∀ xs, SqL K H b xs → xs[i]? = some x)
abbrev ItzTS (K : PySem.W.Frag) (a : Addr) (z : Str) : It := Itz (fun i H => ∃ xs x, SqT K H a xs ∧ xs[i]? = some x) (fun i _ => i < z.cps.toList.length) (fun i H => ∃ xs, SqT K H a xs ∧ xs.length ≤ i) (fun i _ => z.cps.toList.length ≤ i)
  (fun i H x => ∀ xs, SqT K H a xs → xs[i]? = some x) (fun i _ v => ∃ c, z.cps.toList[i]? = some c ∧ v = .str (mkS [c]))
def iZipTT (K : PySem.W.Frag) (ta : TA) : TI := fun σ H R => ta σ H fun vs H1 => ∃ a b, vs = [.ref a, .ref b] ∧ (∃ xs, SqT K H1 a xs) ∧ (∃ xs, SqT K H1 b xs) ∧ R (ItzTT K a b) H1
def iZipLL (K : PySem.W.Frag) (ta : TA) : TI := fun σ H R => ta σ H fun vs H1 => ∃ a b, vs = [.ref a, .ref b] ∧ (∃ xs, SqL K H1 a xs) ∧ (∃ xs, SqL K H1 b xs) ∧ R (ItzLL K a b) H1
def iZipTS (K : PySem.W.Frag) (ta : TA) : TI := fun σ H R => ta σ H fun vs H1 => ∃ a z, vs = [.ref a, .str z] ∧ (∃ xs, SqT K H1 a xs) ∧ R (ItzTS K a z) H1
variable {a b : Expr} {ta : TA} {p pos : Pos}
theorem pi_zipTT (hg : Gl X "zip") (hm : X.mg "zip" = none) (ha : PA X [a, b] ta) (hs : starEach [a, b] X.env = [(false, eval a X.env), (false, eval b X.env)] := by rfl) (hs2 : starEach [b] X.env = [(false, eval b X.env)] := by rfl) :
    PI X (.Tuple elts x1 tp) (.Call (.Name "zip" p) [a, b] [] pos) (iZipTT X.K ta) := by
  intro pins s σ H R I h
  refine Call_ (ld_blt I hg hm bt_zip (PyProof.Rows.callWith_type1 (thn (ha pos pins s σ H _ I h) fun us s1 ⟨vs, H1, I1, r1, q1⟩ => ?_) (by rw [hs, hs2]) (by rw [hs2]; rfl)))
  obtain ⟨c, d, rfl, ⟨xs, hx⟩, ⟨ys, hy⟩, q⟩ := q1
  obtain ⟨u, u', rfl, ru, ru'⟩ := vals2 r1
  cases ru; cases ru'
  obtain ⟨its, rv, p1, _⟩ := I1.tuple hx
  obtain ⟨its2, rv2, p2, _⟩ := I1.tuple hy
  exact zip_pi (U := fun h => h.IsTuple c its.toArray ∧ h.IsTuple d its2.toArray) I1 ⟨p1, p2⟩ (fun h o ⟨⟨oc, e, r⟩, ⟨od, e', r'⟩⟩ => ⟨⟨oc, Heap.get?_push_of_some _ e, r⟩, ⟨od, Heap.get?_push_of_some _ e', r'⟩⟩)
    (fun prog w A Q E s hu hQ => wpAny_pyIter_tuple hu.1 hQ) (fun prog w A Q E s hu hQ => wpAny_pyIter_tuple hu.2 hQ) (sub_tup c _) (sub_tup d _) (fun h e => ⟨_, e, rfl, rfl⟩) (fun h e => ⟨_, e, rfl, rfl⟩) rfl rfl q
theorem pi_zipLL (hg : Gl X "zip") (hm : X.mg "zip" = none) (ha : PA X [a, b] ta) (hs : starEach [a, b] X.env = [(false, eval a X.env), (false, eval b X.env)] := by rfl) (hs2 : starEach [b] X.env = [(false, eval b X.env)] := by rfl) :
    PI X (.Tuple elts x1 tp) (.Call (.Name "zip" p) [a, b] [] pos) (iZipLL X.K ta) := by
  intro pins s σ H R I h
  refine Call_ (ld_blt I hg hm bt_zip (PyProof.Rows.callWith_type1 (thn (ha pos pins s σ H _ I h) fun us s1 ⟨vs, H1, I1, r1, q1⟩ => ?_) (by rw [hs, hs2]) (by rw [hs2]; rfl)))
  obtain ⟨c, d, rfl, ⟨xs, hx⟩, ⟨ys, hy⟩, q⟩ := q1
  obtain ⟨u, u', rfl, ru, ru'⟩ := vals2 r1
  cases ru; cases ru'
  obtain ⟨its, rv, p1, _⟩ := I1.list hx
  obtain ⟨its2, rv2, p2, _⟩ := I1.list hy
  exact zip_pi (U := fun h => h.IsList c its.toArray ∧ h.IsList d its2.toArray) I1 ⟨p1.isList, p2.isList⟩ (fun h o ⟨⟨oc, e, r⟩, ⟨od, e', r'⟩⟩ => ⟨⟨oc, Heap.get?_push_of_some _ e, r⟩, ⟨od, Heap.get?_push_of_some _ e', r'⟩⟩)
    (fun prog w A Q E s hu hQ => wpAny_pyIter_list hu.1 hQ) (fun prog w A Q E s hu hQ => wpAny_pyIter_list hu.2 hQ) (sub_lst c _) (sub_lst d _) (fun h e => ⟨_, e, rfl, rfl⟩) (fun h e => ⟨_, e, rfl, rfl⟩) rfl rfl q
end

theorem comp_zip {J : It} {n : Nat} {fx fy : Nat → V} {D : Addr} {σ : St} {k : Nat} {ix : List Nat} {g : TG} {tt : TT} {te : TE} {Q : VK} {H1 : Hp} (Pv : Nat → List V → Hp → Prop)
    (hJ : ∀ i ys H, Pv i ys H → (i < n → J.go i H ∧ ∀ v H', J.yld i H v H' → ∃ p, v = .ref p ∧ H p = none ∧ H' = upd H p (.tup [fx i, fy i])) ∧ (n ≤ i → J.stop i H)) (h0 : Pv 0 [] (upd H1 D (.lst []))) (hD : ∀ i ys H, Pv i ys H → H D = some (.lst ys))
    (hs : ∀ i ys H p, i < n → Pv i ys H → H p = none → CTurn D σ k ix g tt te (.ref p) ys (upd H p (.tup [fx i, fy i])) (Pv (i + 1))) (hd : ∀ ys H, Pv n ys H → Q (.ref D) H) : CompOk J D σ k ix g tt te Q H1 := by
  refine ⟨fun i m ys H => m = n - i ∧ i ≤ n ∧ Pv i ys H, ⟨n, by simp, Nat.zero_le _, h0⟩, ?_⟩
  rintro i m ys H ⟨rfl, hi, p⟩
  refine ⟨hD i ys H p, ?_⟩
  obtain ⟨h1, h2⟩ := hJ i ys H p
  by_cases hlt : i < n
  · obtain ⟨hg, hy⟩ := h1 hlt
    refine .inr ⟨hg, Pv (i + 1), fun zs H' p' => ⟨n - (i + 1), by omega, rfl, hlt, p'⟩, fun x H' y => ?_⟩
    obtain ⟨q, rfl, hq, rfl⟩ := hy x H' y
    exact hs i ys H q hlt p hq
  · have e : i = n := by omega
    subst e
    exact .inl ⟨h2 (Nat.le_refl _), hd ys H p⟩
theorem zipTT_steps {K : PySem.W.Frag} {a b : Addr} {xs ys : List V} {H : Hp} {i : Nat} (ha : SqT K H a xs) (hb : SqT K H b ys) (hl : xs.length = ys.length) :
    (i < xs.length → (ItzTT K a b).go i H ∧ ∀ v H', (ItzTT K a b).yld i H v H' → ∃ p, v = .ref p ∧ H p = none ∧ H' = upd H p (.tup [xs.getD i .non, ys.getD i .non])) ∧ (xs.length ≤ i → (ItzTT K a b).stop i H) := by
  refine ⟨fun hi => ⟨⟨⟨xs, xs[i], ha, by simp [hi]⟩, ⟨ys, ys[i]'(by omega), hb, by simp [hl ▸ hi]⟩⟩, fun v H' ⟨p, x, y, e1, e2, e3, e4, e5⟩ => ⟨p, e1, e2, ?_⟩⟩, fun hi => .inl ⟨xs, ha, hi⟩⟩
  rw [e3, List.getD_eq_getElem?_getD, List.getD_eq_getElem?_getD, e4 xs ha, e5 ys hb]; rfl
theorem zipLL_steps {K : PySem.W.Frag} {a b : Addr} {xs ys : List V} {H : Hp} {i : Nat} (ha : SqL K H a xs) (hb : SqL K H b ys) (hl : xs.length = ys.length) :
    (i < xs.length → (ItzLL K a b).go i H ∧ ∀ v H', (ItzLL K a b).yld i H v H' → ∃ p, v = .ref p ∧ H p = none ∧ H' = upd H p (.tup [xs.getD i .non, ys.getD i .non])) ∧ (xs.length ≤ i → (ItzLL K a b).stop i H) := by
  refine ⟨fun hi => ⟨⟨⟨xs, xs[i], ha, by simp [hi]⟩, ⟨ys, ys[i]'(by omega), hb, by simp [hl ▸ hi]⟩⟩, fun v H' ⟨p, x, y, e1, e2, e3, e4, e5⟩ => ⟨p, e1, e2, ?_⟩⟩, fun hi => .inl ⟨xs, ha, hi⟩⟩
  rw [e3, List.getD_eq_getElem?_getD, List.getD_eq_getElem?_getD, e4 xs ha, e5 ys hb]; rfl
theorem pg_tupK {X : Cx} {K : PySem.W.Frag} {pos : Pos} {es : List Expr} {k : Nat} {t : TGs} {n : Nat} (hc : X.calm = true) (h : PGs X es t) (hK : X.K = K := by rfl)
    (hn : (assignEach es X.env).length = n := by rfl) (hst : (assignEach es X.env).findIdx? (·.1) = none := by rfl) : PG X (.Tuple es k pos) (gTup K n t) := hK ▸ pg_tup hc h hn hst
end L2

namespace L2
open PySem PySem.Spec PyProof.Rows

section
variable {X : Cx}
theorem call_int_text : CallR X (.type "int") (fun xs H Q => ∃ x n, xs = [.str x] ∧ PySem.intText? x = some n ∧ x.length ≤ 640 ∧ Q (.int n) H) := by
  intro pins s σ H xs us Q I r h
  obtain ⟨x, n, rfl, hn, hl, q⟩ := h
  obtain ⟨u, rfl, t, rfl⟩ := vals1 r
  exact PySem.W.KIN.call_text hn hl ⟨.int n, H, I.tok _, ⟨_, rfl⟩, q⟩
def repS (n : Nat) (l : List Nat) : List Nat := (List.replicate n l).flatten
theorem rep_fold (l : Array Nat) : ∀ (n : Nat) (acc : Array Nat), ((List.replicate n l).foldl (· ++ ·) acc).toList = acc.toList ++ repS n l.toList
  | 0, acc => by simp [repS]
  | n + 1, acc => by
    rw [List.replicate_succ, List.foldl_cons, rep_fold l n]
    simp [repS, List.replicate_succ]
theorem rep_len (n : Nat) (l : List Nat) : (repS n l).length = n * l.length := by
  unfold repS
  induction n with
  | zero => simp
  | succ n ih => rw [List.replicate_succ, List.flatten_cons, List.length_append, ih, Nat.succ_mul]; omega

theorem op_rep_str : OpR X (binaryOp .Mult) (fun x y H Q => ∃ z n, x = .str z ∧ y = .int n ∧ 0 ≤ n ∧ n ≤ 1000 ∧ z.length ≤ 1000 ∧ Q (.str (mkS (repS n.toNat z.cps.toList))) H) := by
  intro pins s σ H x y v u Q I rx ry h
  obtain ⟨z, n, rfl, rfl, h0, h1, hz, q⟩ := h
  obtain ⟨t, rfl⟩ := rx
  obtain ⟨t', rfl⟩ := ry
  have hl : z.length * n.toNat ≤ 1000000 := Nat.le_trans (Nat.mul_le_mul hz (show n.toNat ≤ 1000 by omega)) (by decide)
  have hsl : z.length * n.toNat ≤ sizeLine := Nat.le_trans hl (by decide)
  refine PySem.P.mul_str (by rw [decide_eq_false (by omega), decide_eq_false (by omega)]; rfl) (fun hn _ => ?_) (fun _ _ => by unfold Builtin.Str.tooLong; simp; omega) ?_
  · have : (1000 : Int) ≤ (2 ^ 63 - 1) / n := Int.le_ediv_of_mul_le (by omega) (by omega)
    omega
  · by_cases hn : n < 1
    · rw [if_pos hn]
      have e : n.toNat = 0 := by omega
      refine ⟨by decide, .str _, H, I.tok _, ⟨_, rfl⟩, ?_⟩
      have e2 : mkS (repS n.toNat z.cps.toList) = Str.empty := by rw [e]; rfl
      rw [← e2]; exact q
    · rw [if_neg hn]
      by_cases hc : (n == 1 || z.length == 0) = true
      · rw [if_pos hc]
        refine ⟨.str z, H, I, ⟨t, rfl⟩, ?_⟩
        have e2 : mkS (repS n.toNat z.cps.toList) = z := by
          rcases Bool.or_eq_true_iff.mp hc with e | e
          · have e' : n = 1 := by simpa using e
            subst e'
            simp [repS, mkS_list]
          · have e' : z.cps.toList = [] := by
              have : z.length = 0 := by simpa using e
              simp only [Str.length] at this
              simpa using this
            have : ∀ k, repS k ([] : List Nat) = [] := fun k => by simp [repS]
            rw [e', this, ← e', mkS_list]
        rw [← e2]; exact q
      · rw [if_neg hc]
        have e2 : (⟨(List.replicate n.toNat z.cps).foldl (· ++ ·) #[]⟩ : Str) = mkS (repS n.toNat z.cps.toList) := str_ext (by
          show ((List.replicate n.toNat z.cps).foldl (· ++ ·) #[]).toList = _
          rw [rep_fold]; simp)
        rw [e2]
        refine ⟨?_, .str _, H, I.tok _, ⟨_, rfl⟩, q⟩
        rw [mkS_len, rep_len]
        have : z.cps.toList.length = z.length := by simp [Str.length]
        rw [this, Nat.mul_comm]; exact hsl
end
end L2

namespace L2
open PySem PySem.Spec PyProof.Rows

mutual
inductive DataAt (H : Hp) : V → PyData → Prop
  | non : DataAt H .non .none
  | bl (b) : DataAt H (.bl b) (.bool b)
  | int (i) : DataAt H (.int i) (.int i)
  | str (x) : DataAt H (.str x) (.str x)
  | lst {p xs ds} : H p = some (.lst xs) → DataAll H xs ds → DataAt H (.ref p) (.list ds)
  | tup {p xs ds} : H p = some (.tup xs) → DataAll H xs ds → DataAt H (.ref p) (.tuple ds)
inductive DataAll (H : Hp) : List V → List PyData → Prop
  | nil : DataAll H [] []
  | cons {v vs d ds} : DataAt H v d → DataAll H vs ds → DataAll H (v :: vs) (d :: ds)
end
mutual
theorem DataAt.same {H H' : Hp} (s : Same H H') : ∀ {v : V} {d : PyData}, DataAt H v d → DataAt H' v d
  | _, _, .non => .non
  | _, _, .bl b => .bl b
  | _, _, .int i => .int i
  | _, _, .str x => .str x
  | _, _, .lst h r => .lst (s _ _ h) (DataAll.same s r)
  | _, _, .tup h r => .tup (s _ _ h) (DataAll.same s r)
theorem DataAll.same {H H' : Hp} (s : Same H H') : ∀ {vs : List V} {ds : List PyData}, DataAll H vs ds → DataAll H' vs ds
  | _, _, .nil => .nil
  | _, _, .cons h r => .cons (DataAt.same s h) (DataAll.same s r)
end
section
variable {X : Cx} {pins : List (Addr × Obj)} {σ : St} {H : Hp} {s : Shared}
mutual
theorem DataAt.reads (I : Inv X pins σ H s) : ∀ {v : V} {d : PyData} {u : Value}, DataAt H v d → RelV v u → ∃ as, Reads s.heap u d as
  | _, _, _, .non, r => by cases r; exact ⟨_, .none⟩
  | _, _, _, .bl b, r => by cases r; exact ⟨_, .bool b⟩
  | _, _, _, .int i, r => by obtain ⟨t, rfl⟩ := r; exact ⟨_, .int i t⟩
  | _, _, _, .str x, r => by obtain ⟨t, rfl⟩ := r; exact ⟨_, .str x t⟩
  | _, _, _, .lst h q, r => by
    cases r
    obtain ⟨_, its, n, rv, e⟩ := (I.hok _ _ h)
    obtain ⟨as, ra⟩ := DataAll.reads I q rv
    exact ⟨_, .list e rfl rfl (by simpa using ra)⟩
  | _, _, _, .tup h q, r => by
    cases r
    obtain ⟨_, its, rv, o, e, c, n, dd⟩ := (I.hok _ _ h)
    obtain ⟨as, ra⟩ := DataAll.reads I q rv
    exact ⟨_, .tuple e c dd (by simpa using ra)⟩
theorem DataAll.reads (I : Inv X pins σ H s) : ∀ {vs : List V} {ds : List PyData} {us : List Value}, DataAll H vs ds → Vals vs us → ∃ as, ReadsAll s.heap us ds as
  | _, _, _, .nil, r => by cases r; exact ⟨_, .nil⟩
  | _, _, _, .cons h q, r => by
    cases r with
    | cons r1 r2 =>
      obtain ⟨as, ra⟩ := DataAt.reads I h r1
      obtain ⟨bs, rb⟩ := DataAll.reads I q r2
      exact ⟨_, .cons ra rb⟩
end

def rNeD : R2 := fun x y H Q => ∃ dx dy, DataAt H x dx ∧ DataAt H y dy ∧ dx.canLay0 = true ∧ dy.canLay0 = true ∧ dx.depth ≤ 8 ∧ Q (.bl (!PyData.eqv dx dy)) H
theorem op_neD (hu : X.A.units + 64 < cLine) : OpR X (compareOp .NotEq) rNeD := by
  intro pins s σ H x y v u Q I rx ry h
  obtain ⟨dx, dy, h1, h2, c1, c2, dp, q⟩ := h
  obtain ⟨as, ra⟩ := h1.reads I rx
  obtain ⟨bs, rb⟩ := h2.reads I ry
  exact SeqAt.compareNe_reads ra rb c1 c2 (by omega) ⟨.bl _, H, I, rfl, q⟩
end
end L2

namespace L2
open PySem PySem.Spec PyProof.Rows PySem.W PySem.Builtin.ObjectAttr PySem.Builtin.Getset_descriptor


structure XC (K : PySem.W.Frag) (D : Addr) : Prop where
  ga : findIn K (.ref D) "__getattribute__" = some (some (.builtin "BaseException.__getattribute__"))
  gh : findIn K (.ref D) "__getattr__" = some none
  cl : (clsIn K D).isSome = true
  ca : findIn K (.ref D) "__class__" = some (some (.builtin "object.__class__"))
  gs : specialIn K (.builtin "object.__class__") "__get__" = some (some (.builtin "getset_descriptor.__get__"))
  tk : takesIn K (.builtin "object.__class__") = some true
  ob : mroIn K D (.type "object") = some true
  be : mroIn K D (.type "BaseException") = some true

def OfC (x D : Addr) (h : Heap) : Prop := ∃ o, h.get? x = some o ∧ o.cls = .ref D
theorem OfC.ty {M : Model} {h : Heap} {x D : Addr} (I : OfC x D h) : Looks M h (typeOf (.ref x)) (.ref D) := by
  obtain ⟨o, e, c⟩ := I
  exact c ▸ (Looks.ld e).andThen .now
section
variable {prog : Program} {w : World} {A : Around} {E : Value → Shared → Prop} {s : Shared} {K : Frag} {x D : Addr}
theorem find_exc {M : Model} {h : Heap} (C : XC K D) (X : K.In h) : Looks M h (find (.ref x) (.ref D) "__class__") (.bind (.builtin "getset_descriptor.__get__") (.builtin "object.__class__")) := by
  have L1 := looks_findIn (M := M) X C.ca
  have L2 : Looks M h (getOf (some (.builtin "object.__class__"))) _ := looks_specialIn X C.gs
  have L3 := looks_takesIn (M := M) X C.tk
  exact L1.andThen (L2.andThen ((show Looks M h (dataDescriptor? (some _) (some _)) (some (_, _)) from L3.andThen .now).andThen (Looks.tag .now)))
theorem exc_get {tp : Value} {R : Result → Shared → Prop} (C : XC K D) (X : K.In s.heap) (I : OfC x D s.heap) (h : R (.ok (.ret (.ref D))) s) :
    codeAny (model prog w) A (.call (.builtin "getset_descriptor.__get__") ⟨[.builtin "object.__class__", .ref x, tp], []⟩) R s := by
  obtain ⟨hh, g, dr, t, os⟩ := s
  have L0 := I.ty (M := model prog w)
  have L1 := looks_mroIn (M := model prog w) X C.ob
  refine codeAny_call_builtin KF.slot_gs.plain KF.entry_gs (KF.slot_gs.check _ _ _ _ _ _ _ _ KF.type_class (KF.args_gs _ _ _) ?_)
  unfold Builtin.«getset_descriptor.__get__» descrGet
  rw [dga_obj]
  refine wpAny_bind (wpAny_pure ?_)
  unfold descrGetter descrCheckInstance descrNameAndClass isInstance
  simp only [KF.owner_class]
  repeat lk
  refine ⟨Code.quiet_builtin _ (by decide +kernel), codeAny_builtin KF.entry_class ?_⟩
  unfold Builtin.«object.__class__» shownTypeOf
  repeat lk
  exact h
theorem exc_entry {tk : Tok} {Q : Fin → Shared → Prop} (C : XC K D) (X : K.In s.heap) (I : OfC x D s.heap) (h : Q (.done (.ret (.ref D))) s) :
    wpAny (model prog w) A (Builtin.«object.__getattribute__» ⟨[.ref x, .str "__class__" tk], []⟩) Q E s := by
  obtain ⟨hh, g, d, t, os⟩ := s
  have L0 := I.ty (M := model prog w)
  have L1 := find_exc (M := model prog w) (x := x) C X
  unfold Builtin.«object.__getattribute__»
  refine wpAny_bind (wpAny_pure (wpAny_bind (wpAny_pure (wpAny_bind (L0.at (wpAny_bind (L1.at ?_)))))))
  show wpAny _ _ (holding [.builtin "object.__class__"] (call (.builtin "getset_descriptor.__get__") [.builtin "object.__class__", .ref x, .ref D]) >>= ret) _ _ _
  exact wpAny_bind (wpAny_holding (wpAny_call (exc_get (s := ⟨hh, g, d, t, os⟩) C X I (wpAny_pure h))))
theorem exc_check {nameV : Value} {Q : Unit → Shared → Prop} (C : XC K D) (X : K.In s.heap) (I : OfC x D s.heap) (hq : Q () s) :
    wpAny (model prog w) A (checkBuiltinCall "BaseException.__getattribute__" ⟨[.ref x, nameV], []⟩) Q E s := by
  obtain ⟨hh, g, d, t, os⟩ := s
  have hk : builtinKind "BaseException.__getattribute__" = some .slot := by decide +kernel
  have hsplit : splitId "BaseException.__getattribute__" = some ("BaseException", "__getattribute__") := by decide +kernel
  have L0 := I.ty (M := model prog w)
  have LI : Looks (model prog w) hh (isInstance (.ref x) (.type "BaseException")) true := L0.andThen (looks_mroIn X C.be)
  have ha := F.args_bexc_ga (.ref x) nameV
  simp only [checkBuiltinCall, hk, hsplit]
  refine wpAny_bind (LI.at ?_)
  repeat (any_goals (first | assumption | wp_step))
theorem exc_class {Q : Option Value → Shared → Prop} (C : XC K D) (X : K.In s.heap) (I : OfC x D s.heap) (h : Q (some (.ref D)) { s with toks := s.toks + 1 }) :
    wpAny (model prog w) A (getAttr? (.ref x) "__class__") Q E s := by
  obtain ⟨hh, g, d, t, os⟩ := s
  have L0 := I.ty (M := model prog w)
  have L1 := looks_findIn (M := model prog w) X C.ga
  have L2 := looks_findIn (M := model prog w) X C.gh
  unfold getAttr? getAttrBy? getAttrBy
  refine wpAny_bind (wpAny_mkText (wpAny_bind (wpAny_attempt (wpAny_holding (wpAny_bind (L0.at (wpAny_bind (L1.at ?_))))))))
  show wpAny _ _ (getAttrByItsOwn _ _ _ _ _ _) _ _ _
  unfold getAttrByItsOwn hookBefore
  have hon : onTheHeap (Value.ref D) = true := rfl
  rw [if_pos hon]
  refine wpAny_bind (L2.at (wpAny_bind (wpAny_attempt (wpAny_holding ?_))))
  show wpAny _ _ (boundAndCalled (.builtin "BaseException.__getattribute__") (.ref x) _) _ _ _
  unfold boundAndCalled
  have f3 := PySem.F.excAttr_ValueError.ga.bind (.ref x)
  rw [f3]
  refine wpAny_bind (wpAny_pure (wpAny_call (codeAny_call_builtin PySem.F.excAttr_ValueError.ga.plain F.entry_bexc_ga (exc_check (s := ⟨hh, g, d, t + 1, os⟩) C X I (exc_entry (s := ⟨hh, g, d, t + 1, os⟩) C X I ?_)))))
  refine handed_on rfl ?_
  exact wpAny_pure h
theorem kitx_exc (C : XC K D) : KitX K (.ref x) (.ref D) (OfC x D) where
  ty := fun _ _ _ I => I.ty
  it := fun _ _ X _ => by
    obtain ⟨cdD, hcD⟩ := Option.isSome_iff_exists.mp C.cl
    unfold clsIn at hcD
    split at hcD
    · rename_i c' d' cd' sl' ho
      intro A' Q' E' s' k q
      unfold isType loadHead
      exact wpAny_bind (wpAny_loadPart (k _ _ (X _ _ ho)) (wpAny_pure q))
    · cases hcD
  ne := fun h tp dd its n sl X htp => by
    obtain ⟨cdD, hcD⟩ := Option.isSome_iff_exists.mp C.cl
    refine Bool.eq_false_iff.mpr fun q => ?_
    have e : D = tp := Value.ref.inj (beq_iff_eq.mp q)
    subst e
    unfold clsIn at hcD
    split at hcD
    · rename_i c' d' cd' sl' ho
      have z := (X _ _ ho).symm.trans htp
      cases z
    · cases hcD
  ca := fun X I k => exc_class C X I k
end

def cV : V → Value
  | .ty T => .type T
  | .ref a => .ref a
  | _ => .none
structure Fly (B h0 h : Heap) (outer : List Env) (H' : Hp) (ea : Addr) (C a0 : Value) : Prop where
  fl : Heap.FlyingW B outer ea C a0 h
  tr : ∀ b o, H' b = some o → ∃ u, B.get? b = some u
  old : ∀ b o, h0.get? b = some o → b ∉ frs outer → ∃ u, B.get? b = some u

theorem fly_hok {P : Program} {w : World} {H' : Hp} {h h2 B : Heap} (hok : HOk P w H' h) (tr : ∀ b o, H' b = some o → ∃ u, B.get? b = some u) (b0 : B.StaysIn h) (st : B.StaysIn h2) : HOk P w H' h2 := fun b u q => by
  have key : ∀ c o v, H' c = some o → h.get? c = some v → h2.get? c = some v := fun c o v q e => by
    obtain ⟨u, hu⟩ := tr c o q
    rw [b0 c u hu] at e; cases e; exact st c _ hu
  refine (hok b u q).stay (fun c v hc e => ?_) (fun _ z => z) fun _ _ z => z
  rcases hc with rfl | hc
  · exact key _ _ _ q e
  · exact key _ _ _ hc e
theorem fly_un {outer : List Env} {H H' : Hp} {h0 h h2 B base : Heap} (un : Un (frs outer) [] H H' h0 h) (ff : h.FunFrames base outer) (old : ∀ b o, h0.get? b = some o → b ∉ frs outer → ∃ u, B.get? b = some u) (b0 : B.StaysIn h) (st : B.StaysIn h2) (up : h.UpToSlots h2) :
    Un (frs outer) [] H H' h0 h2 where
  keep := fun b o e n hb hx => by
    obtain ⟨u, hu⟩ := old b o e hb
    have e1 := un.keep b o e n hb hx
    rw [b0 b u hu] at e1; cases e1; exact st b _ hu
  slot := fun b o e n hb hx => by
    obtain ⟨sl, e1⟩ := un.slot b o e n hb hx
    obtain ⟨_, o', ho', hd⟩ := ff.mem hb
    rw [e1] at ho'; cases ho'
    obtain ⟨sl2, e2⟩ := up b _ e1 hd
    exact ⟨sl2, e2⟩
  free := un.free
  there := fun b o e hx => by
    by_cases hb : b ∈ frs outer
    · obtain ⟨_, o', ho', hd⟩ := ff.mem hb
      obtain ⟨sl2, e2⟩ := up b _ ho' hd
      exact ⟨_, e2⟩
    · obtain ⟨u, hu⟩ := old b o e hb
      exact ⟨u, st b u hu⟩
  tups := un.tups
  frzs := un.frzs
  tbls := un.tbls
theorem objOk_get {P : Program} {w : World} {H : Hp} {h : Heap} {a : Addr} {o : HO} (x : ObjOk P w H h a o) : ∃ u, h.get? a = some u := by
  cases o with
  | lst xs => obtain ⟨_, _, _, _, e⟩ := x; exact ⟨_, e⟩
  | tup xs => obtain ⟨_, _, _, o, e, _⟩ := x; exact ⟨_, e⟩
  | dK kvs => obtain ⟨_, _, _, _, o, _, _, e, _⟩ := x; exact ⟨_, e⟩
  | dT kvs => obtain ⟨_, _, _, _, o, _, _, e, _⟩ := x; exact ⟨_, e⟩
  | set S n => obtain ⟨o, _, _, _, e, _⟩ := x; exact ⟨_, e⟩
  | ins C dx fs => obtain ⟨_, _, _, e, _⟩ := x; exact ⟨_, e⟩
  | own y => exact x
  | xd fs => obtain ⟨_, ⟨o, _, _, e, _⟩, _⟩ := x; exact ⟨_, e⟩
  | met f y => exact ⟨_, x⟩
  | rng lo hi => obtain ⟨_, _, _, e⟩ := x; exact ⟨_, e⟩
  | frz ob u => exact ⟨_, x.1⟩
  | tbl ps => exact ⟨_, x⟩
  | ext φ => exact x.2.1
section
variable {P : Program} {w : World} {K : PySem.W.Frag} {mg : Str → Option Value} {base : Heap} {N : List Str} {qual : Str} {scope : Scope} {f : Addr} {cd : Value} {A : Around} {outer : List Env} {s : Shared} {H : Hp} {E : XK}

end
end L2

namespace L2
open PySem PySem.Spec PyProof.Rows PySem.W

def PassesS (CX : CXT) (X : Cx) (E : St → XK) : Prop := ∀ (pins : List (Addr × Obj)) (σ : St) (H : Hp) (s : Shared) (e : Value) (s' : Shared), Inv X pins σ H s → CX X.stack H s (E σ) e s' → X.xe e s'
def tCallS (sp : Sp) (dvs : List V) (E : St → XK) (t : TA) : TE := fun σ H Q => t σ H fun vs H1 => sp (vs ++ dvs) H1 Q (E σ)
section
variable {X : Cx} {CX : CXT} {k : Nat} {f C : Addr} {fd : FuncData} {ps : List Str} {sp : Sp} {dvs : List V} {ds : List Value} {E : St → XK} {x m : Str} {p pos apos : Pos} {e o : Expr} {es : List Expr} {ta : TE} {t : TA}
theorem run_fnS {pins : List (Addr × Obj)} {σ : St} {H : Hp} {s : Shared} {Q : VK} {us : List Value} {vs : List V} (F : FnOk X.prog X.w X.K X.mg X.base CX k f fd ps sp) (hr : Room k X.A) (hb : Binds X.K fd ps ds) (hd : Vals dvs ds) (hx : PassesS CX X E)
    (I : Inv X pins σ H s) (r : Vals vs us) (h : sp (vs ++ dvs) H Q (E σ)) : wpAny (model X.prog X.w) X.A (call (.ref f) us) (EP X pins σ Q) X.xe s := by
  have r2 : Vals (vs ++ dvs) (us ++ ds) := r.append hd
  have hl : (us ++ ds).length = ps.length := by rw [← r2.length]; exact F.len _ _ _ _ h
  refine wpAny_call (codeAny_mono (F.run X.A X.stack s H ⟨us, []⟩ (us ++ ds) (vs ++ dvs) Q (E σ) hr I.env0 (hb s us I.kIn hl) r2 h) fun r s' hq => ?_)
  cases r with
  | error e => exact hx pins σ H s e s' I hq
  | ok fl =>
    cases fl with
    | ret u => exact I.after hq
    | next => exact False.elim hq
    | brk => exact False.elim hq
    | cont => exact False.elim hq
theorem pe_callS (F : FnOk X.prog X.w X.K X.mg X.base CX k f fd ps sp) (hr : Room k X.A) (hg : Gl X x) (hm : X.mg x = some (.ref f)) (hk : PySem.W.keepIn X.K (.ref f) = true) (hb : Binds X.K fd ps ds) (hd : Vals dvs ds) (hx : PassesS CX X E)
    (ha : PA X (e :: es) t) (hdb : (x == ("__debug__" : Str)) = false := by decide) (he : starEach (e :: es) X.env = (false, eval e X.env) :: starEach es X.env := by rfl) (hpl : (backTo pos (starEach es X.env)).any (·.1) = false := by rfl) :
    PE X (.Call (.Name x p) (e :: es) [] pos) (tCallS sp dvs E t) := by
  intro pins s σ H Q I h
  refine wpAny_Call_Name_kw (ld_glob I hg hm ?_ hdb)
  refine PySem.W.callWith_K (h₀ := X.base) I.ok.mod.kin hk (thn (ha pos pins s σ H _ I h) fun us s1 ⟨vs, H1, I1, r, q⟩ => ⟨I1.kIn, ?_⟩) he hpl
  exact run_fnS F hr hb hd hx I1 r q
end

abbrev vErr : List Value := [.type "ValueError", .type "Exception", .type "BaseException", .type "object"]
abbrev Cx.hand (X : Cx) (ea : Addr) : Cx := { X with A := X.A.mark (some (.ref ea)), calm := false, xe := fun _ _ => False }
abbrev Cx.inTry (X : Cx) (pn : List (Addr × Obj)) (xe : Value → Shared → Prop) : Cx := { X with pn := pn, xe := xe }
section
variable {X : Cx} {pins pins' : List (Addr × Obj)} {σ : St} {H : Hp} {s : Shared} {xe : Value → Shared → Prop} {ea : Addr}
theorem Inv.toTry (I : Inv X pins σ H s) : Inv (X.inTry (X.pn ++ pins) xe) [] σ H s :=
  ⟨⟨I.ok.mod, I.ok.kind, I.ok.glob, I.ok.blt, I.ok.above, I.ok.inj, I.ok.has, I.ok.cab, I.ok.hd, I.ok.frames, I.ok.stk, I.ok.exf, I.ok.bs, I.ok.bsz, I.ok.noex, I.ok.exfs, I.ok.funs, I.ok.frf⟩, I.os, I.bare, I.base, I.loc, I.cell, I.free, I.freeC, fun p hp => I.pin p (by simpa using hp), I.hok, I.len⟩
theorem Inv.ofTry (ok : X.Ok) (I : Inv (X.inTry (X.pn ++ pins) xe) pins' σ H s) : Inv X pins σ H s :=
  ⟨ok, I.os, I.bare, I.base, I.loc, I.cell, I.free, I.freeC, fun p hp => I.pin p (List.mem_append_left _ hp), I.hok, I.len⟩
theorem Inv.toHand (I : Inv X pins σ H s) : Inv (X.hand ea) pins σ H s :=
  ⟨⟨I.ok.mod, I.ok.kind, I.ok.glob, I.ok.blt, I.ok.above, I.ok.inj, I.ok.has, I.ok.cab, (fun z => nomatch z), I.ok.frames, I.ok.stk, I.ok.exf, I.ok.bs, I.ok.bsz, I.ok.noex, I.ok.exfs, I.ok.funs, I.ok.frf⟩, I.os, I.bare, I.base, I.loc, I.cell, I.free, I.freeC, I.pin, I.hok, I.len⟩
theorem Inv.ofHand (ok : X.Ok) (I : Inv (X.hand ea) pins σ H s) : Inv X pins σ H s :=
  ⟨ok, I.os, I.bare, I.base, I.loc, I.cell, I.free, I.freeC, I.pin, I.hok, I.len⟩

theorem goes_ok {M : Model} {A : Around} {E : Value → Shared → Prop} {i : Nat} {n : Str} {pos : Pos} {Q : Unit → Shared → Prop} (I : Inv X pins σ H s) (hN : X.N.Nodup) (hi : X.N[i]? = some n) (hk : X.env.scope.names.lookup n = some .local)
    (h : ∀ s', Inv X pins (σ.set i none) H s' → Q () s') : wpAny M A (do bindName X.env n .none; unbindBehindTheSuite X.env n pos) Q E s := by
  obtain ⟨m, hn, hl⟩ := id I.loc
  have hcls : (X.env.scope.kind == .class || (X.env.scope.kind == .module && X.env.locals != X.env.globals)) = false := by rw [I.ok.kind]; rfl
  have hiσ : i < σ.length := by rw [I.len]; exact (List.getElem?_eq_some_iff.mp hi).1
  have cne := I.cne
  refine wpAny_nameGoes_keeps hk hn hcls fun h' v hn' hs => ?_
  obtain ⟨oL, _, _, hoL, _⟩ := id hn
  have tracked : HOk X.prog X.w H h' := fun b ob e => by
    refine (I.hok b ob e).stay (fun c w' hc q => (hs.2 c ?_).trans q) (fun _ q => q) fun _ _ q => q
    rintro rfl
    rcases hc with rfl | hc
    · rw [I.free] at e; cases e
    · rw [I.free] at hc; cases hc
  refine h _ ⟨I.ok, I.os, I.bare, ⟨fun b o e n hb hx => ?_, fun b o e n hb hx => ?_, I.base.free, fun b o e hx => ?_, I.base.tups, I.base.frzs, I.base.tbls⟩, ⟨_, hn', fun j y v' e1 e2 e3 => ?_⟩, fun y c e => ?_, I.free, I.freeC, fun p hp => ?_, tracked, by simpa using I.len⟩
  · exact (hs.2 b (Nat.ne_of_lt (Nat.lt_of_lt_of_le (Heap.lt_size e) I.ok.above))).trans (I.base.keep b o e n hb hx)
  · obtain ⟨sl, e1⟩ := I.base.slot b o e n hb hx
    exact ⟨sl, (hs.2 b (Nat.ne_of_lt (Nat.lt_of_lt_of_le (Heap.lt_size e) I.ok.above))).trans e1⟩
  · obtain ⟨o', e1⟩ := I.base.there b o e hx
    exact ⟨o', (hs.2 b (Nat.ne_of_lt (Nat.lt_of_lt_of_le (Heap.lt_size e) I.ok.above))).trans e1⟩
  · by_cases hj : j = i
    · subst hj
      rw [List.getElem?_set_self hiσ] at e2
      cases e2
    · rw [List.getElem?_set_ne (Ne.symm hj)] at e2
      obtain ⟨u', r', q⟩ := hl j y v' e1 e2 e3
      refine ⟨u', r', ?_⟩
      rcases q with ⟨k, e⟩ | ⟨k, c, e, z⟩
      · refine .inl ⟨k, ?_⟩
        have : y ≠ n := fun e => hj (nodup_ix hN e1 (e ▸ hi))
        simp [this, e]
      · exact .inr ⟨k, c, e, z.sameBut hs (cne y c e)⟩
  · obtain ⟨w', z⟩ := I.cell y c e
    exact ⟨w', z.sameBut hs (cne y c e)⟩
  · obtain ⟨e, n, ne, nf, d⟩ := I.pin p hp
    exact ⟨(hs.2 p.1 ne).trans e, n, ne, nf, d⟩
end

def hEnds (i : Nat) (D : Ends) : Ends := { nx := fun σ H => D.nx (σ.set i none) H, rt := D.rt, bk := fun σ H => D.bk (σ.set i none) H, ct := fun σ H => D.ct (σ.set i none) H }
end L2

namespace L2
open PySem PySem.Spec PyProof.Rows


section
variable {κ : Type} [DecidableEq κ]
def valV (kvs : List (κ × V)) (k : κ) : Option V := (kvs.find? fun kv => decide (kv.1 = k)).map (·.2)

def putK (kvs : List (κ × V)) (k : κ) (v : V) : List (κ × V) :=
  if (kvs.any fun kv => decide (kv.1 = k)) = true then kvs.map (fun kv => if kv.1 = k then (kv.1, v) else kv) else kvs ++ [(k, v)]
theorem valV_pos {p : κ × V} {r : List (κ × V)} {k : κ} (e : p.1 = k) : valV (p :: r) k = some p.2 := by simp [valV, List.find?_cons, e]
theorem valV_neg {p : κ × V} {r : List (κ × V)} {k : κ} (e : ¬ p.1 = k) : valV (p :: r) k = valV r k := by simp [valV, List.find?_cons, e]
theorem length_putK (kvs : List (κ × V)) (k : κ) (v : V) : (putK kvs k v).length ≤ kvs.length + 1 := by
  unfold putK
  split
  · rw [List.length_map]; omega
  · rw [List.length_append, List.length_cons, List.length_nil]; omega
theorem RelO.isSome_eq {o : Option V} {u : Option Value} (r : RelO o u) : o.isSome = u.isSome := by
  cases o with
  | none => cases u with
    | none => rfl
    | some _ => exact (show False from r).elim
  | some _ => cases u with
    | none => exact (show False from r).elim
    | some _ => rfl
theorem RelO.getD {o : Option V} {u : Option Value} {d : V} {d' : Value} (r : RelO o u) (rd : RelV d d') : RelV (o.getD d) (u.getD d') := by
  cases o with
  | none => cases u with
    | none => exact rd
    | some _ => exact (show False from r).elim
  | some _ => cases u with
    | none => exact (show False from r).elim
    | some _ => exact r


theorem KV.val {kvs : List (κ × V)} {vs : List (κ × Value)} (r : KV kvs vs) (k : κ) : RelO (valV kvs k) (valueAt vs k) := by
  unfold KV at r
  induction r with
  | nil => exact True.intro
  | @cons p q ps qs h t ih =>
    obtain ⟨h1, h2⟩ := h
    by_cases e : p.1 = k
    · have e' : q.1 = k := h1.symm.trans e
      have b : valueAt (q :: qs) k = some q.2 := by simp [valueAt, List.find?_cons, e']
      rw [valV_pos e, b]; exact h2
    · have e' : ¬ q.1 = k := fun z => e (h1.trans z)
      have b : valueAt (q :: qs) k = valueAt qs k := by simp [valueAt, List.find?_cons, e']
      rw [valV_neg e, b]; exact ih
theorem KV.any {kvs : List (κ × V)} {vs : List (κ × Value)} (r : KV kvs vs) (k : κ) : (kvs.any fun kv => decide (kv.1 = k)) = vs.any fun kv => decide (kv.1 = k) := by
  unfold KV at r
  induction r with
  | nil => rfl
  | cons h t ih => rw [List.any_cons, List.any_cons, ih, h.1]
theorem KV.repl {kvs : List (κ × V)} {vs : List (κ × Value)} (r : KV kvs vs) (k : κ) {y : V} {u : Value} (ry : RelV y u) :
    KV (kvs.map fun kv => if kv.1 = k then (kv.1, y) else kv) (vs.map fun kv => if kv.1 = k then (kv.1, u) else kv) := by
  unfold KV at r ⊢
  induction r with
  | nil => exact .nil
  | @cons p q ps qs h t ih =>
    rw [List.map_cons, List.map_cons]
    refine .cons ?_ ih
    obtain ⟨h1, h2⟩ := h
    by_cases e : p.1 = k
    · rw [if_pos e, if_pos (h1.symm.trans e)]; exact ⟨h1, ry⟩
    · rw [if_neg e, if_neg (fun z => e (h1.trans z))]; exact ⟨h1, h2⟩
theorem KV.put {kvs : List (κ × V)} {vs : List (κ × Value)} (r : KV kvs vs) (k : κ) {y : V} {u : Value} (ry : RelV y u) : KV (putK kvs k y) (stored vs k u) := by
  unfold putK stored
  rw [r.any k]
  by_cases e : (vs.any fun kv => decide (kv.1 = k)) = true
  · rw [if_pos e, if_pos e]; exact r.repl k ry
  · rw [if_neg e, if_neg e]; exact Paired.snoc r ⟨rfl, ry⟩
end



theorem kV_is {P : Program} {w : World} {k : Key} {u : Value} (r : RelV (kV k) u) : (mixKind P w).is k u = true := by
  cases k with
  | inl i => obtain ⟨t, e⟩ := (show ∃ t, u = Value.int i t from r); subst e; exact mixKind_int P w i t
  | inr x => obtain ⟨t, e⟩ := (show ∃ t, u = Value.str x t from r); subst e; exact mixKind_str P w x t
theorem items_are {P : Program} {w : World} : ∀ {ks : List Key} {us : List Value}, Vals (ks.map kV) us → ItemsAre (mixKind P w) ks us
  | [], _, r => by rw [List.map_nil] at r; cases r; exact .nil
  | k :: ks, _, r => by
    rw [List.map_cons] at r
    cases r with
    | cons h t => exact .cons (kV_is h) (items_are t)


abbrev KT (H : Hp) : List (List Key × V) → List (List Key × Addr × Value) → Prop := Paired fun p q => p.1 = q.1 ∧ H q.2.1 = some (.tup (p.1.map kV)) ∧ RelV p.2 q.2.2
theorem KT.val {H : Hp} {kvs : List (List Key × V)} {xs : List (List Key × Addr × Value)} (r : KT H kvs xs) (k : List Key) : RelO (valV kvs k) ((atKey xs k).map (·.2)) := by
  induction r with
  | nil => exact True.intro
  | @cons p q ps qs h t ih =>
    obtain ⟨h1, _, h2⟩ := h
    by_cases e : p.1 = k
    · have e' : q.1 = k := h1.symm.trans e
      have b : atKey (q :: qs) k = some q.2 := by simp [atKey, List.find?_cons, e']
      rw [valV_pos e, b]; exact h2
    · have e' : ¬ q.1 = k := fun z => e (h1.trans z)
      have b : atKey (q :: qs) k = atKey qs k := by simp [atKey, List.find?_cons, e']
      rw [valV_neg e, b]; exact ih
section
variable {P : Program} {w : World} {H : Hp} {h : Heap} {a : Addr}
theorem rd_of {u : HO} (ok : HOk P w H h) (e : Rd H a u) : ObjOk P w H h a u := e.ok ok
theorem dk_rd {kvs : List (Key × V)} (ok : HOk P w H h) (e : Rd H a (.dK kvs)) : kvs.length ≤ sizeLine ∧ (a == sysModules) = false ∧ ∃ vs, KV kvs vs ∧ h.DictOf (mixKind P w) a vs :=
  show ObjOk P w H h a (.dK kvs) from rd_of ok e
theorem dk_of {kvs : List (Key × V)} (ok : HOk P w H h) (e : H a = some (.dK kvs)) : kvs.length ≤ sizeLine ∧ (a == sysModules) = false ∧ ∃ vs, KV kvs vs ∧ h.DictOf (mixKind P w) a vs := dk_rd ok (.inl e)

theorem key_of {ks : List Key} (ok : HOk P w H h) (e : H a = some (.tup (ks.map kV))) : (tupleKind (mixKind P w)).is h ks a := by
  obtain ⟨_, its, r, o, h1, h2, n, h3⟩ := (show ObjOk P w H h a (.tup (ks.map kV)) from ok a _ e)
  exact ⟨o, its.toArray, n, h1, h2, h3, by simpa using items_are r⟩
theorem dt_rd {kvs : List (List Key × V)} (ok : HOk P w H h) (e : Rd H a (.dT kvs)) : kvs.length ≤ sizeLine ∧ (a == sysModules) = false ∧
    ∃ xs, KT H kvs xs ∧ h.DictOfH (tupleKind (mixKind P w)) a xs := by
  obtain ⟨z, y, xs, r, o, es, ep, h1, h2, h3, h4, h5⟩ := (show ObjOk P w H h a (.dT kvs) from rd_of ok e)
  refine ⟨z, y, xs, r, o, es, ep, h1, h2, h3, h4, fun x hx => ?_, h5⟩
  have all : ∀ {l : List (List Key × V)} {m : List (List Key × Addr × Value)}, KT H l m → ∀ x ∈ m, (tupleKind (mixKind P w)).is h x.1 x.2.1 := by
    intro l m q
    induction q with
    | nil => intro x hx; exact nomatch hx
    | @cons p q ps qs hq t ih =>
      intro x hx
      rcases List.mem_cons.mp hx with e | hx
      · subst e
        exact key_of ok (by rw [← hq.1]; exact hq.2.1)
      · exact ih x hx
  exact all r x hx
end


def DGet (H : Hp) (a : Addr) (y : V) (r : Option V) : Prop :=
  (∃ kvs k, Rd H a (.dK kvs) ∧ y = kV k ∧ r = valV kvs k) ∨ ∃ kvs k b, Rd H a (.dT kvs) ∧ y = .ref b ∧ H b = some (.tup (k.map kV)) ∧ r = valV kvs k

theorem DGet.k {H : Hp} {a : Addr} {kvs : List (Key × V)} {k : Key} (e : H a = some (.dK kvs)) : DGet H a (kV k) (valV kvs k) := .inl ⟨kvs, k, .inl e, rfl, rfl⟩
section
variable {X : Cx} {pins : List (Addr × Obj)} {σ : St} {H : Hp} {s : Shared} {a : Addr} {y v : V} {u r : Value} {o : Option V} {A : Around} {E : Value → Shared → Prop}

theorem Inv.big (I : Inv X pins σ H s) : sysModules < s.heap.objs.size := by
  have h : mainGlobals < s.heap.objs.size := (I.mod.glob.keeps I.bk).lt
  exact Nat.lt_trans (by decide) h


theorem d_getItem {Q : Value → Shared → Prop} (hu : A.units + 1 < cLine) (I : Inv X pins σ H s) (g : DGet H a y (some v)) (ry : RelV y u) (h : ∀ w' s', Inv X pins σ H s' → RelV v w' → Q w' s') :
    wpAny (model X.prog X.w) A (getItem (.ref a) u) Q E s := by
  rcases g with ⟨kvs, k, e, ey, l⟩ | ⟨kvs, k, b, e, ey, eb, l⟩
  · subst ey
    obtain ⟨z, hd, vs, rel, dd⟩ := dk_rd I.hok e
    obtain ⟨w', hw, rw'⟩ := RelO.some_of (v := v) (o := valueAt vs k) (by rw [l]; exact rel.val k)
    exact wpAny_getItem_of (kV_is ry) dd.mapOf hw (h w' _ (I.tok _) rw')
  · subst ey
    cases (show u = Value.ref b from ry)
    obtain ⟨z, hd, xs, rel, dd⟩ := dt_rd I.hok e
    obtain ⟨w', hw, rw'⟩ := RelO.some_of (v := v) (o := (atKey xs k).map (·.2)) (by rw [l]; exact rel.val k)
    obtain ⟨p, hp, hp2⟩ := Option.map_eq_some_iff.mp hw
    refine wpAny_getItem_heap (tupleKind_room_in1 hu) (key_of I.hok eb) dd hp ?_
    rw [hp2]
    exact h w' _ (I.tok _) rw'

theorem d_write {h' : Heap} {t' : Nat} {ob : HO} (I : Inv X pins σ H s) (mu : Mut (H a)) (hs : Heap.SameBut a s.heap h') (he : ∃ q, h'.get? a = some q) (new : ObjOk X.prog X.w (upd H a ob) h' a ob) :
    Inv X pins σ (upd H a ob) { s with heap := h', toks := t' } :=
  I.write (x := a) (e := a) mu (.inl rfl) (fun b q hb z => (hs.2 b hb).trans z) he new
theorem dk_new {P : Program} {w : World} {H' : Hp} {h' : Heap} {kvs : List (Key × V)} {vs : List (Key × Value)} (z : kvs.length ≤ sizeLine) (hd : (a == sysModules) = false) (rel : KV kvs vs) (dd : h'.DictOf (mixKind P w) a vs) :
    ObjOk P w H' h' a (.dK kvs) := ⟨z, hd, vs, rel, dd⟩

end

section
variable {X : Cx} {pins : List (Addr × Obj)} {σ : St} {H : Hp} {s : Shared} {a : Addr} {kvs : List (Key × V)} {k : Key} {u : Value} {A : Around} {E : Value → Shared → Prop}

end




def NoSl (i : Expr) : Prop := ∀ ov iv, subscripted i false ov iv = operate [ov, iv] (getItem ov iv)
theorem subD_of {prog : Program} {w : World} {A : Around} {E : Value → Shared → Prop} {s : Shared} {env : Env} {value slice : Expr} {pos : Pos} {T id : String} {Q : Value → Shared → Prop}
    (hl : typeLookup (.type T) "__getitem__" = pure (some (.builtin id))) (hs : NoSl slice)
    (h : wpAny (model prog w) A (eval value env) (fun o s₁ => wpAny (model prog w) A (eval slice env) (fun i s₂ => s₂.TypeIs o T ∧ wpAny (model prog w) A (getItem o i) Q E s₂) E s₁) E s) :
    wpAny (model prog w) A (eval (.Subscript value slice pos) env) Q E s := by
  refine Subscript_ (wpAny_mono h (fun o s₁ h₁ => wpAny_mono h₁ (fun i s₂ h₂ => ?_) fun _ _ x => x) fun _ _ x => x)
  obtain ⟨hT, h₂⟩ := h₂
  unfold subscriptTail
  refine wpAny_bind ?_
  rw [getitemInPython_of_ne hT.not_modules]
  refine wpAny_bind (wpAny_specialOf hT hl ?_)
  have fin : wpAny (model prog w) A (subscripted slice false o i) (fun r s₃ => wpAny (model prog w) A (letTemporaryGo value o r >>= fun _ => pure r) Q E s₃) E s₂ := by
    rw [hs o i]
    exact wpAny_operating (wpAny_mono h₂ (fun r s₃ h₃ => wpAny_bind (wpAny_letTemporaryGo (wpAny_pure h₃))) fun _ _ x => x)
  first
    | exact wpAny_pure (wpAny_bind fin)
    | exact wpAny_bind (wpAny_pure (wpAny_bind fin))
    | exact wpAny_bind fin

theorem dict_typeIs {X : Cx} {pins : List (Addr × Obj)} {σ : St} {H : Hp} {s : Shared} {a : Addr} {y : V} {o : Option V} (I : Inv X pins σ H s) (g : DGet H a y o) : s.TypeIs (.ref a) "dict" := by
  rcases g with ⟨kvs, k, e, _, _⟩ | ⟨kvs, k, b, e, _, _, _⟩
  · obtain ⟨_, _, vs, _, dd⟩ := dk_rd I.hok e
    exact dd.typeIs
  · obtain ⟨_, _, xs, _, dd⟩ := dt_rd I.hok e
    exact dd.typeIs
def tDGet (td ty : TE) : TE := fun σ H Q => td σ H fun x H1 => ty σ H1 fun y H2 => ∃ a v, x = .ref a ∧ DGet H2 a y (some v) ∧ Q v H2

section
variable {X : Cx} {o i e value : Expr} {pos pos' tpos : Pos} {td ty tv : TE}
theorem pe_dget (hu : X.A.units + 1 < cLine) (ho : PE X o td) (hi : PE X i ty) (hs : NoSl i) : PE X (.Subscript o i pos) (tDGet td ty) := by
  intro pins s σ H Q I h
  refine subD_of PySem.F.slot_dict_getitem.lookup hs (thn (ho pins s σ H _ I h) fun u s1 ⟨x, H1, I1, rx, q1⟩ => thn (hi pins s1 σ H1 _ I1 q1) fun iv s2 ⟨y, H2, I2, ry, a, v, ex, g, q2⟩ => ?_)
  subst ex
  obtain rfl : u = Value.ref a := rx
  exact ⟨dict_typeIs I2 g, d_getItem hu I2 g ry fun w' s3 I3 rw' => ⟨v, H2, I3, rw', q2⟩⟩
end



theorem dk_empty {P : Program} {w : World} {H : Hp} (h : Heap) (hb : sysModules < h.objs.size) : ObjOk P w H (h.push { cls := .type "dict", data := .dict #[] }) h.objs.size (.dK []) :=
  ⟨Nat.zero_le _, beq_eq_false_iff_ne.mpr (Ne.symm (Nat.ne_of_lt hb)), [], .nil, Heap.DictOf.new h⟩
section
variable {X : Cx} {pos : Pos}
end


def tPairs : List (TE × TE) → St → Hp → (List (V × V) → Hp → Prop) → Prop
  | [], _, H, Q => Q [] H
  | (tk, tv) :: r, σ, H, Q => tk σ H fun x H1 => tv σ H1 fun y H2 => tPairs r σ H2 fun ps H3 => Q ((x, y) :: ps) H3
abbrev VV : List (V × V) → List (Value × Value) → Prop := Paired fun p q => RelV p.1 q.1 ∧ RelV p.2 q.2
def PPs (X : Cx) (pos : Pos) (keys : List (Option Expr)) (values : List Expr) (trs : List (TE × TE)) : Prop :=
  ∀ (pins : List (Addr × Obj)) (s : Shared) (σ : St) (H : Hp) (Q : List (V × V) → Hp → Prop), Inv X pins σ H s → tPairs trs σ H Q →
    wpAny (model X.prog X.w) X.A (evalPairs (pairTrees keys values X.env pos)) (fun vs s' => ∃ ps H', Inv X pins σ H' s' ∧ VV ps vs ∧ Q ps H') X.xe s
theorem pps_nil {X : Cx} {pos : Pos} : PPs X pos [] [] [] := fun pins s σ H Q I h => pairTrees_nil_walk ⟨[], H, I, .nil, h⟩
theorem pps_cons {X : Cx} {pos : Pos} {k v : Expr} {ks : List (Option Expr)} {vs : List Expr} {tk tv : TE} {trs : List (TE × TE)} (hk : PE X k tk) (hv : PE X v tv) (hr : PPs X pos ks vs trs) :
    PPs X pos (some k :: ks) (v :: vs) ((tk, tv) :: trs) := fun pins s σ H Q I h =>
  pairTrees_cons_walk (thn (hk pins s σ H _ I h) fun u s1 ⟨x, H1, I1, rx, q1⟩ => thn (hv pins s1 σ H1 _ I1 q1) fun w2 s2 ⟨y, H2, I2, ry, q2⟩ =>
    thn (hr pins s2 σ H2 _ I2 q2) fun ws s3 ⟨ps, H3, I3, rel, q3⟩ => ⟨(x, y) :: ps, H3, I3, .cons ⟨rx, ry⟩ rel, q3⟩)

def mergeK (kvs more : List (Key × V)) : List (Key × V) := more.foldl (fun acc kv => putK acc kv.1 kv.2) kvs
theorem KV.merge : ∀ {more : List (Key × V)} {rs : List (Key × Value)} {kvs : List (Key × V)} {vs : List (Key × Value)}, KV more rs → KV kvs vs → KV (mergeK kvs more) (merged vs rs) := by
  intro more rs kvs vs r
  unfold KV at r
  induction r generalizing kvs vs with
  | nil => intro q; exact q
  | @cons p q ps qs h t ih =>
    intro r0
    have e : KV (putK kvs p.1 p.2) (stored vs q.1 q.2) := by
      have := r0.put p.1 h.2
      rw [← h.1]; exact this
    exact ih e
theorem length_mergeK : ∀ (more kvs : List (Key × V)), (mergeK kvs more).length ≤ kvs.length + more.length
  | [], kvs => by show kvs.length ≤ kvs.length + 0; omega
  | p :: r, kvs => by
    have h1 := length_mergeK r (putK kvs p.1 p.2)
    have h2 := length_putK kvs p.1 p.2
    show (mergeK (putK kvs p.1 p.2) r).length ≤ _
    rw [List.length_cons]; omega
theorem carries_of {P : Program} {w : World} : ∀ {kvs : List (Key × V)} {ws : List (Value × Value)}, VV (kvs.map fun kv => (kV kv.1, kv.2)) ws → ∃ rs, Carries (mixKind P w) ws rs ∧ KV kvs rs
  | [], _, r => by rw [List.map_nil] at r; cases r; exact ⟨[], True.intro, .nil⟩
  | p :: kvs, _, r => by
    rw [List.map_cons] at r
    cases r with
    | @cons a b as bs h t =>
      obtain ⟨rs, c, q⟩ := carries_of (P := P) (w := w) t
      obtain ⟨b1, b2⟩ := b
      exact ⟨(p.1, b2) :: rs, ⟨kV_is h.1, rfl, c⟩, .cons ⟨rfl, h.2⟩ q⟩

def tDisp (trs : List (TE × TE)) : TE := fun σ H Q => ∀ p, H p = none → tPairs trs σ (upd H p (.dK [])) fun ps H2 => H2 p = some (.dK []) ∧ ∃ kvs : List (Key × V), ps = kvs.map (fun kv => (kV kv.1, kv.2)) ∧ kvs.length ≤ 15 ∧ Q (.ref p) (upd H2 p (.dK (mergeK [] kvs)))
theorem pe_disp {X : Cx} {pos : Pos} {keys : List (Option Expr)} {values : List Expr} {trs : List (TE × TE)} (h : PPs X pos keys values trs) (hall : keys.all (·.isSome) = true) (hl : keys.length = values.length) (h0 : keys ≠ [])
    (h15 : keys.length ≤ 15) : PE X (.Dict keys values pos) (tDisp trs) := by
  intro pins s σ H Q I q
  have hn := I.hok.fresh (Nat.le_refl s.heap.objs.size)
  have I1 := I.laid (a := s.heap.objs.size) (o := .dK []) (h' := s.heap.push { cls := .type "dict", data := .dict #[] }) (t' := s.toks) (fun _ _ q => Heap.get?_push_of_some _ q) (Nat.le_refl _) (dk_empty s.heap I.big)
  refine wpAny_Dict_walk (knd := mixKind X.prog X.w) hall hl h0 h15 (thn (h pins _ σ _ _ I1 (q _ hn)) fun ws s2 ⟨ps, H2, I2, rel, e, kvs, ep, lk, q2⟩ => ?_)
  subst ep
  obtain ⟨rs, c, rk⟩ := carries_of (P := X.prog) (w := X.w) rel
  obtain ⟨z, hd, vs0, r0, dd⟩ := dk_of I2.hok e
  cases r0
  refine ⟨rs, c, dd, fun h' dd' hs => ⟨.ref s.heap.objs.size, _, ?_, rfl, q2⟩⟩
  have hz : (mergeK [] kvs).length ≤ sizeLine := by
    have h1 := length_mergeK kvs []
    rw [List.length_nil] at h1
    rw [sizeLine_eq]; omega
  have he : ∃ q, h'.get? s.heap.objs.size = some q := let ⟨q, _, _, hq, _⟩ := dd'; ⟨q, hq⟩
  exact d_write I2 (by rw [e]; exact True.intro) hs he (dk_new hz hd (rk.merge .nil) dd')




structure M1 (X : Cx) (o : Expr) (m : Str) (apos : Pos) (e : Expr) (cpos : Pos) : Prop where
  base : attributeBase o m X.env (eval o X.env) = eval o X.env
  few : ((backTo cpos (starEach [e] X.env)).all (fun x => !x.1) && (backToKw cpos (keywordEach [] X.env)).all (fun x => x.1.isSome)
    && decide (([e] : List Expr).length + ([] : List Keyword).length + (if ([] : List Keyword).isEmpty then 0 else 1) < 30)) = true
  line : (apos.endLine == cpos.line) = true
  trees : backTo cpos (starEach [e] X.env) = [(false, eval e X.env)]
structure M2 (X : Cx) (o : Expr) (m : Str) (apos : Pos) (e f : Expr) (cpos : Pos) : Prop where
  base : attributeBase o m X.env (eval o X.env) = eval o X.env
  few : ((backTo cpos (starEach [e, f] X.env)).all (fun x => !x.1) && (backToKw cpos (keywordEach [] X.env)).all (fun x => x.1.isSome)
    && decide (([e, f] : List Expr).length + ([] : List Keyword).length + (if ([] : List Keyword).isEmpty then 0 else 1) < 30)) = true
  line : (apos.endLine == cpos.line) = true
  trees : backTo cpos (starEach [e, f] X.env) = [(false, eval e X.env), (false, eval f X.env)]


def IsD (H : Hp) (a : Addr) : Prop := (∃ kvs, Rd H a (.dK kvs)) ∨ ∃ kvs, Rd H a (.dT kvs)
theorem isD_at {X : Cx} {pins : List (Addr × Obj)} {σ : St} {H : Hp} {s : Shared} {a : Addr} (I : Inv X pins σ H s) (d : IsD H a) :
    s.TypeIs (.ref a) "dict" ∧ (∀ b, Value.ref a = .ref b → ∃ ob, s.heap.get? b = some ob ∧ ob.dict = none) ∧ (a == sysModules) = false := by
  rcases d with ⟨kvs, e⟩ | ⟨kvs, e⟩
  · obtain ⟨_, hd, vs, _, dd⟩ := dk_rd I.hok e
    refine ⟨dd.typeIs, fun b q => ?_, hd⟩
    cases q
    obtain ⟨ob, _, _, h1, h2, _⟩ := dd
    exact ⟨ob, h1, h2.2.1⟩
  · obtain ⟨_, hd, xs, _, dd⟩ := dt_rd I.hok e
    refine ⟨dd.typeIs, fun b q => ?_, hd⟩
    cases q
    obtain ⟨ob, _, _, h1, h2, _⟩ := dd
    exact ⟨ob, h1, h2.2.1⟩

section
variable {X : Cx} {pins : List (Addr × Obj)} {σ : St} {H : Hp} {s : Shared} {a : Addr} {y d : V} {u r : Value} {o : Option V} {A : Around} {E : Value → Shared → Prop}

theorem d_get2 {Q : Value → Shared → Prop} (hu : A.units + 1 < cLine) (I : Inv X pins σ H s) (g : DGet H a y o) (ry : RelV y u) (rd : RelV d r) (h : ∀ w' s', Inv X pins σ H s' → RelV (o.getD d) w' → Q w' s') :
    wpAny (model X.prog X.w) A (call (.builtin "dict.get") [.ref a, u, r]) Q E s := by
  rcases g with ⟨kvs, k, e, ey, l⟩ | ⟨kvs, k, b, e, ey, eb, l⟩
  · subst ey
    obtain ⟨z, hd, vs, rel, dd⟩ := dk_rd I.hok e
    refine call_meetsIn PySem.F.slot_dict_get dd.typeIs PySem.F.entry_dict_get (PySem.F.args_dict_get_3 _ _ _) (meets_dict_get_default (mixKind X.prog X.w) a (kV_is ry) hd r) ⟨_, dd.mapOf, h _ _ (I.tok _) ?_⟩
    rw [l]
    exact (rel.val k).getD rd
  · subst ey
    cases (show u = Value.ref b from ry)
    obtain ⟨z, hd, xs, rel, dd⟩ := dt_rd I.hok e
    refine call_meetsIn PySem.F.slot_dict_get dd.typeIs PySem.F.entry_dict_get (PySem.F.args_dict_get_3 _ _ _) (meetsH_dict_get_default (tupleKind (mixKind X.prog X.w)) a b hd r) ⟨tupleKind_room_in1 hu, k, xs, key_of I.hok eb, dd, h _ _ (I.tok _) ?_⟩
    rw [l]
    exact (rel.val k).getD rd
end

def tDGet2 (td ty tx : TE) : TE := fun σ H Q => td σ H fun x H1 => ∃ a, x = .ref a ∧ IsD H1 a ∧ ty σ H1 fun y H2 => tx σ H2 fun z H3 => ∃ o, DGet H3 a y o ∧ Q (o.getD z) H3

section
variable {X : Cx} {o e f : Expr} {apos cpos : Pos} {td ty tx : TE}
theorem pe_dget2 (hu : X.A.units + 1 < cLine) (ho : PE X o td) (he : PE X e ty) (hf : PE X f tx) (m : M2 X o "get" apos e f cpos) : PE X (.Call (.Attribute o "get" apos) [e, f] [] cpos) (tDGet2 td ty tx) := by
  intro pins s σ H Q I h
  refine wpAny_Call_method m.base m.few m.line PySem.F.plainAttrs_dict PySem.F.slot_dict_get PySem.F.type_dict_get (thn (ho pins s σ H _ I h) fun u s1 ⟨x, H1, I1, rx, a, ex, d, q1⟩ => ?_)
  subst ex
  obtain rfl : u = Value.ref a := rx
  obtain ⟨t1, t2, _⟩ := isD_at I1 d
  refine ⟨t1, t2, ?_⟩
  rw [m.trees]
  refine Calls.callWith_builtin rfl (Calls.evalArgs_plain (Calls.spliced_cons (thn (he pins s1 σ H1 _ I1 q1) fun iv s2 ⟨y, H2, I2, ry, q2⟩ =>
    Calls.spliced_cons (thn (hf pins s2 σ H2 _ I2 q2) fun fv s3 ⟨z, H3, I3, rz, ov, g, q3⟩ => Calls.spliced_nil ?_))))
  exact d_get2 hu I3 g ry rz fun w' s4 I4 rw' => ⟨_, H3, I4, rw', q3⟩
end


section
variable {X : Cx} {pins : List (Addr × Obj)} {σ : St} {H : Hp} {s : Shared} {a : Addr} {kvs : List (Key × V)} {A : Around} {E : Value → Shared → Prop}
end


section
variable {X : Cx} {pins : List (Addr × Obj)} {σ : St} {H : Hp} {s : Shared} {a : Addr} {y : V} {u : Value} {A : Around} {E : Value → Shared → Prop}

end
end L2


namespace L2
open PySem PySem.Spec PyProof.Rows PySem.W

section
variable {X : Cx} {elts : List Expr} {x1 : Nat} {tp : Pos} {a b : Expr} {ta : TA} {p pos : Pos}
theorem pi_zipTS (hg : Gl X "zip") (hm : X.mg "zip" = none) (ha : PA X [a, b] ta) (hs : starEach [a, b] X.env = [(false, eval a X.env), (false, eval b X.env)] := by rfl) (hs2 : starEach [b] X.env = [(false, eval b X.env)] := by rfl) :
    PI X (.Tuple elts x1 tp) (.Call (.Name "zip" p) [a, b] [] pos) (iZipTS X.K ta) := by
  intro pins s σ H R I h
  refine Call_ (ld_blt I hg hm bt_zip (PyProof.Rows.callWith_type1 (thn (ha pos pins s σ H _ I h) fun us s1 ⟨vs, H1, I1, r1, q1⟩ => ?_) (by rw [hs, hs2]) (by rw [hs2]; rfl)))
  obtain ⟨c, z, rfl, ⟨xs, hx⟩, q⟩ := q1
  obtain ⟨u, u', rfl, ru, ru'⟩ := vals2 r1
  cases ru
  obtain ⟨t, rfl⟩ := ru'
  obtain ⟨its, rv, p1, _⟩ := I1.tuple hx
  cases ha' : z.cps.all (· < 128)
  · exact zip_pi (U := fun h => h.IsTuple c its.toArray) I1 p1 (fun h o ⟨oc, e, r⟩ => ⟨oc, Heap.get?_push_of_some _ e, r⟩)
      (fun prog w A Q E s hu hQ => wpAny_pyIter_tuple hu hQ) (fun prog w A Q E s hu hQ => wpAny_pyIter_wide ha' hQ) (sub_tup c _) (sub_str z t _ "str_iterator" (fun A hA => Draws.strWide hA _ z t) (fun A i c s Q E st hc h => wpAny_nextOf_wide_item st hc h) fun A i s Q E hh st hx hE => wpAny_nextOf_wide_end hh st hx hE)
      (fun h e => ⟨_, e, rfl, rfl⟩) (fun h e => ⟨_, e, rfl, rfl⟩) rfl rfl q
  · exact zip_pi (U := fun h => h.IsTuple c its.toArray) I1 p1 (fun h o ⟨oc, e, r⟩ => ⟨oc, Heap.get?_push_of_some _ e, r⟩)
      (fun prog w A Q E s hu hQ => wpAny_pyIter_tuple hu hQ) (fun prog w A Q E s hu hQ => wpAny_pyIter_ascii ha' hQ) (sub_tup c _) (sub_str z t _ "str_ascii_iterator" (fun A hA => Draws.strAscii hA _ z t) (fun A i c s Q E st hc h => wpAny_nextOf_ascii_item st hc h) fun A i s Q E hh st hx hE => wpAny_nextOf_ascii_end hh st hx hE)
      (fun h e => ⟨_, e, rfl, rfl⟩) (fun h e => ⟨_, e, rfl, rfl⟩) rfl rfl q
end
theorem zipTS_steps {K : PySem.W.Frag} {a : Addr} {xs : List V} {z : Str} {H : Hp} {i : Nat} (ha : SqT K H a xs) :
    (i < min xs.length z.cps.toList.length → (ItzTS K a z).go i H ∧ ∀ v H', (ItzTS K a z).yld i H v H' → ∃ p, v = .ref p ∧ H p = none ∧ H' = upd H p (.tup [xs.getD i .non, .str (mkS [z.cps.toList.getD i 0])])) ∧ (min xs.length z.cps.toList.length ≤ i → (ItzTS K a z).stop i H) := by
  refine ⟨fun hi => ⟨⟨⟨xs, xs[i]'(by omega), ha, by rw [List.getElem?_eq_getElem]⟩, by show i < _; omega⟩, fun v H' ⟨p, x, y, e1, e2, e3, e4, c, hc, e5⟩ => ⟨p, e1, e2, ?_⟩⟩, fun hi => ?_⟩
  · rw [e3, List.getD_eq_getElem?_getD, List.getD_eq_getElem?_getD, e4 xs ha, e5, hc]; rfl
  · by_cases h1 : xs.length ≤ i
    · exact .inl ⟨xs, ha, h1⟩
    · exact .inr ⟨⟨xs, xs[i]'(by omega), ha, by rw [List.getElem?_eq_getElem]⟩, by show _ ≤ i; omega⟩

theorem for_zip {J : It} {n : Nat} {fx fy : Nat → V} {g : TG} {tb : TS} {D : Ends} {σ : St} {H : Hp} (Pv : Nat → St → Hp → Prop)
    (hJ : ∀ i σ H, Pv i σ H → (i < n → J.go i H ∧ ∀ v H', J.yld i H v H' → ∃ p, v = .ref p ∧ H p = none ∧ H' = upd H p (.tup [fx i, fy i])) ∧ (n ≤ i → J.stop i H)) (h0 : Pv 0 σ H)
    (hs : ∀ i σ H p, i < n → Pv i σ H → H p = none → g (.ref p) σ (upd H p (.tup [fx i, fy i])) fun σ2 H2 => tb { D with nx := Pv (i + 1), ct := Pv (i + 1), bk := D.nx } σ2 H2) (hd : ∀ σ H, Pv n σ H → D.nx σ H) :
    ∃ W : Nat → Nat → St → Hp → Prop, (∃ m, W 0 m σ H) ∧ ∀ i m σ H, W i m σ H →
      (J.stop i H ∧ D.nx σ H) ∨ (J.go i H ∧ ∃ N : St → Hp → Prop, (∀ σ' H', N σ' H' → ∃ m', m' < m ∧ W (i + 1) m' σ' H') ∧ ∀ v H', J.yld i H v H' → g v σ H' fun σ2 H2 => tb { D with nx := N, ct := N, bk := D.nx } σ2 H2) := by
  refine ⟨fun i m σ H => m = n - i ∧ i ≤ n ∧ Pv i σ H, ⟨_, rfl, Nat.zero_le _, h0⟩, ?_⟩
  rintro i m σ H ⟨rfl, hi, p⟩
  obtain ⟨h1, h2⟩ := hJ i σ H p
  by_cases hlt : i < n
  · obtain ⟨hg, hy⟩ := h1 hlt
    refine .inr ⟨hg, Pv (i + 1), fun σ' H' p' => ⟨_, by omega, rfl, hlt, p'⟩, fun v H' y => ?_⟩
    obtain ⟨q, rfl, hq, rfl⟩ := hy v H' y
    exact hs i σ H q hlt p hq
  · have e : i = n := by omega
    subst e
    exact .inl ⟨h2 (Nat.le_refl _), hd σ H p⟩

def Ite (x : Str) : It := ⟨fun i _ => i < x.cps.toList.length, fun i H v H' => ∃ p c, x.cps.toList[i]? = some c ∧ v = .ref p ∧ H p = none ∧ H' = upd H p (.tup [.int i, .str (mkS [c])]), fun i _ => x.cps.toList.length ≤ i⟩
theorem turn_enum {P : Program} {w : World} {K : PySem.W.Frag} {elts : List Expr} {x1 : Nat} {tp : Pos} {e it : Addr} {x : Str} {t : Tok} {ty : String} (hne : e ≠ it)
    (D : ∀ A : Around, A.handled = none → Draws P w A it [it] x.cps.size (fun i v => ∃ c u, x.cps[i]? = some c ∧ v = .str ⟨#[c]⟩ u) (fun i h => h.IsStrIter it ty x t i)) :
    Turn P w K (.Tuple elts x1 tp) (Ite x) [e, it] e (fun i h => (∃ old, IsEnum h e it i old) ∧ h.IsStrIter it ty x t i ∧ i ≤ x.cps.size) where
  mem := by simp
  obj := fun i h ⟨⟨old, he⟩, ⟨o, ho, hc, hd⟩, _⟩ c hc' => by
    simp only [List.mem_cons, List.not_mem_nil, or_false] at hc'
    rcases hc' with rfl | rfl
    · exact ⟨_, he, fun v z => by cases z⟩
    · exact ⟨o, ho, fun v z => by rw [hd] at z; cases z⟩
  keep := fun i h h' ⟨⟨old, he⟩, ⟨o, ho, r⟩, z⟩ k => ⟨⟨old, k e (by simp) _ he⟩, ⟨o, k it (by simp) o ho, r⟩, z⟩
  item := by
    intro X hP hw hK hc i pins s σ H E I hf ⟨⟨old, he⟩, st, hle⟩ hg
    subst hP hw hK
    have hi : i < x.cps.size := by have : i < x.cps.toList.length := hg; simpa using this
    refine wpAny_pyNext_enum_itemD (D X.A.in1 (I.ok.hd hc)) he st hi hne (by simpa using hne) fun v h' tk hP ho st' hT hsz hk => ⟨_, rfl, ?_⟩
    obtain ⟨c, u, hcx, rfl⟩ := hP
    refine wpAny_letOwnedTupleGo_enum ho fun h2 he2 sb => ?_
    have helt : e < s.heap.objs.size := Heap.lt_size he
    obtain ⟨oit, hoit, _⟩ := id st
    have hilt : it < s.heap.objs.size := Heap.lt_size hoit
    have hT2 : h2.get? s.heap.objs.size = some { cls := .type "tuple", data := .seq #[.int i tk, .str ⟨#[c]⟩ u] } := sb.extBut _ _ (Nat.ne_of_gt helt) hT
    have kk : ∀ b o, b ∉ [e, it] → s.heap.get? b = some o → h2.get? b = some o := fun b o hb q => by
      simp only [List.mem_cons, List.not_mem_nil, or_false, not_or] at hb
      exact sb.extBut _ _ hb.1 (hk b o hb.1 hb.2 q)
    refine ⟨.ref s.heap.objs.size, upd H s.heap.objs.size (.tup [.int i, .str (mkS [c])]), I.turnLay (t' := tk + 1) hf kk (Nat.le_refl _) ⟨small1000 (by simp) |> Nat.le_of_lt, [.int i tk, .str ⟨#[c]⟩ u], .cons ⟨tk, rfl⟩ (.cons ⟨u, rfl⟩ .nil), ⟨_, hT2, rfl, _, rfl⟩⟩, rfl, ⟨_, c, by simpa using hcx, rfl, I.fresh, rfl⟩, ⟨⟨_, by simpa using he2⟩, ?_, hi⟩, fun b hb => ?_⟩
    · obtain ⟨o, ho', r⟩ := st'
      exact ⟨o, sb.extBut _ _ (Ne.symm hne) ho', r⟩
    · simp only [List.mem_cons, List.not_mem_nil, or_false] at hb
      rcases hb with rfl | rfl
      · rw [upd_ne (Nat.ne_of_lt helt)]; exact (hf _ (by simp)).1
      · rw [upd_ne (Nat.ne_of_lt hilt)]; exact (hf _ (by simp)).1
  done := by
    intro X hP hw hK hc i pins s σ H E I hf ⟨⟨old, he⟩, st, hle⟩ hg
    subst hP hw hK
    have hi : x.cps.size ≤ i := by have : x.cps.toList.length ≤ i := hg; simpa using this
    have e0 : i = x.cps.size := Nat.le_antisymm hle hi
    subst e0
    exact wpAny_pyNext_enum_endD (D X.A.in1 (I.ok.hd hc)) he st fun h' eb => ⟨rfl, I.turnedL (t' := s.toks) hf fun b o hb q => eb b o (fun z => hb (by simp [z])) q⟩
  self := fun A i s Q E ⟨⟨old, he⟩, _⟩ h => wpAny_pyIter_enum he h
def iEnumS (ta : TA) : TI := fun σ H R => ta σ H fun vs H1 => ∃ z, vs = [.str z] ∧ R (Ite z) H1
theorem pi_enumS {X : Cx} {elts : List Expr} {x1 : Nat} {tp : Pos} {a : Expr} {ta : TA} {p pos : Pos} (hg : Gl X "enumerate") (hm : X.mg "enumerate" = none) (ha : PA X [a] ta) (hs : starEach [a] X.env = [(false, eval a X.env)] := by rfl) :
    PI X (.Tuple elts x1 tp) (.Call (.Name "enumerate" p) [a] [] pos) (iEnumS ta) := by
  intro pins s σ H R I h
  refine Call_ (ld_blt I hg hm bt_enumerate (PyProof.Rows.callWith_type1 (thn (ha pos pins s σ H _ I h) fun us s1 ⟨vs, H1, I1, r1, q1⟩ => ?_) (by rw [hs]; rfl) (by rfl)))
  obtain ⟨z, rfl, q⟩ := q1
  obtain ⟨u, rfl, ru⟩ := vals1 r1
  obtain ⟨t, rfl⟩ := ru
  refine call_enumerate_str fun h' he hit hsz hk => wpAny_pyIter_enum he ?_
  have hne : s1.heap.objs.size + 1 ≠ s1.heap.objs.size := Nat.succ_ne_self _
  have fin : ∀ ty : String, (∀ A : Around, A.handled = none → Draws X.prog X.w A s1.heap.objs.size [s1.heap.objs.size] z.cps.size (fun i v => ∃ c u, z.cps[i]? = some c ∧ v = .str ⟨#[c]⟩ u) (fun i h => h.IsStrIter s1.heap.objs.size ty z t i)) → h'.IsStrIter s1.heap.objs.size ty z t 0 →
      PIE X pins σ (.Tuple elts x1 tp) R (.ref (s1.heap.objs.size + 1)) { s1 with heap := h' } := fun ty D hit' => by
    refine ⟨_, _, _, _, H1, rfl, I1.kept (t' := s1.toks) hk, turn_enum hne D, ⟨⟨_, he⟩, hit', Nat.zero_le _⟩, fun b hb => ?_, q⟩
    have hle : s1.heap.objs.size ≤ b := by
      simp only [List.mem_cons, List.not_mem_nil, or_false] at hb
      rcases hb with rfl | rfl <;> omega
    exact I1.fpOk hle (I1.hok.fresh hle)
  cases ha' : z.cps.all (· < 128)
  · exact fin _ (fun A hA => Draws.strWide hA _ z t) (by simpa [strIterType, ha'] using hit)
  · exact fin _ (fun A hA => Draws.strAscii hA _ z t) (by simpa [strIterType, ha'] using hit)
theorem enum_steps {z : Str} {H : Hp} {i : Nat} :
    (i < z.cps.toList.length → (Ite z).go i H ∧ ∀ v H', (Ite z).yld i H v H' → ∃ p, v = .ref p ∧ H p = none ∧ H' = upd H p (.tup [.int i, .str (mkS [z.cps.toList.getD i 0])])) ∧ (z.cps.toList.length ≤ i → (Ite z).stop i H) := by
  refine ⟨fun hi => ⟨hi, fun v H' ⟨p, c, hc, e1, e2, e3⟩ => ⟨p, e1, e2, ?_⟩⟩, fun hi => hi⟩
  rw [e3, List.getD_eq_getElem?_getD, hc]; rfl

def EntsAre (P : Params) : List DictEntry → List (Str × V) → Prop
  | [], [] => True
  | e :: r, (k, v) :: q => ((∃ t, e.key = .str k t) ∧ e.hash = PyData.keyHash P k ∧ RelV v e.val) ∧ EntsAre P r q
  | _, _ => False
theorem EntsAre.lit {P : Params} : ∀ {es : List DictEntry} {kvs : List (Str × V)}, EntsAre P es kvs → KeysLit P es
  | [], [], _ => trivial
  | e :: r, (k, v) :: q, ⟨⟨⟨t, h1⟩, h2, _⟩, h⟩ => ⟨⟨k, t, h1, h2⟩, h.lit⟩
theorem EntsAre.rel {P : Params} (x : Str) : ∀ {es : List DictEntry} {kvs : List (Str × V)}, EntsAre P es kvs → RelO (kvs.lookup x) ((es.find? fun e => Value.isStrOf x e.key).map (·.val))
  | [], [], _ => trivial
  | e :: r, (k, v) :: q, ⟨⟨⟨t, h1⟩, h2, h3⟩, h⟩ => by
    have hk : Value.isStrOf x e.key = (k == x) := by rw [h1]; rfl
    by_cases hx : x = k
    · subst hx
      have : Value.isStrOf x e.key = true := by rw [hk]; simp
      rw [List.find?_cons, this, List.lookup_cons]
      simp only [beq_self_eq_true]
      exact h3
    · have h4 : Value.isStrOf x e.key = false := by rw [hk]; simpa using fun z : k = x => hx z.symm
      have h5 : (x == k) = false := by simpa using hx
      rw [List.find?_cons, h4, List.lookup_cons, h5]
      exact h.rel x
structure KD (K : PySem.W.Frag) (P : Params) (a : Addr) (kvs : List (Str × V)) : Prop where
  ex : ∃ es n, K.lookup a = some ⟨.type "dict", none, .dict es n, #[]⟩ ∧ EntsAre P es.toList kvs
  lo : (a == sysModules) = false
theorem KD.map {K : PySem.W.Frag} {prog : Program} {w : World} {a : Addr} {kvs : List (Str × V)} (d : KD K w.params a kvs) {h : Heap} (X : K.In h) : ∃ f, h.MapOf (strKind prog w) a f ∧ ∀ x, RelO (kvs.lookup x) (f x) := by
  obtain ⟨es, n, hl, he⟩ := d.ex
  refine ⟨_, mapOf_K X hl he.lit, fun x => ?_⟩
  obtain ⟨l⟩ := es
  have := he.rel x
  unfold findBy
  rw [List.find?_toArray]
  exact this
section
variable {X : Cx}
def rInKD (K : PySem.W.Frag) (P : Params) (neg : Bool) : R2 := fun x y H Q => ∃ z a kvs, x = .str z ∧ y = .ref a ∧ KD K P a kvs ∧ Q (.bl (neg != (kvs.lookup z).isSome)) H
theorem op_inKD : OpR X (compareOp .In) (rInKD X.K X.w.params false) := by
  intro pins s σ H x y v u Q I rx ry h
  obtain ⟨z, a, kvs, rfl, rfl, d, q⟩ := h
  obtain ⟨t, rfl⟩ := rx
  cases ry
  obtain ⟨f, hm, hr⟩ := d.map (prog := X.prog) I.kIn
  refine wpAny_in_of (strKind_is X.prog X.w z t) d.lo hm ?_
  rw [← (hr z).isSome_eq]
  exact ⟨.bl _, H, I.tok _, rfl, by simpa using q⟩
theorem op_notInKD : OpR X (compareOp .NotIn) (rInKD X.K X.w.params true) := by
  intro pins s σ H x y v u Q I rx ry h
  obtain ⟨z, a, kvs, rfl, rfl, d, q⟩ := h
  obtain ⟨t, rfl⟩ := rx
  cases ry
  obtain ⟨f, hm, hr⟩ := d.map (prog := X.prog) I.kIn
  refine wpAny_notIn_of (strKind_is X.prog X.w z t) d.lo hm ?_
  rw [← (hr z).isSome_eq]
  exact ⟨.bl _, H, I.tok _, rfl, by simpa using q⟩
def rIxKD (K : PySem.W.Frag) (P : Params) : R2 := fun x y H Q => ∃ a kvs z v, x = .ref a ∧ y = .str z ∧ KD K P a kvs ∧ kvs.lookup z = some v ∧ Q v H
theorem ix_KD : IxR X (rIxKD X.K X.w.params) := by
  intro value slice pins s σ H x y v u Q I rx ry h hs
  obtain ⟨a, kvs, z, w', rfl, rfl, d, hl, q⟩ := h
  cases rx
  obtain ⟨t, rfl⟩ := ry
  obtain ⟨f, hm, hr⟩ := d.map (prog := X.prog) I.kIn
  obtain ⟨u', hu, ru⟩ := RelO.some_of (v := w') (o := f z) (by rw [← hl]; exact hr z)
  exact tail_any hm.typeIs slot_dict_getitem.lookup (wpAny_getItem_of (strKind_is X.prog X.w z t) hm hu ⟨w', H, I.tok _, ru, q⟩) hs
end
end L2

namespace HT
open PySem PySem.Spec PyProof.Rows
section
variable {prog : Program} {w : World} {A : Around} {E : Value → Shared → Prop} {s : Shared}

end
end HT
namespace L2
open PySem PySem.Spec PyProof.Rows PySem.W
section
variable {X : Cx} {K : PySem.W.Frag}

theorem Same.seqT {K : PySem.W.Frag} {H H' : Hp} {a : Addr} {xs : List V} (e : Same H H') (h : SqT K H a xs) : SqT K H' a xs := by
  rcases h with (h | ⟨o, h⟩) | h
  · exact .inl (.inl (e _ _ h))
  · exact .inl (.inr ⟨o, e _ _ h⟩)
  · exact .inr h

end
end L2

namespace L2
open PySem PySem.Spec PyProof.Rows PySem.W

section
variable {X : Cx} {pins : List (Addr × Obj)} {σ : St} {H : Hp} {s : Shared}
end

end L2

namespace L2
open PySem PySem.Spec PyProof.Rows
section
variable {X : Cx}

theorem vals_sv : ∀ l : List (Str × Tok), Vals ((l.map (·.1)).map V.str) (strValues l)
  | [] => .nil
  | (_, t) :: r => .cons ⟨t, rfl⟩ (vals_sv r)
def rSplit : V → List V → Hp → VK → Prop := fun x vs H Q => ∃ z y, x = .str z ∧ vs = [.str y] ∧ (y.length == 0) = false ∧ z.length + 2 ≤ sizeLine ∧ ∀ p, H p = none → Q (.ref p) (upd H p (.lst ((Txt.split z y).map V.str)))
theorem mt_split : MtR X "str.split" rSplit := by
  intro pins s σ H x vs v us Q I rx rv h
  obtain ⟨z, y, rfl, rfl, hy, hz, q⟩ := h
  obtain ⟨t, rfl⟩ := rx
  obtain ⟨u, rfl, k, rfl⟩ := rv.one
  have many := StrLaws.occ_length_le z y 0 z.length (z.length + 1)
  have parts : (Builtin.Str.partsBetween z (Builtin.Str.occurrences z y 0 z.length (z.length + 1)) y.length).length ≤ sizeLine := by
    rw [length_partsBetween]; omega
  have fin : ∀ (l : List (Str × Tok)) (tk : Nat), l.length ≤ sizeLine → l.map (·.1) = Txt.split z y → EP X pins σ Q (.ref s.heap.objs.size) { s with toks := tk, heap := s.heap.push { cls := .type "list", data := .seq (strValues l).toArray } } := by
    intro l tk hl e
    have hv := vals_sv l
    rw [e] at hv
    have hlen : ((Txt.split z y).map V.str).length ≤ sizeLine := by rw [← e, List.length_map, List.length_map]; exact hl
    exact ⟨.ref s.heap.objs.size, _, I.laid (o := .lst ((Txt.split z y).map V.str)) (t' := tk) (fun b o g => Heap.get?_push_of_some _ g) (Nat.le_refl _) ⟨hlen, _, _, hv, Heap.get?_push_size _ rfl⟩, rfl, q _ (I.hok.fresh (Nat.le_refl _))⟩
  by_cases h1 : (decide (z.length < y.length) || decide (Builtin.Str.strKind z < Builtin.Str.strKind y)) = true
  · refine call_meets F.slot_str_split (typeIs_str _ _ _) F.entry_str_split (F.args_str_split_2 _ _) (meets_str_split_cannot_occur z y t k h1) ?_
    refine fin [(z, t)] s.toks (show 1 ≤ sizeLine by decide) ?_
    unfold Txt.split
    rw [if_pos h1]; rfl
  · have h1' := Bool.eq_false_iff.mpr h1
    by_cases hf : (Builtin.Str.occurrences z y 0 z.length (z.length + 1)).isEmpty = true
    · refine call_meets F.slot_str_split (typeIs_str _ _ _) F.entry_str_split (F.args_str_split_2 _ _) (meets_str_split_not_found z y t k h1' hy hf) ?_
      refine fin [(z, t)] s.toks (show 1 ≤ sizeLine by decide) ?_
      unfold Txt.split
      rw [if_neg h1, if_pos hf]; rfl
    · have hf' := Bool.eq_false_iff.mpr hf
      refine call_meets F.slot_str_split (typeIs_str _ _ _) F.entry_str_split (F.args_str_split_2 _ _) (meets_str_split_sep z y t k h1' hy hf' (by omega) parts) ?_
      have g := fin (numbered s.toks (Builtin.Str.partsBetween z (Builtin.Str.occurrences z y 0 z.length (z.length + 1)) y.length)) (s.toks + (Builtin.Str.partsBetween z (Builtin.Str.occurrences z y 0 z.length (z.length + 1)) y.length).length) (by
        have := congrArg List.length (numbered_texts s.toks (Builtin.Str.partsBetween z (Builtin.Str.occurrences z y 0 z.length (z.length + 1)) y.length))
        rw [List.length_map] at this
        omega) (by rw [numbered_texts]; unfold Txt.split; rw [if_neg h1, if_neg hf])
      rw [← strsFrom_eq] at g
      exact g

def rStr : List V → Hp → VK → Prop := fun xs H Q => (∃ i : Int, xs = [.int i] ∧ i.natAbs.log2 < 1920 ∧ Q (.str (toString i)) H) ∨ ∃ z, xs = [.str z] ∧ Q (.str z) H
theorem call_strA : CallR X (.type "str") rStr := by
  intro pins s σ H xs us Q I r h
  rcases h with ⟨i, rfl, hz, q⟩ | ⟨z, rfl, q⟩
  · exact call_str_int pins s σ H _ us Q I r ⟨i, rfl, hz, q⟩
  · obtain ⟨u, rfl, t, rfl⟩ := vals1 r
    exact PySem.P.str_of_str ⟨.str z, H, I, ⟨t, rfl⟩, q⟩
end

section
variable {X : Cx} {elts : List Expr} {x1 : Nat} {tp p pos : Pos} {a b : Expr} {ta : TA}
abbrev ItzTL (K : PySem.W.Frag) (a b : Addr) : It := Itz (fun i H => ∃ xs x, SqT K H a xs ∧ xs[i]? = some x) (fun i H => ∃ xs x, SqL K H b xs ∧ xs[i]? = some x) (fun i H => ∃ xs, SqT K H a xs ∧ xs.length ≤ i) (fun i H => ∃ xs, SqL K H b xs ∧ xs.length ≤ i)
  (fun i H x => ∀ xs, SqT K H a xs → xs[i]? = some x) (fun i H x => ∀ xs, SqL K H b xs → xs[i]? = some x)
def iZipTL (K : PySem.W.Frag) (ta : TA) : TI := fun σ H R => ta σ H fun vs H1 => ∃ a b, vs = [.ref a, .ref b] ∧ (∃ xs, SqT K H1 a xs) ∧ (∃ xs, SqL K H1 b xs) ∧ R (ItzTL K a b) H1
theorem pi_zipTL (hg : Gl X "zip") (hm : X.mg "zip" = none) (ha : PA X [a, b] ta) (hs : starEach [a, b] X.env = [(false, eval a X.env), (false, eval b X.env)] := by rfl) (hs2 : starEach [b] X.env = [(false, eval b X.env)] := by rfl) :
    PI X (.Tuple elts x1 tp) (.Call (.Name "zip" p) [a, b] [] pos) (iZipTL X.K ta) := by
  intro pins s σ H R I h
  refine Call_ (ld_blt I hg hm bt_zip (PyProof.Rows.callWith_type1 (thn (ha pos pins s σ H _ I h) fun us s1 ⟨vs, H1, I1, r1, q1⟩ => ?_) (by rw [hs, hs2]) (by rw [hs2]; rfl)))
  obtain ⟨c, d, rfl, ⟨xs, hx⟩, ⟨ys, hy⟩, q⟩ := q1
  obtain ⟨u, u', rfl, ru, ru'⟩ := vals2 r1
  cases ru; cases ru'
  obtain ⟨its, rv, p1, _⟩ := I1.tuple hx
  obtain ⟨its2, rv2, p2, _⟩ := I1.list hy
  exact zip_pi (U := fun h => h.IsTuple c its.toArray ∧ h.IsList d its2.toArray) I1 ⟨p1, p2.isList⟩ (fun h o ⟨⟨oc, e, r⟩, ⟨od, e', r'⟩⟩ => ⟨⟨oc, Heap.get?_push_of_some _ e, r⟩, ⟨od, Heap.get?_push_of_some _ e', r'⟩⟩)
    (fun prog w A Q E s hu hQ => wpAny_pyIter_tuple hu.1 hQ) (fun prog w A Q E s hu hQ => wpAny_pyIter_list hu.2 hQ) (sub_tup c _) (sub_lst d _) (fun h e => ⟨_, e, rfl, rfl⟩) (fun h e => ⟨_, e, rfl, rfl⟩) rfl rfl q
theorem zipTL_steps {K : PySem.W.Frag} {a b : Addr} {xs ys : List V} {H : Hp} {i : Nat} (ha : SqT K H a xs) (hb : SqL K H b ys) (hl : xs.length = ys.length) :
    (i < xs.length → (ItzTL K a b).go i H ∧ ∀ v H', (ItzTL K a b).yld i H v H' → ∃ p, v = .ref p ∧ H p = none ∧ H' = upd H p (.tup [xs.getD i .non, ys.getD i .non])) ∧ (xs.length ≤ i → (ItzTL K a b).stop i H) := by
  refine ⟨fun hi => ⟨⟨⟨xs, xs[i], ha, by simp [hi]⟩, ⟨ys, ys[i]'(by omega), hb, by simp [hl ▸ hi]⟩⟩, fun v H' ⟨p, x, y, e1, e2, e3, e4, e5⟩ => ⟨p, e1, e2, ?_⟩⟩, fun hi => .inl ⟨xs, ha, hi⟩⟩
  rw [e3, List.getD_eq_getElem?_getD, List.getD_eq_getElem?_getD, e4 xs ha, e5 ys hb]; rfl
end

theorem split_ne (z y : Str) : Txt.split z y ≠ [] := by
  unfold Txt.split
  split
  · exact List.cons_ne_nil _ _
  · split
    · exact List.cons_ne_nil _ _
    · intro h
      have := congrArg List.length h
      rw [length_partsBetween] at this
      simp at this
end L2

namespace M
open PySem L2
def top (i : Nat) : Stmt := PySem.Challenge.pw_manrent_k51_rows_read_or_refused.main.body.getD i (.Pass ⟨0, 0, 0, 0⟩)
abbrev sName : Stmt := top 11
abbrev sWell : Stmt := top 12
abbrev sFits : Stmt := top 13
abbrev sPcs : Stmt := top 17
abbrev sPc : Stmt := top 18
abbrev sNum : Stmt := top 19
abbrev sNm : Stmt := top 20
abbrev sRead : Stmt := top 22
abbrev sRowOf : Stmt := top 23
abbrev sFeed : Stmt := top 25
abbrev sSame : Stmt := top 26
abbrev sNames : Stmt := top 27
abbrev sKinds : Stmt := top 28
abbrev sShapes : Stmt := top 29
abbrev sNamed : Stmt := top 30
abbrev sGood : Stmt := top 31
abbrev sAny : Stmt := top 32
abbrev sWordOf : Stmt := top 33
abbrev sTextOf : Stmt := top 34
abbrev sNumL : Stmt := top 35
abbrev sReadL : Stmt := top 36
abbrev sSign : Stmt := top 37
abbrev sBent : Stmt := top 38
abbrev sWhyT : Stmt := top 39
abbrev sLaw : Stmt := top 40

theorem same_new {H : Hp} {p : Addr} (h : H p = none) (o : HO) : Same H (upd H p o) := fun b u q => by rw [upd_ne (ne_of_none q h)]; exact q
theorem same_upd {H H2 : Hp} {l : Addr} {o : HO} (s : Same H H2) (h : H l = none) : Same H (upd H2 l o) := fun b u q => by rw [upd_ne (ne_of_none q h)]; exact s b u q
theorem small {n : Nat} (h : n ≤ 1000000) : n ≤ sizeLine := Nat.le_trans h (by decide)
theorem small' {n : Nat} (h : n < 1000000) : n < sizeLine := Nat.lt_of_lt_of_le h (by decide)

def Okn (v : Int) : Prop := 0 ≤ v ∧ v < 1000003
theorem ok_app {fs : List Int} {v : Int} (h : ∀ x ∈ fs, Okn x) (hv : Okn v) : ∀ x ∈ fs ++ [v], Okn x := fun x hx => by
  rcases List.mem_append.mp hx with z | z
  · exact h x z
  · rw [List.mem_singleton.mp z]; exact hv
theorem map_app (fs : List Int) (v : Int) : fs.map V.int ++ [V.int v] = (fs ++ [v]).map V.int := by simp

def spFeed (K : PySem.W.Frag) : Sp := fun vs H Q _ => ∃ (a : Addr) (ns : List Int) (many : Int), vs = [.ref a, .int many] ∧ SqL K H a (ns.map V.int) ∧ ns.length ≤ 63 ∧ 0 ≤ many ∧ many ≤ 100000 ∧
  ∀ (r : Addr) (H' : Hp) (fs : List Int), Same H H' → H r = none → H' r = some (.lst (fs.map V.int)) → (fs.length : Int) = many → (∀ v ∈ fs, Okn v) → Q (.ref r) H'
section
variable {P : Program} {w : World} {K : PySem.W.Frag} {mg : Str → Option Value} {base : Heap} {f : Addr} {fd : FuncData}
theorem scFeed : FnScope ["_law_script", "_law_many", "_law_feed_here", "_law_salt", "_law_cell", "_law_rest", "_law_k"] ["_law_script", "_law_many"] (defScope sFeed) := ⟨rfl, rfl, rfl, by decide +kernel, rfl, by decide +kernel, by decide +kernel⟩
theorem ok_feed (F : Fun K "_law_feed" "_law_feed" sFeed f fd) (mr : mg "range" = none) (ml : mg "len" = none) : FnOk P w K mg base CX0 1 f fd ["_law_script", "_law_many"] (spFeed K) := by
  refine F.ok scFeed (fun vs H Q E h => ?_) (fun cdv A outer s H vs Q E hr h => ?_)
  · obtain ⟨a, ns, many, rfl, _⟩ := h
    rfl
  obtain ⟨a, ns, many, rfl, hS, h63, hm0, hm1, k⟩ := h
  refine ⟨_, pss_cons (ps_set (i := 2) scFeed.nd rfl (Or.inl rfl) (pe_lst pa_nil))
    (pss_cons (ps_set (i := 3) scFeed.nd rfl (Or.inl rfl) pe_int)
    (pss_cons (ps_for PassesOwn.never rfl (pi_list (pe_slice sl_list (pv 0) po_none (po_some pe_int))) (pg_name (i := 4) scFeed.nd rfl (Or.inl rfl))
      (pss_cons (ps_set (i := 3) scFeed.nd rfl (Or.inl rfl) (pe_op op_mod (pe_op op_add (pe_op op_add (pe_op op_mul (pv 3) pe_int) (pe_op op_mod (pv 4) pe_int)) pe_int) pe_int))
      (pss_cons (ps_set (i := 5) scFeed.nd rfl (Or.inl rfl) (pe_op op_sub (pv 4) (pe_op op_pow pe_int pe_int)))
      (pss_cons (ps_if (pt_cmpR op_lt (pv 5) pe_int (nomark _))
          (pss_one (ps_expr (pe_bm PySem.F.plainAttrs_list PySem.F.slot_list_append PySem.F.type_list_append mt_append (pv 2) (pa_cons (pe_op op_mod (pv 4) pe_int) pa_nil)))) pss_nil)
      (pss_one (ps_for PassesOwn.never rfl (pi_range1 rfl mr (pa_cons pe_int pa_nil)) (pg_name (i := 6) scFeed.nd rfl (Or.inl rfl))
        (pss_one (ps_if (pt_cmpR op_gt (pv 5) pe_int (nomark _))
          (pss_cons (ps_expr (pe_bm PySem.F.plainAttrs_list PySem.F.slot_list_append PySem.F.type_list_append mt_append (pv 2) (pa_cons (pe_op op_mod (pv 5) pe_int) pa_nil)))
          (pss_one (ps_set (i := 5) scFeed.nd rfl (Or.inl rfl) (pe_op op_fdiv (pv 5) pe_int)))) pss_nil))))))))
    (pss_cons (ps_for PassesOwn.never rfl (pi_range1 rfl mr (pa_cons (pe_op op_sub (pv 1) (pe_callB call_len_seq rfl ml PySem.boot_len (pa_cons (pv 2) pa_nil))) pa_nil)) (pg_name (i := 6) scFeed.nd rfl (Or.inl rfl))
      (pss_cons (ps_set (i := 3) scFeed.nd rfl (Or.inl rfl) (pe_op op_mod (pe_op op_add (pe_op op_add (pe_op op_add (pe_op op_mul (pe_op op_mul (pv 3) (pv 3)) (pv 3)) (pe_op op_mul pe_int (pv 3))) (pe_op op_mul pe_int (pv 6))) pe_int) pe_int))
      (pss_one (ps_expr (pe_bm PySem.F.plainAttrs_list PySem.F.slot_list_append PySem.F.type_list_append mt_append (pv 2) (pa_cons (pe_op op_mod (pe_op op_fdiv (pv 3) pe_int) pe_int) pa_nil))))))
    (pss_one (ps_ret (pe_slice sl_list (pv 2) po_none (po_some (pv 1)))))))), ?_⟩
  refine ⟨small (by simp), fun l hl => ?_⟩
  have s1 : Same H (upd H l (.lst [])) := same_new hl _
  refine ⟨_, rfl, _, rfl, a, _, rfl, s1.seq hS, fun p hp => ?_⟩

  have npl : p ≠ l := fun e => by rw [e, upd_same] at hp; cases hp
  have hp0 : H p = none := by rw [upd_ne npl] at hp; exact hp
  refine ⟨p, rfl, ⟨_, SqL.of upd_same⟩, for_list (K := K) (a := p) (xs := cutV (ns.map V.int) none (some 63)) (fun i σ H2 => ∃ (fs : List Int) (salt : Int) (c r k : Option V), σ = [some (.ref a), some (.int many), some (.ref l), some (.int salt), c, r, k] ∧ Same H H2 ∧
      H2 p = some (.lst (cutV (ns.map V.int) none (some 63))) ∧ H2 l = some (.lst (fs.map V.int)) ∧ fs.length ≤ 61 * i ∧ (∀ v ∈ fs, Okn v) ∧ 0 ≤ salt ∧ salt < 2147483647)
    ⟨[], 29, none, none, none, rfl, same_upd s1 hp0, upd_same, by rw [upd_ne (Ne.symm npl), upd_same]; rfl, Nat.zero_le _, (fun v hv => nomatch hv), by decide, by decide⟩ (fun i σ H2 _ ⟨_, _, _, _, _, _, _, hq, _⟩ => SqL.of hq) ?_ ?_⟩
  · rintro i y σ H2 hi ⟨fs, salt, c, r, kk, rfl, s2, hq, hL, hlen, hok, z0, z1⟩
    have hil : i < (cutV (ns.map V.int) none (some 63)).length := (List.getElem?_eq_some_iff.mp hi).1
    have hcl := cutV_length (ns.map V.int) none (some 63)
    rw [List.length_map] at hcl
    obtain ⟨cell, rfl⟩ : ∃ z, y = V.int z := by
      have hm : y ∈ cutV (ns.map V.int) none (some 63) := List.mem_of_getElem? hi
      have hm2 : y ∈ ns.map V.int := List.mem_of_mem_drop (List.mem_of_mem_take hm)
      obtain ⟨z, _, rfl⟩ := List.mem_map.mp hm2
      exact ⟨z, rfl⟩
    refine ⟨_, rfl, _, _, rfl, rfl, .inl ⟨by omega, by omega⟩, _, rfl, _, _, rfl, rfl, (by show (0 : Int) < 2147483629; decide), _, _, rfl, rfl, _, _, rfl, rfl, _, _, rfl, rfl, (by show (0 : Int) < 2147483647; decide), ?_⟩
    refine ⟨_, rfl, _, _, rfl, rfl, ⟨by decide, by decide, by decide⟩, _, _, rfl, rfl, ?_⟩
    have z0' : 0 ≤ (salt * 69621 + cell % 2147483629 + 11) % 2147483647 := Int.emod_nonneg _ (by decide)
    have z1' : (salt * 69621 + cell % 2147483629 + 11) % 2147483647 < 2147483647 := Int.emod_lt_of_pos _ (by decide)
    refine ⟨_, rfl, _, _, rfl, rfl, _, rfl, ?_⟩
    refine ite2 (fun c => ?_) (fun c => ?_)
    · refine ⟨_, rfl, .inl ⟨rfl, _, SqL.of hL⟩, _, rfl, _, _, rfl, rfl, (by show (0 : Int) < 1000003; decide), l, _, _, rfl, rfl, hL, (by rw [List.length_map]; exact small' (by omega)), ?_⟩
      have hgs : ∃ gs : List Int, (upd H2 l (.lst (fs.map V.int ++ [V.int (cell % 1000003)]))) l = some (.lst (gs.map V.int)) ∧ gs.length ≤ 61 * i + 1 ∧ ∀ v ∈ gs, Okn v :=
        ⟨fs ++ [cell % 1000003], by rw [upd_same, map_app], by rw [List.length_append, List.length_singleton]; omega, ok_app hok ⟨Int.emod_nonneg _ (by decide), Int.emod_lt_of_pos _ (by decide)⟩⟩
      have s3 : Same H (upd H2 l (.lst (fs.map V.int ++ [V.int (cell % 1000003)]))) := same_upd s2 hl
      have hq3 : (upd H2 l (.lst (fs.map V.int ++ [V.int (cell % 1000003)]))) p = some (.lst (cutV (ns.map V.int) none (some 63))) := by rw [upd_ne npl]; exact hq
      generalize upd H2 l (.lst (fs.map V.int ++ [V.int (cell % 1000003)])) = H3 at hgs s3 hq3
      obtain ⟨gs, hL3, hg1, hg2⟩ := hgs
      refine ⟨60, rfl, by decide, by decide, for_range (lo := 0) (n := 60) (fun j σ H4 => ∃ (hs : List Int) (rest salt' : Int) (k : Option V), σ = [some (.ref a), some (.int many), some (.ref l), some (.int salt'), some (.int cell), some (.int rest), k] ∧ 0 ≤ salt' ∧ salt' < 2147483647 ∧ Same H H4 ∧
        H4 p = some (.lst (cutV (ns.map V.int) none (some 63))) ∧ H4 l = some (.lst (hs.map V.int)) ∧ hs.length ≤ 61 * i + 1 + j ∧ (∀ v ∈ hs, Okn v)) ⟨gs, _, _, kk, rfl, z0', z1', s3, hq3, hL3, hg1, hg2⟩ ?_ ?_⟩
      · rintro j σ H4 hj ⟨hs, rest, salt', k', rfl, x0, x1, s4, hq4, hL4, hh1, hh2⟩
        refine ⟨_, rfl, _, _, rfl, rfl, _, rfl, ?_⟩
        refine ite2 (fun c => ?_) (fun c => ?_)
        · refine ⟨_, rfl, .inl ⟨rfl, _, SqL.of hL4⟩, _, rfl, _, _, rfl, rfl, (by show (0 : Int) < 1009; decide), l, _, _, rfl, rfl, hL4, (by rw [List.length_map]; exact small' (by omega)), ?_⟩
          refine ⟨_, rfl, _, _, rfl, rfl, ⟨by decide, by decide⟩, ?_⟩
          exact ⟨hs ++ [rest % 1009], _, _, _, rfl, x0, x1, same_upd s4 hl, by rw [upd_ne npl]; exact hq4, by rw [upd_same, map_app], by rw [List.length_append, List.length_singleton]; omega,
            ok_app hh2 ⟨Int.emod_nonneg _ (by decide), by have := Int.emod_lt_of_pos rest (show (0 : Int) < 1009 by decide); omega⟩⟩
        · exact ⟨hs, _, _, _, rfl, x0, x1, s4, hq4, hL4, by omega, hh2⟩
      · rintro σ H4 ⟨hs, rest, salt', k', rfl, x0, x1, s4, hq4, hL4, hh1, hh2⟩
        exact ⟨hs, _, _, _, _, rfl, s4, hq4, hL4, by omega, hh2, x0, x1⟩
    · obtain ⟨gs, hL3, hg1, hg2⟩ : ∃ gs : List Int, H2 l = some (.lst (gs.map V.int)) ∧ gs.length ≤ 61 * i + 1 ∧ ∀ v ∈ gs, Okn v := ⟨fs, hL, by omega, hok⟩
      refine ⟨60, rfl, by decide, by decide, for_range (lo := 0) (n := 60) (fun j σ H4 => ∃ (hs : List Int) (rest salt' : Int) (k : Option V), σ = [some (.ref a), some (.int many), some (.ref l), some (.int salt'), some (.int cell), some (.int rest), k] ∧ 0 ≤ salt' ∧ salt' < 2147483647 ∧ Same H H4 ∧
        H4 p = some (.lst (cutV (ns.map V.int) none (some 63))) ∧ H4 l = some (.lst (hs.map V.int)) ∧ hs.length ≤ 61 * i + 1 + j ∧ (∀ v ∈ hs, Okn v)) ⟨gs, _, _, kk, rfl, z0', z1', s2, hq, hL3, hg1, hg2⟩ ?_ ?_⟩
      · rintro j σ H4 hj ⟨hs, rest, salt', k', rfl, x0, x1, s4, hq4, hL4, hh1, hh2⟩
        refine ⟨_, rfl, _, _, rfl, rfl, _, rfl, ?_⟩
        refine ite2 (fun c => ?_) (fun c => ?_)
        · refine ⟨_, rfl, .inl ⟨rfl, _, SqL.of hL4⟩, _, rfl, _, _, rfl, rfl, (by show (0 : Int) < 1009; decide), l, _, _, rfl, rfl, hL4, (by rw [List.length_map]; exact small' (by omega)), ?_⟩
          refine ⟨_, rfl, _, _, rfl, rfl, ⟨by decide, by decide⟩, ?_⟩
          exact ⟨hs ++ [rest % 1009], _, _, _, rfl, x0, x1, same_upd s4 hl, by rw [upd_ne npl]; exact hq4, by rw [upd_same, map_app], by rw [List.length_append, List.length_singleton]; omega,
            ok_app hh2 ⟨Int.emod_nonneg _ (by decide), by have := Int.emod_lt_of_pos rest (show (0 : Int) < 1009 by decide); omega⟩⟩
        · exact ⟨hs, _, _, _, rfl, x0, x1, s4, hq4, hL4, by omega, hh2⟩
      · rintro σ H4 ⟨hs, rest, salt', k', rfl, x0, x1, s4, hq4, hL4, hh1, hh2⟩
        exact ⟨hs, _, _, _, _, rfl, s4, hq4, hL4, by omega, hh2, x0, x1⟩
  · rintro σ H2 ⟨fs, salt, c, r, kk, rfl, s2, hq, hL, hlen, hok, z0, z1⟩
    have hcl := cutV_length (ns.map V.int) none (some 63)
    rw [List.length_map] at hcl
    refine ⟨_, rfl, _, rfl, l, _, rfl, .inl (SqL.of hL), _, _, rfl, rfl, many - (fs.length : Int), (by rw [List.length_map]), by omega, by omega, ?_⟩
    refine for_range (lo := 0) (n := (many - (fs.length : Int)).toNat) (fun j σ H4 => ∃ (hs : List Int) (salt : Int) (k : Option V), σ = [some (.ref a), some (.int many), some (.ref l), some (.int salt), c, r, k] ∧ Same H H4 ∧
        H4 l = some (.lst (hs.map V.int)) ∧ hs.length = fs.length + j ∧ (∀ v ∈ hs, Okn v) ∧ 0 ≤ salt ∧ salt < 2147483647) ⟨fs, salt, kk, rfl, s2, hL, rfl, hok, z0, z1⟩ ?_ ?_
    · rintro j σ H4 hj ⟨hs, salt, k', rfl, s4, hL4, hh1, hh2, y0, y1⟩
      refine ⟨_, rfl, _, rfl, _, _, rfl, rfl, .inl ⟨by omega, by omega⟩, _, rfl, _, _, rfl, rfl, .inr ⟨by omega, by omega⟩, _, rfl, _, _, rfl, rfl, .inl ⟨by decide, by decide⟩, _, _, rfl, rfl, _, rfl, _, _, rfl, rfl, .inl ⟨by decide, by decide⟩, _, _, rfl, rfl, _, _, rfl, rfl, _, _, rfl, rfl, (by show (0 : Int) < 2147483629; decide), ?_⟩
      refine ⟨_, rfl, .inl ⟨rfl, _, SqL.of hL4⟩, _, rfl, _, _, rfl, rfl, ⟨by decide, by decide⟩, _, _, rfl, rfl, (by show (0 : Int) < 1009; decide), l, _, _, rfl, rfl, hL4, (by rw [List.length_map]; exact small' (by omega)), ?_⟩
      refine ⟨hs ++ [_], _, _, rfl, same_upd s4 hl, by rw [upd_same, map_app], by rw [List.length_append, List.length_singleton]; omega, ok_app hh2 ⟨Int.emod_nonneg _ (by decide), ?_⟩, Int.emod_nonneg _ (by decide), ?_⟩
      · have := Int.emod_lt_of_pos ((salt * salt * salt + 48271 * salt + 13 * (0 + (j : Int)) + 5) % 2147483629 / 1013) (show (0 : Int) < 1009 by decide)
        omega
      · have := Int.emod_lt_of_pos (salt * salt * salt + 48271 * salt + 13 * (0 + (j : Int)) + 5) (show (0 : Int) < 2147483629 by decide)
        omega
    · rintro σ H4 ⟨hs, salt, k', rfl, s4, hL4, hh1, hh2, y0, y1⟩
      refine ⟨_, rfl, _, rfl, many, rfl, l, _, rfl, SqL.of hL4, fun q hq' => ?_⟩
      have hcut : cutV (hs.map V.int) none (some many) = (hs.take many.toNat).map V.int := by
        unfold cutV
        have e1 : HT.sIx (hs.map V.int).length 0 none = 0 := rfl
        have e2 : HT.sIx (hs.map V.int).length (hs.map V.int).length (some many) = min many.toNat (hs.map V.int).length := by
          have em : many = ((many.toNat : Nat) : Int) := by omega
          generalize many.toNat = mm at em ⊢
          rw [em, HT.sIx_nat]
        rw [e1, e2, List.drop_zero, List.map_take, Nat.sub_zero, List.length_map]
        rw [List.take_eq_take_iff, List.length_map]
        omega
      refine k q _ (hs.take many.toNat) (same_upd s4 (s4.free hq')) (s4.free hq') (by rw [upd_same, hcut]) ?_ fun v hv => hh2 v (List.mem_of_mem_take hv)
      rw [List.length_take]
      omega
end

theorem sg_lt (a b : Nat) : decide ((mkS [a]).cps.toList < [b]) = decide (a < b) := by
  simp [List.cons_lt_cons_iff]
theorem sg_gt (a b : Nat) : decide ([b] < (mkS [a]).cps.toList) = decide (b < a) := by
  simp [List.cons_lt_cons_iff]
def az : Str := "abcdefghijklmnopqrstuvwxyz"
def low (c : Nat) : Bool := decide (97 ≤ c) && decide (c ≤ 122)
theorem in_az' : ∀ c : _root_.Fin 128, (!(Builtin.Str.occurrences az (mkS [c.val]) 0 az.length 1).isEmpty) = low c.val := by decide +kernel
theorem in_az {c : Nat} (h : c < 128) : (!(Builtin.Str.occurrences az (mkS [c]) 0 az.length 1).isEmpty) = low c := in_az' ⟨c, h⟩

def nameB (l : List Nat) : Bool := l.all low && (decide (1 ≤ l.length) && decide (l.length ≤ 8))
section
variable {P : Program} {w : World} {K : PySem.W.Frag} {mg : Str → Option Value} {base : Heap} {f : Addr} {fd : FuncData}
structure Ms (K : PySem.W.Frag) (mg : Str → Option Value) (x : Str) (g : Addr) (gd : FuncData) (ps : List Str) : Prop where
  b : Binds K gd ps []
  k : PySem.W.keepIn K (.ref g) = true
  m : mg x = some (.ref g)
theorem at_some {α : Type} {xs : List α} {i : Int} (h0 : 0 ≤ i) (h1 : i < xs.length) : ∃ v, atI xs i = some v ∧ v ∈ xs := by
  have hi : i.toNat < xs.length := by omega
  have e : i = ((i.toNat : Nat) : Int) := by omega
  refine ⟨xs[i.toNat], ?_, List.getElem_mem hi⟩
  have q : atI xs ((i.toNat : Nat) : Int) = some xs[i.toNat] := atI_nat (by simp [hi])
  rw [← e] at q
  exact q
theorem join_signs (cs : List Nat) : (Txt.join (Str.ofString "") (cs.map fun c => mkS [c])) = mkS cs := by
  have e : (Str.ofString "").cps = #[] := by decide +kernel
  have fo : ∀ (ds : List Nat) (acc : Array Nat), (ds.map fun c => mkS [c]).foldl (fun acc p => acc ++ (Str.ofString "").cps ++ p.cps) acc = acc ++ ds.toArray := by
    intro ds
    induction ds with
    | nil => intro acc; simp
    | cons d r ih =>
      intro acc
      rw [List.map_cons, List.foldl_cons, ih, e]
      simp
  show Builtin.Str.glued (Str.ofString "") (cs.map fun c => mkS [c]) = _
  cases cs with
  | nil => rfl
  | cons c r =>
    unfold Builtin.Str.glued
    rw [List.map_cons, List.drop_one, List.tail_cons, fo, List.headD_cons]
    simp [mkS]
theorem join_ok {cs : List Nat} (h : cs.length ≤ 1000) : JoinOk (Str.ofString "") (cs.map fun c => mkS [c]) = true := by
  have e : (Str.ofString "").length = 0 := by decide +kernel
  have fo : ∀ (ds : List Nat) (n : Nat), (ds.map fun c => mkS [c]).foldl (fun a p => a + p.length + (Str.ofString "").length) n = n + ds.length := by
    intro ds
    induction ds with
    | nil => intro n; simp
    | cons d r ih =>
      intro n
      rw [List.map_cons, List.foldl_cons, ih, e, mkS_len]
      simp; omega
  unfold JoinOk
  rw [List.foldl_toArray', fo]
  · unfold Builtin.Str.tooLong
    have := small (n := cs.length) (by omega)
    simp; omega
  · rfl
theorem app_list (x y : Str) : (x ++ y).cps.toList = x.cps.toList ++ y.cps.toList := by
  show (x.cps ++ y.cps).toList = _
  simp
theorem app_len (x y : Str) : (x ++ y).length = x.length + y.length := by
  have e : ∀ z : Str, z.length = z.cps.toList.length := fun z => by simp [Str.length]
  rw [e, e, e, app_list, List.length_append]
theorem cutG_length {α : Type} (xs : List α) (lo hi : Option Int) : (cutG xs lo hi).length ≤ xs.length := by
  unfold cutG
  rw [List.length_take, List.length_drop]
  omega
theorem cutG_mem {α : Type} {xs : List α} {lo hi : Option Int} {x : α} (h : x ∈ cutG xs lo hi) : x ∈ xs := List.mem_of_mem_drop (List.mem_of_mem_take h)
theorem fs_at {fs : List Int} (h : ∀ v ∈ fs, Okn v) {i : Int} (h0 : 0 ≤ i) (h1 : i < fs.length) : ∃ v : Int, atI (fs.map V.int) i = some (.int v) ∧ Okn v := by
  obtain ⟨x, e, m⟩ := at_some (xs := fs.map V.int) h0 (by rw [List.length_map]; exact h1)
  obtain ⟨v, hv, rfl⟩ := List.mem_map.mp m
  exact ⟨v, e, h v hv⟩
def spName : Sp := fun vs H Q _ => ∃ z : Str, vs = [.str z] ∧ z.length ≤ 1000 ∧ Q (.bl (nameB z.cps.toList)) H
theorem scName : FnScope ["text", "sign"] ["text"] (defScope sName) := ⟨rfl, rfl, rfl, by decide +kernel, rfl, by decide +kernel, by decide +kernel⟩
theorem ok_name (F : Fun K "is_name" "is_name" sName f fd) {tL : Tok} (mL : mg "LONGEST_NAME" = some (.int 8 tL)) (ml : mg "len" = none) : FnOk P w K mg base CX0 1 f fd ["text"] spName := by
  refine F.ok scName (fun vs H Q E h => ?_) (fun cdv A outer s H vs Q E hr h => ?_)
  · obtain ⟨z, rfl, _⟩ := h
    rfl
  obtain ⟨z, rfl, hz, k⟩ := h
  refine ⟨_, pss_cons (ps_for PassesOwn.never rfl (pi_str (pv 0)) (pg_name (i := 1) scName.nd rfl (Or.inl rfl))
      (pss_one (ps_if (pw_or (pt_cmpR op_lt_str (pv 1) pe_str (nomark _)) (pw_or1 (pt_cmpR op_gt_str (pv 1) pe_str (nomark _)))).pt (pss_one (ps_ret pe_bl)) pss_nil)))
    (pss_one (ps_ret (pe_chain op_le op_le pe_int (pe_callB call_len_str rfl ml PySem.boot_len (pa_cons (pv 0) pa_nil)) (pe_glob rfl mL ⟨_, rfl⟩ (v := .int 8))))), ?_⟩
  refine ⟨_, rfl, z, rfl, for_str (x := z) (fun i σ H2 => (∃ v, σ = [some (.str z), v]) ∧ H2 = H ∧ (z.cps.toList.take i).all low = true) ⟨⟨none, rfl⟩, rfl, by simp⟩ ?_ ?_⟩
  · rintro i c σ H2 hc ⟨⟨v, rfl⟩, rfl, ha⟩
    have hzl : z.cps.toList.all low = true → low c = true := fun h => List.all_eq_true.mp h c (List.mem_of_getElem? hc)
    have e1 : decide ((mkS [c]).cps.toList < (("a" : Str)).cps.toList) = decide (c < 97) := sg_lt c 97
    have e2 : decide ((("z" : Str)).cps.toList < (mkS [c]).cps.toList) = decide (122 < c) := sg_gt c 122
    have no : low c = false → nameB z.cps.toList = false := fun h => by
      unfold nameB
      cases q : z.cps.toList.all low with
      | false => rfl
      | true => rw [hzl q] at h; cases h
    refine ⟨_, rfl, _, _, rfl, rfl, _, rfl, ?_⟩
    rw [e1]
    refine ite2 (fun h => ?_) (fun h => ?_)
    · have h1 := of_decide_eq_true h
      refine iteT ?_
      have : low c = false := by simp [low]; omega
      show Q (.bl false) H2
      rw [← no this]; exact k
    · have h1 := of_decide_eq_false (Bool.eq_false_iff.mpr h)
      refine ⟨_, rfl, _, _, rfl, rfl, _, rfl, ?_⟩
      rw [e2]
      refine ite2 (fun h => ?_) (fun h => ?_)
      · have h1 := of_decide_eq_true h
        have : low c = false := by simp [low]; omega
        show Q (.bl false) H2
        rw [← no this]; exact k
      · have h2 := of_decide_eq_false (Bool.eq_false_iff.mpr h)
        refine ⟨⟨_, rfl⟩, rfl, ?_⟩
        rw [List.take_add_one, hc, List.all_append, ha]
        simp [low]; omega
  · rintro σ H2 ⟨⟨v, rfl⟩, rfl, ha⟩
    rw [List.take_length] at ha
    refine ⟨_, rfl, z, rfl, small (by omega), _, _, rfl, rfl, _, rfl, ?_⟩
    have hl : z.length = z.cps.toList.length := by simp [Str.length]
    refine ite2 (fun h => ?_) (fun h => ?_)
    · have h1 := of_decide_eq_true h
      refine ⟨_, _, rfl, rfl, ?_⟩
      have e : nameB z.cps.toList = decide ((z.length : Int) ≤ 8) := by
        unfold nameB
        rw [ha, hl, decide_eq_true (show 1 ≤ z.cps.toList.length by omega), Bool.true_and, Bool.true_and]
        exact decide_eq_decide.mpr (by omega)
      show Q (.bl (decide ((z.length : Int) ≤ 8))) H2
      rw [← e]; exact k
    · have h1 := of_decide_eq_false (Bool.eq_false_iff.mpr h)
      have e : nameB z.cps.toList = false := by
        unfold nameB
        rw [decide_eq_false (show ¬ 1 ≤ z.cps.toList.length by omega)]
        simp
      show Q (.bl false) H2
      rw [← e]; exact k

end

inductive Srt where
  | d | n | c | a | s
  deriving DecidableEq
def Srt.code : Srt → Nat
  | .d => 100 | .n => 110 | .c => 99 | .a => 97 | .s => 115
def Srt.word : Srt → Str
  | .d => "day" | .n => "name" | .c => "name or crown" | .a => "acres" | .s => "service"
def Srt.num : Srt → Bool
  | .d => true | .n => false | .c => false | .a => true | .s => true
def forms : List (Str × List Srt) := [("heir", [.d, .n, .n]), ("grant", [.d, .c, .n, .n, .a, .s]), ("part", [.d, .n, .n, .n, .a]), ("convey", [.d, .n, .n]), ("liege", [.d, .n, .c]), ("surrender", [.d, .n]), ("death", [.d, .n])]
def form (k : Str) : Option (List Srt) := forms.lookup k
def shp (l : List Srt) : Str := mkS (l.map Srt.code)
def isI : V → Bool
  | .int _ => true
  | _ => false

def okV (B : Nat) (v : V) : Prop := (∃ n, v = .int n) ∨ ∃ z : Str, v = .str z ∧ z.length ≤ B ∧ ∀ c ∈ z.cps.toList, c < 128
def fitB : Srt → V → Bool
  | .d, .int n => decide (0 ≤ n) && decide (n ≤ 9999)
  | .s, .int n => decide (0 ≤ n) && decide (n ≤ 9999)
  | .a, .int n => decide (1 ≤ n) && decide (n ≤ 9999)
  | .n, .str z => nameB z.cps.toList
  | .c, .str z => decide (z = "") || nameB z.cps.toList
  | _, _ => false

def keptR (l : List Srt) (rest : List V) : Prop := ∀ (i : Nat) (s : Srt) (v : V), l[i]? = some s → rest[i]? = some v → isI v = s.num
def two (k : Str) : Bool := decide (k = "heir") || decide (k = "liege")
def fitP (p : Srt × V) : Bool := fitB p.1 p.2
def wmR (k : Str) (rest : List V) : Bool := match form k with
  | none => false
  | some l => decide (rest.length = l.length) && (((l.zip rest).all fitP) && !(two k && decide (rest[1]? = rest[2]?)))
def wm : List V → Bool
  | .str k :: rest => wmR k rest
  | _ => false

structure Row (B : Nat) (k : Str) (rest : List V) : Prop where
  len : rest.length ≤ 9
  ok : ∀ v ∈ rest, okV B v
  kept : ∀ l, form k = some l → keptR l rest
def goodX (xs : List V) (_ : Hp) : Prop := ∃ k rest, xs = .str k :: rest ∧ Row 1000 k rest
theorem form_cases {k : Str} {l : List Srt} (h : form k = some l) : (k, l) ∈ forms := by
  unfold form at h
  revert h
  generalize forms = fs
  induction fs with
  | nil => intro h; cases h
  | cons p r ih =>
    obtain ⟨k', l'⟩ := p
    intro h
    rw [List.lookup_cons] at h
    by_cases e : k = k'
    · subst e
      simp at h
      subst h
      exact List.mem_cons_self
    · have e' : (k == k') = false := by simpa using e
      rw [e'] at h
      exact List.mem_cons_of_mem _ (ih h)
theorem form_len {k : Str} {l : List Srt} (h : form k = some l) : 2 ≤ l.length ∧ l.length ≤ 6 := (show ∀ p ∈ forms, 2 ≤ p.2.length ∧ p.2.length ≤ 6 by decide) _ (form_cases h)
def notNum : Option Srt → Bool
  | some s => !s.num
  | none => true
theorem form_two {k : Str} {l : List Srt} (h : form k = some l) (h2 : two k = true) : l.length = 3 ∧ (∀ s, l[1]? = some s → s.num = false) ∧ ∀ s, l[2]? = some s → s.num = false := by
  have h0 : (k, l) ∈ forms := form_cases h
  have : ∀ p ∈ forms, two p.1 = true → p.2.length = 3 ∧ notNum p.2[1]? = true ∧ notNum p.2[2]? = true := by decide
  obtain ⟨a, b, c⟩ := this _ h0 h2
  refine ⟨a, fun s e => ?_, fun s e => ?_⟩
  · simp only at b; rw [e] at b; simpa [notNum] using b
  · simp only at c; rw [e] at c; simpa [notNum] using c
theorem cut1 (v : V) (rest : List V) : cutV (v :: rest) (some 1) none = rest := by
  unfold cutV
  have e1 : HT.sIx (v :: rest).length 0 (some 1) = 1 := by
    rw [show (1 : Int) = ((1 : Nat) : Int) by rfl, HT.sIx_nat]
    simp
  have e2 : HT.sIx (v :: rest).length (v :: rest).length none = (v :: rest).length := rfl
  rw [e1, e2, List.drop_one, List.tail_cons, List.take_of_length_le (by simp)]
theorem nw1 (v : V) (rest : List V) {hi : Option Int} : ¬ (HT.sIx (v :: rest).length 0 (some 1) = 0 ∧ HT.sIx (v :: rest).length (v :: rest).length hi = (v :: rest).length) := by
  have e1 : HT.sIx (v :: rest).length 0 (some 1) = 1 := by
    rw [show (1 : Int) = ((1 : Nat) : Int) by rfl, HT.sIx_nat]
    simp
  rw [e1]
  exact fun h => absurd h.1 (by decide)

def KTp (K : PySem.W.Frag) (a : Addr) (xs : List V) : Prop := ∃ (o : Obj) (its : Array Value) (n : Nat), K.lookup a = some o ∧ o.cls = .type "tuple" ∧ o.data = .seq its n ∧ its.size ≤ sizeLine ∧ Vals xs its.toList
theorem KTp.sq {K : PySem.W.Frag} {a : Addr} {xs : List V} (h : KTp K a xs) (H : Hp) : SqT K H a xs := .inr h

def scalV : V → Bool
  | .non | .bl _ | .int _ | .str _ => true
  | _ => false

def EqD (H : Hp) : Nat → V → V → Prop
  | 0, _, _ => False
  | n + 1, x, y => (x = y ∧ scalV x = true) ∨ (∃ p q xs ys, x = .ref p ∧ y = .ref q ∧ H p = some (.tup xs) ∧ H q = some (.tup ys) ∧ xs.length = ys.length ∧ xs.length ≤ 1000 ∧ ∀ (i : Nat) (x y : V), xs[i]? = some x → ys[i]? = some y → EqD H n x y) ∨
    (∃ p q xs ys, x = .ref p ∧ y = .ref q ∧ H p = some (.lst xs) ∧ H q = some (.lst ys) ∧ xs.length = ys.length ∧ xs.length ≤ 1000 ∧ ∀ (i : Nat) (x y : V), xs[i]? = some x → ys[i]? = some y → EqD H n x y)
theorem EqD.same {H H' : Hp} (s : Same H H') : ∀ {n : Nat} {x y : V}, EqD H n x y → EqD H' n x y
  | 0, _, _, h => h
  | n + 1, x, y, h => by
    rcases h with h | ⟨p, q, xs, ys, e1, e2, e3, e4, e5, e6, e7⟩ | ⟨p, q, xs, ys, e1, e2, e3, e4, e5, e6, e7⟩
    · exact .inl h
    · exact .inr (.inl ⟨p, q, xs, ys, e1, e2, s _ _ e3, s _ _ e4, e5, e6, fun i x y h1 h2 => (e7 i x y h1 h2).same s⟩)
    · exact .inr (.inr ⟨p, q, xs, ys, e1, e2, s _ _ e3, s _ _ e4, e5, e6, fun i x y h1 h2 => (e7 i x y h1 h2).same s⟩)
def spSame (n : Nat) : Sp := fun vs H Q _ => ∃ x y, vs = [x, y] ∧ EqD H n x y ∧ ∀ H', Same H H' → Q (.bl true) H'
structure MgS (mg : Str → Option Value) : Prop where
  isi : mg "isinstance" = none
  bool : mg "bool" = none
  int : mg "int" = none
  str : mg "str" = none
  list : mg "list" = none
  tuple : mg "tuple" = none
  len : mg "len" = none
  all : mg "all" = none
  zip : mg "zip" = none
section
variable {P : Program} {w : World} {K : PySem.W.Frag} {mg : Str → Option Value} {base : Heap} {f : Addr} {fd : FuncData}
theorem scSame : FnScope ["_law_found", "_law_due"] ["_law_found", "_law_due"] (defScope sSame) := ⟨rfl, rfl, rfl, by decide +kernel, rfl, by decide +kernel, by decide +kernel⟩
def scS1 : Scope := { kind := .function, names := [(".0", .local), ("_law_one", .local), ("_law_other", .local), ("_law_same", .globalImplicit)], isGenerator := false, isCoroutine := false }
theorem csS1 : CScope ["_law_found", "_law_due"] (defScope sSame) scS1 ["_law_one", "_law_other"] [] [] := ⟨rfl, by decide +kernel, by decide +kernel, by decide +kernel, rfl, by decide +kernel⟩
theorem ndS1 : ((["_law_one", "_law_other"] : List Str) ++ ([] : List Str)).Nodup := by decide +kernel
theorem all_true {bs : List Bool} (h : ∀ b ∈ bs, b = true) : bs.all id = true := List.all_eq_true.mpr fun b hb => h b hb
theorem rep_bl (n : Nat) : List.replicate n (V.bl true) = (List.replicate n true).map V.bl := by rw [List.map_replicate]
set_option maxHeartbeats 4000000 in
theorem ok_same1 {n : Nat} (F : Fun K "_law_same" "_law_same" sSame f fd) (m : MgS mg) (M : Ms K mg "_law_same" f fd ["_law_found", "_law_due"]) (G : FnOk P w K mg base CX0 n f fd ["_law_found", "_law_due"] (spSame n)) : FnOk P w K mg base CX0 (n + 1) f fd ["_law_found", "_law_due"] (spSame (n + 1)) := by
  refine F.ok scSame (fun vs H Q E h => ?_) (fun cdv A outer s H vs Q E hr h => ?_)
  · obtain ⟨x, y, rfl, _⟩ := h
    rfl
  obtain ⟨x, y, rfl, heq, k⟩ := h
  refine ⟨_, pss_cons (ps_if (pt_cmp (pc_isN (pv 1))) (pss_one (ps_ret (pe_cmp (pc_isN (pv 0))))) pss_nil)
    (pss_cons (ps_if (pt_val (pe_callB (call_isinstK (K := K)) rfl m.isi bt_isinstance (pa_cons (pv 1) (pa_cons (pe_bltn rfl m.bool bt_bool rfl (v := .ty "bool")) pa_nil))))
      (pss_one (ps_ret (pe_and (pe_callB (call_isinstK (K := K)) rfl m.isi bt_isinstance (pa_cons (pv 0) (pa_cons (pe_bltn rfl m.bool bt_bool rfl (v := .ty "bool")) pa_nil))) (pe_one (pe_cmpR op_eq (pv 0) (pv 1) (nomark _)))))) pss_nil)
    (pss_cons (ps_if (pt_val (pe_callB (call_isinstK (K := K)) rfl m.isi bt_isinstance (pa_cons (pv 1) (pa_cons (pe_bltn rfl m.tuple bt_tuple rfl (v := .ty "tuple")) pa_nil))))
      (pss_cons (ps_if (PW.pt (pw_or (pt_not (pt_val (pe_callB (call_isinstK (K := K)) rfl m.isi bt_isinstance (pa_cons (pv 0) (pa_cons (pe_bltn rfl m.tuple bt_tuple rfl (v := .ty "tuple")) pa_nil))))) (pw_or1 (pt_cmpR op_ne (pe_callB (call_lenK (K := K)) rfl m.len PySem.boot_len (pa_cons (pv 0) pa_nil)) (pe_callB (call_lenK (K := K)) rfl m.len PySem.boot_len (pa_cons (pv 1) pa_nil)) (nomark _))))) (pss_one (ps_ret pe_bl)) pss_nil)
      (pss_one (ps_ret (pe_callB (call_allK (K := K) rfl hr.hd) rfl m.all bt_all (pa_cons (pe_comp rfl csS1 (pi_zipTT rfl m.zip (pa_cons (pv 0) (pa_cons (pv 1) pa_nil)))
        (fun s H fp C => ⟨pg_tupK (K := K) (n := 2) rfl (pgs_cons (pg_name (i := 0) ndS1 rfl (Or.inl rfl)) (pgs_cons (pg_name (i := 1) ndS1 rfl (Or.inl rfl)) pgs_nil)), pts_nil, pe_call G hr rfl M.m M.k M.b .nil pass0 (pa_cons (pv 0) (pa_cons (pv 1) pa_nil))⟩)) pa_nil))))) pss_nil)
    (pss_cons (ps_if (pt_val (pe_callB (call_isinstK (K := K)) rfl m.isi bt_isinstance (pa_cons (pv 1) (pa_cons (pe_bltn rfl m.list bt_list rfl (v := .ty "list")) pa_nil))))
      (pss_cons (ps_if (PW.pt (pw_or (pt_not (pt_val (pe_callB (call_isinstK (K := K)) rfl m.isi bt_isinstance (pa_cons (pv 0) (pa_cons (pe_bltn rfl m.list bt_list rfl (v := .ty "list")) pa_nil))))) (pw_or1 (pt_cmpR op_ne (pe_callB (call_lenK (K := K)) rfl m.len PySem.boot_len (pa_cons (pv 0) pa_nil)) (pe_callB (call_lenK (K := K)) rfl m.len PySem.boot_len (pa_cons (pv 1) pa_nil)) (nomark _))))) (pss_one (ps_ret pe_bl)) pss_nil)
      (pss_one (ps_ret (pe_callB (call_allK (K := K) rfl hr.hd) rfl m.all bt_all (pa_cons (pe_comp rfl csS1 (pi_zipLL rfl m.zip (pa_cons (pv 0) (pa_cons (pv 1) pa_nil)))
        (fun s H fp C => ⟨pg_tupK (K := K) (n := 2) rfl (pgs_cons (pg_name (i := 0) ndS1 rfl (Or.inl rfl)) (pgs_cons (pg_name (i := 1) ndS1 rfl (Or.inl rfl)) pgs_nil)), pts_nil, pe_call G hr rfl M.m M.k M.b .nil pass0 (pa_cons (pv 0) (pa_cons (pv 1) pa_nil))⟩)) pa_nil))))) pss_nil)
    (pss_cons (ps_if (pt_val (pe_callB (call_isinstK (K := K)) rfl m.isi bt_isinstance (pa_cons (pv 1) (pa_cons (pe_bltn rfl m.str bt_str rfl (v := .ty "str")) pa_nil))))
      (pss_one (ps_ret (pe_and (pe_callB (call_isinstK (K := K)) rfl m.isi bt_isinstance (pa_cons (pv 0) (pa_cons (pe_bltn rfl m.str bt_str rfl (v := .ty "str")) pa_nil))) (pe_one (pe_cmpR op_eq (pv 0) (pv 1) (nomark _)))))) pss_nil)
    (pss_one (ps_ret (pe_and (pe_callB (call_isinstK (K := K)) rfl m.isi bt_isinstance (pa_cons (pv 0) (pa_cons (pe_bltn rfl m.int bt_int rfl (v := .ty "int")) pa_nil)))
      (pe_and (pe_not (pe_callB (call_isinstK (K := K)) rfl m.isi bt_isinstance (pa_cons (pv 0) (pa_cons (pe_bltn rfl m.bool bt_bool rfl (v := .ty "bool")) pa_nil)))) (pe_one (pe_cmpR op_eq (pv 0) (pv 1) (nomark _))))))))))), ?_⟩
  rcases heq with ⟨rfl, hsc⟩ | ⟨p, q, xs, ys, rfl, rfl, hp, hq, hl, hz, hi⟩ | ⟨p, q, xs, ys, rfl, rfl, hp, hq, hl, hz, hi⟩
  · cases x with
    | non => exact ⟨_, rfl, _, rfl, iteT ⟨_, rfl, k _ (Same.refl _)⟩⟩
    | bl b =>
      refine ⟨_, rfl, _, rfl, iteF ?_⟩
      refine ⟨_, rfl, _, _, _, true, rfl, .bl b, rfl, _, rfl, iteT ?_⟩
      refine ⟨_, rfl, _, _, _, true, rfl, .bl b, rfl, _, rfl, iteT ?_⟩
      refine ⟨_, rfl, _, rfl, rfl, ?_⟩
      show Q (.bl (decide (V.bl b = V.bl b))) H
      rw [decide_eq_true rfl]; exact k _ (Same.refl _)
    | int i =>
      refine ⟨_, rfl, _, rfl, iteF ?_⟩
      refine ⟨_, rfl, _, _, _, false, rfl, .int i, rfl, _, rfl, iteF ?_⟩
      refine ⟨_, rfl, _, _, _, false, rfl, .int i, rfl, _, rfl, iteF ?_⟩
      refine ⟨_, rfl, _, _, _, false, rfl, .int i, rfl, _, rfl, iteF ?_⟩
      refine ⟨_, rfl, _, _, _, false, rfl, .int i, rfl, _, rfl, iteF ?_⟩
      refine ⟨_, rfl, _, _, _, true, rfl, .int i, rfl, _, rfl, iteT ?_⟩
      refine ⟨_, rfl, _, _, _, false, rfl, .int i, rfl, _, rfl, _, rfl, iteT ?_⟩
      refine ⟨_, rfl, _, rfl, rfl, ?_⟩
      show Q (.bl (decide (V.int i = V.int i))) H
      rw [decide_eq_true rfl]; exact k _ (Same.refl _)
    | str z =>
      refine ⟨_, rfl, _, rfl, iteF ?_⟩
      refine ⟨_, rfl, _, _, _, false, rfl, .str z, rfl, _, rfl, iteF ?_⟩
      refine ⟨_, rfl, _, _, _, false, rfl, .str z, rfl, _, rfl, iteF ?_⟩
      refine ⟨_, rfl, _, _, _, false, rfl, .str z, rfl, _, rfl, iteF ?_⟩
      refine ⟨_, rfl, _, _, _, true, rfl, .str z, rfl, _, rfl, iteT ?_⟩
      refine ⟨_, rfl, _, _, _, true, rfl, .str z, rfl, _, rfl, iteT ?_⟩
      refine ⟨_, rfl, _, rfl, rfl, ?_⟩
      show Q (.bl (decide (V.str z = V.str z))) H
      rw [decide_eq_true rfl]; exact k _ (Same.refl _)
    | byt _ => cases hsc
    | flt _ => cases hsc
    | ref _ => cases hsc
    | ty _ => cases hsc
  · refine ⟨_, rfl, _, rfl, iteF ?_⟩
    refine ⟨_, rfl, _, _, _, false, rfl, .tup hq, rfl, _, rfl, iteF ?_⟩
    refine ⟨_, rfl, _, _, _, true, rfl, .tup hq, rfl, _, rfl, iteT ?_⟩
    refine ⟨_, rfl, _, _, _, true, rfl, .tup hp, rfl, _, rfl, iteF ?_⟩
    refine ⟨_, rfl, p, xs, rfl, .inr (SqT.of hp), _, rfl, q, ys, rfl, .inr (SqT.of hq), rfl, _, rfl, ?_⟩
    refine iteNS (by rw [hl]) ?_
    refine ⟨_, rfl, _, rfl, p, q, rfl, ⟨_, SqT.of hp⟩, ⟨_, SqT.of hq⟩, fun D hD => ?_⟩
    refine comp_zip (n := xs.length) (fx := fun i => xs.getD i .non) (fy := fun i => ys.getD i .non) (fun i zs H2 => zs = List.replicate i (V.bl true) ∧ Same H H2 ∧ H2 D = some (.lst zs)) (fun i zs H2 ⟨_, s2, _⟩ => zipTT_steps (SqT.of (s2 _ _ hp)) (SqT.of (s2 _ _ hq)) hl) ⟨rfl, same_new hD _, upd_same⟩ (fun i zs H2 h => h.2.2) ?_ ?_
    · rintro i zs H2 r hir ⟨rfl, s2, hD2⟩ hr2
      have nrD : D ≠ r := ne_of_none hD2 hr2
      have e1 : xs[i]? = some (xs.getD i .non) := by rw [List.getD_eq_getElem?_getD, List.getElem?_eq_getElem hir]; rfl
      have e2 : ys[i]? = some (ys.getD i .non) := by rw [List.getD_eq_getElem?_getD, List.getElem?_eq_getElem (by omega)]; rfl
      have s3 : Same H (upd H2 r (.tup [xs.getD i .non, ys.getD i .non])) := same_upd s2 (s2.free hr2)
      refine ⟨r, _, rfl, SqT.of upd_same, rfl, _, _, rfl, _, _, rfl, rfl, Kp.set rfl (Kp.set rfl (Kp.refl _)), ?_⟩
      refine tTrue_ok ?_
      refine ⟨_, rfl, _, rfl, _, _, rfl, (hi i _ _ e1 e2).same s3, fun H4 s4 => ⟨s4 _ _ (by rw [upd_ne nrD]; exact hD2), ?_, ?_, same_upd (s3.trans s4) hD, upd_same⟩⟩
      · rw [List.length_replicate]; exact small' (by omega)
      · rw [List.replicate_succ']
    · rintro zs H2 ⟨rfl, s2, hD2⟩
      refine ⟨D, List.replicate xs.length true, rfl, SqL.of (by rw [← rep_bl]; exact hD2), ?_⟩
      rw [all_true fun b hb => List.eq_of_mem_replicate hb]
      exact k _ s2
  · refine ⟨_, rfl, _, rfl, iteF ?_⟩
    refine ⟨_, rfl, _, _, _, false, rfl, .lst hq, rfl, _, rfl, iteF ?_⟩
    refine ⟨_, rfl, _, _, _, false, rfl, .lst hq, rfl, _, rfl, iteF ?_⟩
    refine ⟨_, rfl, _, _, _, true, rfl, .lst hq, rfl, _, rfl, iteT ?_⟩
    refine ⟨_, rfl, _, _, _, true, rfl, .lst hp, rfl, _, rfl, iteF ?_⟩
    refine ⟨_, rfl, p, xs, rfl, .inl (SqL.of hp), _, rfl, q, ys, rfl, .inl (SqL.of hq), rfl, _, rfl, ?_⟩
    refine iteNS (by rw [hl]) ?_
    refine ⟨_, rfl, _, rfl, p, q, rfl, ⟨_, SqL.of hp⟩, ⟨_, SqL.of hq⟩, fun D hD => ?_⟩
    refine comp_zip (n := xs.length) (fx := fun i => xs.getD i .non) (fy := fun i => ys.getD i .non) (fun i zs H2 => zs = List.replicate i (V.bl true) ∧ Same H H2 ∧ H2 D = some (.lst zs)) (fun i zs H2 ⟨_, s2, _⟩ => zipLL_steps (SqL.of (s2 _ _ hp)) (SqL.of (s2 _ _ hq)) hl) ⟨rfl, same_new hD _, upd_same⟩ (fun i zs H2 h => h.2.2) ?_ ?_
    · rintro i zs H2 r hir ⟨rfl, s2, hD2⟩ hr2
      have nrD : D ≠ r := ne_of_none hD2 hr2
      have e1 : xs[i]? = some (xs.getD i .non) := by rw [List.getD_eq_getElem?_getD, List.getElem?_eq_getElem hir]; rfl
      have e2 : ys[i]? = some (ys.getD i .non) := by rw [List.getD_eq_getElem?_getD, List.getElem?_eq_getElem (by omega)]; rfl
      have s3 : Same H (upd H2 r (.tup [xs.getD i .non, ys.getD i .non])) := same_upd s2 (s2.free hr2)
      refine ⟨r, _, rfl, SqT.of upd_same, rfl, _, _, rfl, _, _, rfl, rfl, Kp.set rfl (Kp.set rfl (Kp.refl _)), ?_⟩
      refine tTrue_ok ?_
      refine ⟨_, rfl, _, rfl, _, _, rfl, (hi i _ _ e1 e2).same s3, fun H4 s4 => ⟨s4 _ _ (by rw [upd_ne nrD]; exact hD2), ?_, ?_, same_upd (s3.trans s4) hD, upd_same⟩⟩
      · rw [List.length_replicate]; exact small' (by omega)
      · rw [List.replicate_succ']
    · rintro zs H2 ⟨rfl, s2, hD2⟩
      refine ⟨D, List.replicate xs.length true, rfl, SqL.of (by rw [← rep_bl]; exact hD2), ?_⟩
      rw [all_true fun b hb => List.eq_of_mem_replicate hb]
      exact k _ s2
theorem ok_same (F : Fun K "_law_same" "_law_same" sSame f fd) (m : MgS mg) (M : Ms K mg "_law_same" f fd ["_law_found", "_law_due"]) : ∀ n : Nat, FnOk P w K mg base CX0 n f fd ["_law_found", "_law_due"] (spSame n)
  | 0 => ⟨fun vs H Q E ⟨x, y, _, h, _⟩ => h.elim, fun A outer s H args us vs Q E _ _ _ _ ⟨x, y, _, h, _⟩ => h.elim⟩
  | n + 1 => ok_same1 F m M (ok_same F m M n)
end

end M

namespace M
open PySem L2

structure Mods (K : PySem.W.Frag) (P : Params) (mg : Str → Option Value) : Prop where
  bounds : ∃ a b1 b2 b3 b4 b5 b6 b7, mg "BOUNDS" = some (.ref a) ∧ KD K P a [("day", .ref b1), ("acres", .ref b2), ("service", .ref b3), ("bears", .ref b4), ("edge", .ref b5), ("number", .ref b6), ("entry", .ref b7)] ∧ KTp K b1 [.int 0, .int 9999] ∧ KTp K b2 [.int 1, .int 9999] ∧ KTp K b3 [.int 0, .int 9999]
  forms : ∃ a kvs, mg "FORMS" = some (.ref a) ∧ KD K P a kvs ∧ ∀ k, (form k = none → kvs.lookup k = none) ∧ ∀ l, form k = some l → ∃ b, kvs.lookup k = some (.ref b) ∧ KTp K b (l.map fun s => .str s.word)
  two : ∃ a, mg "OF_TWO_MEN" = some (.ref a) ∧ KTp K a [.str "heir", .str "liege"]
  crown : ∃ t, mg "CROWN" = some (.str "" t)
def spFits : Sp := fun vs H Q _ => ∃ (s : Srt) (v : V), vs = [.str s.word, v] ∧ isI v = s.num ∧ okV 1000 v ∧ Q (.bl (fitB s v)) H
section
variable {P : Program} {w : World} {K : PySem.W.Frag} {mg : Str → Option Value} {base : Heap} {f : Addr} {fd : FuncData}
theorem scFits : FnScope ["sort", "piece", "least", "greatest"] ["sort", "piece"] (defScope sFits) := ⟨rfl, rfl, rfl, by decide +kernel, rfl, by decide +kernel, by decide +kernel⟩
set_option maxHeartbeats 4000000 in
theorem ok_fits (F : Fun K "fits" "fits" sFits f fd) (mo : Mods K w.params mg) {g1 : Addr} {d1 : FuncData} (G1 : FnOk P w K mg base CX0 1 g1 d1 ["text"] spName) (M1 : Ms K mg "is_name" g1 d1 ["text"]) : FnOk P w K mg base CX0 2 f fd ["sort", "piece"] spFits := by
  obtain ⟨aB, b1, b2, b3, b4, b5, b6, b7, mB, kB, t1, t2, t3⟩ := mo.bounds
  obtain ⟨tc, mC⟩ := mo.crown
  refine F.ok scFits (fun vs H Q E h => ?_) (fun cdv A outer s H vs Q E hr h => ?_)
  · obtain ⟨s, v, rfl, _⟩ := h
    rfl
  obtain ⟨s, v, rfl, hi, hv, k⟩ := h
  refine ⟨_, pss_cons (ps_if (pt_cmpR op_inKD (pv 0) (pe_glob rfl mB rfl (v := .ref aB)) (by with_unfolding_all rfl))
      (pss_cons (ps_asg (pe_ix ix_KD (pe_glob rfl mB rfl (v := .ref aB)) (pv 0) (fun _ _ => rfl)) (pg_tup rfl (pgs_cons (pg_name (i := 2) scFits.nd rfl (Or.inl rfl)) (pgs_cons (pg_name (i := 3) scFits.nd rfl (Or.inl rfl)) pgs_nil))))
      (pss_one (ps_ret (pe_chain op_le op_le (pv 2) (pv 1) (pv 3))))) pss_nil)
    (pss_cons (ps_if (PW.pt (pw_and (pt_cmpR op_eq (pv 0) pe_str (nomark _)) (pw_and1 (pt_cmpR op_eq (pv 1) (pe_glob rfl mC ⟨_, rfl⟩ (v := .str "")) (nomark _))))) (pss_one (ps_ret pe_bl)) pss_nil)
    (pss_one (ps_ret (pe_call G1 hr rfl M1.m M1.k M1.b .nil pass0 (pa_cons (pv 1) pa_nil))))), ?_⟩
  refine ⟨_, rfl, _, aB, _, rfl, rfl, kB, _, rfl, ?_⟩
  have hB : s.num = true → ∃ b lo, ([("day", V.ref b1), ("acres", V.ref b2), ("service", V.ref b3), ("bears", V.ref b4), ("edge", V.ref b5), ("number", V.ref b6), ("entry", V.ref b7)] : List (Str × V)).lookup s.word = some (.ref b) ∧ KTp K b [.int lo, .int 9999] ∧ ∀ n, fitB s (.int n) = (decide (lo ≤ n) && decide (n ≤ 9999)) := by
    cases s with
    | d => exact fun _ => ⟨b1, 0, rfl, t1, fun n => rfl⟩
    | a => exact fun _ => ⟨b2, 1, rfl, t2, fun n => rfl⟩
    | s => exact fun _ => ⟨b3, 0, rfl, t3, fun n => rfl⟩
    | n => exact fun h => nomatch h
    | c => exact fun h => nomatch h
  have hN : s.num = false → ([("day", V.ref b1), ("acres", V.ref b2), ("service", V.ref b3), ("bears", V.ref b4), ("edge", V.ref b5), ("number", V.ref b6), ("entry", V.ref b7)] : List (Str × V)).lookup s.word = none := by
    cases s <;> first | exact fun _ => rfl | (intro h; cases h)
  cases hn : s.num with
  | true =>
    obtain ⟨b, lo, hb, hk, hf⟩ := hB hn
    obtain ⟨n, rfl⟩ : ∃ n, v = .int n := by
      rw [hn] at hi
      cases v <;> first | exact ⟨_, rfl⟩ | cases hi
    have hf' := hf n
    rw [hb]
    refine iteT ?_
    refine ⟨_, rfl, aB, _, _, _, rfl, rfl, kB, hb, ?_⟩
    refine ⟨b, _, rfl, hk.sq _, rfl, _, _, rfl, _, _, rfl, rfl, ?_⟩
    refine ⟨_, rfl, _, rfl, _, _, rfl, rfl, _, rfl, ?_⟩
    refine ite2 (fun h1 => ?_) (fun h1 => ?_)
    · refine ⟨_, rfl, _, _, rfl, rfl, ?_⟩
      rw [h1, Bool.true_and] at hf'
      rw [hf'] at k; exact k
    · rw [Bool.eq_false_iff.mpr h1, Bool.false_and] at hf'
      rw [hf'] at k; exact k
  | false =>
    rw [hN hn]
    obtain ⟨z, rfl, hl, hc⟩ : ∃ z : Str, v = .str z ∧ z.length ≤ 1000 ∧ ∀ c ∈ z.cps.toList, c < 128 := by
      rcases hv with ⟨n, rfl⟩ | h
      · rw [hn] at hi; cases hi
      · exact h
    refine iteF ?_
    cases s with
    | d => cases hn
    | a => cases hn
    | s => cases hn
    | n =>
      refine ⟨_, rfl, rfl, _, rfl, iteF (iteF ?_)⟩
      exact ⟨_, rfl, z, rfl, hl, k⟩
    | c =>
      refine ⟨_, rfl, rfl, _, rfl, iteT ?_⟩
      refine ⟨_, rfl, rfl, _, rfl, ?_⟩
      have e0 : fitB .c (.str z) = (decide (z = "") || nameB z.cps.toList) := rfl
      rw [e0] at k
      refine ite2 (fun h1 => ?_) (fun h1 => ?_)
      · have h2 : z = "" := by
          have := of_decide_eq_true h1
          injection this
        rw [decide_eq_true h2, Bool.true_or] at k
        exact k
      · have h2 : ¬ z = "" := fun e => h1 (by rw [e]; rfl)
        rw [decide_eq_false h2, Bool.false_or] at k
        exact ⟨_, rfl, z, rfl, hl, k⟩
end
end M

namespace M
open PySem L2

def spWell (good : List V → Hp → Prop) (wm : List V → Bool) (K : PySem.W.Frag) : Sp := fun vs H Q _ => ∃ a xs, vs = [.ref a] ∧ SqT K H a xs ∧ good xs H ∧ ∀ H', Same H H' → Q (.bl (wm xs)) H'
theorem all_step {l : List (Srt × V)} {i : Nat} {p : Srt × V} (h : l[i]? = some p) (h0 : (l.take i).all fitP = true) (h1 : fitP p = true) : (l.take (i + 1)).all fitP = true := by
  rw [List.take_add_one, h, List.all_append, h0]
  simp [h1]
theorem all_no {l : List (Srt × V)} {i : Nat} {p : Srt × V} (h : l[i]? = some p) (h1 : fitP p = false) : l.all fitP = false := by
  cases e : l.all fitP with
  | false => rfl
  | true => rw [List.all_eq_true.mp e p (List.mem_of_getElem? h)] at h1; cases h1
theorem zip_at {l : List Srt} {rest : List V} {i : Nat} {s : Srt} {v : V} (h1 : l[i]? = some s) (h2 : rest[i]? = some v) : (l.zip rest)[i]? = some (s, v) := by
  rw [List.getElem?_zip_eq_some]; exact ⟨h1, h2⟩
theorem at_getD {α : Type} {l : List α} {i : Nat} {x d : α} (h : l[i]? = some x) : l.getD i d = x := by rw [List.getD_eq_getElem?_getD, h]; rfl
theorem beq_flip (a b : Str) : (a == b) = decide (b = a) := by
  rw [Bool.eq_iff_iff]
  simp only [beq_iff_eq, decide_eq_true_eq]
  exact eq_comm
theorem inTwo (k : Str) : inV (V.str k) [V.str "heir", V.str "liege"] = two k := by
  show ((("heir" : Str) == k) || ((("liege" : Str) == k) || false)) = two k
  unfold two
  rw [Bool.or_false, beq_flip, beq_flip]
section
variable {P : Program} {w : World} {K : PySem.W.Frag} {mg : Str → Option Value} {base : Heap} {f : Addr} {fd : FuncData}
theorem scWell : FnScope ["row", "form", "pieces", "sort", "piece"] ["row"] (defScope sWell) := ⟨rfl, rfl, rfl, by decide +kernel, rfl, by decide +kernel, by decide +kernel⟩
theorem at0 (v : V) (rest : List V) : atI (v :: rest) 0 = some v := atI_nat (j := 0) rfl
theorem at_nat {v : V} {rest : List V} {j : Nat} {x : V} (h : rest[j]? = some x) (i : Int) (hi : i = ((j + 1 : Nat) : Int)) : atI (v :: rest) i = some x := by
  rw [hi]; exact atI_nat (by simpa using h)
set_option maxHeartbeats 4000000 in
theorem ok_well (F : Fun K "is_well_made" "is_well_made" sWell f fd) (mo : Mods K w.params mg) (ml : mg "len" = none) (mz : mg "zip" = none) {g1 : Addr} {d1 : FuncData} (G1 : FnOk P w K mg base CX0 2 g1 d1 ["sort", "piece"] spFits) (M1 : Ms K mg "fits" g1 d1 ["sort", "piece"]) : FnOk P w K mg base CX0 3 f fd ["row"] (spWell goodX wm K) := by
  obtain ⟨aF, kvs, mF, kF, hF⟩ := mo.forms
  obtain ⟨a2, m2, t2⟩ := mo.two
  refine F.ok scWell (fun vs H Q E h => ?_) (fun cdv A outer s H vs Q E hr h => ?_)
  · obtain ⟨a, xs, rfl, _⟩ := h
    rfl
  obtain ⟨a, xs, rfl, hS, ⟨k, rest, rfl, R⟩, kk⟩ := h
  refine ⟨_, pss_cons (ps_if (pt_cmpR op_notInKD (pe_ix ix_tup (pv 0) pe_int (fun _ _ => rfl)) (pe_glob rfl mF rfl (v := .ref aF)) (by with_unfolding_all rfl)) (pss_one (ps_ret pe_bl)) pss_nil)
    (pss_cons (ps_set (i := 1) scWell.nd rfl (Or.inl rfl) (pe_ix ix_KD (pe_glob rfl mF rfl (v := .ref aF)) (pe_ix ix_tup (pv 0) pe_int (fun _ _ => rfl)) (fun _ _ => rfl)))
    (pss_cons (ps_set (i := 2) scWell.nd rfl (Or.inl rfl) (pe_slice sl_tup (pv 0) (po_some pe_int) po_none))
    (pss_cons (ps_if (pt_cmpR op_ne (pe_callB call_len_seq rfl ml PySem.boot_len (pa_cons (pv 2) pa_nil)) (pe_callB call_len_seq rfl ml PySem.boot_len (pa_cons (pv 1) pa_nil)) (nomark _)) (pss_one (ps_ret pe_bl)) pss_nil)
    (pss_cons (ps_for PassesOwn.never rfl (pi_zipTT rfl mz (pa_cons (pv 1) (pa_cons (pv 2) pa_nil))) (pg_tup rfl (pgs_cons (pg_name (i := 3) scWell.nd rfl (Or.inl rfl)) (pgs_cons (pg_name (i := 4) scWell.nd rfl (Or.inl rfl)) pgs_nil)))
      (pss_one (ps_if (pt_not (pt_val (pe_call G1 hr rfl M1.m M1.k M1.b .nil pass0 (pa_cons (pv 3) (pa_cons (pv 4) pa_nil))))) (pss_one (ps_ret pe_bl)) pss_nil)))
    (pss_one (ps_ret (pe_or (pe_cmpR op_notIn_seq (pe_ix ix_tup (pv 0) pe_int (fun _ _ => rfl)) (pe_glob rfl m2 rfl (v := .ref a2)) (by with_unfolding_all rfl))
      (pe_one (pe_cmpR op_ne (pe_ix ix_tup (pv 0) pe_int (fun _ _ => rfl)) (pe_ix ix_tup (pv 0) pe_int (fun _ _ => rfl)) (nomark _)))))))))), ?_⟩
  have ew : wm (.str k :: rest) = wmR k rest := rfl
  rw [ew] at kk
  refine ⟨_, rfl, a, _, _, _, rfl, rfl, hS, at0 _ _, k, aF, kvs, rfl, rfl, kF, _, rfl, ?_⟩
  cases hf : form k with
  | none =>
    rw [(hF k).1 hf]
    have e : wmR k rest = false := by unfold wmR; rw [hf]
    rw [e] at kk
    exact iteT (kk H (Same.refl _))
  | some l =>
    obtain ⟨b, hb, hk⟩ := (hF k).2 l hf
    have ewm : wmR k rest = (decide (rest.length = l.length) && (((l.zip rest).all fitP) && !(two k && decide (rest[1]? = rest[2]?)))) := by unfold wmR; rw [hf]
    rw [hb]
    refine iteF ?_
    refine ⟨_, rfl, a, _, _, _, rfl, rfl, hS, at0 _ _, aF, kvs, k, _, rfl, rfl, kF, hb, ?_⟩
    refine ⟨_, rfl, _, rfl, a, _, rfl, hS, nw1 _ _, fun p hp => ?_⟩
    rw [cut1]
    have s1 : Same H (upd H p (.tup rest)) := same_new hp _
    refine ⟨_, rfl, p, _, rfl, .inr (SqT.of upd_same), _, rfl, b, _, rfl, .inr (hk.sq _), rfl, _, rfl, ?_⟩
    by_cases hl : rest.length = l.length
    · refine iteNS (by rw [List.length_map, hl]) ?_
      rw [decide_eq_true hl, Bool.true_and] at ewm
      refine ⟨_, rfl, _, rfl, b, p, rfl, ⟨_, hk.sq _⟩, ⟨_, SqT.of upd_same⟩, for_zip (n := l.length) (fx := fun i => V.str (l.getD i .d).word) (fy := fun i => rest.getD i .non)
        (fun i σ H2 => (∃ u v, σ = [some (.ref a), some (.ref b), some (.ref p), u, v]) ∧ Same (upd H p (.tup rest)) H2 ∧ ((l.zip rest).take i).all fitP = true) ?_ ⟨⟨none, none, rfl⟩, Same.refl _, rfl⟩ ?_ ?_⟩
      · rintro i σ H2 ⟨_, sm, _⟩
        have st := zipTT_steps (i := i) (hk.sq H2) (sm.seqT (SqT.of upd_same)) (by rw [List.length_map]; exact hl.symm)
        rw [List.length_map] at st
        refine ⟨fun hi => ⟨(st.1 hi).1, fun v H' y => ?_⟩, st.2⟩
        obtain ⟨q, e1, e2, e3⟩ := (st.1 hi).2 v H' y
        refine ⟨q, e1, e2, ?_⟩
        rw [e3]
        have e4 : (l.map fun s => V.str s.word).getD i .non = V.str (l.getD i .d).word := by
          rw [List.getD_eq_getElem?_getD, List.getD_eq_getElem?_getD, List.getElem?_map, List.getElem?_eq_getElem hi]; rfl
        rw [e4]
      · rintro i σ H2 q hi ⟨⟨u, v, rfl⟩, sm, ha⟩ hq
        have h1 : l[i]? = some l[i] := List.getElem?_eq_getElem hi
        have hi2 : i < rest.length := by omega
        have h2 : rest[i]? = some rest[i] := List.getElem?_eq_getElem hi2
        rw [at_getD h1, at_getD h2]
        have sq : Same H2 (upd H2 q (.tup [V.str (l[i]).word, rest[i]])) := same_new hq _
        refine ⟨q, _, rfl, SqT.of upd_same, rfl, _, _, rfl, _, _, rfl, rfl, ?_⟩
        refine ⟨_, rfl, _, rfl, l[i], rest[i], rfl, R.kept l hf i _ _ h1 h2, R.ok _ (List.getElem_mem hi2), _, rfl, ?_⟩
        cases hfit : fitB l[i] rest[i] with
        | true => exact iteF ⟨⟨_, _, rfl⟩, sm.trans sq, all_step (zip_at h1 h2) ha hfit⟩
        | false =>
          refine iteT ?_
          rw [all_no (zip_at h1 h2) hfit, Bool.false_and] at ewm
          rw [ewm] at kk
          exact kk _ (s1.trans (sm.trans sq))
      · rintro σ H2 ⟨⟨u, v, rfl⟩, sm, ha⟩
        rw [List.take_of_length_le (by rw [List.length_zip]; omega)] at ha
        rw [ha, Bool.true_and] at ewm
        have S2 := (s1.trans sm).seqT hS
        refine ⟨_, rfl, a, _, _, _, rfl, rfl, S2, at0 _ _, a2, _, rfl, .inr (t2.sq _), rfl, rfl, _, rfl, ?_⟩
        have e2 := inTwo k
        show if (!inV (V.str k) [V.str "heir", V.str "liege"]) = true then _ else _
        rw [e2]
        cases h2 : two k with
        | false =>
          rw [h2] at ewm
          refine iteT ?_
          have : wmR k rest = true := ewm
          rw [this] at kk
          exact kk _ (s1.trans sm)
        | true =>
          rw [h2, Bool.true_and] at ewm
          obtain ⟨l3, n1, n2⟩ := form_two hf h2
          refine iteF ?_
          have i1 : (1 : Nat) < rest.length := by omega
          have i2 : (2 : Nat) < rest.length := by omega
          have r1 : rest[1]? = some rest[1] := List.getElem?_eq_getElem i1
          have r2 : rest[2]? = some rest[2] := List.getElem?_eq_getElem i2
          have q1 : l[1]? = some l[1] := List.getElem?_eq_getElem (by omega)
          have q2 : l[2]? = some l[2] := List.getElem?_eq_getElem (by omega)
          have v1 : isI rest[1] = false := (R.kept l hf 1 _ _ q1 r1).trans (n1 _ q1)
          have v2 : isI rest[2] = false := (R.kept l hf 2 _ _ q2 r2).trans (n2 _ q2)
          have o1 := R.ok _ (List.getElem_mem i1)
          have o2 := R.ok _ (List.getElem_mem i2)
          rw [r1, r2] at ewm
          refine ⟨_, rfl, a, _, _, _, rfl, rfl, S2, at_nat r1 2 rfl, _, rfl, a, _, _, _, rfl, rfl, S2, at_nat r2 3 rfl, ?_⟩
          generalize rest[1] = x1 at *
          generalize rest[2] = x2 at *
          rcases o1 with ⟨n, rfl⟩ | ⟨z1, rfl, _⟩
          · cases v1
          rcases o2 with ⟨n, rfl⟩ | ⟨z2, rfl, _⟩
          · cases v2
          refine ⟨rfl, ?_⟩
          have e3 : wmR k rest = !decide (V.str z1 = V.str z2) := by
            rw [ewm]
            congr 1
            exact decide_eq_decide.mpr ⟨fun e => Option.some.inj e, fun e => by rw [e]⟩
          rw [e3] at kk
          exact kk _ (s1.trans sm)
    · have e : wmR k rest = false := by rw [ewm, decide_eq_false hl, Bool.false_and]
      rw [e] at kk
      have hne : (!decide (V.int ((rest.length : Nat) : Int) = V.int (((l.map fun s => V.str s.word).length : Nat) : Int))) = true := by
        rw [List.length_map]
        have : ¬ V.int ((rest.length : Nat) : Int) = V.int ((l.length : Nat) : Int) := fun e => hl (by injection e with e; omega)
        rw [decide_eq_false this]; rfl
      rw [hne]
      exact iteT (kk _ s1)
end
end M

namespace M
open PySem L2

theorem az_at : ∀ i : _root_.Fin 26, az.cps.toList[i.val]? = some (97 + i.val) := by decide +kernel
theorem az_atI {i : Int} (h0 : 0 ≤ i) (h1 : i < 26) : atI az.cps.toList i = some (97 + i.toNat) := by
  have e : i = ((i.toNat : Nat) : Int) := by omega
  have q : atI az.cps.toList ((i.toNat : Nat) : Int) = some (97 + i.toNat) := atI_nat (az_at ⟨i.toNat, by omega⟩)
  rw [← e] at q
  exact q
theorem low_az {i : Nat} (h : i < 26) : low (97 + i) = true := by simp [low]; omega
theorem rep1 (n c : Nat) : repS n [c] = List.replicate n c := by
  unfold repS
  induction n with
  | zero => rfl
  | succ n ih => rw [List.replicate_succ, List.flatten_cons, ih]; rfl
theorem cutG_to {α : Type} {xs : List α} {j : Nat} (h : j ≤ xs.length) : cutG xs none (some (j : Int)) = xs.take j := by
  unfold cutG
  have e1 : HT.sIx xs.length 0 none = 0 := rfl
  rw [e1, HT.sIx_nat, List.drop_zero, Nat.sub_zero, Nat.min_eq_left h]
theorem cutG_from {α : Type} {xs : List α} {j : Nat} (h : j ≤ xs.length) : cutG xs (some (j : Int)) none = xs.drop j := by
  unfold cutG
  have e2 : HT.sIx xs.length xs.length none = xs.length := rfl
  rw [e2, HT.sIx_nat, Nat.min_eq_left h, List.take_of_length_le (by rw [List.length_drop]; exact Nat.le_refl _)]

def Told (p : Nat) (e : Int) (zs : List Str) : Prop := ∀ (j : Nat) (z : Str), zs[j]? = some z → z.cps.toList[p]? = some (97 + ((e + 7 * (j : Int)) % 26).toNat) ∧ nameB z.cps.toList = true
theorem Told.nodup {p : Nat} {e : Int} {zs : List Str} (h : Told p e zs) (hl : zs.length ≤ 26) : zs.Nodup := by
  unfold List.Nodup
  rw [List.pairwise_iff_getElem]
  intro i j hi hj hij he
  have h1 := (h i _ (List.getElem?_eq_getElem hi)).1
  have h2 := (h j _ (List.getElem?_eq_getElem hj)).1
  rw [he, h2] at h1
  have h3 := Option.some.inj h1
  omega
theorem Told.snoc {p : Nat} {e : Int} {zs : List Str} {z : Str} (h : Told p e zs) (h1 : z.cps.toList[p]? = some (97 + ((e + 7 * (zs.length : Int)) % 26).toNat)) (h2 : nameB z.cps.toList = true) : Told p e (zs ++ [z]) := by
  intro j y hj
  by_cases hlt : j < zs.length
  · rw [List.getElem?_append_left hlt] at hj; exact h j y hj
  · have hj' : j < (zs ++ [z]).length := (List.getElem?_eq_some_iff.mp hj).1
    have e : j = zs.length := by rw [List.length_append, List.length_singleton] at hj'; omega
    subst e
    rw [List.getElem?_append_right (Nat.le_refl _), Nat.sub_self] at hj
    have : z = y := by simpa using hj
    subst this
    exact ⟨h1, h2⟩
theorem nameB_of {l : List Nat} (h : ∀ c ∈ l, low c = true) (h1 : 1 ≤ l.length) (h2 : l.length ≤ 8) : nameB l = true := by
  unfold nameB
  rw [List.all_eq_true.mpr h, decide_eq_true h1, decide_eq_true h2]; rfl
def spNames (K : PySem.W.Frag) : Sp := fun vs H Q _ => ∃ (a : Addr) (ds : List Int) (many : Int), vs = [.ref a, .int many] ∧ SqL K H a (ds.map V.int) ∧ 4 ≤ ds.length ∧ (∀ v ∈ ds, Okn v) ∧ 0 ≤ many ∧ many ≤ 26 ∧
  ∀ (r : Addr) (H' : Hp) (zs : List Str), Same H H' → H r = none → H' r = some (.lst (zs.map V.str)) → zs.length = many.toNat → (∀ z ∈ zs, nameB z.cps.toList = true) → zs.Nodup → Q (.ref r) H'
section
variable {P : Program} {w : World} {K : PySem.W.Frag} {mg : Str → Option Value} {base : Heap} {f : Addr} {fd : FuncData}
theorem scNames : FnScope ["_law_d", "_law_many", "_law_letters", "_law_k", "_law_base", "_law_at", "_law_names_here", "_law_sign", "_law_name"] ["_law_d", "_law_many"] (defScope sNames) := ⟨rfl, rfl, rfl, by decide +kernel, rfl, by decide +kernel, by decide +kernel⟩
def scN1 : Scope := { kind := .function, names := [(".0", .local), ("_law_k", .local), ("_law_d", .free), ("_law_letters", .free)], isGenerator := false, isCoroutine := false }
theorem csN1 : CScope ["_law_d", "_law_many", "_law_letters", "_law_k", "_law_base", "_law_at", "_law_names_here", "_law_sign", "_law_name"] (defScope sNames) scN1 ["_law_k"] ["_law_d", "_law_letters"] [0, 2] := ⟨rfl, by decide +kernel, by decide +kernel, by decide +kernel, rfl, by decide +kernel⟩
theorem ndN1 : ((["_law_k"] : List Str) ++ (["_law_d", "_law_letters"] : List Str)).Nodup := by decide +kernel
set_option maxHeartbeats 4000000 in
theorem ok_names (F : Fun K "_law_names" "_law_names" sNames f fd) (ml : mg "len" = none) (mr : mg "range" = none) : FnOk P w K mg base CX0 1 f fd ["_law_d", "_law_many"] (spNames K) := by
  refine F.ok scNames (fun vs H Q E h => ?_) (fun cdv A outer s H vs Q E hr h => ?_)
  · obtain ⟨a, ds, many, rfl, _⟩ := h
    rfl
  obtain ⟨a, ds, many, rfl, hS, hlen, hok, m0, m1, k⟩ := h
  refine ⟨_, pss_cons (ps_set (i := 2) scNames.nd rfl (Or.inr rfl) pe_str)
    (pss_cons (ps_set (i := 4) scNames.nd rfl (Or.inl rfl) (pe_bm PySem.F.plainAttrs_str PySem.F.slot_str_join PySem.F.type_str_join mt_join pe_str (pa_cons
        (pe_comp rfl csN1
          (pi_range1 rfl mr (pa_cons (pe_op op_mod (pe_ix ix_list (pv 0) pe_int (fun _ _ => rfl)) pe_int) pa_nil))
          (fun s H fp C => ⟨pg_name (i := 0) ndN1 rfl (Or.inl rfl), pts_nil, pe_ix ix_str (pv 2) (pe_op op_mod (pe_op op_add (pe_ix (ix_listK (K := K)) (pv 1) pe_int (fun _ _ => rfl))
            (pe_op op_mul (pe_op op_add (pv 0) pe_int) (pe_op op_fdiv (pe_ix (ix_listK (K := K)) (pv 1) pe_int (fun _ _ => rfl)) pe_int))) pe_int) (fun _ _ => rfl)⟩)) pa_nil)))
    (pss_cons (ps_set (i := 5) scNames.nd rfl (Or.inl rfl) (pe_op op_mod (pe_ix ix_list (pv 0) pe_int (fun _ _ => rfl)) (pe_op op_add (pe_callB call_len_str rfl ml PySem.boot_len (pa_cons (pv 4) pa_nil)) pe_int)))
    (pss_cons (ps_set (i := 6) scNames.nd rfl (Or.inl rfl) (pe_lst pa_nil))
    (pss_cons (ps_for PassesOwn.never rfl (pi_range1 rfl mr (pa_cons (pv 1) pa_nil)) (pg_name (i := 3) scNames.nd rfl (Or.inl rfl))
      (pss_cons (ps_set (i := 7) scNames.nd rfl (Or.inl rfl) (pe_ix ix_str (pv 2) (pe_op op_mod (pe_op op_add (pe_ix ix_list (pv 0) pe_int (fun _ _ => rfl)) (pe_op op_mul pe_int (pv 3))) pe_int) (fun _ _ => rfl)))
      (pss_cons (ps_set (i := 8) scNames.nd rfl (Or.inl rfl) (pe_op op_add_str (pe_op op_add_str (pe_slice sl_str (pv 4) po_none (po_some (pv 5))) (pv 7)) (pe_slice sl_str (pv 4) (po_some (pv 5)) po_none)))
      (pss_cons (ps_if (pt_cmpR op_eq (pe_op op_mod (pe_op op_fdiv (pe_ix ix_list (pv 0) pe_int (fun _ _ => rfl)) pe_int) pe_int) pe_int (nomark _))
        (pss_one (ps_set (i := 8) scNames.nd rfl (Or.inl rfl) (pe_op op_rep_str (pv 7) (pe_op op_add pe_int (pe_op op_mod (pe_op op_add (pe_ix ix_list (pv 0) pe_int (fun _ _ => rfl)) (pe_op op_mul pe_int (pv 3))) pe_int))))) pss_nil)
      (pss_one (ps_expr (pe_bm PySem.F.plainAttrs_list PySem.F.slot_list_append PySem.F.type_list_append mt_append (pv 6) (pa_cons (pv 8) pa_nil))))))))
    (pss_one (ps_ret (pv 6))))))), ?_⟩
  obtain ⟨d0, e0, o0⟩ := fs_at hok (i := 0) (by decide) (by omega)
  obtain ⟨d1, e1, o1⟩ := fs_at hok (i := 1) (by decide) (by omega)
  obtain ⟨d2, e2, o2⟩ := fs_at hok (i := 2) (by decide) (by omega)
  obtain ⟨d3, e3, o3⟩ := fs_at hok (i := 3) (by decide) (by omega)
  obtain ⟨o0a, o0b⟩ := o0
  obtain ⟨o1a, o1b⟩ := o1
  obtain ⟨o2a, o2b⟩ := o2
  obtain ⟨o3a, o3b⟩ := o3
  refine ⟨rfl, _, rfl, a, _, _, _, rfl, rfl, hS, e1, _, _, rfl, rfl, (by show (0 : Int) < 8; decide), d1 % 8, rfl, by omega, by omega, fun D hD => ?_⟩
  refine comp_range (lo := 0) (n := (d1 % 8).toNat) (fun i ys H2 => ∃ cs : List Nat, ys = cs.map (fun c => V.str (mkS [c])) ∧ cs.length = i ∧ (∀ c ∈ cs, low c = true) ∧ Same H H2 ∧ H2 D = some (.lst ys))
    ⟨[], rfl, rfl, (fun c hc => nomatch hc), same_new hD _, upd_same⟩ (fun i ys H2 ⟨cs, _, _, _, _, h⟩ => h) ?_ ?_
  · rintro i ys H2 hi ⟨cs, rfl, hl, hc, s2, h2⟩
    have S2 := s2.seq hS
    refine ⟨Kp.set rfl (Kp.refl _), ?_⟩
    refine tTrue_ok ?_
    have hm0 := Int.emod_nonneg (d0 + (0 + (i : Int) + 1) * (d1 / 8)) (show (26 : Int) ≠ 0 by decide)
    have hm1 := Int.emod_lt_of_pos (d0 + (0 + (i : Int) + 1) * (d1 / 8)) (show (0 : Int) < 26 by decide)
    have hT : ((d0 + (0 + (i : Int) + 1) * (d1 / 8)) % 26).toNat < 26 := by
      generalize (d0 + (0 + (i : Int) + 1) * (d1 / 8)) % 26 = T at hm0 hm1 ⊢
      omega
    refine ⟨_, rfl, _, rfl, a, _, _, _, rfl, rfl, S2, e0, _, rfl, _, _, rfl, rfl, _, rfl, a, _, _, _, rfl, rfl, S2, e1, _, _, rfl, rfl, ⟨by decide, by decide⟩, _, _, rfl, rfl, .inl ⟨by omega, by omega⟩, _, _, rfl, rfl, _, _, rfl, rfl, (by show (0 : Int) < 26; decide),
      _, _, _, rfl, rfl, (by show az.length ≤ sizeLine; decide +kernel), az_atI hm0 hm1, h2, ?_, ?_⟩
    · rw [List.length_map]; exact small' (by omega)
    · exact ⟨cs ++ [97 + ((d0 + (0 + (i : Int) + 1) * (d1 / 8)) % 26).toNat], by rw [List.map_append]; rfl, by simp [hl], (fun d hd => by
        rcases List.mem_append.mp hd with z | z
        · exact hc d z
        · rw [List.mem_singleton.mp z]; exact low_az hT), same_upd s2 hD, upd_same⟩
  · rintro ys H2 ⟨cs, rfl, hl, hc, s2, h2⟩
    have hm : cs.map (fun c => V.str (mkS [c])) = (cs.map (fun c => mkS [c])).map V.str := by simp
    refine ⟨_, D, cs.map (fun c => mkS [c]), rfl, rfl, SqL.of (by rw [← hm]; exact h2), join_ok (by omega), ?_⟩
    rw [join_signs]
    have S2 := s2.seq hS
    have lc : (mkS cs).length = cs.length := mkS_len cs
    refine ⟨_, rfl, a, _, _, _, rfl, rfl, S2, e2, _, rfl, _, rfl, (by rw [lc]; exact small (by omega)), _, _, rfl, rfl, _, _, rfl, rfl, (by rw [lc]; omega), ?_⟩
    rw [lc]
    have q0 : 0 ≤ d2 % ((cs.length : Int) + 1) := Int.emod_nonneg _ (by omega)
    have q1 : d2 % ((cs.length : Int) + 1) < (cs.length : Int) + 1 := Int.emod_lt_of_pos _ (by omega)
    obtain ⟨at_, hat⟩ : ∃ n : Nat, d2 % ((cs.length : Int) + 1) = (n : Int) := ⟨(d2 % ((cs.length : Int) + 1)).toNat, by omega⟩
    rw [hat] at q0 q1
    refine ⟨small (by simp), fun l hl0 => ?_⟩
    have hl1 : H l = none := s2.free hl0
    refine ⟨_, rfl, many, rfl, by omega, by omega, ?_⟩
    refine for_range (lo := 0) (n := many.toNat) (fun j σ H4 => ∃ (zs : List Str) (u1 u2 u3 : Option V), σ = [some (.ref a), some (.int many), some (.str az), u1, some (.str (mkS cs)), some (.int (at_ : Int)), some (.ref l), u2, u3] ∧ Same H H4 ∧ H4 l = some (.lst (zs.map V.str)) ∧ zs.length = j ∧ Told (if d2 / 8 % 2 = 1 then 0 else at_) d3 zs)
      ⟨[], none, none, none, (by rw [← hat]; rfl), same_upd s2 hl1, upd_same, rfl, fun j z h => by simp at h⟩ ?_ ?_
    · rintro j σ H4 hj ⟨zs, u1, u2, u3, rfl, s4, hL, hz, ht⟩
      have S4 := s4.seq hS
      have hm0 := Int.emod_nonneg (d3 + 7 * (0 + (j : Int))) (show (26 : Int) ≠ 0 by decide)
      have hm1 := Int.emod_lt_of_pos (d3 + 7 * (0 + (j : Int))) (show (0 : Int) < 26 by decide)
      refine ⟨_, rfl, _, rfl, a, _, _, _, rfl, rfl, S4, e3, _, rfl, _, _, rfl, rfl, .inl ⟨by decide, by decide⟩, _, _, rfl, rfl, _, _, rfl, rfl, (by show (0 : Int) < 26; decide), _, _, _, rfl, rfl, (by show az.length ≤ sizeLine; decide +kernel), az_atI hm0 hm1, ?_⟩
      have hc0 : low (97 + ((d3 + 7 * (0 + (j : Int))) % 26).toNat) = true := low_az (by omega)
      have hcj : 97 + ((d3 + 7 * (0 + (j : Int))) % 26).toNat = 97 + ((d3 + 7 * (zs.length : Int)) % 26).toNat := by rw [hz, Int.zero_add]
      generalize 97 + ((d3 + 7 * (0 + (j : Int))) % 26).toNat = c at hc0 hcj ⊢
      refine ⟨_, rfl, _, rfl, _, rfl, _, rfl, (by rw [lc]; exact small (by omega)), _, rfl, ?_⟩
      have f1 : cutG (mkS cs).cps.toList none (some (at_ : Int)) = cs.take at_ := cutG_to (by show at_ ≤ cs.length; omega)
      have f2 : cutG (mkS cs).cps.toList (some (at_ : Int)) none = cs.drop at_ := cutG_from (by show at_ ≤ cs.length; omega)
      rw [f1]
      have l1 : (mkS (cs.take at_) ++ mkS [c]).length = at_ + 1 := by rw [app_len, mkS_len, mkS_len, List.length_take, Nat.min_eq_left (by omega)]; rfl
      refine ⟨_, _, rfl, rfl, (by rw [mkS_len, mkS_len, List.length_take]; exact small (by simp; omega)), ?_⟩
      refine ⟨_, rfl, _, rfl, _, rfl, _, rfl, (by rw [lc]; exact small (by omega)), ?_⟩
      rw [f2]
      refine ⟨_, _, rfl, rfl, (by rw [l1, mkS_len, List.length_drop]; exact small (by omega)), ?_⟩
      have en : (mkS (cs.take at_) ++ mkS [c] ++ mkS (cs.drop at_)).cps.toList = cs.take at_ ++ [c] ++ cs.drop at_ := by rw [app_list, app_list]
      refine ⟨_, rfl, a, _, _, _, rfl, rfl, S4, e2, _, _, rfl, rfl, ⟨by decide, by decide⟩, _, _, rfl, rfl, (by show (0 : Int) < 2; decide), rfl, _, rfl, ?_⟩
      refine ite2 (fun hb => ?_) (fun hb => ?_)
      · have hb1 : d2 / 8 % 2 = 1 := by
          have := of_decide_eq_true hb
          injection this
        rw [if_pos hb1] at ht ⊢
        refine ⟨_, rfl, _, rfl, a, _, _, _, rfl, rfl, S4, e0, _, rfl, _, _, rfl, rfl, .inl ⟨by decide, by decide⟩, _, _, rfl, rfl, _, _, rfl, rfl, (by show (0 : Int) < 8; decide), _, _, rfl, rfl, ?_⟩
        have r0 := Int.emod_nonneg (d0 + 3 * (0 + (j : Int))) (show (8 : Int) ≠ 0 by decide)
        have r1 := Int.emod_lt_of_pos (d0 + 3 * (0 + (j : Int))) (show (0 : Int) < 8 by decide)
        refine ⟨_, _, rfl, rfl, by omega, by omega, (by show (mkS [c]).length ≤ 1000; rw [mkS_len]; simp), ?_⟩
        have ec : (mkS [c]).cps.toList = [c] := rfl
        rw [ec, rep1]
        refine ⟨_, rfl, .inl ⟨rfl, _, SqL.of hL⟩, _, rfl, l, _, _, rfl, rfl, hL, (by rw [List.length_map]; exact small' (by omega)), ?_⟩
        refine ⟨zs ++ [mkS (List.replicate (1 + (d0 + 3 * (0 + (j : Int))) % 8).toNat c)], _, _, _, rfl, same_upd s4 hl1, by rw [upd_same, List.map_append]; rfl, by rw [List.length_append, List.length_singleton, hz], ht.snoc ?_ ?_⟩
        · rw [← hcj]
          show (List.replicate _ c)[0]? = some c
          rw [List.getElem?_replicate, if_pos (by omega)]
        · refine nameB_of (fun x hx => ?_) ?_ ?_
          · have := (List.mem_replicate.mp hx).2
            rw [this]; exact hc0
          · show 1 ≤ (List.replicate _ c).length
            rw [List.length_replicate]; omega
          · show (List.replicate _ c).length ≤ 8
            rw [List.length_replicate]; omega
      · have hb1 : ¬ d2 / 8 % 2 = 1 := fun e => hb (by show decide (V.int (d2 / 8 % 2) = V.int 1) = true; rw [e]; rfl)
        rw [if_neg hb1] at ht ⊢
        refine ⟨_, rfl, .inl ⟨rfl, _, SqL.of hL⟩, _, rfl, l, _, _, rfl, rfl, hL, (by rw [List.length_map]; exact small' (by omega)), ?_⟩
        refine ⟨zs ++ [mkS (cs.take at_) ++ mkS [c] ++ mkS (cs.drop at_)], _, _, _, rfl, same_upd s4 hl1, by rw [upd_same, List.map_append]; rfl, by rw [List.length_append, List.length_singleton, hz], ht.snoc ?_ ?_⟩
        · rw [en, ← hcj, List.append_assoc, List.getElem?_append_right (by rw [List.length_take]; omega), List.length_take, Nat.min_eq_left (by omega), Nat.sub_self]
          rfl
        · rw [en]
          refine nameB_of (fun x hx => ?_) ?_ ?_
          · rcases List.mem_append.mp hx with z | z
            · rcases List.mem_append.mp z with z | z
              · exact hc x (List.mem_of_mem_take z)
              · rw [List.mem_singleton.mp z]; exact hc0
            · exact hc x (List.mem_of_mem_drop z)
          · rw [List.length_append, List.length_append, List.length_singleton]; omega
          · rw [List.length_append, List.length_append, List.length_take, List.length_drop, List.length_singleton]; omega
    · rintro σ H4 ⟨zs, u1, u2, u3, rfl, s4, hL, hz, ht⟩
      refine ⟨_, rfl, k l H4 zs s4 hl1 hL hz (fun z hzm => ?_) (ht.nodup (by omega))⟩
      obtain ⟨i, hi, rfl⟩ := List.mem_iff_getElem.mp hzm
      exact (ht i _ (List.getElem?_eq_getElem hi)).2

def kindsV : List V := [.str "heir", .str "grant", .str "part", .str "convey", .str "liege", .str "surrender", .str "death"]
def spKinds : Sp := fun vs H Q _ => vs = [] ∧ ∀ p, H p = none → Q (.ref p) (upd H p (.lst kindsV))
theorem scKinds : FnScope [] [] (defScope sKinds) := ⟨rfl, rfl, rfl, by decide +kernel, rfl, by decide +kernel, by decide +kernel⟩
theorem ok_kinds (F : Fun K "_law_kinds" "_law_kinds" sKinds f fd) : FnOk P w K mg base CX0 1 f fd [] spKinds := by
  refine F.ok scKinds (fun vs H Q E h => ?_) (fun cdv A outer s H vs Q E hr h => ?_)
  · obtain ⟨rfl, _⟩ := h
    rfl
  obtain ⟨rfl, k⟩ := h
  refine ⟨_, pss_one (ps_ret (pe_lst (pa_cons pe_str (pa_cons pe_str (pa_cons pe_str (pa_cons pe_str (pa_cons pe_str (pa_cons pe_str (pa_cons pe_str pa_nil))))))))), ?_⟩
  exact ⟨small (by simp), k⟩
end
end M

namespace M
open PySem L2
section
variable {P : Program} {w : World} {K : PySem.W.Frag} {mg : Str → Option Value} {base : Heap} {f : Addr} {fd : FuncData}
def shapesKV : List (Key × V) := [(.inr "heir", .str "dnn"), (.inr "grant", .str "dcnnas"), (.inr "part", .str "dnnna"), (.inr "convey", .str "dnn"), (.inr "liege", .str "dnc"), (.inr "surrender", .str "dn"), (.inr "death", .str "dn")]
theorem shapes_merge : mergeK [] shapesKV = shapesKV := by decide +kernel
theorem shapes_val (k : Str) : valV shapesKV (.inr k) = (form k).map fun l => V.str (shp l) := by
  unfold form forms shapesKV
  have key : ∀ (r : List (Key × V)) (q : List (Str × List Srt)) (x : Str) (t : Str) (l : List Srt), t = shp l → valV r (.inr k) = (q.lookup k).map (fun l => V.str (shp l)) → valV ((Sum.inr x, V.str t) :: r) (.inr k) = (((x, l) :: q).lookup k).map fun l => V.str (shp l) := by
    intro r q x t l ht h
    by_cases e : k = x
    · subst e
      rw [valV_pos rfl, List.lookup_cons]
      simp [ht]
    · have e' : (k == x) = false := by simpa using e
      have e2 : ¬ (Sum.inr x : Key) = Sum.inr k := fun h => e (by injection h with h; exact h.symm)
      rw [valV_neg e2, List.lookup_cons, e']
      exact h
  refine key _ _ _ _ _ (by decide +kernel) (key _ _ _ _ _ (by decide +kernel) (key _ _ _ _ _ (by decide +kernel) (key _ _ _ _ _ (by decide +kernel) (key _ _ _ _ _ (by decide +kernel) (key _ _ _ _ _ (by decide +kernel) (key _ _ _ _ _ (by decide +kernel) rfl))))))
def spShapes : Sp := fun vs H Q _ => vs = [] ∧ ∀ p, H p = none → Q (.ref p) (upd H p (.dK shapesKV))
theorem scShapes : FnScope [] [] (defScope sShapes) := ⟨rfl, rfl, rfl, by decide +kernel, rfl, by decide +kernel, by decide +kernel⟩
theorem shapes_body : ∃ j0 p0 j1 p1 j2 p2 j3 p3 j4 p4 j5 p5 j6 p6 j7 p7 j8 p8 j9 p9 j10 p10 j11 p11 j12 p12 j13 p13 q q', defBody sShapes = [.Return (some (.Dict [some (.Constant (.str "heir") j0 p0), some (.Constant (.str "grant") j1 p1), some (.Constant (.str "part") j2 p2), some (.Constant (.str "convey") j3 p3), some (.Constant (.str "liege") j4 p4), some (.Constant (.str "surrender") j5 p5), some (.Constant (.str "death") j6 p6)] [.Constant (.str "dnn") j7 p7, .Constant (.str "dcnnas") j8 p8, .Constant (.str "dnnna") j9 p9, .Constant (.str "dnn") j10 p10, .Constant (.str "dnc") j11 p11, .Constant (.str "dn") j12 p12, .Constant (.str "dn") j13 p13] q)) q'] := ⟨_, _, _, _, _, _, _, _, _, _, _, _, _, _, _, _, _, _, _, _, _, _, _, _, _, _, _, _, _, _, rfl⟩
theorem pss_shapes {X : Cx} : PSs X (defBody sShapes) (tRet (tDisp [(tC (.str "heir"), tC (.str "dnn")), (tC (.str "grant"), tC (.str "dcnnas")), (tC (.str "part"), tC (.str "dnnna")), (tC (.str "convey"), tC (.str "dnn")), (tC (.str "liege"), tC (.str "dnc")), (tC (.str "surrender"), tC (.str "dn")), (tC (.str "death"), tC (.str "dn"))])) := by
  obtain ⟨j0, p0, j1, p1, j2, p2, j3, p3, j4, p4, j5, p5, j6, p6, j7, p7, j8, p8, j9, p9, j10, p10, j11, p11, j12, p12, j13, p13, q, q', h⟩ := shapes_body
  rw [h]
  refine pss_one ?_
  refine ps_ret ?_
  refine pe_disp ?h ?a ?b ?c ?d
  case a => exact rfl
  case b => exact rfl
  case c => exact List.cons_ne_nil _ _
  case d => exact Nat.le_of_ble_eq_true rfl
  case h => exact (pps_cons pe_str pe_str (pps_cons pe_str pe_str (pps_cons pe_str pe_str (pps_cons pe_str pe_str (pps_cons pe_str pe_str (pps_cons pe_str pe_str (pps_cons pe_str pe_str pps_nil)))))))
theorem tPairs_c {a b : V} {r : List (TE × TE)} {σ : St} {H : Hp} {Q : List (V × V) → Hp → Prop} (h : tPairs r σ H fun ps H3 => Q ((a, b) :: ps) H3) : tPairs ((tC a, tC b) :: r) σ H Q := h
theorem tPairs_n {σ : St} {H : Hp} {Q : List (V × V) → Hp → Prop} (h : Q [] H) : tPairs [] σ H Q := h
theorem shapes_pairs : ([(.str "heir", .str "dnn"), (.str "grant", .str "dcnnas"), (.str "part", .str "dnnna"), (.str "convey", .str "dnn"), (.str "liege", .str "dnc"), (.str "surrender", .str "dn"), (.str "death", .str "dn")] : List (V × V)) = shapesKV.map fun kv => (kV kv.1, kv.2) := rfl
theorem tRD {D : Ends} {trs : List (TE × TE)} {σ : St} {H : Hp} (h : ∀ p, H p = none → tPairs trs σ (upd H p (.dK [])) fun ps H2 => H2 p = some (.dK []) ∧ ∃ kvs : List (Key × V), ps = kvs.map (fun kv => (kV kv.1, kv.2)) ∧ kvs.length ≤ 15 ∧ D.rt (.ref p) (upd H2 p (.dK (mergeK [] kvs)))) : tRet (tDisp trs) D σ H := h
theorem ok_shapes (F : Fun K "_law_shapes" "_law_shapes" sShapes f fd) : FnOk P w K mg base CX0 1 f fd [] spShapes := by
  refine F.ok scShapes (fun vs H Q E h => ?_) (fun cdv A outer s H vs Q E hr h => ?_)
  · obtain ⟨rfl, _⟩ := h
    rfl
  obtain ⟨rfl, k⟩ := h
  refine ⟨tRet (tDisp _), @pss_shapes _, ?y⟩
  refine tRD fun p hp => ?_
  refine tPairs_c (tPairs_c (tPairs_c (tPairs_c (tPairs_c (tPairs_c (tPairs_c (tPairs_n ?_)))))))
  refine ⟨upd_same, shapesKV, shapes_pairs, Nat.le_of_ble_eq_true rfl, ?_⟩
  rw [upd_upd, shapes_merge]
  exact k p hp
end
end M

namespace M
open PySem L2
theorem u1 {k : Nat} {A : Around} (r : Room k A) : A.units + 1 < cLine := by have := r.un; omega
theorem das_in (s : Srt) : (!(Builtin.Str.occurrences "das" (mkS [s.code]) 0 (Str.length "das") 1).isEmpty) = s.num := by cases s <;> decide +kernel
theorem code_a (s : Srt) : decide (V.str (mkS [s.code]) = V.str "a") = decide (s = .a) := by cases s <;> decide +kernel
theorem code_c (s : Srt) : decide (V.str (mkS [s.code]) = V.str "c") = decide (s = .c) := by cases s <;> decide +kernel
theorem shp_list (l : List Srt) : (shp l).cps.toList = l.map Srt.code := by simp [shp]
theorem shp_len (l : List Srt) : (shp l).length = l.length := by rw [shp, mkS_len, List.length_map]
theorem shp_getD {l : List Srt} {i : Nat} (h : i < l.length) : (shp l).cps.toList.getD i 0 = (l.getD i .d).code := by
  rw [shp_list, List.getD_eq_getElem?_getD, List.getD_eq_getElem?_getD, List.getElem?_map, List.getElem?_eq_getElem h]; rfl
theorem fit_int (s : Srt) (n : Int) (h : s.num = true) : fitB s (.int n) = (decide ((if decide (s = .a) = true then 1 else 0) ≤ n) && decide (n ≤ 9999)) := by
  cases s <;> first | rfl | cases h
theorem fit_str (s : Srt) (z : Str) (h : s.num = false) : fitB s (.str z) = (nameB z.cps.toList || (decide (s = .c) && decide (z = ""))) := by
  cases s with
  | n => show nameB z.cps.toList = (nameB z.cps.toList || (false && decide (z = ""))); simp
  | c => show (decide (z = "") || nameB z.cps.toList) = (nameB z.cps.toList || (true && decide (z = ""))); rw [Bool.true_and, Bool.or_comm]
  | d => cases h
  | a => cases h
  | s => cases h
theorem dec_str {x y : Str} : decide (V.str x = V.str y) = decide (x = y) := decide_eq_decide.mpr ⟨fun e => by injection e, fun e => by rw [e]⟩

def fitR (l : List Srt) (rest : List V) : Prop := ∀ (i : Nat) (s : Srt) (v : V), l[i]? = some s → rest[i]? = some v → fitB s v = true
theorem fit_snoc {l : List Srt} {rest : List V} {s : Srt} {v : V} (h : fitR l rest) (hs : l[rest.length]? = some s) (hv : fitB s v = true) : fitR l (rest ++ [v]) := by
  intro j t u e1 e2
  by_cases hlt : j < rest.length
  · rw [List.getElem?_append_left hlt] at e2; exact h j t u e1 e2
  · have hj' : j < (rest ++ [v]).length := (List.getElem?_eq_some_iff.mp e2).1
    have e : j = rest.length := by rw [List.length_append, List.length_singleton] at hj'; omega
    subst e
    rw [List.getElem?_append_right (Nat.le_refl _), Nat.sub_self] at e2
    have : v = u := by simpa using e2
    subst this
    rw [hs] at e1
    cases e1
    exact hv
theorem fit_set {l : List Srt} {rest : List V} {j : Nat} {v : V} (h : fitR l rest) (hv : ∀ s, l[j]? = some s → fitB s v = true) : fitR l (rest.set j v) := by
  intro i t u e1 e2
  by_cases hij : i = j
  · subst hij
    have hl := (List.getElem?_eq_some_iff.mp e2).1
    rw [List.length_set] at hl
    rw [List.getElem?_set_self hl] at e2
    cases e2
    exact hv t e1
  · rw [List.getElem?_set_ne (fun e => hij e.symm)] at e2
    exact h i t u e1 e2
theorem fit_all {l : List Srt} {rest : List V} (h : fitR l rest) : (l.zip rest).all fitP = true := by
  rw [List.all_eq_true]
  intro p hp
  obtain ⟨i, hi⟩ := List.mem_iff_getElem?.mp hp
  have h2 := List.getElem?_zip_eq_some.mp hi
  exact h i _ _ h2.1 h2.2
theorem fit_name {s : Srt} {z : Str} (h : nameB z.cps.toList = true) (hs : s.num = false) : fitB s (.str z) = true := by
  rw [fit_str s z hs, h]; rfl
theorem wm_one {k : Str} {l : List Srt} {rest : List V} (hf : form k = some l) (hl : rest.length = l.length) (h : fitR l rest) (h2 : two k = false ∨ rest[1]? ≠ rest[2]?) : wmR k rest = true := by
  unfold wmR
  rw [hf]
  show (decide (rest.length = l.length) && (((l.zip rest).all fitP) && !(two k && decide (rest[1]? = rest[2]?)))) = true
  rw [decide_eq_true hl, fit_all h]
  rcases h2 with h2 | h2
  · rw [h2]; rfl
  · rw [decide_eq_false h2]; simp
theorem kinds_ok : ∀ i : _root_.Fin 7, (match kindsV[i.val]? with | some (.str k) => (form k).isSome | _ => false) = true := by decide +kernel
theorem kinds_at {i : Int} (h0 : 0 ≤ i) (h1 : i < 7) : ∃ k l, atI kindsV i = some (.str k) ∧ form k = some l := by
  have e : i = ((i.toNat : Nat) : Int) := by omega
  have h := kinds_ok ⟨i.toNat, by omega⟩
  simp only at h
  split at h
  · rename_i k hk
    obtain ⟨l, hl⟩ := Option.isSome_iff_exists.mp h
    refine ⟨k, l, ?_, hl⟩
    have q : atI kindsV ((i.toNat : Nat) : Int) = some (.str k) := atI_nat hk
    rw [← e] at q
    exact q
  · cases h
theorem num5 {x : Int} (hx0 : 0 ≤ x) (hx1 : x ≤ 9999) {j : Int} (h0 : 0 ≤ j) (h1 : j < 5) : ∃ n, atI [V.int x, V.int x, V.int 9999, V.int 1, V.int 0] j = some (V.int n) ∧ 0 ≤ n ∧ n ≤ 9999 := by
  obtain ⟨v, e, m⟩ := at_some (xs := [V.int x, V.int x, V.int 9999, V.int 1, V.int 0]) h0 h1
  simp only [List.mem_cons, List.not_mem_nil, or_false] at m
  rcases m with rfl | rfl | rfl | rfl | rfl
  · exact ⟨_, e, hx0, hx1⟩
  · exact ⟨_, e, hx0, hx1⟩
  · exact ⟨_, e, by decide, by decide⟩
  · exact ⟨_, e, by decide, by decide⟩
  · exact ⟨_, e, by decide, by decide⟩
theorem max_fit {s : Srt} {n : Int} (hs : s.num = true) (h0 : 0 ≤ n) (h1 : n ≤ 9999) : fitB s (.int (if (if decide (V.str (mkS [s.code]) = V.str "a") then (1 : Int) else 0) > n then (if decide (V.str (mkS [s.code]) = V.str "a") then (1 : Int) else 0) else n)) = true := by
  rw [code_a]
  cases s with
  | n => cases hs
  | c => cases hs
  | d =>
    have e : decide (Srt.d = Srt.a) = false := rfl
    rw [e, if_neg (show ¬ (if (false = true) then (1 : Int) else 0) > n by rw [if_neg Bool.false_ne_true]; omega)]
    show (decide (0 ≤ n) && decide (n ≤ 9999)) = true
    rw [decide_eq_true h0, decide_eq_true h1]; rfl
  | s =>
    have e : decide (Srt.s = Srt.a) = false := rfl
    rw [e, if_neg (show ¬ (if (false = true) then (1 : Int) else 0) > n by rw [if_neg Bool.false_ne_true]; omega)]
    show (decide (0 ≤ n) && decide (n ≤ 9999)) = true
    rw [decide_eq_true h0, decide_eq_true h1]; rfl
  | a =>
    have e : decide (Srt.a = Srt.a) = true := rfl
    rw [e, if_pos rfl]
    by_cases h : (1 : Int) > n
    · rw [if_pos h]; rfl
    · rw [if_neg h]
      show (decide (1 ≤ n) && decide (n ≤ 9999)) = true
      rw [decide_eq_true (show 1 ≤ n by omega), decide_eq_true h1]; rfl
theorem filter_len {α : Type} [DecidableEq α] (x : α) : ∀ (zs : List α), zs.Nodup → zs.length ≤ (zs.filter fun z => !decide (z = x)).length + 1
  | [], _ => by simp
  | z :: zs, h => by
    have h1 := List.nodup_cons.mp h
    by_cases e : z = x
    · subst e
      have : (zs.filter fun y => !decide (y = z)) = zs := by
        rw [List.filter_eq_self]
        intro y hy
        have : y ≠ z := fun e => h1.1 (e ▸ hy)
        simp [this]
      rw [List.filter_cons_of_neg (by simp), this, List.length_cons]
      exact Nat.le_refl _
    · have ih := filter_len x zs h1.2
      rw [List.filter_cons_of_pos (by simp [e]), List.length_cons, List.length_cons]
      omega
theorem kept_snoc {l : List Srt} {rest : List V} {s : Srt} {v : V} (h : keptR l rest) (hs : l[rest.length]? = some s) (hv : isI v = s.num) : keptR l (rest ++ [v]) := by
  intro j t u e1 e2
  by_cases hlt : j < rest.length
  · rw [List.getElem?_append_left hlt] at e2; exact h j t u e1 e2
  · have hj' : j < (rest ++ [v]).length := (List.getElem?_eq_some_iff.mp e2).1
    have e : j = rest.length := by rw [List.length_append, List.length_singleton] at hj'; omega
    subst e
    rw [List.getElem?_append_right (Nat.le_refl _), Nat.sub_self] at e2
    have : v = u := by simpa using e2
    subst this
    rw [hs] at e1
    cases e1
    exact hv
theorem kept_set {l : List Srt} {rest : List V} {j : Nat} {v w : V} (h : keptR l rest) (hw : rest[j]? = some w) (hv : isI v = isI w) : keptR l (rest.set j v) := by
  intro i t u e1 e2
  by_cases hij : i = j
  · subst hij
    have hl := (List.getElem?_eq_some_iff.mp hw).1
    rw [List.getElem?_set_self hl] at e2
    cases e2
    rw [hv]; exact h i t w e1 hw
  · rw [List.getElem?_set_ne (fun e => hij e.symm)] at e2
    exact h i t u e1 e2
theorem name_ok {z : Str} (h : nameB z.cps.toList = true) : okV 20 (.str z) := by
  unfold nameB at h
  rw [Bool.and_eq_true, Bool.and_eq_true] at h
  obtain ⟨h1, h2, h3⟩ := h
  have h3' := of_decide_eq_true h3
  refine .inr ⟨z, rfl, by have : z.length = z.cps.toList.length := by simp [Str.length]
                          omega, fun c hc => ?_⟩
  have := List.all_eq_true.mp h1 c hc
  unfold low at this
  rw [Bool.and_eq_true] at this
  have := of_decide_eq_true this.2
  omega
def spAny (K : PySem.W.Frag) : Sp := fun vs H Q _ => ∃ (a b : Addr) (ds : List Int) (zs : List Str), vs = [.ref a, .ref b] ∧ SqL K H a (ds.map V.int) ∧ 14 ≤ ds.length ∧ (∀ v ∈ ds, Okn v) ∧ SqL K H b (zs.map V.str) ∧ zs.length = 7 ∧ (∀ z ∈ zs, nameB z.cps.toList = true) ∧ zs.Nodup ∧
  ∀ p k rest H', Same H H' → H' p = some (.tup (.str k :: rest)) → rest.length ≤ 6 → Row 20 k rest → wmR k rest = true → Q (.ref p) H'
section
variable {P : Program} {w : World} {K : PySem.W.Frag} {mg : Str → Option Value} {base : Heap} {f : Addr} {fd : FuncData}
theorem scAny : FnScope ["_law_d", "_law_names_here", "_law_kind", "_law_row", "_law_k", "_law_sort", "_law_number_here"] ["_law_d", "_law_names_here"] (defScope sAny) := ⟨rfl, rfl, rfl, by decide +kernel, rfl, by decide +kernel, by decide +kernel⟩
def scY1 : Scope := { kind := .function, names := [(".0", .local), ("_law_one", .local), ("_law_row", .free)], isGenerator := false, isCoroutine := false }
theorem csY1 : CScope ["_law_d", "_law_names_here", "_law_kind", "_law_row", "_law_k", "_law_sort", "_law_number_here"] (defScope sAny) scY1 ["_law_one"] ["_law_row"] [3] := ⟨rfl, by decide +kernel, by decide +kernel, by decide +kernel, rfl, by decide +kernel⟩
theorem ndY1 : ((["_law_one"] : List Str) ++ (["_law_row"] : List Str)).Nodup := by decide +kernel
set_option maxHeartbeats 8000000 in
theorem ok_any (F : Fun K "_law_any_row" "_law_any_row" sAny f fd) (ml : mg "len" = none) (mt : mg "int" = none) (me : mg "enumerate" = none) (mx : mg "max" = none) (mu : mg "tuple" = none) {g1 g2 : Addr} {d1 d2 : FuncData} (G1 : FnOk P w K mg base CX0 1 g1 d1 [] spShapes) (M1 : Ms K mg "_law_shapes" g1 d1 [])
    (G2 : FnOk P w K mg base CX0 1 g2 d2 [] spKinds) (M2 : Ms K mg "_law_kinds" g2 d2 []) : FnOk P w K mg base CX0 2 f fd ["_law_d", "_law_names_here"] (spAny K) := by
  refine F.ok scAny (fun vs H Q E h => ?_) (fun cdv A outer s H vs Q E hr h => ?_)
  · obtain ⟨a, b, ds, zs, rfl, _⟩ := h
    rfl
  obtain ⟨a, b, ds, zs, rfl, hS, hlen, hok, hB, h7, hnm, hnd, kk⟩ := h
  refine ⟨_, pss_cons (ps_set (i := 2) scAny.nd rfl (Or.inl rfl) (pe_ix ix_list (pe_call0 G2 hr rfl M2.m M2.k M2.b .nil pass0) (pe_op op_mod (pe_ix ix_list (pv 0) pe_int (fun _ _ => rfl)) pe_int) (fun _ _ => rfl)))
    (pss_cons (ps_set (i := 3) scAny.nd rfl (Or.inr rfl) (pe_lst (pa_cons (pv 2) pa_nil)))
    (pss_cons (ps_for PassesOwn.never rfl (pi_enumS rfl me (pa_cons (pe_dget (u1 hr) (pe_call0 G1 hr rfl M1.m M1.k M1.b .nil pass0) (pv 2) (fun _ _ => rfl)) pa_nil)) (pg_tup rfl (pgs_cons (pg_name (i := 4) scAny.nd rfl (Or.inl rfl)) (pgs_cons (pg_name (i := 5) scAny.nd rfl (Or.inl rfl)) pgs_nil)))
      (pss_cons (ps_set (i := 6) scAny.nd rfl (Or.inl rfl) (pe_ix ix_list (pe_lst (pa_cons (pe_op op_mod (pe_ix ix_list (pv 0) (pe_op op_add pe_int (pv 4)) (fun _ _ => rfl)) pe_int) (pa_cons (pe_op op_mod (pe_ix ix_list (pv 0) (pe_op op_add pe_int (pv 4)) (fun _ _ => rfl)) pe_int)
          (pa_cons pe_int (pa_cons pe_int (pa_cons pe_int pa_nil)))))) (pe_op op_mod (pe_ix ix_list (pv 0) (pe_op op_add pe_int (pv 4)) (fun _ _ => rfl)) pe_int) (fun _ _ => rfl)))
      (pss_one (ps_if (pt_cmpR op_in_str (pv 5) pe_str (by with_unfolding_all rfl))
        (pss_one (ps_expr (pe_bm PySem.F.plainAttrs_list PySem.F.slot_list_append PySem.F.type_list_append mt_append (pv 3) (pa_cons (pe_callB (call_max2 rfl) rfl mx bt_max (pa_cons (pv 6) (pa_cons (pe_callTy call_int1 rfl mt bt_int (pa_cons (pe_cmpR op_eq (pv 5) pe_str (nomark _)) pa_nil)) pa_nil))) pa_nil))))
        (pss_one (ps_if (PW.pt (pw_and (pt_cmpR op_eq (pv 5) pe_str (nomark _)) (pw_and1 (pt_cmpR op_eq (pe_op op_mod (pe_ix ix_list (pv 0) (pe_op op_add pe_int (pv 4)) (fun _ _ => rfl)) pe_int) pe_int (nomark _)))))
          (pss_one (ps_expr (pe_bm PySem.F.plainAttrs_list PySem.F.slot_list_append PySem.F.type_list_append mt_append (pv 3) (pa_cons pe_str pa_nil))))
          (pss_one (ps_expr (pe_bm PySem.F.plainAttrs_list PySem.F.slot_list_append PySem.F.type_list_append mt_append (pv 3) (pa_cons (pe_ix ix_list (pv 1) (pe_op op_mod (pe_ix ix_list (pv 0) (pe_op op_add pe_int (pv 4)) (fun _ _ => rfl)) (pe_callB call_len_seq rfl ml PySem.boot_len (pa_cons (pv 1) pa_nil))) (fun _ _ => rfl)) pa_nil))))))))))
    (pss_cons (ps_if (PW.pt (pw_and (pt_cmpR op_in_seq (pv 2) (pe_tup (pa_cons pe_str (pa_cons pe_str pa_nil))) (by with_unfolding_all rfl)) (pw_and1 (pt_cmpR op_eq (pe_ix ix_list (pv 3) pe_int (fun _ _ => rfl)) (pe_ix ix_list (pv 3) pe_int (fun _ _ => rfl)) (nomark _)))))
      (pss_one (ps_asg (pe_ix ix_list (pe_comp rfl csY1 (pi_list (pv 1)) (fun s H fp C => ⟨pg_name (i := 0) ndY1 rfl (Or.inl rfl), pts_one (pt_cmpR op_ne (pv 0) (pe_ix (ix_listK (K := K)) (pv 1) pe_int (fun _ _ => rfl)) (nomark _)), pv 0⟩))
          (pe_op op_mod (pe_ix ix_list (pv 0) pe_int (fun _ _ => rfl)) (pe_op op_sub (pe_callB call_len_seq rfl ml PySem.boot_len (pa_cons (pv 1) pa_nil)) pe_int)) (fun _ _ => rfl)) (pg_sub (pv 3) pe_int set_list))) pss_nil)
    (pss_one (ps_ret (pe_callTy call_tuple_of rfl mu bt_tuple (pa_cons (pv 3) pa_nil))))))), ?_⟩
  obtain ⟨d0, e0, o0⟩ := fs_at hok (i := 0) (by decide) (by omega)
  obtain ⟨d7, e7, o7⟩ := fs_at hok (i := 7) (by decide) (by omega)
  obtain ⟨k, l, ek, hf⟩ := kinds_at (i := d0 % 7) (Int.emod_nonneg _ (by decide)) (Int.emod_lt_of_pos _ (by decide))
  obtain ⟨l2, l6⟩ := form_len hf
  refine ⟨rfl, fun p hp => ?_⟩
  have s1 : Same H (upd H p (.lst kindsV)) := same_new hp _
  refine ⟨_, rfl, a, _, _, _, rfl, rfl, s1.seq hS, e0, _, _, rfl, rfl, (by show (0 : Int) < 7; decide), p, _, _, _, rfl, rfl, SqL.of upd_same, ek, ?_⟩
  generalize upd H p (.lst kindsV) = H1 at s1 ⊢
  refine ⟨_, rfl, small (by simp), fun r hr1 => ?_⟩
  have hr0 : H r = none := s1.free hr1
  have s2 : Same H (upd H1 r (.lst [V.str k])) := same_upd s1 hr0
  have r2 : (upd H1 r (.lst [V.str k])) r = some (.lst [V.str k]) := upd_same
  generalize upd H1 r (.lst [V.str k]) = H2 at s2 r2 ⊢
  refine ⟨rfl, fun q hq => ?_⟩
  have s3 : Same H2 (upd H2 q (.dK shapesKV)) := same_new hq _
  have g3 : DGet (upd H2 q (.dK shapesKV)) q (V.str k) (some (V.str (shp l))) := by
    have := DGet.k (k := .inr k) (show (upd H2 q (.dK shapesKV)) q = some (.dK shapesKV) from upd_same)
    rw [shapes_val, hf] at this
    exact this
  refine ⟨_, rfl, q, _, rfl, g3, shp l, rfl, ?_⟩
  have r3 := s3 _ _ r2
  have t3 := s2.trans s3
  generalize upd H2 q (.dK shapesKV) = H3 at t3 r3 ⊢
  refine for_zip (n := l.length) (fx := fun i => V.int (i : Int)) (fy := fun i => V.str (mkS [(l.getD i .d).code]))
    (fun i σ Hx => ∃ (rest : List V) (u4 u5 u6 : Option V), σ = [some (.ref a), some (.ref b), some (.str k), some (.ref r), u4, u5, u6] ∧ Same H Hx ∧ Hx r = some (.lst (.str k :: rest)) ∧ rest.length = i ∧ (∀ v ∈ rest, okV 20 v) ∧ keptR l rest ∧ fitR l rest) ?_
    ⟨[], none, none, none, rfl, t3, r3, rfl, (fun v hv => nomatch hv), (fun i s v _ h => by simp at h), fun i s v _ h => by simp at h⟩ ?_ ?_
  · rintro i σ Hx _
    have st := enum_steps (z := shp l) (H := Hx) (i := i)
    rw [shp_list, List.length_map] at st
    refine ⟨fun hi => ⟨(st.1 hi).1, fun v H' y => ?_⟩, st.2⟩
    obtain ⟨t, e1, e2, e3⟩ := (st.1 hi).2 v H' y
    refine ⟨t, e1, e2, ?_⟩
    have e4 := shp_getD hi
    rw [shp_list] at e4
    rw [e3, e4]
  · rintro i σ Hx t hi ⟨rest, u4, u5, u6, rfl, sx, rx, hl, hrk, hkp, hft⟩ ht
    have h1 : l[i]? = some l[i] := List.getElem?_eq_getElem hi
    rw [at_getD h1]
    have s4 : Same Hx (upd Hx t (.tup [V.int (i : Int), V.str (mkS [(l[i]).code])])) := same_new ht _
    refine ⟨t, _, rfl, SqT.of upd_same, rfl, _, _, rfl, _, _, rfl, rfl, ?_⟩
    have r4 := s4 _ _ rx
    have t4 := sx.trans s4
    generalize upd Hx t (.tup [V.int (i : Int), V.str (mkS [(l[i]).code])]) = H4 at t4 r4 ⊢
    obtain ⟨v1, e1, o1⟩ := fs_at hok (i := 1 + (i : Int)) (by omega) (by omega)
    obtain ⟨v8, e8, o8⟩ := fs_at hok (i := 8 + (i : Int)) (by omega) (by omega)
    obtain ⟨n, en, n0, n1⟩ := num5 (x := v1 % 10000) (Int.emod_nonneg _ (by decide)) (by have := Int.emod_lt_of_pos v1 (show (0 : Int) < 10000 by decide); omega) (j := v8 % 5) (Int.emod_nonneg _ (by decide)) (Int.emod_lt_of_pos _ (by decide))
    refine ⟨_, rfl, _, rfl, _, _, rfl, rfl, a, _, _, _, rfl, rfl, t4.seq hS, e1, _, _, rfl, rfl, (by show (0 : Int) < 10000; decide), ?_⟩
    refine ⟨_, rfl, _, rfl, _, _, rfl, rfl, a, _, _, _, rfl, rfl, t4.seq hS, e1, _, _, rfl, rfl, (by show (0 : Int) < 10000; decide), small (by simp), fun c hc => ?_⟩
    have s5 : Same H4 (upd H4 c (.lst [V.int (v1 % 10000), V.int (v1 % 10000), V.int 9999, V.int 1, V.int 0])) := same_new hc _
    refine ⟨_, rfl, _, rfl, _, _, rfl, rfl, a, _, _, _, rfl, rfl, (t4.trans s5).seq hS, e8, _, _, rfl, rfl, (by show (0 : Int) < 5; decide), c, _, _, _, rfl, rfl, SqL.of upd_same, en, ?_⟩
    have r5 := s5 _ _ r4
    have t5 := t4.trans s5
    generalize upd H4 c (.lst [V.int (v1 % 10000), V.int (v1 % 10000), V.int 9999, V.int 1, V.int 0]) = H5 at t5 r5 ⊢
    have fin : ∀ v, okV 20 v → isI v = (l[i]).num → fitB (l[i]) v = true → ∃ (rest' : List V) (u4 u5 u6 : Option V), ([some (V.ref a), some (V.ref b), some (V.str k), some (V.ref r), some (V.int (i : Int)), some (V.str (mkS [(l[i]).code])), some (V.int n)] : List (Option V)) = [some (.ref a), some (.ref b), some (.str k), some (.ref r), u4, u5, u6] ∧ Same H (upd H5 r (.lst (V.str k :: rest ++ [v]))) ∧
        (upd H5 r (.lst (V.str k :: rest ++ [v]))) r = some (.lst (.str k :: rest')) ∧ rest'.length = i + 1 ∧ (∀ v ∈ rest', okV 20 v) ∧ keptR l rest' ∧ fitR l rest' := fun v hv hvi hvf =>
      ⟨rest ++ [v], _, _, _, rfl, same_upd t5 hr0, upd_same, by rw [List.length_append, List.length_singleton, hl], fun u hu => by
        rcases List.mem_append.mp hu with z | z
        · exact hrk u z
        · rw [List.mem_singleton.mp z]; exact hv, kept_snoc hkp (by rw [hl]; exact h1) hvi, fit_snoc hft (by rw [hl]; exact h1) hvf⟩
    have sz : (V.str k :: rest).length < sizeLine := by rw [List.length_cons]; exact small' (by omega)
    refine ⟨_, rfl, _, _, rfl, rfl, _, rfl, ?_⟩
    rw [das_in]
    have S5 := t5.seq hS
    have B5 := t5.seq hB
    refine ite2 (fun c1 => ?_) (fun c1 => ?_)
    · exact ⟨_, rfl, .inl ⟨rfl, _, SqL.of r5⟩, _, rfl, _, rfl, rfl, .inr ⟨_, rfl, _, _, rfl, r, _, _, rfl, rfl, r5, sz, fin _ (.inl ⟨_, rfl⟩) (by rw [c1]; rfl) (max_fit c1 n0 n1)⟩⟩
    · have c1' : (l[i]).num = false := Bool.eq_false_iff.mpr c1
      have nam : ∃ z, atI (zs.map V.str) (v1 % ((zs.map V.str).length : Int)) = some (V.str z) ∧ nameB z.cps.toList = true := by
        have hl7 : (zs.map V.str).length = 7 := by rw [List.length_map, h7]
        obtain ⟨x, ex, mx'⟩ := at_some (xs := zs.map V.str) (i := v1 % ((zs.map V.str).length : Int)) (Int.emod_nonneg _ (by omega)) (Int.emod_lt_of_pos _ (by omega))
        obtain ⟨z, hz, rfl⟩ := List.mem_map.mp mx'
        exact ⟨z, ex, hnm z hz⟩
      obtain ⟨z, ez, hz⟩ := nam
      refine ⟨_, rfl, rfl, _, rfl, ?_⟩
      refine ite2 (fun c2 => ?_) (fun c2 => ?_)
      · have hcf : fitB (l[i]) (V.str "") = true := by
          have hcc : l[i] = Srt.c := of_decide_eq_true ((code_c _).symm.trans c2)
          rw [hcc]; decide +kernel
        refine ⟨_, rfl, _, rfl, _, _, rfl, rfl, a, _, _, _, rfl, rfl, S5, e8, _, _, rfl, rfl, (by show (0 : Int) < 3; decide), rfl, _, rfl, ?_⟩
        refine ite2 (fun c3 => ?_) (fun c3 => ?_)
        · exact ⟨_, rfl, .inl ⟨rfl, _, SqL.of r5⟩, r, _, _, rfl, rfl, r5, sz, fin _ (.inr ⟨_, rfl, by decide +kernel, by decide +kernel⟩) (by rw [c1']; rfl) hcf⟩
        · exact ⟨_, rfl, .inl ⟨rfl, _, SqL.of r5⟩, _, rfl, _, rfl, _, rfl, _, _, rfl, rfl, a, _, _, _, rfl, rfl, S5, e1, _, rfl, b, _, rfl, .inl B5, _, _, rfl, rfl, (by show (0 : Int) < ((zs.map V.str).length : Int); rw [List.length_map, h7]; decide), b, _, _, _, rfl, rfl, B5, ez, r, _, _, rfl, rfl, r5, sz, fin _ (name_ok hz) (by rw [c1']; rfl) (fit_name hz c1')⟩
      · refine iteF ?_
        exact ⟨_, rfl, .inl ⟨rfl, _, SqL.of r5⟩, _, rfl, _, rfl, _, rfl, _, _, rfl, rfl, a, _, _, _, rfl, rfl, S5, e1, _, rfl, b, _, rfl, .inl B5, _, _, rfl, rfl, (by show (0 : Int) < ((zs.map V.str).length : Int); rw [List.length_map, h7]; decide), b, _, _, _, rfl, rfl, B5, ez, r, _, _, rfl, rfl, r5, sz, fin _ (name_ok hz) (by rw [c1']; rfl) (fit_name hz c1')⟩
  · rintro σ Hx ⟨rest, u4, u5, u6, rfl, sx, rx, hl, hrk, hkp, hft⟩
    have done : ∀ (rest' : List V) (Hy : Hp), Same H Hy → Hy r = some (.lst (.str k :: rest')) → rest'.length = l.length → (∀ v ∈ rest', okV 20 v) → keptR l rest' → fitR l rest' → (two k = false ∨ rest'[1]? ≠ rest'[2]?) → ∀ p, Hy p = none → Q (.ref p) (upd Hy p (.tup (.str k :: rest'))) := fun rest' Hy sy ry hly hry hky hfy h2y p hp =>
      kk p k rest' _ (same_upd sy (sy.free hp)) upd_same (by omega) ⟨by omega, hry, fun l' hl' => by rw [hf] at hl'; cases hl'; exact hky⟩ (wm_one hf hly hfy h2y)
    refine ⟨_, rfl, small (by simp), fun t ht => ?_⟩
    have st : Same Hx (upd Hx t (.tup [V.str "heir", V.str "liege"])) := same_new ht _
    refine ⟨t, _, rfl, .inr (SqT.of upd_same), rfl, rfl, _, rfl, ?_⟩
    show if inV (V.str k) [V.str "heir", V.str "liege"] = true then _ else _
    rw [inTwo]
    have ry := st _ _ rx
    have sy := sx.trans st
    generalize upd Hx t (.tup [V.str "heir", V.str "liege"]) = Hy at ry sy ⊢
    refine ite2 (fun h2 => ?_) (fun h2 => ?_)
    · obtain ⟨l3, n1, n2⟩ := form_two hf h2
      have i1 : (1 : Nat) < rest.length := by omega
      have i2 : (2 : Nat) < rest.length := by omega
      have q1 : rest[1]? = some rest[1] := List.getElem?_eq_getElem i1
      have q2 : rest[2]? = some rest[2] := List.getElem?_eq_getElem i2
      have w1 : l[1]? = some l[1] := List.getElem?_eq_getElem (by omega)
      have w2 : l[2]? = some l[2] := List.getElem?_eq_getElem (by omega)
      have v1 : isI rest[1] = false := (hkp 1 _ _ w1 q1).trans (n1 _ w1)
      have v2 : isI rest[2] = false := (hkp 2 _ _ w2 q2).trans (n2 _ w2)
      have o1 := hrk _ (List.getElem_mem i1)
      have o2 := hrk _ (List.getElem_mem i2)
      refine ⟨_, rfl, r, _, _, _, rfl, rfl, SqL.of ry, at_nat q1 2 rfl, _, rfl, r, _, _, _, rfl, rfl, SqL.of ry, at_nat q2 3 rfl, ?_⟩
      generalize rest[1] = x1 at *
      generalize rest[2] = x2 at *
      rcases o1 with ⟨n, rfl⟩ | ⟨z1, rfl, _⟩
      · cases v1
      rcases o2 with ⟨n, rfl⟩ | ⟨z2, rfl, _⟩
      · cases v2
      refine ⟨rfl, _, rfl, ?_⟩
      refine ite2 (fun c1 => ?_) (fun c1 => ?_)
      · refine ⟨_, rfl, b, rfl, ⟨_, sy.seq hB⟩, fun D hD => ?_⟩
        have ney : r ≠ D := ne_of_none ry hD
        refine comp_list (K := K) (a := b) (xs := zs.map V.str) (fun i ys Hz => ys = ((zs.take i).filter fun z => !decide (z = z1)).map V.str ∧ Same Hy Hz ∧ Hz D = some (.lst ys)) (fun i ys Hz h => (sy.trans h.2.1).seq hB)
          ⟨by simp, same_new hD _, upd_same⟩ (fun i ys Hz h => h.2.2) ?_ ?_
        · rintro i ys Hz x hx ⟨rfl, sz, hDz⟩
          rw [List.getElem?_map] at hx
          obtain ⟨z, hz, rfl⟩ := Option.map_eq_some_iff.mp hx
          refine ⟨Kp.set rfl (Kp.refl _), ?_⟩
          refine ⟨_, rfl, _, rfl, r, _, _, _, rfl, rfl, SqL.of (sz _ _ ry), at_nat q1 2 rfl, rfl, _, rfl, ?_⟩
          have et : (zs.take (i + 1)).filter (fun z => !decide (z = z1)) = (zs.take i).filter (fun z => !decide (z = z1)) ++ (if (!decide (z = z1)) = true then [z] else []) := by
            rw [List.take_add_one, hz, List.filter_append]
            congr 1
            by_cases e : z = z1 <;> simp [e]
          rw [dec_str]
          refine ite2 (fun c => ?_) (fun c => ?_)
          · refine ⟨_, rfl, hDz, ?_, ?_, same_upd sz hD, upd_same⟩
            · rw [List.length_map]
              have := List.length_filter_le (fun z => !decide (z = z1)) (zs.take i)
              rw [List.length_take] at this
              exact small' (by omega)
            · rw [et, if_pos c, List.map_append]; rfl
          · refine ⟨?_, sz, hDz⟩
            rw [et, if_neg c, List.append_nil]
        · rintro ys Hz ⟨rfl, sz, hDz⟩
          rw [List.length_map, List.take_length] at hDz
          have S7 := (sy.trans sz).seq hS
          have B7 := (sy.trans sz).seq hB
          have hfl := filter_len z1 zs hnd
          have pos6 : (0 : Int) < ((zs.map V.str).length : Int) - 1 := by rw [List.length_map, h7]; decide
          refine ⟨_, rfl, a, _, _, _, rfl, rfl, S7, e7, _, rfl, b, _, rfl, .inl B7, _, _, rfl, rfl, _, _, rfl, rfl, pos6, ?_⟩
          have m0 := Int.emod_nonneg d7 (Int.ne_of_gt pos6)
          have m1 := Int.emod_lt_of_pos d7 pos6
          obtain ⟨x, ex, mx'⟩ := at_some (xs := ((zs.filter fun z => !decide (z = z1)).map V.str)) (i := d7 % (((zs.map V.str).length : Int) - 1)) m0 (by
            have e1 : (zs.map V.str).length = 7 := by rw [List.length_map, h7]
            have e2 : ((zs.filter fun z => !decide (z = z1)).map V.str).length = (zs.filter fun z => !decide (z = z1)).length := List.length_map ..
            rw [e2, e1]
            rw [e1] at m1
            omega)
          obtain ⟨z, hz, rfl⟩ := List.mem_map.mp mx'
          refine ⟨D, _, _, _, rfl, rfl, SqL.of hDz, ex, ?_⟩
          have hzn := hnm z (List.mem_filter.mp hz).1
          refine ⟨_, rfl, r, _, _, 3, rfl, rfl, sz _ _ ry, (by unfold ixN; rw [if_pos (by decide), if_pos (by rw [List.length_cons]; omega)]; rfl), ?_⟩
          have tz := sy.trans sz
          have ex3 : (V.str k :: rest).set 3 (V.str z) = V.str k :: rest.set 2 (V.str z) := rfl
          rw [ex3]
          refine ⟨_, rfl, r, _, rfl, .inl ⟨SqL.of upd_same, fun p hp => ?_⟩⟩
          refine done (rest.set 2 (V.str z)) _ (same_upd tz hr0) upd_same (by rw [List.length_set]; exact hl) (fun v hv => ?_) (kept_set hkp q2 rfl) (fit_set hft fun s hs => fit_name hzn (n2 s hs)) (.inr (by
            rw [List.getElem?_set_ne (by decide), q1, List.getElem?_set_self (by omega)]
            intro e
            have e' := Option.some.inj e
            injection e' with e'
            have hne := (List.mem_filter.mp hz).2
            rw [← e', decide_eq_true rfl] at hne
            cases hne)) p hp
          rcases List.mem_or_eq_of_mem_set hv with h | h
          · exact hrk v h
          · rw [h]; exact name_ok hzn
      · refine ⟨_, rfl, r, _, rfl, .inl ⟨SqL.of ry, fun p hp => ?_⟩⟩
        refine done rest Hy sy ry hl hrk hkp hft (.inr ?_) p hp
        rw [q1, q2]
        intro e
        exact c1 (decide_eq_true (Option.some.inj e))
    · refine iteF ?_
      refine ⟨_, rfl, r, _, rfl, .inl ⟨SqL.of ry, fun p hp => ?_⟩⟩
      exact done rest Hy sy ry hl hrk hkp hft (.inl (Bool.eq_false_iff.mpr h2)) p hp
end
end M

namespace M
open PySem L2

def wordOf : V → Str
  | .int n => Str.ofString (toString n)
  | .str z => if z = "" then "-" else z
  | _ => ""
def dig (c : Nat) : Bool := decide (48 ≤ c) && decide (c ≤ 57)
def numB (n : Nat) : Bool :=
  let l := (Str.ofString (toString (n : Int))).cps.toList
  l.all dig && (decide (1 ≤ l.length) && (decide (l.length ≤ 6) && (decide (l.length = 1) || !(l.headD 0 == 48))))
theorem num_facts : ∀ a b : _root_.Fin 100, numB (100 * a.val + b.val) = true := by decide +kernel
theorem num_fact {n : Int} (h0 : 0 ≤ n) (h1 : n ≤ 9999) : numB n.toNat = true := by
  have := num_facts ⟨n.toNat / 100, by omega⟩ ⟨n.toNat % 100, by omega⟩
  simp only at this
  rw [show 100 * (n.toNat / 100) + n.toNat % 100 = n.toNat by omega] at this
  exact this
structure NumW (n : Int) (z : Str) : Prop where
  dg : z.cps.toList.all dig = true
  l1 : 1 ≤ z.cps.toList.length
  l6 : z.cps.toList.length ≤ 6
  hd : ∀ c, z.cps.toList[0]? = some c → c = 48 → z.cps.toList.length = 1
  rd : PySem.intText? z = some n
theorem num_w {n : Int} (h0 : 0 ≤ n) (h1 : n ≤ 9999) : NumW n (Str.ofString (toString n)) := by
  have f := num_fact h0 h1
  unfold numB at f
  rw [show ((n.toNat : Nat) : Int) = n by omega] at f
  simp only [Bool.and_eq_true, decide_eq_true_eq] at f
  obtain ⟨f1, f2, f3, f4⟩ := f
  refine ⟨f1, f2, f3, fun c hc e => ?_, PySem.W.KIN.num_reads h0 (by omega)⟩
  subst e
  rw [Bool.or_eq_true] at f4
  rcases f4 with f4 | f4
  · exact of_decide_eq_true f4
  · exfalso
    cases hl : (Str.ofString (toString n)).cps.toList with
    | nil => rw [hl] at hc; cases hc
    | cons x r =>
      rw [hl] at hc f4
      have : x = 48 := by simpa using hc
      subst this
      simp at f4

def okW (v : V) : Prop := (∃ n, v = .int n ∧ 0 ≤ n ∧ n ≤ 9999) ∨ ∃ z : Str, v = .str z ∧ (z = "" ∨ (z.length ≤ 20 ∧ ∀ c ∈ z.cps.toList, low c = true))
theorem len_l (z : Str) : z.length = z.cps.toList.length := by simp [Str.length]
theorem okW_name {z : Str} (h : nameB z.cps.toList = true) : okW (.str z) := by
  unfold nameB at h
  rw [Bool.and_eq_true, Bool.and_eq_true] at h
  obtain ⟨h1, h2, h3⟩ := h
  have h3' := of_decide_eq_true h3
  exact .inr ⟨z, rfl, .inr ⟨by rw [len_l]; omega, fun c hc => List.all_eq_true.mp h1 c hc⟩⟩
theorem okW_fit {s : Srt} {v : V} (h : fitB s v = true) : okW v := by
  cases s <;> cases v <;> first | cases h | skip
  · unfold fitB at h
    rw [Bool.and_eq_true] at h
    exact .inl ⟨_, rfl, of_decide_eq_true h.1, of_decide_eq_true h.2⟩
  · exact okW_name h
  · unfold fitB at h
    rw [Bool.or_eq_true] at h
    rcases h with h | h
    · exact .inr ⟨_, rfl, .inl (of_decide_eq_true h)⟩
    · exact okW_name h
  · unfold fitB at h
    rw [Bool.and_eq_true] at h
    have := of_decide_eq_true h.1
    exact .inl ⟨_, rfl, by omega, of_decide_eq_true h.2⟩
  · unfold fitB at h
    rw [Bool.and_eq_true] at h
    exact .inl ⟨_, rfl, of_decide_eq_true h.1, of_decide_eq_true h.2⟩
def blank : Str := " "
theorem blank_c : blank = ⟨#[32]⟩ := by decide +kernel
theorem fit_isI {s : Srt} {v : V} (h : fitB s v = true) : isI v = s.num := by
  cases s <;> cases v <;> first | rfl | cases h
theorem fit_ok {s : Srt} {v : V} (h : fitB s v = true) : okV 1000 v := by
  rcases okW_fit h with ⟨n, rfl, _⟩ | ⟨z, rfl, e | ⟨hl, hc⟩⟩
  · exact .inl ⟨n, rfl⟩
  · subst e
    exact .inr ⟨_, rfl, by decide +kernel, by decide +kernel⟩
  · refine .inr ⟨z, rfl, by omega, fun c h => ?_⟩
    have := hc c h
    unfold low at this
    rw [Bool.and_eq_true] at this
    have := of_decide_eq_true this.2
    omega
end M

namespace M
open PySem L2

def wfN (z : Str) : Bool := z.cps.toList.all dig && (decide (1 ≤ z.cps.toList.length) && (decide (z.cps.toList.length ≤ 6) && (decide (z.cps.toList.length = 1) || !(z.cps.toList.headD 0 == 48))))
def valN (z : Str) : Int := ((PySem.NumText.digitsVal z.cps.toList : Nat) : Int)
def numV (z : Str) : V := if wfN z = true then .int (valN z) else .non
theorem wf_reads {z : Str} (h : z.cps.toList.all dig = true) (h1 : 1 ≤ z.cps.toList.length) (h6 : z.cps.toList.length ≤ 6) : PySem.intText? z = some (valN z) := by
  refine PySem.intText_digits (fun c hc => ?_) (fun e => ?_) ?_
  · have := List.all_eq_true.mp h c hc
    unfold dig at this
    rw [Bool.and_eq_true] at this
    exact ⟨of_decide_eq_true this.1, of_decide_eq_true this.2⟩
  · rw [e] at h1; exact absurd h1 (by decide)
  · rw [len_l]; omega
theorem num_no1 {z : Str} (h : z.cps.toList.all dig = false) : numV z = .non := by
  unfold numV wfN
  rw [h]; rfl
theorem num_no2 {z : Str} (h : ¬ 1 ≤ z.cps.toList.length) : numV z = .non := by
  unfold numV wfN
  rw [decide_eq_false h, Bool.false_and, Bool.and_false]; rfl
theorem num_no3 {z : Str} (h : ¬ z.cps.toList.length ≤ 6) : numV z = .non := by
  unfold numV wfN
  rw [decide_eq_false h, Bool.false_and, Bool.and_false, Bool.and_false]; rfl
theorem num_no4 {z : Str} (h : z.cps.toList[0]? = some 48) (hl : ¬ z.cps.toList.length = 1) : numV z = .non := by
  unfold numV wfN
  have e : z.cps.toList.headD 0 = 48 := by
    cases q : z.cps.toList with
    | nil => rw [q] at h; cases h
    | cons x r => rw [q] at h; simpa using h
  rw [decide_eq_false hl, e]
  simp
theorem num_yes {z : Str} (h : z.cps.toList.all dig = true) (h1 : 1 ≤ z.cps.toList.length) (h6 : z.cps.toList.length ≤ 6) (hd : z.cps.toList.length = 1 ∨ z.cps.toList[0]? ≠ some 48) : numV z = .int (valN z) := by
  unfold numV wfN
  rw [h, decide_eq_true h1, decide_eq_true h6, Bool.true_and, Bool.true_and, Bool.true_and]
  rw [if_pos]
  rcases hd with hd | hd
  · rw [decide_eq_true hd]; rfl
  · cases q : z.cps.toList with
    | nil => rw [q] at h1; exact absurd h1 (by decide)
    | cons x r =>
      rw [q] at hd
      have : x ≠ 48 := fun e => hd (by rw [e]; rfl)
      simp [this]
def nmV (z : Str) : V := if z = "-" then .str "" else if nameB z.cps.toList = true then .str z else .non
def rawV (s : Srt) (z : Str) : V := if s.num = true then numV z else nmV z
def pcV (s : Srt) (z : Str) : V := if fitB s (rawV s z) = true then rawV s z else .non
theorem num_kind (z : Str) : numV z = .non ∨ numV z = .int (valN z) := by
  unfold numV
  by_cases h : wfN z = true
  · rw [if_pos h]; exact .inr rfl
  · rw [if_neg h]; exact .inl rfl
theorem nm_kind (z : Str) : nmV z = .non ∨ nmV z = .str "" ∨ (nmV z = .str z ∧ nameB z.cps.toList = true) := by
  unfold nmV
  by_cases h : z = "-"
  · rw [if_pos h]; exact .inr (.inl rfl)
  · rw [if_neg h]
    by_cases h2 : nameB z.cps.toList = true
    · rw [if_pos h2]; exact .inr (.inr ⟨rfl, h2⟩)
    · rw [if_neg h2]; exact .inl rfl
theorem fit_non (s : Srt) : fitB s .non = false := by cases s <;> rfl
section
variable {P : Program} {w : World} {K : PySem.W.Frag} {mg : Str → Option Value} {base : Heap} {f : Addr} {fd : FuncData}

def spNum : Sp := fun vs H Q _ => ∃ z : Str, vs = [.str z] ∧ z.length ≤ 1000 ∧ Q (numV z) H
theorem scNum : FnScope ["word", "sign"] ["word"] (defScope sNum) := ⟨rfl, rfl, rfl, by decide +kernel, rfl, by decide +kernel, by decide +kernel⟩
set_option maxHeartbeats 4000000 in
theorem ok_num (F : Fun K "number_of" "number_of" sNum f fd) (ml : mg "len" = none) (mi : mg "int" = none) {tm : Tok} (mm : mg "MOST_FIGURES" = some (.int 6 tm)) : FnOk P w K mg base CX0 1 f fd ["word"] spNum := by
  refine F.ok scNum (fun vs H Q E h => ?_) (fun cdv A outer s H vs Q E hr h => ?_)
  · obtain ⟨z, rfl, _⟩ := h
    rfl
  obtain ⟨z, rfl, hz, k⟩ := h
  refine ⟨_, pss_cons (ps_for PassesOwn.never rfl (pi_str (pv 0)) (pg_name (i := 1) scNum.nd rfl (Or.inl rfl))
      (pss_one (ps_if (pw_or (pt_cmpR op_lt_str (pv 1) pe_str (nomark _)) (pw_or1 (pt_cmpR op_gt_str (pv 1) pe_str (nomark _)))).pt (pss_one (ps_ret pe_non)) pss_nil)))
    (pss_cons (ps_if (PW.pt (pw_or (pt_cmpR op_lt (pe_callB call_len_str rfl ml PySem.boot_len (pa_cons (pv 0) pa_nil)) pe_int (nomark _)) (pw_or1 (pt_cmpR op_gt (pe_callB call_len_str rfl ml PySem.boot_len (pa_cons (pv 0) pa_nil)) (pe_glob rfl mm ⟨_, rfl⟩ (v := .int 6)) (nomark _))))) (pss_one (ps_ret pe_non)) pss_nil)
    (pss_cons (ps_if (PW.pt (pw_and (pt_cmpR op_eq (pe_ix ix_str (pv 0) pe_int (fun _ _ => rfl)) pe_str (nomark _)) (pw_and1 (pt_cmpR op_gt (pe_callB call_len_str rfl ml PySem.boot_len (pa_cons (pv 0) pa_nil)) pe_int (nomark _))))) (pss_one (ps_ret pe_non)) pss_nil)
    (pss_one (ps_ret (pe_callTy call_int_text rfl mi bt_int (pa_cons (pv 0) pa_nil)))))), ?_⟩
  have hl := len_l z
  have zs : z.length ≤ sizeLine := small (by omega)
  refine ⟨_, rfl, z, rfl, for_str (x := z) (fun i σ H2 => (∃ v, σ = [some (.str z), v]) ∧ H2 = H ∧ (z.cps.toList.take i).all dig = true) ⟨⟨none, rfl⟩, rfl, by simp⟩ ?_ ?_⟩
  · rintro i c σ H2 hc ⟨⟨v, rfl⟩, rfl, ha⟩
    have no : dig c = false → numV z = .non := fun h => num_no1 (by
      cases q : z.cps.toList.all dig with
      | false => rfl
      | true => rw [List.all_eq_true.mp q c (List.mem_of_getElem? hc)] at h; cases h)
    have e1 : decide ((mkS [c]).cps.toList < (("0" : Str)).cps.toList) = decide (c < 48) := sg_lt c 48
    have e2 : decide ((("9" : Str)).cps.toList < (mkS [c]).cps.toList) = decide (57 < c) := sg_gt c 57
    refine ⟨_, rfl, _, _, rfl, rfl, _, rfl, ?_⟩
    rw [e1]
    refine ite2 (fun h => ?_) (fun h => ?_)
    · have h1 := of_decide_eq_true h
      refine iteT ?_
      have : dig c = false := by simp [dig]; omega
      rw [no this] at k
      exact k
    · have h1 := of_decide_eq_false (Bool.eq_false_iff.mpr h)
      refine ⟨_, rfl, _, _, rfl, rfl, _, rfl, ?_⟩
      rw [e2]
      refine ite2 (fun h => ?_) (fun h => ?_)
      · have h1 := of_decide_eq_true h
        have : dig c = false := by simp [dig]; omega
        rw [no this] at k
        exact k
      · have h2 := of_decide_eq_false (Bool.eq_false_iff.mpr h)
        refine ⟨⟨_, rfl⟩, rfl, ?_⟩
        rw [List.take_add_one, hc, List.all_append, ha]
        simp [dig]; omega
  · rintro σ H2 ⟨⟨v, rfl⟩, rfl, ha⟩
    rw [List.take_length] at ha
    refine ⟨_, rfl, z, rfl, zs, _, _, rfl, rfl, _, rfl, ?_⟩
    refine ite2 (fun h => ?_) (fun h => ?_)
    · have h1 := of_decide_eq_true h
      rw [num_no2 (by omega)] at k
      exact iteT k
    have h1 := of_decide_eq_false (Bool.eq_false_iff.mpr h)
    refine ⟨_, rfl, z, rfl, zs, _, _, rfl, rfl, _, rfl, ?_⟩
    refine ite2 (fun h => ?_) (fun h => ?_)
    · have h2 := of_decide_eq_true h
      rw [num_no3 (by omega)] at k
      exact k
    have h2 := of_decide_eq_false (Bool.eq_false_iff.mpr h)
    have l1 : 1 ≤ z.cps.toList.length := by omega
    have l6 : z.cps.toList.length ≤ 6 := by omega
    obtain ⟨c, hc⟩ : ∃ c, z.cps.toList[0]? = some c := ⟨_, List.getElem?_eq_getElem (by omega)⟩
    refine ⟨_, rfl, z, 0, c, rfl, rfl, zs, atI_nat (j := 0) hc, rfl, _, rfl, ?_⟩
    refine ite2 (fun h => ?_) (fun h => ?_)
    · have hc48 : c = 48 := by
        have h' := of_decide_eq_true h
        injection h' with h'
        have h2 := congrArg (fun y : Str => y.cps.toList) h'
        have e0 : (("0" : Str)).cps.toList = [48] := by decide +kernel
        rw [e0] at h2
        simpa using h2
      refine ⟨_, rfl, z, rfl, zs, _, _, rfl, rfl, _, rfl, ?_⟩
      refine ite2 (fun h => ?_) (fun h => ?_)
      · have h3 := of_decide_eq_true h
        rw [num_no4 (by rw [hc, hc48]) (by omega)] at k
        exact k
      · have h3 := of_decide_eq_false (Bool.eq_false_iff.mpr h)
        rw [num_yes ha l1 l6 (.inl (by omega))] at k
        exact ⟨_, rfl, z, valN z, rfl, wf_reads ha l1 l6, by omega, k⟩
    · refine iteF ?_
      have ne : z.cps.toList[0]? ≠ some 48 := fun e => h (by
        rw [hc] at e
        injection e with e
        subst e
        decide +kernel)
      rw [num_yes ha l1 l6 (.inr ne)] at k
      exact ⟨_, rfl, z, valN z, rfl, wf_reads ha l1 l6, by omega, k⟩

def spNm : Sp := fun vs H Q _ => ∃ z : Str, vs = [.str z] ∧ z.length ≤ 1000 ∧ Q (nmV z) H
theorem scNm : FnScope ["word"] ["word"] (defScope sNm) := ⟨rfl, rfl, rfl, by decide +kernel, rfl, by decide +kernel, by decide +kernel⟩
theorem ok_nm (F : Fun K "name_of" "name_of" sNm f fd) {t1 t2 : Tok} (m1 : mg "CROWN_SIGN" = some (.str "-" t1)) (m2 : mg "CROWN" = some (.str "" t2)) {g1 : Addr} {d1 : FuncData} (G1 : FnOk P w K mg base CX0 1 g1 d1 ["text"] spName) (M1 : Ms K mg "is_name" g1 d1 ["text"]) : FnOk P w K mg base CX0 2 f fd ["word"] spNm := by
  refine F.ok scNm (fun vs H Q E h => ?_) (fun cdv A outer s H vs Q E hr h => ?_)
  · obtain ⟨z, rfl, _⟩ := h
    rfl
  obtain ⟨z, rfl, hz, k⟩ := h
  refine ⟨_, pss_cons (ps_if (pt_cmpR op_eq (pv 0) (pe_glob rfl m1 ⟨_, rfl⟩ (v := .str "-")) (nomark _)) (pss_one (ps_ret (pe_glob rfl m2 ⟨_, rfl⟩ (v := .str "")))) pss_nil)
    (pss_one (ps_ret (pe_ifExp (pt_val (pe_call G1 hr rfl M1.m M1.k M1.b .nil pass0 (pa_cons (pv 0) pa_nil))) (pv 0) pe_non))), ?_⟩
  unfold nmV at k
  refine ⟨_, rfl, rfl, _, rfl, ?_⟩
  refine ite2 (fun h => ?_) (fun h => ?_)
  · have e : z = "-" := by
      have := of_decide_eq_true h
      injection this
    rw [if_pos e] at k
    exact k
  · have e : ¬ z = "-" := fun e => h (by rw [e]; rfl)
    rw [if_neg e] at k
    refine ⟨_, rfl, z, rfl, hz, _, rfl, ?_⟩
    refine ite2 (fun h => ?_) (fun h => ?_)
    · rw [if_pos h] at k
      exact ⟨_, rfl, k⟩
    · rw [if_neg h] at k
      exact k
end
end M

namespace M
open PySem L2
theorem num_isI {s : Srt} {z : Str} (h : rawV s z ≠ .non) : isI (rawV s z) = s.num := by
  unfold rawV at h ⊢
  by_cases hs : s.num = true
  · rw [if_pos hs] at h ⊢
    rcases num_kind z with e | e
    · exact absurd e h
    · rw [e, hs]; rfl
  · rw [if_neg hs] at h ⊢
    rw [Bool.eq_false_iff.mpr hs]
    rcases nm_kind z with e | e | ⟨e, _⟩
    · exact absurd e h
    · rw [e]; rfl
    · rw [e]; rfl
theorem raw_ok {s : Srt} {z : Str} (hz : z.length ≤ 1000) (h : rawV s z ≠ .non) : okV 1000 (rawV s z) := by
  unfold rawV at h ⊢
  by_cases hs : s.num = true
  · rw [if_pos hs] at h ⊢
    rcases num_kind z with e | e
    · exact absurd e h
    · rw [e]; exact .inl ⟨_, rfl⟩
  · rw [if_neg hs] at h ⊢
    rcases nm_kind z with e | e | ⟨e, hn⟩
    · exact absurd e h
    · rw [e]; exact .inr ⟨"", rfl, by decide +kernel, by decide +kernel⟩
    · rw [e]
      unfold nameB at hn
      rw [Bool.and_eq_true] at hn
      refine .inr ⟨z, rfl, hz, fun c hc => ?_⟩
      have := List.all_eq_true.mp hn.1 c hc
      unfold low at this
      rw [Bool.and_eq_true] at this
      have := of_decide_eq_true this.2
      omega
section
variable {P : Program} {w : World} {K : PySem.W.Frag} {mg : Str → Option Value} {base : Heap} {f : Addr} {fd : FuncData}

def spPc : Sp := fun vs H Q _ => ∃ (s : Srt) (z : Str), vs = [.str s.word, .str z] ∧ z.length ≤ 1000 ∧ Q (pcV s z) H
theorem scPc : FnScope ["sort", "word", "piece"] ["sort", "word"] (defScope sPc) := ⟨rfl, rfl, rfl, by decide +kernel, rfl, by decide +kernel, by decide +kernel⟩
set_option maxHeartbeats 4000000 in
theorem ok_pc (F : Fun K "piece_of" "piece_of" sPc f fd) (mo : Mods K w.params mg) {g1 g2 g3 : Addr} {d1 d2 d3 : FuncData} (G1 : FnOk P w K mg base CX0 1 g1 d1 ["word"] spNum) (M1 : Ms K mg "number_of" g1 d1 ["word"])
    (G2 : FnOk P w K mg base CX0 2 g2 d2 ["word"] spNm) (M2 : Ms K mg "name_of" g2 d2 ["word"]) (G3 : FnOk P w K mg base CX0 2 g3 d3 ["sort", "piece"] spFits) (M3 : Ms K mg "fits" g3 d3 ["sort", "piece"]) : FnOk P w K mg base CX0 3 f fd ["sort", "word"] spPc := by
  obtain ⟨aB, b1, b2, b3, b4, b5, b6, b7, mB, kB, t1, t2, t3⟩ := mo.bounds
  refine F.ok scPc (fun vs H Q E h => ?_) (fun cdv A outer s H vs Q E hr h => ?_)
  · obtain ⟨s, z, rfl, _⟩ := h
    rfl
  obtain ⟨s, z, rfl, hz, k⟩ := h
  refine ⟨_, pss_cons (ps_set (i := 2) scPc.nd rfl (Or.inl rfl) (pe_ifExp (pt_cmpR op_inKD (pv 0) (pe_glob rfl mB rfl (v := .ref aB)) (by with_unfolding_all rfl))
      (pe_call G1 (hr.mono (by decide)) rfl M1.m M1.k M1.b .nil pass0 (pa_cons (pv 1) pa_nil)) (pe_call G2 hr rfl M2.m M2.k M2.b .nil pass0 (pa_cons (pv 1) pa_nil))))
    (pss_cons (ps_if (PW.pt (pw_or (pt_cmp (pc_isN (pv 2))) (pw_or1 (pt_not (pt_val (pe_call G3 hr rfl M3.m M3.k M3.b .nil pass0 (pa_cons (pv 0) (pa_cons (pv 2) pa_nil)))))))) (pss_one (ps_ret pe_non)) pss_nil)
    (pss_one (ps_ret (pv 2)))), ?_⟩
  have nB : (([("day", V.ref b1), ("acres", V.ref b2), ("service", V.ref b3), ("bears", V.ref b4), ("edge", V.ref b5), ("number", V.ref b6), ("entry", V.ref b7)] : List (Str × V)).lookup s.word).isSome = s.num := by cases s <;> rfl
  refine ⟨_, rfl, _, aB, _, rfl, rfl, kB, _, rfl, ?_⟩
  rw [nB]
  cases hs : s.num with
  | true =>
    have er : numV z = rawV s z := by unfold rawV; rw [if_pos hs]
    refine iteT ⟨_, rfl, z, rfl, hz, ?_⟩
    rw [er]
    refine ⟨_, rfl, _, rfl, ?_⟩
    by_cases hn : rawV s z = .non
    · refine ite2 (fun _ => ?_) (fun h => absurd (decide_eq_true hn) h)
      refine iteT ?_
      unfold pcV at k
      rw [hn, fit_non, if_neg Bool.false_ne_true] at k
      exact k
    · refine ite2 (fun h => absurd (of_decide_eq_true h) hn) (fun _ => ?_)
      refine ⟨_, rfl, _, rfl, s, _, rfl, num_isI hn, raw_ok hz hn, _, rfl, ?_⟩
      unfold pcV at k
      cases hf : fitB s (rawV s z) with
      | true =>
        rw [hf, if_pos rfl] at k
        exact iteF ⟨_, rfl, k⟩
      | false =>
        rw [hf, if_neg Bool.false_ne_true] at k
        exact iteT k
  | false =>
    have er : nmV z = rawV s z := by unfold rawV; rw [if_neg (by rw [hs]; exact Bool.false_ne_true)]
    refine iteF ⟨_, rfl, z, rfl, hz, ?_⟩
    rw [er]
    refine ⟨_, rfl, _, rfl, ?_⟩
    by_cases hn : rawV s z = .non
    · refine ite2 (fun _ => ?_) (fun h => absurd (decide_eq_true hn) h)
      refine iteT ?_
      unfold pcV at k
      rw [hn, fit_non, if_neg Bool.false_ne_true] at k
      exact k
    · refine ite2 (fun h => absurd (of_decide_eq_true h) hn) (fun _ => ?_)
      refine ⟨_, rfl, _, rfl, s, _, rfl, num_isI hn, raw_ok hz hn, _, rfl, ?_⟩
      unfold pcV at k
      cases hf : fitB s (rawV s z) with
      | true =>
        rw [hf, if_pos rfl] at k
        exact iteF ⟨_, rfl, k⟩
      | false =>
        rw [hf, if_neg Bool.false_ne_true] at k
        exact iteT k
end
end M

namespace M
open PySem L2
def pcsV (l : List Srt) (ws : List Str) : List V := (l.zip ws).map fun p => pcV p.1 p.2
def resP (l : List Srt) (ws : List Str) : Option (List V) := if ws.length = l.length then (if inV .non (pcsV l ws) = true then none else some (pcsV l ws)) else none
theorem pcs_len {l : List Srt} {ws : List Str} (h : ws.length = l.length) : (pcsV l ws).length = l.length := by
  unfold pcsV
  rw [List.length_map, List.length_zip, h, Nat.min_self]
theorem pc_kind (s : Srt) (z : Str) : pcV s z = .non ∨ (∃ n, pcV s z = .int n) ∨ ∃ y, pcV s z = .str y := by
  unfold pcV
  by_cases h : fitB s (rawV s z) = true
  · rw [if_pos h]
    unfold rawV
    by_cases hs : s.num = true
    · rw [if_pos hs]
      rcases num_kind z with e | e
      · exact .inl e
      · exact .inr (.inl ⟨_, e⟩)
    · rw [if_neg hs]
      rcases nm_kind z with e | e | ⟨e, _⟩
      · exact .inl e
      · exact .inr (.inr ⟨_, e⟩)
      · exact .inr (.inr ⟨_, e⟩)
  · rw [if_neg h]; exact .inl rfl
theorem pcs_flat (l : List Srt) (ws : List Str) : (pcsV l ws).all flatV = true := by
  refine List.all_eq_true.mpr fun v hv => ?_
  obtain ⟨p, _, rfl⟩ := List.mem_map.mp hv
  rcases pc_kind p.1 p.2 with e | ⟨n, e⟩ | ⟨y, e⟩ <;> rw [e] <;> rfl
section
variable {P : Program} {w : World} {K : PySem.W.Frag} {mg : Str → Option Value} {base : Heap} {f : Addr} {fd : FuncData}

def spPcs (K : PySem.W.Frag) : Sp := fun vs H Q _ => ∃ (b q : Addr) (l : List Srt) (ws : List Str), vs = [.ref b, .ref q] ∧ KTp K b (l.map fun s => .str s.word) ∧ SqL K H q (ws.map V.str) ∧ l.length ≤ 6 ∧ (∀ t ∈ ws, t.length ≤ 1000) ∧
  (resP l ws = none → ∀ H', Same H H' → Q .non H') ∧ ∀ ps, resP l ws = some ps → ∀ p H', Same H H' → H' p = some (.lst ps) → H p = none → Q (.ref p) H'
theorem scPcs : FnScope ["form", "words", "pieces"] ["form", "words"] (defScope sPcs) := ⟨rfl, rfl, rfl, by decide +kernel, rfl, by decide +kernel, by decide +kernel⟩
def scP1 : Scope := { kind := .function, names := [(".0", .local), ("sort", .local), ("word", .local), ("piece_of", .globalImplicit)], isGenerator := false, isCoroutine := false }
theorem csP1 : CScope ["form", "words", "pieces"] (defScope sPcs) scP1 ["sort", "word"] [] [] := ⟨rfl, by decide +kernel, by decide +kernel, by decide +kernel, rfl, by decide +kernel⟩
theorem ndP1 : ((["sort", "word"] : List Str) ++ ([] : List Str)).Nodup := by decide +kernel
set_option maxHeartbeats 4000000 in
theorem ok_pcs (F : Fun K "pieces_of" "pieces_of" sPcs f fd) (ml : mg "len" = none) (mz : mg "zip" = none) {g1 : Addr} {d1 : FuncData} (G1 : FnOk P w K mg base CX0 3 g1 d1 ["sort", "word"] spPc) (M1 : Ms K mg "piece_of" g1 d1 ["sort", "word"]) : FnOk P w K mg base CX0 4 f fd ["form", "words"] (spPcs K) := by
  refine F.ok scPcs (fun vs H Q E h => ?_) (fun cdv A outer s H vs Q E hr h => ?_)
  · obtain ⟨b, q, l, ws, rfl, _⟩ := h
    rfl
  obtain ⟨b, q, l, ws, rfl, hb, hq, h6, hw, k0, k1⟩ := h
  refine ⟨_, pss_cons (ps_if (pt_cmpR op_ne (pe_callB (call_lenK (K := K)) rfl ml PySem.boot_len (pa_cons (pv 1) pa_nil)) (pe_callB (call_lenK (K := K)) rfl ml PySem.boot_len (pa_cons (pv 0) pa_nil)) (nomark _)) (pss_one (ps_ret pe_non)) pss_nil)
    (pss_cons (ps_setC (i := 2) rfl csP1 (pi_zipTL rfl mz (pa_cons (pv 0) (pa_cons (pv 1) pa_nil)))
        (fun s H fp C => ⟨pg_tupK (K := K) (n := 2) rfl (pgs_cons (pg_name (i := 0) ndP1 rfl (Or.inl rfl)) (pgs_cons (pg_name (i := 1) ndP1 rfl (Or.inl rfl)) pgs_nil)), pts_nil, pe_call G1 hr rfl M1.m M1.k M1.b .nil pass0 (pa_cons (pv 0) (pa_cons (pv 1) pa_nil))⟩) scPcs.nd rfl (Or.inl rfl))
    (pss_one (ps_ret (pe_ifExp (pt_cmpR (op_in_seqK (K := K)) pe_non (pv 2) (by with_unfolding_all rfl)) pe_non (pv 2))))), ?_⟩
  refine ⟨_, rfl, q, _, rfl, .inl hq, _, rfl, b, _, rfl, .inr (hb.sq _), rfl, _, rfl, ?_⟩
  by_cases hl : ws.length = l.length
  case neg =>
    have e0 : resP l ws = none := by unfold resP; rw [if_neg hl]
    refine ite2 (fun _ => k0 e0 H (Same.refl _)) (fun h => absurd ?_ h)
    rw [decide_eq_false]
    · rfl
    · intro e
      rw [List.length_map, List.length_map] at e
      injection e with e
      exact hl (by omega)
  refine iteNS (by rw [List.length_map, List.length_map, hl]) ?_
  refine ⟨_, rfl, _, rfl, b, q, rfl, ⟨_, hb.sq _⟩, ⟨_, hq⟩, fun D hD => ?_⟩
  refine comp_zip (n := l.length) (fx := fun i => V.str (l.getD i .d).word) (fy := fun i => V.str (ws.getD i "")) (fun i zs H2 => zs = (pcsV l ws).take i ∧ Same H H2 ∧ H2 D = some (.lst zs)) (fun i zs H2 ⟨_, s2, _⟩ => ?_) ⟨rfl, same_new hD _, upd_same⟩ (fun i zs H2 h => h.2.2) ?_ ?_
  · have st := zipTL_steps (i := i) (hb.sq H2) (s2.seq hq) (by rw [List.length_map, List.length_map, hl])
    rw [List.length_map] at st
    refine ⟨fun hi => ⟨(st.1 hi).1, fun v H' y => ?_⟩, st.2⟩
    obtain ⟨q', e1, e2, e3⟩ := (st.1 hi).2 v H' y
    refine ⟨q', e1, e2, ?_⟩
    rw [e3]
    have e4 : (l.map fun s => V.str s.word).getD i .non = V.str (l.getD i .d).word := by
      rw [List.getD_eq_getElem?_getD, List.getD_eq_getElem?_getD, List.getElem?_map, List.getElem?_eq_getElem hi]; rfl
    have e5 : (ws.map V.str).getD i .non = V.str (ws.getD i "") := by
      rw [List.getD_eq_getElem?_getD, List.getD_eq_getElem?_getD, List.getElem?_map, List.getElem?_eq_getElem (by omega)]; rfl
    rw [e4, e5]
  · rintro i zs H2 r hir ⟨rfl, s2, hD2⟩ hr2
    have nrD : D ≠ r := ne_of_none hD2 hr2
    have h1 : l[i]? = some l[i] := List.getElem?_eq_getElem hir
    have h2 : ws[i]? = some (ws[i]'(by omega)) := List.getElem?_eq_getElem (by omega)
    rw [at_getD h1, at_getD h2]
    have s3 : Same H (upd H2 r (.tup [V.str (l[i]).word, V.str (ws[i]'(by omega))])) := same_upd s2 (s2.free hr2)
    refine ⟨r, _, rfl, SqT.of upd_same, rfl, _, _, rfl, _, _, rfl, rfl, Kp.set rfl (Kp.set rfl (Kp.refl _)), ?_⟩
    refine tTrue_ok ?_
    refine ⟨_, rfl, _, rfl, l[i], _, rfl, hw _ (List.mem_of_getElem? h2), (by rw [upd_ne nrD]; exact hD2), ?_, ?_, same_upd s3 hD, upd_same⟩
    · rw [List.length_take]; exact small' (by omega)
    · have e6 : (pcsV l ws)[i]? = some (pcV (l[i]) (ws[i]'(by omega))) := by
        unfold pcsV
        rw [List.getElem?_map, (List.getElem?_zip_eq_some (z := (l[i], ws[i]'(by omega)))).mpr ⟨h1, h2⟩]; rfl
      rw [List.take_add_one, e6]; rfl
  · rintro zs H2 ⟨rfl, s2, hD2⟩
    rw [List.take_of_length_le (by rw [pcs_len hl]; exact Nat.le_refl _)] at hD2
    refine ⟨_, rfl, D, _, rfl, .inl (SqL.of hD2), rfl, pcs_flat l ws, _, rfl, ?_⟩
    have n3 : (if false = true then !inV .non (pcsV l ws) else inV .non (pcsV l ws)) = inV .non (pcsV l ws) := rfl
    rw [n3]
    unfold resP at k0 k1
    rw [if_pos hl] at k0 k1
    cases hn : inV .non (pcsV l ws) with
    | true =>
      rw [hn, if_pos rfl] at k0
      exact iteT (k0 rfl _ s2)
    | false =>
      rw [hn, if_neg Bool.false_ne_true] at k1
      exact iteF ⟨_, rfl, k1 _ rfl D H2 s2 hD2 hD⟩
end
end M

namespace M
open PySem L2

theorem join_two (c : Nat) (x y : Str) (r : List Str) : Str.join ⟨#[c]⟩ (x :: y :: r) = x ++ ⟨#[c]⟩ ++ Str.join ⟨#[c]⟩ (y :: r) := rfl
theorem join_one (c : Nat) (x : Str) : Str.join ⟨#[c]⟩ [x] = x := rfl
theorem cps_two (c : Nat) (x y : Str) (r : List Str) : (Str.join ⟨#[c]⟩ (x :: y :: r)).cps.toList = x.cps.toList ++ c :: (Str.join ⟨#[c]⟩ (y :: r)).cps.toList := by
  rw [join_two]
  simp only [Str.cps_append, Array.toList_append, List.append_assoc]
  rfl
def jl (ws : List Str) : Nat := (ws.map fun t => t.length + 1).sum
theorem join_jl {c : Nat} : ∀ {ws : List Str}, ws ≠ [] → (Str.join ⟨#[c]⟩ ws).length + 1 = jl ws
  | [], h => absurd rfl h
  | [x], _ => by rw [join_one]; simp [jl]
  | x :: y :: r, _ => by
    have ih := join_jl (c := c) (ws := y :: r) (List.cons_ne_nil _ _)
    rw [len_l, cps_two, List.length_append, List.length_cons, ← len_l, ← len_l]
    unfold jl at ih ⊢
    rw [List.map_cons, List.sum_cons, ← ih]
    omega
theorem join_mem {c : Nat} : ∀ {ws : List Str} {t : Str}, t ∈ ws → ∀ x ∈ t.cps.toList, x ∈ (Str.join ⟨#[c]⟩ ws).cps.toList
  | [], _, h => by cases h
  | [y], t, h => fun x hx => by
    rcases List.mem_cons.mp h with rfl | h
    · exact hx
    · cases h
  | y :: y2 :: r, t, h => fun x hx => by
    rw [cps_two]
    rcases List.mem_cons.mp h with rfl | h
    · exact List.mem_append_left _ hx
    · exact List.mem_append_right _ (List.mem_cons_of_mem _ (join_mem h x hx))
theorem mem_join {c : Nat} : ∀ {ws : List Str} {x : Nat}, x ∈ (Str.join ⟨#[c]⟩ ws).cps.toList → x = c ∨ ∃ t ∈ ws, x ∈ t.cps.toList
  | [], x, h => by
    have : (Str.join ⟨#[c]⟩ []).cps.toList = [] := rfl
    rw [this] at h; cases h
  | [y], x, h => .inr ⟨y, List.mem_cons_self, h⟩
  | y :: y2 :: r, x, h => by
    rw [cps_two] at h
    rcases List.mem_append.mp h with h | h
    · exact .inr ⟨y, List.mem_cons_self, h⟩
    · rcases List.mem_cons.mp h with h | h
      · exact .inl h
      · rcases mem_join h with h | ⟨t, ht, hx⟩
        · exact .inl h
        · exact .inr ⟨t, List.mem_cons_of_mem _ ht, hx⟩
theorem bl_c : ((" " : Str)) = ⟨#[32]⟩ := by decide +kernel

abbrev wds (z : Str) : List Str := Txt.split z " "
theorem wds_ne (z : Str) : wds z ≠ [] := split_ne _ _
theorem wds_join (z : Str) : Str.join ⟨#[32]⟩ (wds z) = z := by
  unfold wds
  rw [bl_c]
  exact StrLaws.join_split _ _
theorem wds_jl (z : Str) : jl (wds z) = z.length + 1 := by
  have := join_jl (c := 32) (wds_ne z)
  rw [wds_join] at this
  exact this.symm
theorem jl_mem {ws : List Str} {t : Str} (h : t ∈ ws) : t.length + 1 ≤ jl ws := by
  induction ws with
  | nil => cases h
  | cons x r ih =>
    unfold jl at ih ⊢
    rw [List.map_cons, List.sum_cons]
    rcases List.mem_cons.mp h with rfl | h
    · omega
    · have := ih h; omega
theorem jl_len (ws : List Str) : ws.length ≤ jl ws := by
  induction ws with
  | nil => exact Nat.zero_le _
  | cons x r ih =>
    unfold jl at ih ⊢
    rw [List.map_cons, List.sum_cons, List.length_cons]
    omega
theorem wds_le {z t : Str} (h : t ∈ wds z) : t.length ≤ z.length := by
  have := jl_mem h
  rw [wds_jl] at this
  omega
theorem wds_many (z : Str) : (wds z).length ≤ z.length + 1 := by
  have := jl_len (wds z)
  rw [wds_jl] at this
  exact this
def Asc (z : Str) : Prop := ∀ c ∈ z.cps.toList, c < 128
theorem wds_asc {z t : Str} (hz : Asc z) (h : t ∈ wds z) : Asc t := fun c hc => by
  have := join_mem (c := 32) h c hc
  rw [wds_join] at this
  exact hz c this

def rowW (k : Str) (ws : List Str) : Option (Str × List V) := (form k).bind fun l => (resP l ws).bind fun ps => if wmR k ps = true then some (k, ps) else none
def rowR (z : Str) : Option (Str × List V) := match wds z with
  | [] => none
  | k :: ws => rowW k ws
theorem eqV_non {v : V} (h : eqV v .non = false) : v ≠ .non := fun e => by rw [e] at h; cases h
theorem res_some {l : List Srt} {ws : List Str} {ps : List V} (h : resP l ws = some ps) : ws.length = l.length ∧ ps = pcsV l ws ∧ ∀ v ∈ ps, v ≠ .non := by
  unfold resP at h
  by_cases hl : ws.length = l.length
  · rw [if_pos hl] at h
    cases hn : inV .non (pcsV l ws) with
    | true => rw [hn, if_pos rfl] at h; cases h
    | false =>
      rw [hn, if_neg Bool.false_ne_true] at h
      injection h with h
      subst h
      refine ⟨hl, rfl, fun v hv => eqV_non ?_⟩
      unfold inV at hn
      rw [List.any_eq_false] at hn
      exact Bool.eq_false_iff.mpr (hn v hv)
  · rw [if_neg hl] at h; cases h
theorem pc_fit {s : Srt} {z : Str} (h : pcV s z ≠ .non) : fitB s (pcV s z) = true := by
  unfold pcV at h ⊢
  by_cases hf : fitB s (rawV s z) = true
  · rw [if_pos hf]; exact hf
  · rw [if_neg hf] at h; exact absurd rfl h
theorem pcs_at {l : List Srt} {ws : List Str} {i : Nat} {v : V} (h : (pcsV l ws)[i]? = some v) : ∃ s z, l[i]? = some s ∧ ws[i]? = some z ∧ v = pcV s z := by
  unfold pcsV at h
  rw [List.getElem?_map] at h
  obtain ⟨p, hp, rfl⟩ := Option.map_eq_some_iff.mp h
  obtain ⟨h1, h2⟩ := List.getElem?_zip_eq_some.mp hp
  exact ⟨_, _, h1, h2, rfl⟩
theorem res_row {k : Str} {l : List Srt} {ws : List Str} {ps : List V} (hf : form k = some l) (h : resP l ws = some ps) : Row 1000 k ps := by
  obtain ⟨hl, rfl, hn⟩ := res_some h
  obtain ⟨_, l6⟩ := form_len hf
  have each : ∀ i v, (pcsV l ws)[i]? = some v → ∃ s, l[i]? = some s ∧ fitB s v = true := fun i v e => by
    obtain ⟨s, z, h1, h2, rfl⟩ := pcs_at e
    exact ⟨s, h1, pc_fit (hn _ (List.mem_of_getElem? e))⟩
  refine ⟨by rw [pcs_len hl]; omega, fun v hv => ?_, fun l' hl' i s v e1 e2 => ?_⟩
  · obtain ⟨i, hi⟩ := List.mem_iff_getElem?.mp hv
    obtain ⟨s, _, e⟩ := each i v hi
    exact fit_ok e
  · rw [hf] at hl'
    injection hl' with hl'
    subst hl'
    obtain ⟨s', h1, e⟩ := each i v e2
    rw [e1] at h1
    injection h1 with h1
    subst h1
    exact fit_isI e
section
variable {P : Program} {w : World} {K : PySem.W.Frag} {mg : Str → Option Value} {base : Heap} {f : Addr} {fd : FuncData}

def spRow : Sp := fun vs H Q _ => ∃ z : Str, vs = [.str z] ∧ z.length ≤ 1000 ∧ (rowR z = none → ∀ H', Same H H' → Q .non H') ∧ ∀ k ps, rowR z = some (k, ps) → ∀ p H', Same H H' → H' p = some (.tup (.str k :: ps)) → Q (.ref p) H'
theorem scRowOf : FnScope ["text", "words", "pieces", "row"] ["text"] (defScope sRowOf) := ⟨rfl, rfl, rfl, by decide +kernel, rfl, by decide +kernel, by decide +kernel⟩
set_option maxHeartbeats 4000000 in
theorem ok_rowof (F : Fun K "row_of" "row_of" sRowOf f fd) (mo : Mods K w.params mg) (mu : mg "tuple" = none) {g1 g2 : Addr} {d1 d2 : FuncData} (G1 : FnOk P w K mg base CX0 4 g1 d1 ["form", "words"] (spPcs K)) (M1 : Ms K mg "pieces_of" g1 d1 ["form", "words"])
    (G2 : FnOk P w K mg base CX0 3 g2 d2 ["row"] (spWell goodX wm K)) (M2 : Ms K mg "is_well_made" g2 d2 ["row"]) : FnOk P w K mg base CX0 5 f fd ["text"] spRow := by
  obtain ⟨aF, kvs, mF, kF, hF⟩ := mo.forms
  refine F.ok scRowOf (fun vs H Q E h => ?_) (fun cdv A outer s H vs Q E hr h => ?_)
  · obtain ⟨z, rfl, _⟩ := h
    rfl
  obtain ⟨z, rfl, hz, k0, k1⟩ := h
  refine ⟨_, pss_cons (ps_set (i := 1) scRowOf.nd rfl (Or.inl rfl) (pe_bm PySem.F.plainAttrs_str PySem.F.slot_str_split PySem.F.type_str_split mt_split (pv 0) (pa_cons pe_str pa_nil)))
    (pss_cons (ps_if (pt_cmpR op_notInKD (pe_ix ix_list (pv 1) pe_int (fun _ _ => rfl)) (pe_glob rfl mF rfl (v := .ref aF)) (by with_unfolding_all rfl)) (pss_one (ps_ret pe_non)) pss_nil)
    (pss_cons (ps_set (i := 2) scRowOf.nd rfl (Or.inl rfl) (pe_call G1 hr rfl M1.m M1.k M1.b .nil pass0 (pa_cons (pe_ix ix_KD (pe_glob rfl mF rfl (v := .ref aF)) (pe_ix ix_list (pv 1) pe_int (fun _ _ => rfl)) (fun _ _ => rfl)) (pa_cons (pe_slice sl_list (pv 1) (po_some pe_int) po_none) pa_nil))))
    (pss_cons (ps_if (pt_cmp (pc_isN (pv 2))) (pss_one (ps_ret pe_non)) pss_nil)
    (pss_cons (ps_set (i := 3) scRowOf.nd rfl (Or.inl rfl) (pe_callTy call_tuple_of rfl mu bt_tuple (pa_cons (pe_op op_cat (pe_slice sl_list (pv 1) po_none (po_some pe_int)) (pv 2)) pa_nil)))
    (pss_one (ps_ret (pe_ifExp (pt_val (pe_call G2 (hr.mono (by decide)) rfl M2.m M2.k M2.b .nil pass0 (pa_cons (pv 3) pa_nil))) (pv 3) pe_non))))))), ?_⟩
  refine ⟨_, rfl, rfl, _, _, rfl, rfl, (by decide +kernel), (by have := small (n := 2000) (by omega); omega), fun p hp => ?_⟩
  obtain ⟨k, ws, ew⟩ : ∃ k ws, wds z = k :: ws := by
    cases q : wds z with
    | nil => exact absurd q (wds_ne z)
    | cons k ws => exact ⟨k, ws, rfl⟩
  have er : rowR z = rowW k ws := by unfold rowR; rw [ew]
  rw [er] at k0 k1
  have hk : k.length ≤ 1000 := Nat.le_trans (wds_le (by rw [ew]; exact List.mem_cons_self)) hz
  have hws : ∀ t ∈ ws, t.length ≤ 1000 := fun t ht => Nat.le_trans (wds_le (by rw [ew]; exact List.mem_cons_of_mem _ ht)) hz
  have hwl : ws.length ≤ 1000 := by
    have := wds_many z
    rw [ew, List.length_cons] at this
    omega
  have ew' : Txt.split z (Str.ofString " ") = k :: ws := ew
  rw [ew', List.map_cons]
  have s1 : Same H (upd H p (.lst (V.str k :: ws.map V.str))) := same_new hp _
  have p1 : (upd H p (.lst (V.str k :: ws.map V.str))) p = some (.lst (V.str k :: ws.map V.str)) := upd_same
  generalize upd H p (.lst (V.str k :: ws.map V.str)) = H1 at s1 p1 ⊢
  refine ⟨_, rfl, p, _, _, _, rfl, rfl, SqL.of p1, at0 _ _, k, aF, kvs, rfl, rfl, kF, _, rfl, ?_⟩
  cases hf : form k with
  | none =>
    rw [(hF k).1 hf]
    exact iteT (k0 (by unfold rowW; rw [hf]; rfl) _ s1)
  | some l =>
    obtain ⟨b, hb, hkb⟩ := (hF k).2 l hf
    obtain ⟨l2, l6⟩ := form_len hf
    rw [hb]
    refine iteF ?_
    refine ⟨_, rfl, p, _, _, _, rfl, rfl, SqL.of p1, at0 _ _, aF, kvs, k, _, rfl, rfl, kF, hb, ?_⟩
    refine ⟨_, rfl, _, rfl, p, _, rfl, SqL.of p1, fun q hq => ?_⟩
    rw [cut1]
    have s2 : Same H1 (upd H1 q (.lst (ws.map V.str))) := same_new hq _
    have q2 : (upd H1 q (.lst (ws.map V.str))) q = some (.lst (ws.map V.str)) := upd_same
    generalize upd H1 q (.lst (ws.map V.str)) = H2 at s2 q2 ⊢
    refine ⟨b, q, l, ws, rfl, hkb, SqL.of q2, l6, hws, fun hn H3 s3 => ?_, fun ps hps r H3 s3 hr3 hr2 => ?_⟩
    · refine ⟨_, rfl, _, rfl, iteT (k0 ?_ _ (s1.trans (s2.trans s3)))⟩
      unfold rowW
      rw [hf]
      show (resP l ws).bind _ = none
      rw [hn]; rfl
    have ro : rowW k ws = if wmR k ps = true then some (k, ps) else none := by
      unfold rowW
      rw [hf]
      show (resP l ws).bind _ = _
      rw [hps]; rfl
    rw [ro] at k0 k1
    refine ⟨_, rfl, _, rfl, iteF ?_⟩
    have p3 := s3 _ _ (s2 _ _ p1)
    refine ⟨_, rfl, _, rfl, p, _, rfl, SqL.of p3, fun q' hq' => ?_⟩
    have ec : cutV (V.str k :: ws.map V.str) none (some 1) = [V.str k] := by
      have := cutG_to (xs := V.str k :: ws.map V.str) (j := 1) (by rw [List.length_cons]; omega)
      exact this
    rw [ec]
    have R := res_row hf hps
    have s4 : Same H3 (upd H3 q' (.lst [V.str k])) := same_new hq' _
    refine ⟨_, rfl, q', r, _, _, rfl, rfl, upd_same, s4 _ _ hr3, small (by have := R.len; rw [List.length_singleton]; omega), fun t ht => ?_⟩
    have s5 : Same (upd H3 q' (.lst [V.str k])) (upd (upd H3 q' (.lst [V.str k])) t (.lst ([V.str k] ++ ps))) := same_new ht _
    refine ⟨t, _, rfl, .inl ⟨SqL.of upd_same, fun u hu => ?_⟩⟩
    have s6 := same_new hu (.tup ([V.str k] ++ ps))
    have st := s1.trans (s2.trans (s3.trans (s4.trans (s5.trans s6))))
    have u6 : (upd (upd (upd H3 q' (.lst [V.str k])) t (.lst ([V.str k] ++ ps))) u (.tup ([V.str k] ++ ps))) u = some (.tup (V.str k :: ps)) := upd_same
    generalize upd (upd (upd H3 q' (.lst [V.str k])) t (.lst ([V.str k] ++ ps))) u (.tup ([V.str k] ++ ps)) = H6 at st u6 ⊢
    refine ⟨_, rfl, u, _, rfl, SqT.of u6, ⟨k, ps, rfl, R⟩, fun H7 s7 => ⟨_, rfl, ?_⟩⟩
    have ew : wm (V.str k :: ps) = wmR k ps := rfl
    rw [ew]
    cases hw : wmR k ps with
    | true =>
      rw [hw, if_pos rfl] at k1
      exact iteT ⟨_, rfl, k1 k ps rfl u H7 (st.trans s7) (s7 _ _ u6)⟩
    | false =>
      rw [hw, if_neg Bool.false_ne_true] at k0
      exact iteF (k0 rfl H7 (st.trans s7))
end
end M

namespace M
open PySem L2
section
variable {P : Program} {w : World} {K : PySem.W.Frag} {mg : Str → Option Value} {base : Heap} {f : Addr} {fd : FuncData}

def spNamed : Sp := fun vs H Q _ => ∃ z : Str, vs = [.str z] ∧ z.length ≤ 1000 ∧ (∀ c ∈ z.cps.toList, c < 128) ∧ ∀ H', Same H H' → Q (.bl (nameB z.cps.toList)) H'
theorem scNamed : FnScope ["_law_word"] ["_law_word"] (defScope sNamed) := ⟨rfl, rfl, rfl, by decide +kernel, rfl, by decide +kernel, by decide +kernel⟩
def scM1 : Scope := { kind := .function, names := [(".0", .local), ("_law_sign", .local)], isGenerator := false, isCoroutine := false }
theorem csM1 : CScope ["_law_word"] (defScope sNamed) scM1 ["_law_sign"] [] [] := ⟨rfl, by decide +kernel, by decide +kernel, by decide +kernel, rfl, by decide +kernel⟩
theorem ndM1 : ((["_law_sign"] : List Str) ++ ([] : List Str)).Nodup := by decide +kernel
set_option maxHeartbeats 4000000 in
theorem ok_named (F : Fun K "_law_named" "_law_named" sNamed f fd) (ml : mg "len" = none) (ma : mg "all" = none) : FnOk P w K mg base CX0 1 f fd ["_law_word"] spNamed := by
  refine F.ok scNamed (fun vs H Q E h => ?_) (fun cdv A outer s H vs Q E hr h => ?_)
  · obtain ⟨z, rfl, _⟩ := h
    rfl
  obtain ⟨z, rfl, hzl, hzc, k⟩ := h
  refine ⟨_, pss_one (ps_ret (pe_and (pe_chain op_le op_le pe_int (pe_callB call_len_str rfl ml PySem.boot_len (pa_cons (pv 0) pa_nil)) pe_int)
    (pe_one (pe_callB (call_allK (K := K) rfl hr.hd) rfl ma bt_all (pa_cons (pe_comp rfl csM1 (pi_str (pv 0)) (fun s H fp C => ⟨pg_name (i := 0) ndM1 rfl (Or.inl rfl), pts_nil, pe_cmpR op_in_str (pv 0) pe_str (by with_unfolding_all rfl)⟩)) pa_nil))))), ?_⟩
  have ez : z.length = z.cps.toList.length := by simp [Str.length]
  refine ⟨_, rfl, z, rfl, small (by omega), _, _, rfl, rfl, _, rfl, ?_⟩
  have no : ¬ (1 ≤ z.cps.toList.length ∧ z.cps.toList.length ≤ 8) → nameB z.cps.toList = false := fun h => by
    unfold nameB
    by_cases h1 : 1 ≤ z.cps.toList.length
    · rw [decide_eq_false (show ¬ z.cps.toList.length ≤ 8 from fun h2 => h ⟨h1, h2⟩)]; simp
    · rw [decide_eq_false h1]; simp
  refine ite2 (fun h1 => ?_) (fun h1 => ?_)
  · have h1' := of_decide_eq_true h1
    refine ⟨_, _, rfl, rfl, _, rfl, ?_⟩
    refine ite2 (fun h2 => ?_) (fun h2 => ?_)
    · have h2' := of_decide_eq_true h2
      refine ⟨_, rfl, z, rfl, fun D' hD' => ?_⟩
      refine comp_str (x := z) (fun i ys H4 => ys = ((z.cps.toList.take i).map low).map V.bl ∧ Same H H4 ∧ H4 D' = some (.lst ys)) ⟨rfl, same_new hD' _, upd_same⟩ (fun i ys H4 h => h.2.2) ?_ ?_
      · rintro j ys H4 c hc ⟨rfl, hq4, hD4⟩
        refine ⟨Kp.set rfl (Kp.refl _), ?_⟩
        refine tTrue_ok ?_
        refine ⟨_, rfl, _, _, rfl, rfl, hD4, ?_, ?_, same_upd hq4 hD', upd_same⟩
        · rw [List.length_map, List.length_map, List.length_take]
          exact small' (by omega)
        · have e := in_az (hzc c (List.mem_of_getElem? hc))
          rw [List.take_add_one, hc, List.map_append, List.map_append]
          show _ ++ [V.bl (!(Builtin.Str.occurrences az (mkS [c]) 0 az.length 1).isEmpty)] = _
          rw [e]; rfl
      · rintro ys H4 ⟨rfl, hq4, hD4⟩
        rw [List.take_length] at hD4
        refine ⟨D', _, rfl, SqL.of hD4, ?_⟩
        have eall : (z.cps.toList.map low).all id = z.cps.toList.all low := by rw [List.all_map]; rfl
        rw [eall]
        have e : nameB z.cps.toList = z.cps.toList.all low := by
          unfold nameB
          rw [decide_eq_true (show 1 ≤ z.cps.toList.length by omega), decide_eq_true (show z.cps.toList.length ≤ 8 by omega)]; simp
        rw [← e]; exact k _ hq4
    · have h2' := of_decide_eq_false (Bool.eq_false_iff.mpr h2)
      rw [no (by omega)] at k
      exact k _ (Same.refl _)
  · have h1' := of_decide_eq_false (Bool.eq_false_iff.mpr h1)
    rw [no (by omega)] at k
    exact ⟨_, rfl, iteF (k _ (Same.refl _))⟩
end
def spGood (K : PySem.W.Frag) : Sp := fun vs H Q _ => ∃ a k rest, vs = [.ref a] ∧ SqT K H a (.str k :: rest) ∧ Row 1000 k rest ∧ ∀ H', Same H H' → Q (.bl (wmR k rest)) H'
theorem shp_q {l : List Srt} (h : 2 ≤ l.length) : decide (V.str (shp l) = V.str "?") = false := by
  refine decide_eq_false fun e => ?_
  have e2 : shp l = "?" := by injection e
  have := congrArg Str.length e2
  rw [shp_len] at this
  have e3 : Str.length "?" = 1 := by decide +kernel
  omega
section
variable {P : Program} {w : World} {K : PySem.W.Frag} {mg : Str → Option Value} {base : Heap} {f : Addr} {fd : FuncData}
theorem scGood : FnScope ["_law_row", "_law_shape", "_law_thing", "_law_kind"] ["_law_row"] (defScope sGood) := ⟨rfl, rfl, rfl, by decide +kernel, rfl, by decide +kernel, by decide +kernel⟩
set_option maxHeartbeats 4000000 in
theorem ok_good (F : Fun K "_law_good" "_law_good" sGood f fd) (ml : mg "len" = none) (mt : mg "int" = none) (mz : mg "zip" = none) {g1 g2 : Addr} {d1 d2 : FuncData} (G1 : FnOk P w K mg base CX0 1 g1 d1 [] spShapes) (M1 : Ms K mg "_law_shapes" g1 d1 [])
    (G2 : FnOk P w K mg base CX0 1 g2 d2 ["_law_word"] spNamed) (M2 : Ms K mg "_law_named" g2 d2 ["_law_word"]) : FnOk P w K mg base CX0 2 f fd ["_law_row"] (spGood K) := by
  refine F.ok scGood (fun vs H Q E h => ?_) (fun cdv A outer s H vs Q E hr h => ?_)
  · obtain ⟨a, k, rest, rfl, _⟩ := h
    rfl
  obtain ⟨a, k, rest, rfl, hS, R, kk⟩ := h
  refine ⟨_, pss_cons (ps_set (i := 1) scGood.nd rfl (Or.inl rfl) (pe_dget2 (u1 hr) (pe_call0 G1 hr rfl M1.m M1.k M1.b .nil pass0) (pe_ix ix_tup (pv 0) pe_int (fun _ _ => rfl)) pe_str ⟨rfl, rfl, rfl, rfl⟩))
    (pss_cons (ps_if (PW.pt (pw_or (pt_cmpR op_ne (pe_callB call_len_seq rfl ml PySem.boot_len (pa_cons (pv 0) pa_nil)) (pe_op op_add pe_int (pe_callB call_len_str rfl ml PySem.boot_len (pa_cons (pv 1) pa_nil))) (nomark _))
        (pw_or1 (pt_cmpR op_eq (pv 1) pe_str (nomark _))))) (pss_one (ps_ret pe_bl)) pss_nil)
    (pss_cons (ps_for PassesOwn.never rfl (pi_zipTS rfl mz (pa_cons (pe_slice sl_tup (pv 0) (po_some pe_int) po_none) (pa_cons (pv 1) pa_nil))) (pg_tup rfl (pgs_cons (pg_name (i := 2) scGood.nd rfl (Or.inl rfl)) (pgs_cons (pg_name (i := 3) scGood.nd rfl (Or.inl rfl)) pgs_nil)))
      (pss_one (ps_if (pt_cmpR op_in_str (pv 3) pe_str (by with_unfolding_all rfl))
        (pss_one (ps_if (pt_not (pt_chain op_le op_le (pe_callTy call_int1 rfl mt bt_int (pa_cons (pe_cmpR op_eq (pv 3) pe_str (nomark _)) pa_nil)) (pv 2) pe_int)) (pss_one (ps_ret pe_bl)) pss_nil))
        (pss_one (ps_if (PW.pt (pw_and (pt_not (pt_val (pe_call G2 hr rfl M2.m M2.k M2.b .nil pass0 (pa_cons (pv 2) pa_nil)))) (pw_and1 (pt_not (PW.pt (pw_and (pt_cmpR op_eq (pv 3) pe_str (nomark _)) (pw_and1 (pt_cmpR op_eq (pv 2) pe_str (nomark _))))))))) (pss_one (ps_ret pe_bl)) pss_nil)))))
    (pss_one (ps_ret (pe_not (pe_and (pe_cmpR op_in_seq (pe_ix ix_tup (pv 0) pe_int (fun _ _ => rfl)) (pe_tup (pa_cons pe_str (pa_cons pe_str pa_nil))) (by with_unfolding_all rfl))
      (pe_one (pe_cmpR op_eq (pe_ix ix_tup (pv 0) pe_int (fun _ _ => rfl)) (pe_ix ix_tup (pv 0) pe_int (fun _ _ => rfl)) (nomark _))))))))), ?_⟩
  refine ⟨rfl, fun p hp => ⟨p, rfl, .inl ⟨_, .inl upd_same⟩, ?_⟩⟩
  have s1 : Same H (upd H p (.dK shapesKV)) := same_new hp _
  refine ⟨_, rfl, a, _, _, _, rfl, rfl, s1.seqT hS, at0 _ _, valV shapesKV (.inr k), DGet.k (k := .inr k) upd_same, ?_⟩
  rw [shapes_val]
  cases hf : form k with
  | none =>
    have e : wmR k rest = false := by unfold wmR; rw [hf]
    rw [e] at kk
    refine ⟨_, rfl, a, _, rfl, .inr (s1.seqT hS), _, rfl, _, rfl, (by show Str.length "?" ≤ sizeLine; decide +kernel), _, _, rfl, rfl, rfl, _, rfl, ?_⟩
    refine ite2 (fun _ => iteT (kk _ s1)) (fun _ => ?_)
    exact ⟨_, rfl, rfl, _, rfl, iteT (kk _ s1)⟩
  | some l =>
    have ewm : wmR k rest = (decide (rest.length = l.length) && (((l.zip rest).all fitP) && !(two k && decide (rest[1]? = rest[2]?)))) := by unfold wmR; rw [hf]
    obtain ⟨l2, l6⟩ := form_len hf
    have lq : (shp l).length ≤ sizeLine := by rw [shp_len]; exact small (by omega)
    refine ⟨_, rfl, a, _, rfl, .inr (s1.seqT hS), _, rfl, shp l, rfl, lq, _, _, rfl, rfl, rfl, _, rfl, ?_⟩
    by_cases hl : rest.length = l.length
    · have hn : V.int (((V.str k :: rest).length : Nat) : Int) = V.int (1 + ((shp l).length : Int)) := by
        rw [shp_len, List.length_cons, hl]; congr 1; omega
      refine iteNS hn ?_
      refine ⟨_, rfl, rfl, _, rfl, ?_⟩
      rw [show decide ((Option.map (fun l => V.str (shp l)) (some l)).getD (V.str "?") = V.str "?") = false from shp_q l2]
      refine iteF ?_
      rw [decide_eq_true hl, Bool.true_and] at ewm
      refine ⟨_, rfl, _, rfl, a, _, rfl, s1.seqT hS, nw1 _ _, fun q hq => ?_⟩
      rw [cut1]
      have hq0 : H q = none := s1.free hq
      have s2 : Same H (upd (upd H p (.dK shapesKV)) q (.tup rest)) := same_upd s1 hq0
      generalize hHc : upd (upd H p (.dK shapesKV)) q (.tup rest) = Hc at s2 ⊢
      have hqc : Hc q = some (.tup rest) := by rw [← hHc]; exact upd_same
      refine ⟨_, rfl, q, shp l, rfl, ⟨_, SqT.of hqc⟩, for_zip (n := l.length) (fx := fun i => rest.getD i .non) (fy := fun i => V.str (mkS [(l.getD i .d).code]))
        (fun i σ H2 => (∃ u v, σ = [some (.ref a), some (.str (shp l)), u, v]) ∧ Same Hc H2 ∧ ((l.zip rest).take i).all fitP = true) ?_ ⟨⟨none, none, rfl⟩, Same.refl _, rfl⟩ ?_ ?_⟩
      · rintro i σ H2 ⟨_, sm, _⟩
        have st := zipTS_steps (K := K) (z := shp l) (i := i) (SqT.of (sm _ _ hqc))
        rw [shp_list, List.length_map, hl, Nat.min_self] at st
        refine ⟨fun hi => ⟨(st.1 hi).1, fun v H' y => ?_⟩, st.2⟩
        obtain ⟨r, e1, e2, e3⟩ := (st.1 hi).2 v H' y
        refine ⟨r, e1, e2, ?_⟩
        have e4 := shp_getD hi
        rw [shp_list] at e4
        rw [e3, e4]
      · rintro i σ H2 r hi ⟨⟨u, v, rfl⟩, sm, ha⟩ hr3
        have h1 : l[i]? = some l[i] := List.getElem?_eq_getElem hi
        have hi2 : i < rest.length := by omega
        have h2 : rest[i]? = some rest[i] := List.getElem?_eq_getElem hi2
        rw [at_getD h1, at_getD h2]
        have sq : Same H2 (upd H2 r (.tup [rest[i], V.str (mkS [(l[i]).code])])) := same_new hr3 _
        have hkp := R.kept l hf i _ _ h1 h2
        have hz := zip_at h1 h2
        refine ⟨r, _, rfl, SqT.of upd_same, rfl, _, _, rfl, _, _, rfl, rfl, ?_⟩
        refine ⟨_, rfl, _, _, rfl, rfl, _, rfl, ?_⟩
        rw [das_in]
        have yes : fitB l[i] rest[i] = true → ∀ H3, Same H2 H3 → (∃ u v, ([some (V.ref a), some (V.str (shp l)), some rest[i], some (V.str (mkS [(l[i]).code]))] : List (Option V)) = [some (.ref a), some (.str (shp l)), u, v]) ∧ Same Hc H3 ∧ ((l.zip rest).take (i + 1)).all fitP = true :=
          fun e H3 s3 => ⟨⟨_, _, rfl⟩, sm.trans s3, all_step hz ha e⟩
        have no : fitB l[i] rest[i] = false → ∀ H3, Same H2 H3 → Q (V.bl false) H3 := fun e H3 s3 => by
          rw [all_no hz e, Bool.false_and] at ewm
          rw [ewm] at kk
          exact kk _ (s2.trans (sm.trans s3))
        generalize l[i] = si at *
        rcases R.ok _ (List.getElem_mem hi2) with ⟨n, hn⟩ | ⟨z, hz', hzl, hzc⟩
        · rw [hn] at hkp yes no sq ⊢
          have hnum : si.num = true := hkp.symm
          rw [hnum]
          refine iteT ?_
          rw [fit_int si n hnum] at yes no
          refine ⟨_, rfl, rfl, .inr ⟨_, rfl, _, rfl, _, _, rfl, rfl, _, rfl, ?_⟩⟩
          rw [code_a]
          refine ite2 (fun c1 => ?_) (fun c1 => ?_)
          · rw [c1, Bool.true_and] at yes no
            refine ⟨_, _, rfl, rfl, _, rfl, ?_⟩
            cases c2 : decide (n ≤ 9999) with
            | true => exact iteF (yes c2 _ sq)
            | false => exact iteT (no c2 _ sq)
          · rw [Bool.eq_false_iff.mpr c1, Bool.false_and] at no
            exact ⟨_, rfl, iteT (no rfl _ sq)⟩
        · rw [hz'] at hkp yes no sq ⊢
          have hnum : si.num = false := hkp.symm
          rw [hnum]
          refine iteF ?_
          rw [fit_str si z hnum] at yes no
          refine ⟨_, rfl, z, rfl, hzl, hzc, fun H3 s3 => ⟨_, rfl, ?_⟩⟩
          cases c1 : nameB z.cps.toList with
          | true =>
            rw [c1, Bool.true_or] at yes
            exact iteF (iteF (yes rfl _ (sq.trans s3)))
          | false =>
            rw [c1, Bool.false_or] at yes no
            refine iteT ⟨_, rfl, rfl, _, rfl, ?_⟩
            rw [code_c]
            refine ite2 (fun c2 => ?_) (fun c2 => ?_)
            · rw [c2, Bool.true_and] at yes no
              refine ⟨_, rfl, rfl, _, rfl, ?_⟩
              rw [dec_str]
              cases c3 : decide (z = ("" : Str)) with
              | true => exact iteF (yes c3 _ (sq.trans s3))
              | false => exact iteT (no c3 _ (sq.trans s3))
            · rw [Bool.eq_false_iff.mpr c2, Bool.false_and] at no
              exact iteT (no rfl _ (sq.trans s3))
      · rintro σ H2 ⟨⟨u, v, rfl⟩, sm, ha⟩
        rw [List.take_of_length_le (by rw [List.length_zip]; omega)] at ha
        rw [ha, Bool.true_and] at ewm
        have S2 := (s2.trans sm).seqT hS
        refine ⟨_, rfl, a, _, _, _, rfl, rfl, S2, at0 _ _, small (by simp), fun t ht => ?_⟩
        have st : Same H2 (upd H2 t (.tup [V.str "heir", V.str "liege"])) := same_new ht _
        refine ⟨t, _, rfl, .inr (SqT.of upd_same), rfl, rfl, _, rfl, ?_⟩
        have e2 := inTwo k
        show if inV (V.str k) [V.str "heir", V.str "liege"] = true then _ else _
        rw [e2]
        have S3 := st.seqT S2
        cases h2 : two k with
        | false =>
          rw [h2] at ewm
          have : wmR k rest = true := ewm
          rw [this] at kk
          exact iteF ⟨_, rfl, kk _ (s2.trans (sm.trans st))⟩
        | true =>
          rw [h2, Bool.true_and] at ewm
          obtain ⟨l3, n1, n2⟩ := form_two hf h2
          refine iteT ?_
          have i1 : (1 : Nat) < rest.length := by omega
          have i2 : (2 : Nat) < rest.length := by omega
          have r1 : rest[1]? = some rest[1] := List.getElem?_eq_getElem i1
          have r2 : rest[2]? = some rest[2] := List.getElem?_eq_getElem i2
          have q1 : l[1]? = some l[1] := List.getElem?_eq_getElem (by omega)
          have q2 : l[2]? = some l[2] := List.getElem?_eq_getElem (by omega)
          have v1 : isI rest[1] = false := (R.kept l hf 1 _ _ q1 r1).trans (n1 _ q1)
          have v2 : isI rest[2] = false := (R.kept l hf 2 _ _ q2 r2).trans (n2 _ q2)
          have o1 := R.ok _ (List.getElem_mem i1)
          have o2 := R.ok _ (List.getElem_mem i2)
          rw [r1, r2] at ewm
          refine ⟨_, rfl, a, _, _, _, rfl, rfl, S3, at_nat r1 2 rfl, _, rfl, a, _, _, _, rfl, rfl, S3, at_nat r2 3 rfl, ?_⟩
          generalize rest[1] = x1 at *
          generalize rest[2] = x2 at *
          rcases o1 with ⟨n, rfl⟩ | ⟨z1, rfl, _⟩
          · cases v1
          rcases o2 with ⟨n, rfl⟩ | ⟨z2, rfl, _⟩
          · cases v2
          refine ⟨rfl, _, rfl, ?_⟩
          have e3 : wmR k rest = !decide (V.str z1 = V.str z2) := by
            rw [ewm]
            congr 1
            exact decide_eq_decide.mpr ⟨fun e => Option.some.inj e, fun e => by rw [e]⟩
          rw [e3] at kk
          exact kk _ (s2.trans (sm.trans st))
    · have e : wmR k rest = false := by rw [ewm, decide_eq_false hl, Bool.false_and]
      rw [e] at kk
      have hne : (!decide (V.int (((V.str k :: rest).length : Nat) : Int) = V.int (1 + ((shp l).length : Int)))) = true := by
        rw [shp_len, List.length_cons]
        have : ¬ V.int (((rest.length + 1 : Nat)) : Int) = V.int (1 + (l.length : Int)) := fun e => hl (by injection e with e; omega)
        rw [decide_eq_false this]; rfl
      rw [hne]
      exact iteT (iteT (kk _ s1))
end
end M

namespace M
open PySem L2
def d09 : Str := "0123456789"
theorem in_09' : ∀ c : _root_.Fin 128, (!(Builtin.Str.occurrences d09 (mkS [c.val]) 0 d09.length 1).isEmpty) = dig c.val := by decide +kernel
theorem in_09 {c : Nat} (h : c < 128) : (!(Builtin.Str.occurrences d09 (mkS [c]) 0 d09.length 1).isEmpty) = dig c := in_09' ⟨c, h⟩
def numL (z : Str) : V := if wfN z = true then .int (valN z) else .int (-1)
theorem numL_no {z : Str} (h : numV z = .non) : numL z = .int (-1) := by
  unfold numV at h
  unfold numL
  by_cases hw : wfN z = true
  · rw [if_pos hw] at h; cases h
  · rw [if_neg hw]
theorem numL_yes {z : Str} (h : numV z = .int (valN z)) : numL z = .int (valN z) := by
  unfold numV at h
  unfold numL
  by_cases hw : wfN z = true
  · rw [if_pos hw]
  · rw [if_neg hw] at h; cases h
section
variable {P : Program} {w : World} {K : PySem.W.Frag} {mg : Str → Option Value} {base : Heap} {f : Addr} {fd : FuncData}
def spNumL : Sp := fun vs H Q _ => ∃ z : Str, vs = [.str z] ∧ z.length ≤ 1000 ∧ Asc z ∧ ∀ H', Same H H' → Q (numL z) H'
theorem scNumL : FnScope ["_law_word"] ["_law_word"] (defScope sNumL) := ⟨rfl, rfl, rfl, by decide +kernel, rfl, by decide +kernel, by decide +kernel⟩
def scQ1 : Scope := { kind := .function, names := [(".0", .local), ("_law_sign", .local)], isGenerator := false, isCoroutine := false }
theorem csQ1 : CScope ["_law_word"] (defScope sNumL) scQ1 ["_law_sign"] [] [] := ⟨rfl, by decide +kernel, by decide +kernel, by decide +kernel, rfl, by decide +kernel⟩
theorem ndQ1 : ((["_law_sign"] : List Str) ++ ([] : List Str)).Nodup := by decide +kernel
set_option maxHeartbeats 4000000 in
theorem ok_numL (F : Fun K "_law_number" "_law_number" sNumL f fd) (ml : mg "len" = none) (ma : mg "all" = none) (mi : mg "int" = none) : FnOk P w K mg base CX0 1 f fd ["_law_word"] spNumL := by
  refine F.ok scNumL (fun vs H Q E h => ?_) (fun cdv A outer s H vs Q E hr h => ?_)
  · obtain ⟨z, rfl, _⟩ := h
    rfl
  obtain ⟨z, rfl, hzl, hzc, k⟩ := h
  refine ⟨_, pss_cons (ps_if (PW.pt (pw_or (pt_not (pt_chain op_le op_le pe_int (pe_callB call_len_str rfl ml PySem.boot_len (pa_cons (pv 0) pa_nil)) pe_int))
      (pw_or1 (pt_not (pt_val (pe_callB (call_allK (K := K) rfl hr.hd) rfl ma bt_all (pa_cons (pe_comp rfl csQ1 (pi_str (pv 0)) (fun s H fp C => ⟨pg_name (i := 0) ndQ1 rfl (Or.inl rfl), pts_nil, pe_cmpR op_in_str (pv 0) pe_str (by with_unfolding_all rfl)⟩)) pa_nil))))))) (pss_one (ps_ret (pe_un un_neg pe_int))) pss_nil)
    (pss_cons (ps_if (PW.pt (pw_and (pt_cmpR op_gt (pe_callB call_len_str rfl ml PySem.boot_len (pa_cons (pv 0) pa_nil)) pe_int (nomark _)) (pw_and1 (pt_cmpR op_eq (pe_ix ix_str (pv 0) pe_int (fun _ _ => rfl)) pe_str (nomark _))))) (pss_one (ps_ret (pe_un un_neg pe_int))) pss_nil)
    (pss_one (ps_ret (pe_callTy call_int_text rfl mi bt_int (pa_cons (pv 0) pa_nil))))), ?_⟩
  have ez := len_l z
  have zs : z.length ≤ sizeLine := small (by omega)
  refine ⟨_, rfl, z, rfl, zs, _, _, rfl, rfl, _, rfl, ?_⟩
  refine ite2 (fun h1 => ?_) (fun h1 => ?_)
  case refine_2 =>
    have h1' := of_decide_eq_false (Bool.eq_false_iff.mpr h1)
    rw [numL_no (num_no2 (by omega))] at k
    exact ⟨_, rfl, iteT (iteT ⟨_, rfl, k _ (Same.refl _)⟩)⟩
  have h1' := of_decide_eq_true h1
  refine ⟨_, _, rfl, rfl, _, rfl, ?_⟩
  refine ite2 (fun h2 => ?_) (fun h2 => ?_)
  · have h2' : ¬ ((z.length : Nat) : Int) ≤ 6 := by simpa using h2
    rw [numL_no (num_no3 (by omega))] at k
    exact iteT ⟨_, rfl, k _ (Same.refl _)⟩
  have h2' : ((z.length : Nat) : Int) ≤ 6 := by simpa using h2
  have l1 : 1 ≤ z.cps.toList.length := by omega
  have l6 : z.cps.toList.length ≤ 6 := by omega
  refine ⟨_, rfl, z, rfl, fun D' hD' => ?_⟩
  refine comp_str (x := z) (fun i ys H4 => ys = ((z.cps.toList.take i).map dig).map V.bl ∧ Same H H4 ∧ H4 D' = some (.lst ys)) ⟨rfl, same_new hD' _, upd_same⟩ (fun i ys H4 h => h.2.2) ?_ ?_
  · rintro j ys H4 c hc ⟨rfl, hq4, hD4⟩
    refine ⟨Kp.set rfl (Kp.refl _), ?_⟩
    refine tTrue_ok ?_
    refine ⟨_, rfl, _, _, rfl, rfl, hD4, ?_, ?_, same_upd hq4 hD', upd_same⟩
    · rw [List.length_map, List.length_map, List.length_take]
      exact small' (by omega)
    · have e := in_09 (hzc c (List.mem_of_getElem? hc))
      rw [List.take_add_one, hc, List.map_append, List.map_append]
      show _ ++ [V.bl (!(Builtin.Str.occurrences d09 (mkS [c]) 0 d09.length 1).isEmpty)] = _
      rw [e]; rfl
  · rintro ys H4 ⟨rfl, hq4, hD4⟩
    rw [List.take_length] at hD4
    refine ⟨D', _, rfl, SqL.of hD4, ?_⟩
    have eall : (z.cps.toList.map dig).all id = z.cps.toList.all dig := by rw [List.all_map]; rfl
    rw [eall]
    refine ⟨_, rfl, ?_⟩
    cases ha : z.cps.toList.all dig with
    | false =>
      rw [numL_no (num_no1 ha)] at k
      exact iteT ⟨_, rfl, k _ hq4⟩
    | true =>
      refine iteF ?_
      refine ⟨_, rfl, z, rfl, zs, _, _, rfl, rfl, _, rfl, ?_⟩
      obtain ⟨c, hc⟩ : ∃ c, z.cps.toList[0]? = some c := ⟨_, List.getElem?_eq_getElem (by omega)⟩
      refine ite2 (fun h3 => ?_) (fun h3 => ?_)
      · have h3' := of_decide_eq_true h3
        refine ⟨_, rfl, z, 0, c, rfl, rfl, zs, atI_nat (j := 0) hc, rfl, _, rfl, ?_⟩
        refine ite2 (fun h => ?_) (fun h => ?_)
        · have hc48 : c = 48 := by
            have h' := of_decide_eq_true h
            injection h' with h'
            have h2 := congrArg (fun y : Str => y.cps.toList) h'
            have e0 : (("0" : Str)).cps.toList = [48] := by decide +kernel
            rw [e0] at h2
            simpa using h2
          rw [numL_no (num_no4 (by rw [hc, hc48]) (by omega))] at k
          exact ⟨_, rfl, k _ hq4⟩
        · have ne : z.cps.toList[0]? ≠ some 48 := fun e => h (by
            rw [hc] at e
            injection e with e
            subst e
            decide +kernel)
          rw [numL_yes (num_yes ha l1 l6 (.inr ne))] at k
          exact ⟨_, rfl, z, valN z, rfl, wf_reads ha l1 l6, by omega, k _ hq4⟩
      · have h3' := of_decide_eq_false (Bool.eq_false_iff.mpr h3)
        refine iteF ?_
        rw [numL_yes (num_yes ha l1 l6 (.inl (by omega)))] at k
        exact ⟨_, rfl, z, valN z, rfl, wf_reads ha l1 l6, by omega, k _ hq4⟩
end
end M

namespace L2
open PySem PySem.Spec PyProof.Rows PySem.W

abbrev ItzLS (K : PySem.W.Frag) (a : Addr) (z : Str) : It := Itz (fun i H => ∃ xs x, SqL K H a xs ∧ xs[i]? = some x) (fun i _ => i < z.cps.toList.length) (fun i H => ∃ xs, SqL K H a xs ∧ xs.length ≤ i) (fun i _ => z.cps.toList.length ≤ i)
  (fun i H x => ∀ xs, SqL K H a xs → xs[i]? = some x) (fun i _ v => ∃ c, z.cps.toList[i]? = some c ∧ v = .str (mkS [c]))
def iZipLS (K : PySem.W.Frag) (ta : TA) : TI := fun σ H R => ta σ H fun vs H1 => ∃ a z, vs = [.ref a, .str z] ∧ (∃ xs, SqL K H1 a xs) ∧ R (ItzLS K a z) H1
section
variable {X : Cx} {elts : List Expr} {x1 : Nat} {tp : Pos} {a b : Expr} {ta : TA} {p pos : Pos}
theorem pi_zipLS (hg : Gl X "zip") (hm : X.mg "zip" = none) (ha : PA X [a, b] ta) (hs : starEach [a, b] X.env = [(false, eval a X.env), (false, eval b X.env)] := by rfl) (hs2 : starEach [b] X.env = [(false, eval b X.env)] := by rfl) :
    PI X (.Tuple elts x1 tp) (.Call (.Name "zip" p) [a, b] [] pos) (iZipLS X.K ta) := by
  intro pins s σ H R I h
  refine Call_ (ld_blt I hg hm bt_zip (PyProof.Rows.callWith_type1 (thn (ha pos pins s σ H _ I h) fun us s1 ⟨vs, H1, I1, r1, q1⟩ => ?_) (by rw [hs, hs2]) (by rw [hs2]; rfl)))
  obtain ⟨c, z, rfl, ⟨xs, hx⟩, q⟩ := q1
  obtain ⟨u, u', rfl, ru, ru'⟩ := vals2 r1
  cases ru
  obtain ⟨t, rfl⟩ := ru'
  obtain ⟨its, rv, p1, _⟩ := I1.list hx
  cases ha' : z.cps.all (· < 128)
  · exact zip_pi (U := fun h => h.IsList c its.toArray) I1 p1.isList (fun h o ⟨oc, e, r⟩ => ⟨oc, Heap.get?_push_of_some _ e, r⟩)
      (fun prog w A Q E s hu hQ => wpAny_pyIter_list hu hQ) (fun prog w A Q E s hu hQ => wpAny_pyIter_wide ha' hQ) (sub_lst c _) (sub_str z t _ "str_iterator" (fun A hA => Draws.strWide hA _ z t) (fun A i c s Q E st hc h => wpAny_nextOf_wide_item st hc h) fun A i s Q E hh st hx hE => wpAny_nextOf_wide_end hh st hx hE)
      (fun h e => ⟨_, e, rfl, rfl⟩) (fun h e => ⟨_, e, rfl, rfl⟩) rfl rfl q
  · exact zip_pi (U := fun h => h.IsList c its.toArray) I1 p1.isList (fun h o ⟨oc, e, r⟩ => ⟨oc, Heap.get?_push_of_some _ e, r⟩)
      (fun prog w A Q E s hu hQ => wpAny_pyIter_list hu hQ) (fun prog w A Q E s hu hQ => wpAny_pyIter_ascii ha' hQ) (sub_lst c _) (sub_str z t _ "str_ascii_iterator" (fun A hA => Draws.strAscii hA _ z t) (fun A i c s Q E st hc h => wpAny_nextOf_ascii_item st hc h) fun A i s Q E hh st hx hE => wpAny_nextOf_ascii_end hh st hx hE)
      (fun h e => ⟨_, e, rfl, rfl⟩) (fun h e => ⟨_, e, rfl, rfl⟩) rfl rfl q
end
theorem zipLS_steps {K : PySem.W.Frag} {a : Addr} {xs : List V} {z : Str} {H : Hp} {i : Nat} (ha : SqL K H a xs) :
    (i < min xs.length z.cps.toList.length → (ItzLS K a z).go i H ∧ ∀ v H', (ItzLS K a z).yld i H v H' → ∃ p, v = .ref p ∧ H p = none ∧ H' = upd H p (.tup [xs.getD i .non, .str (mkS [z.cps.toList.getD i 0])])) ∧ (min xs.length z.cps.toList.length ≤ i → (ItzLS K a z).stop i H) := by
  refine ⟨fun hi => ⟨⟨⟨xs, xs[i]'(by omega), ha, by rw [List.getElem?_eq_getElem]⟩, by show i < _; omega⟩, fun v H' ⟨p, x, y, e1, e2, e3, e4, c, hc, e5⟩ => ⟨p, e1, e2, ?_⟩⟩, fun hi => ?_⟩
  · rw [e3, List.getD_eq_getElem?_getD, List.getD_eq_getElem?_getD, e4 xs ha, e5, hc]; rfl
  · by_cases h1 : xs.length ≤ i
    · exact .inl ⟨xs, ha, h1⟩
    · exact .inr ⟨⟨xs, xs[i]'(by omega), ha, by rw [List.getElem?_eq_getElem]⟩, by show _ ≤ i; omega⟩
end L2

namespace M
open PySem L2

def lwV (s : Srt) (z : Str) : V := if s.num = true then numL z else if s = .c ∧ z = "-" then .str "" else .str z
def lwsV (l : List Srt) (ws : List Str) : List V := (l.zip ws).map fun p => lwV p.1 p.2
theorem lws_len {l : List Srt} {ws : List Str} (h : ws.length = l.length) : (lwsV l ws).length = l.length := by
  unfold lwsV
  rw [List.length_map, List.length_zip, h, Nat.min_self]
theorem lws_at {l : List Srt} {ws : List Str} {i : Nat} {s : Srt} {z : Str} (h1 : l[i]? = some s) (h2 : ws[i]? = some z) : (lwsV l ws)[i]? = some (lwV s z) := by
  unfold lwsV
  rw [List.getElem?_map, (List.getElem?_zip_eq_some (z := (s, z))).mpr ⟨h1, h2⟩]; rfl
theorem pcs_at' {l : List Srt} {ws : List Str} {i : Nat} {s : Srt} {z : Str} (h1 : l[i]? = some s) (h2 : ws[i]? = some z) : (pcsV l ws)[i]? = some (pcV s z) := by
  unfold pcsV
  rw [List.getElem?_map, (List.getElem?_zip_eq_some (z := (s, z))).mpr ⟨h1, h2⟩]; rfl
theorem pc_empty {s : Srt} (h : s.num = false) : pcV s "" = .non := by
  cases s <;> first | decide +kernel | cases h
theorem fit_neg (s : Srt) : fitB s (.int (-1)) = false := by cases s <;> decide
theorem lw_pc {s : Srt} {z : Str} (hz : s.num = true ∨ z ≠ "") : pcV s z = if fitB s (lwV s z) = true then lwV s z else .non := by
  cases hn : s.num with
  | true =>
    unfold pcV rawV lwV
    rw [if_pos hn, if_pos hn]
    rcases num_kind z with e | e
    · rw [e, numL_no e, fit_non, fit_neg]; rfl
    · rw [e, numL_yes e]
  | false =>
    have hz' : z ≠ "" := hz.resolve_left (by rw [hn]; exact Bool.false_ne_true)
    have nn : ¬ s.num = true := by rw [hn]; exact Bool.false_ne_true
    have e0 : rawV s z = nmV z := by unfold rawV; rw [if_neg nn]
    unfold pcV
    rw [e0]
    by_cases hd : z = "-"
    · subst hd
      have e1 : nmV "-" = .str "" := by decide +kernel
      rw [e1]
      cases s <;> first | decide +kernel | cases hn
    · have e1 : nmV z = if nameB z.cps.toList = true then .str z else .non := by unfold nmV; rw [if_neg hd]
      have e2 : lwV s z = .str z := by unfold lwV; rw [if_neg nn, if_neg (fun (h : s = .c ∧ z = "-") => hd h.2)]
      rw [e1, e2]
      by_cases hnm : nameB z.cps.toList = true
      · rw [if_pos hnm]
      · rw [if_neg hnm, fit_non, fit_str s z hn, Bool.eq_false_iff.mpr hnm, decide_eq_false hz', Bool.and_false]
        rfl
theorem all_get {l : List (Srt × V)} {p : Srt × V} {i : Nat} (h : l.all fitP = true) (e : l[i]? = some p) : fitP p = true := List.all_eq_true.mp h p (List.mem_of_getElem? e)

theorem row_empty {k : Str} {l : List Srt} {ws : List Str} {i : Nat} {s : Srt} (hf : form k = some l) (h1 : l[i]? = some s) (h2 : ws[i]? = some ("" : Str)) (hn : s.num = false) : rowW k ws = none := by
  unfold rowW
  rw [hf]
  show (resP l ws).bind _ = none
  cases hr : resP l ws with
  | none => rfl
  | some ps =>
    obtain ⟨_, rfl, hno⟩ := res_some hr
    have := pcs_at' h1 h2
    rw [pc_empty hn] at this
    exact absurd rfl (hno _ (List.mem_of_getElem? this))
theorem row_len {k : Str} {l : List Srt} {ws : List Str} (hf : form k = some l) (h : ¬ ws.length = l.length) : rowW k ws = none := by
  unfold rowW
  rw [hf]
  show (resP l ws).bind _ = none
  unfold resP
  rw [if_neg h]; rfl
theorem row_law {k : Str} {l : List Srt} {ws : List Str} (hf : form k = some l) (hl : ws.length = l.length) (hw : ∀ (i : Nat) (s : Srt) (z : Str), l[i]? = some s → ws[i]? = some z → s.num = true ∨ z ≠ "") : rowW k ws = if wmR k (lwsV l ws) = true then some (k, lwsV l ws) else none := by
  have ewm : wmR k (lwsV l ws) = (decide ((lwsV l ws).length = l.length) && (((l.zip (lwsV l ws)).all fitP) && !(two k && decide ((lwsV l ws)[1]? = (lwsV l ws)[2]?)))) := by unfold wmR; rw [hf]
  unfold rowW
  rw [hf]
  show (resP l ws).bind _ = _
  cases ha : (l.zip (lwsV l ws)).all fitP with
  | true =>
    have e : pcsV l ws = lwsV l ws := by
      apply List.ext_getElem?
      intro i
      by_cases hi : i < l.length
      · have h1 : l[i]? = some l[i] := List.getElem?_eq_getElem hi
        have h2 : ws[i]? = some (ws[i]'(by omega)) := List.getElem?_eq_getElem (by omega)
        have h3 := lws_at h1 h2
        rw [pcs_at' h1 h2, h3, lw_pc (hw i _ _ h1 h2)]
        have := all_get ha (zip_at h1 h3)
        have this : fitB l[i] (lwV l[i] (ws[i]'(by omega))) = true := this
        rw [if_pos this]
      · rw [List.getElem?_eq_none (by rw [pcs_len hl]; omega), List.getElem?_eq_none (by rw [lws_len hl]; omega)]
    have en : inV .non (lwsV l ws) = false := by
      unfold inV
      rw [List.any_eq_false]
      intro v hv
      obtain ⟨p, _, rfl⟩ := List.mem_map.mp hv
      unfold lwV numL
      by_cases c1 : p.1.num = true
      · rw [if_pos c1]
        by_cases c2 : wfN p.2 = true
        · rw [if_pos c2]; exact Bool.false_ne_true
        · rw [if_neg c2]; exact Bool.false_ne_true
      · rw [if_neg c1]
        by_cases c2 : p.1 = .c ∧ p.2 = "-"
        · rw [if_pos c2]; exact Bool.false_ne_true
        · rw [if_neg c2]; exact Bool.false_ne_true
    have er : resP l ws = some (lwsV l ws) := by
      unfold resP
      rw [if_pos hl, e, en, if_neg Bool.false_ne_true]
    rw [er]; rfl
  | false =>
    rw [ewm, ha, Bool.false_and, Bool.and_false, if_neg Bool.false_ne_true]
    cases hr : resP l ws with
    | none => rfl
    | some ps =>
      exfalso
      obtain ⟨_, rfl, hno⟩ := res_some hr
      rw [List.all_eq_false] at ha
      obtain ⟨p, hp, hpf⟩ := ha
      obtain ⟨i, hi⟩ := List.mem_iff_getElem?.mp hp
      obtain ⟨h1, h3⟩ := List.getElem?_zip_eq_some.mp hi
      have hil : i < l.length := (List.getElem?_eq_some_iff.mp h1).1
      have h2 : ws[i]? = some (ws[i]'(by omega)) := List.getElem?_eq_getElem (by omega)
      rw [lws_at h1 h2] at h3
      injection h3 with h3
      have h4 := pcs_at' h1 h2
      rw [lw_pc (hw i _ _ h1 h2), h3, if_neg (show ¬ fitB p.1 p.2 = true from hpf)] at h4
      exact hno _ (List.mem_of_getElem? h4) rfl
theorem numL_int (z : Str) : ∃ n, numL z = .int n := by
  unfold numL
  by_cases h : wfN z = true
  · rw [if_pos h]; exact ⟨_, rfl⟩
  · rw [if_neg h]; exact ⟨_, rfl⟩
theorem lw_isI (s : Srt) (z : Str) : isI (lwV s z) = s.num := by
  unfold lwV
  by_cases c1 : s.num = true
  · rw [if_pos c1, c1]
    obtain ⟨n, e⟩ := numL_int z
    rw [e]; rfl
  · rw [if_neg c1, Bool.eq_false_iff.mpr c1]
    by_cases c2 : s = .c ∧ z = "-"
    · rw [if_pos c2]; rfl
    · rw [if_neg c2]; rfl
theorem lw_ok {s : Srt} {z : Str} (hz : z.length ≤ 1000) (ha : Asc z) : okV 1000 (lwV s z) := by
  unfold lwV
  by_cases c1 : s.num = true
  · rw [if_pos c1]
    exact .inl (numL_int z)
  · rw [if_neg c1]
    by_cases c2 : s = .c ∧ z = "-"
    · rw [if_pos c2]; exact .inr ⟨"", rfl, by decide +kernel, by decide +kernel⟩
    · rw [if_neg c2]; exact .inr ⟨z, rfl, hz, ha⟩
theorem lws_row {k : Str} {l : List Srt} {ws : List Str} (hf : form k = some l) (hl : ws.length = l.length) (hz : ∀ t ∈ ws, t.length ≤ 1000 ∧ Asc t) : Row 1000 k (lwsV l ws) := by
  obtain ⟨_, l6⟩ := form_len hf
  have each : ∀ i v, (lwsV l ws)[i]? = some v → ∃ s z, l[i]? = some s ∧ z ∈ ws ∧ v = lwV s z := fun i v e => by
    unfold lwsV at e
    rw [List.getElem?_map] at e
    obtain ⟨p, hp, rfl⟩ := Option.map_eq_some_iff.mp e
    obtain ⟨h1, h2⟩ := List.getElem?_zip_eq_some.mp hp
    exact ⟨_, _, h1, List.mem_of_getElem? h2, rfl⟩
  refine ⟨by rw [lws_len hl]; omega, fun v hv => ?_, fun l' hl' i s v e1 e2 => ?_⟩
  · obtain ⟨i, hi⟩ := List.mem_iff_getElem?.mp hv
    obtain ⟨s, z, _, hm, rfl⟩ := each i v hi
    exact lw_ok (hz z hm).1 (hz z hm).2
  · rw [hf] at hl'
    injection hl' with hl'
    subst hl'
    obtain ⟨s', z, h1, _, rfl⟩ := each i v e2
    rw [e1] at h1
    injection h1 with h1
    subst h1
    exact lw_isI _ _
end M

set_option pp.maxSteps 700
namespace M
open PySem L2
section
variable {P : Program} {w : World} {K : PySem.W.Frag} {mg : Str → Option Value} {base : Heap} {f : Addr} {fd : FuncData}

def spReadL : Sp := fun vs H Q _ => ∃ z : Str, vs = [.str z] ∧ z.length ≤ 1000 ∧ Asc z ∧ (rowR z = none → ∀ H', Same H H' → Q .non H') ∧ ∀ k ps, rowR z = some (k, ps) → ∀ p H', Same H H' → H' p = some (.tup (.str k :: ps)) → Q (.ref p) H'
theorem scReadL : FnScope ["_law_text", "_law_words", "_law_shape", "_law_row", "_law_word", "_law_kind"] ["_law_text"] (defScope sReadL) := ⟨rfl, rfl, rfl, by decide +kernel, rfl, by decide +kernel, by decide +kernel⟩
set_option maxHeartbeats 4000000 in
theorem ok_readL (F : Fun K "_law_read" "_law_read" sReadL f fd) (ml : mg "len" = none) (mz : mg "zip" = none) (mu : mg "tuple" = none) {g1 g2 g3 : Addr} {d1 d2 d3 : FuncData} (G1 : FnOk P w K mg base CX0 1 g1 d1 [] spShapes) (M1 : Ms K mg "_law_shapes" g1 d1 [])
    (G2 : FnOk P w K mg base CX0 1 g2 d2 ["_law_word"] spNumL) (M2 : Ms K mg "_law_number" g2 d2 ["_law_word"]) (G3 : FnOk P w K mg base CX0 2 g3 d3 ["_law_row"] (spGood K)) (M3 : Ms K mg "_law_good" g3 d3 ["_law_row"]) : FnOk P w K mg base CX0 3 f fd ["_law_text"] spReadL := by
  refine F.ok scReadL (fun vs H Q E h => ?_) (fun cdv A outer s H vs Q E hr h => ?_)
  · obtain ⟨z, rfl, _⟩ := h
    rfl
  obtain ⟨z, rfl, hz, hza, k0, k1⟩ := h
  have hr1 : Room 1 (A.deeper (PyProof.Rows.envOfC "_law_read" (defScope sReadL) s.heap.objs.size f cdv)) := hr.mono (by decide)
  refine ⟨_, pss_cons (ps_set (i := 1) scReadL.nd rfl (Or.inl rfl) (pe_bm PySem.F.plainAttrs_str PySem.F.slot_str_split PySem.F.type_str_split mt_split (pv 0) (pa_cons pe_str pa_nil)))
    (pss_cons (ps_set (i := 2) scReadL.nd rfl (Or.inl rfl) (pe_dget2 (u1 hr1) (pe_call0 G1 hr1 rfl M1.m M1.k M1.b .nil pass0) (pe_ix ix_list (pv 1) pe_int (fun _ _ => rfl)) pe_str ⟨rfl, rfl, rfl, rfl⟩))
    (pss_cons (ps_if (PW.pt (pw_or (pt_cmpR op_eq (pv 2) pe_str (nomark _)) (pw_or1 (pt_cmpR op_ne (pe_callB call_len_seq rfl ml PySem.boot_len (pa_cons (pv 1) pa_nil)) (pe_op op_add pe_int (pe_callB call_len_str rfl ml PySem.boot_len (pa_cons (pv 2) pa_nil))) (nomark _))))) (pss_one (ps_ret pe_non)) pss_nil)
    (pss_cons (ps_set (i := 3) scReadL.nd rfl (Or.inl rfl) (pe_lst (pa_cons (pe_ix ix_list (pv 1) pe_int (fun _ _ => rfl)) pa_nil)))
    (pss_cons (ps_for PassesOwn.never rfl (pi_zipLS rfl mz (pa_cons (pe_slice sl_list (pv 1) (po_some pe_int) po_none) (pa_cons (pv 2) pa_nil))) (pg_tup rfl (pgs_cons (pg_name (i := 4) scReadL.nd rfl (Or.inl rfl)) (pgs_cons (pg_name (i := 5) scReadL.nd rfl (Or.inl rfl)) pgs_nil)))
      (pss_one (ps_if (pt_cmpR op_in_str (pv 5) pe_str (by with_unfolding_all rfl))
        (pss_one (ps_expr (pe_bm PySem.F.plainAttrs_list PySem.F.slot_list_append PySem.F.type_list_append mt_append (pv 3) (pa_cons (pe_call G2 hr1 rfl M2.m M2.k M2.b .nil pass0 (pa_cons (pv 4) pa_nil)) pa_nil))))
        (pss_one (ps_if (PW.pt (pw_and (pt_cmpR op_eq (pv 5) pe_str (nomark _)) (pw_and1 (pt_cmpR op_eq (pv 4) pe_str (nomark _)))))
          (pss_one (ps_expr (pe_bm PySem.F.plainAttrs_list PySem.F.slot_list_append PySem.F.type_list_append mt_append (pv 3) (pa_cons pe_str pa_nil))))
          (pss_one (ps_if (pt_cmpR op_eq (pv 4) pe_str (nomark _)) (pss_one (ps_ret pe_non))
            (pss_one (ps_expr (pe_bm PySem.F.plainAttrs_list PySem.F.slot_list_append PySem.F.type_list_append mt_append (pv 3) (pa_cons (pv 4) pa_nil)))))))))))
    (pss_cons (ps_if (pt_not (pt_val (pe_call G3 hr rfl M3.m M3.k M3.b .nil pass0 (pa_cons (pe_callTy call_tuple_of rfl mu bt_tuple (pa_cons (pv 3) pa_nil)) pa_nil)))) (pss_one (ps_ret pe_non)) pss_nil)
    (pss_one (ps_ret (pe_callTy call_tuple_of rfl mu bt_tuple (pa_cons (pv 3) pa_nil))))))))), ?_⟩
  refine ⟨_, rfl, rfl, _, _, rfl, rfl, (by decide +kernel), (by have := small (n := 2000) (by omega); omega), fun p hp => ?_⟩
  obtain ⟨k, ws, ew⟩ : ∃ k ws, wds z = k :: ws := by
    cases q : wds z with
    | nil => exact absurd q (wds_ne z)
    | cons k ws => exact ⟨k, ws, rfl⟩
  have er : rowR z = rowW k ws := by unfold rowR; rw [ew]
  rw [er] at k0 k1
  have hws : ∀ t ∈ ws, t.length ≤ 1000 ∧ Asc t := fun t ht => ⟨Nat.le_trans (wds_le (by rw [ew]; exact List.mem_cons_of_mem _ ht)) hz, wds_asc hza (by rw [ew]; exact List.mem_cons_of_mem _ ht)⟩
  have hwl : ws.length ≤ 1000 := by
    have := wds_many z
    rw [ew, List.length_cons] at this
    omega
  have ew' : Txt.split z (Str.ofString " ") = k :: ws := ew
  rw [ew', List.map_cons]
  have s1 : Same H (upd H p (.lst (V.str k :: ws.map V.str))) := same_new hp _
  have p1 : (upd H p (.lst (V.str k :: ws.map V.str))) p = some (.lst (V.str k :: ws.map V.str)) := upd_same
  generalize upd H p (.lst (V.str k :: ws.map V.str)) = H1 at s1 p1 ⊢
  refine ⟨rfl, fun p2 hp2 => ⟨p2, rfl, .inl ⟨_, .inl upd_same⟩, ?_⟩⟩
  have s2 : Same H1 (upd H1 p2 (.dK shapesKV)) := same_new hp2 _
  refine ⟨_, rfl, p, _, _, _, rfl, rfl, s2.seq (SqL.of p1), at0 _ _, valV shapesKV (.inr k), DGet.k (k := .inr k) upd_same, ?_⟩
  rw [shapes_val]
  have p2' : (upd H1 p2 (.dK shapesKV)) p = some (.lst (V.str k :: ws.map V.str)) := s2 _ _ p1
  have s2' : Same H (upd H1 p2 (.dK shapesKV)) := s1.trans s2
  generalize upd H1 p2 (.dK shapesKV) = H2 at p2' s2' ⊢
  cases hf : form k with
  | none =>
    refine ⟨_, rfl, rfl, _, rfl, ?_⟩
    exact iteT (iteT (k0 (by unfold rowW; rw [hf]; rfl) _ s2'))
  | some l =>
    obtain ⟨l2, l6⟩ := form_len hf
    have lq : (shp l).length ≤ sizeLine := by rw [shp_len]; exact small (by omega)
    refine ⟨_, rfl, rfl, _, rfl, ?_⟩
    rw [show decide ((Option.map (fun l => V.str (shp l)) (some l)).getD (V.str "?") = V.str "?") = false from shp_q l2]
    refine iteF ?_
    refine ⟨_, rfl, p, _, rfl, .inl (SqL.of p2'), _, rfl, shp l, rfl, lq, _, _, rfl, rfl, rfl, _, rfl, ?_⟩
    by_cases hl : ws.length = l.length
    case neg =>
      refine ite2 (fun _ => k0 (row_len hf hl) _ s2') (fun h => absurd ?_ h)
      rw [decide_eq_false]
      · rfl
      · intro e
        rw [shp_len, List.length_cons, List.length_map] at e
        injection e with e
        exact hl (by omega)
    have hn : V.int (((V.str k :: ws.map V.str).length : Nat) : Int) = V.int (1 + ((shp l).length : Int)) := by
      rw [shp_len, List.length_cons, List.length_map, hl]; congr 1; omega
    refine iteNS hn ?_
    refine ⟨_, rfl, p, _, _, _, rfl, rfl, SqL.of p2', at0 _ _, small (by simp), fun r hr2 => ?_⟩
    have hr0 : H r = none := s2'.free hr2
    have s3 : Same H (upd H2 r (.lst [V.str k])) := same_upd s2' hr0
    have p3 : (upd H2 r (.lst [V.str k])) p = some (.lst (V.str k :: ws.map V.str)) := (same_new hr2 _) _ _ p2'
    have r3 : (upd H2 r (.lst [V.str k])) r = some (.lst [V.str k]) := upd_same
    generalize upd H2 r (.lst [V.str k]) = H3 at s3 p3 r3 ⊢
    refine ⟨_, rfl, _, rfl, p, _, rfl, SqL.of p3, fun q hq => ?_⟩
    rw [cut1]
    have hq0 : H q = none := s3.free hq
    have nqr : q ≠ r := fun e => by rw [e, r3] at hq; cases hq
    have s4 : Same H (upd H3 q (.lst (ws.map V.str))) := same_upd s3 hq0
    have q4 : (upd H3 q (.lst (ws.map V.str))) q = some (.lst (ws.map V.str)) := upd_same
    have r4 : (upd H3 q (.lst (ws.map V.str))) r = some (.lst [V.str k]) := (same_new hq _) _ _ r3
    generalize upd H3 q (.lst (ws.map V.str)) = H4 at s4 q4 r4 ⊢
    refine ⟨_, rfl, q, shp l, rfl, ⟨_, SqL.of q4⟩, for_zip (n := l.length) (fx := fun i => V.str (ws.getD i "")) (fy := fun i => V.str (mkS [(l.getD i .d).code]))
      (fun i σ H5 => (∃ u v, σ = [some (.str z), some (.ref p), some (.str (shp l)), some (.ref r), u, v]) ∧ Same H H5 ∧ H5 q = some (.lst (ws.map V.str)) ∧ H5 r = some (.lst (V.str k :: (lwsV l ws).take i)) ∧ ∀ j s t, j < i → l[j]? = some s → ws[j]? = some t → s.num = true ∨ t ≠ "") ?_ ⟨⟨none, none, rfl⟩, s4, q4, r4, fun j s t hj => by omega⟩ ?_ ?_⟩
    · rintro i σ H5 ⟨_, _, hq5, _⟩
      have st := zipLS_steps (K := K) (z := shp l) (i := i) (SqL.of hq5)
      rw [shp_list, List.length_map, List.length_map, hl, Nat.min_self] at st
      refine ⟨fun hi => ⟨(st.1 hi).1, fun v H' y => ?_⟩, st.2⟩
      obtain ⟨r', e1, e2, e3⟩ := (st.1 hi).2 v H' y
      refine ⟨r', e1, e2, ?_⟩
      have e4 := shp_getD hi
      rw [shp_list] at e4
      have e5 : (ws.map V.str).getD i .non = V.str (ws.getD i "") := by
        rw [List.getD_eq_getElem?_getD, List.getD_eq_getElem?_getD, List.getElem?_map, List.getElem?_eq_getElem (by omega)]; rfl
      rw [e3, e4, e5]
    · rintro i σ H5 t hi ⟨⟨u, v, rfl⟩, s5, q5, r5, hw⟩ ht
      have h1 : l[i]? = some l[i] := List.getElem?_eq_getElem hi
      have h2 : ws[i]? = some (ws[i]'(by omega)) := List.getElem?_eq_getElem (by omega)
      have h3 := lws_at h1 h2
      obtain ⟨hzl, hza⟩ := hws _ (List.mem_of_getElem? h2)
      rw [at_getD h1, at_getD h2]
      have sq : Same H5 (upd H5 t (.tup [V.str (ws[i]'(by omega)), V.str (mkS [(l[i]).code])])) := same_new ht _
      have fin : ∀ H6, Same (upd H5 t (.tup [V.str (ws[i]'(by omega)), V.str (mkS [(l[i]).code])])) H6 → (l[i].num = true ∨ (ws[i]'(by omega)) ≠ "") → ∀ x, x = lwV l[i] (ws[i]'(by omega)) → H6 r = some (.lst (V.str k :: (lwsV l ws).take i)) ∧ (V.str k :: (lwsV l ws).take i).length < sizeLine ∧ ((∃ u v, ([some (V.str z), some (V.ref p), some (V.str (shp l)), some (V.ref r), some (V.str (ws[i]'(by omega))), some (V.str (mkS [(l[i]).code]))] : List (Option V)) = [some (.str z), some (.ref p), some (.str (shp l)), some (.ref r), u, v]) ∧ Same H (upd H6 r (.lst (V.str k :: (lwsV l ws).take i ++ [x]))) ∧ (upd H6 r (.lst (V.str k :: (lwsV l ws).take i ++ [x]))) q = some (.lst (ws.map V.str)) ∧ (upd H6 r (.lst (V.str k :: (lwsV l ws).take i ++ [x]))) r = some (.lst (V.str k :: (lwsV l ws).take (i + 1))) ∧ ∀ j s t, j < i + 1 → l[j]? = some s → ws[j]? = some t → s.num = true ∨ t ≠ "") := by
        intro H6 s6 hok x hx
        refine ⟨s6 _ _ (sq _ _ r5), ?_, ⟨_, _, rfl⟩, same_upd (s5.trans (sq.trans s6)) hr0, ?_, ?_, fun j s' t' hj e1 e2 => ?_⟩
        · rw [List.length_cons, List.length_take]; exact small' (by omega)
        · rw [upd_ne nqr]; exact s6 _ _ (sq _ _ q5)
        · rw [upd_same, List.take_add_one, h3, hx]; rfl
        · by_cases e : j < i
          · exact hw j s' t' e e1 e2
          · have : j = i := by omega
            subst this
            rw [h1] at e1
            rw [h2] at e2
            injection e1 with e1
            injection e2 with e2
            rw [← e1, ← e2]
            exact hok
      refine ⟨t, _, rfl, SqT.of upd_same, rfl, _, _, rfl, _, _, rfl, rfl, ?_⟩
      refine ⟨_, rfl, _, _, rfl, rfl, _, rfl, ?_⟩
      rw [das_in]
      have r6 := sq _ _ r5
      have s6' := s5.trans sq
      refine ite2 (fun c1 => ?_) (fun c1 => ?_)
      · exact ⟨_, rfl, .inl ⟨rfl, _, SqL.of r6⟩, _, rfl, _, rfl, hzl, hza, fun H6 s6 => ⟨r, _, _, rfl, rfl, fin H6 s6 (.inl c1) _ (by unfold lwV; rw [if_pos c1])⟩⟩
      · have c1' : (l[i]).num = false := Bool.eq_false_iff.mpr c1
        have lst2 : ∀ (hnc : ¬ ((l[i]) = .c ∧ (ws[i]'(by omega)) = "-")), ¬ (ws[i]'(by omega)) = "" → V.str (ws[i]'(by omega)) = lwV l[i] (ws[i]'(by omega)) := fun hnc _ => by
          unfold lwV
          rw [if_neg c1, if_neg hnc]
        refine ⟨_, rfl, rfl, _, rfl, ?_⟩
        rw [code_c]
        refine ite2 (fun c2 => ?_) (fun c2 => ?_)
        · have hc : l[i] = Srt.c := of_decide_eq_true c2
          refine ⟨_, rfl, rfl, _, rfl, ?_⟩
          refine ite2 (fun c3 => ?_) (fun c3 => ?_)
          · have e3 : (ws[i]'(by omega)) = "-" := by
              have := of_decide_eq_true c3
              injection this
            exact ⟨_, rfl, .inl ⟨rfl, _, SqL.of r6⟩, r, _, _, rfl, rfl, fin _ (Same.refl _) (.inr (by rw [e3]; decide +kernel)) _ (by unfold lwV; rw [if_neg c1, if_pos ⟨hc, e3⟩])⟩
          · have e3 : ¬ (ws[i]'(by omega)) = "-" := fun e => c3 (by rw [e]; rfl)
            refine ⟨_, rfl, rfl, _, rfl, ?_⟩
            refine ite2 (fun c4 => ?_) (fun c4 => ?_)
            · have e4 : (ws[i]'(by omega)) = "" := by
                have := of_decide_eq_true c4
                injection this
              exact k0 (row_empty hf h1 (by rw [h2, e4]) c1') _ s6'
            · have e4 : ¬ (ws[i]'(by omega)) = "" := fun e => c4 (by rw [e]; rfl)
              exact ⟨_, rfl, .inl ⟨rfl, _, SqL.of r6⟩, _, rfl, r, _, _, rfl, rfl, fin _ (Same.refl _) (.inr e4) _ (lst2 (fun h => e3 h.2) e4)⟩
        · have hc : ¬ l[i] = Srt.c := fun e => c2 (decide_eq_true e)
          refine iteF ?_
          refine ⟨_, rfl, rfl, _, rfl, ?_⟩
          refine ite2 (fun c4 => ?_) (fun c4 => ?_)
          · have e4 : (ws[i]'(by omega)) = "" := by
              have := of_decide_eq_true c4
              injection this
            exact k0 (row_empty hf h1 (by rw [h2, e4]) c1') _ s6'
          · have e4 : ¬ (ws[i]'(by omega)) = "" := fun e => c4 (by rw [e]; rfl)
            exact ⟨_, rfl, .inl ⟨rfl, _, SqL.of r6⟩, _, rfl, r, _, _, rfl, rfl, fin _ (Same.refl _) (.inr e4) _ (lst2 (fun h => hc h.1) e4)⟩
    · rintro σ H5 ⟨⟨u, v, rfl⟩, s5, q5, r5, hw⟩
      rw [List.take_of_length_le (by rw [lws_len hl]; exact Nat.le_refl _)] at r5
      have ro := row_law hf hl (fun i s t e1 e2 => hw i s t (List.getElem?_eq_some_iff.mp e1).1 e1 e2)
      rw [ro] at k0 k1
      have R := lws_row hf hl hws
      refine ⟨_, rfl, r, _, rfl, .inl ⟨SqL.of r5, fun a ha => ?_⟩⟩
      have s6 : Same H5 (upd H5 a (.tup (V.str k :: lwsV l ws))) := same_new ha _
      refine ⟨a, k, lwsV l ws, rfl, SqT.of upd_same, R, fun H7 s7 => ⟨_, rfl, ?_⟩⟩
      cases hwm : wmR k (lwsV l ws) with
      | false =>
        rw [hwm, if_neg Bool.false_ne_true] at k0
        exact iteT (k0 rfl _ (s5.trans (s6.trans s7)))
      | true =>
        rw [hwm, if_pos rfl] at k1
        refine iteF ?_
        refine ⟨_, rfl, r, _, rfl, .inl ⟨SqL.of (s7 _ _ (s6 _ _ r5)), fun b hb => ?_⟩⟩
        exact k1 _ _ rfl b _ ((s5.trans (s6.trans s7)).trans (same_new hb _)) upd_same
end
end M

set_option pp.maxSteps 700
namespace M
open PySem L2

theorem jl_append (a b : List Str) : jl (a ++ b) = jl a + jl b := by
  unfold jl
  rw [List.map_append, List.sum_append]
theorem jl_drop (ws : List Str) (n : Nat) : jl (ws.drop n) ≤ jl ws := by
  have := jl_append (ws.take n) (ws.drop n)
  rw [List.take_append_drop] at this
  omega
theorem jl_take (ws : List Str) (n : Nat) : jl (ws.take n) ≤ jl ws := by
  have := jl_append (ws.take n) (ws.drop n)
  rw [List.take_append_drop] at this
  omega
theorem jl_cut (ws : List Str) (lo hi : Option Int) : jl (cutG ws lo hi) ≤ jl ws := by
  unfold cutG
  exact Nat.le_trans (jl_take _ _) (jl_drop _ _)
theorem cutV_map (ws : List Str) (lo hi : Option Int) : cutV (ws.map V.str) lo hi = (cutG ws lo hi).map V.str := by
  show cutG (ws.map V.str) lo hi = _
  unfold cutG
  rw [List.length_map, List.map_take, List.map_drop]
theorem join_fitJ {ts : List Str} (h : jl ts ≤ 2000) : JoinOk blank ts = true := by
  have e : blank.length = 1 := by decide +kernel
  have fo : ∀ (us : List Str) (n : Nat), us.foldl (fun a p => a + p.length + blank.length) n = n + jl us := by
    intro us
    induction us with
    | nil => intro n; rfl
    | cons u r ih =>
      intro n
      rw [List.foldl_cons, ih, e]
      unfold jl
      rw [List.map_cons, List.sum_cons]
      omega
  unfold JoinOk
  rw [List.foldl_toArray']
  · have := fo ts 0
    unfold Builtin.Str.tooLong
    have := small (n := 2500) (by omega)
    simp; omega
  · rfl
theorem join_lenJ (ts : List Str) : (Txt.join blank ts).length ≤ jl ts := by
  have e : Txt.join blank ts = Str.join blank ts := StrLaws.glued_eq_join _ _
  rw [e, blank_c]
  cases ts with
  | nil => exact Nat.zero_le _
  | cons x r =>
    have := join_jl (c := 32) (ws := x :: r) (List.cons_ne_nil _ _)
    omega
theorem join_asc {ts : List Str} (h : ∀ t ∈ ts, Asc t) : Asc (Txt.join blank ts) := by
  have e : Txt.join blank ts = Str.join blank ts := StrLaws.glued_eq_join _ _
  rw [e, blank_c]
  intro c hc
  rcases mem_join hc with rfl | ⟨t, ht, hx⟩
  · decide
  · exact h t ht c hx
theorem asc_cut {z : Str} (h : Asc z) (lo hi : Option Int) : Asc (mkS (cutG z.cps.toList lo hi)) := fun c hc => h c (cutG_mem hc)
theorem len_cut (z : Str) (lo hi : Option Int) : (mkS (cutG z.cps.toList lo hi)).length ≤ z.length := by
  rw [mkS_len, len_l]
  exact cutG_length _ _ _
theorem asc_app {x y : Str} (h1 : Asc x) (h2 : Asc y) : Asc (x ++ y) := fun c hc => by
  simp only [Str.cps_append, Array.toList_append] at hc
  rcases List.mem_append.mp hc with h | h
  · exact h1 c h
  · exact h2 c h
theorem asc_small {z : Str} (h : z.cps.toList.all (fun c => decide (c < 128)) = true) : Asc z := fun c hc => of_decide_eq_true (List.all_eq_true.mp h c hc)
section
variable {P : Program} {w : World} {K : PySem.W.Frag} {mg : Str → Option Value} {base : Heap} {f : Addr} {fd : FuncData}

def spSign : Sp := fun vs H Q _ => ∃ n : Int, vs = [.int n] ∧ ∀ y : Str, y.length = 1 → Asc y → Q (.str y) H
theorem scSign : FnScope ["_law_code", "_law_some"] ["_law_code"] (defScope sSign) := ⟨rfl, rfl, rfl, by decide +kernel, rfl, by decide +kernel, by decide +kernel⟩
def some46 : Str := " -0123456789abcdefghijklmnopqrstuvwxyzAZ/.,~\n"
theorem ok_sign (F : Fun K "_law_sign_of" "_law_sign_of" sSign f fd) (ml : mg "len" = none) : FnOk P w K mg base CX0 1 f fd ["_law_code"] spSign := by
  refine F.ok scSign (fun vs H Q E h => ?_) (fun cdv A outer s H vs Q E hr h => ?_)
  · obtain ⟨z, rfl, _⟩ := h
    rfl
  obtain ⟨n, rfl, k⟩ := h
  refine ⟨_, pss_cons (ps_set (i := 1) scSign.nd rfl (Or.inl rfl) pe_str)
    (pss_one (ps_ret (pe_ix ix_str (pv 1) (pe_op op_mod (pv 0) (pe_callB call_len_str rfl ml PySem.boot_len (pa_cons (pv 1) pa_nil))) (fun _ _ => rfl)))), ?_⟩
  have hl : some46.length = some46.cps.toList.length := len_l _
  have h0 : 0 < some46.cps.toList.length := by decide +kernel
  have hs : some46.length ≤ sizeLine := by decide +kernel
  have q0 := Int.emod_nonneg n (show ((some46.length : Nat) : Int) ≠ 0 by omega)
  have q1 := Int.emod_lt_of_pos n (show (0 : Int) < ((some46.length : Nat) : Int) by omega)
  obtain ⟨j, hj⟩ : ∃ j : Nat, n % ((some46.length : Nat) : Int) = (j : Int) := ⟨(n % ((some46.length : Nat) : Int)).toNat, by omega⟩
  have hjl : j < some46.cps.toList.length := by omega
  refine ⟨_, rfl, _, rfl, _, rfl, some46, rfl, hs, _, _, rfl, rfl, (by show (0 : Int) < ((some46.length : Nat) : Int); omega), some46, _, some46.cps.toList[j], rfl, rfl, hs, ?_, ?_⟩
  · rw [hj]; exact atI_nat (List.getElem?_eq_getElem hjl)
  · refine k _ rfl fun c hc => ?_
    have : c = some46.cps.toList[j] := by simpa using hc
    rw [this]
    exact asc_small (z := some46) (by decide +kernel) _ (List.getElem_mem hjl)
end
end M

namespace L2
open PySem PySem.Spec PyProof.Rows PySem.W

def DK (h h' : Heap) : Prop := ∀ b o, h.get? b = some o → ∃ o', h'.get? b = some o' ∧ o'.dict = o.dict
theorem DK.rfl' {h : Heap} : DK h h := fun _ o e => ⟨o, e, rfl⟩
theorem DK.trans {h h1 h2 : Heap} (x : DK h h1) (y : DK h1 h2) : DK h h2 := fun b o e => by
  obtain ⟨o1, e1, d1⟩ := x b o e
  obtain ⟨o2, e2, d2⟩ := y b o1 e1
  exact ⟨o2, e2, d2.trans d1⟩
def KpD {α : Type} (t : Sem α) : Prop := ∀ (M : Model) (Γ : PySem.Ctx) (Q : α → Pos → Shared → Prop) (E : Value → Pos → Shared → Prop) (p : Pos) (s : Shared), Sem.wp M Γ t Q E p s → Sem.wp M Γ t (fun a p' s' => Q a p' s' ∧ DK s.heap s'.heap) (fun e p' s' => E e p' s' ∧ DK s.heap s'.heap) p s
theorem KpD.any {α : Type} {t : Sem α} (k : KpD t) {M : Model} {A : Around} {Q : α → Shared → Prop} {E : Value → Shared → Prop} {s : Shared} (h : wpAny M A t Q E s) : wpAny M A t (fun a s' => Q a s' ∧ DK s.heap s'.heap) (fun e s' => E e s' ∧ DK s.heap s'.heap) s :=
  fun Γ p hΓ => k M Γ _ _ p s (h Γ p hΓ)
theorem kp_pure {α : Type} {a : α} : KpD (pure a : Sem α) := fun _ _ _ _ _ _ h => ⟨h, DK.rfl'⟩
theorem kp_uns {α : Type} {w : String} : KpD (unsupported w : Sem α) := fun _ _ _ _ _ _ h => h.elim
theorem kp_bind {α β : Type} {m : Sem α} {f : α → Sem β} (hm : KpD m) (hf : ∀ a, KpD (f a)) : KpD (m >>= f) := fun M Γ Q E p s h => by
  rw [Sem.wp_bind'] at h ⊢
  refine Sem.wp_mono M Γ m (fun a p' s' q => ?_) (fun _ _ _ q => q) p s (hm M Γ _ _ p s h)
  refine Sem.wp_mono M Γ (f a) (fun b p2 s2 z => ⟨z.1, q.2.trans z.2⟩) (fun e p2 s2 z => ⟨z.1, q.2.trans z.2⟩) p' s' (hf a M Γ _ _ p' s' q.1)
theorem kp_ite {α : Type} {c : Prop} [Decidable c] {a b : Sem α} (ha : KpD a) (hb : KpD b) : KpD (if c then a else b) := by split <;> assumption
theorem kp_field {v : Value} {i : Nat} : KpD (field v i) := fun M Γ Q E p s h => by
  rw [wp_field_iff] at h ⊢
  obtain ⟨a, o, vs, x, e, ho, hd, hx, q⟩ := h
  exact ⟨a, o, vs, x, e, ho, hd, hx, q, DK.rfl'⟩
theorem dk_upd {h : Heap} {a : Addr} {o : Obj} {f : Obj → Obj} (ho : h.get? a = some o) (hf : (f o).isFreed = false) (hd : (f o).dict = o.dict) : DK h (h.update a f) := fun b u e => by
  by_cases q : b = a
  · subst q
    rw [ho] at e; cases e
    exact ⟨_, Heap.get?_update_self f ho hf, hd⟩
  · exact ⟨u, (Heap.get?_update_other h f (Ne.symm q)).trans e, rfl⟩
theorem dk_push {h : Heap} {o : Obj} : DK h (h.push o) := fun b u e => ⟨u, Heap.get?_push_of_some _ e, rfl⟩
theorem kp_setField {v : Value} {i : Nat} {x : Value} : KpD (setField v i x) := fun M Γ Q E p s h => by
  rw [wp_setField_iff] at h ⊢
  obtain ⟨a, o, vs, e, ho, hd, hx, q⟩ := h
  exact ⟨a, o, vs, e, ho, hd, hx, q, dk_upd ho (Obj.isFreed_of_fields (Obj.data_mapFields hd _)) (by obtain ⟨c, d, dt, sl⟩ := o; cases dt <;> rfl)⟩
theorem kp_stack : KpD stack := fun M Γ Q E p s h => ⟨h, DK.rfl'⟩
theorem kp_load {a : Addr} : KpD (load a) := fun M Γ Q E p s h => by
  obtain ⟨o, ho, q⟩ := h
  exact ⟨o, ho, q, DK.rfl'⟩
theorem kp_updS {a : Addr} {g : Obj → Array (Option Value)} : KpD (update a fun o => { o with slots := g o }) := fun M Γ Q E p s h => by
  obtain ⟨ho, q⟩ := h
  obtain ⟨o, ho'⟩ := Option.isSome_iff_exists.mp ho
  refine ⟨ho, q, dk_upd ho' ?_ rfl⟩
  have z := (Heap.get?_some_iff.mp ho').2
  obtain ⟨oc, od, odt, osl⟩ := o
  cases odt <;> first | rfl | exact z
theorem kp_ready : ∀ l : List Env, KpD (readyFrames l)
  | [] => kp_pure
  | env :: outer => by
    unfold readyFrames
    cases hf : env.frame with
    | none => exact kp_uns
    | some f =>
      refine kp_bind kp_load fun o => kp_ite kp_pure ?_
      refine kp_bind ?_ fun im => kp_bind ?_ fun bk => kp_bind kp_updS fun _ => kp_ready outer
      · unfold behindIsImport
        exact kp_ite kp_pure (kp_ite kp_pure (kp_bind kp_field fun _ => kp_pure))
      · unfold keptBack
        cases outer with
        | nil =>
          refine kp_ite kp_pure ?_
          unfold underTheClaimsCaller
          exact kp_bind (kp_bind kp_stack fun _ => kp_pure) fun _ => kp_pure
        | cons c r => exact kp_pure
theorem kp_frameOf {env : Env} : KpD (PySem.frameOf env) := by
  unfold PySem.frameOf frameEnvs
  refine kp_bind (kp_bind kp_stack fun _ => kp_pure) fun l => ?_
  refine kp_bind ?_ fun o => ?_
  · generalize List.dropWhile _ l = m
    unfold frameObject
    cases m with
    | nil => exact kp_pure
    | cons e r => exact kp_bind (kp_ready _) fun _ => kp_pure
  · cases o with
    | none => exact kp_uns
    | some f => exact kp_pure
theorem kp_place {f : Addr} {b : Bool} : KpD (entryPlaceOf f b) := by
  unfold entryPlaceOf
  refine kp_bind kp_stack fun l => ?_
  split <;> exact kp_pure
theorem kp_alloc {o : Obj} : KpD (alloc o) := fun M Γ Q E p s h => ⟨h, dk_push⟩
theorem kp_newF {ty : String} {vs : List Value} : KpD (newFields ty vs) := by
  unfold newFields newObj newObjAsIs
  dsimp only
  exact kp_ite (kp_bind kp_uns fun _ => kp_bind kp_alloc fun _ => kp_pure) (kp_bind kp_alloc fun _ => kp_pure)
theorem kp_flight {e : Value} {f : Option Addr} : KpD (setFlight e f) := by
  unfold setFlight
  exact kp_bind kp_field fun tb => kp_ite kp_setField kp_pure
theorem kp_note {e : Value} {env : Env} : KpD (noteFrame e env) := by
  unfold noteFrame
  cases hf : env.frame with
  | none => exact kp_uns
  | some f =>
    refine kp_bind kp_field fun hd => ?_
    have tail : KpD (do setField e 1 (← EntryCells.newEntry hd (← PySem.frameOf env) .none (rawInt f) .none (← entryPlaceOf f (hd != .none)))) :=
      kp_bind kp_frameOf fun a => kp_bind kp_place fun pl => kp_bind kp_newF fun b => kp_setField
    refine kp_ite ?_ tail
    exact kp_bind kp_field fun x => kp_ite kp_pure (kp_bind kp_setField fun _ => tail)
theorem kp_leaving {e : Value} {env : Env} : KpD (leaving env e) := by
  unfold leaving
  exact kp_bind kp_note fun _ => kp_flight
end L2

namespace L2
open PySem PySem.Spec PyProof.Rows PySem.W Builtin.ObjectAttr

def excI (K : Frag) (C : Addr) : Bool := match K.lookup C with
  | some ⟨.type "type", _, .cls z, sl⟩ => (match z.mro, sl.toList with
    | .ref Y :: bm, [_, _, _, _, some (.builtin n), _] => Y == C && n == "ValueError.__new__" && !z.hasDel && z.hasDict && tailIn K vErr bm
    | _, _ => false)
  | _ => false
theorem objI {K : Frag} {h : Heap} {C : Addr} (X : K.In h) (q : excI K C = true) :
    ∃ bm N nm q bs sn sub ab col dd k0 k1 k2 k3 k5, h.get? C = some (excClassObj nm q C N bs bm true sn sub ab col dd k0 k1 k2 k3 k5 "ValueError.__new__") ∧ OwnTail h vErr bm := by
  unfold excI at q
  split at q
  · rename_i dd z sl ho
    split at q
    · rename_i Y bm k0 k1 k2 k3 n k5 hm hs
      simp only [Bool.and_eq_true, beq_iff_eq, Bool.not_eq_true'] at q
      obtain ⟨⟨⟨⟨rfl, rfl⟩, e1⟩, e2⟩, ht⟩ := q
      obtain ⟨nm, bs, mro, ns, qn, hd, sn, sub, ab, col, del⟩ := z
      dsimp only at hm e1 e2
      subst hm e1 e2
      obtain ⟨l⟩ := sl
      dsimp only at hs
      subst hs
      exact ⟨bm, ns, nm, qn, bs, sn, sub, ab, col, dd, k0, k1, k2, k3, k5, X _ _ ho, tail_of_in X ht⟩
    · cases q
  · cases q
def rawE (C t : Addr) (dx : Option Addr) : Obj := { cls := .ref C, dict := dx, data := .fields #[.ref t, .none, .none, .none, .bool false, .none] }
section
variable {prog : Program} {w : World} {A : Around} {E : Value → Shared → Prop} {K : Frag} {C f : Addr} {rest : List Value}
theorem tcallI {h : Heap} {g : Array GenState} {d : Drawn} {t : Nat} {os : OsState} {Q : Fin → Shared → Prop} (X : K.In h) (hI : excI K C = true) (hi : findIn K (.ref C) "__init__" = some (some (.ref f))) (hf : typeIn K (.ref f) = some (.type "function")) (hl : rest.length ≤ sizeLine)
    (hq : ∀ h' e, Heap.MadeExcOf h h' e (.ref C) rest → wpAny (model prog w) A (call (.ref f) (.ref e :: rest)) (fun r s' => r = .none ∧ Q (.done (.ret (.ref e))) s') E ⟨h', g, d, t, os⟩) :
    wpAny (model prog w) A (Builtin.«type.__call__» ⟨.ref C :: rest, []⟩) Q E ⟨h, g, d, t, os⟩ := by
  obtain ⟨bm, N, nm, q, bs, sn, sub, ab, col, dd, k0, k1, k2, k3, k5, hC, T⟩ := objI X hI
  have FV := PySem.F.excBase_ValueError
  repeat (first | with_reducible refine wpAny_loadPart_at hC ?_ | with_reducible refine wpAny_madeBy_exc hC ?_ | wp_step)
  refine codeAny_call_builtin_code (Code.quiet_builtin _ FV.quiet) (wpAny_check_new_subT FV T hC ?_)
  refine codeAny_exc_new_subT FV T hC ?_ hl
  show wpAny _ _ _ _ _ _
  have kp : ∀ b o, h.get? b = some o → ((h.push { cls := .type "tuple", data := .seq rest.toArray }).push (rawE C h.objs.size none)).get? b = some o := fun b o z => Heap.get?_push_of_some _ (Heap.get?_push_of_some _ z)
  have hC2 := kp _ _ hC
  have X2 := X.keeps kp
  have hE : ((h.push { cls := .type "tuple", data := .seq rest.toArray }).push (rawE C h.objs.size none)).get? (h.objs.size + 1) = some (rawE C h.objs.size none) := by unfold rawE; heap_get
  have hself : (Value.ref C :: bm).contains (.ref C) = true := by simp
  unfold isInstance
  unfold rawE at hC2 hE X2
  repeat (first | with_reducible refine wpAny_loadPart_at hE ?_ | (with_reducible refine wpAny_isSubtype_exc hC2 ?_; rw [hself]) | wp_step)
  show wpAny _ _ (typeLookup (.ref C) _) _ _ _
  refine (looks_findIn X2 hi).at ?_
  refine wpAny_holding (wpAny_bind ?_)
  refine (bind_fn X2 _ hf).at ?_
  refine wpAny_bind (wpAny_mono (hq _ (h.objs.size + 1) ⟨kp, Heap.get?_none_of_le (Nat.le_succ _), h.objs.size, hE, Heap.get?_none_of_le (Nat.le_refl _), ?_⟩) (fun r s' hr => ?_) fun _ _ x => x)
  · exact Heap.get?_push_of_some _ (Heap.get?_push_at rfl rfl)
  · obtain ⟨rfl, z⟩ := hr
    wp_walk
    exact z
theorem callI {s : Shared} {Q : Value → Shared → Prop} (X : K.In s.heap) (hI : excI K C = true) (hi : findIn K (.ref C) "__init__" = some (some (.ref f))) (hf : typeIn K (.ref f) = some (.type "function")) (hl : rest.length ≤ sizeLine)
    (hq : ∀ h' e, Heap.MadeExcOf s.heap h' e (.ref C) rest → wpAny (model prog w) (A.under (.builtin "type.__call__" ⟨.ref C :: rest, []⟩)) (call (.ref f) (.ref e :: rest)) (fun r s' => r = .none ∧ Q (.ref e) s') E { s with heap := h' }) :
    wpAny (model prog w) A (call (.ref C) rest) Q E s := by
  obtain ⟨h, g, d, t, os⟩ := s
  obtain ⟨bm, N, nm, q, bs, sn, sub, ab, col, dd, k0, k1, k2, k3, k5, hC, T⟩ := objI X hI
  have f1 := tc_lookup
  have f2 := tc_bind (.ref C)
  have hT : (⟨h, g, d, t, os⟩ : Shared).TypeIs (.ref C) "type" := ⟨_, hC, rfl⟩
  refine wpAny_call (codeAny_of_tree ?_)
  show wpAny _ _ (callAny (.ref C) _) _ _ _
  repeat (any_goals (first | assumption | with_reducible refine wpAny_loadPart_at hC ?_ | wp_step))
  refine ⟨rfl, ?_⟩
  refine codeAny_call_builtin_at (Code.quiet_builtin _ (by decide +kernel)) entry_typeCall (wpAny_check_type_call_sub hC (tcallI X hI hi hf hl fun h' e hm => ?_))
  exact hq h' e hm

theorem initI {s : Shared} {x t0 : Addr} {dx : Option Addr} {Q : Value → Shared → Prop} (X : K.In s.heap) (hI : excI K C = true) (hx : s.heap.get? x = some (rawE C t0 dx)) (hl : rest.length ≤ sizeLine)
    (hq : ∀ h' t, (∀ b o, b ≠ x → s.heap.get? b = some o → h'.get? b = some o) → h'.get? x = some (rawE C t dx) → Q .none { s with heap := h' }) :
    wpAny (model prog w) A (call (.builtin "ValueError.__init__") (.ref x :: rest)) Q E s := by
  obtain ⟨h, g, d, tk, os⟩ := s
  obtain ⟨bm, N, nm, q, bs, sn, sub, ab, col, dd, k0, k1, k2, k3, k5, hC, T⟩ := objI X hI
  have FV := PySem.F.excBase_ValueError
  unfold rawE at hx
  refine wpAny_call (codeAny_call_builtin FV.init.plain FV.initEntry (wpAny_check_init_subT FV T hC hx rfl ?_))
  wp_walk
  refine hq _ (h.objs.size) (fun b o hb z => ?_) ?_
  · rw [Heap.get?_update_other _ _ (Ne.symm hb)]
    exact Heap.get?_push_of_some _ z
  · rw [Heap.get?_update_self _ (Heap.get?_push_of_some _ hx) rfl]
    rfl
end
end L2

namespace L2
open PySem PySem.Spec PyProof.Rows PySem.W Builtin.ObjectAttr PySem.Builtin.Getset_descriptor
theorem refT {h : Heap} {bm : List Value} {self : Value} (T : OwnTail h vErr bm) : refuseLoop self "__setattr__" bm = pure () := by
  induction T with
  | base => exact PySem.F.store_ValueError.passes self
  | own _ _ _ _ ih => rw [refuseLoop_ref]; exact ih
section
variable {prog : Program} {w : World} {A : Around} {E : Value → Shared → Prop} {K : Frag} {C x t0 : Addr} {s : Shared} {name : Str} {v : Value}
theorem storeI {Q : Unit → Shared → Prop} (X : K.In s.heap) (hI : excI K C = true) (hb : mroIn K C (.type "object") = some true) (hs : findIn K (.ref C) "__setattr__" = some (some (.builtin "object.__setattr__"))) (hn : findIn K (.ref C) name = some none)
    (hx : s.heap.get? x = some (rawE C t0 none))
    (hq : ∀ h' tk d, (∀ b o, b ≠ x → s.heap.get? b = some o → h'.get? b = some o) → s.heap.objs.size ≤ d → h'.get? x = some (rawE C t0 (some d)) → h'.Ns1 d (fun y => if y = name then some v else none) → Q () { s with heap := h', toks := tk }) :
    wpAny (model prog w) A (setAttr (.ref x) name v) Q E s := by
  have I : InstAt s.heap x (rawE C t0 none) C none := ⟨hx, rfl, rfl, trivial⟩
  have SF := PySem.F.store_ValueError
  refine set_plain X I hs ?_
  obtain ⟨h, g, dr, tk, os⟩ := s
  dsimp only at X I hx hq
  have sub : Looks (model prog w) h (isInstance (.ref x) (.type "object")) true := I.type.andThen (looks_mroIn X hb)
  obtain ⟨bm, N, nm, q, bs, sn, sub', ab, col, dd, k0, k1, k2, k3, k5, hC, T⟩ := objI X hI
  refine codeAny_call_builtin SF.slot.plain SF.entry (@check_slot (model prog w) _ _ ⟨h, g, dr, tk + 1, os⟩ "object.__setattr__" "object" "__setattr__" (.ref x) [.str name tk, v] [] _ SF.kind SF.split sub (SF.args (.ref x) (.str name tk) v) ?_)
  rw [osa_eq, refuse_eq]
  refine wpAny_bind (wpAny_bind (I.type.at (wpAny_bind (wpAny_mroOf_exc hC ?_))))
  rw [refuseLoop_ref, refT T]
  refine wpAny_pure (wpAny_bind (I.type.at (wpAny_bind ((looks_findIn X hn).at (wpAny_bind ?_)))))
  refine wpAny_pure ?_
  show wpAny _ _ (storeInOwnDict _ _ _ _ _ _) _ _ _
  unfold storeInOwnDict
  refine wpAny_bind (wpAny_pure ?_)
  have hx1 : (h.push { cls := .type "dict", data := .dict #[] }).get? x = some (rawE C t0 none) := Heap.get?_push_of_some _ hx
  have hxs : x ≠ h.objs.size := Nat.ne_of_lt (Heap.lt_size hx)
  refine wpAny_bind (wpAny_bind (wpAny_loadPart hx (wpAny_bind ((show Looks (model prog w) h (classData C) _ from (Looks.ld hC).andThen .now).at ?_))))
  refine wpAny_bind (wpAny_alloc' (wpAny_bind (wpAny_update' hx1 (wpAny_pure ?_))))
  let h2 := (h.push { cls := .type "dict", data := .dict #[] }).update x fun o => { cls := o.cls, dict := some h.objs.size, data := o.data, slots := o.slots }
  have hg2 : h2.get? h.objs.size = some { cls := .type "dict", data := .dict #[] } := (Heap.get?_update_ne _ _ _ _ hxs.symm).trans (Heap.get?_push_at rfl rfl)
  have hx2 : h2.get? x = some (rawE C t0 (some h.objs.size)) := Heap.get?_update_self _ hx1 rfl
  have hn2 : h2.Ns h.objs.size (fun _ => none) := ⟨_, #[], _, hg2, rfl, fun e he => absurd he (by simp), fun _ => rfl⟩
  show wpAny _ _ (storeInDict h.objs.size (.str name tk) name v) _ _ _
  unfold storeInDict newKeyGuard
  refine wpAny_bind (wpAny_pure (wpAny_bind (wpAny_nsSet1 (Heap.Ns1.of_empty hn2) fun h3 hn3 hs3 => ?_)))
  obtain ⟨oD, esD, epD, hoD, hdD, hcD⟩ := hn3.count (Within.cons name v Within.nil)
  refine wpAny_bind (wpAny_lookBehind hoD (by rw [hdD]; exact pastItsLine_dict (Nat.le_trans hcD (by rw [List.length_cons, List.length_nil, sizeLine_eq]; omega))) ?_)
  refine wpAny_pure ?_
  refine hq h3 _ h.objs.size (fun b o hbx hb => ?_) (Nat.le_refl _) ((hs3.2 x hxs).trans hx2) hn3
  exact (hs3.2 b (Nat.ne_of_lt (Heap.lt_size hb))).trans ((Heap.get?_update_ne _ _ _ _ hbx).trans (Heap.get?_push_of_some _ hb))

theorem getI {ox od : Obj} {expr : Bool} {Q : Value → Shared → Prop} (XC' : XC K C) (X : K.In s.heap) (I : InstAt s.heap x ox C (some od)) (hd : hasDictIn K C = true) (hn : findIn K (.ref C) name = some none) (hl : lookIn name od = some (some v)) (hv : handedIn v = true)
    (h : Q v { s with toks := s.toks + 1 }) : wpAny (model prog w) A (getAttr (.ref x) name expr) Q E s := by
  have O : OfC x C s.heap := ⟨ox, I.at_, I.cls⟩
  obtain ⟨hh, g, d, t, os⟩ := s
  have L0 := I.type (M := model prog w)
  have L1 := looks_findIn (M := model prog w) X XC'.ga
  have L2 := looks_findIn (M := model prog w) X XC'.gh
  have LF := looks_find (M := model prog w) X I (findObj_own hd hn rfl hl)
  have hon : onTheHeap (Value.ref C) = true := rfl
  have hne : (Value.builtin "BaseException.__getattribute__" == Value.builtin "object.__getattribute__") = false := by decide +kernel
  unfold getAttr getAttrBy
  refine wpAny_bind (wpAny_mkText (wpAny_holding (wpAny_bind (L0.at (wpAny_bind (L1.at ?_))))))
  show wpAny _ _ (getAttrByItsOwn _ _ _ _ _ _) _ _ _
  unfold getAttrByItsOwn hookBefore
  rw [if_pos hon]
  refine wpAny_bind (L2.at (wpAny_bind (wpAny_attempt (wpAny_holding ?_))))
  unfold callGetattribute
  rw [show (expr && onTheHeap (Value.builtin "BaseException.__getattribute__")) = false from Bool.and_false _, if_neg (by decide)]
  unfold boundAndCalled
  have f3 := PySem.F.excAttr_ValueError.ga.bind (.ref x)
  rw [f3]
  refine wpAny_bind (wpAny_pure (wpAny_call (codeAny_call_builtin PySem.F.excAttr_ValueError.ga.plain F.entry_bexc_ga (exc_check (s := ⟨hh, g, d, t + 1, os⟩) XC' X O ?_))))
  unfold Builtin.«object.__getattribute__»
  refine wpAny_bind (wpAny_pure (wpAny_bind (wpAny_pure (wpAny_bind (L0.at (wpAny_bind (LF.at ?_)))))))
  refine wpAny_pure ?_
  refine handed_on hv ?_
  exact h
end
end L2

namespace L2
open PySem PySem.Spec PyProof.Rows PySem.W

structure XI (K : Frag) (C : Addr) (nm : Str) : Prop where
  xc : XC K C
  ei : excI K C = true
  sa : findIn K (.ref C) "__setattr__" = some (some (.builtin "object.__setattr__"))
  no : findIn K (.ref C) nm = some none
  hd : hasDictIn K C = true
structure BI (K : Frag) (L : Addr) : Prop where
  rd : readsIn K L (.type "type") = true
  fc : findCls K (.ref L) (.type "type") "__init__" = some (.val (.builtin "ValueError.__init__"))
  sp : specialIn K (.ref L) "__getattribute__" = some (some (.builtin "type.__getattribute__"))
def exN (C x : Addr) : HO := .ext fun h => ∃ t, h.get? x = some (rawE C t none)
def exM (C x d : Addr) : HO := .ext fun h => ∃ t, h.get? x = some (rawE C t (some d))
def exA (C x d : Addr) : HO := .ext fun h => ∃ o, h.get? x = some o ∧ o.cls = .ref C ∧ o.dict = some d ∧ notCls o = true
theorem okN {P : Program} {w : World} {H : Hp} {h : Heap} {C x t : Addr} (e : h.get? x = some (rawE C t none)) : ObjOk P w H h x (exN C x) := ⟨⟨t, e⟩, ⟨_, e⟩, fun g1 g2 ⟨t, z⟩ k => ⟨t, k _ z⟩⟩
theorem okM {P : Program} {w : World} {H : Hp} {h : Heap} {C x t d : Addr} (e : h.get? x = some (rawE C t (some d))) : ObjOk P w H h x (exM C x d) := ⟨⟨t, e⟩, ⟨_, e⟩, fun g1 g2 ⟨t, z⟩ k => ⟨t, k _ z⟩⟩
theorem upd_id {H : Hp} {x : Addr} {o : HO} (e : H x = some o) : upd H x o = H := by
  funext b
  unfold upd
  split
  · rename_i z; rw [z, e]
  · rfl
section
variable {X : Cx}

def tInit (K : Frag) (t : TA) : TE := fun σ H Q => t σ H fun vs H1 => ∃ x C r, vs = .ref x :: r ∧ r.length ≤ sizeLine ∧ H1 x = some (exN C x) ∧ excI K C = true ∧ Q .non H1
theorem pe_initX {L : Addr} {x : Str} {p pos apos : Pos} {e : Expr} {es : List Expr} {t : TA} {pl : Sem Bool} (B : BI X.K L) (hg : Gl X x) (hm : X.mg x = some (.ref L)) (ha : PA X (e :: es) t)
    (hdb : (x == ("__debug__" : Str)) = false := by decide) (hst : starEach (e :: es) X.env = (false, eval e X.env) :: starEach es X.env := by rfl) (hpl : (backTo pos (starEach es X.env)).any (·.1) = false := by rfl)
    (ht : eval (.Call (.Attribute (.Name x p) "__init__" apos) (e :: es) [] pos) X.env = (do
      let ov ← eval (.Name x p) X.env
      standAt apos.atName
      let (f, first) ← holding [ov] (getMethod ov "__init__" pl)
      callWith pos f first (backTo pos (starEach (e :: es) X.env)) (backToKw pos (keywordEach [] X.env))) := by rfl) :
    PE X (.Call (.Attribute (.Name x p) "__init__" apos) (e :: es) [] pos) (tInit X.K t) := by
  intro pins s σ H Q I h
  refine PySem.W.methodCall_KW (pl := pl) (ld_glob I hg hm ?_ hdb) ht
  refine method_cls I.kIn B.sp (cls_value I.kIn B.rd B.fc (by rfl) ?_)
  refine PyProof.Rows.callWith_builtin1 (thn (ha pos pins _ σ H _ (I.tok _) h) fun us s2 ⟨vs, H2, I2, r, x, C, rr, e1, l, hx, ei, q⟩ => ?_) hst hpl
  subst e1
  cases r with
  | cons r0 r1 =>
    cases r0
    obtain ⟨⟨t0, hx0⟩, _⟩ := (show ObjOk X.prog X.w H2 s2.heap x (exN C x) from I2.hok x _ hx)
    refine initI I2.kIn ei hx0 (by rw [← r1.length]; exact l) fun h' t k hx' => ?_
    have J := I2.write (x := x) (e := x) (o := exN C x) (h' := h') (t' := s2.toks) (by rw [hx]; exact True.intro) (.inl rfl) (fun b u n z => k b u n z) ⟨_, hx'⟩ (okN hx')
    rw [upd_id hx] at J
    exact ⟨.non, H2, J, rfl, q⟩

def sFldX (K : Frag) (ta tv : TE) (f : Str) : TS := fun D σ H => tv σ H fun y H1 => ta σ H1 fun x H2 => ∃ a C, x = .ref a ∧ H2 a = some (exN C a) ∧ XI K C f ∧ ∀ d, H2 d = none → D.nx σ (upd (upd H2 d (.xd [(f, y)])) a (exM C a d))
theorem ps_fldX {o value : Expr} {f : Str} {pos pos' : Pos} {ta tv : TE} (ha : PE X o ta) (hv : PE X value tv) (hs : swapsWith value (some (.Attribute o f pos')) pos.line X.env = pure false) : PS X (.Assign [.Attribute o f pos'] value pos) (sFldX X.K ta tv f) := by
  intro pins s σ H D I h
  refine plainObj_wpAny_Assign_Attribute (thn (hv pins s σ H _ I h) fun u s1 ⟨y, H1, I1, ry, q⟩ => thn (ha pins s1 σ H1 _ I1 q) fun ov s2 ⟨x, H2, I2, rx, a, C, ex, ea, xi, q2⟩ => ?_) hs
  subst ex
  obtain rfl : ov = Value.ref a := rx
  obtain ⟨⟨t0, hx0⟩, _⟩ := (show ObjOk X.prog X.w H2 s2.heap a (exN C a) from I2.hok a _ ea)
  refine storeI I2.kIn xi.ei xi.xc.ob xi.sa xi.no hx0 fun h' tk d k hd hx' hn => ?_
  have da : d ≠ a := fun z => absurd (Heap.lt_size hx0) (by rw [← z]; exact Nat.not_lt.mpr hd)
  have fresh := I2.hok.fresh hd
  have ax : ∀ b, b ≠ a → b ≠ d → (upd (upd H2 d (.xd [(f, y)])) a (exM C a d)) b = H2 b := fun b z1 z2 => by rw [upd_ne z1, upd_ne z2]
  have nd : ∀ b o, s2.heap.get? b = some o → b ≠ d := fun b o e z => absurd (Heap.lt_size e) (by rw [z]; exact Nat.not_lt.mpr hd)
  have na : ∀ b, H2 b = none → b ≠ a := fun b n z => by rw [z, ea] at n; cases n
  have nt : ∀ b o, H2 b = some o → o ≠ exN C a → b ≠ a ∧ b ≠ d := fun b o e n => ⟨fun z => by rw [z, ea] at e; exact n (Option.some.inj e).symm, fun z => by rw [z, fresh] at e; cases e⟩
  refine ⟨σ, _, I2.un (h' := h') (t' := tk) ⟨fun b o e n _ _ => k b o (na b n) e, fun b o e n _ _ => ⟨o.slots, k b o (na b n) e⟩, fun b o e n _ => by rw [ax b (na b n) (nd b o e)]; exact n, fun b o e _ => ?_,
    fun b xs e => ?_, fun b o u e => ?_, fun b ps e => ⟨#[], ?_⟩⟩ (fun b u e => ?_), q2 d fresh⟩
  · by_cases z : b = a
    · rw [z]; exact ⟨_, hx'⟩
    · exact ⟨o, k b o z e⟩
  · obtain ⟨z1, z2⟩ := nt b _ e (fun z => nomatch z)
    rw [ax b z1 z2]; exact e
  · obtain ⟨z1, z2⟩ := nt b _ e (fun z => nomatch z)
    rw [ax b z1 z2]; exact e
  · obtain ⟨z1, z2⟩ := nt b _ e (fun z => nomatch z)
    rw [ax b z1 z2, e]; simp
  · by_cases za : b = a
    · subst za
      rw [upd_same] at e; cases e
      exact okM hx'
    · rw [upd_ne za] at e
      by_cases zd : b = d
      · subst zd
        rw [upd_same] at e; cases e
        refine ⟨_, hn, fun g => ?_⟩
        by_cases q : g = f
        · subst q
          show RelO (List.lookup g [(g, y)]) (if g = g then some _ else none)
          rw [if_pos rfl]
          have hb : (g == g) = true := beq_iff_eq.mpr rfl
          simp only [List.lookup, hb]
          exact ry
        · show RelO (List.lookup g [(f, y)]) (if g = f then some _ else none)
          rw [if_neg q]
          have hb : (g == f) = false := beq_eq_false_iff_ne.mpr q
          simp only [List.lookup, hb]
          exact True.intro
      · rw [upd_ne zd] at e
        refine (I2.hok b u e).stay (fun c v hc z => k c v ?_ z) (fun c z => ?_) fun c xs z => ?_
        · rcases hc with rfl | hc
          · exact za
          · exact (nt c _ hc (fun z => nomatch z)).1
        · obtain ⟨z1, z2⟩ := nt c _ z (fun z => nomatch z)
          rw [ax c z1 z2]; exact z
        · obtain ⟨z1, z2⟩ := nt c _ z (fun z => nomatch z)
          rw [ax c z1 z2]; exact z
end
end L2

namespace L2
open PySem PySem.Spec PyProof.Rows PySem.W
section
variable {M : Model} {A : Around} {E : Value → Shared → Prop} {s : Shared} {base : Heap} {env : Env} {outer l : List Env} {L e : Addr} {cls a0 : Value} {Q : Unit → Shared → Prop}
theorem looksD (hfr : A.frames = some (env :: outer)) (hf : env.frame = some L) (hfl : Heap.FlyingW base (env :: outer) e cls a0 s.heap)
    (hQ : ∀ h', Heap.HeldW base (env :: outer) e cls a0 L h' → s.heap.UpToSlots h' → DK s.heap h' → Q () { s with heap := h' }) : wpAny M A (noteFrame (.ref e) env) Q E s :=
  wpAny_mono (kp_note.any (wpAny_looks_onW (E := E) (Q := fun _ s' => ∃ h', s' = { s with heap := h' } ∧ Heap.HeldW base (env :: outer) e cls a0 L h' ∧ s.heap.UpToSlots h') hfr hf hfl fun h' a b => ⟨h', rfl, a, b⟩))
    (fun _ s' ⟨⟨h', e, a, b⟩, dk⟩ => by subst e; exact hQ h' a b dk) fun _ _ x => x.1
theorem landsD (hh : Heap.HeldW base l e cls a0 L s.heap) (hQ : ∀ h', Heap.FlyingW base l e cls a0 h' → s.heap.UpToSlots h' → DK s.heap h' → Q () { s with heap := h' }) : wpAny M A (setFlight (.ref e) none) Q E s :=
  wpAny_mono (kp_flight.any (wpAny_landsW (E := E) (Q := fun _ s' => ∃ h', s' = { s with heap := h' } ∧ Heap.FlyingW base l e cls a0 h' ∧ s.heap.UpToSlots h') hh fun h' a b => ⟨h', rfl, a, b⟩))
    (fun _ s' ⟨⟨h', e, a, b⟩, dk⟩ => by subst e; exact hQ h' a b dk) fun _ _ x => x.1
theorem againD (hh : Heap.FlyingW base l e cls a0 s.heap) (hQ : ∀ h', Heap.FlyingW base l e cls a0 h' → s.heap.UpToSlots h' → DK s.heap h' → Q () { s with heap := h' }) : wpAny M A (setFlight (.ref e) none) Q E s :=
  wpAny_mono (kp_flight.any (lands_againW (E := E) (Q := fun _ s' => ∃ h', s' = { s with heap := h' } ∧ Heap.FlyingW base l e cls a0 h' ∧ s.heap.UpToSlots h') hh fun h' a b => ⟨h', rfl, a, b⟩))
    (fun _ s' ⟨⟨h', e, a, b⟩, dk⟩ => by subst e; exact hQ h' a b dk) fun _ _ x => x.1
theorem firstD {oe : Obj} {vs : Array Value} (hfr : A.frames = some (env :: outer)) (hl : s.heap.FunFrames base (env :: outer)) (hf : env.frame = some L) (he : s.heap.get? e = some oe) (hkb : base.StaysIn s.heap) (hen : base.get? e = none) (hd : oe.data = .fields vs) (h1 : vs[1]? = some .none) (h0 : vs[0]? = some a0)
    (hQ : ∀ h', Heap.FlyingW base outer e oe.cls a0 h' → s.heap.UpToSlots h' → DK s.heap h' → Q () { s with heap := h' }) : wpAny M A (leaving env (.ref e)) Q E s :=
  wpAny_mono (kp_leaving.any (wpAny_leaving_firstW (E := E) (Q := fun _ s' => ∃ h', s' = { s with heap := h' } ∧ Heap.LeftW base (env :: outer) e oe.cls a0 s.heap h') hfr hl hf he hkb hen hd h1 h0 fun h' a => ⟨h', rfl, a⟩))
    (fun _ s' ⟨⟨h', e, k1, k2, k3, k4⟩, dk⟩ => by subst e; exact hQ h' ⟨k1, hen, k2.2.2, k3⟩ k4 dk) fun _ _ x => x.1
end
def DictIs (h : Heap) (ea : Addr) (od : Option Addr) : Prop := ∀ d, od = some d → ∃ o, h.get? ea = some o ∧ o.dict = some d
theorem DictIs.go {h h' : Heap} {ea : Addr} {od : Option Addr} (x : DictIs h ea od) (k : DK h h') : DictIs h' ea od := fun d e => by
  obtain ⟨o, a, b⟩ := x d e
  obtain ⟨o', a', b'⟩ := k ea o a
  exact ⟨o', a', b'.trans b⟩

def CXA (P : Program) (w : World) : CXT := fun outer H s E e s' =>
  ∃ (ea : Addr) (C a0 : Value) (B : Heap) (H' : Hp) (od : Option Addr), e = .ref ea ∧ s'.os = s.os ∧ AllBare s'.gens ∧ Un (frs outer) [] H H' s.heap s'.heap ∧ HOk P w H' s'.heap ∧ Fly B s.heap s'.heap outer H' ea C a0 ∧ DictIs s'.heap ea od ∧ E C od H'
def cut (H : Hp) (x : Addr) : Hp := fun b => if b = x then none else H b
theorem cut_ne {H : Hp} {x b : Addr} (n : b ≠ x) : cut H x b = H b := by unfold cut; rw [if_neg n]
theorem cut_some {H : Hp} {x b : Addr} {o : HO} (e : cut H x b = some o) : b ≠ x ∧ H b = some o := by
  unfold cut at e
  split at e
  · cases e
  · rename_i z; exact ⟨z, e⟩
section
variable {P : Program} {w : World} {fs ex : List Addr} {H H1 : Hp} {h h1 : Heap} {e C d : Addr}
theorem un_cut (u : Un fs ex H H1 h h1) (he : H1 e = some (exM C e d)) : Un fs ex H (cut H1 e) h h1 where
  keep := u.keep
  slot := u.slot
  free := fun b o q n hx => by
    unfold cut
    split
    · rfl
    · exact u.free b o q n hx
  there := u.there
  tups := fun b xs q => by
    have z := u.tups b xs q
    rw [cut_ne (fun y => by rw [y, he] at z; cases z)]; exact z
  frzs := fun b o v q => by
    have z := u.frzs b o v q
    rw [cut_ne (fun y => by rw [y, he] at z; cases z)]; exact z
  tbls := fun b ps q => by
    obtain ⟨more, z⟩ := u.tbls b ps q
    exact ⟨more, by rw [cut_ne (fun y => by rw [y, he] at z; cases z)]; exact z⟩
theorem hok_cut (k : HOk P w H1 h1) (he : H1 e = some (exM C e d)) : HOk P w (cut H1 e) h1 := fun b u q => by
  obtain ⟨n, q⟩ := cut_some q
  refine (k b u q).stay (fun _ _ _ z => z) (fun c z => ?_) fun c xs z => ?_
  · rw [cut_ne (fun y => by rw [y, he] at z; cases z)]; exact z
  · rw [cut_ne (fun y => by rw [y, he] at z; cases z)]; exact z
end
section
variable {P : Program} {w : World} {K : PySem.W.Frag} {mg : Str → Option Value} {base : Heap} {N : List Str} {qual : Str} {scope : Scope} {f : Addr} {cd : Value} {A : Around} {outer : List Env} {s : Shared} {H : Hp} {E : XK}
theorem leavesX {pins : List (Addr × Obj)} {σ : St} {H1 : Hp} {s1 : Shared} {e C d : Addr} (I : Inv (cxOf (CXA P w) P w K mg base N qual scope f cd A outer s H E) pins σ H1 s1) (he : H1 e = some (exM C e d)) (hnew : s.heap.get? e = none) (q : E (.ref C) (some d) (cut H1 e)) :
    (cxOf (CXA P w) P w K mg base N qual scope f cd A outer s H E).xe (.ref e) s1 := by
  have fr := I.ok.frames
  have ff := funFrames_hide (as := e :: frs (cxOf (CXA P w) P w K mg base N qual scope f cd A outer s H E).stack) I.stack fun env he a hf => List.mem_cons_of_mem _ (List.mem_filterMap.mpr ⟨env, he, hf⟩)
  obtain ⟨⟨t, ho⟩, _⟩ := (show ObjOk P w H1 s1.heap e (exM C e d) from I.hok e _ he)
  have b0 : (hideAll s1.heap (e :: frs (cxOf (CXA P w) P w K mg base N qual scope f cd A outer s H E).stack)).StaysIn s1.heap := fun b o q => of_hideAll _ q
  have hen : (hideAll s1.heap (e :: frs (cxOf (CXA P w) P w K mg base N qual scope f cd A outer s H E).stack)).get? e = none := hideAll_none _ List.mem_cons_self
  have tr : ∀ b o, cut H1 e b = some o → ∃ u, (hideAll s1.heap (e :: frs (cxOf (CXA P w) P w K mg base N qual scope f cd A outer s H E).stack)).get? b = some u := fun b o z => by
    obtain ⟨n, z⟩ := cut_some z
    obtain ⟨u, hu⟩ := objOk_get (I.hok b o z)
    refine ⟨u, hideAll_get _ hu fun y => ?_⟩
    rcases List.mem_cons.mp y with y | y
    · exact n y
    · rw [I.stkFree b y] at z; cases z
  have old : ∀ b o, s.heap.get? b = some o → b ∉ frs outer → ∃ u, (hideAll s1.heap (e :: frs (cxOf (CXA P w) P w K mg base N qual scope f cd A outer s H E).stack)).get? b = some u := fun b o z hb => by
    obtain ⟨u, hu⟩ := I.base.there b o z (fun z => nomatch z)
    refine ⟨u, hideAll_get _ hu fun y => ?_⟩
    rcases List.mem_cons.mp y with y | y
    · rw [y, hnew] at z; cases z
    · rcases List.mem_cons.mp (I.stkSub b y) with q | q
      · have h1 := Heap.lt_size z
        have h2 : s.heap.objs.size ≤ b := by rw [q]; exact I.ok.above
        exact absurd (Nat.lt_of_lt_of_le h1 h2) (Nat.lt_irrefl _)
      · exact hb q
  refine firstD (a0 := .ref t) fr ff rfl ho b0 hen rfl rfl rfl fun h'' fl up dk => ?_
  exact ⟨e, .ref C, .ref t, _, cut H1 e, some d, rfl, I.os, I.bare, fly_un (un_cut I.base he) I.funs old b0 fl.1 up, fly_hok (hok_cut I.hok he) tr b0 fl.1, ⟨fl, tr, old⟩, (show DictIs s1.heap e (some d) from fun d' z => ⟨_, ho, z⟩).go dk, q⟩
end
theorem noneX {X : Cx} {P : Program} {w : World} : Passes (CXA P w) X (fun _ _ _ => False) := by
  rintro pins σ H1 s1 e s' I ⟨ea, C, a0, B, H', od, _, _, _, _, _, _, _, q⟩
  exact q.elim
end L2

namespace L2
open PySem PySem.Spec PyProof.Rows PySem.W
section
variable {prog : Program} {w : World} {A : Around} {E : Value → Shared → Prop} {s : Shared} {K : Frag}
theorem raiseD {env : Env} {x : Sem Value} {Q : Flow → Shared → Prop} (hh : A.handled = none)
    (h : wpAny (model prog w) A x (fun v s1 => ∃ e C t d, v = .ref e ∧ K.In s1.heap ∧ excI K C = true ∧ s1.heap.get? e = some (rawE C t d) ∧ E (.ref e) s1) E s) : wpAny (model prog w) A (raiseStmt env (some x) none) Q E s := by
  unfold raiseStmt
  refine wpAny_bind (wpAny_mono h (fun v s1 h1 => ?_) fun _ _ x => x)
  obtain ⟨e, C, t, d, rfl, X, ei, he, hE⟩ := h1
  obtain ⟨bm, N, nm, q, bs, sn, sub, ab, col, dd, k0, k1, k2, k3, k5, hC, T⟩ := objI X ei
  have hcB : (Value.ref C :: bm).contains (.type "BaseException") = true := by rw [List.contains_cons, T.hasType PySem.F.excBase_ValueError.hasBase, Bool.or_true]
  obtain ⟨hp, g, dr, tk, os⟩ := s1
  unfold rawE at he
  repeat (first | with_reducible refine wpAny_loadPart_at he ?_ | with_reducible refine wpAny_loadPart_at hC ?_ | (with_reducible refine wpAny_isSubtype_exc hC ?_; rw [hcB]) | wp_step)
  exact wpAny_raiseNew_none hh hE
end
section
variable {X : Cx} {pins : List (Addr × Obj)} {σ : St} {H : Hp} {s : Shared} {h' : Heap}
theorem Inv.laidN {a : Addr} {o : HO} {t' : Nat} (I : Inv X pins σ H s) (k : ∀ b u, s.heap.get? b = some u → h'.get? b = some u) (hn : s.heap.get? a = none) (new : ObjOk X.prog X.w (upd H a o) h' a o) :
    Inv X pins σ (upd H a o) { s with heap := h', toks := t' } := by
  have fr : H a = none := by
    cases q : H a with
    | none => rfl
    | some u => obtain ⟨z, e⟩ := objOk_get (I.hok a u q); rw [hn] at e; cases e
  have ne : ∀ b u, s.heap.get? b = some u → b ≠ a := fun b u e z => by rw [z, hn] at e; cases e
  refine I.un ⟨fun b u e _ _ _ => k b u e, fun b u e _ _ _ => ⟨u.slots, k b u e⟩, fun b u e n _ => by rw [upd_ne (ne b u e)]; exact n, fun b u e _ => ⟨u, k b u e⟩,
    fun b xs q => by rw [upd_ne (ne_of_none q fr)]; exact q, fun b u xs q => by rw [upd_ne (ne_of_none q fr)]; exact q, fun b ps q => ⟨#[], by rw [upd_ne (ne_of_none q fr), q]; simp⟩⟩ fun b u e => ?_
  by_cases z : b = a
  · subst z; rw [upd_same] at e; cases e; exact new
  · rw [upd_ne z] at e
    exact (I.hok b u e).stay (fun c v _ q => k c v q) (fun c q => by rw [upd_ne (ne_of_none q fr)]; exact q) fun c xs q => by rw [upd_ne (ne_of_none q fr)]; exact q
end

def RaisesX (X : Cx) (E : XK) : Prop := ∀ (pins : List (Addr × Obj)) (σ : St) (H : Hp) (s : Shared) (e C d : Addr), Inv X pins σ H s → H e = some (exM C e d) → X.s₀.heap.get? e = none → E (.ref C) (some d) (cut H e) → X.xe (.ref e) s
structure MkX (K : Frag) (C f : Addr) : Prop where
  ei : excI K C = true
  init : findIn K (.ref C) "__init__" = some (some (.ref f))
  fn : isFn K (.ref f) = true
  kp : keepIn K (.ref C) = true
def sRaiseX (C : Addr) (sp : Sp) (dvs : List V) (E : XK) (t : TA) : TS := fun _ σ H => t σ H fun vs H1 => vs.length ≤ sizeLine ∧ ∀ x, H1 x = none → sp (.ref x :: (vs ++ dvs)) (upd H1 x (exN C x)) (fun v H2 => v = .non ∧ ∃ d, H2 x = some (exM C x d) ∧ E (.ref C) (some d) (cut H2 x)) (fun _ _ _ => False)
theorem ps_raiseX {X : Cx} {C f : Addr} {k : Nat} {fd : FuncData} {ps : List Str} {sp : Sp} {dvs : List V} {ds : List Value} {E : XK} {x : Str} {np cpos pos : Pos} {e : Expr} {es : List Expr} {t : TA} (hc : X.calm = true) (hex : X.ex = []) (hr : RaisesX X E) (M : MkX X.K C f)
    (F : FnOk X.prog X.w X.K X.mg X.base (CXA X.prog X.w) k f fd ps sp) (rm : Room (k + 1) X.A) (hb : Binds X.K fd ps ds) (hd : Vals dvs ds) (hg : Gl X x) (hm : X.mg x = some (.ref C))
    (ha : PA X (e :: es) t) (hdb : (x == ("__debug__" : Str)) = false := by decide) (he : starEach (e :: es) X.env = (false, eval e X.env) :: starEach es X.env := by rfl) (hpl : (backTo cpos (starEach es X.env)).any (·.1) = false := by rfl) :
    PS X (.Raise (some (.Call (.Name x np) (e :: es) [] cpos)) none pos) (sRaiseX C sp dvs E t) := by
  intro pins s σ H D I h
  have key : wpAny (model X.prog X.w) X.A (eval (.Call (.Name x np) (e :: es) [] cpos) X.env) (fun v s1 => ∃ e C t d, v = .ref e ∧ X.K.In s1.heap ∧ excI X.K C = true ∧ s1.heap.get? e = some (rawE C t d) ∧ X.xe (.ref e) s1) X.xe s := by
    refine wpAny_Call_Name_kw (ld_glob I hg hm ?_ hdb)
    refine PySem.W.callWith_K (h₀ := X.base) I.ok.mod.kin M.kp (thn (ha cpos pins s σ H _ I h) fun us s1 ⟨vs, H1, I1, r, hl, q⟩ => ⟨I1.kIn, ?_⟩) he hpl
    refine callI I1.kIn M.ei M.init (beq_iff_eq.mp M.fn) (show us.length ≤ sizeLine by rw [← r.length]; exact hl) fun h' ea hmade => ?_
    obtain ⟨t0, ho, _, _⟩ := hmade.there
    have I2 := I1.laidN (a := ea) (o := exN C ea) (h' := h') (t' := s1.toks) hmade.keeps hmade.new (okN (t := t0) ho)
    have fr : H1 ea = none := by
      cases z : H1 ea with
      | none => rfl
      | some u => obtain ⟨y, e'⟩ := objOk_get (I1.hok ea u z); rw [hmade.new] at e'; cases e'
    have hq := q ea fr
    have r2 : Vals (V.ref ea :: (vs ++ dvs)) (Value.ref ea :: (us ++ ds)) := .cons rfl (r.append hd)
    have hl2 : (Value.ref ea :: us ++ ds).length = ps.length := by
      have z := r2.length
      rw [F.len _ _ _ _ hq] at z
      exact z.symm
    refine wpAny_call (codeAny_mono (F.run _ X.stack _ _ ⟨Value.ref ea :: us, []⟩ (Value.ref ea :: (us ++ ds)) _ _ _ (rm.make C us []) (I2.env0.make C us []) (hb _ (Value.ref ea :: us) I2.kIn hl2) r2 hq) fun r s' hq' => ?_)
    cases r with
    | error e' => exact (noneX (X := X) pins σ _ _ e' s' I2 hq')
    | ok fl =>
      cases fl with
      | ret u =>
        obtain ⟨v, H', I3, rv, ev, d, hM, q3⟩ := I2.after hq'
        subst ev
        obtain ⟨⟨t3, ho3⟩, _⟩ := (show ObjOk X.prog X.w H' s'.heap ea (exM C ea d) from I3.hok ea _ hM)
        refine ⟨rv, ea, C, t3, _, rfl, I3.kIn, M.ei, ho3, hr pins σ H' s' ea C d I3 hM ?_ q3⟩
        cases z : X.s₀.heap.get? ea with
        | none => rfl
        | some o =>
          obtain ⟨o', e'⟩ := I1.base.there ea o z (by rw [hex]; exact fun y => nomatch y)
          rw [hmade.new] at e'; cases e'
      | next => exact False.elim hq'
      | brk => exact False.elim hq'
      | cont => exact False.elim hq'
  rw [arm_exec_Raise]
  have hh := I.ok.hd hc
  first
    | exact wpAny_bind (wpAny_standAt (raiseD hh (wpAny_bind (wpAny_mono key (fun v s3 h3 => wpAny_bind (wpAny_standAt (wpAny_pure h3))) fun _ _ x => x))))
    | (simp only [evalOpt, Option.map]; exact wpAny_bind (wpAny_standAt (raiseD hh (wpAny_bind (wpAny_mono key (fun v s3 h3 => wpAny_bind (wpAny_standAt (wpAny_pure h3))) fun _ _ x => x)))))
    | (refine wpAny_bind (wpAny_standAt (raiseD hh ?_)); refine wpAny_bind (wpAny_mono key (fun v s3 h3 => wpAny_bind (wpAny_standAt (wpAny_pure h3))) fun _ _ x => x))

def hWishX (K : Frag) (L : Addr) (i : Nat) (ts : TS) (D : Ends) : St → XK := fun σ1 Cv od H1 => ∃ C d, Cv = .ref C ∧ od = some d ∧ exmOne K (.ref C) (.ref L) = some true ∧ ∀ ea, H1 ea = none → ts (hEnds i D) (σ1.set i (some (.ref ea))) (upd H1 ea (exA C ea d))
def tTryX (K : Frag) (L : Addr) (i : Nat) (tb : (St → XK) → TS) (ts : TS) : TS := fun D σ H => tb (hWishX K L i ts D) D σ H
theorem ps_tryX {X : Cx} {x n : Str} {np hpos pos : Pos} {body : List Stmt} {b0 : Stmt} {suite : List Stmt} {L : Addr} {tb : (St → XK) → TS} {ts : TS} {i : Nat} (hstk : X.stack = X.env :: X.outer) (hfr : X.env.frame = some X.env.locals)
    (hN : X.N.Nodup) (hi : X.N[i]? = some n) (hk : X.env.scope.names.lookup n = some .local) (hg : Gl X x) (hm : X.mg x = some (.ref L))
    (hb : ∀ pn xe E, PassesS (CXA X.prog X.w) (X.inTry pn xe) E → PSs (X.inTry pn xe) body (tb E)) (hs : ∀ ea, PSs (X.hand ea) (b0 :: suite) ts) (hdb : (x == ("__debug__" : Str)) = false := by decide) :
    PS X (.Try body [.ExceptHandler (some (.Name x np)) (some n) (b0 :: suite) hpos] [] [] pos) (tTryX X.K L i tb ts) := by
  intro pins s σ H D I h
  have ok := I.ok
  refine wpAny_Try_except (wpAny_mono (hb (X.pn ++ pins) (fun e s₁ => wpAny (model X.prog X.w) X.A (noteFrame e X.env) (fun _ s₂ => wpAny (model X.prog X.w) X.A (setFlight e none) (fun _ s₃ => wpAny (model X.prog X.w) X.A (handleBy e X.env [.ExceptHandler (some (.Name x np)) (some n) (b0 :: suite) hpos]) (SP X pins D) X.xe s₃) X.xe s₂) X.xe s₁)
    (hWishX X.K L i ts D) ?_ [] s σ H D I.toTry h) (fun f s1 hq => ?_) fun e s1 he => he)
  · rintro pins' σ1 H1 s1 e s' J ⟨ea, C, a0, B, H', od, rfl, os, bare, un, hok, fly, di, C', d', rfl, rfl, hex, hts⟩
    have fl := fly.fl
    have ff : s'.heap.FunFrames B X.stack := fl.2.2.1
    have frm : X.A.frames = some (X.env :: X.outer) := by rw [← hstk]; exact ok.frames
    have fl' : Heap.FlyingW B (X.env :: X.outer) ea (.ref C') a0 s'.heap := by rw [← hstk]; exact fl
    have at_ : ∀ h5, Heap.FlyingW B (X.env :: X.outer) ea (.ref C') a0 h5 → s'.heap.UpToSlots h5 → Inv X pins σ1 H' { s' with heap := h5 } := fun h5 f5 up =>
      Inv.ofTry ok (J.call' (s' := { s' with heap := h5 }) os (fly_un un ff fly.old fl.1 f5.1 up) (fly_hok hok fly.tr fl.1 f5.1) bare (fun b z => nomatch z))
    have eaB : B.get? ea = none := fl.2.1
    have eaH : H' ea = none := by
      cases q : H' ea with
      | none => rfl
      | some o => obtain ⟨u, hu⟩ := fly.tr ea o q; rw [eaB] at hu; cases hu
    have ea1 : s1.heap.get? ea = none := by
      cases q : s1.heap.get? ea with
      | none => rfl
      | some o =>
        by_cases hb' : ea ∈ frs X.stack
        · obtain ⟨_, o', ho', hd⟩ := ff.mem hb'
          obtain ⟨oe, vs, _, _, _, he, _, hde, _⟩ := fl.2.2.2
          rw [he] at ho'; cases ho'
          exact absurd hde (hd vs)
        · obtain ⟨u, hu⟩ := fly.old ea o q hb'
          rw [eaB] at hu; cases hu
    have at2 : ∀ h5, Heap.FlyingW B (X.env :: X.outer) ea (.ref C') a0 h5 → s'.heap.UpToSlots h5 → DK s'.heap h5 → Inv X pins σ1 (upd H' ea (exA C' ea d')) { s' with heap := h5 } := fun h5 f5 up dk5 => by
      have u5 := fly_un un ff fly.old fl.1 f5.1 up
      have ne : ∀ b o, s1.heap.get? b = some o → b ≠ ea := fun b o e z => by rw [z, ea1] at e; cases e
      have neH : ∀ b o, H' b = some o → b ≠ ea := fun b o e z => by rw [z, eaH] at e; cases e
      have u6 : Un (frs X.stack) [] H1 (upd H' ea (exA C' ea d')) s1.heap h5 := ⟨u5.keep, u5.slot, fun b o e q hx => by rw [upd_ne (ne b o e)]; exact u5.free b o e q hx, u5.there,
        fun b xs e => by have z := u5.tups b xs e; rw [upd_ne (neH b _ z)]; exact z, fun b o u e => by have z := u5.frzs b o u e; rw [upd_ne (neH b _ z)]; exact z,
        fun b ps e => by obtain ⟨more, z⟩ := u5.tbls b ps e; exact ⟨more, by rw [upd_ne (neH b _ z)]; exact z⟩⟩
      have k5 : HOk X.prog X.w (upd H' ea (exA C' ea d')) h5 := fun b u e => by
        by_cases hbe : b = ea
        · subst hbe
          rw [upd_same] at e; cases e
          obtain ⟨oe, vs, _, _, _, hob, hcl, hde, _⟩ := f5.2.2.2
          obtain ⟨o', ho', hd'⟩ := di.go dk5 d' rfl
          rw [hob] at ho'; cases ho'
          exact ⟨⟨oe, hob, hcl.1, hd', by unfold notCls; rw [hde]⟩, ⟨oe, hob⟩, fun g1 g2 ⟨o, e1, e2⟩ kk => ⟨o, kk o e1, e2⟩⟩
        · rw [upd_ne hbe] at e
          refine (fly_hok hok fly.tr fl.1 f5.1 b u e).stay (fun _ _ _ q => q) (fun c q => by rw [upd_ne (neH c _ q)]; exact q) fun c xs q => by rw [upd_ne (neH c _ q)]; exact q
      exact Inv.ofTry ok (J.call' (s' := { s' with heap := h5 }) os u6 k5 bare (fun b z => nomatch z))
    refine looksD frm hfr fl' fun h4 held up4 dk4 => ?_
    refine landsD held fun h5 fl5 up5 dk5 => ?_
    have J5 : Inv (X.hand ea) pins σ1 H' { s' with heap := h5 } := (at_ h5 fl5 (up4.trans up5)).toHand
    refine wpAny_handleBy_cons (codeAny_handlers_test (ld_glob (X := X.hand ea) J5 hg hm ?_ hdb)) (by intro q; cases q)
    obtain ⟨ob, hob, hobc⟩ := fl5.there
    have LT : Looks (model X.prog X.w) h5 (typeOf (.ref ea)) (.ref C') := OfC.ty ⟨ob, hob, hobc⟩
    refine (exm_one (K := X.K) J5.kIn LT hex).at ?_
    refine codeAny_handlers_suite_as ?_
    refine againD fl5 fun h6 fl6 up6 dk6 => ?_
    have J6 : Inv (X.hand ea) pins σ1 (upd H' ea (exA C' ea d')) { s' with heap := h6 } := (at2 h6 fl6 ((up4.trans up5).trans up6) ((dk4.trans dk5).trans dk6)).toHand
    refine store_ok (X := X.hand ea) (v := .ref ea) J6 hN hi (.inl hk) rfl (fun s7 J7 => ?_) (.inr hk)
    refine wpAny_mono (hs ea pins s7 _ _ (hEnds i D) J7 (hts ea eaH)) (fun f s8 q8 => ?_) fun _ _ z => z.elim
    cases f with
    | next =>
      obtain ⟨σ2, H2, J8, q⟩ := q8
      exact goes_ok (J8.ofHand ok) hN hi hk fun s9 J9 => ⟨_, H2, J9, q⟩
    | brk =>
      obtain ⟨σ2, H2, J8, q⟩ := q8
      exact goes_ok (J8.ofHand ok) hN hi hk fun s9 J9 => ⟨_, H2, J9, q⟩
    | cont =>
      obtain ⟨σ2, H2, J8, q⟩ := q8
      exact goes_ok (J8.ofHand ok) hN hi hk fun s9 J9 => ⟨_, H2, J9, q⟩
    | ret u =>
      obtain ⟨v, σ2, H2, J8, r, q⟩ := q8
      exact goes_ok (J8.ofHand ok) hN hi hk fun s9 J9 => ⟨v, _, H2, J9, r, q⟩
  · cases f with
    | next =>
      obtain ⟨σ2, H2, J8, q⟩ := hq
      exact wpAny_execs_nil ⟨σ2, H2, Inv.ofTry ok J8, q⟩
    | brk =>
      obtain ⟨σ2, H2, J8, q⟩ := hq
      exact ⟨σ2, H2, Inv.ofTry ok J8, q⟩
    | cont =>
      obtain ⟨σ2, H2, J8, q⟩ := hq
      exact ⟨σ2, H2, Inv.ofTry ok J8, q⟩
    | ret u =>
      obtain ⟨v, σ2, H2, J8, r, q⟩ := hq
      exact ⟨v, σ2, H2, Inv.ofTry ok J8, r, q⟩
def rIsA (K : Frag) : List V → Hp → VK → Prop := fun xs H Q => ∃ a C d cv b, xs = [.ref a, cv] ∧ H a = some (exA C a d) ∧ XC K C ∧ ((∃ T, cv = .ty T) ∨ ∃ D, cv = .ref D) ∧ kitOne K (.ref C) (cV cv) = some b ∧ Q (.bl b) H
theorem call_isA {X : Cx} : CallR X (.builtin "isinstance") (rIsA X.K) := by
  intro pins s σ H xs us Q I r h
  obtain ⟨a, C, d, cv, b, rfl, ha, xc, hcv, e, q⟩ := h
  obtain ⟨u, u', rfl, ru, ru'⟩ := vals2 r
  cases ru
  have hu : u' = cV cv := by
    rcases hcv with ⟨T, rfl⟩ | ⟨D, rfl⟩
    · exact ru'
    · exact ru'
  subst hu
  obtain ⟨⟨o, ho, hc, _⟩, _⟩ := (show ObjOk X.prog X.w H s.heap a (exA C a d) from I.hok a _ ha)
  exact kia_one (kitx_exc xc) I.kIn (show OfC a C s.heap from ⟨o, ho, hc⟩) e (fun z => nomatch z) fun tk => ⟨.bl b, H, I.tok _, rfl, q⟩

def tFldA (K : Frag) (ta : TE) (f : Str) : TE := fun σ H Q => ta σ H fun x H1 => ∃ a C d fs v, x = .ref a ∧ H1 a = some (exA C a d) ∧ H1 d = some (.xd fs) ∧ XI K C f ∧ fs.lookup f = some v ∧ Q v H1
theorem pe_fldA {X : Cx} {e : Expr} {f : Str} {pos : Pos} {ta : TE} (he : PE X e ta) (hb : attributeBase e f X.env (eval e X.env) = eval e X.env) : PE X (.Attribute e f pos) (tFldA X.K ta f) := by
  intro pins s σ H Q I h
  refine attr_of hb (thn (he pins s σ H _ I h) fun u s1 ⟨x, H1, I1, rx, a, C, d, fs, v, ex, ea, ed, xi, l, q⟩ => ?_)
  subst ex
  obtain rfl : u = Value.ref a := rx
  obtain ⟨⟨o, ho, hc, hd, hn⟩, _⟩ := (show ObjOk X.prog X.w H1 s1.heap a (exA C a d) from I1.hok a _ ea)
  obtain ⟨mA, hN, hr⟩ := (show ObjOk X.prog X.w H1 s1.heap d (.xd fs) from I1.hok d _ ed)
  obtain ⟨od, hod, hlk⟩ := lookIn_ns hN
  have hv := hr f
  rw [l] at hv
  cases hm : mA f with
  | none => rw [hm] at hv; exact hv.elim
  | some u =>
    rw [hm] at hv
    refine getI xi.xc I1.kIn (od := od) ⟨ho, hc, hn, by rw [hd]; exact hod⟩ xi.hd xi.no (by rw [hlk, hm]) (handed_of hv) ⟨v, H1, I1.tok _, hv, q⟩
end L2

namespace M
open PySem L2
abbrev sInitT : Stmt := inClass (top 4) 0

structure FunD (K : PySem.W.Frag) (x qual : Str) (st : Stmt) (f : Addr) (fd : FuncData) (T : Addr) : Prop where
  ex : ∃ (oc : Value) (od : Option Addr) (kV doc pm : Value) (an : Option Addr) (cdv ct : Value) (osl : Array (Option Value)),
    fd = PySem.W.fnOf x qual (defArgs st) (defBody st) (defScope st) (.ref T) kV doc pm an cdv ct ∧ K.lookup f = some ⟨oc, od, .func fd, osl⟩ ∧ PySem.W.codeIn K cdv qual = true
section
variable {P : Program} {w : World} {K : PySem.W.Frag} {mg : Str → Option Value} {base : Heap} {f C L : Addr} {fd : FuncData}
def spInitT (C : Addr) : Sp := fun vs H Q _ => ∃ (x : Addr) (z : Str) (n : Int), vs = [.ref x, .str z, .int n] ∧ H x = some (exN C x) ∧ ∀ d, H d = none → Q .non (upd (upd H d (.xd [("at", .int n)])) x (exM C x d))
theorem scInitT : FnScope ["self", "words", "at"] ["self", "words", "at"] (defScope sInitT) := ⟨rfl, rfl, rfl, by decide +kernel, rfl, by decide +kernel, by decide +kernel⟩
theorem ok_initT {T : Addr} (F : FunD K "__init__" "NoText.__init__" sInitT f fd T) (xi : XI K C "at") (B : BI K L) (mL : mg "LandError" = some (.ref L)) : FnOk P w K mg base (CXA P w) 1 f fd ["self", "words", "at"] (spInitT C) := by
  obtain ⟨oc, od, kV, doc, pm, an, cdv, ct, osl, rfl, lk, hcd⟩ := F.ex
  refine fn_of lk hcd scInitT (fun vs H Q E h => ?_) fun A outer s H vs Q E hr h => ?_
  · obtain ⟨x, z, n, rfl, _⟩ := h
    rfl
  obtain ⟨x, z, n, rfl, hx, k⟩ := h
  refine ⟨_, pss_cons (ps_expr (pe_initX B rfl mL (pa_cons (pv 0) (pa_cons (pv 1) pa_nil)))) (pss_one (ps_fldX (pv 0) (pv 2) rfl)), ?_⟩
  refine ⟨_, rfl, _, rfl, x, C, _, rfl, small (show 1 ≤ 1000000 by decide), hx, xi.ei, ?_⟩
  refine ⟨_, rfl, _, rfl, x, C, rfl, hx, xi, fun d hd => k d hd⟩
theorem bindsT {T : Addr} (F : FunD K "__init__" "NoText.__init__" sInitT f fd T) {o : Obj} {v0 v1 : Value} {n : Nat} (ho : K.lookup T = some o) (hs : o.data = .seq #[v0, v1] n) : Binds K fd ["self", "words", "at"] [v1] := by
  obtain ⟨oc, od, kV, doc, pm, an, cdv, ct, osl, rfl, lk, hcd⟩ := F.ex
  intro s us X hl
  obtain ⟨a, b, rfl⟩ : ∃ a b, us = [a, b] := by
    have h2 : us.length = 2 := by rw [List.length_append] at hl; exact Nat.succ.inj hl
    match us, h2 with
    | [a, b], _ => exact ⟨a, b, rfl⟩
  exact PySem.W.binds_K X rfl ho hs rfl rfl
def spReadR (C : Addr) : Sp := fun vs H Q E => ∃ z : Str, vs = [.str z] ∧ z.length ≤ 1000 ∧ (rowR z = none → ∀ d H', Same H H' → H' d = some (.xd [("at", .int 1)]) → E (.ref C) (some d) H') ∧ ∀ k ps, rowR z = some (k, ps) → ∀ p H', Same H H' → H' p = some (.tup (.str k :: ps)) → Q (.ref p) H'
theorem scRead : FnScope ["text", "row"] ["text"] (defScope sRead) := ⟨rfl, rfl, rfl, by decide +kernel, rfl, by decide +kernel, by decide +kernel⟩
theorem ok_read (F : Fun K "read_row" "read_row" sRead f fd) {g1 g2 : Addr} {d1 d2 : FuncData} (G1 : FnOk P w K mg base CX0 5 g1 d1 ["text"] spRow) (M1 : Ms K mg "row_of" g1 d1 ["text"])
    (mk : MkX K C g2) (G2 : FnOk P w K mg base (CXA P w) 1 g2 d2 ["self", "words", "at"] (spInitT C)) {t1 : Tok} (B2 : Binds K d2 ["self", "words", "at"] [.int 1 t1]) (mC : mg "NoText" = some (.ref C)) :
    FnOk P w K mg base (CXA P w) 6 f fd ["text"] (spReadR C) := by
  obtain ⟨oc, od, kV, doc, pm, an, cdv, ct, osl, rfl, lk, hcd⟩ := F.ex
  refine fn_of lk hcd scRead (fun vs H Q E h => ?_) fun A outer s H vs Q E hr h => ?_
  · obtain ⟨z, rfl, _⟩ := h
    rfl
  obtain ⟨z, rfl, hz, k0, k1⟩ := h
  refine ⟨_, pss_cons (ps_set (i := 1) scRead.nd rfl (Or.inl rfl) (pe_call G1 hr rfl M1.m M1.k M1.b .nil pass0 (pa_cons (pv 0) pa_nil)))
    (pss_cons (ps_if (pt_cmp (pc_isN (pv 1))) (pss_one (ps_raiseX (E := E) (dvs := [.int 1]) rfl rfl (fun pins σ H1 s1 e C' d I he hn q => leavesX I he hn q) mk G2 (hr.mono (by decide)) B2 (.cons ⟨t1, rfl⟩ .nil) rfl mC (pa_cons pe_str pa_nil))) pss_nil) (pss_one (ps_ret (pv 1)))), ?_⟩
  refine ⟨_, rfl, z, rfl, hz, fun hn H1 s1 => ?_, fun k ps hk p H1 s1 hp => ?_⟩
  · refine ⟨_, rfl, _, rfl, iteT ?_⟩
    refine ⟨small (by decide), fun x hx => ⟨x, _, 1, rfl, upd_same, fun d hd => ⟨rfl, d, upd_same, ?_⟩⟩⟩
    have dx : d ≠ x := fun e => by rw [e, upd_same] at hd; cases hd
    have hd1 : H1 d = none := by rw [upd_ne dx] at hd; exact hd
    refine k0 hn d _ (fun b o q => ?_) ?_
    · have q1 := s1 b o q
      have bx : b ≠ x := fun e => by rw [e, hx] at q1; cases q1
      have bd : b ≠ d := fun e => by rw [e, hd1] at q1; cases q1
      rw [cut_ne bx, upd_ne bx, upd_ne bd, upd_ne bx]; exact q1
    · rw [cut_ne dx, upd_ne dx, upd_same]
  · refine ⟨_, rfl, _, rfl, iteF ?_⟩
    exact ⟨_, rfl, k1 k ps hk p H1 s1 hp⟩
end
end M

namespace L2
open PySem PySem.Spec PyProof.Rows PySem.W

structure FnH (P : Program) (w : World) (K : Frag) (mg : Str → Option Value) (base : Heap) (k : Nat) (f : Addr) (fd : FuncData) (ps : List Str) (sp : Sp) : Prop where
  len : ∀ vs H Q E, sp vs H Q E → vs.length = ps.length
  run : ∀ (A : Around) (ea : Addr) (outer : List Env) (s : Shared) (H : Hp) (args : Args) (us : List Value) (vs : List V) (Q : VK) (E : XK), Room k A → Env0 P w K mg base (A.mark (some (.ref ea))) outer s H → BindsTo s fd args (ps.zip us) → Vals vs us → sp vs H Q E →
    codeAny (model P w) (A.mark (some (.ref ea))) (.call (.ref f) args) (CR CX0 outer P w H s Q E) s
section
variable {P : Program} {w : World} {K : Frag} {mg : Str → Option Value} {base : Heap}
theorem fn_ofH {k : Nat} {f : Addr} {name qual : Str} {params : Arguments} {body : List Stmt} {scope : Scope} {dV kV doc pm cdv ct oc : Value} {an od : Option Addr} {osl : Array (Option Value)} {N ps : List Str} {sp : Sp}
    (lk : K.lookup f = some ⟨oc, od, .func (fnOf name qual params body scope dV kV doc pm an cdv ct), osl⟩) (hcd : codeIn K cdv qual = true) (S : FnScope N ps scope) (len : ∀ vs H Q E, sp vs H Q E → vs.length = ps.length)
    (hbody : ∀ (A : Around) (ea : Addr) (outer : List Env) (s : Shared) (H : Hp) (vs : List V) (Q : VK) (E : XK), Room k (A.deeper (envOfC qual scope s.heap.objs.size f cdv)) → sp vs H Q E →
      ∃ t, PSs ((cxOf CX0 P w K mg base N qual scope f cdv A outer s H E).hand ea) body t ∧ t { nx := fun _ H' => Q .non H', rt := Q } (start N vs) H) :
    FnH P w K mg base (k + 1) f (fnOf name qual params body scope dV kV doc pm an cdv ct) ps sp := by
  refine ⟨len, fun A ea outer s H args us vs Q E hr e0 hb r hsp => ?_⟩
  have hl := len _ _ _ _ hsp
  have KX : K.In s.heap := e0.mod.kin.keeps fun b o e => (e0.bs b o e).1
  have lim : s.heap.NoLimit := e0.mod.nolimit.keeps fun b o e => (e0.bs b o e).1
  have e1 : Env0 P w K mg base A outer s H := ⟨e0.frames, e0.mod, e0.bs, e0.bsz, e0.funs, e0.frf, e0.hok, e0.bare⟩
  have hk : ∀ y ∈ ps.zip us, scope.names.lookup y.1 = some .local ∨ (scope.names.lookup y.1 = some .cell ∧ ((cellsFrom (s.heap.objs.size + 1) scope.names []).lookup y.1).isSome = true) := fun ⟨n, v⟩ hy => by
    rcases S.par n (List.of_mem_zip hy).1 with q | q
    · exact .inl q
    · exact .inr ⟨q, PySem.W.cellsFrom_some _ _ _ (.inl q)⟩
  refine codeAny_call_function (show (A.mark (some (.ref ea))).depth < _ from hr.depth) (KX _ _ lk) rfl S.co S.gen rfl (PySem.W.codeRec_of KX hcd) (hb _ _ _ _ ?_)
  refine wpAny_newFunctionEnv_cells S.kind hk fun env he s1 x => ?_
  subst he
  refine ⟨lim.keeps x.toInCall.keep, codeAny_func ?_⟩
  obtain ⟨t, ht, hq⟩ := hbody A ea outer s H vs Q E (hr.deeper _) hsp
  have I : Inv (cxOf CX0 P w K mg base N qual scope f cdv A outer s H E) [] (start N vs) H s1 := inv_start S hr.hd e1 hl r x
  have J := I.toHand (ea := ea)
  refine wpAny_mono (ht [] s1 (start N vs) H _ J hq) (fun fl s' hs => ?_) fun e s' hs => hs.elim
  have fin : ∀ {σ' : St} {H' : Hp} {v : V} {u : Value}, Inv ((cxOf CX0 P w K mg base N qual scope f cdv A outer s H E).hand ea) [] σ' H' s' → RelV v u → Q v H' → CE outer P w H s Q u s' :=
    fun {σ' H' v u} J rv q => ⟨v, H', J.os, J.bare, J.base, J.hok, rv, q⟩
  cases fl with
  | ret u =>
    obtain ⟨v, σ', H', J, rv, q⟩ := hs
    exact fin J rv q
  | next =>
    obtain ⟨σ', H', J, q⟩ := hs
    exact fin (v := V.non) (u := Value.none) J rfl q
  | brk =>
    obtain ⟨_, _, _, q⟩ := hs
    exact False.elim q
  | cont =>
    obtain ⟨_, _, _, q⟩ := hs
    exact False.elim q
theorem pe_callH {X : Cx} {A : Around} {ea : Addr} {k : Nat} {f : Addr} {fd : FuncData} {ps : List Str} {sp : Sp} {x : Str} {p pos : Pos} {e : Expr} {es : List Expr} {t : TA} (F : FnH X.prog X.w X.K X.mg X.base k f fd ps sp) (hr : Room k A) (hA : X.A = A.mark (some (.ref ea)))
    (hg : Gl X x) (hm : X.mg x = some (.ref f)) (hk : keepIn X.K (.ref f) = true) (hb : Binds X.K fd ps []) (ha : PA X (e :: es) t)
    (hdb : (x == ("__debug__" : Str)) = false := by decide) (he : starEach (e :: es) X.env = (false, eval e X.env) :: starEach es X.env := by rfl) (hpl : (backTo pos (starEach es X.env)).any (·.1) = false := by rfl) :
    PE X (.Call (.Name x p) (e :: es) [] pos) (tCall sp [] E0 t) := by
  intro pins s σ H Q I h
  refine wpAny_Call_Name_kw (ld_glob I hg hm ?_ hdb)
  refine PySem.W.callWith_K (h₀ := X.base) I.ok.mod.kin hk (thn (ha pos pins s σ H _ I h) fun us s1 ⟨vs, H1, I1, r, q⟩ => ⟨I1.kIn, ?_⟩) he hpl
  replace q : sp (vs ++ []) H1 Q E0 := q
  rw [List.append_nil] at q
  have hl : (us ++ []).length = ps.length := by rw [List.append_nil, ← r.length]; exact F.len _ _ _ _ q
  have hb2 := hb s1 us I1.kIn hl
  rw [List.append_nil] at hb2
  have e0 : Env0 X.prog X.w X.K X.mg X.base (A.mark (some (.ref ea))) X.stack s1 H1 := hA ▸ I1.env0
  show wpAny (model X.prog X.w) X.A (call (.ref f) us) _ _ _
  rw [hA]
  refine wpAny_call (codeAny_mono (F.run A ea X.stack s1 H1 ⟨us, []⟩ us vs Q E0 hr e0 hb2 r q) fun r s' hq => ?_)
  cases r with
  | error e => exact hq.elim
  | ok fl =>
    cases fl with
    | ret u => exact I1.after hq
    | next => exact False.elim hq
    | brk => exact False.elim hq
    | cont => exact False.elim hq
end
theorem call_isAK {X : Cx} {K : Frag} (h : X.K = K := by rfl) : CallR X (.builtin "isinstance") (rIsA K) := h ▸ call_isA
theorem pe_fldAK {X : Cx} {K : Frag} {e : Expr} {f : Str} {pos : Pos} {ta : TE} (he : PE X e ta) (hb : attributeBase e f X.env (eval e X.env) = eval e X.env) (h : X.K = K := by rfl) : PE X (.Attribute e f pos) (tFldA K ta f) := h ▸ pe_fldA he hb
theorem pe_bmK {X : Cx} {K : Frag} {o e : Expr} {es : List Expr} {to : TE} {t : TA} {name : Str} {apos cpos : Pos} {T id : String} {r : V → List V → Hp → VK → Prop} (pa : PlainAttrs T) (slot : Slot T name id) (hty : typeOf (.builtin id) = pure (.type "method_descriptor")) (hm : MtR X id r) (ho : PE X o to) (ha : PA X (e :: es) t)
    (h : X.K = K := by rfl) (hbase : attributeBase o name X.env (eval o X.env) = eval o X.env := by rfl)
    (hfew : ((backTo cpos (starEach (e :: es) X.env)).all (fun x => !x.1) && (backToKw cpos (keywordEach [] X.env)).all (fun x => x.1.isSome)
      && decide ((e :: es).length + ([] : List Keyword).length + (if ([] : List Keyword).isEmpty then 0 else 1) < 30)) = true := by rfl)
    (hline : (apos.endLine == cpos.line) = true := by rfl) (hs : starEach (e :: es) X.env = (false, eval e X.env) :: starEach es X.env := by rfl) (hplain : (backTo cpos (starEach es X.env)).any (·.1) = false := by rfl) :
    PE X (.Call (.Attribute o name apos) (e :: es) [] cpos) (tBM K T r to t) := h ▸ pe_bm pa slot hty hm ho ha hbase hfew hline hs hplain
end L2
namespace M
open PySem L2 PyProof.Rows
theorem bt_ValueError : bootBuiltins "ValueError" = some (.type "ValueError") := by decide +kernel
section
variable {P : Program} {w : World} {K : PySem.W.Frag} {mg : Str → Option Value} {base : Heap} {f C : Addr} {fd : FuncData}
def spSameI : Sp := fun vs H Q _ => ∃ i : Int, vs = [.int i, .int i] ∧ Q (.bl true) H
theorem ok_sameH (F : Fun K "_law_same" "_law_same" sSame f fd) (m : MgS mg) : FnH P w K mg base 1 f fd ["_law_found", "_law_due"] spSameI := by
  obtain ⟨oc, od, kV, doc, pm, an, cdv, ct, osl, rfl, lk, hcd⟩ := F.ex
  refine fn_ofH lk hcd scSame (fun vs H Q E h => ?_) fun A ea outer s H vs Q E hr h => ?_
  · obtain ⟨i, rfl, _⟩ := h
    rfl
  obtain ⟨i, rfl, k⟩ := h
  refine ⟨_, pss_cons (ps_if (pt_cmp (pc_isN (pv 1))) pss_never pss_nil)
    (pss_cons (ps_if (pt_val (pe_callB (call_isinstK (K := K)) rfl m.isi bt_isinstance (pa_cons (pv 1) (pa_cons (pe_bltn rfl m.bool bt_bool rfl (v := .ty "bool")) pa_nil)))) pss_never pss_nil)
    (pss_cons (ps_if (pt_val (pe_callB (call_isinstK (K := K)) rfl m.isi bt_isinstance (pa_cons (pv 1) (pa_cons (pe_bltn rfl m.tuple bt_tuple rfl (v := .ty "tuple")) pa_nil)))) pss_never pss_nil)
    (pss_cons (ps_if (pt_val (pe_callB (call_isinstK (K := K)) rfl m.isi bt_isinstance (pa_cons (pv 1) (pa_cons (pe_bltn rfl m.list bt_list rfl (v := .ty "list")) pa_nil)))) pss_never pss_nil)
    (pss_cons (ps_if (pt_val (pe_callB (call_isinstK (K := K)) rfl m.isi bt_isinstance (pa_cons (pv 1) (pa_cons (pe_bltn rfl m.str bt_str rfl (v := .ty "str")) pa_nil)))) pss_never pss_nil)
    (pss_one (ps_ret (pe_and (pe_callB (call_isinstK (K := K)) rfl m.isi bt_isinstance (pa_cons (pv 0) (pa_cons (pe_bltn rfl m.int bt_int rfl (v := .ty "int")) pa_nil)))
      (pe_and (pe_not (pe_callB (call_isinstK (K := K)) rfl m.isi bt_isinstance (pa_cons (pv 0) (pa_cons (pe_bltn rfl m.bool bt_bool rfl (v := .ty "bool")) pa_nil)))) (pe_one (pe_cmpR op_eq (pv 0) (pv 1) (nomark _))))))))))), ?_⟩
  refine ⟨_, rfl, _, rfl, iteF ?_⟩
  refine ⟨_, rfl, _, _, _, false, rfl, .int i, rfl, _, rfl, iteF ?_⟩
  refine ⟨_, rfl, _, _, _, false, rfl, .int i, rfl, _, rfl, iteF ?_⟩
  refine ⟨_, rfl, _, _, _, false, rfl, .int i, rfl, _, rfl, iteF ?_⟩
  refine ⟨_, rfl, _, _, _, false, rfl, .int i, rfl, _, rfl, iteF ?_⟩
  refine ⟨_, rfl, _, _, _, true, rfl, .int i, rfl, _, rfl, iteT ?_⟩
  refine ⟨_, rfl, _, _, _, false, rfl, .int i, rfl, _, rfl, _, rfl, iteT ?_⟩
  refine ⟨_, rfl, _, rfl, rfl, ?_⟩
  show Q (.bl (decide (V.int i = V.int i))) H
  rw [decide_eq_true rfl]; exact k
structure ClsT (K : PySem.W.Frag) (mg : Str → Option Value) (C L c1 c2 : Addr) : Prop where
  mC : mg "NoText" = some (.ref C)
  mL : mg "LandError" = some (.ref L)
  m1 : mg "NoForm" = some (.ref c1)
  m2 : mg "NoEntry" = some (.ref c2)
  xi : XI K C "at"
  ex : PySem.W.exmOne K (.ref C) (.ref C) = some true
  k0 : PySem.W.kitOne K (.ref C) (.ref L) = some true
  k1 : PySem.W.kitOne K (.ref C) (.type "ValueError") = some true
  k2 : PySem.W.kitOne K (.ref C) (.ref c1) = some false
  k3 : PySem.W.kitOne K (.ref C) (.ref c2) = some false
def marksT : List V := [.bl true, .bl true, .bl false, .bl false, .bl true]
def spWhyT : Sp := fun vs H Q _ => ∃ z : Str, vs = [.str z] ∧ z.length ≤ 1000 ∧ (rowR z = none → ∀ p q H', Same H H' → H' p = some (.tup [.ref q, .non]) → H' q = some (.lst marksT) → Q (.ref p) H') ∧
  ∀ k ps, rowR z = some (k, ps) → ∀ p q r H', Same H H' → H' p = some (.tup [.ref q, .ref r]) → H' q = some (.lst []) → H' r = some (.tup (.str k :: ps)) → Q (.ref p) H'
theorem scWhyT : FnScope ["_law_text", "_law_marks", "_law_row", "e"] ["_law_text"] (defScope sWhyT) := ⟨rfl, rfl, rfl, by decide +kernel, rfl, by decide +kernel, by decide +kernel⟩
set_option maxHeartbeats 8000000 in
theorem ok_whyT (F : Fun K "_law_why_text" "_law_why_text" sWhyT f fd) (mi : mg "isinstance" = none) (mv : mg "ValueError" = none) {L c1 c2 : Addr} (cl : ClsT K mg C L c1 c2) {g1 g2 : Addr} {d1 d2 : FuncData}
    (G1 : FnOk P w K mg base (CXA P w) 6 g1 d1 ["text"] (spReadR C)) (M1 : Ms K mg "read_row" g1 d1 ["text"]) (G2 : FnH P w K mg base 1 g2 d2 ["_law_found", "_law_due"] spSameI) (M2 : Ms K mg "_law_same" g2 d2 ["_law_found", "_law_due"]) :
    FnOk P w K mg base CX0 7 f fd ["_law_text"] spWhyT := by
  refine F.ok scWhyT (fun vs H Q E h => ?_) (fun cdv A outer s H vs Q E hr h => ?_)
  · obtain ⟨z, rfl, _⟩ := h
    rfl
  obtain ⟨z, rfl, hz, k0, k1⟩ := h
  refine ⟨_, pss_cons (ps_set (i := 1) scWhyT.nd rfl (Or.inl rfl) (pe_lst pa_nil))
    (pss_cons (ps_set (i := 2) scWhyT.nd rfl (Or.inl rfl) pe_non)
    (pss_cons (ps_tryX (i := 3) (L := C) rfl rfl scWhyT.nd rfl rfl rfl cl.mC
        (fun pn xe E hp => pss_one (ps_set (i := 2) scWhyT.nd rfl (Or.inl rfl) (pe_callS (CX := CXA P w) (E := E) G1 hr rfl M1.m M1.k M1.b .nil hp (pa_cons (pv 0) pa_nil))))
        (fun ea => pss_cons (ps_set (i := 1) scWhyT.nd rfl (Or.inl rfl) (pe_lst (pa_cons (pe_callB (call_isAK (K := K)) rfl mi bt_isinstance (pa_cons (pv 3) (pa_cons (pe_glob rfl cl.mL rfl (v := .ref L)) pa_nil)))
            (pa_cons (pe_callB (call_isAK (K := K)) rfl mi bt_isinstance (pa_cons (pv 3) (pa_cons (pe_bltn rfl mv bt_ValueError rfl (v := .ty "ValueError")) pa_nil))) (pa_cons (pe_callB (call_isAK (K := K)) rfl mi bt_isinstance (pa_cons (pv 3) (pa_cons (pe_glob rfl cl.m1 rfl (v := .ref c1)) pa_nil))) (pa_cons (pe_callB (call_isAK (K := K)) rfl mi bt_isinstance (pa_cons (pv 3) (pa_cons (pe_glob rfl cl.m2 rfl (v := .ref c2)) pa_nil))) pa_nil))))))
          (pss_one (ps_expr (pe_bmK (K := K) PySem.F.plainAttrs_list PySem.F.slot_list_append PySem.F.type_list_append mt_append (pv 1) (pa_cons (pe_callH (ea := ea) G2 (hr.mono (by decide)) rfl rfl M2.m M2.k M2.b (pa_cons (pe_fldAK (K := K) (pv 3) rfl) (pa_cons pe_int pa_nil))) pa_nil))))))
    (pss_one (ps_ret (pe_tup (pa_cons (pv 1) (pa_cons (pv 2) pa_nil))))))), ?_⟩
  refine ⟨small (by simp), fun lm hlm => ?_⟩
  have s1 : Same H (upd H lm (.lst [])) := same_new hlm _
  have m1 : (upd H lm (.lst [])) lm = some (.lst []) := upd_same
  generalize upd H lm (.lst []) = H1 at s1 m1 ⊢
  refine ⟨_, rfl, z, rfl, hz, fun hn d H2 s2 hd => ?_, fun k ps hk p H2 s2 hp => ?_⟩
  · refine ⟨C, d, rfl, rfl, cl.ex, fun ea he => ?_⟩
    have s3 : Same H2 (upd H2 ea (exA C ea d)) := same_new he _
    have e3 : (upd H2 ea (exA C ea d)) ea = some (exA C ea d) := upd_same
    have d3 := s3 _ _ hd
    generalize upd H2 ea (exA C ea d) = H3 at s3 e3 d3 ⊢
    refine ⟨_, rfl, ea, C, d, _, _, rfl, e3, cl.xi.xc, .inr ⟨_, rfl⟩, cl.k0, ?_⟩
    refine ⟨_, rfl, ea, C, d, _, _, rfl, e3, cl.xi.xc, .inl ⟨_, rfl⟩, cl.k1, ?_⟩
    refine ⟨_, rfl, ea, C, d, _, _, rfl, e3, cl.xi.xc, .inr ⟨_, rfl⟩, cl.k2, ?_⟩
    refine ⟨_, rfl, ea, C, d, _, _, rfl, e3, cl.xi.xc, .inr ⟨_, rfl⟩, cl.k3, ?_⟩
    refine ⟨small (by simp), fun q1 h1 => ?_⟩
    have s4 := same_new h1 (.lst [V.bl true, V.bl true, V.bl false, V.bl false])
    have l4 : (upd H3 q1 (.lst [V.bl true, V.bl true, V.bl false, V.bl false])) q1 = some (.lst [V.bl true, V.bl true, V.bl false, V.bl false]) := upd_same
    have e4 := s4 _ _ e3
    have d4 := s4 _ _ d3
    have s14 := (s1.trans s2).trans (s3.trans s4)
    have q10 : H q1 = none := ((s1.trans s2).trans s3).free h1
    generalize upd H3 q1 (.lst [V.bl true, V.bl true, V.bl false, V.bl false]) = H4 at e4 l4 d4 s14 ⊢
    refine ⟨_, rfl, .inl ⟨rfl, _, SqL.of l4⟩, _, rfl, ea, C, d, _, _, rfl, e4, d4, cl.xi, rfl, 1, rfl, q1, _, _, rfl, rfl, l4, small' (by simp), ?_⟩
    have s15 : Same H (upd H4 q1 (.lst ([V.bl true, V.bl true, V.bl false, V.bl false] ++ [V.bl true]))) := same_upd s14 q10
    have l5 : (upd H4 q1 (.lst ([V.bl true, V.bl true, V.bl false, V.bl false] ++ [V.bl true]))) q1 = some (.lst marksT) := upd_same
    generalize upd H4 q1 (.lst ([V.bl true, V.bl true, V.bl false, V.bl false] ++ [V.bl true])) = H5 at s15 l5 ⊢
    refine ⟨_, rfl, _, rfl, small (by simp), fun p hp => ?_⟩
    exact k0 hn p q1 _ (s15.trans (same_new hp _)) upd_same (by rw [upd_ne (ne_of_none l5 hp)]; exact l5)
  · refine ⟨_, rfl, _, rfl, small (by simp), fun t ht => ?_⟩
    have s3 := same_new ht (.tup [.ref lm, .ref p])
    exact k1 k ps hk t lm p _ ((s1.trans s2).trans s3) upd_same (s3 _ _ (s2 _ _ m1)) (s3 _ _ hp)
end
end M

namespace L2
open PySem PySem.Spec PyProof.Rows PySem.W
section
variable {X : Cx} {a b e : Expr} {op : Operator} {p q apos cpos : Pos} {es : List Expr} {te to : TE} {t : TA}
theorem pa_bin (ha : PE X (.BinOp a op b p) te) (hr : PA X es t) : PA X (.BinOp a op b p :: es) (tCons te t) := pa_cons ha hr
theorem pa_sub (ha : PE X (.Subscript a b p) te) (hr : PA X es t) : PA X (.Subscript a b p :: es) (tCons te t) := pa_cons ha hr
theorem pa_cst {c : Const} {j : Nat} (ha : PE X (.Constant c j p) te) (hr : PA X es t) : PA X (.Constant c j p :: es) (tCons te t) := pa_cons ha hr
theorem ix_bin : PlainIx (.BinOp a op b p) := fun _ _ => rfl
theorem r1 (hm : MtR X "str.join" (rJoin X.K)) (ho : PE X a to) (ha : PA X (e :: es) t) 
   (hbase : attributeBase a "join" X.env (eval a X.env) = eval a X.env )
    (hfew : ((backTo cpos (starEach (e :: es) X.env)).all (fun x => !x.1) && (backToKw cpos (keywordEach [] X.env)).all (fun x => x.1.isSome)
      && decide ((e :: es).length + ([] : List Keyword).length + (if ([] : List Keyword).isEmpty then 0 else 1) < 30)) = true )
    (hline : (apos.endLine == cpos.line) = true) (hs : starEach (e :: es) X.env = (false, eval e X.env) :: starEach es X.env ) (hplain : (backTo cpos (starEach es X.env)).any (·.1) = false ) :
    PE X (.Call (.Attribute a "join" apos) (e :: es) [] cpos) (tBM X.K "str" (rJoin X.K) to t) := pe_bm (name := "join") PySem.F.plainAttrs_str PySem.F.slot_str_join PySem.F.type_str_join hm ho ha hbase hfew hline hs hplain
theorem r5 {x : Str} {j : Nat} {o : Pos} : attributeBase (.Constant (.str x) j o) "join" X.env (eval (.Constant (.str x) j o) X.env) = eval (.Constant (.str x) j o) X.env := rfl
theorem r6 {x : Str} {j : Nat} {o : Pos} (ho : PE X (.Constant (.str x) j o) to) (ha : PA X [e] t) 
    (hfew : ((backTo cpos (starEach [e] X.env)).all (fun x => !x.1) && (backToKw cpos (keywordEach [] X.env)).all (fun x => x.1.isSome)
      && decide (([e]).length + ([] : List Keyword).length + (if ([] : List Keyword).isEmpty then 0 else 1) < 30)) = true )
    (hline : (apos.endLine == cpos.line) = true) (hs : starEach [e] X.env = (false, eval e X.env) :: starEach [] X.env ) (hplain : (backTo cpos (starEach [] X.env)).any (·.1) = false ) :
    PE X (.Call (.Attribute (.Constant (.str x) j o) "join" apos) [e] [] cpos) (tBM X.K "str" (rJoin X.K) to t) := r1 mt_join ho ha r5 hfew hline hs hplain
theorem q6 : ((backTo cpos (starEach [.BinOp a op b q] X.env)).all (fun x => !x.1) && (backToKw cpos (keywordEach [] X.env)).all (fun x => x.1.isSome)
      && decide (([Expr.BinOp a op b q]).length + ([] : List Keyword).length + (if ([] : List Keyword).isEmpty then 0 else 1) < 30)) = true := rfl
theorem pe_joinB {x : Str} {j : Nat} (ha : PE X (.BinOp a op b q) te) (hline : (apos.endLine == cpos.line) = true) : PE X (.Call (.Attribute (.Constant (.str x) j p) "join" apos) [.BinOp a op b q] [] cpos) (tBM X.K "str" (rJoin X.K) (tC (.str x)) (tCons te tNil)) :=
  r6 pe_str (pa_bin ha pa_nil) q6 hline rfl rfl

structure WE (X : Cx) (e : Expr) (t : TE) : Prop where
  h : PE X e t
structure WA (X : Cx) (es : List Expr) (t : TA) : Prop where
  h : PA X es t
structure WO (X : Cx) (o : Option Expr) (t : _) : Prop where
  h : PO X o t
structure WS (X : Cx) (st : Stmt) (t : TS) : Prop where
  h : PS X st t
structure WSs (X : Cx) (sts : List Stmt) (t : TS) : Prop where
  h : PSs X sts t
theorem WSs.out {X : Cx} {sts : List Stmt} {D : Ends} {σ : St} {H : Hp} (w : ∃ t, WSs X sts t ∧ t D σ H) : ∃ t, PSs X sts t ∧ t D σ H := by
  obtain ⟨t, ⟨h⟩, k⟩ := w
  exact ⟨t, h, k⟩
theorem we_str {x : Str} {j : Nat} : WE X (.Constant (.str x) j p) (tC (.str x)) := ⟨pe_str⟩
theorem we_int {i : Int} {j : Nat} : WE X (.Constant (.int i) j p) (tC (.int i)) := ⟨pe_int⟩
theorem wv (i : Nat) {x : Str} (hN : X.N[i]? = some x := by rfl) (hv : Vis X.env.scope x := by first | exact Or.inl rfl | exact Or.inr (Or.inl rfl) | exact Or.inr (Or.inr rfl)) (hd : (x == ("__debug__" : Str)) = false := by decide)
    (hcd : (x == ("__classdict__" : Str)) = false := by decide) : WE X (.Name x p) (tVar i) := ⟨pe_var hN hv hd hcd⟩
theorem wo_none : WO X none tNoPart := ⟨po_none⟩
theorem wo_some (h : WE X e te) : WO X (some e) (tPart te) := ⟨po_some h.h⟩
theorem wa_nil : WA X [] tNil := ⟨pa_nil⟩
theorem wa_cst {c : Const} {j : Nat} (ha : WE X (.Constant c j p) te) (hr : WA X es t) : WA X (.Constant c j p :: es) (tCons te t) := ⟨pa_cst ha.h hr.h⟩
theorem wa_sub (ha : WE X (.Subscript a b p) te) (hr : WA X es t) : WA X (.Subscript a b p :: es) (tCons te t) := ⟨pa_sub ha.h hr.h⟩
theorem we_lst (h : WA X es t) : WE X (.List es p) (tLst t) := ⟨pe_lst h.h⟩
theorem we_bin {r : R2} {ta tb : TE} (ho : OpR X (binaryOp op) r) (ha : WE X a ta) (hb : WE X b tb) : WE X (.BinOp a op b p) (tOp r ta tb) := ⟨pe_op ho ha.h hb.h⟩
theorem we_ix {r : R2} {ta tb : TE} (hr : IxR X r) (ha : WE X a ta) (hb : WE X b tb) (hs : PlainIx b) : WE X (.Subscript a b p) (tOp r ta tb) := ⟨pe_ix hr ha.h hb.h hs⟩
theorem ix_cst {c : Const} {j : Nat} : PlainIx (.Constant c j p) := fun _ _ => rfl
theorem we_sl {lo hi : Option Expr} {tl th : _} {r : V → Option Int → Option Int → Hp → VK → Prop} (hr : SlR X r) (he : WE X e te) (hl : WO X lo tl) (hu : WO X hi th) : WE X (.Subscript e (.Slice lo hi none q) p) (tSl r te tl th) := ⟨pe_slice hr he.h hl.h hu.h⟩
theorem we_lenL {x : Str} {p2 : Pos} (hg : Gl X "len") (hm : X.mg "len" = none) (ha : WE X (.Name x p2) te) : WE X (.Call (.Name "len" p) [.Name x p2] [] q) (tCB (fun xs H Q => ∃ p ys, xs = [.ref p] ∧ (SqL X.K H p ys ∨ SqT X.K H p ys) ∧ Q (.int ys.length) H) (tCons te tNil)) :=
  ⟨pe_callB call_len_seq hg hm PySem.boot_len (pa_cons ha.h pa_nil)⟩
theorem we_lenS {x : Str} {p2 : Pos} (hg : Gl X "len") (hm : X.mg "len" = none) (ha : WE X (.Name x p2) te) : WE X (.Call (.Name "len" p) [.Name x p2] [] q) (tCB (fun xs H Q => ∃ z, xs = [V.str z] ∧ z.length ≤ sizeLine ∧ Q (V.int ↑z.length) H) (tCons te tNil)) :=
  ⟨pe_callB call_len_str hg hm PySem.boot_len (pa_cons ha.h pa_nil)⟩
theorem we_join {x : Str} {j : Nat} (ha : WE X (.BinOp a op b q) te) (hline : (apos.endLine == cpos.line) = true) : WE X (.Call (.Attribute (.Constant (.str x) j p) "join" apos) [.BinOp a op b q] [] cpos) (tBM X.K "str" (rJoin X.K) (tC (.str x)) (tCons te tNil)) := ⟨pe_joinB ha.h hline⟩
theorem we_split {x y : Str} {j : Nat} {p2 : Pos} (ho : WE X (.Name y p2) to) (hbase : attributeBase (.Name y p2) "split" X.env (eval (.Name y p2) X.env) = eval (.Name y p2) X.env) (hline : (apos.endLine == cpos.line) = true) : WE X (.Call (.Attribute (.Name y p2) "split" apos) [.Constant (.str x) j p] [] cpos) (tBM X.K "str" rSplit to (tCons (tC (.str x)) tNil)) :=
  ⟨pe_bm (name := "split") PySem.F.plainAttrs_str PySem.F.slot_str_split PySem.F.type_str_split mt_split ho.h (pa_cst pe_str pa_nil) hbase rfl hline⟩
theorem ws_set {i : Nat} {x : Str} {pos pos' : Pos} (hN : X.N.Nodup) (hi : X.N[i]? = some x) (hx : Loc X.env.scope x) (he : WE X e te) (hs : swapsWith e (some (.Name x pos')) pos.line X.env = pure false := by rfl) (hf : X.fn x = true ∨ X.env.scope.names.lookup x = some .local := by first | exact .inl rfl | exact .inr rfl) :
    WS X (.Assign [.Name x pos'] e pos) (tAsg te (gName i)) := ⟨ps_set hN hi hx he.h hs hf⟩
theorem ws_ret (he : WE X e te) : WS X (.Return (some e) p) (tRet te) := ⟨ps_ret he.h⟩
theorem wss_nil : WSs X [] tNext := ⟨pss_nil⟩
theorem wss_one {st : Stmt} {ts : TS} (h : WS X st ts) : WSs X [st] ts := ⟨pss_one h.h⟩
theorem wss_cons {st : Stmt} {sts : List Stmt} {ts us : TS} (h : WS X st ts) (r : WSs X sts us) : WSs X (st :: sts) (tSeq ts us) := ⟨pss_cons h.h r.h⟩
theorem ws_ifq {x : Str} {i : Int} {jj : Nat} {p1 p2 p3 pos : Pos} {A B : List Stmt} {tv : TE} {ts us : TS} {r : R2} (ho : OpR X (compareOp .Eq) r) (hv : WE X (.Name x p1) tv) (ha : WSs X A ts) (hb : WSs X B us) : WS X (.If (.Compare (.Name x p1) [.Eq] [.Constant (.int i) jj p2] p3) A B pos) (tIfS (tTest (tOp r tv (tC (.int i)))) ts us) :=
  ⟨ps_if (pt_cmpR ho hv.h pe_int (nomark _)) ha.h hb.h⟩
theorem we_call1 {CX : CXT} {k : Nat} {f : Addr} {fd : FuncData} {ps : List Str} {sp : Sp} {E : XK} {x : Str} {p1 pos : Pos} (F : FnOk X.prog X.w X.K X.mg X.base CX k f fd ps sp) (hr : Room k X.A) (hg : Gl X x) (hm : X.mg x = some (.ref f)) (hk : PySem.W.keepIn X.K (.ref f) = true) (hb : Binds X.K fd ps []) (hx : Passes CX X E)
    (ha : WE X (.Subscript a b p) te) (hdb : (x == ("__debug__" : Str)) = false := by decide) : WE X (.Call (.Name x p1) [.Subscript a b p] [] pos) (tCall sp [] E (tCons te tNil)) := ⟨pe_call F hr hg hm hk hb .nil hx (pa_sub ha.h pa_nil) hdb⟩
end
end L2

set_option pp.maxSteps 700
namespace M
open PySem L2
section
variable {P : Program} {w : World} {K : PySem.W.Frag} {mg : Str → Option Value} {base : Heap} {f : Addr} {fd : FuncData}

def spBent (K : PySem.W.Frag) : Sp := fun vs H Q _ => ∃ (z : Str) (a : Addr) (ds : List Int) (n : Nat), vs = [.str z, .ref a] ∧ SqL K H a (ds.map V.int) ∧ 4 ≤ ds.length ∧ (∀ v ∈ ds, Okn v) ∧ z.length ≤ n ∧ n ≤ 240 ∧ Asc z ∧ ∀ y H', Same H H' → y.length ≤ 3 * n + 30 → Asc y → Q (.str y) H'
theorem scBent : FnScope ["_law_text", "_law_d", "_law_at", "_law_words", "_law_here", "_law_way", "_law_some"] ["_law_text", "_law_d"] (defScope sBent) := ⟨rfl, rfl, rfl, by decide +kernel, rfl, by decide +kernel, by decide +kernel⟩
set_option maxHeartbeats 4000000 in
theorem ok_bent (F : Fun K "_law_bent_text" "_law_bent_text" sBent f fd) (ml : mg "len" = none) {g1 : Addr} {d1 : FuncData} (G1 : FnOk P w K mg base CX0 1 g1 d1 ["_law_code"] spSign) (M1 : Ms K mg "_law_sign_of" g1 d1 ["_law_code"]) : FnOk P w K mg base CX0 2 f fd ["_law_text", "_law_d"] (spBent K) := by
  refine F.ok scBent (fun vs H Q E h => ?_) (fun cdv A outer s H vs Q E hr h => ?_)
  · obtain ⟨z, a, ds, n, rfl, _⟩ := h
    rfl
  obtain ⟨z, a, ds, n, rfl, hS, h4, hok, hz, hn, hza, k⟩ := h
  refine WSs.out ⟨_, wss_cons (ws_set (i := 2) scBent.nd rfl (Or.inl rfl) (we_bin op_mod (we_ix ix_list (wv 1) we_int ix_cst) (we_bin op_add (we_lenS rfl ml (wv 0)) we_int)))
    (wss_cons (ws_set (i := 3) scBent.nd rfl (Or.inl rfl) (we_split (wv 0) rfl rfl))
    (wss_cons (ws_set (i := 4) scBent.nd rfl (Or.inl rfl) (we_bin op_mod (we_ix ix_list (wv 1) we_int ix_cst) (we_lenL rfl ml (wv 3))))
    (wss_cons (ws_set (i := 5) scBent.nd rfl (Or.inl rfl) (we_bin op_mod (we_ix ix_list (wv 1) we_int ix_cst) we_int))
    (wss_cons (ws_ifq op_eq (wv 5) (wss_one (ws_ret (we_bin op_add_str (we_bin op_add_str (we_sl sl_str (wv 0) wo_none (wo_some (wv 2))) (we_call1 G1 hr rfl M1.m M1.k M1.b pass0 (we_ix ix_list (wv 1) we_int ix_cst))) (we_sl sl_str (wv 0) (wo_some (wv 2)) wo_none)))) wss_nil)
    (wss_cons (ws_ifq op_eq (wv 5) (wss_one (ws_ret (we_bin op_add_str (we_sl sl_str (wv 0) wo_none (wo_some (wv 2))) (we_sl sl_str (wv 0) (wo_some (we_bin op_add (wv 2) we_int)) wo_none)))) wss_nil)
    (wss_cons (ws_ifq op_eq (wv 5) (wss_one (ws_ret (we_bin op_add_str (we_bin op_add_str (we_sl sl_str (wv 0) wo_none (wo_some (wv 2))) (we_call1 G1 hr rfl M1.m M1.k M1.b pass0 (we_ix ix_list (wv 1) we_int ix_cst))) (we_sl sl_str (wv 0) (wo_some (we_bin op_add (wv 2) we_int)) wo_none)))) wss_nil)
    (wss_cons (ws_ifq op_eq (wv 5) (wss_cons (ws_set (i := 6) scBent.nd rfl (Or.inl rfl) (we_lst (wa_cst we_str (wa_cst we_str (wa_cst we_str (wa_cst we_str (wa_cst we_str (wa_cst we_str (wa_cst we_str (wa_cst we_str (wa_cst we_str (wa_sub (we_ix ix_list (wv 3) (we_bin op_mod (we_ix ix_list (wv 1) we_int ix_cst) (we_lenL rfl ml (wv 3))) ix_bin) (wa_cst we_str wa_nil))))))))))))) (wss_one (ws_ret (we_join (we_bin op_cat (we_bin op_cat (we_sl sl_list (wv 3) wo_none (wo_some (wv 4))) (we_lst (wa_sub (we_ix ix_list (wv 6) (we_bin op_mod (we_ix ix_list (wv 1) we_int ix_cst) (we_lenL rfl ml (wv 6))) ix_bin) wa_nil))) (we_sl sl_list (wv 3) (wo_some (we_bin op_add (wv 4) we_int)) wo_none)) rfl)))) wss_nil)
    (wss_cons (ws_ifq op_eq (wv 5) (wss_one (ws_ret (we_join (we_bin op_cat (we_sl sl_list (wv 3) wo_none (wo_some (wv 4))) (we_sl sl_list (wv 3) (wo_some (we_bin op_add (wv 4) we_int)) wo_none)) rfl))) wss_nil)
    (wss_cons (ws_ifq op_eq (wv 5) (wss_one (ws_ret (we_join (we_bin op_cat (we_bin op_cat (we_sl sl_list (wv 3) wo_none (wo_some (wv 4))) (we_sl sl_list (wv 3) (wo_some (wv 4)) (wo_some (we_bin op_add (wv 4) we_int)))) (we_sl sl_list (wv 3) (wo_some (wv 4)) wo_none)) rfl))) wss_nil)
    (wss_cons (ws_ifq op_eq (wv 5) (wss_one (ws_ret (we_bin op_add_str (wv 0) (we_ix ix_list (we_lst (wa_cst we_str (wa_cst we_str (wa_cst we_str (wa_cst we_str wa_nil))))) (we_bin op_mod (we_ix ix_list (wv 1) we_int ix_cst) we_int) ix_bin)))) wss_nil)
    (wss_one (ws_ret (wv 0))))))))))))), ?_⟩
  obtain ⟨v0, e0, o0⟩ := fs_at hok (i := 0) (by decide) (by omega)
  obtain ⟨v1, e1, o1⟩ := fs_at hok (i := 1) (by decide) (by omega)
  obtain ⟨v2, e2, o2⟩ := fs_at hok (i := 2) (by decide) (by omega)
  obtain ⟨v3, e3, o3⟩ := fs_at hok (i := 3) (by decide) (by omega)
  have zs : z.length ≤ sizeLine := small (by omega)
  have two : ∀ i : Nat, i ≤ 2000 → i ≤ sizeLine := fun i hi => by have := small (n := 2000) (by omega); omega
  refine ⟨_, rfl, a, _, _, _, rfl, rfl, hS, e1, _, rfl, z, rfl, zs, _, _, rfl, rfl, _, _, rfl, rfl, (by show (0 : Int) < ((z.length : Nat) : Int) + 1; omega), ?_⟩
  dsimp only [gName]
  generalize v1 % (((z.length : Nat) : Int) + 1) = at_
  refine ⟨_, rfl, rfl, _, _, rfl, rfl, (by decide +kernel), (by have := small (n := 2000) (by omega); omega), fun p hp => ?_⟩
  have ew : Txt.split z (Str.ofString " ") = wds z := rfl
  rw [ew]
  have s1 : Same H (upd H p (.lst ((wds z).map V.str))) := same_new hp _
  have p1 : (upd H p (.lst ((wds z).map V.str))) p = some (.lst ((wds z).map V.str)) := upd_same
  generalize upd H p (.lst ((wds z).map V.str)) = H1 at s1 p1 ⊢
  have wl : 0 < (wds z).length := List.length_pos_iff.mpr (wds_ne z)
  have wj := wds_jl z
  have S1 := s1.seq hS
  have wa : ∀ t ∈ wds z, Asc t := fun t ht => wds_asc hza ht
  have cut_jl : ∀ lo hi, jl (cutG (wds z) lo hi) ≤ n + 1 := fun lo hi => Nat.le_trans (jl_cut _ _ _) (by omega)
  have cut_a : ∀ lo hi, ∀ t ∈ cutG (wds z) lo hi, Asc t := fun lo hi t ht => wa t (cutG_mem ht)
  have cut_l : ∀ lo hi, (cutG (wds z) lo hi).length ≤ n + 1 := fun lo hi => Nat.le_trans (jl_len _) (cut_jl lo hi)
  refine ⟨_, rfl, a, _, _, _, rfl, rfl, S1, e1, _, rfl, p, _, rfl, .inl (SqL.of p1), _, _, rfl, rfl, (by show (0 : Int) < (((wds z).map V.str).length : Int); rw [List.length_map]; omega), ?_⟩
  dsimp only [gName]
  generalize v1 % (((wds z).map V.str).length : Int) = he
  refine ⟨_, rfl, a, _, _, _, rfl, rfl, S1, e0, _, _, rfl, rfl, (by show (0 : Int) < 8; decide), ?_⟩
  dsimp only [gName]
  generalize v0 % 8 = way
  refine ⟨_, rfl, rfl, _, rfl, ?_⟩
  refine ite2 (fun c => ?_) (fun c => ?_)
  · -- a sign put in
    refine ⟨_, rfl, _, rfl, _, rfl, z, rfl, zs, _, rfl, a, _, _, _, rfl, rfl, S1, e2, _, rfl, fun y hy1 hya => ⟨_, _, rfl, rfl, two _ ?_, _, rfl, _, rfl, _, rfl, z, rfl, zs, _, _, rfl, rfl, two _ ?_, k _ _ s1 ?_ ?_⟩⟩
    · have := len_cut z none (some at_); omega
    · have := len_cut z none (some at_); have := len_cut z (some at_) none; rw [Str.length_append]; omega
    · have := len_cut z none (some at_); have := len_cut z (some at_) none; rw [Str.length_append, Str.length_append]; omega
    · exact asc_app (asc_app (asc_cut hza _ _) hya) (asc_cut hza _ _)
  refine ⟨_, rfl, rfl, _, rfl, ?_⟩
  refine ite2 (fun c => ?_) (fun c => ?_)
  · -- one out
    refine ⟨_, rfl, _, rfl, _, rfl, z, rfl, zs, _, rfl, _, rfl, _, _, rfl, rfl, _, rfl, z, rfl, zs, _, _, rfl, rfl, two _ ?_, k _ _ s1 ?_ ?_⟩
    · have := len_cut z none (some at_); have := len_cut z (some (at_ + 1)) none; omega
    · have := len_cut z none (some at_); have := len_cut z (some (at_ + 1)) none; rw [Str.length_append]; omega
    · exact asc_app (asc_cut hza _ _) (asc_cut hza _ _)
  refine ⟨_, rfl, rfl, _, rfl, ?_⟩
  refine ite2 (fun c => ?_) (fun c => ?_)
  · -- one in another's place
    refine ⟨_, rfl, _, rfl, _, rfl, z, rfl, zs, _, rfl, a, _, _, _, rfl, rfl, S1, e2, _, rfl, fun y hy1 hya => ⟨_, _, rfl, rfl, two _ ?_, _, rfl, _, rfl, _, _, rfl, rfl, _, rfl, z, rfl, zs, _, _, rfl, rfl, two _ ?_, k _ _ s1 ?_ ?_⟩⟩
    · have := len_cut z none (some at_); omega
    · have := len_cut z none (some at_); have := len_cut z (some (at_ + 1)) none; rw [Str.length_append]; omega
    · have := len_cut z none (some at_); have := len_cut z (some (at_ + 1)) none; rw [Str.length_append, Str.length_append]; omega
    · exact asc_app (asc_app (asc_cut hza _ _) hya) (asc_cut hza _ _)
  refine ⟨_, rfl, rfl, _, rfl, ?_⟩
  refine ite2 (fun c => ?_) (fun c => ?_)
  · -- another word in a word's place
    have ml0 : (0 : Int) < (((wds z).map V.str).length : Int) := by rw [List.length_map]; omega
    obtain ⟨t3, ht3, mt3⟩ : ∃ t3 : Str, atI ((wds z).map V.str) (v3 % (((wds z).map V.str).length : Int)) = some (.str t3) ∧ t3 ∈ wds z := by
      obtain ⟨v, e, m⟩ := at_some (xs := (wds z).map V.str) (i := v3 % (((wds z).map V.str).length : Int)) (Int.emod_nonneg _ (by omega)) (Int.emod_lt_of_pos _ ml0)
      obtain ⟨t, ht, rfl⟩ := List.mem_map.mp m
      exact ⟨t, e, ht⟩
    have t3l : t3.length ≤ n := Nat.le_trans (wds_le mt3) hz
    refine ⟨_, rfl, _, rfl, a, _, _, _, rfl, rfl, S1, e3, _, rfl, p, _, rfl, .inl (SqL.of p1), _, _, rfl, rfl, ml0, p, _, _, _, rfl, rfl, SqL.of p1, ht3, small (by simp), fun l hl => ?_⟩
    have ss := same_new hl (.lst [V.str "", V.str "-", V.str "00", V.str "10000", V.str "0", V.str "1000000", V.str "Ann", V.str "grant", V.str "abcdefghi", V.str t3, V.str "007"])
    have l2 : (upd H1 l (.lst [V.str "", V.str "-", V.str "00", V.str "10000", V.str "0", V.str "1000000", V.str "Ann", V.str "grant", V.str "abcdefghi", V.str t3, V.str "007"])) l = some (.lst [V.str "", V.str "-", V.str "00", V.str "10000", V.str "0", V.str "1000000", V.str "Ann", V.str "grant", V.str "abcdefghi", V.str t3, V.str "007"]) := upd_same
    have p2 := ss _ _ p1
    have s12 := s1.trans ss
    have S2 := ss.seq S1
    clear ss
    generalize upd H1 l (.lst [V.str "", V.str "-", V.str "00", V.str "10000", V.str "0", V.str "1000000", V.str "Ann", V.str "grant", V.str "abcdefghi", V.str t3, V.str "007"]) = H2 at s12 l2 p2 S2 ⊢
    obtain ⟨y, hy, hyl, hya⟩ : ∃ y : Str, atI [V.str "", V.str "-", V.str "00", V.str "10000", V.str "0", V.str "1000000", V.str "Ann", V.str "grant", V.str "abcdefghi", V.str t3, V.str "007"] (v2 % (([V.str "", V.str "-", V.str "00", V.str "10000", V.str "0", V.str "1000000", V.str "Ann", V.str "grant", V.str "abcdefghi", V.str t3, V.str "007"] : List V).length : Int)) = some (.str y) ∧ y.length ≤ n + 9 ∧ Asc y := by
      obtain ⟨v, e, m⟩ := at_some (xs := [V.str "", V.str "-", V.str "00", V.str "10000", V.str "0", V.str "1000000", V.str "Ann", V.str "grant", V.str "abcdefghi", V.str t3, V.str "007"]) (i := v2 % (([V.str "", V.str "-", V.str "00", V.str "10000", V.str "0", V.str "1000000", V.str "Ann", V.str "grant", V.str "abcdefghi", V.str t3, V.str "007"] : List V).length : Int)) (Int.emod_nonneg _ (by show (11 : Int) ≠ 0; decide)) (Int.emod_lt_of_pos _ (by show (0 : Int) < 11; decide))
      simp only [List.mem_cons, List.not_mem_nil, or_false] at m
      have cc : ∀ x : Str, x.length ≤ 9 → x.cps.toList.all (fun c => decide (c < 128)) = true → v = .str x → ∃ y : Str, atI [V.str "", V.str "-", V.str "00", V.str "10000", V.str "0", V.str "1000000", V.str "Ann", V.str "grant", V.str "abcdefghi", V.str t3, V.str "007"] (v2 % (([V.str "", V.str "-", V.str "00", V.str "10000", V.str "0", V.str "1000000", V.str "Ann", V.str "grant", V.str "abcdefghi", V.str t3, V.str "007"] : List V).length : Int)) = some (.str y) ∧ y.length ≤ n + 9 ∧ Asc y := fun x h1 h2 h3 => by subst h3; exact ⟨x, e, by omega, asc_small h2⟩
      rcases m with h | h | h | h | h | h | h | h | h | h | h
      · exact cc _ (by decide +kernel) (by decide +kernel) h
      · exact cc _ (by decide +kernel) (by decide +kernel) h
      · exact cc _ (by decide +kernel) (by decide +kernel) h
      · exact cc _ (by decide +kernel) (by decide +kernel) h
      · exact cc _ (by decide +kernel) (by decide +kernel) h
      · exact cc _ (by decide +kernel) (by decide +kernel) h
      · exact cc _ (by decide +kernel) (by decide +kernel) h
      · exact cc _ (by decide +kernel) (by decide +kernel) h
      · exact cc _ (by decide +kernel) (by decide +kernel) h
      · subst h; exact ⟨t3, e, by omega, wa t3 mt3⟩
      · exact cc _ (by decide +kernel) (by decide +kernel) h
    refine ⟨rfl, _, rfl, _, rfl, _, rfl, p, _, rfl, SqL.of p2, fun q1 h1 => ?_⟩
    rw [cutV_map]
    have ss := same_new h1 (.lst ((cutG (wds z) none (some he)).map V.str))
    have c3 : (upd H2 q1 (.lst ((cutG (wds z) none (some he)).map V.str))) q1 = some (.lst ((cutG (wds z) none (some he)).map V.str)) := upd_same
    have p3 := ss _ _ p2
    have l3 := ss _ _ l2
    have s13 := s12.trans ss
    have S3 := ss.seq S2
    clear ss
    generalize upd H2 q1 (.lst ((cutG (wds z) none (some he)).map V.str)) = H3 at s13 c3 p3 l3 S3 ⊢
    refine ⟨_, rfl, _, rfl, a, _, _, _, rfl, rfl, S3, e2, _, rfl, l, _, rfl, .inl (SqL.of l3), _, _, rfl, rfl, (by show (0 : Int) < 11; decide), l, _, _, _, rfl, rfl, SqL.of l3, hy, small (by simp), fun q2 h2 => ?_⟩
    have ss := same_new h2 (.lst [V.str y])
    have d4 : (upd H3 q2 (.lst [V.str y])) q2 = some (.lst [V.str y]) := upd_same
    have p4 := ss _ _ p3
    have c4 := ss _ _ c3
    have s14 := s13.trans ss
    clear ss
    generalize upd H3 q2 (.lst [V.str y]) = H4 at s14 d4 p4 c4 ⊢
    refine ⟨q1, q2, _, _, rfl, rfl, c4, d4, two _ (by rw [List.length_map, List.length_singleton]; have := cut_l none (some he); omega), fun q3 h3 => ?_⟩
    have em : (cutG (wds z) none (some he)).map V.str ++ [V.str y] = (cutG (wds z) none (some he) ++ [y]).map V.str := by simp
    rw [em]
    have ss := same_new h3 (.lst ((cutG (wds z) none (some he) ++ [y]).map V.str))
    have e5 : (upd H4 q3 (.lst ((cutG (wds z) none (some he) ++ [y]).map V.str))) q3 = some (.lst ((cutG (wds z) none (some he) ++ [y]).map V.str)) := upd_same
    have p5 := ss _ _ p4
    have s15 := s14.trans ss
    clear ss
    generalize upd H4 q3 (.lst ((cutG (wds z) none (some he) ++ [y]).map V.str)) = H5 at s15 e5 p5 ⊢
    refine ⟨_, rfl, _, rfl, _, _, rfl, rfl, _, rfl, p, _, rfl, SqL.of p5, fun q4 h4' => ?_⟩
    rw [cutV_map]
    have ss := same_new h4' (.lst ((cutG (wds z) (some (he + 1)) none).map V.str))
    have f6 : (upd H5 q4 (.lst ((cutG (wds z) (some (he + 1)) none).map V.str))) q4 = some (.lst ((cutG (wds z) (some (he + 1)) none).map V.str)) := upd_same
    have e6 := ss _ _ e5
    have s16 := s15.trans ss
    clear ss
    generalize upd H5 q4 (.lst ((cutG (wds z) (some (he + 1)) none).map V.str)) = H6 at s16 f6 e6 ⊢
    refine ⟨q3, q4, _, _, rfl, rfl, e6, f6, two _ (by rw [List.length_map, List.length_map, List.length_append, List.length_singleton]; have := cut_l none (some he); have := cut_l (some (he + 1)) none; omega), fun q5 h5 => ?_⟩
    rw [← List.map_append]
    have s7 := same_new h5 (.lst ((cutG (wds z) none (some he) ++ [y] ++ cutG (wds z) (some (he + 1)) none).map V.str))
    have j1 : jl [y] = y.length + 1 := rfl
    have j7 : jl (cutG (wds z) none (some he) ++ [y] ++ cutG (wds z) (some (he + 1)) none) ≤ 3 * n + 30 := by rw [jl_append, jl_append, j1]; have := cut_jl none (some he); have := cut_jl (some (he + 1)) none; omega
    refine ⟨_, q5, _, rfl, rfl, SqL.of upd_same, join_fitJ (by omega), k _ _ (s16.trans s7) (Nat.le_trans (join_lenJ _) j7) (join_asc fun t ht => ?_)⟩
    rcases List.mem_append.mp ht with ht | ht
    · rcases List.mem_append.mp ht with ht | ht
      · exact cut_a _ _ t ht
      · rw [List.mem_singleton.mp ht]; exact hya
    · exact cut_a _ _ t ht
  refine ⟨_, rfl, rfl, _, rfl, ?_⟩
  refine ite2 (fun c => ?_) (fun c => ?_)
  · -- a word out
    refine ⟨rfl, _, rfl, _, rfl, _, rfl, p, _, rfl, SqL.of p1, fun q1 h1 => ?_⟩
    rw [cutV_map]
    have s2 := same_new h1 (.lst ((cutG (wds z) none (some he)).map V.str))
    have c2 : (upd H1 q1 (.lst ((cutG (wds z) none (some he)).map V.str))) q1 = some (.lst ((cutG (wds z) none (some he)).map V.str)) := upd_same
    have p2 := s2 _ _ p1
    have s12 := s1.trans s2
    generalize upd H1 q1 (.lst ((cutG (wds z) none (some he)).map V.str)) = H2 at s12 c2 p2 ⊢
    refine ⟨_, rfl, _, rfl, _, _, rfl, rfl, _, rfl, p, _, rfl, SqL.of p2, fun q2 h2 => ?_⟩
    rw [cutV_map]
    have s3 := same_new h2 (.lst ((cutG (wds z) (some (he + 1)) none).map V.str))
    have d3 : (upd H2 q2 (.lst ((cutG (wds z) (some (he + 1)) none).map V.str))) q2 = some (.lst ((cutG (wds z) (some (he + 1)) none).map V.str)) := upd_same
    have c3 := s3 _ _ c2
    have s13 := s12.trans s3
    generalize upd H2 q2 (.lst ((cutG (wds z) (some (he + 1)) none).map V.str)) = H3 at s13 c3 d3 ⊢
    refine ⟨q1, q2, _, _, rfl, rfl, c3, d3, two _ (by rw [List.length_map, List.length_map]; have := cut_l none (some he); have := cut_l (some (he + 1)) none; omega), fun q3 h3 => ?_⟩
    rw [← List.map_append]
    have s4 := same_new h3 (.lst ((cutG (wds z) none (some he) ++ cutG (wds z) (some (he + 1)) none).map V.str))
    have j4 : jl (cutG (wds z) none (some he) ++ cutG (wds z) (some (he + 1)) none) ≤ 3 * n + 30 := by rw [jl_append]; have := cut_jl none (some he); have := cut_jl (some (he + 1)) none; omega
    refine ⟨_, q3, _, rfl, rfl, SqL.of upd_same, join_fitJ (by omega), k _ _ (s13.trans s4) (Nat.le_trans (join_lenJ _) j4) (join_asc fun t ht => ?_)⟩
    rcases List.mem_append.mp ht with ht | ht
    · exact cut_a _ _ t ht
    · exact cut_a _ _ t ht
  refine ⟨_, rfl, rfl, _, rfl, ?_⟩
  refine ite2 (fun c => ?_) (fun c => ?_)
  · -- a word twice
    refine ⟨rfl, _, rfl, _, rfl, _, rfl, p, _, rfl, SqL.of p1, fun q1 h1 => ?_⟩
    rw [cutV_map]
    have ss := same_new h1 (.lst ((cutG (wds z) none (some he)).map V.str))
    have c2 : (upd H1 q1 (.lst ((cutG (wds z) none (some he)).map V.str))) q1 = some (.lst ((cutG (wds z) none (some he)).map V.str)) := upd_same
    have p2 := ss _ _ p1
    have s12 := s1.trans ss
    clear ss
    generalize upd H1 q1 (.lst ((cutG (wds z) none (some he)).map V.str)) = H2 at s12 c2 p2 ⊢
    refine ⟨_, rfl, _, rfl, _, rfl, _, rfl, _, _, rfl, rfl, _, rfl, p, _, rfl, SqL.of p2, fun q2 h2 => ?_⟩
    rw [cutV_map]
    have ss := same_new h2 (.lst ((cutG (wds z) (some he) (some (he + 1))).map V.str))
    have d3 : (upd H2 q2 (.lst ((cutG (wds z) (some he) (some (he + 1))).map V.str))) q2 = some (.lst ((cutG (wds z) (some he) (some (he + 1))).map V.str)) := upd_same
    have p3 := ss _ _ p2
    have c3 := ss _ _ c2
    have s13 := s12.trans ss
    clear ss
    generalize upd H2 q2 (.lst ((cutG (wds z) (some he) (some (he + 1))).map V.str)) = H3 at s13 d3 p3 c3 ⊢
    refine ⟨q1, q2, _, _, rfl, rfl, c3, d3, two _ (by rw [List.length_map, List.length_map]; have := cut_l none (some he); have := cut_l (some he) (some (he + 1)); omega), fun q3 h3 => ?_⟩
    rw [← List.map_append]
    have ss := same_new h3 (.lst ((cutG (wds z) none (some he) ++ cutG (wds z) (some he) (some (he + 1))).map V.str))
    have e4 : (upd H3 q3 (.lst ((cutG (wds z) none (some he) ++ cutG (wds z) (some he) (some (he + 1))).map V.str))) q3 = some (.lst ((cutG (wds z) none (some he) ++ cutG (wds z) (some he) (some (he + 1))).map V.str)) := upd_same
    have p4 := ss _ _ p3
    have s14 := s13.trans ss
    clear ss
    generalize upd H3 q3 (.lst ((cutG (wds z) none (some he) ++ cutG (wds z) (some he) (some (he + 1))).map V.str)) = H4 at s14 e4 p4 ⊢
    refine ⟨_, rfl, _, rfl, _, rfl, p, _, rfl, SqL.of p4, fun q4 h4' => ?_⟩
    rw [cutV_map]
    have ss := same_new h4' (.lst ((cutG (wds z) (some he) none).map V.str))
    have f5 : (upd H4 q4 (.lst ((cutG (wds z) (some he) none).map V.str))) q4 = some (.lst ((cutG (wds z) (some he) none).map V.str)) := upd_same
    have e5 := ss _ _ e4
    have s15 := s14.trans ss
    clear ss
    generalize upd H4 q4 (.lst ((cutG (wds z) (some he) none).map V.str)) = H5 at s15 f5 e5 ⊢
    refine ⟨q3, q4, _, _, rfl, rfl, e5, f5, two _ (by rw [List.length_map, List.length_map, List.length_append]; have := cut_l none (some he); have := cut_l (some he) (some (he + 1)); have := cut_l (some he) none; omega), fun q5 h5 => ?_⟩
    rw [← List.map_append]
    have s6 := same_new h5 (.lst ((cutG (wds z) none (some he) ++ cutG (wds z) (some he) (some (he + 1)) ++ cutG (wds z) (some he) none).map V.str))
    have j6 : jl (cutG (wds z) none (some he) ++ cutG (wds z) (some he) (some (he + 1)) ++ cutG (wds z) (some he) none) ≤ 3 * n + 30 := by rw [jl_append, jl_append]; have := cut_jl none (some he); have := cut_jl (some he) (some (he + 1)); have := cut_jl (some he) none; omega
    refine ⟨_, q5, _, rfl, rfl, SqL.of upd_same, join_fitJ (by omega), k _ _ (s15.trans s6) (Nat.le_trans (join_lenJ _) j6) (join_asc fun t ht => ?_)⟩
    rcases List.mem_append.mp ht with ht | ht
    · rcases List.mem_append.mp ht with ht | ht
      · exact cut_a _ _ t ht
      · exact cut_a _ _ t ht
    · exact cut_a _ _ t ht
  refine ⟨_, rfl, rfl, _, rfl, ?_⟩
  refine ite2 (fun c => ?_) (fun c => ?_)
  · -- something behind
    refine ⟨_, rfl, small (by simp), fun l hl => ?_⟩
    have ss := same_new hl (.lst [V.str "\n", V.str " ", V.str "  x", V.str ""])
    have hat : ∃ y : Str, atI [V.str "\n", V.str " ", V.str "  x", V.str ""] (v2 % 4) = some (.str y) ∧ y.length ≤ 9 ∧ Asc y := by
      obtain ⟨v, e, m⟩ := at_some (xs := [V.str "\n", V.str " ", V.str "  x", V.str ""]) (i := v2 % 4) (Int.emod_nonneg _ (by decide)) (by have := Int.emod_lt_of_pos v2 (show (0 : Int) < 4 by decide); exact this)
      simp only [List.mem_cons, List.not_mem_nil, or_false] at m
      rcases m with rfl | rfl | rfl | rfl
      · exact ⟨_, e, by decide +kernel, asc_small (by decide +kernel)⟩
      · exact ⟨_, e, by decide +kernel, asc_small (by decide +kernel)⟩
      · exact ⟨_, e, by decide +kernel, asc_small (by decide +kernel)⟩
      · exact ⟨_, e, by decide +kernel, asc_small (by decide +kernel)⟩
    obtain ⟨y, hy, hyl, hya⟩ := hat
    refine ⟨_, rfl, a, _, _, _, rfl, rfl, ss.seq S1, e2, _, _, rfl, rfl, (by show (0 : Int) < 4; decide), l, _, _, _, rfl, rfl, SqL.of upd_same, hy, _, _, rfl, rfl, two _ (by omega), k _ _ (s1.trans ss) (by rw [Str.length_append]; omega) (asc_app hza hya)⟩
  exact ⟨_, rfl, k _ _ s1 (by omega) hza⟩
end
end M

namespace M
open PySem L2

theorem kind_word {k : Str} {l : List Srt} (h : form k = some l) : wordOf (.str k) = k ∧ k.length ≤ 9 ∧ k.cps.toList.all (fun c => decide (c < 128)) = true := by
  have h0 := form_cases h
  have all : ∀ p ∈ forms, wordOf (.str p.1) = p.1 ∧ p.1.length ≤ 9 ∧ p.1.cps.toList.all (fun c => decide (c < 128)) = true := by decide +kernel
  exact all _ h0
theorem wm_fit {k : Str} {rest : List V} (h : wmR k rest = true) : ∃ l, form k = some l ∧ rest.length = l.length ∧ fitR l rest := by
  unfold wmR at h
  cases hf : form k with
  | none => rw [hf] at h; cases h
  | some l =>
    rw [hf] at h
    have h' : (decide (rest.length = l.length) && (((l.zip rest).all fitP) && !(two k && decide (rest[1]? = rest[2]?)))) = true := h
    rw [Bool.and_eq_true, Bool.and_eq_true] at h'
    refine ⟨l, rfl, of_decide_eq_true h'.1, fun i s v e1 e2 => ?_⟩
    exact List.all_eq_true.mp h'.2.1 (s, v) (List.mem_of_getElem? (zip_at e1 e2))
theorem fit_each {l : List Srt} {rest : List V} (h : fitR l rest) (hl : rest.length = l.length) : ∀ v ∈ rest, okW v := by
  intro v hv
  obtain ⟨i, hi⟩ := List.mem_iff_getElem?.mp hv
  have hil : i < rest.length := (List.getElem?_eq_some_iff.mp hi).1
  exact okW_fit (h i _ v (List.getElem?_eq_getElem (show i < l.length by omega)) hi)
theorem log_small {n : Int} (h0 : 0 ≤ n) (h1 : n ≤ 9999) : n.natAbs.log2 < 1920 := by
  have h2 : n.natAbs ≤ 9999 := by omega
  by_cases h : n.natAbs = 0
  · rw [h]; decide
  · have : n.natAbs.log2 < 14 := (Nat.log2_lt h).mpr (by omega)
    omega
theorem low_asc {c : Nat} (h : low c = true) : c < 128 := by
  unfold low at h
  rw [Bool.and_eq_true] at h
  have := of_decide_eq_true h.2
  omega
theorem word9 {s : Srt} {v : V} (h : fitB s v = true) : (wordOf v).length ≤ 9 ∧ Asc (wordOf v) := by
  have nm : ∀ z : Str, nameB z.cps.toList = true → (wordOf (.str z)).length ≤ 9 ∧ Asc (wordOf (.str z)) := fun z hz => by
    have ne : z ≠ "" := fun e => by rw [e] at hz; exact absurd hz (by decide +kernel)
    have ew : wordOf (.str z) = z := by show (if z = "" then ("-" : Str) else z) = z; rw [if_neg ne]
    rw [ew]
    unfold nameB at hz
    rw [Bool.and_eq_true, Bool.and_eq_true] at hz
    obtain ⟨h1, h2, h3⟩ := hz
    have h3' := of_decide_eq_true h3
    exact ⟨by rw [len_l]; omega, fun c hc => low_asc (List.all_eq_true.mp h1 c hc)⟩
  have nu : ∀ n : Int, 0 ≤ n → n ≤ 9999 → (wordOf (.int n)).length ≤ 9 ∧ Asc (wordOf (.int n)) := fun n h0 h1 => by
    have w := num_w h0 h1
    refine ⟨?_, fun c hc => ?_⟩
    · have := w.l6
      show (Str.ofString (toString n)).length ≤ 9
      rw [len_l]; omega
    · have := List.all_eq_true.mp w.dg c hc
      unfold dig at this
      rw [Bool.and_eq_true] at this
      have := of_decide_eq_true this.2
      omega
  rcases okW_fit h with ⟨n, rfl, h0, h1⟩ | ⟨z, rfl, hz⟩
  · exact nu n h0 h1
  · by_cases e : z = ""
    · subst e
      exact ⟨by decide +kernel, asc_small (by decide +kernel)⟩
    · refine nm z ?_
      cases s <;> first | cases h | skip
      · exact h
      · unfold fitB at h
        rw [Bool.or_eq_true] at h
        rcases h with h | h
        · exact absurd (of_decide_eq_true h) e
        · exact h
theorem jl_nine : ∀ {ts : List Str}, (∀ t ∈ ts, t.length ≤ 9) → jl ts ≤ 10 * ts.length
  | [], _ => Nat.le_refl _
  | t :: r, h => by
    have h1 := h t List.mem_cons_self
    have h2 := jl_nine (ts := r) fun u hu => h u (List.mem_cons_of_mem _ hu)
    unfold jl at h2 ⊢
    rw [List.map_cons, List.sum_cons, List.length_cons]
    omega
section
variable {P : Program} {w : World} {K : PySem.W.Frag} {mg : Str → Option Value} {base : Heap} {f : Addr} {fd : FuncData}
def spText (K : PySem.W.Frag) : Sp := fun vs H Q _ => ∃ a k rest, vs = [.ref a] ∧ SqT K H a (.str k :: rest) ∧ wmR k rest = true ∧ ∀ y H', Same H H' → y.length ≤ 70 → Asc y → Q (.str y) H'
def spWordOf : Sp := fun vs H Q _ => ∃ v, vs = [v] ∧ ((∃ n, v = .int n ∧ 0 ≤ n ∧ n ≤ 9999) ∨ ∃ z : Str, v = .str z) ∧ Q (.str (wordOf v)) H
theorem scWordOf : FnScope ["_law_thing"] ["_law_thing"] (defScope sWordOf) := ⟨rfl, rfl, rfl, by decide +kernel, rfl, by decide +kernel, by decide +kernel⟩
theorem ok_wordof (F : Fun K "_law_word_of" "_law_word_of" sWordOf f fd) (ms : mg "str" = none) : FnOk P w K mg base CX0 1 f fd ["_law_thing"] spWordOf := by
  refine F.ok scWordOf (fun vs H Q E h => ?_) (fun cdv A outer s H vs Q E hr h => ?_)
  · obtain ⟨v, rfl, _⟩ := h
    rfl
  obtain ⟨v, rfl, hv, k⟩ := h
  refine ⟨_, pss_cons (ps_if (pt_cmpR op_eq (pv 0) pe_str (nomark _)) (pss_one (ps_ret pe_str)) pss_nil) (pss_one (ps_ret (pe_callTy call_strA rfl ms bt_str (pa_cons (pv 0) pa_nil)))), ?_⟩
  rcases hv with ⟨n, rfl, h0, h1⟩ | ⟨z, rfl⟩
  · refine ⟨_, rfl, rfl, _, rfl, iteF ?_⟩
    exact ⟨_, rfl, .inl ⟨n, rfl, log_small h0 h1, k⟩⟩
  · have e0 : wordOf (.str z) = (if z = "" then ("-" : Str) else z) := rfl
    rw [e0] at k
    refine ⟨_, rfl, rfl, _, rfl, ?_⟩
    refine ite2 (fun h => ?_) (fun h => ?_)
    · have e : z = "" := by
        have := of_decide_eq_true h
        injection this
      rw [if_pos e] at k
      exact k
    · have e : ¬ z = "" := fun e => h (by rw [e]; rfl)
      rw [if_neg e] at k
      exact ⟨_, rfl, .inr ⟨z, rfl, k⟩⟩
theorem scTextOf : FnScope ["_law_row"] ["_law_row"] (defScope sTextOf) := ⟨rfl, rfl, rfl, by decide +kernel, rfl, by decide +kernel, by decide +kernel⟩
def scT1 : Scope := { kind := .function, names := [(".0", .local), ("_law_thing", .local), ("_law_word_of", .globalImplicit)], isGenerator := false, isCoroutine := false }
theorem csT1 : CScope ["_law_row"] (defScope sTextOf) scT1 ["_law_thing"] [] [] := ⟨rfl, by decide +kernel, by decide +kernel, by decide +kernel, rfl, by decide +kernel⟩
theorem ndT1 : ((["_law_thing"] : List Str) ++ ([] : List Str)).Nodup := by decide +kernel
set_option maxHeartbeats 4000000 in
theorem ok_textof (F : Fun K "_law_text_of" "_law_text_of" sTextOf f fd) {g1 : Addr} {d1 : FuncData} (G1 : FnOk P w K mg base CX0 1 g1 d1 ["_law_thing"] spWordOf) (M1 : Ms K mg "_law_word_of" g1 d1 ["_law_thing"]) : FnOk P w K mg base CX0 2 f fd ["_law_row"] (spText K) := by
  refine F.ok scTextOf (fun vs H Q E h => ?_) (fun cdv A outer s H vs Q E hr h => ?_)
  · obtain ⟨a, k, rest, rfl, _⟩ := h
    rfl
  obtain ⟨a, k, rest, rfl, hS, hw, kk⟩ := h
  refine ⟨_, pss_one (ps_ret (pe_bm PySem.F.plainAttrs_str PySem.F.slot_str_join PySem.F.type_str_join mt_join pe_str (pa_cons
        (pe_comp rfl csT1 (pi_tup (pv 0))
          (fun s H fp C => ⟨pg_name (i := 0) ndT1 rfl (Or.inl rfl), pts_nil, pe_call G1 hr rfl M1.m M1.k M1.b .nil pass0 (pa_cons (pv 0) pa_nil)⟩)) pa_nil))), ?_⟩
  obtain ⟨l, hf, hl, hft⟩ := wm_fit hw
  obtain ⟨l2, l6⟩ := form_len hf
  obtain ⟨hkw, hkl, hkf⟩ := kind_word hf
  have hok := fit_each hft hl
  have hall : ∀ v ∈ V.str k :: rest, (∃ n, v = .int n ∧ 0 ≤ n ∧ n ≤ 9999) ∨ ∃ z : Str, v = .str z := by
    intro v hv
    rcases List.mem_cons.mp hv with e | hv
    · exact .inr ⟨k, e⟩
    · rcases hok v hv with h | ⟨z, e, _⟩
      · exact .inl h
      · exact .inr ⟨z, e⟩
  refine ⟨rfl, _, rfl, a, rfl, ⟨_, hS⟩, fun D hD => ?_⟩
  refine comp_tup (K := K) (a := a) (xs := V.str k :: rest) (fun i ys H2 => ys = (((V.str k :: rest).take i).map wordOf).map V.str ∧ Same H H2 ∧ H2 D = some (.lst ys)) (fun i ys H2 h => h.2.1.seqT hS) ⟨rfl, same_new hD _, upd_same⟩ (fun i ys H2 h => h.2.2) ?_ ?_
  · rintro i ys H2 x hx ⟨rfl, s2, hD2⟩
    refine ⟨Kp.set rfl (Kp.refl _), ?_⟩
    refine tTrue_ok ?_
    refine ⟨_, rfl, x, rfl, hall x (List.mem_of_getElem? hx), hD2, ?_, ?_, same_upd s2 hD, upd_same⟩
    · rw [List.length_map, List.length_map, List.length_take, List.length_cons]; exact small' (by omega)
    · rw [List.take_add_one, hx, List.map_append, List.map_append]; rfl
  · rintro ys H2 ⟨rfl, s2, hD2⟩
    rw [List.take_of_length_le (Nat.le_refl _), List.map_cons, hkw] at hD2
    have w9 : ∀ v ∈ rest, (wordOf v).length ≤ 9 ∧ Asc (wordOf v) := by
      intro v hv
      obtain ⟨i, hi⟩ := List.mem_iff_getElem?.mp hv
      have hil : i < rest.length := (List.getElem?_eq_some_iff.mp hi).1
      exact word9 (hft i _ v (List.getElem?_eq_getElem (show i < l.length by omega)) hi)
    have t9 : ∀ t ∈ k :: rest.map wordOf, t.length ≤ 9 ∧ Asc t := by
      intro t ht
      rcases List.mem_cons.mp ht with e | ht
      · rw [e]; exact ⟨hkl, asc_small hkf⟩
      · obtain ⟨v, hv, rfl⟩ := List.mem_map.mp ht
        exact w9 v hv
    have j70 := jl_nine (fun t ht => (t9 t ht).1)
    rw [List.length_cons, List.length_map] at j70
    exact ⟨_, D, _, rfl, rfl, SqL.of hD2, join_fitJ (by omega), kk _ _ s2 (Nat.le_trans (join_lenJ _) (by omega)) (join_asc fun t ht => (t9 t ht).2)⟩
end
end M

namespace M
open PySem L2
theorem cut_ints {fs : List Int} {j : Nat} {i : Int} (hi : i = (j : Int)) (h : j ≤ fs.length) : cutV (fs.map V.int) (some i) none = (fs.drop j).map V.int := by
  rw [hi]
  show cutG (fs.map V.int) (some (j : Int)) none = _
  rw [cutG_from (by rw [List.length_map]; exact h), List.map_drop]
def spLaw (K : PySem.W.Frag) : Sp := fun vs H Q _ => ∃ (a : Addr) (ns : List Int), vs = [.ref a] ∧ SqL K H a (ns.map V.int) ∧ ns.length ≤ 63 ∧ ∀ H', Q (.bl true) H'
theorem data_bls {H : Hp} : ∀ bs : List Bool, DataAll H (bs.map V.bl) (bs.map PyData.bool)
  | [] => .nil
  | b :: r => .cons (.bl b) (data_bls r)
def bdL : Nat → Nat
  | 0 => 70
  | 1 => 240
  | _ => 750
theorem eqd_row {z k : Str} {ps : List V} {H : Hp} {p q : Addr} (h : rowR z = some (k, ps)) (hp : H p = some (.tup (.str k :: ps))) (hq : H q = some (.tup (.str k :: ps))) : EqD H 2 (.ref p) (.ref q) := by
  have R : Row 1000 k ps := by
    unfold rowR at h
    split at h
    · cases h
    · unfold rowW at h
      obtain ⟨l, hl, h⟩ := Option.bind_eq_some_iff.mp h
      obtain ⟨ps', hp', h⟩ := Option.bind_eq_some_iff.mp h
      split at h
      · injection h with h
        injection h with h1 h2
        subst h1 h2
        exact res_row hl hp'
      · cases h
  have hf : ∀ x ∈ ps, scalV x = true := fun x hx => by
    rcases R.ok x hx with ⟨n, rfl⟩ | ⟨z, rfl, _⟩ <;> rfl
  have hl := R.len
  refine .inr (.inl ⟨p, q, _, _, rfl, rfl, hp, hq, rfl, by rw [List.length_cons]; omega, fun j x y h1 h2 => ?_⟩)
  rw [h1] at h2
  cases h2
  rcases List.mem_cons.mp (List.mem_of_getElem? h1) with e | hm
  · rw [e]; exact .inl ⟨rfl, rfl⟩
  · exact .inl ⟨rfl, hf x hm⟩
section
variable {P : Program} {w : World} {K : PySem.W.Frag} {mg : Str → Option Value} {base : Heap} {f : Addr} {fd : FuncData}
theorem scLaw : FnScope ["_law_script", "_law_feed_here", "_law_names_here", "_law_k", "_law_text", "_law_again", "_law_row", "_law_marks", "_law_found"] ["_law_script"] (defScope sLaw) := ⟨rfl, rfl, rfl, by decide +kernel, rfl, by decide +kernel, by decide +kernel⟩
set_option maxHeartbeats 8000000 in
theorem ok_law (F : Fun K "law" "law" sLaw f fd) (mr : mg "range" = none) {g1 g2 g3 g4 g5 g6 g7 g8 : Addr} {d1 d2 d3 d4 d5 d6 d7 d8 : FuncData}
    (G1 : FnOk P w K mg base CX0 1 g1 d1 ["_law_script", "_law_many"] (spFeed K)) (M1 : Ms K mg "_law_feed" g1 d1 ["_law_script", "_law_many"])
    (G2 : FnOk P w K mg base CX0 1 g2 d2 ["_law_d", "_law_many"] (spNames K)) (M2 : Ms K mg "_law_names" g2 d2 ["_law_d", "_law_many"])
    (G3 : FnOk P w K mg base CX0 2 g3 d3 ["_law_d", "_law_names_here"] (spAny K)) (M3 : Ms K mg "_law_any_row" g3 d3 ["_law_d", "_law_names_here"])
    (G4 : FnOk P w K mg base CX0 2 g4 d4 ["_law_row"] (spText K)) (M4 : Ms K mg "_law_text_of" g4 d4 ["_law_row"])
    (G5 : FnOk P w K mg base CX0 2 g5 d5 ["_law_text", "_law_d"] (spBent K)) (M5 : Ms K mg "_law_bent_text" g5 d5 ["_law_text", "_law_d"])
    (G6 : FnOk P w K mg base CX0 3 g6 d6 ["_law_text"] spReadL) (M6 : Ms K mg "_law_read" g6 d6 ["_law_text"])
    (G7 : FnOk P w K mg base CX0 7 g7 d7 ["_law_text"] spWhyT) (M7 : Ms K mg "_law_why_text" g7 d7 ["_law_text"])
    (G8 : FnOk P w K mg base CX0 2 g8 d8 ["_law_found", "_law_due"] (spSame 2)) (M8 : Ms K mg "_law_same" g8 d8 ["_law_found", "_law_due"]) : FnOk P w K mg base CX0 8 f fd ["_law_script"] (spLaw K) := by
  refine F.ok scLaw (fun vs H Q E h => ?_) (fun cdv A outer s H vs Q E hr h => ?_)
  · obtain ⟨a, ns, rfl, _⟩ := h
    rfl
  obtain ⟨a, ns, rfl, hS, h63, kk⟩ := h
  have hr1 : Room 1 _ := hr.mono (by decide)
  have hr2 : Room 2 _ := hr.mono (by decide)
  have hr3 : Room 3 _ := hr.mono (by decide)
  refine ⟨_, pss_cons (ps_set (i := 1) scLaw.nd rfl (Or.inl rfl) (pe_call G1 hr1 rfl M1.m M1.k M1.b .nil pass0 (pa_cons (pv 0) (pa_cons pe_int pa_nil))))
    (pss_cons (ps_set (i := 2) scLaw.nd rfl (Or.inl rfl) (pe_call G2 hr1 rfl M2.m M2.k M2.b .nil pass0 (pa_cons (pe_slice sl_list (pv 1) (po_some pe_int) po_none) (pa_cons pe_int pa_nil))))
    (pss_cons (ps_for PassesOwn.never rfl (pi_range1 rfl mr (pa_cons pe_int pa_nil)) (pg_name (i := 3) scLaw.nd rfl (Or.inl rfl))
      (pss_cons (ps_set (i := 4) scLaw.nd rfl (Or.inl rfl) (pe_call G4 hr2 rfl M4.m M4.k M4.b .nil pass0 (pa_cons (pe_call G3 hr2 rfl M3.m M3.k M3.b .nil pass0 (pa_cons (pe_slice sl_list (pv 1) (po_some (pe_op op_add pe_int (pe_op op_mul pe_int (pv 3)))) po_none) (pa_cons (pv 2) pa_nil))) pa_nil)))
      (pss_cons (ps_for PassesOwn.never rfl (pi_range1 rfl mr (pa_cons (pe_ix ix_list (pe_lst (pa_cons pe_int (pa_cons pe_int (pa_cons pe_int (pa_cons pe_int (pa_cons pe_int pa_nil)))))) (pe_op op_mod (pe_ix ix_list (pv 1) (pe_op op_add pe_int (pv 3)) ix_bin) pe_int) ix_bin) pa_nil)) (pg_name (i := 5) scLaw.nd rfl (Or.inl rfl))
        (pss_one (ps_set (i := 4) scLaw.nd rfl (Or.inl rfl) (pe_call G5 hr2 rfl M5.m M5.k M5.b .nil pass0 (pa_cons (pv 4) (pa_cons (pe_slice sl_list (pv 1) (po_some (pe_op op_add (pe_op op_add pe_int (pe_op op_mul pe_int (pv 3))) (pe_op op_mul pe_int (pv 5)))) po_none) pa_nil))))))
      (pss_cons (ps_set (i := 6) scLaw.nd rfl (Or.inl rfl) (pe_call G6 hr3 rfl M6.m M6.k M6.b .nil pass0 (pa_cons (pv 4) pa_nil)))
      (pss_cons (ps_asg (pe_call G7 hr rfl M7.m M7.k M7.b .nil pass0 (pa_cons (pv 4) pa_nil)) (pg_tup rfl (pgs_cons (pg_name (i := 7) scLaw.nd rfl (Or.inl rfl)) (pgs_cons (pg_name (i := 8) scLaw.nd rfl (Or.inl rfl)) pgs_nil))))
      (pss_cons (ps_if (PW.pt (pw_and (pt_cmp (pc_isN (pv 6))) (pw_and1 (pt_cmpR (op_neD hr.units) (pv 7) (pe_lst (pa_cons pe_bl (pa_cons pe_bl (pa_cons pe_bl (pa_cons pe_bl (pa_cons pe_bl pa_nil)))))) (nomark _))))) pss_never pss_nil)
      (pss_one (ps_if (PW.pt (pw_and (pt_cmp (pc_notN (pv 6))) (pw_and1 (PW.pt (pw_or (pt_cmpR (op_neD hr.units) (pv 7) (pe_lst pa_nil) (nomark _)) (pw_or1 (pt_not (pt_val (pe_call G8 hr2 rfl M8.m M8.k M8.b .nil pass0 (pa_cons (pv 8) (pa_cons (pv 6) pa_nil))))))))))) pss_never pss_nil)))))))
      )
    (pss_one (ps_ret pe_bl)))), ?_⟩
  refine ⟨_, rfl, a, ns, 120, rfl, hS, h63, by decide, by decide, fun r H1 fs s1 hr0 hr1' hl1 ho1 => ?_⟩
  have hl : fs.length = 120 := by omega
  refine ⟨_, rfl, _, rfl, r, _, rfl, SqL.of hr1', fun p hp => ?_⟩
  rw [cut_ints (j := 1) (i := 1) rfl (by omega)]
  have s2 := same_new hp (.lst ((fs.drop 1).map V.int))
  refine ⟨p, fs.drop 1, 7, rfl, SqL.of upd_same, by rw [List.length_drop]; omega, fun v hv => ho1 v (List.mem_of_mem_drop hv), by decide, by decide, fun b H3 zs s3 hb0 hb hzl hzn hzd => ?_⟩
  have t3 := s2.trans s3
  have r3 := t3 _ _ hr1'
  refine ⟨3, rfl, by decide, by decide, ?_⟩
  refine for_range (lo := 0) (n := 3) (fun i σ Hx => ∃ u3 u4 u5 u6 u7 u8 : Option V, σ = [some (.ref a), some (.ref r), some (.ref b), u3, u4, u5, u6, u7, u8] ∧ Same H3 Hx) ⟨none, none, none, none, none, none, rfl, Same.refl _⟩ ?_ ?_
  · rintro i σ Hx hi ⟨u3, u4, u5, u6, u7, u8, rfl, sx⟩
    have rx := sx _ _ r3
    have bx := sx _ _ hb
    refine ⟨_, rfl, _, rfl, _, _, rfl, rfl, .inl ⟨by decide, by decide⟩, _, _, rfl, rfl, _, rfl, r, _, rfl, SqL.of rx, fun q hq => ?_⟩
    rw [cut_ints (j := 8 + 16 * i) (i := 8 + 16 * (0 + (i : Int))) (by omega) (by omega)]
    have s4 := same_new hq (.lst ((fs.drop (8 + 16 * i)).map V.int))
    refine ⟨_, rfl, q, b, fs.drop (8 + 16 * i), zs, rfl, SqL.of upd_same, by rw [List.length_drop]; omega, fun v hv => ho1 v (List.mem_of_mem_drop hv), SqL.of (s4 _ _ bx), hzl, hzn, hzd, fun c k rest H5 s5 hc5 hl6 R hw => ?_⟩
    refine ⟨c, k, rest, rfl, SqT.of hc5, hw, fun z0 H6 s6 z70 za => ?_⟩
    have g6 := sx.trans (s4.trans (s5.trans s6))
    have r6 := g6 _ _ r3
    obtain ⟨v6, e6, o6⟩ := fs_at ho1 (i := 60 + (0 + (i : Int))) (by omega) (by omega)
    refine ⟨small (by simp), fun l hl' => ?_⟩
    have s7 := same_new hl' (.lst [V.int 0, V.int 1, V.int 1, V.int 1, V.int 2])
    have r7 := s7 _ _ r6
    have g7 := g6.trans s7
    have l7 : (upd H6 l (.lst [V.int 0, V.int 1, V.int 1, V.int 1, V.int 2])) l = some (.lst [V.int 0, V.int 1, V.int 1, V.int 1, V.int 2]) := upd_same
    generalize upd H6 l (.lst [V.int 0, V.int 1, V.int 1, V.int 1, V.int 2]) = H7 at r7 g7 l7 ⊢
    obtain ⟨n, en, n0, n2⟩ : ∃ n : Int, atI [V.int 0, V.int 1, V.int 1, V.int 1, V.int 2] (v6 % 5) = some (V.int n) ∧ 0 ≤ n ∧ n ≤ 2 := by
      obtain ⟨x, ex, mx⟩ := at_some (xs := [V.int 0, V.int 1, V.int 1, V.int 1, V.int 2]) (i := v6 % 5) (Int.emod_nonneg _ (by decide)) (Int.emod_lt_of_pos _ (by decide))
      simp only [List.mem_cons, List.not_mem_nil, or_false] at mx
      rcases mx with rfl | rfl | rfl | rfl | rfl
      · exact ⟨_, ex, by decide, by decide⟩
      · exact ⟨_, ex, by decide, by decide⟩
      · exact ⟨_, ex, by decide, by decide⟩
      · exact ⟨_, ex, by decide, by decide⟩
      · exact ⟨_, ex, by decide, by decide⟩
    refine ⟨_, rfl, _, rfl, _, _, rfl, rfl, r, _, _, _, rfl, rfl, SqL.of r7, e6, _, _, rfl, rfl, (by show (0 : Int) < 5; decide), l, _, _, _, rfl, rfl, SqL.of l7, en, n, rfl, by omega, by omega, ?_⟩
    refine for_range (lo := 0) (n := n.toNat) (fun j σ Hy => ∃ (z : Str) (u5 : Option V), σ = [some (.ref a), some (.ref r), some (.ref b), some (.int (0 + (i : Int))), some (.str z), u5, u6, u7, u8] ∧ Same H3 Hy ∧ z.length ≤ bdL j ∧ Asc z) ⟨z0, _, rfl, g7, z70, za⟩ ?_ ?_
    · rintro j σ Hy hj ⟨z, u5', rfl, gy, zl, zA⟩
      have ry := gy _ _ r3
      refine ⟨_, rfl, _, rfl, _, rfl, _, _, rfl, rfl, .inl ⟨by decide, by decide⟩, _, _, rfl, rfl, _, rfl, _, _, rfl, rfl, .inl ⟨by decide, by decide⟩, _, _, rfl, rfl, _, rfl, r, _, rfl, SqL.of ry, fun q2 hq2 => ?_⟩
      rw [cut_ints (j := 64 + 10 * i + 5 * j) (i := 64 + 10 * (0 + (i : Int)) + 5 * (0 + (j : Int))) (by omega) (by omega)]
      have s8 := same_new hq2 (.lst ((fs.drop (64 + 10 * i + 5 * j)).map V.int))
      have b240 : bdL j ≤ 240 ∧ 3 * bdL j + 30 = bdL (j + 1) := by
        have : j = 0 ∨ j = 1 := by omega
        rcases this with rfl | rfl
        · exact ⟨by decide, rfl⟩
        · exact ⟨by decide, rfl⟩
      refine ⟨z, q2, fs.drop (64 + 10 * i + 5 * j), bdL j, rfl, SqL.of upd_same, by rw [List.length_drop]; omega, fun v hv => ho1 v (List.mem_of_mem_drop hv), zl, b240.1, zA, fun y Hz sz hy hyA => ?_⟩
      rw [b240.2] at hy
      exact ⟨y, _, rfl, gy.trans (s8.trans sz), hy, hyA⟩
    · rintro σ Hy ⟨z, u5', rfl, gy, zl, zA⟩
      have z1000 : z.length ≤ 1000 := by
        have : bdL n.toNat ≤ 750 := by
          have : n.toNat = 0 ∨ n.toNat = 1 ∨ n.toNat = 2 := by omega
          rcases this with e | e | e <;> rw [e] <;> decide
        omega
      cases hrw : rowR z with
      | none =>
        refine ⟨_, rfl, z, rfl, z1000, zA, fun _ Ha sa => ?_, fun k ps hk => by rw [hrw] at hk; cases hk⟩
        refine ⟨_, rfl, z, rfl, z1000, fun _ P1 q1 Hb sb hP hq1 => ?_, fun k ps hk => by rw [hrw] at hk; cases hk⟩
        refine ⟨P1, _, rfl, SqT.of hP, rfl, _, _, rfl, _, _, rfl, rfl, ?_⟩
        have gb := gy.trans (sa.trans sb)
        refine ⟨_, rfl, _, rfl, iteT ?_⟩
        refine ⟨_, rfl, small (by simp), fun m hm => ?_⟩
        have sc := same_new hm (.lst marksT)
        refine ⟨_, _, .lst (sc _ _ hq1) (data_bls [true, true, false, false, true]), .lst upd_same (data_bls [true, true, false, false, true]), by rfl, by rfl, by decide, _, rfl, iteF ?_⟩
        refine ⟨_, rfl, _, rfl, iteF (iteF ?_)⟩
        exact ⟨_, _, _, _, _, _, rfl, gb.trans sc⟩
      | some kp =>
        obtain ⟨k', ps⟩ := kp
        refine ⟨_, rfl, z, rfl, z1000, zA, fun hn => by rw [hrw] at hn; (cases hn), fun k1 ps1 hk1 p1 Ha sa hp1 => ?_⟩
        refine ⟨_, rfl, z, rfl, z1000, fun hn => by rw [hrw] at hn; (cases hn), fun k2 ps2 hk2 P1 q1 r1 Hb sb hP hq1 hr1 => ?_⟩
        rw [hk1] at hk2
        obtain ⟨rfl, rfl⟩ : k1 = k2 ∧ ps1 = ps2 := by
          have := Option.some.inj hk2
          exact ⟨congrArg Prod.fst this, congrArg Prod.snd this⟩
        refine ⟨P1, _, rfl, SqT.of hP, rfl, _, _, rfl, _, _, rfl, rfl, ?_⟩
        have gb := gy.trans (sa.trans sb)
        refine ⟨_, rfl, _, rfl, iteF (iteF ?_)⟩
        refine ⟨_, rfl, _, rfl, iteT ?_⟩
        refine ⟨_, rfl, small (by simp), fun m hm => ?_⟩
        have sc := same_new hm (.lst [])
        refine ⟨_, _, .lst (sc _ _ hq1) .nil, .lst upd_same .nil, by rfl, by rfl, by decide, _, rfl, iteF ?_⟩
        have pc := sc _ _ (sb _ _ hp1)
        have rc := sc _ _ hr1
        refine ⟨_, rfl, _, rfl, _, _, rfl, eqd_row hk1 rc pc, fun Hd sd => ⟨_, rfl, iteF ?_⟩⟩
        exact ⟨_, _, _, _, _, _, rfl, gb.trans (sc.trans sd)⟩
  · rintro σ Hx ⟨u3, u4, u5, u6, u7, u8, rfl, sx⟩
    exact kk Hx
end
end M

namespace M
open PySem L2
theorem ktp_of {K : PySem.W.Frag} {a : Addr} {xs : List V} {dd : Option Addr} {its : Array Value} {n : Nat} {sl : Array (Option Value)} (h : K.lookup a = some ⟨.type "tuple", dd, .seq its n, sl⟩) (hz : its.size ≤ sizeLine) (v : Vals xs its.toList) : KTp K a xs := ⟨_, its, n, h, rfl, rfl, hz, v⟩
def FoOk (K : PySem.W.Frag) (q : List (Str × List Srt)) (kvs : List (Str × V)) : Prop := ∀ k, (q.lookup k = none → kvs.lookup k = none) ∧ ∀ l, q.lookup k = some l → ∃ b, kvs.lookup k = some (.ref b) ∧ KTp K b (l.map fun s => .str s.word)
theorem fo_nil {K : PySem.W.Frag} : FoOk K [] [] := fun k => ⟨fun _ => rfl, fun l h => nomatch h⟩
theorem fo_cons {K : PySem.W.Frag} {x : Str} {b : Addr} {l : List Srt} {q : List (Str × List Srt)} {kvs : List (Str × V)} (h : KTp K b (l.map fun s => .str s.word)) (ih : FoOk K q kvs) : FoOk K ((x, l) :: q) ((x, .ref b) :: kvs) := fun k => by
  rw [List.lookup_cons, List.lookup_cons]
  by_cases e : k = x
  · subst e
    rw [beq_self_eq_true]
    exact ⟨fun z => by simp at z, fun l' z => by
      have : l = l' := by simpa using z
      subst this
      exact ⟨b, rfl, h⟩⟩
  · have e' : (k == x) = false := by simpa using e
    rw [e']
    exact ih k
theorem all_mk {l : PySem.W.OpenLaw} {w : World} {K : PySem.W.Frag} {h : Heap} {mg : Str → Option Value} {fa f1 f2 f3 f4 f5 f6 f7 f8 f9 f10 f11 f12 f13 f14 f15 f16 f17 f18 f19 f20 f21 f22 f23 f24 f25 : Addr} (X : K.In h) (G : h.Ns mainGlobals mg) (hfa : mg "law" = some (.ref fa))
    {od1 an1 od2 an2 od3 an3 od4 an4 od5 an5 od6 an6 od7 an7 od8 an8 od9 an9 od10 an10 od11 an11 od12 an12 od13 an13 od14 an14 od15 an15 od16 an16 od17 an17 od18 an18 od19 an19 od20 an20 od21 an21 od22 an22 od23 an23 od24 an24 od25 an25 : Option Addr} {sl1 sl2 sl3 sl4 sl5 sl6 sl7 sl8 sl9 sl10 sl11 sl12 sl13 sl14 sl15 sl16 sl17 sl18 sl19 sl20 sl21 sl22 sl23 sl24 sl25 : Array (Option Value)} {oc1 kV1 dc1 pm1 cd1 ct1 oc2 kV2 dc2 pm2 cd2 ct2 oc3 kV3 dc3 pm3 cd3 ct3 oc4 kV4 dc4 pm4 cd4 ct4 oc5 kV5 dc5 pm5 cd5 ct5 oc6 kV6 dc6 pm6 cd6 ct6 oc7 kV7 dc7 pm7 cd7 ct7 oc8 kV8 dc8 pm8 cd8 ct8 oc9 kV9 dc9 pm9 cd9 ct9 oc10 kV10 dc10 pm10 cd10 ct10 oc11 kV11 dc11 pm11 cd11 ct11 oc12 kV12 dc12 pm12 cd12 ct12 oc13 kV13 dc13 pm13 cd13 ct13 oc14 kV14 dc14 pm14 cd14 ct14 oc15 kV15 dc15 pm15 cd15 ct15 oc16 kV16 dc16 pm16 cd16 ct16 oc17 kV17 dc17 pm17 cd17 ct17 oc18 kV18 dc18 pm18 cd18 ct18 oc19 kV19 dc19 pm19 cd19 ct19 oc20 kV20 dc20 pm20 cd20 ct20 oc21 kV21 dc21 pm21 cd21 ct21 oc22 kV22 dc22 pm22 cd22 ct22 oc23 kV23 dc23 pm23 cd23 ct23 oc24 kV24 dc24 pm24 cd24 ct24 oc25 kV25 dc25 pm25 cd25 ct25 : Value} {tL : Tok} {tC : Tok} {tS : Tok} {tM : Tok} {f_I T_ aF aB tw_ b4_ b5_ b6_ b7_ f1_ f2_ f3_ f4_ f5_ f6_ f7_ b1_ b2_ b3_ C L c1_ c2_ : Addr} {odI anI ddT : Option Addr} {slI ssT : Array (Option Value)} {ocI kVI dcI pmI cdI ctI v0T : Value} {itT : Array Value} {nT : Nat} {t1T : Tok} {cdC : ClassData} {it_f1_ it_f2_ it_f3_ it_f4_ it_f5_ it_f6_ it_f7_ it_b1_ it_b2_ it_b3_ it_tw_ : Array Value} {n_f1_ n_f2_ n_f3_ n_f4_ n_f5_ n_f6_ n_f7_ n_b1_ n_b2_ n_b3_ n_tw_ : Nat} {dd_f1_ dd_f2_ dd_f3_ dd_f4_ dd_f5_ dd_f6_ dd_f7_ dd_b1_ dd_b2_ dd_b3_ dd_tw_ : Option Addr} {ss_f1_ ss_f2_ ss_f3_ ss_f4_ ss_f5_ ss_f6_ ss_f7_ ss_b1_ ss_b2_ ss_b3_ ss_tw_ : Array (Option Value)} {esF esB : Array DictEntry} {nF nB : Nat}
    (a1 : PySem.W.nsIn K mainGlobals "is_name" = some (some (.ref f1))) (l1 : K.lookup f1 = some ⟨oc1, od1, .func (PySem.W.fnOf "is_name" "is_name" (defArgs sName) (defBody sName) (defScope sName) .none kV1 dc1 pm1 an1 cd1 ct1), sl1⟩) (c1 : PySem.W.codeIn K cd1 "is_name" = true) (k1 : PySem.W.keepIn K (.ref f1) = true)
    (a2 : PySem.W.nsIn K mainGlobals "is_well_made" = some (some (.ref f2))) (l2 : K.lookup f2 = some ⟨oc2, od2, .func (PySem.W.fnOf "is_well_made" "is_well_made" (defArgs sWell) (defBody sWell) (defScope sWell) .none kV2 dc2 pm2 an2 cd2 ct2), sl2⟩) (c2 : PySem.W.codeIn K cd2 "is_well_made" = true) (k2 : PySem.W.keepIn K (.ref f2) = true)
    (a3 : PySem.W.nsIn K mainGlobals "fits" = some (some (.ref f3))) (l3 : K.lookup f3 = some ⟨oc3, od3, .func (PySem.W.fnOf "fits" "fits" (defArgs sFits) (defBody sFits) (defScope sFits) .none kV3 dc3 pm3 an3 cd3 ct3), sl3⟩) (c3 : PySem.W.codeIn K cd3 "fits" = true) (k3 : PySem.W.keepIn K (.ref f3) = true)
    (a4 : PySem.W.nsIn K mainGlobals "pieces_of" = some (some (.ref f4))) (l4 : K.lookup f4 = some ⟨oc4, od4, .func (PySem.W.fnOf "pieces_of" "pieces_of" (defArgs sPcs) (defBody sPcs) (defScope sPcs) .none kV4 dc4 pm4 an4 cd4 ct4), sl4⟩) (c4 : PySem.W.codeIn K cd4 "pieces_of" = true) (k4 : PySem.W.keepIn K (.ref f4) = true)
    (a5 : PySem.W.nsIn K mainGlobals "piece_of" = some (some (.ref f5))) (l5 : K.lookup f5 = some ⟨oc5, od5, .func (PySem.W.fnOf "piece_of" "piece_of" (defArgs sPc) (defBody sPc) (defScope sPc) .none kV5 dc5 pm5 an5 cd5 ct5), sl5⟩) (c5 : PySem.W.codeIn K cd5 "piece_of" = true) (k5 : PySem.W.keepIn K (.ref f5) = true)
    (a6 : PySem.W.nsIn K mainGlobals "number_of" = some (some (.ref f6))) (l6 : K.lookup f6 = some ⟨oc6, od6, .func (PySem.W.fnOf "number_of" "number_of" (defArgs sNum) (defBody sNum) (defScope sNum) .none kV6 dc6 pm6 an6 cd6 ct6), sl6⟩) (c6 : PySem.W.codeIn K cd6 "number_of" = true) (k6 : PySem.W.keepIn K (.ref f6) = true)
    (a7 : PySem.W.nsIn K mainGlobals "name_of" = some (some (.ref f7))) (l7 : K.lookup f7 = some ⟨oc7, od7, .func (PySem.W.fnOf "name_of" "name_of" (defArgs sNm) (defBody sNm) (defScope sNm) .none kV7 dc7 pm7 an7 cd7 ct7), sl7⟩) (c7 : PySem.W.codeIn K cd7 "name_of" = true) (k7 : PySem.W.keepIn K (.ref f7) = true)
    (a8 : PySem.W.nsIn K mainGlobals "read_row" = some (some (.ref f8))) (l8 : K.lookup f8 = some ⟨oc8, od8, .func (PySem.W.fnOf "read_row" "read_row" (defArgs sRead) (defBody sRead) (defScope sRead) .none kV8 dc8 pm8 an8 cd8 ct8), sl8⟩) (c8 : PySem.W.codeIn K cd8 "read_row" = true) (k8 : PySem.W.keepIn K (.ref f8) = true)
    (a9 : PySem.W.nsIn K mainGlobals "row_of" = some (some (.ref f9))) (l9 : K.lookup f9 = some ⟨oc9, od9, .func (PySem.W.fnOf "row_of" "row_of" (defArgs sRowOf) (defBody sRowOf) (defScope sRowOf) .none kV9 dc9 pm9 an9 cd9 ct9), sl9⟩) (c9 : PySem.W.codeIn K cd9 "row_of" = true) (k9 : PySem.W.keepIn K (.ref f9) = true)
    (a10 : PySem.W.nsIn K mainGlobals "_law_feed" = some (some (.ref f10))) (l10 : K.lookup f10 = some ⟨oc10, od10, .func (PySem.W.fnOf "_law_feed" "_law_feed" (defArgs sFeed) (defBody sFeed) (defScope sFeed) .none kV10 dc10 pm10 an10 cd10 ct10), sl10⟩) (c10 : PySem.W.codeIn K cd10 "_law_feed" = true) (k10 : PySem.W.keepIn K (.ref f10) = true)
    (a11 : PySem.W.nsIn K mainGlobals "_law_same" = some (some (.ref f11))) (l11 : K.lookup f11 = some ⟨oc11, od11, .func (PySem.W.fnOf "_law_same" "_law_same" (defArgs sSame) (defBody sSame) (defScope sSame) .none kV11 dc11 pm11 an11 cd11 ct11), sl11⟩) (c11 : PySem.W.codeIn K cd11 "_law_same" = true) (k11 : PySem.W.keepIn K (.ref f11) = true)
    (a12 : PySem.W.nsIn K mainGlobals "_law_names" = some (some (.ref f12))) (l12 : K.lookup f12 = some ⟨oc12, od12, .func (PySem.W.fnOf "_law_names" "_law_names" (defArgs sNames) (defBody sNames) (defScope sNames) .none kV12 dc12 pm12 an12 cd12 ct12), sl12⟩) (c12 : PySem.W.codeIn K cd12 "_law_names" = true) (k12 : PySem.W.keepIn K (.ref f12) = true)
    (a13 : PySem.W.nsIn K mainGlobals "_law_kinds" = some (some (.ref f13))) (l13 : K.lookup f13 = some ⟨oc13, od13, .func (PySem.W.fnOf "_law_kinds" "_law_kinds" (defArgs sKinds) (defBody sKinds) (defScope sKinds) .none kV13 dc13 pm13 an13 cd13 ct13), sl13⟩) (c13 : PySem.W.codeIn K cd13 "_law_kinds" = true) (k13 : PySem.W.keepIn K (.ref f13) = true)
    (a14 : PySem.W.nsIn K mainGlobals "_law_shapes" = some (some (.ref f14))) (l14 : K.lookup f14 = some ⟨oc14, od14, .func (PySem.W.fnOf "_law_shapes" "_law_shapes" (defArgs sShapes) (defBody sShapes) (defScope sShapes) .none kV14 dc14 pm14 an14 cd14 ct14), sl14⟩) (c14 : PySem.W.codeIn K cd14 "_law_shapes" = true) (k14 : PySem.W.keepIn K (.ref f14) = true)
    (a15 : PySem.W.nsIn K mainGlobals "_law_named" = some (some (.ref f15))) (l15 : K.lookup f15 = some ⟨oc15, od15, .func (PySem.W.fnOf "_law_named" "_law_named" (defArgs sNamed) (defBody sNamed) (defScope sNamed) .none kV15 dc15 pm15 an15 cd15 ct15), sl15⟩) (c15 : PySem.W.codeIn K cd15 "_law_named" = true) (k15 : PySem.W.keepIn K (.ref f15) = true)
    (a16 : PySem.W.nsIn K mainGlobals "_law_good" = some (some (.ref f16))) (l16 : K.lookup f16 = some ⟨oc16, od16, .func (PySem.W.fnOf "_law_good" "_law_good" (defArgs sGood) (defBody sGood) (defScope sGood) .none kV16 dc16 pm16 an16 cd16 ct16), sl16⟩) (c16 : PySem.W.codeIn K cd16 "_law_good" = true) (k16 : PySem.W.keepIn K (.ref f16) = true)
    (a17 : PySem.W.nsIn K mainGlobals "_law_any_row" = some (some (.ref f17))) (l17 : K.lookup f17 = some ⟨oc17, od17, .func (PySem.W.fnOf "_law_any_row" "_law_any_row" (defArgs sAny) (defBody sAny) (defScope sAny) .none kV17 dc17 pm17 an17 cd17 ct17), sl17⟩) (c17 : PySem.W.codeIn K cd17 "_law_any_row" = true) (k17 : PySem.W.keepIn K (.ref f17) = true)
    (a18 : PySem.W.nsIn K mainGlobals "_law_word_of" = some (some (.ref f18))) (l18 : K.lookup f18 = some ⟨oc18, od18, .func (PySem.W.fnOf "_law_word_of" "_law_word_of" (defArgs sWordOf) (defBody sWordOf) (defScope sWordOf) .none kV18 dc18 pm18 an18 cd18 ct18), sl18⟩) (c18 : PySem.W.codeIn K cd18 "_law_word_of" = true) (k18 : PySem.W.keepIn K (.ref f18) = true)
    (a19 : PySem.W.nsIn K mainGlobals "_law_text_of" = some (some (.ref f19))) (l19 : K.lookup f19 = some ⟨oc19, od19, .func (PySem.W.fnOf "_law_text_of" "_law_text_of" (defArgs sTextOf) (defBody sTextOf) (defScope sTextOf) .none kV19 dc19 pm19 an19 cd19 ct19), sl19⟩) (c19 : PySem.W.codeIn K cd19 "_law_text_of" = true) (k19 : PySem.W.keepIn K (.ref f19) = true)
    (a20 : PySem.W.nsIn K mainGlobals "_law_number" = some (some (.ref f20))) (l20 : K.lookup f20 = some ⟨oc20, od20, .func (PySem.W.fnOf "_law_number" "_law_number" (defArgs sNumL) (defBody sNumL) (defScope sNumL) .none kV20 dc20 pm20 an20 cd20 ct20), sl20⟩) (c20 : PySem.W.codeIn K cd20 "_law_number" = true) (k20 : PySem.W.keepIn K (.ref f20) = true)
    (a21 : PySem.W.nsIn K mainGlobals "_law_read" = some (some (.ref f21))) (l21 : K.lookup f21 = some ⟨oc21, od21, .func (PySem.W.fnOf "_law_read" "_law_read" (defArgs sReadL) (defBody sReadL) (defScope sReadL) .none kV21 dc21 pm21 an21 cd21 ct21), sl21⟩) (c21 : PySem.W.codeIn K cd21 "_law_read" = true) (k21 : PySem.W.keepIn K (.ref f21) = true)
    (a22 : PySem.W.nsIn K mainGlobals "_law_sign_of" = some (some (.ref f22))) (l22 : K.lookup f22 = some ⟨oc22, od22, .func (PySem.W.fnOf "_law_sign_of" "_law_sign_of" (defArgs sSign) (defBody sSign) (defScope sSign) .none kV22 dc22 pm22 an22 cd22 ct22), sl22⟩) (c22 : PySem.W.codeIn K cd22 "_law_sign_of" = true) (k22 : PySem.W.keepIn K (.ref f22) = true)
    (a23 : PySem.W.nsIn K mainGlobals "_law_bent_text" = some (some (.ref f23))) (l23 : K.lookup f23 = some ⟨oc23, od23, .func (PySem.W.fnOf "_law_bent_text" "_law_bent_text" (defArgs sBent) (defBody sBent) (defScope sBent) .none kV23 dc23 pm23 an23 cd23 ct23), sl23⟩) (c23 : PySem.W.codeIn K cd23 "_law_bent_text" = true) (k23 : PySem.W.keepIn K (.ref f23) = true)
    (a24 : PySem.W.nsIn K mainGlobals "_law_why_text" = some (some (.ref f24))) (l24 : K.lookup f24 = some ⟨oc24, od24, .func (PySem.W.fnOf "_law_why_text" "_law_why_text" (defArgs sWhyT) (defBody sWhyT) (defScope sWhyT) .none kV24 dc24 pm24 an24 cd24 ct24), sl24⟩) (c24 : PySem.W.codeIn K cd24 "_law_why_text" = true) (k24 : PySem.W.keepIn K (.ref f24) = true)
    (a25 : PySem.W.nsIn K mainGlobals "law" = some (some (.ref f25))) (l25 : K.lookup f25 = some ⟨oc25, od25, .func (PySem.W.fnOf "law" "law" (defArgs sLaw) (defBody sLaw) (defScope sLaw) .none kV25 dc25 pm25 an25 cd25 ct25), sl25⟩) (c25 : PySem.W.codeIn K cd25 "law" = true) (k25 : PySem.W.keepIn K (.ref f25) = true)
    (q1 : PySem.W.nsIn K mainGlobals "LONGEST_NAME" = some (some (.int 8 tL)))
    (q2 : PySem.W.nsIn K mainGlobals "CROWN" = some (some (.str "" tC)))
    (q3 : PySem.W.nsIn K mainGlobals "CROWN_SIGN" = some (some (.str "-" tS)))
    (q4 : PySem.W.nsIn K mainGlobals "MOST_FIGURES" = some (some (.int 6 tM)))
    (q5 : PySem.W.nsIn K mainGlobals "FORMS" = some (some (.ref aF)))
    (q6 : PySem.W.nsIn K mainGlobals "BOUNDS" = some (some (.ref aB)))
    (q7 : PySem.W.nsIn K mainGlobals "OF_TWO_MEN" = some (some (.ref tw_)))
    (q8 : PySem.W.nsIn K mainGlobals "NoText" = some (some (.ref C)))
    (q9 : PySem.W.nsIn K mainGlobals "LandError" = some (some (.ref L)))
    (q10 : PySem.W.nsIn K mainGlobals "NoForm" = some (some (.ref c1_)))
    (q11 : PySem.W.nsIn K mainGlobals "NoEntry" = some (some (.ref c2_)))
    (z1 : PySem.W.nsIn K mainGlobals "isinstance" = some none)
    (z2 : PySem.W.nsIn K mainGlobals "int" = some none)
    (z3 : PySem.W.nsIn K mainGlobals "str" = some none)
    (z4 : PySem.W.nsIn K mainGlobals "len" = some none)
    (z5 : PySem.W.nsIn K mainGlobals "all" = some none)
    (z6 : PySem.W.nsIn K mainGlobals "zip" = some none)
    (z7 : PySem.W.nsIn K mainGlobals "range" = some none)
    (z8 : PySem.W.nsIn K mainGlobals "enumerate" = some none)
    (z9 : PySem.W.nsIn K mainGlobals "max" = some none)
    (z10 : PySem.W.nsIn K mainGlobals "tuple" = some none)
    (z11 : PySem.W.nsIn K mainGlobals "bool" = some none)
    (z12 : PySem.W.nsIn K mainGlobals "list" = some none)
    (z13 : PySem.W.nsIn K mainGlobals "ValueError" = some none)
    (fa_I : PySem.W.findIn K (.ref C) "__init__" = some (some (.ref f_I)))
    (la_I : K.lookup f_I = some ⟨ocI, odI, .func (PySem.W.fnOf "__init__" "NoText.__init__" (defArgs sInitT) (defBody sInitT) (defScope sInitT) (.ref T_) kVI dcI pmI anI cdI ctI), slI⟩)
    (ca_I : PySem.W.codeIn K cdI "NoText.__init__" = true)
    (ia_I : PySem.W.isFn K (.ref f_I) = true)
    (tT : K.lookup T_ = some ⟨.type "tuple", ddT, .seq itT nT, ssT⟩)
    (eT : itT = #[v0T, .int 1 t1T])
    (kpC : PySem.W.keepIn K (.ref C) = true)
    (hdC : PySem.W.hasDictIn K C = true)
    (saC : PySem.W.findIn K (.ref C) "__setattr__" = some (some (.builtin "object.__setattr__")))
    (noC : PySem.W.findIn K (.ref C) "at" = some none)
    (eiC : excI K C = true)
    (rdL : PySem.W.readsIn K L (.type "type") = true)
    (fcL : PySem.W.findCls K (.ref L) (.type "type") "__init__" = some (.val (.builtin "ValueError.__init__")))
    (spL : PySem.W.specialIn K (.ref L) "__getattribute__" = some (some (.builtin "type.__getattribute__")))
    (x1 : PySem.W.findIn K (.ref C) "__getattribute__" = some (some (.builtin "BaseException.__getattribute__")))
    (x2 : PySem.W.findIn K (.ref C) "__getattr__" = some none)
    (x3 : PySem.W.clsIn K C = some cdC)
    (x4 : PySem.W.findIn K (.ref C) "__class__" = some (some (.builtin "object.__class__")))
    (x5 : PySem.W.specialIn K (.builtin "object.__class__") "__get__" = some (some (.builtin "getset_descriptor.__get__")))
    (x6 : PySem.W.takesIn K (.builtin "object.__class__") = some true)
    (x7 : PySem.W.mroIn K C (.type "object") = some true)
    (x8 : PySem.W.mroIn K C (.type "BaseException") = some true)
    (ex : PySem.W.exmOne K (.ref C) (.ref C) = some true)
    (y0 : PySem.W.kitOne K (.ref C) (.ref L) = some true)
    (y1 : PySem.W.kitOne K (.ref C) (.type "ValueError") = some true)
    (y2 : PySem.W.kitOne K (.ref C) (.ref c1_) = some false)
    (y3 : PySem.W.kitOne K (.ref C) (.ref c2_) = some false)
    (kF : K.lookup aF = some ⟨.type "dict", none, .dict esF nF, #[]⟩)
    (eF : EntsAre w.params esF.toList [("heir", .ref f1_), ("grant", .ref f2_), ("part", .ref f3_), ("convey", .ref f4_), ("liege", .ref f5_), ("surrender", .ref f6_), ("death", .ref f7_)])
    (lF : (aF == sysModules) = false)
    (kB : K.lookup aB = some ⟨.type "dict", none, .dict esB nB, #[]⟩)
    (eB : EntsAre w.params esB.toList [("day", .ref b1_), ("acres", .ref b2_), ("service", .ref b3_), ("bears", .ref b4_), ("edge", .ref b5_), ("number", .ref b6_), ("entry", .ref b7_)])
    (lB : (aB == sysModules) = false)
    (t_f1_ : K.lookup f1_ = some ⟨.type "tuple", dd_f1_, .seq it_f1_ n_f1_, ss_f1_⟩)
    (s_f1_ : it_f1_.size ≤ sizeLine)
    (v_f1_ : Vals [.str "day", .str "name", .str "name"] it_f1_.toList)
    (t_f2_ : K.lookup f2_ = some ⟨.type "tuple", dd_f2_, .seq it_f2_ n_f2_, ss_f2_⟩)
    (s_f2_ : it_f2_.size ≤ sizeLine)
    (v_f2_ : Vals [.str "day", .str "name or crown", .str "name", .str "name", .str "acres", .str "service"] it_f2_.toList)
    (t_f3_ : K.lookup f3_ = some ⟨.type "tuple", dd_f3_, .seq it_f3_ n_f3_, ss_f3_⟩)
    (s_f3_ : it_f3_.size ≤ sizeLine)
    (v_f3_ : Vals [.str "day", .str "name", .str "name", .str "name", .str "acres"] it_f3_.toList)
    (t_f4_ : K.lookup f4_ = some ⟨.type "tuple", dd_f4_, .seq it_f4_ n_f4_, ss_f4_⟩)
    (s_f4_ : it_f4_.size ≤ sizeLine)
    (v_f4_ : Vals [.str "day", .str "name", .str "name"] it_f4_.toList)
    (t_f5_ : K.lookup f5_ = some ⟨.type "tuple", dd_f5_, .seq it_f5_ n_f5_, ss_f5_⟩)
    (s_f5_ : it_f5_.size ≤ sizeLine)
    (v_f5_ : Vals [.str "day", .str "name", .str "name or crown"] it_f5_.toList)
    (t_f6_ : K.lookup f6_ = some ⟨.type "tuple", dd_f6_, .seq it_f6_ n_f6_, ss_f6_⟩)
    (s_f6_ : it_f6_.size ≤ sizeLine)
    (v_f6_ : Vals [.str "day", .str "name"] it_f6_.toList)
    (t_f7_ : K.lookup f7_ = some ⟨.type "tuple", dd_f7_, .seq it_f7_ n_f7_, ss_f7_⟩)
    (s_f7_ : it_f7_.size ≤ sizeLine)
    (v_f7_ : Vals [.str "day", .str "name"] it_f7_.toList)
    (t_b1_ : K.lookup b1_ = some ⟨.type "tuple", dd_b1_, .seq it_b1_ n_b1_, ss_b1_⟩)
    (s_b1_ : it_b1_.size ≤ sizeLine)
    (v_b1_ : Vals [.int 0, .int 9999] it_b1_.toList)
    (t_b2_ : K.lookup b2_ = some ⟨.type "tuple", dd_b2_, .seq it_b2_ n_b2_, ss_b2_⟩)
    (s_b2_ : it_b2_.size ≤ sizeLine)
    (v_b2_ : Vals [.int 1, .int 9999] it_b2_.toList)
    (t_b3_ : K.lookup b3_ = some ⟨.type "tuple", dd_b3_, .seq it_b3_ n_b3_, ss_b3_⟩)
    (s_b3_ : it_b3_.size ≤ sizeLine)
    (v_b3_ : Vals [.int 0, .int 9999] it_b3_.toList)
    (t_tw_ : K.lookup tw_ = some ⟨.type "tuple", dd_tw_, .seq it_tw_ n_tw_, ss_tw_⟩)
    (s_tw_ : it_tw_.size ≤ sizeLine)
    (v_tw_ : Vals [.str "heir", .str "liege"] it_tw_.toList) :
    ∃ fd : FuncData, (∀ (s : Shared) (v : Value), BindsTo s fd ⟨[v], []⟩ [("_law_script", v)]) ∧ ∀ base : Heap, K.In base → base.Ns mainGlobals mg → FnOk l.prog w K mg base CX0 8 fa fd ["_law_script"] (spLaw K) := by
  have e := hfa.symm.trans (PySem.W.mg_of X G a25)
  cases e
  have F1 := fun_mk (st := sName) l1 c1 k1
  have M1 : Ms K mg "is_name" f1 _ ["text"] := ⟨F1.binds (ps := ["text"]) fun _ _ _ _ _ _ us hl => match us, hl with | [_], _ => rfl, k1, PySem.W.mg_of X G a1⟩
  have F2 := fun_mk (st := sWell) l2 c2 k2
  have M2 : Ms K mg "is_well_made" f2 _ ["row"] := ⟨F2.binds (ps := ["row"]) fun _ _ _ _ _ _ us hl => match us, hl with | [_], _ => rfl, k2, PySem.W.mg_of X G a2⟩
  have F3 := fun_mk (st := sFits) l3 c3 k3
  have M3 : Ms K mg "fits" f3 _ ["sort", "piece"] := ⟨F3.binds (ps := ["sort", "piece"]) fun _ _ _ _ _ _ us hl => match us, hl with | [_, _], _ => rfl, k3, PySem.W.mg_of X G a3⟩
  have F4 := fun_mk (st := sPcs) l4 c4 k4
  have M4 : Ms K mg "pieces_of" f4 _ ["form", "words"] := ⟨F4.binds (ps := ["form", "words"]) fun _ _ _ _ _ _ us hl => match us, hl with | [_, _], _ => rfl, k4, PySem.W.mg_of X G a4⟩
  have F5 := fun_mk (st := sPc) l5 c5 k5
  have M5 : Ms K mg "piece_of" f5 _ ["sort", "word"] := ⟨F5.binds (ps := ["sort", "word"]) fun _ _ _ _ _ _ us hl => match us, hl with | [_, _], _ => rfl, k5, PySem.W.mg_of X G a5⟩
  have F6 := fun_mk (st := sNum) l6 c6 k6
  have M6 : Ms K mg "number_of" f6 _ ["word"] := ⟨F6.binds (ps := ["word"]) fun _ _ _ _ _ _ us hl => match us, hl with | [_], _ => rfl, k6, PySem.W.mg_of X G a6⟩
  have F7 := fun_mk (st := sNm) l7 c7 k7
  have M7 : Ms K mg "name_of" f7 _ ["word"] := ⟨F7.binds (ps := ["word"]) fun _ _ _ _ _ _ us hl => match us, hl with | [_], _ => rfl, k7, PySem.W.mg_of X G a7⟩
  have F8 := fun_mk (st := sRead) l8 c8 k8
  have M8 : Ms K mg "read_row" f8 _ ["text"] := ⟨F8.binds (ps := ["text"]) fun _ _ _ _ _ _ us hl => match us, hl with | [_], _ => rfl, k8, PySem.W.mg_of X G a8⟩
  have F9 := fun_mk (st := sRowOf) l9 c9 k9
  have M9 : Ms K mg "row_of" f9 _ ["text"] := ⟨F9.binds (ps := ["text"]) fun _ _ _ _ _ _ us hl => match us, hl with | [_], _ => rfl, k9, PySem.W.mg_of X G a9⟩
  have F10 := fun_mk (st := sFeed) l10 c10 k10
  have M10 : Ms K mg "_law_feed" f10 _ ["_law_script", "_law_many"] := ⟨F10.binds (ps := ["_law_script", "_law_many"]) fun _ _ _ _ _ _ us hl => match us, hl with | [_, _], _ => rfl, k10, PySem.W.mg_of X G a10⟩
  have F11 := fun_mk (st := sSame) l11 c11 k11
  have M11 : Ms K mg "_law_same" f11 _ ["_law_found", "_law_due"] := ⟨F11.binds (ps := ["_law_found", "_law_due"]) fun _ _ _ _ _ _ us hl => match us, hl with | [_, _], _ => rfl, k11, PySem.W.mg_of X G a11⟩
  have F12 := fun_mk (st := sNames) l12 c12 k12
  have M12 : Ms K mg "_law_names" f12 _ ["_law_d", "_law_many"] := ⟨F12.binds (ps := ["_law_d", "_law_many"]) fun _ _ _ _ _ _ us hl => match us, hl with | [_, _], _ => rfl, k12, PySem.W.mg_of X G a12⟩
  have F13 := fun_mk (st := sKinds) l13 c13 k13
  have M13 : Ms K mg "_law_kinds" f13 _ [] := ⟨F13.binds (ps := []) fun _ _ _ _ _ _ us hl => match us, hl with | [], _ => rfl, k13, PySem.W.mg_of X G a13⟩
  have F14 := fun_mk (st := sShapes) l14 c14 k14
  have M14 : Ms K mg "_law_shapes" f14 _ [] := ⟨F14.binds (ps := []) fun _ _ _ _ _ _ us hl => match us, hl with | [], _ => rfl, k14, PySem.W.mg_of X G a14⟩
  have F15 := fun_mk (st := sNamed) l15 c15 k15
  have M15 : Ms K mg "_law_named" f15 _ ["_law_word"] := ⟨F15.binds (ps := ["_law_word"]) fun _ _ _ _ _ _ us hl => match us, hl with | [_], _ => rfl, k15, PySem.W.mg_of X G a15⟩
  have F16 := fun_mk (st := sGood) l16 c16 k16
  have M16 : Ms K mg "_law_good" f16 _ ["_law_row"] := ⟨F16.binds (ps := ["_law_row"]) fun _ _ _ _ _ _ us hl => match us, hl with | [_], _ => rfl, k16, PySem.W.mg_of X G a16⟩
  have F17 := fun_mk (st := sAny) l17 c17 k17
  have M17 : Ms K mg "_law_any_row" f17 _ ["_law_d", "_law_names_here"] := ⟨F17.binds (ps := ["_law_d", "_law_names_here"]) fun _ _ _ _ _ _ us hl => match us, hl with | [_, _], _ => rfl, k17, PySem.W.mg_of X G a17⟩
  have F18 := fun_mk (st := sWordOf) l18 c18 k18
  have M18 : Ms K mg "_law_word_of" f18 _ ["_law_thing"] := ⟨F18.binds (ps := ["_law_thing"]) fun _ _ _ _ _ _ us hl => match us, hl with | [_], _ => rfl, k18, PySem.W.mg_of X G a18⟩
  have F19 := fun_mk (st := sTextOf) l19 c19 k19
  have M19 : Ms K mg "_law_text_of" f19 _ ["_law_row"] := ⟨F19.binds (ps := ["_law_row"]) fun _ _ _ _ _ _ us hl => match us, hl with | [_], _ => rfl, k19, PySem.W.mg_of X G a19⟩
  have F20 := fun_mk (st := sNumL) l20 c20 k20
  have M20 : Ms K mg "_law_number" f20 _ ["_law_word"] := ⟨F20.binds (ps := ["_law_word"]) fun _ _ _ _ _ _ us hl => match us, hl with | [_], _ => rfl, k20, PySem.W.mg_of X G a20⟩
  have F21 := fun_mk (st := sReadL) l21 c21 k21
  have M21 : Ms K mg "_law_read" f21 _ ["_law_text"] := ⟨F21.binds (ps := ["_law_text"]) fun _ _ _ _ _ _ us hl => match us, hl with | [_], _ => rfl, k21, PySem.W.mg_of X G a21⟩
  have F22 := fun_mk (st := sSign) l22 c22 k22
  have M22 : Ms K mg "_law_sign_of" f22 _ ["_law_code"] := ⟨F22.binds (ps := ["_law_code"]) fun _ _ _ _ _ _ us hl => match us, hl with | [_], _ => rfl, k22, PySem.W.mg_of X G a22⟩
  have F23 := fun_mk (st := sBent) l23 c23 k23
  have M23 : Ms K mg "_law_bent_text" f23 _ ["_law_text", "_law_d"] := ⟨F23.binds (ps := ["_law_text", "_law_d"]) fun _ _ _ _ _ _ us hl => match us, hl with | [_, _], _ => rfl, k23, PySem.W.mg_of X G a23⟩
  have F24 := fun_mk (st := sWhyT) l24 c24 k24
  have M24 : Ms K mg "_law_why_text" f24 _ ["_law_text"] := ⟨F24.binds (ps := ["_law_text"]) fun _ _ _ _ _ _ us hl => match us, hl with | [_], _ => rfl, k24, PySem.W.mg_of X G a24⟩
  have F25 := fun_mk (st := sLaw) l25 c25 k25
  have c_LONGEST_NAME := PySem.W.mg_of X G q1
  have c_CROWN := PySem.W.mg_of X G q2
  have c_CROWN_SIGN := PySem.W.mg_of X G q3
  have c_MOST_FIGURES := PySem.W.mg_of X G q4
  have c_FORMS := PySem.W.mg_of X G q5
  have c_BOUNDS := PySem.W.mg_of X G q6
  have c_OF_TWO_MEN := PySem.W.mg_of X G q7
  have c_NoText := PySem.W.mg_of X G q8
  have c_LandError := PySem.W.mg_of X G q9
  have c_NoForm := PySem.W.mg_of X G q10
  have c_NoEntry := PySem.W.mg_of X G q11
  have n_isinstance := PySem.W.mg_none_of X G z1
  have n_int := PySem.W.mg_none_of X G z2
  have n_str := PySem.W.mg_none_of X G z3
  have n_len := PySem.W.mg_none_of X G z4
  have n_all := PySem.W.mg_none_of X G z5
  have n_zip := PySem.W.mg_none_of X G z6
  have n_range := PySem.W.mg_none_of X G z7
  have n_enumerate := PySem.W.mg_none_of X G z8
  have n_max := PySem.W.mg_none_of X G z9
  have n_tuple := PySem.W.mg_none_of X G z10
  have n_bool := PySem.W.mg_none_of X G z11
  have n_list := PySem.W.mg_none_of X G z12
  have n_ValueError := PySem.W.mg_none_of X G z13
  refine ⟨PySem.W.fnOf "law" "law" (defArgs sLaw) (defBody sLaw) (defScope sLaw) .none kV25 dc25 pm25 an25 cd25 ct25, fun s v => .of_eq rfl, fun base _ _ => ?_⟩
  have mo : Mods K w.params mg := ⟨⟨aB, b1_, b2_, b3_, b4_, b5_, b6_, b7_, c_BOUNDS, ⟨⟨_, _, kB, eB⟩, lB⟩, ktp_of t_b1_ s_b1_ v_b1_, ktp_of t_b2_ s_b2_ v_b2_, ktp_of t_b3_ s_b3_ v_b3_⟩, ⟨aF, _, c_FORMS, ⟨⟨_, _, kF, eF⟩, lF⟩, fo_cons (ktp_of t_f1_ s_f1_ v_f1_) (fo_cons (ktp_of t_f2_ s_f2_ v_f2_) (fo_cons (ktp_of t_f3_ s_f3_ v_f3_) (fo_cons (ktp_of t_f4_ s_f4_ v_f4_) (fo_cons (ktp_of t_f5_ s_f5_ v_f5_) (fo_cons (ktp_of t_f6_ s_f6_ v_f6_) (fo_cons (ktp_of t_f7_ s_f7_ v_f7_) (fo_nil)))))))⟩, ⟨tw_, c_OF_TWO_MEN, ktp_of t_tw_ s_tw_ v_tw_⟩, ⟨_, c_CROWN⟩⟩
  have xi : XI K C "at" := ⟨⟨x1, x2, by rw [x3]; rfl, x4, x5, x6, x7, x8⟩, eiC, saC, noC, hdC⟩
  have cl : ClsT K mg C L c1_ c2_ := ⟨c_NoText, c_LandError, c_NoForm, c_NoEntry, xi, ex, y0, y1, y2, y3⟩
  have ms : MgS mg := ⟨n_isinstance, n_bool, n_int, n_str, n_list, n_tuple, n_len, n_all, n_zip⟩
  have F_I : FunD K "__init__" "NoText.__init__" sInitT f_I _ T_ := ⟨ocI, odI, kVI, dcI, pmI, anI, cdI, ctI, slI, rfl, la_I, ca_I⟩
  have b_I := bindsT F_I (v0 := v0T) (v1 := .int 1 t1T) (n := nT) tT (by rw [eT])
  have G_I := ok_initT (P := l.prog) (w := w) (base := base) F_I xi ⟨rdL, fcL, spL⟩ c_LandError
  have G1 := ok_name (P := l.prog) (w := w) (base := base) F1 c_LONGEST_NAME n_len
  have G3 := ok_fits (P := l.prog) (w := w) (base := base) F3 mo G1 M1
  have G2 := ok_well (P := l.prog) (w := w) (base := base) F2 mo n_len n_zip G3 M3
  have G6 := ok_num (P := l.prog) (w := w) (base := base) F6 n_len n_int c_MOST_FIGURES
  have G7 := ok_nm (P := l.prog) (w := w) (base := base) F7 c_CROWN_SIGN c_CROWN G1 M1
  have G5 := ok_pc (P := l.prog) (w := w) (base := base) F5 mo G6 M6 G7 M7 G3 M3
  have G4 := ok_pcs (P := l.prog) (w := w) (base := base) F4 n_len n_zip G5 M5
  have G9 := ok_rowof (P := l.prog) (w := w) (base := base) F9 mo n_tuple G4 M4 G2 M2
  have G8 := ok_read (P := l.prog) (w := w) (base := base) F8 G9 M9 ⟨eiC, fa_I, ia_I, kpC⟩ G_I b_I c_NoText
  have G10 := ok_feed (P := l.prog) (w := w) (base := base) F10 n_range n_len
  have G11 := ok_same (P := l.prog) (w := w) (base := base) F11 ms M11 2
  have G_H := ok_sameH (P := l.prog) (w := w) (base := base) F11 ms
  have G12 := ok_names (P := l.prog) (w := w) (base := base) F12 n_len n_range
  have G13 := ok_kinds (P := l.prog) (w := w) (mg := mg) (base := base) F13
  have G14 := ok_shapes (P := l.prog) (w := w) (mg := mg) (base := base) F14
  have G15 := ok_named (P := l.prog) (w := w) (base := base) F15 n_len n_all
  have G16 := ok_good (P := l.prog) (w := w) (base := base) F16 n_len n_int n_zip G14 M14 G15 M15
  have G17 := ok_any (P := l.prog) (w := w) (base := base) F17 n_len n_int n_enumerate n_max n_tuple G14 M14 G13 M13
  have G18 := ok_wordof (P := l.prog) (w := w) (base := base) F18 n_str
  have G19 := ok_textof (P := l.prog) (w := w) (base := base) F19 G18 M18
  have G20 := ok_numL (P := l.prog) (w := w) (base := base) F20 n_len n_all n_int
  have G21 := ok_readL (P := l.prog) (w := w) (base := base) F21 n_len n_zip n_tuple G14 M14 G20 M20 G16 M16
  have G22 := ok_sign (P := l.prog) (w := w) (base := base) F22 n_len
  have G23 := ok_bent (P := l.prog) (w := w) (base := base) F23 n_len G22 M22
  have G24 := ok_whyT (P := l.prog) (w := w) (base := base) F24 n_isinstance n_ValueError cl G8 M8 G_H M11
  exact ok_law F25 n_range G10 M10 G12 M12 G17 M17 G19 M19 G23 M23 G21 M21 G24 M24 G11 M11
theorem walk {l : PySem.W.OpenLaw} {q : Program} {loose : List Str} {XP : (Str → Option Value) → Heap → Prop} {YP : World → Heap → Prop} {d : DefRec} {K : Params → PySem.W.Frag} (hn : l.most = some 63) (hdf : d.params.defaults = [])
    (hY : ∀ (w : World) (h : Heap), YP w h → (K w.params).In h)
    (F : ∀ (w : World) (mg : Str → Option Value) (fa : Addr) (h : Heap), (K w.params).In h → h.Ns mainGlobals mg → mg d.name = some (.ref fa) →
      ∃ fd : FuncData, (∀ (s : Shared) (u : Value), BindsTo s fd ⟨[u], []⟩ [("_law_script", u)]) ∧ ∀ base : Heap, (K w.params).In base → base.Ns mainGlobals mg → FnOk l.prog w (K w.params) mg base CX0 8 fa fd ["_law_script"] (spLaw (K w.params))) :
    PySem.W.WalkO q loose XP YP l.row.toRowW d [] (fun f vs => PySem.call f vs) :=
  L2.walk_of (n := 63) (k := 8) (x := "_law_script") (CX := fun _ => CX0) (sp := fun w => spLaw (K w.params)) hn (by decide) hdf ⟨rfl, by decide, by decide⟩ hY F (fun _ _ a ns hl _ hS => ⟨a, ns, rfl, hS, hl, fun _ => rfl⟩) fun _ _ _ _ _ z => z
end M
def PySem.W.Fast.tw15321681596869193110 : Nat := 0
def PySem.W.Fast.tw9231442044791883840 : Nat := 0
def PySem.W.Fast.tw7058080698355133499 : Nat := 0
def PySem.W.Fast.tw7833058527695204104 : Nat := 0
def PySem.W.Fast.tw5998413511999610159 : Nat := 0
def PySem.W.Fast.tw5006479259042596944 : Nat := 0
def PySem.W.Fast.tw11468743311958290902 : Nat := 0
def PySem.W.Fast.tw6712402318596317995 : Nat := 0
def PySem.W.Fast.tw12612851354609331955 : Nat := 0
def PySem.W.Fast.tw9517432622671207815 : Nat := 0
def PySem.W.Fast.tw8273793762715132195 : Nat := 0
def PySem.W.Fast.tw5281915445830926876 : Nat := 0
def PySem.W.Fast.tw3327629269548881064 : Nat := 0
def PySem.W.Fast.tw1833437908000195394 : Nat := 0
def PySem.W.Fast.tw17921562978763495001 : Nat := 0
open PySem PySem.W PyProof.Rows
set_option maxRecDepth 100000 in
set_option maxHeartbeats 0 in
theorem PySem.Challenge.cw_manrent_k51_rows_read_or_refused_holds : PySem.Challenge.rw_manrent_k51_rows_read_or_refused.Holds := by
  w_on; o_law; k_head; (case hw => w_witness2)
  k_fill
  refine M.walk (l := PySem.Challenge.rw_manrent_k51_rows_read_or_refused) rfl rfl (fun w h Y => PySem.W.kIn_of Y) ?F
  case F =>
    intro w mg fa h KX G hmg
    refine' M.all_mk KX G hmg ?a1 ?l1 ?c1 ?k1 ?a2 ?l2 ?c2 ?k2 ?a3 ?l3 ?c3 ?k3 ?a4 ?l4 ?c4 ?k4 ?a5 ?l5 ?c5 ?k5 ?a6 ?l6 ?c6 ?k6 ?a7 ?l7 ?c7 ?k7 ?a8 ?l8 ?c8 ?k8 ?a9 ?l9 ?c9 ?k9 ?a10 ?l10 ?c10 ?k10 ?a11 ?l11 ?c11 ?k11 ?a12 ?l12 ?c12 ?k12 ?a13 ?l13 ?c13 ?k13 ?a14 ?l14 ?c14 ?k14 ?a15 ?l15 ?c15 ?k15 ?a16 ?l16 ?c16 ?k16 ?a17 ?l17 ?c17 ?k17 ?a18 ?l18 ?c18 ?k18 ?a19 ?l19 ?c19 ?k19 ?a20 ?l20 ?c20 ?k20 ?a21 ?l21 ?c21 ?k21 ?a22 ?l22 ?c22 ?k22 ?a23 ?l23 ?c23 ?k23 ?a24 ?l24 ?c24 ?k24 ?a25 ?l25 ?c25 ?k25 ?q1 ?q2 ?q3 ?q4 ?q5 ?q6 ?q7 ?q8 ?q9 ?q10 ?q11 ?z1 ?z2 ?z3 ?z4 ?z5 ?z6 ?z7 ?z8 ?z9 ?z10 ?z11 ?z12 ?z13 ?fa_I ?la_I ?ca_I ?ia_I ?tT ?eT ?kpC ?hdC ?saC ?noC ?eiC ?rdL ?fcL ?spL ?x1 ?x2 ?x3 ?x4 ?x5 ?x6 ?x7 ?x8 ?ex ?y0 ?y1 ?y2 ?y3 ?kF ?eF ?lF ?kB ?eB ?lB ?t_f1_ ?s_f1_ ?v_f1_ ?t_f2_ ?s_f2_ ?v_f2_ ?t_f3_ ?s_f3_ ?v_f3_ ?t_f4_ ?s_f4_ ?v_f4_ ?t_f5_ ?s_f5_ ?v_f5_ ?t_f6_ ?s_f6_ ?v_f6_ ?t_f7_ ?s_f7_ ?v_f7_ ?t_b1_ ?s_b1_ ?v_b1_ ?t_b2_ ?s_b2_ ?v_b2_ ?t_b3_ ?s_b3_ ?v_b3_ ?t_tw_ ?s_tw_ ?v_tw_
    (case a1 => k_is); (case l1 => k_is); (case c1 => k_is); (case k1 => k_is)
    (case a2 => k_is); (case l2 => k_is); (case c2 => k_is); (case k2 => k_is)
    (case a3 => k_is); (case l3 => k_is); (case c3 => k_is); (case k3 => k_is)
    (case a4 => k_is); (case l4 => k_is); (case c4 => k_is); (case k4 => k_is)
    (case a5 => k_is); (case l5 => k_is); (case c5 => k_is); (case k5 => k_is)
    (case a6 => k_is); (case l6 => k_is); (case c6 => k_is); (case k6 => k_is)
    (case a7 => k_is); (case l7 => k_is); (case c7 => k_is); (case k7 => k_is)
    (case a8 => k_is); (case l8 => k_is); (case c8 => k_is); (case k8 => k_is)
    (case a9 => k_is); (case l9 => k_is); (case c9 => k_is); (case k9 => k_is)
    (case a10 => k_is); (case l10 => k_is); (case c10 => k_is); (case k10 => k_is)
    (case a11 => k_is); (case l11 => k_is); (case c11 => k_is); (case k11 => k_is)
    (case a12 => k_is); (case l12 => k_is); (case c12 => k_is); (case k12 => k_is)
    (case a13 => k_is); (case l13 => k_is); (case c13 => k_is); (case k13 => k_is)
    (case a14 => k_is); (case l14 => k_is); (case c14 => k_is); (case k14 => k_is)
    (case a15 => k_is); (case l15 => k_is); (case c15 => k_is); (case k15 => k_is)
    (case a16 => k_is); (case l16 => k_is); (case c16 => k_is); (case k16 => k_is)
    (case a17 => k_is); (case l17 => k_is); (case c17 => k_is); (case k17 => k_is)
    (case a18 => k_is); (case l18 => k_is); (case c18 => k_is); (case k18 => k_is)
    (case a19 => k_is); (case l19 => k_is); (case c19 => k_is); (case k19 => k_is)
    (case a20 => k_is); (case l20 => k_is); (case c20 => k_is); (case k20 => k_is)
    (case a21 => k_is); (case l21 => k_is); (case c21 => k_is); (case k21 => k_is)
    (case a22 => k_is); (case l22 => k_is); (case c22 => k_is); (case k22 => k_is)
    (case a23 => k_is); (case l23 => k_is); (case c23 => k_is); (case k23 => k_is)
    (case a24 => k_is); (case l24 => k_is); (case c24 => k_is); (case k24 => k_is)
    (case a25 => k_is); (case l25 => k_is); (case c25 => k_is); (case k25 => k_is)
    (case q1 => k_is); (case q2 => k_is); (case q3 => k_is); (case q4 => k_is)
    (case q5 => k_is); (case q6 => k_is); (case q7 => k_is); (case q8 => k_is)
    (case q9 => k_is); (case q10 => k_is); (case q11 => k_is); (case z1 => k_is)
    (case z2 => k_is); (case z3 => k_is); (case z4 => k_is); (case z5 => k_is)
    (case z6 => k_is); (case z7 => k_is); (case z8 => k_is); (case z9 => k_is)
    (case z10 => k_is); (case z11 => k_is); (case z12 => k_is); (case z13 => k_is)
    (case fa_I => k_is)
    (case la_I => k_is)
    (case ca_I => k_is)
    (case ia_I => k_is)
    (case tT => k_is)
    (case eT => rfl)
    (case kpC => k_is)
    (case hdC => k_is)
    (case saC => k_is)
    (case noC => k_is)
    (case eiC => kernel_rfl)
    (case rdL => k_is)
    (case fcL => k_is)
    (case spL => k_is)
    (case x1 => k_is)
    (case x2 => k_is)
    (case x3 => k_is)
    (case x4 => k_is)
    (case x5 => k_is)
    (case x6 => k_is)
    (case x7 => k_is)
    (case x8 => k_is)
    (case ex => kts_exm)
    (case y0 => kit_is)
    (case y1 => kit_is)
    (case y2 => kit_is)
    (case y3 => kit_is)
    (case kF => k_is)
    (case eF => exact ⟨⟨⟨_, rfl⟩, rfl, rfl⟩, ⟨⟨_, rfl⟩, rfl, rfl⟩, ⟨⟨_, rfl⟩, rfl, rfl⟩, ⟨⟨_, rfl⟩, rfl, rfl⟩, ⟨⟨_, rfl⟩, rfl, rfl⟩, ⟨⟨_, rfl⟩, rfl, rfl⟩, ⟨⟨_, rfl⟩, rfl, rfl⟩, True.intro⟩)
    (case lF => rfl)
    (case kB => k_is)
    (case eB => exact ⟨⟨⟨_, rfl⟩, rfl, rfl⟩, ⟨⟨_, rfl⟩, rfl, rfl⟩, ⟨⟨_, rfl⟩, rfl, rfl⟩, ⟨⟨_, rfl⟩, rfl, rfl⟩, ⟨⟨_, rfl⟩, rfl, rfl⟩, ⟨⟨_, rfl⟩, rfl, rfl⟩, ⟨⟨_, rfl⟩, rfl, rfl⟩, True.intro⟩)
    (case lB => rfl)
    (case t_f1_ => k_is)
    (case s_f1_ => exact M.small (Nat.le_of_ble_eq_true rfl))
    (case v_f1_ => exact .cons ⟨_, rfl⟩ (.cons ⟨_, rfl⟩ (.cons ⟨_, rfl⟩ (.nil))))
    (case t_f2_ => k_is)
    (case s_f2_ => exact M.small (Nat.le_of_ble_eq_true rfl))
    (case v_f2_ => exact .cons ⟨_, rfl⟩ (.cons ⟨_, rfl⟩ (.cons ⟨_, rfl⟩ (.cons ⟨_, rfl⟩ (.cons ⟨_, rfl⟩ (.cons ⟨_, rfl⟩ (.nil)))))))
    (case t_f3_ => k_is)
    (case s_f3_ => exact M.small (Nat.le_of_ble_eq_true rfl))
    (case v_f3_ => exact .cons ⟨_, rfl⟩ (.cons ⟨_, rfl⟩ (.cons ⟨_, rfl⟩ (.cons ⟨_, rfl⟩ (.cons ⟨_, rfl⟩ (.nil))))))
    (case t_f4_ => k_is)
    (case s_f4_ => exact M.small (Nat.le_of_ble_eq_true rfl))
    (case v_f4_ => exact .cons ⟨_, rfl⟩ (.cons ⟨_, rfl⟩ (.cons ⟨_, rfl⟩ (.nil))))
    (case t_f5_ => k_is)
    (case s_f5_ => exact M.small (Nat.le_of_ble_eq_true rfl))
    (case v_f5_ => exact .cons ⟨_, rfl⟩ (.cons ⟨_, rfl⟩ (.cons ⟨_, rfl⟩ (.nil))))
    (case t_f6_ => k_is)
    (case s_f6_ => exact M.small (Nat.le_of_ble_eq_true rfl))
    (case v_f6_ => exact .cons ⟨_, rfl⟩ (.cons ⟨_, rfl⟩ (.nil)))
    (case t_f7_ => k_is)
    (case s_f7_ => exact M.small (Nat.le_of_ble_eq_true rfl))
    (case v_f7_ => exact .cons ⟨_, rfl⟩ (.cons ⟨_, rfl⟩ (.nil)))
    (case t_b1_ => k_is)
    (case s_b1_ => exact M.small (Nat.le_of_ble_eq_true rfl))
    (case v_b1_ => exact .cons ⟨_, rfl⟩ (.cons ⟨_, rfl⟩ (.nil)))
    (case t_b2_ => k_is)
    (case s_b2_ => exact M.small (Nat.le_of_ble_eq_true rfl))
    (case v_b2_ => exact .cons ⟨_, rfl⟩ (.cons ⟨_, rfl⟩ (.nil)))
    (case t_b3_ => k_is)
    (case s_b3_ => exact M.small (Nat.le_of_ble_eq_true rfl))
    (case v_b3_ => exact .cons ⟨_, rfl⟩ (.cons ⟨_, rfl⟩ (.nil)))
    (case t_tw_ => k_is)
    (case s_tw_ => exact M.small (Nat.le_of_ble_eq_true rfl))
    (case v_tw_ => exact .cons ⟨_, rfl⟩ (.cons ⟨_, rfl⟩ (.nil)))
