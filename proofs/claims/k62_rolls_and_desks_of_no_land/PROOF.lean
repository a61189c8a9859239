import PyProof.Rows.All
import Wide.All
import OpenK.AllK
import Wide.FinOn
import Lean
import PyProof.EqAt
import PyProof.EqKinds
import PyProof.TupleCall
import PyProof.P3Eq
import PyProof.NeData
import KE.KTryDeep
import KE.KTryMore
import KE.KIsAll
import PyProof.NsDelKeeps
import PyProof.ExcArgsOwn
import OpenK.KTop
import PyProof.ExcBaseAll.ValueError
import PyProof.EnumMake
import PyProof.Draws
import KE.KSetDisp
import PyProof.SetRoads
import PyProof.Rows.SortStr
import PyProof.Rows.SortWalk
import PyProof.DictItems
import PyProof.DictValues
import KE.KSortTup
import KE.KItemsList
import KE.KDictOf
import KE.KDictList
import PyProof.ListRange
import KE.RegKIsAll
import KE.RegKTryMore
import PySem.Challenge.RW_manrent_k62_rolls_and_desks_of_no_land
set_option Elab.async false
set_option linter.all false
set_option maxRecDepth 100000

namespace L2
open PySem PySem.Spec PyProof.Rows


abbrev Key := Sum Int Str
def keyIs : Key → Value → Bool
  | .inl k, v => Value.isInt k v
  | .inr x, v => Value.isStrOf x v
def keyH (w : World) : Key → Int
  | .inl k => hashInt k
  | .inr x => hashStr w x
theorem keyIs_shape : ∀ {k : Key} {v : Value}, keyIs k v = true → (∃ i t, k = Sum.inl i ∧ v = Value.int i t) ∨ (∃ x t, k = Sum.inr x ∧ v = Value.str x t)
  | .inl i, v, h => by
    obtain ⟨t, e⟩ := Value.isInt_shape (k := i) (v := v) h
    exact .inl ⟨i, t, rfl, e⟩
  | .inr x, v, h => by
    obtain ⟨t, e⟩ := Value.isStrOf_shape (x := x) (v := v) h
    exact .inr ⟨x, t, rfl, e⟩
theorem keyIs_int (i : Int) (t : Tok) : keyIs (.inl i) (.int i t) = true := by simp [keyIs, Value.isInt]
theorem keyIs_str (x : Str) (t : Tok) : keyIs (.inr x) (.str x t) = true := by simp [keyIs, Value.isStrOf]
theorem key_ll (a b : Int) : decide ((Sum.inl a : Key) = Sum.inl b) = (a == b) := by
  by_cases e : a = b
  · subst e; simp
  · have h : ¬ (Sum.inl a : Key) = Sum.inl b := fun q => e (Sum.inl.inj q)
    rw [decide_eq_false h]
    exact (beq_eq_false_iff_ne.mpr e).symm
theorem key_rr (a b : Str) : decide ((Sum.inr a : Key) = Sum.inr b) = decide (a = b) := by
  by_cases e : a = b
  · subst e; simp
  · have h : ¬ (Sum.inr a : Key) = Sum.inr b := fun q => e (Sum.inr.inj q)
    rw [decide_eq_false h, decide_eq_false e]
theorem key_lr (a : Int) (b : Str) : decide ((Sum.inl a : Key) = Sum.inr b) = false := decide_eq_false (fun q => nomatch q)
theorem key_rl (a : Str) (b : Int) : decide ((Sum.inr a : Key) = Sum.inl b) = false := decide_eq_false (fun q => nomatch q)

def mixKind (prog : Program) (w : World) : PySem.KeyKind prog w Key where
  is := keyIs
  hash := keyH w
  inj := fun v a b ha hb => by
    rcases keyIs_shape ha with ⟨i, t, rfl, rfl⟩ | ⟨x, t, rfl, rfl⟩
    · rcases keyIs_shape hb with ⟨j, u, rfl, e⟩ | ⟨y, u, rfl, e⟩
      · injection e with e1 _; rw [e1]
      · exact nomatch e
    · rcases keyIs_shape hb with ⟨j, u, rfl, e⟩ | ⟨y, u, rfl, e⟩
      · exact nomatch e
      · injection e with e1 _; rw [e1]
  byValue := fun k v h => by
    rcases keyIs_shape h with ⟨i, t, rfl, rfl⟩ | ⟨x, t, rfl, rfl⟩ <;> rfl
  pyHash := fun hv h => by
    rcases keyIs_shape hv with ⟨i, t, rfl, rfl⟩ | ⟨x, t, rfl, rfl⟩
    · exact wpAny_pyHash_int h
    · exact wpAny_pyHash_str h
  eqBool := fun hu hv h => by
    rcases keyIs_shape hu with ⟨i, t, rfl, rfl⟩ | ⟨x, t, rfl, rfl⟩
    · rcases keyIs_shape hv with ⟨j, u, rfl, rfl⟩ | ⟨y, u, rfl, rfl⟩
      · rw [key_ll] at h; exact wpAny_eqBool_int h
      · rw [key_lr] at h; exact SeqAt.EqAt.int_str i t y u _ _ _ _ h
    · rcases keyIs_shape hv with ⟨j, u, rfl, rfl⟩ | ⟨y, u, rfl, rfl⟩
      · rw [key_rl] at h; exact SeqAt.EqAt.str_int x t j u _ _ _ _ h
      · rw [key_rr] at h; exact wpAny_eqBool_str h
  «strs» := fun k x t v h => by
    rcases keyIs_shape h with ⟨i, u, rfl, e⟩ | ⟨y, u, rfl, e⟩
    · exact nomatch e
    · injection e with e1 _
      subst e1
      cases v <;> rfl

theorem mixKind_int (prog : Program) (w : World) (i : Int) (t : Tok) : (mixKind prog w).is (.inl i) (.int i t) = true := keyIs_int i t
theorem mixKind_str (prog : Program) (w : World) (x : Str) (t : Tok) : (mixKind prog w).is (.inr x) (.str x t) = true := keyIs_str x t
end L2

namespace L2
open PySem PySem.Spec PyProof.Rows


inductive V where
  | non | bl (b : Bool) | int (i : Int) | str (x : Str) | byt (b : Array UInt8) | flt (b : UInt64) | ref (a : Addr) | ty (n : String)
  deriving DecidableEq

def RelV : V → Value → Prop
  | .non, u => u = Value.none
  | .bl b, u => u = Value.bool b
  | .int i, u => ∃ t, u = Value.int i t
  | .str x, u => ∃ t, u = Value.str x t
  | .byt b, u => ∃ t, u = Value.bytes b t
  | .flt b, u => ∃ t, u = Value.float b t
  | .ref a, u => u = Value.ref a
  | .ty n, u => u = Value.type n

abbrev Vals : List V → List Value → Prop := Paired RelV
theorem Vals.length {xs : List V} {us : List Value} (r : Vals xs us) : xs.length = us.length := Paired.length r
theorem Vals.get : ∀ {xs : List V} {us : List Value} {i : Nat} {x : V}, Vals xs us → xs[i]? = some x → ∃ u, us[i]? = some u ∧ RelV x u
  | _, _, _, _, .nil, e => by simp at e
  | _, _, 0, _, .cons r _, e => by simp at e; subst e; exact ⟨_, rfl, r⟩
  | _, _, i + 1, x, .cons _ t, e => by
    obtain ⟨u, h1, h2⟩ := Vals.get (i := i) (x := x) t (by simpa using e)
    exact ⟨u, by simpa using h1, h2⟩
theorem Vals.append : ∀ {xs ys : List V} {us ws : List Value}, Vals xs us → Vals ys ws → Vals (xs ++ ys) (us ++ ws)
  | _, _, _, _, .nil, s => s
  | _, _, _, _, .cons r t, s => .cons r (Vals.append t s)
theorem Vals.take : ∀ {xs : List V} {us : List Value} (n : Nat), Vals xs us → Vals (xs.take n) (us.take n)
  | _, _, 0, _ => .nil
  | _, _, _ + 1, .nil => .nil
  | _, _, n + 1, .cons r t => .cons r (Vals.take n t)
theorem Vals.drop : ∀ {xs : List V} {us : List Value} (n : Nat), Vals xs us → Vals (xs.drop n) (us.drop n)
  | _, _, 0, r => r
  | _, _, _ + 1, .nil => .nil
  | _, _, n + 1, .cons _ t => Vals.drop n t
def RelO : Option V → Option Value → Prop
  | some v, some u => RelV v u
  | none, none => True
  | _, _ => False
def KV {κ : Type} : List (κ × V) → List (κ × Value) → Prop := Paired fun (p : κ × V) (q : κ × Value) => p.1 = q.1 ∧ RelV p.2 q.2


def kV : Key → V
  | .inl i => .int i
  | .inr x => .str x


inductive HO where
  
  | lst (xs : List V)
  
  | tup (xs : List V)
  
  | dK (kvs : List (Key × V)) | dT (kvs : List (List Key × V))
  
  | set (S : Int → Bool) (n : Nat)
  
  | ins (C dx : Addr) (fs : List (Str × V))
  
  | own (x : Addr)
  
  | xd (fs : List (Str × V))
  
  | met (f x : Addr)
  
  | rng (lo hi : Int)
  
  | frz (o : Obj) (u : HO)
  
  | tbl (ps : Array Value)
  
  | ext (φ : Heap → Prop)

abbrev Hp := Addr → Option HO
def upd (H : Hp) (a : Addr) (o : HO) : Hp := fun b => if b = a then some o else H b
theorem upd_same {H : Hp} {a : Addr} {o : HO} : upd H a o a = some o := by unfold upd; rw [if_pos rfl]
theorem upd_ne {H : Hp} {a b : Addr} {o : HO} (h : b ≠ a) : upd H a o b = H b := by unfold upd; rw [if_neg h]
theorem upd_upd {H : Hp} {a : Addr} {o u : HO} : upd (upd H a o) a u = upd H a u := by
  funext b; unfold upd; split <;> rfl

theorem ne_of {H : Hp} {a b : Addr} {o u : HO} (h : H a = some o) (h' : H b = some u) (d : o ≠ u) : a ≠ b := by
  intro e; subst e; rw [h] at h'; exact d (Option.some.inj h')
theorem ne_of_none {H : Hp} {a b : Addr} {o : HO} (h : H a = some o) (h' : H b = none) : a ≠ b := by
  intro e; subst e; rw [h] at h'; cases h'

section
variable (P : Program) (w : World)
def ObjOk (H : Hp) (h : Heap) (a : Addr) : HO → Prop
  | .lst xs => xs.length ≤ sizeLine ∧ ∃ (its : List Value) (n : Nat), Vals xs its ∧ h.get? a = some { cls := .type "list", data := .seq its.toArray n }
  | .tup xs => xs.length ≤ sizeLine ∧ ∃ its : List Value, Vals xs its ∧ IsTup h a its.toArray
  | .dK kvs => kvs.length ≤ sizeLine ∧ (a == sysModules) = false ∧ ∃ vs, KV kvs vs ∧ h.DictOf (mixKind P w) a vs
  | .dT kvs => kvs.length ≤ sizeLine ∧ (a == sysModules) = false ∧ ∃ xs : List (List Key × Addr × Value),
      Paired (fun (p : List Key × V) (q : List Key × Addr × Value) => p.1 = q.1 ∧ H q.2.1 = some (.tup (p.1.map kV)) ∧ RelV p.2 q.2.2) kvs xs ∧
      ∃ o es ep, h.get? a = some o ∧ o.ExactDict ∧ o.data = .dict es ep ∧ es.toList = xs.map (entryOfKey (tupleKind (mixKind P w))) ∧ (xs.map (·.1)).Nodup
  | .set S n => h.SetOf (intKind P w) a S n
  | .ins C dx fs => H dx = some (.own a) ∧ fs.length ≤ 1000 ∧ dx ≠ a ∧ h.get? a = some (PySem.W.instObj C dx) ∧
      ∃ mA, h.Ns1 dx mA ∧ (∀ f, RelO (fs.lookup f) (mA f)) ∧ PySem.Within mA (fs.map (·.1))
  | .own _ => ∃ o, h.get? a = some o
  | .xd fs => ∃ mA, h.Ns1 a mA ∧ ∀ f, RelO (fs.lookup f) (mA f)
  | .rng lo hi => ∃ t u v, h.get? a = some { cls := .type "range", data := .fields #[.int lo t, .int hi u, .int 1 v] }
  | .frz o u => h.get? a = some o ∧ ObjOk H h a u
  | .tbl ps => h.get? a = some { cls := .none, data := .fields ps }
  | .met f x => h.get? a = some (PySem.W.methodObj (.ref f) (.ref x))
  | .ext φ => φ h ∧ (∃ o, h.get? a = some o) ∧ ∀ h1 h2 : Heap, φ h1 → (∀ o, h1.get? a = some o → h2.get? a = some o) → φ h2

def HOk (H : Hp) (h : Heap) : Prop := ∀ a o, H a = some o → ObjOk P w H h a o
end

section
variable {P : Program} {w : World} {H H' : Hp} {h h' : Heap} {a : Addr} {o : HO}
theorem ObjOk.lt (x : ObjOk P w H h a o) : a < h.objs.size := by
  cases o with
  | lst xs => obtain ⟨_, _, _, _, e⟩ := x; exact Heap.lt_size e
  | tup xs => obtain ⟨_, _, _, p⟩ := x; exact p.lt
  | dK kvs => obtain ⟨_, _, _, _, o, _, _, e, _⟩ := x; exact Heap.lt_size e
  | dT kvs => obtain ⟨_, _, _, _, o, _, _, e, _⟩ := x; exact Heap.lt_size e
  | set S n => obtain ⟨o, _, _, _, e, _⟩ := x; exact Heap.lt_size e
  | ins C dx fs => obtain ⟨_, _, _, e, _⟩ := x; exact Heap.lt_size e
  | own y => obtain ⟨_, e⟩ := x; exact Heap.lt_size e
  | xd fs => obtain ⟨_, ⟨_, _, _, e, _⟩, _⟩ := x; exact Heap.lt_size e
  | rng lo hi => obtain ⟨_, _, _, e⟩ := x; exact Heap.lt_size e
  | frz ob u => obtain ⟨e, _⟩ := x; exact Heap.lt_size e
  | tbl ps => exact Heap.lt_size (show h.get? a = some _ from x)
  | met f y => exact Heap.lt_size (show h.get? a = some _ from x)
  | ext φ => obtain ⟨_, ⟨_, e⟩, _⟩ := x; exact Heap.lt_size e
theorem Paired.mapP {α β : Type} {F G : α → β → Prop} : ∀ {l₁ : List α} {l₂ : List β}, Paired F l₁ l₂ → (∀ a b, F a b → G a b) → Paired G l₁ l₂
  | _, _, .nil, _ => .nil
  | _, _, .cons r t, f => .cons (f _ _ r) (Paired.mapP t f)
theorem ObjOk.stay (x : ObjOk P w H h a o) (k : ∀ b u, (b = a ∨ H b = some (.own a)) → h.get? b = some u → h'.get? b = some u)
    (ho : ∀ b, H b = some (.own a) → H' b = some (.own a)) (ht : ∀ b xs, H b = some (.tup xs) → H' b = some (.tup xs)) : ObjOk P w H' h' a o := by
  induction o with
  | lst xs => obtain ⟨z, its, n, r, e⟩ := x; exact ⟨z, its, n, r, k _ _ (.inl rfl) e⟩
  | tup xs => obtain ⟨z, its, r, ob, e, c⟩ := x; exact ⟨z, its, r, ob, k _ _ (.inl rfl) e, c⟩
  | dK kvs => obtain ⟨z, y, vs, r, ob, es, ep, e, c⟩ := x; exact ⟨z, y, vs, r, ob, es, ep, k _ _ (.inl rfl) e, c⟩
  | dT kvs =>
    obtain ⟨z, y, xs, r, ob, es, ep, e, c⟩ := x
    exact ⟨z, y, xs, Paired.mapP r fun p q z => ⟨z.1, ht _ _ z.2.1, z.2.2⟩, ob, es, ep, k _ _ (.inl rfl) e, c⟩
  | set S n => obtain ⟨ob, es, ep, t, e, c⟩ := x; exact ⟨ob, es, ep, t, k _ _ (.inl rfl) e, c⟩
  | ins C dx fs =>
    obtain ⟨d, z, ne, e, mA, ⟨od, es, ep, e2, c⟩, r⟩ := x
    exact ⟨ho _ d, z, ne, k _ _ (.inl rfl) e, mA, ⟨od, es, ep, k _ _ (.inr d) e2, c⟩, r⟩
  | own y => obtain ⟨ob, e⟩ := x; exact ⟨ob, k _ _ (.inl rfl) e⟩
  | xd fs => obtain ⟨mA, ⟨od, es, ep, e, c⟩, r⟩ := x; exact ⟨mA, ⟨od, es, ep, k _ _ (.inl rfl) e, c⟩, r⟩
  | rng lo hi => obtain ⟨t, u, v, e⟩ := x; exact ⟨t, u, v, k _ _ (.inl rfl) e⟩
  | frz ob u ih => obtain ⟨e, q⟩ := x; exact ⟨k _ _ (.inl rfl) e, ih q⟩
  | tbl ps =>
    have e : h.get? a = some { cls := .none, data := .fields ps } := x
    show h'.get? a = some { cls := .none, data := .fields ps }
    exact k a _ (.inl rfl) e
  | met f y =>
    have e : h.get? a = some (PySem.W.methodObj (.ref f) (.ref y)) := x
    show h'.get? a = some (PySem.W.methodObj (.ref f) (.ref y))
    exact k a _ (.inl rfl) e
  | ext φ => obtain ⟨p, ⟨o, e⟩, st⟩ := x; exact ⟨st _ _ p fun o q => k _ _ (.inl rfl) q, ⟨o, k _ _ (.inl rfl) e⟩, st⟩
theorem HOk.lt (x : HOk P w H h) (e : H a = some o) : a < h.objs.size := (x a o e).lt
theorem HOk.fresh (x : HOk P w H h) (e : h.objs.size ≤ a) : H a = none := by
  cases q : H a with
  | none => rfl
  | some u => exact absurd (Nat.lt_of_lt_of_le (x.lt q) e) (Nat.lt_irrefl _)

theorem HOk.kept (x : HOk P w H h) (k : ∀ b u, h.get? b = some u → h'.get? b = some u) : HOk P w H h' := fun a o e =>
  (x a o e).stay (fun b u _ q => k b u q) (fun _ q => q) fun _ _ q => q

theorem HOk.laid (x : HOk P w H h) (k : ∀ b u, h.get? b = some u → h'.get? b = some u) (hp : h.objs.size ≤ a) (new : ObjOk P w (upd H a o) h' a o) : HOk P w (upd H a o) h' := fun b u e => by
  have hn := x.fresh hp
  by_cases hb : b = a
  · subst hb; rw [upd_same] at e; cases e; exact new
  · rw [upd_ne hb] at e
    exact (x b u e).stay (fun c v _ q => k c v q) (fun c q => by rw [upd_ne (ne_of_none q hn)]; exact q) fun c xs q => by rw [upd_ne (ne_of_none q hn)]; exact q
end


def Rd (H : Hp) (a : Addr) (u : HO) : Prop := H a = some u ∨ ∃ o, H a = some (.frz o u)
theorem Rd.ok {P : Program} {w : World} {H : Hp} {h : Heap} {a : Addr} {u : HO} (r : Rd H a u) (x : HOk P w H h) : ObjOk P w H h a u := by
  rcases r with r | ⟨o, r⟩
  · exact x a u r
  · obtain ⟨_, q⟩ := x a _ r
    exact q

def Mut : Option HO → Prop
  | some (.lst _) => True
  | some (.dK _) => True
  | some (.dT _) => True
  | some (.set _ _) => True
  | some (.ins _ _ _) => True
  | some (.ext _) => True
  | _ => False
section
variable {P : Program} {w : World} {H : Hp} {h h' : Heap} {x e : Addr} {o' : HO}

theorem HOk.write (ok : HOk P w H h) (mu : Mut (H x)) (he : e = x ∨ H e = some (.own x)) (k : ∀ b u, b ≠ e → h.get? b = some u → h'.get? b = some u) (heo : ∃ u, h'.get? e = some u)
    (new : ObjOk P w (upd H x o') h' x o') : HOk P w (upd H x o') h' := fun b u q => by
  have nown : ∀ c y, H c = some (.own y) → c ≠ x := fun c y r z => by subst z; rw [r] at mu; exact mu
  have ntup : ∀ c xs, H c = some (.tup xs) → c ≠ x := fun c xs r z => by subst z; rw [r] at mu; exact mu
  by_cases hb : b = x
  · subst hb; rw [upd_same] at q; cases q; exact new
  · rw [upd_ne hb] at q
    by_cases hbe : b = e
    · have q' : H b = some (.own x) := by
        rcases he with z | z
        · exact absurd (hbe.trans z) hb
        · rw [hbe]; exact z
      rw [q] at q'; cases q'
      obtain ⟨v, hv⟩ := heo
      exact ⟨v, by rw [hbe]; exact hv⟩
    · refine (ok b u q).stay (fun c v hc r => k c v ?_ r) (fun c r => by rw [upd_ne (nown c b r)]; exact r) fun c xs r => by rw [upd_ne (ntup c xs r)]; exact r
      rcases hc with rfl | hc
      · exact hbe
      · rintro rfl
        rcases he with z | z
        · exact nown c b hc z
        · rw [hc] at z; cases z; exact hb rfl
end


structure Un (fs ex : List Addr) (H H' : Hp) (h h' : Heap) : Prop where
  keep : ∀ b o, h.get? b = some o → H b = none → b ∉ fs → b ∉ ex → h'.get? b = some o
  slot : ∀ b o, h.get? b = some o → H b = none → b ∈ fs → b ∉ ex → ∃ sl, h'.get? b = some { o with slots := sl }
  free : ∀ b o, h.get? b = some o → H b = none → b ∉ ex → H' b = none
  there : ∀ b o, h.get? b = some o → b ∉ ex → ∃ o', h'.get? b = some o'
  tups : ∀ b xs, H b = some (.tup xs) → H' b = some (.tup xs)
  frzs : ∀ b o u, H b = some (.frz o u) → H' b = some (.frz o u)
  tbls : ∀ b ps, H b = some (.tbl ps) → ∃ more, H' b = some (.tbl (ps ++ more))
section
variable {fs fs' ex ex' : List Addr} {H H1 H2 : Hp} {h h1 h2 h' : Heap} {a x e : Addr} {o : HO}
theorem Un.any (u : Un fs ex H H1 h h1) {b : Addr} {ob : Obj} (q : h.get? b = some ob) (n : H b = none) (hx : b ∉ ex) : ∃ sl, h1.get? b = some { ob with slots := sl } := by
  by_cases hb : b ∈ fs
  · exact u.slot b ob q n hb hx
  · exact ⟨ob.slots, u.keep b ob q n hb hx⟩
theorem Un.kept (k : ∀ b u, h.get? b = some u → h'.get? b = some u) : Un fs ex H H h h' :=
  ⟨fun b ob q _ _ _ => k b ob q, fun b ob q _ _ _ => ⟨ob.slots, k b ob q⟩, fun _ _ _ n _ => n, fun b ob q _ => ⟨ob, k b ob q⟩, fun _ _ q => q, fun _ _ _ q => q, fun _ ps q => ⟨#[], by rw [q]; simp⟩⟩
theorem Un.refl : Un fs ex H H h h := Un.kept fun _ _ q => q
theorem Un.laid (k : ∀ b u, h.get? b = some u → h'.get? b = some u) (hp : h.objs.size ≤ a) (hn : H a = none) : Un fs ex H (upd H a o) h h' where
  keep := fun b u q _ _ _ => k b u q
  slot := fun b u q _ _ _ => ⟨u.slots, k b u q⟩
  free := fun b u q n _ => by rw [upd_ne (Nat.ne_of_lt (Nat.lt_of_lt_of_le (Heap.lt_size q) hp))]; exact n
  there := fun b u q _ => ⟨u, k b u q⟩
  tups := fun b xs q => by rw [upd_ne (ne_of_none q hn)]; exact q
  frzs := fun b u xs q => by rw [upd_ne (ne_of_none q hn)]; exact q
  tbls := fun b ps q => ⟨#[], by rw [upd_ne (ne_of_none q hn), q]; simp⟩
theorem Un.write (mu : Mut (H x)) (he : e = x ∨ H e = some (.own x)) (k : ∀ b u, b ≠ e → h.get? b = some u → h'.get? b = some u) (heo : ∃ u, h'.get? e = some u) : Un fs ex H (upd H x o) h h' := by
  have hx : ∀ b, H b = none → b ≠ x := fun b n z => by subst z; rw [n] at mu; exact mu
  have hb : ∀ b, H b = none → b ≠ e := fun b n z => by
    subst z
    rcases he with r | r
    · exact hx b n r
    · rw [n] at r; cases r
  have hm : ∀ b u, H b = some u → ¬ Mut (some u) → b ≠ x := fun b u q nm z => by subst z; rw [q] at mu; exact nm mu
  refine ⟨fun b u q n _ _ => k b u (hb b n) q, fun b u q n _ _ => ⟨u.slots, k b u (hb b n) q⟩, fun b u q n _ => by rw [upd_ne (hx b n)]; exact n, fun b u q _ => ?_,
    fun b xs q => by rw [upd_ne (hm b _ q fun z => z)]; exact q, fun b u xs q => by rw [upd_ne (hm b _ q fun z => z)]; exact q, fun b ps q => ⟨#[], by rw [upd_ne (hm b _ q fun z => z), q]; simp⟩⟩
  by_cases hbe : b = e
  · subst hbe; exact heo
  · exact ⟨u, k b u hbe q⟩
end


def trk (h : Heap) (H : Hp) : List Addr := (List.range h.objs.size).filter fun a => (H a).isSome
def hidT (h : Heap) (H : Hp) : Heap := PySem.W.hideAll h (trk h H)
theorem hidT_size (h : Heap) (H : Hp) : (hidT h H).objs.size = h.objs.size := PySem.W.hideAll_size _ _
theorem hidT_get {h : Heap} {H : Hp} {b : Addr} {o : Obj} (e : h.get? b = some o) (n : H b = none) : (hidT h H).get? b = some o :=
  PySem.W.hideAll_get _ e fun hm => by
    have q : (H b).isSome = true := (List.mem_filter.mp hm).2
    rw [n] at q; simp at q
theorem of_hidT {h : Heap} {H : Hp} {b : Addr} {o : Obj} (e : (hidT h H).get? b = some o) : h.get? b = some o ∧ H b = none := by
  have e' : h.get? b = some o := PySem.W.of_hideAll (trk h H) e
  refine ⟨e', ?_⟩
  cases q : H b with
  | none => rfl
  | some x =>
    have hm : b ∈ trk h H := List.mem_filter.mpr ⟨List.mem_range.mpr (Heap.lt_size e'), by simp [q]⟩
    have z : (hidT h H).get? b = none := PySem.W.hideAll_none (trk h H) hm
    rw [z] at e; cases e


end L2

namespace L2
open PySem PySem.Spec PyProof.Rows


structure Mod (K : PySem.W.Frag) (mg : Str → Option Value) (base : Heap) : Prop where
  kin : K.In base
  glob : base.Ns mainGlobals mg
  blt : ∃ mb, base.Ns builtinsNs mb ∧ ∀ x : Str, x ≠ "__name__" → mb x = bootBuiltins x
  nolimit : base.NoLimit


structure Cx where
  prog : Program
  w : World
  K : PySem.W.Frag
  mg : Str → Option Value
  base : Heap
  A : Around
  N : List Str
  s₀ : Shared
  H₀ : Hp
  env : Env
  outer : List Env
  stack : List Env
  ex : List Addr
  fn : Str → Bool
  calm : Bool
  pn : List (Addr × Obj)
  xe : Value → Shared → Prop

def frs (l : List Env) : List Addr := l.filterMap (·.frame)
abbrev Cx.fs (X : Cx) : List Addr := frs X.outer

def Vis (sc : Scope) (x : Str) : Prop := sc.names.lookup x = some .local ∨ sc.names.lookup x = some .cell ∨ sc.names.lookup x = some .free
def Loc (sc : Scope) (x : Str) : Prop := sc.names.lookup x = some .local ∨ sc.names.lookup x = some .cell
def Look (env : Env) (h : Heap) (m : Str → Option Value) (x : Str) (u : Value) : Prop :=
  (env.kindOf x = some .local ∧ m x = some u) ∨ ((env.kindOf x = some .cell ∨ env.kindOf x = some .free) ∧ ∃ c, env.cells.lookup x = some c ∧ h.IsCell c (some u))

structure Cx.Ok (X : Cx) : Prop where
  mod : Mod X.K X.mg X.base
  kind : X.env.scope.kind = .function
  glob : X.env.globals = mainGlobals
  blt : X.env.builtins = builtinsNs
  above : X.s₀.heap.objs.size ≤ X.env.locals
  inj : ∀ x y c, X.env.cells.lookup x = some c → X.env.cells.lookup y = some c → x = y
  has : ∀ x, (X.env.kindOf x = some .cell ∨ X.env.kindOf x = some .free) → ∃ c, X.env.cells.lookup x = some c
  cab : ∀ x c, X.fn x = true → X.env.cells.lookup x = some c → X.s₀.heap.objs.size ≤ c
  hd : X.calm = true → X.A.handled = none
  frames : X.A.frames = some X.stack
  stk : X.stack = X.outer ∨ (X.stack = X.env :: X.outer ∧ X.env.frame = some X.env.locals)
  exf : ∀ b ∈ X.ex, b ≠ X.env.locals ∧ ∀ x c, X.env.cells.lookup x = some c → c ≠ b
  bs : ∀ b o, X.base.get? b = some o → X.s₀.heap.get? b = some o ∧ X.H₀ b = none
  bsz : X.base.objs.size ≤ X.s₀.heap.objs.size
  noex : ∀ b o, X.base.get? b = some o → b ∉ X.ex
  exfs : ∀ b ∈ X.ex, b ∉ X.fs
  funs : X.s₀.heap.FunFrames X.base X.outer
  frf : ∀ b ∈ X.fs, X.H₀ b = none

structure Inv (X : Cx) (pins : List (Addr × Obj)) (σ : List (Option V)) (H : Hp) (s : Shared) : Prop where
  ok : X.Ok
  os : s.os = X.s₀.os
  bare : AllBare s.gens
  base : Un X.fs X.ex X.H₀ H X.s₀.heap s.heap
  loc : ∃ m, s.heap.Ns X.env.locals m ∧ ∀ (i : Nat) (x : Str) (v : V), X.N[i]? = some x → σ[i]? = some (some v) → Vis X.env.scope x → ∃ u, RelV v u ∧ Look X.env s.heap m x u
  cell : ∀ x c, X.env.cells.lookup x = some c → ∃ v, s.heap.IsCell c v
  free : H X.env.locals = none
  freeC : ∀ x c, X.env.cells.lookup x = some c → H c = none
  pin : ∀ p ∈ X.pn ++ pins, s.heap.get? p.1 = some p.2 ∧ H p.1 = none ∧ p.1 ≠ X.env.locals ∧ p.1 ∉ X.fs ∧ ∀ v, p.2.data ≠ .cell v
  hok : HOk X.prog X.w H s.heap
  len : σ.length = X.N.length

section
variable {X : Cx} {pins : List (Addr × Obj)} {σ : List (Option V)} {H H' : Hp} {s : Shared} {h' : Heap}

theorem Cx.Ok.nofr (ok : X.Ok) {b : Addr} {o : Obj} (e : X.base.get? b = some o) : b ∉ X.fs := fun hb => by
  have := (ok.funs.mem hb).1
  rw [e] at this; cases this
theorem Inv.bs (I : Inv X pins σ H s) : ∀ b o, X.base.get? b = some o → s.heap.get? b = some o ∧ H b = none := fun b o e =>
  ⟨I.base.keep b o (I.ok.bs b o e).1 (I.ok.bs b o e).2 (I.ok.nofr e) (I.ok.noex b o e), I.base.free b o (I.ok.bs b o e).1 (I.ok.bs b o e).2 (I.ok.noex b o e)⟩
theorem Inv.bk (I : Inv X pins σ H s) : ∀ b o, X.base.get? b = some o → s.heap.get? b = some o := fun b o e => (I.bs b o e).1
theorem Inv.mod (I : Inv X pins σ H s) : Mod X.K X.mg X.base := I.ok.mod
theorem Inv.kIn (I : Inv X pins σ H s) : X.K.In s.heap := I.ok.mod.kin.keeps I.bk
theorem Inv.fr (I : Inv X pins σ H s) : ∃ m, Fr X.base X.env.locals s.heap m :=
  let ⟨m, hn, _⟩ := I.loc
  ⟨m, hn, I.bk, Nat.le_trans I.ok.bsz I.ok.above⟩
theorem Inv.lt (I : Inv X pins σ H s) : X.env.locals < s.heap.objs.size := let ⟨_, hn, _⟩ := I.loc; hn.lt
theorem Inv.sz (I : Inv X pins σ H s) : X.s₀.heap.objs.size ≤ s.heap.objs.size := Nat.le_trans I.ok.above (Nat.le_of_lt I.lt)
theorem Inv.nofs (I : Inv X pins σ H s) {a : Addr} (h : s.heap.objs.size ≤ a) : a ∉ X.fs := fun hb => by
  obtain ⟨_, o, ho, _⟩ := I.ok.funs.mem hb
  exact absurd (Nat.lt_of_lt_of_le (Heap.lt_size ho) (Nat.le_trans I.sz h)) (Nat.lt_irrefl _)
theorem Inv.cne (I : Inv X pins σ H s) : ∀ x c, X.env.cells.lookup x = some c → c ≠ X.env.locals := fun x c e z => by
  obtain ⟨v, o, ho, hd⟩ := I.cell x c e
  obtain ⟨m, ⟨o', es, ep, ho', hd', _⟩, _⟩ := I.loc
  rw [z, ho'] at ho; cases ho; rw [hd'] at hd; cases hd
theorem Inv.funs (I : Inv X pins σ H s) : s.heap.FunFrames X.base X.outer := by
  have all : ∀ (l : List Env), (∀ b ∈ frs l, b ∈ X.fs) → X.s₀.heap.FunFrames X.base l → s.heap.FunFrames X.base l := by
    intro l
    induction l with
    | nil => intro _ _; trivial
    | cons env r ih =>
      intro hs hl
      obtain ⟨hk, ⟨L, o, hf, hn, ho, hd⟩, hr⟩ := hl
      have hL : L ∈ X.fs := hs L (by unfold frs; rw [List.filterMap_cons, hf]; exact List.mem_cons_self)
      obtain ⟨sl, e⟩ := I.base.slot L o ho (I.ok.frf L hL) hL fun z => I.ok.exfs L z hL
      exact ⟨hk, ⟨L, _, hf, hn, e, hd⟩, ih (fun b hb => hs b (by unfold frs; rw [List.filterMap_cons, hf]; exact List.mem_cons_of_mem _ hb)) hr⟩
  exact all X.outer (fun _ hb => hb) I.ok.funs


theorem Inv.stack (I : Inv X pins σ H s) : s.heap.FunFrames X.base X.stack := by
  rcases I.ok.stk with e | ⟨e, hf⟩
  · rw [e]; exact I.funs
  · rw [e]
    obtain ⟨m, hn, _⟩ := I.loc
    refine .cons (by rw [I.ok.kind]; decide) hf hn ?_ I.funs
    exact Heap.get?_none_of_le (Nat.le_trans I.ok.bsz I.ok.above)
theorem Inv.stkSub (I : Inv X pins σ H s) : ∀ b ∈ frs X.stack, b ∈ X.env.locals :: X.fs := fun b hb => by
  rcases I.ok.stk with e | ⟨e, hf⟩
  · rw [e] at hb; exact List.mem_cons_of_mem _ hb
  · rw [e] at hb
    unfold frs at hb
    rw [List.filterMap_cons, hf] at hb
    exact hb
theorem Inv.stkFree (I : Inv X pins σ H s) : ∀ b ∈ frs X.stack, H b = none := fun b hb => by
  rcases List.mem_cons.mp (I.stkSub b hb) with e | hb
  · rw [e]; exact I.free
  · obtain ⟨_, o, ho, _⟩ := I.ok.funs.mem hb
    exact I.base.free b o ho (I.ok.frf b hb) fun z => I.ok.exfs b z hb


theorem Inv.step {g' : Array GenState} {t' : Nat} {d' : Drawn} {ch : List Addr} (I : Inv X pins σ H s)
    (hch : ∀ b ∈ ch, (b ∈ X.ex ∨ X.s₀.heap.objs.size ≤ b) ∧ b ≠ X.env.locals ∧ (∀ x c, X.env.cells.lookup x = some c → c ≠ b) ∧ ∀ p ∈ X.pn ++ pins, p.1 ≠ b)
    (keep : ∀ b o, b ≠ X.env.locals → b ∉ X.fs → b ∉ ch → s.heap.get? b = some o → H b = none → h'.get? b = some o)
    (slot : ∀ b o, b ≠ X.env.locals → b ∈ X.fs → b ∉ ch → s.heap.get? b = some o → H b = none → ∃ sl, h'.get? b = some { o with slots := sl }) (free : ∀ b o, b ∉ ch → s.heap.get? b = some o → H b = none → H' b = none)
    (there : ∀ b o, b ∉ ch → s.heap.get? b = some o → ∃ o', h'.get? b = some o')
    (tups : ∀ b xs, H b = some (.tup xs) → H' b = some (.tup xs)) (frzs : ∀ b o u, H b = some (.frz o u) → H' b = some (.frz o u)) (tbls : ∀ b ps, H b = some (.tbl ps) → ∃ more, H' b = some (.tbl (ps ++ more)))
    (ns : ∀ m, s.heap.Ns X.env.locals m → h'.Ns X.env.locals m) (hok : HOk X.prog X.w H' h') (hg : AllBare g') :
    Inv X pins σ H' { s with heap := h', gens := g', drawn := d', toks := t' } := by
  have neL : ∀ b o, X.s₀.heap.get? b = some o → b ≠ X.env.locals := fun b o e => Nat.ne_of_lt (Nat.lt_of_lt_of_le (Heap.lt_size e) I.ok.above)
  have neC : ∀ b o, X.s₀.heap.get? b = some o → b ∉ X.ex → b ∉ ch := fun b o e hx hb => by
    rcases (hch b hb).1 with z | z
    · exact hx z
    · exact absurd (Nat.lt_of_lt_of_le (Heap.lt_size e) z) (Nat.lt_irrefl _)
  have cellK : ∀ x c, X.env.cells.lookup x = some c → ∀ v, s.heap.IsCell c v → h'.IsCell c v := fun x c e v ⟨o, ho, hd⟩ => by
    have nch : c ∉ ch := fun z => (hch c z).2.2.1 x c e rfl
    by_cases hc : c ∈ X.fs
    · obtain ⟨sl, q⟩ := slot c o (I.cne x c e) hc nch ho (I.freeC x c e)
      exact ⟨_, q, hd⟩
    · exact ⟨o, keep c o (I.cne x c e) hc nch ho (I.freeC x c e), hd⟩
  refine ⟨I.ok, I.os, hg, ⟨fun b o e n hb hx => ?_, fun b o e n hb hx => ?_, fun b o e n hx => ?_, fun b o e hx => ?_, fun b xs e => tups b xs (I.base.tups b xs e), fun b o xs e => frzs b o xs (I.base.frzs b o xs e), fun b ps e => ?_⟩, ?_, fun x c e => ?_, ?_, fun x c e => ?_, fun p hp => ?_, hok, I.len⟩
  · exact keep b o (neL b o e) hb (neC b o e hx) (I.base.keep b o e n hb hx) (I.base.free b o e n hx)
  · obtain ⟨sl, e1⟩ := I.base.slot b o e n hb hx
    obtain ⟨sl', e2⟩ := slot b _ (neL b o e) hb (neC b o e hx) e1 (I.base.free b o e n hx)
    exact ⟨sl', e2⟩
  · obtain ⟨o', e1⟩ := I.base.there b o e hx
    exact free b o' (neC b o e hx) e1 (I.base.free b o e n hx)
  · obtain ⟨o', e1⟩ := I.base.there b o e hx
    exact there b o' (neC b o e hx) e1
  · obtain ⟨m1, e1⟩ := I.base.tbls b ps e
    obtain ⟨m2, e2⟩ := tbls b _ e1
    exact ⟨m1 ++ m2, by rw [e2, Array.append_assoc]⟩
  · obtain ⟨m, hn, hl⟩ := I.loc
    refine ⟨m, ns m hn, fun i x v e1 e2 e3 => ?_⟩
    obtain ⟨u, r, l⟩ := hl i x v e1 e2 e3
    refine ⟨u, r, ?_⟩
    rcases l with l | ⟨k, c, e, z⟩
    · exact .inl l
    · exact .inr ⟨k, c, e, cellK x c e _ z⟩
  · obtain ⟨v, z⟩ := I.cell x c e
    exact ⟨v, cellK x c e v z⟩
  · obtain ⟨m, ⟨o, _, _, ho, _⟩, _⟩ := I.loc
    exact free _ o (fun z => (hch _ z).2.1 rfl) ho I.free
  · obtain ⟨v, o, ho, hd⟩ := I.cell x c e
    exact free c o (fun z => (hch c z).2.2.1 x c e rfl) ho (I.freeC x c e)
  · obtain ⟨e, n, ne, nf, d⟩ := I.pin p hp
    have nch : p.1 ∉ ch := fun z => (hch p.1 z).2.2.2 p hp rfl
    exact ⟨keep p.1 p.2 ne nf nch e n, free p.1 p.2 nch e n, ne, nf, d⟩

theorem Inv.un {t' : Nat} (I : Inv X pins σ H s) (u : Un X.fs [] H H' s.heap h') (hok : HOk X.prog X.w H' h') : Inv X pins σ H' { s with heap := h', toks := t' } := by
  obtain ⟨m, ⟨o, es, ep, ho, r⟩, _⟩ := id I.loc
  obtain ⟨sl, hL⟩ := u.any ho I.free (by simp)
  exact I.step (g' := s.gens) (d' := s.drawn) (ch := []) (fun _ z => nomatch z) (fun b o _ hb _ e n => u.keep b o e n hb (by simp)) (fun b o _ hb _ e n => u.slot b o e n hb (by simp)) (fun b o _ e n => u.free b o e n (by simp)) (fun b o _ e => u.there b o e (by simp)) u.tups u.frzs u.tbls (fun m' hm => by
    obtain ⟨o', es', ep', ho', r'⟩ := hm
    rw [ho] at ho'; cases ho'
    exact ⟨_, es', ep', hL, r'⟩) hok I.bare

theorem Inv.call {g' : Array GenState} {t' : Nat} {d' : Drawn} {ch : List Addr} (I : Inv X pins σ H s) (u : Un (frs X.stack) ch H H' s.heap h') (hok : HOk X.prog X.w H' h') (hg : AllBare g')
    (hch : ∀ b ∈ ch, (b ∈ X.ex ∨ X.s₀.heap.objs.size ≤ b) ∧ b ≠ X.env.locals ∧ (∀ x c, X.env.cells.lookup x = some c → c ≠ b) ∧ ∀ p ∈ X.pn ++ pins, p.1 ≠ b) :
    Inv X pins σ H' { s with heap := h', gens := g', drawn := d', toks := t' } := by
  obtain ⟨m, ⟨o, es, ep, ho, r⟩, _⟩ := id I.loc
  obtain ⟨sl, hL⟩ := u.any ho I.free fun z => (hch _ z).2.1 rfl
  exact I.step (ch := ch) hch (fun b o hL hb hc e n => u.keep b o e n (fun z => (List.mem_cons.mp (I.stkSub b z)).elim hL hb) hc) (fun b o _ _ hc e n => u.any e n hc) (fun b o hc e n => u.free b o e n hc) (fun b o hc e => u.there b o e hc) u.tups u.frzs u.tbls (fun m' hm => by
    obtain ⟨o', es', ep', ho', r'⟩ := hm
    rw [ho] at ho'; cases ho'
    exact ⟨_, es', ep', hL, r'⟩) hok hg

theorem Inv.turned {t' : Nat} {it : Addr} (I : Inv X pins σ H s) (k : ∀ b o, b ≠ it → s.heap.get? b = some o → h'.get? b = some o) (hn : H it = none) (hL : it ≠ X.env.locals)
    (h1 : it ∈ X.ex ∨ X.s₀.heap.objs.size ≤ it) (h2 : ∀ x c, X.env.cells.lookup x = some c → c ≠ it) (h3 : ∀ p ∈ X.pn ++ pins, p.1 ≠ it) : Inv X pins σ H { s with heap := h', toks := t' } := by
  have nit : ∀ b u, H b = some u → b ≠ it := fun b u e z => by rw [z, hn] at e; cases e
  refine I.step (g' := s.gens) (d' := s.drawn) (ch := [it]) (fun b hb => ?_) (fun b o _ _ hc e _ => k b o (fun z => hc (by simp [z])) e) (fun b o _ _ hc e _ => ⟨o.slots, k b o (fun z => hc (by simp [z])) e⟩) (fun _ _ _ _ n => n)
    (fun b o hc e => ⟨o, k b o (fun z => hc (by simp [z])) e⟩) (fun _ _ e => e) (fun _ _ _ e => e) (fun b ps e => ⟨#[], by rw [e]; simp⟩) (fun m hm => ?_) (fun b u e => ?_) I.bare
  · have e : b = it := by simpa using hb
    subst e
    exact ⟨h1, hL, h2, h3⟩
  · obtain ⟨o, es, ep, ho, r⟩ := hm
    exact ⟨o, es, ep, k _ o (Ne.symm hL) ho, r⟩
  · refine (I.hok b u e).stay (fun c v hc q => k c v ?_ q) (fun _ q => q) fun _ _ q => q
    rcases hc with z | z
    · rw [z]; exact nit b u e
    · exact nit c _ z
theorem Inv.tok (I : Inv X pins σ H s) (t : Nat) : Inv X pins σ H { s with toks := t } := I.un (h' := s.heap) (t' := t) Un.refl I.hok

theorem Inv.kept {t' : Nat} (I : Inv X pins σ H s) (k : ∀ b u, s.heap.get? b = some u → h'.get? b = some u) : Inv X pins σ H { s with heap := h', toks := t' } := I.un (Un.kept k) (I.hok.kept k)

theorem Inv.laid {a : Addr} {o : HO} {t' : Nat} (I : Inv X pins σ H s) (k : ∀ b u, s.heap.get? b = some u → h'.get? b = some u) (hp : s.heap.objs.size ≤ a) (new : ObjOk X.prog X.w (upd H a o) h' a o) :
    Inv X pins σ (upd H a o) { s with heap := h', toks := t' } := I.un (Un.laid k hp (I.hok.fresh hp)) (I.hok.laid k hp new)

theorem Inv.write {x e : Addr} {o : HO} {t' : Nat} (I : Inv X pins σ H s) (mu : Mut (H x)) (he : e = x ∨ H e = some (.own x)) (k : ∀ b u, b ≠ e → s.heap.get? b = some u → h'.get? b = some u) (heo : ∃ u, h'.get? e = some u)
    (new : ObjOk X.prog X.w (upd H x o) h' x o) : Inv X pins σ (upd H x o) { s with heap := h', toks := t' } := I.un (Un.write mu he k heo) (I.hok.write mu he k heo new)

theorem Inv.weak {σ' : List (Option V)} (I : Inv X pins σ H s) (hl : σ'.length = σ.length) (w : ∀ (i : Nat) v, σ'[i]? = some (some v) → σ[i]? = some (some v)) : Inv X pins σ' H s :=
  ⟨I.ok, I.os, I.bare, I.base, let ⟨m, hn, hl'⟩ := I.loc; ⟨m, hn, fun i x v e1 e2 e3 => hl' i x v e1 (w i v e2) e3⟩, I.cell, I.free, I.freeC, I.pin, I.hok, hl.trans I.len⟩
theorem Inv.pins_of {pins' : List (Addr × Obj)} (I : Inv X pins σ H s) (h : ∀ p ∈ pins', s.heap.get? p.1 = some p.2 ∧ H p.1 = none ∧ p.1 ≠ X.env.locals ∧ p.1 ∉ X.fs ∧ ∀ v, p.2.data ≠ .cell v) : Inv X pins' σ H s :=
  ⟨I.ok, I.os, I.bare, I.base, I.loc, I.cell, I.free, I.freeC, fun p hp => (List.mem_append.mp hp).elim (fun z => I.pin p (List.mem_append_left _ z)) (h p), I.hok, I.len⟩

theorem nodup_ix {N : List Str} (hN : N.Nodup) {i j : Nat} {x : Str} (a : N[i]? = some x) (b : N[j]? = some x) : i = j := by
  obtain ⟨h1, e1⟩ := List.getElem?_eq_some_iff.mp a
  obtain ⟨h2, e2⟩ := List.getElem?_eq_some_iff.mp b
  exact (List.getElem_inj hN).mp (e1.trans e2.symm)


theorem store_ok2 {M : Model} {A : Around} {E : Value → Shared → Prop} {i : Nat} {x : Str} {v : V} {u : Value} {Q : Unit → Shared → Prop} (I : Inv X pins σ H s) (hN : X.N.Nodup) (hi : X.N[i]? = some x) (hx : Loc X.env.scope x) (r : RelV v u)
    (h : ∀ s', Inv X pins (σ.set i (some v)) H s' → (∃ a, Heap.SameBut a s.heap s'.heap ∧ (a = X.env.locals ∨ X.env.cells.lookup x = some a)) → Q () s') (hf : X.fn x = true ∨ X.env.scope.names.lookup x = some .local := by first | exact .inl rfl | exact .inr rfl | assumption) : wpAny M A (storeName X.env x u) Q E s := by
  obtain ⟨m, hn, hl⟩ := id I.loc
  have hcls : (X.env.scope.kind == .class || (X.env.scope.kind == .module && X.env.locals != X.env.globals)) = false := by rw [I.ok.kind]; rfl
  have hiσ : i < σ.length := by rw [I.len]; exact (List.getElem?_eq_some_iff.mp hi).1
  have cne := I.cne
  have tracked : ∀ {a : Addr} {h' : Heap}, (∃ o, s.heap.get? a = some o ∧ H a = none) → Heap.SameBut a s.heap h' → HOk X.prog X.w H h' := fun {a h'} ha hs b ob e => by
    obtain ⟨_, _, hfree⟩ := ha
    refine (I.hok b ob e).stay (fun c w' hc q => (hs.2 c ?_).trans q) (fun _ q => q) fun _ _ q => q
    rintro rfl
    rcases hc with rfl | hc
    · rw [hfree] at e; cases e
    · rw [hfree] at hc; cases hc
  rcases hx with hk | hk
  · refine wpAny_storeName_local hk hn (fun h' hn' hs => ?_) hcls
    obtain ⟨oL, _, _, hoL, _⟩ := id hn
    refine h _ ⟨I.ok, I.os, I.bare, ⟨fun b o e n hb hx => ?_, fun b o e n hb hx => ?_, I.base.free, fun b o e hx => ?_, I.base.tups, I.base.frzs, I.base.tbls⟩, ⟨_, hn', fun j y v' e1 e2 e3 => ?_⟩, fun y c e => ?_, I.free, I.freeC, fun p hp => ?_, tracked ⟨oL, hoL, I.free⟩ hs, by simpa using I.len⟩ ⟨_, hs, .inl rfl⟩
    · exact (hs.2 b (Nat.ne_of_lt (Nat.lt_of_lt_of_le (Heap.lt_size e) I.ok.above))).trans (I.base.keep b o e n hb hx)
    · obtain ⟨sl, e1⟩ := I.base.slot b o e n hb hx
      exact ⟨sl, (hs.2 b (Nat.ne_of_lt (Nat.lt_of_lt_of_le (Heap.lt_size e) I.ok.above))).trans e1⟩
    · obtain ⟨o', e1⟩ := I.base.there b o e hx
      exact ⟨o', (hs.2 b (Nat.ne_of_lt (Nat.lt_of_lt_of_le (Heap.lt_size e) I.ok.above))).trans e1⟩
    · by_cases hj : j = i
      · subst hj
        rw [hi] at e1; cases e1
        rw [List.getElem?_set_self hiσ] at e2
        cases e2
        exact ⟨u, r, .inl ⟨hk, by simp⟩⟩
      · rw [List.getElem?_set_ne (Ne.symm hj)] at e2
        obtain ⟨u', r', q⟩ := hl j y v' e1 e2 e3
        refine ⟨u', r', ?_⟩
        rcases q with ⟨k, e⟩ | ⟨k, c, e, z⟩
        · refine .inl ⟨k, ?_⟩
          have : y ≠ x := fun e => hj (nodup_ix hN e1 (e ▸ hi))
          simp [this, e]
        · exact .inr ⟨k, c, e, z.sameBut hs (cne y c e)⟩
    · obtain ⟨w', z⟩ := I.cell y c e
      exact ⟨w', z.sameBut hs (cne y c e)⟩
    · obtain ⟨e, n, ne, nf, d⟩ := I.pin p hp
      exact ⟨(hs.2 p.1 ne).trans e, n, ne, nf, d⟩
  · have hfn : X.fn x = true := by
      rcases hf with z | z
      · exact z
      · rw [z] at hk; cases hk
    obtain ⟨c, hc⟩ := I.ok.has x (.inl hk)
    obtain ⟨w', z⟩ := I.cell x c hc
    refine wpAny_storeName_cell I.ok.kind hk hc z (fun h' hc' hs => ?_)
    obtain ⟨oc, hoc, hocd⟩ := id z
    refine h { s with heap := h' } ⟨I.ok, I.os, I.bare, ⟨fun b o e n hb hx => ?_, fun b o e n hb hx => ?_, I.base.free, fun b o e hx => ?_, I.base.tups, I.base.frzs, I.base.tbls⟩, ⟨m, hn.sameBut hs (Ne.symm (cne x c hc)), fun j y v' e1 e2 e3 => ?_⟩, fun y c' e => ?_, I.free, I.freeC, fun p hp => ?_, tracked ⟨oc, hoc, I.freeC x c hc⟩ hs, by simpa using I.len⟩ ⟨c, hs, .inr hc⟩
    · exact (hs.2 b (Nat.ne_of_lt (Nat.lt_of_lt_of_le (Heap.lt_size e) (I.ok.cab x c hfn hc)))).trans (I.base.keep b o e n hb hx)
    · obtain ⟨sl, e1⟩ := I.base.slot b o e n hb hx
      exact ⟨sl, (hs.2 b (Nat.ne_of_lt (Nat.lt_of_lt_of_le (Heap.lt_size e) (I.ok.cab x c hfn hc)))).trans e1⟩
    · obtain ⟨o', e1⟩ := I.base.there b o e hx
      exact ⟨o', (hs.2 b (Nat.ne_of_lt (Nat.lt_of_lt_of_le (Heap.lt_size e) (I.ok.cab x c hfn hc)))).trans e1⟩
    · by_cases hj : j = i
      · subst hj
        rw [hi] at e1; cases e1
        rw [List.getElem?_set_self hiσ] at e2
        cases e2
        exact ⟨u, r, .inr ⟨.inl hk, c, hc, hc'⟩⟩
      · rw [List.getElem?_set_ne (Ne.symm hj)] at e2
        obtain ⟨u', r', q⟩ := hl j y v' e1 e2 e3
        refine ⟨u', r', ?_⟩
        rcases q with q | ⟨k, c', e, z'⟩
        · exact .inl q
        · refine .inr ⟨k, c', e, z'.sameBut hs ?_⟩
          rintro rfl
          exact hj (nodup_ix hN e1 (I.ok.inj _ _ _ e hc ▸ hi))
    · by_cases hcc : c' = c
      · subst hcc; exact ⟨_, hc'⟩
      · obtain ⟨w2, z2⟩ := I.cell y c' e
        exact ⟨w2, z2.sameBut hs hcc⟩
    · obtain ⟨e, n, ne, nf, d⟩ := I.pin p hp
      refine ⟨(hs.2 p.1 ?_).trans e, n, ne, nf, d⟩
      intro q
      rw [q, hoc] at e
      have q' : oc = p.2 := Option.some.inj e
      exact d w' (by rw [← q']; exact hocd)
theorem store_ok {M : Model} {A : Around} {E : Value → Shared → Prop} {i : Nat} {x : Str} {v : V} {u : Value} {Q : Unit → Shared → Prop} (I : Inv X pins σ H s) (hN : X.N.Nodup) (hi : X.N[i]? = some x) (hx : Loc X.env.scope x) (r : RelV v u)
    (h : ∀ s', Inv X pins (σ.set i (some v)) H s' → Q () s') (hf : X.fn x = true ∨ X.env.scope.names.lookup x = some .local := by first | exact .inl rfl | exact .inr rfl | assumption) : wpAny M A (storeName X.env x u) Q E s :=
  store_ok2 I hN hi hx r (fun s' I' _ => h s' I') hf

theorem Inv.call' {s' : Shared} {ch : List Addr} (I : Inv X pins σ H s) (ho : s'.os = s.os) (u : Un (frs X.stack) ch H H' s.heap s'.heap) (hok : HOk X.prog X.w H' s'.heap) (hg : AllBare s'.gens)
    (hch : ∀ b ∈ ch, (b ∈ X.ex ∨ X.s₀.heap.objs.size ≤ b) ∧ b ≠ X.env.locals ∧ (∀ x c, X.env.cells.lookup x = some c → c ≠ b) ∧ ∀ p ∈ X.pn ++ pins, p.1 ≠ b) : Inv X pins σ H' s' := by
  obtain ⟨h', g', d', t', o'⟩ := s'
  have e : o' = s.os := ho
  subst e
  exact I.call (g' := g') (t' := t') (d' := d') u hok hg hch
end



abbrev XK := Value → Option Addr → Hp → Prop
abbrev St := List (Option V)
abbrev VK := V → Hp → Prop

abbrev TE := St → Hp → VK → Prop
abbrev TT := St → Hp → (Bool → Hp → Prop) → Prop
abbrev TA := St → Hp → (List V → Hp → Prop) → Prop

structure Ends where
  nx : St → Hp → Prop
  rt : VK
  bk : St → Hp → Prop := fun _ _ => False
  ct : St → Hp → Prop := fun _ _ => False
abbrev TS := Ends → St → Hp → Prop

def EP (X : Cx) (pins : List (Addr × Obj)) (σ : St) (Q : VK) (u : Value) (s' : Shared) : Prop := ∃ v H', Inv X pins σ H' s' ∧ RelV v u ∧ Q v H'
def TP (X : Cx) (pins : List (Addr × Obj)) (σ : St) (Q : Bool → Hp → Prop) (b : Bool) (s' : Shared) : Prop := ∃ H', Inv X pins σ H' s' ∧ Q b H'
def AP (X : Cx) (pins : List (Addr × Obj)) (σ : St) (Q : List V → Hp → Prop) (us : List Value) (s' : Shared) : Prop := ∃ vs H', Inv X pins σ H' s' ∧ Vals vs us ∧ Q vs H'
def SP (X : Cx) (pins : List (Addr × Obj)) (D : Ends) (f : Flow) (s' : Shared) : Prop :=
  match f with
  | .next => ∃ σ' H', Inv X pins σ' H' s' ∧ D.nx σ' H'
  | .brk => ∃ σ' H', Inv X pins σ' H' s' ∧ D.bk σ' H'
  | .cont => ∃ σ' H', Inv X pins σ' H' s' ∧ D.ct σ' H'
  | .ret u => ∃ v σ' H', Inv X pins σ' H' s' ∧ RelV v u ∧ D.rt v H'

def PE (X : Cx) (e : Expr) (t : TE) : Prop :=
  ∀ (pins : List (Addr × Obj)) (s : Shared) (σ : St) (H : Hp) (Q : VK), Inv X pins σ H s → t σ H Q → wpAny (model X.prog X.w) X.A (eval e X.env) (EP X pins σ Q) X.xe s
def PT (X : Cx) (e : Expr) (t : TT) : Prop :=
  ∀ (pins : List (Addr × Obj)) (s : Shared) (σ : St) (H : Hp) (Q : Bool → Hp → Prop), Inv X pins σ H s → t σ H Q → wpAny (model X.prog X.w) X.A (isTrue e X.env (eval e X.env)) (TP X pins σ Q) X.xe s

def PW (X : Cx) (e : Expr) (t : TT) : Prop :=
  ∀ (whole : Sem Value) (pins : List (Addr × Obj)) (s : Shared) (σ : St) (H : Hp) (Q : Bool → Hp → Prop), Inv X pins σ H s → t σ H Q → wpAny (model X.prog X.w) X.A (isTrue e X.env whole) (TP X pins σ Q) X.xe s
theorem PW.pt {X : Cx} {e : Expr} {t : TT} (h : PW X e t) : PT X e t := h _

def PA (X : Cx) (es : List Expr) (t : TA) : Prop :=
  ∀ (pos : Pos) (pins : List (Addr × Obj)) (s : Shared) (σ : St) (H : Hp) (Q : List V → Hp → Prop), Inv X pins σ H s → t σ H Q → wpAny (model X.prog X.w) X.A (spliced (backTo pos (starEach es X.env))) (AP X pins σ Q) X.xe s
def PS (X : Cx) (st : Stmt) (t : TS) : Prop :=
  ∀ (pins : List (Addr × Obj)) (s : Shared) (σ : St) (H : Hp) (D : Ends), Inv X pins σ H s → t D σ H → wpAny (model X.prog X.w) X.A (exec st X.env) (SP X pins D) X.xe s
def PSs (X : Cx) (st : List Stmt) (t : TS) : Prop :=
  ∀ (pins : List (Addr × Obj)) (s : Shared) (σ : St) (H : Hp) (D : Ends), Inv X pins σ H s → t D σ H → wpAny (model X.prog X.w) X.A (execs st X.env) (SP X pins D) X.xe s

theorem thn {α : Type} {t : Sem α} {Q Q' : α → Shared → Prop} {M : Model} {A : Around} {E : Value → Shared → Prop} {s : Shared} (h : wpAny M A t Q E s) (hQ : ∀ a s, Q a s → Q' a s) : wpAny M A t Q' E s := wpAny_mono h hQ fun _ _ x => x
end L2

namespace L2
open PySem PySem.Spec PyProof.Rows
section
variable {X : Cx}


def tVar (i : Nat) : TE := fun σ H Q => ∃ v, σ[i]? = some (some v) ∧ Q v H
def tC (v : V) : TE := fun _ H Q => Q v H
theorem pe_var {i : Nat} {x : Str} {pos : Pos} (hN : X.N[i]? = some x) (hv : Vis X.env.scope x) (hd : (x == ("__debug__" : Str)) = false := by decide) (hcd : (x == ("__classdict__" : Str)) = false := by decide) : PE X (.Name x pos) (tVar i) := by
  intro pins s σ H Q I h
  obtain ⟨v, e, h⟩ := h
  obtain ⟨m, hn, hl⟩ := I.loc
  obtain ⟨u, r, l⟩ := hl i x v hN e hv
  have fin : EP X pins σ Q u s := ⟨v, H, I, r, h⟩
  rcases l with ⟨hk, hm⟩ | ⟨hk, c, hc, hcell⟩
  · exact wpAny_Name (wpAny_loadName_local I.ok.kind hk hn hm fin) hd
  · rcases hk with hk | hk
    · exact wpAny_Name (wpAny_loadName_cell I.ok.kind hk hc hcell fin) hd
    · exact wpAny_Name (wpAny_loadName_free I.ok.kind hk hc hcell fin hcd) hd
theorem pe_int {i j pos} : PE X (.Constant (.int i) j pos) (tC (.int i)) := fun _ _ _ H _ I h => wpAny_Constant_int ⟨.int i, H, I.tok _, ⟨_, rfl⟩, h⟩
theorem pe_bl {b j pos} : PE X (.Constant (.bool b) j pos) (tC (.bl b)) := fun _ _ _ H _ I h => Constant_bool ⟨.bl b, H, I, rfl, h⟩
theorem pe_non {j pos} : PE X (.Constant .none j pos) (tC .non) := fun _ _ _ H _ I h => Constant_none ⟨.non, H, I, rfl, h⟩
theorem pe_str {x j pos} : PE X (.Constant (.str x) j pos) (tC (.str x)) := fun _ _ _ H _ I h => Calls.Constant_str ⟨.str x, H, I.tok _, ⟨_, rfl⟩, h⟩


def Gl (X : Cx) (x : Str) : Prop := X.env.kindOf x = some .globalImplicit
theorem ld_glob {E : Value → Shared → Prop} {pins : List (Addr × Obj)} {s : Shared} {σ : St} {H : Hp} {x : Str} {u : Value} {pos : Pos} {Q : Value → Shared → Prop} (I : Inv X pins σ H s) (hg : Gl X x) (hm : X.mg x = some u) (h : Q u s)
    (hd : (x == ("__debug__" : Str)) = false := by decide) : wpAny (model X.prog X.w) X.A (eval (.Name x pos) X.env) Q E s :=
  Calls.Name_function_global I.ok.kind hg (Calls.loadGlobal_global (by rw [I.ok.glob]; exact I.mod.glob.keeps I.bk) hm h) hd
theorem ld_blt {E : Value → Shared → Prop} {pins : List (Addr × Obj)} {s : Shared} {σ : St} {H : Hp} {x : Str} {u : Value} {pos : Pos} {Q : Value → Shared → Prop} (I : Inv X pins σ H s) (hg : Gl X x) (hm : X.mg x = none) (hv : bootBuiltins x = some u) (h : Q u s)
    (hn : x ≠ "__name__" := by decide) (hd : (x == ("__debug__" : Str)) = false := by decide) : wpAny (model X.prog X.w) X.A (eval (.Name x pos) X.env) Q E s := by
  obtain ⟨mb, h1, h2⟩ := I.mod.blt
  exact Calls.Name_function_global I.ok.kind hg (Calls.loadGlobal_builtin (by rw [I.ok.glob]; exact I.mod.glob.keeps I.bk) hm (by rw [I.ok.blt]; exact h1.keeps I.bk) ((h2 x hn).trans hv) h) hd

theorem pe_glob {x : Str} {v : V} {u : Value} {pos : Pos} (hg : Gl X x) (hm : X.mg x = some u) (r : RelV v u) (hd : (x == ("__debug__" : Str)) = false := by decide) : PE X (.Name x pos) (tC v) :=
  fun _ _ _ H _ I h => ld_glob I hg hm ⟨v, H, I, r, h⟩ hd
theorem pe_bltn {x : Str} {v : V} {u : Value} {pos : Pos} (hg : Gl X x) (hm : X.mg x = none) (hv : bootBuiltins x = some u) (r : RelV v u) (hn : x ≠ "__name__" := by decide) (hd : (x == ("__debug__" : Str)) = false := by decide) : PE X (.Name x pos) (tC v) :=
  fun _ _ _ H _ I h => ld_blt I hg hm hv ⟨v, H, I, r, h⟩ hn hd



variable {a b : Expr} {ta tb : TE} {pos : Pos}
def PC (X : Cx) (op : CmpOp) (a b : Expr) (t : TE) : Prop :=
  ∀ (pins : List (Addr × Obj)) (s : Shared) (σ : St) (H : Hp) (Q : VK), Inv X pins σ H s → t σ H Q →
    wpAny (model X.prog X.w) X.A (eval a X.env) (fun v s₁ => wpAny (model X.prog X.w) X.A (eval b X.env) (fun u s₂ => wpAny (model X.prog X.w) X.A (compareOp op v u) (EP X pins σ Q) X.xe s₂) X.xe s₁) X.xe s
theorem nobehind (b : Expr) {op : CmpOp} (h : op ≠ .In) (h2 : op ≠ .NotIn) : behindInMarks op b = false := by
  have e1 : (op == CmpOp.In) = false := by cases op <;> first | rfl | exact absurd rfl h
  have e2 : (op == CmpOp.NotIn) = false := by cases op <;> first | rfl | exact absurd rfl h2
  cases b <;> simp [behindInMarks, e1, e2]
def tIsN (ta : TE) : TE := fun σ H Q => ta σ H fun x H1 => Q (.bl (decide (x = .non))) H1
theorem RelV.none_iff {x : V} {v : Value} (r : RelV x v) : (v == Value.none) = decide (x = .non) := by
  cases x with
  | non => cases r; rfl
  | bl _ => cases r; rfl
  | int _ => obtain ⟨t, rfl⟩ := r; rfl
  | str _ => obtain ⟨t, rfl⟩ := r; rfl
  | byt _ => obtain ⟨t, rfl⟩ := r; rfl
  | flt _ => obtain ⟨t, rfl⟩ := r; rfl
  | ref _ => cases r; rfl
  | ty _ => cases r; rfl
theorem pc_isN {j pos'} (ha : PE X a ta) : PC X .Is a (.Constant .none j pos') (tIsN ta) := by
  intro pins s σ H Q I h
  refine thn (ha pins s σ H _ I h) fun v s1 ⟨x, H1, I1, r1, q1⟩ => ?_
  exact Constant_none (is_none_gen ⟨.bl _, H1, I1, by rw [r1.none_iff]; rfl, q1⟩)
def tB (t : TE) : TT := fun σ H Q => t σ H fun x H1 => ∃ c, x = .bl c ∧ Q c H1
theorem pe_cmp {op : CmpOp} {t : TE} (h : PC X op a b t) (h1 : behindInMarks op b = false := by first | exact nobehind _ (by decide) (by decide) | rfl) : PE X (.Compare a [op] [b] pos) t := fun pins s σ H Q I hw => wpAny_Compare1 (h pins s σ H Q I hw) h1
theorem pt_cmp {op : CmpOp} {t : TE} (h : PC X op a b t) (h1 : behindInMarks op b = false := by first | exact nobehind _ (by decide) (by decide) | rfl) : PT X (.Compare a [op] [b] pos) (tB t) := by
  intro pins s σ H Q I hw
  refine wpAny_isTrue_Compare1 (thn (h pins s σ H _ I hw) fun v s1 h1 => thn h1 fun u s2 h2 => thn h2 fun c s3 ⟨x, H1, I1, r1, q1⟩ => ?_) h1
  obtain ⟨d, rfl, q⟩ := q1
  cases r1
  exact wpAny_truthy_bool ⟨H1, I1, q⟩

theorem pt_val {e : Expr} {t : TE} (h : PE X e t) (he : ∀ whole, isTrue e X.env whole = (do let v ← whole; standAt e.pos; holding [v] (truthy v)) := by intro _; rfl) : PT X e (tB t) := by
  intro pins s σ H Q I hw
  refine isTrue_plain (thn (h pins s σ H _ I hw) fun v s1 ⟨x, H1, I1, r1, q1⟩ => ?_) (he _)
  obtain ⟨d, rfl, q⟩ := q1
  cases r1
  exact wpAny_truthy_bool ⟨H1, I1, q⟩


variable {tA tB' : TT} {rest : List Expr}
def tAnd (t u : TT) : TT := fun σ H Q => t σ H fun c H1 => if c = true then u σ H1 Q else Q false H1
def tOr (t u : TT) : TT := fun σ H Q => t σ H fun c H1 => if c = true then Q true H1 else u σ H1 Q
def tNot (t : TT) : TT := fun σ H Q => t σ H fun c H1 => Q (!c) H1
theorem pw_and1 (ha : PT X a tA) : PW X (.BoolOp .And [a] pos) tA := by
  intro wh pins s σ H Q I h
  refine isTrue_and (thn (ha pins s σ H Q I h) fun c s1 e => ?_)
  cases c with
  | true => exact isTrue_and_nil e
  | false => exact e
theorem pw_or1 (ha : PT X a tA) : PW X (.BoolOp .Or [a] pos) tA := by
  intro wh pins s σ H Q I h
  refine isTrue_or (thn (ha pins s σ H Q I h) fun c s1 e => ?_)
  cases c with
  | false => exact isTrue_or_nil e
  | true => exact e
theorem pw_and (ha : PT X a tA) (hb : PW X (.BoolOp .And (b :: rest) pos) tB') : PW X (.BoolOp .And (a :: b :: rest) pos) (tAnd tA tB') := by
  intro wh pins s σ H Q I h
  refine isTrue_and (thn (ha pins s σ H _ I h) fun c s1 ⟨H1, I1, q1⟩ => ?_)
  cases c with
  | true => exact hb wh pins s1 σ H1 Q I1 q1
  | false => exact ⟨H1, I1, q1⟩
theorem pw_or (ha : PT X a tA) (hb : PW X (.BoolOp .Or (b :: rest) pos) tB') : PW X (.BoolOp .Or (a :: b :: rest) pos) (tOr tA tB') := by
  intro wh pins s σ H Q I h
  refine isTrue_or (thn (ha pins s σ H _ I h) fun c s1 ⟨H1, I1, q1⟩ => ?_)
  cases c with
  | true => exact ⟨H1, I1, q1⟩
  | false => exact hb wh pins s1 σ H1 Q I1 q1
theorem pt_not (ha : PT X a tA) : PT X (.UnaryOp .Not a pos) (tNot tA) := by
  intro pins s σ H Q I h
  exact isTrue_not (ha pins s σ H (fun c H1 => Q (!c) H1) I h)

def tAndV (ta tb : TE) : TE := fun σ H Q => ta σ H fun x H1 => ∃ c, x = .bl c ∧ if c = true then tb σ H1 Q else Q (.bl false) H1
def tOrV (ta tb : TE) : TE := fun σ H Q => ta σ H fun x H1 => ∃ c, x = .bl c ∧ if c = true then Q (.bl true) H1 else tb σ H1 Q
def tNotV (ta : TE) : TE := fun σ H Q => ta σ H fun x H1 => ∃ c, x = .bl c ∧ Q (.bl (!c)) H1
theorem pe_one {op} {t : TE} (h : PE X a t) : PE X (.BoolOp op [a] pos) t := fun pins s σ H Q I hw => BoolOp_one (h pins s σ H Q I hw)
theorem pe_and (ha : PE X a ta) (hb : PE X (.BoolOp .And (b :: rest) pos) tb) : PE X (.BoolOp .And (a :: b :: rest) pos) (tAndV ta tb) := by
  intro pins s σ H Q I h
  refine BoolOp_and (thn (ha pins s σ H _ I h) fun v s1 ⟨x, H1, I1, r1, q1⟩ => ?_)
  obtain ⟨c, rfl, q1⟩ := q1
  cases r1
  refine wpAny_truthy_bool ?_
  cases c with
  | true => exact hb pins s1 σ H1 Q I1 q1
  | false => exact ⟨.bl false, H1, I1, rfl, q1⟩
theorem pe_or (ha : PE X a ta) (hb : PE X (.BoolOp .Or (b :: rest) pos) tb) : PE X (.BoolOp .Or (a :: b :: rest) pos) (tOrV ta tb) := by
  intro pins s σ H Q I h
  refine BoolOp_or (thn (ha pins s σ H _ I h) fun v s1 ⟨x, H1, I1, r1, q1⟩ => ?_)
  obtain ⟨c, rfl, q1⟩ := q1
  cases r1
  refine wpAny_truthy_bool ?_
  cases c with
  | false => exact hb pins s1 σ H1 Q I1 q1
  | true => exact ⟨.bl true, H1, I1, rfl, q1⟩
theorem pe_not (ha : PE X a ta) : PE X (.UnaryOp .Not a pos) (tNotV ta) := by
  intro pins s σ H Q I h
  refine UnaryOp_ (thn (ha pins s σ H _ I h) fun v s1 ⟨x, H1, I1, r1, q1⟩ => ?_)
  obtain ⟨c, rfl, q1⟩ := q1
  cases r1
  exact not_of (wpAny_truthy_bool ⟨.bl (!c), H1, I1, rfl, q1⟩)

end
end L2

namespace L2
open PySem PySem.Spec PyProof.Rows


def SqL (K : PySem.W.Frag) (H : Hp) (a : Addr) (xs : List V) : Prop :=
  Rd H a (.lst xs) ∨
    ∃ (o : Obj) (its : Array Value) (n : Nat), K.lookup a = some o ∧ o.cls = .type "list" ∧ o.dict = none ∧ o.data = .seq its n ∧ its.size ≤ sizeLine ∧ Vals xs its.toList
def SqT (K : PySem.W.Frag) (H : Hp) (a : Addr) (xs : List V) : Prop :=
  Rd H a (.tup xs) ∨
    ∃ (o : Obj) (its : Array Value) (n : Nat), K.lookup a = some o ∧ o.cls = .type "tuple" ∧ o.data = .seq its n ∧ its.size ≤ sizeLine ∧ Vals xs its.toList
def absV : Value → Option V
  | .none => some .non
  | .bool b => some (.bl b)
  | .int i _ => some (.int i)
  | .str x _ => some (.str x)
  | .bytes b _ => some (.byt b)
  | .float b _ => some (.flt b)
  | .ref a => some (.ref a)
  | .type n => some (.ty n)
  | _ => none
theorem RelV.abs {x : V} {u : Value} (r : RelV x u) : absV u = some x := by
  cases x with
  | non => cases r; rfl
  | bl _ => cases r; rfl
  | int _ => obtain ⟨t, rfl⟩ := r; rfl
  | str _ => obtain ⟨t, rfl⟩ := r; rfl
  | byt _ => obtain ⟨t, rfl⟩ := r; rfl
  | flt _ => obtain ⟨t, rfl⟩ := r; rfl
  | ref _ => cases r; rfl
  | ty _ => cases r; rfl
theorem RelV.inj {x y : V} {u : Value} (r : RelV x u) (q : RelV y u) : x = y := Option.some.inj (r.abs.symm.trans q.abs)
theorem Vals.inj : ∀ {xs ys : List V} {us : List Value}, Vals xs us → Vals ys us → xs = ys
  | _, _, _, .nil, .nil => rfl
  | _, _, _, .cons r t, .cons r' t' => by rw [r.inj r', Vals.inj t t']
section
variable {X : Cx} {pins : List (Addr × Obj)} {σ : St} {H : Hp} {s : Shared} {a : Addr} {xs ys : List V}
theorem SqL.of {K : PySem.W.Frag} (h : H a = some (.lst xs)) : SqL K H a xs := .inl (.inl h)
theorem SqT.of {K : PySem.W.Frag} (h : H a = some (.tup xs)) : SqT K H a xs := .inl (.inl h)
theorem Inv.list (I : Inv X pins σ H s) (h : SqL X.K H a xs) : ∃ its : List Value, Vals xs its ∧ PlainL s.heap a its.toArray ∧ xs.length ≤ sizeLine := by
  rcases h with h | ⟨o, its, n, hk, hc, hd, hs, hz, r⟩
  · obtain ⟨z, its, n, r, e⟩ := h.ok I.hok
    exact ⟨its, r, ⟨_, n, e, rfl, rfl, rfl⟩, z⟩
  · refine ⟨its.toList, r, ⟨o, n, I.kIn a o hk, hc, hd, by simpa using hs⟩, ?_⟩
    have e := r.length
    simp only [Array.length_toList] at e
    omega
theorem Inv.tuple (I : Inv X pins σ H s) (h : SqT X.K H a xs) : ∃ its : List Value, Vals xs its ∧ IsTup s.heap a its.toArray ∧ xs.length ≤ sizeLine := by
  rcases h with h | ⟨o, its, n, hk, hc, hs, hz, r⟩
  · obtain ⟨z, its, r, p⟩ := h.ok I.hok
    exact ⟨its, r, p, z⟩
  · refine ⟨its.toList, r, ⟨o, I.kIn a o hk, hc, n, by simpa using hs⟩, ?_⟩
    have e := r.length
    simp only [Array.length_toList] at e
    omega
theorem Inv.list_inj (I : Inv X pins σ H s) (h : SqL X.K H a xs) (h' : SqL X.K H a ys) : xs = ys := by
  obtain ⟨its, r, ⟨o, n, e, _, _, d⟩, _⟩ := I.list h
  obtain ⟨its', r', ⟨o', n', e', _, _, d'⟩, _⟩ := I.list h'
  rw [e] at e'; cases e'
  rw [d] at d'
  injection d' with d1 _
  have : its = its' := by simpa using congrArg Array.toList d1
  subst this
  exact r.inj r'
theorem Inv.tuple_inj (I : Inv X pins σ H s) (h : SqT X.K H a xs) (h' : SqT X.K H a ys) : xs = ys := by
  obtain ⟨its, r, ⟨o, e, _, n, d⟩, _⟩ := I.tuple h
  obtain ⟨its', r', ⟨o', e', _, n', d'⟩, _⟩ := I.tuple h'
  rw [e] at e'; cases e'
  rw [d] at d'
  injection d' with d1 _
  have : its = its' := by simpa using congrArg Array.toList d1
  subst this
  exact r.inj r'
end


abbrev Cx.wish (X : Cx) (E : Value → Shared → Prop) : Cx := { X with xe := E }

abbrev Cx.nox (X : Cx) : Cx := X.wish fun _ _ => False
theorem Cx.Ok.wish {X : Cx} (ok : X.Ok) (E : Value → Shared → Prop) : (X.wish E).Ok :=
  ⟨ok.mod, ok.kind, ok.glob, ok.blt, ok.above, ok.inj, ok.has, ok.cab, ok.hd, ok.frames, ok.stk, ok.exf, ok.bs, ok.bsz, ok.noex, ok.exfs, ok.funs, ok.frf⟩
theorem Cx.Ok.unwish {X : Cx} {E : Value → Shared → Prop} (ok : (X.wish E).Ok) : X.Ok :=
  ⟨ok.mod, ok.kind, ok.glob, ok.blt, ok.above, ok.inj, ok.has, ok.cab, ok.hd, ok.frames, ok.stk, ok.exf, ok.bs, ok.bsz, ok.noex, ok.exfs, ok.funs, ok.frf⟩
section
variable {X : Cx} {pins : List (Addr × Obj)} {σ : St} {H : Hp} {s : Shared} {E : Value → Shared → Prop}
theorem Inv.wish (I : Inv X pins σ H s) (E : Value → Shared → Prop) : Inv (X.wish E) pins σ H s := ⟨I.ok.wish E, I.os, I.bare, I.base, I.loc, I.cell, I.free, I.freeC, I.pin, I.hok, I.len⟩
theorem Inv.unwish (I : Inv (X.wish E) pins σ H s) : Inv X pins σ H s := ⟨I.ok.unwish, I.os, I.bare, I.base, I.loc, I.cell, I.free, I.freeC, I.pin, I.hok, I.len⟩
theorem SP.unwish {D : Ends} {f : Flow} {s' : Shared} (h : SP (X.wish E) pins D f s') : SP X pins D f s' := by
  cases f with
  | next => obtain ⟨σ', H', I, q⟩ := h; exact ⟨σ', H', I.unwish, q⟩
  | brk => obtain ⟨σ', H', I, q⟩ := h; exact ⟨σ', H', I.unwish, q⟩
  | cont => obtain ⟨σ', H', I, q⟩ := h; exact ⟨σ', H', I.unwish, q⟩
  | ret u => obtain ⟨v, σ', H', I, r, q⟩ := h; exact ⟨v, σ', H', I.unwish, r, q⟩
theorem PSs.nox {st : List Stmt} {t : TS} (h : PSs X.nox st t) : PSs X st t := fun pins s σ H D I hw =>
  wpAny_mono (h pins s σ H D (I.wish _) hw) (fun _ _ q => q.unwish) fun _ _ z => False.elim z
end


section
variable {X : Cx} {st : Stmt} {rest : List Stmt} {t u : TS} {e : Expr} {te : TE} {pos : Pos}
def tNext : TS := fun D σ H => D.nx σ H
def tSeq (t u : TS) : TS := fun D σ H => t { D with nx := u D } σ H
theorem pss_nil : PSs X [] tNext := fun _ _ σ H _ I h => wpAny_execs_nil ⟨σ, H, I, h⟩
theorem pss_cons (h1 : PS X st t) (h2 : PSs X rest u) : PSs X (st :: rest) (tSeq t u) := by
  intro pins s σ H D I h
  refine wpAny_execs_cons (thn (h1 pins s σ H { D with nx := u D } I h) fun f s1 q => ?_)
  cases f with
  | next =>
    obtain ⟨σ', H', I', q⟩ := q
    exact h2 pins s1 σ' H' D I' q
  | ret v => exact q
  | brk => exact q
  | cont => exact q
theorem pss_one (h1 : PS X st t) : PSs X [st] t := by
  intro pins s σ H D I h
  refine wpAny_execs_cons (thn (h1 pins s σ H D I h) fun f s1 q => ?_)
  cases f with
  | next => exact wpAny_execs_nil q
  | ret v => exact q
  | brk => exact q
  | cont => exact q
theorem Inv.quiet {pins : List (Addr × Obj)} {σ : St} {H : Hp} {s : Shared} (I : Inv X pins σ H s) : interactive X.env = false := by simp [interactive, I.ok.kind]

def tDrop (te : TE) : TS := fun D σ H => te σ H fun _ H1 => D.nx σ H1
theorem ps_expr (he : PE X e te) (hs : swapsWith e none pos.line X.env = pure false := by rfl) : PS X (.Expr e pos) (tDrop te) := by
  intro pins s σ H D I h
  exact wpAny_Expr_any (thn (he pins s σ H _ I h) fun v s1 ⟨x, H1, I1, r1, q1⟩ => ⟨σ, H1, I1, q1⟩) I.quiet hs
def tRet (te : TE) : TS := fun D σ H => te σ H D.rt
theorem ps_ret (he : PE X e te) : PS X (.Return (some e) pos) (tRet te) := by
  intro pins s σ H D I h
  exact wpAny_Return_some (thn (he pins s σ H _ I h) fun v s1 ⟨x, H1, I1, r1, q1⟩ => ⟨x, σ, H1, I1, r1, q1⟩)
def tIfS (c : TT) (t u : TS) : TS := fun D σ H => c σ H fun b H1 => if b = true then t D σ H1 else u D σ H1
theorem ps_if {c : Expr} {a b : List Stmt} {tc : TT} (hc : PT X c tc) (ha : PSs X a t) (hb : PSs X b u) : PS X (.If c a b pos) (tIfS tc t u) := by
  intro pins s σ H D I h
  refine wpAny_If (thn (hc pins s σ H _ I h) fun d s1 ⟨H1, I1, q1⟩ => ?_)
  cases d with
  | true => exact ha pins s1 σ H1 D I1 q1
  | false => exact hb pins s1 σ H1 D I1 q1

def tNever : TS := fun _ _ _ => False
theorem ps_never : PS X st tNever := fun _ _ _ _ _ _ h => h.elim
theorem pss_never {sts : List Stmt} : PSs X sts tNever := fun _ _ _ _ _ _ h => h.elim
end


abbrev TG := V → St → Hp → (St → Hp → Prop) → Prop
abbrev TGs := List V → St → Hp → (St → Hp → Prop) → Prop
def PG (X : Cx) (target : Expr) (t : TG) : Prop :=
  ∀ (pins : List (Addr × Obj)) (s : Shared) (σ : St) (H : Hp) (v : V) (u : Value) (Q : St → Hp → Prop), Inv X pins σ H s → RelV v u → t v σ H Q →
    wpAny (model X.prog X.w) X.A (assign target X.env u) (fun _ s' => ∃ σ' H', Inv X pins σ' H' s' ∧ Q σ' H') X.xe s

def PGs (X : Cx) (ts : List Expr) (t : TGs) : Prop :=
  ∀ (pins : List (Addr × Obj)) (s : Shared) (σ : St) (H : Hp) (vs : List V) (us : List Value) (Q : St → Hp → Prop), Inv X pins σ H s → Vals vs us → t vs σ H Q →
    wpAny (model X.prog X.w) X.A (assignInOrder ((assignEach ts X.env).map (·.2)) us) (fun _ s' => ∃ σ' H', Inv X pins σ' H' s' ∧ Q σ' H') X.xe s

section
variable {X : Cx} {pos : Pos}
def gName (i : Nat) : TG := fun v σ H Q => Q (σ.set i (some v)) H
theorem pg_name {i : Nat} {x : Str} (hN : X.N.Nodup) (hi : X.N[i]? = some x) (hx : Loc X.env.scope x) (hf : X.fn x = true ∨ X.env.scope.names.lookup x = some .local := by first | exact .inl rfl | exact .inr rfl | assumption) : PG X (.Name x pos) (gName i) := by
  intro pins s σ H v u Q I r h
  exact wpAny_assign_Name (store_ok I hN hi hx r (fun s' I' => ⟨_, H, I', h⟩) hf)
def gNil : TGs := fun vs σ H Q => vs = [] ∧ Q σ H
def gCons (t : TG) (u : TGs) : TGs := fun vs σ H Q => ∃ v r, vs = v :: r ∧ t v σ H fun σ' H' => u r σ' H' Q
theorem pgs_nil : PGs X [] gNil := by
  intro pins s σ H vs us Q I r h
  obtain ⟨e, h⟩ := h
  subst e
  cases r
  exact assignInOrder_nil ⟨σ, H, I, h⟩
theorem pgs_cons {e : Expr} {es : List Expr} {t : TG} {u : TGs} (h1 : PG X e t) (h2 : PGs X es u)
    (hs : (assignEach (e :: es) X.env).map (·.2) = assign e X.env :: (assignEach es X.env).map (·.2) := by rfl) : PGs X (e :: es) (gCons t u) := by
  intro pins s σ H vs us Q I r h
  obtain ⟨v, vr, e1, h⟩ := h
  subst e1
  cases r with
  | cons r rr =>
    rw [hs]
    refine assignInOrder_cons (thn (h1 pins s σ H _ _ _ I r h) fun _ s1 ⟨σ1, H1, I1, q1⟩ => ?_)
    exact h2 pins s1 σ1 H1 _ _ Q I1 rr q1

def gTup (K : PySem.W.Frag) (n : Nat) (t : TGs) : TG := fun v σ H Q => ∃ a xs, v = .ref a ∧ SqT K H a xs ∧ xs.length = n ∧ t xs σ H Q
theorem pg_tup {es : List Expr} {k : Nat} {t : TGs} {n : Nat} (hc : X.calm = true) (h : PGs X es t)
    (hn : (assignEach es X.env).length = n := by rfl) (hst : (assignEach es X.env).findIdx? (·.1) = none := by rfl) : PG X (.Tuple es k pos) (gTup X.K n t) := by
  intro pins s σ H v u Q I r hw
  obtain ⟨a, xs, e1, hq, hl, hw⟩ := hw
  subst e1
  cases r
  obtain ⟨its, rv, ht, hz⟩ := I.tuple hq
  refine assign_Tuple_tuple (I.ok.hd hc) ht (by simp [hn, ← hl, rv.length]) hst fun h' hx => ?_
  have I1 : Inv X pins σ H { s with heap := h' } := I.kept (t' := s.toks) fun b o e => hx b o (Nat.ne_of_lt (Heap.lt_size e)) e
  exact h pins _ σ H xs _ Q I1 (by simpa using rv) hw

def tAsg (te : TE) (g : TG) : TS := fun D σ H => te σ H fun x H1 => g x σ H1 D.nx
theorem ps_asg {tg e : Expr} {te : TE} {g : TG} (he : PE X e te) (hg : PG X tg g) (hs : swapsWithSole [tg] e pos.line X.env = pure false := by rfl) (hw : swappedStores [tg] e X.env = pure none := by rfl)
    (h1 : (assignEach [tg] X.env).map (·.2) = [assign tg X.env] := by rfl) : PS X (.Assign [tg] e pos) (tAsg te g) := by
  intro pins s σ H D I h
  refine wpAny_Assign_stores (thn (he pins s σ H _ I h) fun v s1 ⟨x, H1, I1, r1, q1⟩ => ?_) hs hw
  rw [h1]
  exact thn (hg pins s1 σ H1 x v _ I1 r1 q1) fun _ s2 q => q

theorem ps_set {i : Nat} {x : Str} {e : Expr} {te : TE} {pos' : Pos} (hN : X.N.Nodup) (hi : X.N[i]? = some x) (hx : Loc X.env.scope x) (he : PE X e te) (hs : swapsWith e (some (.Name x pos')) pos.line X.env = pure false := by rfl) (hf : X.fn x = true ∨ X.env.scope.names.lookup x = some .local := by first | exact .inl rfl | exact .inr rfl | assumption) :
    PS X (.Assign [.Name x pos'] e pos) (tAsg te (gName i)) := by
  intro pins s σ H D I h
  refine wpAny_Assign_Name (thn (he pins s σ H _ I h) fun v s1 ⟨y, H1, I1, r1, q1⟩ => ?_) hs
  exact store_ok I1 hN hi hx r1 (fun s2 I2 => ⟨_, H1, I2, q1⟩) hf

end


section
variable {X : Cx} {pos : Pos}

end



structure It where
  go : Nat → Hp → Prop
  yld : Nat → Hp → V → Hp → Prop
  stop : Nat → Hp → Prop

def FpOk (X : Cx) (pins : List (Addr × Obj)) (H : Hp) (b : Addr) : Prop :=
  H b = none ∧ b ≠ X.env.locals ∧ b ∉ X.fs ∧ (b ∈ X.ex ∨ X.s₀.heap.objs.size ≤ b) ∧ (∀ x c, X.env.cells.lookup x = some c → c ≠ b) ∧ ∀ p ∈ X.pn ++ pins, p.1 ≠ b
theorem Inv.fpOk {X : Cx} {pins : List (Addr × Obj)} {σ : St} {H H' : Hp} {s : Shared} {b : Addr} (I : Inv X pins σ H s) (hb : s.heap.objs.size ≤ b) (hn : H' b = none) : FpOk X pins H' b := by
  refine ⟨hn, Nat.ne_of_gt (Nat.lt_of_lt_of_le I.lt hb), I.nofs hb, .inr (Nat.le_trans I.sz hb), fun x c e z => ?_, fun p hp z => ?_⟩
  · obtain ⟨v, q⟩ := I.cell x c e
    exact absurd (Nat.lt_of_lt_of_le q.lt (by rw [z]; exact hb)) (Nat.lt_irrefl _)
  · exact absurd (Nat.lt_of_lt_of_le (Heap.lt_size (I.pin p hp).1) (by rw [z]; exact hb)) (Nat.lt_irrefl _)
structure Turn (P : Program) (w : World) (K : PySem.W.Frag) (tg : Expr) (J : It) (fp : List Addr) (it : Addr) (tn : Nat → Heap → Prop) : Prop where
  mem : it ∈ fp
  obj : ∀ i h, tn i h → ∀ b ∈ fp, ∃ o, h.get? b = some o ∧ ∀ v, o.data ≠ .cell v
  keep : ∀ i h h', tn i h → (∀ b ∈ fp, ∀ o, h.get? b = some o → h'.get? b = some o) → tn i h'
  item : ∀ (X : Cx), X.prog = P → X.w = w → X.K = K → X.calm = true → ∀ (i : Nat) (pins : List (Addr × Obj)) (s : Shared) (σ : St) (H : Hp) (E : Value → Shared → Prop), Inv X pins σ H s → (∀ b ∈ fp, FpOk X pins H b) → tn i s.heap → J.go i H →
    wpAny (model P w) X.A (pyNext (.ref it)) (fun r s1 => ∃ u, r = some u ∧
      wpAny (model P w) X.A (letOwnedTupleGo tg (.ref it) u) (fun _ s2 => ∃ x H', Inv X pins σ H' s2 ∧ RelV x u ∧ J.yld i H x H' ∧ tn (i + 1) s2.heap ∧ ∀ b ∈ fp, H' b = none) E s1) E s
  done : ∀ (X : Cx), X.prog = P → X.w = w → X.K = K → X.calm = true → ∀ (i : Nat) (pins : List (Addr × Obj)) (s : Shared) (σ : St) (H : Hp) (E : Value → Shared → Prop), Inv X pins σ H s → (∀ b ∈ fp, FpOk X pins H b) → tn i s.heap → J.stop i H →
    wpAny (model P w) X.A (pyNext (.ref it)) (fun r s1 => r = none ∧ Inv X pins σ H s1) E s
  self : ∀ (A : Around) (i : Nat) (s : Shared) (Q : Value → Shared → Prop) (E : Value → Shared → Prop), tn i s.heap → Q (.ref it) s → wpAny (model P w) A (pyIter (.ref it)) Q E s
abbrev TI := St → Hp → (It → Hp → Prop) → Prop

def PIE (X : Cx) (pins : List (Addr × Obj)) (σ : St) (tg : Expr) (R : It → Hp → Prop) (itv : Value) (s2 : Shared) : Prop :=
  ∃ (it : Addr) (fp : List Addr) (tn : Nat → Heap → Prop) (J : It) (H' : Hp), itv = .ref it ∧ Inv X pins σ H' s2 ∧ Turn X.prog X.w X.K tg J fp it tn ∧ tn 0 s2.heap ∧ (∀ b ∈ fp, FpOk X pins H' b) ∧ R J H'
def PI (X : Cx) (tg iter : Expr) (wi : TI) : Prop :=
  ∀ (pins : List (Addr × Obj)) (s : Shared) (σ : St) (H : Hp) (R : It → Hp → Prop), Inv X pins σ H s → wi σ H R →
    wpAny (model X.prog X.w) X.A (eval iter X.env) (fun v s1 => wpAny (model X.prog X.w) X.A (pyIter v) (PIE X pins σ tg R) X.xe s1) X.xe s


theorem go_of {M : Model} {A : Around} {E : Value → Shared → Prop} {s : Shared} {tg : Expr} {it : Addr} {u : Value} {o : Obj} {n : String} {vs : Array Value} {Q : Unit → Shared → Prop} (ho : s.heap.get? it = some o) (hc : o.cls = .type n) (hd : o.data = .fields vs)
    (hn : ["enumerate", "zip", "dict_itemiterator", "dict_reverseitemiterator", "odict_iterator", "itertools.zip_longest", "itertools.pairwise"].contains n = false) (hQ : Q () s) : wpAny M A (letOwnedTupleGo tg (.ref it) u) Q E s := by
  unfold letOwnedTupleGo
  cases tg <;> first
    | exact wpAny_pure hQ
    | (cases u <;> first
        | exact wpAny_pure hQ
        | (refine wpAny_bind (wpAny_load ho ?_)
           rw [hc, hd]
           show wpAny M A (if (["enumerate", "zip", "dict_itemiterator", "dict_reverseitemiterator", "odict_iterator", "itertools.zip_longest", "itertools.pairwise"].contains n && vs[0]? == some (rawInt _)) = true then _ else _) Q E s
           rw [if_neg (by intro h; rw [hn, Bool.false_and] at h; cases h)]
           exact wpAny_pure hQ))


def Itl (K : PySem.W.Frag) (a : Addr) : It :=
  ⟨fun i H => ∃ xs x, SqL K H a xs ∧ xs[i]? = some x, fun i H x H' => H' = H ∧ ∀ xs, SqL K H a xs → xs[i]? = some x, fun i H => ∃ xs, SqL K H a xs ∧ xs.length ≤ i⟩
def Itr (lo : Int) (n : Nat) : It := ⟨fun i _ => i < n, fun i H x H' => H' = H ∧ x = .int (lo + i), fun i _ => n ≤ i⟩
theorem turn_list {P : Program} {w : World} {K : PySem.W.Frag} {tg : Expr} (a it : Addr) : Turn P w K tg (Itl K a) [it] it (fun i h => h.IsListIter it a i) where
  mem := by simp
  obj := fun i h st b hb => by
    have e : b = it := by simpa using hb
    subst e
    obtain ⟨o, e, c, d⟩ := st
    exact ⟨o, e, fun v z => by rw [d] at z; cases z⟩
  keep := fun i h h' st k => st.at fun o e => k it (by simp) o e
  item := by
    intro X hP hw hK hc i pins s σ H E I hf st hg
    subst hP hw hK
    obtain ⟨xs, x, hq, hx⟩ := hg
    obtain ⟨its, rv, p, hz⟩ := I.list hq
    obtain ⟨u, hu, ru⟩ := rv.get hx
    obtain ⟨f0, f1, f2, f3, f4, f5⟩ := hf it (by simp)
    refine wpAny_pyNext_list_item st p.isList (x := u) (by simpa using hu) fun h' st' sb => ?_
    have I1 : Inv X pins σ H { s with heap := h' } := I.turned (t' := s.toks) (fun b o hb e => (sb.2 b hb).trans e) f0 f1 f3 f4 f5
    obtain ⟨o, e, c, d⟩ := id st'
    exact ⟨u, rfl, go_of (s := { s with heap := h' }) e c d (by decide) ⟨x, H, I1, ru, ⟨rfl, fun ys hy => by rw [I.list_inj hy hq]; exact hx⟩, st', fun b hb => (hf b hb).1⟩⟩
  done := by
    intro X hP hw hK hc i pins s σ H E I hf st hg
    subst hP hw hK
    obtain ⟨xs, hq, hx⟩ := hg
    obtain ⟨its, rv, p, hz⟩ := I.list hq
    obtain ⟨f0, f1, f2, f3, f4, f5⟩ := hf it (by simp)
    have hl := rv.length
    exact wpAny_pyNext_list_end (I.ok.hd hc) st p.isList (by simp; omega) fun h' eb => ⟨rfl, I.turned (t' := s.toks) (fun b o hb e => eb b o hb e) f0 f1 f3 f4 f5⟩
  self := fun _ _ _ _ _ st h => wpAny_pyIter_listiter st h
theorem turn_range {P : Program} {w : World} {K : PySem.W.Frag} {tg : Expr} (it : Addr) (lo : Int) (n : Nat) : Turn P w K tg (Itr lo n) [it] it (fun i h => IsRangeIter h it (lo + (i : Nat) * 1) ((n : Int) - (i : Nat)) 1) where
  mem := by simp
  obj := fun i h st b hb => by
    have e : b = it := by simpa using hb
    subst e
    exact ⟨_, st, fun v z => by
      have z' : Data.fields _ = Data.cell v := z
      cases z'⟩
  keep := fun i h h' st k => k it (by simp) _ st
  item := by
    intro X hP hw hK hc i pins s σ H E I hf st hg
    subst hP hw hK
    obtain ⟨f0, f1, f2, f3, f4, f5⟩ := hf it (by simp)
    have W := Walks.range (prog := X.prog) (w := X.w) (I.ok.hd hc) it lo 1 n
    refine W.item i s _ _ hg st fun v h' tk hv st' kk => ?_
    obtain ⟨t, rfl⟩ := hv
    have I1 : Inv X pins σ H { s with heap := h', toks := tk } := I.turned (fun b o hb e => kk b o (by simpa using hb) e) f0 f1 f3 f4 f5
    refine ⟨_, rfl, go_of (s := { s with heap := h', toks := tk }) (n := "range_iterator") st' rfl rfl (by decide) ⟨.int (lo + i), H, I1, ⟨t, ?_⟩, ⟨rfl, rfl⟩, st', fun b hb => (hf b hb).1⟩⟩
    rw [Int.mul_one]
  done := by
    intro X hP hw hK hc i pins s σ H E I hf st hg
    subst hP hw hK
    obtain ⟨f0, f1, f2, f3, f4, f5⟩ := hf it (by simp)
    exact wpAny_pyNext_range_end (I.ok.hd hc) st (by have : n ≤ i := hg; omega) fun h' eb => ⟨rfl, I.turned (t' := s.toks) (fun b o hb e => eb b o hb e) f0 f1 f3 f4 f5⟩
  self := fun _ _ _ _ _ st h => wpAny_pyIter_rangeiter st h
end L2

namespace L2
open PySem PySem.Spec PyProof.Rows
section
variable {X : Cx} {tg : Expr}
def iList (K : PySem.W.Frag) (tl : TE) : TI := fun σ H R => tl σ H fun x H1 => ∃ a, x = .ref a ∧ (∃ xs, SqL K H1 a xs) ∧ R (Itl K a) H1
theorem pi_list {l : Expr} {tl : TE} (hl : PE X l tl) : PI X tg l (iList X.K tl) := by
  intro pins s σ H R I h
  refine thn (hl pins s σ H _ I h) fun v s1 ⟨x, H1, I1, r1, q1⟩ => ?_
  obtain ⟨a, e, ⟨xs, hq⟩, q⟩ := q1
  subst e
  cases r1
  obtain ⟨its, rv, p, hz⟩ := I1.list hq
  refine wpAny_pyIter_list p.isList ?_
  refine ⟨s1.heap.objs.size, [s1.heap.objs.size], _, _, H1, rfl, I1.kept (t' := s1.toks) fun b o e => Heap.get?_push_of_some _ e, turn_list a _, ⟨_, Heap.get?_push_size _ rfl, rfl, rfl⟩, fun b hb => ?_, q⟩
  have e : b = s1.heap.objs.size := by simpa using hb
  subst e
  exact I1.fpOk (Nat.le_refl _) (I1.hok.fresh (Nat.le_refl _))
theorem range_it {pins : List (Addr × Obj)} {σ : St} {H : Hp} {s : Shared} {R : It → Hp → Prop} {E : Value → Shared → Prop} {lo hi : Int} {t u v : Tok} {tk : Nat} (I : Inv X pins σ H s) (h1 : -(2 ^ 62) ≤ lo) (h2 : lo < 2 ^ 62) (h3 : -(2 ^ 62) ≤ hi) (h4 : hi < 2 ^ 62)
    (q : R (Itr lo (hi - lo).toNat) H) : wpAny (model X.prog X.w) X.A (pyIter (.ref s.heap.objs.size)) (PIE X pins σ tg R) E { s with heap := s.heap.push { cls := .type "range", data := .fields #[.int lo t, .int hi u, .int 1 v] }, toks := tk } := by
  refine wpAny_pyIter_range (IsRange.new ..) (small_one h1 h2 h3 h4) ?_
  have I1 : Inv X pins σ H { s with heap := s.heap.push { cls := .type "range", data := .fields #[.int lo t, .int hi u, .int 1 v] }, toks := tk } := I.kept fun b o e => Heap.get?_push_of_some _ e
  refine ⟨(s.heap.push { cls := .type "range", data := .fields #[.int lo t, .int hi u, .int 1 v] }).objs.size, [(s.heap.push { cls := .type "range", data := .fields #[.int lo t, .int hi u, .int 1 v] }).objs.size], _, _, H, rfl,
    I1.kept (t' := tk) fun b o e => Heap.get?_push_of_some _ e, turn_range _ lo (hi - lo).toNat, ?_, fun b hb => ?_, q⟩
  · have e1 : lo + ((0 : Nat) : Int) * 1 = lo := by simp
    have e2 : (((hi - lo).toNat : Nat) : Int) - ((0 : Nat) : Int) = Builtin.Range.rangeSize lo hi 1 := by rw [rangeSize_one]; split <;> omega
    show IsRangeIter _ _ (lo + ((0 : Nat) : Int) * 1) ((((hi - lo).toNat : Nat) : Int) - ((0 : Nat) : Int)) 1
    rw [e1, e2]
    exact Heap.get?_push_size _ rfl
  · have e : b = (s.heap.push { cls := .type "range", data := .fields #[.int lo t, .int hi u, .int 1 v] }).objs.size := by simpa using hb
    subst e
    exact I1.fpOk (Nat.le_refl _) (I1.hok.fresh (Nat.le_refl _))
def iRng1 (ta : TA) : TI := fun σ H R => ta σ H fun vs H1 => ∃ j : Int, vs = [.int j] ∧ -(2 ^ 62) ≤ j ∧ j < 2 ^ 62 ∧ R (Itr 0 j.toNat) H1
theorem pi_range1 {a : Expr} {ta : TA} {p pos : Pos} (hg : Gl X "range") (hm : X.mg "range" = none) (ha : PA X [a] ta) (hs : starEach [a] X.env = [(false, eval a X.env)] := by rfl) : PI X tg (.Call (.Name "range" p) [a] [] pos) (iRng1 ta) := by
  intro pins s σ H R I h
  refine Call_ (ld_blt I hg hm boot_range (PyProof.Rows.callWith_type1 (thn (ha pos pins s σ H _ I h) fun us s1 ⟨vs, H1, I1, r1, q1⟩ => ?_) hs rfl))
  obtain ⟨j, e, q1, q2, q⟩ := q1
  subst e
  cases r1 with
  | cons r rr =>
    cases rr
    obtain ⟨t, rfl⟩ := r
    exact call_range_1 (range_it I1 (by omega) (by omega) q1 q2 (by simpa using q))
def tFor (wi : TI) (g : TG) (tb : TS) : TS := fun D σ H => wi σ H fun J H1 => ∃ W : Nat → Nat → St → Hp → Prop, (∃ m, W 0 m σ H1) ∧ ∀ i m σ H, W i m σ H →
  (J.stop i H ∧ D.nx σ H) ∨ (J.go i H ∧ ∃ N : St → Hp → Prop, (∀ σ' H', N σ' H' → ∃ m', m' < m ∧ W (i + 1) m' σ' H') ∧ ∀ x H', J.yld i H x H' → g x σ H' fun σ2 H2 => tb { D with nx := N, ct := N, bk := D.nx } σ2 H2)

def pinsAt (fp : List Addr) (h : Heap) : List (Addr × Obj) := fp.filterMap fun b => (h.get? b).map fun o => (b, o)
theorem mem_pinsAt {fp : List Addr} {h : Heap} {b : Addr} {o : Obj} (hb : b ∈ fp) (e : h.get? b = some o) : (b, o) ∈ pinsAt fp h := List.mem_filterMap.mpr ⟨b, hb, by rw [e]; rfl⟩
theorem of_pinsAt {fp : List Addr} {h : Heap} {p : Addr × Obj} (hp : p ∈ pinsAt fp h) : p.1 ∈ fp ∧ h.get? p.1 = some p.2 := by
  obtain ⟨b, hb, e⟩ := List.mem_filterMap.mp hp
  cases q : h.get? b with
  | none => rw [q] at e; cases e
  | some o =>
    rw [q] at e
    have e' : (b, o) = p := Option.some.inj e
    subst e'
    exact ⟨hb, q⟩
theorem Inv.pinned {pins : List (Addr × Obj)} {σ : St} {H : Hp} {s : Shared} {fp : List Addr} (I : Inv X pins σ H s) (hf : ∀ b ∈ fp, FpOk X pins H b) (ho : ∀ b ∈ fp, ∃ o, s.heap.get? b = some o ∧ ∀ v, o.data ≠ .cell v) : Inv X (pins ++ pinsAt fp s.heap) σ H s :=
  I.pins_of fun p hp => (List.mem_append.mp hp).elim (fun z => I.pin p (List.mem_append_right _ z)) fun z => by
    obtain ⟨hb, e⟩ := of_pinsAt z
    obtain ⟨f0, f1, f2, _⟩ := hf p.1 hb
    obtain ⟨o, e', d⟩ := ho p.1 hb
    rw [e] at e'; cases e'
    exact ⟨e, f0, f1, f2, d⟩
theorem Inv.unpinned {pins pl : List (Addr × Obj)} {σ : St} {H : Hp} {s : Shared} (I : Inv X (pins ++ pl) σ H s) : Inv X pins σ H s := I.pins_of fun p hp => I.pin p (List.mem_append_right _ (List.mem_append_left _ hp))
theorem ps_for {iter : Expr} {body : List Stmt} {wi : TI} {g : TG} {tb : TS} {pos : Pos} (hp : PassesOwn (model X.prog X.w) X.A X.env X.xe) (hc : X.calm = true) (hi : PI X tg iter wi) (hg : PG X tg g) (hb : PSs X body tb)
    (hs : ∀ x, foldedSetIterable iter X.env x = pure x := by intro _; rfl) : PS X (.For tg iter body [] pos) (tFor wi g tb) := by
  intro pins s σ H D I h
  refine wpAny_For (thn (hi pins s σ H _ I h) fun v s1 h1 => thn h1 fun itv s2 h2 => ?_) hs
  obtain ⟨it, fp, tn, J, H2, e, I2, T, st2, f2, W, ⟨m0, w0⟩, turn⟩ := h2
  subst e
  -- what stays true of the iterator's objects through the loop
  have stat : ∀ {H' : Hp}, (∀ b ∈ fp, H' b = none) → ∀ b ∈ fp, FpOk X pins H' b := fun hn b hb => ⟨hn b hb, (f2 b hb).2⟩
  refine codeAny_forLoop_any (fun n s' => ∃ i σ' H', Inv X pins σ' H' s' ∧ tn i s'.heap ∧ (∀ b ∈ fp, H' b = none) ∧ W i n σ' H') ?_ m0 ⟨0, σ, H2, I2, st2, fun b hb => (f2 b hb).1, w0⟩
  rintro n s3 ⟨i, σ3, H3, I3, st3, fr3, w3⟩
  rcases turn i n σ3 H3 w3 with ⟨stop, qn⟩ | ⟨go, N, hN, step⟩
  · refine wpAny_passesOwn hp (thn (T.done X rfl rfl rfl hc i pins s3 σ3 H3 X.xe I3 (stat fr3) st3 stop) fun r s4 ⟨hr, I4⟩ => ?_)
    subst hr
    exact wpAny_execs_nil ⟨σ3, H3, I4, qn⟩
  · refine wpAny_passesOwn hp (thn (T.item X rfl rfl rfl hc i pins s3 σ3 H3 X.xe I3 (stat fr3) st3 go) fun r s4 ⟨u, hr, h4⟩ => ?_)
    subst hr
    refine wpAny_passesOwn hp (thn h4 fun _ s5 ⟨x, H5, I5, r5, y5, st5, fr5⟩ => ?_)
    have I5' := I5.pinned (stat fr5) (T.obj _ _ st5)
    refine wpAny_passesOwn hp (thn (hg _ s5 σ3 H5 x u _ I5' r5 (step x H5 y5)) fun _ s6 ⟨σ6, H6, I6, q6⟩ => ?_)
    refine wpAny_passesOwn hp (thn (hb _ s6 σ6 H6 _ I6 q6) fun f s7 q7 => ?_)
    have again : ∀ {σ7 : St} {H7 : Hp}, Inv X (pins ++ pinsAt fp s5.heap) σ7 H7 s7 → N σ7 H7 → ∃ m, m < n ∧ ∃ i σ' H', Inv X pins σ' H' s7 ∧ tn i s7.heap ∧ (∀ b ∈ fp, H' b = none) ∧ W i m σ' H' := fun {σ7 H7} I7 n7 => by
      obtain ⟨m', hm, w7⟩ := hN σ7 H7 n7
      refine ⟨m', hm, i + 1, σ7, H7, I7.unpinned, T.keep _ _ _ st5 fun b hb o e => (I7.pin (b, o) (List.mem_append_right _ (List.mem_append_right _ (mem_pinsAt hb e)))).1, fun b hb => ?_, w7⟩
      obtain ⟨o, e, d⟩ := T.obj _ _ st5 b hb
      exact (I7.pin (b, o) (List.mem_append_right _ (List.mem_append_right _ (mem_pinsAt hb e)))).2.1
    cases f with
    | next => obtain ⟨σ7, H7, I7, n7⟩ := q7; exact again I7 n7
    | cont => obtain ⟨σ7, H7, I7, n7⟩ := q7; exact again I7 n7
    | brk => obtain ⟨σ7, H7, I7, q7⟩ := q7; exact ⟨σ7, H7, I7.unpinned, q7⟩
    | ret v => obtain ⟨x7, σ7, H7, I7, r7, q7⟩ := q7; exact ⟨x7, σ7, H7, I7.unpinned, r7, q7⟩
end



theorem for_list {K : PySem.W.Frag} {a : Addr} {xs : List V} {g : TG} {tb : TS} {D : Ends} {σ : St} {H : Hp} (Pv : Nat → St → Hp → Prop) (h0 : Pv 0 σ H) (hl : ∀ i σ H, i ≤ xs.length → Pv i σ H → SqL K H a xs)
    (hs : ∀ i x σ H, xs[i]? = some x → Pv i σ H → g x σ H fun σ2 H2 => tb { D with nx := Pv (i + 1), ct := Pv (i + 1), bk := D.nx } σ2 H2) (hd : ∀ σ H, Pv xs.length σ H → D.nx σ H) :
    ∃ W : Nat → Nat → St → Hp → Prop, (∃ m, W 0 m σ H) ∧ ∀ i m σ H, W i m σ H →
      ((Itl K a).stop i H ∧ D.nx σ H) ∨ ((Itl K a).go i H ∧ ∃ N : St → Hp → Prop, (∀ σ' H', N σ' H' → ∃ m', m' < m ∧ W (i + 1) m' σ' H') ∧ ∀ x H', (Itl K a).yld i H x H' → g x σ H' fun σ2 H2 => tb { D with nx := N, ct := N, bk := D.nx } σ2 H2) := by
  refine ⟨fun i m σ H => m = xs.length - i ∧ i ≤ xs.length ∧ Pv i σ H, ⟨xs.length, by simp, Nat.zero_le _, h0⟩, ?_⟩
  rintro i m σ H ⟨rfl, hi, p⟩
  have q := hl i σ H hi p
  by_cases hlt : i < xs.length
  · refine .inr ⟨⟨xs, xs[i], q, by simp [hlt]⟩, Pv (i + 1), fun σ' H' p' => ⟨xs.length - (i + 1), by omega, rfl, hlt, p'⟩, fun x H' y => ?_⟩
    obtain ⟨e, y⟩ := y
    subst e
    exact hs i x σ _ (y xs q) p
  · have e : i = xs.length := by omega
    subst e
    exact .inl ⟨⟨xs, q, Nat.le_refl _⟩, hd σ H p⟩
theorem for_range {lo : Int} {n : Nat} {g : TG} {tb : TS} {D : Ends} {σ : St} {H : Hp} (Pv : Nat → St → Hp → Prop) (h0 : Pv 0 σ H)
    (hs : ∀ i σ H, i < n → Pv i σ H → g (.int (lo + i)) σ H fun σ2 H2 => tb { D with nx := Pv (i + 1), ct := Pv (i + 1), bk := D.nx } σ2 H2) (hd : ∀ σ H, Pv n σ H → D.nx σ H) :
    ∃ W : Nat → Nat → St → Hp → Prop, (∃ m, W 0 m σ H) ∧ ∀ i m σ H, W i m σ H →
      ((Itr lo n).stop i H ∧ D.nx σ H) ∨ ((Itr lo n).go i H ∧ ∃ N : St → Hp → Prop, (∀ σ' H', N σ' H' → ∃ m', m' < m ∧ W (i + 1) m' σ' H') ∧ ∀ x H', (Itr lo n).yld i H x H' → g x σ H' fun σ2 H2 => tb { D with nx := N, ct := N, bk := D.nx } σ2 H2) := by
  refine ⟨fun i m σ H => m = n - i ∧ i ≤ n ∧ Pv i σ H, ⟨n, by simp, Nat.zero_le _, h0⟩, ?_⟩
  rintro i m σ H ⟨rfl, hi, p⟩
  by_cases hlt : i < n
  · refine .inr ⟨hlt, Pv (i + 1), fun σ' H' p' => ⟨n - (i + 1), by omega, rfl, hlt, p'⟩, fun x H' y => ?_⟩
    obtain ⟨e, y⟩ := y
    subst e y
    exact hs i σ _ hlt p
  · have e : i = n := by omega
    subst e
    exact .inl ⟨Nat.le_refl _, hd σ H p⟩

end L2

namespace L2
open PySem PySem.Spec PyProof.Rows

abbrev R2 := V → V → Hp → VK → Prop

def OpR (X : Cx) (f : Value → Value → Sem Value) (r : R2) : Prop :=
  ∀ (pins : List (Addr × Obj)) (s : Shared) (σ : St) (H : Hp) (x y : V) (v u : Value) (Q : VK), Inv X pins σ H s → RelV x v → RelV y u → r x y H Q →
    wpAny (model X.prog X.w) X.A (f v u) (EP X pins σ Q) X.xe s

def UnR (X : Cx) (f : Value → Sem Value) (r : V → Hp → VK → Prop) : Prop :=
  ∀ (pins : List (Addr × Obj)) (s : Shared) (σ : St) (H : Hp) (x : V) (v : Value) (Q : VK), Inv X pins σ H s → RelV x v → r x H Q →
    wpAny (model X.prog X.w) X.A (f v) (EP X pins σ Q) X.xe s

def CallR (X : Cx) (f : Value) (r : List V → Hp → VK → Prop) : Prop :=
  ∀ (pins : List (Addr × Obj)) (s : Shared) (σ : St) (H : Hp) (xs : List V) (us : List Value) (Q : VK), Inv X pins σ H s → Vals xs us → r xs H Q →
    wpAny (model X.prog X.w) X.A (call f us) (EP X pins σ Q) X.xe s

def tOp (r : R2) (ta tb : TE) : TE := fun σ H Q => ta σ H fun x H1 => tb σ H1 fun y H2 => r x y H2 Q
def tUn (r : V → Hp → VK → Prop) (ta : TE) : TE := fun σ H Q => ta σ H fun x H1 => r x H1 Q

def rI (C : Int → Int → Prop) (g : Int → Int → V) : R2 := fun x y H Q => ∃ i j, x = .int i ∧ y = .int j ∧ C i j ∧ Q (g i j) H
def rI0 (g : Int → Int → V) : R2 := fun x y H Q => ∃ i j, x = .int i ∧ y = .int j ∧ Q (g i j) H
def rU (g : Int → V) : V → Hp → VK → Prop := fun x H Q => ∃ i, x = .int i ∧ Q (g i) H

section
variable {X : Cx} {a b c : Expr} {ta tb tc : TE} {pos : Pos}

theorem binT (ha : PE X a ta) (hb : PE X b tb) {pins : List (Addr × Obj)} {s : Shared} {σ : St} {H : Hp} {R : V → V → Hp → Prop} (I : Inv X pins σ H s)
    (h : ta σ H fun x H1 => tb σ H1 fun y H2 => R x y H2) {Q : Value → Shared → Prop} {f : Value → Value → Sem Value}
    (hf : ∀ v u s2 x y H2, Inv X pins σ H2 s2 → RelV x v → RelV y u → R x y H2 → wpAny (model X.prog X.w) X.A (f v u) Q X.xe s2) :
    wpAny (model X.prog X.w) X.A (eval a X.env) (fun v s₁ => wpAny (model X.prog X.w) X.A (eval b X.env) (fun u s₂ => wpAny (model X.prog X.w) X.A (f v u) Q X.xe s₂) X.xe s₁) X.xe s := by
  refine thn (ha pins s σ H _ I h) fun v s1 ⟨x, H1, I1, r1, q1⟩ => ?_
  refine thn (hb pins s1 σ H1 _ I1 q1) fun u s2 ⟨y, H2, I2, r2, q2⟩ => ?_
  exact hf v u s2 x y H2 I2 r1 r2 q2

theorem pe_op {op : Operator} {r : R2} (ho : OpR X (binaryOp op) r) (ha : PE X a ta) (hb : PE X b tb) : PE X (.BinOp a op b pos) (tOp r ta tb) := by
  intro pins s σ H Q I h
  exact wpAny_BinOp (binT ha hb I h fun v u s2 x y H2 I2 rx ry q => ho pins s2 σ H2 x y v u Q I2 rx ry q)
theorem pe_un {op : UnaryOp} {r : V → Hp → VK → Prop} (ho : UnR X (unaryOp op) r) (ha : PE X a ta) : PE X (.UnaryOp op a pos) (tUn r ta) := by
  intro pins s σ H Q I h
  exact UnaryOp_ (thn (ha pins s σ H _ I h) fun v s1 ⟨x, H1, I1, r1, q1⟩ => ho pins s1 σ H1 x v Q I1 r1 q1)

theorem opI {f : Value → Value → Sem Value} {C : Int → Int → Prop} {g : Int → Int → Int}
    (rule : ∀ (i j : Int) (t u : Tok) (s : Shared) (Q : Value → Shared → Prop) (E : Value → Shared → Prop), C i j → Q (.int (g i j) s.toks) { s with toks := s.toks + 1 } → wpAny (model X.prog X.w) X.A (f (.int i t) (.int j u)) Q E s) :
    OpR X f (rI C fun i j => .int (g i j)) := by
  intro pins s σ H x y v u Q I rx ry h
  obtain ⟨i, j, rfl, rfl, hc, q⟩ := h
  obtain ⟨t, rfl⟩ := rx
  obtain ⟨t', rfl⟩ := ry
  exact rule i j t t' s _ _ hc ⟨.int (g i j), H, I.tok _, ⟨_, rfl⟩, q⟩
theorem opI0 {f : Value → Value → Sem Value} {g : Int → Int → Int}
    (rule : ∀ (i j : Int) (t u : Tok) (s : Shared) (Q : Value → Shared → Prop) (E : Value → Shared → Prop), Q (.int (g i j) s.toks) { s with toks := s.toks + 1 } → wpAny (model X.prog X.w) X.A (f (.int i t) (.int j u)) Q E s) :
    OpR X f (rI0 fun i j => .int (g i j)) := by
  intro pins s σ H x y v u Q I rx ry h
  obtain ⟨i, j, rfl, rfl, q⟩ := h
  obtain ⟨t, rfl⟩ := rx
  obtain ⟨t', rfl⟩ := ry
  exact rule i j t t' s _ _ ⟨.int (g i j), H, I.tok _, ⟨_, rfl⟩, q⟩
theorem opB0 {f : Value → Value → Sem Value} {g : Int → Int → Bool}
    (rule : ∀ (i j : Int) (t u : Tok) (s : Shared) (Q : Value → Shared → Prop) (E : Value → Shared → Prop), Q (.bool (g i j)) s → wpAny (model X.prog X.w) X.A (f (.int i t) (.int j u)) Q E s) :
    OpR X f (rI0 fun i j => .bl (g i j)) := by
  intro pins s σ H x y v u Q I rx ry h
  obtain ⟨i, j, rfl, rfl, q⟩ := h
  obtain ⟨t, rfl⟩ := rx
  obtain ⟨t', rfl⟩ := ry
  exact rule i j t t' s _ _ ⟨.bl (g i j), H, I, rfl, q⟩

def CDiv (i j : Int) : Prop := 0 < j ∧ j < 1073741824
def CPow (i j : Int) : Prop := 0 ≤ j ∧ j ≤ 1000000 ∧ i.natAbs < 2 ^ 64
def CMul (i j : Int) : Prop := (-(2 ^ 64) < i ∧ i < 2 ^ 64) ∨ (-(2 ^ 64) < j ∧ j < 2 ^ 64)
theorem CMul.ok {i j : Int} (h : CMul i j) : IntMulOk i j := by
  rcases h with ⟨h1, h2⟩ | ⟨h1, h2⟩
  · exact .of_left (intBits_le_64 h1 h2)
  · exact .of_right (intBits_le_64 h1 h2)
theorem op_add : OpR X (binaryOp .Add) (rI0 fun i j => .int (i + j)) := opI0 fun _ _ _ _ _ _ _ q => add_int q
theorem op_sub : OpR X (binaryOp .Sub) (rI0 fun i j => .int (i - j)) := opI0 fun _ _ _ _ _ _ _ q => sub_int q
theorem op_mul : OpR X (binaryOp .Mult) (rI CMul fun i j => .int (i * j)) := opI fun _ _ _ _ _ _ _ hc q => mul_int q hc.ok

theorem op_fdiv : OpR X (binaryOp .FloorDiv) (rI CDiv fun i j => .int (i / j)) := opI fun i j _ _ _ _ _ hc q => by
  have h1 : (0 : Int) < j := hc.1
  have h2 : j < 1073741824 := hc.2
  exact floordiv_int (by omega) (by rw [Int.fdiv_eq_ediv_of_nonneg i (by omega)]; exact q) (.inl (PyProof.noPylong_small (by omega)))
theorem op_mod : OpR X (binaryOp .Mod) (rI (fun _ j => 0 < j) fun i j => .int (i % j)) := opI fun i j _ _ _ _ _ hc q => by
  have h1 : (0 : Int) < j := hc
  exact mod_int' (by omega) (by rw [Int.fmod_eq_emod_of_nonneg i (by omega)]; exact q)
theorem op_pow : OpR X (binaryOp .Pow) (rI CPow fun i j => .int (i ^ j.toNat)) := opI fun _ _ _ _ _ _ _ hc q => pow_int_small hc.1 hc.2.1 hc.2.2 q
theorem unI {f : Value → Sem Value} {g : Int → Int}
    (rule : ∀ (i : Int) (t : Tok) (s : Shared) (Q : Value → Shared → Prop) (E : Value → Shared → Prop), Q (.int (g i) s.toks) { s with toks := s.toks + 1 } → wpAny (model X.prog X.w) X.A (f (.int i t)) Q E s) :
    UnR X f (rU fun i => .int (g i)) := by
  intro pins s σ H x v Q I rx h
  obtain ⟨i, rfl, q⟩ := h
  obtain ⟨t, rfl⟩ := rx
  exact rule i t s _ _ ⟨.int (g i), H, I.tok _, ⟨_, rfl⟩, q⟩
theorem un_neg : UnR X (unaryOp .USub) (rU fun i => .int (-i)) := unI fun _ _ _ _ _ q => neg_int q
end



def scal : V → V → Bool
  | .non, .non => true | .non, .int _ => true | .int _, .non => true | .non, .bl _ => true | .bl _, .non => true | .non, .str _ => true | .str _, .non => true
  | .int _, .int _ => true | .bl _, .bl _ => true | .str _, .str _ => true | .byt _, .byt _ => true
  | .int _, .str _ => true | .str _, .int _ => true | .bl _, .str _ => true | .str _, .bl _ => true
  | _, _ => false
def rEq : R2 := fun x y H Q => scal x y = true ∧ Q (.bl (decide (x = y))) H
def rNe : R2 := fun x y H Q => scal x y = true ∧ Q (.bl (!decide (x = y))) H

theorem dec_int {i j : Int} : decide (V.int i = V.int j) = (i == j) := by
  rw [Bool.eq_iff_iff]
  simp
theorem dec_bl {i j : Bool} : decide (V.bl i = V.bl j) = (i == j) := by
  rw [Bool.eq_iff_iff]
  simp
theorem dec_str {i j : Str} : decide (V.str i = V.str j) = (i == j) := by
  rw [Bool.eq_iff_iff]
  simp
theorem dec_byt {i j : Array UInt8} : decide (V.byt i = V.byt j) = (i.toList == j.toList) := by
  rw [Bool.eq_iff_iff]
  cases i
  cases j
  simp

section
variable {X : Cx} {a b c : Expr} {ta tb tc : TE} {pos : Pos}
theorem fin_bl {pins : List (Addr × Obj)} {σ : St} {H : Hp} {s : Shared} {Q : VK} {k k' : Bool} (I : Inv X pins σ H s) (q : Q (.bl k) H) (e : k = k') : EP X pins σ Q (.bool k') s := by
  subst e
  exact ⟨.bl k, H, I, rfl, q⟩
theorem op_eq : OpR X (compareOp .Eq) rEq := by
  intro pins s σ H x y v u Q I rx ry h
  obtain ⟨hs, q⟩ := h
  cases x with
  | non =>
    cases rx
    cases y with
    | non => cases ry; exact PySem.EqNone.eq_none_none (fin_bl I q (by simp))
    | bl j => cases ry; exact PySem.EqNone.eq_none_bool (fin_bl I q (by simp))
    | int j => obtain ⟨t', rfl⟩ := ry; exact PySem.EqNone.eq_none_int (fin_bl I q (by simp))
    | str j => obtain ⟨t', rfl⟩ := ry; exact PySem.EqNone.eq_none_str (fin_bl I q (by simp))
    | _ => exact absurd (show false = true from hs) Bool.false_ne_true
  | bl i =>
    cases rx
    cases y with
    | non => cases ry; exact PySem.EqNone.eq_bool_none (fin_bl I q (by simp))
    | bl j => cases ry; exact eq_bool (fin_bl I q dec_bl)
    | str j => obtain ⟨t', rfl⟩ := ry; exact PySem.EqMixed.eq_bool_str (fin_bl I q (by simp))
    | _ => exact absurd (show false = true from hs) Bool.false_ne_true
  | int i =>
    obtain ⟨t, rfl⟩ := rx
    cases y with
    | non => cases ry; exact PySem.EqNone.eq_int_none (fin_bl I q (by simp))
    | int j => obtain ⟨t', rfl⟩ := ry; exact eq_int (fin_bl I q dec_int)
    | str j => obtain ⟨t', rfl⟩ := ry; exact PySem.EqMixed.eq_int_str (fin_bl I q (by simp))
    | _ => exact absurd (show false = true from hs) Bool.false_ne_true
  | str i =>
    obtain ⟨t, rfl⟩ := rx
    cases y with
    | non => cases ry; exact PySem.EqNone.eq_str_none (fin_bl I q (by simp))
    | bl j => cases ry; exact PySem.EqMixed.eq_str_bool (fin_bl I q (by simp))
    | int j => obtain ⟨t', rfl⟩ := ry; exact PySem.EqMixed.eq_str_int (fin_bl I q (by simp))
    | str j => obtain ⟨t', rfl⟩ := ry; exact eq_str (fin_bl I q dec_str)
    | _ => exact absurd (show false = true from hs) Bool.false_ne_true
  | byt i =>
    obtain ⟨t, rfl⟩ := rx
    cases y with
    | byt j => obtain ⟨t', rfl⟩ := ry; exact PySem.W.eq_bytes (fin_bl I q dec_byt)
    | _ => exact absurd (show false = true from hs) Bool.false_ne_true
  | _ => cases y <;> exact absurd (show false = true from hs) Bool.false_ne_true
theorem op_ne : OpR X (compareOp .NotEq) rNe := by
  intro pins s σ H x y v u Q I rx ry h
  obtain ⟨hs, q⟩ := h
  cases x with
  | non =>
    cases rx
    cases y with
    | non => cases ry; exact PySem.EqNone.ne_none_none (fin_bl I q (by simp))
    | bl j => cases ry; exact PySem.EqNone.ne_none_bool (fin_bl I q (by simp))
    | int j => obtain ⟨t', rfl⟩ := ry; exact PySem.EqNone.ne_none_int (fin_bl I q (by simp))
    | str j => obtain ⟨t', rfl⟩ := ry; exact PySem.EqNone.ne_none_str (fin_bl I q (by simp))
    | _ => exact absurd (show false = true from hs) Bool.false_ne_true
  | bl i =>
    cases rx
    cases y with
    | non => cases ry; exact PySem.EqNone.ne_bool_none (fin_bl I q (by simp))
    | bl j => cases ry; exact ne_bool (fin_bl I q (congrArg not dec_bl))
    | str j => obtain ⟨t', rfl⟩ := ry; exact PySem.EqMixed.ne_bool_str (fin_bl I q (by simp))
    | _ => exact absurd (show false = true from hs) Bool.false_ne_true
  | int i =>
    obtain ⟨t, rfl⟩ := rx
    cases y with
    | non => cases ry; exact PySem.EqNone.ne_int_none (fin_bl I q (by simp))
    | int j => obtain ⟨t', rfl⟩ := ry; exact ne_int (fin_bl I q (congrArg not dec_int))
    | str j => obtain ⟨t', rfl⟩ := ry; exact PySem.EqMixed.ne_int_str (fin_bl I q (by simp))
    | _ => exact absurd (show false = true from hs) Bool.false_ne_true
  | str i =>
    obtain ⟨t, rfl⟩ := rx
    cases y with
    | non => cases ry; exact PySem.EqNone.ne_str_none (fin_bl I q (by simp))
    | bl j => cases ry; exact PySem.EqMixed.ne_str_bool (fin_bl I q (by simp))
    | int j => obtain ⟨t', rfl⟩ := ry; exact PySem.EqMixed.ne_str_int (fin_bl I q (by simp))
    | str j => obtain ⟨t', rfl⟩ := ry; exact ne_str (fin_bl I q (congrArg not dec_str))
    | _ => exact absurd (show false = true from hs) Bool.false_ne_true
  | byt i =>
    obtain ⟨t, rfl⟩ := rx
    cases y with
    | byt j => obtain ⟨t', rfl⟩ := ry; exact PySem.W.ne_bytes (fin_bl I q (congrArg not dec_byt))
    | _ => exact absurd (show false = true from hs) Bool.false_ne_true
  | _ => cases y <;> exact absurd (show false = true from hs) Bool.false_ne_true

theorem op_lt : OpR X (compareOp .Lt) (rI0 fun i j => .bl (decide (i < j))) := opB0 fun _ _ _ _ _ _ _ q => lt_int q
theorem op_le : OpR X (compareOp .LtE) (rI0 fun i j => .bl (decide (i ≤ j))) := opB0 fun _ _ _ _ _ _ _ q => le_int q
theorem op_gt : OpR X (compareOp .Gt) (rI0 fun i j => .bl (decide (j < i))) := opB0 fun _ _ _ _ _ _ _ q => gt_int q
theorem op_lt_str : OpR X (compareOp .Lt) (fun x y H Q => ∃ i j, x = .str i ∧ y = .str j ∧ Q (.bl (decide (i.cps.toList < j.cps.toList))) H) := by
  intro pins s σ H x y v u Q I rx ry h
  obtain ⟨i, j, rfl, rfl, q⟩ := h
  obtain ⟨t, rfl⟩ := rx
  obtain ⟨t', rfl⟩ := ry
  exact lt_str (fin_bl I q rfl)

theorem nomark (b : Expr) {op : CmpOp} (h : op ≠ .In := by decide) (h2 : op ≠ .NotIn := by decide) : behindInMarks op b = false := by
  have e1 : (op == CmpOp.In) = false := by cases op <;> first | rfl | exact absurd rfl h
  have e2 : (op == CmpOp.NotIn) = false := by cases op <;> first | rfl | exact absurd rfl h2
  cases b <;> simp [behindInMarks, e1, e2]

theorem pe_cmpR {op : CmpOp} {r : R2} (ho : OpR X (compareOp op) r) (ha : PE X a ta) (hb : PE X b tb) (hm : behindInMarks op b = false) : PE X (.Compare a [op] [b] pos) (tOp r ta tb) := by
  intro pins s σ H Q I h
  exact wpAny_Compare1 (binT ha hb I h fun v u s2 x y H2 I2 rx ry q => ho pins s2 σ H2 x y v u Q I2 rx ry q) hm

def tTest (t : TE) : TT := fun σ H Q => t σ H fun x H' => ∃ k, x = .bl k ∧ Q k H'
theorem pt_cmpR {op : CmpOp} {r : R2} (ho : OpR X (compareOp op) r) (ha : PE X a ta) (hb : PE X b tb) (hm : behindInMarks op b = false) : PT X (.Compare a [op] [b] pos) (tTest (tOp r ta tb)) := by
  intro pins s σ H Q I h
  refine wpAny_isTrue_Compare1 (thn (ha pins s σ H _ I h) fun v s1 ⟨x, H1, I1, r1, q1⟩ => thn (hb pins s1 σ H1 _ I1 q1) fun u s2 ⟨y, H2, I2, r2, q2⟩ =>
    thn (ho pins s2 σ H2 x y v u _ I2 r1 r2 q2) fun c s3 ⟨z, H3, I3, r3, k, e, q3⟩ => ?_) hm
  subst e
  cases r3
  exact wpAny_truthy_bool ⟨H3, I3, q3⟩

def tChain (r r' : R2) (ta tb tc : TE) : TE := fun σ H Q => ta σ H fun x H1 => tb σ H1 fun y H2 => r x y H2 fun z H3 => ∃ k, z = .bl k ∧
  (if k = true then tc σ H3 fun w' H4 => r' y w' H4 Q else Q (.bl false) H3)
theorem pe_chain {op op' : CmpOp} {r r' : R2} (ho : OpR X (compareOp op) r) (ho' : OpR X (compareOp op') r') (ha : PE X a ta) (hb : PE X b tb) (hc : PE X c tc)
    (hm : lastMarks [op, op'] [b, c] = false := by with_unfolding_all rfl) : PE X (.Compare a [op, op'] [b, c] pos) (tChain r r' ta tb tc) := by
  intro pins s σ H Q I h
  refine Compare_chain (thn (ha pins s σ H _ I h) fun v s1 ⟨x, H1, I1, r1, q1⟩ => chain_link (thn (hb pins s1 σ H1 _ I1 q1) fun u s2 ⟨y, H2, I2, r2, q2⟩ =>
    thn (ho pins s2 σ H2 x y v u _ I2 r1 r2 q2) fun d s3 ⟨z, H3, I3, r3, k, e, q3⟩ => ?_)) hm
  subst e
  cases r3
  refine wpAny_truthy_bool ?_
  cases k with
  | false => exact ite_ff ⟨.bl false, H3, I3, rfl, q3⟩
  | true => exact ite_tt (chain_last (thn (hc pins s3 σ H3 _ I3 q3) fun w' s4 ⟨z', H4, I4, r4, q4⟩ => ho' pins s4 σ H4 y z' u w' Q I4 r2 r4 q4))
theorem pt_chain {op op' : CmpOp} {r r' : R2} (ho : OpR X (compareOp op) r) (ho' : OpR X (compareOp op') r') (ha : PE X a ta) (hb : PE X b tb) (hc : PE X c tc)
    (hm : lastMarks [op, op'] [b, c] = false := by with_unfolding_all rfl) : PT X (.Compare a [op, op'] [b, c] pos) (tTest (tChain r r' ta tb tc)) := by
  intro pins s σ H Q I h
  refine isTrue_chain (thn (ha pins s σ H _ I h) fun v s1 ⟨x, H1, I1, r1, q1⟩ => test_link (thn (hb pins s1 σ H1 _ I1 q1) fun u s2 ⟨y, H2, I2, r2, q2⟩ =>
    thn (ho pins s2 σ H2 x y v u _ I2 r1 r2 q2) fun d s3 ⟨z, H3, I3, r3, k, e, q3⟩ => ?_)) hm
  subst e
  cases r3
  refine wpAny_truthy_bool ?_
  cases k with
  | false =>
    obtain ⟨k', e', q'⟩ := q3
    cases e'
    exact ite_ff ⟨H3, I3, q'⟩
  | true =>
    refine ite_tt (test_last (thn (hc pins s3 σ H3 _ I3 q3) fun w' s4 ⟨z', H4, I4, r4, q4⟩ => thn (ho' pins s4 σ H4 y z' u w' _ I4 r2 r4 q4) fun d' s5 ⟨z2, H5, I5, r5, k2, e2, q5⟩ => ?_))
    subst e2
    cases r5
    exact wpAny_truthy_bool ⟨H5, I5, q5⟩



theorem line63 : (sizeLine : Nat) < 2 ^ 63 := by rw [sizeLine_eq]; decide
theorem vals1 {x : V} {us : List Value} (r : Vals [x] us) : ∃ u, us = [u] ∧ RelV x u := by
  cases r with
  | cons r1 r2 => cases r2; exact ⟨_, rfl, r1⟩
theorem vals2 {x y : V} {us : List Value} (r : Vals [x, y] us) : ∃ u w', us = [u, w'] ∧ RelV x u ∧ RelV y w' := by
  cases r with
  | cons r1 r2 =>
    cases r2 with
    | cons r3 r4 => cases r4; exact ⟨_, _, rfl, r1, r3⟩
end
end L2

namespace L2
open PySem PySem.Spec PyProof.Rows


structure ObjM (h : Heap) (x dx C : Addr) (mA : Str → Option Value) : Prop where
  obj : h.get? x = some (PySem.W.instObj C dx)
  ns : h.Ns1 dx mA
  ne : dx ≠ x

theorem lookIn_ns {h : Heap} {dx : Addr} {mA : Str → Option Value} (n : h.Ns1 dx mA) : ∃ od, h.get? dx = some od ∧ ∀ name, PySem.W.lookIn name od = some (mA name) := by
  obtain ⟨o, es, ep, ho, hd, hk, _, hm⟩ := n
  refine ⟨o, ho, fun name => ?_⟩
  have e := hm name
  unfold nsFind findBy at e
  rw [← Array.find?_toList] at e
  unfold PySem.W.lookIn
  rw [hd]
  dsimp only
  split
  · rename_i y q
    rw [q] at e
    exact congrArg some e
  · rename_i q
    rw [q] at e
    have a : es.toList.any (·.refKey) = false := by
      rw [List.any_eq_false]
      intro y hy
      obtain ⟨z, t, hkey⟩ := hk y (Array.mem_toList_iff.mp hy)
      simp [DictEntry.refKey, hkey]
    have a' : ¬ es.toList.any (·.refKey) = true := by rw [a]; exact Bool.false_ne_true
    rw [if_neg a']
    exact congrArg some e

theorem ObjM.look {h : Heap} {x dx C : Addr} {mA : Str → Option Value} (I : ObjM h x dx C mA) : ∃ od, PySem.W.InstAt h x (PySem.W.instObj C dx) C (some od) ∧ ∀ name, PySem.W.lookIn name od = some (mA name) :=
  let ⟨od, ho, hl⟩ := lookIn_ns I.ns
  ⟨od, ⟨I.obj, rfl, rfl, ho⟩, hl⟩

section
variable {prog : Program} {w : World} {A : Around} {E : Value → Shared → Prop} {s : Shared} {K : PySem.W.Frag} {x dx C f : Addr} {mA : Str → Option Value} {name : Str} {v : Value}

theorem get_map {expr : Bool} {Q : Value → Shared → Prop} (X : K.In s.heap) (I : ObjM s.heap x dx C mA) (hg : PySem.W.plainGet K C name = true) (hh : PySem.W.hasDictIn K C = true)
    (ha : PySem.W.findIn K (.ref C) name = some none) (hv : mA name = some v) (hv' : PySem.W.handedIn v = true) (h : Q v { s with toks := s.toks + 1 }) :
    wpAny (model prog w) A (getAttr (.ref x) name expr) Q E s := by
  obtain ⟨od, J, hl⟩ := I.look
  exact PySem.W.get_value X J (PySem.W.plainGet_of hg).1 (PySem.W.findObj_own hh ha rfl (by rw [hl, hv])) hv' h

theorem get_meth {pl : Sem Bool} {Q : Value × List Value → Shared → Prop} (X : K.In s.heap) (I : ObjM s.heap x dx C mA) (hg : PySem.W.plainGet K C name = true)
    (hf : PySem.W.findIn K (.ref C) name = some (some (.ref f))) (ht : PySem.W.isFn K (.ref f) = true) (hv : mA name = none) (h : Q (.ref f, [.ref x]) s) :
    wpAny (model prog w) A (getMethod (.ref x) name pl) Q E s := by
  obtain ⟨od, J, hl⟩ := I.look
  exact PySem.W.method_fn X J (PySem.W.plainGet_of hg).1 (PySem.W.plainGet_of hg).2 hf (beq_iff_eq.mp ht) (by show (PySem.W.lookIn name od).map (·.isSome) = some false; rw [hl, hv]; rfl) h

theorem set_map {ns : List Str} {Q : Unit → Shared → Prop} (X : K.In s.heap) (I : ObjM s.heap x dx C mA)
    (hs : PySem.W.findIn K (.ref C) "__setattr__" = some (some (.builtin "object.__setattr__"))) (hp : PySem.W.plainOver K C = true) (ht : PySem.W.takerIn K C name = some none) (hh : PySem.W.hasDictIn K C = true)
    (hw : PySem.Within mA ns) (hsz : ns.length ≤ sizeLine)
    (h : ∀ h', ObjM h' x dx C (fun y => if y = name then some v else mA y) → Heap.SameBut dx s.heap h' → Q () { s with heap := h', toks := s.toks + 2 }) :
    wpAny (model prog w) A (setAttr (.ref x) name v) Q E s := by
  obtain ⟨od, J, hl⟩ := I.look
  refine PySem.W.set_plain X J hs (PySem.W.osa_open (s := { s with toks := s.toks + 1 }) (r := none) X J hp ht fun b => ?_)
  obtain ⟨cd, hc, hd'⟩ := PySem.W.any_some hh
  have hx : s.heap.get? x = some ⟨.ref C, some dx, .plain, #[]⟩ := I.obj
  refine wpAny_bind (wpAny_pure (wpAny_bind (wpAny_bind (wpAny_loadPart hx (wpAny_bind (PySem.W.Looks.here (s := { s with toks := s.toks + 1 }) (PySem.W.looks_clsIn X hc) ?_))))))
  rw [hd']
  refine wpAny_pure (a := some dx) (wpAny_bind (wpAny_pure (wpAny_bind ?_)))
  refine wpAny_nsSet1 (s := { s with toks := s.toks + 1 }) I.ns fun h' hn2 hs2 => ?_
  obtain ⟨oD, esD, epD, hoD, hdD, hcD⟩ := hn2.count (PySem.Within.cons name v hw)
  refine wpAny_bind (wpAny_lookBehind hoD (by rw [hdD]; exact pastItsLine_dict (Nat.le_trans hcD (by rw [List.length_cons]; omega))) ?_)
  exact wpAny_pure (h _ ⟨(hs2.2 _ (Ne.symm I.ne)).trans I.obj, hn2, I.ne⟩ hs2)


theorem make_map {R : Result → Shared → Prop} {vs : List Value} {kw : List (Str × Value)} (X : K.In s.heap) (hm : PySem.W.makesIn K C = true)
    (hi : PySem.W.findIn K (.ref C) "__init__" = some (some (.ref f))) (hf : PySem.W.typeIn K (.ref f) = some (.type "function"))
    (h : codeAny (model prog w) (A.under (.builtin "type.__call__" ⟨.ref C :: vs, kw⟩)) (.call (.ref f) ⟨.ref (s.heap.objs.size + 1) :: vs, kw⟩) (PySem.W.InitBack (s.heap.objs.size + 1) R)
      { s with heap := (s.heap.push PySem.W.emptyDict).push (PySem.W.instObj C s.heap.objs.size) }) :
    codeAny (model prog w) A (.call (.ref C) ⟨vs, kw⟩) R s := by
  obtain ⟨hh, g, d, t, os⟩ := s
  exact PySem.W.make_core (PySem.W.makes_of X hm) (PySem.W.looks_findIn X hi) (fun self => PySem.W.bind_fn X self hf) (.inl rfl) h

end


def putF (f : Str) (v : V) : List (Str × V) → List (Str × V)
  | [] => [(f, v)]
  | (g, x) :: r => if g = f then (g, v) :: r else (g, x) :: putF f v r
theorem lookup_putF (f g : Str) (v : V) : ∀ fs : List (Str × V), (putF f v fs).lookup g = if g = f then some v else fs.lookup g
  | [] => by
    show List.lookup g [(f, v)] = _
    by_cases h : g = f
    · have hb : (g == f) = true := beq_iff_eq.mpr h
      simp only [List.lookup, hb, if_pos h]
    · have hb : (g == f) = false := beq_eq_false_iff_ne.mpr h
      simp only [List.lookup, hb, if_neg h]
  | (k, x) :: r => by
    have ih := lookup_putF f g v r
    rw [show putF f v ((k, x) :: r) = (if k = f then (k, v) :: r else (k, x) :: putF f v r) from rfl]
    by_cases hk : k = f
    · rw [if_pos hk]
      by_cases h : g = k
      · have hb : (g == k) = true := beq_iff_eq.mpr h
        simp only [List.lookup, hb, if_pos (h.trans hk)]
      · have hb : (g == k) = false := beq_eq_false_iff_ne.mpr h
        simp only [List.lookup, hb, if_neg (fun e : g = f => h (e.trans hk.symm))]
    · rw [if_neg hk]
      by_cases h : g = k
      · have hb : (g == k) = true := beq_iff_eq.mpr h
        simp only [List.lookup, hb, if_neg (fun e : g = f => hk (h.symm.trans e))]
      · have hb : (g == k) = false := beq_eq_false_iff_ne.mpr h
        simp only [List.lookup, hb]
        exact ih
theorem keys_putF (f : Str) (v : V) : ∀ fs : List (Str × V), f ∈ (putF f v fs).map (·.1) ∧ ∀ g, g ∈ fs.map (·.1) → g ∈ (putF f v fs).map (·.1)
  | [] => ⟨by simp [putF], fun g h => by simp at h⟩
  | (k, x) :: r => by
    obtain ⟨i1, i2⟩ := keys_putF f v r
    rw [show putF f v ((k, x) :: r) = (if k = f then (k, v) :: r else (k, x) :: putF f v r) from rfl]
    by_cases hk : k = f
    · rw [if_pos hk]
      subst hk
      exact ⟨by simp, fun g h => by simpa using h⟩
    · rw [if_neg hk]
      refine ⟨?_, fun g h => ?_⟩
      · rw [List.map_cons]
        exact List.mem_cons_of_mem _ i1
      · rw [List.map_cons] at h ⊢
        rcases List.mem_cons.mp h with e | e
        · exact List.mem_cons.mpr (.inl e)
        · exact List.mem_cons_of_mem _ (i2 g e)
theorem length_putF (f : Str) (v : V) : ∀ fs : List (Str × V), (putF f v fs).length ≤ fs.length + 1
  | [] => by simp [putF]
  | (k, x) :: r => by
    have ih := length_putF f v r
    rw [show putF f v ((k, x) :: r) = (if k = f then (k, v) :: r else (k, x) :: putF f v r) from rfl]
    by_cases hk : k = f
    · rw [if_pos hk, List.length_cons, List.length_cons]; omega
    · rw [if_neg hk, List.length_cons, List.length_cons]; omega

theorem RelO.some_of {v : V} {o : Option Value} (r : RelO (some v) o) : ∃ u, o = some u ∧ RelV v u := by
  cases o with
  | none => exact (show False from r).elim
  | some u => exact ⟨u, rfl, r⟩
theorem RelO.none_of {o : Option Value} (r : RelO none o) : o = none := by
  cases o with
  | none => rfl
  | some u => exact (show False from r).elim
theorem handed_of {v : V} {u : Value} (r : RelV v u) : PySem.W.handedIn u = true := by
  cases v with
  | non => cases (show u = Value.none from r); rfl
  | bl b => cases (show u = Value.bool b from r); rfl
  | int i => obtain ⟨t, e⟩ := (show ∃ t, u = Value.int i t from r); cases e; rfl
  | str x => obtain ⟨t, e⟩ := (show ∃ t, u = Value.str x t from r); cases e; rfl
  | byt b => obtain ⟨t, e⟩ := (show ∃ t, u = Value.bytes b t from r); cases e; rfl
  | flt b => obtain ⟨t, e⟩ := (show ∃ t, u = Value.float b t from r); cases e; rfl
  | ref a => cases (show u = Value.ref a from r); rfl
  | ty n => cases (show u = Value.type n from r); rfl

section
variable {P : Program} {w : World} {H H' : Hp} {h h' : Heap} {a C dx : Addr} {fs fs' : List (Str × V)}
theorem ins_get (hok : HOk P w H h) (e : H a = some (.ins C dx fs)) : ∃ mA, ObjM h a dx C mA ∧ (∀ f, RelO (fs.lookup f) (mA f)) ∧ PySem.Within mA (fs.map (·.1)) ∧ fs.length ≤ 1000 ∧ H dx = some (.own a) := by
  obtain ⟨d, z, ne, ob, mA, n, r, q⟩ := (show ObjOk P w H h a (.ins C dx fs) from hok a _ e)
  exact ⟨mA, ⟨ob, n, ne⟩, r, q, z, d⟩
end


structure Cls (K : PySem.W.Frag) (C : Addr) : Prop where
  pg : PySem.W.plainGet K C Str.empty = true
  hd : PySem.W.hasDictIn K C = true
  po : PySem.W.plainOver K C = true
  sa : PySem.W.findIn K (.ref C) "__setattr__" = some (some (.builtin "object.__setattr__"))
theorem Cls.get {K : PySem.W.Frag} {C : Addr} (c : Cls K C) (f : Str) : PySem.W.plainGet K C f = true := c.pg

def NoAttr (K : PySem.W.Frag) (C : Addr) (f : Str) : Prop := PySem.W.findIn K (.ref C) f = some none
theorem NoAttr.taker {K : PySem.W.Frag} {C : Addr} {f : Str} (n : NoAttr K C f) : PySem.W.takerIn K C f = some none := by
  unfold PySem.W.takerIn
  rw [show PySem.W.findIn K (.ref C) f = some none from n]
  rfl

structure Con (K : PySem.W.Frag) (C : Addr) (f : Str) (v : V) (u : Value) : Prop where
  at_ : PySem.W.findIn K (.ref C) f = some (some u)
  rel : RelV v u
  get : PySem.W.specialIn K u "__get__" = some none
  cp : PySem.W.copiedNames.contains f = false

structure Meth (K : PySem.W.Frag) (C : Addr) (m : Str) (f : Addr) : Prop where
  at_ : PySem.W.findIn K (.ref C) m = some (some (.ref f))
  fn : PySem.W.isFn K (.ref f) = true
  kp : PySem.W.keepIn K (.ref f) = true

section
variable {X : Cx} {pins : List (Addr × Obj)} {σ : St} {H : Hp} {s : Shared} {a C dx : Addr} {fs : List (Str × V)} {f : Str} {v : V} {A : Around} {E : Value → Shared → Prop}

theorem getattr_ok {b : Bool} {Q : Value → Shared → Prop} (I : Inv X pins σ H s) (e : H a = some (.ins C dx fs)) (c : Cls X.K C) (n : NoAttr X.K C f) (l : fs.lookup f = some v)
    (h : ∀ u s', Inv X pins σ H s' → RelV v u → Q u s') : wpAny (model X.prog X.w) A (getAttr (.ref a) f b) Q E s := by
  obtain ⟨mA, O, r, _, _, _⟩ := ins_get I.hok e
  obtain ⟨u, hu, ru⟩ := RelO.some_of (v := v) (o := mA f) (by rw [← l]; exact r f)
  exact get_map I.kIn O (c.get f) c.hd n hu (handed_of ru) (h u _ (I.tok _) ru)

theorem getmeth_ok {m : Str} {g : Addr} {pl : Sem Bool} {Q : Value × List Value → Shared → Prop} (I : Inv X pins σ H s) (e : H a = some (.ins C dx fs)) (c : Cls X.K C) (k : Meth X.K C m g) (l : fs.lookup m = none)
    (h : Q (.ref g, [.ref a]) s) : wpAny (model X.prog X.w) A (getMethod (.ref a) m pl) Q E s := by
  obtain ⟨mA, O, r, _, _, _⟩ := ins_get I.hok e
  have hn : mA m = none := RelO.none_of (by rw [← l]; exact r m)
  exact get_meth I.kIn O (c.get m) k.at_ k.fn hn h

theorem setattr_ok {y : V} {u : Value} {Q : Unit → Shared → Prop} (I : Inv X pins σ H s) (e : H a = some (.ins C dx fs)) (c : Cls X.K C) (n : NoAttr X.K C f) (hl : fs.length < 1000) (ry : RelV y u)
    (h : ∀ s', Inv X pins σ (upd H a (.ins C dx (putF f y fs))) s' → Q () s') : wpAny (model X.prog X.w) A (setAttr (.ref a) f u) Q E s := by
  obtain ⟨mA, O, r, wi, _, ho⟩ := ins_get I.hok e
  have hz : (fs.map (·.1)).length ≤ sizeLine := by rw [List.length_map, sizeLine_eq]; omega
  refine set_map I.kIn O c.sa c.po n.taker c.hd wi hz fun h' O' sb => h _ ?_
  have hd : ∃ o, h'.get? dx = some o := let ⟨o, _, _, e', _⟩ := O'.ns; ⟨o, e'⟩
  refine I.write (x := a) (e := dx) (by rw [e]; exact True.intro) (.inr ho) (fun b q hb z => (sb.2 b hb).trans z) hd ?_
  refine ⟨by rw [upd_ne O.ne]; exact ho, ?_, O.ne, O'.obj, _, O'.ns, fun g => ?_, fun g hg => ?_⟩
  · have := length_putF f y fs; omega
  · show RelO ((putF f y fs).lookup g) (if g = f then some u else mA g)
    rw [lookup_putF]
    by_cases q : g = f
    · rw [if_pos q, if_pos q]; exact ry
    · rw [if_neg q, if_neg q]; exact r g
  · by_cases q : g = f
    · rw [q]; exact (keys_putF f y fs).1
    · refine (keys_putF f y fs).2 g (wi g fun z => hg ?_)
      show (if g = f then some u else mA g) = none
      rw [if_neg q]; exact z


theorem Inv.made (I : Inv X pins σ H s) : Inv X pins σ (upd (upd H s.heap.objs.size (.own (s.heap.objs.size + 1))) (s.heap.objs.size + 1) (.ins C s.heap.objs.size []))
    { s with heap := (s.heap.push PySem.W.emptyDict).push (PySem.W.instObj C s.heap.objs.size) } := by
  have e1 : (s.heap.push PySem.W.emptyDict).get? s.heap.objs.size = some PySem.W.emptyDict := Heap.get?_push_size s.heap rfl
  have e2 : ((s.heap.push PySem.W.emptyDict).push (PySem.W.instObj C s.heap.objs.size)).get? (s.heap.objs.size + 1) = some (PySem.W.instObj C s.heap.objs.size) := by
    have := Heap.get?_push_size (s.heap.push PySem.W.emptyDict) (o := PySem.W.instObj C s.heap.objs.size) rfl
    rwa [Heap.size_push] at this
  have e3 : (s.heap.push PySem.W.emptyDict).Ns s.heap.objs.size (fun _ => none) := ⟨PySem.W.emptyDict, #[], _, e1, rfl, (fun e he => absurd he (by simp)), fun _ => rfl⟩
  have I1 := I.laid (a := s.heap.objs.size) (o := .own (s.heap.objs.size + 1)) (h' := s.heap.push PySem.W.emptyDict) (t' := s.toks) (fun b u q => Heap.get?_push_of_some _ q) (Nat.le_refl _) ⟨_, e1⟩
  refine I1.laid (a := s.heap.objs.size + 1) (o := .ins C s.heap.objs.size []) (t' := s.toks) (fun b u q => Heap.get?_push_of_some _ q) (Nat.le_of_eq (Heap.size_push _ _)) ?_
  have ne : s.heap.objs.size ≠ s.heap.objs.size + 1 := Nat.ne_of_lt (Nat.lt_succ_self _)
  refine ⟨by rw [upd_ne ne, upd_same], Nat.zero_le _, ne, e2, fun _ => none, (Heap.Ns1.of_empty e3).at fun o q => Heap.get?_push_of_some _ q, fun _ => True.intro, fun y hy => absurd rfl hy⟩


theorem attr_of {prog : Program} {w : World} {env : Env} {e : Expr} {f : Str} {pos : Pos} {s : Shared} {Q : Value → Shared → Prop} (hb : attributeBase e f env (eval e env) = eval e env)
    (h : wpAny (model prog w) A (eval e env) (fun o s₁ => wpAny (model prog w) A (getAttr o f true) Q E s₁) E s) : wpAny (model prog w) A (eval (.Attribute e f pos) env) Q E s :=
  Attribute_any_ h (by rw [arm_eval_Attribute, hb])
end



def tFld (K : PySem.W.Frag) (ta : TE) (f : Str) : TE := fun σ H Q => ta σ H fun x H1 => ∃ a C dx fs v, x = .ref a ∧ H1 a = some (.ins C dx fs) ∧ Cls K C ∧ NoAttr K C f ∧ fs.lookup f = some v ∧ Q v H1

def sFld (K : PySem.W.Frag) (ta tv : TE) (f : Str) : TS := fun D σ H => tv σ H fun y H1 => ta σ H1 fun x H2 => ∃ a C dx fs, x = .ref a ∧ H2 a = some (.ins C dx fs) ∧ Cls K C ∧ NoAttr K C f ∧ fs.length < 1000 ∧
  D.nx σ (upd H2 a (.ins C dx (putF f y fs)))

section
variable {X : Cx} {o e value : Expr} {f : Str} {pos pos' tpos : Pos} {ta tv : TE}
theorem pe_fld (he : PE X e ta) (hb : attributeBase e f X.env (eval e X.env) = eval e X.env) : PE X (.Attribute e f pos) (tFld X.K ta f) := by
  intro pins s σ H Q I h
  refine attr_of hb (thn (he pins s σ H _ I h) fun u s1 ⟨x, H1, I1, rx, a, C, dx, fs, v, ex, ea, c, n, l, q⟩ => ?_)
  subst ex
  obtain rfl : u = Value.ref a := rx
  exact getattr_ok I1 ea c n l fun u' s2 I2 ru => ⟨v, H1, I2, ru, q⟩
theorem ps_fld (ha : PE X o ta) (hv : PE X value tv) (hs : swapsWith value (some (.Attribute o f pos')) pos.line X.env = pure false) : PS X (.Assign [.Attribute o f pos'] value pos) (sFld X.K ta tv f) := by
  intro pins s σ H D I h
  refine plainObj_wpAny_Assign_Attribute (thn (hv pins s σ H _ I h) fun u s1 ⟨y, H1, I1, ry, q⟩ => thn (ha pins s1 σ H1 _ I1 q) fun ov s2 ⟨x, H2, I2, rx, a, C, dx, fs, ex, ea, c, n, l, q2⟩ => ?_) hs
  subst ex
  obtain rfl : ov = Value.ref a := rx
  exact setattr_ok I2 ea c n l ry fun s3 I3 => ⟨σ, _, I3, q2⟩
end


section
variable {X : Cx} {pins : List (Addr × Obj)} {σ : St} {H : Hp} {s : Shared} {A : Around} {E : Value → Shared → Prop} {Q : Value → Shared → Prop} {c : Value} {b : Bool}

inductive TyOf (K : PySem.W.Frag) (H : Hp) : V → Value → Prop where
  | non : TyOf K H .non (.type "NoneType")
  | bl (x : Bool) : TyOf K H (.bl x) (.type "bool")
  | int (i : Int) : TyOf K H (.int i) (.type "int")
  | str (x : Str) : TyOf K H (.str x) (.type "str")
  | flt (x : UInt64) : TyOf K H (.flt x) (.type "float")
  | lst {a : Addr} {xs : List V} (e : H a = some (.lst xs)) : TyOf K H (.ref a) (.type "list")
  | frz {a : Addr} {o : Obj} {xs : List V} (e : H a = some (.frz o (.lst xs))) : TyOf K H (.ref a) (.type "list")
  | tup {a : Addr} {xs : List V} (e : H a = some (.tup xs)) : TyOf K H (.ref a) (.type "tuple")
  | dK {a : Addr} {kvs : List (Key × V)} (e : H a = some (.dK kvs)) : TyOf K H (.ref a) (.type "dict")
  | dT {a : Addr} {kvs : List (List Key × V)} (e : H a = some (.dT kvs)) : TyOf K H (.ref a) (.type "dict")
  | ins {a C dx : Addr} {fs : List (Str × V)} (e : H a = some (.ins C dx fs)) (cl : Cls K C) (ha : PySem.W.findIn K (.ref C) "__class__" = some (some (.builtin "object.__class__")))
      (hn : PySem.W.specialIn K (.builtin "object.__class__") "__get__" = some (some (.builtin "getset_descriptor.__get__"))) (htk : PySem.W.takesIn K (.builtin "object.__class__") = some true)
      (hm : PySem.W.mroIn K C (.type "object") = some true) : TyOf K H (.ref a) (.ref C)

theorem isinst_ok {x : V} {u t : Value} (I : Inv X pins σ H s) (rx : RelV x u) (ty : TyOf X.K H x t) (e : PySem.W.kitOne X.K t c = some b) (h : ∀ tk, Q (.bool b) { s with toks := tk }) :
    wpAny (model X.prog X.w) A (call (.builtin "isinstance") [u, c]) Q E s := by
  cases ty with
  | non => cases (show u = Value.none from rx); exact PySem.W.kia_one PySem.W.kitx_none I.kIn True.intro e (fun z => nomatch z) h
  | bl y => cases (show u = Value.bool y from rx); exact PySem.W.kia_one PySem.W.kitx_bool I.kIn True.intro e (fun z => nomatch z) h
  | int i => obtain ⟨t, q⟩ := (show ∃ t, u = Value.int i t from rx); cases q; exact PySem.W.kia_one PySem.W.kitx_int I.kIn True.intro e (fun z => nomatch z) h
  | str y => obtain ⟨t, q⟩ := (show ∃ t, u = Value.str y t from rx); cases q; exact PySem.W.kia_one PySem.W.kitx_str I.kIn True.intro e (fun z => nomatch z) h
  | flt y => obtain ⟨t, q⟩ := (show ∃ t, u = Value.float y t from rx); cases q; exact PySem.W.kia_one PySem.W.kitx_float I.kIn True.intro e (fun z => nomatch z) h
  | @lst a xs ea =>
    cases (show u = Value.ref a from rx)
    obtain ⟨_, _, n, _, h1⟩ := (show ObjOk X.prog X.w H s.heap a (.lst xs) from I.hok a _ ea)
    exact PySem.W.kia_one PySem.W.kitx_list I.kIn ⟨_, h1, rfl⟩ e (fun z => nomatch z) h
  | @frz a ob xs ea =>
    cases (show u = Value.ref a from rx)
    obtain ⟨_, _, _, n, _, h1⟩ := (show ObjOk X.prog X.w H s.heap a (.frz ob (.lst xs)) from I.hok a _ ea)
    exact PySem.W.kia_one PySem.W.kitx_list I.kIn ⟨_, h1, rfl⟩ e (fun z => nomatch z) h
  | @tup a xs ea =>
    cases (show u = Value.ref a from rx)
    obtain ⟨_, _, _, p⟩ := (show ObjOk X.prog X.w H s.heap a (.tup xs) from I.hok a _ ea)
    obtain ⟨o, h1, h2, _⟩ := p
    exact PySem.W.kia_one PySem.W.kitx_tuple I.kIn ⟨o, h1, h2⟩ e (fun z => nomatch z) h
  | @dK a kvs ea =>
    cases (show u = Value.ref a from rx)
    obtain ⟨_, _, vs, _, p⟩ := (show ObjOk X.prog X.w H s.heap a (.dK kvs) from I.hok a _ ea)
    obtain ⟨o, es, ep, h1, h2, _⟩ := p
    exact PySem.W.kia_one PySem.W.kitx_dict I.kIn ⟨o, h1, h2.1⟩ e (fun z => nomatch z) h
  | @dT a kvs ea =>
    cases (show u = Value.ref a from rx)
    obtain ⟨_, _, xs, _, o, es, ep, h1, h2, _⟩ := (show ObjOk X.prog X.w H s.heap a (.dT kvs) from I.hok a _ ea)
    exact PySem.W.kia_one PySem.W.kitx_dict I.kIn ⟨o, h1, h2.1⟩ e (fun z => nomatch z) h
  | @ins a C dx fs ea cl ha hn htk hm =>
    cases (show u = Value.ref a from rx)
    obtain ⟨mA, O, _⟩ := ins_get I.hok ea
    obtain ⟨od, J, _⟩ := O.look
    exact PySem.W.kia_one (PySem.W.kitx_own (cl.get _) cl.hd ha hn htk hm) I.kIn J e (fun z => nomatch z) h
end
end L2

namespace L2
open PySem PySem.Spec PyProof.Rows


structure Room (k : Nat) (A : Around) : Prop where
  hd : A.handled = none
  dp : A.depth + 3 * k + 5 < recursionLimit
  un : A.units + 16 * k + 200 < cLine
theorem Room.mono {j k : Nat} {A : Around} (r : Room k A) (h : j ≤ k) : Room j A := ⟨r.hd, by have := r.dp; omega, by have := r.un; omega⟩
theorem Room.deeper {k : Nat} {A : Around} (r : Room (k + 1) A) (env : Env) : Room k (A.deeper env) :=
  ⟨r.hd, by have := r.dp; show A.depth + 1 + 3 * k + 5 < _; omega, by have := r.un; show A.units + 3 + 16 * k + 200 < _; omega⟩
theorem make_depth {A : Around} {C : Addr} {us : List Value} {kw : List (Str × Value)} : (A.under (.builtin "type.__call__" ⟨.ref C :: us, kw⟩)).depth = A.depth + 1 := by
  first | rfl | simp [Around.under, Code.weight, Code.isCreation, Code.isGuard, Code.isCaller, Code.frames, Code.isFrame, guardIds]
theorem make_units {A : Around} {C : Addr} {us : List Value} {kw : List (Str × Value)} : (A.under (.builtin "type.__call__" ⟨.ref C :: us, kw⟩)).units = A.units + 1 := by
  first | rfl | simp [Around.under, Code.cUnits, Code.frames, Code.isFrame]
theorem Room.make {k : Nat} {A : Around} (r : Room (k + 1) A) (C : Addr) (us : List Value) (kw : List (Str × Value)) : Room k (A.under (.builtin "type.__call__" ⟨.ref C :: us, kw⟩)) :=
  ⟨r.hd, by have := r.dp; rw [make_depth]; omega, by have := r.un; rw [make_units]; omega⟩
theorem Room.depth {k : Nat} {A : Around} (r : Room k A) : A.depth < recursionLimit := by have := r.dp; omega
theorem Room.units {k : Nat} {A : Around} (r : Room k A) : A.units + 64 < cLine := by have := r.un; omega
def tNil : TA := fun _ H Q => Q [] H
def tCons (ta : TE) (tr : TA) : TA := fun σ H Q => ta σ H fun x H1 => tr σ H1 fun xs H2 => Q (x :: xs) H2
section
variable {X : Cx} {e : Expr} {es : List Expr} {te : TE} {t : TA} {pos : Pos}
theorem pa_nil : PA X [] tNil := fun _ _ _ _ H Q I h => Calls.spliced_nil ⟨[], H, I, .nil, h⟩
theorem pa_cons (ha : PE X e te) (hr : PA X es t) (hs : starEach (e :: es) X.env = (false, eval e X.env) :: starEach es X.env := by rfl) : PA X (e :: es) (tCons te t) := by
  intro pos pins s σ H Q I h
  rw [hs]
  show wpAny _ _ (spliced ((false, eval e X.env) :: backTo pos (starEach es X.env))) _ _ s
  refine Calls.spliced_cons (thn (ha pins s σ H _ I h) fun u s1 ⟨x, H1, I1, r1, q1⟩ => ?_)
  exact thn (hr pos pins s1 σ H1 _ I1 q1) fun us s2 ⟨xs, H2, I2, r2, q2⟩ => ⟨x :: xs, H2, I2, .cons r1 r2, q2⟩


def tTup (t : TA) : TE := fun σ H Q => t σ H fun xs H1 => xs.length ≤ sizeLine ∧ ∀ p, H1 p = none → Q (.ref p) (upd H1 p (.tup xs))
def tLst (t : TA) : TE := fun σ H Q => t σ H fun xs H1 => xs.length ≤ sizeLine ∧ ∀ p, H1 p = none → Q (.ref p) (upd H1 p (.lst xs))
theorem pe_tup {x1} (h : PA X es t) : PE X (.Tuple es x1 pos) (tTup t) := by
  intro pins s σ H Q I hq
  refine wpAny_Tuple_spliced (thn (h pos pins s σ H _ I hq) fun us s1 ⟨xs, H1, I1, r, z, q⟩ => ⟨by rw [← r.length]; exact z, ?_⟩)
  have hf : H1 s1.heap.objs.size = none := I1.hok.fresh (Nat.le_refl _)
  refine ⟨.ref s1.heap.objs.size, upd H1 s1.heap.objs.size (.tup xs), I1.laid (t' := s1.toks) (fun b u e => Heap.get?_push_of_some _ e) (Nat.le_refl _) ?_, rfl, q _ hf⟩
  exact ⟨z, us, r, ⟨_, Heap.get?_push_size _ rfl, rfl, _, rfl⟩⟩
theorem pe_lst (h : PA X es t) : PE X (.List es pos) (tLst t) := by
  intro pins s σ H Q I hq
  refine wpAny_List_spliced (thn (h pos pins s σ H _ I hq) fun us s1 ⟨xs, H1, I1, r, z, q⟩ => ⟨by rw [← r.length]; exact z, ?_⟩)
  have hf : H1 s1.heap.objs.size = none := I1.hok.fresh (Nat.le_refl _)
  refine ⟨.ref s1.heap.objs.size, upd H1 s1.heap.objs.size (.lst xs), I1.laid (t' := s1.toks) (fun b u e => Heap.get?_push_of_some _ e) (Nat.le_refl _) ?_, rfl, q _ hf⟩
  exact ⟨z, us, 0, r, Heap.get?_push_size _ rfl⟩
end



abbrev Sp := List V → Hp → VK → XK → Prop

abbrev CXT := List Env → Hp → Shared → XK → Value → Shared → Prop


structure Env0 (P : Program) (w : World) (K : PySem.W.Frag) (mg : Str → Option Value) (base : Heap) (A : Around) (outer : List Env) (s : Shared) (H : Hp) : Prop where
  frames : A.frames = some outer
  mod : Mod K mg base
  bs : ∀ b o, base.get? b = some o → s.heap.get? b = some o ∧ H b = none
  bsz : base.objs.size ≤ s.heap.objs.size
  funs : s.heap.FunFrames base outer
  frf : ∀ b ∈ frs outer, H b = none
  hok : HOk P w H s.heap
  bare : AllBare s.gens

def CE (outer : List Env) (P : Program) (w : World) (H : Hp) (s : Shared) (Q : VK) (u : Value) (s' : Shared) : Prop :=
  ∃ v H', s'.os = s.os ∧ AllBare s'.gens ∧ Un (frs outer) [] H H' s.heap s'.heap ∧ HOk P w H' s'.heap ∧ RelV v u ∧ Q v H'
def CR (CX : CXT) (outer : List Env) (P : Program) (w : World) (H : Hp) (s : Shared) (Q : VK) (E : XK) (r : Result) (s' : Shared) : Prop :=
  match r with
  | .ok (.ret u) => CE outer P w H s Q u s'
  | .ok _ => False
  | .error e => CX outer H s E e s'
structure FnOk (P : Program) (w : World) (K : PySem.W.Frag) (mg : Str → Option Value) (base : Heap) (CX : CXT) (k : Nat) (f : Addr) (fd : FuncData) (ps : List Str) (sp : Sp) : Prop where
  len : ∀ vs H Q E, sp vs H Q E → vs.length = ps.length
  run : ∀ (A : Around) (outer : List Env) (s : Shared) (H : Hp) (args : Args) (us : List Value) (vs : List V) (Q : VK) (E : XK), Room k A → Env0 P w K mg base A outer s H → BindsTo s fd args (ps.zip us) → Vals vs us → sp vs H Q E →
    codeAny (model P w) A (.call (.ref f) args) (CR CX outer P w H s Q E) s
theorem Env0.make {P : Program} {w : World} {K : PySem.W.Frag} {mg : Str → Option Value} {base : Heap} {A : Around} {outer : List Env} {s : Shared} {H : Hp} (e : Env0 P w K mg base A outer s H) (C : Addr) (us : List Value) (kw : List (Str × Value)) :
    Env0 P w K mg base (A.under (.builtin "type.__call__" ⟨.ref C :: us, kw⟩)) outer s H := ⟨by first | exact e.frames | (simpa [Around.under, Code.envs, Code.isFrame, pushEnvs] using e.frames), e.mod, e.bs, e.bsz, e.funs, e.frf, e.hok, e.bare⟩
section
variable {X : Cx} {pins : List (Addr × Obj)} {σ : St} {H : Hp} {s s' : Shared}

theorem Inv.env0 (I : Inv X pins σ H s) : Env0 X.prog X.w X.K X.mg X.base X.A X.stack s H :=
  ⟨I.ok.frames, I.ok.mod, I.bs, Nat.le_trans I.ok.bsz I.sz, I.stack, I.stkFree, I.hok, I.bare⟩

theorem Inv.after {Q : VK} {u : Value} (I : Inv X pins σ H s) (h : CE X.stack X.prog X.w H s Q u s') : EP X pins σ Q u s' := by
  obtain ⟨v, H', os, bare, un, hok, r, q⟩ := h
  obtain ⟨hh, g, d, t, os'⟩ := s'
  obtain rfl : os' = s.os := os
  exact ⟨v, H', I.call (h' := hh) (g' := g) (d' := d) (t' := t) (ch := []) un hok bare (fun b z => absurd z (by simp)), r, q⟩
end



def tCall (sp : Sp) (dvs : List V) (E : XK) (t : TA) : TE := fun σ H Q => t σ H fun vs H1 => sp (vs ++ dvs) H1 Q E

def tMeth (C : Addr) (m : Str) (sp : Sp) (dvs : List V) (E : XK) (ta : TE) (t : TA) : TE := fun σ H Q => ta σ H fun x H1 => ∃ a dx fs, x = .ref a ∧ H1 a = some (.ins C dx fs) ∧ fs.lookup m = none ∧
  t σ H1 fun vs H2 => sp (x :: (vs ++ dvs)) H2 Q E

def tMake (C : Addr) (sp : Sp) (dvs : List V) (E : XK) (t : TA) : TE := fun σ H Q => t σ H fun vs H1 => ∀ x dx, H1 x = none → H1 dx = none → dx ≠ x →
  sp (.ref x :: (vs ++ dvs)) (upd (upd H1 dx (.own x)) x (.ins C dx [])) (fun v H2 => v = .non ∧ Q (.ref x) H2) E


def Binds (K : PySem.W.Frag) (fd : FuncData) (ps : List Str) (ds : List Value) : Prop :=
  ∀ (s : Shared) (us : List Value), K.In s.heap → (us ++ ds).length = ps.length → BindsTo s fd ⟨us, []⟩ (ps.zip (us ++ ds))

theorem Binds.all {K : PySem.W.Frag} {fd : FuncData} {ps : List Str} (h : ∀ us : List Value, us.length = ps.length → bindArgs fd ⟨us, []⟩ = pure (ps.zip us)) : Binds K fd ps [] := fun s us _ hl => by
  rw [List.append_nil] at hl ⊢
  exact .of_eq (h us hl)


def Passes (CX : CXT) (X : Cx) (E : XK) : Prop := ∀ (pins : List (Addr × Obj)) (σ : St) (H : Hp) (s : Shared) (e : Value) (s' : Shared), Inv X pins σ H s → CX X.stack H s E e s' → X.xe e s'

section
variable {X : Cx} {CX : CXT} {k : Nat} {f C : Addr} {fd : FuncData} {ps : List Str} {sp : Sp} {dvs : List V} {ds : List Value} {E : XK} {x m : Str} {p pos apos : Pos} {e o : Expr} {es : List Expr} {ta : TE} {t : TA}


theorem run_fn {pins : List (Addr × Obj)} {σ : St} {H : Hp} {s : Shared} {Q : VK} {us : List Value} {vs : List V} (F : FnOk X.prog X.w X.K X.mg X.base CX k f fd ps sp) (hr : Room k X.A) (hb : Binds X.K fd ps ds) (hd : Vals dvs ds) (hx : Passes CX X E)
    (I : Inv X pins σ H s) (r : Vals vs us) (h : sp (vs ++ dvs) H Q E) : wpAny (model X.prog X.w) X.A (call (.ref f) us) (EP X pins σ Q) X.xe s := by
  have r2 : Vals (vs ++ dvs) (us ++ ds) := r.append hd
  have hl : (us ++ ds).length = ps.length := by rw [← r2.length]; exact F.len _ _ _ _ h
  refine wpAny_call (codeAny_mono (F.run X.A X.stack s H ⟨us, []⟩ (us ++ ds) (vs ++ dvs) Q E hr I.env0 (hb s us I.kIn hl) r2 h) fun r s' hq => ?_)
  cases r with
  | error e => exact hx pins σ H s e s' I hq
  | ok fl =>
    cases fl with
    | ret u => exact I.after hq
    | next => exact False.elim hq
    | brk => exact False.elim hq
    | cont => exact False.elim hq

theorem pe_call (F : FnOk X.prog X.w X.K X.mg X.base CX k f fd ps sp) (hr : Room k X.A) (hg : Gl X x) (hm : X.mg x = some (.ref f)) (hk : PySem.W.keepIn X.K (.ref f) = true) (hb : Binds X.K fd ps ds) (hd : Vals dvs ds) (hx : Passes CX X E)
    (ha : PA X (e :: es) t) (hdb : (x == ("__debug__" : Str)) = false := by decide) (he : starEach (e :: es) X.env = (false, eval e X.env) :: starEach es X.env := by rfl) (hpl : (backTo pos (starEach es X.env)).any (·.1) = false := by rfl) :
    PE X (.Call (.Name x p) (e :: es) [] pos) (tCall sp dvs E t) := by
  intro pins s σ H Q I h
  refine wpAny_Call_Name_kw (ld_glob I hg hm ?_ hdb)
  refine PySem.W.callWith_K (h₀ := X.base) I.ok.mod.kin hk (thn (ha pos pins s σ H _ I h) fun us s1 ⟨vs, H1, I1, r, q⟩ => ⟨I1.kIn, ?_⟩) he hpl
  exact run_fn F hr hb hd hx I1 r q
theorem pe_meth {pl : Sem Bool} (he : PE X o ta) (c : Cls X.K C) (hm : Meth X.K C m f) (F : FnOk X.prog X.w X.K X.mg X.base CX k f fd ps sp) (hr : Room k X.A) (hb : Binds X.K fd ps ds) (hd : Vals dvs ds) (hx : Passes CX X E) (ha : PA X (e :: es) t)
    (hst : starEach (e :: es) X.env = (false, eval e X.env) :: starEach es X.env := by rfl) (hpl : (backTo pos (starEach es X.env)).any (·.1) = false := by rfl)
    (ht : eval (.Call (.Attribute o m apos) (e :: es) [] pos) X.env = (do
      let ov ← eval o X.env
      standAt apos.atName
      let (f, first) ← holding [ov] (getMethod ov m pl)
      callWith pos f first (backTo pos (starEach (e :: es) X.env)) (backToKw pos (keywordEach [] X.env))) := by rfl) :
    PE X (.Call (.Attribute o m apos) (e :: es) [] pos) (tMeth C m sp dvs E ta t) := by
  intro pins s σ H Q I h
  refine PySem.W.methodCall_KW (pl := pl) (thn (he pins s σ H _ I h) fun u s1 ⟨x, H1, I1, rx, a, dx, fs, ex, ea, l, q⟩ => ?_) ht
  subst ex
  obtain rfl : u = Value.ref a := rx
  refine getmeth_ok I1 ea c hm l ?_
  refine PySem.W.callWith_K (first := [.ref a]) (h₀ := X.base) I.ok.mod.kin hm.kp (thn (ha pos pins s1 σ H1 _ I1 q) fun us s2 ⟨vs, H2, I2, r, q2⟩ => ⟨I2.kIn, ?_⟩) hst hpl
  exact run_fn (us := .ref a :: us) (vs := .ref a :: vs) F hr hb hd hx I2 (.cons rfl r) q2

theorem pe_meth0 {pl : Sem Bool} (he : PE X o ta) (c : Cls X.K C) (hm : Meth X.K C m f) (F : FnOk X.prog X.w X.K X.mg X.base CX k f fd ps sp) (hr : Room k X.A) (hb : Binds X.K fd ps ds) (hd : Vals dvs ds) (hx : Passes CX X E)
    (ht : eval (.Call (.Attribute o m apos) [] [] pos) X.env = (do
      let ov ← eval o X.env
      standAt apos.atName
      let (f, first) ← holding [ov] (getMethod ov m pl)
      callWith pos f first (backTo pos (starEach [] X.env)) (backToKw pos (keywordEach [] X.env))) := by rfl) :
    PE X (.Call (.Attribute o m apos) [] [] pos) (tMeth C m sp dvs E ta tNil) := by
  intro pins s σ H Q I h
  refine PySem.W.methodCall_KW (pl := pl) (thn (he pins s σ H _ I h) fun u s1 ⟨x, H1, I1, rx, a, dx, fs, ex, ea, l, q⟩ => ?_) ht
  subst ex
  obtain rfl : u = Value.ref a := rx
  refine getmeth_ok I1 ea c hm l ?_
  exact PySem.W.callWith_K0 (first := [.ref a]) I1.kIn hm.kp (run_fn (us := [.ref a]) (vs := [.ref a]) F hr hb hd hx I1 (.cons rfl .nil) q)


structure Mk (K : PySem.W.Frag) (C f : Addr) : Prop where
  makes : PySem.W.makesIn K C = true
  init : PySem.W.findIn K (.ref C) "__init__" = some (some (.ref f))
  fn : PySem.W.isFn K (.ref f) = true
  kp : PySem.W.keepIn K (.ref C) = true

theorem run_make {pins : List (Addr × Obj)} {σ : St} {H : Hp} {s : Shared} {Q : VK} {us : List Value} {vs : List V} (M : Mk X.K C f) (F : FnOk X.prog X.w X.K X.mg X.base CX k f fd ps sp) (hr : Room (k + 1) X.A) (hb : Binds X.K fd ps ds) (hd : Vals dvs ds)
    (hx : Passes CX X E) (I : Inv X pins σ H s) (r : Vals vs us)
    (h : ∀ x dx, H x = none → H dx = none → dx ≠ x → sp (.ref x :: (vs ++ dvs)) (upd (upd H dx (.own x)) x (.ins C dx [])) (fun v H2 => v = .non ∧ Q (.ref x) H2) E) :
    wpAny (model X.prog X.w) X.A (call (.ref C) us) (EP X pins σ Q) X.xe s := by
  have hq := h (s.heap.objs.size + 1) s.heap.objs.size (I.hok.fresh (Nat.le_succ _)) (I.hok.fresh (Nat.le_refl _)) (Nat.ne_of_lt (Nat.lt_succ_self _))
  have I2 := Inv.made (C := C) I
  have r2 : Vals (V.ref (s.heap.objs.size + 1) :: (vs ++ dvs)) (Value.ref (s.heap.objs.size + 1) :: (us ++ ds)) := .cons rfl (r.append hd)
  have hl : (Value.ref (s.heap.objs.size + 1) :: us ++ ds).length = ps.length := by
    have e := r2.length
    rw [F.len _ _ _ _ hq] at e
    exact e.symm
  refine wpAny_call (make_map (f := f) I.kIn M.makes M.init (beq_iff_eq.mp M.fn) (codeAny_mono (F.run _ X.stack _ _ ⟨Value.ref (s.heap.objs.size + 1) :: us, []⟩ (Value.ref (s.heap.objs.size + 1) :: (us ++ ds)) _ _ E (hr.make C us [])
    (I2.env0.make C us []) (hb _ (Value.ref (s.heap.objs.size + 1) :: us) I2.kIn hl) r2 hq) fun r s' hq' => ?_))
  cases r with
  | error e => exact hx pins σ _ _ e s' I2 hq'
  | ok fl =>
    cases fl with
    | ret u =>
      obtain ⟨v, H', I3, rv, ev, q3⟩ := I2.after hq'
      subst ev
      exact ⟨rv, ⟨V.ref (s.heap.objs.size + 1), H', I3, rfl, q3⟩⟩
    | next => exact False.elim hq'
    | brk => exact False.elim hq'
    | cont => exact False.elim hq'
theorem pe_make (M : Mk X.K C f) (F : FnOk X.prog X.w X.K X.mg X.base CX k f fd ps sp) (hr : Room (k + 1) X.A) (hg : Gl X x) (hm : X.mg x = some (.ref C)) (hb : Binds X.K fd ps ds) (hd : Vals dvs ds) (hx : Passes CX X E)
    (ha : PA X (e :: es) t) (hdb : (x == ("__debug__" : Str)) = false := by decide) (he : starEach (e :: es) X.env = (false, eval e X.env) :: starEach es X.env := by rfl) (hpl : (backTo pos (starEach es X.env)).any (·.1) = false := by rfl) :
    PE X (.Call (.Name x p) (e :: es) [] pos) (tMake C sp dvs E t) := by
  intro pins s σ H Q I h
  refine wpAny_Call_Name_kw (ld_glob I hg hm ?_ hdb)
  refine PySem.W.callWith_K (h₀ := X.base) I.ok.mod.kin M.kp (thn (ha pos pins s σ H _ I h) fun us s1 ⟨vs, H1, I1, r, q⟩ => ⟨I1.kIn, ?_⟩) he hpl
  exact run_make M F hr hb hd hx I1 r q
end



def PK (X : Cx) (kws : List Keyword) (t : TA) : Prop :=
  ∀ (pos : Pos) (pins : List (Addr × Obj)) (s : Shared) (σ : St) (H : Hp) (Q : List V → Hp → Prop), Inv X pins σ H s → t σ H Q → wpAny (model X.prog X.w) X.A (evalAll ((backToKw pos (keywordEach kws X.env)).map (·.2))) (AP X pins σ Q) X.xe s
section
variable {X : Cx} {CX : CXT} {k : Nat} {f C : Addr} {fd : FuncData} {ps ks : List Str} {sp : Sp} {E : XK} {x m : Str} {p pos apos kpos : Pos} {e o : Expr} {es : List Expr} {kws : List Keyword} {te ta : TE} {t tk : TA} {nm : Option Str}
theorem pk_nil : PK X [] tNil := fun _ _ _ _ H Q I h => wpAny_evalAll_nil ⟨[], H, I, .nil, h⟩
theorem pk_cons (ha : PE X e te) (hr : PK X kws t) : PK X (⟨nm, e, kpos⟩ :: kws) (tCons te t) := by
  intro pos pins s σ H Q I h
  show wpAny _ _ (evalAll ((do let v ← eval e X.env; standAt pos; pure v) :: (backToKw pos (keywordEach kws X.env)).map (·.2))) _ _ s
  refine wpAny_evalAll_cons (wpAny_bind (thn (ha pins s σ H _ I h) fun u s1 ⟨x, H1, I1, r1, q1⟩ => wpAny_bind (wpAny_standAt (wpAny_pure ?_))))
  exact thn (hr pos pins s1 σ H1 _ I1 q1) fun us s2 ⟨xs, H2, I2, r2, q2⟩ => ⟨x :: xs, H2, I2, .cons r1 r2, q2⟩


structure KBinds (K : PySem.W.Frag) (fd : FuncData) (ps ks : List Str) (g : List Value → List Value → List Value) (gV : List V → List V → List V) : Prop where
  to : ∀ (s : Shared) (us ws : List Value), K.In s.heap → (g us ws).length = ps.length → BindsTo s fd ⟨us, ks.zip ws⟩ (ps.zip (g us ws))
  rel : ∀ {vs : List V} {us : List Value} {zs : List V} {ws : List Value}, Vals vs us → Vals zs ws → Vals (gV vs zs) (g us ws)
variable {g : List Value → List Value → List Value} {gV : List V → List V → List V}
end



structure FnScope (N P : List Str) (sc : Scope) : Prop where
  kind : sc.kind = .function
  co : sc.isCoroutine = false
  gen : sc.isGenerator = false
  nd : N.Nodup
  pre : N.take P.length = P
  par : ∀ x ∈ P, sc.names.lookup x = some .local ∨ sc.names.lookup x = some .cell
  nofree : ∀ y ∈ sc.names, y.2 ≠ .free

theorem bindL_out {kindOf : Str → Option NameKind} {x : Str} : ∀ {binds : List (Str × Value)} {m : Str → Option Value}, (∀ v, (x, v) ∉ binds) → bindL kindOf binds m x = m x
  | [], _, _ => rfl
  | (n, v) :: r, m, h => by
    unfold bindL
    rw [bindL_out fun w hw => h w (List.mem_cons_of_mem _ hw)]
    split
    · have : x ≠ n := by rintro rfl; exact h v List.mem_cons_self
      simp [this]
    · rfl
theorem bindC_out {kindOf : Str → Option NameKind} {x : Str} : ∀ {binds : List (Str × Value)} {m : Str → Option Value}, (∀ v, (x, v) ∉ binds) → bindC kindOf binds m x = m x
  | [], _, _ => rfl
  | (n, v) :: r, m, h => by
    unfold bindC
    rw [bindC_out fun w hw => h w (List.mem_cons_of_mem _ hw)]
    split
    · rfl
    · have : x ≠ n := by rintro rfl; exact h v List.mem_cons_self
      simp [this]
theorem bindL_get {kindOf : Str → Option NameKind} {x : Str} {v : Value} : ∀ {P : List Str} {vs : List Value} {i : Nat} {m : Str → Option Value}, P.Nodup → P[i]? = some x → vs[i]? = some v → kindOf x = some .local →
    bindL kindOf (P.zip vs) m x = some v
  | [], _, _, _, _, h, _, _ => by simp at h
  | _ :: _, [], _, _, _, _, h, _ => by simp at h
  | p :: P, w :: vs, 0, m, nd, h1, h2, hk => by
    simp at h1 h2; subst h1; subst h2
    show bindL kindOf ((p, w) :: P.zip vs) m p = _
    unfold bindL
    rw [bindL_out fun v hv => (List.nodup_cons.mp nd).1 (List.of_mem_zip hv).1, if_pos hk]
    simp
  | p :: P, w :: vs, i + 1, m, nd, h1, h2, hk => by
    show bindL kindOf ((p, w) :: P.zip vs) m x = _
    unfold bindL
    exact bindL_get (i := i) (List.nodup_cons.mp nd).2 (by simpa using h1) (by simpa using h2) hk
theorem bindC_get {kindOf : Str → Option NameKind} {x : Str} {v : Value} : ∀ {P : List Str} {vs : List Value} {i : Nat} {m : Str → Option Value}, P.Nodup → P[i]? = some x → vs[i]? = some v → kindOf x ≠ some .local →
    bindC kindOf (P.zip vs) m x = some v
  | [], _, _, _, _, h, _, _ => by simp at h
  | _ :: _, [], _, _, _, _, h, _ => by simp at h
  | p :: P, w :: vs, 0, m, nd, h1, h2, hk => by
    simp at h1 h2; subst h1; subst h2
    show bindC kindOf ((p, w) :: P.zip vs) m p = _
    unfold bindC
    rw [bindC_out fun v hv => (List.nodup_cons.mp nd).1 (List.of_mem_zip hv).1, if_neg hk]
    simp
  | p :: P, w :: vs, i + 1, m, nd, h1, h2, hk => by
    show bindC kindOf ((p, w) :: P.zip vs) m x = _
    unfold bindC
    exact bindC_get (i := i) (List.nodup_cons.mp nd).2 (by simpa using h1) (by simpa using h2) hk


def start (N : List Str) (vs : List V) : St := vs.map some ++ List.replicate (N.length - vs.length) none


def cxOf (CX : CXT) (P : Program) (w : World) (K : PySem.W.Frag) (mg : Str → Option Value) (base : Heap) (N : List Str) (qual : Str) (scope : Scope) (f : Addr) (cd : Value) (A : Around) (outer : List Env) (s : Shared) (H : Hp) (E : XK) : Cx where
  prog := P
  w := w
  K := K
  mg := mg
  base := base
  A := A.deeper (envOfC qual scope s.heap.objs.size f cd)
  N := N
  s₀ := s
  H₀ := H
  env := envOfC qual scope s.heap.objs.size f cd
  outer := outer
  stack := envOfC qual scope s.heap.objs.size f cd :: outer
  ex := []
  calm := true
  fn := fun _ => true
  pn := []
  xe := fun e s' => wpAny (model P w) (A.deeper (envOfC qual scope s.heap.objs.size f cd)) (leaving (envOfC qual scope s.heap.objs.size f cd) e) (fun _ s'' => CX outer H s E e s'') (fun e' s'' => CX outer H s E e' s'') s'

theorem cell_has {sc : Scope} {n : Nat} {x : Str} (h : sc.names.lookup x = some .cell) : ∃ c, (cellsFrom n sc.names []).lookup x = some c := by
  have q := PySem.W.cellsFrom_some sc.names n [] (.inl h)
  exact Option.isSome_iff_exists.mp q

theorem inv_start {CX : CXT} {P : Program} {w : World} {K : PySem.W.Frag} {mg : Str → Option Value} {base : Heap} {N ps : List Str} {qual : Str} {scope : Scope} {f : Addr} {cd : Value} {A : Around} {outer : List Env} {s s1 : Shared} {H : Hp} {E : XK} {us : List Value} {vs : List V}
    (S : FnScope N ps scope) (hd : A.handled = none) (e0 : Env0 P w K mg base A outer s H) (hl : vs.length = ps.length) (r : Vals vs us)
    (x : InCallC s s.heap.objs.size (bindL (envOfC qual scope s.heap.objs.size f cd).kindOf (ps.zip us) fun _ => none) (cellsFrom (s.heap.objs.size + 1) scope.names []) (bindC (envOfC qual scope s.heap.objs.size f cd).kindOf (ps.zip us) fun _ => none) s1) :
    Inv (cxOf CX P w K mg base N qual scope f cd A outer s H E) [] (start N vs) H s1 := by
  have hpl : ps.length ≤ N.length := by have := congrArg List.length S.pre; rw [List.length_take] at this; omega
  obtain ⟨h1, tk, rfl, hk⟩ := x.done
  have noA : ∀ b : Addr, b ∉ (cxOf CX P w K mg base N qual scope f cd A outer s H E).ex := fun b z => absurd (show b ∈ ([] : List Addr) from z) (by simp)
  refine ⟨⟨e0.mod, S.kind, rfl, rfl, Nat.le_refl _, fun y z c h1 h2 => ?_, fun y hy => ?_, fun y c _ h => ?_, fun _ => hd, Around.frames_deeper e0.frames, .inr ⟨rfl, rfl⟩, fun b z => absurd z (noA b), e0.bs, e0.bsz, fun b _ _ => noA b, fun b z => absurd z (noA b), e0.funs, e0.frf⟩,
    rfl, e0.bare, Un.kept hk, ⟨_, x.toInCall.ns, fun i y v h1 h2 h3 => ?_⟩, fun y c h => ⟨_, x.cell y c h⟩, e0.hok.fresh (Nat.le_refl _), fun y c h => ?_, fun p hp => absurd (show p ∈ ([] : List (Addr × Obj)) from hp) (by simp), e0.hok.kept hk, ?_⟩
  · exact name_of_addr x.apart (PySem.mem_of_lookup h1) (PySem.mem_of_lookup h2)
  · have hy : scope.names.lookup y = some .cell ∨ scope.names.lookup y = some .free := hy
    rcases hy with hy | hy
    · exact cell_has hy
    · exact absurd rfl (S.nofree _ (PySem.mem_of_lookup hy))
  · exact Nat.le_of_lt (x.above y c (PySem.mem_of_lookup h))
  · have hi : i < vs.length := by
      unfold start at h2
      by_cases hi : i < vs.length
      · exact hi
      · rw [List.getElem?_append_right (by simpa using hi)] at h2
        rw [List.getElem?_replicate] at h2
        split at h2 <;> cases h2
    have ha : vs[i]? = some v := by
      unfold start at h2
      rw [List.getElem?_append_left (by simpa using hi), List.getElem?_map] at h2
      cases e : vs[i]? with
      | none => rw [e] at h2; cases h2
      | some a => rw [e] at h2; cases h2; rfl
    obtain ⟨u, hu, rv⟩ := r.get ha
    have hp : ps[i]? = some y := by
      rw [← S.pre, List.getElem?_take_of_lt (by omega)]; exact h1
    have ndP : ps.Nodup := by rw [← S.pre]; exact S.nd.sublist (List.take_sublist _ _)
    refine ⟨u, rv, ?_⟩
    rcases S.par y (List.mem_of_getElem? hp) with k | k
    · exact .inl ⟨k, bindL_get ndP hp hu k⟩
    · obtain ⟨c, e⟩ := cell_has (n := s.heap.objs.size + 1) k
      refine .inr ⟨.inl k, c, e, ?_⟩
      have q := x.cell y c e
      rw [bindC_get ndP hp hu (by show scope.names.lookup y ≠ _; rw [k]; decide)] at q
      exact q
  · exact e0.hok.fresh (Nat.le_of_lt (x.above y c (PySem.mem_of_lookup h)))
  · unfold start
    show _ = N.length
    rw [List.length_append, List.length_map, List.length_replicate]
    omega


theorem fn_of {CX : CXT} {P : Program} {w : World} {K : PySem.W.Frag} {mg : Str → Option Value} {base : Heap} {k : Nat} {f : Addr} {name qual : Str} {params : Arguments} {body : List Stmt} {scope : Scope} {dV kV doc pm cdv ct oc : Value} {an od : Option Addr}
    {osl : Array (Option Value)} {N ps : List Str} {sp : Sp} (lk : K.lookup f = some ⟨oc, od, .func (PySem.W.fnOf name qual params body scope dV kV doc pm an cdv ct), osl⟩) (hcd : PySem.W.codeIn K cdv qual = true) (S : FnScope N ps scope)
    (len : ∀ vs H Q E, sp vs H Q E → vs.length = ps.length)
    (hbody : ∀ (A : Around) (outer : List Env) (s : Shared) (H : Hp) (vs : List V) (Q : VK) (E : XK), Room k (A.deeper (envOfC qual scope s.heap.objs.size f cdv)) → sp vs H Q E →
      ∃ t, PSs (cxOf CX P w K mg base N qual scope f cdv A outer s H E) body t ∧ t { nx := fun _ H' => Q .non H', rt := Q } (start N vs) H) :
    FnOk P w K mg base CX (k + 1) f (PySem.W.fnOf name qual params body scope dV kV doc pm an cdv ct) ps sp := by
  refine ⟨len, fun A outer s H args us vs Q E hr e0 hb r hsp => ?_⟩
  have hl := len _ _ _ _ hsp
  have KX : K.In s.heap := e0.mod.kin.keeps fun b o e => (e0.bs b o e).1
  have lim : s.heap.NoLimit := e0.mod.nolimit.keeps fun b o e => (e0.bs b o e).1
  have hkind : ∀ y ∈ ps.zip us, scope.names.lookup y.1 = some .local ∨ (scope.names.lookup y.1 = some .cell ∧ ((cellsFrom (s.heap.objs.size + 1) scope.names []).lookup y.1).isSome = true) := fun ⟨n, v⟩ hy => by
    rcases S.par n (List.of_mem_zip hy).1 with q | q
    · exact .inl q
    · exact .inr ⟨q, PySem.W.cellsFrom_some _ _ _ (.inl q)⟩
  refine codeAny_call_function hr.depth (KX _ _ lk) rfl S.co S.gen rfl (PySem.W.codeRec_of KX hcd) (hb _ _ _ _ ?_)
  refine wpAny_newFunctionEnv_cells S.kind hkind fun env he s1 x => ?_
  subst he
  refine ⟨lim.keeps x.toInCall.keep, codeAny_func ?_⟩
  obtain ⟨t, ht, hq⟩ := hbody A outer s H vs Q E (hr.deeper _) hsp
  have I : Inv (cxOf CX P w K mg base N qual scope f cdv A outer s H E) [] (start N vs) H s1 := inv_start S hr.hd e0 hl r x
  refine wpAny_mono (ht [] s1 (start N vs) H _ I hq) (fun fl s' hs => ?_) fun e s' hs => hs
  have fin : ∀ {σ' : St} {H' : Hp} {v : V} {u : Value}, Inv (cxOf CX P w K mg base N qual scope f cdv A outer s H E) [] σ' H' s' → RelV v u → Q v H' → CE outer P w H s Q u s' :=
    fun {σ' H' v u} J rv q => ⟨v, H', J.os, J.bare, J.base, J.hok, rv, q⟩
  cases fl with
  | ret u =>
    obtain ⟨v, σ', H', J, rv, q⟩ := hs
    exact fin J rv q
  | next =>
    obtain ⟨σ', H', J, q⟩ := hs
    exact fin (v := V.non) (u := Value.none) J rfl q
  | brk =>
    obtain ⟨_, _, _, q⟩ := hs
    exact False.elim q
  | cont =>
    obtain ⟨_, _, _, q⟩ := hs
    exact False.elim q
end L2

namespace L2
open PySem PySem.Spec PyProof.Rows
section
variable {X : Cx} {x : Str} {p pos : Pos} {e : Expr} {es : List Expr} {t : TA} {id T : String} {r : List V → Hp → VK → Prop}

def tCB (r : List V → Hp → VK → Prop) (t : TA) : TE := fun σ H Q => t σ H fun vs H1 => r vs H1 Q

theorem pe_callB (hc : CallR X (.builtin id) r) (hg : Gl X x) (hm : X.mg x = none) (hv : bootBuiltins x = some (.builtin id)) (ha : PA X (e :: es) t) (hn : x ≠ "__name__" := by decide) (hdb : (x == ("__debug__" : Str)) = false := by decide)
    (he : starEach (e :: es) X.env = (false, eval e X.env) :: starEach es X.env := by rfl) (hpl : (backTo pos (starEach es X.env)).any (·.1) = false := by rfl) : PE X (.Call (.Name x p) (e :: es) [] pos) (tCB r t) := by
  intro pins s σ H Q I h
  refine wpAny_Call_Name_kw (ld_blt I hg hm hv ?_ hn hdb)
  exact PyProof.Rows.callWith_builtin1 (thn (ha pos pins s σ H _ I h) fun us s1 ⟨vs, H1, I1, r1, q1⟩ => hc pins s1 σ H1 vs us Q I1 r1 q1) he hpl

theorem pe_callTy (hc : CallR X (.type T) r) (hg : Gl X x) (hm : X.mg x = none) (hv : bootBuiltins x = some (.type T)) (ha : PA X (e :: es) t) (hn : x ≠ "__name__" := by decide) (hdb : (x == ("__debug__" : Str)) = false := by decide)
    (he : starEach (e :: es) X.env = (false, eval e X.env) :: starEach es X.env := by rfl) (hpl : (backTo pos (starEach es X.env)).any (·.1) = false := by rfl) : PE X (.Call (.Name x p) (e :: es) [] pos) (tCB r t) := by
  intro pins s σ H Q I h
  refine wpAny_Call_Name_kw (ld_blt I hg hm hv ?_ hn hdb)
  exact PyProof.Rows.callWith_type1 (thn (ha pos pins s σ H _ I h) fun us s1 ⟨vs, H1, I1, r1, q1⟩ => hc pins s1 σ H1 vs us Q I1 r1 q1) he hpl

end
end L2

namespace HT
open PySem PyProof.Rows


section
open PySem.SeqAt
open PySem.AutoSeq1 (wpAny_loadPart')
open PySem.MeetsSeq PySem.MeetsSeq2 PySem.MeetsSeq3

end

section
variable {prog : Program} {w : World} {A : Around} {E : Value → Shared → Prop} {s : Shared}

def sIx (n d : Nat) : Option Int → Nat
  | none => d
  | some v => if v < 0 then (v + (n : Int)).toNat else min v.toNat n
theorem sIx_nat (n d k : Nat) : sIx n d (some (k : Int)) = min k n := by
  show (if (k : Int) < 0 then ((k : Int) + (n : Int)).toNat else min (k : Int).toNat n) = min k n
  rw [if_neg (by omega), Int.toNat_natCast]
theorem sIx_le (n d : Nat) (hd : d ≤ n) (o : Option Int) : sIx n d o ≤ n := by
  cases o with
  | none => exact hd
  | some v =>
    show (if v < 0 then (v + (n : Int)).toNat else min v.toNat n) ≤ n
    by_cases hv : v < 0
    · rw [if_pos hv]; omega
    · rw [if_neg hv]; exact Nat.min_le_right _ _
theorem clip_eq (v : Int) (n d : Nat) : (if v < 0 then max (v + (n : Int)) 0 else min v (n : Int)) = ((sIx n d (some v) : Nat) : Int) := by
  show (if v < 0 then max (v + (n : Int)) 0 else min v (n : Int)) = (((if v < 0 then (v + (n : Int)).toNat else min v.toNat n) : Nat) : Int)
  by_cases hv : v < 0
  · simp only [if_pos hv]; omega
  · simp only [if_neg hv]; omega
theorem adjust_gen (lo hi : Option Int) (n : Nat) : Builtin.Slice.sliceAdjust lo hi 1 (n : Int) = (((sIx n 0 lo : Nat) : Int), ((sIx n n hi : Nat) : Int)) := by
  have h1 : ¬ ((1 : Int) < 0) := by omega
  unfold Builtin.Slice.sliceAdjust
  simp only [h1, if_false]
  refine Prod.ext ?_ ?_
  · cases lo with
    | none => rfl
    | some v => exact clip_eq v n 0
  · cases hi with
    | none => rfl
    | some v => exact clip_eq v n n
theorem places_gen (i j : Nat) : Builtin.Slice.slicePlaces (i : Int) (j : Int) 1 = j - i := by
  unfold Builtin.Slice.slicePlaces
  have h1 : (1 : Int) > 0 := by omega
  simp only [h1, if_true, Int.ediv_one]
  split <;> omega
theorem slicePart_ {v : Value} {o : Option Int} {Q : Option Int → Shared → Prop} (p : IsPart v o) (h : Q o s) : wpAny (model prog w) A (Builtin.Slice.slicePartIndex v) Q E s := by
  cases p with
  | none => exact slicePart_none h
  | int i t => exact slicePart_int h
theorem sliceApplied_gen {sl : Addr} {vl vu : Value} {lo hi : Option Int} {n : Nat} {Q : Int × Int × Nat → Shared → Prop} (hs : s.heap.IsSliceOf sl vl vu .none) (pl : IsPart vl lo) (pu : IsPart vu hi)
    (h : Q (((sIx n 0 lo : Nat) : Int), 1, sIx n n hi - sIx n 0 lo) s) : wpAny (model prog w) A (Builtin.Slice.sliceApplied (.ref sl) (pure (n : Int))) Q E s := by
  obtain ⟨os, hos, hcs, hds⟩ := id hs
  unfold Builtin.Slice.sliceApplied Builtin.Slice.sliceFields
  refine wpAny_bind (wpAny_bind (wpAny_field hos hds (x := vl) rfl (wpAny_bind (wpAny_field hos hds (x := vu) rfl (wpAny_bind (wpAny_field hos hds (x := .none) rfl (wpAny_pure ?_)))))))
  refine wpAny_bind (slicePart_none ?_)
  show wpAny _ _ (if ((1 : Int) == 0) = true then _ else _) _ _ s
  rw [if_neg (by decide)]
  refine wpAny_bind (slicePart_ pl (wpAny_bind (slicePart_ pu (wpAny_bind (wpAny_pure ?_)))))
  show wpAny _ _ (match Builtin.Slice.sliceAdjust lo hi 1 (n : Int) with | (lo, hi) => pure (lo, (1 : Int), Builtin.Slice.slicePlaces lo hi 1)) _ _ s
  rw [adjust_gen lo hi n]
  show wpAny _ _ (pure (((sIx n 0 lo : Nat) : Int), (1 : Int), Builtin.Slice.slicePlaces ((sIx n 0 lo : Nat) : Int) ((sIx n n hi : Nat) : Int) 1)) _ _ s
  rw [places_gen]
  exact wpAny_pure h
theorem pick_gen (xs : Array Value) (i k : Nat) : ((List.range k).filterMap fun (m : Nat) => xs[((i : Int) + (m : Int) * 1).toNat]?).toArray = ((xs.toList.drop i).take k).toArray := by
  have e : (fun (m : Nat) => xs[((i : Int) + (m : Int) * 1).toNat]?) = fun m => xs[i + m]? := by
    funext m
    have : ((i : Int) + (m : Int) * 1).toNat = i + m := by omega
    rw [this]
  rw [e]
  have := pick_run xs i k
  rw [List.filterMap_map] at this
  have e2 : ((fun x => xs[x]?) ∘ fun x => i + x) = fun m => xs[i + m]? := rfl
  rw [e2] at this
  rw [this]

theorem getItem_tuple_cut {t sl : Addr} {items : Array Value} {vl vu : Value} {lo hi : Option Int} {Q : Value → Shared → Prop} (ht : IsTup s.heap t items) (hs : s.heap.IsSliceOf sl vl vu .none) (pl : IsPart vl lo) (pu : IsPart vu hi)
    (hw : ¬ (sIx items.size 0 lo = 0 ∧ sIx items.size items.size hi = items.size))
    (h : Q (.ref s.heap.objs.size) { s with heap := s.heap.push { cls := .type "tuple", data := .seq ((items.toList.drop (sIx items.size 0 lo)).take (sIx items.size items.size hi - sIx items.size 0 lo)).toArray } })
    (hsz : items.size ≤ sizeLine) : wpAny (model prog w) A (getItem (.ref t) (.ref sl)) Q E s := by
  have htake : sizeOk (.seq ((items.toList.drop (sIx items.size 0 lo)).take (sIx items.size items.size hi - sIx items.size 0 lo)).toArray) := by
    show ((items.toList.drop (sIx items.size 0 lo)).take (sIx items.size items.size hi - sIx items.size 0 lo)).toArray.size ≤ sizeLine
    rw [List.size_toArray, List.length_take, List.length_drop, Array.length_toList]
    omega
  have hj : sIx items.size items.size hi ≤ items.size := sIx_le _ _ (Nat.le_refl _) hi
  obtain ⟨os, hos, hcs, hds⟩ := id hs
  have hTs : s.TypeIs (.ref sl) "slice" := ⟨os, hos, hcs⟩
  unfold getItem
  try with_reducible refine wpAny_holding ?_
  first | refine wpAny_bind (wpAny_pure ?_) | skip
  refine wpAny_bind (wpAny_sequenceKey ht.typeIs (by decide) ?_)
  refine wpAny_bind (wpAny_callSpecial?_slot (name := Str.ofString "__getitem__") ht.typeIs PyProof.Rows.slot_tuple_getitem
    (wpAny_call_entry PyProof.Rows.slot_tuple_getitem ht.typeIs entry_tuple_getitem ?_ (args_tuple_getitem _ _)))
  show wpAny _ _ (Builtin.Tuple.tupleItemsOf (.ref t) >>= _) _ _ s
  refine wpAny_bind (tupleItemsOf_ ht ?_)
  refine wpAny_bind (wpAny_typeOf hTs ?_)
  rw [if_pos (by decide)]
  refine wpAny_bind (sliceApplied_gen hs pl pu ?_)
  have hno : ¬ ((((sIx items.size 0 lo : Nat) : Int) == 0 && (1 : Int) == 1 && (sIx items.size items.size hi - sIx items.size 0 lo) == items.size) = true) := by
    intro q
    rw [Bool.and_eq_true, Bool.and_eq_true] at q
    have q1 : ((sIx items.size 0 lo : Nat) : Int) = 0 := eq_of_beq q.1.1
    have q2 : sIx items.size items.size hi - sIx items.size 0 lo = items.size := eq_of_beq q.2
    exact hw ⟨by omega, by omega⟩
  show wpAny _ _ (if (((sIx items.size 0 lo : Nat) : Int) == 0 && (1 : Int) == 1 && (sIx items.size items.size hi - sIx items.size 0 lo) == items.size) = true then _ else _) _ _ s
  rw [if_neg hno, pick_gen]
  first
    | exact wpAny_bind (m := Builtin.Tuple.tupleExact _) (wpAny_newObj_type (wpAny_pure ⟨_, rfl, wpAny_pure h⟩) htake)
    | exact wpAny_bind (m := Builtin.Tuple.tupleExact _) (wpAny_newObj_type (wpAny_bind (wpAny_pure (wpAny_pure ⟨_, rfl, wpAny_pure h⟩))) htake)
    | exact wpAny_bind (wpAny_bind (m := Builtin.Tuple.tupleExact _) (wpAny_newObj_type (wpAny_pure (wpAny_pure ⟨_, rfl, wpAny_pure h⟩)) htake))
    | exact wpAny_bind (wpAny_bind (m := Builtin.Tuple.tupleExact _) (wpAny_newObj_type (wpAny_pure ⟨_, rfl, wpAny_pure h⟩) htake))
end
end HT

namespace L2
open PySem PySem.Spec PyProof.Rows


abbrev TO := St → Hp → (Option Int → Hp → Prop) → Prop

def PO (X : Cx) (e : Option Expr) (t : TO) : Prop :=
  ∀ (pins : List (Addr × Obj)) (s : Shared) (σ : St) (H : Hp) (Q : Option Int → Hp → Prop), Inv X pins σ H s → t σ H Q →
    wpAny (model X.prog X.w) X.A (evalPart e X.env) (fun u s' => ∃ o H', Inv X pins σ H' s' ∧ IsPart u o ∧ Q o H') X.xe s
def tNoPart : TO := fun _ H Q => Q none H
def tPart (t : TE) : TO := fun σ H Q => t σ H fun x H1 => ∃ i, x = .int i ∧ Q (some i) H1

section
variable {X : Cx} {e : Expr} {te : TE} {lo hi : Option Expr} {tl th : TO} {pos p2 : Pos}

theorem po_none : PO X none tNoPart := by
  intro pins s σ H Q I h
  rw [evalPart_none]
  exact wpAny_pure ⟨none, H, I, .none, h⟩
theorem po_some (h : PE X e te) : PO X (some e) (tPart te) := by
  intro pins s σ H Q I hw
  rw [evalPart_some]
  refine thn (h pins s σ H _ I hw) fun u s1 ⟨x, H1, I1, r1, q1⟩ => ?_
  obtain ⟨i, rfl, q⟩ := q1
  obtain ⟨t, rfl⟩ := r1
  exact ⟨some i, H1, I1, .int i t, q⟩


def SlR (X : Cx) (r : V → Option Int → Option Int → Hp → VK → Prop) : Prop :=
  ∀ (pins : List (Addr × Obj)) (s : Shared) (σ : St) (H : Hp) (x : V) (v vl vu : Value) (lo hi : Option Int) (sl : Addr) (Q : VK), Inv X pins σ H s → RelV x v → s.heap.IsSliceOf sl vl vu .none → IsPart vl lo → IsPart vu hi → r x lo hi H Q →
    ∃ T id, typeLookup (.type T) "__getitem__" = pure (some (.builtin id)) ∧ s.TypeIs v T ∧ wpAny (model X.prog X.w) X.A (getItem v (.ref sl)) (EP X pins σ Q) X.xe s
def tSl (r : V → Option Int → Option Int → Hp → VK → Prop) (te : TE) (tl th : TO) : TE := fun σ H Q => te σ H fun x H1 => tl σ H1 fun l H2 => th σ H2 fun u H3 => r x l u H3 Q

theorem pe_slice {r : V → Option Int → Option Int → Hp → VK → Prop} (hr : SlR X r) (he : PE X e te) (hl : PO X lo tl) (hu : PO X hi th) : PE X (.Subscript e (.Slice lo hi none p2) pos) (tSl r te tl th) := by
  intro pins s σ H Q I h
  refine Subscript_ (thn (he pins s σ H _ I h) fun v s1 ⟨x, H1, I1, r1, q1⟩ => ?_)
  refine wpAny_Slice (thn (hl pins s1 σ H1 _ I1 q1) fun vl s2 ⟨l, H2, I2, pl, q2⟩ => thn (hu pins s2 σ H2 _ I2 q2) fun vu s3 ⟨u, H3, I3, pu, q3⟩ => ?_)
  rw [evalPart_none]
  refine wpAny_pure ?_
  have I4 : Inv X pins σ H3 { s3 with heap := s3.heap.push { cls := .type "slice", data := .fields #[vl, vu, .none] } } := I3.kept (t' := s3.toks) fun b ob q => Heap.get?_push_of_some _ q
  obtain ⟨T, id, hT, ht, hg⟩ := hr pins { s3 with heap := s3.heap.push { cls := .type "slice", data := .fields #[vl, vu, .none] } } σ H3 x v vl vu l u s3.heap.objs.size Q I4 r1 (Heap.IsSliceOf.new ..) pl pu q3
  show wpAny (model X.prog X.w) X.A (subscriptTail e (.Slice lo hi none p2) v (.ref s3.heap.objs.size)) (EP X pins σ Q) X.xe { s3 with heap := s3.heap.push { cls := .type "slice", data := .fields #[vl, vu, .none] } }
  exact tail_any (ops := [.ref s3.heap.objs.size, v]) ht hT hg (by with_unfolding_all rfl)


def cutV (xs : List V) (lo hi : Option Int) : List V := (xs.drop (HT.sIx xs.length 0 lo)).take (HT.sIx xs.length xs.length hi - HT.sIx xs.length 0 lo)
theorem cutV_length (xs : List V) (lo hi : Option Int) : (cutV xs lo hi).length ≤ xs.length := by
  unfold cutV
  rw [List.length_take, List.length_drop]
  omega

def rSlT (K : PySem.W.Frag) : V → Option Int → Option Int → Hp → VK → Prop := fun x lo hi H Q => ∃ a xs, x = .ref a ∧ SqT K H a xs ∧
  ¬ (HT.sIx xs.length 0 lo = 0 ∧ HT.sIx xs.length xs.length hi = xs.length) ∧ ∀ p, H p = none → Q (.ref p) (upd H p (.tup (cutV xs lo hi)))
theorem sl_tup : SlR X (rSlT X.K) := by
  intro pins s σ H x v vl vu lo hi sl Q I rx hs pl pu h
  obtain ⟨a, xs, rfl, hx, hw, q⟩ := h
  cases rx
  obtain ⟨its, r, ht, hz⟩ := I.tuple hx
  have hlen : its.toArray.size = xs.length := by rw [List.size_toArray]; exact r.length.symm
  refine ⟨"tuple", _, PyProof.Rows.slot_tuple_getitem.lookup, ht.typeIs, ?_⟩
  refine HT.getItem_tuple_cut ht hs pl pu (by rw [hlen]; exact hw) ?_ (by rw [hlen]; exact hz)
  rw [hlen]
  refine ⟨.ref s.heap.objs.size, _, I.laid (t' := s.toks) (o := .tup (cutV xs lo hi)) (fun b ob q => Heap.get?_push_of_some _ q) (Nat.le_refl _) ?_, rfl, q _ (I.hok.fresh (Nat.le_refl _))⟩
  exact ⟨Nat.le_trans (cutV_length xs lo hi) hz, _, (r.drop (HT.sIx xs.length 0 lo)).take (HT.sIx xs.length xs.length hi - HT.sIx xs.length 0 lo), IsTup.new _ _⟩


end
end L2

namespace L2
open PySem PySem.Spec PyProof.Rows



def ixN (n : Nat) (i : Int) : Option Nat := if 0 ≤ i then (if i < n then some i.toNat else none) else if -(n : Int) ≤ i then some (i + n).toNat else none
def atI {α : Type} (xs : List α) (i : Int) : Option α := (ixN xs.length i).bind fun j => xs[j]?
theorem ixN_seq {n : Nat} {i : Int} {j : Nat} (h : ixN n i = some j) : seqIndex? i n = some j ∧ j < n ∧ -(n : Int) ≤ i ∧ i < n := by
  unfold ixN at h
  by_cases h0 : 0 ≤ i
  · rw [if_pos h0] at h
    by_cases h1 : i < n
    · rw [if_pos h1] at h
      have e : i.toNat = j := Option.some.inj h
      exact ⟨by rw [seqIndex_of h0 h1, e], by omega, by omega, h1⟩
    · rw [if_neg h1] at h; cases h
  · rw [if_neg h0] at h
    by_cases h1 : -(n : Int) ≤ i
    · rw [if_pos h1] at h
      have e : (i + n).toNat = j := Option.some.inj h
      exact ⟨by rw [seqIndex_neg (by omega) h1, e], by omega, h1, by omega⟩
    · rw [if_neg h1] at h; cases h
theorem atI_get {α : Type} {xs : List α} {i : Int} {v : α} (h : atI xs i = some v) : ∃ j, seqIndex? i xs.length = some j ∧ xs[j]? = some v ∧ j < xs.length ∧ -(xs.length : Int) ≤ i ∧ i < xs.length := by
  unfold atI at h
  cases e : ixN xs.length i with
  | none => rw [e] at h; cases h
  | some j =>
    rw [e] at h
    obtain ⟨h1, h2, h3, h4⟩ := ixN_seq e
    exact ⟨j, h1, h, h2, h3, h4⟩
theorem atI_nat {α : Type} {xs : List α} {j : Nat} {v : α} (h : xs[j]? = some v) : atI xs (j : Int) = some v := by
  have hj : j < xs.length := (List.getElem?_eq_some_iff.mp h).1
  have e : ixN xs.length (j : Int) = some j := by
    unfold ixN
    rw [if_pos (by omega), if_pos (by omega)]; simp
  unfold atI; rw [e]; exact h
def PlainIx (b : Expr) : Prop := ∀ o i, subscripted b false o i = operate [o, i] (getItem o i)

def IxR (X : Cx) (r : R2) : Prop :=
  ∀ (value slice : Expr) (pins : List (Addr × Obj)) (s : Shared) (σ : St) (H : Hp) (x y : V) (v u : Value) (Q : VK), Inv X pins σ H s → RelV x v → RelV y u → r x y H Q →
    subscripted slice false v u = operate [v, u] (getItem v u) → wpAny (model X.prog X.w) X.A (subscriptTail value slice v u) (EP X pins σ Q) X.xe s

def MtR (X : Cx) (id : String) (r : V → List V → Hp → VK → Prop) : Prop :=
  ∀ (pins : List (Addr × Obj)) (s : Shared) (σ : St) (H : Hp) (x : V) (xs : List V) (v : Value) (us : List Value) (Q : VK), Inv X pins σ H s → RelV x v → Vals xs us → r x xs H Q →
    wpAny (model X.prog X.w) X.A (call (.builtin id) (v :: us)) (EP X pins σ Q) X.xe s
section
variable {X : Cx} {a b : Expr} {ta tb : TE} {pos : Pos}
theorem pe_ix {r : R2} (hr : IxR X r) (ha : PE X a ta) (hb : PE X b tb) (hs : PlainIx b) : PE X (.Subscript a b pos) (tOp r ta tb) := by
  intro pins s σ H Q I h
  exact Subscript_ (binT ha hb I h fun v u s2 x y H2 I2 rx ry q => hr a b pins s2 σ H2 x y v u Q I2 rx ry q (hs _ _))

def rIxL (K : PySem.W.Frag) : R2 := fun x y H Q => ∃ p xs i v, x = .ref p ∧ y = .int i ∧ SqL K H p xs ∧ atI xs i = some v ∧ Q v H
def rIxT (K : PySem.W.Frag) : R2 := fun x y H Q => ∃ p xs i v, x = .ref p ∧ y = .int i ∧ SqT K H p xs ∧ atI xs i = some v ∧ Q v H
theorem ix_list : IxR X (rIxL X.K) := by
  intro value slice pins s σ H x y v u Q I rx ry h hs
  obtain ⟨p, xs, i, z, rfl, rfl, hq, he, q⟩ := h
  cases rx
  obtain ⟨t, rfl⟩ := ry
  obtain ⟨its, r, pl, hz⟩ := I.list hq
  obtain ⟨j, h1, h2, h3, h4, h5⟩ := atI_get he
  obtain ⟨w, ew, rw'⟩ := r.get h2
  have hl := r.length
  have hn := line63
  have fin : EP X pins σ Q w s := ⟨z, H, I, rw', q⟩
  by_cases h0 : 0 ≤ i
  · have hj : i.toNat = j := by
      rw [seqIndex_of h0 h5] at h1
      exact Option.some.inj h1
    exact item_listR pl.isList h0 (by omega) (by rw [hj]; simpa using ew) fin hs
  · have hj : (i + (its.toArray.size : Int)).toNat = j := by
      rw [seqIndex_neg (by omega) h4] at h1
      rw [List.size_toArray, ← hl]
      exact Option.some.inj h1
    exact subscriptTail_builtinR (x := w) pl.isList.typeIs slot_list_getitem.lookup
      (wpAny_getItem_list_neg (Q := fun r s' => r = w ∧ EP X pins σ Q r s') pl.isList (by omega) (by rw [List.size_toArray] <;> omega) (by omega) (by rw [hj]; simpa using ew) ⟨rfl, fin⟩) hs
theorem ix_tup : IxR X (rIxT X.K) := by
  intro value slice pins s σ H x y v u Q I rx ry h hs
  obtain ⟨p, xs, i, z, rfl, rfl, hq, he, q⟩ := h
  cases rx
  obtain ⟨t, rfl⟩ := ry
  obtain ⟨its, r, pl, hz⟩ := I.tuple hq
  obtain ⟨j, h1, h2, h3, h4, h5⟩ := atI_get he
  obtain ⟨w, ew, rw'⟩ := r.get h2
  have hl := r.length
  have hn := line63
  have fin : EP X pins σ Q w s := ⟨z, H, I, rw', q⟩
  exact subscriptTail_builtinR (x := w) pl.typeIs slot_tuple_getitem.lookup
    (getItem_tuple (j := j) (Q := fun r s' => r = w ∧ EP X pins σ Q r s') pl (by omega) (by omega) (by rw [List.size_toArray, ← hl]; exact h1) (by simpa using ew) ⟨rfl, fin⟩) hs
theorem slice_bounds (lo hi : Option Int) (n : Nat) : (sliceBounds lo hi none n).1 = ((HT.sIx n 0 lo : Nat) : Int) ∧ (sliceBounds lo hi none n).2.1 = ((HT.sIx n n hi : Nat) : Int) ∧ (sliceBounds lo hi none n).2.2 = 1 := by
  refine ⟨?_, ?_, rfl⟩
  · cases lo with
    | none => simp [sliceBounds, HT.sIx]
    | some i =>
      simp only [sliceBounds, HT.sIx, Option.getD_none, show (1 : Int) > 0 by decide, if_true]
      by_cases h : i < 0
      · simp only [h, if_true] <;> omega
      · simp only [h, if_false] <;> omega
  · cases hi with
    | none => simp [sliceBounds, HT.sIx]
    | some i =>
      simp only [sliceBounds, HT.sIx, Option.getD_none, show (1 : Int) > 0 by decide, if_true]
      by_cases h : i < 0
      · simp only [h, if_true] <;> omega
      · simp only [h, if_false] <;> omega
theorem slicePick_cut (its : List Value) (lo hi : Option Int) : slicePick its.toArray lo hi none = ((its.drop (HT.sIx its.length 0 lo)).take (HT.sIx its.length its.length hi - HT.sIx its.length 0 lo)).toArray := by
  obtain ⟨h1, h2, h3⟩ := slice_bounds lo hi its.toArray.size
  unfold slicePick
  rw [h1, h2, h3]
  simp only [sliceRange_one, pick_run, List.size_toArray] <;> rfl

def rSlL (K : PySem.W.Frag) : V → Option Int → Option Int → Hp → VK → Prop := fun x lo hi H Q => ∃ a xs, x = .ref a ∧ SqL K H a xs ∧ ∀ p, H p = none → Q (.ref p) (upd H p (.lst (cutV xs lo hi)))
theorem sl_list : SlR X (rSlL X.K) := by
  intro pins s σ H x v vl vu lo hi sl Q I rx hs pl pu h
  obtain ⟨a, xs, rfl, hx, q⟩ := h
  cases rx
  obtain ⟨its, r, ht, hz⟩ := I.list hx
  have hlen := r.length
  refine ⟨"list", _, slot_list_getitem.lookup, ht.isList.typeIs, ?_⟩
  refine wpAny_getItem_list_slice ht.isList hs pl pu .none (by simp) ?_ (by rw [List.size_toArray] <;> omega)
  rw [slicePick_cut, ← hlen]
  refine ⟨.ref s.heap.objs.size, _, I.laid (t' := s.toks) (o := .lst (cutV xs lo hi)) (fun b ob q => Heap.get?_push_of_some _ q) (Nat.le_refl _) ?_, rfl, q _ (I.hok.fresh (Nat.le_refl _))⟩
  exact ⟨Nat.le_trans (cutV_length xs lo hi) hz, _, 0, (r.drop (HT.sIx xs.length 0 lo)).take (HT.sIx xs.length xs.length hi - HT.sIx xs.length 0 lo), Heap.get?_push_size _ rfl⟩


def flatV : V → Bool
  | .non => true
  | .bl _ => true
  | .int _ => true
  | .str _ => true
  | _ => false

def eqV : V → V → Bool
  | .non, .non => true
  | .bl a, .bl b => a == b
  | .bl a, .int b => (if a then 1 else 0) == b
  | .int a, .bl b => a == (if b then 1 else 0)
  | .int a, .int b => a == b
  | .str a, .str b => a == b
  | _, _ => false
theorem eqAt_V {A : Around} {s : Shared} {y x : V} {u v : Value} (ry : RelV y u) (rx : RelV x v) (fy : flatV y = true) (fx : flatV x = true) : SeqAt.EqAt A s u v (eqV y x) := by
  cases y with
  | non =>
    cases ry
    cases x with
    | non => cases rx; exact SeqAt.EqAt.same _
    | bl b => cases rx; exact SeqAt.EqAt.none_bool b
    | int b => obtain ⟨t, rfl⟩ := rx; exact SeqAt.EqAt.none_int b t
    | str b => obtain ⟨t, rfl⟩ := rx; exact SeqAt.EqAt.none_str b t
    | _ => exact absurd (show false = true from fx) Bool.false_ne_true
  | bl a =>
    cases ry
    cases x with
    | non => cases rx; exact SeqAt.EqAt.bool_none a
    | bl b => cases rx; exact SeqAt.EqAt.bool_bool a b
    | int b => obtain ⟨t, rfl⟩ := rx; exact SeqAt.EqAt.bool_int a b t
    | str b => obtain ⟨t, rfl⟩ := rx; exact SeqAt.EqAt.bool_str a b t
    | _ => exact absurd (show false = true from fx) Bool.false_ne_true
  | int a =>
    obtain ⟨t', rfl⟩ := ry
    cases x with
    | non => cases rx; exact SeqAt.EqAt.int_none a t'
    | bl b => cases rx; exact SeqAt.EqAt.int_bool a t' b
    | int b => obtain ⟨t, rfl⟩ := rx; exact SeqAt.EqAt.int_int a t' b t
    | str b => obtain ⟨t, rfl⟩ := rx; exact SeqAt.EqAt.int_str a t' b t
    | _ => exact absurd (show false = true from fx) Bool.false_ne_true
  | str a =>
    obtain ⟨t', rfl⟩ := ry
    cases x with
    | non => cases rx; exact SeqAt.EqAt.str_none a t'
    | bl b => cases rx; exact SeqAt.EqAt.str_bool a t' b
    | int b => obtain ⟨t, rfl⟩ := rx; exact SeqAt.EqAt.str_int a t' b t
    | str b => obtain ⟨t, rfl⟩ := rx; exact SeqAt.EqAt.str_str a t' b t
    | _ => exact absurd (show false = true from fx) Bool.false_ne_true
  | _ => exact absurd (show false = true from fy) Bool.false_ne_true

def eqU (x : V) (u : Value) : Bool := match u with
  | .none => eqV .non x
  | .bool b => eqV (.bl b) x
  | .int i _ => eqV (.int i) x
  | .str z _ => eqV (.str z) x
  | _ => false
theorem eqU_of {x y : V} {u : Value} (r : RelV y u) (f : flatV y = true) : eqU x u = eqV y x := by
  cases y with
  | non => cases r; rfl
  | bl b => cases r; rfl
  | int i => obtain ⟨t, rfl⟩ := r; rfl
  | str z => obtain ⟨t, rfl⟩ := r; rfl
  | _ => exact absurd (show false = true from f) Bool.false_ne_true
theorem any_eqU {x : V} : ∀ {xs : List V} {us : List Value}, Vals xs us → xs.all flatV = true → us.any (eqU x) = xs.any fun y => eqV y x
  | _, _, .nil, _ => rfl
  | y :: xs, u :: us, .cons r t, f => by
    rw [List.all_cons, Bool.and_eq_true] at f
    rw [List.any_cons, List.any_cons, eqU_of r f.1, any_eqU t f.2]
theorem mem_eqAt {A : Around} {s : Shared} {x : V} {v : Value} (rx : RelV x v) (fx : flatV x = true) : ∀ {xs : List V} {us : List Value}, Vals xs us → xs.all flatV = true → ∀ u ∈ us, SeqAt.EqAt A s u v (eqU x u)
  | _, _, .nil, _ => fun u hu => by cases hu
  | y :: xs, u :: us, .cons r t, f => fun u' hu => by
    rw [List.all_cons, Bool.and_eq_true] at f
    rcases List.mem_cons.mp hu with rfl | hu
    · rw [eqU_of r f.1]; exact eqAt_V r rx f.1 fx
    · exact mem_eqAt rx fx t f.2 u' hu
def inV (x : V) (xs : List V) : Bool := xs.any fun y => eqV y x

def rIn (K : PySem.W.Frag) (neg : Bool) : R2 := fun x y H Q => ∃ p xs, y = .ref p ∧ (SqL K H p xs ∨ SqT K H p xs) ∧ flatV x = true ∧ xs.all flatV = true ∧ Q (.bl (if neg then !inV x xs else inV x xs)) H
theorem op_notIn_seq : OpR X (compareOp .NotIn) (rIn X.K true) := by
  intro pins s σ H x y v u Q I rx ry h
  obtain ⟨p, xs, rfl, hq, fx, fs, q⟩ := h
  cases ry
  rcases hq with hq | hq
  · obtain ⟨its, r, pl, hz⟩ := I.list hq
    refine SeqAt.notIn_listAt (eqU x) pl.isList (fun w hw => mem_eqAt rx fx r fs w (by simpa using hw)) ⟨.bl _, H, I, rfl, ?_⟩
    rw [show its.toArray.any (eqU x) = its.any (eqU x) by simp, any_eqU r fs]
    exact q
  · obtain ⟨its, r, pl, hz⟩ := I.tuple hq
    refine SeqAt.notIn_tupleAt (eqU x) pl (fun w hw => mem_eqAt rx fx r fs w (by simpa using hw)) ⟨.bl _, H, I, rfl, ?_⟩
    rw [show its.toArray.any (eqU x) = its.any (eqU x) by simp, any_eqU r fs]
    exact q
theorem call_len_seq : CallR X (.builtin "len") (fun xs H Q => ∃ p ys, xs = [.ref p] ∧ (SqL X.K H p ys ∨ SqT X.K H p ys) ∧ Q (.int ys.length) H) := by
  intro pins s σ H xs us Q I r h
  obtain ⟨p, ys, rfl, hq, q⟩ := h
  obtain ⟨u, rfl, rx⟩ := vals1 r
  cases rx
  have hn := line63
  rcases hq with hq | hq
  · obtain ⟨its, r', pl, hz⟩ := I.list hq
    have hlen := r'.length
    exact Calls.call_len_list pl.isList (by simp only [List.size_toArray] <;> omega) ⟨.int ys.length, H, I.tok _, ⟨s.toks + 1, by rw [List.size_toArray, hlen]⟩, q⟩
  · obtain ⟨its, r', pl, hz⟩ := I.tuple hq
    have hlen := r'.length
    exact len_tuple pl (by simp only [List.size_toArray] <;> omega) ⟨.int ys.length, H, I.tok _, ⟨s.toks + 1, by rw [List.size_toArray, hlen]⟩, q⟩
theorem call_len_str : CallR X (.builtin "len") (fun xs H Q => ∃ z, xs = [.str z] ∧ z.length ≤ sizeLine ∧ Q (.int z.length) H) := by
  intro pins s σ H xs us Q I r h
  obtain ⟨z, rfl, hz, q⟩ := h
  obtain ⟨u, rfl, t, rfl⟩ := vals1 r
  have hn := line63
  exact len_str (by omega) ⟨.int z.length, H, I.tok _, ⟨_, rfl⟩, q⟩
def tyV (K : PySem.W.Frag) (T : String) (x : V) (H : Hp) : Prop := match x with
  | .str _ => T = "str"
  | .int _ => T = "int"
  | .ref p => (T = "list" ∧ ∃ xs, SqL K H p xs) ∨ (T = "tuple" ∧ ∃ o, K.lookup p = some o ∧ o.cls = .type "tuple" ∧ o.dict = none) ∨
      (T = "dict" ∧ ((∃ kvs, H p = some (.dK kvs)) ∨ ∃ kvs, H p = some (.dT kvs))) ∨ (T = "set" ∧ ∃ S n, H p = some (.set S n))
  | _ => False
theorem tyV_is {pins : List (Addr × Obj)} {σ : St} {H : Hp} {s : Shared} {T : String} {x : V} {v : Value} (I : Inv X pins σ H s) (r : RelV x v) (ty : tyV X.K T x H) :
    s.TypeIs v T ∧ ∀ a, v = .ref a → ∃ ob, s.heap.get? a = some ob ∧ ob.dict = none := by
  cases x with
  | str z =>
    obtain ⟨t, rfl⟩ := r
    cases (show T = "str" from ty)
    exact ⟨typeIs_str s z t, fun _ e => nomatch e⟩
  | int i =>
    obtain ⟨t, rfl⟩ := r
    cases (show T = "int" from ty)
    exact ⟨typeIs_int s i t, fun _ e => nomatch e⟩
  | ref p =>
    cases r
    rcases ty with ⟨rfl, xs, hq⟩ | ⟨rfl, o, hk, hc, hd⟩ | ⟨rfl, hk⟩ | ⟨rfl, S, n, hk⟩
    · obtain ⟨its, _, pl, _⟩ := I.list hq
      refine ⟨pl.isList.typeIs, fun a e => ?_⟩
      cases e
      obtain ⟨o, n, e, c, hd, _⟩ := pl
      exact ⟨o, e, hd⟩
    · refine ⟨⟨o, I.kIn p o hk, hc⟩, fun a e => ?_⟩
      cases e
      exact ⟨o, I.kIn _ o hk, hd⟩
    · have z : ∃ o, s.heap.get? p = some o ∧ o.ExactDict := by
        rcases hk with ⟨kvs, hk⟩ | ⟨kvs, hk⟩
        · obtain ⟨_, _, _, _, o, _, _, e, ex, _⟩ := I.hok p _ hk
          exact ⟨o, e, ex⟩
        · obtain ⟨_, _, _, _, o, _, _, e, ex, _⟩ := I.hok p _ hk
          exact ⟨o, e, ex⟩
      obtain ⟨o, e, ex⟩ := z
      refine ⟨⟨o, e, ex.1⟩, fun a e2 => ?_⟩
      cases e2
      exact ⟨o, e, ex.2.1⟩
    · obtain ⟨o, _, _, _, e, ex, _⟩ := I.hok p _ hk
      refine ⟨⟨o, e, ex.1⟩, fun a e2 => ?_⟩
      cases e2
      exact ⟨o, e, ex.2.1⟩
  | _ => exact False.elim ty
def tBM (K : PySem.W.Frag) (T : String) (r : V → List V → Hp → VK → Prop) (to : TE) (t : TA) : TE := fun σ H Q => to σ H fun x H1 => tyV K T x H1 ∧ t σ H1 fun xs H2 => r x xs H2 Q
variable {o e : Expr} {es : List Expr} {to : TE} {t : TA} {name : Str} {apos cpos : Pos} {T id : String} {r : V → List V → Hp → VK → Prop}
theorem pe_bm (pa : PlainAttrs T) (slot : Slot T name id) (hty : typeOf (.builtin id) = pure (.type "method_descriptor")) (hm : MtR X id r) (ho : PE X o to) (ha : PA X (e :: es) t)
    (hbase : attributeBase o name X.env (eval o X.env) = eval o X.env := by rfl)
    (hfew : ((backTo cpos (starEach (e :: es) X.env)).all (fun x => !x.1) && (backToKw cpos (keywordEach [] X.env)).all (fun x => x.1.isSome)
      && decide ((e :: es).length + ([] : List Keyword).length + (if ([] : List Keyword).isEmpty then 0 else 1) < 30)) = true := by rfl)
    (hline : (apos.endLine == cpos.line) = true := by rfl) (hs : starEach (e :: es) X.env = (false, eval e X.env) :: starEach es X.env := by rfl) (hplain : (backTo cpos (starEach es X.env)).any (·.1) = false := by rfl) :
    PE X (.Call (.Attribute o name apos) (e :: es) [] cpos) (tBM X.K T r to t) := by
  intro pins s σ H Q I h
  refine wpAny_Call_method_late hbase hfew hline rfl (thn (ho pins s σ H _ I h) fun v s1 ⟨x, H1, I1, r1, ty, q1⟩ => ?_)
  obtain ⟨h1, h2⟩ := tyV_is I1 r1 ty
  refine ⟨T, id, pa, slot, hty, h1, h2, ?_⟩
  have hA := ha cpos pins s1 σ H1 _ I1 q1
  rw [hs] at hA ⊢
  refine Calls.callWith_builtin (by show (false || (backTo cpos (starEach es X.env)).any (·.1)) = false; rw [hplain] <;> rfl) (Calls.evalArgs_plain ?_)
  exact thn hA fun us s2 ⟨vs, H2, I2, r2, q2⟩ => hm pins s2 σ H2 x vs v us Q I2 r1 r2 q2

end
end L2

namespace L2
open PySem PySem.Spec PyProof.Rows

def MtM (X : Cx) (id : String) (r : V → List V → Hp → VK → Prop) : Prop :=
  ∀ (pins : List (Addr × Obj)) (s : Shared) (σ : St) (H : Hp) (x : V) (xs : List V) (v : Value) (us : List Value) (Q : VK), Inv X pins σ H s → RelV x v → Vals xs us → r x xs H Q →
    wpAny (model X.prog X.w) X.A (call (.builtin id) (v :: us)) (EP X pins σ Q) X.xe s


theorem Vals.one : ∀ {x : V} {us : List Value}, Vals [x] us → ∃ u, us = [u] ∧ RelV x u
  | _, _, .cons r .nil => ⟨_, rfl, r⟩
section
variable {X : Cx} {pins : List (Addr × Obj)} {σ : St} {H : Hp} {s : Shared} {l b : Addr} {xs ys zs : List V}


theorem Inv.lset {its its' : List Value} {n : Nat} {f : Array Value → Array Value} {t' : Nat} (I : Inv X pins σ H s) (hH : H l = some (.lst xs))
    (e : s.heap.get? l = some { cls := .type "list", data := .seq its.toArray n }) (hf : f its.toArray = its'.toArray) (hv : Vals ys its') (hz : ys.length ≤ sizeLine) :
    Inv X pins σ (upd H l (.lst ys)) { s with heap := s.heap.update l (Obj.mapSeq f), toks := t' } := by
  have q := PySem.IsL.update e f
  rw [hf] at q
  refine I.write (x := l) (e := l) (by rw [hH]; exact trivial) (.inl rfl) (fun b' u hb hu => (Heap.get?_update_other s.heap (Obj.mapSeq f) (Ne.symm hb)).trans hu) ⟨_, q⟩ ?_
  exact ⟨hz, its', _, hv, q⟩
theorem Inv.fresh (I : Inv X pins σ H s) : H s.heap.objs.size = none := I.hok.fresh (Nat.le_refl _)
theorem Inv.lstM (I : Inv X pins σ H s) (hH : H l = some (.lst xs)) : xs.length ≤ sizeLine ∧ ∃ (its : List Value) (n : Nat), Vals xs its ∧ xs.length = its.length ∧ s.heap.get? l = some { cls := .type "list", data := .seq its.toArray n } := by
  obtain ⟨z, its, n, r, e⟩ := I.hok l _ hH
  exact ⟨z, its, n, r, r.length, e⟩

end

section
variable {X : Cx}


def rAppend : V → List V → Hp → VK → Prop := fun x vs H Q => ∃ l xs y, x = .ref l ∧ vs = [y] ∧ H l = some (.lst xs) ∧ xs.length < sizeLine ∧ Q .non (upd H l (.lst (xs ++ [y])))
theorem mt_append : MtM X "list.append" rAppend := by
  intro pins s σ H x vs v us Q I rx rv h
  obtain ⟨l, xs, y, rfl, rfl, hH, hz, q⟩ := h
  cases rx
  obtain ⟨u, rfl, ru⟩ := rv.one
  obtain ⟨z, its, n, r, hl, e⟩ := I.lstM hH
  refine call_meets F.slot_list_append ⟨_, e, rfl⟩ F.entry_list_append (F.args_list_append_2 _ _) (PySem.list_append l its.toArray n u (by rw [List.size_toArray]; omega)) ⟨e, ?_⟩
  refine ⟨.non, _, I.lset (its' := its ++ [u]) hH e (by simp) (r.append (.cons ru .nil)) ?_, rfl, q⟩
  rw [List.length_append, List.length_singleton]
  omega

end


section
variable {prog : Program} {w : World} {A : Around} {E : Value → Shared → Prop} {s : Shared}
end

section
variable {X : Cx}

end
end L2

namespace Att
open PySem PySem.W PySem.Calls PyProof.Rows


theorem ints_of_wellAll {P : Params} {h : Heap} : ∀ (ns : List Int) (vs : List Value), WellAll P h vs (ns.map WData.int) → IntsAre vs ns := by
  intro ns
  induction ns with
  | nil =>
    intro vs w
    rw [List.map_nil] at w
    cases w
    exact .nil
  | cons n ns ih =>
    intro vs w
    rw [List.map_cons] at w
    cases w with
    | cons a b =>
      cases a
      exact .cons _ _ (ih _ b)

theorem script_of {l : OpenLaw} {n : Nat} (hn : l.most = some n) {P : Params} {h : Heap} {args : List WData} {vals : List Value}
    (hpre : l.row.toRowW.claim.pre args = true) (hwl : WellAll P h vals args) :
    ∃ a vs ns, vals = [Value.ref a] ∧ args = [WData.list (ns.map WData.int)] ∧ h.get? a = some { cls := .type "list", data := .seq vs.toArray } ∧ IntsAre vs ns ∧ ns.length ≤ n := by
  have hsh : WShape.hasAll [] args [.list .int] = true := (pre_splitW hpre).1
  have hc : l.pre.holds [] { args := args } = true := (pre_splitW hpre).2
  obtain ⟨d, r, rfl, h1, h2⟩ := hasAllW_cons hsh
  obtain rfl := hasAllW_nil h2
  obtain ⟨xs, rfl, h3⟩ := hasW_list h1
  obtain ⟨ns, rfl⟩ := items_int h3
  have hlen : ns.length ≤ n := by
    unfold OpenLaw.pre at hc
    have h4 : (WTm.not (.lt (.lit (.int (n : Int))) (.len (.arg 0)))).holds [] { args := [.list (ns.map .int)] } = true := by
      have h4 := (holds_andW hc).1
      rw [hn] at h4
      exact h4
    have h5 := condW_of h4 (w_not (w_lt w_lit (w_len_list (w_arg rfl))))
    rw [List.length_map] at h5
    refine Nat.le_of_not_lt fun q => ?_
    have q' : (n : Int) < ((ns.length : Nat) : Int) := by omega
    first
      | (rw [decide_eq_true q'] at h5; exact absurd h5 (by decide))
      | (simp at h5; omega)
  cases hwl with
  | cons w1 w2 =>
    cases w2
    cases w1 with
    | list ho hall => exact ⟨_, _, ns, rfl, rfl, ho, ints_of_wellAll ns _ hall, hlen⟩

theorem post_true (l : OpenLaw) (args : List WData) : l.row.toRowW.claim.post args (.bool true) args = true :=
  postW_of (r := l.row.toRowW) (X := (true == true))
    (show WShape.has [] (.bool true) .bool = true by first | rfl | decide | simp [WShape.has, WShape.arms, WShape.armsAll])
    (show (WTm.eq .res (.lit (.bool true))).value [] { args := args, res := some (.bool true), after := args } = some (.bool (true == true)) from w_eq_bool (w_res rfl) w_lit) rfl


theorem attach_call {l : OpenLaw} {n : Nat} {q : Program} {loose : List Str} {XP : (Str → Option Value) → Heap → Prop} {YP : World → Heap → Prop} {d : DefRec}
    (hn : l.most = some n) (hdf : d.params.defaults = [])
    (call : ∀ (w : World) (s₀ s₁ : Shared) (mg mb : Str → Option Value) (fa : Addr) (o : Obj) (pm cd doc : Value) (a : Addr) (vs : List Value) (ns : List Int),
      Ground q loose [] XP w s₀ mg mb s₁.heap → YP w s₁.heap →
      s₁.heap.get? fa = some o → o.data = .func (docDef d.name d.params d.body d.scope pm cd doc) → s₁.heap.CodeRec cd d.name → mg d.name = some (.ref fa) →
      s₁.heap.get? a = some { cls := .type "list", data := .seq vs.toArray } → IntsAre vs ns → ns.length ≤ n → s₁.gens = #[] →
      codeAny (model l.prog w) callerA (.call (.ref fa) ⟨[.ref a], []⟩) (fun r s' => r = .ok (.ret (.bool true)) ∧ OldK s₁.heap s'.heap ∧ s'.os = s₁.os ∧ AllBare s'.gens) s₁) :
    WalkO q loose XP YP l.row.toRowW d [] (fun f vs => PySem.call f vs) := by
  intro w s₀ s₁ mg mb G Y fa o pm cd doc dV kV ho hd hcd hD hmg hg args vals as hpre hlay hrd hwl hlo
  obtain rfl : dV = .none := Dflts.none hD hdf
  obtain rfl : kV = .none := Dflts.noKw hD
  obtain ⟨a, vs, ns, rfl, rfl, hobj, hints, hlen⟩ := script_of hn hpre hwl
  refine enter_call (codeAny_mono (call w s₀ s₁ mg mb fa o pm cd doc a vs ns G Y ho (fd_plain hd) hcd hmg hobj hints hlen hg) fun r s' hq => ?_)
  obtain ⟨rfl, h2, h3, h4⟩ := hq
  exact ⟨.inl ⟨.bool true, .bool true, [], rfl, fun _ => rfl, .bool true, post_true l _, fun _ => ⟨List.Pairwise.nil, fun _ hm => (nomatch hm)⟩⟩, h2, h3, h4⟩


section
variable {prog : Program} {w : World} {A : Around} {E : Value → Shared → Prop} {s : Shared} {K : Frag}


end
end Att

namespace L2
open PySem PySem.Spec PyProof.Rows

theorem vals_ints : ∀ {vs : List Value} {ns : List Int}, IntsAre vs ns → Vals (ns.map V.int) vs
  | _, _, .nil => .nil
  | _, _, .cons n t h => .cons ⟨t, rfl⟩ (vals_ints h)


def Only (H : Hp) : Prop := ∀ b, H b = none ∨ ∃ o xs, H b = some (.frz o (.lst xs))


theorem law_call {P : Program} {w : World} {K : PySem.W.Frag} {mg mb : Str → Option Value} {CX : CXT} {k : Nat} {fa a : Addr} {fd : FuncData} {x : Str} {sp : Sp} {s₁ : Shared} {vs : List Value} {ns : List Int}
    (KX : K.In s₁.heap) (hns : s₁.heap.Ns mainGlobals mg) (hb : s₁.heap.Ns builtinsNs mb) (hbb : ∀ x : Str, x ≠ "__name__" → mb x = bootBuiltins x) (hlim : s₁.heap.NoLimit) (hg : s₁.gens = #[])
    (ha : s₁.heap.get? a = some { cls := .type "list", data := .seq vs.toArray }) (hi : IntsAre vs ns) (hl : ns.length ≤ sizeLine) (hr : Room k callerA)
    (F : ∀ base : Heap, K.In base → base.Ns mainGlobals mg → FnOk P w K mg base CX k fa fd [x] sp) (hbind : ∀ (s : Shared) (u : Value), BindsTo s fd ⟨[u], []⟩ [(x, u)])
    (hsp : ∀ H : Hp, Only H → SqL K H a (ns.map V.int) → sp [.ref a] H (fun v _ => v = .bl true) fun _ _ _ => False)
    (hCX : ∀ H e s', CX [] H s₁ (fun _ _ _ => False) e s' → False) :
    codeAny (model P w) callerA (.call (.ref fa) ⟨[.ref a], []⟩) (fun r s' => r = .ok (.ret (.bool true)) ∧ OldK s₁.heap s'.heap ∧ s'.os = s₁.os ∧ AllBare s'.gens) s₁ := by
  have rv := vals_ints hi
  have lenV := hi.length
  -- from an abstract heap in which nothing but the script may be tracked
  have core : ∀ H : Hp, Only H → SqL K H a (ns.map V.int) → HOk P w H s₁.heap → (∀ b, H b ≠ none → b = a) → (H a ≠ none → K.lookup a = none) →
      codeAny (model P w) callerA (.call (.ref fa) ⟨[.ref a], []⟩) (fun r s' => r = .ok (.ret (.bool true)) ∧ OldK s₁.heap s'.heap ∧ s'.os = s₁.os ∧ AllBare s'.gens) s₁ := by
    intro H hO hS hok hA hK
    have base_of : ∀ {b : Addr} {o : Obj}, s₁.heap.get? b = some o → H b = none → (hidT s₁.heap H).get? b = some o := fun e n => hidT_get e n
    have noA : ∀ {b : Addr} {o : Obj} {es : Array DictEntry} {ep : Nat}, s₁.heap.get? b = some o → o.data = .dict es ep → H b = none := fun {b o es ep} e d => by
      cases q : H b with
      | none => rfl
      | some u =>
        have e' : b = a := hA b (by rw [q]; simp)
        subst e'
        rw [ha] at e; cases e
        have d' : Data.seq vs.toArray _ = Data.dict es ep := d
        cases d'
    have nsK : ∀ {b : Addr} {m : Str → Option Value}, s₁.heap.Ns b m → (hidT s₁.heap H).Ns b m := fun {b m} ⟨o, es, ep, e, d, r⟩ => ⟨o, es, ep, base_of e (noA e d), d, r⟩
    have hKb : K.In (hidT s₁.heap H) := fun b o e => base_of (KX b o e) (by
      cases q : H b with
      | none => rfl
      | some u =>
        have e' : b = a := hA b (by rw [q]; simp)
        subst e'
        rw [hK (by rw [q]; simp)] at e; cases e)
    have hM : Mod K mg (hidT s₁.heap H) := ⟨hKb, nsK hns, ⟨mb, nsK hb, hbb⟩, let ⟨mc, h1, h2⟩ := hlim; ⟨mc, nsK h1, h2⟩⟩
    have e0 : Env0 P w K mg (hidT s₁.heap H) callerA [] s₁ H := ⟨rfl, hM, fun b o e => of_hidT e, Nat.le_of_eq (hidT_size _ _), trivial, fun b hb => absurd (show b ∈ ([] : List Addr) from hb) (by simp), hok, .of_eq hg⟩
    refine codeAny_mono ((F _ hKb (nsK hns)).run callerA [] s₁ H ⟨[.ref a], []⟩ [.ref a] [.ref a] _ _ hr e0 (hbind s₁ (.ref a)) (.cons rfl .nil) (hsp H hO hS)) fun r s' h => ?_
    cases r with
    | error e => exact (hCX H e s' h).elim
    | ok fl =>
      cases fl with
      | next => exact False.elim h
      | brk => exact False.elim h
      | cont => exact False.elim h
      | ret u =>
        obtain ⟨v, H', os, bare, un, hok', r', q⟩ := h
        have q' : v = .bl true := q
        subst q'
        obtain rfl : u = Value.bool true := r'
        refine ⟨rfl, OldK.of_keep fun b o e => ?_, os, bare⟩
        cases q : H b with
        | none => exact un.keep b o e q (by intro z; exact absurd (show b ∈ ([] : List Addr) from z) (by simp)) (by simp)
        | some u =>
          rcases hO b with z | ⟨ob, xs, z⟩
          · rw [q] at z; cases z
          · have z2 := un.frzs b ob _ z
            obtain ⟨e1, _⟩ := hok b _ z
            obtain ⟨e2, _⟩ := hok' b _ z2
            rw [e] at e1; cases e1
            exact e2
  cases hk : K.lookup a with
  | some o =>
    -- the script is one of the module's own objects
    have e := KX a o hk
    rw [ha] at e
    cases e
    refine core (fun _ => none) (fun _ => .inl rfl) (.inr ⟨_, vs.toArray, _, hk, rfl, rfl, rfl, by rw [List.size_toArray, lenV]; exact hl, by simpa using rv⟩) (fun b u z => by have z' : (none : Option HO) = some u := z; cases z') (fun b z => absurd rfl z) fun z => absurd rfl z
  | none =>
    refine core (fun b => if b = a then some (.frz { cls := .type "list", data := .seq vs.toArray } (.lst (ns.map V.int))) else none) (fun b => ?_) (.inl (.inr ⟨{ cls := .type "list", data := .seq vs.toArray }, if_pos rfl⟩)) (fun b u z => ?_) (fun b z => ?_) fun _ => hk
    · by_cases hb : b = a
      · exact .inr ⟨_, _, if_pos hb⟩
      · exact .inl (if_neg hb)
    · by_cases hb : b = a
      · have z' := (if_pos hb).symm.trans z
        cases z'
        subst hb
        exact ⟨ha, by rw [List.length_map]; exact hl, vs, _, rv, ha⟩
      · have z' := (if_neg hb).symm.trans z
        cases z'
    · by_cases hb : b = a
      · exact hb
      · exact absurd (if_neg hb) z
end L2

namespace L2
open PySem PySem.Spec PyProof.Rows

theorem walk_of {l : PySem.W.OpenLaw} {n k : Nat} {q : Program} {loose : List Str} {XP : (Str → Option Value) → Heap → Prop} {YP : World → Heap → Prop} {d : DefRec} {K : Params → PySem.W.Frag} {CX : World → CXT} {sp : World → Sp} {x : Str}
    (hn : l.most = some n) (hn2 : n ≤ sizeLine) (hdf : d.params.defaults = []) (hr : Room k callerA)
    (hY : ∀ (w : World) (h : Heap), YP w h → (K w.params).In h)
    (F : ∀ (w : World) (mg : Str → Option Value) (fa : Addr) (h : Heap), (K w.params).In h → h.Ns mainGlobals mg → mg d.name = some (.ref fa) →
      ∃ fd : FuncData, (∀ (s : Shared) (u : Value), BindsTo s fd ⟨[u], []⟩ [(x, u)]) ∧
        ∀ base : Heap, (K w.params).In base → base.Ns mainGlobals mg → FnOk l.prog w (K w.params) mg base (CX w) k fa fd [x] (sp w))
    (hsp : ∀ (w : World) (H : Hp) (a : Addr) (ns : List Int), ns.length ≤ n → Only H → SqL (K w.params) H a (ns.map V.int) → sp w [.ref a] H (fun v _ => v = .bl true) fun _ _ _ => False)
    (hCX : ∀ (w : World) (H : Hp) (s : Shared) (e : Value) (s' : Shared), CX w [] H s (fun _ _ _ => False) e s' → False) :
    PySem.W.WalkO q loose XP YP l.row.toRowW d [] (fun f vs => PySem.call f vs) := by
  refine Att.attach_call hn hdf fun w s₀ s₁ mg mb fa o pm cd doc a vs ns G Y ho hd hcd hmg hobj hints hlen hg => ?_
  have KX := hY w _ Y
  obtain ⟨fd, hb, hF⟩ := F w mg fa _ KX G.T.g hmg
  exact law_call KX G.T.g G.T.b G.T.builtins G.T.nolimit hg hobj hints (Nat.le_trans hlen hn2) hr hF hb (fun H hO hS => hsp w H a ns hlen hO hS) fun H e s' => hCX w H s₁ e s'

end L2




namespace L2
open PySem PySem.Spec PyProof.Rows



def inClass (s : Stmt) (j : Nat) : Stmt := match s with
  | .ClassDef _ _ _ body _ _ _ _ _ _ _ => body.getD j (.Pass ⟨0, 0, 0, 0⟩)
  | _ => .Pass ⟨0, 0, 0, 0⟩
def defArgs (s : Stmt) : Arguments := match s with
  | .FunctionDef _ a _ _ _ _ _ _ _ _ => a
  | _ => { posonlyargs := [], args := [], vararg := none, kwonlyargs := [], kw_defaults := [], kwarg := none, defaults := [] }
def defBody (s : Stmt) : List Stmt := match s with
  | .FunctionDef _ _ b _ _ _ _ _ _ _ => b
  | _ => []
def defScope (s : Stmt) : Scope := match s with
  | .FunctionDef _ _ _ _ _ _ sc _ _ _ => sc
  | _ => { kind := .function, names := [], isGenerator := false, isCoroutine := false }


abbrev CX0 : CXT := fun _ _ _ _ _ _ => False
abbrev E0 : XK := fun _ _ _ => False
theorem pass0 {X : Cx} : Passes CX0 X E0 := fun _ _ _ _ _ _ _ h => h.elim


structure Fun (K : PySem.W.Frag) (x qual : Str) (st : Stmt) (f : Addr) (fd : FuncData) : Prop where
  ex : ∃ (oc : Value) (od : Option Addr) (kV doc pm : Value) (an : Option Addr) (cdv ct : Value) (osl : Array (Option Value)),
    fd = PySem.W.fnOf x qual (defArgs st) (defBody st) (defScope st) .none kV doc pm an cdv ct ∧ K.lookup f = some ⟨oc, od, .func fd, osl⟩ ∧ PySem.W.codeIn K cdv qual = true
  kp : PySem.W.keepIn K (.ref f) = true
section
variable {P : Program} {w : World} {K : PySem.W.Frag} {mg : Str → Option Value} {base : Heap}

theorem Fun.ok {x qual : Str} {st : Stmt} {f : Addr} {fd : FuncData} {N ps : List Str} {k : Nat} {sp : Sp} (F : Fun K x qual st f fd) (S : FnScope N ps (defScope st)) (len : ∀ vs H Q E, sp vs H Q E → vs.length = ps.length)
    (hbody : ∀ (cdv : Value) (A : Around) (outer : List Env) (s : Shared) (H : Hp) (vs : List V) (Q : VK) (E : XK), Room k (A.deeper (envOfC qual (defScope st) s.heap.objs.size f cdv)) → sp vs H Q E →
      ∃ t, PSs (cxOf CX0 P w K mg base N qual (defScope st) f cdv A outer s H E).nox (defBody st) t ∧ t { nx := fun _ H' => Q .non H', rt := Q } (start N vs) H) : FnOk P w K mg base CX0 (k + 1) f fd ps sp := by
  obtain ⟨oc, od, kV, doc, pm, an, cdv, ct, osl, rfl, lk, hcd⟩ := F.ex
  refine fn_of lk hcd S len fun A outer s H vs Q E hr hsp => ?_
  obtain ⟨t, h, q⟩ := hbody cdv A outer s H vs Q E hr hsp
  exact ⟨t, h.nox, q⟩

theorem Fun.binds {x qual : Str} {st : Stmt} {f : Addr} {fd : FuncData} {ps : List Str} (F : Fun K x qual st f fd)
    (h : ∀ (kV doc pm : Value) (an : Option Addr) (cdv ct : Value) (us : List Value), us.length = ps.length → bindArgs (PySem.W.fnOf x qual (defArgs st) (defBody st) (defScope st) .none kV doc pm an cdv ct) ⟨us, []⟩ = pure (ps.zip us)) : Binds K fd ps [] := by
  obtain ⟨oc, od, kV, doc, pm, an, cdv, ct, osl, rfl, lk, hcd⟩ := F.ex
  exact .all (h kV doc pm an cdv ct)
theorem fun_mk {x qual : Str} {st : Stmt} {f : Addr} {oc : Value} {od an : Option Addr} {osl : Array (Option Value)} {kV doc pm cdv ct : Value} (l : K.lookup f = some ⟨oc, od, .func (PySem.W.fnOf x qual (defArgs st) (defBody st) (defScope st) .none kV doc pm an cdv ct), osl⟩)
    (c : PySem.W.codeIn K cdv qual = true) (k : PySem.W.keepIn K (.ref f) = true) : Fun K x qual st f (PySem.W.fnOf x qual (defArgs st) (defBody st) (defScope st) .none kV doc pm an cdv ct) := ⟨⟨oc, od, kV, doc, pm, an, cdv, ct, osl, rfl, l, c⟩, k⟩
end
theorem small1000 {n : Nat} (h : n ≤ 1000) : n < sizeLine := Nat.lt_of_le_of_lt h (by decide)


section
variable {X : Cx}
theorem pv (i : Nat) {x : Str} {pos : Pos} (hN : X.N[i]? = some x := by rfl) (hv : Vis X.env.scope x := by first | exact Or.inl rfl | exact Or.inr (Or.inl rfl) | exact Or.inr (Or.inr rfl)) (hd : (x == ("__debug__" : Str)) = false := by decide)
    (hcd : (x == ("__classdict__" : Str)) = false := by decide) : PE X (.Name x pos) (tVar i) := pe_var hN hv hd hcd
end


theorem iteF {A B : Prop} (h : B) : if false = true then A else B := by
  rw [if_neg Bool.false_ne_true]
  exact h
theorem iteT {A B : Prop} (h : A) : if true = true then A else B := by
  rw [if_pos rfl]
  exact h
theorem ite2 {c A B : Prop} [Decidable c] (h1 : c → A) (h2 : ¬ c → B) : if c then A else B := by
  by_cases h : c
  · rw [if_pos h]
    exact h1 h
  · rw [if_neg h]
    exact h2 h
theorem iteNS {c A B : Prop} [Decidable c] (hc : c) (h : B) : if (!decide c) = true then A else B := by
  rw [decide_eq_true hc]
  exact iteF h



def Same (H H' : Hp) : Prop := ∀ b o, H b = some o → H' b = some o
theorem Same.refl (H : Hp) : Same H H := fun _ _ h => h
theorem Same.trans {H H1 H2 : Hp} (a : Same H H1) (b : Same H1 H2) : Same H H2 := fun c o h => b c o (a c o h)
theorem Same.free {H H' : Hp} (e : Same H H') {l : Addr} (h : H' l = Option.none) : H l = Option.none := by
  cases q : H l with
  | none => rfl
  | some o =>
    rw [e l o q] at h
    cases h
theorem Same.seq {K : PySem.W.Frag} {H H' : Hp} {a : Addr} {xs : List V} (e : Same H H') (h : SqL K H a xs) : SqL K H' a xs := by
  rcases h with (h | ⟨o, h⟩) | h
  · exact .inl (.inl (e _ _ h))
  · exact .inl (.inr ⟨o, e _ _ h⟩)
  · exact .inr h

end L2

namespace L2
open PySem PySem.Spec PyProof.Rows


def closL (env : Env) : List (Str × NameKind) → List (Str × Addr) → List (Str × Addr)
  | [], cs => cs
  | (n, k) :: r, cs => closL env r (if k == .free then (n, (env.cells.lookup n).getD 0) :: cs else cs)
theorem closL_mem {env : Env} : ∀ (l : List (Str × NameKind)) (cs : List (Str × Addr)) (p : Str × Addr), p ∈ closL env l cs → p ∈ cs ∨ ((p.1, NameKind.free) ∈ l ∧ p.2 = (env.cells.lookup p.1).getD 0)
  | [], _, _, h => .inl h
  | (n, k) :: r, cs, p, h => by
    rcases closL_mem r _ p h with q | ⟨q, e⟩
    · by_cases hk : k = .free
      · subst hk
        rw [if_pos (by rfl)] at q
        rcases List.mem_cons.mp q with z | z
        · subst z; exact .inr ⟨List.mem_cons_self, rfl⟩
        · exact .inl z
      · rw [if_neg (by simpa using hk)] at q
        exact .inl q
    · exact .inr ⟨List.mem_cons_of_mem _ q, e⟩
theorem closL_sub {env : Env} : ∀ (l : List (Str × NameKind)) (cs : List (Str × Addr)) (p : Str × Addr), p ∈ cs → p ∈ closL env l cs
  | [], _, _, h => h
  | (n, k) :: r, cs, p, h => by
    refine closL_sub r _ p ?_
    split
    · exact List.mem_cons_of_mem _ h
    · exact h
theorem closL_has {env : Env} {x : Str} : ∀ (l : List (Str × NameKind)) (cs : List (Str × Addr)), (x, NameKind.free) ∈ l → ∃ c, (x, c) ∈ closL env l cs
  | [], _, h => nomatch h
  | (n, k) :: r, cs, h => by
    rcases List.mem_cons.mp h with z | z
    · cases z
      exact ⟨_, closL_sub r _ _ (by rw [if_pos (by rfl)]; exact List.mem_cons_self)⟩
    · exact closL_has r _ z
theorem lookup_of_mem {α : Type} {x : Str} : ∀ {l : List (Str × α)} {c : α}, (x, c) ∈ l → ∃ c', l.lookup x = some c'
  | [], _, h => nomatch h
  | (n, d) :: r, c, h => by
    by_cases e : x = n
    · subst e; exact ⟨d, by simp [List.lookup_cons]⟩
    · have : (x == n) = false := by simpa using e
      simp only [List.lookup_cons, this]
      rcases List.mem_cons.mp h with z | z
      · cases z; exact absurd rfl e
      · exact lookup_of_mem z
theorem forIn_clos {env : Env} : ∀ (l : List (Str × NameKind)) (cs : List (Str × Addr)), (∀ x ∈ l, x.2 = .free → (env.cells.lookup x.1).isSome = true) →
    (forIn l cs fun (x : Str × NameKind) (r : List (Str × Addr)) => (match x with
      | (name, kind) => if (kind == NameKind.free) = true then do let a ← cellOf env name; pure (ForInStep.yield ((name, a) :: r)) else pure (ForInStep.yield r) : Sem (ForInStep (List (Str × Addr))))) = pure (closL env l cs)
  | [], cs, _ => rfl
  | (n, k) :: r, cs, h => by
    rw [List.forIn_cons]
    have ih := fun cs' => forIn_clos r cs' fun x hx => h x (List.mem_cons_of_mem _ hx)
    by_cases hk : k = .free
    · subst hk
      obtain ⟨a, ha⟩ := Option.isSome_iff_exists.mp (h (n, .free) List.mem_cons_self rfl)
      have hca : cellOf env n = pure a := by unfold cellOf; rw [ha]
      have hn : closL env ((n, .free) :: r) cs = closL env r ((n, a) :: cs) := by
        show closL env r (if (NameKind.free == NameKind.free) = true then (n, (env.cells.lookup n).getD 0) :: cs else cs) = _
        rw [if_pos (by rfl), ha]; rfl
      rw [hn]
      simp only [beq_self_eq_true, if_true, hca, pure_bind]
      exact ih _
    · have hb : (k == NameKind.free) = false := by simpa using hk
      have hn : closL env ((n, k) :: r) cs = closL env r cs := by
        show closL env r (if (k == NameKind.free) = true then (n, (env.cells.lookup n).getD 0) :: cs else cs) = _
        rw [if_neg (by simp [hb])]
      rw [hn]
      simp only [hb, Bool.false_eq_true, if_false, pure_bind]
      exact ih _
theorem closureFor_clos {scope : Scope} {env : Env} (h : ∀ x ∈ scope.names, x.2 = .free → (env.cells.lookup x.1).isSome = true) : closureFor scope env = pure (closL env scope.names []) := by
  simp only [closureFor]
  have := forIn_clos (env := env) scope.names [] h
  first
    | (rw [this]; rfl)
    | (erw [this]; rfl)
    | (exact (congrArg (· >>= pure) this))

theorem closL_lookup {env : Env} {l : List (Str × NameKind)} (h : ∀ x ∈ l, x.2 = .free → (env.cells.lookup x.1).isSome = true) {x : Str} {c : Addr} (e : (closL env l []).lookup x = some c) : env.cells.lookup x = some c := by
  rcases closL_mem l [] (x, c) (PySem.mem_of_lookup e) with q | ⟨q, e'⟩
  · exact nomatch q
  · obtain ⟨a, ha⟩ := Option.isSome_iff_exists.mp (h _ q rfl)
    have ha' : env.cells.lookup x = some a := ha
    have e2 : c = (env.cells.lookup x).getD 0 := e'
    rw [ha'] at e2
    rw [ha', e2]; rfl
theorem relabel_lookup {scope : Scope} {env : Env} {x : Str} {k' : NameKind} (h : (relabel scope env).names.lookup x = some k') : ∃ k, scope.names.lookup x = some k ∧ (k' = k ∨ (k = .free ∧ k' = .cell)) := by
  unfold relabel at h
  dsimp only at h
  generalize scope.names = l at h ⊢
  induction l with
  | nil => simp at h
  | cons p r ih =>
    obtain ⟨n, k⟩ := p
    rw [List.map_cons] at h
    by_cases e : x = n
    · subst e
      refine ⟨k, by simp [List.lookup_cons], ?_⟩
      by_cases hc : (k == NameKind.free && env.scope.kind == .function && env.kindOf x == some .cell) = true
      · simp only [hc, if_true, List.lookup_cons, beq_self_eq_true] at h
        have hk : k = .free := by
          have := (Bool.and_eq_true_iff.mp (Bool.and_eq_true_iff.mp hc).1).1
          simpa using this
        exact .inr ⟨hk, (Option.some.inj h).symm⟩
      · simp only [hc, if_false, List.lookup_cons, beq_self_eq_true, Bool.false_eq_true] at h
        exact .inl (Option.some.inj h).symm
    · have hb : (x == n) = false := by simpa using e
      have h' : List.lookup x (List.map (fun x => match x with | (n, k) => if (k == NameKind.free && env.scope.kind == ScopeKind.function && env.kindOf n == some NameKind.cell) = true then (n, NameKind.cell) else (n, k)) r) = some k' := by
        by_cases hc : (k == NameKind.free && env.scope.kind == .function && env.kindOf n == some .cell) = true
        · simpa only [hc, if_true, List.lookup_cons, hb] using h
        · simpa only [hc, if_false, List.lookup_cons, hb, Bool.false_eq_true] using h
      obtain ⟨k0, e0, q⟩ := ih h'
      exact ⟨k0, by simp only [List.lookup_cons, hb]; exact e0, q⟩
theorem relabel_free {scope : Scope} {env : Env} {x : Str} (h : scope.names.lookup x = some .free) : (relabel scope env).names.lookup x = some .cell ∨ (relabel scope env).names.lookup x = some .free := by
  unfold relabel
  dsimp only
  generalize scope.names = l at h ⊢
  induction l with
  | nil => simp at h
  | cons p r ih =>
    obtain ⟨n, k⟩ := p
    rw [List.map_cons]
    by_cases e : x = n
    · subst e
      simp only [List.lookup_cons, beq_self_eq_true] at h
      cases h
      generalize List.map _ r = r'
      show List.lookup x ((if (NameKind.free == NameKind.free && env.scope.kind == .function && env.kindOf x == some .cell) = true then (x, NameKind.cell) else (x, NameKind.free)) :: r') = _ ∨ List.lookup x ((if (NameKind.free == NameKind.free && env.scope.kind == .function && env.kindOf x == some .cell) = true then (x, NameKind.cell) else (x, NameKind.free)) :: r') = _
      by_cases hc : (NameKind.free == NameKind.free && env.scope.kind == .function && env.kindOf x == some .cell) = true
      · rw [if_pos hc]; exact .inl (by simp [List.lookup_cons])
      · rw [if_neg hc]; exact .inr (by simp [List.lookup_cons])
    · have hb : (x == n) = false := by simpa using e
      simp only [List.lookup_cons, hb] at h
      by_cases hc : (k == NameKind.free && env.scope.kind == .function && env.kindOf n == some .cell) = true
      · simp only [hc, if_true, List.lookup_cons, hb]; exact ih h
      · simp only [hc, if_false, List.lookup_cons, hb, Bool.false_eq_true]; exact ih h


def cxC (X : Cx) (N' : List Str) (scope : Scope) (s : Shared) (H : Hp) (fp : List Addr) (C : Addr) : Cx where
  prog := X.prog
  w := X.w
  K := X.K
  mg := X.mg
  base := X.base
  A := X.A
  N := N'
  s₀ := s
  H₀ := H
  env := compEnvC scope (closL X.env scope.names []) C X.env
  outer := X.stack
  stack := X.stack
  ex := fp
  fn := fun _ => false
  calm := X.calm
  pn := []
  xe := fun _ _ => False


structure CScope (N : List Str) (sc scope : Scope) (ts fr : List Str) (ix : List Nat) : Prop where
  kind : scope.kind = .function
  nocell : ∀ y ∈ scope.names, y.2 ≠ .cell
  nms : ∀ y ∈ scope.names, y.2 = .local → scope.names.lookup y.1 = some .local
  frs : ∀ y ∈ scope.names, y.2 = .free → sc.names.lookup y.1 = some .cell ∨ sc.names.lookup y.1 = some .free
  cap : fr.map some = ix.map fun i => N[i]?
  capf : ∀ x ∈ fr, scope.names.lookup x = some .free

def capt (σ : St) (k : Nat) (ix : List Nat) : St := List.replicate k none ++ ix.map fun i => (σ[i]?).join
def Kp (σ σ' : St) : Prop := ∀ (j : Nat) (v : V), σ[j]? = some (some v) → σ'[j]? = some (some v)
theorem Kp.refl (σ : St) : Kp σ σ := fun _ _ h => h
theorem Kp.set {σ σ1 : St} {i : Nat} {x : Option V} (h : σ[i]? = some none) (q : Kp σ σ1) : Kp σ (σ1.set i x) := fun j v e => by
  by_cases hj : j = i
  · subst hj; rw [h] at e; cases e
  · rw [List.getElem?_set_ne (Ne.symm hj)]; exact q j v e


def PTs (X : Cx) (ifs : List Expr) (t : TT) : Prop :=
  ∀ (pins : List (Addr × Obj)) (s : Shared) (σ : St) (H : Hp) (Q : Bool → Hp → Prop), Inv X pins σ H s → t σ H Q →
    wpAny (model X.prog X.w) X.A (forIn ifs true fun c r => if r = true then do let ok ← isTrue c X.env (eval c X.env); pure (ForInStep.yield ok) else pure (ForInStep.yield r)) (TP X pins σ Q) X.xe s
def tTrue : TT := fun _ H Q => Q true H
theorem tTrue_ok {σ : St} {H : Hp} {A B : Hp → Prop} (h : A H) : tTrue σ H (fun b H5 => if b = true then A H5 else B H5) := by
  show if true = true then A H else B H
  rw [if_pos rfl]
  exact h
theorem pts_nil {X : Cx} : PTs X [] tTrue := fun _ _ _ H _ I h => wpAny_tests_nil ⟨H, I, h⟩
def CompOk (J : It) (D : Addr) (σ : St) (k : Nat) (ix : List Nat) (g : TG) (tt : TT) (te : TE) (Q : VK) (H1 : Hp) : Prop := ∃ W : Nat → Nat → List V → Hp → Prop, (∃ m, W 0 m [] (upd H1 D (.lst []))) ∧
  ∀ i m ys H2, W i m ys H2 → H2 D = some (.lst ys) ∧ ((J.stop i H2 ∧ Q (.ref D) H2) ∨ (J.go i H2 ∧ ∃ N : List V → Hp → Prop, (∀ zs H', N zs H' → ∃ m', m' < m ∧ W (i + 1) m' zs H') ∧ ∀ x H3, J.yld i H2 x H3 → g x (capt σ k ix) H3 fun σ2 H4 => Kp (capt σ k ix) σ2 ∧
    tt σ2 H4 fun b H5 => if b = true then te σ2 H5 fun y H6 => H6 D = some (.lst ys) ∧ ys.length < sizeLine ∧ N (ys ++ [y]) (upd H6 D (.lst (ys ++ [y]))) else N ys H5))

def tComp (k : Nat) (ix : List Nat) (wi : TI) (g : TG) (tt : TT) (te : TE) : TE := fun σ H Q => wi σ H fun J H1 => ∀ D, H1 D = none → CompOk J D σ k ix g tt te Q H1

section
variable {X : Cx} {elt tg iter : Expr} {ifs : List Expr} {scope : Scope} {pos : Pos} {ts fr : List Str} {ix : List Nat} {wi : TI} {g : TG} {tt : TT} {te : TE}

theorem capt_get {σ : St} {k : Nat} {ix : List Nat} {j : Nat} {v : V} (h : (capt σ k ix)[j]? = some (some v)) : ∃ a i, j = k + a ∧ ix[a]? = some i ∧ σ[i]? = some (some v) := by
  unfold capt at h
  by_cases hj : j < k
  · rw [List.getElem?_append_left (by simpa using hj), List.getElem?_replicate, if_pos hj] at h
    cases h
  · rw [List.getElem?_append_right (by simpa using hj), List.length_replicate, List.getElem?_map] at h
    cases e : ix[j - k]? with
    | none => rw [e] at h; cases h
    | some i =>
      rw [e] at h
      refine ⟨j - k, i, by omega, e, ?_⟩
      have h' : (σ[i]?).join = some v := Option.some.inj h
      cases e2 : σ[i]? with
      | none => rw [e2] at h'; cases h'
      | some o => rw [e2] at h'; exact congrArg some h'
theorem capt_length {σ : St} {k : Nat} {ix : List Nat} : (capt σ k ix).length = k + ix.length := by unfold capt; simp


theorem inv_comp {pins : List (Addr × Obj)} {σ : St} {H : Hp} {s : Shared} {fp : List Addr} {h1 : Heap} {tk : Nat} {D C : Addr} (S : CScope X.N X.env.scope scope ts fr ix) (I : Inv X pins σ H s) (hf : ∀ b ∈ fp, FpOk X pins H b) (hfp : ∀ b ∈ fp, b < s.heap.objs.size)
    (hD : s.heap.objs.size ≤ D) (hC : s.heap.objs.size ≤ C) (hDC : D ≠ C) (hk : ∀ b o, s.heap.get? b = some o → h1.get? b = some o) (ho : h1.get? D = some { cls := .type "list", data := .seq #[] }) {m0 : Str → Option Value} (hn : h1.Ns C m0) :
    Inv (cxC X (ts ++ fr) scope s H fp C) [] (capt σ ts.length ix) (upd H D (.lst [])) { s with heap := h1, toks := tk } := by
  have hcl : ∀ x ∈ scope.names, x.2 = .free → (X.env.cells.lookup x.1).isSome = true := fun x hx hfx => by
    obtain ⟨c, hc⟩ := I.ok.has x.1 (S.frs x hx hfx)
    rw [hc]; rfl
  have nCell : ∀ b, s.heap.objs.size ≤ b → ∀ x c, X.env.cells.lookup x = some c → c ≠ b := fun b hb x c e z => by
    obtain ⟨v, q⟩ := I.cell x c e
    exact absurd (Nat.lt_of_lt_of_le q.lt (by rw [z]; exact hb)) (Nat.lt_irrefl _)
  have hasC : ∀ x, scope.names.lookup x = some .free → ∃ c, (closL X.env scope.names []).lookup x = some c ∧ X.env.cells.lookup x = some c := fun x hx => by
    obtain ⟨c, hc⟩ := closL_has (env := X.env) scope.names [] (PySem.mem_of_lookup hx)
    obtain ⟨c', hc'⟩ := lookup_of_mem hc
    exact ⟨c', hc', closL_lookup hcl hc'⟩
  have hfrs : ∀ b ∈ fp, b ∉ frs X.stack := fun b hb z => by
    obtain ⟨_, f1, f2, _⟩ := hf b hb
    rcases List.mem_cons.mp (I.stkSub b z) with e | e
    · exact f1 e
    · exact f2 e
  have hCn : H C = none := I.hok.fresh hC
  have hDn : H D = none := I.hok.fresh hD
  refine ⟨⟨I.ok.mod, ?_, I.ok.glob, I.ok.blt, hC, fun x y c h1 h2 => ?_, fun x hx => ?_, fun x c hfx => ?_, I.ok.hd, I.ok.frames, .inl rfl, fun b hb => ⟨?_, fun x c e => ?_⟩, I.bs, Nat.le_trans I.ok.bsz I.sz, fun b o e hb => ?_, hfrs, I.stack, I.stkFree⟩,
    rfl, I.bare, Un.laid hk hD hDn, ⟨m0, hn, fun i x v e1 e2 e3 => ?_⟩, fun x c e => ?_, ?_, fun x c e => ?_, fun p hp => ?_, I.hok.laid hk hD ⟨?_, [], 0, .nil, ho⟩, ?_⟩
  · show (relabel scope X.env).kind = _
    exact S.kind
  · exact I.ok.inj x y c (closL_lookup hcl h1) (closL_lookup hcl h2)
  · have hx' : (relabel scope X.env).names.lookup x = some .cell ∨ (relabel scope X.env).names.lookup x = some .free := hx
    have hfree : scope.names.lookup x = some .free := by
      rcases hx' with q | q
      · obtain ⟨k, e, z⟩ := relabel_lookup q
        rcases z with z | ⟨z, _⟩
        · subst z; exact absurd rfl (S.nocell _ (PySem.mem_of_lookup e))
        · rw [e, z]
      · obtain ⟨k, e, z⟩ := relabel_lookup q
        rcases z with z | ⟨_, z⟩
        · rw [e, ← z]
        · cases z
    obtain ⟨c, hc, _⟩ := hasC x hfree
    exact ⟨c, hc⟩
  · exact absurd (show false = true from hfx) (by decide)
  · exact Nat.ne_of_lt (Nat.lt_of_lt_of_le (hfp b hb) hC)
  · exact (hf b hb).2.2.2.2.1 x c (closL_lookup hcl e)
  · have f := hf b hb
    rcases f.2.2.2.1 with z | z
    · exact I.ok.noex b o e z
    · exact absurd (Nat.lt_of_lt_of_le (Heap.lt_size (I.ok.bs b o e).1) z) (Nat.lt_irrefl _)
  · obtain ⟨a, i', hj, hi, hσ⟩ := capt_get e2
    subst hj
    have e1' : (ts ++ fr)[ts.length + a]? = some x := e1
    rw [List.getElem?_append_right (by omega), Nat.add_sub_cancel_left] at e1'
    have hN : X.N[i']? = some x := by
      have q := congrArg (fun l => l[a]?) S.cap
      simp only [List.getElem?_map, e1', hi] at q
      exact (Option.some.inj q).symm
    have hfree := S.capf x (List.mem_of_getElem? e1')
    have hk' := S.frs (x, .free) (PySem.mem_of_lookup hfree) rfl
    obtain ⟨m, hnm, hl⟩ := I.loc
    obtain ⟨u, r, lk⟩ := hl i' x v hN hσ (.inr hk')
    refine ⟨u, r, ?_⟩
    obtain ⟨c, hc, hc'⟩ := hasC x hfree
    rcases lk with ⟨z, _⟩ | ⟨_, c2, e4, z⟩
    · have z' : X.env.scope.names.lookup x = some .local := z
      rcases hk' with y | y
      · have y' : X.env.scope.names.lookup x = some .cell := y
        rw [z'] at y'; cases y'
      · have y' : X.env.scope.names.lookup x = some .free := y
        rw [z'] at y'; cases y'
    · have hcc : c2 = c := Option.some.inj (e4.symm.trans hc')
      rw [hcc] at z
      obtain ⟨o, ho2, hd2⟩ := z
      exact .inr ⟨relabel_free hfree, c, hc, o, hk _ _ ho2, hd2⟩
  · obtain ⟨v, o, ho2, hd2⟩ := I.cell x c (closL_lookup hcl e)
    exact ⟨v, o, hk _ _ ho2, hd2⟩
  · show upd H D (.lst []) C = none
    rw [upd_ne (Ne.symm hDC)]; exact hCn
  · show upd H D (.lst []) c = none
    rw [upd_ne (nCell D hD x c (closL_lookup hcl e))]
    exact I.freeC x c (closL_lookup hcl e)
  · exact absurd (show p ∈ ([] : List (Addr × Obj)) from hp) (by simp)
  · exact Nat.zero_le _
  · have e := congrArg List.length S.cap
    simp only [List.length_map] at e
    rw [capt_length]
    show _ = (ts ++ fr).length
    rw [List.length_append, e]


theorem comp_core {pins : List (Addr × Obj)} {σ : St} {H : Hp} {s : Shared} {Q : VK} {use : Option (Value → Sem Unit)} {Qv : Value → Shared → Prop} (hc : X.calm = true) (S : CScope X.N X.env.scope scope ts fr ix) (hi : PI X tg iter wi)
    (hb : ∀ s H fp C, PG (cxC X (ts ++ fr) scope s H fp C) tg g ∧ PTs (cxC X (ts ++ fr) scope s H fp C) ifs tt ∧ PE (cxC X (ts ++ fr) scope s H fp C) elt te)
    (hs : ∀ x, foldedSetIterable iter X.env x = pure x) (I : Inv X pins σ H s) (h : tComp ts.length ix wi g tt te σ H Q)
    (fin : ∀ (D C : Addr) (H' : Hp) (s' : Shared), Inv X pins σ H' s' → FpOk X pins H' C → (∃ m, s'.heap.Ns C m) → Q (.ref D) H' → compPost (model X.prog X.w) X.A X.xe use Qv (.ref D) C (.ok .next) s') :
    wpAny (model X.prog X.w) X.A (comprehension (.ListComp elt [⟨tg, iter, ifs, 0⟩] scope pos) scope X.env (firstIterPos [⟨tg, iter, ifs, 0⟩] pos) (newList []) false (eval iter X.env) use) Qv X.xe s := by
  have hcl : ∀ x ∈ scope.names, x.2 = .free → (X.env.cells.lookup x.1).isSome = true := fun x hx hfx => by
    obtain ⟨c, hc⟩ := I.ok.has x.1 (S.frs x hx hfx)
    rw [hc]; rfl
  refine wpAny_comprehension_free (use := use) rfl hs (closureFor_clos hcl) S.kind S.nms (thn (hi pins s σ H _ I h) fun v s1 h1 => thn h1 fun itv s2 h2 => ?_)
  obtain ⟨it, fp, tn, J, H2, rfl, I2, T, st2, f2, hW⟩ := h2
  refine wpAny_newObj_type (wpAny_newFunctionEnv S.nocell (by intro y hy; simp at hy) (fun h₁ hns₁ hsb₁ => ?_) S.kind)
  dsimp only at hns₁ hsb₁ ⊢
  generalize hH2 : s2.heap.push { cls := .type "list", dict := none, data := .seq ([] : List Value).toArray } = G2 at hns₁ hsb₁ ⊢
  have hCs : G2.objs.size = s2.heap.objs.size + 1 := by rw [← hH2, Heap.size_push]
  have hDC : s2.heap.objs.size ≠ G2.objs.size := by rw [hCs]; exact Nat.ne_of_lt (Nat.lt_succ_self _)
  have hCle : s2.heap.objs.size ≤ G2.objs.size := by rw [hCs]; exact Nat.le_succ _
  have old : ∀ b o, s2.heap.get? b = some o → h₁.get? b = some o := fun b o e => hsb₁.extBut b o (by rw [hCs]; exact Nat.ne_of_lt (Nat.lt_succ_of_lt (Heap.lt_size e))) (Heap.get?_push_of_some _ (hH2 ▸ Heap.get?_push_of_some _ e))
  have hacc : h₁.get? s2.heap.objs.size = some { cls := .type "list", data := .seq #[] } := hsb₁.extBut _ _ hDC (Heap.get?_push_of_some _ (hH2 ▸ Heap.get?_push_size _ rfl))
  have hfp : ∀ b ∈ fp, b < s2.heap.objs.size := fun b hb' => by
    obtain ⟨o, e, _⟩ := T.obj _ _ st2 b hb'
    exact Heap.lt_size e
  have IC : Inv (cxC X (ts ++ fr) scope s2 H2 fp G2.objs.size) [] (capt σ ts.length ix) (upd H2 s2.heap.objs.size (.lst [])) { s2 with heap := h₁, toks := s2.toks + ([] : List (Str × Value)).length } :=
    inv_comp S I2 f2 hfp (Nat.le_refl _) hCle hDC old hacc hns₁
  have st1 : tn 0 h₁ := T.keep _ _ _ st2 fun b hb' o e => old b o e
  obtain ⟨W, ⟨m0, w0⟩, turn⟩ := hW s2.heap.objs.size I2.fresh
  obtain ⟨bg, bt, be⟩ := hb s2 H2 fp G2.objs.size
  generalize hX : cxC X (ts ++ fr) scope s2 H2 fp G2.objs.size = Y at IC bg bt be
  have eP : Y.prog = X.prog := by rw [← hX]; rfl
  have eW : Y.w = X.w := by rw [← hX]; rfl
  have eK : Y.K = X.K := by rw [← hX]; rfl
  have eC : Y.calm = true := by rw [← hX]; exact hc
  have eA : Y.A = X.A := by rw [← hX]; rfl
  have eE : Y.env = compEnvC scope (closL X.env scope.names []) G2.objs.size X.env := by rw [← hX]; rfl
  have eX : Y.xe = fun _ _ => False := by rw [← hX]; rfl
  have stat : ∀ {H' : Hp}, (∀ b ∈ fp, H' b = none) → ∀ b ∈ fp, FpOk Y [] H' b := fun hn b hb' => by
    rw [← hX]
    have z := IC.ok
    rw [← hX] at z
    refine ⟨hn b hb', (z.exf b hb').1, z.exfs b hb', .inl hb', (z.exf b hb').2, fun p hp => absurd (show p ∈ ([] : List (Addr × Obj)) from hp) (by simp)⟩
  have fr0 : ∀ b ∈ fp, upd H2 s2.heap.objs.size (.lst []) b = none := fun b hb' => by rw [upd_ne (Nat.ne_of_lt (hfp b hb'))]; exact (f2 b hb').1
  have bot : ∀ {α : Type} {t : Sem α} {R : α → Shared → Prop} {E : Value → Shared → Prop} {z : Shared}, wpAny (model Y.prog Y.w) Y.A t R Y.xe z → wpAny (model X.prog X.w) X.A t R E z := fun {α t R E z} q => by
    rw [eP, eW, eA, eX] at q
    exact wpAny_mono q (fun _ _ y => y) fun _ _ y => y.elim
  have loop : codeAny (model X.prog X.w) X.A (.compLoop (.ListComp elt [⟨tg, iter, ifs, 0⟩] scope pos) 0 (.ref it) (.ref s2.heap.objs.size) (compEnvC scope (closL X.env scope.names []) G2.objs.size X.env))
      (compPost (model X.prog X.w) X.A X.xe use Qv (.ref s2.heap.objs.size) G2.objs.size) { s2 with heap := h₁, toks := s2.toks + ([] : List (Str × Value)).length } := by
    rw [← eE]
    refine codeAny_loop rfl (fun n s' => ∃ i ys H', Inv Y [] (capt σ ts.length ix) H' s' ∧ tn i s'.heap ∧ (∀ b ∈ fp, H' b = none) ∧ W i n ys H') (fun n s3 hI => ?_) m0 ⟨0, [], _, IC, st1, fr0, w0⟩
    obtain ⟨i, ys, H3, I3, st3, fr3, w3⟩ := hI
    show wpAny _ _ ((compTurn (.ListComp elt [⟨tg, iter, ifs, 0⟩] scope pos) 0 (.ref it) (.ref s2.heap.objs.size) Y.env).onRaise (fun x => do noteFrame x Y.env; theTreesLotGoes x)) _ _ s3
    refine wpAny_noted ?_
    rw [compTurn_list]
    obtain ⟨hD3, hcase⟩ := turn i n ys H3 w3
    rcases hcase with ⟨stop, qn⟩ | ⟨go, N, hN, step⟩
    · have q := T.done Y eP eW eK eC i [] s3 _ H3 (fun _ _ => False) I3 (stat fr3) st3 stop
      rw [eA] at q
      refine wpAny_bind (wpAny_standAt (wpAny_bind (wpAny_mono q (fun r s4 ⟨hr, I4⟩ => ?_) fun _ _ y => y.elim)))
      subst hr
      refine wpAny_pure ?_
      have b4 : Un (frs X.stack) fp H2 H3 s2.heap s4.heap := by have z := I4.base; rw [← hX] at z; exact z
      have ok4 : HOk X.prog X.w H3 s4.heap := by have z := I4.hok; rw [eP, eW] at z; exact z
      have os4 : s4.os = s2.os := by have z := I4.os; rw [← hX] at z; exact z
      have I5 : Inv X pins σ H3 s4 := I2.call' os4 b4 ok4 I4.bare fun b hb' => ⟨(f2 b hb').2.2.2.1, (f2 b hb').2.1, (f2 b hb').2.2.2.2.1, (f2 b hb').2.2.2.2.2⟩
      have fC : H3 G2.objs.size = none := by have z := I4.free; rw [eE] at z; exact z
      have nC : ∃ m, s4.heap.Ns G2.objs.size m := by obtain ⟨m, z, _⟩ := I4.loc; rw [eE] at z; exact ⟨m, z⟩
      exact fin _ _ H3 s4 I5 (I2.fpOk hCle fC) nC qn
    · have q := T.item Y eP eW eK eC i [] s3 _ H3 (fun _ _ => False) I3 (stat fr3) st3 go
      rw [eA] at q
      refine wpAny_bind (wpAny_standAt (wpAny_bind (wpAny_mono q (fun r s4 ⟨u, hr, h4⟩ => ?_) fun _ _ y => y.elim)))
      subst hr
      refine wpAny_bind (wpAny_mono h4 (fun _ s5 ⟨x, H5, I5, r5, y5, st5, fr5⟩ => ?_) fun _ _ y => y.elim)
      have I5' := I5.pinned (stat fr5) (T.obj _ _ st5)
      refine wpAny_bind (bot (thn (bg _ s5 _ H5 x u _ I5' r5 (step x H5 y5)) fun _ s6 ⟨σ6, H6, I6, kp6, q6⟩ => ?_))
      refine wpAny_bind (bot (thn (bt _ s6 σ6 H6 _ I6 q6) fun ok s7 ⟨H7, I7, q7⟩ => ?_))
      have again : ∀ {H8 : Hp} {s8 : Shared} {zs : List V} {m' : Nat}, Inv Y ([] ++ pinsAt fp s5.heap) σ6 H8 s8 → m' < n → W (i + 1) m' zs H8 → ∃ m, m < n ∧ ∃ i ys H', Inv Y [] (capt σ ts.length ix) H' s8 ∧ tn i s8.heap ∧ (∀ b ∈ fp, H' b = none) ∧ W i m ys H' := fun {H8 s8 zs m'} I8 hm w8 => by
        refine ⟨m', hm, i + 1, zs, H8, (I8.unpinned).weak ?_ kp6, T.keep _ _ _ st5 fun b hb' o e => (I8.pin (b, o) (List.mem_append_right _ (List.mem_append_right _ (mem_pinsAt hb' e)))).1, fun b hb' => ?_, w8⟩
        · rw [I8.len, I3.len]
        · obtain ⟨o, e, d⟩ := T.obj _ _ st5 b hb'
          exact (I8.pin (b, o) (List.mem_append_right _ (List.mem_append_right _ (mem_pinsAt hb' e)))).2.1
      cases ok with
      | false =>
        rw [if_neg (by decide)] at q7
        obtain ⟨m', hm, w8⟩ := hN _ _ q7
        exact wpAny_pure ⟨rfl, again I7 hm w8⟩
      | true =>
        rw [if_pos rfl] at q7
        refine wpAny_bind (wpAny_bind (bot (thn (be _ s7 σ6 H7 _ I7 q7) fun u8 s8 ⟨y8, H8, I8, r8, hD8, hz, n8⟩ => ?_)))
        obtain ⟨m', hm, w8⟩ := hN _ _ n8
        refine wpAny_bind (bot (thn (mt_append _ s8 σ6 H8 (.ref s2.heap.objs.size) [y8] _ [u8] (fun _ H9 => H9 = upd H8 s2.heap.objs.size (.lst (ys ++ [y8]))) I8 rfl (.cons r8 .nil) ⟨_, ys, y8, rfl, rfl, hD8, hz, rfl⟩) fun _ s9 ⟨_, H9, I9, _, e9⟩ => ?_))
        subst e9
        exact wpAny_pure (wpAny_pure ⟨rfl, again I9 hm w8⟩)
  exact codeAny_compStart_list loop (T.self _ 0 _ _ _ st1 loop)


theorem pe_comp (hc : X.calm = true) (S : CScope X.N X.env.scope scope ts fr ix) (hi : PI X tg iter wi)
    (hb : ∀ s H fp C, PG (cxC X (ts ++ fr) scope s H fp C) tg g ∧ PTs (cxC X (ts ++ fr) scope s H fp C) ifs tt ∧ PE (cxC X (ts ++ fr) scope s H fp C) elt te)
    (hs : ∀ x, foldedSetIterable iter X.env x = pure x := by intro _; rfl) : PE X (.ListComp elt [⟨tg, iter, ifs, 0⟩] scope pos) (tComp ts.length ix wi g tt te) := by
  intro pins s σ H Q I h
  rw [eval_ListComp]
  refine comp_core (use := none) (Qv := EP X pins σ Q) hc S hi hb hs I h fun D C H' s' I' f' n' q' => ?_
  obtain ⟨m, hm⟩ := n'
  refine ⟨m, hm, fun h' sb => ⟨.ref D, H', ?_, rfl, q'⟩⟩
  exact I'.turned (t' := s'.toks) (fun b o hb' e => (sb.2 b hb').trans e) f'.1 f'.2.1 f'.2.2.2.1 f'.2.2.2.2.1 f'.2.2.2.2.2


end



abbrev CTurn (D : Addr) (σ : St) (k : Nat) (ix : List Nat) (g : TG) (tt : TT) (te : TE) (x : V) (ys : List V) (H : Hp) (N : List V → Hp → Prop) : Prop :=
  g x (capt σ k ix) H fun σ2 H4 => Kp (capt σ k ix) σ2 ∧ tt σ2 H4 fun b H5 => if b = true then te σ2 H5 fun y H6 => H6 D = some (.lst ys) ∧ ys.length < sizeLine ∧ N (ys ++ [y]) (upd H6 D (.lst (ys ++ [y]))) else N ys H5
end L2

namespace L2
open PySem PySem.Spec PyProof.Rows



abbrev mkS (l : List Nat) : Str := ⟨l.toArray⟩
section
variable {X : Cx}
theorem op_gt_str : OpR X (compareOp .Gt) (fun x y H Q => ∃ i j, x = .str i ∧ y = .str j ∧ Q (.bl (decide (j.cps.toList < i.cps.toList))) H) := by
  intro pins s σ H x y v u Q I rx ry h
  obtain ⟨i, j, rfl, rfl, q⟩ := h
  obtain ⟨t, rfl⟩ := rx
  obtain ⟨t', rfl⟩ := ry
  exact PySem.P.gt_str (fin_bl I q rfl)

def Its (x : Str) : It := ⟨fun i _ => i < x.cps.toList.length, fun i H v H' => H' = H ∧ ∃ c, x.cps.toList[i]? = some c ∧ v = .str (mkS [c]), fun i _ => x.cps.toList.length ≤ i⟩
theorem turn_str {P : Program} {w : World} {K : PySem.W.Frag} {tg : Expr} (it : Addr) (x : Str) (t : Tok) (ty : String)
    (hn : ["enumerate", "zip", "dict_itemiterator", "dict_reverseitemiterator", "odict_iterator", "itertools.zip_longest", "itertools.pairwise"].contains ty = false)
    (W : ∀ A' : Around, A'.handled = none → Walks P w A' it [it] [it] x.cps.size (SignAt x) (fun i h => h.IsStrIter it ty x t i))
    (hself : ∀ (A : Around) (i : Nat) (s : Shared) (Q : Value → Shared → Prop) (E : Value → Shared → Prop), s.heap.IsStrIter it ty x t i → Q (.ref it) s → wpAny (model P w) A (pyIter (.ref it)) Q E s)
    (hend : ∀ (A : Around) (i : Nat) (s : Shared) (Q : Option Value → Shared → Prop) (E : Value → Shared → Prop), A.handled = none → s.heap.IsStrIter it ty x t i → x.cps[i]? = none → (∀ h', Heap.ExtBut it s.heap h' → Q none { s with heap := h' }) → wpAny (model P w) A (pyNext (.ref it)) Q E s) :
    Turn P w K tg (Its x) [it] it (fun i h => h.IsStrIter it ty x t i) where
  mem := by simp
  obj := fun i h st b hb => by
    have e : b = it := by simpa using hb
    subst e
    obtain ⟨o, e, c, d⟩ := st
    exact ⟨o, e, fun v z => by rw [d] at z; cases z⟩
  keep := fun i h h' st k => by
    obtain ⟨o, e, r⟩ := st
    exact ⟨o, k it (by simp) o e, r⟩
  item := by
    intro X hP hw hK hc i pins s σ H E I hf st hg
    subst hP hw hK
    obtain ⟨f0, f1, f2, f3, f4, f5⟩ := hf it (by simp)
    have hg' : i < x.cps.toList.length := hg
    have hi : i < x.cps.size := by simpa using hg'
    refine (W X.A (I.ok.hd hc)).item i s _ _ hi st fun v h' tk hv st' kk => ?_
    obtain ⟨c, u, hcx, rfl⟩ := hv
    have I1 : Inv X pins σ H { s with heap := h', toks := tk } := I.turned (fun b o hb e => kk b o (by simpa using hb) e) f0 f1 f3 f4 f5
    obtain ⟨o, e, cc, d⟩ := id st'
    refine ⟨_, rfl, go_of (s := { s with heap := h', toks := tk }) e cc d hn ⟨.str (mkS [c]), H, I1, ⟨u, rfl⟩, ⟨rfl, c, by simpa using hcx, rfl⟩, st', fun b hb => (hf b hb).1⟩⟩
  done := by
    intro X hP hw hK hc i pins s σ H E I hf st hg
    subst hP hw hK
    obtain ⟨f0, f1, f2, f3, f4, f5⟩ := hf it (by simp)
    have hg' : x.cps.toList.length ≤ i := hg
    have hi : x.cps.size ≤ i := by simpa using hg'
    have hnone : x.cps[i]? = none := by simpa using hi
    exact hend X.A i s _ _ (I.ok.hd hc) st hnone fun h' eb => ⟨rfl, I.turned (t' := s.toks) (fun b o hb e => eb b o hb e) f0 f1 f3 f4 f5⟩
  self := fun A i s Q E st h => hself A i s Q E st h
def iStr (tl : TE) : TI := fun σ H R => tl σ H fun x H1 => ∃ z, x = .str z ∧ R (Its z) H1
theorem pi_str {tg l : Expr} {tl : TE} (hl : PE X l tl) : PI X tg l (iStr tl) := by
  intro pins s σ H R I h
  refine thn (hl pins s σ H _ I h) fun v s1 ⟨x, H1, I1, r1, q1⟩ => ?_
  obtain ⟨z, rfl, q⟩ := q1
  obtain ⟨t, rfl⟩ := r1
  have fin : ∀ ty : String, Turn X.prog X.w X.K tg (Its z) [s1.heap.objs.size] s1.heap.objs.size (fun i h => h.IsStrIter s1.heap.objs.size ty z t i) →
      PIE X pins σ tg R (.ref s1.heap.objs.size) { s1 with heap := s1.heap.push { cls := .type ty, data := .fields #[.str z t, .int 0 0] } } := fun ty T => by
    refine ⟨s1.heap.objs.size, [s1.heap.objs.size], _, _, H1, rfl, I1.kept (t' := s1.toks) fun b o e => Heap.get?_push_of_some _ e, T, ⟨_, Heap.get?_push_size _ rfl, rfl, rfl⟩, fun b hb => ?_, q⟩
    have e : b = s1.heap.objs.size := by simpa using hb
    subst e
    exact I1.fpOk (Nat.le_refl _) (I1.hok.fresh (Nat.le_refl _))
  cases ha : z.cps.all (· < 128)
  · exact wpAny_pyIter_wide ha (fin _ (turn_str _ z t _ (by decide) (fun A' hA => Walks.strWide hA _ z t) (fun A i s Q E st h => wpAny_pyIter_striter_wide st h) fun A i s Q E hh st hx hQ => wpAny_pyNext_wide_end hh st hx hQ))
  · exact wpAny_pyIter_ascii ha (fin _ (turn_str _ z t _ (by decide) (fun A' hA => Walks.strAscii hA _ z t) (fun A i s Q E st h => wpAny_pyIter_striter_ascii st h) fun A i s Q E hh st hx hQ => wpAny_pyNext_ascii_end hh st hx hQ))
theorem for_str {x : Str} {g : TG} {tb : TS} {D : Ends} {σ : St} {H : Hp} (Pv : Nat → St → Hp → Prop) (h0 : Pv 0 σ H)
    (hs : ∀ i c σ H, x.cps.toList[i]? = some c → Pv i σ H → g (.str (mkS [c])) σ H fun σ2 H2 => tb { D with nx := Pv (i + 1), ct := Pv (i + 1), bk := D.nx } σ2 H2) (hd : ∀ σ H, Pv x.cps.toList.length σ H → D.nx σ H) :
    ∃ W : Nat → Nat → St → Hp → Prop, (∃ m, W 0 m σ H) ∧ ∀ i m σ H, W i m σ H →
      ((Its x).stop i H ∧ D.nx σ H) ∨ ((Its x).go i H ∧ ∃ N : St → Hp → Prop, (∀ σ' H', N σ' H' → ∃ m', m' < m ∧ W (i + 1) m' σ' H') ∧ ∀ v H', (Its x).yld i H v H' → g v σ H' fun σ2 H2 => tb { D with nx := N, ct := N, bk := D.nx } σ2 H2) := by
  refine ⟨fun i m σ H => m = x.cps.toList.length - i ∧ i ≤ x.cps.toList.length ∧ Pv i σ H, ⟨_, rfl, Nat.zero_le _, h0⟩, ?_⟩
  rintro i m σ H ⟨rfl, hi, p⟩
  by_cases hlt : i < x.cps.toList.length
  · refine .inr ⟨hlt, Pv (i + 1), fun σ' H' p' => ⟨_, by omega, rfl, hlt, p'⟩, fun v H' y => ?_⟩
    obtain ⟨rfl, c, hc, rfl⟩ := y
    exact hs i c σ _ hc p
  · have e : i = x.cps.toList.length := by omega
    subst e
    exact .inl ⟨Nat.le_refl _, hd σ H p⟩

theorem call_all_b (hc : X.calm = true) (hin : X.A.in1.handled = none) : CallR X (.builtin "all") (fun xs H Q => ∃ (p : Addr) (bs : List Bool), xs = [.ref p] ∧ SqL X.K H p (bs.map V.bl) ∧ Q (.bl (bs.all id)) H) := by
  intro pins s σ H xs us Q I r h
  obtain ⟨p, bs, rfl, hq, q⟩ := h
  obtain ⟨u, rfl, ru⟩ := vals1 r
  cases ru
  obtain ⟨its, rv, pl, hz⟩ := I.list hq
  have hlen := rv.length
  rw [List.length_map] at hlen
  have hne : p ≠ s.heap.objs.size := by
    obtain ⟨o, n, e, _⟩ := pl
    exact Nat.ne_of_lt (Heap.lt_size e)
  refine call_all_walk (wpAny_pyIter_list pl.isList ?_)
  refine ⟨s.heap.objs.size, _, _, its.toArray.size, _, _, fun i => bs.getD i true, rfl, Walks.list hin s.heap.objs.size p hne its.toArray, ⟨⟨_, Heap.get?_push_size _ rfl, rfl, rfl⟩, ?_⟩, ?_, ?_⟩
  · obtain ⟨o, n, e, c, d, dd⟩ := pl
    exact ⟨o, Heap.get?_push_of_some _ e, c, n, dd⟩
  · intro i v s' Q' E' hv hQ'
    have hv' : its[i]? = some v := by simpa using hv
    have hi : i < its.length := (List.getElem?_eq_some_iff.mp hv').1
    have hb : (bs.map V.bl)[i]? = some (V.bl (bs.getD i true)) := by
      rw [List.getElem?_map, List.getElem?_eq_getElem (by omega), List.getD_eq_getElem?_getD, List.getElem?_eq_getElem (by omega)]; rfl
    obtain ⟨u, hu, ru⟩ := rv.get hb
    rw [hv'] at hu
    cases hu
    cases ru
    exact wpAny_truthy_bool hQ'
  · intro h' tk kk
    have e : (List.range its.toArray.size).all (fun i => bs.getD i true) = bs.all id := by
      rw [List.size_toArray, ← hlen, Bool.eq_iff_iff, List.all_eq_true, List.all_eq_true]
      constructor
      · intro z b hb
        obtain ⟨i, hi, rfl⟩ := List.mem_iff_getElem.mp hb
        have := z i (List.mem_range.mpr hi)
        rw [List.getD_eq_getElem?_getD, List.getElem?_eq_getElem hi] at this
        exact this
      · intro z i hi
        have hi' := List.mem_range.mp hi
        rw [List.getD_eq_getElem?_getD, List.getElem?_eq_getElem hi']
        exact z _ (List.getElem_mem hi')
    rw [e]
    have I1 : Inv X pins σ H { s with heap := s.heap.push { cls := .type "list_iterator", data := .fields #[.ref p, .int 0 0] } } := I.kept (t' := s.toks) fun b o e => Heap.get?_push_of_some _ e
    obtain ⟨f0, f1, f2, f3, f4, f5⟩ := I.fpOk (Nat.le_refl _) (I.hok.fresh (Nat.le_refl _))
    exact ⟨.bl (bs.all id), H, I1.turned (fun b o hb e => kk b o (by simpa using hb) e) f0 f1 f3 f4 f5, rfl, q⟩


theorem call_isinst : CallR X (.builtin "isinstance") (fun xs H Q => ∃ x T t b, xs = [x, .ty T] ∧ TyOf X.K H x t ∧ PySem.W.kitOne X.K t (.type T) = some b ∧ Q (.bl b) H) := by
  intro pins s σ H xs us Q I r h
  obtain ⟨x, T, t, b, rfl, ty, e, q⟩ := h
  obtain ⟨u, u', rfl, ru, ru'⟩ := vals2 r
  cases ru'
  exact isinst_ok I ru ty e fun tk => ⟨.bl b, H, I.tok _, rfl, q⟩
end

section
variable {X : Cx} {K : PySem.W.Frag}
def rLenQ (K : PySem.W.Frag) : List V → Hp → VK → Prop := fun xs H Q => ∃ p ys, xs = [.ref p] ∧ (SqL K H p ys ∨ SqT K H p ys) ∧ Q (.int ys.length) H
theorem call_lenK (h : X.K = K := by rfl) : CallR X (.builtin "len") (rLenQ K) := h ▸ call_len_seq
def rIsi (K : PySem.W.Frag) : List V → Hp → VK → Prop := fun xs H Q => ∃ x T t b, xs = [x, .ty T] ∧ TyOf K H x t ∧ PySem.W.kitOne K t (.type T) = some b ∧ Q (.bl b) H
theorem call_isinstK (h : X.K = K := by rfl) : CallR X (.builtin "isinstance") (rIsi K) := h ▸ call_isinst
def rAll (K : PySem.W.Frag) : List V → Hp → VK → Prop := fun xs H Q => ∃ (p : Addr) (bs : List Bool), xs = [.ref p] ∧ SqL K H p (bs.map V.bl) ∧ Q (.bl (bs.all id)) H
theorem call_allK (hc : X.calm = true) (hin : X.A.in1.handled = none) (h : X.K = K := by rfl) : CallR X (.builtin "all") (rAll K) := h ▸ call_all_b hc hin
end
theorem bt_isinstance : bootBuiltins "isinstance" = some (.builtin "isinstance") := by decide +kernel
theorem bt_all : bootBuiltins "all" = some (.builtin "all") := by decide +kernel
theorem bt_sorted : bootBuiltins "sorted" = some (.builtin "sorted") := by decide +kernel
theorem bt_bool : bootBuiltins "bool" = some (.type "bool") := by decide +kernel
theorem bt_int : bootBuiltins "int" = some (.type "int") := by decide +kernel
theorem bt_str : bootBuiltins "str" = some (.type "str") := by decide +kernel
theorem bt_list : bootBuiltins "list" = some (.type "list") := by decide +kernel
theorem bt_tuple : bootBuiltins "tuple" = some (.type "tuple") := by decide +kernel
theorem bt_zip : bootBuiltins "zip" = some (.type "zip") := by decide +kernel
theorem bt_enumerate : bootBuiltins "enumerate" = some (.type "enumerate") := by decide +kernel
end L2

namespace L2
open PySem PySem.Spec PyProof.Rows


section
variable {prog : Program} {w : World} {A : Around} {E : Value → Shared → Prop} {s : Shared}
theorem nx_tup {it t : Addr} {i : Nat} {its : Array Value} {x : Value} {Q : Value → Shared → Prop} (hit : s.heap.IsTupleIter it t i) (ht : s.heap.IsTuple t its) (hx : its[i]? = some x)
    (hQ : ∀ h', h'.IsTupleIter it t (i + 1) → Heap.SameBut it s.heap h' → Q x { s with heap := h' }) : wpAny (model prog w) A (Builtin.SmallTypes.nextOf (.ref it)) Q E s := by
  obtain ⟨o, ho, hc, hd⟩ := id hit
  obtain ⟨ot, hot, _, nt, hdt⟩ := ht
  unfold Builtin.SmallTypes.nextOf
  refine wpAny_bind (wpAny_callSpecial?_slot (name := Str.ofString "__next__") hit.typeIs F.slot_tuple_iterator_next (wpAny_call_entry F.slot_tuple_iterator_next hit.typeIs F.entry_tuple_iterator_next ?_ (F.args_tuple_iterator_next_1 _)))
  show wpAny _ _ (field (.ref it) 0 >>= _) _ _ s; refine wpAny_bind (wpAny_field ho hd (x := .ref t) rfl ?_)
  show wpAny _ _ (if (Value.ref t == Value.none) = true then _ else _) _ _ s; rw [if_neg (show ¬ ((Value.ref t == Value.none) = true) from fun z => Bool.false_ne_true z)]
  show wpAny _ _ (field (.ref it) 1 >>= _) _ _ s; refine wpAny_bind (wpAny_field ho hd (x := .int i 0) rfl ?_)
  show wpAny _ _ (seqItems? (.ref t) >>= _) _ _ s; refine wpAny_bind (wpAny_seqItems hot hdt ?_); simp only [Int.toNat_natCast, hx]
  refine wpAny_bind (wpAny_setField ho hd (by simp) (wpAny_pure ⟨x, rfl, wpAny_pure (hQ _ ⟨_, Heap.get?_update_self _ ho (Obj.isFreed_of_fields (Obj.data_mapFields hd _)), (Obj.cls_mapFields ..).trans hc, by rw [Obj.data_mapFields hd]; simp [rawInt]⟩ (Heap.SameBut.update ..))⟩))
theorem nx_tup_end {it t : Addr} {i : Nat} {its : Array Value} {Q : Value → Shared → Prop} (hh : A.handled = none) (hit : s.heap.IsTupleIter it t i) (ht : s.heap.IsTuple t its) (hx : its[i]? = none)
    (hE : ∀ h' e, Heap.ExtBut it s.heap h' → (∃ o, h'.get? e = some o ∧ o.cls = .type "StopIteration") → E (.ref e) { s with heap := h' }) : wpAny (model prog w) A (Builtin.SmallTypes.nextOf (.ref it)) Q E s := by
  obtain ⟨o, ho, hc, hd⟩ := id hit
  obtain ⟨ot, hot, _, nt, hdt⟩ := ht
  unfold Builtin.SmallTypes.nextOf
  refine wpAny_bind (wpAny_callSpecial?_slot (name := Str.ofString "__next__") hit.typeIs F.slot_tuple_iterator_next (wpAny_call_entry F.slot_tuple_iterator_next hit.typeIs F.entry_tuple_iterator_next ?_ (F.args_tuple_iterator_next_1 _)))
  show wpAny _ _ (field (.ref it) 0 >>= _) _ _ s; refine wpAny_bind (wpAny_field ho hd (x := .ref t) rfl ?_)
  show wpAny _ _ (if (Value.ref t == Value.none) = true then _ else _) _ _ s; rw [if_neg (show ¬ ((Value.ref t == Value.none) = true) from fun z => Bool.false_ne_true z)]
  show wpAny _ _ (field (.ref it) 1 >>= _) _ _ s; refine wpAny_bind (wpAny_field ho hd (x := .int i 0) rfl ?_)
  show wpAny _ _ (seqItems? (.ref t) >>= _) _ _ s; refine wpAny_bind (wpAny_seqItems hot hdt ?_); simp only [Int.toNat_natCast, hx]
  refine wpAny_bind (wpAny_rule (wpAny_bind (wpAny_setField ho hd (by simp) ?_))); show wpAny _ _ (newExc (.type "StopIteration") [] >>= _) _ _ _
  refine wpAny_bind ?_; simp only [newExc, newTuple]; refine wpAny_bind (wpAny_newObj_type ?_ (by size_fits))
  refine wpAny_bind (m := firstArgMember _ _) (wpAny_of_eq (a := Value.none) (by first | rfl | (simp only [firstArgMember]; rfl)) ?_); refine wpAny_newObj_type ?_ (by size_fits)
  simp only [raiseNew]; refine wpAny_bind (wpAny_handled ?_); first | rw [show A.in1.handled = none from hh] | rw [hh]
  refine wpAny_bind (wpAny_pure (wpAny_throw (hE _ _ (((Heap.SameBut.update ..).extBut.push _).push _) ⟨_, Heap.get?_push_size _ rfl, rfl⟩)))
end



structure SubIt (P : Program) (w : World) (K : PySem.W.Frag) (it : Addr) (go stop : Nat → Hp → Prop) (yld : Nat → Hp → V → Prop) (tn : Nat → Heap → Prop) : Prop where
  obj : ∀ i h, tn i h → ∃ o, h.get? it = some o ∧ ∀ v, o.data ≠ .cell v
  keep : ∀ i h h', tn i h → (∀ o, h.get? it = some o → h'.get? it = some o) → tn i h'
  item : ∀ (X : Cx) (pins : List (Addr × Obj)) (σ : St) (H : Hp) (s₀ : Shared) (i : Nat) (fp : List Addr), X.prog = P → X.w = w → X.K = K → Inv X pins σ H s₀ → (∀ b ∈ fp, FpOk X pins H b) → go i H →
    ∃ U : Heap → Prop, U s₀.heap ∧ (∀ h h', U h → (∀ b o, b ∉ fp → h.get? b = some o → h'.get? b = some o) → U h') ∧ ∃ x, yld i H x ∧
      ∀ (A : Around) (s : Shared) (Q : Value → Shared → Prop) (E : Value → Shared → Prop), U s.heap → tn i s.heap → (∀ u h' tk, RelV x u → tn (i + 1) h' → Heap.SameBut it s.heap h' → Q u { s with heap := h', toks := tk }) →
        wpAny (model P w) A (Builtin.SmallTypes.nextOf (.ref it)) Q E s
  done : ∀ (X : Cx) (pins : List (Addr × Obj)) (σ : St) (H : Hp) (s₀ : Shared) (i : Nat) (fp : List Addr), X.prog = P → X.w = w → X.K = K → Inv X pins σ H s₀ → (∀ b ∈ fp, FpOk X pins H b) → stop i H →
    ∃ U : Heap → Prop, U s₀.heap ∧ (∀ h h', U h → (∀ b o, b ∉ fp → h.get? b = some o → h'.get? b = some o) → U h') ∧
      ∀ (A : Around) (s : Shared) (Q : Value → Shared → Prop) (E : Value → Shared → Prop), A.handled = none → U s.heap → tn i s.heap → (∀ h' e, Heap.ExtBut it s.heap h' → (∃ o, h'.get? e = some o ∧ o.cls = .type "StopIteration") → E (.ref e) { s with heap := h' }) →
        wpAny (model P w) A (Builtin.SmallTypes.nextOf (.ref it)) Q E s
theorem base_notin {X : Cx} {pins : List (Addr × Obj)} {σ : St} {H : Hp} {s : Shared} {fp : List Addr} (I : Inv X pins σ H s) (hf : ∀ b ∈ fp, FpOk X pins H b) {a : Addr} {o : Obj} (e : X.base.get? a = some o) : a ∉ fp := fun hb => by
  rcases (hf a hb).2.2.2.1 with z | z
  · exact I.ok.noex a o e z
  · exact absurd (Nat.lt_of_lt_of_le (Heap.lt_size (I.ok.bs a o e).1) z) (Nat.lt_irrefl _)
theorem sqT_notin {X : Cx} {pins : List (Addr × Obj)} {σ : St} {H : Hp} {s : Shared} {fp : List Addr} {a : Addr} {xs : List V} (I : Inv X pins σ H s) (hf : ∀ b ∈ fp, FpOk X pins H b) (h : SqT X.K H a xs) : a ∉ fp := by
  rcases h with (h | ⟨o, h⟩) | ⟨o, its, n, hk, _⟩
  · exact fun hb => by rw [(hf a hb).1] at h; cases h
  · exact fun hb => by rw [(hf a hb).1] at h; cases h
  · exact base_notin I hf (I.ok.mod.kin a o hk)
theorem sqL_notin {X : Cx} {pins : List (Addr × Obj)} {σ : St} {H : Hp} {s : Shared} {fp : List Addr} {a : Addr} {xs : List V} (I : Inv X pins σ H s) (hf : ∀ b ∈ fp, FpOk X pins H b) (h : SqL X.K H a xs) : a ∉ fp := by
  rcases h with (h | ⟨o, h⟩) | ⟨o, its, n, hk, _⟩
  · exact fun hb => by rw [(hf a hb).1] at h; cases h
  · exact fun hb => by rw [(hf a hb).1] at h; cases h
  · exact base_notin I hf (I.ok.mod.kin a o hk)
theorem sub_tup {P : Program} {w : World} {K : PySem.W.Frag} (a it : Addr) : SubIt P w K it (fun i H => ∃ xs x, SqT K H a xs ∧ xs[i]? = some x) (fun i H => ∃ xs, SqT K H a xs ∧ xs.length ≤ i) (fun i H x => ∀ xs, SqT K H a xs → xs[i]? = some x) (fun i h => h.IsTupleIter it a i) where
  obj := fun i h ⟨o, e, c, d⟩ => ⟨o, e, fun v z => by rw [d] at z; cases z⟩
  keep := fun i h h' ⟨o, e, r⟩ k => ⟨o, k o e, r⟩
  item := fun X pins σ H s₀ i fp hP hw hK I hf ⟨xs, x, hq, hx⟩ => by
    subst hP hw hK
    obtain ⟨its, rv, p, _⟩ := I.tuple hq
    have na := sqT_notin I hf hq
    obtain ⟨u, hu, ru⟩ := rv.get hx
    refine ⟨fun h => h.IsTuple a its.toArray, p, fun h h' ⟨o, e, r⟩ k => ⟨o, k a o na e, r⟩, x, fun ys hy => by rw [I.tuple_inj hy hq]; exact hx, fun A s Q E hU st hQ => ?_⟩
    exact nx_tup st hU (x := u) (by simpa using hu) fun h' st' sb => hQ u h' s.toks ru st' sb
  done := fun X pins σ H s₀ i fp hP hw hK I hf ⟨xs, hq, hx⟩ => by
    subst hP hw hK
    obtain ⟨its, rv, p, _⟩ := I.tuple hq
    have na := sqT_notin I hf hq
    have hl := rv.length
    exact ⟨fun h => h.IsTuple a its.toArray, p, fun h h' ⟨o, e, r⟩ k => ⟨o, k a o na e, r⟩, fun A s Q E hh hU st hE => nx_tup_end hh st hU (by simp; omega) hE⟩
theorem sub_lst {P : Program} {w : World} {K : PySem.W.Frag} (a it : Addr) : SubIt P w K it (fun i H => ∃ xs x, SqL K H a xs ∧ xs[i]? = some x) (fun i H => ∃ xs, SqL K H a xs ∧ xs.length ≤ i) (fun i H x => ∀ xs, SqL K H a xs → xs[i]? = some x) (fun i h => h.IsListIter it a i) where
  obj := fun i h ⟨o, e, c, d⟩ => ⟨o, e, fun v z => by rw [d] at z; cases z⟩
  keep := fun i h h' ⟨o, e, r⟩ k => ⟨o, k o e, r⟩
  item := fun X pins σ H s₀ i fp hP hw hK I hf ⟨xs, x, hq, hx⟩ => by
    subst hP hw hK
    obtain ⟨its, rv, p, _⟩ := I.list hq
    have na := sqL_notin I hf hq
    obtain ⟨u, hu, ru⟩ := rv.get hx
    refine ⟨fun h => h.IsList a its.toArray, p.isList, fun h h' ⟨o, e, r⟩ k => ⟨o, k a o na e, r⟩, x, fun ys hy => by rw [I.list_inj hy hq]; exact hx, fun A s Q E hU st hQ => ?_⟩
    exact wpAny_nextOf_list_item st hU (x := u) (by simpa using hu) fun h' st' sb => hQ u h' s.toks ru st' sb
  done := fun X pins σ H s₀ i fp hP hw hK I hf ⟨xs, hq, hx⟩ => by
    subst hP hw hK
    obtain ⟨its, rv, p, _⟩ := I.list hq
    have na := sqL_notin I hf hq
    have hl := rv.length
    exact ⟨fun h => h.IsList a its.toArray, p.isList, fun h h' ⟨o, e, r⟩ k => ⟨o, k a o na e, r⟩, fun A s Q E hh hU st hE => wpAny_nextOf_list_end hh st hU (by simp; omega) hE⟩


structure ZA (z TI TO i1 i2 : Addr) : Prop where
  p1 : TI ≠ z
  p2 : TO ≠ z
  p3 : i1 ≠ z
  p4 : i2 ≠ z
  p5 : TI ≠ TO
  p6 : TI ≠ i1
  p7 : TI ≠ i2
  p8 : TO ≠ i1
  p9 : TO ≠ i2
  p0 : i1 ≠ i2
section
variable {prog : Program} {w : World} {A : Around} {E : Value → Shared → Prop} {s : Shared}
theorem zip_one {z TI TO i1 i2 : Addr} {x y : V} {a b : Value} {U1 U2 T1 T2 T1' T2' : Heap → Prop} {Q : Value → Shared → Prop} (D : ZA z TI TO i1 i2)
    (hz : IsZip s.heap z TI TO .none) (hTI : IsPair s.heap TI (.ref i1) (.ref i2)) (hTO : IsPair s.heap TO a b) (u1 : U1 s.heap) (u2 : U2 s.heap) (t1 : T1 s.heap) (t2 : T2 s.heap)
    (k1 : ∀ h h', U1 h → (∀ b o, b ∉ [z, TI, TO, i1, i2] → h.get? b = some o → h'.get? b = some o) → U1 h') (k2 : ∀ h h', U2 h → (∀ b o, b ∉ [z, TI, TO, i1, i2] → h.get? b = some o → h'.get? b = some o) → U2 h')
    (q1 : ∀ h h', T1 h → (∀ o, h.get? i1 = some o → h'.get? i1 = some o) → T1 h') (q2 : ∀ h h', T2 h → (∀ o, h.get? i2 = some o → h'.get? i2 = some o) → T2 h')
    (q1' : ∀ h h', T1' h → (∀ o, h.get? i1 = some o → h'.get? i1 = some o) → T1' h') (q2' : ∀ h h', T2' h → (∀ o, h.get? i2 = some o → h'.get? i2 = some o) → T2' h')
    (d1 : ∀ (A : Around) (s : Shared) (Q : Value → Shared → Prop) (E : Value → Shared → Prop), U1 s.heap → T1 s.heap → (∀ u h' tk, RelV x u → T1' h' → Heap.SameBut i1 s.heap h' → Q u { s with heap := h', toks := tk }) → wpAny (model prog w) A (Builtin.SmallTypes.nextOf (.ref i1)) Q E s)
    (d2 : ∀ (A : Around) (s : Shared) (Q : Value → Shared → Prop) (E : Value → Shared → Prop), U2 s.heap → T2 s.heap → (∀ u h' tk, RelV y u → T2' h' → Heap.SameBut i2 s.heap h' → Q u { s with heap := h', toks := tk }) → wpAny (model prog w) A (Builtin.SmallTypes.nextOf (.ref i2)) Q E s)
    (hQ : ∀ u v h' tk, RelV x u → RelV y v → IsZip h' z TI TO (rawInt s.heap.objs.size) → IsPair h' TI (.ref i1) (.ref i2) → IsPair h' TO u v → T1' h' → T2' h' → IsPair h' s.heap.objs.size u v →
      (∀ c o, c ≠ z → c ≠ TO → c ≠ i1 → c ≠ i2 → s.heap.get? c = some o → h'.get? c = some o) → Q (.ref s.heap.objs.size) { s with heap := h', toks := tk }) :
    wpAny (model prog w) A (Builtin.«zip.__next__» ⟨[.ref z], []⟩) (fun fin s' => ∃ v, fin = .done (.ret v) ∧ Q v s') E s := by
  have mz : ∀ {c : Addr}, c ∉ [z, TI, TO, i1, i2] → c ≠ z ∧ c ≠ TO ∧ c ≠ i1 ∧ c ≠ i2 := fun {c} h => by simp at h; exact ⟨h.1, h.2.2.1, h.2.2.2.1, h.2.2.2.2⟩
  show wpAny _ _ (field (.ref z) 2 >>= _) _ _ _; refine wpAny_bind (wpAny_field hz rfl (x := .bool false) rfl ?_)
  show wpAny _ _ (field (.ref z) 3 >>= _) _ _ _; refine wpAny_bind (wpAny_field hz rfl (x := .ref TI) rfl (wpAny_bind (wpAny_seqItems hTI rfl ?_)))
  show wpAny _ _ (Builtin.SmallTypes.ownedTupleIsFree (.ref z) >>= _) _ _ _; refine wpAny_bind ?_; unfold Builtin.SmallTypes.ownedTupleIsFree
  refine wpAny_bind (wpAny_field hz rfl (x := .none) rfl (wpAny_pure ?_)); simp only [if_true]
  refine wpAny_bind (wpAny_rule (wpAny_bind (wpAny_field hz rfl (x := .ref TO) rfl (wpAny_bind (wpAny_setField_rec hz (by simp) fun g1 hz1 hs1 => ?_)))))
  replace hz1 : IsZip g1 z TI TO .ellipsis := hz1
  refine wpAny_bind ?_; simp only [List.zipIdx_cons, List.zipIdx_nil, List.forIn_cons, List.forIn_nil]
  refine wpAny_bind (wpAny_bind (wpAny_onRaise ?_)); show wpAny _ _ (Builtin.SmallTypes.nextOf (.ref i1) >>= _) _ _ _
  refine wpAny_bind (d1 _ _ _ _ (k1 _ _ u1 fun c o hc e => hs1.extBut _ _ (mz hc).1 e) (q1 _ _ t1 fun o e => hs1.extBut _ _ D.p3 e) fun u g2 tk2 ru t1b hs2 => wpAny_pure ?_)
  have hTO2 : IsPair g2 TO a b := hs2.extBut _ _ D.p8 (hs1.extBut _ _ D.p2 hTO)
  refine wpAny_bind (wpAny_seqItems hTO2 rfl (wpAny_bind (wpAny_updateSeq_pair hTO2 fun g3 hTO3 hs3 => ?_)))
  replace hTO3 : IsPair g3 TO u b := hTO3
  refine wpAny_bind (wpAny_letGo (wpAny_pure (wpAny_bind (wpAny_bind (wpAny_onRaise ?_))))); show wpAny _ _ (Builtin.SmallTypes.nextOf (.ref i2) >>= _) _ _ _
  refine wpAny_bind (d2 _ _ _ _ (k2 _ _ u2 fun c o hc e => hs3.extBut _ _ (mz hc).2.1 (hs2.extBut _ _ (mz hc).2.2.1 (hs1.extBut _ _ (mz hc).1 e))) (q2 _ _ t2 fun o e => hs3.extBut _ _ D.p9.symm (hs2.extBut _ _ D.p0.symm (hs1.extBut _ _ D.p4 e))) fun v g4 tk4 rv t2b hs4 => wpAny_pure ?_)
  have hTO4 : IsPair g4 TO u b := hs4.extBut _ _ D.p9 hTO3
  refine wpAny_bind (wpAny_seqItems hTO4 rfl (wpAny_bind (wpAny_updateSeq_pair hTO4 fun g5 hTO5 hs5 => ?_)))
  replace hTO5 : IsPair g5 TO u v := hTO5
  refine wpAny_bind (wpAny_letGo (wpAny_pure (wpAny_pure (wpAny_bind (wpAny_seqItems hTO5 rfl (wpAny_bind (wpAny_newTuple ?_)))))))
  have sz : g5.objs.size = s.heap.objs.size := by rw [hs5.1, hs4.1, hs3.1, hs2.1, hs1.1]
  have all5 : ∀ c o, c ≠ z → c ≠ TO → c ≠ i1 → c ≠ i2 → s.heap.get? c = some o → g5.get? c = some o := fun c o c1 c2 c3 c4 e => hs5.extBut _ _ c2 (hs4.extBut _ _ c4 (hs3.extBut _ _ c2 (hs2.extBut _ _ c3 (hs1.extBut _ _ c1 e))))
  have hz5 : IsZip g5 z TI TO .ellipsis := hs5.extBut _ _ D.p2.symm (hs4.extBut _ _ D.p4.symm (hs3.extBut _ _ D.p2.symm (hs2.extBut _ _ D.p3.symm hz1)))
  have t15 : T1' g5 := q1' _ _ t1b fun o e => hs5.extBut _ _ D.p8.symm (hs4.extBut _ _ D.p0 (hs3.extBut _ _ D.p8.symm e))
  have t25 : T2' g5 := q2' _ _ t2b fun o e => hs5.extBut _ _ D.p9.symm e
  have zlt : z < g5.objs.size := Heap.lt_size hz5
  show wpAny _ _ (Builtin.SmallTypes.ownedTupleHandOut (.ref z) (.ref g5.objs.size) >>= _) _ _ _; refine wpAny_bind ?_; unfold Builtin.SmallTypes.ownedTupleHandOut
  have hz6 : IsZip (g5.push { cls := .type "tuple", data := .seq #[u, v] }) z TI TO .ellipsis := Heap.get?_push_of_some _ hz5
  refine wpAny_bind (wpAny_setField_rec hz6 (by simp) fun g7 hz7 hs7 => ?_)
  replace hz7 : IsZip g7 z TI TO (rawInt g5.objs.size) := hz7
  refine wpAny_setField_rec hz7 (by simp) fun g8 hz8 hs8 => ?_
  replace hz8 : IsZip g8 z TI TO (rawInt g5.objs.size) := hz8
  have up8 : ∀ c o, c ≠ z → g5.get? c = some o → g8.get? c = some o := fun c o c1 e => hs8.extBut _ _ c1 (hs7.extBut _ _ c1 (Heap.get?_push_of_some _ e))
  have hT8 : IsPair g8 g5.objs.size u v := hs8.extBut _ _ (Nat.ne_of_gt zlt) (hs7.extBut _ _ (Nat.ne_of_gt zlt) (Heap.get?_push_size _ rfl))
  rw [sz] at hz8 hT8
  refine wpAny_pure ⟨_, rfl, ?_⟩
  show Q (.ref g5.objs.size) _; rw [sz]
  exact hQ u v g8 _ ru rv hz8 (up8 _ _ D.p1 (all5 _ _ D.p1 D.p5 D.p6 D.p7 hTI)) (up8 _ _ D.p2 hTO5) (q1' _ _ t15 fun o e => up8 _ o D.p3 e) (q2' _ _ t25 fun o e => up8 _ o D.p4 e) hT8 fun c o c1 c2 c3 c4 e => up8 c o c1 (all5 c o c1 c2 c3 c4 e)
theorem zip_stop {z TI TO i1 i2 : Addr} {x : V} {a b : Value} {U1 U2 T1 T2 T1' : Heap → Prop} {Q : Fin → Shared → Prop} (hh : A.handled = none) (D : ZA z TI TO i1 i2)
    (hz : IsZip s.heap z TI TO .none) (hTI : IsPair s.heap TI (.ref i1) (.ref i2)) (hTO : IsPair s.heap TO a b) (u1 : U1 s.heap) (t1 : T1 s.heap)
    (k1 : ∀ h h', U1 h → (∀ b o, b ∉ [z, TI, TO, i1, i2] → h.get? b = some o → h'.get? b = some o) → U1 h')
    (q1 : ∀ h h', T1 h → (∀ o, h.get? i1 = some o → h'.get? i1 = some o) → T1 h')
    (hd : (∀ (A : Around) (s : Shared) (Q : Value → Shared → Prop) (E : Value → Shared → Prop), A.handled = none → U1 s.heap → T1 s.heap → (∀ h' e, Heap.ExtBut i1 s.heap h' → (∃ o, h'.get? e = some o ∧ o.cls = .type "StopIteration") → E (.ref e) { s with heap := h' }) → wpAny (model prog w) A (Builtin.SmallTypes.nextOf (.ref i1)) Q E s) ∨
      ((∀ (A : Around) (s : Shared) (Q : Value → Shared → Prop) (E : Value → Shared → Prop), U1 s.heap → T1 s.heap → (∀ u h' tk, RelV x u → T1' h' → Heap.SameBut i1 s.heap h' → Q u { s with heap := h', toks := tk }) → wpAny (model prog w) A (Builtin.SmallTypes.nextOf (.ref i1)) Q E s) ∧
        U2 s.heap ∧ T2 s.heap ∧ (∀ h h', U2 h → (∀ b o, b ∉ [z, TI, TO, i1, i2] → h.get? b = some o → h'.get? b = some o) → U2 h') ∧ (∀ h h', T2 h → (∀ o, h.get? i2 = some o → h'.get? i2 = some o) → T2 h') ∧
        ∀ (A : Around) (s : Shared) (Q : Value → Shared → Prop) (E : Value → Shared → Prop), A.handled = none → U2 s.heap → T2 s.heap → (∀ h' e, Heap.ExtBut i2 s.heap h' → (∃ o, h'.get? e = some o ∧ o.cls = .type "StopIteration") → E (.ref e) { s with heap := h' }) → wpAny (model prog w) A (Builtin.SmallTypes.nextOf (.ref i2)) Q E s))
    (hE : ∀ h' tk e, (∀ c o, c ≠ z → c ≠ TO → c ≠ i1 → c ≠ i2 → s.heap.get? c = some o → h'.get? c = some o) → (∃ o, h'.get? e = some o ∧ o.cls = .type "StopIteration") → E (.ref e) { s with heap := h', toks := tk }) :
    wpAny (model prog w) A (Builtin.«zip.__next__» ⟨[.ref z], []⟩) Q E s := by
  have mz : ∀ {c : Addr}, c ∉ [z, TI, TO, i1, i2] → c ≠ z ∧ c ≠ TO ∧ c ≠ i1 ∧ c ≠ i2 := fun {c} h => by simp at h; exact ⟨h.1, h.2.2.1, h.2.2.2.1, h.2.2.2.2⟩
  show wpAny _ _ (field (.ref z) 2 >>= _) _ _ _; refine wpAny_bind (wpAny_field hz rfl (x := .bool false) rfl ?_)
  show wpAny _ _ (field (.ref z) 3 >>= _) _ _ _; refine wpAny_bind (wpAny_field hz rfl (x := .ref TI) rfl (wpAny_bind (wpAny_seqItems hTI rfl ?_)))
  show wpAny _ _ (Builtin.SmallTypes.ownedTupleIsFree (.ref z) >>= _) _ _ _; refine wpAny_bind ?_; unfold Builtin.SmallTypes.ownedTupleIsFree
  refine wpAny_bind (wpAny_field hz rfl (x := .none) rfl (wpAny_pure ?_)); simp only [if_true]
  refine wpAny_bind (wpAny_rule (wpAny_bind (wpAny_field hz rfl (x := .ref TO) rfl (wpAny_bind (wpAny_setField_rec hz (by simp) fun g1 hz1 hs1 => ?_)))))
  replace hz1 : IsZip g1 z TI TO .ellipsis := hz1
  refine wpAny_bind ?_; simp only [List.zipIdx_cons, List.zipIdx_nil, List.forIn_cons, List.forIn_nil]
  refine wpAny_bind (wpAny_bind (wpAny_onRaise ?_)); show wpAny _ _ (Builtin.SmallTypes.nextOf (.ref i1) >>= _) _ _ _
  rcases hd with e1 | ⟨d1, u2, t2, k2, q2, e2⟩
  · refine wpAny_bind (e1 _ _ _ _ hh (k1 _ _ u1 fun c o hc e => hs1.extBut _ _ (mz hc).1 e) (q1 _ _ t1 fun o e => hs1.extBut _ _ D.p3 e) fun g2 e hs2 he => ?_)
    obtain ⟨oe, hoe, hce⟩ := he
    have hz2 : IsZip g2 z TI TO .ellipsis := hs2 _ _ D.p3.symm hz1
    have nez : e ≠ z := fun q => by subst q; rw [hz2] at hoe; cases hoe; simp at hce
    exact wpAny_setField_rec hz2 (by simp) fun g3 _ hs3 => hE g3 _ e (fun c o c1 _ c3 _ q => hs3.extBut _ _ c1 (hs2 _ _ c3 (hs1.extBut _ _ c1 q))) ⟨oe, hs3.extBut _ _ nez hoe, hce⟩
  · refine wpAny_bind (d1 _ _ _ _ (k1 _ _ u1 fun c o hc e => hs1.extBut _ _ (mz hc).1 e) (q1 _ _ t1 fun o e => hs1.extBut _ _ D.p3 e) fun u g2 tk2 ru t1b hs2 => wpAny_pure ?_)
    have hTO2 : IsPair g2 TO a b := hs2.extBut _ _ D.p8 (hs1.extBut _ _ D.p2 hTO)
    refine wpAny_bind (wpAny_seqItems hTO2 rfl (wpAny_bind (wpAny_updateSeq_pair hTO2 fun g3 hTO3 hs3 => ?_)))
    refine wpAny_bind (wpAny_letGo (wpAny_pure (wpAny_bind (wpAny_bind (wpAny_onRaise ?_))))); show wpAny _ _ (Builtin.SmallTypes.nextOf (.ref i2) >>= _) _ _ _
    refine wpAny_bind (e2 _ _ _ _ hh (k2 _ _ u2 fun c o hc e => hs3.extBut _ _ (mz hc).2.1 (hs2.extBut _ _ (mz hc).2.2.1 (hs1.extBut _ _ (mz hc).1 e))) (q2 _ _ t2 fun o e => hs3.extBut _ _ D.p9.symm (hs2.extBut _ _ D.p0.symm (hs1.extBut _ _ D.p4 e))) fun g4 e hs4 he => ?_)
    obtain ⟨oe, hoe, hce⟩ := he
    have hz4 : IsZip g4 z TI TO .ellipsis := hs4 _ _ D.p4.symm (hs3.extBut _ _ D.p2.symm (hs2.extBut _ _ D.p3.symm hz1))
    have nez : e ≠ z := fun q => by subst q; rw [hz4] at hoe; cases hoe; simp at hce
    exact wpAny_setField_rec hz4 (by simp) fun g5 _ hs5 => hE g5 _ e (fun c o c1 c2 c3 c4 q => hs5.extBut _ _ c1 (hs4 _ _ c4 (hs3.extBut _ _ c2 (hs2.extBut _ _ c3 (hs1.extBut _ _ c1 q))))) ⟨oe, hs5.extBut _ _ nez hoe, hce⟩
end
section
variable {X : Cx} {pins : List (Addr × Obj)} {σ : St} {H : Hp} {s : Shared} {h' : Heap} {fp : List Addr}
theorem Inv.nfp (I : Inv X pins σ H s) (hf : ∀ b ∈ fp, FpOk X pins H b) {b : Addr} {u : HO} (e : H b = some u) : b ∉ fp := fun hb => by rw [(hf b hb).1] at e; cases e

theorem Inv.turnedL {t' : Nat} (I : Inv X pins σ H s) (hf : ∀ b ∈ fp, FpOk X pins H b) (k : ∀ b o, b ∉ fp → s.heap.get? b = some o → h'.get? b = some o) : Inv X pins σ H { s with heap := h', toks := t' } := by
  refine I.step (g' := s.gens) (d' := s.drawn) (ch := fp) (fun b hb => ⟨(hf b hb).2.2.2.1, (hf b hb).2.1, (hf b hb).2.2.2.2.1, (hf b hb).2.2.2.2.2⟩) (fun b o _ _ hc e _ => k b o hc e) (fun b o _ _ hc e _ => ⟨o.slots, k b o hc e⟩) (fun _ _ _ _ n => n)
    (fun b o hc e => ⟨o, k b o hc e⟩) (fun _ _ e => e) (fun _ _ _ e => e) (fun b ps e => ⟨#[], by rw [e]; simp⟩) (fun m hm => ?_) (fun b u e => ?_) I.bare
  · obtain ⟨o, es, ep, ho, r⟩ := hm
    exact ⟨o, es, ep, k _ o (fun z => (hf _ z).2.1 rfl) ho, r⟩
  · refine (I.hok b u e).stay (fun c v hc q => k c v ?_ q) (fun _ q => q) fun _ _ q => q
    rcases hc with z | z
    · rw [z]; exact I.nfp hf e
    · exact I.nfp hf z

theorem Inv.turnLay {t' : Nat} {p : Addr} {o : HO} (I : Inv X pins σ H s) (hf : ∀ b ∈ fp, FpOk X pins H b) (k : ∀ b o, b ∉ fp → s.heap.get? b = some o → h'.get? b = some o) (hp : s.heap.objs.size ≤ p) (new : ObjOk X.prog X.w (upd H p o) h' p o) :
    Inv X pins σ (upd H p o) { s with heap := h', toks := t' } := by
  have hn : H p = none := I.hok.fresh hp
  refine I.step (g' := s.gens) (d' := s.drawn) (ch := fp) (fun b hb => ⟨(hf b hb).2.2.2.1, (hf b hb).2.1, (hf b hb).2.2.2.2.1, (hf b hb).2.2.2.2.2⟩) (fun b o _ _ hc e _ => k b o hc e) (fun b o _ _ hc e _ => ⟨o.slots, k b o hc e⟩)
    (fun b o _ e n => by rw [upd_ne (Nat.ne_of_lt (Nat.lt_of_lt_of_le (Heap.lt_size e) hp))]; exact n)
    (fun b o hc e => ⟨o, k b o hc e⟩) (fun b xs e => by rw [upd_ne (ne_of_none e hn)]; exact e) (fun b u xs e => by rw [upd_ne (ne_of_none e hn)]; exact e) (fun b ps e => ⟨#[], by rw [upd_ne (ne_of_none e hn), e]; simp⟩) (fun m hm => ?_) (fun b u e => ?_) I.bare
  · obtain ⟨o, es, ep, ho, r⟩ := hm
    exact ⟨o, es, ep, k _ o (fun z => (hf _ z).2.1 rfl) ho, r⟩
  · by_cases hb : b = p
    · subst hb
      rw [upd_same] at e
      cases e
      exact new
    · rw [upd_ne hb] at e
      refine (I.hok b u e).stay (fun c v hc q => k c v ?_ q) (fun c q => ?_) fun c xs q => ?_
      · rcases hc with z | z
        · rw [z]; exact I.nfp hf e
        · exact I.nfp hf z
      · first
          | (rw [upd_ne (ne_of_none q hn)]; exact q)
          | exact q
      · first
          | (rw [upd_ne (ne_of_none q hn)]; exact q)
          | exact q
end

def Itz (g1 g2 s1 s2 : Nat → Hp → Prop) (y1 y2 : Nat → Hp → V → Prop) : It :=
  ⟨fun i H => g1 i H ∧ g2 i H, fun i H v H' => ∃ p x y, v = .ref p ∧ H p = none ∧ H' = upd H p (.tup [x, y]) ∧ y1 i H x ∧ y2 i H y, fun i H => s1 i H ∨ (g1 i H ∧ s2 i H)⟩
theorem turn_zip {P : Program} {w : World} {K : PySem.W.Frag} {elts : List Expr} {x1 : Nat} {tp : Pos} {z TI TO i1 i2 : Addr} {g1 g2 s1 s2 : Nat → Hp → Prop} {y1 y2 : Nat → Hp → V → Prop} {t1 t2 : Nat → Heap → Prop} (D : ZA z TI TO i1 i2)
    (S1 : SubIt P w K i1 g1 s1 y1 t1) (S2 : SubIt P w K i2 g2 s2 y2 t2) :
    Turn P w K (.Tuple elts x1 tp) (Itz g1 g2 s1 s2 y1 y2) [z, TI, TO, i1, i2] z (fun i h => IsZip h z TI TO .none ∧ IsPair h TI (.ref i1) (.ref i2) ∧ (∃ a b, IsPair h TO a b) ∧ t1 i h ∧ t2 i h) where
  mem := by simp
  obj := fun i h ⟨hz, hTI, ⟨a, b, hTO⟩, st1, st2⟩ c hc => by
    simp only [List.mem_cons, List.not_mem_nil, or_false] at hc
    rcases hc with rfl | rfl | rfl | rfl | rfl
    · exact ⟨_, hz, fun v e => by cases e⟩
    · exact ⟨_, hTI, fun v e => by cases e⟩
    · exact ⟨_, hTO, fun v e => by cases e⟩
    · exact S1.obj i h st1
    · exact S2.obj i h st2
  keep := fun i h h' ⟨hz, hTI, ⟨a, b, hTO⟩, st1, st2⟩ k => ⟨k z (by simp) _ hz, k TI (by simp) _ hTI, ⟨a, b, k TO (by simp) _ hTO⟩, S1.keep _ _ _ st1 fun o e => k i1 (by simp) o e, S2.keep _ _ _ st2 fun o e => k i2 (by simp) o e⟩
  item := by
    intro X hP hw hK hc i pins s σ H E I hf ⟨hz, hTI, ⟨a, b, hTO⟩, st1, st2⟩ ⟨hg1, hg2⟩
    obtain ⟨U1, u1, k1, x, hx, d1⟩ := S1.item X pins σ H s i [z, TI, TO, i1, i2] hP hw hK I hf hg1
    obtain ⟨U2, u2, k2, y, hy, d2⟩ := S2.item X pins σ H s i [z, TI, TO, i1, i2] hP hw hK I hf hg2
    subst hP hw hK
    have hT : s.TypeIs (.ref z) "zip" := ⟨_, hz, rfl⟩
    unfold pyNext
    refine wpAny_bind (wpAny_attempt (wpAny_callSpecial?_slot (name := Str.ofString "__next__") hT F.slot_zip_next (wpAny_call_entry F.slot_zip_next hT F.entry_zip_next
      (zip_one (x := x) (y := y) D hz hTI hTO u1 u2 st1 st2 k1 k2 (S1.keep i) (S2.keep i) (S1.keep (i + 1)) (S2.keep (i + 1)) d1 d2 fun u v h' tk ru rv hz' hTI' hTO' st1' st2' hp kk => wpAny_pure ⟨_, rfl, ?_⟩) (F.args_zip_next_1 _))))
    refine wpAny_letOwnedTupleGo_zip hz' fun h2 hz2 sb => ?_
    have lt : ∀ {c o}, s.heap.get? c = some o → c ≠ s.heap.objs.size := fun e => Nat.ne_of_lt (Heap.lt_size e)
    have nz : z ≠ s.heap.objs.size := lt hz
    have kk2 : ∀ c o, c ∉ [z, TI, TO, i1, i2] → s.heap.get? c = some o → h2.get? c = some o := fun c o hc e => by
      simp only [List.mem_cons, List.not_mem_nil, or_false, not_or] at hc
      exact sb.extBut _ _ hc.1 (kk c o hc.1 hc.2.2.1 hc.2.2.2.1 hc.2.2.2.2 e)
    have hp2 : IsPair h2 s.heap.objs.size u v := sb.extBut _ _ nz.symm hp
    refine ⟨.ref s.heap.objs.size, _, I.turnLay (o := .tup [x, y]) hf kk2 (Nat.le_refl _) ⟨small1000 (by simp) |> Nat.le_of_lt, [u, v], .cons ru (.cons rv .nil), ⟨_, hp2, rfl, _, rfl⟩⟩, rfl, ⟨_, x, y, rfl, I.fresh, rfl, hx, hy⟩, ⟨hz2, sb.extBut _ _ D.p1 hTI', ⟨_, _, sb.extBut _ _ D.p2 hTO'⟩, S1.keep _ _ _ st1' fun o e => sb.extBut _ _ D.p3 e, S2.keep _ _ _ st2' fun o e => sb.extBut _ _ D.p4 e⟩, fun c hc => ?_⟩
    have : ∃ o, s.heap.get? c = some o := by
      simp only [List.mem_cons, List.not_mem_nil, or_false] at hc
      rcases hc with rfl | rfl | rfl | rfl | rfl
      · exact ⟨_, hz⟩
      · exact ⟨_, hTI⟩
      · exact ⟨_, hTO⟩
      · obtain ⟨o, e, _⟩ := S1.obj _ _ st1; exact ⟨o, e⟩
      · obtain ⟨o, e, _⟩ := S2.obj _ _ st2; exact ⟨o, e⟩
    obtain ⟨o, e⟩ := this
    rw [upd_ne (lt e)]
    exact (hf c hc).1
  done := by
    intro X hP hw hK hc i pins s σ H E I hf ⟨hz, hTI, ⟨a, b, hTO⟩, st1, st2⟩ hs
    have hT : s.TypeIs (.ref z) "zip" := ⟨_, hz, rfl⟩
    have fin : ∀ (h' : Heap) (tk : Nat), (∀ c o, c ≠ z → c ≠ TO → c ≠ i1 → c ≠ i2 → s.heap.get? c = some o → h'.get? c = some o) → Inv X pins σ H { s with heap := h', toks := tk } := fun h' tk kk => I.turnedL hf fun c o hc e => by
      simp only [List.mem_cons, List.not_mem_nil, or_false, not_or] at hc
      exact kk c o hc.1 hc.2.2.1 hc.2.2.2.1 hc.2.2.2.2 e
    have hh := I.ok.hd hc
    rcases hs with hs1 | ⟨hg1, hs2⟩
    · obtain ⟨U1, u1, k1, d1⟩ := S1.done X pins σ H s i [z, TI, TO, i1, i2] hP hw hK I hf hs1
      subst hP hw hK
      unfold pyNext
      refine wpAny_bind (wpAny_attempt (wpAny_callSpecial?_slot (name := Str.ofString "__next__") hT F.slot_zip_next (wpAny_call_entry F.slot_zip_next hT F.entry_zip_next
        (zip_stop (x := .non) (U2 := fun _ => True) (T2 := fun _ => True) (T1' := fun _ => True) hh D hz hTI hTO u1 st1 k1 (S1.keep i) (.inl d1) fun h' tk e kk he => ?_) (F.args_zip_next_1 _))))
      obtain ⟨o, ho, hc'⟩ := he
      exact wpAny_bind (wpAny_isInstance (T := "StopIteration") (b := true) ⟨o, ho, hc'⟩ isSubtype_stop (wpAny_pure ⟨rfl, fin _ _ kk⟩))
    · obtain ⟨U1, u1, k1, x, hx, d1⟩ := S1.item X pins σ H s i [z, TI, TO, i1, i2] hP hw hK I hf hg1
      obtain ⟨U2, u2, k2, d2⟩ := S2.done X pins σ H s i [z, TI, TO, i1, i2] hP hw hK I hf hs2
      subst hP hw hK
      unfold pyNext
      refine wpAny_bind (wpAny_attempt (wpAny_callSpecial?_slot (name := Str.ofString "__next__") hT F.slot_zip_next (wpAny_call_entry F.slot_zip_next hT F.entry_zip_next
        (zip_stop (x := x) (T1' := t1 (i + 1)) hh D hz hTI hTO u1 st1 k1 (S1.keep i) (.inr ⟨d1, u2, st2, k2, S2.keep i, d2⟩) fun h' tk e kk he => ?_) (F.args_zip_next_1 _))))
      obtain ⟨o, ho, hc'⟩ := he
      exact wpAny_bind (wpAny_isInstance (T := "StopIteration") (b := true) ⟨o, ho, hc'⟩ isSubtype_stop (wpAny_pure ⟨rfl, fin _ _ kk⟩))
  self := fun _ _ _ _ _ st h => wpAny_pyIter_zip st.1 h


theorem zip_meets (v1 v2 : Value) (o1 o2 : Obj) (U : Heap → Prop) (hU : ∀ h o, U h → U (h.push o))
    (h1 : ∀ (prog : Program) (w : World) (A : Around) (Q : Value → Shared → Prop) (E : Value → Shared → Prop) (s : Shared), U s.heap → Q (.ref s.heap.objs.size) { s with heap := s.heap.push o1 } → wpAny (model prog w) A (pyIter v1) Q E s)
    (h2 : ∀ (prog : Program) (w : World) (A : Around) (Q : Value → Shared → Prop) (E : Value → Shared → Prop) (s : Shared), U s.heap → Q (.ref s.heap.objs.size) { s with heap := s.heap.push o2 } → wpAny (model prog w) A (pyIter v2) Q E s) :
    Meets (Builtin.«zip.__new__» ⟨[.type "zip", v1, v2], []⟩) (fun _ R s => U s.heap ∧
      R (.ok (.ret (.ref ((((s.heap.push o1).push o2).push { cls := .type "tuple", data := .seq #[.ref s.heap.objs.size, .ref (s.heap.push o1).objs.size] }).push { cls := .type "tuple", data := .seq #[.none, .none] }).objs.size)))
        { s with heap := ((((s.heap.push o1).push o2).push { cls := .type "tuple", data := .seq #[.ref s.heap.objs.size, .ref (s.heap.push o1).objs.size] }).push { cls := .type "tuple", data := .seq #[.none, .none] }).push { cls := .type "zip", data := .fields #[.none, .bool false, .bool false, .ref ((s.heap.push o1).push o2).objs.size, .ref (((s.heap.push o1).push o2).push { cls := .type "tuple", data := .seq #[.ref s.heap.objs.size, .ref (s.heap.push o1).objs.size] }).objs.size] } }) :=
  .of_wp fun prog w A R s h => by
    obtain ⟨hp, g, d, tk, os⟩ := s; obtain ⟨hu, h⟩ := h
    have hsub := sub_zip
    have hu2 : U (hp.push o1) := hU _ _ hu
    wp_walk using h1 prog w _ _ _ ⟨hp, g, d, tk, os⟩ hu, h2 prog w _ _ _ ⟨hp.push o1, g, d, tk, os⟩ hu2
    exact ⟨_, rfl, h⟩
end L2
namespace L2
open PySem PySem.Spec PyProof.Rows
section
variable {X : Cx} {elts : List Expr} {x1 : Nat} {tp : Pos}

theorem zip_pi {pins : List (Addr × Obj)} {σ : St} {H : Hp} {s : Shared} {R : It → Hp → Prop} {E : Value → Shared → Prop} {v1 v2 : Value} {o1 o2 : Obj} {U : Heap → Prop} {g1 g2 s1 s2 : Nat → Hp → Prop} {y1 y2 : Nat → Hp → V → Prop} {t1 t2 : Nat → Heap → Prop} (I : Inv X pins σ H s)
    (hu : U s.heap) (hU : ∀ h o, U h → U (h.push o))
    (h1 : ∀ (prog : Program) (w : World) (A : Around) (Q : Value → Shared → Prop) (E : Value → Shared → Prop) (s : Shared), U s.heap → Q (.ref s.heap.objs.size) { s with heap := s.heap.push o1 } → wpAny (model prog w) A (pyIter v1) Q E s)
    (h2 : ∀ (prog : Program) (w : World) (A : Around) (Q : Value → Shared → Prop) (E : Value → Shared → Prop) (s : Shared), U s.heap → Q (.ref s.heap.objs.size) { s with heap := s.heap.push o2 } → wpAny (model prog w) A (pyIter v2) Q E s)
    (S1 : SubIt X.prog X.w X.K s.heap.objs.size g1 s1 y1 t1) (S2 : SubIt X.prog X.w X.K (s.heap.objs.size + 1) g2 s2 y2 t2) (b1 : ∀ h : Heap, h.get? s.heap.objs.size = some o1 → t1 0 h) (b2 : ∀ h : Heap, h.get? (s.heap.objs.size + 1) = some o2 → t2 0 h) (f1 : o1.isFreed = false) (f2 : o2.isFreed = false)
    (q : R (Itz g1 g2 s1 s2 y1 y2) H) : wpAny (model X.prog X.w) X.A (call (.type "zip") [v1, v2]) (fun v s1 => wpAny (model X.prog X.w) X.A (pyIter v) (PIE X pins σ (.Tuple elts x1 tp) R) E s1) E s := by
  refine callType_new F.called_zip (by decide) (F.typeCall_zip_2 _ _) (F.newCall_zip_2 _ _) (fun obj => F.args_object_init_3 obj _ _) F.entry_zip_new (zip_meets v1 v2 o1 o2 U hU h1 h2) ⟨hu, ?_⟩
  generalize hG1 : s.heap.push o1 = G1
  have z1 : G1.objs.size = s.heap.objs.size + 1 := by rw [← hG1]; exact Heap.size_push ..
  generalize hG2 : G1.push o2 = G2
  have z2 : G2.objs.size = s.heap.objs.size + 2 := by rw [← hG2, Heap.size_push, z1]
  rw [z1, z2]
  generalize hG3 : G2.push { cls := .type "tuple", data := .seq #[.ref s.heap.objs.size, .ref (s.heap.objs.size + 1)] } = G3
  have z3 : G3.objs.size = s.heap.objs.size + 3 := by rw [← hG3, Heap.size_push, z2]
  rw [z3]
  generalize hG4 : G3.push { cls := .type "tuple", data := .seq #[.none, .none] } = G4
  have z4 : G4.objs.size = s.heap.objs.size + 4 := by rw [← hG4, Heap.size_push, z3]
  rw [z4]
  generalize hG5 : G4.push { cls := .type "zip", data := .fields #[.none, .bool false, .bool false, .ref (s.heap.objs.size + 2), .ref (s.heap.objs.size + 3)] } = G5
  have e5 : IsZip G5 (s.heap.objs.size + 4) (s.heap.objs.size + 2) (s.heap.objs.size + 3) .none := by rw [← z4, ← hG5]; exact Heap.get?_push_size _ rfl
  have e4 : IsPair G5 (s.heap.objs.size + 3) .none .none := by rw [← z3, ← hG5]; exact Heap.get?_push_of_some _ (by rw [← hG4]; exact Heap.get?_push_size _ rfl)
  have e3 : IsPair G5 (s.heap.objs.size + 2) (.ref s.heap.objs.size) (.ref (s.heap.objs.size + 1)) := by rw [← z2, ← hG5]; exact Heap.get?_push_of_some _ (by rw [← hG4]; exact Heap.get?_push_of_some _ (by rw [← hG3]; exact Heap.get?_push_size _ rfl))
  have up2 : ∀ c o, G2.get? c = some o → G5.get? c = some o := fun c o e => by rw [← hG5]; exact Heap.get?_push_of_some _ (by rw [← hG4]; exact Heap.get?_push_of_some _ (by rw [← hG3]; exact Heap.get?_push_of_some _ e))
  have e2 : G5.get? (s.heap.objs.size + 1) = some o2 := up2 _ _ (by rw [← z1, ← hG2]; exact Heap.get?_push_size _ f2)
  have e1 : G5.get? s.heap.objs.size = some o1 := up2 _ _ (by rw [← hG2]; exact Heap.get?_push_of_some _ (by rw [← hG1]; exact Heap.get?_push_size _ f1))
  have all : ∀ c o, s.heap.get? c = some o → G5.get? c = some o := fun c o e => up2 _ _ (by rw [← hG2]; exact Heap.get?_push_of_some _ (by rw [← hG1]; exact Heap.get?_push_of_some _ e))
  refine ⟨⟨_, e5, rfl⟩, wpAny_pyIter_zip e5 ?_⟩
  have ne : ∀ {m n : Nat}, m ≠ n → s.heap.objs.size + m ≠ s.heap.objs.size + n := fun h z => h (Nat.add_left_cancel z)
  refine ⟨_, _, _, _, H, rfl, I.kept (t' := s.toks) all, turn_zip ⟨ne (by decide), ne (by decide), ne (m := 0) (by decide), ne (by decide), ne (by decide), ne (n := 0) (by decide), ne (by decide), ne (n := 0) (by decide), ne (by decide), ne (m := 0) (by decide)⟩ S1 S2, ⟨e5, e3, ⟨_, _, e4⟩, b1 _ e1, b2 _ e2⟩, fun b hb => ?_, q⟩
  have hle : s.heap.objs.size ≤ b := by
    simp only [List.mem_cons, List.not_mem_nil, or_false] at hb
    rcases hb with rfl | rfl | rfl | rfl | rfl <;> omega
  exact I.fpOk hle (I.hok.fresh hle)
abbrev ItzTT (K : PySem.W.Frag) (a b : Addr) : It := Itz (fun i H => ∃ xs x, SqT K H a xs ∧ xs[i]? = some x) (fun i H => ∃ xs x, SqT K H b xs ∧ xs[i]? = some x) (fun i H => ∃ xs, SqT K H a xs ∧ xs.length ≤ i) (fun i H => ∃ xs, SqT K H b xs ∧ xs.length ≤ i)
  (fun i H x => ∀ xs, SqT K H a xs → xs[i]? = some x) (fun i H x => ∀ xs, SqT K H b xs → xs[i]? = some x)
abbrev ItzLL (K : PySem.W.Frag) (a b : Addr) : It := Itz (fun i H => ∃ xs x, SqL K H a xs ∧ xs[i]? = some x) (fun i H => ∃ xs x, SqL K H b xs ∧ xs[i]? = some x) (fun i H => ∃ xs, SqL K H a xs ∧ xs.length ≤ i) (fun i H => ∃ xs, SqL K H b xs ∧ xs.length ≤ i)
  (fun i H x => ∀ xs, SqL K H a xs → xs[i]? = some x) (fun i H x => ∀ xs, SqL K H b xs → xs[i]? = some x)
def iZipTT (K : PySem.W.Frag) (ta : TA) : TI := fun σ H R => ta σ H fun vs H1 => ∃ a b, vs = [.ref a, .ref b] ∧ (∃ xs, SqT K H1 a xs) ∧ (∃ xs, SqT K H1 b xs) ∧ R (ItzTT K a b) H1
def iZipLL (K : PySem.W.Frag) (ta : TA) : TI := fun σ H R => ta σ H fun vs H1 => ∃ a b, vs = [.ref a, .ref b] ∧ (∃ xs, SqL K H1 a xs) ∧ (∃ xs, SqL K H1 b xs) ∧ R (ItzLL K a b) H1
variable {a b : Expr} {ta : TA} {p pos : Pos}
theorem pi_zipTT (hg : Gl X "zip") (hm : X.mg "zip" = none) (ha : PA X [a, b] ta) (hs : starEach [a, b] X.env = [(false, eval a X.env), (false, eval b X.env)] := by rfl) (hs2 : starEach [b] X.env = [(false, eval b X.env)] := by rfl) :
    PI X (.Tuple elts x1 tp) (.Call (.Name "zip" p) [a, b] [] pos) (iZipTT X.K ta) := by
  intro pins s σ H R I h
  refine Call_ (ld_blt I hg hm bt_zip (PyProof.Rows.callWith_type1 (thn (ha pos pins s σ H _ I h) fun us s1 ⟨vs, H1, I1, r1, q1⟩ => ?_) (by rw [hs, hs2]) (by rw [hs2]; rfl)))
  obtain ⟨c, d, rfl, ⟨xs, hx⟩, ⟨ys, hy⟩, q⟩ := q1
  obtain ⟨u, u', rfl, ru, ru'⟩ := vals2 r1
  cases ru; cases ru'
  obtain ⟨its, rv, p1, _⟩ := I1.tuple hx
  obtain ⟨its2, rv2, p2, _⟩ := I1.tuple hy
  exact zip_pi (U := fun h => h.IsTuple c its.toArray ∧ h.IsTuple d its2.toArray) I1 ⟨p1, p2⟩ (fun h o ⟨⟨oc, e, r⟩, ⟨od, e', r'⟩⟩ => ⟨⟨oc, Heap.get?_push_of_some _ e, r⟩, ⟨od, Heap.get?_push_of_some _ e', r'⟩⟩)
    (fun prog w A Q E s hu hQ => wpAny_pyIter_tuple hu.1 hQ) (fun prog w A Q E s hu hQ => wpAny_pyIter_tuple hu.2 hQ) (sub_tup c _) (sub_tup d _) (fun h e => ⟨_, e, rfl, rfl⟩) (fun h e => ⟨_, e, rfl, rfl⟩) rfl rfl q
theorem pi_zipLL (hg : Gl X "zip") (hm : X.mg "zip" = none) (ha : PA X [a, b] ta) (hs : starEach [a, b] X.env = [(false, eval a X.env), (false, eval b X.env)] := by rfl) (hs2 : starEach [b] X.env = [(false, eval b X.env)] := by rfl) :
    PI X (.Tuple elts x1 tp) (.Call (.Name "zip" p) [a, b] [] pos) (iZipLL X.K ta) := by
  intro pins s σ H R I h
  refine Call_ (ld_blt I hg hm bt_zip (PyProof.Rows.callWith_type1 (thn (ha pos pins s σ H _ I h) fun us s1 ⟨vs, H1, I1, r1, q1⟩ => ?_) (by rw [hs, hs2]) (by rw [hs2]; rfl)))
  obtain ⟨c, d, rfl, ⟨xs, hx⟩, ⟨ys, hy⟩, q⟩ := q1
  obtain ⟨u, u', rfl, ru, ru'⟩ := vals2 r1
  cases ru; cases ru'
  obtain ⟨its, rv, p1, _⟩ := I1.list hx
  obtain ⟨its2, rv2, p2, _⟩ := I1.list hy
  exact zip_pi (U := fun h => h.IsList c its.toArray ∧ h.IsList d its2.toArray) I1 ⟨p1.isList, p2.isList⟩ (fun h o ⟨⟨oc, e, r⟩, ⟨od, e', r'⟩⟩ => ⟨⟨oc, Heap.get?_push_of_some _ e, r⟩, ⟨od, Heap.get?_push_of_some _ e', r'⟩⟩)
    (fun prog w A Q E s hu hQ => wpAny_pyIter_list hu.1 hQ) (fun prog w A Q E s hu hQ => wpAny_pyIter_list hu.2 hQ) (sub_lst c _) (sub_lst d _) (fun h e => ⟨_, e, rfl, rfl⟩) (fun h e => ⟨_, e, rfl, rfl⟩) rfl rfl q
end

theorem comp_zip {J : It} {n : Nat} {fx fy : Nat → V} {D : Addr} {σ : St} {k : Nat} {ix : List Nat} {g : TG} {tt : TT} {te : TE} {Q : VK} {H1 : Hp} (Pv : Nat → List V → Hp → Prop)
    (hJ : ∀ i ys H, Pv i ys H → (i < n → J.go i H ∧ ∀ v H', J.yld i H v H' → ∃ p, v = .ref p ∧ H p = none ∧ H' = upd H p (.tup [fx i, fy i])) ∧ (n ≤ i → J.stop i H)) (h0 : Pv 0 [] (upd H1 D (.lst []))) (hD : ∀ i ys H, Pv i ys H → H D = some (.lst ys))
    (hs : ∀ i ys H p, i < n → Pv i ys H → H p = none → CTurn D σ k ix g tt te (.ref p) ys (upd H p (.tup [fx i, fy i])) (Pv (i + 1))) (hd : ∀ ys H, Pv n ys H → Q (.ref D) H) : CompOk J D σ k ix g tt te Q H1 := by
  refine ⟨fun i m ys H => m = n - i ∧ i ≤ n ∧ Pv i ys H, ⟨n, by simp, Nat.zero_le _, h0⟩, ?_⟩
  rintro i m ys H ⟨rfl, hi, p⟩
  refine ⟨hD i ys H p, ?_⟩
  obtain ⟨h1, h2⟩ := hJ i ys H p
  by_cases hlt : i < n
  · obtain ⟨hg, hy⟩ := h1 hlt
    refine .inr ⟨hg, Pv (i + 1), fun zs H' p' => ⟨n - (i + 1), by omega, rfl, hlt, p'⟩, fun x H' y => ?_⟩
    obtain ⟨q, rfl, hq, rfl⟩ := hy x H' y
    exact hs i ys H q hlt p hq
  · have e : i = n := by omega
    subst e
    exact .inl ⟨h2 (Nat.le_refl _), hd ys H p⟩
theorem zipTT_steps {K : PySem.W.Frag} {a b : Addr} {xs ys : List V} {H : Hp} {i : Nat} (ha : SqT K H a xs) (hb : SqT K H b ys) (hl : xs.length = ys.length) :
    (i < xs.length → (ItzTT K a b).go i H ∧ ∀ v H', (ItzTT K a b).yld i H v H' → ∃ p, v = .ref p ∧ H p = none ∧ H' = upd H p (.tup [xs.getD i .non, ys.getD i .non])) ∧ (xs.length ≤ i → (ItzTT K a b).stop i H) := by
  refine ⟨fun hi => ⟨⟨⟨xs, xs[i], ha, by simp [hi]⟩, ⟨ys, ys[i]'(by omega), hb, by simp [hl ▸ hi]⟩⟩, fun v H' ⟨p, x, y, e1, e2, e3, e4, e5⟩ => ⟨p, e1, e2, ?_⟩⟩, fun hi => .inl ⟨xs, ha, hi⟩⟩
  rw [e3, List.getD_eq_getElem?_getD, List.getD_eq_getElem?_getD, e4 xs ha, e5 ys hb]; rfl
theorem zipLL_steps {K : PySem.W.Frag} {a b : Addr} {xs ys : List V} {H : Hp} {i : Nat} (ha : SqL K H a xs) (hb : SqL K H b ys) (hl : xs.length = ys.length) :
    (i < xs.length → (ItzLL K a b).go i H ∧ ∀ v H', (ItzLL K a b).yld i H v H' → ∃ p, v = .ref p ∧ H p = none ∧ H' = upd H p (.tup [xs.getD i .non, ys.getD i .non])) ∧ (xs.length ≤ i → (ItzLL K a b).stop i H) := by
  refine ⟨fun hi => ⟨⟨⟨xs, xs[i], ha, by simp [hi]⟩, ⟨ys, ys[i]'(by omega), hb, by simp [hl ▸ hi]⟩⟩, fun v H' ⟨p, x, y, e1, e2, e3, e4, e5⟩ => ⟨p, e1, e2, ?_⟩⟩, fun hi => .inl ⟨xs, ha, hi⟩⟩
  rw [e3, List.getD_eq_getElem?_getD, List.getD_eq_getElem?_getD, e4 xs ha, e5 ys hb]; rfl
theorem pg_tupK {X : Cx} {K : PySem.W.Frag} {pos : Pos} {es : List Expr} {k : Nat} {t : TGs} {n : Nat} (hc : X.calm = true) (h : PGs X es t) (hK : X.K = K := by rfl)
    (hn : (assignEach es X.env).length = n := by rfl) (hst : (assignEach es X.env).findIdx? (·.1) = none := by rfl) : PG X (.Tuple es k pos) (gTup K n t) := hK ▸ pg_tup hc h hn hst
end L2

namespace L2
open PySem PySem.Spec PyProof.Rows

section
variable {X : Cx}
end
end L2

namespace L2
open PySem PySem.Spec PyProof.Rows

mutual
inductive DataAt (H : Hp) : V → PyData → Prop
  | non : DataAt H .non .none
  | bl (b) : DataAt H (.bl b) (.bool b)
  | int (i) : DataAt H (.int i) (.int i)
  | str (x) : DataAt H (.str x) (.str x)
  | lst {p xs ds} : H p = some (.lst xs) → DataAll H xs ds → DataAt H (.ref p) (.list ds)
  | tup {p xs ds} : H p = some (.tup xs) → DataAll H xs ds → DataAt H (.ref p) (.tuple ds)
inductive DataAll (H : Hp) : List V → List PyData → Prop
  | nil : DataAll H [] []
  | cons {v vs d ds} : DataAt H v d → DataAll H vs ds → DataAll H (v :: vs) (d :: ds)
end
mutual
theorem DataAt.same {H H' : Hp} (s : Same H H') : ∀ {v : V} {d : PyData}, DataAt H v d → DataAt H' v d
  | _, _, .non => .non
  | _, _, .bl b => .bl b
  | _, _, .int i => .int i
  | _, _, .str x => .str x
  | _, _, .lst h r => .lst (s _ _ h) (DataAll.same s r)
  | _, _, .tup h r => .tup (s _ _ h) (DataAll.same s r)
theorem DataAll.same {H H' : Hp} (s : Same H H') : ∀ {vs : List V} {ds : List PyData}, DataAll H vs ds → DataAll H' vs ds
  | _, _, .nil => .nil
  | _, _, .cons h r => .cons (DataAt.same s h) (DataAll.same s r)
end
section
variable {X : Cx} {pins : List (Addr × Obj)} {σ : St} {H : Hp} {s : Shared}
mutual
theorem DataAt.reads (I : Inv X pins σ H s) : ∀ {v : V} {d : PyData} {u : Value}, DataAt H v d → RelV v u → ∃ as, Reads s.heap u d as
  | _, _, _, .non, r => by cases r; exact ⟨_, .none⟩
  | _, _, _, .bl b, r => by cases r; exact ⟨_, .bool b⟩
  | _, _, _, .int i, r => by obtain ⟨t, rfl⟩ := r; exact ⟨_, .int i t⟩
  | _, _, _, .str x, r => by obtain ⟨t, rfl⟩ := r; exact ⟨_, .str x t⟩
  | _, _, _, .lst h q, r => by
    cases r
    obtain ⟨_, its, n, rv, e⟩ := (I.hok _ _ h)
    obtain ⟨as, ra⟩ := DataAll.reads I q rv
    exact ⟨_, .list e rfl rfl (by simpa using ra)⟩
  | _, _, _, .tup h q, r => by
    cases r
    obtain ⟨_, its, rv, o, e, c, n, dd⟩ := (I.hok _ _ h)
    obtain ⟨as, ra⟩ := DataAll.reads I q rv
    exact ⟨_, .tuple e c dd (by simpa using ra)⟩
theorem DataAll.reads (I : Inv X pins σ H s) : ∀ {vs : List V} {ds : List PyData} {us : List Value}, DataAll H vs ds → Vals vs us → ∃ as, ReadsAll s.heap us ds as
  | _, _, _, .nil, r => by cases r; exact ⟨_, .nil⟩
  | _, _, _, .cons h q, r => by
    cases r with
    | cons r1 r2 =>
      obtain ⟨as, ra⟩ := DataAt.reads I h r1
      obtain ⟨bs, rb⟩ := DataAll.reads I q r2
      exact ⟨_, .cons ra rb⟩
end

def rNeD : R2 := fun x y H Q => ∃ dx dy, DataAt H x dx ∧ DataAt H y dy ∧ dx.canLay0 = true ∧ dy.canLay0 = true ∧ dx.depth ≤ 8 ∧ Q (.bl (!PyData.eqv dx dy)) H
theorem op_neD (hu : X.A.units + 64 < cLine) : OpR X (compareOp .NotEq) rNeD := by
  intro pins s σ H x y v u Q I rx ry h
  obtain ⟨dx, dy, h1, h2, c1, c2, dp, q⟩ := h
  obtain ⟨as, ra⟩ := h1.reads I rx
  obtain ⟨bs, rb⟩ := h2.reads I ry
  exact SeqAt.compareNe_reads ra rb c1 c2 (by omega) ⟨.bl _, H, I, rfl, q⟩
end
end L2

namespace L2
open PySem PySem.Spec PyProof.Rows PySem.W PySem.Builtin.ObjectAttr PySem.Builtin.Getset_descriptor


structure XC (K : PySem.W.Frag) (D : Addr) : Prop where
  ga : findIn K (.ref D) "__getattribute__" = some (some (.builtin "BaseException.__getattribute__"))
  gh : findIn K (.ref D) "__getattr__" = some none
  cl : (clsIn K D).isSome = true
  ca : findIn K (.ref D) "__class__" = some (some (.builtin "object.__class__"))
  gs : specialIn K (.builtin "object.__class__") "__get__" = some (some (.builtin "getset_descriptor.__get__"))
  tk : takesIn K (.builtin "object.__class__") = some true
  ob : mroIn K D (.type "object") = some true
  be : mroIn K D (.type "BaseException") = some true

def OfC (x D : Addr) (h : Heap) : Prop := ∃ o, h.get? x = some o ∧ o.cls = .ref D
theorem OfC.ty {M : Model} {h : Heap} {x D : Addr} (I : OfC x D h) : Looks M h (typeOf (.ref x)) (.ref D) := by
  obtain ⟨o, e, c⟩ := I
  exact c ▸ (Looks.ld e).andThen .now
section
variable {prog : Program} {w : World} {A : Around} {E : Value → Shared → Prop} {s : Shared} {K : Frag} {x D : Addr}
theorem find_exc {M : Model} {h : Heap} (C : XC K D) (X : K.In h) : Looks M h (find (.ref x) (.ref D) "__class__") (.bind (.builtin "getset_descriptor.__get__") (.builtin "object.__class__")) := by
  have L1 := looks_findIn (M := M) X C.ca
  have L2 : Looks M h (getOf (some (.builtin "object.__class__"))) _ := looks_specialIn X C.gs
  have L3 := looks_takesIn (M := M) X C.tk
  exact L1.andThen (L2.andThen ((show Looks M h (dataDescriptor? (some _) (some _)) (some (_, _)) from L3.andThen .now).andThen (Looks.tag .now)))
theorem exc_get {tp : Value} {R : Result → Shared → Prop} (C : XC K D) (X : K.In s.heap) (I : OfC x D s.heap) (h : R (.ok (.ret (.ref D))) s) :
    codeAny (model prog w) A (.call (.builtin "getset_descriptor.__get__") ⟨[.builtin "object.__class__", .ref x, tp], []⟩) R s := by
  obtain ⟨hh, g, dr, t, os⟩ := s
  have L0 := I.ty (M := model prog w)
  have L1 := looks_mroIn (M := model prog w) X C.ob
  refine codeAny_call_builtin KF.slot_gs.plain KF.entry_gs (KF.slot_gs.check _ _ _ _ _ _ _ _ KF.type_class (KF.args_gs _ _ _) ?_)
  unfold Builtin.«getset_descriptor.__get__» descrGet
  rw [dga_obj]
  refine wpAny_bind (wpAny_pure ?_)
  unfold descrGetter descrCheckInstance descrNameAndClass isInstance
  simp only [KF.owner_class]
  repeat lk
  refine ⟨Code.quiet_builtin _ (by decide +kernel), codeAny_builtin KF.entry_class ?_⟩
  unfold Builtin.«object.__class__» shownTypeOf
  repeat lk
  exact h
theorem exc_entry {tk : Tok} {Q : Fin → Shared → Prop} (C : XC K D) (X : K.In s.heap) (I : OfC x D s.heap) (h : Q (.done (.ret (.ref D))) s) :
    wpAny (model prog w) A (Builtin.«object.__getattribute__» ⟨[.ref x, .str "__class__" tk], []⟩) Q E s := by
  obtain ⟨hh, g, d, t, os⟩ := s
  have L0 := I.ty (M := model prog w)
  have L1 := find_exc (M := model prog w) (x := x) C X
  unfold Builtin.«object.__getattribute__»
  refine wpAny_bind (wpAny_pure (wpAny_bind (wpAny_pure (wpAny_bind (L0.at (wpAny_bind (L1.at ?_)))))))
  show wpAny _ _ (holding [.builtin "object.__class__"] (call (.builtin "getset_descriptor.__get__") [.builtin "object.__class__", .ref x, .ref D]) >>= ret) _ _ _
  exact wpAny_bind (wpAny_holding (wpAny_call (exc_get (s := ⟨hh, g, d, t, os⟩) C X I (wpAny_pure h))))
theorem exc_check {nameV : Value} {Q : Unit → Shared → Prop} (C : XC K D) (X : K.In s.heap) (I : OfC x D s.heap) (hq : Q () s) :
    wpAny (model prog w) A (checkBuiltinCall "BaseException.__getattribute__" ⟨[.ref x, nameV], []⟩) Q E s := by
  obtain ⟨hh, g, d, t, os⟩ := s
  have hk : builtinKind "BaseException.__getattribute__" = some .slot := by decide +kernel
  have hsplit : splitId "BaseException.__getattribute__" = some ("BaseException", "__getattribute__") := by decide +kernel
  have L0 := I.ty (M := model prog w)
  have LI : Looks (model prog w) hh (isInstance (.ref x) (.type "BaseException")) true := L0.andThen (looks_mroIn X C.be)
  have ha := F.args_bexc_ga (.ref x) nameV
  simp only [checkBuiltinCall, hk, hsplit]
  refine wpAny_bind (LI.at ?_)
  repeat (any_goals (first | assumption | wp_step))
theorem exc_class {Q : Option Value → Shared → Prop} (C : XC K D) (X : K.In s.heap) (I : OfC x D s.heap) (h : Q (some (.ref D)) { s with toks := s.toks + 1 }) :
    wpAny (model prog w) A (getAttr? (.ref x) "__class__") Q E s := by
  obtain ⟨hh, g, d, t, os⟩ := s
  have L0 := I.ty (M := model prog w)
  have L1 := looks_findIn (M := model prog w) X C.ga
  have L2 := looks_findIn (M := model prog w) X C.gh
  unfold getAttr? getAttrBy? getAttrBy
  refine wpAny_bind (wpAny_mkText (wpAny_bind (wpAny_attempt (wpAny_holding (wpAny_bind (L0.at (wpAny_bind (L1.at ?_))))))))
  show wpAny _ _ (getAttrByItsOwn _ _ _ _ _ _) _ _ _
  unfold getAttrByItsOwn hookBefore
  have hon : onTheHeap (Value.ref D) = true := rfl
  rw [if_pos hon]
  refine wpAny_bind (L2.at (wpAny_bind (wpAny_attempt (wpAny_holding ?_))))
  show wpAny _ _ (boundAndCalled (.builtin "BaseException.__getattribute__") (.ref x) _) _ _ _
  unfold boundAndCalled
  have f3 := PySem.F.excAttr_ValueError.ga.bind (.ref x)
  rw [f3]
  refine wpAny_bind (wpAny_pure (wpAny_call (codeAny_call_builtin PySem.F.excAttr_ValueError.ga.plain F.entry_bexc_ga (exc_check (s := ⟨hh, g, d, t + 1, os⟩) C X I (exc_entry (s := ⟨hh, g, d, t + 1, os⟩) C X I ?_)))))
  refine handed_on rfl ?_
  exact wpAny_pure h
theorem kitx_exc (C : XC K D) : KitX K (.ref x) (.ref D) (OfC x D) where
  ty := fun _ _ _ I => I.ty
  it := fun _ _ X _ => by
    obtain ⟨cdD, hcD⟩ := Option.isSome_iff_exists.mp C.cl
    unfold clsIn at hcD
    split at hcD
    · rename_i c' d' cd' sl' ho
      intro A' Q' E' s' k q
      unfold isType loadHead
      exact wpAny_bind (wpAny_loadPart (k _ _ (X _ _ ho)) (wpAny_pure q))
    · cases hcD
  ne := fun h tp dd its n sl X htp => by
    obtain ⟨cdD, hcD⟩ := Option.isSome_iff_exists.mp C.cl
    refine Bool.eq_false_iff.mpr fun q => ?_
    have e : D = tp := Value.ref.inj (beq_iff_eq.mp q)
    subst e
    unfold clsIn at hcD
    split at hcD
    · rename_i c' d' cd' sl' ho
      have z := (X _ _ ho).symm.trans htp
      cases z
    · cases hcD
  ca := fun X I k => exc_class C X I k
end

def exO (C a : Addr) : HO := .ext (OfC a C)
def cV : V → Value
  | .ty T => .type T
  | .ref a => .ref a
  | _ => .none
def rIsX (K : PySem.W.Frag) : List V → Hp → VK → Prop := fun xs H Q => ∃ a C cv b, xs = [.ref a, cv] ∧ H a = some (exO C a) ∧ XC K C ∧ ((∃ T, cv = .ty T) ∨ ∃ D, cv = .ref D) ∧ kitOne K (.ref C) (cV cv) = some b ∧ Q (.bl b) H
theorem call_isX {X : Cx} : CallR X (.builtin "isinstance") (rIsX X.K) := by
  intro pins s σ H xs us Q I r h
  obtain ⟨a, C, cv, b, rfl, ha, xc, hcv, e, q⟩ := h
  obtain ⟨u, u', rfl, ru, ru'⟩ := vals2 r
  cases ru
  have hu : u' = cV cv := by
    rcases hcv with ⟨T, rfl⟩ | ⟨D, rfl⟩
    · exact ru'
    · exact ru'
  subst hu
  obtain ⟨hO, _⟩ := (show ObjOk X.prog X.w H s.heap a (.ext (OfC a C)) from I.hok a _ ha)
  exact kia_one (kitx_exc xc) I.kIn hO e (fun z => nomatch z) fun tk => ⟨.bl b, H, I.tok _, rfl, q⟩

structure Fly (B h0 h : Heap) (outer : List Env) (H' : Hp) (ea : Addr) (C a0 : Value) : Prop where
  fl : Heap.FlyingW B outer ea C a0 h
  tr : ∀ b o, H' b = some o → ∃ u, B.get? b = some u
  old : ∀ b o, h0.get? b = some o → b ∉ frs outer → ∃ u, B.get? b = some u

def CXE (P : Program) (w : World) : CXT := fun outer H s E e s' =>
  ∃ (ea : Addr) (C a0 : Value) (B : Heap) (H' : Hp), e = .ref ea ∧ s'.os = s.os ∧ AllBare s'.gens ∧ Un (frs outer) [] H H' s.heap s'.heap ∧ HOk P w H' s'.heap ∧ Fly B s.heap s'.heap outer H' ea C a0 ∧ E C none H'
theorem fly_hok {P : Program} {w : World} {H' : Hp} {h h2 B : Heap} (hok : HOk P w H' h) (tr : ∀ b o, H' b = some o → ∃ u, B.get? b = some u) (b0 : B.StaysIn h) (st : B.StaysIn h2) : HOk P w H' h2 := fun b u q => by
  have key : ∀ c o v, H' c = some o → h.get? c = some v → h2.get? c = some v := fun c o v q e => by
    obtain ⟨u, hu⟩ := tr c o q
    rw [b0 c u hu] at e; cases e; exact st c _ hu
  refine (hok b u q).stay (fun c v hc e => ?_) (fun _ z => z) fun _ _ z => z
  rcases hc with rfl | hc
  · exact key _ _ _ q e
  · exact key _ _ _ hc e
theorem fly_un {outer : List Env} {H H' : Hp} {h0 h h2 B base : Heap} (un : Un (frs outer) [] H H' h0 h) (ff : h.FunFrames base outer) (old : ∀ b o, h0.get? b = some o → b ∉ frs outer → ∃ u, B.get? b = some u) (b0 : B.StaysIn h) (st : B.StaysIn h2) (up : h.UpToSlots h2) :
    Un (frs outer) [] H H' h0 h2 where
  keep := fun b o e n hb hx => by
    obtain ⟨u, hu⟩ := old b o e hb
    have e1 := un.keep b o e n hb hx
    rw [b0 b u hu] at e1; cases e1; exact st b _ hu
  slot := fun b o e n hb hx => by
    obtain ⟨sl, e1⟩ := un.slot b o e n hb hx
    obtain ⟨_, o', ho', hd⟩ := ff.mem hb
    rw [e1] at ho'; cases ho'
    obtain ⟨sl2, e2⟩ := up b _ e1 hd
    exact ⟨sl2, e2⟩
  free := un.free
  there := fun b o e hx => by
    by_cases hb : b ∈ frs outer
    · obtain ⟨_, o', ho', hd⟩ := ff.mem hb
      obtain ⟨sl2, e2⟩ := up b _ ho' hd
      exact ⟨_, e2⟩
    · obtain ⟨u, hu⟩ := old b o e hb
      exact ⟨u, st b u hu⟩
  tups := un.tups
  frzs := un.frzs
  tbls := un.tbls
theorem objOk_get {P : Program} {w : World} {H : Hp} {h : Heap} {a : Addr} {o : HO} (x : ObjOk P w H h a o) : ∃ u, h.get? a = some u := by
  cases o with
  | lst xs => obtain ⟨_, _, _, _, e⟩ := x; exact ⟨_, e⟩
  | tup xs => obtain ⟨_, _, _, o, e, _⟩ := x; exact ⟨_, e⟩
  | dK kvs => obtain ⟨_, _, _, _, o, _, _, e, _⟩ := x; exact ⟨_, e⟩
  | dT kvs => obtain ⟨_, _, _, _, o, _, _, e, _⟩ := x; exact ⟨_, e⟩
  | set S n => obtain ⟨o, _, _, _, e, _⟩ := x; exact ⟨_, e⟩
  | ins C dx fs => obtain ⟨_, _, _, e, _⟩ := x; exact ⟨_, e⟩
  | own y => exact x
  | xd fs => obtain ⟨_, ⟨o, _, _, e, _⟩, _⟩ := x; exact ⟨_, e⟩
  | met f y => exact ⟨_, x⟩
  | rng lo hi => obtain ⟨_, _, _, e⟩ := x; exact ⟨_, e⟩
  | frz ob u => exact ⟨_, x.1⟩
  | tbl ps => exact ⟨_, x⟩
  | ext φ => exact x.2.1
section
variable {P : Program} {w : World} {K : PySem.W.Frag} {mg : Str → Option Value} {base : Heap} {N : List Str} {qual : Str} {scope : Scope} {f : Addr} {cd : Value} {A : Around} {outer : List Env} {s : Shared} {H : Hp} {E : XK}

theorem raise_leaves {pins : List (Addr × Obj)} {σ : St} {H1 : Hp} {s1 : Shared} {h' : Heap} {e C : Addr} {vs : List Value} (I : Inv (cxOf (CXE P w) P w K mg base N qual scope f cd A outer s H E) pins σ H1 s1) (hx : Heap.MadeExcOf s1.heap h' e (.ref C) vs) (q : E (.ref C) none H1) :
    (cxOf (CXE P w) P w K mg base N qual scope f cd A outer s H E).xe (.ref e) { s1 with heap := h' } := by
  have fr := I.ok.frames
  have ff := funFrames_hide (as := frs (cxOf (CXE P w) P w K mg base N qual scope f cd A outer s H E).stack) I.stack fun env he a hf => List.mem_filterMap.mpr ⟨env, he, hf⟩
  refine wpAny_leaves_madeW (h := s1.heap) fr rfl (fun b o q => of_hideAll _ q) ff hx fun h'' t fl tup bt up => ?_
  have b0 : (hideAll s1.heap (frs (cxOf (CXE P w) P w K mg base N qual scope f cd A outer s H E).stack)).StaysIn s1.heap := fun b o q => of_hideAll _ q
  have tr : ∀ b o, H1 b = some o → ∃ u, (hideAll s1.heap (frs (cxOf (CXE P w) P w K mg base N qual scope f cd A outer s H E).stack)).get? b = some u := fun b o e => by
    obtain ⟨u, hu⟩ := objOk_get (I.hok b o e)
    exact ⟨u, hideAll_get _ hu fun z => by rw [I.stkFree b z] at e; cases e⟩
  have old : ∀ b o, s.heap.get? b = some o → b ∉ frs outer → ∃ u, (hideAll s1.heap (frs (cxOf (CXE P w) P w K mg base N qual scope f cd A outer s H E).stack)).get? b = some u := fun b o e hb => by
    obtain ⟨u, hu⟩ := I.base.there b o e (fun z => nomatch z)
    refine ⟨u, hideAll_get _ hu fun z => ?_⟩
    rcases List.mem_cons.mp (I.stkSub b z) with q | q
    · have h1 := Heap.lt_size e
      have h2 : s.heap.objs.size ≤ b := by rw [q]; exact I.ok.above
      exact absurd (Nat.lt_of_lt_of_le h1 h2) (Nat.lt_irrefl _)
    · exact hb q
  exact ⟨e, .ref C, .ref t, _, H1, rfl, I.os, I.bare, fly_un I.base I.funs old b0 fl.1 ((Heap.UpToSlots.of_keeps hx.keeps).trans up), fly_hok I.hok tr b0 fl.1, ⟨fl, tr, old⟩, q⟩

theorem pass_on : Passes (CXE P w) (cxOf (CXE P w) P w K mg base N qual scope f cd A outer s H E) E := by
  rintro pins σ H1 s1 e s' I ⟨ea, C, a0, B, H', rfl, os, bare, un, hok, fly, q⟩
  have J := I.call' os un hok bare (fun b z => nomatch z)
  refine wpAny_leaves_onW J.ok.frames rfl fly.fl fun h'' fl up => ?_
  have old : ∀ b o, s.heap.get? b = some o → b ∉ frs outer → ∃ u, B.get? b = some u := fun b o e hb => by
    obtain ⟨o1, e1⟩ := I.base.there b o e (fun z => nomatch z)
    refine fly.old b o1 e1 fun z => ?_
    rcases List.mem_cons.mp (I.stkSub b z) with q | q
    · have h1 := Heap.lt_size e
      have h2 : s.heap.objs.size ≤ b := by rw [q]; exact I.ok.above
      exact absurd (Nat.lt_of_lt_of_le h1 h2) (Nat.lt_irrefl _)
    · exact hb q
  exact ⟨ea, C, a0, B, H', rfl, J.os, J.bare, fly_un J.base J.funs old fly.fl.1 fl.1 up, fly_hok hok fly.tr fly.fl.1 fl.1, ⟨fl, fly.tr, old⟩, q⟩
end
end L2

namespace L2
open PySem PySem.Spec PyProof.Rows PySem.W

def PassesS (CX : CXT) (X : Cx) (E : St → XK) : Prop := ∀ (pins : List (Addr × Obj)) (σ : St) (H : Hp) (s : Shared) (e : Value) (s' : Shared), Inv X pins σ H s → CX X.stack H s (E σ) e s' → X.xe e s'
section
variable {X : Cx} {CX : CXT} {k : Nat} {f C : Addr} {fd : FuncData} {ps : List Str} {sp : Sp} {dvs : List V} {ds : List Value} {E : St → XK} {x m : Str} {p pos apos : Pos} {e o : Expr} {es : List Expr} {ta : TE} {t : TA}
end

def RaisesTo (X : Cx) (E : XK) : Prop := ∀ (pins : List (Addr × Obj)) (σ : St) (H : Hp) (s : Shared) (h' : Heap) (e C : Addr) (vs : List Value), Inv X pins σ H s → Heap.MadeExcOf s.heap h' e (.ref C) vs → E (.ref C) none H → X.xe (.ref e) { s with heap := h' }
abbrev vErr : List Value := [.type "ValueError", .type "Exception", .type "BaseException", .type "object"]
theorem own_obj {K : Frag} {h : Heap} {C : Addr} {bmB : List Value} {newId : String} (X : K.In h) (q : excIn K C bmB newId = true) :
    ∃ bm N nm q bs hdct sn sub ab col dd k0 k1 k2 k3 k5 mN, h.get? C = some (excClassObj nm q C N bs bm hdct sn sub ab col dd k0 k1 k2 k3 k5 newId) ∧ h.Ns N mN ∧ mN "__init__" = none ∧ OwnTail h bmB bm := by
  unfold excIn at q
  split at q
  · rename_i dd cd sl ho
    split at q
    · rename_i C' bm k0 k1 k2 k3 n k5 hm hs
      simp only [Bool.and_eq_true, beq_iff_eq, Bool.not_eq_true'] at q
      obtain ⟨⟨⟨⟨⟨rfl, rfl⟩, hdel⟩, ht⟩, hok⟩, hni⟩ := q
      obtain ⟨nm, bs, mro, ns, qn, hd, sn, sub, ab, col, del⟩ := cd
      dsimp only at hm hdel hok hni
      subst hm hdel
      have hsl : sl = #[k0, k1, k2, k3, some (.builtin n), k5] := by
        obtain ⟨l⟩ := sl
        simp only at hs
        rw [hs]
      subst hsl
      exact ⟨bm, ns, nm, qn, bs, hd, sn, sub, ab, col, dd, k0, k1, k2, k3, k5, _, X _ _ ho, .of_isNs (isNs_of_in X hok), nsMap_none_of_in X hok hni, tail_of_in X ht⟩
    · cases q
  · cases q
def sRaise (C : Addr) (E : XK) (t : TA) : TS := fun _ σ H => t σ H fun vs H1 => vs.length ≤ sizeLine ∧ E (.ref C) none H1
theorem ps_raise {X : Cx} {C : Addr} {E : XK} {x : Str} {np cpos pos : Pos} {e : Expr} {es : List Expr} {t : TA} (hc : X.calm = true) (hr : RaisesTo X E) (hg : Gl X x) (hm : X.mg x = some (.ref C)) (hq : excIn X.K C vErr "ValueError.__new__" = true)
    (ha : PA X (e :: es) t) (hdb : (x == ("__debug__" : Str)) = false := by decide) (he : starEach (e :: es) X.env = (false, eval e X.env) :: starEach es X.env := by rfl) (hpl : (backTo cpos (starEach es X.env)).any (·.1) = false := by rfl) :
    PS X (.Raise (some (.Call (.Name x np) (e :: es) [] cpos)) none pos) (sRaise C E t) := by
  intro pins s σ H D I h
  obtain ⟨tl, N, nm, q, bs, hdct, sn, sub, ab, col, dd, k0, k1, k2, k3, k5, mN, hC, hN, hni, T⟩ := own_obj I.mod.kin hq
  refine wpAny_Raise_call_subT (C := C) (nm := nm) (q := q) (N := N) (bs := bs) (bm := tl) (hdct := hdct) (sn := sn) (sub := sub) (ab := ab) (col := col) (dd := dd) (k0 := k0) (k1 := k1) (k2 := k2) (k3 := k3) (k5 := k5)
    PySem.F.excBase_ValueError (mN := mN) (T.hasType PySem.F.excBase_ValueError.hasBase) (I.ok.hd hc) (by rw [he]; show (false || (backTo cpos (starEach es X.env)).any (·.1)) = false; rw [hpl]; rfl) hni (ld_glob I hg hm ⟨rfl, ?_⟩ hdb)
  have h2 := ha cpos pins s σ H _ I h
  rw [he] at h2 ⊢
  refine Calls.evalArgs_plain (wpAny_mono h2 (fun us s2 hs => ?_) fun _ _ y => y)
  obtain ⟨vs, H1, I1, r, hl, hE⟩ := hs
  exact ⟨rfl, by rw [← r.length]; exact hl, I1.bk _ _ hC, hN.keeps I1.bk, T.keeps I1.bk, fun h' e' hx => hr pins σ H1 s2 h' e' C us I1 hx hE⟩

abbrev Cx.hand (X : Cx) (ea : Addr) : Cx := { X with A := X.A.mark (some (.ref ea)), calm := false, xe := fun _ _ => False }
abbrev Cx.inTry (X : Cx) (pn : List (Addr × Obj)) (xe : Value → Shared → Prop) : Cx := { X with pn := pn, xe := xe }
section
variable {X : Cx} {pins pins' : List (Addr × Obj)} {σ : St} {H : Hp} {s : Shared} {xe : Value → Shared → Prop} {ea : Addr}
theorem Inv.toTry (I : Inv X pins σ H s) : Inv (X.inTry (X.pn ++ pins) xe) [] σ H s :=
  ⟨⟨I.ok.mod, I.ok.kind, I.ok.glob, I.ok.blt, I.ok.above, I.ok.inj, I.ok.has, I.ok.cab, I.ok.hd, I.ok.frames, I.ok.stk, I.ok.exf, I.ok.bs, I.ok.bsz, I.ok.noex, I.ok.exfs, I.ok.funs, I.ok.frf⟩, I.os, I.bare, I.base, I.loc, I.cell, I.free, I.freeC, fun p hp => I.pin p (by simpa using hp), I.hok, I.len⟩
theorem Inv.ofTry (ok : X.Ok) (I : Inv (X.inTry (X.pn ++ pins) xe) pins' σ H s) : Inv X pins σ H s :=
  ⟨ok, I.os, I.bare, I.base, I.loc, I.cell, I.free, I.freeC, fun p hp => I.pin p (List.mem_append_left _ hp), I.hok, I.len⟩
theorem Inv.toHand (I : Inv X pins σ H s) : Inv (X.hand ea) pins σ H s :=
  ⟨⟨I.ok.mod, I.ok.kind, I.ok.glob, I.ok.blt, I.ok.above, I.ok.inj, I.ok.has, I.ok.cab, (fun z => nomatch z), I.ok.frames, I.ok.stk, I.ok.exf, I.ok.bs, I.ok.bsz, I.ok.noex, I.ok.exfs, I.ok.funs, I.ok.frf⟩, I.os, I.bare, I.base, I.loc, I.cell, I.free, I.freeC, I.pin, I.hok, I.len⟩
theorem Inv.ofHand (ok : X.Ok) (I : Inv (X.hand ea) pins σ H s) : Inv X pins σ H s :=
  ⟨ok, I.os, I.bare, I.base, I.loc, I.cell, I.free, I.freeC, I.pin, I.hok, I.len⟩

theorem goes_ok {M : Model} {A : Around} {E : Value → Shared → Prop} {i : Nat} {n : Str} {pos : Pos} {Q : Unit → Shared → Prop} (I : Inv X pins σ H s) (hN : X.N.Nodup) (hi : X.N[i]? = some n) (hk : X.env.scope.names.lookup n = some .local)
    (h : ∀ s', Inv X pins (σ.set i none) H s' → Q () s') : wpAny M A (do bindName X.env n .none; unbindBehindTheSuite X.env n pos) Q E s := by
  obtain ⟨m, hn, hl⟩ := id I.loc
  have hcls : (X.env.scope.kind == .class || (X.env.scope.kind == .module && X.env.locals != X.env.globals)) = false := by rw [I.ok.kind]; rfl
  have hiσ : i < σ.length := by rw [I.len]; exact (List.getElem?_eq_some_iff.mp hi).1
  have cne := I.cne
  refine wpAny_nameGoes_keeps hk hn hcls fun h' v hn' hs => ?_
  obtain ⟨oL, _, _, hoL, _⟩ := id hn
  have tracked : HOk X.prog X.w H h' := fun b ob e => by
    refine (I.hok b ob e).stay (fun c w' hc q => (hs.2 c ?_).trans q) (fun _ q => q) fun _ _ q => q
    rintro rfl
    rcases hc with rfl | hc
    · rw [I.free] at e; cases e
    · rw [I.free] at hc; cases hc
  refine h _ ⟨I.ok, I.os, I.bare, ⟨fun b o e n hb hx => ?_, fun b o e n hb hx => ?_, I.base.free, fun b o e hx => ?_, I.base.tups, I.base.frzs, I.base.tbls⟩, ⟨_, hn', fun j y v' e1 e2 e3 => ?_⟩, fun y c e => ?_, I.free, I.freeC, fun p hp => ?_, tracked, by simpa using I.len⟩
  · exact (hs.2 b (Nat.ne_of_lt (Nat.lt_of_lt_of_le (Heap.lt_size e) I.ok.above))).trans (I.base.keep b o e n hb hx)
  · obtain ⟨sl, e1⟩ := I.base.slot b o e n hb hx
    exact ⟨sl, (hs.2 b (Nat.ne_of_lt (Nat.lt_of_lt_of_le (Heap.lt_size e) I.ok.above))).trans e1⟩
  · obtain ⟨o', e1⟩ := I.base.there b o e hx
    exact ⟨o', (hs.2 b (Nat.ne_of_lt (Nat.lt_of_lt_of_le (Heap.lt_size e) I.ok.above))).trans e1⟩
  · by_cases hj : j = i
    · subst hj
      rw [List.getElem?_set_self hiσ] at e2
      cases e2
    · rw [List.getElem?_set_ne (Ne.symm hj)] at e2
      obtain ⟨u', r', q⟩ := hl j y v' e1 e2 e3
      refine ⟨u', r', ?_⟩
      rcases q with ⟨k, e⟩ | ⟨k, c, e, z⟩
      · refine .inl ⟨k, ?_⟩
        have : y ≠ n := fun e => hj (nodup_ix hN e1 (e ▸ hi))
        simp [this, e]
      · exact .inr ⟨k, c, e, z.sameBut hs (cne y c e)⟩
  · obtain ⟨w', z⟩ := I.cell y c e
    exact ⟨w', z.sameBut hs (cne y c e)⟩
  · obtain ⟨e, n, ne, nf, d⟩ := I.pin p hp
    exact ⟨(hs.2 p.1 ne).trans e, n, ne, nf, d⟩
end

def hEnds (i : Nat) (D : Ends) : Ends := { nx := fun σ H => D.nx (σ.set i none) H, rt := D.rt, bk := fun σ H => D.bk (σ.set i none) H, ct := fun σ H => D.ct (σ.set i none) H }
def hWish (K : PySem.W.Frag) (L : Addr) (i : Nat) (ts : TS) (D : Ends) : St → XK := fun σ1 Cv _ H1 => ∃ C, Cv = .ref C ∧ exmOne K (.ref C) (.ref L) = some true ∧ ∀ ea, H1 ea = none → ts (hEnds i D) (σ1.set i (some (.ref ea))) (upd H1 ea (exO C ea))
def tTry (K : PySem.W.Frag) (L : Addr) (i : Nat) (tb : (St → XK) → TS) (ts : TS) : TS := fun D σ H => tb (hWish K L i ts D) D σ H
theorem ps_try {X : Cx} {x n : Str} {np hpos pos : Pos} {body : List Stmt} {b0 : Stmt} {suite : List Stmt} {L : Addr} {tb : (St → XK) → TS} {ts : TS} {i : Nat} (hstk : X.stack = X.env :: X.outer) (hfr : X.env.frame = some X.env.locals)
    (hN : X.N.Nodup) (hi : X.N[i]? = some n) (hk : X.env.scope.names.lookup n = some .local) (hg : Gl X x) (hm : X.mg x = some (.ref L))
    (hb : ∀ pn xe E, PassesS (CXE X.prog X.w) (X.inTry pn xe) E → PSs (X.inTry pn xe) body (tb E)) (hs : ∀ ea, PSs (X.hand ea) (b0 :: suite) ts) (hdb : (x == ("__debug__" : Str)) = false := by decide) :
    PS X (.Try body [.ExceptHandler (some (.Name x np)) (some n) (b0 :: suite) hpos] [] [] pos) (tTry X.K L i tb ts) := by
  intro pins s σ H D I h
  have ok := I.ok
  refine wpAny_Try_except (wpAny_mono (hb (X.pn ++ pins) (fun e s₁ => wpAny (model X.prog X.w) X.A (noteFrame e X.env) (fun _ s₂ => wpAny (model X.prog X.w) X.A (setFlight e none) (fun _ s₃ => wpAny (model X.prog X.w) X.A (handleBy e X.env [.ExceptHandler (some (.Name x np)) (some n) (b0 :: suite) hpos]) (SP X pins D) X.xe s₃) X.xe s₂) X.xe s₁)
    (hWish X.K L i ts D) ?_ [] s σ H D I.toTry h) (fun f s1 hq => ?_) fun e s1 he => he)
  · rintro pins' σ1 H1 s1 e s' J ⟨ea, C, a0, B, H', rfl, os, bare, un, hok, fly, C', rfl, hex, hts⟩
    have fl := fly.fl
    have ff : s'.heap.FunFrames B X.stack := fl.2.2.1
    have frm : X.A.frames = some (X.env :: X.outer) := by rw [← hstk]; exact ok.frames
    have fl' : Heap.FlyingW B (X.env :: X.outer) ea (.ref C') a0 s'.heap := by rw [← hstk]; exact fl
    -- the state at a heap that keeps B
    have at_ : ∀ h5, Heap.FlyingW B (X.env :: X.outer) ea (.ref C') a0 h5 → s'.heap.UpToSlots h5 → Inv X pins σ1 H' { s' with heap := h5 } := fun h5 f5 up =>
      Inv.ofTry ok (J.call' (s' := { s' with heap := h5 }) os (fly_un un ff fly.old fl.1 f5.1 up) (fly_hok hok fly.tr fl.1 f5.1) bare (fun b z => nomatch z))
    -- ea is new
    have eaB : B.get? ea = none := fl.2.1
    have eaH : H' ea = none := by
      cases q : H' ea with
      | none => rfl
      | some o => obtain ⟨u, hu⟩ := fly.tr ea o q; rw [eaB] at hu; cases hu
    have ea1 : s1.heap.get? ea = none := by
      cases q : s1.heap.get? ea with
      | none => rfl
      | some o =>
        by_cases hb' : ea ∈ frs X.stack
        · obtain ⟨_, o', ho', hd⟩ := ff.mem hb'
          obtain ⟨oe, vs, _, _, _, he, _, hde, _⟩ := fl.2.2.2
          rw [he] at ho'; cases ho'
          exact absurd hde (hd vs)
        · obtain ⟨u, hu⟩ := fly.old ea o q hb'
          rw [eaB] at hu; cases hu
    have at2 : ∀ h5, Heap.FlyingW B (X.env :: X.outer) ea (.ref C') a0 h5 → s'.heap.UpToSlots h5 → Inv X pins σ1 (upd H' ea (exO C' ea)) { s' with heap := h5 } := fun h5 f5 up => by
      have u5 := fly_un un ff fly.old fl.1 f5.1 up
      have ne : ∀ b o, s1.heap.get? b = some o → b ≠ ea := fun b o e z => by rw [z, ea1] at e; cases e
      have neH : ∀ b o, H' b = some o → b ≠ ea := fun b o e z => by rw [z, eaH] at e; cases e
      have u6 : Un (frs X.stack) [] H1 (upd H' ea (exO C' ea)) s1.heap h5 := ⟨u5.keep, u5.slot, fun b o e q hx => by rw [upd_ne (ne b o e)]; exact u5.free b o e q hx, u5.there,
        fun b xs e => by have z := u5.tups b xs e; rw [upd_ne (neH b _ z)]; exact z, fun b o u e => by have z := u5.frzs b o u e; rw [upd_ne (neH b _ z)]; exact z,
        fun b ps e => by obtain ⟨more, z⟩ := u5.tbls b ps e; exact ⟨more, by rw [upd_ne (neH b _ z)]; exact z⟩⟩
      have k5 : HOk X.prog X.w (upd H' ea (exO C' ea)) h5 := fun b u e => by
        by_cases hbe : b = ea
        · subst hbe
          rw [upd_same] at e; cases e
          obtain ⟨ob, hob, hobc⟩ := f5.there
          exact ⟨⟨ob, hob, hobc⟩, ⟨ob, hob⟩, fun g1 g2 ⟨o, e1, e2⟩ kk => ⟨o, kk o e1, e2⟩⟩
        · rw [upd_ne hbe] at e
          refine (fly_hok hok fly.tr fl.1 f5.1 b u e).stay (fun _ _ _ q => q) (fun c q => by rw [upd_ne (neH c _ q)]; exact q) fun c xs q => by rw [upd_ne (neH c _ q)]; exact q
      exact Inv.ofTry ok (J.call' (s' := { s' with heap := h5 }) os u6 k5 bare (fun b z => nomatch z))
    refine wpAny_looks_onW frm hfr fl' fun h4 held up4 => ?_
    refine wpAny_landsW held fun h5 fl5 up5 => ?_
    have J5 : Inv (X.hand ea) pins σ1 H' { s' with heap := h5 } := (at_ h5 fl5 (up4.trans up5)).toHand
    refine wpAny_handleBy_cons (codeAny_handlers_test (ld_glob (X := X.hand ea) J5 hg hm ?_ hdb)) (by intro q; cases q)
    obtain ⟨ob, hob, hobc⟩ := fl5.there
    have LT : Looks (model X.prog X.w) h5 (typeOf (.ref ea)) (.ref C') := OfC.ty ⟨ob, hob, hobc⟩
    refine (exm_one (K := X.K) J5.kIn LT hex).at ?_
    refine codeAny_handlers_suite_as ?_
    refine lands_againW fl5 fun h6 fl6 up6 => ?_
    have J6 : Inv (X.hand ea) pins σ1 (upd H' ea (exO C' ea)) { s' with heap := h6 } := (at2 h6 fl6 ((up4.trans up5).trans up6)).toHand
    refine store_ok (X := X.hand ea) (v := .ref ea) J6 hN hi (.inl hk) rfl (fun s7 J7 => ?_) (.inr hk)
    refine wpAny_mono (hs ea pins s7 _ _ (hEnds i D) J7 (hts ea eaH)) (fun f s8 q8 => ?_) fun _ _ z => z.elim
    cases f with
    | next =>
      obtain ⟨σ2, H2, J8, q⟩ := q8
      exact goes_ok (J8.ofHand ok) hN hi hk fun s9 J9 => ⟨_, H2, J9, q⟩
    | brk =>
      obtain ⟨σ2, H2, J8, q⟩ := q8
      exact goes_ok (J8.ofHand ok) hN hi hk fun s9 J9 => ⟨_, H2, J9, q⟩
    | cont =>
      obtain ⟨σ2, H2, J8, q⟩ := q8
      exact goes_ok (J8.ofHand ok) hN hi hk fun s9 J9 => ⟨_, H2, J9, q⟩
    | ret u =>
      obtain ⟨v, σ2, H2, J8, r, q⟩ := q8
      exact goes_ok (J8.ofHand ok) hN hi hk fun s9 J9 => ⟨v, _, H2, J9, r, q⟩
  · cases f with
    | next =>
      obtain ⟨σ2, H2, J8, q⟩ := hq
      exact wpAny_execs_nil ⟨σ2, H2, Inv.ofTry ok J8, q⟩
    | brk =>
      obtain ⟨σ2, H2, J8, q⟩ := hq
      exact ⟨σ2, H2, Inv.ofTry ok J8, q⟩
    | cont =>
      obtain ⟨σ2, H2, J8, q⟩ := hq
      exact ⟨σ2, H2, Inv.ofTry ok J8, q⟩
    | ret u =>
      obtain ⟨v, σ2, H2, J8, r, q⟩ := hq
      exact ⟨v, σ2, H2, Inv.ofTry ok J8, r, q⟩
end L2

namespace L2
open PySem PySem.Spec PyProof.Rows


section
variable {κ : Type} [DecidableEq κ]
def valV (kvs : List (κ × V)) (k : κ) : Option V := (kvs.find? fun kv => decide (kv.1 = k)).map (·.2)

def putK (kvs : List (κ × V)) (k : κ) (v : V) : List (κ × V) :=
  if (kvs.any fun kv => decide (kv.1 = k)) = true then kvs.map (fun kv => if kv.1 = k then (kv.1, v) else kv) else kvs ++ [(k, v)]
theorem valV_pos {p : κ × V} {r : List (κ × V)} {k : κ} (e : p.1 = k) : valV (p :: r) k = some p.2 := by simp [valV, List.find?_cons, e]
theorem valV_neg {p : κ × V} {r : List (κ × V)} {k : κ} (e : ¬ p.1 = k) : valV (p :: r) k = valV r k := by simp [valV, List.find?_cons, e]
theorem valV_any (k : κ) : ∀ kvs : List (κ × V), (kvs.any fun kv => decide (kv.1 = k)) = (valV kvs k).isSome
  | [] => rfl
  | p :: r => by
    rw [List.any_cons]
    by_cases e : p.1 = k
    · simp only [valV_pos e, decide_eq_true e, Bool.true_or, Option.isSome_some]
    · rw [valV_neg e, decide_eq_false e, Bool.false_or]; exact valV_any k r
theorem length_putK (kvs : List (κ × V)) (k : κ) (v : V) : (putK kvs k v).length ≤ kvs.length + 1 := by
  unfold putK
  split
  · rw [List.length_map]; omega
  · rw [List.length_append, List.length_cons, List.length_nil]; omega
theorem RelO.isSome_eq {o : Option V} {u : Option Value} (r : RelO o u) : o.isSome = u.isSome := by
  cases o with
  | none => cases u with
    | none => rfl
    | some _ => exact (show False from r).elim
  | some _ => cases u with
    | none => exact (show False from r).elim
    | some _ => rfl
theorem KV.any {kvs : List (κ × V)} {vs : List (κ × Value)} (r : KV kvs vs) (k : κ) : (kvs.any fun kv => decide (kv.1 = k)) = vs.any fun kv => decide (kv.1 = k) := by
  unfold KV at r
  induction r with
  | nil => rfl
  | cons h t ih => rw [List.any_cons, List.any_cons, ih, h.1]
theorem KV.repl {kvs : List (κ × V)} {vs : List (κ × Value)} (r : KV kvs vs) (k : κ) {y : V} {u : Value} (ry : RelV y u) :
    KV (kvs.map fun kv => if kv.1 = k then (kv.1, y) else kv) (vs.map fun kv => if kv.1 = k then (kv.1, u) else kv) := by
  unfold KV at r ⊢
  induction r with
  | nil => exact .nil
  | @cons p q ps qs h t ih =>
    rw [List.map_cons, List.map_cons]
    refine .cons ?_ ih
    obtain ⟨h1, h2⟩ := h
    by_cases e : p.1 = k
    · rw [if_pos e, if_pos (h1.symm.trans e)]; exact ⟨h1, ry⟩
    · rw [if_neg e, if_neg (fun z => e (h1.trans z))]; exact ⟨h1, h2⟩
theorem KV.put {kvs : List (κ × V)} {vs : List (κ × Value)} (r : KV kvs vs) (k : κ) {y : V} {u : Value} (ry : RelV y u) : KV (putK kvs k y) (stored vs k u) := by
  unfold putK stored
  rw [r.any k]
  by_cases e : (vs.any fun kv => decide (kv.1 = k)) = true
  · rw [if_pos e, if_pos e]; exact r.repl k ry
  · rw [if_neg e, if_neg e]; exact Paired.snoc r ⟨rfl, ry⟩
theorem KV.length {kvs : List (κ × V)} {vs : List (κ × Value)} (r : KV kvs vs) : kvs.length = vs.length := Paired.length r
end



theorem kV_is {P : Program} {w : World} {k : Key} {u : Value} (r : RelV (kV k) u) : (mixKind P w).is k u = true := by
  cases k with
  | inl i => obtain ⟨t, e⟩ := (show ∃ t, u = Value.int i t from r); subst e; exact mixKind_int P w i t
  | inr x => obtain ⟨t, e⟩ := (show ∃ t, u = Value.str x t from r); subst e; exact mixKind_str P w x t
theorem items_are {P : Program} {w : World} : ∀ {ks : List Key} {us : List Value}, Vals (ks.map kV) us → ItemsAre (mixKind P w) ks us
  | [], _, r => by rw [List.map_nil] at r; cases r; exact .nil
  | k :: ks, _, r => by
    rw [List.map_cons] at r
    cases r with
    | cons h t => exact .cons (kV_is h) (items_are t)


abbrev KT (H : Hp) : List (List Key × V) → List (List Key × Addr × Value) → Prop := Paired fun p q => p.1 = q.1 ∧ H q.2.1 = some (.tup (p.1.map kV)) ∧ RelV p.2 q.2.2
theorem KT.val {H : Hp} {kvs : List (List Key × V)} {xs : List (List Key × Addr × Value)} (r : KT H kvs xs) (k : List Key) : RelO (valV kvs k) ((atKey xs k).map (·.2)) := by
  induction r with
  | nil => exact True.intro
  | @cons p q ps qs h t ih =>
    obtain ⟨h1, _, h2⟩ := h
    by_cases e : p.1 = k
    · have e' : q.1 = k := h1.symm.trans e
      have b : atKey (q :: qs) k = some q.2 := by simp [atKey, List.find?_cons, e']
      rw [valV_pos e, b]; exact h2
    · have e' : ¬ q.1 = k := fun z => e (h1.trans z)
      have b : atKey (q :: qs) k = atKey qs k := by simp [atKey, List.find?_cons, e']
      rw [valV_neg e, b]; exact ih
theorem KT.repl {H : Hp} {kvs : List (List Key × V)} {xs : List (List Key × Addr × Value)} (r : KT H kvs xs) (k : List Key) {y : V} {u : Value} (ry : RelV y u) :
    KT H (kvs.map fun kv => if kv.1 = k then (kv.1, y) else kv) (xs.map (putAt k u)) := by
  induction r with
  | nil => exact .nil
  | @cons p q ps qs h t ih =>
    rw [List.map_cons, List.map_cons]
    refine .cons ?_ ih
    obtain ⟨h1, h2, h3⟩ := h
    unfold putAt
    by_cases e : p.1 = k
    · rw [if_pos e, if_pos (h1.symm.trans e)]; exact ⟨h1, h2, ry⟩
    · rw [if_neg e, if_neg (fun z => e (h1.trans z))]; exact ⟨h1, h2, h3⟩
theorem KT.put {H : Hp} {kvs : List (List Key × V)} {xs : List (List Key × Addr × Value)} (r : KT H kvs xs) (k : List Key) {b : Addr} {y : V} {u : Value} (hb : H b = some (.tup (k.map kV))) (ry : RelV y u) :
    KT H (putK kvs k y) (storedH xs k b u) := by
  have e : (kvs.any fun kv => decide (kv.1 = k)) = (atKey xs k).isSome := by
    rw [valV_any, (r.val k).isSome_eq, Option.isSome_map]
  unfold putK storedH
  rw [e]
  by_cases q : (atKey xs k).isSome = true
  · rw [if_pos q, if_pos q]; exact r.repl k ry
  · rw [if_neg q, if_neg q]; exact Paired.snoc r ⟨rfl, hb, ry⟩
theorem KT.keeps {H H' : Hp} {kvs : List (List Key × V)} {xs : List (List Key × Addr × Value)} (r : KT H kvs xs) (ht : ∀ b ys, H b = some (.tup ys) → H' b = some (.tup ys)) : KT H' kvs xs :=
  Paired.mapP r fun _ _ z => ⟨z.1, ht _ _ z.2.1, z.2.2⟩

section
variable {P : Program} {w : World} {H : Hp} {h : Heap} {a : Addr}
theorem rd_of {u : HO} (ok : HOk P w H h) (e : Rd H a u) : ObjOk P w H h a u := e.ok ok
theorem dk_rd {kvs : List (Key × V)} (ok : HOk P w H h) (e : Rd H a (.dK kvs)) : kvs.length ≤ sizeLine ∧ (a == sysModules) = false ∧ ∃ vs, KV kvs vs ∧ h.DictOf (mixKind P w) a vs :=
  show ObjOk P w H h a (.dK kvs) from rd_of ok e
theorem dk_of {kvs : List (Key × V)} (ok : HOk P w H h) (e : H a = some (.dK kvs)) : kvs.length ≤ sizeLine ∧ (a == sysModules) = false ∧ ∃ vs, KV kvs vs ∧ h.DictOf (mixKind P w) a vs := dk_rd ok (.inl e)

theorem key_of {ks : List Key} (ok : HOk P w H h) (e : H a = some (.tup (ks.map kV))) : (tupleKind (mixKind P w)).is h ks a := by
  obtain ⟨_, its, r, o, h1, h2, n, h3⟩ := (show ObjOk P w H h a (.tup (ks.map kV)) from ok a _ e)
  exact ⟨o, its.toArray, n, h1, h2, h3, by simpa using items_are r⟩
theorem dt_rd {kvs : List (List Key × V)} (ok : HOk P w H h) (e : Rd H a (.dT kvs)) : kvs.length ≤ sizeLine ∧ (a == sysModules) = false ∧
    ∃ xs, KT H kvs xs ∧ h.DictOfH (tupleKind (mixKind P w)) a xs := by
  obtain ⟨z, y, xs, r, o, es, ep, h1, h2, h3, h4, h5⟩ := (show ObjOk P w H h a (.dT kvs) from rd_of ok e)
  refine ⟨z, y, xs, r, o, es, ep, h1, h2, h3, h4, fun x hx => ?_, h5⟩
  have all : ∀ {l : List (List Key × V)} {m : List (List Key × Addr × Value)}, KT H l m → ∀ x ∈ m, (tupleKind (mixKind P w)).is h x.1 x.2.1 := by
    intro l m q
    induction q with
    | nil => intro x hx; exact nomatch hx
    | @cons p q ps qs hq t ih =>
      intro x hx
      rcases List.mem_cons.mp hx with e | hx
      · subst e
        exact key_of ok (by rw [← hq.1]; exact hq.2.1)
      · exact ih x hx
  exact all r x hx
theorem dt_of {kvs : List (List Key × V)} (ok : HOk P w H h) (e : H a = some (.dT kvs)) : kvs.length ≤ sizeLine ∧ (a == sysModules) = false ∧
    ∃ xs, KT H kvs xs ∧ h.DictOfH (tupleKind (mixKind P w)) a xs := dt_rd ok (.inl e)
end


def DPut (H : Hp) (a : Addr) (y v : V) (H' : Hp) : Prop :=
  (∃ kvs k, H a = some (.dK kvs) ∧ y = kV k ∧ kvs.length < sizeLine ∧ H' = upd H a (.dK (putK kvs k v))) ∨
  ∃ kvs k b, H a = some (.dT kvs) ∧ y = .ref b ∧ H b = some (.tup (k.map kV)) ∧ kvs.length < sizeLine ∧ H' = upd H a (.dT (putK kvs k v))
theorem DPut.k {H : Hp} {a : Addr} {kvs : List (Key × V)} {k : Key} {v : V} (e : H a = some (.dK kvs)) (hl : kvs.length < sizeLine) : DPut H a (kV k) v (upd H a (.dK (putK kvs k v))) := .inl ⟨kvs, k, e, rfl, hl, rfl⟩
section
variable {X : Cx} {pins : List (Addr × Obj)} {σ : St} {H : Hp} {s : Shared} {a : Addr} {y v : V} {u r : Value} {o : Option V} {A : Around} {E : Value → Shared → Prop}

theorem Inv.big (I : Inv X pins σ H s) : sysModules < s.heap.objs.size := by
  have h : mainGlobals < s.heap.objs.size := (I.mod.glob.keeps I.bk).lt
  exact Nat.lt_trans (by decide) h


theorem d_write {h' : Heap} {t' : Nat} {ob : HO} (I : Inv X pins σ H s) (mu : Mut (H a)) (hs : Heap.SameBut a s.heap h') (he : ∃ q, h'.get? a = some q) (new : ObjOk X.prog X.w (upd H a ob) h' a ob) :
    Inv X pins σ (upd H a ob) { s with heap := h', toks := t' } :=
  I.write (x := a) (e := a) mu (.inl rfl) (fun b q hb z => (hs.2 b hb).trans z) he new
theorem dk_new {P : Program} {w : World} {H' : Hp} {h' : Heap} {kvs : List (Key × V)} {vs : List (Key × Value)} (z : kvs.length ≤ sizeLine) (hd : (a == sysModules) = false) (rel : KV kvs vs) (dd : h'.DictOf (mixKind P w) a vs) :
    ObjOk P w H' h' a (.dK kvs) := ⟨z, hd, vs, rel, dd⟩

theorem d_setItem {H' : Hp} {Q : Unit → Shared → Prop} (hu : A.units + 1 < cLine) (I : Inv X pins σ H s) (g : DPut H a y v H') (ry : RelV y u) (rv : RelV v r) (h : ∀ s', Inv X pins σ H' s' → Q () s') :
    wpAny (model X.prog X.w) A (setItem (.ref a) u r) Q E s := by
  rcases g with ⟨kvs, k, e, ey, l, eH⟩ | ⟨kvs, k, b, e, ey, eb, l, eH⟩
  · subst ey eH
    obtain ⟨z, hd, vs, rel, dd⟩ := dk_of I.hok e
    have hz : vs.length ≤ sizeLine := by rw [← rel.length]; exact z
    have hl : (putK kvs k v).length ≤ sizeLine := by have := length_putK kvs k v; omega
    refine wpAny_setItem_pairs (hsz := hz) (kV_is ry) dd fun h' dd' hs => h _ ?_
    have he : ∃ q, h'.get? a = some q := let ⟨q, _, _, hq, _⟩ := dd'; ⟨q, hq⟩
    exact d_write I (by rw [e]; exact True.intro) hs he (dk_new hl hd (rel.put k rv) dd')
  · subst ey eH
    cases (show u = Value.ref b from ry)
    obtain ⟨z, hd, xs, rel, dd⟩ := dt_of I.hok e
    have hz : xs.length ≤ sizeLine := by rw [← Paired.length rel]; exact z
    have hl : (putK kvs k v).length ≤ sizeLine := by have := length_putK kvs k v; omega
    refine wpAny_setItem_heap (hsz := hz) (tupleKind_room_in1 hu) (key_of I.hok eb) dd fun h' dd' hs => h _ ?_
    obtain ⟨q, es, ep, hq, h2, h3, h4, _, h5⟩ := dd'
    refine d_write I (by rw [e]; exact True.intro) hs ⟨q, hq⟩ ⟨hl, hd, _, (rel.put k eb rv).keeps fun c ys ec => ?_, q, es, ep, hq, h2, h3, h4, h5⟩
    rw [upd_ne (ne_of ec e (fun z => nomatch z))]
    exact ec
end

section
variable {X : Cx} {pins : List (Addr × Obj)} {σ : St} {H : Hp} {s : Shared} {a : Addr} {kvs : List (Key × V)} {k : Key} {u : Value} {A : Around} {E : Value → Shared → Prop}

end




def sDPut (td ty tv : TE) : TS := fun D σ H => tv σ H fun v H1 => td σ H1 fun x H2 => ty σ H2 fun y H3 => ∃ a H4, x = .ref a ∧ DPut H3 a y v H4 ∧ D.nx σ H4

section
variable {X : Cx} {o i e value : Expr} {pos pos' tpos : Pos} {td ty tv : TE}
theorem ps_dput (hu : X.A.units + 1 < cLine) (ho : PE X o td) (hi : PE X i ty) (hv : PE X value tv) (hs : swapsWith value (some (.Subscript o i pos')) pos.line X.env = pure false) :
    PS X (.Assign [.Subscript o i pos'] value pos) (sDPut td ty tv) := by
  intro pins s σ H D I h
  refine wpAny_Assign_Subscript (thn (hv pins s σ H _ I h) fun r s1 ⟨v, H1, I1, rv, q1⟩ => thn (ho pins s1 σ H1 _ I1 q1) fun u s2 ⟨x, H2, I2, rx, q2⟩ => thn (hi pins s2 σ H2 _ I2 q2) fun iv s3 ⟨y, H3, I3, ry, a, H4, ex, g, q3⟩ => ?_) hs
  subst ex
  obtain rfl : u = Value.ref a := rx
  exact d_setItem hu I3 g ry rv fun s4 I4 => ⟨σ, H4, I4, q3⟩
end



theorem dk_empty {P : Program} {w : World} {H : Hp} (h : Heap) (hb : sysModules < h.objs.size) : ObjOk P w H (h.push { cls := .type "dict", data := .dict #[] }) h.objs.size (.dK []) :=
  ⟨Nat.zero_le _, beq_eq_false_iff_ne.mpr (Ne.symm (Nat.ne_of_lt hb)), [], .nil, Heap.DictOf.new h⟩
def tDNewK : TE := fun _ H Q => ∀ p, H p = none → Q (.ref p) (upd H p (.dK []))
section
variable {X : Cx} {pos : Pos}
theorem pe_dnewK : PE X (.Dict [] [] pos) tDNewK := fun pins s σ H Q I h =>
  wpAny_Dict_empty ⟨.ref s.heap.objs.size, _, I.laid (a := s.heap.objs.size) (o := .dK []) (t' := s.toks) (fun _ _ q => Heap.get?_push_of_some _ q) (Nat.le_refl _) (dk_empty s.heap I.big), rfl, h _ (I.hok.fresh (Nat.le_refl _))⟩
end


structure M1 (X : Cx) (o : Expr) (m : Str) (apos : Pos) (e : Expr) (cpos : Pos) : Prop where
  base : attributeBase o m X.env (eval o X.env) = eval o X.env
  few : ((backTo cpos (starEach [e] X.env)).all (fun x => !x.1) && (backToKw cpos (keywordEach [] X.env)).all (fun x => x.1.isSome)
    && decide (([e] : List Expr).length + ([] : List Keyword).length + (if ([] : List Keyword).isEmpty then 0 else 1) < 30)) = true
  line : (apos.endLine == cpos.line) = true
  trees : backTo cpos (starEach [e] X.env) = [(false, eval e X.env)]
structure M2 (X : Cx) (o : Expr) (m : Str) (apos : Pos) (e f : Expr) (cpos : Pos) : Prop where
  base : attributeBase o m X.env (eval o X.env) = eval o X.env
  few : ((backTo cpos (starEach [e, f] X.env)).all (fun x => !x.1) && (backToKw cpos (keywordEach [] X.env)).all (fun x => x.1.isSome)
    && decide (([e, f] : List Expr).length + ([] : List Keyword).length + (if ([] : List Keyword).isEmpty then 0 else 1) < 30)) = true
  line : (apos.endLine == cpos.line) = true
  trees : backTo cpos (starEach [e, f] X.env) = [(false, eval e X.env), (false, eval f X.env)]


section
variable {X : Cx} {pins : List (Addr × Obj)} {σ : St} {H : Hp} {s : Shared} {a : Addr} {y d : V} {u r : Value} {o : Option V} {A : Around} {E : Value → Shared → Prop}

end

section
variable {X : Cx} {o e f : Expr} {apos cpos : Pos} {td ty tx : TE}
end


section
variable {X : Cx} {pins : List (Addr × Obj)} {σ : St} {H : Hp} {s : Shared} {a : Addr} {kvs : List (Key × V)} {A : Around} {E : Value → Shared → Prop}
end


section
variable {X : Cx} {pins : List (Addr × Obj)} {σ : St} {H : Hp} {s : Shared} {a : Addr} {y : V} {u : Value} {A : Around} {E : Value → Shared → Prop}

end
end L2


namespace L2
open PySem PySem.Spec PyProof.Rows PySem.W

section
variable {X : Cx} {elts : List Expr} {x1 : Nat} {tp : Pos} {a b : Expr} {ta : TA} {p pos : Pos}
end
theorem for_zip {J : It} {n : Nat} {fx fy : Nat → V} {g : TG} {tb : TS} {D : Ends} {σ : St} {H : Hp} (Pv : Nat → St → Hp → Prop)
    (hJ : ∀ i σ H, Pv i σ H → (i < n → J.go i H ∧ ∀ v H', J.yld i H v H' → ∃ p, v = .ref p ∧ H p = none ∧ H' = upd H p (.tup [fx i, fy i])) ∧ (n ≤ i → J.stop i H)) (h0 : Pv 0 σ H)
    (hs : ∀ i σ H p, i < n → Pv i σ H → H p = none → g (.ref p) σ (upd H p (.tup [fx i, fy i])) fun σ2 H2 => tb { D with nx := Pv (i + 1), ct := Pv (i + 1), bk := D.nx } σ2 H2) (hd : ∀ σ H, Pv n σ H → D.nx σ H) :
    ∃ W : Nat → Nat → St → Hp → Prop, (∃ m, W 0 m σ H) ∧ ∀ i m σ H, W i m σ H →
      (J.stop i H ∧ D.nx σ H) ∨ (J.go i H ∧ ∃ N : St → Hp → Prop, (∀ σ' H', N σ' H' → ∃ m', m' < m ∧ W (i + 1) m' σ' H') ∧ ∀ v H', J.yld i H v H' → g v σ H' fun σ2 H2 => tb { D with nx := N, ct := N, bk := D.nx } σ2 H2) := by
  refine ⟨fun i m σ H => m = n - i ∧ i ≤ n ∧ Pv i σ H, ⟨_, rfl, Nat.zero_le _, h0⟩, ?_⟩
  rintro i m σ H ⟨rfl, hi, p⟩
  obtain ⟨h1, h2⟩ := hJ i σ H p
  by_cases hlt : i < n
  · obtain ⟨hg, hy⟩ := h1 hlt
    refine .inr ⟨hg, Pv (i + 1), fun σ' H' p' => ⟨_, by omega, rfl, hlt, p'⟩, fun v H' y => ?_⟩
    obtain ⟨q, rfl, hq, rfl⟩ := hy v H' y
    exact hs i σ H q hlt p hq
  · have e : i = n := by omega
    subst e
    exact .inl ⟨h2 (Nat.le_refl _), hd σ H p⟩

def EntsAre (P : Params) : List DictEntry → List (Str × V) → Prop
  | [], [] => True
  | e :: r, (k, v) :: q => ((∃ t, e.key = .str k t) ∧ e.hash = PyData.keyHash P k ∧ RelV v e.val) ∧ EntsAre P r q
  | _, _ => False
theorem EntsAre.lit {P : Params} : ∀ {es : List DictEntry} {kvs : List (Str × V)}, EntsAre P es kvs → KeysLit P es
  | [], [], _ => trivial
  | e :: r, (k, v) :: q, ⟨⟨⟨t, h1⟩, h2, _⟩, h⟩ => ⟨⟨k, t, h1, h2⟩, h.lit⟩
theorem EntsAre.rel {P : Params} (x : Str) : ∀ {es : List DictEntry} {kvs : List (Str × V)}, EntsAre P es kvs → RelO (kvs.lookup x) ((es.find? fun e => Value.isStrOf x e.key).map (·.val))
  | [], [], _ => trivial
  | e :: r, (k, v) :: q, ⟨⟨⟨t, h1⟩, h2, h3⟩, h⟩ => by
    have hk : Value.isStrOf x e.key = (k == x) := by rw [h1]; rfl
    by_cases hx : x = k
    · subst hx
      have : Value.isStrOf x e.key = true := by rw [hk]; simp
      rw [List.find?_cons, this, List.lookup_cons]
      simp only [beq_self_eq_true]
      exact h3
    · have h4 : Value.isStrOf x e.key = false := by rw [hk]; simpa using fun z : k = x => hx z.symm
      have h5 : (x == k) = false := by simpa using hx
      rw [List.find?_cons, h4, List.lookup_cons, h5]
      exact h.rel x
structure KD (K : PySem.W.Frag) (P : Params) (a : Addr) (kvs : List (Str × V)) : Prop where
  ex : ∃ es n, K.lookup a = some ⟨.type "dict", none, .dict es n, #[]⟩ ∧ EntsAre P es.toList kvs
  lo : (a == sysModules) = false
theorem KD.map {K : PySem.W.Frag} {prog : Program} {w : World} {a : Addr} {kvs : List (Str × V)} (d : KD K w.params a kvs) {h : Heap} (X : K.In h) : ∃ f, h.MapOf (strKind prog w) a f ∧ ∀ x, RelO (kvs.lookup x) (f x) := by
  obtain ⟨es, n, hl, he⟩ := d.ex
  refine ⟨_, mapOf_K X hl he.lit, fun x => ?_⟩
  obtain ⟨l⟩ := es
  have := he.rel x
  unfold findBy
  rw [List.find?_toArray]
  exact this
section
variable {X : Cx}
def rInKD (K : PySem.W.Frag) (P : Params) (neg : Bool) : R2 := fun x y H Q => ∃ z a kvs, x = .str z ∧ y = .ref a ∧ KD K P a kvs ∧ Q (.bl (neg != (kvs.lookup z).isSome)) H
theorem op_inKD : OpR X (compareOp .In) (rInKD X.K X.w.params false) := by
  intro pins s σ H x y v u Q I rx ry h
  obtain ⟨z, a, kvs, rfl, rfl, d, q⟩ := h
  obtain ⟨t, rfl⟩ := rx
  cases ry
  obtain ⟨f, hm, hr⟩ := d.map (prog := X.prog) I.kIn
  refine wpAny_in_of (strKind_is X.prog X.w z t) d.lo hm ?_
  rw [← (hr z).isSome_eq]
  exact ⟨.bl _, H, I.tok _, rfl, by simpa using q⟩
theorem op_notInKD : OpR X (compareOp .NotIn) (rInKD X.K X.w.params true) := by
  intro pins s σ H x y v u Q I rx ry h
  obtain ⟨z, a, kvs, rfl, rfl, d, q⟩ := h
  obtain ⟨t, rfl⟩ := rx
  cases ry
  obtain ⟨f, hm, hr⟩ := d.map (prog := X.prog) I.kIn
  refine wpAny_notIn_of (strKind_is X.prog X.w z t) d.lo hm ?_
  rw [← (hr z).isSome_eq]
  exact ⟨.bl _, H, I.tok _, rfl, by simpa using q⟩
def rIxKD (K : PySem.W.Frag) (P : Params) : R2 := fun x y H Q => ∃ a kvs z v, x = .ref a ∧ y = .str z ∧ KD K P a kvs ∧ kvs.lookup z = some v ∧ Q v H
theorem ix_KD : IxR X (rIxKD X.K X.w.params) := by
  intro value slice pins s σ H x y v u Q I rx ry h hs
  obtain ⟨a, kvs, z, w', rfl, rfl, d, hl, q⟩ := h
  cases rx
  obtain ⟨t, rfl⟩ := ry
  obtain ⟨f, hm, hr⟩ := d.map (prog := X.prog) I.kIn
  obtain ⟨u', hu, ru⟩ := RelO.some_of (v := w') (o := f z) (by rw [← hl]; exact hr z)
  exact tail_any hm.typeIs slot_dict_getitem.lookup (wpAny_getItem_of (strKind_is X.prog X.w z t) hm hu ⟨w', H, I.tok _, ru, q⟩) hs
end
end L2

namespace HT
open PySem PySem.Spec PyProof.Rows
section
variable {prog : Program} {w : World} {A : Around} {E : Value → Shared → Prop} {s : Shared}

end
end HT
namespace L2
open PySem PySem.Spec PyProof.Rows PySem.W
section
variable {X : Cx} {K : PySem.W.Frag}

theorem Same.seqT {K : PySem.W.Frag} {H H' : Hp} {a : Addr} {xs : List V} (e : Same H H') (h : SqT K H a xs) : SqT K H' a xs := by
  rcases h with (h | ⟨o, h⟩) | h
  · exact .inl (.inl (e _ _ h))
  · exact .inl (.inr ⟨o, e _ _ h⟩)
  · exact .inr h

end
end L2

namespace L2
open PySem PySem.Spec PyProof.Rows PySem.W

section
variable {X : Cx} {pins : List (Addr × Obj)} {σ : St} {H : Hp} {s : Shared}
end

end L2

namespace L2
open PySem PySem.Spec PyProof.Rows PySem.W

section
variable {X : Cx} {pins : List (Addr × Obj)} {σ : St} {H : Hp} {s : Shared} {a : Addr} {kvs : List (Key × V)} {o : Obj}
theorem is_kV {P : Program} {w : World} {k : Key} {u : Value} (h : (mixKind P w).is k u = true) : RelV (kV k) u := by
  rcases keyIs_shape (show keyIs k u = true from h) with ⟨i, t, rfl, rfl⟩ | ⟨x, t, rfl, rfl⟩
  · exact ⟨t, rfl⟩
  · exact ⟨t, rfl⟩
theorem KV.at {κ : Type} : ∀ {kvs : List (κ × V)} {vs : List (κ × Value)}, KV kvs vs → ∀ {i : Nat} {kv : κ × V}, kvs[i]? = some kv → ∃ u, vs[i]? = some (kv.1, u) ∧ RelV kv.2 u := by
  intro kvs vs r
  unfold KV at r
  induction r with
  | nil => intro i kv h; simp at h
  | @cons p q ps qs h t ih =>
    intro i kv hi
    cases i with
    | zero =>
      simp only [List.getElem?_cons_zero, Option.some.injEq] at hi
      subst hi
      obtain ⟨q1, q2⟩ := q
      obtain ⟨h1, h2⟩ := h
      simp only at h1
      subst h1
      exact ⟨q2, rfl, h2⟩
    | succ j =>
      simp only [List.getElem?_cons_succ] at hi ⊢
      exact ih hi
end
end L2

namespace PySem
end PySem
namespace L2
open PySem PySem.Spec PyProof.Rows PySem.W

section
variable {X : Cx} {pins : List (Addr × Obj)} {σ : St} {H : Hp} {s : Shared} {a : Addr} {kvs : List (Key × V)} {o : Obj}
end
end L2

namespace L2
open PySem PySem.W PyProof.Rows

def pat (p : Array Nat) (k : Nat) : Nat := p.getD k 0
structure Ord (n : Nat) (lt : Nat → Nat → Bool) : Prop where
  tr : ∀ i j k, i < n → j < n → k < n → lt i j = true → lt j k = true → lt i k = true
  tot : ∀ i j, i < n → j < n → i ≠ j → lt i j = false → lt j i = true
def Cmp (n : Nat) (lt : Nat → Nat → Bool) (cmp : Nat → Nat → (Bool → Shared → Prop) → Shared → Prop) (J : Shared → Prop) : Prop :=
  ∀ i j C s, i < n → j < n → i ≠ j → J s → (∀ s', J s' → C (lt i j) s') → cmp i j C s
def Pm (n : Nat) (p : Array Nat) : Prop := p.Perm (List.range n).toArray
theorem Pm.size {n : Nat} {p : Array Nat} (h : Pm n p) : p.size = n := by
  have := h.size_eq
  simpa using this
theorem Pm.lt {n : Nat} {p : Array Nat} (h : Pm n p) {k : Nat} (hk : k < n) : pat p k < n := by
  have hs := h.size
  have hk' : k < p.size := by omega
  have hm : p[k] ∈ p.toList := by simp
  have := (Array.perm_iff_toList_perm.mp h).mem_iff.mp hm
  simp at this
  unfold pat
  rw [Array.getD, dif_pos hk']
  exact this
theorem Pm.ne {n : Nat} {p : Array Nat} (h : Pm n p) {i j : Nat} (hi : i < n) (hj : j < n) (hij : i ≠ j) : pat p i ≠ pat p j := by
  have hs := h.size
  have hi' : i < p.size := by omega
  have hj' : j < p.size := by omega
  have nd : p.toList.Nodup := (Array.perm_iff_toList_perm.mp h).nodup_iff.mpr (by simpa using List.nodup_range)
  unfold pat
  rw [Array.getD, dif_pos hi', Array.getD, dif_pos hj']
  intro e
  have pw := List.pairwise_iff_getElem.mp nd
  rcases Nat.lt_or_gt_of_ne hij with h1 | h1
  · exact pw i j (by simpa using hi') (by simpa using hj') h1 (by simpa using e)
  · exact pw j i (by simpa using hj') (by simpa using hi') h1 (by simpa using e.symm)
theorem pat_of {p q : Array Nat} {i j : Nat} (h : p[i]? = q[j]?) : pat p i = pat q j := by
  unfold pat
  rw [Array.getD_eq_getD_getElem?, Array.getD_eq_getD_getElem?, h]
def Up (lt : Nat → Nat → Bool) (p : Array Nat) (m : Nat) : Prop := ∀ i j, i < j → j < m → lt (pat p i) (pat p j) = true
def Down (lt : Nat → Nat → Bool) (p : Array Nat) (m : Nat) : Prop := ∀ i j, i < j → j < m → lt (pat p j) (pat p i) = true
section
variable {n : Nat} {lt : Nat → Nat → Bool} {cmp : Nat → Nat → (Bool → Shared → Prop) → Shared → Prop} {J : Shared → Prop} {p : Array Nat}
theorem Up.snoc (O : Ord n lt) (P : Pm n p) {m : Nat} (h1 : 1 ≤ m) (hm : m < n) (h : Up lt p m) (hl : lt (pat p (m - 1)) (pat p m) = true) : Up lt p (m + 1) := by
  intro i j hij hj
  by_cases e : j = m
  · subst e
    by_cases e2 : i = j - 1
    · subst e2; exact hl
    · exact O.tr _ _ _ (P.lt (by omega)) (P.lt (by omega)) (P.lt (by omega)) (h i (j - 1) (by omega) (by omega)) hl
  · exact h i j hij (by omega)
theorem Down.snoc (O : Ord n lt) (P : Pm n p) {m : Nat} (h1 : 1 ≤ m) (hm : m < n) (h : Down lt p m) (hl : lt (pat p m) (pat p (m - 1)) = true) : Down lt p (m + 1) := by
  intro i j hij hj
  by_cases e : j = m
  · subst e
    by_cases e2 : i = j - 1
    · subst e2; exact hl
    · exact O.tr _ _ _ (P.lt (by omega)) (P.lt (by omega)) (P.lt (by omega)) hl (h i (j - 1) (by omega) (by omega))
  · exact h i j hij (by omega)
theorem asc_wp (O : Ord n lt) (hc : Cmp n lt cmp J) (P : Pm n p) {G : Nat → Shared → Prop} : ∀ (f m : Nat) (s : Shared), 1 ≤ m → m + f ≤ n → Up lt p m → J s →
    (∀ r s', m ≤ r → r ≤ m + f → Up lt p r → (r < m + f → lt (pat p r) (pat p (r - 1)) = true) → J s' → G r s') → (kas_asc p f m).kasWp cmp G s
  | 0, m, s, h1, hf, hU, hJ, k => k m s (Nat.le_refl _) (Nat.le_refl _) hU (fun h => absurd h (Nat.lt_irrefl _)) hJ
  | f + 1, m, s, h1, hf, hU, hJ, k => by
    show cmp (p.getD m 0) (p.getD (m - 1) 0) _ s
    refine hc _ _ _ s (P.lt (k := m) (by omega)) (P.lt (k := m - 1) (by omega)) (P.ne (by omega) (by omega) (by omega)) hJ fun s' hJ' => ?_
    show KasT.kasWp cmp (if lt (pat p m) (pat p (m - 1)) = true then .ret m else kas_asc p f (m + 1)) G s'
    cases e : lt (pat p m) (pat p (m - 1)) with
    | true =>
      rw [if_pos rfl]
      exact k m s' (Nat.le_refl _) (by omega) hU (fun _ => e) hJ'
    | false =>
      rw [if_neg Bool.false_ne_true]
      have hl := O.tot _ _ (P.lt (k := m) (by omega)) (P.lt (k := m - 1) (by omega)) (P.ne (by omega) (by omega) (by omega)) e
      exact asc_wp O hc P f (m + 1) s' (by omega) (by omega) (hU.snoc O P h1 (by omega) hl) hJ' fun r s'' a b c d e' => k r s'' (by omega) (by omega) c (fun h => d (by omega)) e'
theorem desc_wp (O : Ord n lt) (hc : Cmp n lt cmp J) (P : Pm n p) {G : Array Nat × Nat × Nat → Shared → Prop} : ∀ (f m : Nat) (s : Shared), 1 ≤ m → m + f ≤ n → Down lt p m → J s →
    (∀ r s', m ≤ r → r ≤ m + f → Down lt p r → J s' → G (p, r, 0) s') → (kas_desc f p m 0).kasWp cmp G s
  | 0, m, s, h1, hf, hU, hJ, k => k m s (Nat.le_refl _) (Nat.le_refl _) hU hJ
  | f + 1, m, s, h1, hf, hU, hJ, k => by
    show cmp (p.getD m 0) (p.getD (m - 1) 0) _ s
    refine hc _ _ _ s (P.lt (k := m) (by omega)) (P.lt (k := m - 1) (by omega)) (P.ne (by omega) (by omega) (by omega)) hJ fun s' hJ' => ?_
    cases e : lt (pat p m) (pat p (m - 1)) with
    | true =>
      have e' : lt (p.getD m 0) (p.getD (m - 1) 0) = true := e
      rw [e']
      dsimp only
      rw [if_pos rfl, if_neg (Nat.lt_irrefl 0)]
      exact desc_wp O hc P f (m + 1) s' (by omega) (by omega) (hU.snoc O P h1 (by omega) e) hJ' fun r s'' a b c d => k r s'' (by omega) (by omega) c d
    | false =>
      have e' : lt (p.getD m 0) (p.getD (m - 1) 0) = false := e
      rw [e']
      dsimp only
      rw [if_neg Bool.false_ne_true]
      have hl := O.tot _ _ (P.lt (k := m) (by omega)) (P.lt (k := m - 1) (by omega)) (P.ne (by omega) (by omega) (by omega)) e
      refine hc _ _ _ s' (P.lt (k := m - 1) (by omega)) (P.lt (k := m) (by omega)) (P.ne (by omega) (by omega) (by omega)) hJ' fun s'' hJ'' => ?_
      have hl' : lt (p.getD (m - 1) 0) (p.getD m 0) = true := hl
      rw [hl']
      dsimp only
      rw [if_pos rfl]
      exact k m s'' (Nat.le_refl _) (by omega) hU hJ''
theorem rev_pm (P : Pm n p) (i j : Nat) : Pm n (kas_rev p i j) := (mirror_perm p i j _).trans P
theorem rev_at (P : Pm n p) {r : Nat} (hr : r ≤ n) (k : Nat) : pat (kas_rev p 0 r) k = if k < r then pat p (r - 1 - k) else pat p k := by
  have h := getElem?_mirror_all (xs := p) (i := 0) (j := r) (by rw [P.size]; exact hr) k
  by_cases hk : k < r
  · rw [if_pos hk]
    rw [if_pos ⟨Nat.zero_le _, hk⟩, Nat.zero_add] at h
    exact pat_of h
  · rw [if_neg hk]
    rw [if_neg (fun z => hk z.2)] at h
    exact pat_of h
theorem rev_up (P : Pm n p) {r : Nat} (hr : r ≤ n) (h : Down lt p r) : Up lt (kas_rev p 0 r) r := by
  intro i j hij hj
  rw [rev_at P hr, rev_at P hr, if_pos (by omega), if_pos hj]
  exact h _ _ (by omega) (by omega)
def CountOk (n : Nat) (lt : Nat → Nat → Bool) (J : Shared → Prop) (G : Nat × Array Nat → Shared → Prop) : Prop := ∀ q p' s', Pm n p' → 1 ≤ q → q ≤ n → Up lt p' q → J s' → G (q, p') s'
theorem count_wp (O : Ord n lt) (hc : Cmp n lt cmp J) (P : Pm n p) (h2 : 2 ≤ n) {G : Nat × Array Nat → Shared → Prop} {s : Shared} (hJ : J s) (k : CountOk n lt J G) : (kas_count n p).kasWp cmp G s := by
  unfold kas_count
  rw [KasT.kasWp_bind]
  refine asc_wp O hc P (n - 1) 1 s (Nat.le_refl _) (by omega) (fun i j hij hj => by omega) hJ fun r s' h1 hr hU hstop hJ' => ?_
  by_cases e : r = n
  · subst e
    rw [if_pos (by simp)]
    exact k r p s' P h1 (Nat.le_refl _) hU hJ'
  · rw [if_neg (by simpa using e)]
    by_cases e1 : r > 1
    · rw [if_pos e1]
      refine hc _ _ _ s' (P.lt (k := 0) (by omega)) (P.lt (k := r - 1) (by omega)) (P.ne (by omega) (by omega) (by omega)) hJ' fun s'' hJ'' => ?_
      have hl : lt (p.getD 0 0) (p.getD (r - 1) 0) = true := hU 0 (r - 1) (by omega) (by omega)
      rw [hl]
      dsimp only
      rw [if_pos rfl]
      exact k r p s'' P h1 (by omega) hU hJ''
    · rw [if_neg e1]
      have er : r = 1 := by omega
      subst er
      have h0 := hstop (by omega)
      unfold kas_descPart
      rw [KasT.kasWp_bind]
      refine desc_wp O hc P (n - (1 + 1)) (1 + 1) s' (by omega) (by omega) (fun i j hij hj => ?_) hJ' fun r s'' a b c d => ?_
      · have ei : i = 0 := by omega
        have ej : j = 1 := by omega
        subst ei ej
        exact h0
      · rw [if_neg (Nat.lt_irrefl 0)]
        unfold kas_tail3
        rw [KasT.kasWp_bind]
        refine asc_wp O hc (rev_pm P 0 r) (n - r) r s'' (by omega) (by omega) (rev_up P (by omega) c) d fun q s3 h3 h4 h5 _ h6 => ?_
        exact k q _ s3 (rev_pm P 0 r) (by omega) (by omega) h5 h6
theorem place_wp (O : Ord n lt) (hc : Cmp n lt cmp J) (P : Pm n p) {k : Nat} (hk : k < n) (hU : Up lt p k) {G : Nat → Shared → Prop} : ∀ (f l r : Nat) (s : Shared), r - l ≤ f → l ≤ r → r ≤ k → (∀ i, i < l → lt (pat p i) (pat p k) = true) → (∀ i, r ≤ i → i < k → lt (pat p k) (pat p i) = true) → J s →
    (∀ l' s', l' ≤ k → (∀ i, i < l' → lt (pat p i) (pat p k) = true) → (∀ i, l' ≤ i → i < k → lt (pat p k) (pat p i) = true) → J s' → G l' s') → (kas_place p k f l r).kasWp cmp G s
  | 0, l, r, s, h0, h1, h2, hlo, hhi, hJ, w => w l s (by omega) hlo (fun i hi => hhi i (by omega)) hJ
  | f + 1, l, r, s, h0, h1, h2, hlo, hhi, hJ, w => by
    unfold kas_place
    by_cases e : l ≥ r
    · rw [if_pos e]
      exact w l s (by omega) hlo (fun i hi => hhi i (by omega)) hJ
    · rw [if_neg e]
      have hm1 : l ≤ (l + r) / 2 := by omega
      have hm2 : (l + r) / 2 < r := by omega
      generalize hmd : (l + r) / 2 = md at hm1 hm2
      refine hc _ _ _ s (P.lt (k := k) hk) (P.lt (k := md) (by omega)) (P.ne hk (by omega) (by omega)) hJ fun s' hJ' => ?_
      cases c : lt (pat p k) (pat p md) with
      | true =>
        have c' : lt (p.getD k 0) (p.getD md 0) = true := c
        rw [c']
        dsimp only
        rw [if_pos rfl]
        refine place_wp O hc P hk hU f l md s' (by omega) hm1 (by omega) hlo (fun i hi hik => ?_) hJ' w
        by_cases ei : i = md
        · subst ei; exact c
        · exact O.tr _ _ _ (P.lt hk) (P.lt (by omega)) (P.lt (by omega)) c (hU md i (by omega) hik)
      | false =>
        have c' : lt (p.getD k 0) (p.getD md 0) = false := c
        rw [c']
        dsimp only
        rw [if_neg Bool.false_ne_true]
        have hl := O.tot _ _ (P.lt hk) (P.lt (k := md) (by omega)) (P.ne hk (by omega) (by omega)) c
        refine place_wp O hc P hk hU f (md + 1) r s' (by omega) (by omega) h2 (fun i hi => ?_) hhi hJ' w
        by_cases ei : i = md
        · subst ei; exact hl
        · exact O.tr _ _ _ (P.lt (by omega)) (P.lt (by omega)) (P.lt hk) (hU i md (by omega) (by omega)) hl
theorem bub_at (P : Pm n p) {k l : Nat} (hk : k < n) (hl : l ≤ k) (i : Nat) : pat (bubble p k (k - l)) i = if i = l then pat p k else if l < i ∧ i ≤ k then pat p (i - 1) else pat p i := by
  have h := getElem?_bubble (xs := p) (src := k) (by rw [P.size]; exact hk) (k - l) (by omega) i
  rw [show k - (k - l) = l by omega] at h
  by_cases e : i = l
  · rw [if_pos e] at h ⊢
    exact pat_of h
  · rw [if_neg e] at h ⊢
    by_cases e2 : l < i ∧ i ≤ k
    · rw [if_pos e2] at h ⊢
      exact pat_of h
    · rw [if_neg e2] at h ⊢
      exact pat_of h
theorem bin_wp (O : Ord n lt) (hc : Cmp n lt cmp J) {G : Array Nat → Shared → Prop} : ∀ (f k : Nat) (p : Array Nat) (s : Shared), k + f = n → Pm n p → Up lt p k → J s → (∀ p' s', Pm n p' → Up lt p' n → J s' → G p' s') → (kas_bin f p k).kasWp cmp G s
  | 0, k, p, s, hk, P, hU, hJ, w => by
    have : k = n := by omega
    subst this
    exact w p s P hU hJ
  | f + 1, k, p, s, hk, P, hU, hJ, w => by
    unfold kas_bin
    rw [KasT.kasWp_bind]
    refine place_wp O hc P (by omega) hU k 0 k s (by omega) (Nat.zero_le _) (Nat.le_refl _) (fun i hi => absurd hi (Nat.not_lt_zero _)) (fun i h1 h2 => by omega) hJ fun l s' hl hlo hhi hJ' => ?_
    refine bin_wp O hc f (k + 1) _ s' (by omega) ((bubble_perm p k _).trans P) (fun i j hij hj => ?_) hJ' w
    rw [bub_at P (by omega) hl, bub_at P (by omega) hl]
    by_cases a1 : i = l
    · rw [if_pos a1, if_neg (by omega), if_pos (by omega)]
      exact hhi _ (by omega) (by omega)
    · rw [if_neg a1]
      by_cases a2 : l < i
      · rw [if_pos (by omega), if_neg (by omega), if_pos (by omega)]
        exact hU _ _ (by omega) (by omega)
      · rw [if_neg (by omega)]
        by_cases a3 : j = l
        · rw [if_pos a3]
          exact hlo i (by omega)
        · rw [if_neg a3]
          by_cases a4 : l < j
          · rw [if_pos (by omega)]
            by_cases a5 : i = j - 1
            · omega
            · exact hU _ _ (by omega) (by omega)
          · rw [if_neg (by omega)]
            exact hU _ _ hij (by omega)
theorem sort_wp (O : Ord n lt) (hc : Cmp n lt cmp J) (h2 : 2 ≤ n) {G : Array Nat → Shared → Prop} {s : Shared} (hJ : J s) (w : ∀ p' s', Pm n p' → Up lt p' n → J s' → G p' s') : (kas_sort n).kasWp cmp G s := by
  unfold kas_sort
  rw [KasT.kasWp_bind]
  refine count_wp O hc (Array.Perm.refl _) h2 hJ fun q p' s' P h1 hq hU hJ' => ?_
  by_cases e : q < n
  · rw [if_pos e, show max q 1 = q by omega]
    exact bin_wp O hc (n - q) q p' s' (by omega) P hU hJ' w
  · rw [if_neg e]
    have : q = n := by omega
    subst this
    exact w p' s' P hU hJ'
end
end L2

namespace L2
open PySem PySem.W PyProof.Rows
section
variable {prog : Program} {w : World} {A : Around} {E : Value → Shared → Prop} {s : Shared} {lt : Nat → Nat → Bool} {κ : SortKind}

def Keep (a : Addr) (s s' : Shared) : Prop := ∀ b o, b ≠ a → s.heap.get? b = some o → s'.heap.get? b = some o
theorem range_out (vs : List Value) : ((List.range vs.length).toArray.toList.map fun i => vs.getD i Value.none) = vs := by
  apply List.ext_getElem
  · simp
  · intro i h1 h2
    simp only [List.getElem_map, List.getElem_range]
    rw [List.getD_eq_getElem?_getD, List.getElem?_eq_getElem h2]; rfl
theorem lsort_by {a : Addr} {vs : List Value} {n0 : Nat} {P : PySem.Fin → Shared → Prop} (ho : s.heap.get? a = some (seqObj "list" vs.toArray n0)) (h64 : vs.length < 64) (O : Ord vs.length lt)
    (hk : 2 ≤ vs.length → ∀ (s' : Shared) (Q : SortKind → Shared → Prop), Keep a s s' → Q κ s' → wpAny (model prog w) A (keyKind' vs.toArray) Q (fun _ _ => False) s')
    (hl : ∀ (i j : Nat) (s' : Shared) (C : Bool → Shared → Prop), i < vs.length → j < vs.length → i ≠ j → Keep a s s' → (∀ tk, C (lt i j) { s' with toks := tk }) → wpAny (model prog w) A (keyLt' κ (vs.getD i Value.none) (vs.getD j Value.none)) C (fun _ _ => False) s')
    (h : ∀ (p : Array Nat) (tk : Nat), Pm vs.length p → Up lt p vs.length → P (.done (.ret .none)) { s with toks := tk, heap := sortedHeap s.heap a vs (p.toList.map fun i => vs.getD i Value.none).toArray }) :
    wpAny (model prog w) A (Builtin.«list.sort» ⟨[.ref a], []⟩) P E s := by
  have ha : a < s.heap.objs.size := Heap.lt_size ho
  rw [list_sort_plain]
  refine wpAny_bind (listItems_at ho rfl ?_)
  refine wpAny_bind (listUpdate_at ho rfl ?_ (by rw [List.size_toArray, sizeLine_eq]; omega) (Nat.zero_le _))
  obtain ⟨ep, hz⟩ : ∃ ep, (s.heap.update a (Obj.mapSeq fun _ => #[])).get? a = some (seqObj "list" #[] ep) := ⟨_, get?_update_seq ho (fun _ => #[])⟩
  refine wpAny_bind (seqEpoch_at hz rfl ?_)
  refine wpAny_bind (wpAny_newTuple ?_ (by show vs.length ≤ sizeLine; rw [sizeLine_eq]; omega))
  refine wpAny_bind (wpAny_newList ?_ (Nat.zero_le _))
  refine wpAny_holding ?_
  have hz2 : (((s.heap.update a (Obj.mapSeq fun _ => #[])).push (seqObj "tuple" vs.toArray 0)).push (seqObj "list" #[] 0)).get? a = some (seqObj "list" #[] ep) := Heap.get?_push_of_some _ (Heap.get?_push_of_some _ hz)
  have kp : Keep a s { s with heap := ((s.heap.update a (Obj.mapSeq fun _ => #[])).push (seqObj "tuple" vs.toArray 0)).push (seqObj "list" #[] 0) } := fun b o hb q =>
    Heap.get?_push_of_some _ (Heap.get?_push_of_some _ ((Heap.get?_update_ne _ _ _ _ hb).trans q))
  show wpAny (model prog w) A _ P E { s with heap := ((s.heap.update a (Obj.mapSeq fun _ => #[])).push (seqObj "tuple" vs.toArray 0)).push (seqObj "list" #[] 0) }
  dsimp only
  have hsz : vs.toArray.size = vs.length := by simp
  by_cases h2 : vs.toArray.size < 2
  · rw [if_pos h2, if_pos h2]
    refine wpAny_bind (wpAny_pure ?_)
    rw [StateT.run_pure]
    refine wpAny_bind (wpAny_pure ?_)
    dsimp only
    refine wpAny_bind (seqEpoch_at hz2 rfl ?_)
    have eo : (arrOf (SortSt.mk' general' (vs.toArray.zip vs.toArray) #[] 7 none)).map (·.2) = vs.toArray := by
      exact Array.map_snd_zip (as := vs.toArray) (bs := vs.toArray) (Nat.le_refl _)
    rw [eo]
    refine wpAny_bind (listUpdate_at hz2 rfl ?_ (hsz2 := by rw [List.size_toArray, sizeLine_eq]; omega))
    simp only [bne_self_eq_false, Bool.false_eq_true, if_false]
    have g := h (List.range vs.length).toArray s.toks (Array.Perm.refl _) (fun i j hij hj => by omega)
    rw [range_out] at g
    exact wpAny_pure g
  · rw [if_neg h2, if_neg h2]
    have h2' : 2 ≤ vs.length := by omega
    refine wpAny_bind (wpAny_mono (hk h2' _ (fun κ' s' => κ' = κ ∧ s' = { s with heap := ((s.heap.update a (Obj.mapSeq fun _ => #[])).push (seqObj "tuple" vs.toArray 0)).push (seqObj "list" #[] 0) }) kp ⟨rfl, rfl⟩) (fun κ' s' hκ => ?_) fun _ _ x => x.elim)
    obtain ⟨rfl, rfl⟩ := hκ
    refine wpAny_bind (wpAny_mono (kat_run (κ := κ') (ks := vs) (vs := vs) (Q := fun st' s' => ∃ (p : Array Nat) (tk : Nat), Pm vs.length p ∧ Up lt p vs.length ∧ arrOf st' = p.map (kas_item (vs.toArray.zip vs.toArray)) ∧ failedOf st' = none ∧ s' = { s with toks := tk, heap := ((s.heap.update a (Obj.mapSeq fun _ => #[])).push (seqObj "tuple" vs.toArray 0)).push (seqObj "list" #[] 0) })
      (G := fun p s' => ∃ tk : Nat, Pm vs.length p ∧ Up lt p vs.length ∧ s' = { s with toks := tk, heap := ((s.heap.update a (Obj.mapSeq fun _ => #[])).push (seqObj "tuple" vs.toArray 0)).push (seqObj "list" #[] 0) })
      rfl h2' h64 (fun p st' s' _ a2 a3 ⟨tk, b1, b2, b3⟩ => ⟨p, tk, b1, b2, a2, a3, b3⟩)
      (sort_wp (J := fun s' => ∃ tk : Nat, s' = { s with toks := tk, heap := ((s.heap.update a (Obj.mapSeq fun _ => #[])).push (seqObj "tuple" vs.toArray 0)).push (seqObj "list" #[] 0) }) O (fun i j C s' hi hj hij hJ hC => ?_) h2' ⟨s.toks, rfl⟩ fun p' s' hP hU ⟨tk, e⟩ => ⟨tk, hP, hU, e⟩)) ?_ fun _ _ e => e)
    · obtain ⟨tk, rfl⟩ := hJ
      exact hl i j _ C hi hj hij kp fun tk' => hC _ ⟨tk', rfl⟩
    rintro ⟨⟨⟩, st'⟩ s' ⟨p, tk, hP, hU, har, hf, rfl⟩
    dsimp only
    refine wpAny_bind (seqEpoch_at hz2 rfl ?_)
    rw [kat_snds rfl har]
    have lp : p.toList.length = vs.length := by rw [Array.length_toList]; exact hP.size
    refine wpAny_bind (listUpdate_at hz2 rfl ?_ (hsz2 := by rw [List.size_toArray, List.length_map, lp, sizeLine_eq]; omega))
    rw [hf]
    simp only [bne_self_eq_false, Bool.false_eq_true, if_false]
    exact wpAny_pure (h p tk hP hU)

theorem sorted_by {x : Value} {Q : Value → Shared → Prop}
    (hc : wpAny (model prog w) A.in1 (collect x) (fun vs s1 => vs.length < 64 ∧ ∃ (lt : Nat → Nat → Bool) (κ : SortKind), Ord vs.length lt ∧
      (2 ≤ vs.length → ∀ (s' : Shared) (R : SortKind → Shared → Prop), (∀ b o, s1.heap.get? b = some o → s'.heap.get? b = some o) → R κ s' → wpAny (model prog w) A.in1.in1 (keyKind' vs.toArray) R (fun _ _ => False) s') ∧
      (∀ (i j : Nat) (s' : Shared) (C : Bool → Shared → Prop), i < vs.length → j < vs.length → i ≠ j → (∀ b o, s1.heap.get? b = some o → s'.heap.get? b = some o) → (∀ tk, C (lt i j) { s' with toks := tk }) → wpAny (model prog w) A.in1.in1 (keyLt' κ (vs.getD i Value.none) (vs.getD j Value.none)) C (fun _ _ => False) s') ∧
      ∀ (p : Array Nat) (tk : Nat) (h' : Heap) (e : Nat), Pm vs.length p → Up lt p vs.length → (∀ b o, s1.heap.get? b = some o → h'.get? b = some o) → h'.get? s1.heap.objs.size = some (seqObj "list" (p.toList.map fun i => vs.getD i Value.none).toArray e) → Q (.ref s1.heap.objs.size) { s1 with toks := tk, heap := h' }) (fun _ _ => False) s) :
    wpAny (model prog w) A (call (.builtin "sorted") [x]) Q E s := by
  refine Calls.call_function_entry kind_sorted plain_sorted entry_sorted (args_sorted1 _) ?_
  unfold Builtin.«sorted»
  refine wpAny_bind (m := checkCount "sorted" 1 1 _) (wpAny_pure ?_)
  refine wpAny_bind (wpAny_mono hc (fun vs s1 ⟨h64, lt, κ, O, hk, hl, hq⟩ => ?_) fun _ _ z => z.elim)
  refine wpAny_bind (wpAny_newList ?_ (by show vs.length ≤ sizeLine; rw [sizeLine_eq]; omega))
  have hn : (s1.heap.push (seqObj "list" vs.toArray 0)).get? s1.heap.objs.size = some (seqObj "list" vs.toArray 0) := Heap.get?_push_size _ rfl
  have old : ∀ b o, s1.heap.get? b = some o → b ≠ s1.heap.objs.size ∧ (s1.heap.push (seqObj "list" vs.toArray 0)).get? b = some o := fun b o q => ⟨Nat.ne_of_lt (Heap.lt_size q), Heap.get?_push_of_some _ q⟩
  show wpAny _ _ _ _ _ { s1 with heap := s1.heap.push (seqObj "list" vs.toArray 0) }
  refine wpAny_bind (wpAny_holding (wpAny_call_entry slot_list_sort ⟨_, hn, rfl⟩ entry_list_sort ?body (args_list_sort _)))
  case body =>
    refine lsort_by (s := { s1 with heap := s1.heap.push (seqObj "list" vs.toArray 0) }) hn h64 O (fun h2 s' R kp hR => hk h2 s' R (fun b o q => kp b o (old b o q).1 (old b o q).2) hR)
      (fun i j s' C hi hj hij kp hC => hl i j s' C hi hj hij (fun b o q => kp b o (old b o q).1 (old b o q).2) hC) fun p tk hP hU => ⟨_, rfl, wpAny_pure ⟨_, rfl, ?_⟩⟩
    obtain ⟨e, he⟩ := sortedHeap_at (h := s1.heap.push (seqObj "list" vs.toArray 0)) (a := s1.heap.objs.size) (vs := vs) (out := (p.toList.map fun i => vs.getD i Value.none).toArray) hn
    refine hq p tk _ e hP hU (fun b o q => ?_) he
    rw [sortedHeap_old (old b o q).1 (by have := Heap.lt_size q; rw [size_push']; exact Nat.lt_succ_of_lt this)]
    exact (old b o q).2
end
end L2

namespace L2
open PySem PySem.Spec PyProof.Rows PySem.W
section
variable {X : Cx} {pins : List (Addr × Obj)} {σ : St} {H : Hp} {s : Shared} {h' : Heap}
theorem ObjOk.obj {P : Program} {w : World} {h : Heap} {a : Addr} {o : HO} (x : ObjOk P w H h a o) : ∃ ob, h.get? a = some ob := by
  cases o with
  | lst xs => obtain ⟨_, _, _, _, e⟩ := x; exact ⟨_, e⟩
  | tup xs => obtain ⟨_, _, _, ob, e, _⟩ := x; exact ⟨ob, e⟩
  | dK kvs => obtain ⟨_, _, _, _, ob, _, _, e, _⟩ := x; exact ⟨ob, e⟩
  | dT kvs => obtain ⟨_, _, _, _, ob, _, _, e, _⟩ := x; exact ⟨ob, e⟩
  | set S n => obtain ⟨ob, _, _, _, e, _⟩ := x; exact ⟨ob, e⟩
  | ins C dx fs => obtain ⟨_, _, _, e, _⟩ := x; exact ⟨_, e⟩
  | own y => exact x
  | xd fs => obtain ⟨_, ⟨ob, _, _, e, _⟩, _⟩ := x; exact ⟨ob, e⟩
  | rng lo hi => obtain ⟨_, _, _, e⟩ := x; exact ⟨_, e⟩
  | frz ob u => obtain ⟨e, _⟩ := x; exact ⟨ob, e⟩
  | tbl ps => exact ⟨_, x⟩
  | met f y => exact ⟨_, x⟩
  | ext φ => obtain ⟨_, e, _⟩ := x; exact e

theorem Inv.laidL {t' : Nat} (H' : Hp) (I : Inv X pins σ H s) (k : ∀ b u, s.heap.get? b = some u → h'.get? b = some u) (hs : ∀ b u, H b = some u → H' b = some u) (hn : ∀ b u, H' b = some u → H b = none → (∀ o, s.heap.get? b ≠ some o) ∧ ObjOk X.prog X.w H' h' b u) :
    Inv X pins σ H' { s with heap := h', toks := t' } := by
  have hf : ∀ b o, s.heap.get? b = some o → H b = none → H' b = none := fun b o q n => by
    cases e : H' b with
    | none => rfl
    | some u => exact absurd q ((hn b u e n).1 o)
  refine I.un ⟨fun b u q _ _ _ => k b u q, fun b u q _ _ _ => ⟨u.slots, k b u q⟩, fun b u q n _ => hf b u q n, fun b u q _ => ⟨u, k b u q⟩, fun b xs q => hs b _ q, fun b o u q => hs b _ q, fun b ps q => ⟨#[], by rw [hs b _ q]; simp⟩⟩ fun b u e => ?_
  cases q : H b with
  | none => exact (hn b u e q).2
  | some v =>
    have e2 := hs b v q
    rw [e] at e2
    cases e2
    exact (I.hok b _ q).stay (fun c z _ r => k c z r) (fun c r => hs c _ r) fun c xs r => hs c _ r

def ItemsV (p d : Addr) : HO := .ext fun h => h.IsItemsView p d
def ValuesV (p d : Addr) : HO := .ext fun h => h.IsValuesView p d
theorem itemsV_ok {P : Program} {w : World} {h : Heap} {p d : Addr} (hv : h.IsItemsView p d) : ObjOk P w H h p (ItemsV p d) :=
  ⟨hv, (let ⟨o, ho, _⟩ := hv; ⟨o, ho⟩), fun h1 h2 ⟨o, ho, r⟩ k => ⟨o, k _ ho, r⟩⟩
theorem valuesV_ok {P : Program} {w : World} {h : Heap} {p d : Addr} (hv : h.IsValuesView p d) : ObjOk P w H h p (ValuesV p d) :=
  ⟨hv, (let ⟨o, ho, _⟩ := hv; ⟨o, ho⟩), fun h1 h2 ⟨o, ho, r⟩ k => ⟨o, k _ ho, r⟩⟩
theorem dk_at {a : Addr} {kvs : List (Key × V)} (I : Inv X pins σ H s) (e : H a = some (.dK kvs)) : kvs.length ≤ sizeLine ∧ (a == sysModules) = false ∧ ∃ vs ep, KV kvs vs ∧ s.heap.DictAt (mixKind X.prog X.w) a vs ep := by
  obtain ⟨z, hs, vs, rel, o, es, ep, r⟩ := dk_of I.hok e
  exact ⟨z, hs, vs, ep, rel, o, es, r⟩

def tItems (td : TE) : TE := fun σ H Q => td σ H fun x H1 => ∃ a kvs, x = .ref a ∧ H1 a = some (.dK kvs) ∧ ∀ p, H1 p = none → Q (.ref p) (upd H1 p (ItemsV p a))
theorem pe_items {l : Expr} {tl : TE} {apos cpos : Pos} (hl : PE X l tl) (hbase : attributeBase l "items" X.env (eval l X.env) = eval l X.env := by rfl) (hline : (apos.endLine == cpos.line) = true := by rfl) :
    PE X (.Call (.Attribute l "items" apos) [] [] cpos) (tItems tl) := by
  intro pins s σ H Q I h
  refine wpAny_Call_method0_late hbase hline (thn (hl pins s σ H _ I h) fun v s1 ⟨x, H1, I1, r1, a, kvs, ex, ea, q⟩ => ?_)
  subst ex
  cases r1
  obtain ⟨z, hs, vs, ep, rel, dat⟩ := dk_at I1 ea
  have hT : s1.TypeIs (.ref a) "dict" := dat.dictOf.typeIs
  obtain ⟨o, es, ho, hx, r⟩ := id dat
  refine ⟨"dict", "dict.items", PySem.F.plainAttrs_dict, PySem.F.slot_dict_items, PySem.F.type_dict_items, hT, (fun b e => by injection e with e; subst e; exact ⟨o, ho, hx.2.1⟩), ?_⟩
  refine Calls.callWith_builtin rfl (PySem.evalArgs_none ?_)
  refine call_meetsIn PySem.F.slot_dict_items hT PySem.F.entry_dict_items (PySem.F.args_dict_items_1 _) (meets_dict_items (mixKind X.prog X.w) a hs) ⟨⟨vs, dat.dictOf⟩, ?_⟩
  exact ⟨.ref s1.heap.objs.size, _, I1.laid (o := ItemsV s1.heap.objs.size a) (t' := s1.toks) (fun b o q => Heap.get?_push_of_some _ q) (Nat.le_refl _) (itemsV_ok ⟨_, Heap.get?_push_size _ rfl, rfl, rfl⟩), rfl, q _ (I1.hok.fresh (Nat.le_refl _))⟩

def tValues (td : TE) : TE := fun σ H Q => td σ H fun x H1 => ∃ a kvs, x = .ref a ∧ H1 a = some (.dK kvs) ∧ ∀ p, H1 p = none → Q (.ref p) (upd H1 p (ValuesV p a))
theorem pe_values {l : Expr} {tl : TE} {apos cpos : Pos} (hl : PE X l tl) (hbase : attributeBase l "values" X.env (eval l X.env) = eval l X.env := by rfl) (hline : (apos.endLine == cpos.line) = true := by rfl) :
    PE X (.Call (.Attribute l "values" apos) [] [] cpos) (tValues tl) := by
  intro pins s σ H Q I h
  refine wpAny_Call_method0_late hbase hline (thn (hl pins s σ H _ I h) fun v s1 ⟨x, H1, I1, r1, a, kvs, ex, ea, q⟩ => ?_)
  subst ex
  cases r1
  obtain ⟨z, hs, vs, ep, rel, dat⟩ := dk_at I1 ea
  have hT : s1.TypeIs (.ref a) "dict" := dat.dictOf.typeIs
  obtain ⟨o, es, ho, hx, r⟩ := id dat
  refine ⟨"dict", "dict.values", PySem.F.plainAttrs_dict, PySem.F.slot_dict_values, PySem.F.type_dict_values, hT, (fun b e => by injection e with e; subst e; exact ⟨o, ho, hx.2.1⟩), ?_⟩
  refine Calls.callWith_builtin rfl (PySem.evalArgs_none ?_)
  refine call_meetsIn PySem.F.slot_dict_values hT PySem.F.entry_dict_values (PySem.F.args_dict_values_1 _) (meets_dict_values (mixKind X.prog X.w) a hs) ⟨⟨vs, dat.dictOf⟩, ?_⟩
  exact ⟨.ref s1.heap.objs.size, _, I1.laid (o := ValuesV s1.heap.objs.size a) (t' := s1.toks) (fun b o q => Heap.get?_push_of_some _ q) (Nat.le_refl _) (valuesV_ok ⟨_, Heap.get?_push_size _ rfl, rfl, rfl⟩), rfl, q _ (I1.hok.fresh (Nat.le_refl _))⟩

theorem kv_vals : ∀ {κ : Type} {kvs : List (κ × V)} {vs : List (κ × Value)}, KV kvs vs → Vals (kvs.map (·.2)) (vs.map (·.2))
  | _, [], [], _ => .nil
  | _, _ :: _, _ :: _, .cons h t => .cons h.2 (kv_vals t)
def rListV : List V → Hp → VK → Prop := fun xs H Q => ∃ v a kvs, xs = [.ref v] ∧ H v = some (ValuesV v a) ∧ H a = some (.dK kvs) ∧ ∀ p, H p = none → Q (.ref p) (upd H p (.lst (kvs.map (·.2))))
theorem call_listV (hin : X.A.handled = none) : CallR X (.type "list") rListV := by
  intro pins s σ H xs us Q I r h
  obtain ⟨v, a, kvs, rfl, hv, ha, q⟩ := h
  obtain ⟨u, rfl, ru⟩ := vals1 r
  cases ru
  obtain ⟨z, hs, vs, ep, rel, dat⟩ := dk_at I ha
  have vw : s.heap.IsValuesView v a := (I.hok _ _ hv).1
  have hlen : vs.length = kvs.length := rel.length.symm
  refine kdl_call (kdl_values (knd := mixKind X.prog X.w) (kvs := vs) (ep := ep)) hin ⟨vw, dat⟩ (by omega) fun h' tk acc c hk hS hI => ?_
  have ev : acc.toList = vs.map (·.2) := kdl_vals_eq acc.toList (by rw [Array.length_toList, hI.1]) fun j w hj => hI.2 j w (by simpa using hj)
  have hl : (kvs.map (·.2)).length ≤ sizeLine := by rw [List.length_map]; exact z
  have hv2 := kv_vals rel
  rw [← ev] at hv2
  exact ⟨.ref s.heap.objs.size, _, I.laid (o := .lst (kvs.map (·.2))) (t' := tk) hk (Nat.le_refl _) ⟨hl, acc.toList, c, hv2, hS⟩, rfl, q _ (I.hok.fresh (Nat.le_refl _))⟩

def rDictD : List V → Hp → VK → Prop := fun xs H Q => ∃ a kvs, xs = [.ref a] ∧ H a = some (.dK kvs) ∧ ∀ p, H p = none → Q (.ref p) (upd H p (.dK kvs))
theorem call_dictD : CallR X (.type "dict") rDictD := by
  intro pins s σ H xs us Q I r h
  obtain ⟨a, kvs, rfl, ha, q⟩ := h
  obtain ⟨u, rfl, ru⟩ := vals1 r
  cases ru
  obtain ⟨z, hs, vs, rel, dd⟩ := dk_of I.hok ha
  have hlen : vs.length = kvs.length := rel.length.symm
  have low : (s.heap.objs.size == sysModules) = false := by
    obtain ⟨m, F⟩ := I.fr
    have h1 : sysModules < X.base.objs.size := modules_low I.mod.nolimit
    have h2 : X.base.objs.size ≤ X.env.locals := F.above
    have h3 : X.env.locals < s.heap.objs.size := F.ns.lt
    exact beq_eq_false_iff_ne.mpr (Nat.ne_of_gt (Nat.lt_trans (Nat.lt_of_lt_of_le h1 h2) h3))
  refine kt_call_dict (knd := mixKind X.prog X.w) hs dd (by omega) fun h' hd hb => ?_
  exact ⟨.ref s.heap.objs.size, _, I.laid (o := .dK kvs) (t' := s.toks) (fun b o e => hb.extBut _ _ (Nat.ne_of_lt (Heap.lt_size e)) (Heap.get?_push_of_some _ e)) (Nat.le_refl _) ⟨z, low, vs, rel, hd⟩, rfl, q _ (I.hok.fresh (Nat.le_refl _))⟩
end
end L2

namespace L2
open PySem PySem.Spec PyProof.Rows PySem.W

def ikv (kvs : List (Int × V)) : List (Key × V) := kvs.map fun p => (Sum.inl p.1, p.2)

def Items (H : Hp) (as : List Addr) (ys : List (Int × V)) : Prop := as.length = ys.length ∧ ∀ (j : Nat) (a : Addr) (y : Int × V), as[j]? = some a → ys[j]? = some y → H a = some (.tup [.int y.1, y.2])
theorem lookup_zip {α β : Type} [DecidableEq α] : ∀ {as : List α} {ys : List β} {j : Nat} {a : α} {y : β}, as.Nodup → as[j]? = some a → ys[j]? = some y → (as.zip ys).lookup a = some y
  | [], _, _, _, _, _, h, _ => by simp at h
  | _ :: _, [], _, _, _, _, _, h => by simp at h
  | x :: as, z :: ys, 0, a, y, _, h1, h2 => by
    have e1 : x = a := by simpa using h1
    have e2 : z = y := by simpa using h2
    subst e1 e2
    rw [List.zip_cons_cons, List.lookup_cons, beq_self_eq_true]
  | x :: as, z :: ys, j + 1, a, y, nd, h1, h2 => by
    have n1 := List.nodup_cons.mp nd
    have ha : as[j]? = some a := by simpa using h1
    have ne : (a == x) = false := by
      rw [beq_eq_false_iff_ne]
      intro e
      exact n1.1 (e ▸ List.mem_of_getElem? ha)
    rw [List.zip_cons_cons, List.lookup_cons, ne]
    exact lookup_zip n1.2 ha (by simpa using h2)
theorem lookup_mem {α β : Type} [DecidableEq α] : ∀ {as : List α} {ys : List β} {a : α} {y : β}, (as.zip ys).lookup a = some y → ∃ j : Nat, as[j]? = some a ∧ ys[j]? = some y
  | [], _, _, _, h => by simp at h
  | _ :: _, [], _, _, h => by simp at h
  | x :: as, z :: ys, a, y, h => by
    rw [List.zip_cons_cons, List.lookup_cons] at h
    cases e : a == x with
    | true =>
      rw [e] at h
      have : z = y := by simpa using h
      subst this
      exact ⟨0, by simp [eq_of_beq e], by simp⟩
    | false =>
      rw [e] at h
      obtain ⟨j, h1, h2⟩ := lookup_mem h
      exact ⟨j + 1, by simpa using h1, by simpa using h2⟩

def layT (H : Hp) (as : List Addr) (ys : List (Int × V)) (l : Addr) (o : HO) : Hp := fun b => if b = l then some o else match (as.zip ys).lookup b with
  | some y => some (.tup [.int y.1, y.2])
  | none => H b
theorem tups_of {h : Heap} : ∀ as : List Addr, (∀ a ∈ as, ∃ k t x, h.get? a = some { cls := .type "tuple", data := .seq #[Value.int k t, x] }) → ∃ fs, KatTups h (as.map Value.ref) fs ∧ fs.length = as.length ∧ ∀ v ∈ fs, ∃ k t, v = Value.int k t
  | [], _ => ⟨[], .nil, rfl, fun v hv => nomatch hv⟩
  | a :: as, ha => by
    obtain ⟨fs, t, hl, hf⟩ := tups_of as fun b hb => ha b (List.mem_cons_of_mem _ hb)
    obtain ⟨k, tk, x, e⟩ := ha a List.mem_cons_self
    exact ⟨.int k tk :: fs, .cons e rfl rfl rfl t, by rw [List.length_cons, hl, List.length_cons], fun v hv => by
      rcases List.mem_cons.mp hv with rfl | hv
      · exact ⟨k, tk, rfl⟩
      · exact hf v hv⟩
def rSortI : List V → Hp → VK → Prop := fun xs H Q => ∃ v a kvs, xs = [.ref v] ∧ H v = some (ItemsV v a) ∧ H a = some (.dK (ikv kvs)) ∧ kvs.length < 64 ∧
  ∀ (l : Addr) (as : List Addr) (ys : List (Int × V)) (H' : Hp), (∀ b u, H b = some u → H' b = some u) → H l = none → H' l = some (.lst (as.map V.ref)) → ys.Perm kvs → ys.Pairwise (fun x y => x.1 < y.1) → Items H' as ys → Q (.ref l) H'
theorem vals_refs : ∀ as : List Addr, Vals (as.map V.ref) (as.map Value.ref)
  | [] => .nil
  | _ :: r => .cons rfl (vals_refs r)
set_option maxHeartbeats 4000000 in
theorem call_sortI {X : Cx} (hin : X.A.handled = none) : CallR X (.builtin "sorted") rSortI := by
  intro pins s σ H xs us Q I r h
  obtain ⟨v, a, kvs, rfl, hv, ha, h64, q⟩ := h
  obtain ⟨u, rfl, ru⟩ := vals1 r
  cases ru
  obtain ⟨z, hs, vs, ep, rel, dat⟩ := dk_at I ha
  have vw : s.heap.IsItemsView v a := (I.hok _ _ hv).1
  have hlk : (ikv kvs).length = kvs.length := List.length_map _
  have hlen : vs.length = kvs.length := by rw [← hlk]; exact rel.length.symm
  have nd : (vs.map (·.1)).Nodup := by
    obtain ⟨_, _, _, _, _, _, _, hn⟩ := dat
    exact hn
  refine sorted_by (kdx_collect (knd := mixKind X.prog X.w) (E := fun _ _ => False) hin vw dat (by rw [hlen]; omega) fun h1 tk as hk hl hG => ?_)
  -- the pairs, by their places
  have at_ : ∀ (j : Nat) (b : Addr), as[j]? = some b → ∃ k x t u, kvs[j]? = some (k, x) ∧ RelV x u ∧ vs[j]? = some (.inl k, u) ∧ h1.get? b = some { cls := .type "tuple", data := .seq #[Value.int k t, u] } := by
    intro j b hb
    obtain ⟨key, k, u, e1, e2, e3⟩ := hG.pairs j b hb
    have hj : j < kvs.length := by rw [← hlen]; exact (List.getElem?_eq_some_iff.mp e1).1
    obtain ⟨u', hu', ru'⟩ := rel.at (show (ikv kvs)[j]? = some (Sum.inl (kvs[j]).1, (kvs[j]).2) by
      unfold ikv
      rw [List.getElem?_map, List.getElem?_eq_getElem hj]; rfl)
    rw [e1] at hu'
    have e4 : k = Sum.inl (kvs[j]).1 ∧ u = u' := by simpa using hu'
    obtain ⟨rfl, rfl⟩ := e4
    obtain ⟨t, rfl⟩ : ∃ t, key = Value.int (kvs[j]).1 t := is_kV e2
    exact ⟨_, _, t, u, List.getElem?_eq_getElem hj, ru', e1, e3⟩
  have asN : as.Nodup := hG.rise.imp fun h => Nat.ne_of_lt h
  have hlv : (as.map Value.ref).length = kvs.length := by rw [List.length_map, hl, hlen]
  refine ⟨by rw [hlv]; exact h64, fun i j => decide ((kvs.getD i (0, .non)).1 < (kvs.getD j (0, .non)).1), tuples' true, ?_, fun h2 s' R hk' hR => ?_, fun i j s' C hi hj hij hk' hC => ?_, fun p tk2 h2 e hP hU hk' hS => ?_⟩
  · rw [hlv]
    refine ⟨fun i j k _ _ _ a b => ?_, fun i j hi hj hij c => ?_⟩
    · have a' := of_decide_eq_true a
      have b' := of_decide_eq_true b
      exact decide_eq_true (Int.lt_trans a' b')
    · have c' := of_decide_eq_false c
      refine decide_eq_true ?_
      have hne : (kvs.getD i (0, .non)).1 ≠ (kvs.getD j (0, .non)).1 := by
        intro e
        have e1 : kvs.getD i (0, .non) = kvs[i] := by rw [List.getD_eq_getElem?_getD, List.getElem?_eq_getElem hi]; rfl
        have e2 : kvs.getD j (0, .non) = kvs[j] := by rw [List.getD_eq_getElem?_getD, List.getElem?_eq_getElem hj]; rfl
        rw [e1, e2] at e
        have key : ∀ m (hm : m < kvs.length), (vs.map (·.1))[m]? = some (Sum.inl (kvs[m]).1) := fun m hm => by
          have hm' : m < as.length := by omega
          obtain ⟨k, x, t, u, g1, _, g2, _⟩ := at_ m as[m] (List.getElem?_eq_getElem hm')
          rw [List.getElem?_eq_getElem hm] at g1
          have : kvs[m] = (k, x) := by simpa using g1
          rw [List.getElem?_map, g2, this]; rfl
        have pw := List.pairwise_iff_getElem.mp nd
        have li : i < (vs.map (·.1)).length := by rw [List.length_map, hlen]; exact hi
        have lj : j < (vs.map (·.1)).length := by rw [List.length_map, hlen]; exact hj
        have ki := key i hi
        have kj := key j hj
        rw [List.getElem?_eq_getElem li] at ki
        rw [List.getElem?_eq_getElem lj] at kj
        have hee : (vs.map (·.1))[i] = (vs.map (·.1))[j] := by rw [Option.some.inj ki, Option.some.inj kj, e]
        rcases Nat.lt_or_gt_of_ne hij with g | g
        · exact pw i j li lj g hee
        · exact pw j i lj li g hee.symm
      omega
  · obtain ⟨fs, t, hlf, hf⟩ := tups_of (h := s'.heap) as fun b hb => by
      obtain ⟨j, hj⟩ := List.mem_iff_getElem?.mp hb
      obtain ⟨k, x, t, u, _, _, _, g⟩ := at_ j b hj
      exact ⟨k, t, u, hk' _ _ g⟩
    have hz : 0 < fs.length := by rw [hlf]; rw [List.length_map] at h2; omega
    refine kat_kind (T := Value.type "int") t hz (fun w hw => ?_) (by rfl) ?_
    · obtain ⟨k, tk', rfl⟩ := hf w hw
      exact fun A Q E s _ q => wpAny_pure q
    · exact hR
  · rw [hlv] at hi hj
    have hi' : i < as.length := by omega
    have hj' : j < as.length := by omega
    obtain ⟨k1, x1, t1, u1, a1, _, _, g1⟩ := at_ i as[i] (List.getElem?_eq_getElem hi')
    obtain ⟨k2, x2, t2, u2, a2, _, _, g2⟩ := at_ j as[j] (List.getElem?_eq_getElem hj')
    have b1 : (as.map Value.ref).getD i Value.none = Value.ref as[i] := by rw [List.getD_eq_getElem?_getD, List.getElem?_map, List.getElem?_eq_getElem hi']; rfl
    have b2 : (as.map Value.ref).getD j Value.none = Value.ref as[j] := by rw [List.getD_eq_getElem?_getD, List.getElem?_map, List.getElem?_eq_getElem hj']; rfl
    have c1 : kvs.getD i (0, .non) = (k1, x1) := by rw [List.getD_eq_getElem?_getD, a1]; rfl
    have c2 : kvs.getD j (0, .non) = (k2, x2) := by rw [List.getD_eq_getElem?_getD, a2]; rfl
    have hne : k1 ≠ k2 := by
      intro e
      have nd' := List.pairwise_iff_getElem.mp nd
      obtain ⟨_, _, _, _, p1, _, p2, _⟩ := at_ i as[i] (List.getElem?_eq_getElem hi')
      obtain ⟨_, _, _, _, p3, _, p4, _⟩ := at_ j as[j] (List.getElem?_eq_getElem hj')
      rw [a1] at p1
      rw [a2] at p3
      cases p1
      cases p3
      have li : i < (vs.map (·.1)).length := by rw [List.length_map, hlen]; exact hi
      have lj : j < (vs.map (·.1)).length := by rw [List.length_map, hlen]; exact hj
      have ki : (vs.map (·.1))[i]? = some (Sum.inl k1) := by rw [List.getElem?_map, p2]; rfl
      have kj : (vs.map (·.1))[j]? = some (Sum.inl k2) := by rw [List.getElem?_map, p4]; rfl
      rw [List.getElem?_eq_getElem li] at ki
      rw [List.getElem?_eq_getElem lj] at kj
      have hee : (vs.map (·.1))[i] = (vs.map (·.1))[j] := by rw [Option.some.inj ki, Option.some.inj kj, e]
      rcases Nat.lt_or_gt_of_ne hij with g | g
      · exact nd' i j li lj g hee
      · exact nd' j i lj li g hee.symm
    rw [b1, b2]
    refine kat_lt (hk' _ _ g1) rfl (hk' _ _ g2) rfl ?_
    refine kat_cons (wpAny_eqBool_int ?_)
    have hb : (k1 == k2) = false := by rw [beq_eq_false_iff_ne]; exact hne
    rw [hb]
    refine kat_no (oneLt_int ?_)
    have g := hC s'.toks
    dsimp only at g
    rw [c1, c2] at g
    exact g
  · rw [hlv] at hP hU
    have hpl : p.toList.length = kvs.length := by rw [Array.length_toList]; exact hP.size
    have hpi : ∀ m, m < kvs.length → ∃ i, p.toList[m]? = some i ∧ i < kvs.length ∧ i = pat p m := fun m hm => by
      have hm' : m < p.toList.length := by omega
      refine ⟨p.toList[m], List.getElem?_eq_getElem hm', ?_, ?_⟩
      · have := hP.lt hm
        unfold pat at this
        rw [Array.getD, dif_pos (by rw [hP.size]; exact hm)] at this
        simpa using this
      · unfold pat
        rw [Array.getD, dif_pos (by rw [hP.size]; exact hm)]
        simp
    have hout : (p.toList.map fun i => (as.map Value.ref).getD i Value.none) = (p.toList.map fun i => as.getD i 0).map Value.ref := by
      rw [List.map_map]
      refine List.map_congr_left fun i hi => ?_
      obtain ⟨m, hm⟩ := List.mem_iff_getElem?.mp hi
      obtain ⟨i', g1, g2, _⟩ := hpi m (by have := (List.getElem?_eq_some_iff.mp hm).1; omega)
      rw [hm] at g1
      cases g1
      have hi' : i < as.length := by omega
      show (as.map Value.ref).getD i Value.none = Value.ref (as.getD i 0)
      rw [List.getD_eq_getElem?_getD, List.getElem?_map, List.getElem?_eq_getElem hi', List.getD_eq_getElem?_getD, List.getElem?_eq_getElem hi']; rfl
    rw [hout] at hS
    have lsz : ∀ b ∈ as, b < h1.objs.size := fun b hb => hG.there hb
    have up : ∀ b ∈ as, s.heap.objs.size ≤ b := fun b hb => Nat.le_of_lt (hG.above b hb)
    have gl : ∀ o, s.heap.get? h1.objs.size ≠ some o := fun o e => absurd (Heap.lt_size (hk _ _ e)) (Nat.lt_irrefl _)
    have gu : ∀ b ∈ as, ∀ o, s.heap.get? b ≠ some o := fun b hb o e => absurd (Nat.lt_of_lt_of_le (Heap.lt_size e) (up b hb)) (Nat.lt_irrefl _)
    have hLn : H h1.objs.size = none := by
      cases e : H h1.objs.size with
      | none => rfl
      | some u =>
        obtain ⟨ob, e2⟩ := (I.hok _ _ e).obj
        exact absurd e2 (gl ob)
    have hNl : ∀ b ∈ as, b ≠ h1.objs.size := fun b hb => Nat.ne_of_lt (lsz b hb)
    let H2 : Hp := layT H as kvs h1.objs.size (.lst ((p.toList.map fun i => as.getD i 0).map V.ref))
    have old : ∀ b u, H b = some u → H2 b = some u := fun b u e => by
      obtain ⟨ob, eb⟩ := (I.hok _ _ e).obj
      show (if b = h1.objs.size then _ else _) = _
      rw [if_neg (show ¬ b = h1.objs.size from fun z => gl ob (by rw [← z]; exact eb))]
      cases g : (as.zip kvs).lookup b with
      | none => exact e
      | some y =>
        obtain ⟨j, g1, _⟩ := lookup_mem g
        exact absurd eb (gu b (List.mem_of_getElem? g1) ob)
    have tup : ∀ (j : Nat) (b : Addr) (y : Int × V), as[j]? = some b → kvs[j]? = some y → H2 b = some (.tup [.int y.1, y.2]) := fun j b y g1 g2 => by
      show (if b = h1.objs.size then _ else _) = _
      rw [if_neg (hNl b (List.mem_of_getElem? g1)), lookup_zip asN g1 g2]
    refine ⟨.ref h1.objs.size, H2, I.laidL (t' := tk2) H2 (fun b u g => hk' b u (hk b u g)) old (fun b u e n => ?_), rfl, ?_⟩
    · have e' : (if b = h1.objs.size then some (HO.lst ((p.toList.map fun i => as.getD i 0).map V.ref)) else match (as.zip kvs).lookup b with | some y => some (.tup [.int y.1, y.2]) | none => H b) = some u := e
      by_cases hb : b = h1.objs.size
      · rw [if_pos hb] at e'
        cases e'
        subst hb
        refine ⟨gl, ?_, _, _, vals_refs _, hS⟩
        rw [List.length_map, List.length_map, hpl, sizeLine_eq]; omega
      · rw [if_neg hb] at e'
        cases g : (as.zip kvs).lookup b with
        | none => rw [g] at e'; rw [n] at e'; cases e'
        | some y =>
          rw [g] at e'
          cases e'
          obtain ⟨j, g1, g2⟩ := lookup_mem g
          obtain ⟨k, x, t, u, a1, ru, _, g3⟩ := at_ j b g1
          rw [g2] at a1
          cases a1
          exact ⟨gu b (List.mem_of_getElem? g1), (by show 2 ≤ sizeLine; decide), [Value.int k t, u], .cons ⟨t, rfl⟩ (.cons ru .nil), ⟨_, hk' _ _ g3, rfl, _, rfl⟩⟩
    · refine q h1.objs.size (p.toList.map fun i => as.getD i 0) (p.toList.map fun i => kvs.getD i (0, .non)) H2 old hLn ?_ ?_ ?_ ⟨by rw [List.length_map, List.length_map], fun j b y g1 g2 => ?_⟩
      · show (if h1.objs.size = h1.objs.size then _ else _) = _
        rw [if_pos rfl]
      · have e1 : ((List.range kvs.length).map fun i => kvs.getD i (0, .non)) = kvs := by
          apply List.ext_getElem
          · simp
          · intro i g1 g2
            simp only [List.getElem_map, List.getElem_range]
            rw [List.getD_eq_getElem?_getD, List.getElem?_eq_getElem g2]; rfl
        have g := (Array.perm_iff_toList_perm.mp hP).map fun i => kvs.getD i ((0 : Int), V.non)
        rw [show (List.range kvs.length).toArray.toList = List.range kvs.length from rfl, e1] at g
        exact g
      · rw [List.pairwise_iff_getElem]
        intro i j g1 g2 g3
        rw [List.length_map, hpl] at g1 g2
        have := hU i j g3 g2
        have c := of_decide_eq_true this
        obtain ⟨i', w1, _, w3⟩ := hpi i g1
        obtain ⟨j', w4, _, w6⟩ := hpi j g2
        have l1 : i < p.toList.length := by omega
        have l2 : j < p.toList.length := by omega
        rw [List.getElem?_eq_getElem l1] at w1
        rw [List.getElem?_eq_getElem l2] at w4
        rw [← w3, ← w6] at c
        simp only [List.getElem_map]
        rw [Option.some.inj w1, Option.some.inj w4]
        exact c
      · rw [List.getElem?_map] at g1 g2
        obtain ⟨i, w1, w2⟩ := Option.map_eq_some_iff.mp g1
        rw [w1] at g2
        have hj : j < kvs.length := by have := (List.getElem?_eq_some_iff.mp w1).1; omega
        obtain ⟨i', w3, w4, _⟩ := hpi j hj
        rw [w1] at w3
        cases w3
        have e1 : kvs.getD i (0, .non) = y := by simpa using g2
        have ei : i < as.length := by omega
        refine tup i b y ?_ ?_
        · rw [← w2, List.getD_eq_getElem?_getD, List.getElem?_eq_getElem ei]; rfl
        · rw [← e1, List.getD_eq_getElem?_getD, List.getElem?_eq_getElem w4]; rfl
end L2

namespace L2
open PySem
open AutoSeq1 (wpAny_loadPart')
theorem meets_enum_from (l : Addr) (items : Array Value) (n : Nat) (dct : Option Addr) (sl : Array (Option Value)) (c : Int) (tc : Tok) (hf : Builtin.SmallTypes.fitsIndex c = true) :
    Meets (Builtin.«enumerate.__new__» ⟨[.type "enumerate", .ref l], [(Str.ofString "start", .int c tc)]⟩) (fun _ R s => s.heap.get? l = some { cls := .type "list", dict := dct, data := .seq items n, slots := sl } ∧
      R (.ok (.ret (.ref (s.heap.push { cls := .type "list_iterator", data := .fields #[.ref l, .int 0 0] }).objs.size)))
        { s with heap := (s.heap.push { cls := .type "list_iterator", data := .fields #[.ref l, .int 0 0] }).push { cls := .type "enumerate", data := .fields #[.none, .bool false, .ref s.heap.objs.size, rawInt c, .none, .none] } }) :=
  .of_wp fun prog w A R s h => by
    obtain ⟨hp, g, d, tk, os⟩ := s; obtain ⟨hl, h⟩ := h
    have hsb := sub_enumerate
    have hq : Heap.IsList (Shared.heap ⟨hp, g, d, tk, os⟩) l items := ⟨_, hl, rfl, n, rfl⟩
    wp_walk using wpAny_loadPart' hl
    refine wpAny_stack_any fun fr => wpAny_pure ?_
    split
    · rename_i cc _ _ _ _ _
      cases (cc == Value.type "enumerate")
      · wp_walk using wpAny_loadPart' hl, wpAny_pyIter_list hq
        exact ⟨_, rfl, h⟩
      · wp_walk using wpAny_loadPart' hl, wpAny_pyIter_list hq
        exact ⟨_, rfl, h⟩
    · wp_walk using wpAny_loadPart' hl, wpAny_pyIter_list hq
      exact ⟨_, rfl, h⟩

def stN : Str := Str.ofString "start"
theorem en_type (a v : Value) : checkTypeCall "enumerate" ⟨[a], [(stN, v)]⟩ = pure () := by kernel_rfl
theorem en_new (a v : Value) : checkBuiltinCall "enumerate.__new__" ⟨[.type "enumerate", a], [(stN, v)]⟩ = pure () := by kernel_rfl
theorem en_init (o a v : Value) : argsOk "object.__init__" ⟨[o, a], [(stN, v)]⟩ := by unfold argsOk; kernel_rfl
theorem en_obj {o a v : Value} : Meets (Builtin.«object.__init__» ⟨[o, a], [(stN, v)]⟩) (fun _ R s => s.TypeIs o "enumerate" ∧ R (.ok (.ret .none)) s) := by
  refine Meets.of_wp fun prog w A R s hs => ?_
  obtain ⟨hT, hq⟩ := hs
  have hl := (F.called_enumerate).init.lookup
  have hm := (F.called_enumerate).made
  have hne : (some "enumerate.__new__" != some "object.__new__") = true := by decide
  repeat (any_goals (first | assumption | wp_step))
  exact ⟨_, rfl, hq⟩
section
variable {prog : Program} {w : World} {A : Around} {E : Value → Shared → Prop} {s : Shared}
theorem call_enum_from {l : Addr} {items : Array Value} {c : Int} {tc : Tok} {Q : Value → Shared → Prop} (hL : s.heap.IsList l items) (hf : Builtin.SmallTypes.fitsIndex c = true)
    (k : ∀ h', IsEnum h' (s.heap.objs.size + 1) s.heap.objs.size c .none → h'.IsListIter s.heap.objs.size l 0 → (∀ b o, s.heap.get? b = some o → h'.get? b = some o) → Q (.ref (s.heap.objs.size + 1)) { s with heap := h' }) :
    wpAny (model prog w) A (call (.type "enumerate") [.ref l] [(stN, .int c tc)]) Q E s := by
  obtain ⟨⟨cl, dct, dt, sl⟩, hl, hc, n, hd⟩ := hL
  obtain rfl : cl = .type "list" := hc
  obtain rfl : dt = .seq items n := hd
  have ft := F.called_enumerate
  obtain ⟨c0, tl, hmro⟩ := ft.mro
  have hmade := ft.made
  have hsub := ft.sub
  have hct := en_type (.ref l) (.int c tc)
  refine wpAny_call (codeAny_of_tree (show wpAny _ _ (callAny (.type "enumerate") _) _ _ _ from ?_))
  refine wpAny_pure ⟨Code.quiet_builtin _ (by decide +kernel), codeAny_builtin F.entry_type_call ?_⟩
  rw [Around.under_plain (weight_type_call_type "enumerate" [.ref l] [(stN, .int c tc)]) (units_type_call_type "enumerate" [.ref l] [(stN, .int c tc)])]
  have hnt := ft.notType
  have hcc := ft.canCreate
  repeat (any_goals (first | assumption | wp_step))
  refine codeAny_mono (codeAny_call_builtin ft.plain F.entry_enumerate_new (wpAny_of_eq (en_new (.ref l) (.int c tc)) (meets_enum_from l items n dct sl c tc hf prog w A.in1 (wants (fun obj s1 => s1.TypeIs obj "enumerate" ∧ Q obj s1) E) s ⟨hl, ?_⟩))) fun r s1 hr => ?_
  · have hz : (s.heap.push { cls := .type "list_iterator", data := .fields #[.ref l, .int 0 0] }).objs.size = s.heap.objs.size + 1 := Heap.size_push ..
    show _ ∧ _
    rw [hz]
    have he : IsEnum ((s.heap.push { cls := .type "list_iterator", data := .fields #[.ref l, .int 0 0] }).push { cls := .type "enumerate", data := .fields #[.none, .bool false, .ref s.heap.objs.size, rawInt c, .none, .none] }) (s.heap.objs.size + 1) s.heap.objs.size c .none := by
      have g := Heap.get?_push_size (s.heap.push { cls := .type "list_iterator", data := .fields #[.ref l, .int 0 0] }) (o := { cls := .type "enumerate", data := .fields #[.none, .bool false, .ref s.heap.objs.size, rawInt c, .none, .none] }) rfl
      rw [hz] at g; exact g
    exact ⟨⟨_, he, rfl⟩, k _ he ⟨_, Heap.get?_push_of_some _ (Heap.get?_push_size _ rfl), rfl, rfl⟩ fun b o x => Heap.get?_push_of_some _ (Heap.get?_push_of_some _ x)⟩
  cases r with
  | error e => exact hr
  | ok fl =>
    cases fl with
    | ret obj =>
      obtain ⟨hT, hQ⟩ := hr
      have hli := ft.init.lookup
      have hbi := ft.init.bind obj
      repeat (any_goals (first | assumption | wp_step))
      refine codeAny_mono (codeAny_call_builtin ft.init.plain F.entry_object_init (ft.init.check _ _ _ _ _ _ _ _ hT (en_init obj (.ref l) (.int c tc)) (en_obj prog w A.in1 (wants (fun r s2 => r = .none ∧ Q obj s2) E) s1 ⟨hT, rfl, hQ⟩))) fun r2 s2 hr2 => ?_
      cases r2 with
      | error e => exact hr2
      | ok f2 =>
        cases f2 with
        | ret r =>
          obtain ⟨rfl, hq⟩ := hr2
          repeat (any_goals (first | assumption | wp_step))
        | _ => exact hr2.elim
    | _ => exact hr.elim
end
end L2

namespace L2
open PySem PySem.Spec PyProof.Rows PySem.W

theorem draws_shift {prog : Program} {w : World} {A : Around} {it : Addr} {fp : List Addr} {n : Nat} {P : Nat → Value → Prop} {St : Nat → Heap → Prop} (D : Draws prog w A it fp n P St) (c : Nat) :
    Draws prog w A it fp (n + c) (fun i v => P (i - c) v) (fun i h => c ≤ i ∧ St (i - c) h) where
  live := fun i h ⟨_, st⟩ => D.live _ h st
  frame := fun i h h' ⟨z, st⟩ k => ⟨z, D.frame _ h h' st k⟩
  item := fun i s Q E hi ⟨z, st⟩ hQ => D.item (i - c) s Q E (by omega) st fun x h' tk p st' sb => hQ x h' tk p ⟨by omega, by rw [show i + 1 - c = i - c + 1 by omega]; exact st'⟩ sb
  done := fun s Q E ⟨z, st⟩ hE => D.done s Q E (by rw [show n + c - c = n by omega] at st; exact st) hE
def Itf (K : PySem.W.Frag) (l : Addr) (c : Nat) : It := ⟨fun i H => ∃ xs x, SqL K H l xs ∧ xs[i]? = some x, fun i H v H' => ∃ p x, (∀ xs, SqL K H l xs → xs[i]? = some x) ∧ v = .ref p ∧ H p = none ∧ H' = upd H p (.tup [.int ((c + i : Nat) : Int), x]), fun i H => ∃ xs, SqL K H l xs ∧ xs.length ≤ i⟩
theorem turn_from {P : Program} {w : World} {K : PySem.W.Frag} {elts : List Expr} {x1 : Nat} {tp : Pos} {e it l : Addr} {c : Nat} (hne : e ≠ it) :
    Turn P w K (.Tuple elts x1 tp) (Itf K l c) [e, it] e (fun i h => (∃ old, IsEnum h e it ((c + i : Nat) : Int) old) ∧ h.IsListIter it l i) where
  mem := by simp
  obj := fun i h ⟨⟨old, he⟩, ⟨o, ho, hc, hd⟩⟩ b hb => by
    simp only [List.mem_cons, List.not_mem_nil, or_false] at hb
    rcases hb with rfl | rfl
    · exact ⟨_, he, fun v z => by cases z⟩
    · exact ⟨o, ho, fun v z => by rw [hd] at z; cases z⟩
  keep := fun i h h' ⟨⟨old, he⟩, ⟨o, ho, r⟩⟩ k => ⟨⟨old, k e (by simp) _ he⟩, ⟨o, k it (by simp) o ho, r⟩⟩
  item := by
    intro X hP hw hK hc i pins s σ H E I hf ⟨⟨old, he⟩, st⟩ ⟨xs, x, hq, hx⟩
    subst hP hw hK
    obtain ⟨its, rv, p, _⟩ := I.list hq
    have nl := sqL_notin I hf hq
    obtain ⟨u, hu, ru⟩ := rv.get hx
    have nle : l ≠ e := fun z => nl (by simp [z])
    have nli : l ≠ it := fun z => nl (by simp [z])
    have hi : i < its.length := (List.getElem?_eq_some_iff.mp hu).1
    refine wpAny_pyNext_enum_itemD (draws_shift (Draws.list (prog := X.prog) (w := X.w) (A := X.A.in1) (I.ok.hd hc) it l nli its.toArray) c) he ⟨by omega, by rw [show c + i - c = i by omega]; exact ⟨st, p.isList⟩⟩ (by rw [List.size_toArray]; omega) hne (by simp [hne, Ne.symm nle]) fun v h' tk hP ho st' hT hsz hk => ⟨_, rfl, ?_⟩
    have hv : v = u := by
      have : its.toArray[c + i - c]? = some v := hP
      rw [show c + i - c = i by omega] at this
      rw [show its.toArray[i]? = its[i]? by simp, hu] at this
      exact (Option.some.inj this).symm
    subst hv
    refine wpAny_letOwnedTupleGo_enum ho fun h2 he2 sb => ?_
    have helt : e < s.heap.objs.size := Heap.lt_size he
    obtain ⟨oit, hoit, _⟩ := id st
    have hilt : it < s.heap.objs.size := Heap.lt_size hoit
    have hT2 : h2.get? s.heap.objs.size = some { cls := .type "tuple", data := .seq #[.int ((c + i : Nat) : Int) tk, v] } := sb.extBut _ _ (Nat.ne_of_gt helt) hT
    have kk : ∀ b o, b ∉ [e, it] → s.heap.get? b = some o → h2.get? b = some o := fun b o hb q => by
      simp only [List.mem_cons, List.not_mem_nil, or_false, not_or] at hb
      exact sb.extBut _ _ hb.1 (hk b o hb.1 hb.2 q)
    refine ⟨.ref s.heap.objs.size, upd H s.heap.objs.size (.tup [.int ((c + i : Nat) : Int), x]), I.turnLay (t' := tk + 1) hf kk (Nat.le_refl _) ⟨small1000 (by simp) |> Nat.le_of_lt, [.int ((c + i : Nat) : Int) tk, v], .cons ⟨tk, rfl⟩ (.cons ru .nil), ⟨_, hT2, rfl, _, rfl⟩⟩, rfl, ⟨_, x, fun ys hy => by rw [I.list_inj hy hq]; exact hx, rfl, I.fresh, rfl⟩, ⟨⟨_, he2⟩, ?_⟩, fun b hb => ?_⟩
    · obtain ⟨_, ⟨o, ho', r⟩, _⟩ := st'
      rw [show c + i + 1 - c = i + 1 by omega] at r
      exact ⟨o, sb.extBut _ _ (Ne.symm hne) ho', r⟩
    · simp only [List.mem_cons, List.not_mem_nil, or_false] at hb
      rcases hb with rfl | rfl
      · rw [upd_ne (Nat.ne_of_lt helt)]; exact (hf _ (by simp)).1
      · rw [upd_ne (Nat.ne_of_lt hilt)]; exact (hf _ (by simp)).1
  done := by
    intro X hP hw hK hc i pins s σ H E I hf ⟨⟨old, he⟩, st⟩ ⟨xs, hq, hx⟩
    subst hP hw hK
    obtain ⟨its, rv, p, _⟩ := I.list hq
    have nl := sqL_notin I hf hq
    have nli : l ≠ it := fun z => nl (by simp [z])
    have hlen := rv.length
    have hno : its.toArray[i]? = none := by simp; omega
    have D : Draws X.prog X.w X.A.in1 it [it, l] 0 (fun _ _ => True) (fun _ h => h.IsListIter it l i ∧ h.IsList l its.toArray) :=
      { live := fun _ _ z => let ⟨o, ho, _⟩ := z.1; ⟨o, ho⟩
        frame := fun _ _ _ z hk => ⟨z.1.at fun o e => hk it (by simp) o e, z.2.at fun o e => hk l (by simp) o e⟩
        item := fun _ _ _ _ z => absurd z (Nat.not_lt_zero _)
        done := fun s Q E z hE => wpAny_nextOf_list_end (I.ok.hd hc) z.1 z.2 hno hE }
    exact wpAny_pyNext_enum_endD D he ⟨st, p.isList⟩ fun h' eb => ⟨rfl, I.turnedL (t' := s.toks) hf fun b o hb q => eb b o (fun z => hb (by simp [z])) q⟩
  self := fun A i s Q E ⟨⟨old, he⟩, _⟩ h => wpAny_pyIter_enum he h
end L2

namespace L2
open PySem PySem.Spec PyProof.Rows PySem.W
section
variable {M : Model} {A : Around} {E : Value → Shared → Prop} {s : Shared} {env : Env}
theorem callWith_tyK {pos : Pos} {T : String} {e : Expr} {rest : List Expr} {kws : List Keyword} {Q : Value → Shared → Prop}
    (h : wpAny M A (spliced (backTo pos (starEach (e :: rest) env))) (fun vs s1 => wpAny M A (evalAll ((backToKw pos (keywordEach kws env)).map (·.2))) (fun kvs s2 => wpAny M A (call (.type T) vs (((backToKw pos (keywordEach kws env)).filterMap (·.1)).zip kvs)) Q E s2) E s1) E s)
    (he : backTo pos (starEach (e :: rest) env) = (false, eval e env) :: backTo pos (starEach rest env)) (hp : (backTo pos (starEach (e :: rest) env)).any (·.1) = false)
    (ha : (backToKw pos (keywordEach kws env)).all (·.1.isSome) = true) (hk : (backToKw pos (keywordEach kws env)).any (·.1.isNone) = false) :
    wpAny M A (callWith pos (.type T) [] (backTo pos (starEach (e :: rest) env)) (backToKw pos (keywordEach kws env))) Q E s := by
  have g : wpAny M A (evalArgs (.type T) true (backTo pos (starEach (e :: rest) env)) (backToKw pos (keywordEach kws env))) (fun a s1 => wpAny M A (call (.type T) ([] ++ a.pos) a.kw) Q E s1) E s := by
    rw [he] at h ⊢
    exact evalArgs_kwB ha h
  unfold callWith
  refine wpAny_bind (wpAny_holding (wpAny_mono g (fun a s1 h1 => wpAny_bind (wpAny_standAt ?_)) fun _ _ z => z))
  simp only [hp, hk, Bool.or_false]
  exact wpAny_bind (wpAny_pure (wpAny_bind (wpAny_mono h1 (fun r s2 hr => wpAny_bind (wpAny_holding (wpAny_point (wpAny_pure hr)))) fun _ _ z => z)))
end
section
variable {X : Cx}
def iEnumF (K : PySem.W.Frag) (ta : TA) (tb : TE) : TI := fun σ H R => ta σ H fun vs H1 => tb σ H1 fun y H2 => ∃ (l : Addr) (xs : List V) (c : Nat), vs = [.ref l] ∧ y = .int (c : Int) ∧ c < 2 ^ 62 ∧ SqL K H2 l xs ∧ R (Itf K l c) H2
theorem pi_enumF {elts : List Expr} {x1 : Nat} {tp : Pos} {a b : Expr} {ta : TA} {tb : TE} {p pos kpos : Pos} (hg : Gl X "enumerate") (hm : X.mg "enumerate" = none) (ha : PA X [a] ta) (hb : PE X b tb) (hs : starEach [a] X.env = [(false, eval a X.env)] := by rfl) :
    PI X (.Tuple elts x1 tp) (.Call (.Name "enumerate" p) [a] [⟨some (Str.ofString "start"), b, kpos⟩] pos) (iEnumF X.K ta tb) := by
  intro pins s σ H R I h
  refine wpAny_Call_Name_kw (ld_blt I hg hm bt_enumerate (callWith_tyK (thn (ha pos pins s σ H _ I h) fun us s1 ⟨vs, H1, I1, r1, q1⟩ => thn (pk_cons hb pk_nil pos pins s1 σ H1 (fun zs H2 => match zs with | [y] => ∃ (l : Addr) (xs : List V) (c : Nat), vs = [.ref l] ∧ y = .int (c : Int) ∧ c < 2 ^ 62 ∧ SqL X.K H2 l xs ∧ R (Itf X.K l c) H2 | _ => False) I1 q1) fun ws s2 ⟨zs, H2, I2, r2, q2⟩ => ?_) (by rw [hs]; rfl) (by rw [hs]; rfl) (by rfl) (by rfl)))
  match zs, r2, q2 with
  | [y], r2, q2 =>
    obtain ⟨l, xs, c, rfl, rfl, hc, hq, q⟩ := q2
    obtain ⟨u, rfl, ru⟩ := vals1 r1
    cases ru
    obtain ⟨w, rfl, rw'⟩ := vals1 r2
    obtain ⟨tc, rfl⟩ := rw'
    obtain ⟨its, rv, pl, _⟩ := I2.list hq
    show wpAny _ _ (call (.type "enumerate") [.ref l] [(stN, .int c tc)]) _ _ s2
    refine call_enum_from pl.isList (by
      unfold Builtin.SmallTypes.fitsIndex
      rw [Bool.and_eq_true]
      exact ⟨decide_eq_true (by omega), decide_eq_true (by omega)⟩) fun h' he hit hk => wpAny_pyIter_enum he ?_
    have hne : s2.heap.objs.size + 1 ≠ s2.heap.objs.size := Nat.succ_ne_self _
    refine ⟨_, [s2.heap.objs.size + 1, s2.heap.objs.size], _, _, H2, rfl, I2.kept (t' := s2.toks) hk, turn_from hne, ⟨⟨_, he⟩, hit⟩, fun b hb => ?_, q⟩
    have hle : s2.heap.objs.size ≤ b := by
      simp only [List.mem_cons, List.not_mem_nil, or_false] at hb
      rcases hb with rfl | rfl <;> omega
    exact I2.fpOk hle (I2.hok.fresh hle)
  | [], _, q2 => exact q2.elim
  | _ :: _ :: _, _, q2 => exact q2.elim
theorem from_steps {K : PySem.W.Frag} {l : Addr} {xs : List V} {c : Nat} {H : Hp} {i : Nat} (h : SqL K H l xs) :
    (i < xs.length → (Itf K l c).go i H ∧ ∀ v H', (Itf K l c).yld i H v H' → ∃ p, v = .ref p ∧ H p = none ∧ H' = upd H p (.tup [.int ((c + i : Nat) : Int), xs.getD i .non])) ∧ (xs.length ≤ i → (Itf K l c).stop i H) := by
  refine ⟨fun hi => ⟨⟨xs, xs[i], h, by simp [hi]⟩, fun v H' ⟨p, x, e1, e2, e3, e4⟩ => ⟨p, e2, e3, ?_⟩⟩, fun hi => ⟨xs, h, hi⟩⟩
  rw [e4, List.getD_eq_getElem?_getD, e1 xs h]; rfl

def rRng : List V → Hp → VK → Prop := fun xs H Q => ∃ i j : Int, xs = [.int i, .int j] ∧ ∀ p, H p = none → Q (.ref p) (upd H p (.rng i j))
theorem call_rng : CallR X (.type "range") rRng := by
  intro pins s σ H xs us Q I r h
  obtain ⟨i, j, rfl, q⟩ := h
  obtain ⟨u, u', rfl, ⟨t, rfl⟩, ⟨t', rfl⟩⟩ := vals2 r
  exact call_range_2 ⟨.ref s.heap.objs.size, _, I.laid (o := .rng i j) (t' := s.toks + 1) (fun b o e => Heap.get?_push_of_some _ e) (Nat.le_refl _) ⟨t, t', s.toks, Heap.get?_push_size _ rfl⟩, rfl, q _ (I.hok.fresh (Nat.le_refl _))⟩
def rListR : List V → Hp → VK → Prop := fun xs H Q => ∃ (a : Addr) (lo hi : Int), xs = [.ref a] ∧ H a = some (.rng lo hi) ∧ -(2 ^ 62) ≤ lo ∧ lo ≤ hi ∧ hi < 2 ^ 62 ∧ hi - lo ≤ 1000 ∧ ∀ p, H p = none → Q (.ref p) (upd H p (.lst ((List.range (hi - lo).toNat).map fun i => V.int (lo + (i : Nat)))))
theorem vals_of_at : ∀ (n : Nat) (lo : Int) (us : List Value), us.length = n → (∀ (j : Nat) (v : Value), us[j]? = some v → ∃ t, v = .int (lo + j) t) → Vals ((List.range n).map fun i => V.int (lo + (i : Nat))) us
  | 0, _, [], _, _ => .nil
  | n + 1, lo, us, hl, h => by
    have hlt : n < us.length := by omega
    have e : us = us.take n ++ [us[n]] := by
      rw [List.take_append_getElem hlt, List.take_of_length_le (by omega)]
    rw [List.range_succ, List.map_append, e]
    refine Vals.append (vals_of_at n lo (us.take n) (by rw [List.length_take]; omega) fun j v hj => ?_) ?_
    · rw [List.getElem?_take] at hj
      split at hj
      · exact h j v hj
      · cases hj
    · obtain ⟨t, ht⟩ := h n us[n] (List.getElem?_eq_getElem hlt)
      exact .cons ⟨t, ht⟩ .nil
theorem call_listR (hin : X.A.handled = none) : CallR X (.type "list") rListR := by
  intro pins s σ H xs us Q I r h
  obtain ⟨a, lo, hi, rfl, ha, l1, l2, l3, l4, q⟩ := h
  obtain ⟨u, rfl, ru⟩ := vals1 r
  cases ru
  obtain ⟨t, t', t'', e⟩ := I.hok _ _ ha
  refine call_list_range (n := (hi - lo).toNat) hin e (small_one l1 (by omega) (by omega) l3) (by rw [rangeSize_one]; split <;> omega) (by omega) fun h' tk acc c hk hS hI => ?_
  have hv := vals_of_at (hi - lo).toNat lo acc.toList (by rw [Array.length_toList]; exact hI.1) fun j v hj => by
    obtain ⟨t, ht⟩ := hI.2 j v (by simpa using hj)
    exact ⟨t, by rw [ht, Int.mul_one]⟩
  exact ⟨.ref s.heap.objs.size, _, I.laid (o := .lst _) (t' := tk) hk (Nat.le_refl _) ⟨by rw [List.length_map, List.length_range, sizeLine_eq]; omega, acc.toList, c, hv, hS⟩, rfl, q _ (I.hok.fresh (Nat.le_refl _))⟩

def isIS : V → Bool
  | .int _ => true
  | .str x => PyData.strOk x
  | _ => false
def sdat : V → PyData
  | .int i => .int i
  | .str x => .str x
  | _ => .none
theorem sdat_all {H : Hp} : ∀ xs : List V, xs.all isIS = true → DataAll H xs (xs.map sdat)
  | [], _ => .nil
  | x :: xs, h => by
    rw [List.all_cons, Bool.and_eq_true] at h
    refine .cons ?_ (sdat_all xs h.2)
    cases x with
    | int i => exact .int i
    | str z => exact .str z
    | _ => cases h.1
theorem eqv_sdat {a b : V} (ha : isIS a = true) (hb : isIS b = true) : PyData.eqv (sdat a) (sdat b) = decide (a = b) := by
  cases a with
  | int i =>
    cases b with
    | int j =>
      show (i == j) = decide (V.int i = V.int j)
      rw [Bool.eq_iff_iff]; simp
    | str z => exact (decide_eq_false (show ¬ V.int i = V.str z from fun e => by cases e)).symm
    | _ => cases hb
  | str x =>
    cases b with
    | int j => exact (decide_eq_false (show ¬ V.str x = V.int j from fun e => by cases e)).symm
    | str z =>
      show (x == z) = decide (V.str x = V.str z)
      rw [Bool.eq_iff_iff]; simp
    | _ => cases hb
  | _ => cases ha
theorem eqvAll_sdat : ∀ xs ys : List V, xs.all isIS = true → ys.all isIS = true → PyData.eqvAll (xs.map sdat) (ys.map sdat) = decide (xs = ys)
  | [], [], _, _ => rfl
  | [], _ :: _, _, _ => (decide_eq_false (fun e => by cases e)).symm
  | _ :: _, [], _, _ => (decide_eq_false (fun e => by cases e)).symm
  | x :: xs, y :: ys, hx, hy => by
    rw [List.all_cons, Bool.and_eq_true] at hx hy
    show (PyData.eqv (sdat x) (sdat y) && PyData.eqvAll (xs.map sdat) (ys.map sdat)) = _
    rw [eqv_sdat hx.1 hy.1, eqvAll_sdat xs ys hx.2 hy.2, Bool.eq_iff_iff]
    simp
theorem lay_sdat : ∀ xs : List V, xs.all isIS = true → PyData.canLayAll0 (xs.map sdat) = true
  | [], _ => rfl
  | x :: xs, h => by
    rw [List.all_cons, Bool.and_eq_true] at h
    rw [List.map_cons, PyData.canLayAll0, lay_sdat xs h.2]
    cases x with
    | int i => rfl
    | str z =>
      show (PyData.strOk z && true) = true
      rw [show PyData.strOk z = true from h.1]; rfl
    | _ => cases h.1
theorem dep_sdat : ∀ xs : List V, PyData.depthAll (xs.map sdat) ≤ 1
  | [] => by decide
  | x :: xs => by
    rw [List.map_cons, PyData.depthAll]
    have := dep_sdat xs
    have e : PyData.depth (sdat x) ≤ 1 := by cases x <;> exact Nat.le_of_ble_eq_true rfl
    omega
def RowsAt (H : Hp) : List Addr → List (List V) → Prop := Paired fun a r => H a = some (.tup r)
theorem refs_of : ∀ {as : List Addr} {us : List Value}, Vals (as.map V.ref) us → us = as.map Value.ref
  | [], _, r => by cases r; rfl
  | a :: as, _, r => by
    rw [List.map_cons] at r
    cases r with
    | cons r1 r2 => cases r1; rw [refs_of r2]; rfl
def rInR (K : PySem.W.Frag) : R2 := fun x y H Q => ∃ p l as r rows, x = .ref p ∧ y = .ref l ∧ SqL K H l (as.map V.ref) ∧ H p = some (.tup r) ∧ r.all isIS = true ∧ RowsAt H as rows ∧ (∀ q ∈ rows, q.all isIS = true) ∧ Q (.bl (rows.any fun q => decide (q = r))) H
theorem any_rows {H : Hp} {r : List V} : ∀ {as : List Addr} {rows : List (List V)}, RowsAt H as rows → (as.map Value.ref).any (fun u => match u with | .ref a => (match H a with | some (.tup q) => decide (q = r) | _ => false) | _ => false) = rows.any fun q => decide (q = r)
  | _, _, .nil => rfl
  | a :: as, q :: rows, .cons h t => by
    rw [List.map_cons, List.any_cons, List.any_cons, any_rows t]
    show ((match H a with | some (.tup q) => decide (q = r) | _ => false) || _) = _
    rw [h]
theorem rows_mem {H : Hp} : ∀ {as : List Addr} {rows : List (List V)}, RowsAt H as rows → ∀ a ∈ as, ∃ q ∈ rows, H a = some (.tup q)
  | _, _, .nil, a, h => nomatch h
  | _ :: _, q :: _, .cons h t, a, ha => by
    rcases List.mem_cons.mp ha with rfl | ha
    · exact ⟨q, List.mem_cons_self, h⟩
    · obtain ⟨q', m, e⟩ := rows_mem t a ha
      exact ⟨q', List.mem_cons_of_mem _ m, e⟩
theorem op_inR (hu : X.A.units + 64 < cLine) : OpR X (compareOp .In) (rInR X.K) := by
  intro pins s σ H x y v u Q I rx ry h
  obtain ⟨p, l, as, r, rows, rfl, rfl, hq, hp, hr, hR, hrs, q⟩ := h
  cases rx
  cases ry
  obtain ⟨its, rv, pl, hz⟩ := I.list hq
  have eits := refs_of rv
  subst eits
  have read : ∀ (a : Addr) (z : List V), H a = some (.tup z) → z.all isIS = true → ∃ bs, Reads s.heap (.ref a) (.tuple (z.map sdat)) bs := fun a z ha hz => DataAt.reads I (.tup ha (sdat_all z hz)) rfl
  refine SeqAt.in_listAt (fun u => match u with | .ref a => (match H a with | some (.tup q) => decide (q = r) | _ => false) | _ => false) pl.isList (fun w hw => ?_) ⟨.bl _, H, I, rfl, ?_⟩
  · have hw' : w ∈ as.map Value.ref := by simpa using hw
    obtain ⟨a, ha, rfl⟩ := List.mem_map.mp hw'
    obtain ⟨z, hz1, hz2⟩ := rows_mem hR a ha
    obtain ⟨bs, rb⟩ := read a z hz2 (hrs z hz1)
    obtain ⟨cs, rc⟩ := read p r hp hr
    have g := SeqAt.eqAt_reads (.tuple (z.map sdat)) (.tuple (r.map sdat)) X.A.in1 s _ _ bs cs rb rc (lay_sdat z (hrs z hz1)) (lay_sdat r hr) (by
      have h1 := dep_sdat z
      have h2 : PyData.depth (.tuple (z.map sdat)) ≤ 3 := by show PyData.depthAll (z.map sdat) + 1 ≤ 3; omega
      have h3 : X.A.in1.units ≤ X.A.units + 32 := by show X.A.units + 1 ≤ X.A.units + 32; omega
      omega)
    have e : PyData.eqv (.tuple (z.map sdat)) (.tuple (r.map sdat)) = decide (z = r) := eqvAll_sdat z r (hrs z hz1) hr
    rw [e] at g
    show SeqAt.EqAt _ _ _ _ (match H a with | some (.tup q) => decide (q = r) | _ => false)
    rw [hz2]
    exact g
  · have e := any_rows (r := r) hR
    have e2 : ((as.map Value.ref).toArray.any fun u => match u with | .ref a => (match H a with | some (.tup q) => decide (q = r) | _ => false) | _ => false) = rows.any fun q => decide (q = r) := by rw [← e]; simp
    rw [e2]
    exact q
end
end L2

namespace M
open PySem L2
def top (i : Nat) : Stmt := PySem.Challenge.pw_manrent_k62_rolls_and_desks_of_no_land.main.body.getD i (.Pass ⟨0, 0, 0, 0⟩)
abbrev sName : Stmt := top 18
abbrev sCheck : Stmt := top 19
abbrev sWell : Stmt := top 20
abbrev sFits : Stmt := top 21
abbrev sCkA : Stmt := top 35
abbrev sCkL : Stmt := top 57
abbrev sAlone : Stmt := top 61
abbrev sFeed : Stmt := top 109
abbrev sSame : Stmt := top 110
abbrev sWhy : Stmt := top 111
abbrev sLaw : Stmt := top 112
abbrev sInitR : Stmt := inClass (top 60) 0
abbrev sAcres : Stmt := inClass (top 60) 1
abbrev sBears : Stmt := inClass (top 60) 2
abbrev sFree : Stmt := inClass (top 60) 3
abbrev sRows : Stmt := inClass (top 60) 4
abbrev sEnterAll : Stmt := inClass (top 60) 6
abbrev sSettle : Stmt := inClass (top 60) 15
abbrev sInitD : Stmt := inClass (top 97) 0

theorem same_new {H : Hp} {p : Addr} (h : H p = none) (o : HO) : Same H (upd H p o) := fun b u q => by rw [upd_ne (ne_of_none q h)]; exact q
theorem same_upd {H H2 : Hp} {l : Addr} {o : HO} (s : Same H H2) (h : H l = none) : Same H (upd H2 l o) := fun b u q => by rw [upd_ne (ne_of_none q h)]; exact s b u q
theorem small {n : Nat} (h : n ≤ 1000000) : n ≤ sizeLine := Nat.le_trans h (by decide)
theorem small' {n : Nat} (h : n < 1000000) : n < sizeLine := Nat.lt_of_lt_of_le h (by decide)

def Okn (v : Int) : Prop := 0 ≤ v ∧ v < 1000003
theorem ok_app {fs : List Int} {v : Int} (h : ∀ x ∈ fs, Okn x) (hv : Okn v) : ∀ x ∈ fs ++ [v], Okn x := fun x hx => by
  rcases List.mem_append.mp hx with z | z
  · exact h x z
  · rw [List.mem_singleton.mp z]; exact hv
theorem map_app (fs : List Int) (v : Int) : fs.map V.int ++ [V.int v] = (fs ++ [v]).map V.int := by simp

def spFeed (K : PySem.W.Frag) : Sp := fun vs H Q _ => ∃ (a : Addr) (ns : List Int) (many : Int), vs = [.ref a, .int many] ∧ SqL K H a (ns.map V.int) ∧ ns.length ≤ 63 ∧ 0 ≤ many ∧ many ≤ 100000 ∧
  ∀ (r : Addr) (H' : Hp) (fs : List Int), Same H H' → H r = none → H' r = some (.lst (fs.map V.int)) → (fs.length : Int) = many → (∀ v ∈ fs, Okn v) → Q (.ref r) H'
section
variable {P : Program} {w : World} {K : PySem.W.Frag} {mg : Str → Option Value} {base : Heap} {f : Addr} {fd : FuncData}
theorem scFeed : FnScope ["_law_script", "_law_many", "_law_feed_here", "_law_salt", "_law_cell", "_law_rest", "_law_k"] ["_law_script", "_law_many"] (defScope sFeed) := ⟨rfl, rfl, rfl, by decide +kernel, rfl, by decide +kernel, by decide +kernel⟩
theorem ok_feed (F : Fun K "_law_feed" "_law_feed" sFeed f fd) (mr : mg "range" = none) (ml : mg "len" = none) : FnOk P w K mg base CX0 1 f fd ["_law_script", "_law_many"] (spFeed K) := by
  refine F.ok scFeed (fun vs H Q E h => ?_) (fun cdv A outer s H vs Q E hr h => ?_)
  · obtain ⟨a, ns, many, rfl, _⟩ := h
    rfl
  obtain ⟨a, ns, many, rfl, hS, h63, hm0, hm1, k⟩ := h
  refine ⟨_, pss_cons (ps_set (i := 2) scFeed.nd rfl (Or.inl rfl) (pe_lst pa_nil))
    (pss_cons (ps_set (i := 3) scFeed.nd rfl (Or.inl rfl) pe_int)
    (pss_cons (ps_for PassesOwn.never rfl (pi_list (pe_slice sl_list (pv 0) po_none (po_some pe_int))) (pg_name (i := 4) scFeed.nd rfl (Or.inl rfl))
      (pss_cons (ps_set (i := 3) scFeed.nd rfl (Or.inl rfl) (pe_op op_mod (pe_op op_add (pe_op op_add (pe_op op_mul (pv 3) pe_int) (pe_op op_mod (pv 4) pe_int)) pe_int) pe_int))
      (pss_cons (ps_set (i := 5) scFeed.nd rfl (Or.inl rfl) (pe_op op_sub (pv 4) (pe_op op_pow pe_int pe_int)))
      (pss_cons (ps_if (pt_cmpR op_lt (pv 5) pe_int (nomark _))
          (pss_one (ps_expr (pe_bm PySem.F.plainAttrs_list PySem.F.slot_list_append PySem.F.type_list_append mt_append (pv 2) (pa_cons (pe_op op_mod (pv 4) pe_int) pa_nil)))) pss_nil)
      (pss_one (ps_for PassesOwn.never rfl (pi_range1 rfl mr (pa_cons pe_int pa_nil)) (pg_name (i := 6) scFeed.nd rfl (Or.inl rfl))
        (pss_one (ps_if (pt_cmpR op_gt (pv 5) pe_int (nomark _))
          (pss_cons (ps_expr (pe_bm PySem.F.plainAttrs_list PySem.F.slot_list_append PySem.F.type_list_append mt_append (pv 2) (pa_cons (pe_op op_mod (pv 5) pe_int) pa_nil)))
          (pss_one (ps_set (i := 5) scFeed.nd rfl (Or.inl rfl) (pe_op op_fdiv (pv 5) pe_int)))) pss_nil))))))))
    (pss_cons (ps_for PassesOwn.never rfl (pi_range1 rfl mr (pa_cons (pe_op op_sub (pv 1) (pe_callB call_len_seq rfl ml PySem.boot_len (pa_cons (pv 2) pa_nil))) pa_nil)) (pg_name (i := 6) scFeed.nd rfl (Or.inl rfl))
      (pss_cons (ps_set (i := 3) scFeed.nd rfl (Or.inl rfl) (pe_op op_mod (pe_op op_add (pe_op op_add (pe_op op_add (pe_op op_mul (pe_op op_mul (pv 3) (pv 3)) (pv 3)) (pe_op op_mul pe_int (pv 3))) (pe_op op_mul pe_int (pv 6))) pe_int) pe_int))
      (pss_one (ps_expr (pe_bm PySem.F.plainAttrs_list PySem.F.slot_list_append PySem.F.type_list_append mt_append (pv 2) (pa_cons (pe_op op_mod (pe_op op_fdiv (pv 3) pe_int) pe_int) pa_nil))))))
    (pss_one (ps_ret (pe_slice sl_list (pv 2) po_none (po_some (pv 1)))))))), ?_⟩
  -- _law_feed_here = []
  refine ⟨small (by simp), fun l hl => ?_⟩
  -- for _law_cell in _law_script[:63]
  have s1 : Same H (upd H l (.lst [])) := same_new hl _
  refine ⟨_, rfl, _, rfl, a, _, rfl, s1.seq hS, fun p hp => ?_⟩

  have npl : p ≠ l := fun e => by rw [e, upd_same] at hp; cases hp
  have hp0 : H p = none := by rw [upd_ne npl] at hp; exact hp
  refine ⟨p, rfl, ⟨_, SqL.of upd_same⟩, for_list (K := K) (a := p) (xs := cutV (ns.map V.int) none (some 63)) (fun i σ H2 => ∃ (fs : List Int) (salt : Int) (c r k : Option V), σ = [some (.ref a), some (.int many), some (.ref l), some (.int salt), c, r, k] ∧ Same H H2 ∧
      H2 p = some (.lst (cutV (ns.map V.int) none (some 63))) ∧ H2 l = some (.lst (fs.map V.int)) ∧ fs.length ≤ 61 * i ∧ (∀ v ∈ fs, Okn v) ∧ 0 ≤ salt ∧ salt < 2147483647)
    ⟨[], 29, none, none, none, rfl, same_upd s1 hp0, upd_same, by rw [upd_ne (Ne.symm npl), upd_same]; rfl, Nat.zero_le _, (fun v hv => nomatch hv), by decide, by decide⟩ (fun i σ H2 _ ⟨_, _, _, _, _, _, _, hq, _⟩ => SqL.of hq) ?_ ?_⟩
  · rintro i y σ H2 hi ⟨fs, salt, c, r, kk, rfl, s2, hq, hL, hlen, hok, z0, z1⟩
    have hil : i < (cutV (ns.map V.int) none (some 63)).length := (List.getElem?_eq_some_iff.mp hi).1
    have hcl := cutV_length (ns.map V.int) none (some 63)
    rw [List.length_map] at hcl
    obtain ⟨cell, rfl⟩ : ∃ z, y = V.int z := by
      have hm : y ∈ cutV (ns.map V.int) none (some 63) := List.mem_of_getElem? hi
      have hm2 : y ∈ ns.map V.int := List.mem_of_mem_drop (List.mem_of_mem_take hm)
      obtain ⟨z, _, rfl⟩ := List.mem_map.mp hm2
      exact ⟨z, rfl⟩
    -- salt
    refine ⟨_, rfl, _, _, rfl, rfl, .inl ⟨by omega, by omega⟩, _, rfl, _, _, rfl, rfl, (by show (0 : Int) < 2147483629; decide), _, _, rfl, rfl, _, _, rfl, rfl, _, _, rfl, rfl, (by show (0 : Int) < 2147483647; decide), ?_⟩
    -- rest
    refine ⟨_, rfl, _, _, rfl, rfl, ⟨by decide, by decide, by decide⟩, _, _, rfl, rfl, ?_⟩
    have z0' : 0 ≤ (salt * 69621 + cell % 2147483629 + 11) % 2147483647 := Int.emod_nonneg _ (by decide)
    have z1' : (salt * 69621 + cell % 2147483629 + 11) % 2147483647 < 2147483647 := Int.emod_lt_of_pos _ (by decide)
    refine ⟨_, rfl, _, _, rfl, rfl, _, rfl, ?_⟩
    refine ite2 (fun c => ?_) (fun c => ?_)
    · refine ⟨_, rfl, .inl ⟨rfl, _, SqL.of hL⟩, _, rfl, _, _, rfl, rfl, (by show (0 : Int) < 1000003; decide), l, _, _, rfl, rfl, hL, (by rw [List.length_map]; exact small' (by omega)), ?_⟩
      have hgs : ∃ gs : List Int, (upd H2 l (.lst (fs.map V.int ++ [V.int (cell % 1000003)]))) l = some (.lst (gs.map V.int)) ∧ gs.length ≤ 61 * i + 1 ∧ ∀ v ∈ gs, Okn v :=
        ⟨fs ++ [cell % 1000003], by rw [upd_same, map_app], by rw [List.length_append, List.length_singleton]; omega, ok_app hok ⟨Int.emod_nonneg _ (by decide), Int.emod_lt_of_pos _ (by decide)⟩⟩
      have s3 : Same H (upd H2 l (.lst (fs.map V.int ++ [V.int (cell % 1000003)]))) := same_upd s2 hl
      have hq3 : (upd H2 l (.lst (fs.map V.int ++ [V.int (cell % 1000003)]))) p = some (.lst (cutV (ns.map V.int) none (some 63))) := by rw [upd_ne npl]; exact hq
      generalize upd H2 l (.lst (fs.map V.int ++ [V.int (cell % 1000003)])) = H3 at hgs s3 hq3
      obtain ⟨gs, hL3, hg1, hg2⟩ := hgs
      refine ⟨60, rfl, by decide, by decide, for_range (lo := 0) (n := 60) (fun j σ H4 => ∃ (hs : List Int) (rest salt' : Int) (k : Option V), σ = [some (.ref a), some (.int many), some (.ref l), some (.int salt'), some (.int cell), some (.int rest), k] ∧ 0 ≤ salt' ∧ salt' < 2147483647 ∧ Same H H4 ∧
        H4 p = some (.lst (cutV (ns.map V.int) none (some 63))) ∧ H4 l = some (.lst (hs.map V.int)) ∧ hs.length ≤ 61 * i + 1 + j ∧ (∀ v ∈ hs, Okn v)) ⟨gs, _, _, kk, rfl, z0', z1', s3, hq3, hL3, hg1, hg2⟩ ?_ ?_⟩
      · rintro j σ H4 hj ⟨hs, rest, salt', k', rfl, x0, x1, s4, hq4, hL4, hh1, hh2⟩
        refine ⟨_, rfl, _, _, rfl, rfl, _, rfl, ?_⟩
        refine ite2 (fun c => ?_) (fun c => ?_)
        · refine ⟨_, rfl, .inl ⟨rfl, _, SqL.of hL4⟩, _, rfl, _, _, rfl, rfl, (by show (0 : Int) < 1009; decide), l, _, _, rfl, rfl, hL4, (by rw [List.length_map]; exact small' (by omega)), ?_⟩
          refine ⟨_, rfl, _, _, rfl, rfl, ⟨by decide, by decide⟩, ?_⟩
          exact ⟨hs ++ [rest % 1009], _, _, _, rfl, x0, x1, same_upd s4 hl, by rw [upd_ne npl]; exact hq4, by rw [upd_same, map_app], by rw [List.length_append, List.length_singleton]; omega,
            ok_app hh2 ⟨Int.emod_nonneg _ (by decide), by have := Int.emod_lt_of_pos rest (show (0 : Int) < 1009 by decide); omega⟩⟩
        · exact ⟨hs, _, _, _, rfl, x0, x1, s4, hq4, hL4, by omega, hh2⟩
      · rintro σ H4 ⟨hs, rest, salt', k', rfl, x0, x1, s4, hq4, hL4, hh1, hh2⟩
        exact ⟨hs, _, _, _, _, rfl, s4, hq4, hL4, by omega, hh2, x0, x1⟩
    · obtain ⟨gs, hL3, hg1, hg2⟩ : ∃ gs : List Int, H2 l = some (.lst (gs.map V.int)) ∧ gs.length ≤ 61 * i + 1 ∧ ∀ v ∈ gs, Okn v := ⟨fs, hL, by omega, hok⟩
      refine ⟨60, rfl, by decide, by decide, for_range (lo := 0) (n := 60) (fun j σ H4 => ∃ (hs : List Int) (rest salt' : Int) (k : Option V), σ = [some (.ref a), some (.int many), some (.ref l), some (.int salt'), some (.int cell), some (.int rest), k] ∧ 0 ≤ salt' ∧ salt' < 2147483647 ∧ Same H H4 ∧
        H4 p = some (.lst (cutV (ns.map V.int) none (some 63))) ∧ H4 l = some (.lst (hs.map V.int)) ∧ hs.length ≤ 61 * i + 1 + j ∧ (∀ v ∈ hs, Okn v)) ⟨gs, _, _, kk, rfl, z0', z1', s2, hq, hL3, hg1, hg2⟩ ?_ ?_⟩
      · rintro j σ H4 hj ⟨hs, rest, salt', k', rfl, x0, x1, s4, hq4, hL4, hh1, hh2⟩
        refine ⟨_, rfl, _, _, rfl, rfl, _, rfl, ?_⟩
        refine ite2 (fun c => ?_) (fun c => ?_)
        · refine ⟨_, rfl, .inl ⟨rfl, _, SqL.of hL4⟩, _, rfl, _, _, rfl, rfl, (by show (0 : Int) < 1009; decide), l, _, _, rfl, rfl, hL4, (by rw [List.length_map]; exact small' (by omega)), ?_⟩
          refine ⟨_, rfl, _, _, rfl, rfl, ⟨by decide, by decide⟩, ?_⟩
          exact ⟨hs ++ [rest % 1009], _, _, _, rfl, x0, x1, same_upd s4 hl, by rw [upd_ne npl]; exact hq4, by rw [upd_same, map_app], by rw [List.length_append, List.length_singleton]; omega,
            ok_app hh2 ⟨Int.emod_nonneg _ (by decide), by have := Int.emod_lt_of_pos rest (show (0 : Int) < 1009 by decide); omega⟩⟩
        · exact ⟨hs, _, _, _, rfl, x0, x1, s4, hq4, hL4, by omega, hh2⟩
      · rintro σ H4 ⟨hs, rest, salt', k', rfl, x0, x1, s4, hq4, hL4, hh1, hh2⟩
        exact ⟨hs, _, _, _, _, rfl, s4, hq4, hL4, by omega, hh2, x0, x1⟩
  · rintro σ H2 ⟨fs, salt, c, r, kk, rfl, s2, hq, hL, hlen, hok, z0, z1⟩
    have hcl := cutV_length (ns.map V.int) none (some 63)
    rw [List.length_map] at hcl
    -- for _law_k in range(_law_many - len(_law_feed_here))
    refine ⟨_, rfl, _, rfl, l, _, rfl, .inl (SqL.of hL), _, _, rfl, rfl, many - (fs.length : Int), (by rw [List.length_map]), by omega, by omega, ?_⟩
    refine for_range (lo := 0) (n := (many - (fs.length : Int)).toNat) (fun j σ H4 => ∃ (hs : List Int) (salt : Int) (k : Option V), σ = [some (.ref a), some (.int many), some (.ref l), some (.int salt), c, r, k] ∧ Same H H4 ∧
        H4 l = some (.lst (hs.map V.int)) ∧ hs.length = fs.length + j ∧ (∀ v ∈ hs, Okn v) ∧ 0 ≤ salt ∧ salt < 2147483647) ⟨fs, salt, kk, rfl, s2, hL, rfl, hok, z0, z1⟩ ?_ ?_
    · rintro j σ H4 hj ⟨hs, salt, k', rfl, s4, hL4, hh1, hh2, y0, y1⟩
      refine ⟨_, rfl, _, rfl, _, _, rfl, rfl, .inl ⟨by omega, by omega⟩, _, rfl, _, _, rfl, rfl, .inr ⟨by omega, by omega⟩, _, rfl, _, _, rfl, rfl, .inl ⟨by decide, by decide⟩, _, _, rfl, rfl, _, rfl, _, _, rfl, rfl, .inl ⟨by decide, by decide⟩, _, _, rfl, rfl, _, _, rfl, rfl, _, _, rfl, rfl, (by show (0 : Int) < 2147483629; decide), ?_⟩
      refine ⟨_, rfl, .inl ⟨rfl, _, SqL.of hL4⟩, _, rfl, _, _, rfl, rfl, ⟨by decide, by decide⟩, _, _, rfl, rfl, (by show (0 : Int) < 1009; decide), l, _, _, rfl, rfl, hL4, (by rw [List.length_map]; exact small' (by omega)), ?_⟩
      refine ⟨hs ++ [_], _, _, rfl, same_upd s4 hl, by rw [upd_same, map_app], by rw [List.length_append, List.length_singleton]; omega, ok_app hh2 ⟨Int.emod_nonneg _ (by decide), ?_⟩, Int.emod_nonneg _ (by decide), ?_⟩
      · have := Int.emod_lt_of_pos ((salt * salt * salt + 48271 * salt + 13 * (0 + (j : Int)) + 5) % 2147483629 / 1013) (show (0 : Int) < 1009 by decide)
        omega
      · have := Int.emod_lt_of_pos (salt * salt * salt + 48271 * salt + 13 * (0 + (j : Int)) + 5) (show (0 : Int) < 2147483629 by decide)
        omega
    · rintro σ H4 ⟨hs, salt, k', rfl, s4, hL4, hh1, hh2, y0, y1⟩
      refine ⟨_, rfl, _, rfl, many, rfl, l, _, rfl, SqL.of hL4, fun q hq' => ?_⟩
      have hcut : cutV (hs.map V.int) none (some many) = (hs.take many.toNat).map V.int := by
        unfold cutV
        have e1 : HT.sIx (hs.map V.int).length 0 none = 0 := rfl
        have e2 : HT.sIx (hs.map V.int).length (hs.map V.int).length (some many) = min many.toNat (hs.map V.int).length := by
          have em : many = ((many.toNat : Nat) : Int) := by omega
          generalize many.toNat = mm at em ⊢
          rw [em, HT.sIx_nat]
        rw [e1, e2, List.drop_zero, List.map_take, Nat.sub_zero, List.length_map]
        rw [List.take_eq_take_iff, List.length_map]
        omega
      refine k q _ (hs.take many.toNat) (same_upd s4 (s4.free hq')) (s4.free hq') (by rw [upd_same, hcut]) ?_ fun v hv => hh2 v (List.mem_of_mem_take hv)
      rw [List.length_take]
      omega
end

theorem sg_lt (a b : Nat) : decide ((mkS [a]).cps.toList < [b]) = decide (a < b) := by
  simp [List.cons_lt_cons_iff]
theorem sg_gt (a b : Nat) : decide ([b] < (mkS [a]).cps.toList) = decide (b < a) := by
  simp [List.cons_lt_cons_iff]
def low (c : Nat) : Bool := decide (97 ≤ c) && decide (c ≤ 122)
def nameB (l : List Nat) : Bool := l.all low && (decide (1 ≤ l.length) && decide (l.length ≤ 8))
section
variable {P : Program} {w : World} {K : PySem.W.Frag} {mg : Str → Option Value} {base : Heap} {f : Addr} {fd : FuncData}
structure Ms (K : PySem.W.Frag) (mg : Str → Option Value) (x : Str) (g : Addr) (gd : FuncData) (ps : List Str) : Prop where
  b : Binds K gd ps []
  k : PySem.W.keepIn K (.ref g) = true
  m : mg x = some (.ref g)
theorem at_some {α : Type} {xs : List α} {i : Int} (h0 : 0 ≤ i) (h1 : i < xs.length) : ∃ v, atI xs i = some v ∧ v ∈ xs := by
  have hi : i.toNat < xs.length := by omega
  have e : i = ((i.toNat : Nat) : Int) := by omega
  refine ⟨xs[i.toNat], ?_, List.getElem_mem hi⟩
  have q : atI xs ((i.toNat : Nat) : Int) = some xs[i.toNat] := atI_nat (by simp [hi])
  rw [← e] at q
  exact q
theorem fs_at {fs : List Int} (h : ∀ v ∈ fs, Okn v) {i : Int} (h0 : 0 ≤ i) (h1 : i < fs.length) : ∃ v : Int, atI (fs.map V.int) i = some (.int v) ∧ Okn v := by
  obtain ⟨x, e, m⟩ := at_some (xs := fs.map V.int) h0 (by rw [List.length_map]; exact h1)
  obtain ⟨v, hv, rfl⟩ := List.mem_map.mp m
  exact ⟨v, e, h v hv⟩
def spName : Sp := fun vs H Q _ => ∃ z : Str, vs = [.str z] ∧ z.length ≤ 1000 ∧ Q (.bl (nameB z.cps.toList)) H
theorem scName : FnScope ["text", "sign"] ["text"] (defScope sName) := ⟨rfl, rfl, rfl, by decide +kernel, rfl, by decide +kernel, by decide +kernel⟩
theorem ok_name (F : Fun K "is_name" "is_name" sName f fd) {tL : Tok} (mL : mg "LONGEST_NAME" = some (.int 8 tL)) (ml : mg "len" = none) : FnOk P w K mg base CX0 1 f fd ["text"] spName := by
  refine F.ok scName (fun vs H Q E h => ?_) (fun cdv A outer s H vs Q E hr h => ?_)
  · obtain ⟨z, rfl, _⟩ := h
    rfl
  obtain ⟨z, rfl, hz, k⟩ := h
  refine ⟨_, pss_cons (ps_for PassesOwn.never rfl (pi_str (pv 0)) (pg_name (i := 1) scName.nd rfl (Or.inl rfl))
      (pss_one (ps_if (pw_or (pt_cmpR op_lt_str (pv 1) pe_str (nomark _)) (pw_or1 (pt_cmpR op_gt_str (pv 1) pe_str (nomark _)))).pt (pss_one (ps_ret pe_bl)) pss_nil)))
    (pss_one (ps_ret (pe_chain op_le op_le pe_int (pe_callB call_len_str rfl ml PySem.boot_len (pa_cons (pv 0) pa_nil)) (pe_glob rfl mL ⟨_, rfl⟩ (v := .int 8))))), ?_⟩
  refine ⟨_, rfl, z, rfl, for_str (x := z) (fun i σ H2 => (∃ v, σ = [some (.str z), v]) ∧ H2 = H ∧ (z.cps.toList.take i).all low = true) ⟨⟨none, rfl⟩, rfl, by simp⟩ ?_ ?_⟩
  · rintro i c σ H2 hc ⟨⟨v, rfl⟩, rfl, ha⟩
    have hzl : z.cps.toList.all low = true → low c = true := fun h => List.all_eq_true.mp h c (List.mem_of_getElem? hc)
    have e1 : decide ((mkS [c]).cps.toList < (("a" : Str)).cps.toList) = decide (c < 97) := sg_lt c 97
    have e2 : decide ((("z" : Str)).cps.toList < (mkS [c]).cps.toList) = decide (122 < c) := sg_gt c 122
    have no : low c = false → nameB z.cps.toList = false := fun h => by
      unfold nameB
      cases q : z.cps.toList.all low with
      | false => rfl
      | true => rw [hzl q] at h; cases h
    refine ⟨_, rfl, _, _, rfl, rfl, _, rfl, ?_⟩
    rw [e1]
    refine ite2 (fun h => ?_) (fun h => ?_)
    · have h1 := of_decide_eq_true h
      refine iteT ?_
      have : low c = false := by simp [low]; omega
      show Q (.bl false) H2
      rw [← no this]; exact k
    · have h1 := of_decide_eq_false (Bool.eq_false_iff.mpr h)
      refine ⟨_, rfl, _, _, rfl, rfl, _, rfl, ?_⟩
      rw [e2]
      refine ite2 (fun h => ?_) (fun h => ?_)
      · have h1 := of_decide_eq_true h
        have : low c = false := by simp [low]; omega
        show Q (.bl false) H2
        rw [← no this]; exact k
      · have h2 := of_decide_eq_false (Bool.eq_false_iff.mpr h)
        refine ⟨⟨_, rfl⟩, rfl, ?_⟩
        rw [List.take_add_one, hc, List.all_append, ha]
        simp [low]; omega
  · rintro σ H2 ⟨⟨v, rfl⟩, rfl, ha⟩
    rw [List.take_length] at ha
    refine ⟨_, rfl, z, rfl, small (by omega), _, _, rfl, rfl, _, rfl, ?_⟩
    have hl : z.length = z.cps.toList.length := by simp [Str.length]
    refine ite2 (fun h => ?_) (fun h => ?_)
    · have h1 := of_decide_eq_true h
      refine ⟨_, _, rfl, rfl, ?_⟩
      have e : nameB z.cps.toList = decide ((z.length : Int) ≤ 8) := by
        unfold nameB
        rw [ha, hl, decide_eq_true (show 1 ≤ z.cps.toList.length by omega), Bool.true_and, Bool.true_and]
        exact decide_eq_decide.mpr (by omega)
      show Q (.bl (decide ((z.length : Int) ≤ 8))) H2
      rw [← e]; exact k
    · have h1 := of_decide_eq_false (Bool.eq_false_iff.mpr h)
      have e : nameB z.cps.toList = false := by
        unfold nameB
        rw [decide_eq_false (show ¬ 1 ≤ z.cps.toList.length by omega)]
        simp
      show Q (.bl false) H2
      rw [← e]; exact k

end

inductive Srt where
  | d | n | c | a | s
  deriving DecidableEq
def Srt.word : Srt → Str
  | .d => "day" | .n => "name" | .c => "name or crown" | .a => "acres" | .s => "service"
def Srt.num : Srt → Bool
  | .d => true | .n => false | .c => false | .a => true | .s => true
def forms : List (Str × List Srt) := [("heir", [.d, .n, .n]), ("grant", [.d, .c, .n, .n, .a, .s]), ("part", [.d, .n, .n, .n, .a]), ("convey", [.d, .n, .n]), ("liege", [.d, .n, .c]), ("surrender", [.d, .n]), ("death", [.d, .n])]
def form (k : Str) : Option (List Srt) := forms.lookup k
def isI : V → Bool
  | .int _ => true
  | _ => false

def okV (B : Nat) (v : V) : Prop := (∃ n, v = .int n) ∨ ∃ z : Str, v = .str z ∧ z.length ≤ B ∧ ∀ c ∈ z.cps.toList, c < 128
def fitB : Srt → V → Bool
  | .d, .int n => decide (0 ≤ n) && decide (n ≤ 9999)
  | .s, .int n => decide (0 ≤ n) && decide (n ≤ 9999)
  | .a, .int n => decide (1 ≤ n) && decide (n ≤ 9999)
  | .n, .str z => nameB z.cps.toList
  | .c, .str z => decide (z = "") || nameB z.cps.toList
  | _, _ => false

def keptR (l : List Srt) (rest : List V) : Prop := ∀ (i : Nat) (s : Srt) (v : V), l[i]? = some s → rest[i]? = some v → isI v = s.num
def two (k : Str) : Bool := decide (k = "heir") || decide (k = "liege")
def fitP (p : Srt × V) : Bool := fitB p.1 p.2
def wmR (k : Str) (rest : List V) : Bool := match form k with
  | none => false
  | some l => decide (rest.length = l.length) && (((l.zip rest).all fitP) && !(two k && decide (rest[1]? = rest[2]?)))
def wm : List V → Bool
  | .str k :: rest => wmR k rest
  | _ => false

structure Row (B : Nat) (k : Str) (rest : List V) : Prop where
  len : rest.length ≤ 9
  ok : ∀ v ∈ rest, okV B v
  kept : ∀ l, form k = some l → keptR l rest
def goodX (xs : List V) (_ : Hp) : Prop := ∃ k rest, xs = .str k :: rest ∧ Row 1000 k rest
theorem form_cases {k : Str} {l : List Srt} (h : form k = some l) : (k, l) ∈ forms := by
  unfold form at h
  revert h
  generalize forms = fs
  induction fs with
  | nil => intro h; cases h
  | cons p r ih =>
    obtain ⟨k', l'⟩ := p
    intro h
    rw [List.lookup_cons] at h
    by_cases e : k = k'
    · subst e
      simp at h
      subst h
      exact List.mem_cons_self
    · have e' : (k == k') = false := by simpa using e
      rw [e'] at h
      exact List.mem_cons_of_mem _ (ih h)
def notNum : Option Srt → Bool
  | some s => !s.num
  | none => true
theorem form_two {k : Str} {l : List Srt} (h : form k = some l) (h2 : two k = true) : l.length = 3 ∧ (∀ s, l[1]? = some s → s.num = false) ∧ ∀ s, l[2]? = some s → s.num = false := by
  have h0 : (k, l) ∈ forms := form_cases h
  have : ∀ p ∈ forms, two p.1 = true → p.2.length = 3 ∧ notNum p.2[1]? = true ∧ notNum p.2[2]? = true := by decide
  obtain ⟨a, b, c⟩ := this _ h0 h2
  refine ⟨a, fun s e => ?_, fun s e => ?_⟩
  · simp only at b; rw [e] at b; simpa [notNum] using b
  · simp only at c; rw [e] at c; simpa [notNum] using c
theorem cut1 (v : V) (rest : List V) : cutV (v :: rest) (some 1) none = rest := by
  unfold cutV
  have e1 : HT.sIx (v :: rest).length 0 (some 1) = 1 := by
    rw [show (1 : Int) = ((1 : Nat) : Int) by rfl, HT.sIx_nat]
    simp
  have e2 : HT.sIx (v :: rest).length (v :: rest).length none = (v :: rest).length := rfl
  rw [e1, e2, List.drop_one, List.tail_cons, List.take_of_length_le (by simp)]
theorem nw1 (v : V) (rest : List V) {hi : Option Int} : ¬ (HT.sIx (v :: rest).length 0 (some 1) = 0 ∧ HT.sIx (v :: rest).length (v :: rest).length hi = (v :: rest).length) := by
  have e1 : HT.sIx (v :: rest).length 0 (some 1) = 1 := by
    rw [show (1 : Int) = ((1 : Nat) : Int) by rfl, HT.sIx_nat]
    simp
  rw [e1]
  exact fun h => absurd h.1 (by decide)

def KTp (K : PySem.W.Frag) (a : Addr) (xs : List V) : Prop := ∃ (o : Obj) (its : Array Value) (n : Nat), K.lookup a = some o ∧ o.cls = .type "tuple" ∧ o.data = .seq its n ∧ its.size ≤ sizeLine ∧ Vals xs its.toList
theorem KTp.sq {K : PySem.W.Frag} {a : Addr} {xs : List V} (h : KTp K a xs) (H : Hp) : SqT K H a xs := .inr h

def scalV : V → Bool
  | .non | .bl _ | .int _ | .str _ => true
  | _ => false

def EqD (H : Hp) : Nat → V → V → Prop
  | 0, _, _ => False
  | n + 1, x, y => (x = y ∧ scalV x = true) ∨ (∃ p q xs ys, x = .ref p ∧ y = .ref q ∧ H p = some (.tup xs) ∧ H q = some (.tup ys) ∧ xs.length = ys.length ∧ xs.length ≤ 1000 ∧ ∀ (i : Nat) (x y : V), xs[i]? = some x → ys[i]? = some y → EqD H n x y) ∨
    (∃ p q xs ys, x = .ref p ∧ y = .ref q ∧ H p = some (.lst xs) ∧ H q = some (.lst ys) ∧ xs.length = ys.length ∧ xs.length ≤ 1000 ∧ ∀ (i : Nat) (x y : V), xs[i]? = some x → ys[i]? = some y → EqD H n x y)
theorem EqD.same {H H' : Hp} (s : Same H H') : ∀ {n : Nat} {x y : V}, EqD H n x y → EqD H' n x y
  | 0, _, _, h => h
  | n + 1, x, y, h => by
    rcases h with h | ⟨p, q, xs, ys, e1, e2, e3, e4, e5, e6, e7⟩ | ⟨p, q, xs, ys, e1, e2, e3, e4, e5, e6, e7⟩
    · exact .inl h
    · exact .inr (.inl ⟨p, q, xs, ys, e1, e2, s _ _ e3, s _ _ e4, e5, e6, fun i x y h1 h2 => (e7 i x y h1 h2).same s⟩)
    · exact .inr (.inr ⟨p, q, xs, ys, e1, e2, s _ _ e3, s _ _ e4, e5, e6, fun i x y h1 h2 => (e7 i x y h1 h2).same s⟩)
def spSame (n : Nat) : Sp := fun vs H Q _ => ∃ x y, vs = [x, y] ∧ EqD H n x y ∧ ∀ H', Same H H' → Q (.bl true) H'
structure MgS (mg : Str → Option Value) : Prop where
  isi : mg "isinstance" = none
  bool : mg "bool" = none
  int : mg "int" = none
  str : mg "str" = none
  list : mg "list" = none
  tuple : mg "tuple" = none
  len : mg "len" = none
  all : mg "all" = none
  zip : mg "zip" = none
section
variable {P : Program} {w : World} {K : PySem.W.Frag} {mg : Str → Option Value} {base : Heap} {f : Addr} {fd : FuncData}
theorem scSame : FnScope ["_law_found", "_law_due"] ["_law_found", "_law_due"] (defScope sSame) := ⟨rfl, rfl, rfl, by decide +kernel, rfl, by decide +kernel, by decide +kernel⟩
def scS1 : Scope := { kind := .function, names := [(".0", .local), ("_law_one", .local), ("_law_other", .local), ("_law_same", .globalImplicit)], isGenerator := false, isCoroutine := false }
theorem csS1 : CScope ["_law_found", "_law_due"] (defScope sSame) scS1 ["_law_one", "_law_other"] [] [] := ⟨rfl, by decide +kernel, by decide +kernel, by decide +kernel, rfl, by decide +kernel⟩
theorem ndS1 : ((["_law_one", "_law_other"] : List Str) ++ ([] : List Str)).Nodup := by decide +kernel
theorem all_true {bs : List Bool} (h : ∀ b ∈ bs, b = true) : bs.all id = true := List.all_eq_true.mpr fun b hb => h b hb
theorem rep_bl (n : Nat) : List.replicate n (V.bl true) = (List.replicate n true).map V.bl := by rw [List.map_replicate]
set_option maxHeartbeats 4000000 in
theorem ok_same1 {n : Nat} (F : Fun K "_law_same" "_law_same" sSame f fd) (m : MgS mg) (M : Ms K mg "_law_same" f fd ["_law_found", "_law_due"]) (G : FnOk P w K mg base CX0 n f fd ["_law_found", "_law_due"] (spSame n)) : FnOk P w K mg base CX0 (n + 1) f fd ["_law_found", "_law_due"] (spSame (n + 1)) := by
  refine F.ok scSame (fun vs H Q E h => ?_) (fun cdv A outer s H vs Q E hr h => ?_)
  · obtain ⟨x, y, rfl, _⟩ := h
    rfl
  obtain ⟨x, y, rfl, heq, k⟩ := h
  refine ⟨_, pss_cons (ps_if (pt_cmp (pc_isN (pv 1))) (pss_one (ps_ret (pe_cmp (pc_isN (pv 0))))) pss_nil)
    (pss_cons (ps_if (pt_val (pe_callB (call_isinstK (K := K)) rfl m.isi bt_isinstance (pa_cons (pv 1) (pa_cons (pe_bltn rfl m.bool bt_bool rfl (v := .ty "bool")) pa_nil))))
      (pss_one (ps_ret (pe_and (pe_callB (call_isinstK (K := K)) rfl m.isi bt_isinstance (pa_cons (pv 0) (pa_cons (pe_bltn rfl m.bool bt_bool rfl (v := .ty "bool")) pa_nil))) (pe_one (pe_cmpR op_eq (pv 0) (pv 1) (nomark _)))))) pss_nil)
    (pss_cons (ps_if (pt_val (pe_callB (call_isinstK (K := K)) rfl m.isi bt_isinstance (pa_cons (pv 1) (pa_cons (pe_bltn rfl m.tuple bt_tuple rfl (v := .ty "tuple")) pa_nil))))
      (pss_cons (ps_if (PW.pt (pw_or (pt_not (pt_val (pe_callB (call_isinstK (K := K)) rfl m.isi bt_isinstance (pa_cons (pv 0) (pa_cons (pe_bltn rfl m.tuple bt_tuple rfl (v := .ty "tuple")) pa_nil))))) (pw_or1 (pt_cmpR op_ne (pe_callB (call_lenK (K := K)) rfl m.len PySem.boot_len (pa_cons (pv 0) pa_nil)) (pe_callB (call_lenK (K := K)) rfl m.len PySem.boot_len (pa_cons (pv 1) pa_nil)) (nomark _))))) (pss_one (ps_ret pe_bl)) pss_nil)
      (pss_one (ps_ret (pe_callB (call_allK (K := K) rfl hr.hd) rfl m.all bt_all (pa_cons (pe_comp rfl csS1 (pi_zipTT rfl m.zip (pa_cons (pv 0) (pa_cons (pv 1) pa_nil)))
        (fun s H fp C => ⟨pg_tupK (K := K) (n := 2) rfl (pgs_cons (pg_name (i := 0) ndS1 rfl (Or.inl rfl)) (pgs_cons (pg_name (i := 1) ndS1 rfl (Or.inl rfl)) pgs_nil)), pts_nil, pe_call G hr rfl M.m M.k M.b .nil pass0 (pa_cons (pv 0) (pa_cons (pv 1) pa_nil))⟩)) pa_nil))))) pss_nil)
    (pss_cons (ps_if (pt_val (pe_callB (call_isinstK (K := K)) rfl m.isi bt_isinstance (pa_cons (pv 1) (pa_cons (pe_bltn rfl m.list bt_list rfl (v := .ty "list")) pa_nil))))
      (pss_cons (ps_if (PW.pt (pw_or (pt_not (pt_val (pe_callB (call_isinstK (K := K)) rfl m.isi bt_isinstance (pa_cons (pv 0) (pa_cons (pe_bltn rfl m.list bt_list rfl (v := .ty "list")) pa_nil))))) (pw_or1 (pt_cmpR op_ne (pe_callB (call_lenK (K := K)) rfl m.len PySem.boot_len (pa_cons (pv 0) pa_nil)) (pe_callB (call_lenK (K := K)) rfl m.len PySem.boot_len (pa_cons (pv 1) pa_nil)) (nomark _))))) (pss_one (ps_ret pe_bl)) pss_nil)
      (pss_one (ps_ret (pe_callB (call_allK (K := K) rfl hr.hd) rfl m.all bt_all (pa_cons (pe_comp rfl csS1 (pi_zipLL rfl m.zip (pa_cons (pv 0) (pa_cons (pv 1) pa_nil)))
        (fun s H fp C => ⟨pg_tupK (K := K) (n := 2) rfl (pgs_cons (pg_name (i := 0) ndS1 rfl (Or.inl rfl)) (pgs_cons (pg_name (i := 1) ndS1 rfl (Or.inl rfl)) pgs_nil)), pts_nil, pe_call G hr rfl M.m M.k M.b .nil pass0 (pa_cons (pv 0) (pa_cons (pv 1) pa_nil))⟩)) pa_nil))))) pss_nil)
    (pss_cons (ps_if (pt_val (pe_callB (call_isinstK (K := K)) rfl m.isi bt_isinstance (pa_cons (pv 1) (pa_cons (pe_bltn rfl m.str bt_str rfl (v := .ty "str")) pa_nil))))
      (pss_one (ps_ret (pe_and (pe_callB (call_isinstK (K := K)) rfl m.isi bt_isinstance (pa_cons (pv 0) (pa_cons (pe_bltn rfl m.str bt_str rfl (v := .ty "str")) pa_nil))) (pe_one (pe_cmpR op_eq (pv 0) (pv 1) (nomark _)))))) pss_nil)
    (pss_one (ps_ret (pe_and (pe_callB (call_isinstK (K := K)) rfl m.isi bt_isinstance (pa_cons (pv 0) (pa_cons (pe_bltn rfl m.int bt_int rfl (v := .ty "int")) pa_nil)))
      (pe_and (pe_not (pe_callB (call_isinstK (K := K)) rfl m.isi bt_isinstance (pa_cons (pv 0) (pa_cons (pe_bltn rfl m.bool bt_bool rfl (v := .ty "bool")) pa_nil)))) (pe_one (pe_cmpR op_eq (pv 0) (pv 1) (nomark _))))))))))), ?_⟩
  rcases heq with ⟨rfl, hsc⟩ | ⟨p, q, xs, ys, rfl, rfl, hp, hq, hl, hz, hi⟩ | ⟨p, q, xs, ys, rfl, rfl, hp, hq, hl, hz, hi⟩
  · cases x with
    | non => exact ⟨_, rfl, _, rfl, iteT ⟨_, rfl, k _ (Same.refl _)⟩⟩
    | bl b =>
      refine ⟨_, rfl, _, rfl, iteF ?_⟩
      refine ⟨_, rfl, _, _, _, true, rfl, .bl b, rfl, _, rfl, iteT ?_⟩
      refine ⟨_, rfl, _, _, _, true, rfl, .bl b, rfl, _, rfl, iteT ?_⟩
      refine ⟨_, rfl, _, rfl, rfl, ?_⟩
      show Q (.bl (decide (V.bl b = V.bl b))) H
      rw [decide_eq_true rfl]; exact k _ (Same.refl _)
    | int i =>
      refine ⟨_, rfl, _, rfl, iteF ?_⟩
      refine ⟨_, rfl, _, _, _, false, rfl, .int i, rfl, _, rfl, iteF ?_⟩
      refine ⟨_, rfl, _, _, _, false, rfl, .int i, rfl, _, rfl, iteF ?_⟩
      refine ⟨_, rfl, _, _, _, false, rfl, .int i, rfl, _, rfl, iteF ?_⟩
      refine ⟨_, rfl, _, _, _, false, rfl, .int i, rfl, _, rfl, iteF ?_⟩
      refine ⟨_, rfl, _, _, _, true, rfl, .int i, rfl, _, rfl, iteT ?_⟩
      refine ⟨_, rfl, _, _, _, false, rfl, .int i, rfl, _, rfl, _, rfl, iteT ?_⟩
      refine ⟨_, rfl, _, rfl, rfl, ?_⟩
      show Q (.bl (decide (V.int i = V.int i))) H
      rw [decide_eq_true rfl]; exact k _ (Same.refl _)
    | str z =>
      refine ⟨_, rfl, _, rfl, iteF ?_⟩
      refine ⟨_, rfl, _, _, _, false, rfl, .str z, rfl, _, rfl, iteF ?_⟩
      refine ⟨_, rfl, _, _, _, false, rfl, .str z, rfl, _, rfl, iteF ?_⟩
      refine ⟨_, rfl, _, _, _, false, rfl, .str z, rfl, _, rfl, iteF ?_⟩
      refine ⟨_, rfl, _, _, _, true, rfl, .str z, rfl, _, rfl, iteT ?_⟩
      refine ⟨_, rfl, _, _, _, true, rfl, .str z, rfl, _, rfl, iteT ?_⟩
      refine ⟨_, rfl, _, rfl, rfl, ?_⟩
      show Q (.bl (decide (V.str z = V.str z))) H
      rw [decide_eq_true rfl]; exact k _ (Same.refl _)
    | byt _ => cases hsc
    | flt _ => cases hsc
    | ref _ => cases hsc
    | ty _ => cases hsc
  · refine ⟨_, rfl, _, rfl, iteF ?_⟩
    refine ⟨_, rfl, _, _, _, false, rfl, .tup hq, rfl, _, rfl, iteF ?_⟩
    refine ⟨_, rfl, _, _, _, true, rfl, .tup hq, rfl, _, rfl, iteT ?_⟩
    refine ⟨_, rfl, _, _, _, true, rfl, .tup hp, rfl, _, rfl, iteF ?_⟩
    refine ⟨_, rfl, p, xs, rfl, .inr (SqT.of hp), _, rfl, q, ys, rfl, .inr (SqT.of hq), rfl, _, rfl, ?_⟩
    refine iteNS (by rw [hl]) ?_
    refine ⟨_, rfl, _, rfl, p, q, rfl, ⟨_, SqT.of hp⟩, ⟨_, SqT.of hq⟩, fun D hD => ?_⟩
    refine comp_zip (n := xs.length) (fx := fun i => xs.getD i .non) (fy := fun i => ys.getD i .non) (fun i zs H2 => zs = List.replicate i (V.bl true) ∧ Same H H2 ∧ H2 D = some (.lst zs)) (fun i zs H2 ⟨_, s2, _⟩ => zipTT_steps (SqT.of (s2 _ _ hp)) (SqT.of (s2 _ _ hq)) hl) ⟨rfl, same_new hD _, upd_same⟩ (fun i zs H2 h => h.2.2) ?_ ?_
    · rintro i zs H2 r hir ⟨rfl, s2, hD2⟩ hr2
      have nrD : D ≠ r := ne_of_none hD2 hr2
      have e1 : xs[i]? = some (xs.getD i .non) := by rw [List.getD_eq_getElem?_getD, List.getElem?_eq_getElem hir]; rfl
      have e2 : ys[i]? = some (ys.getD i .non) := by rw [List.getD_eq_getElem?_getD, List.getElem?_eq_getElem (by omega)]; rfl
      have s3 : Same H (upd H2 r (.tup [xs.getD i .non, ys.getD i .non])) := same_upd s2 (s2.free hr2)
      refine ⟨r, _, rfl, SqT.of upd_same, rfl, _, _, rfl, _, _, rfl, rfl, Kp.set rfl (Kp.set rfl (Kp.refl _)), ?_⟩
      refine tTrue_ok ?_
      refine ⟨_, rfl, _, rfl, _, _, rfl, (hi i _ _ e1 e2).same s3, fun H4 s4 => ⟨s4 _ _ (by rw [upd_ne nrD]; exact hD2), ?_, ?_, same_upd (s3.trans s4) hD, upd_same⟩⟩
      · rw [List.length_replicate]; exact small' (by omega)
      · rw [List.replicate_succ']
    · rintro zs H2 ⟨rfl, s2, hD2⟩
      refine ⟨D, List.replicate xs.length true, rfl, SqL.of (by rw [← rep_bl]; exact hD2), ?_⟩
      rw [all_true fun b hb => List.eq_of_mem_replicate hb]
      exact k _ s2
  · refine ⟨_, rfl, _, rfl, iteF ?_⟩
    refine ⟨_, rfl, _, _, _, false, rfl, .lst hq, rfl, _, rfl, iteF ?_⟩
    refine ⟨_, rfl, _, _, _, false, rfl, .lst hq, rfl, _, rfl, iteF ?_⟩
    refine ⟨_, rfl, _, _, _, true, rfl, .lst hq, rfl, _, rfl, iteT ?_⟩
    refine ⟨_, rfl, _, _, _, true, rfl, .lst hp, rfl, _, rfl, iteF ?_⟩
    refine ⟨_, rfl, p, xs, rfl, .inl (SqL.of hp), _, rfl, q, ys, rfl, .inl (SqL.of hq), rfl, _, rfl, ?_⟩
    refine iteNS (by rw [hl]) ?_
    refine ⟨_, rfl, _, rfl, p, q, rfl, ⟨_, SqL.of hp⟩, ⟨_, SqL.of hq⟩, fun D hD => ?_⟩
    refine comp_zip (n := xs.length) (fx := fun i => xs.getD i .non) (fy := fun i => ys.getD i .non) (fun i zs H2 => zs = List.replicate i (V.bl true) ∧ Same H H2 ∧ H2 D = some (.lst zs)) (fun i zs H2 ⟨_, s2, _⟩ => zipLL_steps (SqL.of (s2 _ _ hp)) (SqL.of (s2 _ _ hq)) hl) ⟨rfl, same_new hD _, upd_same⟩ (fun i zs H2 h => h.2.2) ?_ ?_
    · rintro i zs H2 r hir ⟨rfl, s2, hD2⟩ hr2
      have nrD : D ≠ r := ne_of_none hD2 hr2
      have e1 : xs[i]? = some (xs.getD i .non) := by rw [List.getD_eq_getElem?_getD, List.getElem?_eq_getElem hir]; rfl
      have e2 : ys[i]? = some (ys.getD i .non) := by rw [List.getD_eq_getElem?_getD, List.getElem?_eq_getElem (by omega)]; rfl
      have s3 : Same H (upd H2 r (.tup [xs.getD i .non, ys.getD i .non])) := same_upd s2 (s2.free hr2)
      refine ⟨r, _, rfl, SqT.of upd_same, rfl, _, _, rfl, _, _, rfl, rfl, Kp.set rfl (Kp.set rfl (Kp.refl _)), ?_⟩
      refine tTrue_ok ?_
      refine ⟨_, rfl, _, rfl, _, _, rfl, (hi i _ _ e1 e2).same s3, fun H4 s4 => ⟨s4 _ _ (by rw [upd_ne nrD]; exact hD2), ?_, ?_, same_upd (s3.trans s4) hD, upd_same⟩⟩
      · rw [List.length_replicate]; exact small' (by omega)
      · rw [List.replicate_succ']
    · rintro zs H2 ⟨rfl, s2, hD2⟩
      refine ⟨D, List.replicate xs.length true, rfl, SqL.of (by rw [← rep_bl]; exact hD2), ?_⟩
      rw [all_true fun b hb => List.eq_of_mem_replicate hb]
      exact k _ s2
theorem ok_same (F : Fun K "_law_same" "_law_same" sSame f fd) (m : MgS mg) (M : Ms K mg "_law_same" f fd ["_law_found", "_law_due"]) : ∀ n : Nat, FnOk P w K mg base CX0 n f fd ["_law_found", "_law_due"] (spSame n)
  | 0 => ⟨fun vs H Q E ⟨x, y, _, h, _⟩ => h.elim, fun A outer s H args us vs Q E _ _ _ _ ⟨x, y, _, h, _⟩ => h.elim⟩
  | n + 1 => ok_same1 F m M (ok_same F m M n)
end

end M

namespace M
open PySem L2

structure Mods (K : PySem.W.Frag) (P : Params) (mg : Str → Option Value) : Prop where
  bounds : ∃ a b1 b2 b3 b4 b5 b6 b7, mg "BOUNDS" = some (.ref a) ∧ KD K P a [("day", .ref b1), ("acres", .ref b2), ("service", .ref b3), ("bears", .ref b4), ("edge", .ref b5), ("number", .ref b6), ("entry", .ref b7)] ∧ KTp K b1 [.int 0, .int 9999] ∧ KTp K b2 [.int 1, .int 9999] ∧ KTp K b3 [.int 0, .int 9999] ∧ KTp K b4 [.int 0, .int 99]
  forms : ∃ a kvs, mg "FORMS" = some (.ref a) ∧ KD K P a kvs ∧ ∀ k, (form k = none → kvs.lookup k = none) ∧ ∀ l, form k = some l → ∃ b, kvs.lookup k = some (.ref b) ∧ KTp K b (l.map fun s => .str s.word)
  two : ∃ a, mg "OF_TWO_MEN" = some (.ref a) ∧ KTp K a [.str "heir", .str "liege"]
  crown : ∃ t, mg "CROWN" = some (.str "" t)
def spFits : Sp := fun vs H Q _ => ∃ (s : Srt) (v : V), vs = [.str s.word, v] ∧ isI v = s.num ∧ okV 1000 v ∧ Q (.bl (fitB s v)) H
section
variable {P : Program} {w : World} {K : PySem.W.Frag} {mg : Str → Option Value} {base : Heap} {f : Addr} {fd : FuncData}
theorem scFits : FnScope ["sort", "piece", "least", "greatest"] ["sort", "piece"] (defScope sFits) := ⟨rfl, rfl, rfl, by decide +kernel, rfl, by decide +kernel, by decide +kernel⟩
set_option maxHeartbeats 4000000 in
theorem ok_fits (F : Fun K "fits" "fits" sFits f fd) (mo : Mods K w.params mg) {g1 : Addr} {d1 : FuncData} (G1 : FnOk P w K mg base CX0 1 g1 d1 ["text"] spName) (M1 : Ms K mg "is_name" g1 d1 ["text"]) : FnOk P w K mg base CX0 2 f fd ["sort", "piece"] spFits := by
  obtain ⟨aB, b1, b2, b3, b4, b5, b6, b7, mB, kB, t1, t2, t3, _⟩ := mo.bounds
  obtain ⟨tc, mC⟩ := mo.crown
  refine F.ok scFits (fun vs H Q E h => ?_) (fun cdv A outer s H vs Q E hr h => ?_)
  · obtain ⟨s, v, rfl, _⟩ := h
    rfl
  obtain ⟨s, v, rfl, hi, hv, k⟩ := h
  refine ⟨_, pss_cons (ps_if (pt_cmpR op_inKD (pv 0) (pe_glob rfl mB rfl (v := .ref aB)) (by with_unfolding_all rfl))
      (pss_cons (ps_asg (pe_ix ix_KD (pe_glob rfl mB rfl (v := .ref aB)) (pv 0) (fun _ _ => rfl)) (pg_tup rfl (pgs_cons (pg_name (i := 2) scFits.nd rfl (Or.inl rfl)) (pgs_cons (pg_name (i := 3) scFits.nd rfl (Or.inl rfl)) pgs_nil))))
      (pss_one (ps_ret (pe_chain op_le op_le (pv 2) (pv 1) (pv 3))))) pss_nil)
    (pss_cons (ps_if (PW.pt (pw_and (pt_cmpR op_eq (pv 0) pe_str (nomark _)) (pw_and1 (pt_cmpR op_eq (pv 1) (pe_glob rfl mC ⟨_, rfl⟩ (v := .str "")) (nomark _))))) (pss_one (ps_ret pe_bl)) pss_nil)
    (pss_one (ps_ret (pe_call G1 hr rfl M1.m M1.k M1.b .nil pass0 (pa_cons (pv 1) pa_nil))))), ?_⟩
  refine ⟨_, rfl, _, aB, _, rfl, rfl, kB, _, rfl, ?_⟩
  have hB : s.num = true → ∃ b lo, ([("day", V.ref b1), ("acres", V.ref b2), ("service", V.ref b3), ("bears", V.ref b4), ("edge", V.ref b5), ("number", V.ref b6), ("entry", V.ref b7)] : List (Str × V)).lookup s.word = some (.ref b) ∧ KTp K b [.int lo, .int 9999] ∧ ∀ n, fitB s (.int n) = (decide (lo ≤ n) && decide (n ≤ 9999)) := by
    cases s with
    | d => exact fun _ => ⟨b1, 0, rfl, t1, fun n => rfl⟩
    | a => exact fun _ => ⟨b2, 1, rfl, t2, fun n => rfl⟩
    | s => exact fun _ => ⟨b3, 0, rfl, t3, fun n => rfl⟩
    | n => exact fun h => nomatch h
    | c => exact fun h => nomatch h
  have hN : s.num = false → ([("day", V.ref b1), ("acres", V.ref b2), ("service", V.ref b3), ("bears", V.ref b4), ("edge", V.ref b5), ("number", V.ref b6), ("entry", V.ref b7)] : List (Str × V)).lookup s.word = none := by
    cases s <;> first | exact fun _ => rfl | (intro h; cases h)
  cases hn : s.num with
  | true =>
    obtain ⟨b, lo, hb, hk, hf⟩ := hB hn
    obtain ⟨n, rfl⟩ : ∃ n, v = .int n := by
      rw [hn] at hi
      cases v <;> first | exact ⟨_, rfl⟩ | cases hi
    have hf' := hf n
    rw [hb]
    refine iteT ?_
    refine ⟨_, rfl, aB, _, _, _, rfl, rfl, kB, hb, ?_⟩
    refine ⟨b, _, rfl, hk.sq _, rfl, _, _, rfl, _, _, rfl, rfl, ?_⟩
    refine ⟨_, rfl, _, rfl, _, _, rfl, rfl, _, rfl, ?_⟩
    refine ite2 (fun h1 => ?_) (fun h1 => ?_)
    · refine ⟨_, rfl, _, _, rfl, rfl, ?_⟩
      rw [h1, Bool.true_and] at hf'
      rw [hf'] at k; exact k
    · rw [Bool.eq_false_iff.mpr h1, Bool.false_and] at hf'
      rw [hf'] at k; exact k
  | false =>
    rw [hN hn]
    obtain ⟨z, rfl, hl, hc⟩ : ∃ z : Str, v = .str z ∧ z.length ≤ 1000 ∧ ∀ c ∈ z.cps.toList, c < 128 := by
      rcases hv with ⟨n, rfl⟩ | h
      · rw [hn] at hi; cases hi
      · exact h
    refine iteF ?_
    cases s with
    | d => cases hn
    | a => cases hn
    | s => cases hn
    | n =>
      refine ⟨_, rfl, rfl, _, rfl, iteF (iteF ?_)⟩
      exact ⟨_, rfl, z, rfl, hl, k⟩
    | c =>
      refine ⟨_, rfl, rfl, _, rfl, iteT ?_⟩
      refine ⟨_, rfl, rfl, _, rfl, ?_⟩
      have e0 : fitB .c (.str z) = (decide (z = "") || nameB z.cps.toList) := rfl
      rw [e0] at k
      refine ite2 (fun h1 => ?_) (fun h1 => ?_)
      · have h2 : z = "" := by
          have := of_decide_eq_true h1
          injection this
        rw [decide_eq_true h2, Bool.true_or] at k
        exact k
      · have h2 : ¬ z = "" := fun e => h1 (by rw [e]; rfl)
        rw [decide_eq_false h2, Bool.false_or] at k
        exact ⟨_, rfl, z, rfl, hl, k⟩
end
end M

namespace M
open PySem L2

def spCheck (C : Addr) (good : List V → Hp → Prop) (wm : List V → Bool) (K : PySem.W.Frag) : Sp := fun vs H Q E => ∃ a xs, vs = [.ref a] ∧ SqT K H a xs ∧ good xs H ∧ if wm xs = true then (∀ H', Same H H' → Q .non H') else ∀ H', Same H H' → E (.ref C) none H'

def spWell (good : List V → Hp → Prop) (wm : List V → Bool) (K : PySem.W.Frag) : Sp := fun vs H Q _ => ∃ a xs, vs = [.ref a] ∧ SqT K H a xs ∧ good xs H ∧ ∀ H', Same H H' → Q (.bl (wm xs)) H'
theorem all_step {l : List (Srt × V)} {i : Nat} {p : Srt × V} (h : l[i]? = some p) (h0 : (l.take i).all fitP = true) (h1 : fitP p = true) : (l.take (i + 1)).all fitP = true := by
  rw [List.take_add_one, h, List.all_append, h0]
  simp [h1]
theorem all_no {l : List (Srt × V)} {i : Nat} {p : Srt × V} (h : l[i]? = some p) (h1 : fitP p = false) : l.all fitP = false := by
  cases e : l.all fitP with
  | false => rfl
  | true => rw [List.all_eq_true.mp e p (List.mem_of_getElem? h)] at h1; cases h1
theorem zip_at {l : List Srt} {rest : List V} {i : Nat} {s : Srt} {v : V} (h1 : l[i]? = some s) (h2 : rest[i]? = some v) : (l.zip rest)[i]? = some (s, v) := by
  rw [List.getElem?_zip_eq_some]; exact ⟨h1, h2⟩
theorem at_getD {α : Type} {l : List α} {i : Nat} {x d : α} (h : l[i]? = some x) : l.getD i d = x := by rw [List.getD_eq_getElem?_getD, h]; rfl
theorem beq_flip (a b : Str) : (a == b) = decide (b = a) := by
  rw [Bool.eq_iff_iff]
  simp only [beq_iff_eq, decide_eq_true_eq]
  exact eq_comm
theorem inTwo (k : Str) : inV (V.str k) [V.str "heir", V.str "liege"] = two k := by
  show ((("heir" : Str) == k) || ((("liege" : Str) == k) || false)) = two k
  unfold two
  rw [Bool.or_false, beq_flip, beq_flip]
section
variable {P : Program} {w : World} {K : PySem.W.Frag} {mg : Str → Option Value} {base : Heap} {f : Addr} {fd : FuncData}
theorem scWell : FnScope ["row", "form", "pieces", "sort", "piece"] ["row"] (defScope sWell) := ⟨rfl, rfl, rfl, by decide +kernel, rfl, by decide +kernel, by decide +kernel⟩
theorem at0 (v : V) (rest : List V) : atI (v :: rest) 0 = some v := atI_nat (j := 0) rfl
theorem at_nat {v : V} {rest : List V} {j : Nat} {x : V} (h : rest[j]? = some x) (i : Int) (hi : i = ((j + 1 : Nat) : Int)) : atI (v :: rest) i = some x := by
  rw [hi]; exact atI_nat (by simpa using h)
set_option maxHeartbeats 4000000 in
theorem ok_well (F : Fun K "is_well_made" "is_well_made" sWell f fd) (mo : Mods K w.params mg) (ml : mg "len" = none) (mz : mg "zip" = none) {g1 : Addr} {d1 : FuncData} (G1 : FnOk P w K mg base CX0 2 g1 d1 ["sort", "piece"] spFits) (M1 : Ms K mg "fits" g1 d1 ["sort", "piece"]) : FnOk P w K mg base CX0 3 f fd ["row"] (spWell goodX wm K) := by
  obtain ⟨aF, kvs, mF, kF, hF⟩ := mo.forms
  obtain ⟨a2, m2, t2⟩ := mo.two
  refine F.ok scWell (fun vs H Q E h => ?_) (fun cdv A outer s H vs Q E hr h => ?_)
  · obtain ⟨a, xs, rfl, _⟩ := h
    rfl
  obtain ⟨a, xs, rfl, hS, ⟨k, rest, rfl, R⟩, kk⟩ := h
  refine ⟨_, pss_cons (ps_if (pt_cmpR op_notInKD (pe_ix ix_tup (pv 0) pe_int (fun _ _ => rfl)) (pe_glob rfl mF rfl (v := .ref aF)) (by with_unfolding_all rfl)) (pss_one (ps_ret pe_bl)) pss_nil)
    (pss_cons (ps_set (i := 1) scWell.nd rfl (Or.inl rfl) (pe_ix ix_KD (pe_glob rfl mF rfl (v := .ref aF)) (pe_ix ix_tup (pv 0) pe_int (fun _ _ => rfl)) (fun _ _ => rfl)))
    (pss_cons (ps_set (i := 2) scWell.nd rfl (Or.inl rfl) (pe_slice sl_tup (pv 0) (po_some pe_int) po_none))
    (pss_cons (ps_if (pt_cmpR op_ne (pe_callB call_len_seq rfl ml PySem.boot_len (pa_cons (pv 2) pa_nil)) (pe_callB call_len_seq rfl ml PySem.boot_len (pa_cons (pv 1) pa_nil)) (nomark _)) (pss_one (ps_ret pe_bl)) pss_nil)
    (pss_cons (ps_for PassesOwn.never rfl (pi_zipTT rfl mz (pa_cons (pv 1) (pa_cons (pv 2) pa_nil))) (pg_tup rfl (pgs_cons (pg_name (i := 3) scWell.nd rfl (Or.inl rfl)) (pgs_cons (pg_name (i := 4) scWell.nd rfl (Or.inl rfl)) pgs_nil)))
      (pss_one (ps_if (pt_not (pt_val (pe_call G1 hr rfl M1.m M1.k M1.b .nil pass0 (pa_cons (pv 3) (pa_cons (pv 4) pa_nil))))) (pss_one (ps_ret pe_bl)) pss_nil)))
    (pss_one (ps_ret (pe_or (pe_cmpR op_notIn_seq (pe_ix ix_tup (pv 0) pe_int (fun _ _ => rfl)) (pe_glob rfl m2 rfl (v := .ref a2)) (by with_unfolding_all rfl))
      (pe_one (pe_cmpR op_ne (pe_ix ix_tup (pv 0) pe_int (fun _ _ => rfl)) (pe_ix ix_tup (pv 0) pe_int (fun _ _ => rfl)) (nomark _)))))))))), ?_⟩
  have ew : wm (.str k :: rest) = wmR k rest := rfl
  rw [ew] at kk
  refine ⟨_, rfl, a, _, _, _, rfl, rfl, hS, at0 _ _, k, aF, kvs, rfl, rfl, kF, _, rfl, ?_⟩
  cases hf : form k with
  | none =>
    rw [(hF k).1 hf]
    have e : wmR k rest = false := by unfold wmR; rw [hf]
    rw [e] at kk
    exact iteT (kk H (Same.refl _))
  | some l =>
    obtain ⟨b, hb, hk⟩ := (hF k).2 l hf
    have ewm : wmR k rest = (decide (rest.length = l.length) && (((l.zip rest).all fitP) && !(two k && decide (rest[1]? = rest[2]?)))) := by unfold wmR; rw [hf]
    rw [hb]
    refine iteF ?_
    refine ⟨_, rfl, a, _, _, _, rfl, rfl, hS, at0 _ _, aF, kvs, k, _, rfl, rfl, kF, hb, ?_⟩
    refine ⟨_, rfl, _, rfl, a, _, rfl, hS, nw1 _ _, fun p hp => ?_⟩
    rw [cut1]
    have s1 : Same H (upd H p (.tup rest)) := same_new hp _
    refine ⟨_, rfl, p, _, rfl, .inr (SqT.of upd_same), _, rfl, b, _, rfl, .inr (hk.sq _), rfl, _, rfl, ?_⟩
    by_cases hl : rest.length = l.length
    · refine iteNS (by rw [List.length_map, hl]) ?_
      rw [decide_eq_true hl, Bool.true_and] at ewm
      refine ⟨_, rfl, _, rfl, b, p, rfl, ⟨_, hk.sq _⟩, ⟨_, SqT.of upd_same⟩, for_zip (n := l.length) (fx := fun i => V.str (l.getD i .d).word) (fy := fun i => rest.getD i .non)
        (fun i σ H2 => (∃ u v, σ = [some (.ref a), some (.ref b), some (.ref p), u, v]) ∧ Same (upd H p (.tup rest)) H2 ∧ ((l.zip rest).take i).all fitP = true) ?_ ⟨⟨none, none, rfl⟩, Same.refl _, rfl⟩ ?_ ?_⟩
      · rintro i σ H2 ⟨_, sm, _⟩
        have st := zipTT_steps (i := i) (hk.sq H2) (sm.seqT (SqT.of upd_same)) (by rw [List.length_map]; exact hl.symm)
        rw [List.length_map] at st
        refine ⟨fun hi => ⟨(st.1 hi).1, fun v H' y => ?_⟩, st.2⟩
        obtain ⟨q, e1, e2, e3⟩ := (st.1 hi).2 v H' y
        refine ⟨q, e1, e2, ?_⟩
        rw [e3]
        have e4 : (l.map fun s => V.str s.word).getD i .non = V.str (l.getD i .d).word := by
          rw [List.getD_eq_getElem?_getD, List.getD_eq_getElem?_getD, List.getElem?_map, List.getElem?_eq_getElem hi]; rfl
        rw [e4]
      · rintro i σ H2 q hi ⟨⟨u, v, rfl⟩, sm, ha⟩ hq
        have h1 : l[i]? = some l[i] := List.getElem?_eq_getElem hi
        have hi2 : i < rest.length := by omega
        have h2 : rest[i]? = some rest[i] := List.getElem?_eq_getElem hi2
        rw [at_getD h1, at_getD h2]
        have sq : Same H2 (upd H2 q (.tup [V.str (l[i]).word, rest[i]])) := same_new hq _
        refine ⟨q, _, rfl, SqT.of upd_same, rfl, _, _, rfl, _, _, rfl, rfl, ?_⟩
        refine ⟨_, rfl, _, rfl, l[i], rest[i], rfl, R.kept l hf i _ _ h1 h2, R.ok _ (List.getElem_mem hi2), _, rfl, ?_⟩
        cases hfit : fitB l[i] rest[i] with
        | true => exact iteF ⟨⟨_, _, rfl⟩, sm.trans sq, all_step (zip_at h1 h2) ha hfit⟩
        | false =>
          refine iteT ?_
          rw [all_no (zip_at h1 h2) hfit, Bool.false_and] at ewm
          rw [ewm] at kk
          exact kk _ (s1.trans (sm.trans sq))
      · rintro σ H2 ⟨⟨u, v, rfl⟩, sm, ha⟩
        rw [List.take_of_length_le (by rw [List.length_zip]; omega)] at ha
        rw [ha, Bool.true_and] at ewm
        have S2 := (s1.trans sm).seqT hS
        refine ⟨_, rfl, a, _, _, _, rfl, rfl, S2, at0 _ _, a2, _, rfl, .inr (t2.sq _), rfl, rfl, _, rfl, ?_⟩
        have e2 := inTwo k
        show if (!inV (V.str k) [V.str "heir", V.str "liege"]) = true then _ else _
        rw [e2]
        cases h2 : two k with
        | false =>
          rw [h2] at ewm
          refine iteT ?_
          have : wmR k rest = true := ewm
          rw [this] at kk
          exact kk _ (s1.trans sm)
        | true =>
          rw [h2, Bool.true_and] at ewm
          obtain ⟨l3, n1, n2⟩ := form_two hf h2
          refine iteF ?_
          have i1 : (1 : Nat) < rest.length := by omega
          have i2 : (2 : Nat) < rest.length := by omega
          have r1 : rest[1]? = some rest[1] := List.getElem?_eq_getElem i1
          have r2 : rest[2]? = some rest[2] := List.getElem?_eq_getElem i2
          have q1 : l[1]? = some l[1] := List.getElem?_eq_getElem (by omega)
          have q2 : l[2]? = some l[2] := List.getElem?_eq_getElem (by omega)
          have v1 : isI rest[1] = false := (R.kept l hf 1 _ _ q1 r1).trans (n1 _ q1)
          have v2 : isI rest[2] = false := (R.kept l hf 2 _ _ q2 r2).trans (n2 _ q2)
          have o1 := R.ok _ (List.getElem_mem i1)
          have o2 := R.ok _ (List.getElem_mem i2)
          rw [r1, r2] at ewm
          refine ⟨_, rfl, a, _, _, _, rfl, rfl, S2, at_nat r1 2 rfl, _, rfl, a, _, _, _, rfl, rfl, S2, at_nat r2 3 rfl, ?_⟩
          generalize rest[1] = x1 at *
          generalize rest[2] = x2 at *
          rcases o1 with ⟨n, rfl⟩ | ⟨z1, rfl, _⟩
          · cases v1
          rcases o2 with ⟨n, rfl⟩ | ⟨z2, rfl, _⟩
          · cases v2
          refine ⟨rfl, ?_⟩
          have e3 : wmR k rest = !decide (V.str z1 = V.str z2) := by
            rw [ewm]
            congr 1
            exact decide_eq_decide.mpr ⟨fun e => Option.some.inj e, fun e => by rw [e]⟩
          rw [e3] at kk
          exact kk _ (s1.trans sm)
    · have e : wmR k rest = false := by rw [ewm, decide_eq_false hl, Bool.false_and]
      rw [e] at kk
      have hne : (!decide (V.int ((rest.length : Nat) : Int) = V.int (((l.map fun s => V.str s.word).length : Nat) : Int))) = true := by
        rw [List.length_map]
        have : ¬ V.int ((rest.length : Nat) : Int) = V.int ((l.length : Nat) : Int) := fun e => hl (by injection e with e; omega)
        rw [decide_eq_false this]; rfl
      rw [hne]
      exact iteT (kk _ s1)
theorem scCheck : FnScope ["row"] ["row"] (defScope sCheck) := ⟨rfl, rfl, rfl, by decide +kernel, rfl, by decide +kernel, by decide +kernel⟩
theorem ok_check {good : List V → Hp → Prop} {wm : List V → Bool} (F : Fun K "check_row" "check_row" sCheck f fd) {C : Addr} (mC : mg "NoForm" = some (.ref C)) (hC : PySem.W.excIn K C vErr "ValueError.__new__" = true) {g : Addr} {gd : FuncData} (G : FnOk P w K mg base CX0 3 g gd ["row"] (spWell good wm K))
    (MG : Ms K mg "is_well_made" g gd ["row"]) : FnOk P w K mg base (CXE P w) 4 f fd ["row"] (spCheck C good wm K) := by
  obtain ⟨oc, od, kV, doc, pm, an, cdv, ct, osl, rfl, lk, hcd⟩ := F.ex
  refine fn_of lk hcd scCheck (fun vs H Q E h => ?_) fun A outer s H vs Q E hr h => ?_
  · obtain ⟨a, xs, rfl, _⟩ := h
    rfl
  obtain ⟨a, xs, rfl, hS, hg, h⟩ := h
  refine ⟨_, pss_one (ps_if (pt_not (pt_val (pe_call (E := E0) G hr rfl MG.m MG.k MG.b .nil (fun _ _ _ _ _ _ _ z => z.elim) (pa_cons (pv 0) pa_nil))))
    (pss_one (ps_raise (C := C) (E := E) rfl (fun pins σ H1 s1 h' e C' vs I hx q => raise_leaves I hx q) rfl mC hC (pa_cons pe_str pa_nil))) pss_nil), ?_⟩
  refine ⟨_, rfl, a, xs, rfl, hS, hg, fun H' sm => ⟨_, rfl, ?_⟩⟩
  cases e : wm xs with
  | true => rw [e, if_pos rfl] at h; exact iteF (h H' sm)
  | false => rw [e, if_neg Bool.false_ne_true] at h; exact iteT ⟨small1000 (by simp) |> Nat.le_of_lt, h H' sm⟩
end
end M

namespace M
open PySem L2 PyProof.Rows
theorem u1 {k : Nat} {A : Around} (r : Room k A) : A.units + 1 < cLine := by have := r.un; omega

def okA (n : Int) : Bool := decide (1 ≤ n) && decide (n ≤ 9999)
def okB (n : Int) : Bool := decide (0 ≤ n) && decide (n ≤ 99)
def spFitN : Sp := fun vs H Q _ => ∃ n : Int, (vs = [.str "acres", .int n] ∧ Q (.bl (okA n)) H) ∨ (vs = [.str "bears", .int n] ∧ Q (.bl (okB n)) H)
def spCkA (CL : Addr) : Sp := fun vs H Q E => ∃ n : Int, vs = [.int n] ∧ if okA n = true then Q .non H else E (.ref CL) none H
def spCkL (CL : Addr) : Sp := fun vs H Q E => ∃ n m : Int, vs = [.int n, .int m] ∧ if (okA n && okB m) = true then Q .non H else E (.ref CL) none H
section
variable {P : Program} {w : World} {K : PySem.W.Frag} {mg : Str → Option Value} {base : Heap} {f : Addr} {fd : FuncData}
set_option maxHeartbeats 4000000 in
theorem ok_fitN (F : Fun K "fits" "fits" sFits f fd) (mo : Mods K w.params mg) : FnOk P w K mg base CX0 1 f fd ["sort", "piece"] spFitN := by
  obtain ⟨aB, b1, b2, b3, b4, b5, b6, b7, mB, kB, t1, t2, t3, t4⟩ := mo.bounds
  refine F.ok scFits (fun vs H Q E h => ?_) (fun cdv A outer s H vs Q E hr h => ?_)
  · obtain ⟨n, ⟨rfl, _⟩ | ⟨rfl, _⟩⟩ := h <;> rfl
  refine ⟨_, pss_cons (ps_if (pt_cmpR op_inKD (pv 0) (pe_glob rfl mB rfl (v := .ref aB)) (by with_unfolding_all rfl))
      (pss_cons (ps_asg (pe_ix ix_KD (pe_glob rfl mB rfl (v := .ref aB)) (pv 0) (fun _ _ => rfl)) (pg_tup rfl (pgs_cons (pg_name (i := 2) scFits.nd rfl (Or.inl rfl)) (pgs_cons (pg_name (i := 3) scFits.nd rfl (Or.inl rfl)) pgs_nil))))
      (pss_one (ps_ret (pe_chain op_le op_le (pv 2) (pv 1) (pv 3))))) pss_nil) pss_never, ?_⟩
  have fin : ∀ (lo hi n : Int), Q (.bl (decide (lo ≤ n) && decide (n ≤ hi))) H → if decide (lo ≤ n) = true then Q (.bl (decide (n ≤ hi))) H else Q (.bl false) H := fun lo hi n k => by
    cases e : decide (lo ≤ n) with
    | true => rw [e, Bool.true_and] at k; exact iteT k
    | false => rw [e, Bool.false_and] at k; exact iteF k
  obtain ⟨n, ⟨rfl, k⟩ | ⟨rfl, k⟩⟩ := h
  · refine ⟨_, rfl, _, aB, _, rfl, rfl, kB, _, rfl, iteT ?_⟩
    refine ⟨_, rfl, aB, _, _, _, rfl, rfl, kB, rfl, ?_⟩
    refine ⟨b2, _, rfl, t2.sq _, rfl, _, _, rfl, _, _, rfl, rfl, ?_⟩
    refine ⟨_, rfl, _, rfl, _, _, rfl, rfl, _, rfl, ?_⟩
    refine ite2 (fun h1 => ⟨_, rfl, _, _, rfl, rfl, ?_⟩) (fun h1 => ?_)
    · unfold okA at k
      rw [h1, Bool.true_and] at k
      exact k
    · unfold okA at k
      rw [Bool.eq_false_iff.mpr h1, Bool.false_and] at k
      exact k
  · refine ⟨_, rfl, _, aB, _, rfl, rfl, kB, _, rfl, iteT ?_⟩
    refine ⟨_, rfl, aB, _, _, _, rfl, rfl, kB, rfl, ?_⟩
    refine ⟨b4, _, rfl, t4.sq _, rfl, _, _, rfl, _, _, rfl, rfl, ?_⟩
    refine ⟨_, rfl, _, rfl, _, _, rfl, rfl, _, rfl, ?_⟩
    refine ite2 (fun h1 => ⟨_, rfl, _, _, rfl, rfl, ?_⟩) (fun h1 => ?_)
    · unfold okB at k
      rw [h1, Bool.true_and] at k
      exact k
    · unfold okB at k
      rw [Bool.eq_false_iff.mpr h1, Bool.false_and] at k
      exact k
theorem scCkA : FnScope ["acres"] ["acres"] (defScope sCkA) := ⟨rfl, rfl, rfl, by decide +kernel, rfl, by decide +kernel, by decide +kernel⟩
theorem ok_ckA (F : Fun K "check_acres" "check_acres" sCkA f fd) {CL : Addr} (mC : mg "NoLand" = some (.ref CL)) (hC : PySem.W.excIn K CL vErr "ValueError.__new__" = true) {g : Addr} {gd : FuncData} (G : FnOk P w K mg base CX0 1 g gd ["sort", "piece"] spFitN)
    (MG : Ms K mg "fits" g gd ["sort", "piece"]) : FnOk P w K mg base (CXE P w) 2 f fd ["acres"] (spCkA CL) := by
  obtain ⟨oc, od, kV, doc, pm, an, cdv, ct, osl, rfl, lk, hcd⟩ := F.ex
  refine fn_of lk hcd scCkA (fun vs H Q E h => ?_) fun A outer s H vs Q E hr h => ?_
  · obtain ⟨n, rfl, _⟩ := h
    rfl
  obtain ⟨n, rfl, h⟩ := h
  refine ⟨_, pss_one (ps_if (pt_not (pt_val (pe_call (E := E0) G hr rfl MG.m MG.k MG.b .nil (fun _ _ _ _ _ _ _ z => z.elim) (pa_cons pe_str (pa_cons (pv 0) pa_nil)))))
    (pss_one (ps_raise (C := CL) (E := E) rfl (fun pins σ H1 s1 h' e C' vs I hx q => raise_leaves I hx q) rfl mC hC (pa_cons pe_str pa_nil))) pss_nil), ?_⟩
  refine ⟨_, rfl, n, .inl ⟨rfl, _, rfl, ?_⟩⟩
  cases e : okA n with
  | true => rw [e, if_pos rfl] at h; exact iteF h
  | false => rw [e, if_neg Bool.false_ne_true] at h; exact iteT ⟨small1000 (by simp) |> Nat.le_of_lt, h⟩
theorem scCkL : FnScope ["acres", "bears"] ["acres", "bears"] (defScope sCkL) := ⟨rfl, rfl, rfl, by decide +kernel, rfl, by decide +kernel, by decide +kernel⟩
theorem ok_ckL (F : Fun K "check_land" "check_land" sCkL f fd) {CL : Addr} (mC : mg "NoLand" = some (.ref CL)) (hC : PySem.W.excIn K CL vErr "ValueError.__new__" = true) {g g1 : Addr} {gd d1 : FuncData} (G : FnOk P w K mg base CX0 1 g gd ["sort", "piece"] spFitN)
    (MG : Ms K mg "fits" g gd ["sort", "piece"]) (G1 : FnOk P w K mg base (CXE P w) 2 g1 d1 ["acres"] (spCkA CL)) (M1 : Ms K mg "check_acres" g1 d1 ["acres"]) : FnOk P w K mg base (CXE P w) 3 f fd ["acres", "bears"] (spCkL CL) := by
  obtain ⟨oc, od, kV, doc, pm, an, cdv, ct, osl, rfl, lk, hcd⟩ := F.ex
  refine fn_of lk hcd scCkL (fun vs H Q E h => ?_) fun A outer s H vs Q E hr h => ?_
  · obtain ⟨n, m, rfl, _⟩ := h
    rfl
  obtain ⟨n, m, rfl, h⟩ := h
  refine ⟨_, pss_cons (ps_expr (pe_call (CX := CXE P w) (E := E) G1 hr rfl M1.m M1.k M1.b .nil pass_on (pa_cons (pv 0) pa_nil)))
    (pss_one (ps_if (pt_not (pt_val (pe_call (E := E0) G (hr.mono (by decide)) rfl MG.m MG.k MG.b .nil (fun _ _ _ _ _ _ _ z => z.elim) (pa_cons pe_str (pa_cons (pv 1) pa_nil)))))
    (pss_one (ps_raise (C := CL) (E := E) rfl (fun pins σ H1 s1 h' e C' vs I hx q => raise_leaves I hx q) rfl mC hC (pa_cons pe_str pa_nil))) pss_nil)), ?_⟩
  refine ⟨_, rfl, n, rfl, ?_⟩
  cases e : okA n with
  | false =>
    rw [e, Bool.false_and, if_neg Bool.false_ne_true] at h
    exact iteF h
  | true =>
    rw [e, Bool.true_and] at h
    refine iteT ⟨_, rfl, m, .inr ⟨rfl, _, rfl, ?_⟩⟩
    cases e2 : okB m with
    | true => rw [e2, if_pos rfl] at h; exact iteF h
    | false => rw [e2, if_neg Bool.false_ne_true] at h; exact iteT ⟨small1000 (by simp) |> Nat.le_of_lt, h⟩
end

structure RollC (K : PySem.W.Frag) (C : Addr) : Prop where
  cl : Cls K C
  n1 : NoAttr K C "many_acres"
  n2 : NoAttr K C "coins"
  n3 : NoAttr K C "standing"
  n4 : NoAttr K C "earlier"
  n5 : NoAttr K C "later"
abbrev FR (n m : Int) (st e l : Addr) : List (Str × V) := [("many_acres", .int n), ("coins", .int m), ("standing", .ref st), ("earlier", .ref e), ("later", .ref l)]
structure RollAt (C : Addr) (H : Hp) (x dx st d e l : Addr) (n m fr : Int) (kvs : List (Int × V)) (es ls : List V) : Prop where
  o : H x = some (.ins C dx (FR n m st e l))
  s : H st = some (.tup [.int fr, .ref d])
  k : H d = some (.dK (ikv kvs))
  e : H e = some (.lst es)
  l : H l = some (.lst ls)
theorem RollAt.same {C : Addr} {H H' : Hp} {x dx st d e l : Addr} {n m fr : Int} {kvs : List (Int × V)} {es ls : List V} (r : RollAt C H x dx st d e l n m fr kvs es ls) (s : ∀ b u, H b = some u → H' b = some u) : RollAt C H' x dx st d e l n m fr kvs es ls := ⟨s _ _ r.o, s _ _ r.s, s _ _ r.k, s _ _ r.e, s _ _ r.l⟩
def spInitR (C CL : Addr) : Sp := fun vs H Q E => ∃ x dx, ∃ n m : Int, vs = [.ref x, .int n, .int m] ∧ H x = some (.ins C dx []) ∧ if (okA n && okB m) = true then
    (∀ st d e l H', (∀ c o, c ≠ x → H c = some o → H' c = some o) → RollAt C H' x dx st d e l n m 1 [] [] [] → H st = none → H d = none → H e = none → H l = none → x ≠ e → x ≠ l → x ≠ st → x ≠ d → Q .non H')
  else E (.ref CL) none H
section
variable {P : Program} {w : World} {K : PySem.W.Frag} {mg : Str → Option Value} {base : Heap} {f C : Addr} {fd : FuncData}
theorem scInitR : FnScope ["self", "acres", "bears"] ["self", "acres", "bears"] (defScope sInitR) := ⟨rfl, rfl, rfl, by decide +kernel, rfl, by decide +kernel, by decide +kernel⟩
set_option maxHeartbeats 8000000 in
theorem ok_initR (T : RollC K C) (F : Fun K "__init__" "Roll.__init__" sInitR f fd) {CL : Addr} {g1 : Addr} {d1 : FuncData} (G1 : FnOk P w K mg base (CXE P w) 3 g1 d1 ["acres", "bears"] (spCkL CL)) (M1 : Ms K mg "check_land" g1 d1 ["acres", "bears"]) : FnOk P w K mg base (CXE P w) 4 f fd ["self", "acres", "bears"] (spInitR C CL) := by
  obtain ⟨oc, od, kV, doc, pm, an, cdv, ct, osl, rfl, lk, hcd⟩ := F.ex
  refine fn_of lk hcd scInitR (fun vs H Q E h => ?_) fun A outer s H vs Q E hr h => ?_
  · obtain ⟨x, dx, n, m, rfl, _⟩ := h
    rfl
  obtain ⟨x, dx, n, m, rfl, hx, h⟩ := h
  refine ⟨_, pss_cons (ps_expr (pe_call (CX := CXE P w) (E := E) G1 hr rfl M1.m M1.k M1.b .nil pass_on (pa_cons (pv 1) (pa_cons (pv 2) pa_nil))))
    (pss_cons (ps_fld (pv 0) (pv 1) rfl)
    (pss_cons (ps_fld (pv 0) (pv 2) rfl)
    (pss_cons (ps_fld (pv 0) (pe_tup (pa_cons pe_int (pa_cons pe_dnewK pa_nil))) rfl)
    (pss_cons (ps_fld (pv 0) (pe_lst pa_nil) rfl)
    (pss_one (ps_fld (pv 0) (pe_lst pa_nil) rfl)))))), ?_⟩
  refine ⟨_, rfl, _, rfl, n, m, rfl, ?_⟩
  cases e0 : okA n && okB m with
  | false => rw [e0, if_neg Bool.false_ne_true] at h; exact iteF h
  | true =>
    rw [e0, if_pos rfl] at h
    refine iteT ?_
    refine ⟨_, rfl, _, rfl, x, C, dx, _, rfl, hx, T.cl, T.n1, Nat.lt_of_sub_eq_succ rfl, ?_⟩
    refine ⟨_, rfl, _, rfl, x, C, dx, _, rfl, upd_same, T.cl, T.n2, Nat.lt_of_sub_eq_succ rfl, ?_⟩
    rw [upd_upd, show putF "coins" (V.int m) (putF "many_acres" (V.int n) []) = ([("many_acres", V.int n), ("coins", V.int m)] : List (Str × V)) from rfl]
    have x2 : (upd H x (.ins C dx [("many_acres", .int n), ("coins", .int m)])) x = some (.ins C dx [("many_acres", .int n), ("coins", .int m)]) := upd_same
    have f2 : ∀ c o, c ≠ x → H c = some o → (upd H x (.ins C dx [("many_acres", .int n), ("coins", .int m)])) c = some o := fun c o hc ho => by rw [upd_ne hc]; exact ho
    have z2 : ∀ c, (upd H x (.ins C dx [("many_acres", .int n), ("coins", .int m)])) c = none → H c = none ∧ x ≠ c := fun c hc => by
      have hne : x ≠ c := ne_of_none x2 hc
      rw [upd_ne (Ne.symm hne)] at hc
      exact ⟨hc, hne⟩
    generalize upd H x (.ins C dx [("many_acres", .int n), ("coins", .int m)]) = H2 at x2 f2 z2 ⊢
    refine fun d hd => ⟨small (by simp), fun st hst => ?_⟩
    have nd : x ≠ d := ne_of_none x2 hd
    have d3 : (upd H2 d (.dK [])) d = some (.dK []) := upd_same
    have nst : st ≠ d := Ne.symm (ne_of_none d3 hst)
    have hst2 : H2 st = none := by rw [upd_ne nst] at hst; exact hst
    have nxst : x ≠ st := ne_of_none x2 hst2
    refine ⟨_, rfl, x, C, dx, _, rfl, by rw [upd_ne nxst, upd_ne nd]; exact x2, T.cl, T.n3, Nat.lt_of_sub_eq_succ rfl, ?_⟩
    generalize hH3 : upd _ x _ = H3
    have x3 : H3 x = some (.ins C dx [("many_acres", .int n), ("coins", .int m), ("standing", .ref st)]) := by rw [← hH3, upd_same]; rfl
    have s3 : H3 st = some (.tup [.int 1, .ref d]) := by rw [← hH3, upd_ne (Ne.symm nxst), upd_same]
    have k3 : H3 d = some (.dK []) := by rw [← hH3, upd_ne (Ne.symm nd), upd_ne (Ne.symm nst), upd_same]
    have f3 : ∀ c o, c ≠ x → H2 c = some o → H3 c = some o := fun c o hc ho => by rw [← hH3, upd_ne hc, upd_ne (ne_of_none ho hst2), upd_ne (ne_of_none ho hd)]; exact ho
    clear hH3
    refine ⟨small (by simp), fun e he => ?_⟩
    have ne : x ≠ e := ne_of_none x3 he
    refine ⟨_, rfl, x, C, dx, _, rfl, by rw [upd_ne ne]; exact x3, T.cl, T.n4, Nat.lt_of_sub_eq_succ rfl, ?_⟩
    generalize hH4 : upd _ x _ = H4
    have x4 : H4 x = some (.ins C dx [("many_acres", .int n), ("coins", .int m), ("standing", .ref st), ("earlier", .ref e)]) := by rw [← hH4, upd_same]; rfl
    have e4 : H4 e = some (.lst []) := by rw [← hH4, upd_ne (Ne.symm ne), upd_same]
    have f4 : ∀ c o, c ≠ x → H3 c = some o → H4 c = some o := fun c o hc ho => by rw [← hH4, upd_ne hc, upd_ne (ne_of_none ho he)]; exact ho
    clear hH4
    refine ⟨small (by simp), fun l hl => ?_⟩
    have nl : x ≠ l := ne_of_none x4 hl
    refine ⟨_, rfl, x, C, dx, _, rfl, by rw [upd_ne nl]; exact x4, T.cl, T.n5, Nat.lt_of_sub_eq_succ rfl, ?_⟩
    generalize hH5 : upd _ x _ = H5
    have x5 : H5 x = some (.ins C dx (FR n m st e l)) := by rw [← hH5, upd_same]; rfl
    have l5 : H5 l = some (.lst []) := by rw [← hH5, upd_ne (Ne.symm nl), upd_same]
    have f5 : ∀ c o, c ≠ x → H4 c = some o → H5 c = some o := fun c o hc ho => by rw [← hH5, upd_ne hc, upd_ne (ne_of_none ho hl)]; exact ho
    clear hH5
    have back : ∀ (Ha Hb : Hp), (∀ c o, c ≠ x → Ha c = some o → Hb c = some o) → ∀ c, c ≠ x → Hb c = none → Ha c = none := fun Ha Hb ff c hc hb => by
      cases q : Ha c with
      | none => rfl
      | some u => rw [ff c u hc q] at hb; cases hb
    refine h st d e l H5 (fun c o hc ho => f5 _ _ hc (f4 _ _ hc (f3 _ _ hc (f2 _ _ hc ho)))) ⟨x5, f5 _ _ (Ne.symm nxst) (f4 _ _ (Ne.symm nxst) s3), f5 _ _ (Ne.symm nd) (f4 _ _ (Ne.symm nd) k3), f5 _ _ (Ne.symm ne) e4, l5⟩
      (z2 st hst2).1 (z2 d hd).1 (z2 e (back H2 H3 f3 e (Ne.symm ne) he)).1 (z2 l (back H2 H3 f3 l (Ne.symm nl) (back H3 H4 f4 l (Ne.symm nl) hl))).1 ne nl nxst nd
end
end M

namespace M
open PySem L2 PyProof.Rows
theorem bt_dict : bootBuiltins "dict" = some (.type "dict") := by decide +kernel
theorem bt_range : bootBuiltins "range" = some (.type "range") := by decide +kernel

def Keep2 (x e : Addr) (H H' : Hp) : Prop := ∀ c o, c ≠ x → c ≠ e → H c = some o → H' c = some o
def spAcr (C : Addr) : Sp := fun vs H Q _ => ∃ x dx st d e l n m fr kvs es ls, vs = [.ref x] ∧ RollAt C H x dx st d e l n m fr kvs es ls ∧ Q (.int n) H
def spBea (C : Addr) : Sp := fun vs H Q _ => ∃ x dx st d e l n m fr kvs es ls, vs = [.ref x] ∧ RollAt C H x dx st d e l n m fr kvs es ls ∧ Q (.int m) H
def spFre (C : Addr) : Sp := fun vs H Q _ => ∃ x dx st d e l n m fr kvs es ls, vs = [.ref x] ∧ RollAt C H x dx st d e l n m fr kvs es ls ∧ Q (.int fr) H
def spRowsR (C : Addr) : Sp := fun vs H Q _ => ∃ x dx st d e l n m fr kvs es ls, vs = [.ref x] ∧ RollAt C H x dx st d e l n m fr kvs es ls ∧ kvs.length < 64 ∧
  ∀ (q : Addr) (as : List Addr) (ys : List (Int × V)) (H' : Hp), (∀ b u, H b = some u → H' b = some u) → H q = none → H' q = some (.lst (as.map V.ref)) → ys.Perm kvs → ys.Pairwise (fun x y => x.1 < y.1) → Items H' as ys → Q (.ref q) H'
def spSettle (C : Addr) : Sp := fun vs H Q _ => ∃ x dx st d e l n m fr kvs es ls d' fr' kvs', vs = [.ref x, .int fr', .ref d'] ∧ RollAt C H x dx st d e l n m fr kvs es ls ∧ H d' = some (.dK (ikv kvs')) ∧ es.length < 1000 ∧ x ≠ e ∧
  ∀ st' l' H', Keep2 x e H H' → RollAt C H' x dx st' d' e l' n m fr' kvs' (es ++ [.ref st]) [] → H st' = none → H l' = none → Q .non H'
def spAlone : Sp := fun vs H Q _ => ∃ p d r kvs as rows, vs = [.ref p, .ref d] ∧ H p = some (.tup r) ∧ r.all isIS = true ∧ H d = some (.dK (ikv kvs)) ∧ kvs.map (·.2) = as.map V.ref ∧ RowsAt H as rows ∧ (∀ q ∈ rows, q.all isIS = true) ∧ r ∉ rows ∧ ∀ H', Same H H' → Q .non H'
section
variable {P : Program} {w : World} {K : PySem.W.Frag} {mg : Str → Option Value} {base : Heap} {f C : Addr} {fd : FuncData}
theorem scAcr : FnScope ["self"] ["self"] (defScope sAcres) := ⟨rfl, rfl, rfl, by decide +kernel, rfl, by decide +kernel, by decide +kernel⟩
theorem ok_acr (T : RollC K C) (F : Fun K "acres" "Roll.acres" sAcres f fd) : FnOk P w K mg base CX0 1 f fd ["self"] (spAcr C) := by
  refine F.ok scAcr (fun vs H Q E h => ?_) (fun cdv A outer s H vs Q E hr h => ?_)
  · obtain ⟨x, dx, st, d, e, l, n, m, fr, kvs, es, ls, rfl, _⟩ := h
    rfl
  obtain ⟨x, dx, st, d, e, l, n, m, fr, kvs, es, ls, rfl, R, k⟩ := h
  refine ⟨_, pss_one (ps_ret (pe_fld (pv 0) rfl)), ?_⟩
  exact ⟨_, rfl, x, C, dx, _, _, rfl, R.o, T.cl, T.n1, rfl, k⟩
theorem scBea : FnScope ["self"] ["self"] (defScope sBears) := ⟨rfl, rfl, rfl, by decide +kernel, rfl, by decide +kernel, by decide +kernel⟩
theorem ok_bea (T : RollC K C) (F : Fun K "bears" "Roll.bears" sBears f fd) : FnOk P w K mg base CX0 1 f fd ["self"] (spBea C) := by
  refine F.ok scBea (fun vs H Q E h => ?_) (fun cdv A outer s H vs Q E hr h => ?_)
  · obtain ⟨x, dx, st, d, e, l, n, m, fr, kvs, es, ls, rfl, _⟩ := h
    rfl
  obtain ⟨x, dx, st, d, e, l, n, m, fr, kvs, es, ls, rfl, R, k⟩ := h
  refine ⟨_, pss_one (ps_ret (pe_fld (pv 0) rfl)), ?_⟩
  exact ⟨_, rfl, x, C, dx, _, _, rfl, R.o, T.cl, T.n2, rfl, k⟩
theorem scFre : FnScope ["self"] ["self"] (defScope sFree) := ⟨rfl, rfl, rfl, by decide +kernel, rfl, by decide +kernel, by decide +kernel⟩
theorem ok_fre (T : RollC K C) (F : Fun K "free" "Roll.free" sFree f fd) : FnOk P w K mg base CX0 1 f fd ["self"] (spFre C) := by
  refine F.ok scFre (fun vs H Q E h => ?_) (fun cdv A outer s H vs Q E hr h => ?_)
  · obtain ⟨x, dx, st, d, e, l, n, m, fr, kvs, es, ls, rfl, _⟩ := h
    rfl
  obtain ⟨x, dx, st, d, e, l, n, m, fr, kvs, es, ls, rfl, R, k⟩ := h
  refine ⟨_, pss_one (ps_ret (pe_ix ix_tup (pe_fld (pv 0) rfl) pe_int (fun _ _ => rfl))), ?_⟩
  exact ⟨_, rfl, x, C, dx, _, _, rfl, R.o, T.cl, T.n3, rfl, st, _, _, _, rfl, rfl, SqT.of R.s, atI_nat (j := 0) rfl, k⟩
theorem scRowsR : FnScope ["self"] ["self"] (defScope sRows) := ⟨rfl, rfl, rfl, by decide +kernel, rfl, by decide +kernel, by decide +kernel⟩
theorem ok_rowsR (T : RollC K C) (F : Fun K "rows" "Roll.rows" sRows f fd) (ms : mg "sorted" = none) : FnOk P w K mg base CX0 1 f fd ["self"] (spRowsR C) := by
  refine F.ok scRowsR (fun vs H Q E h => ?_) (fun cdv A outer s H vs Q E hr h => ?_)
  · obtain ⟨x, dx, st, d, e, l, n, m, fr, kvs, es, ls, rfl, _⟩ := h
    rfl
  obtain ⟨x, dx, st, d, e, l, n, m, fr, kvs, es, ls, rfl, R, h64, k⟩ := h
  refine ⟨_, pss_one (ps_ret (pe_callB (call_sortI hr.hd) rfl ms bt_sorted (pa_cons (pe_items (pe_ix ix_tup (pe_fld (pv 0) rfl) pe_int (fun _ _ => rfl))) pa_nil))), ?_⟩
  refine ⟨_, rfl, x, C, dx, _, _, rfl, R.o, T.cl, T.n3, rfl, st, _, _, _, rfl, rfl, SqT.of R.s, atI_nat (j := 1) rfl, d, _, rfl, R.k, fun v hv => ?_⟩
  have s1 := same_new hv (ItemsV v d)
  exact ⟨v, d, kvs, rfl, upd_same, s1 _ _ R.k, h64, fun q as ys H' hs hq hl hp hw hi => k q as ys H' (fun b u e => hs b u (s1 b u e)) (by
    cases e : H q with
    | none => rfl
    | some u => rw [s1 q u e] at hq; cases hq) hl hp hw hi⟩
theorem scSettle : FnScope ["self", "free", "held"] ["self", "free", "held"] (defScope sSettle) := ⟨rfl, rfl, rfl, by decide +kernel, rfl, by decide +kernel, by decide +kernel⟩
set_option maxHeartbeats 4000000 in
theorem ok_settle (T : RollC K C) (F : Fun K "settle" "Roll.settle" sSettle f fd) : FnOk P w K mg base CX0 1 f fd ["self", "free", "held"] (spSettle C) := by
  refine F.ok scSettle (fun vs H Q E h => ?_) (fun cdv A outer s H vs Q E hr h => ?_)
  · obtain ⟨x, dx, st, d, e, l, n, m, fr, kvs, es, ls, d', fr', kvs', rfl, _⟩ := h
    rfl
  obtain ⟨x, dx, st, d, e, l, n, m, fr, kvs, es, ls, d', fr', kvs', rfl, R, hd', hes, nxe, k⟩ := h
  refine ⟨_, pss_cons (ps_expr (pe_bm PySem.F.plainAttrs_list PySem.F.slot_list_append PySem.F.type_list_append mt_append (pe_fld (pv 0) rfl) (pa_cons (pe_fld (pv 0) rfl) pa_nil)))
    (pss_cons (ps_fld (pv 0) (pe_tup (pa_cons (pv 1) (pa_cons (pv 2) pa_nil))) rfl)
    (pss_one (ps_fld (pv 0) (pe_lst pa_nil) rfl))), ?_⟩
  refine ⟨_, rfl, x, C, dx, _, _, rfl, R.o, T.cl, T.n4, rfl, .inl ⟨rfl, _, SqL.of R.e⟩, _, rfl, x, C, dx, _, _, rfl, R.o, T.cl, T.n3, rfl, e, _, _, rfl, rfl, R.e, small' (by omega), ?_⟩
  have nde : d' ≠ e := fun z => by rw [z, R.e] at hd'; cases hd'
  have ndx : d' ≠ x := fun z => by rw [z, R.o] at hd'; cases hd'
  have e1 : (upd H e (.lst (es ++ [.ref st]))) e = some (.lst (es ++ [.ref st])) := upd_same
  have x1 : (upd H e (.lst (es ++ [.ref st]))) x = some (.ins C dx (FR n m st e l)) := by rw [upd_ne nxe]; exact R.o
  have k1 : (upd H e (.lst (es ++ [.ref st]))) d' = some (.dK (ikv kvs')) := by rw [upd_ne nde]; exact hd'
  have f1 : Keep2 x e H (upd H e (.lst (es ++ [.ref st]))) := fun c o _ hc ho => by rw [upd_ne hc]; exact ho
  have z1 : ∀ c, (upd H e (.lst (es ++ [.ref st]))) c = none → H c = none := fun c hc => by
    have : c ≠ e := fun z => by rw [z, upd_same] at hc; cases hc
    rw [upd_ne this] at hc; exact hc
  generalize upd H e (.lst (es ++ [.ref st])) = H1 at e1 x1 k1 f1 z1 ⊢
  refine ⟨_, rfl, _, rfl, small (by simp), fun st' hst => ?_⟩
  have nxs : x ≠ st' := ne_of_none x1 hst
  refine ⟨_, rfl, x, C, dx, _, rfl, by rw [upd_ne nxs]; exact x1, T.cl, T.n3, Nat.lt_of_sub_eq_succ rfl, ?_⟩
  generalize hH2 : upd _ x _ = H2
  have x2 : H2 x = some (.ins C dx (FR n m st' e l)) := by rw [← hH2, upd_same]; rfl
  have s2 : H2 st' = some (.tup [.int fr', .ref d']) := by rw [← hH2, upd_ne (Ne.symm nxs), upd_same]
  have f2 : ∀ c o, c ≠ x → H1 c = some o → H2 c = some o := fun c o hc ho => by rw [← hH2, upd_ne hc, upd_ne (ne_of_none ho hst)]; exact ho
  clear hH2
  refine ⟨small (by simp), fun l' hl => ?_⟩
  have nxl : x ≠ l' := ne_of_none x2 hl
  refine ⟨_, rfl, x, C, dx, _, rfl, by rw [upd_ne nxl]; exact x2, T.cl, T.n5, Nat.lt_of_sub_eq_succ rfl, ?_⟩
  generalize hH3 : upd _ x _ = H3
  have x3 : H3 x = some (.ins C dx (FR n m st' e l')) := by rw [← hH3, upd_same]; rfl
  have l3 : H3 l' = some (.lst []) := by rw [← hH3, upd_ne (Ne.symm nxl), upd_same]
  have f3 : ∀ c o, c ≠ x → H2 c = some o → H3 c = some o := fun c o hc ho => by rw [← hH3, upd_ne hc, upd_ne (ne_of_none ho hl)]; exact ho
  clear hH3
  have zl : H1 l' = none := by
    cases q : H1 l' with
    | none => rfl
    | some u => rw [f2 l' u (Ne.symm nxl) q] at hl; cases hl
  exact k st' l' H3 (fun c o hc hce ho => f3 _ _ hc (f2 _ _ hc (f1 _ _ hc hce ho))) ⟨x3, f3 _ _ (Ne.symm nxs) s2, f3 _ _ ndx (f2 _ _ ndx k1), f3 _ _ (Ne.symm nxe) (f2 _ _ (Ne.symm nxe) e1), l3⟩ (z1 _ hst) (z1 _ zl)
theorem ikv_vals (kvs : List (Int × V)) : (ikv kvs).map (·.2) = kvs.map (·.2) := by unfold ikv; rw [List.map_map]; rfl
theorem scAlone : FnScope ["row", "held"] ["row", "held"] (defScope sAlone) := ⟨rfl, rfl, rfl, by decide +kernel, rfl, by decide +kernel, by decide +kernel⟩
theorem ok_alone (F : Fun K "check_alone" "check_alone" sAlone f fd) (ml : mg "list" = none) : FnOk P w K mg base CX0 1 f fd ["row", "held"] spAlone := by
  refine F.ok scAlone (fun vs H Q E h => ?_) (fun cdv A outer s H vs Q E hr h => ?_)
  · obtain ⟨p, d, r, kvs, as, rows, rfl, _⟩ := h
    rfl
  obtain ⟨p, d, r, kvs, as, rows, rfl, hp, hr', hd, hv, hR, hrs, hn, k⟩ := h
  refine ⟨_, pss_one (ps_if (pt_cmpR (op_inR hr.units) (pv 0) (pe_callTy (call_listV hr.hd) rfl ml bt_list (pa_cons (pe_values (pv 1)) pa_nil)) (by with_unfolding_all rfl)) pss_never pss_nil), ?_⟩
  refine ⟨_, rfl, _, rfl, d, _, rfl, hd, fun v hv' => ?_⟩
  have s1 := same_new hv' (ValuesV v d)
  refine ⟨v, d, _, rfl, upd_same, s1 _ _ hd, fun q hq => ?_⟩
  rw [ikv_vals, hv]
  have s2 := same_new hq (.lst (as.map V.ref))
  have s12 := s1.trans s2
  refine ⟨p, q, as, r, rows, rfl, rfl, SqL.of upd_same, s12 _ _ hp, hr', L2.Paired.mapP hR fun a b h => s12 _ _ h, hrs, _, rfl, ?_⟩
  have e : (rows.any fun q => decide (q = r)) = false := by
    rw [List.any_eq_false]
    intro q hq' e
    exact hn ((of_decide_eq_true e) ▸ hq')
  rw [e]
  exact iteF (k _ s12)
end
end M

namespace M
open PySem L2 PyProof.Rows
theorem passX {P : Program} {w : World} {X : Cx} : Passes (CXE P w) X E0 := fun _ _ _ _ _ _ _ z => by
  obtain ⟨_, _, _, _, _, _, _, _, _, _, _, h⟩ := z
  exact h.elim
theorem put_new {kvs : List (Int × V)} {n : Int} {v : V} (h : ∀ p ∈ kvs, p.1 < n) : putK (ikv kvs) (.inl n) v = ikv (kvs ++ [(n, v)]) := by
  unfold putK
  have e : ((ikv kvs).any fun kv => decide (kv.1 = Sum.inl n)) = false := by
    rw [List.any_eq_false]
    intro kv hkv e
    unfold ikv at hkv
    obtain ⟨p, hp, rfl⟩ := List.mem_map.mp hkv
    have e' := of_decide_eq_true e
    injection e' with e'
    have := h p hp
    omega
  rw [e, if_neg Bool.false_ne_true]
  unfold ikv
  rw [List.map_append]; rfl

def news (fr : Nat) (ps : List Addr) : List (Int × V) := (List.range ps.length).map fun i => (((fr + i : Nat) : Int), V.ref (ps.getD i 0))
theorem news_take {fr : Nat} {ps : List Addr} {i : Nat} (hi : i < ps.length) : news fr (ps.take (i + 1)) = news fr (ps.take i) ++ [(((fr + i : Nat) : Int), V.ref ps[i])] := by
  unfold news
  have l1 : (ps.take (i + 1)).length = i + 1 := by rw [List.length_take]; omega
  have l2 : (ps.take i).length = i := by rw [List.length_take]; omega
  rw [l1, l2, List.range_succ, List.map_append]
  congr 1
  · refine List.map_congr_left fun j hj => ?_
    have hj' := List.mem_range.mp hj
    rw [List.getD_eq_getElem?_getD, List.getD_eq_getElem?_getD, List.getElem?_take, List.getElem?_take, if_pos (by omega), if_pos (by omega)]
  · simp only [List.map_cons, List.map_nil]
    rw [List.getD_eq_getElem?_getD, List.getElem?_take, if_pos (by omega), List.getElem?_eq_getElem hi]; rfl
theorem news_vals {fr : Nat} (ps : List Addr) : (news fr ps).map (·.2) = ps.map V.ref := by
  unfold news
  apply List.ext_getElem
  · simp
  · intro i h1 h2
    simp only [List.length_map, List.length_range] at h1
    simp only [List.getElem_map, List.getElem_range]
    rw [List.getD_eq_getElem?_getD, List.getElem?_eq_getElem h1]; rfl
theorem news_lt {fr : Nat} {ps : List Addr} {p : Int × V} (h : p ∈ news fr ps) : ((fr : Nat) : Int) ≤ p.1 ∧ p.1 < ((fr + ps.length : Nat) : Int) := by
  unfold news at h
  obtain ⟨i, hi, rfl⟩ := List.mem_map.mp h
  have := List.mem_range.mp hi
  constructor
  · show ((fr : Nat) : Int) ≤ ((fr + i : Nat) : Int); omega
  · show ((fr + i : Nat) : Int) < _; omega

def goodRow (r : List V) : Prop := (∃ k rest, r = .str k :: rest ∧ Row 1000 k rest) ∧ wm r = true ∧ r.all isIS = true

def spEnterAll (C : Addr) (K : PySem.W.Frag) : Sp := fun vs H Q _ => ∃ x dx st d e l n m kvs es ls rl, ∃ fr : Nat, ∃ (ps as : List Addr) (rs rows : List (List V)), vs = [.ref x, .ref rl] ∧ RollAt C H x dx st d e l n m (fr : Int) kvs es ls ∧ SqL K H rl (ps.map V.ref) ∧ RowsAt H ps rs ∧ (∀ r ∈ rs, goodRow r) ∧
  kvs.map (·.2) = as.map V.ref ∧ RowsAt H as rows ∧ (∀ q ∈ rows, q.all isIS = true) ∧ (∀ p ∈ kvs, p.1 < (fr : Int)) ∧ (rows ++ rs).Nodup ∧ es.length < 1000 ∧ x ≠ e ∧ fr ≤ 1000000 ∧ ps.length ≤ 500 ∧ kvs.length ≤ 1000 ∧
  ∀ q d' st' l' H', Keep2 x e H H' → RollAt C H' x dx st' d' e l' n m ((fr + ps.length : Nat) : Int) (kvs ++ news fr ps) (es ++ [.ref st]) [] → Q (.ref q) H'
theorem rows_app {H : Hp} : ∀ {as bs : List Addr} {rs qs : List (List V)}, RowsAt H as rs → RowsAt H bs qs → RowsAt H (as ++ bs) (rs ++ qs)
  | _, _, _, _, .nil, h => h
  | _, _, _, _, .cons h t, g => .cons h (rows_app t g)
theorem rows_take {H : Hp} : ∀ {as : List Addr} {rs : List (List V)} (i : Nat), RowsAt H as rs → RowsAt H (as.take i) (rs.take i)
  | _, _, 0, _ => .nil
  | _, _, _ + 1, .nil => .nil
  | _, _, i + 1, .cons h t => .cons h (rows_take i t)
theorem rows_at {H : Hp} : ∀ {as : List Addr} {rs : List (List V)} {i : Nat} {a : Addr}, RowsAt H as rs → as[i]? = some a → ∃ r, rs[i]? = some r ∧ H a = some (.tup r)
  | _, _, _, _, .nil, h => by simp at h
  | _, _, 0, _, .cons h t, e => by simp at e; subst e; exact ⟨_, rfl, h⟩
  | _, _, i + 1, a, .cons h t, e => by
    obtain ⟨r, e1, e2⟩ := rows_at (i := i) (a := a) t (by simpa using e)
    exact ⟨r, by simpa using e1, e2⟩
theorem rows_len {H : Hp} {as : List Addr} {rs : List (List V)} (h : RowsAt H as rs) : as.length = rs.length := h.length
section
variable {P : Program} {w : World} {K : PySem.W.Frag} {mg : Str → Option Value} {base : Heap} {f C : Addr} {fd : FuncData}
theorem scEnterAll : FnScope ["self", "rows", "row", "first", "held", "entered", "number", "free"] ["self", "rows"] (defScope sEnterAll) := ⟨rfl, rfl, rfl, by decide +kernel, rfl, by decide +kernel, by decide +kernel⟩
set_option maxHeartbeats 16000000 in
theorem ok_enterAll (T : RollC K C) (F : Fun K "enter_all" "Roll.enter_all" sEnterAll f fd) (md : mg "dict" = none) (me : mg "enumerate" = none) (mn : mg "len" = none) (ml : mg "list" = none) (mr : mg "range" = none) {CF : Addr} {g1 g2 g3 : Addr} {d1 d2 d3 : FuncData}
    (G1 : FnOk P w K mg base (CXE P w) 4 g1 d1 ["row"] (spCheck CF goodX wm K)) (M1 : Ms K mg "check_row" g1 d1 ["row"])
    (G2 : FnOk P w K mg base CX0 1 g2 d2 ["row", "held"] spAlone) (M2 : Ms K mg "check_alone" g2 d2 ["row", "held"])
    (G3 : FnOk P w K mg base CX0 1 g3 d3 ["self", "free", "held"] (spSettle C)) (m3 : Meth K C "settle" g3) (b3 : Binds K d3 ["self", "free", "held"] []) : FnOk P w K mg base CX0 5 f fd ["self", "rows"] (spEnterAll C K) := by
  refine F.ok scEnterAll (fun vs H Q E h => ?_) (fun cdv A outer s H vs Q E hr h => ?_)
  · obtain ⟨x, dx, st, d, e, l, n, m, kvs, es, ls, rl, fr, ps, as, rs, rows, rfl, _⟩ := h
    rfl
  obtain ⟨x, dx, st, d, e, l, n, m, kvs, es, ls, rl, fr, ps, as, rs, rows, rfl, R, hL, hps, hgood, hvals, has, hflat, hlt, hnd, hes, nxe, hfr, hpl, hkl, k⟩ := h
  have hr1 : Room 1 _ := hr.mono (by decide)
  refine ⟨_, pss_cons (ps_for PassesOwn.never rfl (pi_list (pv 1)) (pg_name (i := 2) scEnterAll.nd rfl (Or.inl rfl))
      (pss_one (ps_expr (pe_call (CX := CXE P w) (E := E0) G1 hr rfl M1.m M1.k M1.b .nil passX (pa_cons (pv 2) pa_nil)))))
    (pss_cons (ps_asg (pe_fld (pv 0) rfl) (pg_tup rfl (pgs_cons (pg_name (i := 3) scEnterAll.nd rfl (Or.inl rfl)) (pgs_cons (pg_name (i := 4) scEnterAll.nd rfl (Or.inl rfl)) pgs_nil))))
    (pss_cons (ps_set (i := 5) scEnterAll.nd rfl (Or.inl rfl) (pe_callTy call_dictD rfl md bt_dict (pa_cons (pv 4) pa_nil)))
    (pss_cons (ps_for PassesOwn.never rfl (pi_enumF rfl me (pa_cons (pv 1) pa_nil) (pv 3)) (pg_tup rfl (pgs_cons (pg_name (i := 6) scEnterAll.nd rfl (Or.inl rfl)) (pgs_cons (pg_name (i := 2) scEnterAll.nd rfl (Or.inl rfl)) pgs_nil)))
      (pss_cons (ps_expr (pe_call G2 hr1 rfl M2.m M2.k M2.b .nil pass0 (pa_cons (pv 2) (pa_cons (pv 5) pa_nil))))
      (pss_one (ps_dput (u1 hr) (pv 5) (pv 6) (pv 2) rfl))))
    (pss_cons (ps_set (i := 7) scEnterAll.nd rfl (Or.inl rfl) (pe_op op_add (pv 3) (pe_callB call_len_seq rfl mn PySem.boot_len (pa_cons (pv 1) pa_nil))))
    (pss_cons (ps_expr (pe_meth (pv 0) T.cl m3 G3 hr1 b3 .nil pass0 (pa_cons (pv 7) (pa_cons (pv 5) pa_nil))))
    (pss_one (ps_ret (pe_callTy (call_listR hr.hd) rfl ml bt_list (pa_cons (pe_callTy call_rng rfl mr bt_range (pa_cons (pv 3) (pa_cons (pv 7) pa_nil))) pa_nil))))))))), ?_⟩
  have lps : ps.length = rs.length := rows_len hps
  -- all rows are well made
  refine ⟨_, rfl, rl, rfl, ⟨_, hL⟩, for_list (K := K) (a := rl) (xs := ps.map V.ref) (fun i σ H2 => (∃ u, σ = [some (.ref x), some (.ref rl), u, none, none, none, none, none]) ∧ Same H H2) ⟨⟨none, rfl⟩, Same.refl _⟩ (fun i σ H2 _ h => h.2.seq hL) ?_ ?_⟩
  · rintro i v σ H2 hv ⟨⟨u, rfl⟩, s2⟩
    rw [List.getElem?_map] at hv
    obtain ⟨a, ha, rfl⟩ := Option.map_eq_some_iff.mp hv
    obtain ⟨r, e1, e2⟩ := rows_at hps ha
    obtain ⟨hg1, hg2, _⟩ := hgood r (List.mem_of_getElem? e1)
    refine ⟨_, rfl, a, r, rfl, SqT.of (s2 _ _ e2), hg1, ?_⟩
    rw [hg2]
    exact iteT fun H3 s3 => ⟨⟨_, rfl⟩, s2.trans s3⟩
  rintro σ H2 ⟨⟨u, rfl⟩, s2⟩
  have R2 := R.same s2
  refine ⟨_, rfl, x, C, dx, _, _, rfl, R2.o, T.cl, T.n3, rfl, st, _, rfl, SqT.of R2.s, rfl, _, _, rfl, _, _, rfl, rfl, ?_⟩
  refine ⟨_, rfl, d, _, rfl, R2.k, fun d' hd' => ?_⟩
  have s3 : Same H (upd H2 d' (.dK (ikv kvs))) := s2.trans (same_new hd' _)
  have k3 : (upd H2 d' (.dK (ikv kvs))) d' = some (.dK (ikv kvs)) := upd_same
  have hd0 : H d' = none := s2.free hd'
  have hL3 := s3.seq hL
  refine ⟨_, rfl, _, rfl, rl, _, fr, rfl, rfl, by omega, hL3, ?_⟩
  have kpt : ∀ {H' : Hp}, (∀ c o, H c = some o → H' c = some o) → RowsAt H' ps rs ∧ RowsAt H' as rows := fun hk => ⟨L2.Paired.mapP hps fun a b h => hk _ _ h, L2.Paired.mapP has fun a b h => hk _ _ h⟩
  refine for_zip (n := ps.length) (fx := fun i => V.int ((fr + i : Nat) : Int)) (fy := fun i => (ps.map V.ref).getD i .non)
    (fun i σ Hx => ∃ u6 u2 : Option V, σ = [some (.ref x), some (.ref rl), u2, some (.int (fr : Int)), some (.ref d), some (.ref d'), u6, none] ∧ Same H Hx ∧ Hx d' = some (.dK (ikv (kvs ++ news fr (ps.take i))))) ?_
    ⟨none, u, rfl, s3, by rw [k3]; unfold news; simp⟩ ?_ ?_
  · rintro i σ Hx ⟨u6, u2, rfl, sx, kx⟩
    have st' := from_steps (K := K) (l := rl) (xs := ps.map V.ref) (c := fr) (H := Hx) (i := i) (sx.seq hL)
    rw [List.length_map] at st'
    exact st'
  · rintro i σ Hx t hi ⟨u6, u2, rfl, sx, kx⟩ ht
    have ei : (ps.map V.ref).getD i .non = V.ref ps[i] := by rw [List.getD_eq_getElem?_getD, List.getElem?_map, List.getElem?_eq_getElem hi]; rfl
    rw [ei]
    have s4 : Same Hx (upd Hx t (.tup [V.int ((fr + i : Nat) : Int), V.ref ps[i]])) := same_new ht _
    refine ⟨t, _, rfl, SqT.of upd_same, rfl, _, _, rfl, _, _, rfl, rfl, ?_⟩
    have t4 := sx.trans s4
    have k4 := s4 _ _ kx
    generalize upd Hx t (.tup [V.int ((fr + i : Nat) : Int), V.ref ps[i]]) = H4 at t4 k4 ⊢
    obtain ⟨r, e1, e2⟩ := rows_at hps (List.getElem?_eq_getElem hi)
    obtain ⟨r4, a4⟩ := kpt t4
    obtain ⟨_, _, hflr⟩ := hgood r (List.mem_of_getElem? e1)
    refine ⟨_, rfl, _, rfl, ps[i], d', r, _, as ++ ps.take i, rows ++ rs.take i, rfl, t4 _ _ e2, hflr, k4, by rw [List.map_append, hvals, news_vals, List.map_append], rows_app a4 (rows_take i r4), fun q hq => ?_, fun hm => ?_, fun H5 s5 => ?_⟩
    · rcases List.mem_append.mp hq with z | z
      · exact hflat q z
      · exact (hgood q (List.mem_of_mem_take z)).2.2
    · have hi' : i < rs.length := by omega
      have er : rs[i] = r := by rw [List.getElem?_eq_getElem hi'] at e1; exact Option.some.inj e1
      have pw := List.nodup_append.mp hnd
      rcases List.mem_append.mp hm with z | z
      · exact pw.2.2 r z r (List.mem_of_getElem? e1) rfl
      · obtain ⟨j, hj⟩ := List.mem_iff_getElem?.mp z
        rw [List.getElem?_take] at hj
        split at hj
        · rename_i hji
          have hj2 : j < rs.length := (List.getElem?_eq_some_iff.mp hj).1
          have pw2 := List.pairwise_iff_getElem.mp pw.2.1
          refine pw2 j i hj2 hi' hji ?_
          rw [List.getElem?_eq_getElem hj2] at hj
          rw [Option.some.inj hj, er]
        · cases hj
    · have k5 := s5 _ _ k4
      have t5 := t4.trans s5
      refine ⟨_, rfl, _, rfl, _, rfl, d', _, rfl, DPut.k (k := .inl ((fr + i : Nat) : Int)) k5 (by
        unfold ikv
        rw [List.length_map, List.length_append]
        unfold news
        rw [List.length_map, List.length_range, List.length_take]
        exact small' (by omega)), ?_⟩
      rw [put_new (fun p hp => by
        rcases List.mem_append.mp hp with z | z
        · have := hlt p z; omega
        · have := (news_lt z).2
          rw [List.length_take] at this
          omega), List.append_assoc, ← news_take hi]
      exact ⟨_, _, rfl, same_upd t5 hd0, upd_same⟩
  · rintro σ Hx ⟨u6, u2, rfl, sx, kx⟩
    rw [List.take_of_length_le (Nat.le_refl _)] at kx
    refine ⟨_, rfl, _, rfl, rl, _, rfl, .inl (sx.seq hL), _, _, rfl, rfl, ?_⟩
    rw [List.length_map]
    dsimp only
    have ef : (fr : Int) + ((ps.length : Nat) : Int) = ((fr + ps.length : Nat) : Int) := by omega
    rw [ef]
    refine ⟨_, rfl, x, dx, _, rfl, sx _ _ R.o, rfl, _, rfl, _, rfl, x, dx, st, d, e, l, n, m, _, kvs, es, ls, d', _, _, rfl, R.same sx, kx, hes, nxe, fun st' l' H' hK hR' _ _ => ?_⟩
    refine ⟨_, rfl, _, rfl, _, _, rfl, fun p hp => ?_⟩
    have s6 := same_new hp (.rng (fr : Int) ((fr + ps.length : Nat) : Int))
    refine ⟨p, _, _, rfl, upd_same, by omega, by omega, by omega, by omega, fun q hq => ?_⟩
    have s7 := s6.trans (same_new hq (.lst ((List.range (((fr + ps.length : Nat) : Int) - (fr : Int)).toNat).map fun i => V.int ((fr : Int) + (i : Nat)))))
    exact k q d' st' l' _ (fun c o h1 h2 h3 => s7 _ _ (hK c o h1 h2 (sx _ _ h3))) (hR'.same s7)
end
end M

namespace L2
open PySem PySem.Spec PyProof.Rows PySem.W

def tMakeS (C : Addr) (sp : Sp) (dvs : List V) (E : St → XK) (t : TA) : TE := fun σ H Q => t σ H fun vs H1 => ∀ x dx, H1 x = none → H1 dx = none → dx ≠ x →
  sp (.ref x :: (vs ++ dvs)) (upd (upd H1 dx (.own x)) x (.ins C dx [])) (fun v H2 => v = .non ∧ Q (.ref x) H2) (E σ)
section
variable {X : Cx} {CX : CXT} {k : Nat} {f C : Addr} {fd : FuncData} {ps : List Str} {sp : Sp} {dvs : List V} {ds : List Value} {E : St → XK} {x m : Str} {p pos apos : Pos} {e o : Expr} {es : List Expr} {ta : TE} {t : TA}
theorem run_makeS {pins : List (Addr × Obj)} {σ : St} {H : Hp} {s : Shared} {Q : VK} {us : List Value} {vs : List V} (M : Mk X.K C f) (F : FnOk X.prog X.w X.K X.mg X.base CX k f fd ps sp) (hr : Room (k + 1) X.A) (hb : Binds X.K fd ps ds) (hd : Vals dvs ds)
    (hx : PassesS CX X E) (I : Inv X pins σ H s) (r : Vals vs us)
    (h : ∀ x dx, H x = none → H dx = none → dx ≠ x → sp (.ref x :: (vs ++ dvs)) (upd (upd H dx (.own x)) x (.ins C dx [])) (fun v H2 => v = .non ∧ Q (.ref x) H2) (E σ)) :
    wpAny (model X.prog X.w) X.A (call (.ref C) us) (EP X pins σ Q) X.xe s := by
  have hq := h (s.heap.objs.size + 1) s.heap.objs.size (I.hok.fresh (Nat.le_succ _)) (I.hok.fresh (Nat.le_refl _)) (Nat.ne_of_lt (Nat.lt_succ_self _))
  have I2 := Inv.made (C := C) I
  have r2 : Vals (V.ref (s.heap.objs.size + 1) :: (vs ++ dvs)) (Value.ref (s.heap.objs.size + 1) :: (us ++ ds)) := .cons rfl (r.append hd)
  have hl : (Value.ref (s.heap.objs.size + 1) :: us ++ ds).length = ps.length := by
    have e := r2.length
    rw [F.len _ _ _ _ hq] at e
    exact e.symm
  refine wpAny_call (make_map (f := f) I.kIn M.makes M.init (beq_iff_eq.mp M.fn) (codeAny_mono (F.run _ X.stack _ _ ⟨Value.ref (s.heap.objs.size + 1) :: us, []⟩ (Value.ref (s.heap.objs.size + 1) :: (us ++ ds)) _ _ (E σ) (hr.make C us [])
    (I2.env0.make C us []) (hb _ (Value.ref (s.heap.objs.size + 1) :: us) I2.kIn hl) r2 hq) fun r s' hq' => ?_))
  cases r with
  | error e => exact hx pins σ _ _ e s' I2 hq'
  | ok fl =>
    cases fl with
    | ret u =>
      obtain ⟨v, H', I3, rv, ev, q3⟩ := I2.after hq'
      subst ev
      exact ⟨rv, ⟨V.ref (s.heap.objs.size + 1), H', I3, rfl, q3⟩⟩
    | next => exact False.elim hq'
    | brk => exact False.elim hq'
    | cont => exact False.elim hq'
theorem pe_makeS (M : Mk X.K C f) (F : FnOk X.prog X.w X.K X.mg X.base CX k f fd ps sp) (hr : Room (k + 1) X.A) (hg : Gl X x) (hm : X.mg x = some (.ref C)) (hb : Binds X.K fd ps ds) (hd : Vals dvs ds) (hx : PassesS CX X E)
    (ha : PA X (e :: es) t) (hdb : (x == ("__debug__" : Str)) = false := by decide) (he : starEach (e :: es) X.env = (false, eval e X.env) :: starEach es X.env := by rfl) (hpl : (backTo pos (starEach es X.env)).any (·.1) = false := by rfl) :
    PE X (.Call (.Name x p) (e :: es) [] pos) (tMakeS C sp dvs E t) := by
  intro pins s σ H Q I h
  refine wpAny_Call_Name_kw (ld_glob I hg hm ?_ hdb)
  refine PySem.W.callWith_K (h₀ := X.base) I.ok.mod.kin M.kp (thn (ha pos pins s σ H _ I h) fun us s1 ⟨vs, H1, I1, r, q⟩ => ⟨I1.kIn, ?_⟩) he hpl
  exact run_makeS M F hr hb hd hx I1 r q
end
end L2
namespace M
open PySem L2 PyProof.Rows

structure DeskC (K : PySem.W.Frag) (C : Addr) : Prop where
  cl : Cls K C
  n1 : NoAttr K C "roll"

structure NewR (C : Addr) (H H' : Hp) (r dr st d e l : Addr) (n m : Int) : Prop where
  at_ : RollAt C H' r dr st d e l n m 1 [] [] []
  hr : H r = none
  hst : H st = none
  hd : H d = none
  he : H e = none
  hl : H l = none
  ne : r ≠ e
  nl : r ≠ l
  ns : r ≠ st
  nd : r ≠ d
def spInitD (CD C CL : Addr) : Sp := fun vs H Q E => ∃ y dy, ∃ n m : Int, vs = [.ref y, .int n, .int m] ∧ H y = some (.ins CD dy []) ∧ if (okA n && okB m) = true then
    (∀ r dr st d e l H', (∀ c o, c ≠ y → H c = some o → H' c = some o) → H' y = some (.ins CD dy [("roll", .ref r)]) → NewR C H H' r dr st d e l n m → Q .non H')
  else ∀ H', Same H H' → E (.ref CL) none H'
section
variable {P : Program} {w : World} {K : PySem.W.Frag} {mg : Str → Option Value} {base : Heap} {f C CD : Addr} {fd : FuncData}

theorem make_roll {CL : Addr} {H1 : Hp} {n m : Int} {R : Hp → Prop} {E : XK} {r dr : Addr} (hr : H1 r = none) (hdr : H1 dr = none) (hne : dr ≠ r)
    (h : if (okA n && okB m) = true then ∀ st d e l H', (∀ c o, H1 c = some o → H' c = some o) → NewR C H1 H' r dr st d e l n m → R H' else ∀ H', Same H1 H' → E (.ref CL) none H') :
    spInitR C CL (.ref r :: ([V.int n, V.int m] ++ [])) (upd (upd H1 dr (.own r)) r (.ins C dr [])) (fun v H2 => v = .non ∧ R H2) E := by
  have sm : ∀ c o, H1 c = some o → (upd (upd H1 dr (.own r)) r (.ins C dr [])) c = some o := fun c o ho => by rw [upd_ne (ne_of_none ho hr), upd_ne (ne_of_none ho hdr)]; exact ho
  refine ⟨r, dr, n, m, rfl, upd_same, ?_⟩
  cases e0 : okA n && okB m with
  | false => rw [e0, if_neg Bool.false_ne_true] at h; exact iteF (h _ sm)
  | true =>
    rw [e0, if_pos rfl] at h
    refine iteT fun st d e l H' hk hR h1 h2 h3 h4 n1 n2 n3 n4 => ⟨rfl, h st d e l H' (fun c o ho => hk c o (ne_of_none ho hr) (sm c o ho)) ⟨hR, hr, ?_, ?_, ?_, ?_, n1, n2, n3, n4⟩⟩
    all_goals
      first
        | (cases q : H1 st with
          | none => rfl
          | some u => rw [sm _ u q] at h1; cases h1)
        | (cases q : H1 d with
          | none => rfl
          | some u => rw [sm _ u q] at h2; cases h2)
        | (cases q : H1 e with
          | none => rfl
          | some u => rw [sm _ u q] at h3; cases h3)
        | (cases q : H1 l with
          | none => rfl
          | some u => rw [sm _ u q] at h4; cases h4)
theorem scInitD : FnScope ["self", "acres", "bears"] ["self", "acres", "bears"] (defScope sInitD) := ⟨rfl, rfl, rfl, by decide +kernel, rfl, by decide +kernel, by decide +kernel⟩
theorem ok_initD (TD : DeskC K CD) (F : Fun K "__init__" "Desk.__init__" sInitD f fd) {CL : Addr} {g1 : Addr} {d1 : FuncData} (G1 : FnOk P w K mg base (CXE P w) 4 g1 d1 ["self", "acres", "bears"] (spInitR C CL)) (MK : Mk K C g1) (mR : mg "Roll" = some (.ref C)) (b1 : Binds K d1 ["self", "acres", "bears"] []) :
    FnOk P w K mg base (CXE P w) 6 f fd ["self", "acres", "bears"] (spInitD CD C CL) := by
  obtain ⟨oc, od, kV, doc, pm, an, cdv, ct, osl, rfl, lk, hcd⟩ := F.ex
  refine fn_of lk hcd scInitD (fun vs H Q E h => ?_) fun A outer s H vs Q E hr h => ?_
  · obtain ⟨y, dy, n, m, rfl, _⟩ := h
    rfl
  obtain ⟨y, dy, n, m, rfl, hy, h⟩ := h
  refine ⟨_, pss_one (ps_fld (pv 0) (pe_make (CX := CXE P w) (E := E) MK G1 hr rfl mR b1 .nil pass_on (pa_cons (pv 1) (pa_cons (pv 2) pa_nil))) rfl), ?_⟩
  refine ⟨_, rfl, _, rfl, fun r dr h1 h2 h3 => ?_⟩
  refine make_roll h1 h2 h3 ?_
  cases e0 : okA n && okB m with
  | false => rw [e0, if_neg Bool.false_ne_true] at h; exact iteF h
  | true =>
    rw [e0, if_pos rfl] at h
    refine iteT fun st d e l H' hk N => ?_
    have nyr : y ≠ r := ne_of_none hy N.hr
    refine ⟨_, rfl, y, CD, dy, _, rfl, hk _ _ hy, TD.cl, TD.n1, Nat.lt_of_sub_eq_succ rfl, ?_⟩
    have R := N.at_
    refine h r dr st d e l _ (fun c o hc ho => by rw [upd_ne hc]; exact hk _ _ ho) (by rw [upd_same]; rfl) ⟨⟨?_, ?_, ?_, ?_, ?_⟩, N.hr, N.hst, N.hd, N.he, N.hl, N.ne, N.nl, N.ns, N.nd⟩
    · rw [upd_ne (Ne.symm nyr)]; exact R.o
    · rw [upd_ne (Ne.symm (ne_of_none hy N.hst))]; exact R.s
    · rw [upd_ne (Ne.symm (ne_of_none hy N.hd))]; exact R.k
    · rw [upd_ne (Ne.symm (ne_of_none hy N.he))]; exact R.e
    · rw [upd_ne (Ne.symm (ne_of_none hy N.hl))]; exact R.l

theorem make_desk {CL : Addr} {H1 : Hp} {n m : Int} {R : Hp → Prop} {E : XK} {y dy : Addr} (hy : H1 y = none) (hdy : H1 dy = none) (hne : dy ≠ y)
    (h : if (okA n && okB m) = true then ∀ r dr st d e l H', (∀ c o, H1 c = some o → H' c = some o) → H' y = some (.ins CD dy [("roll", .ref r)]) → NewR C H1 H' r dr st d e l n m → R H' else ∀ H', Same H1 H' → E (.ref CL) none H') :
    spInitD CD C CL (.ref y :: ([V.int n, V.int m] ++ [])) (upd (upd H1 dy (.own y)) y (.ins CD dy [])) (fun v H2 => v = .non ∧ R H2) E := by
  have sm : ∀ c o, H1 c = some o → (upd (upd H1 dy (.own y)) y (.ins CD dy [])) c = some o := fun c o ho => by rw [upd_ne (ne_of_none ho hy), upd_ne (ne_of_none ho hdy)]; exact ho
  have bk : ∀ c, (upd (upd H1 dy (.own y)) y (.ins CD dy [])) c = none → H1 c = none := fun c hc => by
    cases q : H1 c with
    | none => rfl
    | some u => rw [sm c u q] at hc; cases hc
  refine ⟨y, dy, n, m, rfl, upd_same, ?_⟩
  cases e0 : okA n && okB m with
  | false => rw [e0, if_neg Bool.false_ne_true] at h; exact iteF fun H' s => h H' fun c o ho => s c o (sm c o ho)
  | true =>
    rw [e0, if_pos rfl] at h
    exact iteT fun r dr st d e l H' hk hy' N => ⟨rfl, h r dr st d e l H' (fun c o ho => hk c o (ne_of_none ho hy) (sm c o ho)) hy' ⟨N.at_, bk _ N.hr, bk _ N.hst, bk _ N.hd, bk _ N.he, bk _ N.hl, N.ne, N.nl, N.ns, N.nd⟩⟩
end
end M

namespace M
open PySem L2 PyProof.Rows
theorem bt_ValueError : bootBuiltins "ValueError" = some (.type "ValueError") := by decide +kernel
theorem call_isXK {X : Cx} {K : PySem.W.Frag} (h : X.K = K := by rfl) : CallR X (.builtin "isinstance") (rIsX K) := h ▸ call_isX
theorem pe_fldK {X : Cx} {K : PySem.W.Frag} {e : Expr} {f : Str} {pos : Pos} {ta : TE} (he : PE X e ta) (hb : attributeBase e f X.env (eval e X.env) = eval e X.env) (h : X.K = K := by rfl) : PE X (.Attribute e f pos) (tFld K ta f) := h ▸ pe_fld he hb
theorem pe_bmK {X : Cx} {K : PySem.W.Frag} {o e : Expr} {es : List Expr} {to : TE} {t : TA} {name : Str} {apos cpos : Pos} {T id : String} {r : V → List V → Hp → VK → Prop} (pa : PlainAttrs T) (slot : Slot T name id) (hty : typeOf (.builtin id) = pure (.type "method_descriptor")) (hm : MtR X id r) (ho : PE X o to) (ha : PA X (e :: es) t)
    (h : X.K = K := by rfl) (hbase : attributeBase o name X.env (eval o X.env) = eval o X.env := by rfl)
    (hfew : ((backTo cpos (starEach (e :: es) X.env)).all (fun x => !x.1) && (backToKw cpos (keywordEach [] X.env)).all (fun x => x.1.isSome)
      && decide ((e :: es).length + ([] : List Keyword).length + (if ([] : List Keyword).isEmpty then 0 else 1) < 30)) = true := by rfl)
    (hline : (apos.endLine == cpos.line) = true := by rfl) (hs : starEach (e :: es) X.env = (false, eval e X.env) :: starEach es X.env := by rfl) (hplain : (backTo cpos (starEach es X.env)).any (·.1) = false := by rfl) :
    PE X (.Call (.Attribute o name apos) (e :: es) [] cpos) (tBM K T r to t) := h ▸ pe_bm pa slot hty hm ho ha hbase hfew hline hs hplain
structure Classes (K : PySem.W.Frag) (mg : Str → Option Value) (CL L c1 c2 c3 : Addr) : Prop where
  mC : mg "NoLand" = some (.ref CL)
  mL : mg "LandError" = some (.ref L)
  m1 : mg "NoForm" = some (.ref c1)
  m2 : mg "NoText" = some (.ref c2)
  m3 : mg "NoEntry" = some (.ref c3)
  xc : XC K CL
  ex : PySem.W.exmOne K (.ref CL) (.ref L) = some true
  k0 : PySem.W.kitOne K (.ref CL) (.type "ValueError") = some true
  k1 : PySem.W.kitOne K (.ref CL) (.ref CL) = some true
  k2 : PySem.W.kitOne K (.ref CL) (.ref c1) = some false
  k3 : PySem.W.kitOne K (.ref CL) (.ref c2) = some false
  k4 : PySem.W.kitOne K (.ref CL) (.ref c3) = some false
def marksN : List V := [.bl true, .bl true, .bl false, .bl false, .bl false]
def spWhyM (C : Addr) : Sp := fun vs H Q _ => ∃ (b : Bool) (n m : Int), vs = [.bl b, .int n, .int m] ∧ if (okA n && okB m) = true then
    ∀ p q r dr st d e l H', Same H H' → H' p = some (.tup [.ref q, .ref r]) → H' q = some (.lst []) → RollAt C H' r dr st d e l n m 1 [] [] [] → Q (.ref p) H'
  else ∀ p q H', Same H H' → H' p = some (.tup [.ref q, .non]) → H' q = some (.lst marksN) → Q (.ref p) H'
section
variable {P : Program} {w : World} {K : PySem.W.Frag} {mg : Str → Option Value} {base : Heap} {f C CD : Addr} {fd : FuncData}
theorem scWhy : FnScope ["_law_desk", "_law_acres", "_law_coins", "_law_marks", "_law_roll", "e"] ["_law_desk", "_law_acres", "_law_coins"] (defScope sWhy) := ⟨rfl, rfl, rfl, by decide +kernel, rfl, by decide +kernel, by decide +kernel⟩
set_option maxHeartbeats 8000000 in
theorem ok_why (F : Fun K "_law_why_made" "_law_why_made" sWhy f fd) (TD : DeskC K CD) (mi : mg "isinstance" = none) (mv : mg "ValueError" = none) {CL L c1 c2 c3 : Addr} (cl : Classes K mg CL L c1 c2 c3) {g1 g2 : Addr} {d1 d2 : FuncData}
    (G1 : FnOk P w K mg base (CXE P w) 4 g1 d1 ["self", "acres", "bears"] (spInitR C CL)) (MK1 : Mk K C g1) (mR : mg "Roll" = some (.ref C)) (b1 : Binds K d1 ["self", "acres", "bears"] [])
    (G2 : FnOk P w K mg base (CXE P w) 6 g2 d2 ["self", "acres", "bears"] (spInitD CD C CL)) (MK2 : Mk K CD g2) (mD : mg "Desk" = some (.ref CD)) (b2 : Binds K d2 ["self", "acres", "bears"] []) : FnOk P w K mg base CX0 8 f fd ["_law_desk", "_law_acres", "_law_coins"] (spWhyM C) := by
  refine F.ok scWhy (fun vs H Q E h => ?_) (fun cdv A outer s H vs Q E hr h => ?_)
  · obtain ⟨b, n, m, rfl, _⟩ := h
    rfl
  obtain ⟨b, n, m, rfl, h⟩ := h
  refine ⟨_, pss_cons (ps_set (i := 3) scWhy.nd rfl (Or.inl rfl) (pe_lst pa_nil))
    (pss_cons (ps_set (i := 4) scWhy.nd rfl (Or.inl rfl) pe_non)
    (pss_cons (ps_try (i := 5) (L := L) rfl rfl scWhy.nd rfl rfl rfl cl.mL
        (fun pn xe E hp => pss_one (ps_if (pt_val (pv 0))
          (pss_one (ps_set (i := 4) scWhy.nd rfl (Or.inl rfl) (pe_fldK (K := K) (pe_makeS (CX := CXE P w) (E := E) MK2 G2 hr rfl mD b2 .nil hp (pa_cons (pv 1) (pa_cons (pv 2) pa_nil))) rfl)))
          (pss_one (ps_set (i := 4) scWhy.nd rfl (Or.inl rfl) (pe_makeS (CX := CXE P w) (E := E) MK1 G1 (hr.mono (by decide)) rfl mR b1 .nil hp (pa_cons (pv 1) (pa_cons (pv 2) pa_nil)))))))
        (fun ea => pss_cons (ps_set (i := 3) scWhy.nd rfl (Or.inl rfl) (pe_lst (pa_cons (pe_callB (call_isXK (K := K)) rfl mi bt_isinstance (pa_cons (pv 5) (pa_cons (pe_bltn rfl mv bt_ValueError rfl (v := .ty "ValueError")) pa_nil)))
            (pa_cons (pe_callB (call_isXK (K := K)) rfl mi bt_isinstance (pa_cons (pv 5) (pa_cons (pe_glob rfl cl.mC rfl (v := .ref CL)) pa_nil))) (pa_cons (pe_callB (call_isXK (K := K)) rfl mi bt_isinstance (pa_cons (pv 5) (pa_cons (pe_glob rfl cl.m1 rfl (v := .ref c1)) pa_nil))) (pa_cons (pe_callB (call_isXK (K := K)) rfl mi bt_isinstance (pa_cons (pv 5) (pa_cons (pe_glob rfl cl.m2 rfl (v := .ref c2)) pa_nil))) pa_nil))))))
          (pss_one (ps_expr (pe_bmK (K := K) PySem.F.plainAttrs_list PySem.F.slot_list_append PySem.F.type_list_append mt_append (pv 3) (pa_cons (pe_callB (call_isXK (K := K)) rfl mi bt_isinstance (pa_cons (pv 5) (pa_cons (pe_glob rfl cl.m3 rfl (v := .ref c3)) pa_nil))) pa_nil))))))
    (pss_one (ps_ret (pe_tup (pa_cons (pv 3) (pa_cons (pv 4) pa_nil))))))), ?_⟩
  refine ⟨small (by simp), fun lm hlm => ?_⟩
  have s1 : Same H (upd H lm (.lst [])) := same_new hlm _
  have m1 : (upd H lm (.lst [])) lm = some (.lst []) := upd_same
  generalize upd H lm (.lst []) = H1 at s1 m1 ⊢
  refine ⟨_, rfl, _, rfl, ?_⟩
  cases b with
  | true =>
    refine iteT ⟨_, rfl, _, rfl, fun y dy h1 h2 h3 => make_desk h1 h2 h3 ?_⟩
    cases e0 : okA n && okB m with
    | false =>
      rw [e0, if_neg Bool.false_ne_true] at h
      refine iteF fun H2 s2 => ?_
      refine ⟨CL, rfl, cl.ex, fun ea he => ?_⟩
      have s3 : Same H2 (upd H2 ea (exO CL ea)) := same_new he _
      have e3 : (upd H2 ea (exO CL ea)) ea = some (exO CL ea) := upd_same
      generalize upd H2 ea (exO CL ea) = H3 at s3 e3 ⊢
      refine ⟨_, rfl, ea, CL, _, _, rfl, e3, cl.xc, .inl ⟨_, rfl⟩, cl.k0, ?_⟩
      refine ⟨_, rfl, ea, CL, _, _, rfl, e3, cl.xc, .inr ⟨_, rfl⟩, cl.k1, ?_⟩
      refine ⟨_, rfl, ea, CL, _, _, rfl, e3, cl.xc, .inr ⟨_, rfl⟩, cl.k2, ?_⟩
      refine ⟨_, rfl, ea, CL, _, _, rfl, e3, cl.xc, .inr ⟨_, rfl⟩, cl.k3, ?_⟩
      refine ⟨small (by simp), fun q1 h1 => ?_⟩
      have s4 := same_new h1 (.lst [V.bl true, V.bl true, V.bl false, V.bl false])
      have l4 : (upd H3 q1 (.lst [V.bl true, V.bl true, V.bl false, V.bl false])) q1 = some (.lst [V.bl true, V.bl true, V.bl false, V.bl false]) := upd_same
      have e4 := s4 _ _ e3
      have s14 := (s1.trans s2).trans (s3.trans s4)
      have q10 : H q1 = none := ((s1.trans s2).trans s3).free h1
      generalize upd H3 q1 (.lst [V.bl true, V.bl true, V.bl false, V.bl false]) = H4 at e4 l4 s14 ⊢
      refine ⟨_, rfl, .inl ⟨rfl, _, SqL.of l4⟩, _, rfl, ea, CL, _, _, rfl, e4, cl.xc, .inr ⟨_, rfl⟩, cl.k4, q1, _, _, rfl, rfl, l4, small' (by simp), ?_⟩
      have s15 : Same H (upd H4 q1 (.lst ([V.bl true, V.bl true, V.bl false, V.bl false] ++ [V.bl false]))) := same_upd s14 q10
      have l5 : (upd H4 q1 (.lst ([V.bl true, V.bl true, V.bl false, V.bl false] ++ [V.bl false]))) q1 = some (.lst marksN) := upd_same
      generalize upd H4 q1 (.lst ([V.bl true, V.bl true, V.bl false, V.bl false] ++ [V.bl false])) = H5 at s15 l5 ⊢
      refine ⟨_, rfl, _, rfl, small (by simp), fun p hp => ?_⟩
      exact h p q1 _ (s15.trans (same_new hp _)) upd_same (by rw [upd_ne (ne_of_none l5 hp)]; exact l5)
    | true =>
      rw [e0, if_pos rfl] at h
      refine iteT fun r dr st d e l H2 hk hy N => ⟨y, CD, dy, _, _, rfl, hy, TD.cl, TD.n1, rfl, ?_⟩
      refine ⟨_, rfl, _, rfl, small (by simp), fun p hp => ?_⟩
      have s2 : Same H1 H2 := hk
      have s3 := same_new hp (.tup [.ref lm, .ref r])
      exact h p lm r dr st d e l _ ((s1.trans s2).trans s3) upd_same (s3 _ _ (s2 _ _ m1)) (N.at_.same s3)
  | false =>
    refine iteF ⟨_, rfl, _, rfl, fun r dr h1 h2 h3 => make_roll h1 h2 h3 ?_⟩
    cases e0 : okA n && okB m with
    | false =>
      rw [e0, if_neg Bool.false_ne_true] at h
      refine iteF fun H2 s2 => ?_
      refine ⟨CL, rfl, cl.ex, fun ea he => ?_⟩
      have s3 : Same H2 (upd H2 ea (exO CL ea)) := same_new he _
      have e3 : (upd H2 ea (exO CL ea)) ea = some (exO CL ea) := upd_same
      generalize upd H2 ea (exO CL ea) = H3 at s3 e3 ⊢
      refine ⟨_, rfl, ea, CL, _, _, rfl, e3, cl.xc, .inl ⟨_, rfl⟩, cl.k0, ?_⟩
      refine ⟨_, rfl, ea, CL, _, _, rfl, e3, cl.xc, .inr ⟨_, rfl⟩, cl.k1, ?_⟩
      refine ⟨_, rfl, ea, CL, _, _, rfl, e3, cl.xc, .inr ⟨_, rfl⟩, cl.k2, ?_⟩
      refine ⟨_, rfl, ea, CL, _, _, rfl, e3, cl.xc, .inr ⟨_, rfl⟩, cl.k3, ?_⟩
      refine ⟨small (by simp), fun q1 h1 => ?_⟩
      have s4 := same_new h1 (.lst [V.bl true, V.bl true, V.bl false, V.bl false])
      have l4 : (upd H3 q1 (.lst [V.bl true, V.bl true, V.bl false, V.bl false])) q1 = some (.lst [V.bl true, V.bl true, V.bl false, V.bl false]) := upd_same
      have e4 := s4 _ _ e3
      have s14 := (s1.trans s2).trans (s3.trans s4)
      have q10 : H q1 = none := ((s1.trans s2).trans s3).free h1
      generalize upd H3 q1 (.lst [V.bl true, V.bl true, V.bl false, V.bl false]) = H4 at e4 l4 s14 ⊢
      refine ⟨_, rfl, .inl ⟨rfl, _, SqL.of l4⟩, _, rfl, ea, CL, _, _, rfl, e4, cl.xc, .inr ⟨_, rfl⟩, cl.k4, q1, _, _, rfl, rfl, l4, small' (by simp), ?_⟩
      have s15 : Same H (upd H4 q1 (.lst ([V.bl true, V.bl true, V.bl false, V.bl false] ++ [V.bl false]))) := same_upd s14 q10
      have l5 : (upd H4 q1 (.lst ([V.bl true, V.bl true, V.bl false, V.bl false] ++ [V.bl false]))) q1 = some (.lst marksN) := upd_same
      generalize upd H4 q1 (.lst ([V.bl true, V.bl true, V.bl false, V.bl false] ++ [V.bl false])) = H5 at s15 l5 ⊢
      refine ⟨_, rfl, _, rfl, small (by simp), fun p hp => ?_⟩
      exact h p q1 _ (s15.trans (same_new hp _)) upd_same (by rw [upd_ne (ne_of_none l5 hp)]; exact l5)
    | true =>
      rw [e0, if_pos rfl] at h
      refine iteT fun st d e l H2 hk N => ?_
      refine ⟨_, rfl, _, rfl, small (by simp), fun p hp => ?_⟩
      have s2 : Same H1 H2 := hk
      have s3 := same_new hp (.tup [.ref lm, .ref r])
      exact h p lm r dr st d e l _ ((s1.trans s2).trans s3) upd_same (s3 _ _ (s2 _ _ m1)) (N.at_.same s3)
end
end M

set_option pp.maxSteps 900
namespace M
open PySem L2 PyProof.Rows
theorem cut_two {fs : List Int} {j k : Nat} {i l : Int} (hi : i = (j : Int)) (hl : l = ((j + k : Nat) : Int)) (h : j + k ≤ fs.length) : cutV (fs.map V.int) (some i) (some l) = ((fs.drop j).take k).map V.int := by
  rw [hi, hl]
  unfold cutV
  rw [HT.sIx_nat, HT.sIx_nat, List.length_map, Nat.min_eq_left (by omega), Nat.min_eq_left (by omega), Nat.add_sub_cancel_left, List.map_take, List.map_drop]
theorem data_bls {H : Hp} : ∀ bs : List Bool, DataAll H (bs.map V.bl) (bs.map PyData.bool)
  | [] => .nil
  | b :: r => .cons (.bl b) (data_bls r)
theorem chain_lv {lo hi n : Int} {b : Bool} {j : Nat} {σ : L2.St} {H : Hp} {Q : Bool → Hp → Prop} (hv : σ[j]? = some (some (.int n))) (hb : (decide (lo ≤ n) && decide (n ≤ hi)) = b) (h : Q b H) : tTest (tChain (rI0 fun i j => .bl (decide (i ≤ j))) (rI0 fun i j => .bl (decide (i ≤ j))) (tC (.int lo)) (tVar j) (tC (.int hi))) σ H Q := by
  refine ⟨_, hv, _, _, rfl, rfl, _, rfl, ?_⟩
  cases e : decide (lo ≤ n) with
  | true => rw [e, Bool.true_and] at hb; subst hb; exact iteT ⟨_, _, rfl, rfl, _, rfl, h⟩
  | false => rw [e, Bool.false_and] at hb; subst hb; exact iteF ⟨_, rfl, h⟩
theorem eqd_nil {H : Hp} {k : Nat} {p q : Addr} (hp : H p = some (.lst [])) (hq : H q = some (.lst [])) : EqD H (k + 1) (.ref p) (.ref q) := .inr (.inr ⟨p, q, [], [], rfl, rfl, hp, hq, rfl, by simp, fun i x y h => by simp at h⟩)
theorem eqd_int {H : Hp} {k : Nat} {n : Int} : EqD H (k + 1) (.int n) (.int n) := .inl ⟨rfl, rfl⟩
theorem eqd_two {H : Hp} {k : Nat} {p q : Addr} {a b c d : V} (hp : H p = some (.tup [a, b])) (hq : H q = some (.tup [c, d])) (h1 : EqD H k a c) (h2 : EqD H k b d) : EqD H (k + 1) (.ref p) (.ref q) := .inr (.inl ⟨p, q, _, _, rfl, rfl, hp, hq, rfl, by simp, fun i x y h h' => by
  match i with
  | 0 => simp at h h'; subst h; subst h'; exact h1
  | 1 => simp at h h'; subst h; subst h'; exact h2
  | i + 2 => simp at h⟩)
def spLaw (K : PySem.W.Frag) : Sp := fun vs H Q _ => ∃ (a : Addr) (ns : List Int), vs = [.ref a] ∧ SqL K H a (ns.map V.int) ∧ ns.length ≤ 63 ∧ ∀ H', Q (.bl true) H'
theorem good_death {n : Int} (h0 : n = 3 ∨ n = 4) : goodRow [.str "death", .int n, .str "a"] := by
  refine ⟨⟨"death", [.int n, .str "a"], rfl, ⟨by simp, fun v hv => ?_, fun l hl => ?_⟩⟩, ?_, by simp only [List.all_cons, List.all_nil, isIS]; decide +kernel⟩
  · simp only [List.mem_cons, List.not_mem_nil, or_false] at hv
    rcases hv with rfl | rfl
    · exact .inl ⟨_, rfl⟩
    · exact .inr ⟨_, rfl, by decide, by decide⟩
  · have e : form "death" = some [.d, .n] := by decide +kernel
    rw [e] at hl
    cases hl
    intro i s v h1 h2
    match i with
    | 0 => simp at h1 h2; subst h1; subst h2; rfl
    | 1 => simp at h1 h2; subst h1; subst h2; rfl
    | i + 2 => simp at h1
  · rcases h0 with rfl | rfl
    · decide +kernel
    · decide +kernel
section
variable {P : Program} {w : World} {K : PySem.W.Frag} {mg : Str → Option Value} {base : Heap} {f C CD : Addr} {fd : FuncData}
theorem scLaw : FnScope ["_law_script", "_law_feed_here", "_law_k", "_law_d", "_law_acres", "_law_coins", "_law_desk", "_law_marks", "_law_roll", "_law_one", "_law_other"] ["_law_script"] (defScope sLaw) := ⟨rfl, rfl, rfl, by decide +kernel, rfl, by decide +kernel, by decide +kernel⟩
set_option maxHeartbeats 16000000 in
theorem ok_law (F : Fun K "law" "law" sLaw f fd) (T : RollC K C) (TD : DeskC K CD) (mr : mg "range" = none) (mn : mg "len" = none) {CL : Addr} {g1 g2 g3 g4 g5 g6 g7 g8 g9 : Addr} {d1 d2 d3 d4 d5 d6 d7 d8 d9 : FuncData}
    (G1 : FnOk P w K mg base CX0 1 g1 d1 ["_law_script", "_law_many"] (spFeed K)) (M1 : Ms K mg "_law_feed" g1 d1 ["_law_script", "_law_many"])
    (G2 : FnOk P w K mg base CX0 3 g2 d2 ["_law_found", "_law_due"] (spSame 3)) (M2 : Ms K mg "_law_same" g2 d2 ["_law_found", "_law_due"])
    (G3 : FnOk P w K mg base CX0 8 g3 d3 ["_law_desk", "_law_acres", "_law_coins"] (spWhyM C)) (M3 : Ms K mg "_law_why_made" g3 d3 ["_law_desk", "_law_acres", "_law_coins"])
    (G4 : FnOk P w K mg base CX0 1 g4 d4 ["self"] (spAcr C)) (m4 : Meth K C "acres" g4) (b4 : Binds K d4 ["self"] [])
    (G5 : FnOk P w K mg base CX0 1 g5 d5 ["self"] (spBea C)) (m5 : Meth K C "bears" g5) (b5 : Binds K d5 ["self"] [])
    (G6 : FnOk P w K mg base CX0 1 g6 d6 ["self"] (spRowsR C)) (m6 : Meth K C "rows" g6) (b6 : Binds K d6 ["self"] [])
    (G7 : FnOk P w K mg base CX0 1 g7 d7 ["self"] (spFre C)) (m7 : Meth K C "free" g7) (b7 : Binds K d7 ["self"] [])
    (G8 : FnOk P w K mg base CX0 5 g8 d8 ["self", "rows"] (spEnterAll C K)) (m8 : Meth K C "enter_all" g8) (b8 : Binds K d8 ["self", "rows"] [])
    (G9 : FnOk P w K mg base (CXE P w) 6 g9 d9 ["self", "acres", "bears"] (spInitD CD C CL)) (MK : Mk K CD g9) (mD : mg "Desk" = some (.ref CD)) (b9 : Binds K d9 ["self", "acres", "bears"] []) : FnOk P w K mg base CX0 9 f fd ["_law_script"] (spLaw K) := by
  refine F.ok scLaw (fun vs H Q E h => ?_) (fun cdv A outer s H vs Q E hr h => ?_)
  · obtain ⟨a, ns, rfl, _⟩ := h
    rfl
  obtain ⟨a, ns, rfl, hS, h63, kk⟩ := h
  have hr1 : Room 1 _ := hr.mono (by decide)
  have hr3 : Room 3 _ := hr.mono (by decide)
  have hr5 : Room 5 _ := hr.mono (by decide)
  have hr7 : Room 7 _ := hr.mono (by decide)
  refine ⟨_, (pss_cons (ps_set (i := 1) scLaw.nd rfl (Or.inl rfl) (pe_call G1 hr1 rfl M1.m M1.k M1.b .nil pass0 (pa_cons (pv 0) (pa_cons pe_int pa_nil))))
    (pss_cons (ps_for PassesOwn.never rfl (pi_range1 rfl mr (pa_cons pe_int pa_nil)) (pg_name (i := 2) scLaw.nd rfl (Or.inl rfl)) (pss_cons (ps_set (i := 3) scLaw.nd rfl (Or.inl rfl) (pe_slice sl_list (pv 1) (po_some (pe_op op_mul pe_int (pv 2))) (po_some (pe_op op_add (pe_op op_mul pe_int (pv 2)) pe_int))))
    (pss_cons (ps_set (i := 4) scLaw.nd rfl (Or.inl rfl) (pe_ix ix_list (pe_lst (pa_cons (pe_op op_sub (pe_op op_mod (pe_ix ix_list (pv 3) pe_int (fun _ _ => rfl)) pe_int) pe_int) (pa_cons pe_int (pa_cons pe_int (pa_cons pe_int (pa_cons pe_int (pa_cons (pe_op op_add pe_int (pe_op op_mod (pe_ix ix_list (pv 3) pe_int (fun _ _ => rfl)) pe_int)) (pa_cons (pe_op op_sub pe_int (pe_op op_pow pe_int pe_int)) (pa_cons (pe_op op_pow pe_int pe_int) pa_nil))))))))) (pe_op op_mod (pe_ix ix_list (pv 3) pe_int (fun _ _ => rfl)) pe_int) (fun _ _ => rfl)))
    (pss_cons (ps_set (i := 5) scLaw.nd rfl (Or.inl rfl) (pe_ix ix_list (pe_lst (pa_cons (pe_op op_sub (pe_op op_mod (pe_ix ix_list (pv 3) pe_int (fun _ _ => rfl)) pe_int) pe_int) (pa_cons (pe_un un_neg pe_int) (pa_cons pe_int (pa_cons pe_int (pa_cons pe_int (pa_cons (pe_op op_mod (pe_ix ix_list (pv 3) pe_int (fun _ _ => rfl)) pe_int) (pa_cons (pe_op op_mod (pe_ix ix_list (pv 3) pe_int (fun _ _ => rfl)) pe_int) (pa_cons (pe_op op_pow pe_int pe_int) pa_nil))))))))) (pe_op op_mod (pe_ix ix_list (pv 3) pe_int (fun _ _ => rfl)) pe_int) (fun _ _ => rfl)))
    (pss_one (ps_for PassesOwn.never rfl (pi_list (pe_lst (pa_cons pe_bl (pa_cons pe_bl pa_nil)))) (pg_name (i := 6) scLaw.nd rfl (Or.inl rfl)) (pss_cons (ps_asg (pe_call G3 hr rfl M3.m M3.k M3.b .nil pass0 (pa_cons (pv 6) (pa_cons (pv 4) (pa_cons (pv 5) pa_nil)))) (pg_tup rfl (pgs_cons (pg_name (i := 7) scLaw.nd rfl (Or.inl rfl)) (pgs_cons (pg_name (i := 8) scLaw.nd rfl (Or.inl rfl)) pgs_nil))))
    (pss_one (ps_if (PW.pt (pw_or (pt_not (pt_chain op_le op_le pe_int (pv 4) pe_int)) (pw_or1 (pt_not (pt_chain op_le op_le pe_int (pv 5) pe_int))))) (pss_one (ps_if (pt_cmpR (op_neD hr.units) (pv 7) (pe_lst (pa_cons pe_bl (pa_cons pe_bl (pa_cons pe_bl (pa_cons pe_bl (pa_cons pe_bl pa_nil)))))) (nomark _)) (pss_one ps_never) pss_nil)) (pss_cons (ps_if (PW.pt (pw_or (pt_cmpR (op_neD hr.units) (pv 7) (pe_lst pa_nil) (nomark _)) (pw_or1 (pt_not (pt_val (pe_call G2 hr3 rfl M2.m M2.k M2.b .nil pass0 (pa_cons (pe_tup (pa_cons (pe_meth0 (pv 8) T.cl m4 G4 hr1 b4 .nil pass0) (pa_cons (pe_meth0 (pv 8) T.cl m5 G5 hr1 b5 .nil pass0) pa_nil))) (pa_cons (pe_tup (pa_cons (pv 4) (pa_cons (pv 5) pa_nil))) pa_nil)))))))) (pss_one ps_never) pss_nil)
    (pss_one (ps_if (pt_not (pt_val (pe_call G2 hr3 rfl M2.m M2.k M2.b .nil pass0 (pa_cons (pe_tup (pa_cons (pe_meth0 (pv 8) T.cl m6 G6 hr1 b6 .nil pass0) (pa_cons (pe_meth0 (pv 8) T.cl m7 G7 hr1 b7 .nil pass0) pa_nil))) (pa_cons (pe_tup (pa_cons (pe_lst pa_nil) (pa_cons pe_int pa_nil))) pa_nil))))) (pss_one ps_never) pss_nil))))))))))))
    (pss_cons (ps_set (i := 9) scLaw.nd rfl (Or.inl rfl) (pe_make (CX := CXE P w) (E := E0) MK G9 hr7 rfl mD b9 .nil passX (pa_cons pe_int (pa_cons pe_int pa_nil))))
    (pss_cons (ps_set (i := 10) scLaw.nd rfl (Or.inl rfl) (pe_make (CX := CXE P w) (E := E0) MK G9 hr7 rfl mD b9 .nil passX (pa_cons pe_int (pa_cons pe_int pa_nil))))
    (pss_cons (ps_expr (pe_meth (pe_fld (pv 9) rfl) T.cl m8 G8 hr5 b8 .nil pass0 (pa_cons (pe_lst (pa_cons (pe_tup (pa_cons pe_str (pa_cons pe_int (pa_cons pe_str pa_nil)))) (pa_cons (pe_tup (pa_cons pe_str (pa_cons pe_int (pa_cons pe_str pa_nil)))) pa_nil))) pa_nil)))
    (pss_one (ps_ret (pe_and (pe_call G2 hr3 rfl M2.m M2.k M2.b .nil pass0 (pa_cons (pe_meth0 (pe_fld (pv 10) rfl) T.cl m6 G6 hr1 b6 .nil pass0) (pa_cons (pe_lst pa_nil) pa_nil))) (pe_one (pe_cmpR op_eq (pe_callB call_len_seq rfl mn PySem.boot_len (pa_cons (pe_meth0 (pe_fld (pv 9) rfl) T.cl m6 G6 hr1 b6 .nil pass0) pa_nil)) pe_int (nomark _))))))))))), ?_⟩
  refine ⟨_, rfl, a, ns, 40, rfl, hS, h63, by decide, by decide, fun r H1 fs s1 hr0 hr1' hl1 ho1 => ?_⟩
  have hl : fs.length = 40 := by omega
  refine ⟨6, rfl, by decide, by decide, ?_⟩
  refine for_range (lo := 0) (n := 6) (fun i σ Hx => ∃ u2 u3 u4 u5 u6 u7 u8 : Option V, σ = [some (.ref a), some (.ref r), u2, u3, u4, u5, u6, u7, u8, none, none] ∧ Same H1 Hx) ⟨none, none, none, none, none, none, none, rfl, Same.refl _⟩ ?_ ?_
  · rintro i σ Hx hi ⟨u2, u3, u4, u5, u6, u7, u8, rfl, sx⟩
    have rx := sx _ _ hr1'
    refine ⟨_, rfl, _, rfl, _, _, rfl, rfl, .inl ⟨by decide, by decide⟩, _, rfl, _, rfl, _, _, rfl, rfl, .inl ⟨by decide, by decide⟩, _, _, rfl, rfl, _, rfl, r, _, rfl, SqL.of rx, fun p hp => ?_⟩
    rw [cut_two (j := 4 * i) (k := 4) (by omega) (by omega) (by omega)]
    have hd4 : ((fs.drop (4 * i)).take 4).length = 4 := by rw [List.length_take, List.length_drop]; omega
    have hdo : ∀ v ∈ (fs.drop (4 * i)).take 4, Okn v := fun v hv => ho1 v (List.mem_of_mem_drop (List.mem_of_mem_take hv))
    have s2 := same_new hp (.lst (((fs.drop (4 * i)).take 4).map V.int))
    have p2 : (upd Hx p (.lst (((fs.drop (4 * i)).take 4).map V.int))) p = some (.lst (((fs.drop (4 * i)).take 4).map V.int)) := upd_same
    have t2 := sx.trans s2
    generalize (fs.drop (4 * i)).take 4 = ds at hd4 hdo p2 t2 ⊢
    generalize upd Hx p (.lst (ds.map V.int)) = H2 at p2 t2 ⊢
    obtain ⟨v0, e0, o0⟩ := fs_at hdo (i := 0) (by decide) (by omega)
    obtain ⟨v1, e1, o1⟩ := fs_at hdo (i := 1) (by decide) (by omega)
    obtain ⟨v2, e2, o2⟩ := fs_at hdo (i := 2) (by decide) (by omega)
    obtain ⟨v3, e3, o3⟩ := fs_at hdo (i := 3) (by decide) (by omega)
    -- the acres
    refine ⟨_, rfl, p, _, _, _, rfl, rfl, SqL.of p2, e0, _, _, rfl, rfl, (by show (0 : Int) < 30001; decide), _, _, rfl, rfl, _, rfl, p, _, _, _, rfl, rfl, SqL.of p2, e0, _, _, rfl, rfl, (by show (0 : Int) < 9999; decide), _, _, rfl, rfl, _, _, rfl, rfl, ⟨by decide, by decide, by decide⟩, _, _, rfl, rfl, _, _, rfl, rfl, ⟨by decide, by decide, by decide⟩, small (by simp), fun q hq => ?_⟩
    have key : ∀ (xs : List V) (v : Int) (H : Hp) (q : Addr), Okn v → xs.length = 8 → (∀ x ∈ xs, ∃ n, x = V.int n) → ∃ n, atI xs (v % 8) = some (V.int n) := fun xs v H q ov hx hi => by
      obtain ⟨x, ex, mx⟩ := at_some (xs := xs) (i := v % 8) (Int.emod_nonneg _ (by decide)) (by rw [hx]; exact Int.emod_lt_of_pos _ (by decide))
      obtain ⟨n, rfl⟩ := hi x mx
      exact ⟨n, ex⟩
    have s3 := same_new hq (.lst [V.int (v0 % 30001 - 10000), V.int 0, V.int 1, V.int 9999, V.int 10000, V.int (1 + v0 % 9999), V.int (0 - 10 ^ (20 : Int).toNat), V.int (10 ^ (20 : Int).toNat)])
    obtain ⟨n, en⟩ := key [V.int (v0 % 30001 - 10000), V.int 0, V.int 1, V.int 9999, V.int 10000, V.int (1 + v0 % 9999), V.int (0 - 10 ^ (20 : Int).toNat), V.int (10 ^ (20 : Int).toNat)] v1 H2 q o1 rfl (by simp)
    refine ⟨_, rfl, p, _, _, _, rfl, rfl, SqL.of (s3 _ _ p2), e1, _, _, rfl, rfl, (by show (0 : Int) < 8; decide), q, _, _, _, rfl, rfl, SqL.of upd_same, en, ?_⟩
    have p3 := s3 _ _ p2
    have t3 := t2.trans s3
    generalize upd H2 q _ = H3 at p3 t3 ⊢
    -- the coins
    refine ⟨_, rfl, p, _, _, _, rfl, rfl, SqL.of p3, e2, _, _, rfl, rfl, (by show (0 : Int) < 301; decide), _, _, rfl, rfl, _, rfl, _, rfl, p, _, _, _, rfl, rfl, SqL.of p3, e2, _, _, rfl, rfl, (by show (0 : Int) < 100; decide), _, rfl, p, _, _, _, rfl, rfl, SqL.of p3, e2, _, _, rfl, rfl, (by show (0 : Int) < 100; decide), _, _, rfl, rfl, ⟨by decide, by decide, by decide⟩, small (by simp), fun q' hq' => ?_⟩
    have s4 := same_new hq' (.lst [V.int (v2 % 301 - 100), V.int (-1), V.int 0, V.int 99, V.int 100, V.int (v2 % 100), V.int (v2 % 100), V.int (10 ^ (20 : Int).toNat)])
    obtain ⟨m, em⟩ := key [V.int (v2 % 301 - 100), V.int (-1), V.int 0, V.int 99, V.int 100, V.int (v2 % 100), V.int (v2 % 100), V.int (10 ^ (20 : Int).toNat)] v3 H3 q' o3 rfl (by simp)
    refine ⟨_, rfl, p, _, _, _, rfl, rfl, SqL.of (s4 _ _ p3), e3, _, _, rfl, rfl, (by show (0 : Int) < 8; decide), q', _, _, _, rfl, rfl, SqL.of upd_same, em, ?_⟩
    have t4 := t3.trans s4
    generalize upd H3 q' _ = H4 at t4 ⊢
    refine ⟨small (by simp), fun l hl' => ⟨l, rfl, ⟨_, SqL.of upd_same⟩, ?_⟩⟩
    have s5 := same_new hl' (.lst [V.bl false, V.bl true])
    have l5 : (upd H4 l (.lst [V.bl false, V.bl true])) l = some (.lst [V.bl false, V.bl true]) := upd_same
    have t5 := t4.trans s5
    generalize upd H4 l (.lst [V.bl false, V.bl true]) = H5 at l5 t5 ⊢
    refine for_list (K := K) (a := l) (xs := [V.bl false, V.bl true]) (fun j σ Hy => ∃ u6 u7 u8 : Option V, σ = [some (.ref a), some (.ref r), some (.int (0 + (i : Int))), some (.ref p), some (.int n), some (.int m), u6, u7, u8, none, none] ∧ Same H5 Hy) ⟨_, _, _, rfl, Same.refl _⟩ (fun j σ Hy _ h => by obtain ⟨_, _, _, _, sy⟩ := h; exact SqL.of (sy _ _ l5)) ?_ ?_
    · rintro j x σ Hy hx ⟨u6, u7, u8, rfl, sy⟩
      obtain ⟨b, rfl⟩ : ∃ b, x = V.bl b := by
        have := List.mem_of_getElem? hx
        simp only [List.mem_cons, List.not_mem_nil, or_false] at this
        rcases this with rfl | rfl
        · exact ⟨_, rfl⟩
        · exact ⟨_, rfl⟩
      clear hx
      refine ⟨_, rfl, _, rfl, _, rfl, b, n, m, rfl, ?_⟩
      have sy5 := t5.trans sy
      cases e0 : okA n && okB m with
      | false =>
        refine iteF fun P1 q1 H6 s6 hP hq1 => ?_
        refine ⟨P1, _, rfl, SqT.of hP, rfl, _, _, rfl, _, _, rfl, rfl, ?_⟩
        have goes : ∀ Hz, Same H6 Hz → Same H5 Hz := fun Hz sz => (sy.trans s6).trans sz
        cases ea : okA n with
        | false =>
          refine chain_lv rfl ea (iteT (iteT ?_))
          refine ⟨_, rfl, small (by simp), fun z hz => ?_⟩
          have s7 := same_new hz (.lst marksN)
          refine ⟨_, _, .lst (s7 _ _ hq1) (data_bls [true, true, false, false, false]), .lst upd_same (data_bls [true, true, false, false, false]), by rfl, by rfl, by decide, _, rfl, iteF ?_⟩
          exact ⟨_, _, _, rfl, goes _ s7⟩
        | true =>
          rw [ea, Bool.true_and] at e0
          refine chain_lv rfl ea (iteF (chain_lv rfl e0 (iteT ?_)))
          refine ⟨_, rfl, small (by simp), fun z hz => ?_⟩
          have s7 := same_new hz (.lst marksN)
          refine ⟨_, _, .lst (s7 _ _ hq1) (data_bls [true, true, false, false, false]), .lst upd_same (data_bls [true, true, false, false, false]), by rfl, by rfl, by decide, _, rfl, iteF ?_⟩
          exact ⟨_, _, _, rfl, goes _ s7⟩
      | true =>
        obtain ⟨ea, eb⟩ := Bool.and_eq_true_iff.mp e0
        refine iteT fun P1 q1 ro dr st d e l' H6 s6 hP hq1 R => ?_
        refine ⟨P1, _, rfl, SqT.of hP, rfl, _, _, rfl, _, _, rfl, rfl, ?_⟩
        have goes : ∀ Hz, Same H6 Hz → Same H5 Hz := fun Hz sz => (sy.trans s6).trans sz
        refine chain_lv rfl ea (iteF (chain_lv rfl eb (iteF ?_)))
        refine ⟨_, rfl, small (by simp), fun z hz => ?_⟩
        have s7 := same_new hz (.lst [])
        refine ⟨_, _, .lst (s7 _ _ hq1) .nil, .lst upd_same .nil, by rfl, by rfl, by decide, _, rfl, iteF ?_⟩
        have R7 := R.same s7
        have g7 := goes _ s7
        generalize upd H6 z (.lst []) = H7 at R7 g7 ⊢
        refine ⟨_, rfl, ro, dr, _, rfl, R7.o, rfl, ro, dr, st, d, e, l', n, m, 1, [], [], [], rfl, R7, ?_⟩
        refine ⟨_, rfl, ro, dr, _, rfl, R7.o, rfl, ro, dr, st, d, e, l', n, m, 1, [], [], [], rfl, R7, ?_⟩
        refine ⟨small (by simp), fun y1 hy1 => ?_⟩
        have s8 := same_new hy1 (.tup [V.int n, V.int m])
        have y8 : (upd H7 y1 (.tup [V.int n, V.int m])) y1 = some (.tup [V.int n, V.int m]) := upd_same
        have R8 := R7.same s8
        have g8 := g7.trans s8
        generalize upd H7 y1 (.tup [V.int n, V.int m]) = H8 at R8 g8 y8 ⊢
        refine ⟨_, rfl, _, rfl, small (by simp), fun y2 hy2 => ?_⟩
        have s9 := same_new hy2 (.tup [V.int n, V.int m])
        refine ⟨_, _, rfl, eqd_two (s9 _ _ y8) upd_same eqd_int eqd_int, fun H10 s10 => ⟨_, rfl, iteF ?_⟩⟩
        have t10 := s9.trans s10
        have R10 := R8.same t10
        have g10 := g8.trans t10
        refine ⟨_, rfl, ro, dr, _, rfl, R10.o, rfl, ro, dr, st, d, e, l', n, m, 1, [], [], [], rfl, R10, by decide, fun q2 as ys H11 s11 hq2 hq2' hp hpw hit => ?_⟩
        have R11 := R10.same s11
        refine ⟨_, rfl, ro, dr, _, rfl, R11.o, rfl, ro, dr, st, d, e, l', n, m, 1, [], [], [], rfl, R11, ?_⟩
        obtain rfl : ys = [] := List.perm_nil.mp hp
        obtain rfl : as = [] := List.length_eq_zero_iff.mp hit.1
        refine ⟨small (by simp), fun y3 hy3 => ?_⟩
        have s12 := same_new hy3 (.tup [V.ref q2, V.int 1])
        have y12 : (upd H11 y3 (.tup [V.ref q2, V.int 1])) y3 = some (.tup [V.ref q2, V.int 1]) := upd_same
        have q12 := s12 _ _ hq2'
        have g12 := (g10.trans s11).trans s12
        generalize upd H11 y3 (.tup [V.ref q2, V.int 1]) = H12 at y12 q12 g12 ⊢
        refine ⟨small (by simp), fun y4 hy4 => ?_⟩
        have s13 := same_new hy4 (.lst [])
        have y13 : (upd H12 y4 (.lst [])) y4 = some (.lst []) := upd_same
        have q13 := s13 _ _ q12
        have z13 := s13 _ _ y12
        have g13 := g12.trans s13
        generalize upd H12 y4 (.lst []) = H13 at y13 q13 z13 g13 ⊢
        refine ⟨small (by simp), fun y5 hy5 => ?_⟩
        have s14 := same_new hy5 (.tup [V.ref y4, V.int 1])
        refine ⟨_, _, rfl, eqd_two (s14 _ _ z13) upd_same (eqd_nil (s14 _ _ q13) (s14 _ _ y13)) eqd_int, fun H15 s15 => ⟨_, rfl, iteF ?_⟩⟩
        exact ⟨_, _, _, rfl, (g13.trans s14).trans s15⟩
    · rintro σ Hy ⟨u6, u7, u8, rfl, sy⟩
      exact ⟨_, _, _, _, _, _, _, rfl, t5.trans sy⟩
  · rintro σ Hx ⟨u2, u3, u4, u5, u6, u7, u8, rfl, sx⟩
    -- two desks
    refine fun x1 dx1 h1 h2 h3 => make_desk h1 h2 h3 (iteT fun r1 dr1 st1 d1' e1 l1 H2 k2 hy2 N1 => ?_)
    refine fun x2 dx2 h4 h5 h6 => make_desk h4 h5 h6 (iteT fun r2 dr2 st2 d2' e2 l2 H3 k3 hy3 N2 => ?_)
    have hx1 := k3 _ _ hy2
    have R1 := N1.at_.same k3
    refine ⟨_, rfl, x1, CD, dx1, _, _, rfl, hx1, TD.cl, TD.n1, rfl, r1, dr1, _, rfl, R1.o, rfl, ?_⟩
    refine ⟨small (by simp), fun p1 hp1 => ⟨small (by simp), fun p2 hp2 => ⟨small (by simp), fun p3 hp3 => ?_⟩⟩⟩
    have s4 := same_new hp1 (.tup [V.str "death", V.int 3, V.str "a"])
    have q4 : (upd H3 p1 (.tup [V.str "death", V.int 3, V.str "a"])) p1 = some (.tup [V.str "death", V.int 3, V.str "a"]) := upd_same
    generalize upd H3 p1 (.tup [V.str "death", V.int 3, V.str "a"]) = H4 at s4 q4 hp2 hp3 ⊢
    have s5 := same_new hp2 (.tup [V.str "death", V.int 4, V.str "a"])
    have q5 : (upd H4 p2 (.tup [V.str "death", V.int 4, V.str "a"])) p2 = some (.tup [V.str "death", V.int 4, V.str "a"]) := upd_same
    have q45 := s5 _ _ q4
    generalize upd H4 p2 (.tup [V.str "death", V.int 4, V.str "a"]) = H5 at s5 q5 q45 hp3 ⊢
    have s6 := same_new hp3 (.lst [V.ref p1, V.ref p2])
    have q6 : (upd H5 p3 (.lst [V.ref p1, V.ref p2])) p3 = some (.lst [V.ref p1, V.ref p2]) := upd_same
    have t6 := (s4.trans s5).trans s6
    have q46 := s6 _ _ q45
    have q56 := s6 _ _ q5
    generalize upd H5 p3 (.lst [V.ref p1, V.ref p2]) = H6 at t6 q46 q56 q6 ⊢
    refine ⟨r1, dr1, st1, d1', e1, l1, 5, 1, [], [], [], p3, 1, [p1, p2], [], [[V.str "death", V.int 3, V.str "a"], [V.str "death", V.int 4, V.str "a"]], [], rfl, R1.same t6, SqL.of q6, .cons q46 (.cons q56 .nil), ?_, rfl, .nil, by simp, by simp, ?_, by decide, N1.ne, by decide, by simp, by simp, fun q d' st' l' H7 K7 R7 => ?_⟩
    · intro r hr
      simp only [List.mem_cons, List.not_mem_nil, or_false] at hr
      rcases hr with rfl | rfl
      · exact good_death (.inl rfl)
      · exact good_death (.inr rfl)
    · decide
    have nr : ∀ c, H2 c = none → c ≠ r1 ∧ c ≠ e1 := fun c hc => ⟨Ne.symm (ne_of_none N1.at_.o hc), Ne.symm (ne_of_none N1.at_.e hc)⟩
    have go7 : ∀ c o, H2 c = none → H3 c = some o → H7 c = some o := fun c o hc ho => K7 c o (nr c hc).1 (nr c hc).2 (t6 _ _ ho)
    have R2 : RollAt C H7 r2 dr2 st2 d2' e2 l2 5 1 1 [] [] [] := ⟨go7 _ _ N2.hr N2.at_.o, go7 _ _ N2.hst N2.at_.s, go7 _ _ N2.hd N2.at_.k, go7 _ _ N2.he N2.at_.e, go7 _ _ N2.hl N2.at_.l⟩
    have hx2 := go7 _ _ h4 hy3
    have hx17 : H7 x1 = some (.ins CD dx1 [("roll", .ref r1)]) := K7 _ _ (fun z => by have := N1.at_.o; rw [← z, hy2] at this; simp [FR] at this) (fun z => by have := N1.at_.e; rw [← z, hy2] at this; cases this) (t6 _ _ hx1)
    refine ⟨_, rfl, x2, CD, dx2, _, _, rfl, hx2, TD.cl, TD.n1, rfl, r2, dr2, _, rfl, R2.o, rfl, r2, dr2, st2, d2', e2, l2, 5, 1, 1, [], [], [], rfl, R2, by decide, fun q2 as ys H8 s8 hq2 hq2' hp hpw hit => ?_⟩
    obtain rfl : ys = [] := List.perm_nil.mp hp
    obtain rfl : as = [] := List.length_eq_zero_iff.mp hit.1
    refine ⟨small (by simp), fun y1 hy1 => ?_⟩
    have s9 := same_new hy1 (.lst [])
    refine ⟨_, _, rfl, eqd_nil (s9 _ _ hq2') upd_same, fun H10 s10 => ⟨_, rfl, iteT ?_⟩⟩
    have s11 : Same H7 H10 := fun c o h => s10 _ _ (s9 _ _ (s8 _ _ h))
    have R10 := R7.same s11
    refine ⟨_, rfl, x1, CD, dx1, _, _, rfl, s11 _ _ hx17, TD.cl, TD.n1, rfl, r1, dr1, _, rfl, R10.o, rfl, r1, dr1, _, _, _, _, 5, 1, _, _, _, _, rfl, R10, by simp [news], fun q3 as3 ys3 H11 s12 hq3 hq3' hp3 hpw3 hit3 => ?_⟩
    have hl3 : as3.length = 2 := by rw [hit3.1, hp3.length_eq]; rfl
    refine ⟨q3, _, rfl, .inl (SqL.of hq3'), ?_⟩
    rw [List.length_map, hl3]
    refine ⟨rfl, ?_⟩
    rw [show decide (V.int ((2 : Nat) : Int) = V.int 2) = true from decide_eq_true rfl]
    exact kk _
end
end M

namespace M
open PySem L2
theorem ktp_of {K : PySem.W.Frag} {a : Addr} {xs : List V} {dd : Option Addr} {its : Array Value} {n : Nat} {sl : Array (Option Value)} (h : K.lookup a = some ⟨.type "tuple", dd, .seq its n, sl⟩) (hz : its.size ≤ sizeLine) (v : Vals xs its.toList) : KTp K a xs := ⟨_, its, n, h, rfl, rfl, hz, v⟩
def FoOk (K : PySem.W.Frag) (q : List (Str × List Srt)) (kvs : List (Str × V)) : Prop := ∀ k, (q.lookup k = none → kvs.lookup k = none) ∧ ∀ l, q.lookup k = some l → ∃ b, kvs.lookup k = some (.ref b) ∧ KTp K b (l.map fun s => .str s.word)
theorem fo_nil {K : PySem.W.Frag} : FoOk K [] [] := fun k => ⟨fun _ => rfl, fun l h => nomatch h⟩
theorem fo_cons {K : PySem.W.Frag} {x : Str} {b : Addr} {l : List Srt} {q : List (Str × List Srt)} {kvs : List (Str × V)} (h : KTp K b (l.map fun s => .str s.word)) (ih : FoOk K q kvs) : FoOk K ((x, l) :: q) ((x, .ref b) :: kvs) := fun k => by
  rw [List.lookup_cons, List.lookup_cons]
  by_cases e : k = x
  · subst e
    rw [beq_self_eq_true]
    exact ⟨fun z => by simp at z, fun l' z => by
      have : l = l' := by simpa using z
      subst this
      exact ⟨b, rfl, h⟩⟩
  · have e' : (k == x) = false := by simpa using e
    rw [e']
    exact ih k
theorem all_mk {l : PySem.W.OpenLaw} {w : World} {K : PySem.W.Frag} {h : Heap} {mg : Str → Option Value} {fa f1 f2 f3 f4 f5 f6 f7 f8 f9 f10 f11 : Addr} (X : K.In h) (G : h.Ns mainGlobals mg) (hfa : mg "law" = some (.ref fa))
    {od1 an1 od2 an2 od3 an3 od4 an4 od5 an5 od6 an6 od7 an7 od8 an8 od9 an9 od10 an10 od11 an11 : Option Addr} {sl1 sl2 sl3 sl4 sl5 sl6 sl7 sl8 sl9 sl10 sl11 : Array (Option Value)} {oc1 kV1 dc1 pm1 cd1 ct1 oc2 kV2 dc2 pm2 cd2 ct2 oc3 kV3 dc3 pm3 cd3 ct3 oc4 kV4 dc4 pm4 cd4 ct4 oc5 kV5 dc5 pm5 cd5 ct5 oc6 kV6 dc6 pm6 cd6 ct6 oc7 kV7 dc7 pm7 cd7 ct7 oc8 kV8 dc8 pm8 cd8 ct8 oc9 kV9 dc9 pm9 cd9 ct9 oc10 kV10 dc10 pm10 cd10 ct10 oc11 kV11 dc11 pm11 cd11 ct11 : Value} {tL : Tok} {tC : Tok} {C CD f_I f_A f_B f_Fr f_R f_E f_S f_J aF aB tw_ b5_ b6_ b7_ f1_ f2_ f3_ f4_ f5_ f6_ f7_ b1_ b2_ b3_ b4_ CL L c1_ c2_ c3_ : Addr} {od_I an_I od_A an_A od_B an_B od_Fr an_Fr od_R an_R od_E an_E od_S an_S od_J an_J : Option Addr} {sl_I sl_A sl_B sl_Fr sl_R sl_E sl_S sl_J : Array (Option Value)} {oc_I kV_I dc_I pm_I cd_I ct_I oc_A kV_A dc_A pm_A cd_A ct_A oc_B kV_B dc_B pm_B cd_B ct_B oc_Fr kV_Fr dc_Fr pm_Fr cd_Fr ct_Fr oc_R kV_R dc_R pm_R cd_R ct_R oc_E kV_E dc_E pm_E cd_E ct_E oc_S kV_S dc_S pm_S cd_S ct_S oc_J kV_J dc_J pm_J cd_J ct_J : Value} {it_f1_ it_f2_ it_f3_ it_f4_ it_f5_ it_f6_ it_f7_ it_b1_ it_b2_ it_b3_ it_b4_ it_tw_ : Array Value} {n_f1_ n_f2_ n_f3_ n_f4_ n_f5_ n_f6_ n_f7_ n_b1_ n_b2_ n_b3_ n_b4_ n_tw_ : Nat} {dd_f1_ dd_f2_ dd_f3_ dd_f4_ dd_f5_ dd_f6_ dd_f7_ dd_b1_ dd_b2_ dd_b3_ dd_b4_ dd_tw_ : Option Addr} {ss_f1_ ss_f2_ ss_f3_ ss_f4_ ss_f5_ ss_f6_ ss_f7_ ss_b1_ ss_b2_ ss_b3_ ss_b4_ ss_tw_ : Array (Option Value)} {esF esB : Array DictEntry} {nF nB : Nat} {cdC : ClassData}
    (a1 : PySem.W.nsIn K mainGlobals "is_name" = some (some (.ref f1))) (l1 : K.lookup f1 = some ⟨oc1, od1, .func (PySem.W.fnOf "is_name" "is_name" (defArgs sName) (defBody sName) (defScope sName) .none kV1 dc1 pm1 an1 cd1 ct1), sl1⟩) (c1 : PySem.W.codeIn K cd1 "is_name" = true) (k1 : PySem.W.keepIn K (.ref f1) = true)
    (a2 : PySem.W.nsIn K mainGlobals "check_row" = some (some (.ref f2))) (l2 : K.lookup f2 = some ⟨oc2, od2, .func (PySem.W.fnOf "check_row" "check_row" (defArgs sCheck) (defBody sCheck) (defScope sCheck) .none kV2 dc2 pm2 an2 cd2 ct2), sl2⟩) (c2 : PySem.W.codeIn K cd2 "check_row" = true) (k2 : PySem.W.keepIn K (.ref f2) = true)
    (a3 : PySem.W.nsIn K mainGlobals "is_well_made" = some (some (.ref f3))) (l3 : K.lookup f3 = some ⟨oc3, od3, .func (PySem.W.fnOf "is_well_made" "is_well_made" (defArgs sWell) (defBody sWell) (defScope sWell) .none kV3 dc3 pm3 an3 cd3 ct3), sl3⟩) (c3 : PySem.W.codeIn K cd3 "is_well_made" = true) (k3 : PySem.W.keepIn K (.ref f3) = true)
    (a4 : PySem.W.nsIn K mainGlobals "fits" = some (some (.ref f4))) (l4 : K.lookup f4 = some ⟨oc4, od4, .func (PySem.W.fnOf "fits" "fits" (defArgs sFits) (defBody sFits) (defScope sFits) .none kV4 dc4 pm4 an4 cd4 ct4), sl4⟩) (c4 : PySem.W.codeIn K cd4 "fits" = true) (k4 : PySem.W.keepIn K (.ref f4) = true)
    (a5 : PySem.W.nsIn K mainGlobals "check_acres" = some (some (.ref f5))) (l5 : K.lookup f5 = some ⟨oc5, od5, .func (PySem.W.fnOf "check_acres" "check_acres" (defArgs sCkA) (defBody sCkA) (defScope sCkA) .none kV5 dc5 pm5 an5 cd5 ct5), sl5⟩) (c5 : PySem.W.codeIn K cd5 "check_acres" = true) (k5 : PySem.W.keepIn K (.ref f5) = true)
    (a6 : PySem.W.nsIn K mainGlobals "check_land" = some (some (.ref f6))) (l6 : K.lookup f6 = some ⟨oc6, od6, .func (PySem.W.fnOf "check_land" "check_land" (defArgs sCkL) (defBody sCkL) (defScope sCkL) .none kV6 dc6 pm6 an6 cd6 ct6), sl6⟩) (c6 : PySem.W.codeIn K cd6 "check_land" = true) (k6 : PySem.W.keepIn K (.ref f6) = true)
    (a7 : PySem.W.nsIn K mainGlobals "check_alone" = some (some (.ref f7))) (l7 : K.lookup f7 = some ⟨oc7, od7, .func (PySem.W.fnOf "check_alone" "check_alone" (defArgs sAlone) (defBody sAlone) (defScope sAlone) .none kV7 dc7 pm7 an7 cd7 ct7), sl7⟩) (c7 : PySem.W.codeIn K cd7 "check_alone" = true) (k7 : PySem.W.keepIn K (.ref f7) = true)
    (a8 : PySem.W.nsIn K mainGlobals "_law_feed" = some (some (.ref f8))) (l8 : K.lookup f8 = some ⟨oc8, od8, .func (PySem.W.fnOf "_law_feed" "_law_feed" (defArgs sFeed) (defBody sFeed) (defScope sFeed) .none kV8 dc8 pm8 an8 cd8 ct8), sl8⟩) (c8 : PySem.W.codeIn K cd8 "_law_feed" = true) (k8 : PySem.W.keepIn K (.ref f8) = true)
    (a9 : PySem.W.nsIn K mainGlobals "_law_same" = some (some (.ref f9))) (l9 : K.lookup f9 = some ⟨oc9, od9, .func (PySem.W.fnOf "_law_same" "_law_same" (defArgs sSame) (defBody sSame) (defScope sSame) .none kV9 dc9 pm9 an9 cd9 ct9), sl9⟩) (c9 : PySem.W.codeIn K cd9 "_law_same" = true) (k9 : PySem.W.keepIn K (.ref f9) = true)
    (a10 : PySem.W.nsIn K mainGlobals "_law_why_made" = some (some (.ref f10))) (l10 : K.lookup f10 = some ⟨oc10, od10, .func (PySem.W.fnOf "_law_why_made" "_law_why_made" (defArgs sWhy) (defBody sWhy) (defScope sWhy) .none kV10 dc10 pm10 an10 cd10 ct10), sl10⟩) (c10 : PySem.W.codeIn K cd10 "_law_why_made" = true) (k10 : PySem.W.keepIn K (.ref f10) = true)
    (a11 : PySem.W.nsIn K mainGlobals "law" = some (some (.ref f11))) (l11 : K.lookup f11 = some ⟨oc11, od11, .func (PySem.W.fnOf "law" "law" (defArgs sLaw) (defBody sLaw) (defScope sLaw) .none kV11 dc11 pm11 an11 cd11 ct11), sl11⟩) (c11 : PySem.W.codeIn K cd11 "law" = true) (k11 : PySem.W.keepIn K (.ref f11) = true)
    (q1 : PySem.W.nsIn K mainGlobals "LONGEST_NAME" = some (some (.int 8 tL)))
    (q2 : PySem.W.nsIn K mainGlobals "CROWN" = some (some (.str "" tC)))
    (q3 : PySem.W.nsIn K mainGlobals "FORMS" = some (some (.ref aF)))
    (q4 : PySem.W.nsIn K mainGlobals "BOUNDS" = some (some (.ref aB)))
    (q5 : PySem.W.nsIn K mainGlobals "OF_TWO_MEN" = some (some (.ref tw_)))
    (q6 : PySem.W.nsIn K mainGlobals "Roll" = some (some (.ref C)))
    (q7 : PySem.W.nsIn K mainGlobals "Desk" = some (some (.ref CD)))
    (q8 : PySem.W.nsIn K mainGlobals "NoLand" = some (some (.ref CL)))
    (q9 : PySem.W.nsIn K mainGlobals "LandError" = some (some (.ref L)))
    (q10 : PySem.W.nsIn K mainGlobals "NoForm" = some (some (.ref c1_)))
    (q11 : PySem.W.nsIn K mainGlobals "NoText" = some (some (.ref c2_)))
    (q12 : PySem.W.nsIn K mainGlobals "NoEntry" = some (some (.ref c3_)))
    (z1 : PySem.W.nsIn K mainGlobals "isinstance" = some none)
    (z2 : PySem.W.nsIn K mainGlobals "int" = some none)
    (z3 : PySem.W.nsIn K mainGlobals "str" = some none)
    (z4 : PySem.W.nsIn K mainGlobals "len" = some none)
    (z5 : PySem.W.nsIn K mainGlobals "all" = some none)
    (z6 : PySem.W.nsIn K mainGlobals "zip" = some none)
    (z7 : PySem.W.nsIn K mainGlobals "range" = some none)
    (z8 : PySem.W.nsIn K mainGlobals "enumerate" = some none)
    (z9 : PySem.W.nsIn K mainGlobals "tuple" = some none)
    (z10 : PySem.W.nsIn K mainGlobals "bool" = some none)
    (z11 : PySem.W.nsIn K mainGlobals "list" = some none)
    (z12 : PySem.W.nsIn K mainGlobals "dict" = some none)
    (z13 : PySem.W.nsIn K mainGlobals "sorted" = some none)
    (z14 : PySem.W.nsIn K mainGlobals "ValueError" = some none)
    (fa_I : PySem.W.findIn K (.ref C) "__init__" = some (some (.ref f_I)))
    (la_I : K.lookup f_I = some ⟨oc_I, od_I, .func (PySem.W.fnOf "__init__" "Roll.__init__" (defArgs sInitR) (defBody sInitR) (defScope sInitR) .none kV_I dc_I pm_I an_I cd_I ct_I), sl_I⟩)
    (ca_I : PySem.W.codeIn K cd_I "Roll.__init__" = true)
    (ka_I : PySem.W.keepIn K (.ref f_I) = true)
    (ia_I : PySem.W.isFn K (.ref f_I) = true)
    (fa_A : PySem.W.findIn K (.ref C) "acres" = some (some (.ref f_A)))
    (la_A : K.lookup f_A = some ⟨oc_A, od_A, .func (PySem.W.fnOf "acres" "Roll.acres" (defArgs sAcres) (defBody sAcres) (defScope sAcres) .none kV_A dc_A pm_A an_A cd_A ct_A), sl_A⟩)
    (ca_A : PySem.W.codeIn K cd_A "Roll.acres" = true)
    (ka_A : PySem.W.keepIn K (.ref f_A) = true)
    (ia_A : PySem.W.isFn K (.ref f_A) = true)
    (fa_B : PySem.W.findIn K (.ref C) "bears" = some (some (.ref f_B)))
    (la_B : K.lookup f_B = some ⟨oc_B, od_B, .func (PySem.W.fnOf "bears" "Roll.bears" (defArgs sBears) (defBody sBears) (defScope sBears) .none kV_B dc_B pm_B an_B cd_B ct_B), sl_B⟩)
    (ca_B : PySem.W.codeIn K cd_B "Roll.bears" = true)
    (ka_B : PySem.W.keepIn K (.ref f_B) = true)
    (ia_B : PySem.W.isFn K (.ref f_B) = true)
    (fa_Fr : PySem.W.findIn K (.ref C) "free" = some (some (.ref f_Fr)))
    (la_Fr : K.lookup f_Fr = some ⟨oc_Fr, od_Fr, .func (PySem.W.fnOf "free" "Roll.free" (defArgs sFree) (defBody sFree) (defScope sFree) .none kV_Fr dc_Fr pm_Fr an_Fr cd_Fr ct_Fr), sl_Fr⟩)
    (ca_Fr : PySem.W.codeIn K cd_Fr "Roll.free" = true)
    (ka_Fr : PySem.W.keepIn K (.ref f_Fr) = true)
    (ia_Fr : PySem.W.isFn K (.ref f_Fr) = true)
    (fa_R : PySem.W.findIn K (.ref C) "rows" = some (some (.ref f_R)))
    (la_R : K.lookup f_R = some ⟨oc_R, od_R, .func (PySem.W.fnOf "rows" "Roll.rows" (defArgs sRows) (defBody sRows) (defScope sRows) .none kV_R dc_R pm_R an_R cd_R ct_R), sl_R⟩)
    (ca_R : PySem.W.codeIn K cd_R "Roll.rows" = true)
    (ka_R : PySem.W.keepIn K (.ref f_R) = true)
    (ia_R : PySem.W.isFn K (.ref f_R) = true)
    (fa_E : PySem.W.findIn K (.ref C) "enter_all" = some (some (.ref f_E)))
    (la_E : K.lookup f_E = some ⟨oc_E, od_E, .func (PySem.W.fnOf "enter_all" "Roll.enter_all" (defArgs sEnterAll) (defBody sEnterAll) (defScope sEnterAll) .none kV_E dc_E pm_E an_E cd_E ct_E), sl_E⟩)
    (ca_E : PySem.W.codeIn K cd_E "Roll.enter_all" = true)
    (ka_E : PySem.W.keepIn K (.ref f_E) = true)
    (ia_E : PySem.W.isFn K (.ref f_E) = true)
    (fa_S : PySem.W.findIn K (.ref C) "settle" = some (some (.ref f_S)))
    (la_S : K.lookup f_S = some ⟨oc_S, od_S, .func (PySem.W.fnOf "settle" "Roll.settle" (defArgs sSettle) (defBody sSettle) (defScope sSettle) .none kV_S dc_S pm_S an_S cd_S ct_S), sl_S⟩)
    (ca_S : PySem.W.codeIn K cd_S "Roll.settle" = true)
    (ka_S : PySem.W.keepIn K (.ref f_S) = true)
    (ia_S : PySem.W.isFn K (.ref f_S) = true)
    (fa_J : PySem.W.findIn K (.ref CD) "__init__" = some (some (.ref f_J)))
    (la_J : K.lookup f_J = some ⟨oc_J, od_J, .func (PySem.W.fnOf "__init__" "Desk.__init__" (defArgs sInitD) (defBody sInitD) (defScope sInitD) .none kV_J dc_J pm_J an_J cd_J ct_J), sl_J⟩)
    (ca_J : PySem.W.codeIn K cd_J "Desk.__init__" = true)
    (ka_J : PySem.W.keepIn K (.ref f_J) = true)
    (ia_J : PySem.W.isFn K (.ref f_J) = true)
    (pgC : PySem.W.plainGet K C Str.empty = true)
    (hdC : PySem.W.hasDictIn K C = true)
    (poC : PySem.W.plainOver K C = true)
    (saC : PySem.W.findIn K (.ref C) "__setattr__" = some (some (.builtin "object.__setattr__")))
    (mkC : PySem.W.makesIn K C = true)
    (kpC : PySem.W.keepIn K (.ref C) = true)
    (pgCD : PySem.W.plainGet K CD Str.empty = true)
    (hdCD : PySem.W.hasDictIn K CD = true)
    (poCD : PySem.W.plainOver K CD = true)
    (saCD : PySem.W.findIn K (.ref CD) "__setattr__" = some (some (.builtin "object.__setattr__")))
    (mkCD : PySem.W.makesIn K CD = true)
    (kpCD : PySem.W.keepIn K (.ref CD) = true)
    (na1 : PySem.W.findIn K (.ref C) "many_acres" = some none)
    (na2 : PySem.W.findIn K (.ref C) "coins" = some none)
    (na3 : PySem.W.findIn K (.ref C) "standing" = some none)
    (na4 : PySem.W.findIn K (.ref C) "earlier" = some none)
    (na5 : PySem.W.findIn K (.ref C) "later" = some none)
    (nd : PySem.W.findIn K (.ref CD) "roll" = some none)
    (kF : K.lookup aF = some ⟨.type "dict", none, .dict esF nF, #[]⟩)
    (eF : EntsAre w.params esF.toList [("heir", .ref f1_), ("grant", .ref f2_), ("part", .ref f3_), ("convey", .ref f4_), ("liege", .ref f5_), ("surrender", .ref f6_), ("death", .ref f7_)])
    (lF : (aF == sysModules) = false)
    (kB : K.lookup aB = some ⟨.type "dict", none, .dict esB nB, #[]⟩)
    (eB : EntsAre w.params esB.toList [("day", .ref b1_), ("acres", .ref b2_), ("service", .ref b3_), ("bears", .ref b4_), ("edge", .ref b5_), ("number", .ref b6_), ("entry", .ref b7_)])
    (lB : (aB == sysModules) = false)
    (t_f1_ : K.lookup f1_ = some ⟨.type "tuple", dd_f1_, .seq it_f1_ n_f1_, ss_f1_⟩)
    (s_f1_ : it_f1_.size ≤ sizeLine)
    (v_f1_ : Vals [.str "day", .str "name", .str "name"] it_f1_.toList)
    (t_f2_ : K.lookup f2_ = some ⟨.type "tuple", dd_f2_, .seq it_f2_ n_f2_, ss_f2_⟩)
    (s_f2_ : it_f2_.size ≤ sizeLine)
    (v_f2_ : Vals [.str "day", .str "name or crown", .str "name", .str "name", .str "acres", .str "service"] it_f2_.toList)
    (t_f3_ : K.lookup f3_ = some ⟨.type "tuple", dd_f3_, .seq it_f3_ n_f3_, ss_f3_⟩)
    (s_f3_ : it_f3_.size ≤ sizeLine)
    (v_f3_ : Vals [.str "day", .str "name", .str "name", .str "name", .str "acres"] it_f3_.toList)
    (t_f4_ : K.lookup f4_ = some ⟨.type "tuple", dd_f4_, .seq it_f4_ n_f4_, ss_f4_⟩)
    (s_f4_ : it_f4_.size ≤ sizeLine)
    (v_f4_ : Vals [.str "day", .str "name", .str "name"] it_f4_.toList)
    (t_f5_ : K.lookup f5_ = some ⟨.type "tuple", dd_f5_, .seq it_f5_ n_f5_, ss_f5_⟩)
    (s_f5_ : it_f5_.size ≤ sizeLine)
    (v_f5_ : Vals [.str "day", .str "name", .str "name or crown"] it_f5_.toList)
    (t_f6_ : K.lookup f6_ = some ⟨.type "tuple", dd_f6_, .seq it_f6_ n_f6_, ss_f6_⟩)
    (s_f6_ : it_f6_.size ≤ sizeLine)
    (v_f6_ : Vals [.str "day", .str "name"] it_f6_.toList)
    (t_f7_ : K.lookup f7_ = some ⟨.type "tuple", dd_f7_, .seq it_f7_ n_f7_, ss_f7_⟩)
    (s_f7_ : it_f7_.size ≤ sizeLine)
    (v_f7_ : Vals [.str "day", .str "name"] it_f7_.toList)
    (t_b1_ : K.lookup b1_ = some ⟨.type "tuple", dd_b1_, .seq it_b1_ n_b1_, ss_b1_⟩)
    (s_b1_ : it_b1_.size ≤ sizeLine)
    (v_b1_ : Vals [.int 0, .int 9999] it_b1_.toList)
    (t_b2_ : K.lookup b2_ = some ⟨.type "tuple", dd_b2_, .seq it_b2_ n_b2_, ss_b2_⟩)
    (s_b2_ : it_b2_.size ≤ sizeLine)
    (v_b2_ : Vals [.int 1, .int 9999] it_b2_.toList)
    (t_b3_ : K.lookup b3_ = some ⟨.type "tuple", dd_b3_, .seq it_b3_ n_b3_, ss_b3_⟩)
    (s_b3_ : it_b3_.size ≤ sizeLine)
    (v_b3_ : Vals [.int 0, .int 9999] it_b3_.toList)
    (t_b4_ : K.lookup b4_ = some ⟨.type "tuple", dd_b4_, .seq it_b4_ n_b4_, ss_b4_⟩)
    (s_b4_ : it_b4_.size ≤ sizeLine)
    (v_b4_ : Vals [.int 0, .int 99] it_b4_.toList)
    (t_tw_ : K.lookup tw_ = some ⟨.type "tuple", dd_tw_, .seq it_tw_ n_tw_, ss_tw_⟩)
    (s_tw_ : it_tw_.size ≤ sizeLine)
    (v_tw_ : Vals [.str "heir", .str "liege"] it_tw_.toList)
    (hCL : PySem.W.excIn K CL vErr "ValueError.__new__" = true)
    (hCF : PySem.W.excIn K c1_ vErr "ValueError.__new__" = true)
    (x1 : PySem.W.findIn K (.ref CL) "__getattribute__" = some (some (.builtin "BaseException.__getattribute__")))
    (x2 : PySem.W.findIn K (.ref CL) "__getattr__" = some none)
    (x3 : PySem.W.clsIn K CL = some cdC)
    (x4 : PySem.W.findIn K (.ref CL) "__class__" = some (some (.builtin "object.__class__")))
    (x5 : PySem.W.specialIn K (.builtin "object.__class__") "__get__" = some (some (.builtin "getset_descriptor.__get__")))
    (x6 : PySem.W.takesIn K (.builtin "object.__class__") = some true)
    (x7 : PySem.W.mroIn K CL (.type "object") = some true)
    (x8 : PySem.W.mroIn K CL (.type "BaseException") = some true)
    (ex : PySem.W.exmOne K (.ref CL) (.ref L) = some true)
    (y0 : PySem.W.kitOne K (.ref CL) (.type "ValueError") = some true)
    (y1 : PySem.W.kitOne K (.ref CL) (.ref CL) = some true)
    (y2 : PySem.W.kitOne K (.ref CL) (.ref c1_) = some false)
    (y3 : PySem.W.kitOne K (.ref CL) (.ref c2_) = some false)
    (y4 : PySem.W.kitOne K (.ref CL) (.ref c3_) = some false) :
    ∃ fd : FuncData, (∀ (s : Shared) (v : Value), BindsTo s fd ⟨[v], []⟩ [("_law_script", v)]) ∧ ∀ base : Heap, K.In base → base.Ns mainGlobals mg → FnOk l.prog w K mg base CX0 9 fa fd ["_law_script"] (spLaw K) := by
  have e := hfa.symm.trans (PySem.W.mg_of X G a11)
  cases e
  have F1 := fun_mk (st := sName) l1 c1 k1
  have M1 : Ms K mg "is_name" f1 _ ["text"] := ⟨F1.binds (ps := ["text"]) fun _ _ _ _ _ _ us hl => match us, hl with | [_], _ => rfl, k1, PySem.W.mg_of X G a1⟩
  have F2 := fun_mk (st := sCheck) l2 c2 k2
  have M2 : Ms K mg "check_row" f2 _ ["row"] := ⟨F2.binds (ps := ["row"]) fun _ _ _ _ _ _ us hl => match us, hl with | [_], _ => rfl, k2, PySem.W.mg_of X G a2⟩
  have F3 := fun_mk (st := sWell) l3 c3 k3
  have M3 : Ms K mg "is_well_made" f3 _ ["row"] := ⟨F3.binds (ps := ["row"]) fun _ _ _ _ _ _ us hl => match us, hl with | [_], _ => rfl, k3, PySem.W.mg_of X G a3⟩
  have F4 := fun_mk (st := sFits) l4 c4 k4
  have M4 : Ms K mg "fits" f4 _ ["sort", "piece"] := ⟨F4.binds (ps := ["sort", "piece"]) fun _ _ _ _ _ _ us hl => match us, hl with | [_, _], _ => rfl, k4, PySem.W.mg_of X G a4⟩
  have F5 := fun_mk (st := sCkA) l5 c5 k5
  have M5 : Ms K mg "check_acres" f5 _ ["acres"] := ⟨F5.binds (ps := ["acres"]) fun _ _ _ _ _ _ us hl => match us, hl with | [_], _ => rfl, k5, PySem.W.mg_of X G a5⟩
  have F6 := fun_mk (st := sCkL) l6 c6 k6
  have M6 : Ms K mg "check_land" f6 _ ["acres", "bears"] := ⟨F6.binds (ps := ["acres", "bears"]) fun _ _ _ _ _ _ us hl => match us, hl with | [_, _], _ => rfl, k6, PySem.W.mg_of X G a6⟩
  have F7 := fun_mk (st := sAlone) l7 c7 k7
  have M7 : Ms K mg "check_alone" f7 _ ["row", "held"] := ⟨F7.binds (ps := ["row", "held"]) fun _ _ _ _ _ _ us hl => match us, hl with | [_, _], _ => rfl, k7, PySem.W.mg_of X G a7⟩
  have F8 := fun_mk (st := sFeed) l8 c8 k8
  have M8 : Ms K mg "_law_feed" f8 _ ["_law_script", "_law_many"] := ⟨F8.binds (ps := ["_law_script", "_law_many"]) fun _ _ _ _ _ _ us hl => match us, hl with | [_, _], _ => rfl, k8, PySem.W.mg_of X G a8⟩
  have F9 := fun_mk (st := sSame) l9 c9 k9
  have M9 : Ms K mg "_law_same" f9 _ ["_law_found", "_law_due"] := ⟨F9.binds (ps := ["_law_found", "_law_due"]) fun _ _ _ _ _ _ us hl => match us, hl with | [_, _], _ => rfl, k9, PySem.W.mg_of X G a9⟩
  have F10 := fun_mk (st := sWhy) l10 c10 k10
  have M10 : Ms K mg "_law_why_made" f10 _ ["_law_desk", "_law_acres", "_law_coins"] := ⟨F10.binds (ps := ["_law_desk", "_law_acres", "_law_coins"]) fun _ _ _ _ _ _ us hl => match us, hl with | [_, _, _], _ => rfl, k10, PySem.W.mg_of X G a10⟩
  have F11 := fun_mk (st := sLaw) l11 c11 k11
  have c_LONGEST_NAME := PySem.W.mg_of X G q1
  have c_CROWN := PySem.W.mg_of X G q2
  have c_FORMS := PySem.W.mg_of X G q3
  have c_BOUNDS := PySem.W.mg_of X G q4
  have c_OF_TWO_MEN := PySem.W.mg_of X G q5
  have c_Roll := PySem.W.mg_of X G q6
  have c_Desk := PySem.W.mg_of X G q7
  have c_NoLand := PySem.W.mg_of X G q8
  have c_LandError := PySem.W.mg_of X G q9
  have c_NoForm := PySem.W.mg_of X G q10
  have c_NoText := PySem.W.mg_of X G q11
  have c_NoEntry := PySem.W.mg_of X G q12
  have n_isinstance := PySem.W.mg_none_of X G z1
  have n_int := PySem.W.mg_none_of X G z2
  have n_str := PySem.W.mg_none_of X G z3
  have n_len := PySem.W.mg_none_of X G z4
  have n_all := PySem.W.mg_none_of X G z5
  have n_zip := PySem.W.mg_none_of X G z6
  have n_range := PySem.W.mg_none_of X G z7
  have n_enumerate := PySem.W.mg_none_of X G z8
  have n_tuple := PySem.W.mg_none_of X G z9
  have n_bool := PySem.W.mg_none_of X G z10
  have n_list := PySem.W.mg_none_of X G z11
  have n_dict := PySem.W.mg_none_of X G z12
  have n_sorted := PySem.W.mg_none_of X G z13
  have n_ValueError := PySem.W.mg_none_of X G z14
  refine ⟨PySem.W.fnOf "law" "law" (defArgs sLaw) (defBody sLaw) (defScope sLaw) .none kV11 dc11 pm11 an11 cd11 ct11, fun s v => .of_eq rfl, fun base _ _ => ?_⟩
  have mo : Mods K w.params mg := ⟨⟨aB, b1_, b2_, b3_, b4_, b5_, b6_, b7_, c_BOUNDS, ⟨⟨_, _, kB, eB⟩, lB⟩, ktp_of t_b1_ s_b1_ v_b1_, ktp_of t_b2_ s_b2_ v_b2_, ktp_of t_b3_ s_b3_ v_b3_, ktp_of t_b4_ s_b4_ v_b4_⟩, ⟨aF, _, c_FORMS, ⟨⟨_, _, kF, eF⟩, lF⟩, fo_cons (ktp_of t_f1_ s_f1_ v_f1_) (fo_cons (ktp_of t_f2_ s_f2_ v_f2_) (fo_cons (ktp_of t_f3_ s_f3_ v_f3_) (fo_cons (ktp_of t_f4_ s_f4_ v_f4_) (fo_cons (ktp_of t_f5_ s_f5_ v_f5_) (fo_cons (ktp_of t_f6_ s_f6_ v_f6_) (fo_cons (ktp_of t_f7_ s_f7_ v_f7_) (fo_nil)))))))⟩, ⟨tw_, c_OF_TWO_MEN, ktp_of t_tw_ s_tw_ v_tw_⟩, ⟨_, c_CROWN⟩⟩
  have cl : Classes K mg CL L c1_ c2_ c3_ := ⟨c_NoLand, c_LandError, c_NoForm, c_NoText, c_NoEntry, ⟨x1, x2, by rw [x3]; rfl, x4, x5, x6, x7, x8⟩, ex, y0, y1, y2, y3, y4⟩
  have ms : MgS mg := ⟨n_isinstance, n_bool, n_int, n_str, n_list, n_tuple, n_len, n_all, n_zip⟩
  have T : RollC K C := ⟨⟨pgC, hdC, poC, saC⟩, na1, na2, na3, na4, na5⟩
  have TD : DeskC K CD := ⟨⟨pgCD, hdCD, poCD, saCD⟩, nd⟩
  have F_I := fun_mk (st := sInitR) la_I ca_I ka_I
  have b_I := F_I.binds (ps := ["self", "acres", "bears"]) fun _ _ _ _ _ _ us hl => match us, hl with | [_, _, _], _ => rfl
  have F_A := fun_mk (st := sAcres) la_A ca_A ka_A
  have b_A := F_A.binds (ps := ["self"]) fun _ _ _ _ _ _ us hl => match us, hl with | [_], _ => rfl
  have F_B := fun_mk (st := sBears) la_B ca_B ka_B
  have b_B := F_B.binds (ps := ["self"]) fun _ _ _ _ _ _ us hl => match us, hl with | [_], _ => rfl
  have F_Fr := fun_mk (st := sFree) la_Fr ca_Fr ka_Fr
  have b_Fr := F_Fr.binds (ps := ["self"]) fun _ _ _ _ _ _ us hl => match us, hl with | [_], _ => rfl
  have F_R := fun_mk (st := sRows) la_R ca_R ka_R
  have b_R := F_R.binds (ps := ["self"]) fun _ _ _ _ _ _ us hl => match us, hl with | [_], _ => rfl
  have F_E := fun_mk (st := sEnterAll) la_E ca_E ka_E
  have b_E := F_E.binds (ps := ["self", "rows"]) fun _ _ _ _ _ _ us hl => match us, hl with | [_, _], _ => rfl
  have F_S := fun_mk (st := sSettle) la_S ca_S ka_S
  have b_S := F_S.binds (ps := ["self", "free", "held"]) fun _ _ _ _ _ _ us hl => match us, hl with | [_, _, _], _ => rfl
  have F_J := fun_mk (st := sInitD) la_J ca_J ka_J
  have b_J := F_J.binds (ps := ["self", "acres", "bears"]) fun _ _ _ _ _ _ us hl => match us, hl with | [_, _, _], _ => rfl
  have G1 := ok_name (P := l.prog) (w := w) (base := base) F1 c_LONGEST_NAME n_len
  have G4 := ok_fits (P := l.prog) (w := w) (base := base) F4 mo G1 M1
  have G_N := ok_fitN (P := l.prog) (w := w) (base := base) F4 mo
  have G3 := ok_well (P := l.prog) (w := w) (base := base) F3 mo n_len n_zip G4 M4
  have G2 := ok_check (P := l.prog) (w := w) (base := base) F2 c_NoForm hCF G3 M3
  have G5 := ok_ckA (P := l.prog) (w := w) (base := base) F5 c_NoLand hCL G_N M4
  have G6 := ok_ckL (P := l.prog) (w := w) (base := base) F6 c_NoLand hCL G_N M4 G5 M5
  have G_I := ok_initR (P := l.prog) (w := w) (base := base) T F_I G6 M6
  have G_A := ok_acr (P := l.prog) (w := w) (mg := mg) (base := base) T F_A
  have G_B := ok_bea (P := l.prog) (w := w) (mg := mg) (base := base) T F_B
  have G_Fr := ok_fre (P := l.prog) (w := w) (mg := mg) (base := base) T F_Fr
  have G_R := ok_rowsR (P := l.prog) (w := w) (base := base) T F_R n_sorted
  have G_S := ok_settle (P := l.prog) (w := w) (mg := mg) (base := base) T F_S
  have G7 := ok_alone (P := l.prog) (w := w) (base := base) F7 n_list
  have G_E := ok_enterAll (P := l.prog) (w := w) (base := base) T F_E n_dict n_enumerate n_len n_list n_range G2 M2 G7 M7 G_S ⟨fa_S, ia_S, ka_S⟩ b_S
  have MK1 : Mk K C f_I := ⟨mkC, fa_I, ia_I, kpC⟩
  have MK2 : Mk K CD f_J := ⟨mkCD, fa_J, ia_J, kpCD⟩
  have G_J := ok_initD (P := l.prog) (w := w) (base := base) TD F_J G_I MK1 c_Roll b_I
  have G8 := ok_feed (P := l.prog) (w := w) (base := base) F8 n_range n_len
  have G9 := ok_same (P := l.prog) (w := w) (base := base) F9 ms M9 3
  have G10 := ok_why (P := l.prog) (w := w) (base := base) F10 TD n_isinstance n_ValueError cl G_I MK1 c_Roll b_I G_J MK2 c_Desk b_J
  exact ok_law F11 T TD n_range n_len G8 M8 G9 M9 G10 M10 G_A ⟨fa_A, ia_A, ka_A⟩ b_A G_B ⟨fa_B, ia_B, ka_B⟩ b_B G_R ⟨fa_R, ia_R, ka_R⟩ b_R G_Fr ⟨fa_Fr, ia_Fr, ka_Fr⟩ b_Fr G_E ⟨fa_E, ia_E, ka_E⟩ b_E G_J MK2 c_Desk b_J
theorem walk {l : PySem.W.OpenLaw} {q : Program} {loose : List Str} {XP : (Str → Option Value) → Heap → Prop} {YP : World → Heap → Prop} {d : DefRec} {K : Params → PySem.W.Frag} (hn : l.most = some 63) (hdf : d.params.defaults = [])
    (hY : ∀ (w : World) (h : Heap), YP w h → (K w.params).In h)
    (F : ∀ (w : World) (mg : Str → Option Value) (fa : Addr) (h : Heap), (K w.params).In h → h.Ns mainGlobals mg → mg d.name = some (.ref fa) →
      ∃ fd : FuncData, (∀ (s : Shared) (u : Value), BindsTo s fd ⟨[u], []⟩ [("_law_script", u)]) ∧ ∀ base : Heap, (K w.params).In base → base.Ns mainGlobals mg → FnOk l.prog w (K w.params) mg base CX0 9 fa fd ["_law_script"] (spLaw (K w.params))) :
    PySem.W.WalkO q loose XP YP l.row.toRowW d [] (fun f vs => PySem.call f vs) :=
  L2.walk_of (n := 63) (k := 9) (x := "_law_script") (CX := fun _ => CX0) (sp := fun w => spLaw (K w.params)) hn (by decide) hdf ⟨rfl, by decide, by decide⟩ hY F (fun _ _ a ns hl _ hS => ⟨a, ns, rfl, hS, hl, fun _ => rfl⟩) fun _ _ _ _ _ z => z
end M
def PySem.W.Fast.tw7284546014215969556 : Nat := 0
def PySem.W.Fast.tw12084096976091564477 : Nat := 0
def PySem.W.Fast.tw13502252522838389664 : Nat := 0
def PySem.W.Fast.tw14717996783439146153 : Nat := 0
def PySem.W.Fast.tw8060176258300367024 : Nat := 0
def PySem.W.Fast.tw4917507778605373985 : Nat := 0
def PySem.W.Fast.tw12469903826499009099 : Nat := 0
def PySem.W.Fast.tw2489747762146710873 : Nat := 0
def PySem.W.Fast.tw7392740547374412873 : Nat := 0
def PySem.W.Fast.tw18376033719052444584 : Nat := 0
def PySem.W.Fast.tw14275404079252439091 : Nat := 0
def PySem.W.Fast.tw13239983590595211357 : Nat := 0
def PySem.W.Fast.tw14811329820527271859 : Nat := 0
def PySem.W.Fast.tw8749720910458699484 : Nat := 0
def PySem.W.Fast.tw15012424393987258988 : Nat := 0
def PySem.W.Fast.tw13268697141131037050 : Nat := 0
def PySem.W.Fast.tw9818490542122254973 : Nat := 0
def PySem.W.Fast.tw4706868241438384086 : Nat := 0
def PySem.W.Fast.tw17160630777550040569 : Nat := 0
def PySem.W.Fast.tw15804992850148413541 : Nat := 0
def PySem.W.Fast.tw14762387639107889900 : Nat := 0
def PySem.W.Fast.tw13989718114350212051 : Nat := 0
def PySem.W.Fast.tw10528255439600619858 : Nat := 0
def PySem.W.Fast.tw8880578378020544395 : Nat := 0
def PySem.W.Fast.tw10850633250878671004 : Nat := 0
def PySem.W.Fast.tw6741660936342501137 : Nat := 0
def PySem.W.Fast.tw14318244966022324322 : Nat := 0
def PySem.W.Fast.tw3375004077945166705 : Nat := 0
def PySem.W.Fast.tw18093680244576951233 : Nat := 0
def PySem.W.Fast.tw2349206358212270555 : Nat := 0
def PySem.W.Fast.tw5423602837463040725 : Nat := 0
def PySem.W.Fast.tw6451280588603745553 : Nat := 0
def PySem.W.Fast.tw6789564360855247803 : Nat := 0
def PySem.W.Fast.tw12586571226399072691 : Nat := 0
def PySem.W.Fast.tw11118945568190899247 : Nat := 0
def PySem.W.Fast.tw13787431042113518554 : Nat := 0
def PySem.W.Fast.tw16213733873885247720 : Nat := 0
def PySem.W.Fast.tw15739509073256396499 : Nat := 0
def PySem.W.Fast.tw8970738095949400559 : Nat := 0
def PySem.W.Fast.tw10286639993100585399 : Nat := 0
def PySem.W.Fast.tw13485083391411480857 : Nat := 0
def PySem.W.Fast.tw1703607390907661052 : Nat := 0
def PySem.W.Fast.tw8076851703752752625 : Nat := 0
def PySem.W.Fast.tw9224798585282148684 : Nat := 0
def PySem.W.Fast.tw13165875859253576970 : Nat := 0
def PySem.W.Fast.tw3724902210478647312 : Nat := 0
def PySem.W.Fast.tw15711516535890446119 : Nat := 0
def PySem.W.Fast.tw18349261917680745617 : Nat := 0
open PySem PySem.W PyProof.Rows
set_option maxRecDepth 100000 in
set_option maxHeartbeats 0 in
theorem PySem.Challenge.cw_manrent_k62_rolls_and_desks_of_no_land_holds : PySem.Challenge.rw_manrent_k62_rolls_and_desks_of_no_land.Holds := by
  w_on; o_law; k_head; (case hw => w_witness2)
  k_fill
  refine M.walk (l := PySem.Challenge.rw_manrent_k62_rolls_and_desks_of_no_land) rfl rfl (fun w h Y => PySem.W.kIn_of Y) ?F
  case F =>
    intro w mg fa h KX G hmg
    refine' M.all_mk KX G hmg ?a1 ?l1 ?c1 ?k1 ?a2 ?l2 ?c2 ?k2 ?a3 ?l3 ?c3 ?k3 ?a4 ?l4 ?c4 ?k4 ?a5 ?l5 ?c5 ?k5 ?a6 ?l6 ?c6 ?k6 ?a7 ?l7 ?c7 ?k7 ?a8 ?l8 ?c8 ?k8 ?a9 ?l9 ?c9 ?k9 ?a10 ?l10 ?c10 ?k10 ?a11 ?l11 ?c11 ?k11 ?q1 ?q2 ?q3 ?q4 ?q5 ?q6 ?q7 ?q8 ?q9 ?q10 ?q11 ?q12 ?z1 ?z2 ?z3 ?z4 ?z5 ?z6 ?z7 ?z8 ?z9 ?z10 ?z11 ?z12 ?z13 ?z14 ?fa_I ?la_I ?ca_I ?ka_I ?ia_I ?fa_A ?la_A ?ca_A ?ka_A ?ia_A ?fa_B ?la_B ?ca_B ?ka_B ?ia_B ?fa_Fr ?la_Fr ?ca_Fr ?ka_Fr ?ia_Fr ?fa_R ?la_R ?ca_R ?ka_R ?ia_R ?fa_E ?la_E ?ca_E ?ka_E ?ia_E ?fa_S ?la_S ?ca_S ?ka_S ?ia_S ?fa_J ?la_J ?ca_J ?ka_J ?ia_J ?pgC ?hdC ?poC ?saC ?mkC ?kpC ?pgCD ?hdCD ?poCD ?saCD ?mkCD ?kpCD ?na1 ?na2 ?na3 ?na4 ?na5 ?nd ?kF ?eF ?lF ?kB ?eB ?lB ?t_f1_ ?s_f1_ ?v_f1_ ?t_f2_ ?s_f2_ ?v_f2_ ?t_f3_ ?s_f3_ ?v_f3_ ?t_f4_ ?s_f4_ ?v_f4_ ?t_f5_ ?s_f5_ ?v_f5_ ?t_f6_ ?s_f6_ ?v_f6_ ?t_f7_ ?s_f7_ ?v_f7_ ?t_b1_ ?s_b1_ ?v_b1_ ?t_b2_ ?s_b2_ ?v_b2_ ?t_b3_ ?s_b3_ ?v_b3_ ?t_b4_ ?s_b4_ ?v_b4_ ?t_tw_ ?s_tw_ ?v_tw_ ?hCL ?hCF ?x1 ?x2 ?x3 ?x4 ?x5 ?x6 ?x7 ?x8 ?ex ?y0 ?y1 ?y2 ?y3 ?y4
    (case a1 => k_is); (case l1 => k_is); (case c1 => k_is); (case k1 => k_is)
    (case a2 => k_is); (case l2 => k_is); (case c2 => k_is); (case k2 => k_is)
    (case a3 => k_is); (case l3 => k_is); (case c3 => k_is); (case k3 => k_is)
    (case a4 => k_is); (case l4 => k_is); (case c4 => k_is); (case k4 => k_is)
    (case a5 => k_is); (case l5 => k_is); (case c5 => k_is); (case k5 => k_is)
    (case a6 => k_is); (case l6 => k_is); (case c6 => k_is); (case k6 => k_is)
    (case a7 => k_is); (case l7 => k_is); (case c7 => k_is); (case k7 => k_is)
    (case a8 => k_is); (case l8 => k_is); (case c8 => k_is); (case k8 => k_is)
    (case a9 => k_is); (case l9 => k_is); (case c9 => k_is); (case k9 => k_is)
    (case a10 => k_is); (case l10 => k_is); (case c10 => k_is); (case k10 => k_is)
    (case a11 => k_is); (case l11 => k_is); (case c11 => k_is); (case k11 => k_is)
    (case q1 => k_is); (case q2 => k_is); (case q3 => k_is); (case q4 => k_is)
    (case q5 => k_is); (case q6 => k_is); (case q7 => k_is); (case q8 => k_is)
    (case q9 => k_is); (case q10 => k_is); (case q11 => k_is); (case q12 => k_is)
    (case z1 => k_is); (case z2 => k_is); (case z3 => k_is); (case z4 => k_is)
    (case z5 => k_is); (case z6 => k_is); (case z7 => k_is); (case z8 => k_is)
    (case z9 => k_is); (case z10 => k_is); (case z11 => k_is); (case z12 => k_is)
    (case z13 => k_is); (case z14 => k_is)
    (case fa_I => k_is)
    (case la_I => k_is)
    (case ca_I => k_is)
    (case ka_I => k_is)
    (case ia_I => k_is)
    (case fa_A => k_is)
    (case la_A => k_is)
    (case ca_A => k_is)
    (case ka_A => k_is)
    (case ia_A => k_is)
    (case fa_B => k_is)
    (case la_B => k_is)
    (case ca_B => k_is)
    (case ka_B => k_is)
    (case ia_B => k_is)
    (case fa_Fr => k_is)
    (case la_Fr => k_is)
    (case ca_Fr => k_is)
    (case ka_Fr => k_is)
    (case ia_Fr => k_is)
    (case fa_R => k_is)
    (case la_R => k_is)
    (case ca_R => k_is)
    (case ka_R => k_is)
    (case ia_R => k_is)
    (case fa_E => k_is)
    (case la_E => k_is)
    (case ca_E => k_is)
    (case ka_E => k_is)
    (case ia_E => k_is)
    (case fa_S => k_is)
    (case la_S => k_is)
    (case ca_S => k_is)
    (case ka_S => k_is)
    (case ia_S => k_is)
    (case fa_J => k_is)
    (case la_J => k_is)
    (case ca_J => k_is)
    (case ka_J => k_is)
    (case ia_J => k_is)
    (case pgC => k_is)
    (case hdC => k_is)
    (case poC => k_is)
    (case saC => k_is)
    (case mkC => k_is)
    (case kpC => k_is)
    (case pgCD => k_is)
    (case hdCD => k_is)
    (case poCD => k_is)
    (case saCD => k_is)
    (case mkCD => k_is)
    (case kpCD => k_is)
    (case na1 => k_is)
    (case na2 => k_is)
    (case na3 => k_is)
    (case na4 => k_is)
    (case na5 => k_is)
    (case nd => k_is)
    (case kF => k_is)
    (case eF => exact ⟨⟨⟨_, rfl⟩, rfl, rfl⟩, ⟨⟨_, rfl⟩, rfl, rfl⟩, ⟨⟨_, rfl⟩, rfl, rfl⟩, ⟨⟨_, rfl⟩, rfl, rfl⟩, ⟨⟨_, rfl⟩, rfl, rfl⟩, ⟨⟨_, rfl⟩, rfl, rfl⟩, ⟨⟨_, rfl⟩, rfl, rfl⟩, True.intro⟩)
    (case lF => rfl)
    (case kB => k_is)
    (case eB => exact ⟨⟨⟨_, rfl⟩, rfl, rfl⟩, ⟨⟨_, rfl⟩, rfl, rfl⟩, ⟨⟨_, rfl⟩, rfl, rfl⟩, ⟨⟨_, rfl⟩, rfl, rfl⟩, ⟨⟨_, rfl⟩, rfl, rfl⟩, ⟨⟨_, rfl⟩, rfl, rfl⟩, ⟨⟨_, rfl⟩, rfl, rfl⟩, True.intro⟩)
    (case lB => rfl)
    (case t_f1_ => k_is)
    (case s_f1_ => exact M.small (Nat.le_of_ble_eq_true rfl))
    (case v_f1_ => exact .cons ⟨_, rfl⟩ (.cons ⟨_, rfl⟩ (.cons ⟨_, rfl⟩ (.nil))))
    (case t_f2_ => k_is)
    (case s_f2_ => exact M.small (Nat.le_of_ble_eq_true rfl))
    (case v_f2_ => exact .cons ⟨_, rfl⟩ (.cons ⟨_, rfl⟩ (.cons ⟨_, rfl⟩ (.cons ⟨_, rfl⟩ (.cons ⟨_, rfl⟩ (.cons ⟨_, rfl⟩ (.nil)))))))
    (case t_f3_ => k_is)
    (case s_f3_ => exact M.small (Nat.le_of_ble_eq_true rfl))
    (case v_f3_ => exact .cons ⟨_, rfl⟩ (.cons ⟨_, rfl⟩ (.cons ⟨_, rfl⟩ (.cons ⟨_, rfl⟩ (.cons ⟨_, rfl⟩ (.nil))))))
    (case t_f4_ => k_is)
    (case s_f4_ => exact M.small (Nat.le_of_ble_eq_true rfl))
    (case v_f4_ => exact .cons ⟨_, rfl⟩ (.cons ⟨_, rfl⟩ (.cons ⟨_, rfl⟩ (.nil))))
    (case t_f5_ => k_is)
    (case s_f5_ => exact M.small (Nat.le_of_ble_eq_true rfl))
    (case v_f5_ => exact .cons ⟨_, rfl⟩ (.cons ⟨_, rfl⟩ (.cons ⟨_, rfl⟩ (.nil))))
    (case t_f6_ => k_is)
    (case s_f6_ => exact M.small (Nat.le_of_ble_eq_true rfl))
    (case v_f6_ => exact .cons ⟨_, rfl⟩ (.cons ⟨_, rfl⟩ (.nil)))
    (case t_f7_ => k_is)
    (case s_f7_ => exact M.small (Nat.le_of_ble_eq_true rfl))
    (case v_f7_ => exact .cons ⟨_, rfl⟩ (.cons ⟨_, rfl⟩ (.nil)))
    (case t_b1_ => k_is)
    (case s_b1_ => exact M.small (Nat.le_of_ble_eq_true rfl))
    (case v_b1_ => exact .cons ⟨_, rfl⟩ (.cons ⟨_, rfl⟩ (.nil)))
    (case t_b2_ => k_is)
    (case s_b2_ => exact M.small (Nat.le_of_ble_eq_true rfl))
    (case v_b2_ => exact .cons ⟨_, rfl⟩ (.cons ⟨_, rfl⟩ (.nil)))
    (case t_b3_ => k_is)
    (case s_b3_ => exact M.small (Nat.le_of_ble_eq_true rfl))
    (case v_b3_ => exact .cons ⟨_, rfl⟩ (.cons ⟨_, rfl⟩ (.nil)))
    (case t_b4_ => k_is)
    (case s_b4_ => exact M.small (Nat.le_of_ble_eq_true rfl))
    (case v_b4_ => exact .cons ⟨_, rfl⟩ (.cons ⟨_, rfl⟩ (.nil)))
    (case t_tw_ => k_is)
    (case s_tw_ => exact M.small (Nat.le_of_ble_eq_true rfl))
    (case v_tw_ => exact .cons ⟨_, rfl⟩ (.cons ⟨_, rfl⟩ (.nil)))
    (case hCL => k_exc)
    (case hCF => k_exc)
    (case x1 => k_is)
    (case x2 => k_is)
    (case x3 => k_is)
    (case x4 => k_is)
    (case x5 => k_is)
    (case x6 => k_is)
    (case x7 => k_is)
    (case x8 => k_is)
    (case ex => kts_exm)
    (case y0 => kit_is)
    (case y1 => kit_is)
    (case y2 => kit_is)
    (case y3 => kit_is)
    (case y4 => kit_is)
