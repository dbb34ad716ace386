import PyProof.Rows.All
import Wide.All
import OpenK.AllK
import Wide.FinOn
import Lean
import PyProof.EqAt
import PyProof.EqKinds
import PyProof.TupleCall
import KE.KSortTup
import KE.KDictSum
import PyProof.Conv_int_bool
import PyProof.DictTable
import PyProof.DictCompW
import PyProof.SumWalkG
import KE.KSort
import PyProof.ListRange
import PyProof.CompUse
import PyProof.Rows.RuleDivmod
import PySem.Challenge.RW_twainhoard_k05_refusals_apart
-- CHANGE: your row's module here, as the last of these rows
set_option Elab.async false
set_option linter.all false
set_option maxRecDepth 100000
/-! THE HAND LAYER, for ints, bools, texts, own classes, LISTS and tuples (index, slices, in, append, pop ..), calls, loops. Paste it whole ahead of your own text; what your proof does not reach may be deleted. -/
namespace L2
open PySem PySem.Spec PyProof.Rows

/-- a key: an int or a str -/
abbrev Key := Sum Int Str
def keyIs : Key → Value → Bool
  | .inl k, v => Value.isInt k v
  | .inr x, v => Value.isStrOf x v
def keyH (w : World) : Key → Int
  | .inl k => hashInt k
  | .inr x => hashStr w x
theorem keyIs_shape : ∀ {k : Key} {v : Value}, keyIs k v = true → (∃ i t, k = Sum.inl i ∧ v = Value.int i t) ∨ (∃ x t, k = Sum.inr x ∧ v = Value.str x t)
  | .inl i, v, h => by
    obtain ⟨t, e⟩ := Value.isInt_shape (k := i) (v := v) h
    exact .inl ⟨i, t, rfl, e⟩
  | .inr x, v, h => by
    obtain ⟨t, e⟩ := Value.isStrOf_shape (x := x) (v := v) h
    exact .inr ⟨x, t, rfl, e⟩
theorem keyIs_int (i : Int) (t : Tok) : keyIs (.inl i) (.int i t) = true := by simp [keyIs, Value.isInt]
theorem keyIs_str (x : Str) (t : Tok) : keyIs (.inr x) (.str x t) = true := by simp [keyIs, Value.isStrOf]
theorem key_ll (a b : Int) : decide ((Sum.inl a : Key) = Sum.inl b) = (a == b) := by
  by_cases e : a = b
  · subst e; simp
  · have h : ¬ (Sum.inl a : Key) = Sum.inl b := fun q => e (Sum.inl.inj q)
    rw [decide_eq_false h]
    exact (beq_eq_false_iff_ne.mpr e).symm
theorem key_rr (a b : Str) : decide ((Sum.inr a : Key) = Sum.inr b) = decide (a = b) := by
  by_cases e : a = b
  · subst e; simp
  · have h : ¬ (Sum.inr a : Key) = Sum.inr b := fun q => e (Sum.inr.inj q)
    rw [decide_eq_false h, decide_eq_false e]
theorem key_lr (a : Int) (b : Str) : decide ((Sum.inl a : Key) = Sum.inr b) = false := decide_eq_false (fun q => nomatch q)
theorem key_rl (a : Str) (b : Int) : decide ((Sum.inr a : Key) = Sum.inl b) = false := decide_eq_false (fun q => nomatch q)

def mixKind (prog : Program) (w : World) : PySem.KeyKind prog w Key where
  is := keyIs
  hash := keyH w
  inj := fun v a b ha hb => by
    rcases keyIs_shape ha with ⟨i, t, rfl, rfl⟩ | ⟨x, t, rfl, rfl⟩
    · rcases keyIs_shape hb with ⟨j, u, rfl, e⟩ | ⟨y, u, rfl, e⟩
      · injection e with e1 _; rw [e1]
      · exact nomatch e
    · rcases keyIs_shape hb with ⟨j, u, rfl, e⟩ | ⟨y, u, rfl, e⟩
      · exact nomatch e
      · injection e with e1 _; rw [e1]
  byValue := fun k v h => by
    rcases keyIs_shape h with ⟨i, t, rfl, rfl⟩ | ⟨x, t, rfl, rfl⟩ <;> rfl
  pyHash := fun hv h => by
    rcases keyIs_shape hv with ⟨i, t, rfl, rfl⟩ | ⟨x, t, rfl, rfl⟩
    · exact wpAny_pyHash_int h
    · exact wpAny_pyHash_str h
  eqBool := fun hu hv h => by
    rcases keyIs_shape hu with ⟨i, t, rfl, rfl⟩ | ⟨x, t, rfl, rfl⟩
    · rcases keyIs_shape hv with ⟨j, u, rfl, rfl⟩ | ⟨y, u, rfl, rfl⟩
      · rw [key_ll] at h; exact wpAny_eqBool_int h
      · rw [key_lr] at h; exact SeqAt.EqAt.int_str i t y u _ _ _ _ h
    · rcases keyIs_shape hv with ⟨j, u, rfl, rfl⟩ | ⟨y, u, rfl, rfl⟩
      · rw [key_rl] at h; exact SeqAt.EqAt.str_int x t j u _ _ _ _ h
      · rw [key_rr] at h; exact wpAny_eqBool_str h
  «strs» := fun k x t v h => by
    rcases keyIs_shape h with ⟨i, u, rfl, e⟩ | ⟨y, u, rfl, e⟩
    · exact nomatch e
    · injection e with e1 _
      subst e1
      cases v <;> rfl

theorem mixKind_int (prog : Program) (w : World) (i : Int) (t : Tok) : (mixKind prog w).is (.inl i) (.int i t) = true := keyIs_int i t
theorem mixKind_str (prog : Program) (w : World) (x : Str) (t : Tok) : (mixKind prog w).is (.inr x) (.str x t) = true := keyIs_str x t
end L2

namespace L2
open PySem PySem.Spec PyProof.Rows

/-- a value, without the heap -/
inductive V where
  | non | bl (b : Bool) | int (i : Int) | str (x : Str) | byt (b : Array UInt8) | flt (b : UInt64) | ref (a : Addr) | ty (n : String)
  deriving DecidableEq

def RelV : V → Value → Prop
  | .non, u => u = Value.none
  | .bl b, u => u = Value.bool b
  | .int i, u => ∃ t, u = Value.int i t
  | .str x, u => ∃ t, u = Value.str x t
  | .byt b, u => ∃ t, u = Value.bytes b t
  | .flt b, u => ∃ t, u = Value.float b t
  | .ref a, u => u = Value.ref a
  | .ty n, u => u = Value.type n

abbrev Vals : List V → List Value → Prop := Paired RelV
theorem Vals.length {xs : List V} {us : List Value} (r : Vals xs us) : xs.length = us.length := Paired.length r
theorem Vals.get : ∀ {xs : List V} {us : List Value} {i : Nat} {x : V}, Vals xs us → xs[i]? = some x → ∃ u, us[i]? = some u ∧ RelV x u
  | _, _, _, _, .nil, e => by simp at e
  | _, _, 0, _, .cons r _, e => by simp at e; subst e; exact ⟨_, rfl, r⟩
  | _, _, i + 1, x, .cons _ t, e => by
    obtain ⟨u, h1, h2⟩ := Vals.get (i := i) (x := x) t (by simpa using e)
    exact ⟨u, by simpa using h1, h2⟩
theorem Vals.set {x : V} {u : Value} (r : RelV x u) : ∀ {xs : List V} {us : List Value} (i : Nat), Vals xs us → Vals (xs.set i x) (us.set i u)
  | _, _, _, .nil => .nil
  | _, _, 0, .cons _ t => .cons r t
  | _, _, i + 1, .cons q t => .cons q (Vals.set r i t)
theorem Vals.append : ∀ {xs ys : List V} {us ws : List Value}, Vals xs us → Vals ys ws → Vals (xs ++ ys) (us ++ ws)
  | _, _, _, _, .nil, s => s
  | _, _, _, _, .cons r t, s => .cons r (Vals.append t s)
theorem Vals.take : ∀ {xs : List V} {us : List Value} (n : Nat), Vals xs us → Vals (xs.take n) (us.take n)
  | _, _, 0, _ => .nil
  | _, _, _ + 1, .nil => .nil
  | _, _, n + 1, .cons r t => .cons r (Vals.take n t)
theorem Vals.drop : ∀ {xs : List V} {us : List Value} (n : Nat), Vals xs us → Vals (xs.drop n) (us.drop n)
  | _, _, 0, r => r
  | _, _, _ + 1, .nil => .nil
  | _, _, n + 1, .cons _ t => Vals.drop n t

def RelO : Option V → Option Value → Prop
  | some v, some u => RelV v u
  | none, none => True
  | _, _ => False
def KV {κ : Type} : List (κ × V) → List (κ × Value) → Prop := Paired fun (p : κ × V) (q : κ × Value) => p.1 = q.1 ∧ RelV p.2 q.2

/-- a key of a dict (00_mix): an int or a text -/
def kV : Key → V
  | .inl i => .int i
  | .inr x => .str x

/-- what stands at a tracked address -/
inductive HO where
  /-- a list -/
  | lst (xs : List V)
  /-- a tuple (never changes) -/
  | tup (xs : List V)
  /-- a dict whose keys are ints and texts; one whose keys are tuples of ints and texts (the empty one is both) -/
  | dK (kvs : List (Key × V)) | dT (kvs : List (List Key × V))
  /-- a set of ints: its members, its size -/
  | set (S : Int → Bool) (n : Nat)
  /-- an instance of the class at C, its dict at dx, its attributes -/
  | ins (C dx : Addr) (fs : List (Str × V))
  /-- the dict of the instance at x -/
  | own (x : Addr)
  /-- the dict of an exception -/
  | xd (fs : List (Str × V))
  /-- a bound method, f of x -/
  | met (f x : Addr)
  /-- a range object lo, lo + 1, .. below hi -/
  | rng (lo hi : Int)
  /-- a thing that is known to the object (the script; a dict while a loop walks it): read, never written while it is so -/
  | frz (o : Obj) (u : HO)
  /-- a code object's table -/
  | tbl (ps : Array Value)
  /-- any other thing, by what is true of its one object (a def of one's own: SetO a S n := HO.ext fun h => ..) -/
  | ext (φ : Heap → Prop)

abbrev Hp := Addr → Option HO
def upd (H : Hp) (a : Addr) (o : HO) : Hp := fun b => if b = a then some o else H b
theorem upd_same {H : Hp} {a : Addr} {o : HO} : upd H a o a = some o := by unfold upd; rw [if_pos rfl]
theorem upd_ne {H : Hp} {a b : Addr} {o : HO} (h : b ≠ a) : upd H a o b = H b := by unfold upd; rw [if_neg h]
theorem ne_of_none {H : Hp} {a b : Addr} {o : HO} (h : H a = some o) (h' : H b = none) : a ≠ b := by
  intro e; subst e; rw [h] at h'; cases h'

section
variable (P : Program) (w : World)
def ObjOk (H : Hp) (h : Heap) (a : Addr) : HO → Prop
  | .lst xs => xs.length ≤ sizeLine ∧ ∃ (its : List Value) (n : Nat), Vals xs its ∧ h.get? a = some { cls := .type "list", data := .seq its.toArray n }
  | .tup xs => xs.length ≤ sizeLine ∧ ∃ its : List Value, Vals xs its ∧ IsTup h a its.toArray
  | .dK kvs => kvs.length ≤ sizeLine ∧ (a == sysModules) = false ∧ ∃ vs, KV kvs vs ∧ h.DictOf (mixKind P w) a vs
  | .dT kvs => kvs.length ≤ sizeLine ∧ (a == sysModules) = false ∧ ∃ xs : List (List Key × Addr × Value),
      Paired (fun (p : List Key × V) (q : List Key × Addr × Value) => p.1 = q.1 ∧ H q.2.1 = some (.tup (p.1.map kV)) ∧ RelV p.2 q.2.2) kvs xs ∧
      ∃ o es ep, h.get? a = some o ∧ o.ExactDict ∧ o.data = .dict es ep ∧ es.toList = xs.map (entryOfKey (tupleKind (mixKind P w))) ∧ (xs.map (·.1)).Nodup
  | .set S n => h.SetOf (intKind P w) a S n
  | .ins C dx fs => H dx = some (.own a) ∧ fs.length ≤ 1000 ∧ dx ≠ a ∧ h.get? a = some (PySem.W.instObj C dx) ∧
      ∃ mA, h.Ns1 dx mA ∧ (∀ f, RelO (fs.lookup f) (mA f)) ∧ PySem.Within mA (fs.map (·.1))
  | .own _ => ∃ o, h.get? a = some o
  | .xd fs => ∃ mA, h.Ns1 a mA ∧ ∀ f, RelO (fs.lookup f) (mA f)
  | .rng lo hi => ∃ t u v, h.get? a = some { cls := .type "range", data := .fields #[.int lo t, .int hi u, .int 1 v] }
  | .frz o u => h.get? a = some o ∧ ObjOk H h a u
  | .tbl ps => h.get? a = some { cls := .none, data := .fields ps }
  | .met f x => h.get? a = some (PySem.W.methodObj (.ref f) (.ref x))
  | .ext φ => φ h ∧ (∃ o, h.get? a = some o) ∧ ∀ h1 h2 : Heap, φ h1 → (∀ o, h1.get? a = some o → h2.get? a = some o) → φ h2
/-- the abstract heap is held -/
def HOk (H : Hp) (h : Heap) : Prop := ∀ a o, H a = some o → ObjOk P w H h a o
end

section
variable {P : Program} {w : World} {H H' : Hp} {h h' : Heap} {a : Addr} {o : HO}
theorem ObjOk.lt (x : ObjOk P w H h a o) : a < h.objs.size := by
  cases o with
  | lst xs => obtain ⟨_, _, _, _, e⟩ := x; exact Heap.lt_size e
  | tup xs => obtain ⟨_, _, _, p⟩ := x; exact p.lt
  | dK kvs => obtain ⟨_, _, _, _, o, _, _, e, _⟩ := x; exact Heap.lt_size e
  | dT kvs => obtain ⟨_, _, _, _, o, _, _, e, _⟩ := x; exact Heap.lt_size e
  | set S n => obtain ⟨o, _, _, _, e, _⟩ := x; exact Heap.lt_size e
  | ins C dx fs => obtain ⟨_, _, _, e, _⟩ := x; exact Heap.lt_size e
  | own y => obtain ⟨_, e⟩ := x; exact Heap.lt_size e
  | xd fs => obtain ⟨_, ⟨_, _, _, e, _⟩, _⟩ := x; exact Heap.lt_size e
  | rng lo hi => obtain ⟨_, _, _, e⟩ := x; exact Heap.lt_size e
  | frz ob u => obtain ⟨e, _⟩ := x; exact Heap.lt_size e
  | tbl ps => exact Heap.lt_size (show h.get? a = some _ from x)
  | met f y => exact Heap.lt_size (show h.get? a = some _ from x)
  | ext φ => obtain ⟨_, ⟨_, e⟩, _⟩ := x; exact Heap.lt_size e
theorem Paired.mapP {α β : Type} {F G : α → β → Prop} : ∀ {l₁ : List α} {l₂ : List β}, Paired F l₁ l₂ → (∀ a b, F a b → G a b) → Paired G l₁ l₂
  | _, _, .nil, _ => .nil
  | _, _, .cons r t, f => .cons (f _ _ r) (Paired.mapP t f)
/-- what an object's description leans on: its own object, its own dict, the tuples -/
theorem ObjOk.stay (x : ObjOk P w H h a o) (k : ∀ b u, (b = a ∨ H b = some (.own a)) → h.get? b = some u → h'.get? b = some u)
    (ho : ∀ b, H b = some (.own a) → H' b = some (.own a)) (ht : ∀ b xs, H b = some (.tup xs) → H' b = some (.tup xs)) : ObjOk P w H' h' a o := by
  induction o with
  | lst xs => obtain ⟨z, its, n, r, e⟩ := x; exact ⟨z, its, n, r, k _ _ (.inl rfl) e⟩
  | tup xs => obtain ⟨z, its, r, ob, e, c⟩ := x; exact ⟨z, its, r, ob, k _ _ (.inl rfl) e, c⟩
  | dK kvs => obtain ⟨z, y, vs, r, ob, es, ep, e, c⟩ := x; exact ⟨z, y, vs, r, ob, es, ep, k _ _ (.inl rfl) e, c⟩
  | dT kvs =>
    obtain ⟨z, y, xs, r, ob, es, ep, e, c⟩ := x
    exact ⟨z, y, xs, Paired.mapP r fun p q z => ⟨z.1, ht _ _ z.2.1, z.2.2⟩, ob, es, ep, k _ _ (.inl rfl) e, c⟩
  | set S n => obtain ⟨ob, es, ep, t, e, c⟩ := x; exact ⟨ob, es, ep, t, k _ _ (.inl rfl) e, c⟩
  | ins C dx fs =>
    obtain ⟨d, z, ne, e, mA, ⟨od, es, ep, e2, c⟩, r⟩ := x
    exact ⟨ho _ d, z, ne, k _ _ (.inl rfl) e, mA, ⟨od, es, ep, k _ _ (.inr d) e2, c⟩, r⟩
  | own y => obtain ⟨ob, e⟩ := x; exact ⟨ob, k _ _ (.inl rfl) e⟩
  | xd fs => obtain ⟨mA, ⟨od, es, ep, e, c⟩, r⟩ := x; exact ⟨mA, ⟨od, es, ep, k _ _ (.inl rfl) e, c⟩, r⟩
  | rng lo hi => obtain ⟨t, u, v, e⟩ := x; exact ⟨t, u, v, k _ _ (.inl rfl) e⟩
  | frz ob u ih => obtain ⟨e, q⟩ := x; exact ⟨k _ _ (.inl rfl) e, ih q⟩
  | tbl ps =>
    have e : h.get? a = some { cls := .none, data := .fields ps } := x
    show h'.get? a = some { cls := .none, data := .fields ps }
    exact k a _ (.inl rfl) e
  | met f y =>
    have e : h.get? a = some (PySem.W.methodObj (.ref f) (.ref y)) := x
    show h'.get? a = some (PySem.W.methodObj (.ref f) (.ref y))
    exact k a _ (.inl rfl) e
  | ext φ => obtain ⟨p, ⟨o, e⟩, st⟩ := x; exact ⟨st _ _ p fun o q => k _ _ (.inl rfl) q, ⟨o, k _ _ (.inl rfl) e⟩, st⟩
theorem HOk.lt (x : HOk P w H h) (e : H a = some o) : a < h.objs.size := (x a o e).lt
theorem HOk.fresh (x : HOk P w H h) (e : h.objs.size ≤ a) : H a = none := by
  cases q : H a with
  | none => rfl
  | some u => exact absurd (Nat.lt_of_lt_of_le (x.lt q) e) (Nat.lt_irrefl _)
/-- every object of the heap is kept -/
theorem HOk.kept (x : HOk P w H h) (k : ∀ b u, h.get? b = some u → h'.get? b = some u) : HOk P w H h' := fun a o e =>
  (x a o e).stay (fun b u _ q => k b u q) (fun _ q => q) fun _ _ q => q
/-- a new object is laid and tracked -/
theorem HOk.laid (x : HOk P w H h) (k : ∀ b u, h.get? b = some u → h'.get? b = some u) (hp : h.objs.size ≤ a) (new : ObjOk P w (upd H a o) h' a o) : HOk P w (upd H a o) h' := fun b u e => by
  have hn := x.fresh hp
  by_cases hb : b = a
  · subst hb; rw [upd_same] at e; cases e; exact new
  · rw [upd_ne hb] at e
    exact (x b u e).stay (fun c v _ q => k c v q) (fun c q => by rw [upd_ne (ne_of_none q hn)]; exact q) fun c xs q => by rw [upd_ne (ne_of_none q hn)]; exact q
end

/-- what may be read as u: it is u, or a known u -/
def Rd (H : Hp) (a : Addr) (u : HO) : Prop := H a = some u ∨ ∃ o, H a = some (.frz o u)
theorem Rd.of {H : Hp} {a : Addr} {u : HO} (h : H a = some u) : Rd H a u := .inl h
theorem Rd.ok {P : Program} {w : World} {H : Hp} {h : Heap} {a : Addr} {u : HO} (r : Rd H a u) (x : HOk P w H h) : ObjOk P w H h a u := by
  rcases r with r | ⟨o, r⟩
  · exact x a u r
  · obtain ⟨_, q⟩ := x a _ r
    exact q
/-- what may be written -/
def Mut : Option HO → Prop
  | some (.lst _) => True
  | some (.dK _) => True
  | some (.dT _) => True
  | some (.set _ _) => True
  | some (.ins _ _ _) => True
  | some (.ext _) => True
  | _ => False
section
variable {P : Program} {w : World} {H : Hp} {h h' : Heap} {x e : Addr} {o' : HO}
/-- the object at e is changed: x itself, or the dict of the instance x -/
theorem HOk.write (ok : HOk P w H h) (mu : Mut (H x)) (he : e = x ∨ H e = some (.own x)) (k : ∀ b u, b ≠ e → h.get? b = some u → h'.get? b = some u) (heo : ∃ u, h'.get? e = some u)
    (new : ObjOk P w (upd H x o') h' x o') : HOk P w (upd H x o') h' := fun b u q => by
  have nown : ∀ c y, H c = some (.own y) → c ≠ x := fun c y r z => by subst z; rw [r] at mu; exact mu
  have ntup : ∀ c xs, H c = some (.tup xs) → c ≠ x := fun c xs r z => by subst z; rw [r] at mu; exact mu
  by_cases hb : b = x
  · subst hb; rw [upd_same] at q; cases q; exact new
  · rw [upd_ne hb] at q
    by_cases hbe : b = e
    · have q' : H b = some (.own x) := by
        rcases he with z | z
        · exact absurd (hbe.trans z) hb
        · rw [hbe]; exact z
      rw [q] at q'; cases q'
      obtain ⟨v, hv⟩ := heo
      exact ⟨v, by rw [hbe]; exact hv⟩
    · refine (ok b u q).stay (fun c v hc r => k c v ?_ r) (fun c r => by rw [upd_ne (nown c b r)]; exact r) fun c xs r => by rw [upd_ne (ntup c xs r)]; exact r
      rcases hc with rfl | hc
      · exact hbe
      · rintro rfl
        rcases he with z | z
        · exact nown c b hc z
        · rw [hc] at z; cases z; exact hb rfl
end

/-! ### kept unless tracked; of the frames at fs (the callers') the slots may change (an exception that passes writes there); of the records at ex (iterators) nothing is said -/
structure Un (fs ex : List Addr) (H H' : Hp) (h h' : Heap) : Prop where
  keep : ∀ b o, h.get? b = some o → H b = none → b ∉ fs → b ∉ ex → h'.get? b = some o
  slot : ∀ b o, h.get? b = some o → H b = none → b ∈ fs → b ∉ ex → ∃ sl, h'.get? b = some { o with slots := sl }
  free : ∀ b o, h.get? b = some o → H b = none → b ∉ ex → H' b = none
  there : ∀ b o, h.get? b = some o → b ∉ ex → ∃ o', h'.get? b = some o'
  tups : ∀ b xs, H b = some (.tup xs) → H' b = some (.tup xs)
  frzs : ∀ b o u, H b = some (.frz o u) → H' b = some (.frz o u)
  tbls : ∀ b ps, H b = some (.tbl ps) → ∃ more, H' b = some (.tbl (ps ++ more))
section
variable {fs fs' ex ex' : List Addr} {H H1 H2 : Hp} {h h1 h2 h' : Heap} {a x e : Addr} {o : HO}
theorem Un.any (u : Un fs ex H H1 h h1) {b : Addr} {ob : Obj} (q : h.get? b = some ob) (n : H b = none) (hx : b ∉ ex) : ∃ sl, h1.get? b = some { ob with slots := sl } := by
  by_cases hb : b ∈ fs
  · exact u.slot b ob q n hb hx
  · exact ⟨ob.slots, u.keep b ob q n hb hx⟩
theorem Un.trans (a : Un fs ex H H1 h h1) (b : Un fs ex H1 H2 h1 h2) : Un fs ex H H2 h h2 where
  keep := fun c ob q n hc hx => b.keep c ob (a.keep c ob q n hc hx) (a.free c ob q n hx) hc hx
  slot := fun c ob q n hc hx => by
    obtain ⟨sl, e1⟩ := a.slot c ob q n hc hx
    obtain ⟨sl', e2⟩ := b.slot c _ e1 (a.free c ob q n hx) hc hx
    exact ⟨sl', e2⟩
  free := fun c ob q n hx => by
    obtain ⟨o', e1⟩ := a.there c ob q hx
    exact b.free c o' e1 (a.free c ob q n hx) hx
  there := fun c ob q hx => by
    obtain ⟨o', e1⟩ := a.there c ob q hx
    exact b.there c o' e1 hx
  tups := fun c xs q => b.tups c xs (a.tups c xs q)
  frzs := fun c ob xs q => b.frzs c ob xs (a.frzs c ob xs q)
  tbls := fun c ps q => by
    obtain ⟨m1, e1⟩ := a.tbls c ps q
    obtain ⟨m2, e2⟩ := b.tbls c _ e1
    exact ⟨m1 ++ m2, by rw [e2, Array.append_assoc]⟩
theorem Un.kept (k : ∀ b u, h.get? b = some u → h'.get? b = some u) : Un fs ex H H h h' :=
  ⟨fun b ob q _ _ _ => k b ob q, fun b ob q _ _ _ => ⟨ob.slots, k b ob q⟩, fun _ _ _ n _ => n, fun b ob q _ => ⟨ob, k b ob q⟩, fun _ _ q => q, fun _ _ _ q => q, fun _ ps q => ⟨#[], by rw [q]; simp⟩⟩
theorem Un.refl : Un fs ex H H h h := Un.kept fun _ _ q => q
theorem Un.laid (k : ∀ b u, h.get? b = some u → h'.get? b = some u) (hp : h.objs.size ≤ a) (hn : H a = none) : Un fs ex H (upd H a o) h h' where
  keep := fun b u q _ _ _ => k b u q
  slot := fun b u q _ _ _ => ⟨u.slots, k b u q⟩
  free := fun b u q n _ => by rw [upd_ne (Nat.ne_of_lt (Nat.lt_of_lt_of_le (Heap.lt_size q) hp))]; exact n
  there := fun b u q _ => ⟨u, k b u q⟩
  tups := fun b xs q => by rw [upd_ne (ne_of_none q hn)]; exact q
  frzs := fun b u xs q => by rw [upd_ne (ne_of_none q hn)]; exact q
  tbls := fun b ps q => ⟨#[], by rw [upd_ne (ne_of_none q hn), q]; simp⟩
theorem Un.write (mu : Mut (H x)) (he : e = x ∨ H e = some (.own x)) (k : ∀ b u, b ≠ e → h.get? b = some u → h'.get? b = some u) (heo : ∃ u, h'.get? e = some u) : Un fs ex H (upd H x o) h h' := by
  have hx : ∀ b, H b = none → b ≠ x := fun b n z => by subst z; rw [n] at mu; exact mu
  have hb : ∀ b, H b = none → b ≠ e := fun b n z => by
    subst z
    rcases he with r | r
    · exact hx b n r
    · rw [n] at r; cases r
  have hm : ∀ b u, H b = some u → ¬ Mut (some u) → b ≠ x := fun b u q nm z => by subst z; rw [q] at mu; exact nm mu
  refine ⟨fun b u q n _ _ => k b u (hb b n) q, fun b u q n _ _ => ⟨u.slots, k b u (hb b n) q⟩, fun b u q n _ => by rw [upd_ne (hx b n)]; exact n, fun b u q _ => ?_,
    fun b xs q => by rw [upd_ne (hm b _ q fun z => z)]; exact q, fun b u xs q => by rw [upd_ne (hm b _ q fun z => z)]; exact q, fun b ps q => ⟨#[], by rw [upd_ne (hm b _ q fun z => z), q]; simp⟩⟩
  by_cases hbe : b = e
  · subst hbe; exact heo
  · exact ⟨u, k b u hbe q⟩
theorem Un.mono (u : Un fs ex H H1 h h1) (hs : ∀ b ∈ fs, b ∈ fs') (hx : ∀ b ∈ ex, b ∈ ex') : Un fs' ex' H H1 h h1 :=
  ⟨fun b ob q n hb he => u.keep b ob q n (fun z => hb (hs b z)) fun z => he (hx b z), fun _ _ q n _ he => u.any q n fun z => he (hx _ z), fun b ob q n he => u.free b ob q n fun z => he (hx b z), fun b ob q he => u.there b ob q fun z => he (hx b z), u.tups, u.frzs, u.tbls⟩
end

/-! ### the heap without what is tracked -/
def trk (h : Heap) (H : Hp) : List Addr := (List.range h.objs.size).filter fun a => (H a).isSome
def hidT (h : Heap) (H : Hp) : Heap := PySem.W.hideAll h (trk h H)
theorem hidT_size (h : Heap) (H : Hp) : (hidT h H).objs.size = h.objs.size := PySem.W.hideAll_size _ _
theorem hidT_get {h : Heap} {H : Hp} {b : Addr} {o : Obj} (e : h.get? b = some o) (n : H b = none) : (hidT h H).get? b = some o :=
  PySem.W.hideAll_get _ e fun hm => by
    have q : (H b).isSome = true := (List.mem_filter.mp hm).2
    rw [n] at q; simp at q
theorem of_hidT {h : Heap} {H : Hp} {b : Addr} {o : Obj} (e : (hidT h H).get? b = some o) : h.get? b = some o ∧ H b = none := by
  have e' : h.get? b = some o := PySem.W.of_hideAll (trk h H) e
  refine ⟨e', ?_⟩
  cases q : H b with
  | none => rfl
  | some x =>
    have hm : b ∈ trk h H := List.mem_filter.mpr ⟨List.mem_range.mpr (Heap.lt_size e'), by simp [q]⟩
    have z : (hidT h H).get? b = none := PySem.W.hideAll_none (trk h H) hm
    rw [z] at e; cases e

/-! ### OpenK's ledger, filled with every new object but one -/
def allNews (g h : Heap) (L : Addr) : List (Addr × Obj) := (List.range h.objs.size).filterMap fun a => if a = L ∨ (g.get? a).isSome = true then none else (h.get? a).map fun o => (a, o)
def rest (g h : Heap) (L d : Addr) : List (Addr × Obj) := (allNews g h L).filter fun p => decide (p.1 ≠ d)
end L2

namespace L2
open PySem PySem.Spec PyProof.Rows

/-- the module's facts, over the base: the heap at the law's entry without what is tracked there -/
structure Mod (K : PySem.W.Frag) (mg : Str → Option Value) (base : Heap) : Prop where
  kin : K.In base
  glob : base.Ns mainGlobals mg
  blt : ∃ mb, base.Ns builtinsNs mb ∧ ∀ x : Str, x ≠ "__name__" → mb x = bootBuiltins x
  nolimit : base.NoLimit

/-- the context: a def's body (or a comprehension's block) running. base: fixed through the whole law; s₀, H₀: the entry; outer: the frames whose slots others may change (a def's callers); stack: all frames that run;
   ex: iterators that were made ahead of the entry and are walked here (a comprehension's); fn: the names whose cells were made at the entry (a def: all; a comprehension's block: its own); calm: not within an except suite; pn: pins that every state bears; xe: what is wanted of an exception that leaves the code -/
structure Cx where
  prog : Program
  w : World
  K : PySem.W.Frag
  mg : Str → Option Value
  base : Heap
  A : Around
  N : List Str
  s₀ : Shared
  H₀ : Hp
  env : Env
  outer : List Env
  stack : List Env
  ex : List Addr
  fn : Str → Bool
  calm : Bool
  pn : List (Addr × Obj)
  xe : Value → Shared → Prop
/-- the callers' frames -/
def frs (l : List Env) : List Addr := l.filterMap (·.frame)
abbrev Cx.fs (X : Cx) : List Addr := frs X.outer

def Vis (sc : Scope) (x : Str) : Prop := sc.names.lookup x = some .local ∨ sc.names.lookup x = some .cell ∨ sc.names.lookup x = some .free
def Loc (sc : Scope) (x : Str) : Prop := sc.names.lookup x = some .local ∨ sc.names.lookup x = some .cell
def Look (env : Env) (h : Heap) (m : Str → Option Value) (x : Str) (u : Value) : Prop :=
  (env.kindOf x = some .local ∧ m x = some u) ∨ ((env.kindOf x = some .cell ∨ env.kindOf x = some .free) ∧ ∃ c, env.cells.lookup x = some c ∧ h.IsCell c (some u))

structure Cx.Ok (X : Cx) : Prop where
  mod : Mod X.K X.mg X.base
  kind : X.env.scope.kind = .function
  glob : X.env.globals = mainGlobals
  blt : X.env.builtins = builtinsNs
  above : X.s₀.heap.objs.size ≤ X.env.locals
  inj : ∀ x y c, X.env.cells.lookup x = some c → X.env.cells.lookup y = some c → x = y
  has : ∀ x, (X.env.kindOf x = some .cell ∨ X.env.kindOf x = some .free) → ∃ c, X.env.cells.lookup x = some c
  cab : ∀ x c, X.fn x = true → X.env.cells.lookup x = some c → X.s₀.heap.objs.size ≤ c
  hd : X.calm = true → X.A.handled = none
  frames : X.A.frames = some X.stack
  stk : X.stack = X.outer ∨ (X.stack = X.env :: X.outer ∧ X.env.frame = some X.env.locals)
  exf : ∀ b ∈ X.ex, b ≠ X.env.locals ∧ ∀ x c, X.env.cells.lookup x = some c → c ≠ b
  bs : ∀ b o, X.base.get? b = some o → X.s₀.heap.get? b = some o ∧ X.H₀ b = none
  bsz : X.base.objs.size ≤ X.s₀.heap.objs.size
  noex : ∀ b o, X.base.get? b = some o → b ∉ X.ex
  exfs : ∀ b ∈ X.ex, b ∉ X.fs
  funs : X.s₀.heap.FunFrames X.base X.outer
  frf : ∀ b ∈ X.fs, X.H₀ b = none

structure Inv (X : Cx) (pins : List (Addr × Obj)) (σ : List (Option V)) (H : Hp) (s : Shared) : Prop where
  ok : X.Ok
  os : s.os = X.s₀.os
  bare : AllBare s.gens
  base : Un X.fs X.ex X.H₀ H X.s₀.heap s.heap
  loc : ∃ m, s.heap.Ns X.env.locals m ∧ ∀ (i : Nat) (x : Str) (v : V), X.N[i]? = some x → σ[i]? = some (some v) → Vis X.env.scope x → ∃ u, RelV v u ∧ Look X.env s.heap m x u
  cell : ∀ x c, X.env.cells.lookup x = some c → ∃ v, s.heap.IsCell c v
  free : H X.env.locals = none
  freeC : ∀ x c, X.env.cells.lookup x = some c → H c = none
  pin : ∀ p ∈ X.pn ++ pins, s.heap.get? p.1 = some p.2 ∧ H p.1 = none ∧ p.1 ≠ X.env.locals ∧ p.1 ∉ X.fs ∧ ∀ v, p.2.data ≠ .cell v
  hok : HOk X.prog X.w H s.heap
  len : σ.length = X.N.length

section
variable {X : Cx} {pins : List (Addr × Obj)} {σ : List (Option V)} {H H' : Hp} {s : Shared} {h' : Heap}

theorem Cx.Ok.nofr (ok : X.Ok) {b : Addr} {o : Obj} (e : X.base.get? b = some o) : b ∉ X.fs := fun hb => by
  have := (ok.funs.mem hb).1
  rw [e] at this; cases this
theorem Inv.bs (I : Inv X pins σ H s) : ∀ b o, X.base.get? b = some o → s.heap.get? b = some o ∧ H b = none := fun b o e =>
  ⟨I.base.keep b o (I.ok.bs b o e).1 (I.ok.bs b o e).2 (I.ok.nofr e) (I.ok.noex b o e), I.base.free b o (I.ok.bs b o e).1 (I.ok.bs b o e).2 (I.ok.noex b o e)⟩
theorem Inv.bk (I : Inv X pins σ H s) : ∀ b o, X.base.get? b = some o → s.heap.get? b = some o := fun b o e => (I.bs b o e).1
theorem Inv.mod (I : Inv X pins σ H s) : Mod X.K X.mg X.base := I.ok.mod
theorem Inv.kIn (I : Inv X pins σ H s) : X.K.In s.heap := I.ok.mod.kin.keeps I.bk
theorem Inv.nolimit (I : Inv X pins σ H s) : s.heap.NoLimit := I.ok.mod.nolimit.keeps I.bk
/-- the frame over the base: for OpenK's rules (K.In X.base is I.mod.kin) -/
theorem Inv.fr (I : Inv X pins σ H s) : ∃ m, Fr X.base X.env.locals s.heap m :=
  let ⟨m, hn, _⟩ := I.loc
  ⟨m, hn, I.bk, Nat.le_trans I.ok.bsz I.ok.above⟩
theorem Inv.lt (I : Inv X pins σ H s) : X.env.locals < s.heap.objs.size := let ⟨_, hn, _⟩ := I.loc; hn.lt
theorem Inv.sz (I : Inv X pins σ H s) : X.s₀.heap.objs.size ≤ s.heap.objs.size := Nat.le_trans I.ok.above (Nat.le_of_lt I.lt)
theorem Inv.nofs (I : Inv X pins σ H s) {a : Addr} (h : s.heap.objs.size ≤ a) : a ∉ X.fs := fun hb => by
  obtain ⟨_, o, ho, _⟩ := I.ok.funs.mem hb
  exact absurd (Nat.lt_of_lt_of_le (Heap.lt_size ho) (Nat.le_trans I.sz h)) (Nat.lt_irrefl _)
theorem Inv.cne (I : Inv X pins σ H s) : ∀ x c, X.env.cells.lookup x = some c → c ≠ X.env.locals := fun x c e z => by
  obtain ⟨v, o, ho, hd⟩ := I.cell x c e
  obtain ⟨m, ⟨o', es, ep, ho', hd', _⟩, _⟩ := I.loc
  rw [z, ho'] at ho; cases ho; rw [hd'] at hd; cases hd
theorem Inv.funs (I : Inv X pins σ H s) : s.heap.FunFrames X.base X.outer := by
  have all : ∀ (l : List Env), (∀ b ∈ frs l, b ∈ X.fs) → X.s₀.heap.FunFrames X.base l → s.heap.FunFrames X.base l := by
    intro l
    induction l with
    | nil => intro _ _; trivial
    | cons env r ih =>
      intro hs hl
      obtain ⟨hk, ⟨L, o, hf, hn, ho, hd⟩, hr⟩ := hl
      have hL : L ∈ X.fs := hs L (by unfold frs; rw [List.filterMap_cons, hf]; exact List.mem_cons_self)
      obtain ⟨sl, e⟩ := I.base.slot L o ho (I.ok.frf L hL) hL fun z => I.ok.exfs L z hL
      exact ⟨hk, ⟨L, _, hf, hn, e, hd⟩, ih (fun b hb => hs b (by unfold frs; rw [List.filterMap_cons, hf]; exact List.mem_cons_of_mem _ hb)) hr⟩
  exact all X.outer (fun _ hb => hb) I.ok.funs

/-- the frames that run, for a call -/
theorem Inv.stack (I : Inv X pins σ H s) : s.heap.FunFrames X.base X.stack := by
  rcases I.ok.stk with e | ⟨e, hf⟩
  · rw [e]; exact I.funs
  · rw [e]
    obtain ⟨m, hn, _⟩ := I.loc
    refine .cons (by rw [I.ok.kind]; decide) hf hn ?_ I.funs
    exact Heap.get?_none_of_le (Nat.le_trans I.ok.bsz I.ok.above)
theorem Inv.stkSub (I : Inv X pins σ H s) : ∀ b ∈ frs X.stack, b ∈ X.env.locals :: X.fs := fun b hb => by
  rcases I.ok.stk with e | ⟨e, hf⟩
  · rw [e] at hb; exact List.mem_cons_of_mem _ hb
  · rw [e] at hb
    unfold frs at hb
    rw [List.filterMap_cons, hf] at hb
    exact hb
theorem Inv.stkFree (I : Inv X pins σ H s) : ∀ b ∈ frs X.stack, H b = none := fun b hb => by
  rcases List.mem_cons.mp (I.stkSub b hb) with e | hb
  · rw [e]; exact I.free
  · obtain ⟨_, o, ho, _⟩ := I.ok.funs.mem hb
    exact I.base.free b o ho (I.ok.frf b hb) fun z => I.ok.exfs b z hb

/-- THE STEP: the untracked objects but the frame and the records at ch are kept (the callers' frames up to slots), the frame's map is kept, the new abstract heap is held -/
theorem Inv.step {g' : Array GenState} {t' : Nat} {d' : Drawn} {ch : List Addr} (I : Inv X pins σ H s)
    (hch : ∀ b ∈ ch, (b ∈ X.ex ∨ X.s₀.heap.objs.size ≤ b) ∧ b ≠ X.env.locals ∧ (∀ x c, X.env.cells.lookup x = some c → c ≠ b) ∧ ∀ p ∈ X.pn ++ pins, p.1 ≠ b)
    (keep : ∀ b o, b ≠ X.env.locals → b ∉ X.fs → b ∉ ch → s.heap.get? b = some o → H b = none → h'.get? b = some o)
    (slot : ∀ b o, b ≠ X.env.locals → b ∈ X.fs → b ∉ ch → s.heap.get? b = some o → H b = none → ∃ sl, h'.get? b = some { o with slots := sl }) (free : ∀ b o, b ∉ ch → s.heap.get? b = some o → H b = none → H' b = none)
    (there : ∀ b o, b ∉ ch → s.heap.get? b = some o → ∃ o', h'.get? b = some o')
    (tups : ∀ b xs, H b = some (.tup xs) → H' b = some (.tup xs)) (frzs : ∀ b o u, H b = some (.frz o u) → H' b = some (.frz o u)) (tbls : ∀ b ps, H b = some (.tbl ps) → ∃ more, H' b = some (.tbl (ps ++ more)))
    (ns : ∀ m, s.heap.Ns X.env.locals m → h'.Ns X.env.locals m) (hok : HOk X.prog X.w H' h') (hg : AllBare g') :
    Inv X pins σ H' { s with heap := h', gens := g', drawn := d', toks := t' } := by
  have neL : ∀ b o, X.s₀.heap.get? b = some o → b ≠ X.env.locals := fun b o e => Nat.ne_of_lt (Nat.lt_of_lt_of_le (Heap.lt_size e) I.ok.above)
  have neC : ∀ b o, X.s₀.heap.get? b = some o → b ∉ X.ex → b ∉ ch := fun b o e hx hb => by
    rcases (hch b hb).1 with z | z
    · exact hx z
    · exact absurd (Nat.lt_of_lt_of_le (Heap.lt_size e) z) (Nat.lt_irrefl _)
  have cellK : ∀ x c, X.env.cells.lookup x = some c → ∀ v, s.heap.IsCell c v → h'.IsCell c v := fun x c e v ⟨o, ho, hd⟩ => by
    have nch : c ∉ ch := fun z => (hch c z).2.2.1 x c e rfl
    by_cases hc : c ∈ X.fs
    · obtain ⟨sl, q⟩ := slot c o (I.cne x c e) hc nch ho (I.freeC x c e)
      exact ⟨_, q, hd⟩
    · exact ⟨o, keep c o (I.cne x c e) hc nch ho (I.freeC x c e), hd⟩
  refine ⟨I.ok, I.os, hg, ⟨fun b o e n hb hx => ?_, fun b o e n hb hx => ?_, fun b o e n hx => ?_, fun b o e hx => ?_, fun b xs e => tups b xs (I.base.tups b xs e), fun b o xs e => frzs b o xs (I.base.frzs b o xs e), fun b ps e => ?_⟩, ?_, fun x c e => ?_, ?_, fun x c e => ?_, fun p hp => ?_, hok, I.len⟩
  · exact keep b o (neL b o e) hb (neC b o e hx) (I.base.keep b o e n hb hx) (I.base.free b o e n hx)
  · obtain ⟨sl, e1⟩ := I.base.slot b o e n hb hx
    obtain ⟨sl', e2⟩ := slot b _ (neL b o e) hb (neC b o e hx) e1 (I.base.free b o e n hx)
    exact ⟨sl', e2⟩
  · obtain ⟨o', e1⟩ := I.base.there b o e hx
    exact free b o' (neC b o e hx) e1 (I.base.free b o e n hx)
  · obtain ⟨o', e1⟩ := I.base.there b o e hx
    exact there b o' (neC b o e hx) e1
  · obtain ⟨m1, e1⟩ := I.base.tbls b ps e
    obtain ⟨m2, e2⟩ := tbls b _ e1
    exact ⟨m1 ++ m2, by rw [e2, Array.append_assoc]⟩
  · obtain ⟨m, hn, hl⟩ := I.loc
    refine ⟨m, ns m hn, fun i x v e1 e2 e3 => ?_⟩
    obtain ⟨u, r, l⟩ := hl i x v e1 e2 e3
    refine ⟨u, r, ?_⟩
    rcases l with l | ⟨k, c, e, z⟩
    · exact .inl l
    · exact .inr ⟨k, c, e, cellK x c e _ z⟩
  · obtain ⟨v, z⟩ := I.cell x c e
    exact ⟨v, cellK x c e v z⟩
  · obtain ⟨m, ⟨o, _, _, ho, _⟩, _⟩ := I.loc
    exact free _ o (fun z => (hch _ z).2.1 rfl) ho I.free
  · obtain ⟨v, o, ho, hd⟩ := I.cell x c e
    exact free c o (fun z => (hch c z).2.2.1 x c e rfl) ho (I.freeC x c e)
  · obtain ⟨e, n, ne, nf, d⟩ := I.pin p hp
    have nch : p.1 ∉ ch := fun z => (hch p.1 z).2.2.2 p hp rfl
    exact ⟨keep p.1 p.2 ne nf nch e n, free p.1 p.2 nch e n, ne, nf, d⟩
/-- .. where the frame's own object is kept too -/
theorem Inv.un {t' : Nat} (I : Inv X pins σ H s) (u : Un X.fs [] H H' s.heap h') (hok : HOk X.prog X.w H' h') : Inv X pins σ H' { s with heap := h', toks := t' } := by
  obtain ⟨m, ⟨o, es, ep, ho, r⟩, _⟩ := id I.loc
  obtain ⟨sl, hL⟩ := u.any ho I.free (by simp)
  exact I.step (g' := s.gens) (d' := s.drawn) (ch := []) (fun _ z => nomatch z) (fun b o _ hb _ e n => u.keep b o e n hb (by simp)) (fun b o _ hb _ e n => u.slot b o e n hb (by simp)) (fun b o _ e n => u.free b o e n (by simp)) (fun b o _ e => u.there b o e (by simp)) u.tups u.frzs u.tbls (fun m' hm => by
    obtain ⟨o', es', ep', ho', r'⟩ := hm
    rw [ho] at ho'; cases ho'
    exact ⟨_, es', ep', hL, r'⟩) hok I.bare
/-- behind a call (or a comprehension's block): the slots of this frame may have changed too, the records at ch may have turned -/
theorem Inv.call {g' : Array GenState} {t' : Nat} {d' : Drawn} {ch : List Addr} (I : Inv X pins σ H s) (u : Un (frs X.stack) ch H H' s.heap h') (hok : HOk X.prog X.w H' h') (hg : AllBare g')
    (hch : ∀ b ∈ ch, (b ∈ X.ex ∨ X.s₀.heap.objs.size ≤ b) ∧ b ≠ X.env.locals ∧ (∀ x c, X.env.cells.lookup x = some c → c ≠ b) ∧ ∀ p ∈ X.pn ++ pins, p.1 ≠ b) :
    Inv X pins σ H' { s with heap := h', gens := g', drawn := d', toks := t' } := by
  obtain ⟨m, ⟨o, es, ep, ho, r⟩, _⟩ := id I.loc
  obtain ⟨sl, hL⟩ := u.any ho I.free fun z => (hch _ z).2.1 rfl
  exact I.step (ch := ch) hch (fun b o hL hb hc e n => u.keep b o e n (fun z => (List.mem_cons.mp (I.stkSub b z)).elim hL hb) hc) (fun b o _ _ hc e n => u.any e n hc) (fun b o hc e n => u.free b o e n hc) (fun b o hc e => u.there b o e hc) u.tups u.frzs u.tbls (fun m' hm => by
    obtain ⟨o', es', ep', ho', r'⟩ := hm
    rw [ho] at ho'; cases ho'
    exact ⟨_, es', ep', hL, r'⟩) hok hg
/-- an untracked record of ours (an iterator) has turned -/
theorem Inv.turned {t' : Nat} {it : Addr} (I : Inv X pins σ H s) (k : ∀ b o, b ≠ it → s.heap.get? b = some o → h'.get? b = some o) (hn : H it = none) (hL : it ≠ X.env.locals)
    (h1 : it ∈ X.ex ∨ X.s₀.heap.objs.size ≤ it) (h2 : ∀ x c, X.env.cells.lookup x = some c → c ≠ it) (h3 : ∀ p ∈ X.pn ++ pins, p.1 ≠ it) : Inv X pins σ H { s with heap := h', toks := t' } := by
  have nit : ∀ b u, H b = some u → b ≠ it := fun b u e z => by rw [z, hn] at e; cases e
  refine I.step (g' := s.gens) (d' := s.drawn) (ch := [it]) (fun b hb => ?_) (fun b o _ _ hc e _ => k b o (fun z => hc (by simp [z])) e) (fun b o _ _ hc e _ => ⟨o.slots, k b o (fun z => hc (by simp [z])) e⟩) (fun _ _ _ _ n => n)
    (fun b o hc e => ⟨o, k b o (fun z => hc (by simp [z])) e⟩) (fun _ _ e => e) (fun _ _ _ e => e) (fun b ps e => ⟨#[], by rw [e]; simp⟩) (fun m hm => ?_) (fun b u e => ?_) I.bare
  · have e : b = it := by simpa using hb
    subst e
    exact ⟨h1, hL, h2, h3⟩
  · obtain ⟨o, es, ep, ho, r⟩ := hm
    exact ⟨o, es, ep, k _ o (Ne.symm hL) ho, r⟩
  · refine (I.hok b u e).stay (fun c v hc q => k c v ?_ q) (fun _ q => q) fun _ _ q => q
    rcases hc with z | z
    · rw [z]; exact nit b u e
    · exact nit c _ z
theorem Inv.tok (I : Inv X pins σ H s) (t : Nat) : Inv X pins σ H { s with toks := t } := I.un (h' := s.heap) (t' := t) Un.refl I.hok
/-- all objects kept -/
theorem Inv.kept {t' : Nat} (I : Inv X pins σ H s) (k : ∀ b u, s.heap.get? b = some u → h'.get? b = some u) : Inv X pins σ H { s with heap := h', toks := t' } := I.un (Un.kept k) (I.hok.kept k)
/-- a new object laid and tracked -/
theorem Inv.laid {a : Addr} {o : HO} {t' : Nat} (I : Inv X pins σ H s) (k : ∀ b u, s.heap.get? b = some u → h'.get? b = some u) (hp : s.heap.objs.size ≤ a) (new : ObjOk X.prog X.w (upd H a o) h' a o) :
    Inv X pins σ (upd H a o) { s with heap := h', toks := t' } := I.un (Un.laid k hp (I.hok.fresh hp)) (I.hok.laid k hp new)
/-- an object written -/
theorem Inv.write {x e : Addr} {o : HO} {t' : Nat} (I : Inv X pins σ H s) (mu : Mut (H x)) (he : e = x ∨ H e = some (.own x)) (k : ∀ b u, b ≠ e → s.heap.get? b = some u → h'.get? b = some u) (heo : ∃ u, h'.get? e = some u)
    (new : ObjOk X.prog X.w (upd H x o) h' x o) : Inv X pins σ (upd H x o) { s with heap := h', toks := t' } := I.un (Un.write mu he k heo) (I.hok.write mu he k heo new)
/-- forgetting slots, pins -/
theorem Inv.weak {σ' : List (Option V)} (I : Inv X pins σ H s) (hl : σ'.length = σ.length) (w : ∀ (i : Nat) v, σ'[i]? = some (some v) → σ[i]? = some (some v)) : Inv X pins σ' H s :=
  ⟨I.ok, I.os, I.bare, I.base, let ⟨m, hn, hl'⟩ := I.loc; ⟨m, hn, fun i x v e1 e2 e3 => hl' i x v e1 (w i v e2) e3⟩, I.cell, I.free, I.freeC, I.pin, I.hok, hl.trans I.len⟩
theorem Inv.pins_of {pins' : List (Addr × Obj)} (I : Inv X pins σ H s) (h : ∀ p ∈ pins', s.heap.get? p.1 = some p.2 ∧ H p.1 = none ∧ p.1 ≠ X.env.locals ∧ p.1 ∉ X.fs ∧ ∀ v, p.2.data ≠ .cell v) : Inv X pins' σ H s :=
  ⟨I.ok, I.os, I.bare, I.base, I.loc, I.cell, I.free, I.freeC, fun p hp => (List.mem_append.mp hp).elim (fun z => I.pin p (List.mem_append_left _ z)) (h p), I.hok, I.len⟩

theorem nodup_ix {N : List Str} (hN : N.Nodup) {i j : Nat} {x : Str} (a : N[i]? = some x) (b : N[j]? = some x) : i = j := by
  obtain ⟨h1, e1⟩ := List.getElem?_eq_some_iff.mp a
  obtain ⟨h2, e2⟩ := List.getElem?_eq_some_iff.mp b
  exact (List.getElem_inj hN).mp (e1.trans e2.symm)

/-- a name is stored; what changed -/
theorem store_ok2 {M : Model} {A : Around} {E : Value → Shared → Prop} {i : Nat} {x : Str} {v : V} {u : Value} {Q : Unit → Shared → Prop} (I : Inv X pins σ H s) (hN : X.N.Nodup) (hi : X.N[i]? = some x) (hx : Loc X.env.scope x) (r : RelV v u)
    (h : ∀ s', Inv X pins (σ.set i (some v)) H s' → (∃ a, Heap.SameBut a s.heap s'.heap ∧ (a = X.env.locals ∨ X.env.cells.lookup x = some a)) → Q () s') (hf : X.fn x = true ∨ X.env.scope.names.lookup x = some .local := by first | exact .inl rfl | exact .inr rfl | assumption) : wpAny M A (storeName X.env x u) Q E s := by
  obtain ⟨m, hn, hl⟩ := id I.loc
  have hcls : (X.env.scope.kind == .class || (X.env.scope.kind == .module && X.env.locals != X.env.globals)) = false := by rw [I.ok.kind]; rfl
  have hiσ : i < σ.length := by rw [I.len]; exact (List.getElem?_eq_some_iff.mp hi).1
  have cne := I.cne
  have tracked : ∀ {a : Addr} {h' : Heap}, (∃ o, s.heap.get? a = some o ∧ H a = none) → Heap.SameBut a s.heap h' → HOk X.prog X.w H h' := fun {a h'} ha hs b ob e => by
    obtain ⟨_, _, hfree⟩ := ha
    refine (I.hok b ob e).stay (fun c w' hc q => (hs.2 c ?_).trans q) (fun _ q => q) fun _ _ q => q
    rintro rfl
    rcases hc with rfl | hc
    · rw [hfree] at e; cases e
    · rw [hfree] at hc; cases hc
  rcases hx with hk | hk
  · refine wpAny_storeName_local hk hn (fun h' hn' hs => ?_) hcls
    obtain ⟨oL, _, _, hoL, _⟩ := id hn
    refine h _ ⟨I.ok, I.os, I.bare, ⟨fun b o e n hb hx => ?_, fun b o e n hb hx => ?_, I.base.free, fun b o e hx => ?_, I.base.tups, I.base.frzs, I.base.tbls⟩, ⟨_, hn', fun j y v' e1 e2 e3 => ?_⟩, fun y c e => ?_, I.free, I.freeC, fun p hp => ?_, tracked ⟨oL, hoL, I.free⟩ hs, by simpa using I.len⟩ ⟨_, hs, .inl rfl⟩
    · exact (hs.2 b (Nat.ne_of_lt (Nat.lt_of_lt_of_le (Heap.lt_size e) I.ok.above))).trans (I.base.keep b o e n hb hx)
    · obtain ⟨sl, e1⟩ := I.base.slot b o e n hb hx
      exact ⟨sl, (hs.2 b (Nat.ne_of_lt (Nat.lt_of_lt_of_le (Heap.lt_size e) I.ok.above))).trans e1⟩
    · obtain ⟨o', e1⟩ := I.base.there b o e hx
      exact ⟨o', (hs.2 b (Nat.ne_of_lt (Nat.lt_of_lt_of_le (Heap.lt_size e) I.ok.above))).trans e1⟩
    · by_cases hj : j = i
      · subst hj
        rw [hi] at e1; cases e1
        rw [List.getElem?_set_self hiσ] at e2
        cases e2
        exact ⟨u, r, .inl ⟨hk, by simp⟩⟩
      · rw [List.getElem?_set_ne (Ne.symm hj)] at e2
        obtain ⟨u', r', q⟩ := hl j y v' e1 e2 e3
        refine ⟨u', r', ?_⟩
        rcases q with ⟨k, e⟩ | ⟨k, c, e, z⟩
        · refine .inl ⟨k, ?_⟩
          have : y ≠ x := fun e => hj (nodup_ix hN e1 (e ▸ hi))
          simp [this, e]
        · exact .inr ⟨k, c, e, z.sameBut hs (cne y c e)⟩
    · obtain ⟨w', z⟩ := I.cell y c e
      exact ⟨w', z.sameBut hs (cne y c e)⟩
    · obtain ⟨e, n, ne, nf, d⟩ := I.pin p hp
      exact ⟨(hs.2 p.1 ne).trans e, n, ne, nf, d⟩
  · have hfn : X.fn x = true := by
      rcases hf with z | z
      · exact z
      · rw [z] at hk; cases hk
    obtain ⟨c, hc⟩ := I.ok.has x (.inl hk)
    obtain ⟨w', z⟩ := I.cell x c hc
    refine wpAny_storeName_cell I.ok.kind hk hc z (fun h' hc' hs => ?_)
    obtain ⟨oc, hoc, hocd⟩ := id z
    refine h { s with heap := h' } ⟨I.ok, I.os, I.bare, ⟨fun b o e n hb hx => ?_, fun b o e n hb hx => ?_, I.base.free, fun b o e hx => ?_, I.base.tups, I.base.frzs, I.base.tbls⟩, ⟨m, hn.sameBut hs (Ne.symm (cne x c hc)), fun j y v' e1 e2 e3 => ?_⟩, fun y c' e => ?_, I.free, I.freeC, fun p hp => ?_, tracked ⟨oc, hoc, I.freeC x c hc⟩ hs, by simpa using I.len⟩ ⟨c, hs, .inr hc⟩
    · exact (hs.2 b (Nat.ne_of_lt (Nat.lt_of_lt_of_le (Heap.lt_size e) (I.ok.cab x c hfn hc)))).trans (I.base.keep b o e n hb hx)
    · obtain ⟨sl, e1⟩ := I.base.slot b o e n hb hx
      exact ⟨sl, (hs.2 b (Nat.ne_of_lt (Nat.lt_of_lt_of_le (Heap.lt_size e) (I.ok.cab x c hfn hc)))).trans e1⟩
    · obtain ⟨o', e1⟩ := I.base.there b o e hx
      exact ⟨o', (hs.2 b (Nat.ne_of_lt (Nat.lt_of_lt_of_le (Heap.lt_size e) (I.ok.cab x c hfn hc)))).trans e1⟩
    · by_cases hj : j = i
      · subst hj
        rw [hi] at e1; cases e1
        rw [List.getElem?_set_self hiσ] at e2
        cases e2
        exact ⟨u, r, .inr ⟨.inl hk, c, hc, hc'⟩⟩
      · rw [List.getElem?_set_ne (Ne.symm hj)] at e2
        obtain ⟨u', r', q⟩ := hl j y v' e1 e2 e3
        refine ⟨u', r', ?_⟩
        rcases q with q | ⟨k, c', e, z'⟩
        · exact .inl q
        · refine .inr ⟨k, c', e, z'.sameBut hs ?_⟩
          rintro rfl
          exact hj (nodup_ix hN e1 (I.ok.inj _ _ _ e hc ▸ hi))
    · by_cases hcc : c' = c
      · subst hcc; exact ⟨_, hc'⟩
      · obtain ⟨w2, z2⟩ := I.cell y c' e
        exact ⟨w2, z2.sameBut hs hcc⟩
    · obtain ⟨e, n, ne, nf, d⟩ := I.pin p hp
      refine ⟨(hs.2 p.1 ?_).trans e, n, ne, nf, d⟩
      intro q
      rw [q, hoc] at e
      have q' : oc = p.2 := Option.some.inj e
      exact d w' (by rw [← q']; exact hocd)
theorem store_ok {M : Model} {A : Around} {E : Value → Shared → Prop} {i : Nat} {x : Str} {v : V} {u : Value} {Q : Unit → Shared → Prop} (I : Inv X pins σ H s) (hN : X.N.Nodup) (hi : X.N[i]? = some x) (hx : Loc X.env.scope x) (r : RelV v u)
    (h : ∀ s', Inv X pins (σ.set i (some v)) H s' → Q () s') (hf : X.fn x = true ∨ X.env.scope.names.lookup x = some .local := by first | exact .inl rfl | exact .inr rfl | assumption) : wpAny M A (storeName X.env x u) Q E s :=
  store_ok2 I hN hi hx r (fun s' I' _ => h s' I') hf
/-- behind a call or a block, the state as it is -/
theorem Inv.call' {s' : Shared} {ch : List Addr} (I : Inv X pins σ H s) (ho : s'.os = s.os) (u : Un (frs X.stack) ch H H' s.heap s'.heap) (hok : HOk X.prog X.w H' s'.heap) (hg : AllBare s'.gens)
    (hch : ∀ b ∈ ch, (b ∈ X.ex ∨ X.s₀.heap.objs.size ≤ b) ∧ b ≠ X.env.locals ∧ (∀ x c, X.env.cells.lookup x = some c → c ≠ b) ∧ ∀ p ∈ X.pn ++ pins, p.1 ≠ b) : Inv X pins σ H' s' := by
  obtain ⟨h', g', d', t', o'⟩ := s'
  have e : o' = s.os := ho
  subst e
  exact I.call (g' := g') (t' := t') (d' := d') u hok hg hch
end

/-! ### the judgements -/
/-- an exception: its class, its own dict's address (where it has one), the abstract heap behind it -/
abbrev XK := Value → Option Addr → Hp → Prop
abbrev St := List (Option V)
abbrev VK := V → Hp → Prop
/-- an expression's reading; a test's; an argument list's -/
abbrev TE := St → Hp → VK → Prop
abbrev TT := St → Hp → (Bool → Hp → Prop) → Prop
abbrev TA := St → Hp → (List V → Hp → Prop) → Prop
/-- what is wanted behind a statement -/
structure Ends where
  nx : St → Hp → Prop
  rt : VK
  bk : St → Hp → Prop := fun _ _ => False
  ct : St → Hp → Prop := fun _ _ => False
abbrev TS := Ends → St → Hp → Prop

def EP (X : Cx) (pins : List (Addr × Obj)) (σ : St) (Q : VK) (u : Value) (s' : Shared) : Prop := ∃ v H', Inv X pins σ H' s' ∧ RelV v u ∧ Q v H'
def TP (X : Cx) (pins : List (Addr × Obj)) (σ : St) (Q : Bool → Hp → Prop) (b : Bool) (s' : Shared) : Prop := ∃ H', Inv X pins σ H' s' ∧ Q b H'
def AP (X : Cx) (pins : List (Addr × Obj)) (σ : St) (Q : List V → Hp → Prop) (us : List Value) (s' : Shared) : Prop := ∃ vs H', Inv X pins σ H' s' ∧ Vals vs us ∧ Q vs H'
def SP (X : Cx) (pins : List (Addr × Obj)) (D : Ends) (f : Flow) (s' : Shared) : Prop :=
  match f with
  | .next => ∃ σ' H', Inv X pins σ' H' s' ∧ D.nx σ' H'
  | .brk => ∃ σ' H', Inv X pins σ' H' s' ∧ D.bk σ' H'
  | .cont => ∃ σ' H', Inv X pins σ' H' s' ∧ D.ct σ' H'
  | .ret u => ∃ v σ' H', Inv X pins σ' H' s' ∧ RelV v u ∧ D.rt v H'

def PE (X : Cx) (e : Expr) (t : TE) : Prop :=
  ∀ (pins : List (Addr × Obj)) (s : Shared) (σ : St) (H : Hp) (Q : VK), Inv X pins σ H s → t σ H Q → wpAny (model X.prog X.w) X.A (eval e X.env) (EP X pins σ Q) X.xe s
def PT (X : Cx) (e : Expr) (t : TT) : Prop :=
  ∀ (pins : List (Addr × Obj)) (s : Shared) (σ : St) (H : Hp) (Q : Bool → Hp → Prop), Inv X pins σ H s → t σ H Q → wpAny (model X.prog X.w) X.A (isTrue e X.env (eval e X.env)) (TP X pins σ Q) X.xe s
/-- a test whatever its 'whole' is (and, or) -/
def PW (X : Cx) (e : Expr) (t : TT) : Prop :=
  ∀ (whole : Sem Value) (pins : List (Addr × Obj)) (s : Shared) (σ : St) (H : Hp) (Q : Bool → Hp → Prop), Inv X pins σ H s → t σ H Q → wpAny (model X.prog X.w) X.A (isTrue e X.env whole) (TP X pins σ Q) X.xe s
theorem PW.pt {X : Cx} {e : Expr} {t : TT} (h : PW X e t) : PT X e t := h _
/-- an argument list (no star), from the left -/
def PA (X : Cx) (es : List Expr) (t : TA) : Prop :=
  ∀ (pos : Pos) (pins : List (Addr × Obj)) (s : Shared) (σ : St) (H : Hp) (Q : List V → Hp → Prop), Inv X pins σ H s → t σ H Q → wpAny (model X.prog X.w) X.A (spliced (backTo pos (starEach es X.env))) (AP X pins σ Q) X.xe s
def PS (X : Cx) (st : Stmt) (t : TS) : Prop :=
  ∀ (pins : List (Addr × Obj)) (s : Shared) (σ : St) (H : Hp) (D : Ends), Inv X pins σ H s → t D σ H → wpAny (model X.prog X.w) X.A (exec st X.env) (SP X pins D) X.xe s
def PSs (X : Cx) (st : List Stmt) (t : TS) : Prop :=
  ∀ (pins : List (Addr × Obj)) (s : Shared) (σ : St) (H : Hp) (D : Ends), Inv X pins σ H s → t D σ H → wpAny (model X.prog X.w) X.A (execs st X.env) (SP X pins D) X.xe s
/-- weaken the end -/
theorem thn {α : Type} {t : Sem α} {Q Q' : α → Shared → Prop} {M : Model} {A : Around} {E : Value → Shared → Prop} {s : Shared} (h : wpAny M A t Q E s) (hQ : ∀ a s, Q a s → Q' a s) : wpAny M A t Q' E s := wpAny_mono h hQ fun _ _ x => x
end L2

namespace L2
open PySem PySem.Spec PyProof.Rows
section
variable {X : Cx}


/-! ### names and constants -/
def tVar (i : Nat) : TE := fun σ H Q => ∃ v, σ[i]? = some (some v) ∧ Q v H
def tC (v : V) : TE := fun _ H Q => Q v H
theorem pe_var {i : Nat} {x : Str} {pos : Pos} (hN : X.N[i]? = some x) (hv : Vis X.env.scope x) (hd : (x == ("__debug__" : Str)) = false := by decide) (hcd : (x == ("__classdict__" : Str)) = false := by decide) : PE X (.Name x pos) (tVar i) := by
  intro pins s σ H Q I h
  obtain ⟨v, e, h⟩ := h
  obtain ⟨m, hn, hl⟩ := I.loc
  obtain ⟨u, r, l⟩ := hl i x v hN e hv
  have fin : EP X pins σ Q u s := ⟨v, H, I, r, h⟩
  rcases l with ⟨hk, hm⟩ | ⟨hk, c, hc, hcell⟩
  · exact wpAny_Name (wpAny_loadName_local I.ok.kind hk hn hm fin) hd
  · rcases hk with hk | hk
    · exact wpAny_Name (wpAny_loadName_cell I.ok.kind hk hc hcell fin) hd
    · exact wpAny_Name (wpAny_loadName_free I.ok.kind hk hc hcell fin hcd) hd
theorem pe_int {i j pos} : PE X (.Constant (.int i) j pos) (tC (.int i)) := fun _ _ _ H _ I h => wpAny_Constant_int ⟨.int i, H, I.tok _, ⟨_, rfl⟩, h⟩
theorem pe_bl {b j pos} : PE X (.Constant (.bool b) j pos) (tC (.bl b)) := fun _ _ _ H _ I h => Constant_bool ⟨.bl b, H, I, rfl, h⟩
theorem pe_str {x j pos} : PE X (.Constant (.str x) j pos) (tC (.str x)) := fun _ _ _ H _ I h => Calls.Constant_str ⟨.str x, H, I.tok _, ⟨_, rfl⟩, h⟩

/-- a global name of the def -/
def Gl (X : Cx) (x : Str) : Prop := X.env.kindOf x = some .globalImplicit
theorem ld_glob {E : Value → Shared → Prop} {pins : List (Addr × Obj)} {s : Shared} {σ : St} {H : Hp} {x : Str} {u : Value} {pos : Pos} {Q : Value → Shared → Prop} (I : Inv X pins σ H s) (hg : Gl X x) (hm : X.mg x = some u) (h : Q u s)
    (hd : (x == ("__debug__" : Str)) = false := by decide) : wpAny (model X.prog X.w) X.A (eval (.Name x pos) X.env) Q E s :=
  Calls.Name_function_global I.ok.kind hg (Calls.loadGlobal_global (by rw [I.ok.glob]; exact I.mod.glob.keeps I.bk) hm h) hd
theorem ld_blt {E : Value → Shared → Prop} {pins : List (Addr × Obj)} {s : Shared} {σ : St} {H : Hp} {x : Str} {u : Value} {pos : Pos} {Q : Value → Shared → Prop} (I : Inv X pins σ H s) (hg : Gl X x) (hm : X.mg x = none) (hv : bootBuiltins x = some u) (h : Q u s)
    (hn : x ≠ "__name__" := by decide) (hd : (x == ("__debug__" : Str)) = false := by decide) : wpAny (model X.prog X.w) X.A (eval (.Name x pos) X.env) Q E s := by
  obtain ⟨mb, h1, h2⟩ := I.mod.blt
  exact Calls.Name_function_global I.ok.kind hg (Calls.loadGlobal_builtin (by rw [I.ok.glob]; exact I.mod.glob.keeps I.bk) hm (by rw [I.ok.blt]; exact h1.keeps I.bk) ((h2 x hn).trans hv) h) hd
/-- a module's constant, a class, a function, as a value -/
theorem pe_glob {x : Str} {v : V} {u : Value} {pos : Pos} (hg : Gl X x) (hm : X.mg x = some u) (r : RelV v u) (hd : (x == ("__debug__" : Str)) = false := by decide) : PE X (.Name x pos) (tC v) :=
  fun _ _ _ H _ I h => ld_glob I hg hm ⟨v, H, I, r, h⟩ hd
theorem pe_bltn {x : Str} {v : V} {u : Value} {pos : Pos} (hg : Gl X x) (hm : X.mg x = none) (hv : bootBuiltins x = some u) (r : RelV v u) (hn : x ≠ "__name__" := by decide) (hd : (x == ("__debug__" : Str)) = false := by decide) : PE X (.Name x pos) (tC v) :=
  fun _ _ _ H _ I h => ld_blt I hg hm hv ⟨v, H, I, r, h⟩ hn hd

/-! ### arithmetic -/
variable {a b : Expr} {ta tb : TE} {pos : Pos}

/-! ### comparisons -/

/-! ### and, or, not -/
variable {tA tB' : TT} {rest : List Expr}
def tOr (t u : TT) : TT := fun σ H Q => t σ H fun c H1 => if c = true then Q true H1 else u σ H1 Q
def tNot (t : TT) : TT := fun σ H Q => t σ H fun c H1 => Q (!c) H1
theorem pw_or1 (ha : PT X a tA) : PW X (.BoolOp .Or [a] pos) tA := by
  intro wh pins s σ H Q I h
  refine isTrue_or (thn (ha pins s σ H Q I h) fun c s1 e => ?_)
  cases c with
  | false => exact isTrue_or_nil e
  | true => exact e
theorem pw_or (ha : PT X a tA) (hb : PW X (.BoolOp .Or (b :: rest) pos) tB') : PW X (.BoolOp .Or (a :: b :: rest) pos) (tOr tA tB') := by
  intro wh pins s σ H Q I h
  refine isTrue_or (thn (ha pins s σ H _ I h) fun c s1 ⟨H1, I1, q1⟩ => ?_)
  cases c with
  | true => exact ⟨H1, I1, q1⟩
  | false => exact hb wh pins s1 σ H1 Q I1 q1
theorem pt_not (ha : PT X a tA) : PT X (.UnaryOp .Not a pos) (tNot tA) := by
  intro pins s σ H Q I h
  exact isTrue_not (ha pins s σ H (fun c H1 => Q (!c) H1) I h)
end
end L2

namespace L2
open PySem PySem.Spec PyProof.Rows

/-! ### a list, a tuple that is read: tracked, frozen, or an object of the module -/
def SqL (K : PySem.W.Frag) (H : Hp) (a : Addr) (xs : List V) : Prop :=
  Rd H a (.lst xs) ∨
    ∃ (o : Obj) (its : Array Value) (n : Nat), K.lookup a = some o ∧ o.cls = .type "list" ∧ o.dict = none ∧ o.data = .seq its n ∧ its.size ≤ sizeLine ∧ Vals xs its.toList
def SqT (K : PySem.W.Frag) (H : Hp) (a : Addr) (xs : List V) : Prop :=
  Rd H a (.tup xs) ∨
    ∃ (o : Obj) (its : Array Value) (n : Nat), K.lookup a = some o ∧ o.cls = .type "tuple" ∧ o.data = .seq its n ∧ its.size ≤ sizeLine ∧ Vals xs its.toList
def absV : Value → Option V
  | .none => some .non
  | .bool b => some (.bl b)
  | .int i _ => some (.int i)
  | .str x _ => some (.str x)
  | .bytes b _ => some (.byt b)
  | .float b _ => some (.flt b)
  | .ref a => some (.ref a)
  | .type n => some (.ty n)
  | _ => none
theorem RelV.abs {x : V} {u : Value} (r : RelV x u) : absV u = some x := by
  cases x with
  | non => cases r; rfl
  | bl _ => cases r; rfl
  | int _ => obtain ⟨t, rfl⟩ := r; rfl
  | str _ => obtain ⟨t, rfl⟩ := r; rfl
  | byt _ => obtain ⟨t, rfl⟩ := r; rfl
  | flt _ => obtain ⟨t, rfl⟩ := r; rfl
  | ref _ => cases r; rfl
  | ty _ => cases r; rfl
theorem RelV.inj {x y : V} {u : Value} (r : RelV x u) (q : RelV y u) : x = y := Option.some.inj (r.abs.symm.trans q.abs)
theorem Vals.inj : ∀ {xs ys : List V} {us : List Value}, Vals xs us → Vals ys us → xs = ys
  | _, _, _, .nil, .nil => rfl
  | _, _, _, .cons r t, .cons r' t' => by rw [r.inj r', Vals.inj t t']
section
variable {X : Cx} {pins : List (Addr × Obj)} {σ : St} {H : Hp} {s : Shared} {a : Addr} {xs ys : List V}
theorem SqL.of {K : PySem.W.Frag} (h : H a = some (.lst xs)) : SqL K H a xs := .inl (.inl h)
theorem SqT.of {K : PySem.W.Frag} (h : H a = some (.tup xs)) : SqT K H a xs := .inl (.inl h)
theorem Inv.list (I : Inv X pins σ H s) (h : SqL X.K H a xs) : ∃ its : List Value, Vals xs its ∧ PlainL s.heap a its.toArray ∧ xs.length ≤ sizeLine := by
  rcases h with h | ⟨o, its, n, hk, hc, hd, hs, hz, r⟩
  · obtain ⟨z, its, n, r, e⟩ := h.ok I.hok
    exact ⟨its, r, ⟨_, n, e, rfl, rfl, rfl⟩, z⟩
  · refine ⟨its.toList, r, ⟨o, n, I.kIn a o hk, hc, hd, by simpa using hs⟩, ?_⟩
    have e := r.length
    simp only [Array.length_toList] at e
    omega
theorem Inv.tuple (I : Inv X pins σ H s) (h : SqT X.K H a xs) : ∃ its : List Value, Vals xs its ∧ IsTup s.heap a its.toArray ∧ xs.length ≤ sizeLine := by
  rcases h with h | ⟨o, its, n, hk, hc, hs, hz, r⟩
  · obtain ⟨z, its, r, p⟩ := h.ok I.hok
    exact ⟨its, r, p, z⟩
  · refine ⟨its.toList, r, ⟨o, I.kIn a o hk, hc, n, by simpa using hs⟩, ?_⟩
    have e := r.length
    simp only [Array.length_toList] at e
    omega
theorem Inv.list_inj (I : Inv X pins σ H s) (h : SqL X.K H a xs) (h' : SqL X.K H a ys) : xs = ys := by
  obtain ⟨its, r, ⟨o, n, e, _, _, d⟩, _⟩ := I.list h
  obtain ⟨its', r', ⟨o', n', e', _, _, d'⟩, _⟩ := I.list h'
  rw [e] at e'; cases e'
  rw [d] at d'
  injection d' with d1 _
  have : its = its' := by simpa using congrArg Array.toList d1
  subst this
  exact r.inj r'
theorem Inv.tuple_inj (I : Inv X pins σ H s) (h : SqT X.K H a xs) (h' : SqT X.K H a ys) : xs = ys := by
  obtain ⟨its, r, ⟨o, e, _, n, d⟩, _⟩ := I.tuple h
  obtain ⟨its', r', ⟨o', e', _, n', d'⟩, _⟩ := I.tuple h'
  rw [e] at e'; cases e'
  rw [d] at d'
  injection d' with d1 _
  have : its = its' := by simpa using congrArg Array.toList d1
  subst this
  exact r.inj r'
end

/-! ### another wish about exceptions -/
abbrev Cx.wish (X : Cx) (E : Value → Shared → Prop) : Cx := { X with xe := E }
/-- no exception leaves -/
abbrev Cx.nox (X : Cx) : Cx := X.wish fun _ _ => False
theorem Cx.Ok.wish {X : Cx} (ok : X.Ok) (E : Value → Shared → Prop) : (X.wish E).Ok :=
  ⟨ok.mod, ok.kind, ok.glob, ok.blt, ok.above, ok.inj, ok.has, ok.cab, ok.hd, ok.frames, ok.stk, ok.exf, ok.bs, ok.bsz, ok.noex, ok.exfs, ok.funs, ok.frf⟩
theorem Cx.Ok.unwish {X : Cx} {E : Value → Shared → Prop} (ok : (X.wish E).Ok) : X.Ok :=
  ⟨ok.mod, ok.kind, ok.glob, ok.blt, ok.above, ok.inj, ok.has, ok.cab, ok.hd, ok.frames, ok.stk, ok.exf, ok.bs, ok.bsz, ok.noex, ok.exfs, ok.funs, ok.frf⟩
section
variable {X : Cx} {pins : List (Addr × Obj)} {σ : St} {H : Hp} {s : Shared} {E : Value → Shared → Prop}
theorem Inv.wish (I : Inv X pins σ H s) (E : Value → Shared → Prop) : Inv (X.wish E) pins σ H s := ⟨I.ok.wish E, I.os, I.bare, I.base, I.loc, I.cell, I.free, I.freeC, I.pin, I.hok, I.len⟩
theorem Inv.unwish (I : Inv (X.wish E) pins σ H s) : Inv X pins σ H s := ⟨I.ok.unwish, I.os, I.bare, I.base, I.loc, I.cell, I.free, I.freeC, I.pin, I.hok, I.len⟩
theorem SP.unwish {D : Ends} {f : Flow} {s' : Shared} (h : SP (X.wish E) pins D f s') : SP X pins D f s' := by
  cases f with
  | next => obtain ⟨σ', H', I, q⟩ := h; exact ⟨σ', H', I.unwish, q⟩
  | brk => obtain ⟨σ', H', I, q⟩ := h; exact ⟨σ', H', I.unwish, q⟩
  | cont => obtain ⟨σ', H', I, q⟩ := h; exact ⟨σ', H', I.unwish, q⟩
  | ret u => obtain ⟨v, σ', H', I, r, q⟩ := h; exact ⟨v, σ', H', I.unwish, r, q⟩
theorem PE.nox {e : Expr} {t : TE} (h : PE X.nox e t) : PE X e t := fun pins s σ H Q I hw =>
  wpAny_mono (h pins s σ H Q (I.wish _) hw) (fun _ _ ⟨v, H', I', r, q⟩ => ⟨v, H', I'.unwish, r, q⟩) fun _ _ z => False.elim z
theorem PT.nox {e : Expr} {t : TT} (h : PT X.nox e t) : PT X e t := fun pins s σ H Q I hw =>
  wpAny_mono (h pins s σ H Q (I.wish _) hw) (fun _ _ ⟨H', I', q⟩ => ⟨H', I'.unwish, q⟩) fun _ _ z => False.elim z
theorem PSs.nox {st : List Stmt} {t : TS} (h : PSs X.nox st t) : PSs X st t := fun pins s σ H D I hw =>
  wpAny_mono (h pins s σ H D (I.wish _) hw) (fun _ _ q => q.unwish) fun _ _ z => False.elim z
end

/-! ### blocks and small statements -/
section
variable {X : Cx} {st : Stmt} {rest : List Stmt} {t u : TS} {e : Expr} {te : TE} {pos : Pos}
def tNext : TS := fun D σ H => D.nx σ H
def tSeq (t u : TS) : TS := fun D σ H => t { D with nx := u D } σ H
theorem pss_nil : PSs X [] tNext := fun _ _ σ H _ I h => wpAny_execs_nil ⟨σ, H, I, h⟩
theorem pss_cons (h1 : PS X st t) (h2 : PSs X rest u) : PSs X (st :: rest) (tSeq t u) := by
  intro pins s σ H D I h
  refine wpAny_execs_cons (thn (h1 pins s σ H { D with nx := u D } I h) fun f s1 q => ?_)
  cases f with
  | next =>
    obtain ⟨σ', H', I', q⟩ := q
    exact h2 pins s1 σ' H' D I' q
  | ret v => exact q
  | brk => exact q
  | cont => exact q
theorem pss_one (h1 : PS X st t) : PSs X [st] t := by
  intro pins s σ H D I h
  refine wpAny_execs_cons (thn (h1 pins s σ H D I h) fun f s1 q => ?_)
  cases f with
  | next => exact wpAny_execs_nil q
  | ret v => exact q
  | brk => exact q
  | cont => exact q
/-- in a def's body nothing is shown -/
theorem Inv.quiet {pins : List (Addr × Obj)} {σ : St} {H : Hp} {s : Shared} (I : Inv X pins σ H s) : interactive X.env = false := by simp [interactive, I.ok.kind]
/-- an expression whose value is dropped -/
def tDrop (te : TE) : TS := fun D σ H => te σ H fun _ H1 => D.nx σ H1
theorem ps_expr (he : PE X e te) (hs : swapsWith e none pos.line X.env = pure false := by rfl) : PS X (.Expr e pos) (tDrop te) := by
  intro pins s σ H D I h
  exact wpAny_Expr_any (thn (he pins s σ H _ I h) fun v s1 ⟨x, H1, I1, r1, q1⟩ => ⟨σ, H1, I1, q1⟩) I.quiet hs
def tRet (te : TE) : TS := fun D σ H => te σ H D.rt
theorem ps_ret (he : PE X e te) : PS X (.Return (some e) pos) (tRet te) := by
  intro pins s σ H D I h
  exact wpAny_Return_some (thn (he pins s σ H _ I h) fun v s1 ⟨x, H1, I1, r1, q1⟩ => ⟨x, σ, H1, I1, r1, q1⟩)
def tIfS (c : TT) (t u : TS) : TS := fun D σ H => c σ H fun b H1 => if b = true then t D σ H1 else u D σ H1
theorem ps_if {c : Expr} {a b : List Stmt} {tc : TT} (hc : PT X c tc) (ha : PSs X a t) (hb : PSs X b u) : PS X (.If c a b pos) (tIfS tc t u) := by
  intro pins s σ H D I h
  refine wpAny_If (thn (hc pins s σ H _ I h) fun d s1 ⟨H1, I1, q1⟩ => ?_)
  cases d with
  | true => exact ha pins s1 σ H1 D I1 q1
  | false => exact hb pins s1 σ H1 D I1 q1
end

/-! ### targets -/
abbrev TG := V → St → Hp → (St → Hp → Prop) → Prop
def PG (X : Cx) (target : Expr) (t : TG) : Prop :=
  ∀ (pins : List (Addr × Obj)) (s : Shared) (σ : St) (H : Hp) (v : V) (u : Value) (Q : St → Hp → Prop), Inv X pins σ H s → RelV v u → t v σ H Q →
    wpAny (model X.prog X.w) X.A (assign target X.env u) (fun _ s' => ∃ σ' H', Inv X pins σ' H' s' ∧ Q σ' H') X.xe s
section
variable {X : Cx} {pos : Pos}
def gName (i : Nat) : TG := fun v σ H Q => Q (σ.set i (some v)) H
theorem pg_name {i : Nat} {x : Str} (hN : X.N.Nodup) (hi : X.N[i]? = some x) (hx : Loc X.env.scope x) (hf : X.fn x = true ∨ X.env.scope.names.lookup x = some .local := by first | exact .inl rfl | exact .inr rfl | assumption) : PG X (.Name x pos) (gName i) := by
  intro pins s σ H v u Q I r h
  exact wpAny_assign_Name (store_ok I hN hi hx r (fun s' I' => ⟨_, H, I', h⟩) hf)
/-- target = value -/
def tAsg (te : TE) (g : TG) : TS := fun D σ H => te σ H fun x H1 => g x σ H1 D.nx
/-- name = value -/
theorem ps_set {i : Nat} {x : Str} {e : Expr} {te : TE} {pos' : Pos} (hN : X.N.Nodup) (hi : X.N[i]? = some x) (hx : Loc X.env.scope x) (he : PE X e te) (hs : swapsWith e (some (.Name x pos')) pos.line X.env = pure false := by rfl) (hf : X.fn x = true ∨ X.env.scope.names.lookup x = some .local := by first | exact .inl rfl | exact .inr rfl | assumption) :
    PS X (.Assign [.Name x pos'] e pos) (tAsg te (gName i)) := by
  intro pins s σ H D I h
  refine wpAny_Assign_Name (thn (he pins s σ H _ I h) fun v s1 ⟨y, H1, I1, r1, q1⟩ => ?_) hs
  exact store_ok I1 hN hi hx r1 (fun s2 I2 => ⟨_, H1, I2, q1⟩) hf
end

/-! ### while -/
section
variable {X : Cx} {pos : Pos}
/-- the invariant W with its measure -/
def tWhile (c : TT) (tb : TS) : TS := fun D σ H => ∃ W : Nat → St → Hp → Prop, (∃ m, W m σ H) ∧ ∀ m σ H, W m σ H →
  c σ H fun b H1 => if b = true then ∃ N : St → Hp → Prop, (∀ σ' H', N σ' H' → ∃ m', m' < m ∧ W m' σ' H') ∧ tb { D with nx := N, ct := N, bk := D.nx } σ H1 else D.nx σ H1
theorem ps_while {c : Expr} {body : List Stmt} {tc : TT} {tb : TS} (hp : PassesOwn (model X.prog X.w) X.A X.env X.xe) (hc : PT X c tc) (hb : PSs X body tb) : PS X (.While c body [] pos) (tWhile tc tb) := by
  intro pins s σ H D I h
  obtain ⟨W, ⟨m0, w0⟩, turn⟩ := h
  refine wpAny_While (codeAny_whileLoop (fun n s' => ∃ σ' H', Inv X pins σ' H' s' ∧ W n σ' H') ?_ m0 ⟨σ, H, I, w0⟩)
  rintro n s1 ⟨σ1, H1, I1, w1⟩
  refine wpAny_passesOwn hp (thn (hc pins s1 σ1 H1 _ I1 (turn n σ1 H1 w1)) fun b s2 ⟨H2, I2, q2⟩ => ?_)
  cases b with
  | true =>
    obtain ⟨N, hN, q2⟩ := q2
    rw [if_pos rfl]
    refine wpAny_passesOwn hp (thn (hb pins s2 σ1 H2 _ I2 q2) fun f s3 q3 => ?_)
    cases f with
    | next =>
      obtain ⟨σ3, H3, I3, n3⟩ := q3
      obtain ⟨m', hm, w3⟩ := hN σ3 H3 n3
      exact ⟨m', hm, σ3, H3, I3, w3⟩
    | cont =>
      obtain ⟨σ3, H3, I3, n3⟩ := q3
      obtain ⟨m', hm, w3⟩ := hN σ3 H3 n3
      exact ⟨m', hm, σ3, H3, I3, w3⟩
    | brk => exact q3
    | ret v => exact q3
  | false =>
    rw [if_neg Bool.false_ne_true]
    exact wpAny_execs_nil ⟨σ1, H2, I2, q2⟩
end

/-! ### what a loop or a comprehension walks -/
/-- at turn i: it yields x (the heap may grow), or it stops -/
structure It where
  go : Nat → Hp → Prop
  yld : Nat → Hp → V → Hp → Prop
  stop : Nat → Hp → Prop
/-- the iterator's own objects may turn: they are not the frame's, not pinned, younger than the entry (or a comprehension's own) -/
def FpOk (X : Cx) (pins : List (Addr × Obj)) (H : Hp) (b : Addr) : Prop :=
  H b = none ∧ b ≠ X.env.locals ∧ b ∉ X.fs ∧ (b ∈ X.ex ∨ X.s₀.heap.objs.size ≤ b) ∧ (∀ x c, X.env.cells.lookup x = some c → c ≠ b) ∧ ∀ p ∈ X.pn ++ pins, p.1 ≠ b
theorem Inv.fpOk {X : Cx} {pins : List (Addr × Obj)} {σ : St} {H H' : Hp} {s : Shared} {b : Addr} (I : Inv X pins σ H s) (hb : s.heap.objs.size ≤ b) (hn : H' b = none) : FpOk X pins H' b := by
  refine ⟨hn, Nat.ne_of_gt (Nat.lt_of_lt_of_le I.lt hb), I.nofs hb, .inr (Nat.le_trans I.sz hb), fun x c e z => ?_, fun p hp z => ?_⟩
  · obtain ⟨v, q⟩ := I.cell x c e
    exact absurd (Nat.lt_of_lt_of_le q.lt (by rw [z]; exact hb)) (Nat.lt_irrefl _)
  · exact absurd (Nat.lt_of_lt_of_le (Heap.lt_size (I.pin p hp).1) (by rw [z]; exact hb)) (Nat.lt_irrefl _)
structure Turn (P : Program) (w : World) (K : PySem.W.Frag) (tg : Expr) (J : It) (fp : List Addr) (it : Addr) (tn : Nat → Heap → Prop) : Prop where
  mem : it ∈ fp
  obj : ∀ i h, tn i h → ∀ b ∈ fp, ∃ o, h.get? b = some o ∧ ∀ v, o.data ≠ .cell v
  keep : ∀ i h h', tn i h → (∀ b ∈ fp, ∀ o, h.get? b = some o → h'.get? b = some o) → tn i h'
  item : ∀ (X : Cx), X.prog = P → X.w = w → X.K = K → X.calm = true → ∀ (i : Nat) (pins : List (Addr × Obj)) (s : Shared) (σ : St) (H : Hp) (E : Value → Shared → Prop), Inv X pins σ H s → (∀ b ∈ fp, FpOk X pins H b) → tn i s.heap → J.go i H →
    wpAny (model P w) X.A (pyNext (.ref it)) (fun r s1 => ∃ u, r = some u ∧
      wpAny (model P w) X.A (letOwnedTupleGo tg (.ref it) u) (fun _ s2 => ∃ x H', Inv X pins σ H' s2 ∧ RelV x u ∧ J.yld i H x H' ∧ tn (i + 1) s2.heap ∧ ∀ b ∈ fp, H' b = none) E s1) E s
  done : ∀ (X : Cx), X.prog = P → X.w = w → X.K = K → X.calm = true → ∀ (i : Nat) (pins : List (Addr × Obj)) (s : Shared) (σ : St) (H : Hp) (E : Value → Shared → Prop), Inv X pins σ H s → (∀ b ∈ fp, FpOk X pins H b) → tn i s.heap → J.stop i H →
    wpAny (model P w) X.A (pyNext (.ref it)) (fun r s1 => r = none ∧ Inv X pins σ H s1) E s
  self : ∀ (A : Around) (i : Nat) (s : Shared) (Q : Value → Shared → Prop) (E : Value → Shared → Prop), tn i s.heap → Q (.ref it) s → wpAny (model P w) A (pyIter (.ref it)) Q E s
abbrev TI := St → Hp → (It → Hp → Prop) → Prop
/-- an iterator has come -/
def PIE (X : Cx) (pins : List (Addr × Obj)) (σ : St) (tg : Expr) (R : It → Hp → Prop) (itv : Value) (s2 : Shared) : Prop :=
  ∃ (it : Addr) (fp : List Addr) (tn : Nat → Heap → Prop) (J : It) (H' : Hp), itv = .ref it ∧ Inv X pins σ H' s2 ∧ Turn X.prog X.w X.K tg J fp it tn ∧ tn 0 s2.heap ∧ (∀ b ∈ fp, FpOk X pins H' b) ∧ R J H'
def PI (X : Cx) (tg iter : Expr) (wi : TI) : Prop :=
  ∀ (pins : List (Addr × Obj)) (s : Shared) (σ : St) (H : Hp) (R : It → Hp → Prop), Inv X pins σ H s → wi σ H R →
    wpAny (model X.prog X.w) X.A (eval iter X.env) (fun v s1 => wpAny (model X.prog X.w) X.A (pyIter v) (PIE X pins σ tg R) X.xe s1) X.xe s

/-- the step ahead of the store is nothing for an iterator that keeps no tuple -/
theorem go_of {M : Model} {A : Around} {E : Value → Shared → Prop} {s : Shared} {tg : Expr} {it : Addr} {u : Value} {o : Obj} {n : String} {vs : Array Value} {Q : Unit → Shared → Prop} (ho : s.heap.get? it = some o) (hc : o.cls = .type n) (hd : o.data = .fields vs)
    (hn : ["enumerate", "zip", "dict_itemiterator", "dict_reverseitemiterator", "odict_iterator", "itertools.zip_longest", "itertools.pairwise"].contains n = false) (hQ : Q () s) : wpAny M A (letOwnedTupleGo tg (.ref it) u) Q E s := by
  unfold letOwnedTupleGo
  cases tg <;> first
    | exact wpAny_pure hQ
    | (cases u <;> first
        | exact wpAny_pure hQ
        | (refine wpAny_bind (wpAny_load ho ?_)
           rw [hc, hd]
           show wpAny M A (if (["enumerate", "zip", "dict_itemiterator", "dict_reverseitemiterator", "odict_iterator", "itertools.zip_longest", "itertools.pairwise"].contains n && vs[0]? == some (rawInt _)) = true then _ else _) Q E s
           rw [if_neg (by intro h; rw [hn, Bool.false_and] at h; cases h)]
           exact wpAny_pure hQ))

/-- the list at a, as it stands at each turn (a loop may append to it) -/
def Itl (K : PySem.W.Frag) (a : Addr) : It :=
  ⟨fun i H => ∃ xs x, SqL K H a xs ∧ xs[i]? = some x, fun i H x H' => H' = H ∧ ∀ xs, SqL K H a xs → xs[i]? = some x, fun i H => ∃ xs, SqL K H a xs ∧ xs.length ≤ i⟩
def Itt (K : PySem.W.Frag) (a : Addr) : It :=
  ⟨fun i H => ∃ xs x, SqT K H a xs ∧ xs[i]? = some x, fun i H x H' => H' = H ∧ ∀ xs, SqT K H a xs → xs[i]? = some x, fun i H => ∃ xs, SqT K H a xs ∧ xs.length ≤ i⟩
/-- lo, lo + 1, .. (n of them) -/
def Itr (lo : Int) (n : Nat) : It := ⟨fun i _ => i < n, fun i H x H' => H' = H ∧ x = .int (lo + i), fun i _ => n ≤ i⟩
theorem turn_list {P : Program} {w : World} {K : PySem.W.Frag} {tg : Expr} (a it : Addr) : Turn P w K tg (Itl K a) [it] it (fun i h => h.IsListIter it a i) where
  mem := by simp
  obj := fun i h st b hb => by
    have e : b = it := by simpa using hb
    subst e
    obtain ⟨o, e, c, d⟩ := st
    exact ⟨o, e, fun v z => by rw [d] at z; cases z⟩
  keep := fun i h h' st k => st.at fun o e => k it (by simp) o e
  item := by
    intro X hP hw hK hc i pins s σ H E I hf st hg
    subst hP hw hK
    obtain ⟨xs, x, hq, hx⟩ := hg
    obtain ⟨its, rv, p, hz⟩ := I.list hq
    obtain ⟨u, hu, ru⟩ := rv.get hx
    obtain ⟨f0, f1, f2, f3, f4, f5⟩ := hf it (by simp)
    refine wpAny_pyNext_list_item st p.isList (x := u) (by simpa using hu) fun h' st' sb => ?_
    have I1 : Inv X pins σ H { s with heap := h' } := I.turned (t' := s.toks) (fun b o hb e => (sb.2 b hb).trans e) f0 f1 f3 f4 f5
    obtain ⟨o, e, c, d⟩ := id st'
    exact ⟨u, rfl, go_of (s := { s with heap := h' }) e c d (by decide) ⟨x, H, I1, ru, ⟨rfl, fun ys hy => by rw [I.list_inj hy hq]; exact hx⟩, st', fun b hb => (hf b hb).1⟩⟩
  done := by
    intro X hP hw hK hc i pins s σ H E I hf st hg
    subst hP hw hK
    obtain ⟨xs, hq, hx⟩ := hg
    obtain ⟨its, rv, p, hz⟩ := I.list hq
    obtain ⟨f0, f1, f2, f3, f4, f5⟩ := hf it (by simp)
    have hl := rv.length
    exact wpAny_pyNext_list_end (I.ok.hd hc) st p.isList (by simp; omega) fun h' eb => ⟨rfl, I.turned (t' := s.toks) (fun b o hb e => eb b o hb e) f0 f1 f3 f4 f5⟩
  self := fun _ _ _ _ _ st h => wpAny_pyIter_listiter st h
theorem turn_tuple {P : Program} {w : World} {K : PySem.W.Frag} {tg : Expr} (a it : Addr) : Turn P w K tg (Itt K a) [it] it (fun i h => h.IsTupleIter it a i) where
  mem := by simp
  obj := fun i h st b hb => by
    have e : b = it := by simpa using hb
    subst e
    obtain ⟨o, e, c, d⟩ := st
    exact ⟨o, e, fun v z => by rw [d] at z; cases z⟩
  keep := fun i h h' st k => st.at fun o e => k it (by simp) o e
  item := by
    intro X hP hw hK hc i pins s σ H E I hf st hg
    subst hP hw hK
    obtain ⟨xs, x, hq, hx⟩ := hg
    obtain ⟨its, rv, p, hz⟩ := I.tuple hq
    obtain ⟨u, hu, ru⟩ := rv.get hx
    obtain ⟨f0, f1, f2, f3, f4, f5⟩ := hf it (by simp)
    refine wpAny_pyNext_tuple_item st (show s.heap.IsTuple a its.toArray from p) (x := u) (by simpa using hu) fun h' st' sb => ?_
    have I1 : Inv X pins σ H { s with heap := h' } := I.turned (t' := s.toks) (fun b o hb e => (sb.2 b hb).trans e) f0 f1 f3 f4 f5
    obtain ⟨o, e, c, d⟩ := id st'
    exact ⟨u, rfl, go_of (s := { s with heap := h' }) e c d (by decide) ⟨x, H, I1, ru, ⟨rfl, fun ys hy => by rw [I.tuple_inj hy hq]; exact hx⟩, st', fun b hb => (hf b hb).1⟩⟩
  done := by
    intro X hP hw hK hc i pins s σ H E I hf st hg
    subst hP hw hK
    obtain ⟨xs, hq, hx⟩ := hg
    obtain ⟨its, rv, p, hz⟩ := I.tuple hq
    obtain ⟨f0, f1, f2, f3, f4, f5⟩ := hf it (by simp)
    have hl := rv.length
    exact wpAny_pyNext_tuple_end (I.ok.hd hc) st (show s.heap.IsTuple a its.toArray from p) (by simp; omega) fun h' eb => ⟨rfl, I.turned (t' := s.toks) (fun b o hb e => eb b o hb e) f0 f1 f3 f4 f5⟩
  self := fun _ _ _ _ _ st h => wpAny_pyIter_tupleiter st h
theorem turn_range {P : Program} {w : World} {K : PySem.W.Frag} {tg : Expr} (it : Addr) (lo : Int) (n : Nat) : Turn P w K tg (Itr lo n) [it] it (fun i h => IsRangeIter h it (lo + (i : Nat) * 1) ((n : Int) - (i : Nat)) 1) where
  mem := by simp
  obj := fun i h st b hb => by
    have e : b = it := by simpa using hb
    subst e
    exact ⟨_, st, fun v z => by
      have z' : Data.fields _ = Data.cell v := z
      cases z'⟩
  keep := fun i h h' st k => k it (by simp) _ st
  item := by
    intro X hP hw hK hc i pins s σ H E I hf st hg
    subst hP hw hK
    obtain ⟨f0, f1, f2, f3, f4, f5⟩ := hf it (by simp)
    have W := Walks.range (prog := X.prog) (w := X.w) (I.ok.hd hc) it lo 1 n
    refine W.item i s _ _ hg st fun v h' tk hv st' kk => ?_
    obtain ⟨t, rfl⟩ := hv
    have I1 : Inv X pins σ H { s with heap := h', toks := tk } := I.turned (fun b o hb e => kk b o (by simpa using hb) e) f0 f1 f3 f4 f5
    refine ⟨_, rfl, go_of (s := { s with heap := h', toks := tk }) (n := "range_iterator") st' rfl rfl (by decide) ⟨.int (lo + i), H, I1, ⟨t, ?_⟩, ⟨rfl, rfl⟩, st', fun b hb => (hf b hb).1⟩⟩
    rw [Int.mul_one]
  done := by
    intro X hP hw hK hc i pins s σ H E I hf st hg
    subst hP hw hK
    obtain ⟨f0, f1, f2, f3, f4, f5⟩ := hf it (by simp)
    exact wpAny_pyNext_range_end (I.ok.hd hc) st (by have : n ≤ i := hg; omega) fun h' eb => ⟨rfl, I.turned (t' := s.toks) (fun b o hb e => eb b o hb e) f0 f1 f3 f4 f5⟩
  self := fun _ _ _ _ _ st h => wpAny_pyIter_rangeiter st h
end L2

namespace L2
open PySem PySem.Spec PyProof.Rows
section
variable {X : Cx} {tg : Expr}
/-- a range object just made, walked -/
theorem range_it {pins : List (Addr × Obj)} {σ : St} {H : Hp} {s : Shared} {R : It → Hp → Prop} {E : Value → Shared → Prop} {lo hi : Int} {t u v : Tok} {tk : Nat} (I : Inv X pins σ H s) (h1 : -(2 ^ 62) ≤ lo) (h2 : lo < 2 ^ 62) (h3 : -(2 ^ 62) ≤ hi) (h4 : hi < 2 ^ 62)
    (q : R (Itr lo (hi - lo).toNat) H) : wpAny (model X.prog X.w) X.A (pyIter (.ref s.heap.objs.size)) (PIE X pins σ tg R) E { s with heap := s.heap.push { cls := .type "range", data := .fields #[.int lo t, .int hi u, .int 1 v] }, toks := tk } := by
  refine wpAny_pyIter_range (IsRange.new ..) (small_one h1 h2 h3 h4) ?_
  have I1 : Inv X pins σ H { s with heap := s.heap.push { cls := .type "range", data := .fields #[.int lo t, .int hi u, .int 1 v] }, toks := tk } := I.kept fun b o e => Heap.get?_push_of_some _ e
  refine ⟨(s.heap.push { cls := .type "range", data := .fields #[.int lo t, .int hi u, .int 1 v] }).objs.size, [(s.heap.push { cls := .type "range", data := .fields #[.int lo t, .int hi u, .int 1 v] }).objs.size], _, _, H, rfl,
    I1.kept (t' := tk) fun b o e => Heap.get?_push_of_some _ e, turn_range _ lo (hi - lo).toNat, ?_, fun b hb => ?_, q⟩
  · have e1 : lo + ((0 : Nat) : Int) * 1 = lo := by simp
    have e2 : (((hi - lo).toNat : Nat) : Int) - ((0 : Nat) : Int) = Builtin.Range.rangeSize lo hi 1 := by rw [rangeSize_one]; split <;> omega
    show IsRangeIter _ _ (lo + ((0 : Nat) : Int) * 1) ((((hi - lo).toNat : Nat) : Int) - ((0 : Nat) : Int)) 1
    rw [e1, e2]
    exact Heap.get?_push_size _ rfl
  · have e : b = (s.heap.push { cls := .type "range", data := .fields #[.int lo t, .int hi u, .int 1 v] }).objs.size := by simpa using hb
    subst e
    exact I1.fpOk (Nat.le_refl _) (I1.hok.fresh (Nat.le_refl _))
def iRng1 (ta : TA) : TI := fun σ H R => ta σ H fun vs H1 => ∃ j : Int, vs = [.int j] ∧ -(2 ^ 62) ≤ j ∧ j < 2 ^ 62 ∧ R (Itr 0 j.toNat) H1
theorem pi_range1 {a : Expr} {ta : TA} {p pos : Pos} (hg : Gl X "range") (hm : X.mg "range" = none) (ha : PA X [a] ta) (hs : starEach [a] X.env = [(false, eval a X.env)] := by rfl) : PI X tg (.Call (.Name "range" p) [a] [] pos) (iRng1 ta) := by
  intro pins s σ H R I h
  refine Call_ (ld_blt I hg hm boot_range (PyProof.Rows.callWith_type1 (thn (ha pos pins s σ H _ I h) fun us s1 ⟨vs, H1, I1, r1, q1⟩ => ?_) hs rfl))
  obtain ⟨j, e, q1, q2, q⟩ := q1
  subst e
  cases r1 with
  | cons r rr =>
    cases rr
    obtain ⟨t, rfl⟩ := r
    exact call_range_1 (range_it I1 (by omega) (by omega) q1 q2 (by simpa using q))

/-! ### for -/
/-- W: the invariant by the turn and a measure; N: what the body is to reach -/
def tFor (wi : TI) (g : TG) (tb : TS) : TS := fun D σ H => wi σ H fun J H1 => ∃ W : Nat → Nat → St → Hp → Prop, (∃ m, W 0 m σ H1) ∧ ∀ i m σ H, W i m σ H →
  (J.stop i H ∧ D.nx σ H) ∨ (J.go i H ∧ ∃ N : St → Hp → Prop, (∀ σ' H', N σ' H' → ∃ m', m' < m ∧ W (i + 1) m' σ' H') ∧ ∀ x H', J.yld i H x H' → g x σ H' fun σ2 H2 => tb { D with nx := N, ct := N, bk := D.nx } σ2 H2)
/-- the records at fp as they stand -/
def pinsAt (fp : List Addr) (h : Heap) : List (Addr × Obj) := fp.filterMap fun b => (h.get? b).map fun o => (b, o)
theorem mem_pinsAt {fp : List Addr} {h : Heap} {b : Addr} {o : Obj} (hb : b ∈ fp) (e : h.get? b = some o) : (b, o) ∈ pinsAt fp h := List.mem_filterMap.mpr ⟨b, hb, by rw [e]; rfl⟩
theorem of_pinsAt {fp : List Addr} {h : Heap} {p : Addr × Obj} (hp : p ∈ pinsAt fp h) : p.1 ∈ fp ∧ h.get? p.1 = some p.2 := by
  obtain ⟨b, hb, e⟩ := List.mem_filterMap.mp hp
  cases q : h.get? b with
  | none => rw [q] at e; cases e
  | some o =>
    rw [q] at e
    have e' : (b, o) = p := Option.some.inj e
    subst e'
    exact ⟨hb, q⟩
theorem Inv.pinned {pins : List (Addr × Obj)} {σ : St} {H : Hp} {s : Shared} {fp : List Addr} (I : Inv X pins σ H s) (hf : ∀ b ∈ fp, FpOk X pins H b) (ho : ∀ b ∈ fp, ∃ o, s.heap.get? b = some o ∧ ∀ v, o.data ≠ .cell v) : Inv X (pins ++ pinsAt fp s.heap) σ H s :=
  I.pins_of fun p hp => (List.mem_append.mp hp).elim (fun z => I.pin p (List.mem_append_right _ z)) fun z => by
    obtain ⟨hb, e⟩ := of_pinsAt z
    obtain ⟨f0, f1, f2, _⟩ := hf p.1 hb
    obtain ⟨o, e', d⟩ := ho p.1 hb
    rw [e] at e'; cases e'
    exact ⟨e, f0, f1, f2, d⟩
theorem Inv.unpinned {pins pl : List (Addr × Obj)} {σ : St} {H : Hp} {s : Shared} (I : Inv X (pins ++ pl) σ H s) : Inv X pins σ H s := I.pins_of fun p hp => I.pin p (List.mem_append_right _ (List.mem_append_left _ hp))
theorem ps_for {iter : Expr} {body : List Stmt} {wi : TI} {g : TG} {tb : TS} {pos : Pos} (hp : PassesOwn (model X.prog X.w) X.A X.env X.xe) (hc : X.calm = true) (hi : PI X tg iter wi) (hg : PG X tg g) (hb : PSs X body tb)
    (hs : ∀ x, foldedSetIterable iter X.env x = pure x := by intro _; rfl) : PS X (.For tg iter body [] pos) (tFor wi g tb) := by
  intro pins s σ H D I h
  refine wpAny_For (thn (hi pins s σ H _ I h) fun v s1 h1 => thn h1 fun itv s2 h2 => ?_) hs
  obtain ⟨it, fp, tn, J, H2, e, I2, T, st2, f2, W, ⟨m0, w0⟩, turn⟩ := h2
  subst e
  -- what stays true of the iterator's objects through the loop
  have stat : ∀ {H' : Hp}, (∀ b ∈ fp, H' b = none) → ∀ b ∈ fp, FpOk X pins H' b := fun hn b hb => ⟨hn b hb, (f2 b hb).2⟩
  refine codeAny_forLoop_any (fun n s' => ∃ i σ' H', Inv X pins σ' H' s' ∧ tn i s'.heap ∧ (∀ b ∈ fp, H' b = none) ∧ W i n σ' H') ?_ m0 ⟨0, σ, H2, I2, st2, fun b hb => (f2 b hb).1, w0⟩
  rintro n s3 ⟨i, σ3, H3, I3, st3, fr3, w3⟩
  rcases turn i n σ3 H3 w3 with ⟨stop, qn⟩ | ⟨go, N, hN, step⟩
  · refine wpAny_passesOwn hp (thn (T.done X rfl rfl rfl hc i pins s3 σ3 H3 X.xe I3 (stat fr3) st3 stop) fun r s4 ⟨hr, I4⟩ => ?_)
    subst hr
    exact wpAny_execs_nil ⟨σ3, H3, I4, qn⟩
  · refine wpAny_passesOwn hp (thn (T.item X rfl rfl rfl hc i pins s3 σ3 H3 X.xe I3 (stat fr3) st3 go) fun r s4 ⟨u, hr, h4⟩ => ?_)
    subst hr
    refine wpAny_passesOwn hp (thn h4 fun _ s5 ⟨x, H5, I5, r5, y5, st5, fr5⟩ => ?_)
    have I5' := I5.pinned (stat fr5) (T.obj _ _ st5)
    refine wpAny_passesOwn hp (thn (hg _ s5 σ3 H5 x u _ I5' r5 (step x H5 y5)) fun _ s6 ⟨σ6, H6, I6, q6⟩ => ?_)
    refine wpAny_passesOwn hp (thn (hb _ s6 σ6 H6 _ I6 q6) fun f s7 q7 => ?_)
    have again : ∀ {σ7 : St} {H7 : Hp}, Inv X (pins ++ pinsAt fp s5.heap) σ7 H7 s7 → N σ7 H7 → ∃ m, m < n ∧ ∃ i σ' H', Inv X pins σ' H' s7 ∧ tn i s7.heap ∧ (∀ b ∈ fp, H' b = none) ∧ W i m σ' H' := fun {σ7 H7} I7 n7 => by
      obtain ⟨m', hm, w7⟩ := hN σ7 H7 n7
      refine ⟨m', hm, i + 1, σ7, H7, I7.unpinned, T.keep _ _ _ st5 fun b hb o e => (I7.pin (b, o) (List.mem_append_right _ (List.mem_append_right _ (mem_pinsAt hb e)))).1, fun b hb => ?_, w7⟩
      obtain ⟨o, e, d⟩ := T.obj _ _ st5 b hb
      exact (I7.pin (b, o) (List.mem_append_right _ (List.mem_append_right _ (mem_pinsAt hb e)))).2.1
    cases f with
    | next => obtain ⟨σ7, H7, I7, n7⟩ := q7; exact again I7 n7
    | cont => obtain ⟨σ7, H7, I7, n7⟩ := q7; exact again I7 n7
    | brk => obtain ⟨σ7, H7, I7, q7⟩ := q7; exact ⟨σ7, H7, I7.unpinned, q7⟩
    | ret v => obtain ⟨x7, σ7, H7, I7, r7, q7⟩ := q7; exact ⟨x7, σ7, H7, I7.unpinned, r7, q7⟩
end

/-! ### the forms one uses -/
end L2

namespace L2
open PySem PySem.Spec PyProof.Rows

abbrev R2 := V → V → Hp → VK → Prop
/-- a two-place operation on values: f is binaryOp op, inplaceOp op or compareOp op -/
def OpR (X : Cx) (f : Value → Value → Sem Value) (r : R2) : Prop :=
  ∀ (pins : List (Addr × Obj)) (s : Shared) (σ : St) (H : Hp) (x y : V) (v u : Value) (Q : VK), Inv X pins σ H s → RelV x v → RelV y u → r x y H Q →
    wpAny (model X.prog X.w) X.A (f v u) (EP X pins σ Q) X.xe s
/-- a call of a value that is known (a builtin, a type) with values -/
def CallR (X : Cx) (f : Value) (r : List V → Hp → VK → Prop) : Prop :=
  ∀ (pins : List (Addr × Obj)) (s : Shared) (σ : St) (H : Hp) (xs : List V) (us : List Value) (Q : VK), Inv X pins σ H s → Vals xs us → r xs H Q →
    wpAny (model X.prog X.w) X.A (call f us) (EP X pins σ Q) X.xe s
/-- a value's truth -/
def TruR (X : Cx) (r : V → Hp → (Bool → Hp → Prop) → Prop) : Prop :=
  ∀ (pins : List (Addr × Obj)) (s : Shared) (σ : St) (H : Hp) (x : V) (v : Value) (Q : Bool → Hp → Prop), Inv X pins σ H s → RelV x v → r x H Q →
    wpAny (model X.prog X.w) X.A (truthy v) (TP X pins σ Q) X.xe s

def tOp (r : R2) (ta tb : TE) : TE := fun σ H Q => ta σ H fun x H1 => tb σ H1 fun y H2 => r x y H2 Q
/-- ints in, under C, and a value out -/
def rI (C : Int → Int → Prop) (g : Int → Int → V) : R2 := fun x y H Q => ∃ i j, x = .int i ∧ y = .int j ∧ C i j ∧ Q (g i j) H
def rI0 (g : Int → Int → V) : R2 := fun x y H Q => ∃ i j, x = .int i ∧ y = .int j ∧ Q (g i j) H

section
variable {X : Cx} {a b c : Expr} {ta tb tc : TE} {pos : Pos}

theorem binT (ha : PE X a ta) (hb : PE X b tb) {pins : List (Addr × Obj)} {s : Shared} {σ : St} {H : Hp} {R : V → V → Hp → Prop} (I : Inv X pins σ H s)
    (h : ta σ H fun x H1 => tb σ H1 fun y H2 => R x y H2) {Q : Value → Shared → Prop} {f : Value → Value → Sem Value}
    (hf : ∀ v u s2 x y H2, Inv X pins σ H2 s2 → RelV x v → RelV y u → R x y H2 → wpAny (model X.prog X.w) X.A (f v u) Q X.xe s2) :
    wpAny (model X.prog X.w) X.A (eval a X.env) (fun v s₁ => wpAny (model X.prog X.w) X.A (eval b X.env) (fun u s₂ => wpAny (model X.prog X.w) X.A (f v u) Q X.xe s₂) X.xe s₁) X.xe s := by
  refine thn (ha pins s σ H _ I h) fun v s1 ⟨x, H1, I1, r1, q1⟩ => ?_
  refine thn (hb pins s1 σ H1 _ I1 q1) fun u s2 ⟨y, H2, I2, r2, q2⟩ => ?_
  exact hf v u s2 x y H2 I2 r1 r2 q2

theorem pe_op {op : Operator} {r : R2} (ho : OpR X (binaryOp op) r) (ha : PE X a ta) (hb : PE X b tb) : PE X (.BinOp a op b pos) (tOp r ta tb) := by
  intro pins s σ H Q I h
  exact wpAny_BinOp (binT ha hb I h fun v u s2 x y H2 I2 rx ry q => ho pins s2 σ H2 x y v u Q I2 rx ry q)

/-! ### ints -/
theorem opI {f : Value → Value → Sem Value} {C : Int → Int → Prop} {g : Int → Int → Int}
    (rule : ∀ (i j : Int) (t u : Tok) (s : Shared) (Q : Value → Shared → Prop) (E : Value → Shared → Prop), C i j → Q (.int (g i j) s.toks) { s with toks := s.toks + 1 } → wpAny (model X.prog X.w) X.A (f (.int i t) (.int j u)) Q E s) :
    OpR X f (rI C fun i j => .int (g i j)) := by
  intro pins s σ H x y v u Q I rx ry h
  obtain ⟨i, j, rfl, rfl, hc, q⟩ := h
  obtain ⟨t, rfl⟩ := rx
  obtain ⟨t', rfl⟩ := ry
  exact rule i j t t' s _ _ hc ⟨.int (g i j), H, I.tok _, ⟨_, rfl⟩, q⟩
theorem opI0 {f : Value → Value → Sem Value} {g : Int → Int → Int}
    (rule : ∀ (i j : Int) (t u : Tok) (s : Shared) (Q : Value → Shared → Prop) (E : Value → Shared → Prop), Q (.int (g i j) s.toks) { s with toks := s.toks + 1 } → wpAny (model X.prog X.w) X.A (f (.int i t) (.int j u)) Q E s) :
    OpR X f (rI0 fun i j => .int (g i j)) := by
  intro pins s σ H x y v u Q I rx ry h
  obtain ⟨i, j, rfl, rfl, q⟩ := h
  obtain ⟨t, rfl⟩ := rx
  obtain ⟨t', rfl⟩ := ry
  exact rule i j t t' s _ _ ⟨.int (g i j), H, I.tok _, ⟨_, rfl⟩, q⟩
theorem opB0 {f : Value → Value → Sem Value} {g : Int → Int → Bool}
    (rule : ∀ (i j : Int) (t u : Tok) (s : Shared) (Q : Value → Shared → Prop) (E : Value → Shared → Prop), Q (.bool (g i j)) s → wpAny (model X.prog X.w) X.A (f (.int i t) (.int j u)) Q E s) :
    OpR X f (rI0 fun i j => .bl (g i j)) := by
  intro pins s σ H x y v u Q I rx ry h
  obtain ⟨i, j, rfl, rfl, q⟩ := h
  obtain ⟨t, rfl⟩ := rx
  obtain ⟨t', rfl⟩ := ry
  exact rule i j t t' s _ _ ⟨.bl (g i j), H, I, rfl, q⟩

def CPow (i j : Int) : Prop := 0 ≤ j ∧ j ≤ 1000000 ∧ i.natAbs < 2 ^ 64
def CMul (i j : Int) : Prop := (-(2 ^ 64) < i ∧ i < 2 ^ 64) ∨ (-(2 ^ 64) < j ∧ j < 2 ^ 64)
theorem CMul.ok {i j : Int} (h : CMul i j) : IntMulOk i j := by
  rcases h with ⟨h1, h2⟩ | ⟨h1, h2⟩
  · exact .of_left (intBits_le_64 h1 h2)
  · exact .of_right (intBits_le_64 h1 h2)

theorem op_add : OpR X (binaryOp .Add) (rI0 fun i j => .int (i + j)) := opI0 fun _ _ _ _ _ _ _ q => add_int q
theorem op_sub : OpR X (binaryOp .Sub) (rI0 fun i j => .int (i - j)) := opI0 fun _ _ _ _ _ _ _ q => sub_int q
/-- % by a positive divisor of any size -/
theorem op_mod : OpR X (binaryOp .Mod) (rI (fun _ j => 0 < j) fun i j => .int (i % j)) := opI fun i j _ _ _ _ _ hc q => by
  have h1 : (0 : Int) < j := hc
  exact mod_int' (by omega) (by rw [Int.fmod_eq_emod_of_nonneg i (by omega)]; exact q)
theorem op_pow : OpR X (binaryOp .Pow) (rI CPow fun i j => .int (i ^ j.toNat)) := opI fun _ _ _ _ _ _ _ hc q => pow_int_small hc.1 hc.2.1 hc.2.2 q



/-! ### bools among ints: n += (a < b) -/
end

/-! ### comparisons -/


section
variable {X : Cx} {a b c : Expr} {ta tb tc : TE} {pos : Pos}

theorem op_lt : OpR X (compareOp .Lt) (rI0 fun i j => .bl (decide (i < j))) := opB0 fun _ _ _ _ _ _ _ q => lt_int q
theorem op_gt : OpR X (compareOp .Gt) (rI0 fun i j => .bl (decide (j < i))) := opB0 fun _ _ _ _ _ _ _ q => gt_int q



/-- two rules for one operation: by cases -/
theorem OpR.or {f : Value → Value → Sem Value} {r r' : R2} (h : OpR X f r) (h' : OpR X f r') : OpR X f (fun x y H Q => r x y H Q ∨ r' x y H Q) := by
  intro pins s σ H x y v u Q I rx ry q
  rcases q with q | q
  · exact h pins s σ H x y v u Q I rx ry q
  · exact h' pins s σ H x y v u Q I rx ry q

theorem nomark (b : Expr) {op : CmpOp} (h : op ≠ .In := by decide) (h2 : op ≠ .NotIn := by decide) : behindInMarks op b = false := by
  have e1 : (op == CmpOp.In) = false := by cases op <;> first | rfl | exact absurd rfl h
  have e2 : (op == CmpOp.NotIn) = false := by cases op <;> first | rfl | exact absurd rfl h2
  cases b <;> simp [behindInMarks, e1, e2]
/-- a comparison as a value; hm: nomark b, or (for in, not in) by with_unfolding_all rfl -/
theorem pe_cmpR {op : CmpOp} {r : R2} (ho : OpR X (compareOp op) r) (ha : PE X a ta) (hb : PE X b tb) (hm : behindInMarks op b = false) : PE X (.Compare a [op] [b] pos) (tOp r ta tb) := by
  intro pins s σ H Q I h
  exact wpAny_Compare1 (binT ha hb I h fun v u s2 x y H2 I2 rx ry q => ho pins s2 σ H2 x y v u Q I2 rx ry q) hm
/-- a reading of a value as a test -/
def tTest (t : TE) : TT := fun σ H Q => t σ H fun x H' => ∃ k, x = .bl k ∧ Q k H'
theorem pt_cmpR {op : CmpOp} {r : R2} (ho : OpR X (compareOp op) r) (ha : PE X a ta) (hb : PE X b tb) (hm : behindInMarks op b = false) : PT X (.Compare a [op] [b] pos) (tTest (tOp r ta tb)) := by
  intro pins s σ H Q I h
  refine wpAny_isTrue_Compare1 (thn (ha pins s σ H _ I h) fun v s1 ⟨x, H1, I1, r1, q1⟩ => thn (hb pins s1 σ H1 _ I1 q1) fun u s2 ⟨y, H2, I2, r2, q2⟩ =>
    thn (ho pins s2 σ H2 x y v u _ I2 r1 r2 q2) fun c s3 ⟨z, H3, I3, r3, k, e, q3⟩ => ?_) hm
  subst e
  cases r3
  exact wpAny_truthy_bool ⟨H3, I3, q3⟩

/-! ### truth -/
/-- a value's truth by the abstract heap -/
def TruV (K : PySem.W.Frag) (x : V) (H : Hp) (k : Bool) : Prop :=
  match x with
  | .non => k = false
  | .bl b => k = b
  | .int i => k = (i != 0)
  | .str y => y.length ≤ sizeLine ∧ k = ((y.length : Int) != 0)
  | .byt y => y.size ≤ sizeLine ∧ k = ((y.size : Int) != 0)
  | .ref p => (∃ xs, SqL K H p xs ∧ k = !xs.isEmpty) ∨ (∃ xs, SqT K H p xs ∧ k = !xs.isEmpty) ∨ ∃ kvs, H p = some (.dK kvs) ∧ k = !kvs.isEmpty
  | _ => False
theorem isEmpty_kv {κ : Type} {kvs : List (κ × V)} {vs : List (κ × Value)} (r : KV kvs vs) : (!vs.isEmpty) = !kvs.isEmpty := by
  cases r <;> rfl
theorem isEmpty_of {xs : List V} {its : List Value} (r : Vals xs its) : (!its.toArray.isEmpty) = !xs.isEmpty := by
  cases r <;> simp
theorem line63 : (sizeLine : Nat) < 2 ^ 63 := by rw [sizeLine_eq]; decide
theorem tru_ok : TruR X (fun x H Q => ∃ k, TruV X.K x H k ∧ Q k H) := by
  intro pins s σ H x v Q I rx h
  obtain ⟨k, e, q⟩ := h
  have hl := line63
  have hs : sizeLine = 16777216 := sizeLine_eq
  cases x with
  | non =>
    cases rx
    have e' : k = false := e
    subst e'
    exact truthy_none ⟨H, I, q⟩
  | bl b =>
    cases rx
    have e' : k = b := e
    subst e'
    exact wpAny_truthy_bool ⟨H, I, q⟩
  | int i =>
    obtain ⟨t, rfl⟩ := rx
    have e' : k = (i != 0) := e
    subst e'
    exact PySem.P.truthy_int ⟨H, I, q⟩
  | str y =>
    obtain ⟨t, rfl⟩ := rx
    obtain ⟨hy, e'⟩ : y.length ≤ sizeLine ∧ k = ((y.length : Int) != 0) := e
    subst e'
    exact PySem.P.truthy_str (by omega) ⟨H, I.tok _, q⟩
  | byt y =>
    obtain ⟨t, rfl⟩ := rx
    obtain ⟨hy, e'⟩ : y.size ≤ sizeLine ∧ k = ((y.size : Int) != 0) := e
    subst e'
    exact PySem.W.truthy_bytes (by omega) ⟨H, I.tok _, q⟩
  | ref p =>
    cases rx
    have e' : (∃ xs, SqL X.K H p xs ∧ k = !xs.isEmpty) ∨ (∃ xs, SqT X.K H p xs ∧ k = !xs.isEmpty) ∨ ∃ kvs, H p = some (.dK kvs) ∧ k = !kvs.isEmpty := e
    rcases e' with ⟨xs, hx, e'⟩ | ⟨xs, hx, e'⟩ | ⟨kvs, hx, e'⟩
    · subst e'
      obtain ⟨its, r, pl, hz⟩ := I.list hx
      have hlen := r.length
      exact wpAny_truthy_list pl.isList (by simp only [List.size_toArray]; omega) ⟨H, I.tok _, by rw [isEmpty_of r]; exact q⟩
    · subst e'
      obtain ⟨its, r, pl, hz⟩ := I.tuple hx
      have hlen := r.length
      exact truthy_tuple pl (by simp only [List.size_toArray]; omega) ⟨H, I.tok _, by rw [isEmpty_of r]; exact q⟩
    · subst e'
      obtain ⟨hz, hS, vs, r, m⟩ : kvs.length ≤ sizeLine ∧ (p == sysModules) = false ∧ ∃ vs, KV kvs vs ∧ s.heap.DictOf (mixKind X.prog X.w) p vs := I.hok p _ hx
      have hlen : kvs.length = vs.length := Paired.length r
      exact wpAny_truthy_dict hS m (by omega) ⟨H, I.tok _, by rw [isEmpty_kv r]; exact q⟩
  | _ => exact (show False from e).elim
/-- any expression whose test is its value's truth (a name, a call, a subscript, a field ..: he by fun _ => rfl) -/
theorem pt_truth (ha : PE X a ta) (he : ∀ whole, isTrue a X.env whole = (do let v ← whole; standAt a.pos; holding [v] (truthy v))) :
    PT X a (fun σ H Q => ta σ H fun x H' => ∃ k, TruV X.K x H' k ∧ Q k H') := by
  intro pins s σ H Q I h
  exact isTrue_plain (thn (ha pins s σ H _ I h) fun v s1 ⟨x, H1, I1, r1, q1⟩ => tru_ok pins s1 σ H1 x v Q I1 r1 q1) (he _)

/-! ### strs and bytes -/


/-! ### scalar builtins, by CallR -/
theorem vals1 {x : V} {us : List Value} (r : Vals [x] us) : ∃ u, us = [u] ∧ RelV x u := by
  cases r with
  | cons r1 r2 => cases r2; exact ⟨_, rfl, r1⟩
theorem vals2 {x y : V} {us : List Value} (r : Vals [x, y] us) : ∃ u w', us = [u, w'] ∧ RelV x u ∧ RelV y w' := by
  cases r with
  | cons r1 r2 =>
    cases r2 with
    | cons r3 r4 => cases r4; exact ⟨_, _, rfl, r1, r3⟩
end
end L2

namespace L2
open PySem PySem.Spec PyProof.Rows

/-! ### an instance, its attributes a map -/
structure ObjM (h : Heap) (x dx C : Addr) (mA : Str → Option Value) : Prop where
  obj : h.get? x = some (PySem.W.instObj C dx)
  ns : h.Ns1 dx mA
  ne : dx ≠ x



section
variable {prog : Program} {w : World} {A : Around} {E : Value → Shared → Prop} {s : Shared} {K : PySem.W.Frag} {x dx C f : Addr} {mA : Str → Option Value} {name : Str} {v : Value}





end

/-! ### the attributes as a list of pairs -/

theorem RelO.some_of {v : V} {o : Option Value} (r : RelO (some v) o) : ∃ u, o = some u ∧ RelV v u := by
  cases o with
  | none => exact (show False from r).elim
  | some u => exact ⟨u, rfl, r⟩

section
variable {P : Program} {w : World} {H H' : Hp} {h h' : Heap} {a C dx : Addr} {fs fs' : List (Str × V)}
end

/-! ### what of the text a class must have -/
structure Cls (K : PySem.W.Frag) (C : Addr) : Prop where
  pg : PySem.W.plainGet K C Str.empty = true
  hd : PySem.W.hasDictIn K C = true
  po : PySem.W.plainOver K C = true
  sa : PySem.W.findIn K (.ref C) "__setattr__" = some (some (.builtin "object.__setattr__"))
theorem Cls.get {K : PySem.W.Frag} {C : Addr} (c : Cls K C) (f : Str) : PySem.W.plainGet K C f = true := c.pg
/-- a constant of the class -/
structure Con (K : PySem.W.Frag) (C : Addr) (f : Str) (v : V) (u : Value) : Prop where
  at_ : PySem.W.findIn K (.ref C) f = some (some u)
  rel : RelV v u
  get : PySem.W.specialIn K u "__get__" = some none
  cp : PySem.W.copiedNames.contains f = false
/-- a method: a plain def of the class or of one above it -/
structure Meth (K : PySem.W.Frag) (C : Addr) (m : Str) (f : Addr) : Prop where
  at_ : PySem.W.findIn K (.ref C) m = some (some (.ref f))
  fn : PySem.W.isFn K (.ref f) = true
  kp : PySem.W.keepIn K (.ref f) = true

section
variable {X : Cx} {pins : List (Addr × Obj)} {σ : St} {H : Hp} {s : Shared} {a C dx : Addr} {fs : List (Str × V)} {f : Str} {v : V} {A : Around} {E : Value → Shared → Prop}





/-- a new instance, tracked, without attributes -/
theorem Inv.made (I : Inv X pins σ H s) : Inv X pins σ (upd (upd H s.heap.objs.size (.own (s.heap.objs.size + 1))) (s.heap.objs.size + 1) (.ins C s.heap.objs.size []))
    { s with heap := (s.heap.push PySem.W.emptyDict).push (PySem.W.instObj C s.heap.objs.size) } := by
  have e1 : (s.heap.push PySem.W.emptyDict).get? s.heap.objs.size = some PySem.W.emptyDict := Heap.get?_push_size s.heap rfl
  have e2 : ((s.heap.push PySem.W.emptyDict).push (PySem.W.instObj C s.heap.objs.size)).get? (s.heap.objs.size + 1) = some (PySem.W.instObj C s.heap.objs.size) := by
    have := Heap.get?_push_size (s.heap.push PySem.W.emptyDict) (o := PySem.W.instObj C s.heap.objs.size) rfl
    rwa [Heap.size_push] at this
  have e3 : (s.heap.push PySem.W.emptyDict).Ns s.heap.objs.size (fun _ => none) := ⟨PySem.W.emptyDict, #[], _, e1, rfl, (fun e he => absurd he (by simp)), fun _ => rfl⟩
  have I1 := I.laid (a := s.heap.objs.size) (o := .own (s.heap.objs.size + 1)) (h' := s.heap.push PySem.W.emptyDict) (t' := s.toks) (fun b u q => Heap.get?_push_of_some _ q) (Nat.le_refl _) ⟨_, e1⟩
  refine I1.laid (a := s.heap.objs.size + 1) (o := .ins C s.heap.objs.size []) (t' := s.toks) (fun b u q => Heap.get?_push_of_some _ q) (Nat.le_of_eq (Heap.size_push _ _)) ?_
  have ne : s.heap.objs.size ≠ s.heap.objs.size + 1 := Nat.ne_of_lt (Nat.lt_succ_self _)
  refine ⟨by rw [upd_ne ne, upd_same], Nat.zero_le _, ne, e2, fun _ => none, (Heap.Ns1.of_empty e3).at fun o q => Heap.get?_push_of_some _ q, fun _ => True.intro, fun y hy => absurd rfl hy⟩

/-- e.f where nothing but the object is asked: through attributeBase (super) and the last hold -/
theorem attr_of {prog : Program} {w : World} {env : Env} {e : Expr} {f : Str} {pos : Pos} {s : Shared} {Q : Value → Shared → Prop} (hb : attributeBase e f env (eval e env) = eval e env)
    (h : wpAny (model prog w) A (eval e env) (fun o s₁ => wpAny (model prog w) A (getAttr o f true) Q E s₁) E s) : wpAny (model prog w) A (eval (.Attribute e f pos) env) Q E s :=
  Attribute_any_ h (by rw [arm_eval_Attribute, hb])
end

/-! ### readings and rules -/

section
variable {X : Cx} {o e value : Expr} {f : Str} {pos pos' tpos : Pos} {ta tv : TE}

end

/-! ### isinstance -/
section
variable {X : Cx} {pins : List (Addr × Obj)} {σ : St} {H : Hp} {s : Shared} {A : Around} {E : Value → Shared → Prop} {Q : Value → Shared → Prop} {c : Value} {b : Bool}
/-- the type of a value, as the fragment's deciders take it; for an instance its class -/
inductive TyOf (K : PySem.W.Frag) (H : Hp) : V → Value → Prop where
  | non : TyOf K H .non (.type "NoneType")
  | bl (x : Bool) : TyOf K H (.bl x) (.type "bool")
  | int (i : Int) : TyOf K H (.int i) (.type "int")
  | str (x : Str) : TyOf K H (.str x) (.type "str")
  | flt (x : UInt64) : TyOf K H (.flt x) (.type "float")
  | lst {a : Addr} {xs : List V} (e : H a = some (.lst xs)) : TyOf K H (.ref a) (.type "list")
  | frz {a : Addr} {o : Obj} {xs : List V} (e : H a = some (.frz o (.lst xs))) : TyOf K H (.ref a) (.type "list")
  | tup {a : Addr} {xs : List V} (e : H a = some (.tup xs)) : TyOf K H (.ref a) (.type "tuple")
  | dK {a : Addr} {kvs : List (Key × V)} (e : H a = some (.dK kvs)) : TyOf K H (.ref a) (.type "dict")
  | dT {a : Addr} {kvs : List (List Key × V)} (e : H a = some (.dT kvs)) : TyOf K H (.ref a) (.type "dict")
  | ins {a C dx : Addr} {fs : List (Str × V)} (e : H a = some (.ins C dx fs)) (cl : Cls K C) (ha : PySem.W.findIn K (.ref C) "__class__" = some (some (.builtin "object.__class__")))
      (hn : PySem.W.specialIn K (.builtin "object.__class__") "__get__" = some (some (.builtin "getset_descriptor.__get__"))) (htk : PySem.W.takesIn K (.builtin "object.__class__") = some true)
      (hm : PySem.W.mroIn K C (.type "object") = some true) : TyOf K H (.ref a) (.ref C)
end
end L2

namespace L2
open PySem PySem.Spec PyProof.Rows

/-! ### room -/
structure Room (k : Nat) (A : Around) : Prop where
  hd : A.handled = none
  dp : A.depth + 3 * k + 5 < recursionLimit
  un : A.units + 16 * k + 200 < cLine
theorem Room.mono {j k : Nat} {A : Around} (r : Room k A) (h : j ≤ k) : Room j A := ⟨r.hd, by have := r.dp; omega, by have := r.un; omega⟩
theorem Room.deeper {k : Nat} {A : Around} (r : Room (k + 1) A) (env : Env) : Room k (A.deeper env) :=
  ⟨r.hd, by have := r.dp; show A.depth + 1 + 3 * k + 5 < _; omega, by have := r.un; show A.units + 3 + 16 * k + 200 < _; omega⟩
theorem Room.in1 {k : Nat} {A : Around} (r : Room (k + 1) A) : Room k A.in1 :=
  ⟨r.hd, by have := r.dp; show A.depth + 3 * k + 5 < _; omega, by have := r.un; show A.units + 1 + 16 * k + 200 < _; omega⟩
theorem make_depth {A : Around} {C : Addr} {us : List Value} {kw : List (Str × Value)} : (A.under (.builtin "type.__call__" ⟨.ref C :: us, kw⟩)).depth = A.depth + 1 := by
  first | rfl | simp [Around.under, Code.weight, Code.isCreation, Code.isGuard, Code.isCaller, Code.frames, Code.isFrame, guardIds]
theorem make_units {A : Around} {C : Addr} {us : List Value} {kw : List (Str × Value)} : (A.under (.builtin "type.__call__" ⟨.ref C :: us, kw⟩)).units = A.units + 1 := by
  first | rfl | simp [Around.under, Code.cUnits, Code.frames, Code.isFrame]
theorem Room.make {k : Nat} {A : Around} (r : Room (k + 1) A) (C : Addr) (us : List Value) (kw : List (Str × Value)) : Room k (A.under (.builtin "type.__call__" ⟨.ref C :: us, kw⟩)) :=
  ⟨r.hd, by have := r.dp; rw [make_depth]; omega, by have := r.un; rw [make_units]; omega⟩
theorem Room.depth {k : Nat} {A : Around} (r : Room k A) : A.depth < recursionLimit := by have := r.dp; omega
theorem Room.units {k : Nat} {A : Around} (r : Room k A) : A.units + 64 < cLine := by have := r.un; omega

/-! ### argument lists and displays -/
def tNil : TA := fun _ H Q => Q [] H
def tCons (ta : TE) (tr : TA) : TA := fun σ H Q => ta σ H fun x H1 => tr σ H1 fun xs H2 => Q (x :: xs) H2
section
variable {X : Cx} {e : Expr} {es : List Expr} {te : TE} {t : TA} {pos : Pos}
theorem pa_nil : PA X [] tNil := fun _ _ _ _ H Q I h => Calls.spliced_nil ⟨[], H, I, .nil, h⟩
theorem pa_cons (ha : PE X e te) (hr : PA X es t) (hs : starEach (e :: es) X.env = (false, eval e X.env) :: starEach es X.env := by rfl) : PA X (e :: es) (tCons te t) := by
  intro pos pins s σ H Q I h
  rw [hs]
  show wpAny _ _ (spliced ((false, eval e X.env) :: backTo pos (starEach es X.env))) _ _ s
  refine Calls.spliced_cons (thn (ha pins s σ H _ I h) fun u s1 ⟨x, H1, I1, r1, q1⟩ => ?_)
  exact thn (hr pos pins s1 σ H1 _ I1 q1) fun us s2 ⟨xs, H2, I2, r2, q2⟩ => ⟨x :: xs, H2, I2, .cons r1 r2, q2⟩

def tLst (t : TA) : TE := fun σ H Q => t σ H fun xs H1 => xs.length ≤ sizeLine ∧ ∀ p, H1 p = none → Q (.ref p) (upd H1 p (.lst xs))
theorem pe_lst (h : PA X es t) : PE X (.List es pos) (tLst t) := by
  intro pins s σ H Q I hq
  refine wpAny_List_spliced (thn (h pos pins s σ H _ I hq) fun us s1 ⟨xs, H1, I1, r, z, q⟩ => ⟨by rw [← r.length]; exact z, ?_⟩)
  have hf : H1 s1.heap.objs.size = none := I1.hok.fresh (Nat.le_refl _)
  refine ⟨.ref s1.heap.objs.size, upd H1 s1.heap.objs.size (.lst xs), I1.laid (t' := s1.toks) (fun b u e => Heap.get?_push_of_some _ e) (Nat.le_refl _) ?_, rfl, q _ hf⟩
  exact ⟨z, us, 0, r, Heap.get?_push_size _ rfl⟩
end

/-! ### what a def promises -/
/-- a def's promise: the bound arguments in the parameters' order, the heap, the wanted end, the wanted exception -/
abbrev Sp := List V → Hp → VK → XK → Prop
/-- how an exception lies behind a call (file 08 gives it): the callers' frames, abstract heap and state ahead of the call, the wish, the exception, the state -/
abbrev CXT := List Env → Hp → Shared → XK → Value → Shared → Prop

/-- the state at a call -/
structure Env0 (P : Program) (w : World) (K : PySem.W.Frag) (mg : Str → Option Value) (base : Heap) (A : Around) (outer : List Env) (s : Shared) (H : Hp) : Prop where
  frames : A.frames = some outer
  mod : Mod K mg base
  bs : ∀ b o, base.get? b = some o → s.heap.get? b = some o ∧ H b = none
  bsz : base.objs.size ≤ s.heap.objs.size
  funs : s.heap.FunFrames base outer
  frf : ∀ b ∈ frs outer, H b = none
  hok : HOk P w H s.heap
  bare : AllBare s.gens
/-- a call's end -/
def CE (outer : List Env) (P : Program) (w : World) (H : Hp) (s : Shared) (Q : VK) (u : Value) (s' : Shared) : Prop :=
  ∃ v H', s'.os = s.os ∧ AllBare s'.gens ∧ Un (frs outer) [] H H' s.heap s'.heap ∧ HOk P w H' s'.heap ∧ RelV v u ∧ Q v H'
def CR (CX : CXT) (outer : List Env) (P : Program) (w : World) (H : Hp) (s : Shared) (Q : VK) (E : XK) (r : Result) (s' : Shared) : Prop :=
  match r with
  | .ok (.ret u) => CE outer P w H s Q u s'
  | .ok _ => False
  | .error e => CX outer H s E e s'
structure FnOk (P : Program) (w : World) (K : PySem.W.Frag) (mg : Str → Option Value) (base : Heap) (CX : CXT) (k : Nat) (f : Addr) (fd : FuncData) (ps : List Str) (sp : Sp) : Prop where
  len : ∀ vs H Q E, sp vs H Q E → vs.length = ps.length
  run : ∀ (A : Around) (outer : List Env) (s : Shared) (H : Hp) (args : Args) (us : List Value) (vs : List V) (Q : VK) (E : XK), Room k A → Env0 P w K mg base A outer s H → BindsTo s fd args (ps.zip us) → Vals vs us → sp vs H Q E →
    codeAny (model P w) A (.call (.ref f) args) (CR CX outer P w H s Q E) s
theorem FnOk.mono {P : Program} {w : World} {K : PySem.W.Frag} {mg : Str → Option Value} {base : Heap} {CX : CXT} {j k : Nat} {f : Addr} {fd : FuncData} {ps : List Str} {sp : Sp} (F : FnOk P w K mg base CX j f fd ps sp) (h : j ≤ k) :
    FnOk P w K mg base CX k f fd ps sp := ⟨F.len, fun A outer s H args us vs Q E hr => F.run A outer s H args us vs Q E (hr.mono h)⟩

theorem Env0.make {P : Program} {w : World} {K : PySem.W.Frag} {mg : Str → Option Value} {base : Heap} {A : Around} {outer : List Env} {s : Shared} {H : Hp} (e : Env0 P w K mg base A outer s H) (C : Addr) (us : List Value) (kw : List (Str × Value)) :
    Env0 P w K mg base (A.under (.builtin "type.__call__" ⟨.ref C :: us, kw⟩)) outer s H := ⟨by first | exact e.frames | (simpa [Around.under, Code.envs, Code.isFrame, pushEnvs] using e.frames), e.mod, e.bs, e.bsz, e.funs, e.frf, e.hok, e.bare⟩
theorem Env0.in1 {P : Program} {w : World} {K : PySem.W.Frag} {mg : Str → Option Value} {base : Heap} {A : Around} {outer : List Env} {s : Shared} {H : Hp} (e : Env0 P w K mg base A outer s H) :
    Env0 P w K mg base A.in1 outer s H := ⟨e.frames, e.mod, e.bs, e.bsz, e.funs, e.frf, e.hok, e.bare⟩

section
variable {X : Cx} {pins : List (Addr × Obj)} {σ : St} {H : Hp} {s s' : Shared}
/-- from a body: what a callee wants -/
theorem Inv.env0 (I : Inv X pins σ H s) : Env0 X.prog X.w X.K X.mg X.base X.A X.stack s H :=
  ⟨I.ok.frames, I.ok.mod, I.bs, Nat.le_trans I.ok.bsz I.sz, I.stack, I.stkFree, I.hok, I.bare⟩
/-- behind a call -/
theorem Inv.after {Q : VK} {u : Value} (I : Inv X pins σ H s) (h : CE X.stack X.prog X.w H s Q u s') : EP X pins σ Q u s' := by
  obtain ⟨v, H', os, bare, un, hok, r, q⟩ := h
  obtain ⟨hh, g, d, t, os'⟩ := s'
  obtain rfl : os' = s.os := os
  exact ⟨v, H', I.call (h' := hh) (g' := g) (d' := d) (t' := t) (ch := []) un hok bare (fun b z => absurd z (by simp)), r, q⟩
end

/-! ### calls -/
/-- f(..): the written arguments, then the defaults dvs; E: what is wanted of an exception -/
def tCall (sp : Sp) (dvs : List V) (E : XK) (t : TA) : TE := fun σ H Q => t σ H fun vs H1 => sp (vs ++ dvs) H1 Q E

/-- how the parameters are bound: us the positional arguments, kw the keywords' values by name, ds the defaults that fill up -/
def Binds (K : PySem.W.Frag) (fd : FuncData) (ps : List Str) (ds : List Value) : Prop :=
  ∀ (s : Shared) (us : List Value), K.In s.heap → (us ++ ds).length = ps.length → BindsTo s fd ⟨us, []⟩ (ps.zip (us ++ ds))
/-- every parameter is given -/
theorem Binds.all {K : PySem.W.Frag} {fd : FuncData} {ps : List Str} (h : ∀ us : List Value, us.length = ps.length → bindArgs fd ⟨us, []⟩ = pure (ps.zip us)) : Binds K fd ps [] := fun s us _ hl => by
  rw [List.append_nil] at hl ⊢
  exact .of_eq (h us hl)

/-- an exception of a callee reaches what this body wants of exceptions -/
def Passes (CX : CXT) (X : Cx) (E : XK) : Prop := ∀ (pins : List (Addr × Obj)) (σ : St) (H : Hp) (s : Shared) (e : Value) (s' : Shared), Inv X pins σ H s → CX X.stack H s E e s' → X.xe e s'

section
variable {X : Cx} {CX : CXT} {k : Nat} {f C : Addr} {fd : FuncData} {ps : List Str} {sp : Sp} {dvs : List V} {ds : List Value} {E : XK} {x m : Str} {p pos apos : Pos} {e o : Expr} {es : List Expr} {ta : TE} {t : TA}

/-- the callee runs -/
theorem run_fn {pins : List (Addr × Obj)} {σ : St} {H : Hp} {s : Shared} {Q : VK} {us : List Value} {vs : List V} (F : FnOk X.prog X.w X.K X.mg X.base CX k f fd ps sp) (hr : Room k X.A) (hb : Binds X.K fd ps ds) (hd : Vals dvs ds) (hx : Passes CX X E)
    (I : Inv X pins σ H s) (r : Vals vs us) (h : sp (vs ++ dvs) H Q E) : wpAny (model X.prog X.w) X.A (call (.ref f) us) (EP X pins σ Q) X.xe s := by
  have r2 : Vals (vs ++ dvs) (us ++ ds) := r.append hd
  have hl : (us ++ ds).length = ps.length := by rw [← r2.length]; exact F.len _ _ _ _ h
  refine wpAny_call (codeAny_mono (F.run X.A X.stack s H ⟨us, []⟩ (us ++ ds) (vs ++ dvs) Q E hr I.env0 (hb s us I.kIn hl) r2 h) fun r s' hq => ?_)
  cases r with
  | error e => exact hx pins σ H s e s' I hq
  | ok fl =>
    cases fl with
    | ret u => exact I.after hq
    | next => exact False.elim hq
    | brk => exact False.elim hq
    | cont => exact False.elim hq

theorem pe_call (F : FnOk X.prog X.w X.K X.mg X.base CX k f fd ps sp) (hr : Room k X.A) (hg : Gl X x) (hm : X.mg x = some (.ref f)) (hk : PySem.W.keepIn X.K (.ref f) = true) (hb : Binds X.K fd ps ds) (hd : Vals dvs ds) (hx : Passes CX X E)
    (ha : PA X (e :: es) t) (hdb : (x == ("__debug__" : Str)) = false := by decide) (he : starEach (e :: es) X.env = (false, eval e X.env) :: starEach es X.env := by rfl) (hpl : (backTo pos (starEach es X.env)).any (·.1) = false := by rfl) :
    PE X (.Call (.Name x p) (e :: es) [] pos) (tCall sp dvs E t) := by
  intro pins s σ H Q I h
  refine wpAny_Call_Name_kw (ld_glob I hg hm ?_ hdb)
  refine PySem.W.callWith_K (h₀ := X.base) I.ok.mod.kin hk (thn (ha pos pins s σ H _ I h) fun us s1 ⟨vs, H1, I1, r, q⟩ => ⟨I1.kIn, ?_⟩) he hpl
  exact run_fn F hr hb hd hx I1 r q


/-- what a class must have to be made -/
structure Mk (K : PySem.W.Frag) (C f : Addr) : Prop where
  makes : PySem.W.makesIn K C = true
  init : PySem.W.findIn K (.ref C) "__init__" = some (some (.ref f))
  fn : PySem.W.isFn K (.ref f) = true
  kp : PySem.W.keepIn K (.ref C) = true

end

/-! ### keywords -/
section
variable {X : Cx} {CX : CXT} {k : Nat} {f C : Addr} {fd : FuncData} {ps ks : List Str} {sp : Sp} {E : XK} {x m : Str} {p pos apos kpos : Pos} {e o : Expr} {es : List Expr} {kws : List Keyword} {te ta : TE} {t tk : TA} {nm : Option Str}

/-- how a call with keywords binds: g puts the positional values us and the keywords' values ws (names ks) in the parameters' order, defaults among them -/
structure KBinds (K : PySem.W.Frag) (fd : FuncData) (ps ks : List Str) (g : List Value → List Value → List Value) (gV : List V → List V → List V) : Prop where
  to : ∀ (s : Shared) (us ws : List Value), K.In s.heap → (g us ws).length = ps.length → BindsTo s fd ⟨us, ks.zip ws⟩ (ps.zip (g us ws))
  rel : ∀ {vs : List V} {us : List Value} {zs : List V} {ws : List Value}, Vals vs us → Vals zs ws → Vals (gV vs zs) (g us ws)
variable {g : List Value → List Value → List Value} {gV : List V → List V → List V}
end

/-! ### a def's body keeps its promise -/
/-- names: the parameters first -/
structure FnScope (N P : List Str) (sc : Scope) : Prop where
  kind : sc.kind = .function
  co : sc.isCoroutine = false
  gen : sc.isGenerator = false
  nd : N.Nodup
  pre : N.take P.length = P
  par : ∀ x ∈ P, sc.names.lookup x = some .local ∨ sc.names.lookup x = some .cell
  nofree : ∀ y ∈ sc.names, y.2 ≠ .free

theorem bindL_out {kindOf : Str → Option NameKind} {x : Str} : ∀ {binds : List (Str × Value)} {m : Str → Option Value}, (∀ v, (x, v) ∉ binds) → bindL kindOf binds m x = m x
  | [], _, _ => rfl
  | (n, v) :: r, m, h => by
    unfold bindL
    rw [bindL_out fun w hw => h w (List.mem_cons_of_mem _ hw)]
    split
    · have : x ≠ n := by rintro rfl; exact h v List.mem_cons_self
      simp [this]
    · rfl
theorem bindC_out {kindOf : Str → Option NameKind} {x : Str} : ∀ {binds : List (Str × Value)} {m : Str → Option Value}, (∀ v, (x, v) ∉ binds) → bindC kindOf binds m x = m x
  | [], _, _ => rfl
  | (n, v) :: r, m, h => by
    unfold bindC
    rw [bindC_out fun w hw => h w (List.mem_cons_of_mem _ hw)]
    split
    · rfl
    · have : x ≠ n := by rintro rfl; exact h v List.mem_cons_self
      simp [this]
theorem bindL_get {kindOf : Str → Option NameKind} {x : Str} {v : Value} : ∀ {P : List Str} {vs : List Value} {i : Nat} {m : Str → Option Value}, P.Nodup → P[i]? = some x → vs[i]? = some v → kindOf x = some .local →
    bindL kindOf (P.zip vs) m x = some v
  | [], _, _, _, _, h, _, _ => by simp at h
  | _ :: _, [], _, _, _, _, h, _ => by simp at h
  | p :: P, w :: vs, 0, m, nd, h1, h2, hk => by
    simp at h1 h2; subst h1; subst h2
    show bindL kindOf ((p, w) :: P.zip vs) m p = _
    unfold bindL
    rw [bindL_out fun v hv => (List.nodup_cons.mp nd).1 (List.of_mem_zip hv).1, if_pos hk]
    simp
  | p :: P, w :: vs, i + 1, m, nd, h1, h2, hk => by
    show bindL kindOf ((p, w) :: P.zip vs) m x = _
    unfold bindL
    exact bindL_get (i := i) (List.nodup_cons.mp nd).2 (by simpa using h1) (by simpa using h2) hk
theorem bindC_get {kindOf : Str → Option NameKind} {x : Str} {v : Value} : ∀ {P : List Str} {vs : List Value} {i : Nat} {m : Str → Option Value}, P.Nodup → P[i]? = some x → vs[i]? = some v → kindOf x ≠ some .local →
    bindC kindOf (P.zip vs) m x = some v
  | [], _, _, _, _, h, _, _ => by simp at h
  | _ :: _, [], _, _, _, _, h, _ => by simp at h
  | p :: P, w :: vs, 0, m, nd, h1, h2, hk => by
    simp at h1 h2; subst h1; subst h2
    show bindC kindOf ((p, w) :: P.zip vs) m p = _
    unfold bindC
    rw [bindC_out fun v hv => (List.nodup_cons.mp nd).1 (List.of_mem_zip hv).1, if_neg hk]
    simp
  | p :: P, w :: vs, i + 1, m, nd, h1, h2, hk => by
    show bindC kindOf ((p, w) :: P.zip vs) m x = _
    unfold bindC
    exact bindC_get (i := i) (List.nodup_cons.mp nd).2 (by simpa using h1) (by simpa using h2) hk

/-- the names' values at the entry -/
def start (N : List Str) (vs : List V) : St := vs.map some ++ List.replicate (N.length - vs.length) none

/-- the context of a def's body, at its entry; an exception leaves the frame, then lies as CX says -/
def cxOf (CX : CXT) (P : Program) (w : World) (K : PySem.W.Frag) (mg : Str → Option Value) (base : Heap) (N : List Str) (qual : Str) (scope : Scope) (f : Addr) (cd : Value) (A : Around) (outer : List Env) (s : Shared) (H : Hp) (E : XK) : Cx where
  prog := P
  w := w
  K := K
  mg := mg
  base := base
  A := A.deeper (envOfC qual scope s.heap.objs.size f cd)
  N := N
  s₀ := s
  H₀ := H
  env := envOfC qual scope s.heap.objs.size f cd
  outer := outer
  stack := envOfC qual scope s.heap.objs.size f cd :: outer
  ex := []
  calm := true
  fn := fun _ => true
  pn := []
  xe := fun e s' => wpAny (model P w) (A.deeper (envOfC qual scope s.heap.objs.size f cd)) (leaving (envOfC qual scope s.heap.objs.size f cd) e) (fun _ s'' => CX outer H s E e s'') (fun e' s'' => CX outer H s E e' s'') s'

theorem cell_has {sc : Scope} {n : Nat} {x : Str} (h : sc.names.lookup x = some .cell) : ∃ c, (cellsFrom n sc.names []).lookup x = some c := by
  have q := PySem.W.cellsFrom_some sc.names n [] (.inl h)
  exact Option.isSome_iff_exists.mp q

theorem inv_start {CX : CXT} {P : Program} {w : World} {K : PySem.W.Frag} {mg : Str → Option Value} {base : Heap} {N ps : List Str} {qual : Str} {scope : Scope} {f : Addr} {cd : Value} {A : Around} {outer : List Env} {s s1 : Shared} {H : Hp} {E : XK} {us : List Value} {vs : List V}
    (S : FnScope N ps scope) (hd : A.handled = none) (e0 : Env0 P w K mg base A outer s H) (hl : vs.length = ps.length) (r : Vals vs us)
    (x : InCallC s s.heap.objs.size (bindL (envOfC qual scope s.heap.objs.size f cd).kindOf (ps.zip us) fun _ => none) (cellsFrom (s.heap.objs.size + 1) scope.names []) (bindC (envOfC qual scope s.heap.objs.size f cd).kindOf (ps.zip us) fun _ => none) s1) :
    Inv (cxOf CX P w K mg base N qual scope f cd A outer s H E) [] (start N vs) H s1 := by
  have hpl : ps.length ≤ N.length := by have := congrArg List.length S.pre; rw [List.length_take] at this; omega
  obtain ⟨h1, tk, rfl, hk⟩ := x.done
  have noA : ∀ b : Addr, b ∉ (cxOf CX P w K mg base N qual scope f cd A outer s H E).ex := fun b z => absurd (show b ∈ ([] : List Addr) from z) (by simp)
  refine ⟨⟨e0.mod, S.kind, rfl, rfl, Nat.le_refl _, fun y z c h1 h2 => ?_, fun y hy => ?_, fun y c _ h => ?_, fun _ => hd, Around.frames_deeper e0.frames, .inr ⟨rfl, rfl⟩, fun b z => absurd z (noA b), e0.bs, e0.bsz, fun b _ _ => noA b, fun b z => absurd z (noA b), e0.funs, e0.frf⟩,
    rfl, e0.bare, Un.kept hk, ⟨_, x.toInCall.ns, fun i y v h1 h2 h3 => ?_⟩, fun y c h => ⟨_, x.cell y c h⟩, e0.hok.fresh (Nat.le_refl _), fun y c h => ?_, fun p hp => absurd (show p ∈ ([] : List (Addr × Obj)) from hp) (by simp), e0.hok.kept hk, ?_⟩
  · exact name_of_addr x.apart (PySem.mem_of_lookup h1) (PySem.mem_of_lookup h2)
  · have hy : scope.names.lookup y = some .cell ∨ scope.names.lookup y = some .free := hy
    rcases hy with hy | hy
    · exact cell_has hy
    · exact absurd rfl (S.nofree _ (PySem.mem_of_lookup hy))
  · exact Nat.le_of_lt (x.above y c (PySem.mem_of_lookup h))
  · have hi : i < vs.length := by
      unfold start at h2
      by_cases hi : i < vs.length
      · exact hi
      · rw [List.getElem?_append_right (by simpa using hi)] at h2
        rw [List.getElem?_replicate] at h2
        split at h2 <;> cases h2
    have ha : vs[i]? = some v := by
      unfold start at h2
      rw [List.getElem?_append_left (by simpa using hi), List.getElem?_map] at h2
      cases e : vs[i]? with
      | none => rw [e] at h2; cases h2
      | some a => rw [e] at h2; cases h2; rfl
    obtain ⟨u, hu, rv⟩ := r.get ha
    have hp : ps[i]? = some y := by
      rw [← S.pre, List.getElem?_take_of_lt (by omega)]; exact h1
    have ndP : ps.Nodup := by rw [← S.pre]; exact S.nd.sublist (List.take_sublist _ _)
    refine ⟨u, rv, ?_⟩
    rcases S.par y (List.mem_of_getElem? hp) with k | k
    · exact .inl ⟨k, bindL_get ndP hp hu k⟩
    · obtain ⟨c, e⟩ := cell_has (n := s.heap.objs.size + 1) k
      refine .inr ⟨.inl k, c, e, ?_⟩
      have q := x.cell y c e
      rw [bindC_get ndP hp hu (by show scope.names.lookup y ≠ _; rw [k]; decide)] at q
      exact q
  · exact e0.hok.fresh (Nat.le_of_lt (x.above y c (PySem.mem_of_lookup h)))
  · unfold start
    show _ = N.length
    rw [List.length_append, List.length_map, List.length_replicate]
    omega

/-- THE RULE: a def (or a method) of the text, by its body. The body's reading t is chosen for each entry; it is run at the parameters' values -/
theorem fn_of {CX : CXT} {P : Program} {w : World} {K : PySem.W.Frag} {mg : Str → Option Value} {base : Heap} {k : Nat} {f : Addr} {name qual : Str} {params : Arguments} {body : List Stmt} {scope : Scope} {dV kV doc pm cdv ct oc : Value} {an od : Option Addr}
    {osl : Array (Option Value)} {N ps : List Str} {sp : Sp} (lk : K.lookup f = some ⟨oc, od, .func (PySem.W.fnOf name qual params body scope dV kV doc pm an cdv ct), osl⟩) (hcd : PySem.W.codeIn K cdv qual = true) (S : FnScope N ps scope)
    (len : ∀ vs H Q E, sp vs H Q E → vs.length = ps.length)
    (hbody : ∀ (A : Around) (outer : List Env) (s : Shared) (H : Hp) (vs : List V) (Q : VK) (E : XK), Room k (A.deeper (envOfC qual scope s.heap.objs.size f cdv)) → sp vs H Q E →
      ∃ t, PSs (cxOf CX P w K mg base N qual scope f cdv A outer s H E) body t ∧ t { nx := fun _ H' => Q .non H', rt := Q } (start N vs) H) :
    FnOk P w K mg base CX (k + 1) f (PySem.W.fnOf name qual params body scope dV kV doc pm an cdv ct) ps sp := by
  refine ⟨len, fun A outer s H args us vs Q E hr e0 hb r hsp => ?_⟩
  have hl := len _ _ _ _ hsp
  have KX : K.In s.heap := e0.mod.kin.keeps fun b o e => (e0.bs b o e).1
  have lim : s.heap.NoLimit := e0.mod.nolimit.keeps fun b o e => (e0.bs b o e).1
  have hkind : ∀ y ∈ ps.zip us, scope.names.lookup y.1 = some .local ∨ (scope.names.lookup y.1 = some .cell ∧ ((cellsFrom (s.heap.objs.size + 1) scope.names []).lookup y.1).isSome = true) := fun ⟨n, v⟩ hy => by
    rcases S.par n (List.of_mem_zip hy).1 with q | q
    · exact .inl q
    · exact .inr ⟨q, PySem.W.cellsFrom_some _ _ _ (.inl q)⟩
  refine codeAny_call_function hr.depth (KX _ _ lk) rfl S.co S.gen rfl (PySem.W.codeRec_of KX hcd) (hb _ _ _ _ ?_)
  refine wpAny_newFunctionEnv_cells S.kind hkind fun env he s1 x => ?_
  subst he
  refine ⟨lim.keeps x.toInCall.keep, codeAny_func ?_⟩
  obtain ⟨t, ht, hq⟩ := hbody A outer s H vs Q E (hr.deeper _) hsp
  have I : Inv (cxOf CX P w K mg base N qual scope f cdv A outer s H E) [] (start N vs) H s1 := inv_start S hr.hd e0 hl r x
  refine wpAny_mono (ht [] s1 (start N vs) H _ I hq) (fun fl s' hs => ?_) fun e s' hs => hs
  have fin : ∀ {σ' : St} {H' : Hp} {v : V} {u : Value}, Inv (cxOf CX P w K mg base N qual scope f cdv A outer s H E) [] σ' H' s' → RelV v u → Q v H' → CE outer P w H s Q u s' :=
    fun {σ' H' v u} J rv q => ⟨v, H', J.os, J.bare, J.base, J.hok, rv, q⟩
  cases fl with
  | ret u =>
    obtain ⟨v, σ', H', J, rv, q⟩ := hs
    exact fin J rv q
  | next =>
    obtain ⟨σ', H', J, q⟩ := hs
    exact fin (v := V.non) (u := Value.none) J rfl q
  | brk =>
    obtain ⟨_, _, _, q⟩ := hs
    exact False.elim q
  | cont =>
    obtain ⟨_, _, _, q⟩ := hs
    exact False.elim q
end L2

namespace L2
open PySem PySem.Spec PyProof.Rows
section
variable {X : Cx} {x : Str} {p pos : Pos} {e : Expr} {es : List Expr} {t : TA} {id T : String} {r : List V → Hp → VK → Prop}

def tCB (r : List V → Hp → VK → Prop) (t : TA) : TE := fun σ H Q => t σ H fun vs H1 => r vs H1 Q
/-- f(e, ..), f a built-in function -/
theorem pe_callB (hc : CallR X (.builtin id) r) (hg : Gl X x) (hm : X.mg x = none) (hv : bootBuiltins x = some (.builtin id)) (ha : PA X (e :: es) t) (hn : x ≠ "__name__" := by decide) (hdb : (x == ("__debug__" : Str)) = false := by decide)
    (he : starEach (e :: es) X.env = (false, eval e X.env) :: starEach es X.env := by rfl) (hpl : (backTo pos (starEach es X.env)).any (·.1) = false := by rfl) : PE X (.Call (.Name x p) (e :: es) [] pos) (tCB r t) := by
  intro pins s σ H Q I h
  refine wpAny_Call_Name_kw (ld_blt I hg hm hv ?_ hn hdb)
  exact PyProof.Rows.callWith_builtin1 (thn (ha pos pins s σ H _ I h) fun us s1 ⟨vs, H1, I1, r1, q1⟩ => hc pins s1 σ H1 vs us Q I1 r1 q1) he hpl
end
end L2

namespace HT
open PySem PyProof.Rows

/-- t < u of tuples of ints -/
def lexLt : List Int → List Int → Bool
  | [], [] => false
  | [], _ :: _ => true
  | _ :: _, [] => false
  | x :: xs, y :: ys => if x = y then lexLt xs ys else decide (x < y)


section
open PySem.SeqAt
open PySem.AutoSeq1 (wpAny_loadPart')
open PySem.MeetsSeq PySem.MeetsSeq2 PySem.MeetsSeq3

end

section
variable {prog : Program} {w : World} {A : Around} {E : Value → Shared → Prop} {s : Shared}


/-- t + u, t not empty -/
theorem cat_tup {t b : Addr} {vs ws : List Value} {Q : Value → Shared → Prop} (ht : IsTup s.heap t vs.toArray) (hb : IsTup s.heap b ws.toArray) (hv : vs ≠ [])
    (h1 : ws = [] → Q (.ref t) s) (h2 : ws ≠ [] → Q (.ref s.heap.objs.size) { s with heap := s.heap.push { cls := .type "tuple", data := .seq (vs ++ ws).toArray } })
    (hsz : vs.length + ws.length ≤ sizeLine) : wpAny (model prog w) A (binaryOp .Add (.ref t) (.ref b)) Q E s := by
  obtain ⟨⟨cls, dd, data, sl⟩, ho, hc, n, hd⟩ := id ht
  obtain ⟨⟨cls2, dd2, data2, sl2⟩, ho2, hc2, n2, hd2⟩ := id hb
  simp only at hc hd hc2 hd2
  subst hc hd hc2 hd2
  have e : vs.toArray ++ ws.toArray = (vs ++ ws).toArray := by simp
  by_cases hw : ws = []
  · exact concat_meets ⟨_, ho, rfl⟩ ⟨_, ho2, rfl⟩ noFill_tuple_add seq_tuple_add PySem.F.slot_tuple_add PySem.F.entry_tuple_add (PySem.F.args_tuple_add_2 _ _)
      (tuple_addW1 t b vs.toArray ws.toArray n n2 dd dd2 sl sl2 (by simpa using hv) (by simp [hw])) ⟨ho, ho2, h1 hw⟩
  · refine concat_meets ⟨_, ho, rfl⟩ ⟨_, ho2, rfl⟩ noFill_tuple_add seq_tuple_add PySem.F.slot_tuple_add PySem.F.entry_tuple_add (PySem.F.args_tuple_add_2 _ _)
      (tuple_addW2 t b vs.toArray ws.toArray n n2 dd dd2 sl sl2 (by simpa using hv) (by simpa using hw) (by rw [List.size_toArray, List.size_toArray]; exact hsz)) ⟨ho, ho2, ?_⟩
    rw [e]
    exact h2 hw

/-! ### t[a:b], not the whole -/
/-- a slice's bound as a place among n (d where it is left out) -/
def sIx (n d : Nat) : Option Int → Nat
  | none => d
  | some v => if v < 0 then (v + (n : Int)).toNat else min v.toNat n
theorem sIx_le (n d : Nat) (hd : d ≤ n) (o : Option Int) : sIx n d o ≤ n := by
  cases o with
  | none => exact hd
  | some v =>
    show (if v < 0 then (v + (n : Int)).toNat else min v.toNat n) ≤ n
    by_cases hv : v < 0
    · rw [if_pos hv]; omega
    · rw [if_neg hv]; exact Nat.min_le_right _ _
theorem clip_eq (v : Int) (n d : Nat) : (if v < 0 then max (v + (n : Int)) 0 else min v (n : Int)) = ((sIx n d (some v) : Nat) : Int) := by
  show (if v < 0 then max (v + (n : Int)) 0 else min v (n : Int)) = (((if v < 0 then (v + (n : Int)).toNat else min v.toNat n) : Nat) : Int)
  by_cases hv : v < 0
  · simp only [if_pos hv]; omega
  · simp only [if_neg hv]; omega
theorem adjust_gen (lo hi : Option Int) (n : Nat) : Builtin.Slice.sliceAdjust lo hi 1 (n : Int) = (((sIx n 0 lo : Nat) : Int), ((sIx n n hi : Nat) : Int)) := by
  have h1 : ¬ ((1 : Int) < 0) := by omega
  unfold Builtin.Slice.sliceAdjust
  simp only [h1, if_false]
  refine Prod.ext ?_ ?_
  · cases lo with
    | none => rfl
    | some v => exact clip_eq v n 0
  · cases hi with
    | none => rfl
    | some v => exact clip_eq v n n
theorem places_gen (i j : Nat) : Builtin.Slice.slicePlaces (i : Int) (j : Int) 1 = j - i := by
  unfold Builtin.Slice.slicePlaces
  have h1 : (1 : Int) > 0 := by omega
  simp only [h1, if_true, Int.ediv_one]
  split <;> omega
theorem slicePart_ {v : Value} {o : Option Int} {Q : Option Int → Shared → Prop} (p : IsPart v o) (h : Q o s) : wpAny (model prog w) A (Builtin.Slice.slicePartIndex v) Q E s := by
  cases p with
  | none => exact slicePart_none h
  | int i t => exact slicePart_int h
theorem sliceApplied_gen {sl : Addr} {vl vu : Value} {lo hi : Option Int} {n : Nat} {Q : Int × Int × Nat → Shared → Prop} (hs : s.heap.IsSliceOf sl vl vu .none) (pl : IsPart vl lo) (pu : IsPart vu hi)
    (h : Q (((sIx n 0 lo : Nat) : Int), 1, sIx n n hi - sIx n 0 lo) s) : wpAny (model prog w) A (Builtin.Slice.sliceApplied (.ref sl) (pure (n : Int))) Q E s := by
  obtain ⟨os, hos, hcs, hds⟩ := id hs
  unfold Builtin.Slice.sliceApplied Builtin.Slice.sliceFields
  refine wpAny_bind (wpAny_bind (wpAny_field hos hds (x := vl) rfl (wpAny_bind (wpAny_field hos hds (x := vu) rfl (wpAny_bind (wpAny_field hos hds (x := .none) rfl (wpAny_pure ?_)))))))
  refine wpAny_bind (slicePart_none ?_)
  show wpAny _ _ (if ((1 : Int) == 0) = true then _ else _) _ _ s
  rw [if_neg (by decide)]
  refine wpAny_bind (slicePart_ pl (wpAny_bind (slicePart_ pu (wpAny_bind (wpAny_pure ?_)))))
  show wpAny _ _ (match Builtin.Slice.sliceAdjust lo hi 1 (n : Int) with | (lo, hi) => pure (lo, (1 : Int), Builtin.Slice.slicePlaces lo hi 1)) _ _ s
  rw [adjust_gen lo hi n]
  show wpAny _ _ (pure (((sIx n 0 lo : Nat) : Int), (1 : Int), Builtin.Slice.slicePlaces ((sIx n 0 lo : Nat) : Int) ((sIx n n hi : Nat) : Int) 1)) _ _ s
  rw [places_gen]
  exact wpAny_pure h
theorem pick_gen (xs : Array Value) (i k : Nat) : ((List.range k).filterMap fun (m : Nat) => xs[((i : Int) + (m : Int) * 1).toNat]?).toArray = ((xs.toList.drop i).take k).toArray := by
  have e : (fun (m : Nat) => xs[((i : Int) + (m : Int) * 1).toNat]?) = fun m => xs[i + m]? := by
    funext m
    have : ((i : Int) + (m : Int) * 1).toNat = i + m := by omega
    rw [this]
  rw [e]
  have := pick_run xs i k
  rw [List.filterMap_map] at this
  have e2 : ((fun x => xs[x]?) ∘ fun x => i + x) = fun m => xs[i + m]? := rfl
  rw [e2] at this
  rw [this]

theorem getItem_tuple_cut {t sl : Addr} {items : Array Value} {vl vu : Value} {lo hi : Option Int} {Q : Value → Shared → Prop} (ht : IsTup s.heap t items) (hs : s.heap.IsSliceOf sl vl vu .none) (pl : IsPart vl lo) (pu : IsPart vu hi)
    (hw : ¬ (sIx items.size 0 lo = 0 ∧ sIx items.size items.size hi = items.size))
    (h : Q (.ref s.heap.objs.size) { s with heap := s.heap.push { cls := .type "tuple", data := .seq ((items.toList.drop (sIx items.size 0 lo)).take (sIx items.size items.size hi - sIx items.size 0 lo)).toArray } })
    (hsz : items.size ≤ sizeLine) : wpAny (model prog w) A (getItem (.ref t) (.ref sl)) Q E s := by
  have htake : sizeOk (.seq ((items.toList.drop (sIx items.size 0 lo)).take (sIx items.size items.size hi - sIx items.size 0 lo)).toArray) := by
    show ((items.toList.drop (sIx items.size 0 lo)).take (sIx items.size items.size hi - sIx items.size 0 lo)).toArray.size ≤ sizeLine
    rw [List.size_toArray, List.length_take, List.length_drop, Array.length_toList]
    omega
  have hj : sIx items.size items.size hi ≤ items.size := sIx_le _ _ (Nat.le_refl _) hi
  obtain ⟨os, hos, hcs, hds⟩ := id hs
  have hTs : s.TypeIs (.ref sl) "slice" := ⟨os, hos, hcs⟩
  unfold getItem
  try with_reducible refine wpAny_holding ?_
  first | refine wpAny_bind (wpAny_pure ?_) | skip
  refine wpAny_bind (wpAny_sequenceKey ht.typeIs (by decide) ?_)
  refine wpAny_bind (wpAny_callSpecial?_slot (name := Str.ofString "__getitem__") ht.typeIs PyProof.Rows.slot_tuple_getitem
    (wpAny_call_entry PyProof.Rows.slot_tuple_getitem ht.typeIs entry_tuple_getitem ?_ (args_tuple_getitem _ _)))
  show wpAny _ _ (Builtin.Tuple.tupleItemsOf (.ref t) >>= _) _ _ s
  refine wpAny_bind (tupleItemsOf_ ht ?_)
  refine wpAny_bind (wpAny_typeOf hTs ?_)
  rw [if_pos (by decide)]
  refine wpAny_bind (sliceApplied_gen hs pl pu ?_)
  have hno : ¬ ((((sIx items.size 0 lo : Nat) : Int) == 0 && (1 : Int) == 1 && (sIx items.size items.size hi - sIx items.size 0 lo) == items.size) = true) := by
    intro q
    rw [Bool.and_eq_true, Bool.and_eq_true] at q
    have q1 : ((sIx items.size 0 lo : Nat) : Int) = 0 := eq_of_beq q.1.1
    have q2 : sIx items.size items.size hi - sIx items.size 0 lo = items.size := eq_of_beq q.2
    exact hw ⟨by omega, by omega⟩
  show wpAny _ _ (if (((sIx items.size 0 lo : Nat) : Int) == 0 && (1 : Int) == 1 && (sIx items.size items.size hi - sIx items.size 0 lo) == items.size) = true then _ else _) _ _ s
  rw [if_neg hno, pick_gen]
  first
    | exact wpAny_bind (m := Builtin.Tuple.tupleExact _) (wpAny_newObj_type (wpAny_pure ⟨_, rfl, wpAny_pure h⟩) htake)
    | exact wpAny_bind (m := Builtin.Tuple.tupleExact _) (wpAny_newObj_type (wpAny_bind (wpAny_pure (wpAny_pure ⟨_, rfl, wpAny_pure h⟩))) htake)
    | exact wpAny_bind (wpAny_bind (m := Builtin.Tuple.tupleExact _) (wpAny_newObj_type (wpAny_pure (wpAny_pure ⟨_, rfl, wpAny_pure h⟩)) htake))
    | exact wpAny_bind (wpAny_bind (m := Builtin.Tuple.tupleExact _) (wpAny_newObj_type (wpAny_pure ⟨_, rfl, wpAny_pure h⟩) htake))
end
end HT

namespace L2
open PySem PySem.Spec PyProof.Rows

/-! ### the parts of a slice -/
abbrev TO := St → Hp → (Option Int → Hp → Prop) → Prop
/-- a slice's part (left out, or an int) -/
def PO (X : Cx) (e : Option Expr) (t : TO) : Prop :=
  ∀ (pins : List (Addr × Obj)) (s : Shared) (σ : St) (H : Hp) (Q : Option Int → Hp → Prop), Inv X pins σ H s → t σ H Q →
    wpAny (model X.prog X.w) X.A (evalPart e X.env) (fun u s' => ∃ o H', Inv X pins σ H' s' ∧ IsPart u o ∧ Q o H') X.xe s
def tNoPart : TO := fun _ H Q => Q none H
def tPart (t : TE) : TO := fun σ H Q => t σ H fun x H1 => ∃ i, x = .int i ∧ Q (some i) H1

theorem intsAre_of {ns : List Int} : ∀ {us : List Value}, Vals (ns.map V.int) us → IntsAre us ns := by
  induction ns with
  | nil => intro us r; rw [List.map_nil] at r; cases r; exact .nil
  | cons n ns ih =>
    intro us r
    rw [List.map_cons] at r
    cases r with
    | cons r1 r2 =>
      obtain ⟨t, e⟩ := r1
      subst e
      exact .cons n t (ih r2)

section
variable {X : Cx} {e : Expr} {te : TE} {lo hi : Option Expr} {tl th : TO} {pos p2 : Pos}

theorem po_none : PO X none tNoPart := by
  intro pins s σ H Q I h
  rw [evalPart_none]
  exact wpAny_pure ⟨none, H, I, .none, h⟩
theorem po_some (h : PE X e te) : PO X (some e) (tPart te) := by
  intro pins s σ H Q I hw
  rw [evalPart_some]
  refine thn (h pins s σ H _ I hw) fun u s1 ⟨x, H1, I1, r1, q1⟩ => ?_
  obtain ⟨i, rfl, q⟩ := q1
  obtain ⟨t, rfl⟩ := r1
  exact ⟨some i, H1, I1, .int i t, q⟩

/-- what a slice of a value is, by values: the slice object stands at sl -/
def SlR (X : Cx) (r : V → Option Int → Option Int → Hp → VK → Prop) : Prop :=
  ∀ (pins : List (Addr × Obj)) (s : Shared) (σ : St) (H : Hp) (x : V) (v vl vu : Value) (lo hi : Option Int) (sl : Addr) (Q : VK), Inv X pins σ H s → RelV x v → s.heap.IsSliceOf sl vl vu .none → IsPart vl lo → IsPart vu hi → r x lo hi H Q →
    ∃ T id, typeLookup (.type T) "__getitem__" = pure (some (.builtin id)) ∧ s.TypeIs v T ∧ wpAny (model X.prog X.w) X.A (getItem v (.ref sl)) (EP X pins σ Q) X.xe s
theorem SlR.or {r r' : V → Option Int → Option Int → Hp → VK → Prop} (h : SlR X r) (h' : SlR X r') : SlR X (fun x lo hi H Q => r x lo hi H Q ∨ r' x lo hi H Q) := by
  intro pins s σ H x v vl vu lo hi sl Q I rx hs pl pu q
  rcases q with q | q
  · exact h pins s σ H x v vl vu lo hi sl Q I rx hs pl pu q
  · exact h' pins s σ H x v vl vu lo hi sl Q I rx hs pl pu q
def tSl (r : V → Option Int → Option Int → Hp → VK → Prop) (te : TE) (tl th : TO) : TE := fun σ H Q => te σ H fun x H1 => tl σ H1 fun l H2 => th σ H2 fun u H3 => r x l u H3 Q
/-- a[lo:hi], any a -/
theorem pe_slice {r : V → Option Int → Option Int → Hp → VK → Prop} (hr : SlR X r) (he : PE X e te) (hl : PO X lo tl) (hu : PO X hi th) : PE X (.Subscript e (.Slice lo hi none p2) pos) (tSl r te tl th) := by
  intro pins s σ H Q I h
  refine Subscript_ (thn (he pins s σ H _ I h) fun v s1 ⟨x, H1, I1, r1, q1⟩ => ?_)
  refine wpAny_Slice (thn (hl pins s1 σ H1 _ I1 q1) fun vl s2 ⟨l, H2, I2, pl, q2⟩ => thn (hu pins s2 σ H2 _ I2 q2) fun vu s3 ⟨u, H3, I3, pu, q3⟩ => ?_)
  rw [evalPart_none]
  refine wpAny_pure ?_
  have I4 : Inv X pins σ H3 { s3 with heap := s3.heap.push { cls := .type "slice", data := .fields #[vl, vu, .none] } } := I3.kept (t' := s3.toks) fun b ob q => Heap.get?_push_of_some _ q
  obtain ⟨T, id, hT, ht, hg⟩ := hr pins { s3 with heap := s3.heap.push { cls := .type "slice", data := .fields #[vl, vu, .none] } } σ H3 x v vl vu l u s3.heap.objs.size Q I4 r1 (Heap.IsSliceOf.new ..) pl pu q3
  show wpAny (model X.prog X.w) X.A (subscriptTail e (.Slice lo hi none p2) v (.ref s3.heap.objs.size)) (EP X pins σ Q) X.xe { s3 with heap := s3.heap.push { cls := .type "slice", data := .fields #[vl, vu, .none] } }
  exact tail_any (ops := [.ref s3.heap.objs.size, v]) ht hT hg (by with_unfolding_all rfl)

/-- the items of xs[lo:hi] -/
def cutV (xs : List V) (lo hi : Option Int) : List V := (xs.drop (HT.sIx xs.length 0 lo)).take (HT.sIx xs.length xs.length hi - HT.sIx xs.length 0 lo)
theorem cutV_length (xs : List V) (lo hi : Option Int) : (cutV xs lo hi).length ≤ xs.length := by
  unfold cutV
  rw [List.length_take, List.length_drop]
  omega
/-- t[lo:hi], not the whole of it (the whole would be t itself) -/
def rSlT (K : PySem.W.Frag) : V → Option Int → Option Int → Hp → VK → Prop := fun x lo hi H Q => ∃ a xs, x = .ref a ∧ SqT K H a xs ∧
  ¬ (HT.sIx xs.length 0 lo = 0 ∧ HT.sIx xs.length xs.length hi = xs.length) ∧ ∀ p, H p = none → Q (.ref p) (upd H p (.tup (cutV xs lo hi)))
theorem sl_tup : SlR X (rSlT X.K) := by
  intro pins s σ H x v vl vu lo hi sl Q I rx hs pl pu h
  obtain ⟨a, xs, rfl, hx, hw, q⟩ := h
  cases rx
  obtain ⟨its, r, ht, hz⟩ := I.tuple hx
  have hlen : its.toArray.size = xs.length := by rw [List.size_toArray]; exact r.length.symm
  refine ⟨"tuple", _, PyProof.Rows.slot_tuple_getitem.lookup, ht.typeIs, ?_⟩
  refine HT.getItem_tuple_cut ht hs pl pu (by rw [hlen]; exact hw) ?_ (by rw [hlen]; exact hz)
  rw [hlen]
  refine ⟨.ref s.heap.objs.size, _, I.laid (t' := s.toks) (o := .tup (cutV xs lo hi)) (fun b ob q => Heap.get?_push_of_some _ q) (Nat.le_refl _) ?_, rfl, q _ (I.hok.fresh (Nat.le_refl _))⟩
  exact ⟨Nat.le_trans (cutV_length xs lo hi) hz, _, (r.drop (HT.sIx xs.length 0 lo)).take (HT.sIx xs.length xs.length hi - HT.sIx xs.length 0 lo), IsTup.new _ _⟩

/-! ### t < u, t + u -/
/-- t + u, t not empty: u empty gives t itself -/
def rCatT (K : PySem.W.Frag) : R2 := fun x y H Q => ∃ a b xs ys, x = .ref a ∧ y = .ref b ∧ SqT K H a xs ∧ SqT K H b ys ∧ xs ≠ [] ∧ xs.length + ys.length ≤ sizeLine ∧
  (ys = [] → Q (.ref a) H) ∧ (ys ≠ [] → ∀ p, H p = none → Q (.ref p) (upd H p (.tup (xs ++ ys))))
theorem Vals.nil_iff {xs : List V} {us : List Value} (r : Vals xs us) : us = [] ↔ xs = [] := by
  cases r with
  | nil => simp
  | cons _ _ => simp
theorem op_catT : OpR X (binaryOp .Add) (rCatT X.K) := by
  intro pins s σ H x y v u Q I rx ry h
  obtain ⟨a, b, xs, ys, rfl, rfl, ha, hb, hx, hz, q1, q2⟩ := h
  cases rx
  cases ry
  obtain ⟨its, r1, p1, _⟩ := I.tuple ha
  obtain ⟨its2, r2, p2, _⟩ := I.tuple hb
  refine HT.cat_tup p1 p2 (fun z => hx (r1.nil_iff.mp z)) (fun z => ⟨.ref a, H, I, rfl, q1 (r2.nil_iff.mp z)⟩) (fun z => ?_) (by rw [← r1.length, ← r2.length]; exact hz)
  refine ⟨.ref s.heap.objs.size, _, I.laid (t' := s.toks) (o := .tup (xs ++ ys)) (fun b ob q => Heap.get?_push_of_some _ q) (Nat.le_refl _) ?_, rfl, q2 (fun w => z (r2.nil_iff.mpr w)) _ (I.hok.fresh (Nat.le_refl _))⟩
  exact ⟨by rw [List.length_append]; exact hz, _, r1.append r2, IsTup.new _ _⟩
end
end L2

namespace L2
open PySem PySem.Spec PyProof.Rows

/-! ### places -/
/-- the place that an index of any sign means -/
def ixN (n : Nat) (i : Int) : Option Nat := if 0 ≤ i then (if i < n then some i.toNat else none) else if -(n : Int) ≤ i then some (i + n).toNat else none
def atI {α : Type} (xs : List α) (i : Int) : Option α := (ixN xs.length i).bind fun j => xs[j]?
theorem ixN_seq {n : Nat} {i : Int} {j : Nat} (h : ixN n i = some j) : seqIndex? i n = some j ∧ j < n ∧ -(n : Int) ≤ i ∧ i < n := by
  unfold ixN at h
  by_cases h0 : 0 ≤ i
  · rw [if_pos h0] at h
    by_cases h1 : i < n
    · rw [if_pos h1] at h
      have e : i.toNat = j := Option.some.inj h
      exact ⟨by rw [seqIndex_of h0 h1, e], by omega, by omega, h1⟩
    · rw [if_neg h1] at h; cases h
  · rw [if_neg h0] at h
    by_cases h1 : -(n : Int) ≤ i
    · rw [if_pos h1] at h
      have e : (i + n).toNat = j := Option.some.inj h
      exact ⟨by rw [seqIndex_neg (by omega) h1, e], by omega, h1, by omega⟩
    · rw [if_neg h1] at h; cases h
theorem atI_get {α : Type} {xs : List α} {i : Int} {v : α} (h : atI xs i = some v) : ∃ j, seqIndex? i xs.length = some j ∧ xs[j]? = some v ∧ j < xs.length ∧ -(xs.length : Int) ≤ i ∧ i < xs.length := by
  unfold atI at h
  cases e : ixN xs.length i with
  | none => rw [e] at h; cases h
  | some j =>
    rw [e] at h
    obtain ⟨h1, h2, h3, h4⟩ := ixN_seq e
    exact ⟨j, h1, h, h2, h3, h4⟩

/-! ### what may be subscripted -/
/-- what stands as an index of a plain subscript -/
def PlainIx (b : Expr) : Prop := ∀ o i, subscripted b false o i = operate [o, i] (getItem o i)
/-- a subscript by values -/
def IxR (X : Cx) (r : R2) : Prop :=
  ∀ (value slice : Expr) (pins : List (Addr × Obj)) (s : Shared) (σ : St) (H : Hp) (x y : V) (v u : Value) (Q : VK), Inv X pins σ H s → RelV x v → RelV y u → r x y H Q →
    subscripted slice false v u = operate [v, u] (getItem v u) → wpAny (model X.prog X.w) X.A (subscriptTail value slice v u) (EP X pins σ Q) X.xe s
/-- a call of a builtin's method by values: the receiver, the arguments -/
def MtR (X : Cx) (id : String) (r : V → List V → Hp → VK → Prop) : Prop :=
  ∀ (pins : List (Addr × Obj)) (s : Shared) (σ : St) (H : Hp) (x : V) (xs : List V) (v : Value) (us : List Value) (Q : VK), Inv X pins σ H s → RelV x v → Vals xs us → r x xs H Q →
    wpAny (model X.prog X.w) X.A (call (.builtin id) (v :: us)) (EP X pins σ Q) X.xe s
section
variable {X : Cx} {a b : Expr} {ta tb : TE} {pos : Pos}
theorem IxR.or {r r' : R2} (h : IxR X r) (h' : IxR X r') : IxR X (fun x y H Q => r x y H Q ∨ r' x y H Q) := by
  intro value slice pins s σ H x y v u Q I rx ry q hs
  rcases q with q | q
  · exact h value slice pins s σ H x y v u Q I rx ry q hs
  · exact h' value slice pins s σ H x y v u Q I rx ry q hs
theorem MtR.or {id : String} {r r' : V → List V → Hp → VK → Prop} (h : MtR X id r) (h' : MtR X id r') : MtR X id (fun x xs H Q => r x xs H Q ∨ r' x xs H Q) := by
  intro pins s σ H x xs v us Q I rx rs q
  rcases q with q | q
  · exact h pins s σ H x xs v us Q I rx rs q
  · exact h' pins s σ H x xs v us Q I rx rs q
/-- a[b] -/
theorem pe_ix {r : R2} (hr : IxR X r) (ha : PE X a ta) (hb : PE X b tb) (hs : PlainIx b) : PE X (.Subscript a b pos) (tOp r ta tb) := by
  intro pins s σ H Q I h
  exact Subscript_ (binT ha hb I h fun v u s2 x y H2 I2 rx ry q => hr a b pins s2 σ H2 x y v u Q I2 rx ry q (hs _ _))

def rIxL (K : PySem.W.Frag) : R2 := fun x y H Q => ∃ p xs i v, x = .ref p ∧ y = .int i ∧ SqL K H p xs ∧ atI xs i = some v ∧ Q v H
def rIxT (K : PySem.W.Frag) : R2 := fun x y H Q => ∃ p xs i v, x = .ref p ∧ y = .int i ∧ SqT K H p xs ∧ atI xs i = some v ∧ Q v H
def rIxS : R2 := fun x y H Q => ∃ z i c, x = .str z ∧ y = .int i ∧ z.length ≤ sizeLine ∧ atI z.cps.toList i = some c ∧ Q (.str ⟨#[c]⟩) H
theorem ix_list : IxR X (rIxL X.K) := by
  intro value slice pins s σ H x y v u Q I rx ry h hs
  obtain ⟨p, xs, i, z, rfl, rfl, hq, he, q⟩ := h
  cases rx
  obtain ⟨t, rfl⟩ := ry
  obtain ⟨its, r, pl, hz⟩ := I.list hq
  obtain ⟨j, h1, h2, h3, h4, h5⟩ := atI_get he
  obtain ⟨w, ew, rw'⟩ := r.get h2
  have hl := r.length
  have hn := line63
  have fin : EP X pins σ Q w s := ⟨z, H, I, rw', q⟩
  by_cases h0 : 0 ≤ i
  · have hj : i.toNat = j := by
      rw [seqIndex_of h0 h5] at h1
      exact Option.some.inj h1
    exact item_listR pl.isList h0 (by omega) (by rw [hj]; simpa using ew) fin hs
  · have hj : (i + (its.toArray.size : Int)).toNat = j := by
      rw [seqIndex_neg (by omega) h4] at h1
      rw [List.size_toArray, ← hl]
      exact Option.some.inj h1
    exact subscriptTail_builtinR (x := w) pl.isList.typeIs slot_list_getitem.lookup
      (wpAny_getItem_list_neg (Q := fun r s' => r = w ∧ EP X pins σ Q r s') pl.isList (by omega) (by rw [List.size_toArray] <;> omega) (by omega) (by rw [hj]; simpa using ew) ⟨rfl, fin⟩) hs
theorem ix_tup : IxR X (rIxT X.K) := by
  intro value slice pins s σ H x y v u Q I rx ry h hs
  obtain ⟨p, xs, i, z, rfl, rfl, hq, he, q⟩ := h
  cases rx
  obtain ⟨t, rfl⟩ := ry
  obtain ⟨its, r, pl, hz⟩ := I.tuple hq
  obtain ⟨j, h1, h2, h3, h4, h5⟩ := atI_get he
  obtain ⟨w, ew, rw'⟩ := r.get h2
  have hl := r.length
  have hn := line63
  have fin : EP X pins σ Q w s := ⟨z, H, I, rw', q⟩
  exact subscriptTail_builtinR (x := w) pl.typeIs slot_tuple_getitem.lookup
    (getItem_tuple (j := j) (Q := fun r s' => r = w ∧ EP X pins σ Q r s') pl (by omega) (by omega) (by rw [List.size_toArray, ← hl]; exact h1) (by simpa using ew) ⟨rfl, fin⟩) hs
theorem ix_str : IxR X rIxS := by
  intro value slice pins s σ H x y v u Q I rx ry h hs
  obtain ⟨z, i, c, rfl, rfl, hz, he, q⟩ := h
  obtain ⟨t, rfl⟩ := rx
  obtain ⟨t', rfl⟩ := ry
  obtain ⟨j, h1, h2, h3, h4, h5⟩ := atI_get he
  have hl : z.cps.toList.length = z.length := by simp [Str.length]
  rw [hl] at h1 h4 h5
  have hn := line63
  exact tail_any (typeIs_str s z t) slot_str_getitem.lookup (getItem_str (c := c) (by
    have e1 : decide (i < -(2 ^ 63 : Int)) = false := decide_eq_false (by omega)
    have e2 : decide (i ≥ 2 ^ 63) = false := decide_eq_false (by omega)
    rw [e1, e2, Bool.or_false]) (by rw [h1]; simpa using h2) ⟨.str ⟨#[c]⟩, H, I.tok _, ⟨_, rfl⟩, q⟩) hs
/-- list, tuple or str -/
def rIx (K : PySem.W.Frag) : R2 := fun x y H Q => rIxL K x y H Q ∨ rIxT K x y H Q ∨ rIxS x y H Q
theorem ix_seq : IxR X (rIx X.K) := ix_list.or (ix_tup.or ix_str)

/-! ### xs[i] = v, any sign -/
theorem Inv.lst {pins : List (Addr × Obj)} {σ : St} {H : Hp} {s : Shared} {p : Addr} {xs : List V} (I : Inv X pins σ H s) (h : H p = some (.lst xs)) :
    ∃ (its : List Value) (n : Nat), Vals xs its ∧ s.heap.get? p = some { cls := .type "list", data := .seq its.toArray n } ∧ xs.length ≤ sizeLine := by
  obtain ⟨z, its, n, r, e⟩ := I.hok p _ h
  exact ⟨its, n, r, e, z⟩

/-! ### slices -/
theorem slice_bounds (lo hi : Option Int) (n : Nat) : (sliceBounds lo hi none n).1 = ((HT.sIx n 0 lo : Nat) : Int) ∧ (sliceBounds lo hi none n).2.1 = ((HT.sIx n n hi : Nat) : Int) ∧ (sliceBounds lo hi none n).2.2 = 1 := by
  refine ⟨?_, ?_, rfl⟩
  · cases lo with
    | none => simp [sliceBounds, HT.sIx]
    | some i =>
      simp only [sliceBounds, HT.sIx, Option.getD_none, show (1 : Int) > 0 by decide, if_true]
      by_cases h : i < 0
      · simp only [h, if_true] <;> omega
      · simp only [h, if_false] <;> omega
  · cases hi with
    | none => simp [sliceBounds, HT.sIx]
    | some i =>
      simp only [sliceBounds, HT.sIx, Option.getD_none, show (1 : Int) > 0 by decide, if_true]
      by_cases h : i < 0
      · simp only [h, if_true] <;> omega
      · simp only [h, if_false] <;> omega
theorem slicePick_cut (its : List Value) (lo hi : Option Int) : slicePick its.toArray lo hi none = ((its.drop (HT.sIx its.length 0 lo)).take (HT.sIx its.length its.length hi - HT.sIx its.length 0 lo)).toArray := by
  obtain ⟨h1, h2, h3⟩ := slice_bounds lo hi its.toArray.size
  unfold slicePick
  rw [h1, h2, h3]
  simp only [sliceRange_one, pick_run, List.size_toArray] <;> rfl
/-- xs[lo:hi] of a list: a new list -/
def rSlL (K : PySem.W.Frag) : V → Option Int → Option Int → Hp → VK → Prop := fun x lo hi H Q => ∃ a xs, x = .ref a ∧ SqL K H a xs ∧ ∀ p, H p = none → Q (.ref p) (upd H p (.lst (cutV xs lo hi)))
theorem sl_list : SlR X (rSlL X.K) := by
  intro pins s σ H x v vl vu lo hi sl Q I rx hs pl pu h
  obtain ⟨a, xs, rfl, hx, q⟩ := h
  cases rx
  obtain ⟨its, r, ht, hz⟩ := I.list hx
  have hlen := r.length
  refine ⟨"list", _, slot_list_getitem.lookup, ht.isList.typeIs, ?_⟩
  refine wpAny_getItem_list_slice ht.isList hs pl pu .none (by simp) ?_ (by rw [List.size_toArray] <;> omega)
  rw [slicePick_cut, ← hlen]
  refine ⟨.ref s.heap.objs.size, _, I.laid (t' := s.toks) (o := .lst (cutV xs lo hi)) (fun b ob q => Heap.get?_push_of_some _ q) (Nat.le_refl _) ?_, rfl, q _ (I.hok.fresh (Nat.le_refl _))⟩
  exact ⟨Nat.le_trans (cutV_length xs lo hi) hz, _, 0, (r.drop (HT.sIx xs.length 0 lo)).take (HT.sIx xs.length xs.length hi - HT.sIx xs.length 0 lo), Heap.get?_push_size _ rfl⟩

/-! ### in, not in: flat items -/

/-! ### len, list(x), tuple(x) of any list or tuple that is read -/
theorem call_len_seq : CallR X (.builtin "len") (fun xs H Q => ∃ p ys, xs = [.ref p] ∧ (SqL X.K H p ys ∨ SqT X.K H p ys) ∧ Q (.int ys.length) H) := by
  intro pins s σ H xs us Q I r h
  obtain ⟨p, ys, rfl, hq, q⟩ := h
  obtain ⟨u, rfl, rx⟩ := vals1 r
  cases rx
  have hn := line63
  rcases hq with hq | hq
  · obtain ⟨its, r', pl, hz⟩ := I.list hq
    have hlen := r'.length
    exact Calls.call_len_list pl.isList (by simp only [List.size_toArray] <;> omega) ⟨.int ys.length, H, I.tok _, ⟨s.toks + 1, by rw [List.size_toArray, hlen]⟩, q⟩
  · obtain ⟨its, r', pl, hz⟩ := I.tuple hq
    have hlen := r'.length
    exact len_tuple pl (by simp only [List.size_toArray] <;> omega) ⟨.int ys.length, H, I.tok _, ⟨s.toks + 1, by rw [List.size_toArray, hlen]⟩, q⟩
theorem CallR.or {f : Value} {r r' : List V → Hp → VK → Prop} (h : CallR X f r) (h' : CallR X f r') : CallR X f (fun xs H Q => r xs H Q ∨ r' xs H Q) := by
  intro pins s σ H xs us Q I rs q
  rcases q with q | q
  · exact h pins s σ H xs us Q I rs q
  · exact h' pins s σ H xs us Q I rs q

/-! ### the call of a builtin's method: o.m(..) -/
/-- the value is of that builtin type -/
def tyV (K : PySem.W.Frag) (T : String) (x : V) (H : Hp) : Prop := match x with
  | .str _ => T = "str"
  | .int _ => T = "int"
  | .ref p => (T = "list" ∧ ∃ xs, SqL K H p xs) ∨ (T = "tuple" ∧ ∃ o, K.lookup p = some o ∧ o.cls = .type "tuple" ∧ o.dict = none) ∨
      (T = "dict" ∧ ((∃ kvs, H p = some (.dK kvs)) ∨ ∃ kvs, H p = some (.dT kvs))) ∨ (T = "set" ∧ ∃ S n, H p = some (.set S n))
  | _ => False
theorem tyV_is {pins : List (Addr × Obj)} {σ : St} {H : Hp} {s : Shared} {T : String} {x : V} {v : Value} (I : Inv X pins σ H s) (r : RelV x v) (ty : tyV X.K T x H) :
    s.TypeIs v T ∧ ∀ a, v = .ref a → ∃ ob, s.heap.get? a = some ob ∧ ob.dict = none := by
  cases x with
  | str z =>
    obtain ⟨t, rfl⟩ := r
    cases (show T = "str" from ty)
    exact ⟨typeIs_str s z t, fun _ e => nomatch e⟩
  | int i =>
    obtain ⟨t, rfl⟩ := r
    cases (show T = "int" from ty)
    exact ⟨typeIs_int s i t, fun _ e => nomatch e⟩
  | ref p =>
    cases r
    rcases ty with ⟨rfl, xs, hq⟩ | ⟨rfl, o, hk, hc, hd⟩ | ⟨rfl, hk⟩ | ⟨rfl, S, n, hk⟩
    · obtain ⟨its, _, pl, _⟩ := I.list hq
      refine ⟨pl.isList.typeIs, fun a e => ?_⟩
      cases e
      obtain ⟨o, n, e, c, hd, _⟩ := pl
      exact ⟨o, e, hd⟩
    · refine ⟨⟨o, I.kIn p o hk, hc⟩, fun a e => ?_⟩
      cases e
      exact ⟨o, I.kIn _ o hk, hd⟩
    · have z : ∃ o, s.heap.get? p = some o ∧ o.ExactDict := by
        rcases hk with ⟨kvs, hk⟩ | ⟨kvs, hk⟩
        · obtain ⟨_, _, _, _, o, _, _, e, ex, _⟩ := I.hok p _ hk
          exact ⟨o, e, ex⟩
        · obtain ⟨_, _, _, _, o, _, _, e, ex, _⟩ := I.hok p _ hk
          exact ⟨o, e, ex⟩
      obtain ⟨o, e, ex⟩ := z
      refine ⟨⟨o, e, ex.1⟩, fun a e2 => ?_⟩
      cases e2
      exact ⟨o, e, ex.2.1⟩
    · obtain ⟨o, _, _, _, e, ex, _⟩ := I.hok p _ hk
      refine ⟨⟨o, e, ex.1⟩, fun a e2 => ?_⟩
      cases e2
      exact ⟨o, e, ex.2.1⟩
  | _ => exact False.elim ty
def tBM0 (K : PySem.W.Frag) (T : String) (r : V → List V → Hp → VK → Prop) (to : TE) : TE := fun σ H Q => to σ H fun x H1 => tyV K T x H1 ∧ r x [] H1 Q
def tBM (K : PySem.W.Frag) (T : String) (r : V → List V → Hp → VK → Prop) (to : TE) (t : TA) : TE := fun σ H Q => to σ H fun x H1 => tyV K T x H1 ∧ t σ H1 fun xs H2 => r x xs H2 Q
variable {o e : Expr} {es : List Expr} {to : TE} {t : TA} {name : Str} {apos cpos : Pos} {T id : String} {r : V → List V → Hp → VK → Prop}
theorem pe_bm0 (pa : PlainAttrs T) (slot : Slot T name id) (hty : typeOf (.builtin id) = pure (.type "method_descriptor")) (hm : MtR X id r) (ho : PE X o to)
    (hbase : attributeBase o name X.env (eval o X.env) = eval o X.env := by rfl) (hline : (apos.endLine == cpos.line) = true := by rfl) : PE X (.Call (.Attribute o name apos) [] [] cpos) (tBM0 X.K T r to) := by
  intro pins s σ H Q I h
  refine wpAny_Call_method0_late hbase hline (thn (ho pins s σ H _ I h) fun v s1 ⟨x, H1, I1, r1, ty, q1⟩ => ?_)
  obtain ⟨h1, h2⟩ := tyV_is I1 r1 ty
  exact ⟨T, id, pa, slot, hty, h1, h2, Calls.callWith_builtin rfl (PySem.evalArgs_none (hm pins s1 σ H1 x [] v [] Q I1 r1 .nil q1))⟩
theorem pe_bm (pa : PlainAttrs T) (slot : Slot T name id) (hty : typeOf (.builtin id) = pure (.type "method_descriptor")) (hm : MtR X id r) (ho : PE X o to) (ha : PA X (e :: es) t)
    (hbase : attributeBase o name X.env (eval o X.env) = eval o X.env := by rfl)
    (hfew : ((backTo cpos (starEach (e :: es) X.env)).all (fun x => !x.1) && (backToKw cpos (keywordEach [] X.env)).all (fun x => x.1.isSome)
      && decide ((e :: es).length + ([] : List Keyword).length + (if ([] : List Keyword).isEmpty then 0 else 1) < 30)) = true := by rfl)
    (hline : (apos.endLine == cpos.line) = true := by rfl) (hs : starEach (e :: es) X.env = (false, eval e X.env) :: starEach es X.env := by rfl) (hplain : (backTo cpos (starEach es X.env)).any (·.1) = false := by rfl) :
    PE X (.Call (.Attribute o name apos) (e :: es) [] cpos) (tBM X.K T r to t) := by
  intro pins s σ H Q I h
  refine wpAny_Call_method_late hbase hfew hline rfl (thn (ho pins s σ H _ I h) fun v s1 ⟨x, H1, I1, r1, ty, q1⟩ => ?_)
  obtain ⟨h1, h2⟩ := tyV_is I1 r1 ty
  refine ⟨T, id, pa, slot, hty, h1, h2, ?_⟩
  have hA := ha cpos pins s1 σ H1 _ I1 q1
  rw [hs] at hA ⊢
  refine Calls.callWith_builtin (by show (false || (backTo cpos (starEach es X.env)).any (·.1)) = false; rw [hplain] <;> rfl) (Calls.evalArgs_plain ?_)
  exact thn hA fun us s2 ⟨vs, H2, I2, r2, q2⟩ => hm pins s2 σ H2 x vs v us Q I2 r1 r2 q2
/- xs.append(e), list.index on a module's tuple .. are MtR facts of 06m -/
end
end L2

namespace L2
open PySem PySem.Spec PyProof.Rows

def MtM (X : Cx) (id : String) (r : V → List V → Hp → VK → Prop) : Prop :=
  ∀ (pins : List (Addr × Obj)) (s : Shared) (σ : St) (H : Hp) (x : V) (xs : List V) (v : Value) (us : List Value) (Q : VK), Inv X pins σ H s → RelV x v → Vals xs us → r x xs H Q →
    wpAny (model X.prog X.w) X.A (call (.builtin id) (v :: us)) (EP X pins σ Q) X.xe s

/-! ### lists of values -/
theorem Vals.one : ∀ {x : V} {us : List Value}, Vals [x] us → ∃ u, us = [u] ∧ RelV x u
  | _, _, .cons r .nil => ⟨_, rfl, r⟩
theorem Vals.two : ∀ {x y : V} {us : List Value}, Vals [x, y] us → ∃ u v, us = [u, v] ∧ RelV x u ∧ RelV y v
  | _, _, _, .cons r (.cons q .nil) => ⟨_, _, rfl, r, q⟩
theorem Vals.zero : ∀ {us : List Value}, Vals [] us → us = []
  | _, .nil => rfl
theorem Vals.reverse {xs : List V} {us : List Value} (h : Vals xs us) : Vals xs.reverse us.reverse := by
  induction h with
  | nil => exact .nil
  | cons r t ih => rw [List.reverse_cons, List.reverse_cons]; exact Vals.append ih (.cons r .nil)

section
variable {X : Cx} {pins : List (Addr × Obj)} {σ : St} {H : Hp} {s : Shared} {l b : Addr} {xs ys zs : List V}

/-! ### the two steps: a tracked list is rewritten, a new list is laid -/
theorem Inv.lset {its its' : List Value} {n : Nat} {f : Array Value → Array Value} {t' : Nat} (I : Inv X pins σ H s) (hH : H l = some (.lst xs))
    (e : s.heap.get? l = some { cls := .type "list", data := .seq its.toArray n }) (hf : f its.toArray = its'.toArray) (hv : Vals ys its') (hz : ys.length ≤ sizeLine) :
    Inv X pins σ (upd H l (.lst ys)) { s with heap := s.heap.update l (Obj.mapSeq f), toks := t' } := by
  have q := PySem.IsL.update e f
  rw [hf] at q
  refine I.write (x := l) (e := l) (by rw [hH]; exact trivial) (.inl rfl) (fun b' u hb hu => (Heap.get?_update_other s.heap (Obj.mapSeq f) (Ne.symm hb)).trans hu) ⟨_, q⟩ ?_
  exact ⟨hz, its', _, hv, q⟩
theorem Inv.lnew {its : List Value} {t' : Nat} (I : Inv X pins σ H s) (hv : Vals ys its) (hz : ys.length ≤ sizeLine) :
    Inv X pins σ (upd H s.heap.objs.size (.lst ys)) { s with heap := s.heap.push { cls := .type "list", data := .seq its.toArray }, toks := t' } :=
  I.laid (fun _ _ q => Heap.get?_push_of_some _ q) (Nat.le_refl _) ⟨hz, its, 0, hv, Heap.get?_push_size _ rfl⟩
theorem Inv.fresh (I : Inv X pins σ H s) : H s.heap.objs.size = none := I.hok.fresh (Nat.le_refl _)
theorem Inv.lstM (I : Inv X pins σ H s) (hH : H l = some (.lst xs)) : xs.length ≤ sizeLine ∧ ∃ (its : List Value) (n : Nat), Vals xs its ∧ xs.length = its.length ∧ s.heap.get? l = some { cls := .type "list", data := .seq its.toArray n } := by
  obtain ⟨z, its, n, r, e⟩ := I.hok l _ hH
  exact ⟨z, its, n, r, r.length, e⟩

end

section
variable {X : Cx}

/-! ### methods -/
def rAppend : V → List V → Hp → VK → Prop := fun x vs H Q => ∃ l xs y, x = .ref l ∧ vs = [y] ∧ H l = some (.lst xs) ∧ xs.length < sizeLine ∧ Q .non (upd H l (.lst (xs ++ [y])))
theorem mt_append : MtM X "list.append" rAppend := by
  intro pins s σ H x vs v us Q I rx rv h
  obtain ⟨l, xs, y, rfl, rfl, hH, hz, q⟩ := h
  cases rx
  obtain ⟨u, rfl, ru⟩ := rv.one
  obtain ⟨z, its, n, r, hl, e⟩ := I.lstM hH
  refine call_meets F.slot_list_append ⟨_, e, rfl⟩ F.entry_list_append (F.args_list_append_2 _ _) (PySem.list_append l its.toArray n u (by rw [List.size_toArray]; omega)) ⟨e, ?_⟩
  refine ⟨.non, _, I.lset (its' := its ++ [u]) hH e (by simp) (r.append (.cons ru .nil)) ?_, rfl, q⟩
  rw [List.length_append, List.length_singleton]
  omega






/-! ### list + list, list += list, list * int -/
def rCat : R2 := fun x y H Q => ∃ l b xs zs, x = .ref l ∧ y = .ref b ∧ H l = some (.lst xs) ∧ H b = some (.lst zs) ∧ xs.length + zs.length ≤ sizeLine ∧ ∀ p, H p = none → Q (.ref p) (upd H p (.lst (xs ++ zs)))
theorem op_cat : OpR X (binaryOp .Add) rCat := by
  intro pins s σ H x y v u Q I rx ry h
  obtain ⟨l, b, xs, zs, rfl, rfl, hH, hB, hz, q⟩ := h
  cases rx
  cases ry
  obtain ⟨z, its, n, r, hl, e⟩ := I.lstM hH
  obtain ⟨z2, its2, n2, r2, hl2, e2⟩ := I.lstM hB
  refine PySem.P.add_list e e2 ?_ (by rw [List.size_toArray, List.size_toArray]; omega)
  have ea : its.toArray ++ its2.toArray = (its ++ its2).toArray := by simp
  rw [ea]
  exact ⟨.ref _, _, I.lnew (t' := s.toks) (r.append r2) (by rw [List.length_append]; omega), rfl, q _ I.fresh⟩

/-! ### del xs[i] -/
end

/-! ### xs[a:b] = ys -/
section
variable {prog : Program} {w : World} {A : Around} {E : Value → Shared → Prop} {s : Shared}
set_option maxRecDepth 100000 in
end

section
variable {X : Cx}
end
end L2

namespace Att
open PySem PySem.W PySem.Calls PyProof.Rows

/-! ### the script -/
theorem ints_of_wellAll {P : Params} {h : Heap} : ∀ (ns : List Int) (vs : List Value), WellAll P h vs (ns.map WData.int) → IntsAre vs ns := by
  intro ns
  induction ns with
  | nil =>
    intro vs w
    rw [List.map_nil] at w
    cases w
    exact .nil
  | cons n ns ih =>
    intro vs w
    rw [List.map_cons] at w
    cases w with
    | cons a b =>
      cases a
      exact .cons _ _ (ih _ b)

theorem script_of {l : OpenLaw} {n : Nat} (hn : l.most = some n) {P : Params} {h : Heap} {args : List WData} {vals : List Value}
    (hpre : l.row.toRowW.claim.pre args = true) (hwl : WellAll P h vals args) :
    ∃ a vs ns, vals = [Value.ref a] ∧ args = [WData.list (ns.map WData.int)] ∧ h.get? a = some { cls := .type "list", data := .seq vs.toArray } ∧ IntsAre vs ns ∧ ns.length ≤ n := by
  have hsh : WShape.hasAll [] args [.list .int] = true := (pre_splitW hpre).1
  have hc : l.pre.holds [] { args := args } = true := (pre_splitW hpre).2
  obtain ⟨d, r, rfl, h1, h2⟩ := hasAllW_cons hsh
  obtain rfl := hasAllW_nil h2
  obtain ⟨xs, rfl, h3⟩ := hasW_list h1
  obtain ⟨ns, rfl⟩ := items_int h3
  have hlen : ns.length ≤ n := by
    unfold OpenLaw.pre at hc
    have h4 : (WTm.not (.lt (.lit (.int (n : Int))) (.len (.arg 0)))).holds [] { args := [.list (ns.map .int)] } = true := by
      have h4 := (holds_andW hc).1
      rw [hn] at h4
      exact h4
    have h5 := condW_of h4 (w_not (w_lt w_lit (w_len_list (w_arg rfl))))
    rw [List.length_map] at h5
    refine Nat.le_of_not_lt fun q => ?_
    have q' : (n : Int) < ((ns.length : Nat) : Int) := by omega
    first
      | (rw [decide_eq_true q'] at h5; exact absurd h5 (by decide))
      | (simp at h5; omega)
  cases hwl with
  | cons w1 w2 =>
    cases w2
    cases w1 with
    | list ho hall => exact ⟨_, _, ns, rfl, rfl, ho, ints_of_wellAll ns _ hall, hlen⟩

theorem post_true (l : OpenLaw) (args : List WData) : l.row.toRowW.claim.post args (.bool true) args = true :=
  postW_of (r := l.row.toRowW) (X := (true == true))
    (show WShape.has [] (.bool true) .bool = true by first | rfl | decide | simp [WShape.has, WShape.arms, WShape.armsAll])
    (show (WTm.eq .res (.lit (.bool true))).value [] { args := args, res := some (.bool true), after := args } = some (.bool (true == true)) from w_eq_bool (w_res rfl) w_lit) rfl

/-! ### the attachment: holds_open's last premise (the goal 'hc' behind k_head) from a wpAny of the law's body -/

/-- the same from a codeAny of the CALL (for a layer whose function contracts speak of calls) -/
theorem attach_call {l : OpenLaw} {n : Nat} {q : Program} {loose : List Str} {XP : (Str → Option Value) → Heap → Prop} {YP : World → Heap → Prop} {d : DefRec}
    (hn : l.most = some n) (hdf : d.params.defaults = [])
    (call : ∀ (w : World) (s₀ s₁ : Shared) (mg mb : Str → Option Value) (fa : Addr) (o : Obj) (pm cd doc : Value) (a : Addr) (vs : List Value) (ns : List Int),
      Ground q loose [] XP w s₀ mg mb s₁.heap → YP w s₁.heap →
      s₁.heap.get? fa = some o → o.data = .func (docDef d.name d.params d.body d.scope pm cd doc) → s₁.heap.CodeRec cd d.name → mg d.name = some (.ref fa) →
      s₁.heap.get? a = some { cls := .type "list", data := .seq vs.toArray } → IntsAre vs ns → ns.length ≤ n → s₁.gens = #[] →
      codeAny (model l.prog w) callerA (.call (.ref fa) ⟨[.ref a], []⟩) (fun r s' => r = .ok (.ret (.bool true)) ∧ OldK s₁.heap s'.heap ∧ s'.os = s₁.os ∧ AllBare s'.gens) s₁) :
    WalkO q loose XP YP l.row.toRowW d [] (fun f vs => PySem.call f vs) := by
  intro w s₀ s₁ mg mb G Y fa o pm cd doc dV kV ho hd hcd hD hmg hg args vals as hpre hlay hrd hwl hlo
  obtain rfl : dV = .none := Dflts.none hD hdf
  obtain rfl : kV = .none := Dflts.noKw hD
  obtain ⟨a, vs, ns, rfl, rfl, hobj, hints, hlen⟩ := script_of hn hpre hwl
  refine enter_call (codeAny_mono (call w s₀ s₁ mg mb fa o pm cd doc a vs ns G Y ho (fd_plain hd) hcd hmg hobj hints hlen hg) fun r s' hq => ?_)
  obtain ⟨rfl, h2, h3, h4⟩ := hq
  exact ⟨.inl ⟨.bool true, .bool true, [], rfl, fun _ => rfl, .bool true, post_true l _, fun _ => ⟨List.Pairwise.nil, fun _ hm => (nomatch hm)⟩⟩, h2, h3, h4⟩


/-! ### rules over ANY heap (no ledger) from facts about the written part K: the library's own take a ledger (News) for what they write -/
section
variable {prog : Program} {w : World} {A : Around} {E : Value → Shared → Prop} {s : Shared} {K : Frag}





/-! the whole heap as the ledger: makes every rule that writes through a ledger a rule over any heap -/
def ledger (h : Heap) (L d : Addr) : List (Addr × Obj) := (List.range h.objs.size).filterMap fun a => if a = L ∨ a = d then none else (h.get? a).map fun o => (a, o)

end
end Att

namespace L2
open PySem PySem.Spec PyProof.Rows

theorem vals_ints : ∀ {vs : List Value} {ns : List Int}, IntsAre vs ns → Vals (ns.map V.int) vs
  | _, _, .nil => .nil
  | _, _, .cons n t h => .cons ⟨t, rfl⟩ (vals_ints h)

/-- nothing is tracked but the script, known to the object (or it is an object of the module) -/
def Only (H : Hp) : Prop := ∀ b, H b = none ∨ ∃ o xs, H b = some (.frz o (.lst xs))

/-- THE HEAD: the law's promise, at the heap behind the top. F, the promise of the law's def, may use that base is part of the heap (so K.In base, base.Ns mainGlobals mg stand in Mod) -/
theorem law_call {P : Program} {w : World} {K : PySem.W.Frag} {mg mb : Str → Option Value} {CX : CXT} {k : Nat} {fa a : Addr} {fd : FuncData} {x : Str} {sp : Sp} {s₁ : Shared} {vs : List Value} {ns : List Int}
    (KX : K.In s₁.heap) (hns : s₁.heap.Ns mainGlobals mg) (hb : s₁.heap.Ns builtinsNs mb) (hbb : ∀ x : Str, x ≠ "__name__" → mb x = bootBuiltins x) (hlim : s₁.heap.NoLimit) (hg : s₁.gens = #[])
    (ha : s₁.heap.get? a = some { cls := .type "list", data := .seq vs.toArray }) (hi : IntsAre vs ns) (hl : ns.length ≤ sizeLine) (hr : Room k callerA)
    (F : ∀ base : Heap, K.In base → base.Ns mainGlobals mg → FnOk P w K mg base CX k fa fd [x] sp) (hbind : ∀ (s : Shared) (u : Value), BindsTo s fd ⟨[u], []⟩ [(x, u)])
    (hsp : ∀ H : Hp, Only H → SqL K H a (ns.map V.int) → sp [.ref a] H (fun v _ => v = .bl true) fun _ _ _ => False)
    (hCX : ∀ H e s', CX [] H s₁ (fun _ _ _ => False) e s' → False) :
    codeAny (model P w) callerA (.call (.ref fa) ⟨[.ref a], []⟩) (fun r s' => r = .ok (.ret (.bool true)) ∧ OldK s₁.heap s'.heap ∧ s'.os = s₁.os ∧ AllBare s'.gens) s₁ := by
  have rv := vals_ints hi
  have lenV := hi.length
  -- from an abstract heap in which nothing but the script may be tracked
  have core : ∀ H : Hp, Only H → SqL K H a (ns.map V.int) → HOk P w H s₁.heap → (∀ b, H b ≠ none → b = a) → (H a ≠ none → K.lookup a = none) →
      codeAny (model P w) callerA (.call (.ref fa) ⟨[.ref a], []⟩) (fun r s' => r = .ok (.ret (.bool true)) ∧ OldK s₁.heap s'.heap ∧ s'.os = s₁.os ∧ AllBare s'.gens) s₁ := by
    intro H hO hS hok hA hK
    have base_of : ∀ {b : Addr} {o : Obj}, s₁.heap.get? b = some o → H b = none → (hidT s₁.heap H).get? b = some o := fun e n => hidT_get e n
    have noA : ∀ {b : Addr} {o : Obj} {es : Array DictEntry} {ep : Nat}, s₁.heap.get? b = some o → o.data = .dict es ep → H b = none := fun {b o es ep} e d => by
      cases q : H b with
      | none => rfl
      | some u =>
        have e' : b = a := hA b (by rw [q]; simp)
        subst e'
        rw [ha] at e; cases e
        have d' : Data.seq vs.toArray _ = Data.dict es ep := d
        cases d'
    have nsK : ∀ {b : Addr} {m : Str → Option Value}, s₁.heap.Ns b m → (hidT s₁.heap H).Ns b m := fun {b m} ⟨o, es, ep, e, d, r⟩ => ⟨o, es, ep, base_of e (noA e d), d, r⟩
    have hKb : K.In (hidT s₁.heap H) := fun b o e => base_of (KX b o e) (by
      cases q : H b with
      | none => rfl
      | some u =>
        have e' : b = a := hA b (by rw [q]; simp)
        subst e'
        rw [hK (by rw [q]; simp)] at e; cases e)
    have hM : Mod K mg (hidT s₁.heap H) := ⟨hKb, nsK hns, ⟨mb, nsK hb, hbb⟩, let ⟨mc, h1, h2⟩ := hlim; ⟨mc, nsK h1, h2⟩⟩
    have e0 : Env0 P w K mg (hidT s₁.heap H) callerA [] s₁ H := ⟨rfl, hM, fun b o e => of_hidT e, Nat.le_of_eq (hidT_size _ _), trivial, fun b hb => absurd (show b ∈ ([] : List Addr) from hb) (by simp), hok, .of_eq hg⟩
    refine codeAny_mono ((F _ hKb (nsK hns)).run callerA [] s₁ H ⟨[.ref a], []⟩ [.ref a] [.ref a] _ _ hr e0 (hbind s₁ (.ref a)) (.cons rfl .nil) (hsp H hO hS)) fun r s' h => ?_
    cases r with
    | error e => exact (hCX H e s' h).elim
    | ok fl =>
      cases fl with
      | next => exact False.elim h
      | brk => exact False.elim h
      | cont => exact False.elim h
      | ret u =>
        obtain ⟨v, H', os, bare, un, hok', r', q⟩ := h
        have q' : v = .bl true := q
        subst q'
        obtain rfl : u = Value.bool true := r'
        refine ⟨rfl, OldK.of_keep fun b o e => ?_, os, bare⟩
        cases q : H b with
        | none => exact un.keep b o e q (by intro z; exact absurd (show b ∈ ([] : List Addr) from z) (by simp)) (by simp)
        | some u =>
          rcases hO b with z | ⟨ob, xs, z⟩
          · rw [q] at z; cases z
          · have z2 := un.frzs b ob _ z
            obtain ⟨e1, _⟩ := hok b _ z
            obtain ⟨e2, _⟩ := hok' b _ z2
            rw [e] at e1; cases e1
            exact e2
  cases hk : K.lookup a with
  | some o =>
    -- the script is one of the module's own objects
    have e := KX a o hk
    rw [ha] at e
    cases e
    refine core (fun _ => none) (fun _ => .inl rfl) (.inr ⟨_, vs.toArray, _, hk, rfl, rfl, rfl, by rw [List.size_toArray, lenV]; exact hl, by simpa using rv⟩) (fun b u z => by have z' : (none : Option HO) = some u := z; cases z') (fun b z => absurd rfl z) fun z => absurd rfl z
  | none =>
    refine core (fun b => if b = a then some (.frz { cls := .type "list", data := .seq vs.toArray } (.lst (ns.map V.int))) else none) (fun b => ?_) (.inl (.inr ⟨{ cls := .type "list", data := .seq vs.toArray }, if_pos rfl⟩)) (fun b u z => ?_) (fun b z => ?_) fun _ => hk
    · by_cases hb : b = a
      · exact .inr ⟨_, _, if_pos hb⟩
      · exact .inl (if_neg hb)
    · by_cases hb : b = a
      · have z' := (if_pos hb).symm.trans z
        cases z'
        subst hb
        exact ⟨ha, by rw [List.length_map]; exact hl, vs, _, rv, ha⟩
      · have z' := (if_neg hb).symm.trans z
        cases z'
    · by_cases hb : b = a
      · exact hb
      · exact absurd (if_neg hb) z
end L2

namespace L2
open PySem PySem.Spec PyProof.Rows

abbrev KOf {K : PySem.W.Frag} {h : Heap} (_ : K.In h) : PySem.W.Frag := K

/-- the goal that k_head leaves (case hc), from the law's promise. F gives the function object fd (K's own) once, then the promise over every base -/
theorem walk_of {l : PySem.W.OpenLaw} {n k : Nat} {q : Program} {loose : List Str} {XP : (Str → Option Value) → Heap → Prop} {YP : World → Heap → Prop} {d : DefRec} {K : Params → PySem.W.Frag} {CX : World → CXT} {sp : World → Sp} {x : Str}
    (hn : l.most = some n) (hn2 : n ≤ sizeLine) (hdf : d.params.defaults = []) (hr : Room k callerA)
    (hY : ∀ (w : World) (h : Heap), YP w h → (K w.params).In h)
    (F : ∀ (w : World) (mg : Str → Option Value) (fa : Addr) (h : Heap), (K w.params).In h → h.Ns mainGlobals mg → mg d.name = some (.ref fa) →
      ∃ fd : FuncData, (∀ (s : Shared) (u : Value), BindsTo s fd ⟨[u], []⟩ [(x, u)]) ∧
        ∀ base : Heap, (K w.params).In base → base.Ns mainGlobals mg → FnOk l.prog w (K w.params) mg base (CX w) k fa fd [x] (sp w))
    (hsp : ∀ (w : World) (H : Hp) (a : Addr) (ns : List Int), ns.length ≤ n → Only H → SqL (K w.params) H a (ns.map V.int) → sp w [.ref a] H (fun v _ => v = .bl true) fun _ _ _ => False)
    (hCX : ∀ (w : World) (H : Hp) (s : Shared) (e : Value) (s' : Shared), CX w [] H s (fun _ _ _ => False) e s' → False) :
    PySem.W.WalkO q loose XP YP l.row.toRowW d [] (fun f vs => PySem.call f vs) := by
  refine Att.attach_call hn hdf fun w s₀ s₁ mg mb fa o pm cd doc a vs ns G Y ho hd hcd hmg hobj hints hlen hg => ?_
  have KX := hY w _ Y
  obtain ⟨fd, hb, hF⟩ := F w mg fa _ KX G.T.g hmg
  exact law_call KX G.T.g G.T.b G.T.builtins G.T.nolimit hg hobj hints (Nat.le_trans hlen hn2) hr hF hb (fun H hO hS => hsp w H a ns hlen hO hS) fun H e s' => hCX w H s₁ e s'
end L2

/- THE LAST THEOREM (shape; LID, My.* are yours):
   My.Adr: a structure of the addresses that your layer names (classes, functions); My.Txt K t: a structure (Prop) of the equations over K;
   My.txt_mk : {K} {implicit addresses ..} (e1 : nsIn K mainGlobals "law" = some (some (.ref f))) (e2 : K.lookup f = some ⟨oc, od, .func (fnOf "law" "law" params body scope dV kV doc pm an cdv ct), sl⟩) (e3 : codeIn K cdv "law" = true) .. : ∃ t, My.Txt K t

set_option maxRecDepth 100000 in
set_option maxHeartbeats 0 in
theorem PySem.Challenge.cw_LID_holds : PySem.Challenge.rw_LID.Holds := by
  w_on; o_law; k_head; (case hw => w_witness2)
  k_fill
  refine L2.walk_of (l := PySem.Challenge.rw_LID) (n := 63) (k := 40) (x := "script") (CX := fun w => ..) (sp := fun _ => My.sp_law) rfl (by decide) rfl ⟨rfl, by decide, by decide⟩ (fun w h Y => PySem.W.kIn_of Y) ?F ?S ?C
  case F =>
    intro w mg fa h KX G hmg
    have T : ∃ t, My.Txt (L2.KOf KX) t := by
      dsimp only [L2.KOf]                          -- K must stand as «<heap const> w.params» for k_is
      refine' My.txt_mk ?e1 ?e2 ?e3 ..
      (case e1 => PySem.W.k_is)                    -- in the order: a name -> its address -> its object -> its parts
      (case e2 => PySem.W.k_is)
      ..
    obtain ⟨t, T⟩ := T
    have e0 := hmg.symm.trans (PySem.W.mg_of KX G T.law)
    cases e0                                       -- fa is the law's own address
    exact ⟨_, fun s u => .of_eq rfl, fun base kb nb => My.law_fn T kb nb⟩     -- if «.of_eq rfl» comes too early: refine' ⟨_, ?b, fun base kb nb => My.law_fn T kb nb⟩; exact fun s u => .of_eq rfl
  case S => exact fun w H a ns hl hO hS => ..
  case C => exact ..
(the tactic k_is has no namespace: write k_is) -/

/-! SHORT WORDS over the layer: a def of the text, its body, what a loop and a test want. -/
namespace L2
open PySem PySem.Spec PyProof.Rows

/-! ### the text by places -/
def defArgs (s : Stmt) : Arguments := match s with
  | .FunctionDef _ a _ _ _ _ _ _ _ _ => a
  | _ => { posonlyargs := [], args := [], vararg := none, kwonlyargs := [], kw_defaults := [], kwarg := none, defaults := [] }
def defBody (s : Stmt) : List Stmt := match s with
  | .FunctionDef _ _ b _ _ _ _ _ _ _ => b
  | _ => []
def defScope (s : Stmt) : Scope := match s with
  | .FunctionDef _ _ _ _ _ _ sc _ _ _ => sc
  | _ => { kind := .function, names := [], isGenerator := false, isCoroutine := false }

/-! ### no exception leaves a def -/
abbrev CX0 : CXT := fun _ _ _ _ _ _ => False
abbrev E0 : XK := fun _ _ _ => False
theorem pass0 {X : Cx} : Passes CX0 X E0 := fun _ _ _ _ _ _ _ h => h.elim

/-! ### a def (or method) of the text as it stands behind the top -/
structure Fun (K : PySem.W.Frag) (x qual : Str) (st : Stmt) (f : Addr) (fd : FuncData) : Prop where
  ex : ∃ (oc : Value) (od : Option Addr) (kV doc pm : Value) (an : Option Addr) (cdv ct : Value) (osl : Array (Option Value)),
    fd = PySem.W.fnOf x qual (defArgs st) (defBody st) (defScope st) .none kV doc pm an cdv ct ∧ K.lookup f = some ⟨oc, od, .func fd, osl⟩ ∧ PySem.W.codeIn K cdv qual = true
  kp : PySem.W.keepIn K (.ref f) = true
section
variable {P : Program} {w : World} {K : PySem.W.Frag} {mg : Str → Option Value} {base : Heap}
/-- THE RULE for a def: its body as a term of rules, and the reading of that term -/
theorem Fun.ok {x qual : Str} {st : Stmt} {f : Addr} {fd : FuncData} {N ps : List Str} {k : Nat} {sp : Sp} (F : Fun K x qual st f fd) (S : FnScope N ps (defScope st)) (len : ∀ vs H Q E, sp vs H Q E → vs.length = ps.length)
    (hbody : ∀ (cdv : Value) (A : Around) (outer : List Env) (s : Shared) (H : Hp) (vs : List V) (Q : VK) (E : XK), Room k (A.deeper (envOfC qual (defScope st) s.heap.objs.size f cdv)) → sp vs H Q E →
      ∃ t, PSs (cxOf CX0 P w K mg base N qual (defScope st) f cdv A outer s H E).nox (defBody st) t ∧ t { nx := fun _ H' => Q .non H', rt := Q } (start N vs) H) : FnOk P w K mg base CX0 (k + 1) f fd ps sp := by
  obtain ⟨oc, od, kV, doc, pm, an, cdv, ct, osl, rfl, lk, hcd⟩ := F.ex
  refine fn_of lk hcd S len fun A outer s H vs Q E hr hsp => ?_
  obtain ⟨t, h, q⟩ := hbody cdv A outer s H vs Q E hr hsp
  exact ⟨t, h.nox, q⟩
/-- how its arguments bind (no defaults): h is «fun _ _ _ _ _ _ us hl => match us, hl with | [_, _], _ => rfl», one _ a parameter -/
theorem Fun.binds {x qual : Str} {st : Stmt} {f : Addr} {fd : FuncData} {ps : List Str} (F : Fun K x qual st f fd)
    (h : ∀ (kV doc pm : Value) (an : Option Addr) (cdv ct : Value) (us : List Value), us.length = ps.length → bindArgs (PySem.W.fnOf x qual (defArgs st) (defBody st) (defScope st) .none kV doc pm an cdv ct) ⟨us, []⟩ = pure (ps.zip us)) : Binds K fd ps [] := by
  obtain ⟨oc, od, kV, doc, pm, an, cdv, ct, osl, rfl, lk, hcd⟩ := F.ex
  exact .all (h kV doc pm an cdv ct)
theorem fun_mk {x qual : Str} {st : Stmt} {f : Addr} {oc : Value} {od an : Option Addr} {osl : Array (Option Value)} {kV doc pm cdv ct : Value} (l : K.lookup f = some ⟨oc, od, .func (PySem.W.fnOf x qual (defArgs st) (defBody st) (defScope st) .none kV doc pm an cdv ct), osl⟩)
    (c : PySem.W.codeIn K cdv qual = true) (k : PySem.W.keepIn K (.ref f) = true) : Fun K x qual st f (PySem.W.fnOf x qual (defArgs st) (defBody st) (defScope st) .none kV doc pm an cdv ct) := ⟨⟨oc, od, kV, doc, pm, an, cdv, ct, osl, rfl, l, c⟩, k⟩
end
theorem hu_of {A : Around} {k : Nat} (hr : Room k A) : A.units + 1 < cLine := Nat.lt_of_le_of_lt (Nat.add_le_add_left (by decide : 1 ≤ 64) _) hr.units

/-! ### expressions in short: the name that stands in the i-th slot -/
section
variable {X : Cx}
theorem pv (i : Nat) {x : Str} {pos : Pos} (hN : X.N[i]? = some x := by rfl) (hv : Vis X.env.scope x := by first | exact Or.inl rfl | exact Or.inr (Or.inl rfl) | exact Or.inr (Or.inr rfl)) (hd : (x == ("__debug__" : Str)) = false := by decide)
    (hcd : (x == ("__classdict__" : Str)) = false := by decide) : PE X (.Name x pos) (tVar i) := pe_var hN hv hd hcd
end

/-! ### tests -/

/-! ### heaps -/
/-- all that was tracked is as it was -/
def Same (H H' : Hp) : Prop := ∀ b o, H b = some o → H' b = some o
theorem Same.refl (H : Hp) : Same H H := fun _ _ h => h
theorem Same.trans {H H1 H2 : Hp} (a : Same H H1) (b : Same H1 H2) : Same H H2 := fun c o h => b c o (a c o h)
theorem Same.free {H H' : Hp} (e : Same H H') {l : Addr} (h : H' l = Option.none) : H l = Option.none := by
  cases q : H l with
  | none => rfl
  | some o =>
    rw [e l o q] at h
    cases h
theorem Same.seq {K : PySem.W.Frag} {H H' : Hp} {a : Addr} {xs : List V} (e : Same H H') (h : SqL K H a xs) : SqL K H' a xs := by
  rcases h with (h | ⟨o, h⟩) | h
  · exact .inl (.inl (e _ _ h))
  · exact .inl (.inr ⟨o, e _ _ h⟩)
  · exact .inr h

end L2

set_option Elab.async false
set_option linter.all false
set_option maxRecDepth 100000
set_option maxHeartbeats 1000000
namespace L2
open PySem PySem.Spec PyProof.Rows
/-! ### lists of pairs as tables -/
section
variable {κ : Type} [DecidableEq κ]
def valV (kvs : List (κ × V)) (k : κ) : Option V := (kvs.find? fun kv => decide (kv.1 = k)).map (·.2)
/-- in its place, or at the end -/
def putK (kvs : List (κ × V)) (k : κ) (v : V) : List (κ × V) :=
  if (kvs.any fun kv => decide (kv.1 = k)) = true then kvs.map (fun kv => if kv.1 = k then (kv.1, v) else kv) else kvs ++ [(k, v)]
def dropK (kvs : List (κ × V)) (k : κ) : List (κ × V) := kvs.filter fun kv => decide (kv.1 ≠ k)

theorem valV_pos {p : κ × V} {r : List (κ × V)} {k : κ} (e : p.1 = k) : valV (p :: r) k = some p.2 := by simp [valV, List.find?_cons, e]
theorem valV_neg {p : κ × V} {r : List (κ × V)} {k : κ} (e : ¬ p.1 = k) : valV (p :: r) k = valV r k := by simp [valV, List.find?_cons, e]
theorem valV_any (k : κ) : ∀ kvs : List (κ × V), (kvs.any fun kv => decide (kv.1 = k)) = (valV kvs k).isSome
  | [] => rfl
  | p :: r => by
    rw [List.any_cons]
    by_cases e : p.1 = k
    · simp only [valV_pos e, decide_eq_true e, Bool.true_or, Option.isSome_some]
    · rw [valV_neg e, decide_eq_false e, Bool.false_or]; exact valV_any k r

theorem RelO.isSome_eq {o : Option V} {u : Option Value} (r : RelO o u) : o.isSome = u.isSome := by
  cases o with
  | none => cases u with
    | none => rfl
    | some _ => exact (show False from r).elim
  | some _ => cases u with
    | none => exact (show False from r).elim
    | some _ => rfl
theorem RelO.getD {o : Option V} {u : Option Value} {d : V} {d' : Value} (r : RelO o u) (rd : RelV d d') : RelV (o.getD d) (u.getD d') := by
  cases o with
  | none => cases u with
    | none => exact rd
    | some _ => exact (show False from r).elim
  | some _ => cases u with
    | none => exact (show False from r).elim
    | some _ => exact r

/-- raw tables of the same keys -/
theorem KV.val {kvs : List (κ × V)} {vs : List (κ × Value)} (r : KV kvs vs) (k : κ) : RelO (valV kvs k) (valueAt vs k) := by
  unfold KV at r
  induction r with
  | nil => exact True.intro
  | @cons p q ps qs h t ih =>
    obtain ⟨h1, h2⟩ := h
    by_cases e : p.1 = k
    · have e' : q.1 = k := h1.symm.trans e
      have b : valueAt (q :: qs) k = some q.2 := by simp [valueAt, List.find?_cons, e']
      rw [valV_pos e, b]; exact h2
    · have e' : ¬ q.1 = k := fun z => e (h1.trans z)
      have b : valueAt (q :: qs) k = valueAt qs k := by simp [valueAt, List.find?_cons, e']
      rw [valV_neg e, b]; exact ih
theorem KV.any {kvs : List (κ × V)} {vs : List (κ × Value)} (r : KV kvs vs) (k : κ) : (kvs.any fun kv => decide (kv.1 = k)) = vs.any fun kv => decide (kv.1 = k) := by
  unfold KV at r
  induction r with
  | nil => rfl
  | cons h t ih => rw [List.any_cons, List.any_cons, ih, h.1]
theorem KV.repl {kvs : List (κ × V)} {vs : List (κ × Value)} (r : KV kvs vs) (k : κ) {y : V} {u : Value} (ry : RelV y u) :
    KV (kvs.map fun kv => if kv.1 = k then (kv.1, y) else kv) (vs.map fun kv => if kv.1 = k then (kv.1, u) else kv) := by
  unfold KV at r ⊢
  induction r with
  | nil => exact .nil
  | @cons p q ps qs h t ih =>
    rw [List.map_cons, List.map_cons]
    refine .cons ?_ ih
    obtain ⟨h1, h2⟩ := h
    by_cases e : p.1 = k
    · rw [if_pos e, if_pos (h1.symm.trans e)]; exact ⟨h1, ry⟩
    · rw [if_neg e, if_neg (fun z => e (h1.trans z))]; exact ⟨h1, h2⟩
theorem KV.put {kvs : List (κ × V)} {vs : List (κ × Value)} (r : KV kvs vs) (k : κ) {y : V} {u : Value} (ry : RelV y u) : KV (putK kvs k y) (stored vs k u) := by
  unfold putK stored
  rw [r.any k]
  by_cases e : (vs.any fun kv => decide (kv.1 = k)) = true
  · rw [if_pos e, if_pos e]; exact r.repl k ry
  · rw [if_neg e, if_neg e]; exact Paired.snoc r ⟨rfl, ry⟩
theorem KV.drop {kvs : List (κ × V)} {vs : List (κ × Value)} (r : KV kvs vs) (k : κ) : KV (dropK kvs k) (without vs k) := by
  unfold KV at r ⊢
  unfold dropK without
  induction r with
  | nil => exact .nil
  | @cons p q ps qs h t ih =>
    obtain ⟨h1, h2⟩ := h
    rw [List.filter_cons, List.filter_cons]
    by_cases e : p.1 = k
    · have a : ¬ decide (p.1 ≠ k) = true := by simp [e]
      have b : ¬ decide (q.1 ≠ k) = true := by simp [h1.symm.trans e]
      rw [if_neg a, if_neg b]; exact ih
    · have e' : ¬ q.1 = k := fun z => e (h1.trans z)
      have a : decide (p.1 ≠ k) = true := by simp [e]
      have b : decide (q.1 ≠ k) = true := by simp [e']
      rw [if_pos a, if_pos b]; exact .cons ⟨h1, h2⟩ ih
theorem KV.keys {kvs : List (κ × V)} {vs : List (κ × Value)} (r : KV kvs vs) : kvs.map (·.1) = vs.map (·.1) := by
  unfold KV at r
  induction r with
  | nil => rfl
  | cons h t ih => rw [List.map_cons, List.map_cons, ih, h.1]
theorem KV.length {kvs : List (κ × V)} {vs : List (κ × Value)} (r : KV kvs vs) : kvs.length = vs.length := Paired.length r
end


/-! ### a tracked dict, its keys ints and texts or tuples of these -/
theorem kV_is {P : Program} {w : World} {k : Key} {u : Value} (r : RelV (kV k) u) : (mixKind P w).is k u = true := by
  cases k with
  | inl i => obtain ⟨t, e⟩ := (show ∃ t, u = Value.int i t from r); subst e; exact mixKind_int P w i t
  | inr x => obtain ⟨t, e⟩ := (show ∃ t, u = Value.str x t from r); subst e; exact mixKind_str P w x t
theorem items_are {P : Program} {w : World} : ∀ {ks : List Key} {us : List Value}, Vals (ks.map kV) us → ItemsAre (mixKind P w) ks us
  | [], _, r => by rw [List.map_nil] at r; cases r; exact .nil
  | k :: ks, _, r => by
    rw [List.map_cons] at r
    cases r with
    | cons h t => exact .cons (kV_is h) (items_are t)

/-- raw entries of a dict with tuple keys -/
abbrev KT (H : Hp) : List (List Key × V) → List (List Key × Addr × Value) → Prop := Paired fun p q => p.1 = q.1 ∧ H q.2.1 = some (.tup (p.1.map kV)) ∧ RelV p.2 q.2.2
theorem KT.val {H : Hp} {kvs : List (List Key × V)} {xs : List (List Key × Addr × Value)} (r : KT H kvs xs) (k : List Key) : RelO (valV kvs k) ((atKey xs k).map (·.2)) := by
  induction r with
  | nil => exact True.intro
  | @cons p q ps qs h t ih =>
    obtain ⟨h1, _, h2⟩ := h
    by_cases e : p.1 = k
    · have e' : q.1 = k := h1.symm.trans e
      have b : atKey (q :: qs) k = some q.2 := by simp [atKey, List.find?_cons, e']
      rw [valV_pos e, b]; exact h2
    · have e' : ¬ q.1 = k := fun z => e (h1.trans z)
      have b : atKey (q :: qs) k = atKey qs k := by simp [atKey, List.find?_cons, e']
      rw [valV_neg e, b]; exact ih
theorem KT.repl {H : Hp} {kvs : List (List Key × V)} {xs : List (List Key × Addr × Value)} (r : KT H kvs xs) (k : List Key) {y : V} {u : Value} (ry : RelV y u) :
    KT H (kvs.map fun kv => if kv.1 = k then (kv.1, y) else kv) (xs.map (putAt k u)) := by
  induction r with
  | nil => exact .nil
  | @cons p q ps qs h t ih =>
    rw [List.map_cons, List.map_cons]
    refine .cons ?_ ih
    obtain ⟨h1, h2, h3⟩ := h
    unfold putAt
    by_cases e : p.1 = k
    · rw [if_pos e, if_pos (h1.symm.trans e)]; exact ⟨h1, h2, ry⟩
    · rw [if_neg e, if_neg (fun z => e (h1.trans z))]; exact ⟨h1, h2, h3⟩
theorem KT.put {H : Hp} {kvs : List (List Key × V)} {xs : List (List Key × Addr × Value)} (r : KT H kvs xs) (k : List Key) {b : Addr} {y : V} {u : Value} (hb : H b = some (.tup (k.map kV))) (ry : RelV y u) :
    KT H (putK kvs k y) (storedH xs k b u) := by
  have e : (kvs.any fun kv => decide (kv.1 = k)) = (atKey xs k).isSome := by
    rw [valV_any, (r.val k).isSome_eq, Option.isSome_map]
  unfold putK storedH
  rw [e]
  by_cases q : (atKey xs k).isSome = true
  · rw [if_pos q, if_pos q]; exact r.repl k ry
  · rw [if_neg q, if_neg q]; exact Paired.snoc r ⟨rfl, hb, ry⟩
theorem KT.keeps {H H' : Hp} {kvs : List (List Key × V)} {xs : List (List Key × Addr × Value)} (r : KT H kvs xs) (ht : ∀ b ys, H b = some (.tup ys) → H' b = some (.tup ys)) : KT H' kvs xs :=
  Paired.mapP r fun _ _ z => ⟨z.1, ht _ _ z.2.1, z.2.2⟩

section
variable {P : Program} {w : World} {H : Hp} {h : Heap} {a : Addr}
theorem rd_of {u : HO} (ok : HOk P w H h) (e : Rd H a u) : ObjOk P w H h a u := e.ok ok
/-- a tracked tuple of ints and texts is a key -/
theorem key_of {ks : List Key} (ok : HOk P w H h) (e : H a = some (.tup (ks.map kV))) : (tupleKind (mixKind P w)).is h ks a := by
  obtain ⟨_, its, r, o, h1, h2, n, h3⟩ := (show ObjOk P w H h a (.tup (ks.map kV)) from ok a _ e)
  exact ⟨o, its.toArray, n, h1, h2, h3, by simpa using items_are r⟩
theorem dt_rd {kvs : List (List Key × V)} (ok : HOk P w H h) (e : Rd H a (.dT kvs)) : kvs.length ≤ sizeLine ∧ (a == sysModules) = false ∧
    ∃ xs, KT H kvs xs ∧ h.DictOfH (tupleKind (mixKind P w)) a xs := by
  obtain ⟨z, y, xs, r, o, es, ep, h1, h2, h3, h4, h5⟩ := (show ObjOk P w H h a (.dT kvs) from rd_of ok e)
  refine ⟨z, y, xs, r, o, es, ep, h1, h2, h3, h4, fun x hx => ?_, h5⟩
  have all : ∀ {l : List (List Key × V)} {m : List (List Key × Addr × Value)}, KT H l m → ∀ x ∈ m, (tupleKind (mixKind P w)).is h x.1 x.2.1 := by
    intro l m q
    induction q with
    | nil => intro x hx; exact nomatch hx
    | @cons p q ps qs hq t ih =>
      intro x hx
      rcases List.mem_cons.mp hx with e | hx
      · subst e
        exact key_of ok (by rw [← hq.1]; exact hq.2.1)
      · exact ih x hx
  exact all r x hx
theorem dt_of {kvs : List (List Key × V)} (ok : HOk P w H h) (e : H a = some (.dT kvs)) : kvs.length ≤ sizeLine ∧ (a == sysModules) = false ∧
    ∃ xs, KT H kvs xs ∧ h.DictOfH (tupleKind (mixKind P w)) a xs := dt_rd ok (.inl e)
end

/-- what the dict at a holds at the key y -/
def DGet (H : Hp) (a : Addr) (y : V) (r : Option V) : Prop :=
  (∃ kvs k, Rd H a (.dK kvs) ∧ y = kV k ∧ r = valV kvs k) ∨ ∃ kvs k b, Rd H a (.dT kvs) ∧ y = .ref b ∧ H b = some (.tup (k.map kV)) ∧ r = valV kvs k
/-- the heap behind a[y] = v -/
def DPut (H : Hp) (a : Addr) (y v : V) (H' : Hp) : Prop :=
  (∃ kvs k, H a = some (.dK kvs) ∧ y = kV k ∧ kvs.length < sizeLine ∧ H' = upd H a (.dK (putK kvs k v))) ∨
  ∃ kvs k b, H a = some (.dT kvs) ∧ y = .ref b ∧ H b = some (.tup (k.map kV)) ∧ kvs.length < sizeLine ∧ H' = upd H a (.dT (putK kvs k v))
theorem DGet.k {H : Hp} {a : Addr} {kvs : List (Key × V)} {k : Key} (e : H a = some (.dK kvs)) : DGet H a (kV k) (valV kvs k) := .inl ⟨kvs, k, .inl e, rfl, rfl⟩
theorem DGet.t {H : Hp} {a b : Addr} {kvs : List (List Key × V)} {k : List Key} (e : H a = some (.dT kvs)) (eb : H b = some (.tup (k.map kV))) : DGet H a (.ref b) (valV kvs k) := .inr ⟨kvs, k, b, .inl e, rfl, eb, rfl⟩
theorem DPut.k {H : Hp} {a : Addr} {kvs : List (Key × V)} {k : Key} {v : V} (e : H a = some (.dK kvs)) (hl : kvs.length < sizeLine) : DPut H a (kV k) v (upd H a (.dK (putK kvs k v))) := .inl ⟨kvs, k, e, rfl, hl, rfl⟩
theorem DPut.t {H : Hp} {a b : Addr} {kvs : List (List Key × V)} {k : List Key} {v : V} (e : H a = some (.dT kvs)) (eb : H b = some (.tup (k.map kV))) (hl : kvs.length < sizeLine) :
    DPut H a (.ref b) v (upd H a (.dT (putK kvs k v))) := .inr ⟨kvs, k, b, e, rfl, eb, hl, rfl⟩


section
variable {X : Cx} {pins : List (Addr × Obj)} {σ : St} {H : Hp} {s : Shared} {a : Addr} {y v : V} {u r : Value} {o : Option V} {A : Around} {E : Value → Shared → Prop}

theorem Inv.big (I : Inv X pins σ H s) : sysModules < s.heap.objs.size := by
  have h : mainGlobals < s.heap.objs.size := (I.mod.glob.keeps I.bk).lt
  exact Nat.lt_trans (by decide) h

end

section
variable {X : Cx} {pins : List (Addr × Obj)} {σ : St} {H : Hp} {s : Shared} {a : Addr} {kvs : List (Key × V)} {k : Key} {u : Value} {A : Around} {E : Value → Shared → Prop}
end


/-! ### readings and rules -/



section
variable {X : Cx} {o i e value : Expr} {pos pos' tpos : Pos} {td ty tv : TE}
end


/-! ### displays -/
section
variable {X : Cx} {pos : Pos}
end
end L2

set_option Elab.async false
set_option linter.all false
set_option maxRecDepth 100000
set_option maxHeartbeats 1000000
namespace Tw
open PySem PySem.Spec PyProof.Rows L2

/-- a value with all that lies in it; scr: a list that is never written; own: a list just made, or a name's own -/
inductive D where
  | non | bl (b : Bool) | int (i : Int) | str (x : Str) | tup (xs : List D) | lst (xs : List D) | own (xs : List D) | scr (xs : List D) | dic | exn (C : Addr) | exa (C : Addr) (n : Int) | dct (ks : List (List Int)) (xs : List D) | odt (ks : List (List Int)) (xs : List D)

/-- an exception of the class at C -/
def ExcAt (a C : Addr) (h : Heap) : Prop := ∃ o vs, h.get? a = some o ∧ o.cls = .ref C ∧ o.data = .fields vs
/-- .. whose dict is at d -/
def ExcAtD (a C d : Addr) (h : Heap) : Prop := ∃ o vs, h.get? a = some o ∧ o.cls = .ref C ∧ o.data = .fields vs ∧ o.dict = some d
abbrev Emp : Addr → Prop := fun _ => False
/-- what a name's own thing may be: a list, a dict of tuples -/
def Mu : HO → Prop
  | .lst _ => True
  | .dT _ => True
  | _ => False
/-- a dict's table: keys of ints -/
def zipK (ks : List (List Int)) (vs : List V) : List (List Key × V) := List.zipWith (fun k v => (k.map Sum.inl, v)) ks vs
mutual
def Den (K : PySem.W.Frag) (O : Addr → Prop) (H : Hp) : D → V → Prop
  | .non, v => v = .non
  | .bl b, v => v = .bl b
  | .int i, v => v = .int i
  | .str x, v => v = .str x
  | .tup xs, v => ∃ a vs, v = .ref a ∧ SqT K H a vs ∧ DenL K O H xs vs
  | .lst xs, v => ∃ a vs, v = .ref a ∧ H a = some (.lst vs) ∧ ¬ O a ∧ DenL K O H xs vs
  | .own xs, v => ∃ a vs, v = .ref a ∧ H a = some (.lst vs) ∧ ¬ O a ∧ DenL K O H xs vs
  | .scr xs, v => ∃ a vs, v = .ref a ∧ ((∃ o, H a = some (.frz o (.lst vs))) ∨ SqL K (fun _ => none) a vs) ∧ DenL K O H xs vs
  | .dic, v => ∃ a kvs, v = .ref a ∧ H a = some (.dK kvs)
  | .exn C, v => ∃ a, v = .ref a ∧ H a = some (.ext (ExcAt a C))
  | .exa C n, v => ∃ a d, v = .ref a ∧ H a = some (.ext (ExcAtD a C d)) ∧ H d = some (.xd [("at", .int n)])
  | .dct ks xs, v => ∃ a vs, v = .ref a ∧ H a = some (.dT (zipK ks vs)) ∧ ¬ O a ∧ ks.length = xs.length ∧ DenL K O H xs vs
  | .odt ks xs, v => ∃ a vs, v = .ref a ∧ H a = some (.dT (zipK ks vs)) ∧ ¬ O a ∧ ks.length = xs.length ∧ DenL K O H xs vs
def DenL (K : PySem.W.Frag) (O : Addr → Prop) (H : Hp) : List D → List V → Prop
  | [], vs => vs = []
  | d :: ds, vs => ∃ v r, vs = v :: r ∧ Den K O H d v ∧ DenL K O H ds r
end

section
variable {K : PySem.W.Frag} {O O' : Addr → Prop} {H H' : Hp}
mutual
theorem den_mono (h1 : ∀ b o, H b = some o → ¬ O b → H' b = some o) (hO : ∀ b, O b → ∃ u, H b = some u ∧ Mu u) (h2 : ∀ b, O' b → O b ∨ H b = none) :
    ∀ (d : D) (v : V), Den K O H d v → Den K O' H' d v
  | .non, v, h => by rw [Den] at h ⊢; exact h
  | .bl b, v, h => by rw [Den] at h ⊢; exact h
  | .int i, v, h => by rw [Den] at h ⊢; exact h
  | .str x, v, h => by rw [Den] at h ⊢; exact h
  | .tup xs, v, h => by
    rw [Den] at h ⊢
    obtain ⟨a, vs, e, q, l⟩ := h
    refine ⟨a, vs, e, ?_, denL_mono h1 hO h2 xs vs l⟩
    rcases q with (q | ⟨o, q⟩) | q
    · exact .inl (.inl (h1 _ _ q fun z => by obtain ⟨ws, e, m⟩ := hO a z; rw [q] at e; cases e; exact m))
    · exact .inl (.inr ⟨o, h1 _ _ q fun z => by obtain ⟨ws, e, m⟩ := hO a z; rw [q] at e; cases e; exact m⟩)
    · exact .inr q
  | .lst xs, v, h => by
    rw [Den] at h ⊢
    obtain ⟨a, vs, e, q, n, l⟩ := h
    refine ⟨a, vs, e, h1 _ _ q n, fun z => ?_, denL_mono h1 hO h2 xs vs l⟩
    rcases h2 a z with z | z
    · exact n z
    · rw [q] at z; cases z
  | .own xs, v, h => by
    rw [Den] at h ⊢
    obtain ⟨a, vs, e, q, n, l⟩ := h
    refine ⟨a, vs, e, h1 _ _ q n, fun z => ?_, denL_mono h1 hO h2 xs vs l⟩
    rcases h2 a z with z | z
    · exact n z
    · rw [q] at z; cases z
  | .scr xs, v, h => by
    rw [Den] at h ⊢
    obtain ⟨a, vs, e, q, l⟩ := h
    refine ⟨a, vs, e, ?_, denL_mono h1 hO h2 xs vs l⟩
    rcases q with ⟨o, q⟩ | q
    · exact .inl ⟨o, h1 _ _ q fun z => by obtain ⟨ws, e, m⟩ := hO a z; rw [q] at e; cases e; exact m⟩
    · exact .inr q
  | .dic, v, h => by
    rw [Den] at h ⊢
    obtain ⟨a, kvs, e, q⟩ := h
    exact ⟨a, kvs, e, h1 _ _ q fun z => by obtain ⟨ws, e, m⟩ := hO a z; rw [q] at e; cases e; exact m⟩
  | .exn C, v, h => by
    rw [Den] at h ⊢
    obtain ⟨a, e, q⟩ := h
    exact ⟨a, e, h1 _ _ q fun z => by obtain ⟨ws, e, m⟩ := hO a z; rw [q] at e; cases e; exact m⟩
  | .exa C n, v, h => by
    rw [Den] at h ⊢
    obtain ⟨a, d, e, q, r⟩ := h
    exact ⟨a, d, e, h1 _ _ q fun z => by obtain ⟨ws, e, m⟩ := hO a z; rw [q] at e; cases e; exact m, h1 _ _ r fun z => by obtain ⟨ws, e, m⟩ := hO d z; rw [r] at e; cases e; exact m⟩
  | .dct ks xs, v, h => by
    rw [Den] at h ⊢
    obtain ⟨a, vs, e, q, n, hl, l⟩ := h
    refine ⟨a, vs, e, h1 _ _ q n, fun z => ?_, hl, denL_mono h1 hO h2 xs vs l⟩
    rcases h2 a z with z | z
    · exact n z
    · rw [q] at z; cases z
  | .odt ks xs, v, h => by
    rw [Den] at h ⊢
    obtain ⟨a, vs, e, q, n, hl, l⟩ := h
    refine ⟨a, vs, e, h1 _ _ q n, fun z => ?_, hl, denL_mono h1 hO h2 xs vs l⟩
    rcases h2 a z with z | z
    · exact n z
    · rw [q] at z; cases z
theorem denL_mono (h1 : ∀ b o, H b = some o → ¬ O b → H' b = some o) (hO : ∀ b, O b → ∃ u, H b = some u ∧ Mu u) (h2 : ∀ b, O' b → O b ∨ H b = none) :
    ∀ (ds : List D) (vs : List V), DenL K O H ds vs → DenL K O' H' ds vs
  | [], vs, h => by rw [DenL] at h ⊢; exact h
  | d :: ds, vs, h => by
    rw [DenL] at h ⊢
    obtain ⟨v, r, e, q, l⟩ := h
    exact ⟨v, r, e, den_mono h1 hO h2 d v q, denL_mono h1 hO h2 ds r l⟩
end
/-- in expressions: nothing is owned -/
theorem den_same (s : Same H H') {d : D} {v : V} (h : Den K Emp H d v) : Den K Emp H' d v := den_mono (fun b o e _ => s b o e) (fun _ z => z.elim) (fun _ z => z.elim) d v h
theorem denL_same (s : Same H H') {d : List D} {v : List V} (h : DenL K Emp H d v) : DenL K Emp H' d v := denL_mono (fun b o e _ => s b o e) (fun _ z => z.elim) (fun _ z => z.elim) d v h
theorem denL_cons {d : D} {ds : List D} {v : V} {vs : List V} (h : Den K O H d v) (t : DenL K O H ds vs) : DenL K O H (d :: ds) (v :: vs) := by rw [DenL]; exact ⟨v, vs, rfl, h, t⟩
theorem denL_nil : DenL K O H [] [] := by rw [DenL]
theorem denL_append : ∀ {ds es : List D} {vs ws : List V}, DenL K O H ds vs → DenL K O H es ws → DenL K O H (ds ++ es) (vs ++ ws)
  | [], _, _, _, h, t => by rw [DenL] at h; subst h; exact t
  | d :: ds, _, _, _, h, t => by
    rw [DenL] at h
    obtain ⟨v, r, rfl, q, l⟩ := h
    exact denL_cons q (denL_append l t)
theorem denL_length : ∀ {ds : List D} {vs : List V}, DenL K O H ds vs → ds.length = vs.length
  | [], _, h => by rw [DenL] at h; subst h; rfl
  | d :: ds, _, h => by
    rw [DenL] at h
    obtain ⟨v, r, rfl, q, l⟩ := h
    rw [List.length_cons, List.length_cons, denL_length l]
theorem denL_get : ∀ {ds : List D} {vs : List V} {i : Nat} {d : D}, DenL K O H ds vs → ds[i]? = some d → ∃ v, vs[i]? = some v ∧ Den K O H d v
  | [], _, _, _, _, e => by simp at e
  | d :: ds, _, 0, _, h, e => by
    rw [DenL] at h
    obtain ⟨v, r, rfl, q, l⟩ := h
    simp at e; subst e
    exact ⟨v, rfl, q⟩
  | d :: ds, _, i + 1, x, h, e => by
    rw [DenL] at h
    obtain ⟨v, r, rfl, q, l⟩ := h
    obtain ⟨u, h1, h2⟩ := denL_get (i := i) (d := x) l (by simpa using e)
    exact ⟨u, by simpa using h1, h2⟩
theorem denL_take : ∀ {ds : List D} {vs : List V} (n : Nat), DenL K O H ds vs → DenL K O H (ds.take n) (vs.take n)
  | [], _, n, h => by rw [DenL] at h; subst h; simp; exact denL_nil
  | d :: ds, _, 0, h => by simp; exact denL_nil
  | d :: ds, _, n + 1, h => by
    rw [DenL] at h
    obtain ⟨v, r, rfl, q, l⟩ := h
    exact denL_cons q (denL_take n l)
theorem denL_drop : ∀ {ds : List D} {vs : List V} (n : Nat), DenL K O H ds vs → DenL K O H (ds.drop n) (vs.drop n)
  | [], _, n, h => by rw [DenL] at h; subst h; simp; exact denL_nil
  | d :: ds, _, 0, h => h
  | d :: ds, _, n + 1, h => by
    rw [DenL] at h
    obtain ⟨v, r, rfl, q, l⟩ := h
    exact denL_drop n l
end

/-! without lists in it -/
mutual
def lf : D → Bool
  | .tup xs => lfL xs
  | .scr xs => lfL xs
  | .lst _ => false
  | .own _ => false
  | .dct _ _ => false
  | .odt _ _ => false
  | _ => true
def lfL : List D → Bool
  | [] => true
  | d :: ds => lf d && lfL ds
end
section
variable {K : PySem.W.Frag} {O O' : Addr → Prop} {H : Hp}
mutual
theorem den_lf : ∀ (d : D) (v : V), lf d = true → Den K O H d v → Den K O' H d v
  | .non, v, _, h => by rw [Den] at h ⊢; exact h
  | .bl b, v, _, h => by rw [Den] at h ⊢; exact h
  | .int i, v, _, h => by rw [Den] at h ⊢; exact h
  | .str x, v, _, h => by rw [Den] at h ⊢; exact h
  | .tup xs, v, f, h => by
    rw [Den] at h ⊢
    obtain ⟨a, vs, e, q, l⟩ := h
    exact ⟨a, vs, e, q, denL_lf xs vs (by rw [lf] at f; exact f) l⟩
  | .scr xs, v, f, h => by
    rw [Den] at h ⊢
    obtain ⟨a, vs, e, q, l⟩ := h
    exact ⟨a, vs, e, q, denL_lf xs vs (by rw [lf] at f; exact f) l⟩
  | .lst xs, v, f, h => by rw [lf] at f; cases f
  | .own xs, v, f, h => by rw [lf] at f; cases f
  | .dct _ xs, v, f, h => by rw [lf] at f; cases f
  | .odt _ xs, v, f, h => by rw [lf] at f; cases f
  | .dic, v, _, h => by rw [Den] at h ⊢; exact h
  | .exn _, v, _, h => by rw [Den] at h ⊢; exact h
  | .exa _ _, v, _, h => by rw [Den] at h ⊢; exact h
theorem denL_lf : ∀ (d : List D) (v : List V), lfL d = true → DenL K O H d v → DenL K O' H d v
  | [], v, _, h => by rw [DenL] at h ⊢; exact h
  | d :: ds, v, f, h => by
    rw [lfL, Bool.and_eq_true] at f
    rw [DenL] at h ⊢
    obtain ⟨u, r, e, q, l⟩ := h
    exact ⟨u, r, e, den_lf d u f.1 q, denL_lf ds r f.2 l⟩
end
end
def frz : D → D
  | .own xs => .lst xs
  | .odt ks xs => .dct ks xs
  | d => d
theorem den_frz {K : PySem.W.Frag} {O : Addr → Prop} {H : Hp} {d : D} {v : V} : Den K O H (frz d) v ↔ Den K O H d v := by
  cases d <;> simp only [frz]
  · rw [Den, Den]
  · rw [Den, Den]
/-- an expression's value: a list of its own is younger than the start -/
def DenF (K : PySem.W.Frag) (H H' : Hp) : D → V → Prop
  | .own xs, v => ∃ a vs, v = .ref a ∧ H a = none ∧ H' a = some (.lst vs) ∧ DenL K (fun b => b = a) H' xs vs
  | .odt ks xs, v => ∃ a vs, v = .ref a ∧ H a = none ∧ H' a = some (.dT (zipK ks vs)) ∧ ks.length = xs.length ∧ DenL K Emp H' xs vs
  | d, v => Den K Emp H' d v
theorem DenF.den {K : PySem.W.Frag} {H H' : Hp} : ∀ {d : D} {v : V}, DenF K H H' d v → Den K Emp H' d v
  | .own xs, v, h => by
    obtain ⟨a, vs, e, _, q, l⟩ := h
    rw [Den]; exact ⟨a, vs, e, q, fun z => z, denL_mono (fun _ _ z _ => z) (fun b z => ⟨.lst vs, by rw [z]; exact q, trivial⟩) (fun _ z => z.elim) _ _ l⟩
  | .odt ks xs, v, h => by
    obtain ⟨a, vs, e, _, q, hl, l⟩ := h
    rw [Den]; exact ⟨a, vs, e, q, fun z => z, hl, l⟩
  | .dct _ _, v, h => h
  | .non, v, h => h
  | .bl _, v, h => h
  | .int _, v, h => h
  | .str _, v, h => h
  | .tup _, v, h => h
  | .lst _, v, h => h
  | .scr _, v, h => h
  | .dic, v, h => h
  | .exn _, v, h => h
  | .exa _ _, v, h => h
theorem DenF.of {K : PySem.W.Frag} {H H' : Hp} : ∀ {d : D} {v : V}, Den K Emp H' (frz d) v → DenF K H H' (frz d) v
  | .own xs, v, h => h
  | .odt _ xs, v, h => h
  | .dct _ xs, v, h => h
  | .non, v, h => h
  | .bl _, v, h => h
  | .int _, v, h => h
  | .str _, v, h => h
  | .tup _, v, h => h
  | .lst _, v, h => h
  | .scr _, v, h => h
  | .dic, v, h => h
  | .exn _, v, h => h
  | .exa _ _, v, h => h
/-- younger than an elder start -/
theorem DenF.elder {K : PySem.W.Frag} {H0 H H' : Hp} (s : Same H0 H) : ∀ {d : D} {v : V}, DenF K H H' d v → DenF K H0 H' d v
  | .own xs, v, h => by
    obtain ⟨a, vs, e, n, q, l⟩ := h
    exact ⟨a, vs, e, s.free n, q, l⟩
  | .odt ks xs, v, h => by
    obtain ⟨a, vs, e, n, q, l⟩ := h
    exact ⟨a, vs, e, s.free n, q, l⟩
  | .dct _ _, v, h => h
  | .non, v, h => h
  | .bl _, v, h => h
  | .int _, v, h => h
  | .str _, v, h => h
  | .tup _, v, h => h
  | .lst _, v, h => h
  | .scr _, v, h => h
  | .dic, v, h => h
  | .exn _, v, h => h
  | .exa _ _, v, h => h

abbrev Ev := List (Option D)
def RepV (K : PySem.W.Frag) (ρ : Ev) (σ : L2.St) (H : Hp) : Prop := ∀ (i : Nat) (d : D), ρ[i]? = some (some d) → ∃ v, σ[i]? = some (some v) ∧ Den K Emp H d v
theorem RepV.same {K : PySem.W.Frag} {ρ : Ev} {σ : L2.St} {H H' : Hp} (r : RepV K ρ σ H) (s : Same H H') : RepV K ρ σ H' := fun i d e => let ⟨v, h1, h2⟩ := r i d e; ⟨v, h1, den_same s h2⟩
abbrev FE := Ev → Option D
abbrev FT := Ev → Option Bool
abbrev FA := Ev → Option (List D)
def tX (X : Cx) (f : FE) : TE := fun σ H Q => ∃ ρ d, RepV X.K ρ σ H ∧ f ρ = some d ∧ ∀ v H', Same H H' → DenF X.K H H' d v → Q v H'
def tT (X : Cx) (f : FT) : TT := fun σ H Q => ∃ ρ b, RepV X.K ρ σ H ∧ f ρ = some b ∧ ∀ H', Same H H' → Q b H'
def tA (X : Cx) (f : FA) : TA := fun σ H Q => ∃ ρ ds, RepV X.K ρ σ H ∧ f ρ = some ds ∧ ∀ vs H', Same H H' → DenL X.K Emp H' ds vs → Q vs H'
def PX (X : Cx) (e : Expr) (f : FE) : Prop := PE X e (tX X f)
def PXT (X : Cx) (e : Expr) (f : FT) : Prop := PT X e (tT X f)
def PXW (X : Cx) (e : Expr) (f : FT) : Prop := PW X e (tT X f)
def PXA (X : Cx) (es : List Expr) (f : FA) : Prop := PA X es (tA X f)
theorem PE.weak {X : Cx} {e : Expr} {t u : TE} (h : PE X e t) (w : ∀ σ H Q, u σ H Q → t σ H Q) : PE X e u := fun pins s σ H Q I q => h pins s σ H Q I (w σ H Q q)
theorem PT.weak {X : Cx} {e : Expr} {t u : TT} (h : PT X e t) (w : ∀ σ H Q, u σ H Q → t σ H Q) : PT X e u := fun pins s σ H Q I q => h pins s σ H Q I (w σ H Q q)
theorem PW.weak {X : Cx} {e : Expr} {t u : TT} (h : PW X e t) (w : ∀ σ H Q, u σ H Q → t σ H Q) : PW X e u := fun wh pins s σ H Q I q => h wh pins s σ H Q I (w σ H Q q)
theorem PA.weak {X : Cx} {e : List Expr} {t u : TA} (h : PA X e t) (w : ∀ σ H Q, u σ H Q → t σ H Q) : PA X e u := fun pos pins s σ H Q I q => h pos pins s σ H Q I (w σ H Q q)

/-! ### statements -/
inductive R where
  | nx (ρ : Ev) | bk (ρ : Ev) | ct (ρ : Ev) | rt (d : D)
abbrev FS := Ev → Option R
def Own (own : Nat → Option Addr) : Addr → Prop := fun a => ∃ i, own i = some a
def SlotOk (K : PySem.W.Frag) (own : Nat → Option Addr) (H : Hp) (i : Nat) : D → V → Prop
  | .own xs, v => ∃ a vs, own i = some a ∧ v = .ref a ∧ H a = some (.lst vs) ∧ DenL K (Own own) H xs vs
  | .odt ks xs, v => ∃ a vs, own i = some a ∧ v = .ref a ∧ H a = some (.dT (zipK ks vs)) ∧ ks.length = xs.length ∧ lfL xs = true ∧ DenL K (Own own) H xs vs
  | d, v => Den K (Own own) H d v
structure Rep (X : Cx) (P : List (D × V)) (ρ : Ev) (own : Nat → Option Addr) (σ : L2.St) (H : Hp) : Prop where
  same : Same X.H₀ H
  len : ρ.length = σ.length
  slot : ∀ (i : Nat) (d : D), ρ[i]? = some (some d) → ∃ v, σ[i]? = some (some v) ∧ SlotOk X.K own H i d v
  inj : ∀ i j a, own i = some a → own j = some a → i = j
  lst : ∀ i a, own i = some a → ∃ u, H a = some u ∧ Mu u
  new : ∀ i a, own i = some a → X.H₀ a = none
  prot : ∀ p ∈ P, Den X.K (Own own) H p.1 p.2
def EndsOk (X : Cx) (P : List (D × V)) (E : Ends) : R → Prop
  | .nx ρ => ∀ own σ H, Rep X P ρ own σ H → E.nx σ H
  | .bk ρ => ∀ own σ H, Rep X P ρ own σ H → E.bk σ H
  | .ct ρ => ∀ own σ H, Rep X P ρ own σ H → E.ct σ H
  | .rt d => ∀ v H, Same X.H₀ H → DenF X.K X.H₀ H d v → E.rt v H
def tS (X : Cx) (F : FS) : TS := fun E σ H => ∃ P own ρ r, Rep X P ρ own σ H ∧ F ρ = some r ∧ EndsOk X P E r
def PXS (X : Cx) (st : Stmt) (F : FS) : Prop := PS X st (tS X F)
def PXSs (X : Cx) (st : List Stmt) (F : FS) : Prop := PSs X st (tS X F)
theorem PS.weak {X : Cx} {e : Stmt} {t u : TS} (h : PS X e t) (w : ∀ E σ H, u E σ H → t E σ H) : PS X e u := fun pins s σ H E I q => h pins s σ H E I (w E σ H q)
theorem PSs.weak {X : Cx} {e : List Stmt} {t u : TS} (h : PSs X e t) (w : ∀ E σ H, u E σ H → t E σ H) : PSs X e u := fun pins s σ H E I q => h pins s σ H E I (w E σ H q)

section
variable {X : Cx} {P : List (D × V)} {ρ : Ev} {own : Nat → Option Addr} {σ : L2.St} {H H' : Hp}
theorem Rep.isL (r : Rep X P ρ own σ H) : ∀ b, Own own b → ∃ u, H b = some u ∧ Mu u := fun b ⟨i, e⟩ => r.lst i b e
theorem Rep.view (r : Rep X P ρ own σ H) : RepV X.K ρ σ H := fun i d e => by
  obtain ⟨v, h1, h2⟩ := r.slot i d e
  refine ⟨v, h1, ?_⟩
  have mono : ∀ d v, Den X.K (Own own) H d v → Den X.K Emp H d v := fun d v => den_mono (fun _ _ q _ => q) r.isL (fun _ z => z.elim) d v
  cases d with
  | own xs =>
    obtain ⟨a, vs, _, e1, e2, l⟩ := h2
    rw [Den]
    exact ⟨a, vs, e1, e2, fun z => z, denL_mono (fun _ _ q _ => q) r.isL (fun _ z => z.elim) xs vs l⟩
  | odt ks xs =>
    obtain ⟨a, vs, _, e1, e2, hl, _, l⟩ := h2
    rw [Den]
    exact ⟨a, vs, e1, e2, fun z => z, hl, denL_mono (fun _ _ q _ => q) r.isL (fun _ z => z.elim) xs vs l⟩
  | _ => exact mono _ v h2
/-- the heap has grown -/
theorem SlotOk.grow {K : PySem.W.Frag} {own own' : Nat → Option Addr} {i : Nat} {d : D} {v : V} (h1 : ∀ b o, H b = some o → ¬ Own own b → H' b = some o) (hO : ∀ b, Own own b → ∃ u, H b = some u ∧ Mu u) (h2 : ∀ b, Own own' b → Own own b ∨ H b = none)
    (ho : own' i = own i) (hk : ∀ a, own i = some a → H' a = H a) (h : SlotOk K own H i d v) : SlotOk K own' H' i d v := by
  cases d with
  | own xs =>
    obtain ⟨a, vs, e0, e1, e2, l⟩ := h
    exact ⟨a, vs, ho.trans e0, e1, (hk a e0).trans e2, denL_mono h1 hO h2 xs vs l⟩
  | odt ks xs =>
    obtain ⟨a, vs, e0, e1, e2, hl, f, l⟩ := h
    exact ⟨a, vs, ho.trans e0, e1, (hk a e0).trans e2, hl, f, denL_mono h1 hO h2 xs vs l⟩
  | _ => exact den_mono h1 hO h2 _ v h
theorem Rep.grow (r : Rep X P ρ own σ H) (s : Same H H') : Rep X P ρ own σ H' where
  same := r.same.trans s
  len := r.len
  slot := fun i d e => by
    obtain ⟨v, h1, h2⟩ := r.slot i d e
    refine ⟨v, h1, SlotOk.grow (fun b o q _ => s b o q) r.isL (fun b z => .inl z) rfl (fun a e => ?_) h2⟩
    obtain ⟨ws, q, _⟩ := r.lst i a e
    rw [q, s a _ q]
  inj := r.inj
  lst := fun i a e => let ⟨ws, q, m⟩ := r.lst i a e; ⟨ws, s a _ q, m⟩
  new := r.new
  prot := fun p hp => den_mono (fun b o q _ => s b o q) r.isL (fun b z => .inl z) _ _ (r.prot p hp)

def frzO : Option D → Option D
  | some d => some (frz d)
  | none => none
def frzAll (ρ : Ev) : Ev := ρ.map frzO
/-- a value stored in slot i -/
def bindD (ρ : Ev) (i : Nat) (d : D) : Ev :=
  if lf d = true then ρ.set i (some d)
  else match d with
    | .own xs => if lfL xs = true then ρ.set i (some (.own xs)) else (frzAll ρ).set i (some (.own xs))
    | .odt ks xs => if lfL xs = true then ρ.set i (some (.odt ks xs)) else (frzAll ρ).set i (some (.dct ks xs))
    | d => (frzAll ρ).set i (some d)
theorem SlotOk.plain {K : PySem.W.Frag} {i : Nat} {v : V} : ∀ {d : D}, Den K (Own own) H (frz d) v → SlotOk K own H i (frz d) v
  | .own _, h => h
  | .odt _ _, h => h
  | .dct _ _, h => h
  | .non, h => h
  | .bl _, h => h
  | .int _, h => h
  | .str _, h => h
  | .tup _, h => h
  | .lst _, h => h
  | .scr _, h => h
  | .dic, h => h
  | .exn _, h => h
  | .exa _ _, h => h
theorem lf_frz : ∀ {d : D}, lf d = true → frz d = d
  | .own xs, h => by rw [lf] at h; cases h
  | .odt _ xs, h => by rw [lf] at h; cases h
  | .dct _ xs, h => by rw [lf] at h; cases h
  | .non, _ => rfl
  | .bl _, _ => rfl
  | .int _, _ => rfl
  | .str _, _ => rfl
  | .tup _, _ => rfl
  | .lst _, _ => rfl
  | .scr _, _ => rfl
  | .dic, _ => rfl
  | .exn _, _ => rfl
  | .exa _ _, _ => rfl
/-- everything read only -/
theorem Rep.frozen (r : Rep X P ρ own σ H) : Rep X P (frzAll ρ) (fun _ => none) σ H where
  same := r.same
  len := by unfold frzAll; rw [List.length_map]; exact r.len
  slot := fun i d e => by
    unfold frzAll at e
    rw [List.getElem?_map] at e
    cases q : ρ[i]? with
    | none => rw [q] at e; cases e
    | some o =>
      rw [q] at e
      cases o with
      | none => cases e
      | some d0 =>
        have e' : frz d0 = d := by cases e; rfl
        subst e'
        obtain ⟨v, h1, h2⟩ := r.view i d0 q
        refine ⟨v, h1, SlotOk.plain ?_⟩
        exact den_mono (fun _ _ q _ => q) (fun _ z => z.elim) (fun b z => by obtain ⟨i, z⟩ := z; cases z) _ v (den_frz.mpr h2)
  inj := fun i j a e => by cases e
  lst := fun i a e => by cases e
  new := fun i a e => by cases e
  prot := fun p hp => den_mono (fun _ _ q _ => q) r.isL (fun b z => by obtain ⟨i, z⟩ := z; cases z) _ _ (r.prot p hp)
/-- slot i gets a value without an own list -/
theorem Rep.put (r : Rep X P ρ own σ H) {i : Nat} {d : D} {v : V} (hd : frz d = d) (h : Den X.K (Own own) H d v) : Rep X P (ρ.set i (some d)) (fun j => if j = i then none else own j) (σ.set i (some v)) H := by
  have sub : ∀ b, Own (fun j => if j = i then none else own j) b → Own own b := fun b ⟨j, e⟩ => by
    by_cases q : j = i
    · simp [q] at e
    · simp [q] at e; exact ⟨j, e⟩
  refine ⟨r.same, by rw [List.length_set, List.length_set]; exact r.len, fun j d' e => ?_, fun j k a e1 e2 => ?_, fun j a e => ?_, fun j a e => ?_, fun p hp => den_mono (fun _ _ q _ => q) r.isL (fun b z => .inl (sub b z)) _ _ (r.prot p hp)⟩
  · by_cases q : i = j
    · subst q
      rw [List.getElem?_set] at e
      rw [if_pos rfl] at e
      split at e
      · rename_i hl
        cases e
        refine ⟨v, by rw [List.getElem?_set, if_pos rfl, if_pos (by rw [← r.len]; exact hl)], ?_⟩
        rw [← hd]
        refine SlotOk.plain (den_mono (fun _ _ q _ => q) r.isL (fun b z => .inl (sub b z)) _ _ ?_)
        rw [hd]; exact h
      · cases e
    · rw [List.getElem?_set_ne q] at e
      obtain ⟨u, h1, h2⟩ := r.slot j d' e
      refine ⟨u, by rw [List.getElem?_set_ne q]; exact h1, SlotOk.grow (fun _ _ q _ => q) r.isL (fun b z => .inl (sub b z)) (by show (if j = i then none else own j) = own j; rw [if_neg (Ne.symm q)]) (fun _ _ => rfl) h2⟩
  · try dsimp only at e1 e2
    split at e1
    · cases e1
    · split at e2
      · cases e2
      · exact r.inj j k a e1 e2
  · try dsimp only at e
    split at e
    · cases e
    · exact r.lst j a e
  · try dsimp only at e
    split at e
    · cases e
    · exact r.new j a e
/-- slot i gets a list of its own -/
theorem Rep.putOwn (r : Rep X P ρ own σ H) {i : Nat} {a : Addr} {xs : List D} {vs : List V} (hn : ¬ Own (fun j => if j = i then none else own j) a) (hP : ∀ p ∈ P, Den X.K (fun b => Own own b ∨ b = a) H p.1 p.2) (hS : ∀ (j : Nat) (d : D) (v : V), ρ[j]? = some (some d) → σ[j]? = some (some v) → frz d = d → Den X.K (fun b => Own own b ∨ b = a) H d v)
    (hO : ∀ (j : Nat) (ys : List D) (b : Addr) (ws : List V), ρ[j]? = some (some (.own ys)) → own j = some b → H b = some (.lst ws) → DenL X.K (fun b => Own own b ∨ b = a) H ys ws) (h0 : X.H₀ a = none) (h : H a = some (.lst vs)) (l : DenL X.K (fun b => Own own b ∨ b = a) H xs vs) :
    Rep X P (ρ.set i (some (.own xs))) (fun j => if j = i then some a else own j) (σ.set i (some (.ref a))) H := by
  have sub : ∀ b, Own (fun j => if j = i then some a else own j) b → (Own own b ∨ b = a) := fun b ⟨j, e⟩ => by
    by_cases q : j = i
    · simp [q] at e; exact .inr e.symm
    · simp [q] at e; exact .inl ⟨j, e⟩
  have isL : ∀ b, (Own own b ∨ b = a) → ∃ u, H b = some u ∧ Mu u := fun b z => by
    rcases z with z | z
    · exact r.isL b z
    · rw [z]; exact ⟨_, h, trivial⟩
  refine ⟨r.same, by rw [List.length_set, List.length_set]; exact r.len, fun j d' e => ?_, fun j k b e1 e2 => ?_, fun j b e => ?_, fun j b e => ?_, fun p hp => den_mono (fun _ _ q _ => q) isL (fun b z => .inl (sub b z)) _ _ (hP p hp)⟩
  · by_cases q : i = j
    · subst q
      rw [List.getElem?_set, if_pos rfl] at e
      split at e
      · rename_i hl
        cases e
        exact ⟨.ref a, by rw [List.getElem?_set, if_pos rfl, if_pos (by rw [← r.len]; exact hl)], a, vs, by simp, rfl, h, denL_mono (fun _ _ q _ => q) isL (fun b z => .inl (sub b z)) _ _ l⟩
      · cases e
    · rw [List.getElem?_set_ne q] at e
      obtain ⟨u, h1, h2⟩ := r.slot j d' e
      refine ⟨u, by rw [List.getElem?_set_ne q]; exact h1, ?_⟩
      cases d' with
      | own xs' =>
        obtain ⟨b, ws, e0, e1, e2, l'⟩ := h2
        exact ⟨b, ws, by show (if j = i then some a else own j) = some b; rw [if_neg (Ne.symm q)]; exact e0, e1, e2, denL_mono (fun _ _ q _ => q) isL (fun b z => .inl (sub b z)) _ _ (hO j _ b ws e e0 e2)⟩
      | odt ks' xs' =>
        obtain ⟨b, ws, e0, e1, e2, hl', f', l'⟩ := h2
        exact ⟨b, ws, by show (if j = i then some a else own j) = some b; rw [if_neg (Ne.symm q)]; exact e0, e1, e2, hl', f', denL_lf _ _ f' l'⟩
      | _ => exact den_mono (fun _ _ q _ => q) isL (fun b z => .inl (sub b z)) _ _ (hS j _ u e h1 rfl)
  · try dsimp only at e1 e2
    by_cases q1 : j = i
    · by_cases q2 : k = i
      · rw [q1, q2]
      · rw [if_pos q1] at e1; cases e1
        rw [if_neg q2] at e2
        exact absurd ⟨k, by simp [q2]; exact e2⟩ hn
    · by_cases q2 : k = i
      · rw [if_pos q2] at e2; cases e2
        rw [if_neg q1] at e1
        exact absurd ⟨j, by simp [q1]; exact e1⟩ hn
      · rw [if_neg q1] at e1; rw [if_neg q2] at e2
        exact r.inj j k b e1 e2
  · try dsimp only at e
    split at e
    · cases e; exact ⟨_, h, trivial⟩
    · exact r.lst j b e
  · try dsimp only at e
    split at e
    · cases e; exact h0
    · exact r.new j b e
/-- a fresh list of its own into slot i -/
theorem Rep.bindOwn (r : Rep X P ρ own σ H) (s : Same H H') {i : Nat} {a : Addr} {xs : List D} {vs : List V} (hn : H a = none) (h : H' a = some (.lst vs)) (l : DenL X.K (fun b => Own own b ∨ b = a) H' xs vs) :
    Rep X P (ρ.set i (some (.own xs))) (fun j => if j = i then some a else own j) (σ.set i (some (.ref a))) H' := by
  have up : ∀ b, (Own own b ∨ b = a) → Own own b ∨ H b = none := fun b z => z.elim .inl fun z => .inr (by rw [z]; exact hn)
  refine (r.grow s).putOwn (fun ⟨j, e⟩ => ?_) (fun p hp => den_mono (fun b o q _ => s b o q) r.isL up _ _ (r.prot p hp)) (fun j d v e1 e2 e3 => ?_) (fun j ys b ws e1 e2 e3 => ?_) (r.same.free hn) h l
  · have e' : own j = some a := by
      dsimp only at e
      split at e
      · cases e
      · exact e
    obtain ⟨ws, q, _⟩ := r.lst j a e'
    rw [hn] at q; cases q
  · obtain ⟨u, h1, h2⟩ := r.slot j d e1
    rw [e2] at h1; cases h1
    refine den_mono (fun b o q _ => s b o q) r.isL up _ _ ?_
    cases d with
    | own _ => cases e3
    | odt _ _ => cases e3
    | _ => exact h2
  · obtain ⟨u, h1, h2⟩ := r.slot j _ e1
    obtain ⟨c, us, q0, q1, q2, l'⟩ := h2
    rw [e2] at q0; cases q0
    have q3 := s _ _ q2
    rw [e3] at q3; cases q3
    exact denL_mono (fun b o q _ => s b o q) r.isL up _ _ l'
/-- the own list of slot i is written -/
theorem Rep.mut (r : Rep X P ρ own σ H) {i : Nat} {a : Addr} {xs ys : List D} {vs : List V} (e : ρ[i]? = some (some (D.own xs))) (ei : own i = some a) (l : DenL X.K (Own own) H ys vs) :
    Rep X P (ρ.set i (some (.own ys))) own σ (upd H a (.lst vs)) := by
  have step : ∀ b o, H b = some o → ¬ Own own b → upd H a (.lst vs) b = some o := fun b o q n => by
    have ne : b ≠ a := fun z => n ⟨i, by rw [z]; exact ei⟩
    rw [upd_ne ne]; exact q
  have isL : ∀ b, Own own b → ∃ u, upd H a (.lst vs) b = some u ∧ Mu u := fun b z => by
    by_cases q : b = a
    · rw [q]; exact ⟨_, upd_same, trivial⟩
    · rw [upd_ne q]; exact r.isL b z
  refine ⟨fun b o q => ?_, by rw [List.length_set]; exact r.len, fun j d' e' => ?_, r.inj, fun j b e' => isL b ⟨j, e'⟩, r.new, fun p hp => den_mono step r.isL (fun b z => .inl z) _ _ (r.prot p hp)⟩
  · have ne : b ≠ a := fun z => by
      have := r.new i a ei
      rw [← z, q] at this; cases this
    rw [upd_ne ne]; exact r.same b o q
  · by_cases q : i = j
    · subst q
      rw [List.getElem?_set, if_pos rfl] at e'
      split at e'
      · cases e'
        obtain ⟨v, h1, b, ws, h2, h3, _⟩ := r.slot i _ e
        rw [ei] at h2; cases h2
        refine ⟨v, h1, a, vs, ei, h3, upd_same, denL_mono step r.isL (fun b z => .inl z) _ _ l⟩
      · cases e'
    · rw [List.getElem?_set_ne q] at e'
      obtain ⟨u, h1, h2⟩ := r.slot j d' e'
      refine ⟨u, h1, SlotOk.grow step r.isL (fun b z => .inl z) rfl (fun b e2 => ?_) h2⟩
      have ne : b ≠ a := fun z => q (r.inj i j a ei (by rw [← z]; exact e2))
      rw [upd_ne ne]
/-- slot i gets a list of its own -/
theorem Rep.putOdt (r : Rep X P ρ own σ H) {i : Nat} {a : Addr} {ks : List (List Int)} {xs : List D} {vs : List V} (hn : ¬ Own (fun j => if j = i then none else own j) a) (hP : ∀ p ∈ P, Den X.K (fun b => Own own b ∨ b = a) H p.1 p.2) (hS : ∀ (j : Nat) (d : D) (v : V), ρ[j]? = some (some d) → σ[j]? = some (some v) → frz d = d → Den X.K (fun b => Own own b ∨ b = a) H d v)
    (hO : ∀ (j : Nat) (ys : List D) (b : Addr) (ws : List V), ρ[j]? = some (some (.own ys)) → own j = some b → H b = some (.lst ws) → DenL X.K (fun b => Own own b ∨ b = a) H ys ws) (hk : ks.length = xs.length) (f : lfL xs = true) (h0 : X.H₀ a = none) (h : H a = some (.dT (zipK ks vs))) (l : DenL X.K (fun b => Own own b ∨ b = a) H xs vs) :
    Rep X P (ρ.set i (some (.odt ks xs))) (fun j => if j = i then some a else own j) (σ.set i (some (.ref a))) H := by
  have sub : ∀ b, Own (fun j => if j = i then some a else own j) b → (Own own b ∨ b = a) := fun b ⟨j, e⟩ => by
    by_cases q : j = i
    · simp [q] at e; exact .inr e.symm
    · simp [q] at e; exact .inl ⟨j, e⟩
  have isL : ∀ b, (Own own b ∨ b = a) → ∃ u, H b = some u ∧ Mu u := fun b z => by
    rcases z with z | z
    · exact r.isL b z
    · rw [z]; exact ⟨_, h, trivial⟩
  refine ⟨r.same, by rw [List.length_set, List.length_set]; exact r.len, fun j d' e => ?_, fun j k b e1 e2 => ?_, fun j b e => ?_, fun j b e => ?_, fun p hp => den_mono (fun _ _ q _ => q) isL (fun b z => .inl (sub b z)) _ _ (hP p hp)⟩
  · by_cases q : i = j
    · subst q
      rw [List.getElem?_set, if_pos rfl] at e
      split at e
      · rename_i hl
        cases e
        exact ⟨.ref a, by rw [List.getElem?_set, if_pos rfl, if_pos (by rw [← r.len]; exact hl)], a, vs, by simp, rfl, h, hk, f, denL_mono (fun _ _ q _ => q) isL (fun b z => .inl (sub b z)) _ _ l⟩
      · cases e
    · rw [List.getElem?_set_ne q] at e
      obtain ⟨u, h1, h2⟩ := r.slot j d' e
      refine ⟨u, by rw [List.getElem?_set_ne q]; exact h1, ?_⟩
      cases d' with
      | own xs' =>
        obtain ⟨b, ws, e0, e1, e2, l'⟩ := h2
        exact ⟨b, ws, by show (if j = i then some a else own j) = some b; rw [if_neg (Ne.symm q)]; exact e0, e1, e2, denL_mono (fun _ _ q _ => q) isL (fun b z => .inl (sub b z)) _ _ (hO j _ b ws e e0 e2)⟩
      | odt ks' xs' =>
        obtain ⟨b, ws, e0, e1, e2, hl', f', l'⟩ := h2
        exact ⟨b, ws, by show (if j = i then some a else own j) = some b; rw [if_neg (Ne.symm q)]; exact e0, e1, e2, hl', f', denL_lf _ _ f' l'⟩
      | _ => exact den_mono (fun _ _ q _ => q) isL (fun b z => .inl (sub b z)) _ _ (hS j _ u e h1 rfl)
  · try dsimp only at e1 e2
    by_cases q1 : j = i
    · by_cases q2 : k = i
      · rw [q1, q2]
      · rw [if_pos q1] at e1; cases e1
        rw [if_neg q2] at e2
        exact absurd ⟨k, by simp [q2]; exact e2⟩ hn
    · by_cases q2 : k = i
      · rw [if_pos q2] at e2; cases e2
        rw [if_neg q1] at e1
        exact absurd ⟨j, by simp [q1]; exact e1⟩ hn
      · rw [if_neg q1] at e1; rw [if_neg q2] at e2
        exact r.inj j k b e1 e2
  · try dsimp only at e
    split at e
    · cases e; exact ⟨_, h, trivial⟩
    · exact r.lst j b e
  · try dsimp only at e
    split at e
    · cases e; exact h0
    · exact r.new j b e
/-- a fresh list of its own into slot i -/
theorem Rep.bindOdt (r : Rep X P ρ own σ H) (s : Same H H') {i : Nat} {a : Addr} {ks : List (List Int)} {xs : List D} {vs : List V} (hn : H a = none) (h : H' a = some (.dT (zipK ks vs))) (hk : ks.length = xs.length) (f : lfL xs = true) (l : DenL X.K Emp H' xs vs) :
    Rep X P (ρ.set i (some (.odt ks xs))) (fun j => if j = i then some a else own j) (σ.set i (some (.ref a))) H' := by
  have up : ∀ b, (Own own b ∨ b = a) → Own own b ∨ H b = none := fun b z => z.elim .inl fun z => .inr (by rw [z]; exact hn)
  refine (r.grow s).putOdt (fun ⟨j, e⟩ => ?_) (fun p hp => den_mono (fun b o q _ => s b o q) r.isL up _ _ (r.prot p hp)) (fun j d v e1 e2 e3 => ?_) (fun j ys b ws e1 e2 e3 => ?_) hk f (r.same.free hn) h (denL_lf _ _ f l)
  · have e' : own j = some a := by
      dsimp only at e
      split at e
      · cases e
      · exact e
    obtain ⟨ws, q, _⟩ := r.lst j a e'
    rw [hn] at q; cases q
  · obtain ⟨u, h1, h2⟩ := r.slot j d e1
    rw [e2] at h1; cases h1
    refine den_mono (fun b o q _ => s b o q) r.isL up _ _ ?_
    cases d with
    | own _ => cases e3
    | odt _ _ => cases e3
    | _ => exact h2
  · obtain ⟨u, h1, h2⟩ := r.slot j _ e1
    obtain ⟨c, us, q0, q1, q2, l'⟩ := h2
    rw [e2] at q0; cases q0
    have q3 := s _ _ q2
    rw [e3] at q3; cases q3
    exact denL_mono (fun b o q _ => s b o q) r.isL up _ _ l'
/-- the rule of a store -/
theorem Rep.bind (r : Rep X P ρ own σ H) (s : Same H H') {i : Nat} {d : D} {v : V} (h : DenF X.K H H' d v) : ∃ own', Rep X P (bindD ρ i d) own' (σ.set i (some v)) H' := by
  unfold bindD
  by_cases f : lf d = true
  · rw [if_pos f]
    exact ⟨_, (r.grow s).put (lf_frz f) (den_lf _ _ f h.den)⟩
  · rw [if_neg f]
    have fz : ∀ d', frz d' = d' → Den X.K Emp H' d' v → ∃ own', Rep X P ((frzAll ρ).set i (some d')) own' (σ.set i (some v)) H' := fun d' e q =>
      ⟨_, (r.grow s).frozen.put e (den_mono (fun _ _ q _ => q) (fun _ z => z.elim) (fun b z => by obtain ⟨i, z⟩ := z; cases z) _ v q)⟩
    cases d with
    | own xs =>
      dsimp only
      by_cases g : lfL xs = true
      · rw [if_pos g]
        obtain ⟨a, vs, rfl, hn, ha, l⟩ := h
        exact ⟨_, r.bindOwn s hn ha (denL_lf _ _ g l)⟩
      · rw [if_neg g]
        obtain ⟨a, vs, rfl, hn, ha, l⟩ := h
        refine ⟨_, r.frozen.bindOwn s hn ha (denL_mono (fun _ _ z _ => z) (fun b z => ⟨.lst vs, by rw [z]; exact ha, trivial⟩) (fun b z => ?_) _ _ l)⟩
        rcases z with ⟨j, z⟩ | z
        · cases z
        · exact .inl z
    | odt ks xs =>
      dsimp only
      by_cases g : lfL xs = true
      · rw [if_pos g]
        obtain ⟨a, vs, rfl, hn, ha, hk, l⟩ := h
        exact ⟨_, r.bindOdt s hn ha hk g l⟩
      · rw [if_neg g]
        exact fz _ rfl (den_frz.mpr h.den)
    | dct ks xs => exact fz _ rfl h.den
    | lst xs => exact fz _ rfl h.den
    | tup xs => exact fz _ rfl h.den
    | scr xs => exact fz _ rfl h.den
    | dic => exact fz _ rfl h.den
    | exn C => exact fz _ rfl h.den
    | exa C n => exact fz _ rfl h.den
    | non => exact absurd rfl f
    | bl b => exact absurd rfl f
    | int b => exact absurd rfl f
    | str b => exact absurd rfl f
end
end Tw

set_option Elab.async false
set_option linter.all false
set_option maxRecDepth 100000
set_option maxHeartbeats 1000000
namespace Tw
open PySem PySem.Spec PyProof.Rows L2
section
variable {X : Cx} {a b c e : Expr} {pos : Pos} {f g h : FE}

/-! ### names, constants -/
def fVar (i : Nat) : FE := fun ρ => match ρ[i]? with
  | some (some d) => some (frz d)
  | _ => none
def fC (d : D) : FE := fun _ => some d
theorem px_name (i : Nat) {x : Str} (hN : X.N[i]? = some x := by rfl) (hv : Vis X.env.scope x := by first | exact Or.inl rfl | exact Or.inr (Or.inl rfl) | exact Or.inr (Or.inr rfl)) (hd : (x == ("__debug__" : Str)) = false := by decide) (hcd : (x == ("__classdict__" : Str)) = false := by decide) : PX X (.Name x pos) (fVar i) := by
  refine PE.weak (pe_var hN hv hd hcd) fun σ H Q ⟨ρ, d, rv, e, q⟩ => ?_
  unfold fVar at e
  split at e
  · rename_i d0 e0
    cases e
    obtain ⟨v, h1, h2⟩ := rv i d0 e0
    exact ⟨v, h1, q v H (Same.refl H) (DenF.of (den_frz.mpr h2))⟩
  · cases e
theorem tC_of {d : D} {v : V} (hd : ∀ H, DenF X.K H H d v) : ∀ σ H Q, tX X (fC d) σ H Q → tC v σ H Q := fun σ H Q ⟨ρ, d', rv, e, q⟩ => by cases e; exact q v H (Same.refl H) (hd H)
theorem px_int {i : Int} {j : Nat} : PX X (.Constant (.int i) j pos) (fC (.int i)) := PE.weak pe_int (tC_of fun H => by show Den _ Emp _ _ _; rw [Den])
theorem px_bl {i : Bool} {j : Nat} : PX X (.Constant (.bool i) j pos) (fC (.bl i)) := PE.weak pe_bl (tC_of fun H => by show Den _ Emp _ _ _; rw [Den])
theorem px_str {i : Str} {j : Nat} : PX X (.Constant (.str i) j pos) (fC (.str i)) := PE.weak pe_str (tC_of fun H => by show Den _ Emp _ _ _; rw [Den])

/-! ### two places -/
def fBin (op : D → D → Option D) (f g : FE) : FE := fun ρ => (f ρ).bind fun x => (g ρ).bind fun y => op x y
theorem bin_weak {r : R2} {op : D → D → Option D} (k : ∀ (x y d : D) (v u : V) (H : Hp) (Q : VK), op x y = some d → Den X.K Emp H x v → Den X.K Emp H y u → (∀ w H', Same H H' → DenF X.K H H' d w → Q w H') → r v u H Q) :
    ∀ σ H Q, tX X (fBin op f g) σ H Q → tOp r (tX X f) (tX X g) σ H Q := fun σ H Q ⟨ρ, d, rv, e, q⟩ => by
  unfold fBin at e
  cases e1 : f ρ with
  | none => rw [e1] at e; cases e
  | some x =>
    cases e2 : g ρ with
    | none => rw [e1, e2] at e; cases e
    | some y =>
      rw [e1, e2] at e
      refine ⟨ρ, x, rv, e1, fun v H1 s1 d1 => ⟨ρ, y, rv.same s1, e2, fun u H2 s2 d2 => ?_⟩⟩
      exact k x y d v u H2 Q e (den_same s2 d1.den) d2.den fun w H' s3 d3 => q w H' ((s1.trans s2).trans s3) (d3.elder (s1.trans s2))
theorem px_bin {op : Operator} {r : R2} {o : D → D → Option D} (ho : OpR X (binaryOp op) r) (k : ∀ (x y d : D) (v u : V) (H : Hp) (Q : VK), o x y = some d → Den X.K Emp H x v → Den X.K Emp H y u → (∀ w H', Same H H' → DenF X.K H H' d w → Q w H') → r v u H Q)
    (ha : PX X a f) (hb : PX X b g) : PX X (.BinOp a op b pos) (fBin o f g) := PE.weak (pe_op ho ha hb) (bin_weak k)
theorem px_cmp {op : CmpOp} {r : R2} {o : D → D → Option D} (ho : OpR X (compareOp op) r) (k : ∀ (x y d : D) (v u : V) (H : Hp) (Q : VK), o x y = some d → Den X.K Emp H x v → Den X.K Emp H y u → (∀ w H', Same H H' → DenF X.K H H' d w → Q w H') → r v u H Q)
    (ha : PX X a f) (hb : PX X b g) (hm : behindInMarks op b = false := by first | exact nomark _ | rfl) : PX X (.Compare a [op] [b] pos) (fBin o f g) := PE.weak (pe_cmpR ho ha hb hm) (bin_weak k)
def fTest (f : FE) : FT := fun ρ => (f ρ).bind fun d => match d with | .bl k => some k | _ => none
theorem pt_cmpX {op : CmpOp} {r : R2} {o : D → D → Option D} (ho : OpR X (compareOp op) r) (k : ∀ (x y d : D) (v u : V) (H : Hp) (Q : VK), o x y = some d → Den X.K Emp H x v → Den X.K Emp H y u → (∀ w H', Same H H' → DenF X.K H H' d w → Q w H') → r v u H Q)
    (ha : PX X a f) (hb : PX X b g) (hm : behindInMarks op b = false := by first | exact nomark _ | rfl) : PXT X (.Compare a [op] [b] pos) (fTest (fBin o f g)) := by
  refine PT.weak (pt_cmpR ho ha hb hm) fun σ H Q ⟨ρ, t, rv, e, q⟩ => ?_
  unfold fTest at e
  cases e1 : fBin o f g ρ with
  | none => rw [e1] at e; cases e
  | some d =>
    rw [e1] at e
    refine bin_weak k σ H _ ⟨ρ, d, rv, e1, fun v H' s d' => ?_⟩
    cases d with
    | bl k1 => cases e; exact ⟨_, by have z := d'.den; rw [Den] at z; exact z, q H' s⟩
    | _ => cases e

/-! ints -/
def big : Nat := 2 ^ 8000
def mOk (i j : Int) : Prop := i.natAbs < 2 ^ 64 ∨ j.natAbs < 2 ^ 64 ∨ (i.natAbs < big ∧ j.natAbs < big)
instance (i j : Int) : Decidable (mOk i j) := by unfold mOk; infer_instance
theorem mOk.ok {i j : Int} (m : mOk i j) : IntMulOk i j := by
  rcases m with m | m | ⟨m, n⟩
  · exact .of_left (KE_bits m)
  · exact .of_right (KE_bits m)
  · exact .of_bits (Nat.le_trans (KE_bits m) (by decide)) (Nat.le_trans (KE_bits n) (by decide))
where KE_bits {x : Int} {m : Nat} (h : x.natAbs < 2 ^ m) : Builtin.Int.intBits x ≤ m := intBits_le_iff.mpr h
theorem op_mulB : OpR X (binaryOp .Mult) (rI mOk fun i j => .int (i * j)) := opI fun _ _ _ _ _ _ _ hc q => mul_int q hc.ok
def dOk (j : Int) : Prop := 0 < j ∧ j.natAbs < big
instance (j : Int) : Decidable (dOk j) := by unfold dOk; infer_instance
theorem op_divB : OpR X (binaryOp .FloorDiv) (rI (fun _ j => dOk j) fun i j => .int (i / j)) := opI fun i j _ _ _ _ _ hc q => by
  have e : i.fdiv j = i / j := Int.fdiv_eq_ediv_of_nonneg i (Int.le_of_lt hc.1)
  refine floordiv_int (Int.ne_of_gt hc.1) (by rw [e]; exact q) (.inl (PyProof.noPylong_of_log2 ?_))
  by_cases z : j.natAbs = 0
  · rw [z]; decide
  · exact Nat.lt_of_lt_of_le ((Nat.log2_lt z).mpr (show j.natAbs < 2 ^ 8000 from hc.2)) (by decide)

def oI (C : Int → Int → Prop) [∀ i j, Decidable (C i j)] (g : Int → Int → D) : D → D → Option D
  | .int i, .int j => if C i j then some (g i j) else none
  | _, _ => none
def oI0 (g : Int → Int → D) : D → D → Option D
  | .int i, .int j => some (g i j)
  | _, _ => none
theorem den_int {K : PySem.W.Frag} {O : Addr → Prop} {H : Hp} {i : Int} {v : V} : Den K O H (.int i) v ↔ v = .int i := by rw [Den]
theorem den_bl {K : PySem.W.Frag} {O : Addr → Prop} {H : Hp} {i : Bool} {v : V} : Den K O H (.bl i) v ↔ v = .bl i := by rw [Den]
theorem denF_int {K : PySem.W.Frag} {H H' : Hp} {i : Int} : DenF K H H' (.int i) (.int i) := by show Den _ Emp _ _ _; rw [Den]
theorem denF_bl {K : PySem.W.Frag} {H H' : Hp} {i : Bool} : DenF K H H' (.bl i) (.bl i) := by show Den _ Emp _ _ _; rw [Den]
theorem kI {C : Int → Int → Prop} [∀ i j, Decidable (C i j)] {g : Int → Int → Int} : ∀ (x y d : D) (v u : V) (H : Hp) (Q : VK), oI C (fun i j => .int (g i j)) x y = some d → Den X.K Emp H x v → Den X.K Emp H y u → (∀ w H', Same H H' → DenF X.K H H' d w → Q w H') → rI C (fun i j => .int (g i j)) v u H Q := by
  intro x y d v u H Q e hx hy q
  cases x <;> cases y <;> simp only [oI] at e <;> try cases e
  rename_i i j
  split at e
  · rename_i hc
    cases e
    exact ⟨i, j, den_int.mp hx, den_int.mp hy, hc, q _ H (Same.refl H) denF_int⟩
  · cases e
theorem kI0 {g : Int → Int → Int} : ∀ (x y d : D) (v u : V) (H : Hp) (Q : VK), oI0 (fun i j => .int (g i j)) x y = some d → Den X.K Emp H x v → Den X.K Emp H y u → (∀ w H', Same H H' → DenF X.K H H' d w → Q w H') → rI0 (fun i j => .int (g i j)) v u H Q := by
  intro x y d v u H Q e hx hy q
  cases x <;> cases y <;> simp only [oI0] at e <;> cases e
  rename_i i j
  exact ⟨i, j, den_int.mp hx, den_int.mp hy, q _ H (Same.refl H) denF_int⟩
theorem kB0 {g : Int → Int → Bool} : ∀ (x y d : D) (v u : V) (H : Hp) (Q : VK), oI0 (fun i j => .bl (g i j)) x y = some d → Den X.K Emp H x v → Den X.K Emp H y u → (∀ w H', Same H H' → DenF X.K H H' d w → Q w H') → rI0 (fun i j => .bl (g i j)) v u H Q := by
  intro x y d v u H Q e hx hy q
  cases x <;> cases y <;> simp only [oI0] at e <;> cases e
  rename_i i j
  exact ⟨i, j, den_int.mp hx, den_int.mp hy, q _ H (Same.refl H) denF_bl⟩
abbrev fSub := fBin (oI0 fun i j => .int (i - j))
abbrev fMul := fBin (oI mOk fun i j => .int (i * j))
abbrev fDiv := fBin (oI (fun _ j => dOk j) fun i j => .int (i / j))
abbrev fMod := fBin (oI (fun _ j => 0 < j) fun i j => .int (i % j))
instance (i j : Int) : Decidable (CPow i j) := by unfold CPow; infer_instance
abbrev fPow := fBin (oI CPow fun i j => .int (i ^ j.toNat))
theorem px_sub (ha : PX X a f) (hb : PX X b g) : PX X (.BinOp a .Sub b pos) (fSub f g) := px_bin op_sub kI0 ha hb
theorem px_mul (ha : PX X a f) (hb : PX X b g) : PX X (.BinOp a .Mult b pos) (fMul f g) := px_bin op_mulB kI ha hb
theorem px_div (ha : PX X a f) (hb : PX X b g) : PX X (.BinOp a .FloorDiv b pos) (fDiv f g) := px_bin op_divB kI ha hb
theorem px_mod (ha : PX X a f) (hb : PX X b g) : PX X (.BinOp a .Mod b pos) (fMod f g) := px_bin op_mod kI ha hb
theorem px_pow (ha : PX X a f) (hb : PX X b g) : PX X (.BinOp a .Pow b pos) (fPow f g) := px_bin op_pow kI ha hb
abbrev oLt := oI0 fun i j => .bl (decide (i < j))
abbrev oGt := oI0 fun i j => .bl (decide (j < i))
theorem pxt_lt (ha : PX X a f) (hb : PX X b g) : PXT X (.Compare a [.Lt] [b] pos) (fTest (fBin oLt f g)) := pt_cmpX op_lt kB0 ha hb
theorem pxt_gt (ha : PX X a f) (hb : PX X b g) : PXT X (.Compare a [.Gt] [b] pos) (fTest (fBin oGt f g)) := pt_cmpX op_gt kB0 ha hb

/-! lists + lists, ints + ints -/
def asL : D → Option (List D)
  | .lst xs => some xs
  | .own xs => some xs
  | _ => none
def lim : Nat := 1000000
def oCat (x y : D) : Option D := (asL x).bind fun xs => (asL y).bind fun ys => if xs.length + ys.length ≤ lim then some (.own (xs ++ ys)) else none
def oAdd : D → D → Option D
  | .int i, .int j => some (.int (i + j))
  | x, y => oCat x y
theorem den_asL {K : PySem.W.Frag} {O : Addr → Prop} {H : Hp} {d : D} {xs : List D} {v : V} (e : asL d = some xs) (h : Den K O H d v) : ∃ a vs, v = .ref a ∧ H a = some (.lst vs) ∧ ¬ O a ∧ DenL K O H xs vs := by
  cases d <;> simp only [asL] at e <;> cases e <;> (rw [Den] at h; exact h)
theorem lim_line : lim ≤ sizeLine := by unfold lim; rw [sizeLine_eq]; decide
theorem same_upd {H : Hp} {p : Addr} (h : H p = none) (o : HO) : Same H (upd H p o) := fun b u q => by rw [upd_ne (ne_of_none q h)]; exact q
theorem denF_new {K : PySem.W.Frag} {H : Hp} {p : Addr} {xs : List D} {vs : List V} (hp : H p = none) (l : DenL K Emp H xs vs) : DenF K H (upd H p (.lst vs)) (.own xs) (.ref p) :=
  ⟨p, vs, rfl, hp, upd_same, denL_mono (fun b o q _ => same_upd hp _ b o q) (fun _ z => z.elim) (fun b z => .inr (by rw [z]; exact hp)) _ _ l⟩
theorem denF_tup {K : PySem.W.Frag} {H H0 : Hp} {p : Addr} {xs : List D} {vs : List V} (hp : H p = none) (l : DenL K Emp H xs vs) : DenF K H0 (upd H p (.tup vs)) (.tup xs) (.ref p) := by
  show Den _ Emp _ _ _; rw [Den]
  exact ⟨p, vs, rfl, .inl (.inl upd_same), denL_same (same_upd hp _) l⟩
theorem px_add (ha : PX X a f) (hb : PX X b g) : PX X (.BinOp a .Add b pos) (fBin oAdd f g) := px_bin (op_add.or op_cat) (by
  intro x y d v u H Q e hx hy q
  have cat : oCat x y = some d → rCat v u H Q := fun e => by
    unfold oCat at e
    cases e1 : asL x with
    | none => rw [e1] at e; cases e
    | some xs =>
      cases e2 : asL y with
      | none => rw [e1, e2] at e; cases e
      | some ys =>
        rw [e1, e2] at e
        simp only [Option.bind_some] at e
        split at e
        · rename_i hl
          cases e
          obtain ⟨a, vs, ev, ha, _, la⟩ := den_asL e1 hx
          obtain ⟨b, us, eu, hb, _, lb⟩ := den_asL e2 hy
          refine ⟨a, b, vs, us, ev, eu, ha, hb, ?_, fun p hp => q _ _ (same_upd hp _) (denF_new hp (denL_append la lb))⟩
          rw [← denL_length la, ← denL_length lb]
          exact Nat.le_trans hl lim_line
        · cases e
  cases x <;> cases y <;> first
    | exact .inr (cat e)
    | (simp only [oAdd] at e; cases e; rename_i i j; exact .inl ⟨i, j, den_int.mp hx, den_int.mp hy, q _ H (Same.refl H) denF_int⟩)) ha hb
def fNeg (f : FE) : FE := fun ρ => (f ρ).bind fun d => match d with | .int i => some (.int (-i)) | _ => none
end
end Tw

set_option Elab.async false
set_option linter.all false
set_option maxRecDepth 100000
set_option maxHeartbeats 1000000
namespace Tw
open PySem PySem.Spec PyProof.Rows L2
section
variable {X : Cx} {a b c e : Expr} {es rest : List Expr} {pos : Pos} {f g h : FE} {t u : FT} {fa : FA}

/-! ### tests -/
def truth : D → Option Bool
  | .non => some false
  | .bl b => some b
  | .int i => some (i != 0)
  | .tup xs => some (!xs.isEmpty)
  | .lst xs => some (!xs.isEmpty)
  | .own xs => some (!xs.isEmpty)
  | _ => none
def fTru (f : FE) : FT := fun ρ => (f ρ).bind truth
theorem denL_empty {K : PySem.W.Frag} {O : Addr → Prop} {H : Hp} {xs : List D} {vs : List V} (l : DenL K O H xs vs) : (!xs.isEmpty) = !vs.isEmpty := by
  have := denL_length l
  cases xs <;> cases vs <;> simp at this ⊢
theorem tru_den {K : PySem.W.Frag} {H : Hp} {d : D} {v : V} {k : Bool} (e : truth d = some k) (h : Den K Emp H d v) : TruV K v H k := by
  cases d <;> simp only [truth] at e <;> cases e <;> rw [Den] at h
  · subst h; rfl
  · subst h; rfl
  · subst h; rfl
  · obtain ⟨a, vs, rfl, q, l⟩ := h
    exact .inr (.inl ⟨vs, q, denL_empty l⟩)
  · obtain ⟨a, vs, rfl, q, _, l⟩ := h
    exact .inl ⟨vs, .inl (.inl q), denL_empty l⟩
  · obtain ⟨a, vs, rfl, q, _, l⟩ := h
    exact .inl ⟨vs, .inl (.inl q), denL_empty l⟩
theorem pxt_tru (ha : PX X a f) (he : ∀ whole, isTrue a X.env whole = (do let v ← whole; standAt a.pos; holding [v] (truthy v)) := by intro _; rfl) : PXT X a (fTru f) := PT.weak (pt_truth ha he) fun σ H Q ⟨ρ, k, rv, e, q⟩ => by
  unfold fTru at e
  cases e1 : f ρ with
  | none => rw [e1] at e; cases e
  | some d =>
    rw [e1] at e
    exact ⟨ρ, d, rv, e1, fun v H1 s1 d1 => ⟨k, tru_den e d1.den, q H1 s1⟩⟩
def fNot (t : FT) : FT := fun ρ => (t ρ).map (!·)
theorem pxt_not (ha : PXT X a t) : PXT X (.UnaryOp .Not a pos) (fNot t) := PT.weak (L2.pt_not ha) fun σ H Q ⟨ρ, k, rv, e, q⟩ => by
  unfold fNot at e
  cases e1 : t ρ with
  | none => rw [e1] at e; cases e
  | some d =>
    rw [e1] at e; cases e
    exact ⟨ρ, d, rv, e1, fun H1 s1 => q H1 s1⟩
def fAnd (t u : FT) : FT := fun ρ => (t ρ).bind fun k => if k = true then u ρ else some false
def fOr (t u : FT) : FT := fun ρ => (t ρ).bind fun k => if k = true then some true else u ρ
theorem pxw_or1 (ha : PXT X a t) : PXW X (.BoolOp .Or [a] pos) t := pw_or1 ha
theorem pxw_or (ha : PXT X a t) (hb : PXW X (.BoolOp .Or (b :: rest) pos) u) : PXW X (.BoolOp .Or (a :: b :: rest) pos) (fOr t u) := PW.weak (pw_or ha hb) fun σ H Q ⟨ρ, k, rv, e, q⟩ => by
  unfold fOr at e
  cases e1 : t ρ with
  | none => rw [e1] at e; cases e
  | some d =>
    rw [e1] at e
    refine ⟨ρ, d, rv, e1, fun H1 s1 => ?_⟩
    cases d with
    | false => rw [if_neg Bool.false_ne_true]; exact ⟨ρ, k, rv.same s1, e, fun H2 s2 => q H2 (s1.trans s2)⟩
    | true => rw [if_pos rfl]; cases e; exact q H1 s1
theorem pxt_of (ha : PXW X a t) : PXT X a t := PW.pt ha
/-! as values: bools -/
def bV (f : FE) : FT := fun ρ => (f ρ).bind fun d => match d with | .bl k => some k | _ => none
def fAndV (f g : FE) : FE := fun ρ => (bV f ρ).bind fun k => if k = true then g ρ else some (.bl false)
def fOrV (f g : FE) : FE := fun ρ => (bV f ρ).bind fun k => if k = true then some (.bl true) else g ρ
def fNotV (f : FE) : FE := fun ρ => (bV f ρ).map fun k => .bl (!k)
def fIf (t : FT) (f g : FE) : FE := fun ρ => (t ρ).bind fun k => if k = true then f ρ else g ρ

/-! ### argument lists, displays -/
def fNil : FA := fun _ => some []
def fCons (f : FE) (fa : FA) : FA := fun ρ => (f ρ).bind fun d => (fa ρ).map fun ds => d :: ds
theorem pxa_nil : PXA X [] fNil := PA.weak pa_nil fun σ H Q ⟨ρ, ds, rv, e, q⟩ => by cases e; exact q [] H (Same.refl H) denL_nil
theorem pxa_cons (ha : PX X e f) (hr : PXA X es fa) (hs : starEach (e :: es) X.env = (false, eval e X.env) :: starEach es X.env := by rfl) : PXA X (e :: es) (fCons f fa) := PA.weak (pa_cons ha hr hs) fun σ H Q ⟨ρ, ds, rv, e, q⟩ => by
  unfold fCons at e
  cases e1 : f ρ with
  | none => rw [e1] at e; cases e
  | some d =>
    cases e2 : fa ρ with
    | none => rw [e1, e2] at e; cases e
    | some dr =>
      rw [e1, e2] at e; cases e
      exact ⟨ρ, d, rv, e1, fun v H1 s1 d1 => ⟨ρ, dr, rv.same s1, e2, fun vs H2 s2 l2 => q _ H2 (s1.trans s2) (denL_cons (den_same s2 d1.den) l2)⟩⟩
def fTup (fa : FA) : FE := fun ρ => (fa ρ).bind fun ds => if ds.length ≤ lim then some (.tup ds) else none
def fLst (fa : FA) : FE := fun ρ => (fa ρ).bind fun ds => if ds.length ≤ lim then some (.own ds) else none
theorem px_lst (ha : PXA X es fa) : PX X (.List es pos) (fLst fa) := PE.weak (pe_lst ha) fun σ H Q ⟨ρ, d, rv, e, q⟩ => by
  unfold fLst at e
  cases e1 : fa ρ with
  | none => rw [e1] at e; cases e
  | some ds =>
    rw [e1] at e
    simp only [Option.bind_some] at e
    split at e
    · rename_i hl
      cases e
      refine ⟨ρ, ds, rv, e1, fun vs H1 s1 l1 => ⟨?_, fun p hp => q _ _ (s1.trans (same_upd hp _)) ((denF_new hp l1).elder s1)⟩⟩
      rw [← denL_length l1]; exact Nat.le_trans hl lim_line
    · cases e

/-! ### a[i] -/
def items : D → Option (List D)
  | .tup xs => some xs
  | .lst xs => some xs
  | .own xs => some xs
  | .scr xs => some xs
  | _ => none
theorem den_items {K : PySem.W.Frag} {O : Addr → Prop} {H : Hp} {d : D} {xs : List D} {v : V} (e : items d = some xs) (h : Den K O H d v) : ∃ a vs, v = .ref a ∧ (SqL K H a vs ∨ SqT K H a vs) ∧ DenL K O H xs vs := by
  cases d <;> simp only [items] at e <;> cases e <;> rw [Den] at h
  · obtain ⟨a, vs, ev, q, l⟩ := h; exact ⟨a, vs, ev, .inr q, l⟩
  · obtain ⟨a, vs, ev, q, _, l⟩ := h; exact ⟨a, vs, ev, .inl (.inl (.inl q)), l⟩
  · obtain ⟨a, vs, ev, q, _, l⟩ := h; exact ⟨a, vs, ev, .inl (.inl (.inl q)), l⟩
  · obtain ⟨a, vs, ev, q, l⟩ := h
    refine ⟨a, vs, ev, .inl ?_, l⟩
    rcases q with ⟨o, q⟩ | q
    · exact .inl (.inr ⟨o, q⟩)
    · rcases q with (q | ⟨o, q⟩) | q
      · cases q
      · cases q
      · exact .inr q
def oIx (x y : D) : Option D := match y with
  | .int i => (items x).bind fun xs => (atI xs i).map frz
  | _ => none
theorem atI_den {K : PySem.W.Frag} {O : Addr → Prop} {H : Hp} {xs : List D} {vs : List V} {i : Int} {d : D} (l : DenL K O H xs vs) (e : atI xs i = some d) : ∃ v, atI vs i = some v ∧ Den K O H d v := by
  unfold atI at e ⊢
  rw [← denL_length l]
  cases q : ixN xs.length i with
  | none => rw [q] at e; cases e
  | some j => rw [q] at e; exact denL_get l e
/-! ### a[lo:hi] of lists, tuples -/
abbrev FO := Ev → Option (Option Int)
def tO (X : Cx) (f : FO) : TO := fun σ H Q => ∃ ρ o, RepV X.K ρ σ H ∧ f ρ = some o ∧ ∀ H', Same H H' → Q o H'
def PXO (X : Cx) (e : Option Expr) (f : FO) : Prop := PO X e (tO X f)
theorem PO.weak {X : Cx} {e : Option Expr} {t u : TO} (h : PO X e t) (w : ∀ σ H Q, u σ H Q → t σ H Q) : PO X e u := fun pins s σ H Q I q => h pins s σ H Q I (w σ H Q q)
def fO0 : FO := fun _ => some none
def fO1 (f : FE) : FO := fun ρ => (f ρ).bind fun d => match d with | .int i => some (some i) | _ => none
theorem pxo_none : PXO X none fO0 := PO.weak po_none fun σ H Q ⟨ρ, o, rv, e, q⟩ => by cases e; exact q H (Same.refl H)
theorem pxo_some (ha : PX X e f) : PXO X (some e) (fO1 f) := PO.weak (po_some ha) fun σ H Q ⟨ρ, o, rv, e, q⟩ => by
  unfold fO1 at e
  cases e1 : f ρ with
  | none => rw [e1] at e; cases e
  | some d =>
    rw [e1] at e
    refine ⟨ρ, d, rv, e1, fun v H1 s1 d1 => ?_⟩
    cases d <;> simp only [Option.bind_some] at e <;> cases e
    rename_i i
    exact ⟨i, den_int.mp d1.den, q H1 s1⟩
def cutD (xs : List D) (lo hi : Option Int) : List D := (xs.drop (HT.sIx xs.length 0 lo)).take (HT.sIx xs.length xs.length hi - HT.sIx xs.length 0 lo)
theorem cutD_den {K : PySem.W.Frag} {O : Addr → Prop} {H : Hp} {xs : List D} {vs : List V} (lo hi : Option Int) (l : DenL K O H xs vs) : DenL K O H (cutD xs lo hi) (cutV vs lo hi) := by
  unfold cutD cutV
  rw [← denL_length l]
  exact denL_take _ (denL_drop _ l)

/-! ### built-in calls -/
def fCall (k : List D → Option D) (fa : FA) : FE := fun ρ => (fa ρ).bind k
theorem px_callB {x : Str} {p : Pos} {id : String} {r : List V → Hp → VK → Prop} {k : List D → Option D} (hc : CallR X (.builtin id) r)
    (hk : ∀ (ds : List D) (d : D) (vs : List V) (H : Hp) (Q : VK), k ds = some d → DenL X.K Emp H ds vs → (∀ w H', Same H H' → DenF X.K H H' d w → Q w H') → r vs H Q)
    (hv : bootBuiltins x = some (.builtin id)) (hm : X.mg x = none) (ha : PXA X (e :: es) fa) (hg : Gl X x := by rfl) (hn : x ≠ "__name__" := by decide) (hdb : (x == ("__debug__" : Str)) = false := by decide)
    (he : starEach (e :: es) X.env = (false, eval e X.env) :: starEach es X.env := by rfl) (hpl : (backTo pos (starEach es X.env)).any (·.1) = false := by rfl) : PX X (.Call (.Name x p) (e :: es) [] pos) (fCall k fa) := PE.weak (pe_callB hc hg hm hv ha hn hdb he hpl) fun σ H Q ⟨ρ, d, rv, e, q⟩ => by
  unfold fCall at e
  cases e1 : fa ρ with
  | none => rw [e1] at e; cases e
  | some ds =>
    rw [e1] at e
    exact ⟨ρ, ds, rv, e1, fun vs H1 s1 l1 => hk ds d vs H1 Q e l1 fun w H2 s2 d2 => q w H2 (s1.trans s2) (d2.elder s1)⟩
theorem denL1 {K : PySem.W.Frag} {O : Addr → Prop} {H : Hp} {d : D} {vs : List V} (l : DenL K O H [d] vs) : ∃ v, vs = [v] ∧ Den K O H d v := by
  rw [DenL] at l
  obtain ⟨v, r, rfl, h, l⟩ := l
  rw [DenL] at l; subst l
  exact ⟨v, rfl, h⟩
def kLen : List D → Option D
  | [d] => (items d).map fun xs => .int xs.length
  | _ => none
theorem px_len {p : Pos} (hm : X.mg "len" = none) (ha : PXA X [e] fa) (hg : Gl X "len" := by rfl) (he : starEach [e] X.env = (false, eval e X.env) :: starEach [] X.env := by rfl) : PX X (.Call (.Name "len" p) [e] [] pos) (fCall kLen fa) := px_callB call_len_seq (by
  intro ds d vs H Q ek l q
  match ds, ek, l with
  | [x], ek, l =>
    simp only [kLen] at ek
    cases e1 : items x with
    | none => rw [e1] at ek; cases ek
    | some xs =>
      rw [e1] at ek; cases ek
      obtain ⟨v, rfl, h⟩ := denL1 l
      obtain ⟨a, ws, rfl, hq, lw⟩ := den_items e1 h
      exact ⟨a, ws, rfl, hq, by rw [← denL_length lw]; exact q _ H (Same.refl H) denF_int⟩) PySem.boot_len hm ha hg (by decide) (by decide) he rfl
def kAbs : List D → Option D
  | [.int i] => some (.int (if i < 0 then -i else i))
  | _ => none
def kMax : List D → Option D
  | [.int i, .int j] => some (.int (if j > i then j else i))
  | _ => none
end
end Tw

set_option Elab.async false
set_option linter.all false
set_option maxRecDepth 100000
set_option maxHeartbeats 1000000
namespace Tw
open PySem PySem.Spec PyProof.Rows L2
section
variable {X : Cx} {a b c e : Expr} {es rest : List Expr} {pos : Pos} {f g h : FE} {t u : FT} {fa : FA}
/-! ### n.bit_length() -/
def fBits (f : FE) : FE := fun ρ => (f ρ).bind fun d => match d with | .int i => some (.int (Builtin.Int.intBits i : Nat)) | _ => none
theorem mt_bits : MtR X "int.bit_length" (fun x xs H Q => ∃ i, x = .int i ∧ xs = [] ∧ Q (.int (Builtin.Int.intBits i : Nat)) H) := by
  intro pins s σ H x xs v us Q I rx rs h
  obtain ⟨i, rfl, rfl, q⟩ := h
  obtain ⟨t, rfl⟩ := rx
  cases rs
  exact call_gives PySem.F.slot_int_bit_length (typeIs_int s i t) PySem.F.entry_int_bit_length (PySem.F.args_int_bit_length_1 _) (AutoIntG2.int_bit_length_int_0 i t) ⟨.int _, H, I.tok _, ⟨_, rfl⟩, q⟩
theorem px_bits {apos : Pos} (ha : PX X a f) (hbase : attributeBase a "bit_length" X.env (eval a X.env) = eval a X.env := by rfl) (hline : (apos.endLine == pos.line) = true := by rfl) : PX X (.Call (.Attribute a "bit_length" apos) [] [] pos) (fBits f) :=
  PE.weak (pe_bm0 PySem.F.plainAttrs_int PySem.F.slot_int_bit_length PySem.F.type_int_bit_length mt_bits ha hbase hline) fun σ H Q ⟨ρ, d, rv, e, q⟩ => by
  unfold fBits at e
  cases e1 : f ρ with
  | none => rw [e1] at e; cases e
  | some x =>
    rw [e1] at e
    refine ⟨ρ, x, rv, e1, fun v H1 s1 d1 => ?_⟩
    cases x <;> simp only [Option.bind_some] at e <;> cases e
    rename_i i
    have ev := den_int.mp d1.den
    exact ⟨by rw [ev]; rfl, i, ev, rfl, q _ H1 s1 denF_int⟩

/-! ### {} -/

/-! ### isinstance(e, T) -/
def tyD : D → String
  | .non => "NoneType"
  | .bl _ => "bool"
  | .int _ => "int"
  | .str _ => "str"
  | .tup _ => "tuple"
  | .dic => "dict"
  | .dct _ _ => "dict"
  | .odt _ _ => "dict"
  | _ => "list"
def isX : D → Bool
  | .exn _ => true
  | .exa _ _ => true
  | _ => false
def isiB (T : String) (d : D) : Bool := tyD d == T || (tyD d == "bool" && T == "int")
def fIsi (T : String) (f : FE) : FE := fun ρ => (f ρ).bind fun d => if isX d = true then none else some (.bl (isiB T d))

/-! ### is, is not: of None, of bools -/
def isD : D → D → Option Bool
  | .non, .non => some true
  | d, .non => some false
  | .bl a, .bl b => some (a == b)
  | .non, .bl _ => some false
  | .int _, .bl _ => some false
  | .str _, .bl _ => some false
  | .tup _, .bl _ => some false
  | .lst _, .bl _ => some false
  | .own _, .bl _ => some false
  | .dic, .bl _ => some false
  | .exn _, .bl _ => some false
  | _, _ => none
end
end Tw

set_option Elab.async false
set_option linter.all false
set_option maxRecDepth 100000
set_option maxHeartbeats 1000000
namespace Tw
open PySem PySem.Spec PyProof.Rows L2
section
variable {X : Cx} {a b c e : Expr} {es rest : List Expr} {pos : Pos} {f g h : FE} {t u : FT} {fa : FA}
def oIs (neg : Bool) (x y : D) : Option D := (isD x y).map fun k => .bl (if neg then !k else k)

/-! ### ==, != -/
def flatE : D → D → Option Bool
  | .non, .non => some true
  | .bl a, .bl b => some (a == b)
  | .bl a, .int b => some ((if a then 1 else 0) == b)
  | .int a, .bl b => some (a == (if b then 1 else 0))
  | .int a, .int b => some (a == b)
  | .str a, .str b => some (a == b)
  | _, _ => none
def deqL (eq : D → D → Option Bool) : List D → List D → Option Bool
  | [], [] => some true
  | [], _ :: _ => some false
  | _ :: _, [] => some false
  | x :: xs, y :: ys => (eq x y).bind fun p => (deqL eq xs ys).map fun q => p && q
def deq : Nat → D → D → Option Bool
  | 0, x, y => flatE x y
  | n + 1, .tup xs, .tup ys => deqL (deq n) xs ys
  | n + 1, .lst xs, .lst ys => deqL (deq n) xs ys
  | n + 1, .lst xs, .own ys => deqL (deq n) xs ys
  | n + 1, .own xs, .lst ys => deqL (deq n) xs ys
  | n + 1, .own xs, .own ys => deqL (deq n) xs ys
  | _ + 1, x, y => flatE x y
theorem flat_eqAt {K : PySem.W.Frag} {O : Addr → Prop} {H : Hp} {A : Around} {s : Shared} {x y : D} {v u : V} {vv uu : Value} {k : Bool} (e : flatE x y = some k) (hx : Den K O H x v) (hy : Den K O H y u) (rx : RelV v vv) (ry : RelV u uu) : SeqAt.EqAt A s vv uu k ∧ SeqAt.RcAt A s vv uu k ∧ SeqAt.RcNeAt A s vv uu (!k) := by
  cases x <;> cases y <;> simp only [flatE] at e <;> cases e <;> rw [Den] at hx <;> rw [Den] at hy <;> subst hx <;> subst hy
  · cases (show vv = Value.none from rx); cases (show uu = Value.none from ry); exact ⟨.same _, .none_none, .none_none⟩
  · cases (show vv = Value.bool _ from rx); cases (show uu = Value.bool _ from ry); exact ⟨.bool_bool _ _, .bool_bool _ _, .bool_bool _ _⟩
  · cases (show vv = Value.bool _ from rx); obtain ⟨t, z⟩ := (show ∃ t, uu = Value.int _ t from ry); cases z; exact ⟨.bool_int _ _ _, .bool_int _ _ _, .bool_int _ _ _⟩
  · cases (show uu = Value.bool _ from ry); obtain ⟨t, z⟩ := (show ∃ t, vv = Value.int _ t from rx); cases z; exact ⟨.int_bool _ _ _, .int_bool _ _ _, .int_bool _ _ _⟩
  · obtain ⟨t, z⟩ := (show ∃ t, vv = Value.int _ t from rx); cases z; obtain ⟨t, z⟩ := (show ∃ t, uu = Value.int _ t from ry); cases z; exact ⟨.int_int _ _ _ _, .int_int _ _ _ _, .int_int _ _ _ _⟩
  · obtain ⟨t, z⟩ := (show ∃ t, vv = Value.str _ t from rx); cases z; obtain ⟨t, z⟩ := (show ∃ t, uu = Value.str _ t from ry); cases z; exact ⟨.str_str _ _ _ _, .str_str _ _ _ _, .str_str _ _ _ _⟩
theorem flat_self {K : PySem.W.Frag} {O : Addr → Prop} {H : Hp} {x y : D} {v : V} {k : Bool} (e : flatE x y = some k) (hx : Den K O H x v) (hy : Den K O H y v) : k = true := by
  cases x <;> cases y <;> simp only [flatE] at e <;> cases e <;> rw [Den] at hx <;> rw [Den] at hy
  all_goals first
    | rfl
    | (rw [hx] at hy; cases hy; simp)
    | (rw [hx] at hy; cases hy)
/-- the places' answers -/
theorem deqL_at {K : PySem.W.Frag} {O : Addr → Prop} {H : Hp} {A : Around} {s : Shared} {eq : D → D → Option Bool} (hq : ∀ x y v u vv uu k, eq x y = some k → Den K O H x v → Den K O H y u → RelV v vv → RelV u uu → SeqAt.EqAt A s vv uu k) :
    ∀ {xs ys : List D} {vs us : List V} {its jts : List Value} {k : Bool}, deqL eq xs ys = some k → DenL K O H xs vs → DenL K O H ys us → Vals vs its → Vals us jts →
      ∃ e : Nat → Bool, (∀ j (h1 : j < its.toArray.size) (h2 : j < jts.toArray.size), SeqAt.EqAt A s its.toArray[j] jts.toArray[j] (e j)) ∧ k = ((List.range (min its.toArray.size jts.toArray.size)).all e && its.toArray.size == jts.toArray.size)
  | [], [], vs, us, its, jts, k, e, hx, hy, rx, ry => by
    rw [DenL] at hx hy; subst hx; subst hy; cases rx; cases ry
    cases e
    exact ⟨fun _ => true, fun j h1 h2 => absurd h1 (by simp), rfl⟩
  | [], y :: ys, vs, us, its, jts, k, e, hx, hy, rx, ry => by
    rw [DenL] at hx; rw [DenL] at hy; subst hx
    obtain ⟨u, r, rfl, _, _⟩ := hy
    cases rx; cases ry
    cases e
    exact ⟨fun _ => true, fun j h1 h2 => absurd h1 (by simp), by simp⟩
  | x :: xs, [], vs, us, its, jts, k, e, hx, hy, rx, ry => by
    rw [DenL] at hx; rw [DenL] at hy; subst hy
    obtain ⟨u, r, rfl, _, _⟩ := hx
    cases rx; cases ry
    cases e
    exact ⟨fun _ => true, fun j h1 h2 => absurd h2 (by simp), by simp⟩
  | x :: xs, y :: ys, vs, us, its, jts, k, e, hx, hy, rx, ry => by
    rw [DenL] at hx hy
    obtain ⟨v, r, rfl, dx, lx⟩ := hx
    obtain ⟨u, q, rfl, dy, ly⟩ := hy
    cases rx with
    | cons r1 rs1 =>
      cases ry with
      | cons r2 rs2 =>
        rw [deqL] at e
        cases e1 : eq x y with
        | none => rw [e1] at e; cases e
        | some p =>
          cases e2 : deqL eq xs ys with
          | none => rw [e1, e2] at e; cases e
          | some q2 =>
            rw [e1, e2] at e; cases e
            obtain ⟨w, h1, h2⟩ := deqL_at hq e2 lx ly rs1 rs2
            refine ⟨fun j => if j = 0 then p else w (j - 1), fun j g1 g2 => ?_, ?_⟩
            · cases j with
              | zero => simpa using hq x y v u _ _ p e1 dx dy r1 r2
              | succ j =>
                have z := h1 j (by simpa using g1) (by simpa using g2)
                simp only [List.getElem_toArray] at z ⊢
                simpa using z
            · rw [h2]
              simp only [List.size_toArray, List.length_cons]
              rw [show min (_ + 1) (_ + 1) = min _ _ + 1 from Nat.succ_min_succ _ _, List.range_succ_eq_map, List.all_cons, List.all_map]
              simp [Function.comp_def, Bool.and_assoc]
theorem deqL_self {K : PySem.W.Frag} {O : Addr → Prop} {H : Hp} {eq : D → D → Option Bool} (hq : ∀ x y v k, eq x y = some k → Den K O H x v → Den K O H y v → k = true) :
    ∀ {xs ys : List D} {vs : List V} {k : Bool}, deqL eq xs ys = some k → DenL K O H xs vs → DenL K O H ys vs → k = true
  | [], [], vs, k, e, hx, hy => by cases e; rfl
  | [], y :: ys, vs, k, e, hx, hy => by have := denL_length hx; have := denL_length hy; simp at *; omega
  | x :: xs, [], vs, k, e, hx, hy => by have := denL_length hx; have := denL_length hy; simp at *; omega
  | x :: xs, y :: ys, vs, k, e, hx, hy => by
    rw [DenL] at hx hy
    obtain ⟨v, r, rfl, dx, lx⟩ := hx
    obtain ⟨u, q, e0, dy, ly⟩ := hy
    cases e0
    rw [deqL] at e
    cases e1 : eq x y with
    | none => rw [e1] at e; cases e
    | some p =>
      cases e2 : deqL eq xs ys with
      | none => rw [e1, e2] at e; cases e
      | some q2 =>
        rw [e1, e2] at e; cases e
        rw [hq x y v p e1 dx dy, deqL_self hq e2 lx ly]; rfl
/-- the two kinds of sequences -/
theorem deq_cases {n : Nat} {x y : D} {k : Bool} (e : deq (n + 1) x y = some k) : flatE x y = some k ∨ (∃ xs ys, x = .tup xs ∧ y = .tup ys ∧ deqL (deq n) xs ys = some k) ∨ ∃ xs ys, asL x = some xs ∧ asL y = some ys ∧ deqL (deq n) xs ys = some k := by
  cases x <;> cases y <;> first
    | exact .inl e
    | exact .inr (.inl ⟨_, _, rfl, rfl, e⟩)
    | exact .inr (.inr ⟨_, _, rfl, rfl, e⟩)
theorem deq_self {pins : List (Addr × Obj)} {σ : L2.St} {H : Hp} {s : Shared} (I : Inv X pins σ H s) : ∀ (n : Nat) (x y : D) (v : V) (k : Bool), deq n x y = some k → Den X.K Emp H x v → Den X.K Emp H y v → k = true
  | 0, x, y, v, k, e, hx, hy => flat_self e hx hy
  | n + 1, x, y, v, k, e, hx, hy => by
    rcases deq_cases e with e | ⟨xs, ys, rfl, rfl, e⟩ | ⟨xs, ys, e1, e2, e⟩
    · exact flat_self e hx hy
    · rw [Den] at hx hy
      obtain ⟨a, vs, rfl, q1, l1⟩ := hx
      obtain ⟨b, us, z, q2, l2⟩ := hy
      cases z
      rw [I.tuple_inj q2 q1] at l2
      exact deqL_self (deq_self I n) e l1 l2
    · obtain ⟨a, vs, rfl, q1, _, l1⟩ := den_asL e1 hx
      obtain ⟨b, us, z, q2, _, l2⟩ := den_asL e2 hy
      cases z
      rw [q1] at q2; cases q2
      exact deqL_self (deq_self I n) e l1 l2
theorem deq_at {pins : List (Addr × Obj)} {σ : L2.St} {H : Hp} {s : Shared} (I : Inv X pins σ H s) : ∀ (n : Nat) (A : Around), A.units + n + 1 < cLine → ∀ (x y : D) (v u : V) (vv uu : Value) (k : Bool), deq n x y = some k → Den X.K Emp H x v → Den X.K Emp H y u → RelV v vv → RelV u uu →
    SeqAt.EqAt A s vv uu k ∧ SeqAt.RcAt A s vv uu k ∧ SeqAt.RcNeAt A s vv uu (!k)
  | 0, A, hA, x, y, v, u, vv, uu, k, e, hx, hy, rx, ry => flat_eqAt e hx hy rx ry
  | n + 1, A, hA, x, y, v, u, vv, uu, k, e, hx, hy, rx, ry => by
    have hin : ∀ x y v u vv uu k, deq n x y = some k → Den X.K Emp H x v → Den X.K Emp H y u → RelV v vv → RelV u uu → SeqAt.EqAt A.in1 s vv uu k := fun x y v u vv uu k e hx hy rx ry => (deq_at I n A.in1 (by show A.units + 1 + n + 1 < _; omega) x y v u vv uu k e hx hy rx ry).1
    have hu : A.units < cLine := by omega
    have done : ∀ (p q : Addr), v = .ref p → u = .ref q → SeqAt.RcAt A s (.ref p) (.ref q) k → SeqAt.RcNeAt A s (.ref p) (.ref q) (!k) → SeqAt.EqAt A s vv uu k ∧ SeqAt.RcAt A s vv uu k ∧ SeqAt.RcNeAt A s vv uu (!k) := fun p q ev eu rc rn => by
      subst ev; subst eu
      cases (show vv = Value.ref p from rx); cases (show uu = Value.ref q from ry)
      refine ⟨?_, rc, rn⟩
      by_cases pq : p = q
      · subst pq
        rw [deq_self I (n + 1) x y _ k e hx hy]
        exact .same _
      · exact .of_refs pq rc
    rcases deq_cases e with e | ⟨xs, ys, rfl, rfl, e⟩ | ⟨xs, ys, e1, e2, e⟩
    · exact flat_eqAt e hx hy rx ry
    · have hx' := hx
      have hy' := hy
      rw [Den] at hx' hy'
      obtain ⟨p, vs, ev, q1, l1⟩ := hx'
      obtain ⟨q, us, eu, q2, l2⟩ := hy'
      obtain ⟨its, r1, t1, _⟩ := I.tuple q1
      obtain ⟨jts, r2, t2, _⟩ := I.tuple q2
      obtain ⟨w, h1, h2⟩ := deqL_at hin e l1 l2 r1 r2
      refine done p q ev eu ?_ ?_
      · rw [h2]
        exact SeqAt.RcAt.tuples t1 t2 hu h1
      · rw [h2]
        exact SeqAt.RcNeAt.tuples t1 t2 hu h1
    · obtain ⟨p, vs, ev, q1, _, l1⟩ := den_asL e1 hx
      obtain ⟨q, us, eu, q2, _, l2⟩ := den_asL e2 hy
      obtain ⟨its, r1, t1, _⟩ := I.list (.inl (.inl q1))
      obtain ⟨jts, r2, t2, _⟩ := I.list (.inl (.inl q2))
      obtain ⟨w, h1, h2⟩ := deqL_at hin e l1 l2 r1 r2
      by_cases sz : its.toArray.size = jts.toArray.size
      · have r1 := SeqAt.RcAt.lists t1.isList t2.isList sz hu h1
        have r2 := SeqAt.RcNeAt.lists t1.isList t2.isList sz hu h1
        rw [sz, Nat.min_self, show (jts.toArray.size == jts.toArray.size) = true by simp, Bool.and_true] at h2
        rw [sz, ← h2] at r1 r2
        exact done p q ev eu r1 r2
      · have r1 := SeqAt.RcAt.lists_lengths (A := A) t1.isList t2.isList (by simpa using sz) hu
        have r2 := SeqAt.RcNeAt.lists_lengths (A := A) t1.isList t2.isList (by simpa using sz) hu
        rw [show (its.toArray.size == jts.toArray.size) = false by simpa using sz, Bool.and_false] at h2
        subst h2
        exact done p q ev eu r1 r2
def rEqD (K : PySem.W.Frag) (neg : Bool) : R2 := fun v u H Q => ∃ x y k, deq 20 x y = some k ∧ Den K Emp H x v ∧ Den K Emp H y u ∧ Q (.bl (if neg then !k else k)) H
theorem op_eqD {k : Nat} (hr : Room k X.A) : OpR X (compareOp .Eq) (rEqD X.K false) := by
  intro pins s σ H x y v u Q I rx ry ⟨dx, dy, k, e, hx, hy, q⟩
  have := (deq_at I 20 X.A (by have := hr.units; omega) dx dy x y v u k e hx hy rx ry).2.1
  exact this X.prog X.w X.xe _ ⟨.bl k, H, I, rfl, q⟩
theorem op_neD {k : Nat} (hr : Room k X.A) : OpR X (compareOp .NotEq) (rEqD X.K true) := by
  intro pins s σ H x y v u Q I rx ry ⟨dx, dy, k, e, hx, hy, q⟩
  have := (deq_at I 20 X.A (by have := hr.units; omega) dx dy x y v u k e hx hy rx ry).2.2
  exact this X.prog X.w X.xe _ ⟨.bl (!k), H, I, rfl, q⟩
def oEqN (neg : Bool) (x y : D) : Option D := (deq 20 x y).map fun k => .bl (if neg then !k else k)
theorem kEq {neg : Bool} : ∀ (x y d : D) (v u : V) (H : Hp) (Q : VK), oEqN neg x y = some d → Den X.K Emp H x v → Den X.K Emp H y u → (∀ w H', Same H H' → DenF X.K H H' d w → Q w H') → rEqD X.K neg v u H Q := by
  intro x y d v u H Q e hx hy q
  unfold oEqN at e
  cases e1 : deq 20 x y with
  | none => rw [e1] at e; cases e
  | some k => rw [e1] at e; cases e; exact ⟨x, y, k, e1, hx, hy, q _ H (Same.refl H) denF_bl⟩
theorem px_eq {k : Nat} (hr : Room k X.A) (ha : PX X a f) (hb : PX X b g) : PX X (.Compare a [.Eq] [b] pos) (fBin (oEqN false) f g) := px_cmp (op_eqD hr) kEq ha hb
theorem pxt_ne {k : Nat} (hr : Room k X.A) (ha : PX X a f) (hb : PX X b g) : PXT X (.Compare a [.NotEq] [b] pos) (fTest (fBin (oEqN true) f g)) := pt_cmpX (op_neD hr) kEq ha hb
end
end Tw

set_option Elab.async false
set_option linter.all false
set_option maxRecDepth 100000
set_option maxHeartbeats 1000000
namespace Tw
open PySem PySem.Spec PyProof.Rows L2
/-! ### statements -/
def fThen (F G : FS) : FS := fun ρ => (F ρ).bind fun r => match r with
  | .nx ρ' => G ρ'
  | r => some r
section
variable {X : Cx} {P : List (D × V)} {a b c e : Expr} {es : List Expr} {st : Stmt} {rest bd els : List Stmt} {pos : Pos} {f g : FE} {t : FT} {fa : FA} {F G : FS}
theorem px_nil : PXSs X [] (fun ρ => some (.nx ρ)) := PSs.weak pss_nil fun E σ H ⟨P, own, ρ, r, rp, e, q⟩ => by cases e; exact q own σ H rp
theorem px_cons (h1 : PXS X st F) (h2 : PXSs X rest G) : PXSs X (st :: rest) (fThen F G) := PSs.weak (pss_cons h1 h2) fun E σ H ⟨P, own, ρ, r, rp, e, q⟩ => by
  unfold fThen at e
  cases e1 : F ρ with
  | none => rw [e1] at e; cases e
  | some r1 =>
    rw [e1] at e
    refine ⟨P, own, ρ, r1, rp, e1, ?_⟩
    cases r1 with
    | nx ρ' => exact fun own' σ' H' rp' => ⟨P, own', ρ', r, rp', e, q⟩
    | bk ρ' => cases e; exact q
    | ct ρ' => cases e; exact q
    | rt d => cases e; exact q
theorem px_last (h1 : PXS X st F) : PXSs X [st] F := pss_one h1
def fRet (f : FE) : FS := fun ρ => (f ρ).map .rt
theorem pxs_ret (ha : PX X e f) : PXS X (.Return (some e) pos) (fRet f) := PS.weak (ps_ret ha) fun E σ H ⟨P, own, ρ, r, rp, e, q⟩ => by
  unfold fRet at e
  cases e1 : f ρ with
  | none => rw [e1] at e; cases e
  | some d =>
    rw [e1] at e; cases e
    exact ⟨ρ, d, rp.view, e1, fun v H1 s1 d1 => q v H1 (rp.same.trans s1) (d1.elder rp.same)⟩
/-- a name's own list leaves -/
def fRetN (i : Nat) : FS := fun ρ => match ρ[i]? with
  | some (some d) => some (.rt d)
  | _ => none
theorem pxs_retN (i : Nat) {x : Str} {p : Pos} (hN : X.N[i]? = some x := by rfl) (hv : Vis X.env.scope x := by first | exact Or.inl rfl | exact Or.inr (Or.inl rfl) | exact Or.inr (Or.inr rfl)) (hd : (x == ("__debug__" : Str)) = false := by decide) (hcd : (x == ("__classdict__" : Str)) = false := by decide) :
    PXS X (.Return (some (.Name x p)) pos) (fRetN i) := PS.weak (ps_ret (pe_var hN hv hd hcd)) fun E σ H ⟨P, own, ρ, r, rp, e, q⟩ => by
  unfold fRetN at e
  split at e
  · rename_i d e0
    cases e
    obtain ⟨v, h1, h2⟩ := rp.slot i d e0
    obtain ⟨v', h1', h3⟩ := rp.view i d e0
    rw [h1] at h1'; cases h1'
    refine ⟨v, h1, q v H rp.same ?_⟩
    cases d with
    | own xs =>
      obtain ⟨a, vs, e1, e2, e3, l⟩ := h2
      exact ⟨a, vs, e2, rp.new i a e1, e3, denL_mono (fun _ _ q _ => q) rp.isL (fun b z => .inl ⟨i, by rw [z]; exact e1⟩) _ _ l⟩
    | odt ks xs =>
      obtain ⟨a, vs, e1, e2, e3, hl, fl, l⟩ := h2
      exact ⟨a, vs, e2, rp.new i a e1, e3, hl, denL_lf _ _ fl l⟩
    | _ => exact h3
  · cases e
def fIfS (t : FT) (F G : FS) : FS := fun ρ => (t ρ).bind fun k => if k = true then F ρ else G ρ
theorem pxs_if (hc : PXT X c t) (ha : PXSs X bd F) (hb : PXSs X els G) : PXS X (.If c bd els pos) (fIfS t F G) := PS.weak (ps_if hc ha hb) fun E σ H ⟨P, own, ρ, r, rp, e, q⟩ => by
  unfold fIfS at e
  cases e1 : t ρ with
  | none => rw [e1] at e; cases e
  | some k =>
    rw [e1] at e
    refine ⟨ρ, k, rp.view, e1, fun H1 s1 => ?_⟩
    cases k with
    | true => rw [if_pos rfl]; exact ⟨P, own, ρ, r, rp.grow s1, e, q⟩
    | false => rw [if_neg Bool.false_ne_true]; exact ⟨P, own, ρ, r, rp.grow s1, e, q⟩
/-! name = e -/
def fAsg (i : Nat) (f : FE) : FS := fun ρ => (f ρ).map fun d => .nx (bindD ρ i d)
theorem pxs_set (i : Nat) {x : Str} {pos' : Pos} (hN : X.N.Nodup) (ha : PX X e f) (hi : X.N[i]? = some x := by rfl) (hx : Loc X.env.scope x := by first | exact Or.inl rfl | exact Or.inr rfl) (hs : swapsWith e (some (.Name x pos')) pos.line X.env = pure false := by rfl) (hf : X.fn x = true ∨ X.env.scope.names.lookup x = some .local := by first | exact .inl rfl | exact .inr rfl) :
    PXS X (.Assign [.Name x pos'] e pos) (fAsg i f) := PS.weak (ps_set hN hi hx ha hs hf) fun E σ H ⟨P, own, ρ, r, rp, e, q⟩ => by
  unfold fAsg at e
  cases e1 : f ρ with
  | none => rw [e1] at e; cases e
  | some d =>
    rw [e1] at e; cases e
    refine ⟨ρ, d, rp.view, e1, fun v H1 s1 d1 => ?_⟩
    obtain ⟨own', rp'⟩ := rp.bind (i := i) s1 d1
    exact q own' _ H1 rp'
/-! a, b = x, y -/
def fPar (i j : Nat) (fa : FA) : FS := fun ρ => (fa ρ).bind fun ds => match ds with
  | [d, d'] => if lf d = true ∧ lf d' = true then some (.nx ((ρ.set i (some d)).set j (some d'))) else none
  | _ => none
/-! (a, b, ..) = a tuple -/
def setAll : List Nat → List D → Ev → Ev
  | i :: is, d :: ds, ρ => setAll is ds (ρ.set i (some d))
  | _, _, ρ => ρ
def fUnp (is : List Nat) (f : FE) : FS := fun ρ => (f ρ).bind fun d => match d with
  | .tup ds => if ds.length = is.length ∧ lfL ds = true then some (.nx (setAll is ds ρ)) else none
  | _ => none
/-- the targets are names -/
inductive Tg (X : Cx) : List Expr → List Nat → Prop where
  | nil : Tg X [] []
  | cons {i : Nat} {x : Str} {p : Pos} {es : List Expr} {is : List Nat} (hi : X.N[i]? = some x) (hx : Loc X.env.scope x) (hf : X.fn x = true ∨ X.env.scope.names.lookup x = some .local)
      (hs : (assignEach (.Name x p :: es) X.env).map (·.2) = assign (.Name x p) X.env :: (assignEach es X.env).map (·.2)) (t : Tg X es is) : Tg X (.Name x p :: es) (i :: is)
/-! x.append(e) -/
def fApp (i : Nat) (f : FE) : FS := fun ρ => (f ρ).bind fun d => match ρ[i]? with
  | some (some (.own xs)) => if lf d = true ∧ xs.length < lim then some (.nx (ρ.set i (some (.own (xs ++ [d]))))) else none
  | _ => none
theorem pxs_app (i : Nat) {x : Str} {p apos cpos : Pos} (ha : PX X e f) (hN : X.N[i]? = some x := by rfl) (hv : Vis X.env.scope x := by first | exact Or.inl rfl | exact Or.inr (Or.inl rfl) | exact Or.inr (Or.inr rfl)) (hd : (x == ("__debug__" : Str)) = false := by decide) (hcd : (x == ("__classdict__" : Str)) = false := by decide)
    (hbase : attributeBase (.Name x p) "append" X.env (eval (.Name x p) X.env) = eval (.Name x p) X.env := by rfl)
    (hfew : ((backTo cpos (starEach [e] X.env)).all (fun x => !x.1) && (backToKw cpos (keywordEach [] X.env)).all (fun x => x.1.isSome) && decide (([e] : List Expr).length + ([] : List Keyword).length + (if ([] : List Keyword).isEmpty then 0 else 1) < 30)) = true := by rfl)
    (hline : (apos.endLine == cpos.line) = true := by rfl) (hs : starEach [e] X.env = (false, eval e X.env) :: starEach [] X.env := by rfl) (hsw : swapsWith (.Call (.Attribute (.Name x p) "append" apos) [e] [] cpos) none pos.line X.env = pure false := by rfl) :
    PXS X (.Expr (.Call (.Attribute (.Name x p) "append" apos) [e] [] cpos) pos) (fApp i f) :=
  PS.weak (ps_expr (pe_bm PySem.F.plainAttrs_list PySem.F.slot_list_append PySem.F.type_list_append mt_append (pe_var hN hv hd hcd) (pa_cons ha pa_nil hs) hbase hfew hline hs rfl) hsw) fun E σ H ⟨P, own, ρ, r, rp, e, q⟩ => by
  unfold fApp at e
  cases e1 : f ρ with
  | none => rw [e1] at e; cases e
  | some d =>
    rw [e1] at e
    simp only [Option.bind_some] at e
    split at e
    · rename_i xs e0
      split at e
      · rename_i hl
        cases e
        obtain ⟨v, h1, a, vs, h2, h3, h4, l⟩ := rp.slot i _ e0
        subst h3
        refine ⟨_, h1, .inl ⟨rfl, vs, .inl (.inl h4)⟩, ⟨ρ, d, rp.view, e1, fun w H1 s1 d1 => ⟨a, vs, w, rfl, rfl, s1 _ _ h4, ?_, ?_⟩⟩⟩
        · rw [← denL_length l]; exact Nat.lt_of_lt_of_le hl.2 lim_line
        · have rp1 := rp.grow s1
          have l1 : DenL X.K (Own own) H1 xs vs := denL_mono (fun b o q _ => s1 b o q) rp.isL (fun b z => .inl z) _ _ l
          exact q own σ _ (rp1.mut e0 h2 (denL_append l1 (denL_cons (den_lf _ _ hl.1 d1.den) denL_nil)))
      · cases e
    · cases e
/-! an expression alone -/
def fDrop (f : FE) : FS := fun ρ => (f ρ).map fun _ => .nx ρ
/-! while -/
def whileF (c : FT) (b : FS) : Nat → Ev → Option R
  | 0, _ => none
  | n + 1, ρ => (c ρ).bind fun k => if k = true then (b ρ).bind (fun r => match r with
      | .nx ρ' => whileF c b n ρ'
      | .ct ρ' => whileF c b n ρ'
      | .bk ρ' => some (.nx ρ')
      | .rt d => some (.rt d)) else some (.nx ρ)
theorem whileF_more {c : FT} {b : FS} : ∀ {n : Nat} {ρ : Ev} {r : R}, whileF c b n ρ = some r → whileF c b (n + 1) ρ = some r
  | 0, ρ, r, h => by cases h
  | n + 1, ρ, r, h => by
    rw [whileF] at h ⊢
    cases e : c ρ with
    | none => rw [e] at h; cases h
    | some k =>
      rw [e] at h
      cases k with
      | false => exact h
      | true =>
        simp only [Option.bind_some, if_true] at h ⊢
        cases e2 : b ρ with
        | none => rw [e2] at h; cases h
        | some r2 =>
          rw [e2] at h
          cases r2 with
          | nx ρ' => exact whileF_more (n := n) h
          | ct ρ' => exact whileF_more (n := n) h
          | bk ρ' => exact h
          | rt d => exact h
theorem whileF_le {c : FT} {b : FS} {n m : Nat} {ρ : Ev} {r : R} (h : whileF c b n ρ = some r) (hm : n ≤ m) : whileF c b m ρ = some r := by
  induction hm with
  | refl => exact h
  | step _ ih => exact whileF_more ih
open Classical in
noncomputable def whileV (c : FT) (b : FS) : FS := fun ρ => if h : ∃ r, ∃ n, whileF c b n ρ = some r then some h.choose else none
theorem whileV_of {c : FT} {b : FS} {n : Nat} {ρ : Ev} {r : R} (h : whileF c b n ρ = some r) : whileV c b ρ = some r := by
  have z : ∃ r, ∃ n, whileF c b n ρ = some r := ⟨r, n, h⟩
  unfold whileV
  rw [dif_pos z]
  obtain ⟨m, hm⟩ := z.choose_spec
  have h1 := whileF_le h (Nat.le_max_left n m)
  have h2 := whileF_le hm (Nat.le_max_right n m)
  rw [h1] at h2
  exact h2.symm
theorem of_whileV {c : FT} {b : FS} {ρ : Ev} {r : R} (h : whileV c b ρ = some r) : ∃ n, whileF c b n ρ = some r := by
  unfold whileV at h
  split at h
  · rename_i z
    cases h
    exact z.choose_spec
  · cases h
theorem pxs_while {body : List Stmt} {b : FS} (hp : PassesOwn (model X.prog X.w) X.A X.env X.xe) (hc : PXT X c t) (hb : PXSs X body b) : PXS X (.While c body [] pos) (whileV t b) := PS.weak (ps_while hp hc hb) fun E σ H ⟨P, own, ρ, r, rp, e, q⟩ => by
  obtain ⟨n, e⟩ := of_whileV e
  refine ⟨fun m σ H => ∃ own ρ, Rep X P ρ own σ H ∧ whileF t b m ρ = some r, ⟨n, own, ρ, rp, e⟩, fun m σ H ⟨own, ρ, rp, e⟩ => ?_⟩
  cases m with
  | zero => cases e
  | succ m =>
    rw [whileF] at e
    cases e1 : t ρ with
    | none => rw [e1] at e; cases e
    | some k =>
      rw [e1] at e
      refine ⟨ρ, k, rp.view, e1, fun H1 s1 => ?_⟩
      cases k with
      | false =>
        rw [if_neg Bool.false_ne_true]
        cases e
        exact q own σ H1 (rp.grow s1)
      | true =>
        rw [if_pos rfl]
        simp only [Option.bind_some, if_true] at e
        cases e2 : b ρ with
        | none => rw [e2] at e; cases e
        | some r2 =>
          rw [e2] at e
          refine ⟨fun σ' H' => ∃ own ρ, Rep X P ρ own σ' H' ∧ whileF t b m ρ = some r, fun σ' H' h => ⟨m, Nat.lt_succ_self m, h⟩, P, own, ρ, r2, rp.grow s1, e2, ?_⟩
          cases r2 with
          | nx ρ' => exact fun own' σ' H' rp' => ⟨own', ρ', rp', e⟩
          | ct ρ' => exact fun own' σ' H' rp' => ⟨own', ρ', rp', e⟩
          | bk ρ' => cases e; exact fun own' σ' H' rp' => q own' σ' H' rp'
          | rt d => cases e; exact q
/-! for -/
def loopF (b : D → FS) : List D → Ev → Option R
  | [], ρ => some (.nx ρ)
  | x :: xs, ρ => (b x ρ).bind fun r => match r with
    | .nx ρ' => loopF b xs ρ'
    | .ct ρ' => loopF b xs ρ'
    | .bk ρ' => some (.nx ρ')
    | .rt d => some (.rt d)
/-- a target of a loop -/
def PXG (X : Cx) (tg : Expr) (g : TG) (gf : D → Ev → Option Ev) : Prop := ∀ (P : List (D × V)) (d : D) (v : V) (own : Nat → Option Addr) (ρ ρ' : Ev) (σ : L2.St) (H : Hp) (Q : L2.St → Hp → Prop), Rep X P ρ own σ H → Den X.K (Own own) H d v → gf d ρ = some ρ' → (∀ own' σ', Rep X P ρ' own' σ' H → Q σ' H) → g v σ H Q
def gfName (i : Nat) : D → Ev → Option Ev := fun d ρ => some (ρ.set i (some (frz d)))
theorem pxg_name (i : Nat) : PXG X (.Name "" pos) (gName i) (gfName i) := fun P d v own ρ ρ' σ H Q rp h e q => by
  unfold gfName at e
  cases e
  exact q _ _ (rp.put (i := i) (by cases d <;> rfl) (den_frz.mpr h))
def gfTup (is : List Nat) : D → Ev → Option Ev := fun d ρ => match d with
  | .tup ds => if ds.length = is.length ∧ lfL ds = true then some (setAll is ds ρ) else none
  | _ => none
def turnF (gf : D → Ev → Option Ev) (b : FS) : D → FS := fun x ρ => (gf x ρ).bind b
theorem loop_ok {K : PySem.W.Frag} {J : It} {g : TG} {gf : D → Ev → Option Ev} {tg : Expr} {b : FS} {E : Ends} {xs : List D} {r : R} {H0 : Hp} {σ : L2.St} {own : Nat → Option Addr} {ρ : Ev} (hg : PXG X tg g gf) (P' : List (D × V)) (hP : ∀ p ∈ P, p ∈ P')
    (hgo : ∀ (i : Nat) (own : Nat → Option Addr) (ρ : Ev) (σ : L2.St) (H : Hp) (x : D), Rep X P' ρ own σ H → xs[i]? = some x → J.go i H ∧ ∀ v H', J.yld i H v H' → H' = H ∧ Den X.K (Own own) H x v)
    (hst : ∀ (own : Nat → Option Addr) (ρ : Ev) (σ : L2.St) (H : Hp), Rep X P' ρ own σ H → J.stop xs.length H)
    (rp : Rep X P' ρ own σ H0) (e : loopF (turnF gf b) xs ρ = some r) (q : EndsOk X P E r) :
    ∃ W : Nat → Nat → L2.St → Hp → Prop, (∃ m, W 0 m σ H0) ∧ ∀ i m σ H, W i m σ H →
      (J.stop i H ∧ E.nx σ H) ∨ (J.go i H ∧ ∃ N : L2.St → Hp → Prop, (∀ σ' H', N σ' H' → ∃ m', m' < m ∧ W (i + 1) m' σ' H') ∧ ∀ x H', J.yld i H x H' → g x σ H' fun σ2 H2 => tS X b { E with nx := N, ct := N, bk := E.nx } σ2 H2) := by
  have weak : ∀ {ρ own σ H}, Rep X P' ρ own σ H → Rep X P ρ own σ H := fun rp => ⟨rp.same, rp.len, rp.slot, rp.inj, rp.lst, rp.new, fun p hp => rp.prot p (hP p hp)⟩
  refine ⟨fun i m σ H => m = xs.length - i ∧ i ≤ xs.length ∧ ∃ own ρ, Rep X P' ρ own σ H ∧ loopF (turnF gf b) (xs.drop i) ρ = some r, ⟨xs.length, by simp, Nat.zero_le _, own, ρ, rp, by simpa using e⟩, ?_⟩
  rintro i m σ H ⟨rfl, hi, own, ρ, rp, e⟩
  by_cases hlt : i < xs.length
  · obtain ⟨go, yl⟩ := hgo i own ρ σ H xs[i] rp (by simp [hlt])
    refine .inr ⟨go, fun σ' H' => ∃ own ρ, Rep X P' ρ own σ' H' ∧ loopF (turnF gf b) (xs.drop (i + 1)) ρ = some r, fun σ' H' h => ⟨xs.length - (i + 1), by omega, rfl, hlt, h⟩, fun v H' y => ?_⟩
    obtain ⟨rfl, dv⟩ := yl v H' y
    rw [List.drop_eq_getElem_cons hlt, loopF] at e
    cases e1 : turnF gf b xs[i] ρ with
    | none => rw [e1] at e; cases e
    | some r1 =>
      rw [e1] at e
      simp only [Option.bind_some] at e
      unfold turnF at e1
      cases e2 : gf xs[i] ρ with
      | none => rw [e2] at e1; cases e1
      | some ρ1 =>
        rw [e2] at e1
        refine hg P' xs[i] v own ρ ρ1 σ _ _ rp dv e2 fun own' σ' rp' => ⟨P', own', ρ1, r1, rp', e1, ?_⟩
        cases r1 with
        | nx ρ2 => exact fun own2 σ2 H2 rp2 => ⟨own2, ρ2, rp2, e⟩
        | ct ρ2 => exact fun own2 σ2 H2 rp2 => ⟨own2, ρ2, rp2, e⟩
        | bk ρ2 => cases e; exact fun own2 σ2 H2 rp2 => q own2 σ2 H2 (weak rp2)
        | rt d => cases e; exact q
  · have ei : i = xs.length := by omega
    subst ei
    rw [List.drop_length, loopF] at e
    cases e
    exact .inl ⟨hst own ρ σ H rp, q own σ H (weak rp)⟩
/-- a list or a tuple is walked -/
def iSeq (K : PySem.W.Frag) (tl : TE) : TI := fun σ H R => tl σ H fun x H1 => (∃ a, x = .ref a ∧ (∃ xs, SqL K H1 a xs) ∧ R (Itl K a) H1) ∨ ∃ a, x = .ref a ∧ (∃ xs, SqT K H1 a xs) ∧ R (Itt K a) H1
theorem pi_seq {tg l : Expr} {tl : TE} (hl : PE X l tl) : PI X tg l (iSeq X.K tl) := by
  intro pins s σ H R I h
  refine thn (hl pins s σ H _ I h) fun v s1 ⟨x, H1, I1, r1, q1⟩ => ?_
  rcases q1 with ⟨a, e, ⟨xs, hq⟩, q⟩ | ⟨a, e, ⟨xs, hq⟩, q⟩
  · subst e
    cases r1
    obtain ⟨its, rv, p, hz⟩ := I1.list hq
    refine wpAny_pyIter_list p.isList ?_
    refine ⟨s1.heap.objs.size, [s1.heap.objs.size], _, _, H1, rfl, I1.kept (t' := s1.toks) fun b o e => Heap.get?_push_of_some _ e, turn_list a _, ⟨_, Heap.get?_push_size _ rfl, rfl, rfl⟩, fun b hb => ?_, q⟩
    have e : b = s1.heap.objs.size := by simpa using hb
    subst e
    exact I1.fpOk (Nat.le_refl _) (I1.hok.fresh (Nat.le_refl _))
  · subst e
    cases r1
    obtain ⟨its, rv, p, hz⟩ := I1.tuple hq
    refine wpAny_pyIter_tuple (show s1.heap.IsTuple a its.toArray from p) ?_
    refine ⟨s1.heap.objs.size, [s1.heap.objs.size], _, _, H1, rfl, I1.kept (t' := s1.toks) fun b o e => Heap.get?_push_of_some _ e, turn_tuple a _, ⟨_, Heap.get?_push_size _ rfl, rfl, rfl⟩, fun b hb => ?_, q⟩
    have e : b = s1.heap.objs.size := by simpa using hb
    subst e
    exact I1.fpOk (Nat.le_refl _) (I1.hok.fresh (Nat.le_refl _))
theorem Rep.more {ρ : Ev} {own : Nat → Option Addr} {σ : L2.St} {H : Hp} (rp : Rep X P ρ own σ H) {d : D} {v : V} (h : Den X.K (Own own) H d v) : Rep X ((d, v) :: P) ρ own σ H :=
  ⟨rp.same, rp.len, rp.slot, rp.inj, rp.lst, rp.new, fun p hp => by
    rcases List.mem_cons.mp hp with e | e
    · rw [e]; exact h
    · exact rp.prot p e⟩
/-- what may be walked, and how the names stand then -/
def walkD : D → Ev → Option (List D × Ev)
  | .own xs, ρ => if lfL xs = true then some (xs, ρ) else none
  | .scr xs, ρ => if lfL xs = true then some (xs, ρ) else none
  | .tup xs, ρ => if lfL xs = true then some (xs, ρ) else none
  | .lst xs, ρ => if lfL xs = true then some (xs, frzAll ρ) else none
  | _, _ => none
def fFor (f : FE) (gf : D → Ev → Option Ev) (b : FS) : FS := fun ρ => (f ρ).bind fun d => (walkD d ρ).bind fun p => loopF (turnF gf b) p.1 p.2
theorem seq_loop {g : TG} {gf : D → Ev → Option Ev} {tg : Expr} {b : FS} {E : Ends} {xs : List D} {r : R} {H : Hp} {σ : L2.St} {own : Nat → Option Addr} {ρ : Ev} {a : Addr} {d : D} (hg : PXG X tg g gf) (hd : items d = some xs) (fl : lfL xs = true)
    (rp : Rep X P ρ own σ H) (h : Den X.K (Own own) H d (.ref a)) (e : loopF (turnF gf b) xs ρ = some r) (q : EndsOk X P E r) :
    (∃ a', V.ref a = .ref a' ∧ (∃ xs, SqL X.K H a' xs) ∧ ∃ W : Nat → Nat → L2.St → Hp → Prop, (∃ m, W 0 m σ H) ∧ ∀ i m σ H, W i m σ H →
      ((Itl X.K a').stop i H ∧ E.nx σ H) ∨ ((Itl X.K a').go i H ∧ ∃ N : L2.St → Hp → Prop, (∀ σ' H', N σ' H' → ∃ m', m' < m ∧ W (i + 1) m' σ' H') ∧ ∀ x H', (Itl X.K a').yld i H x H' → g x σ H' fun σ2 H2 => tS X b { E with nx := N, ct := N, bk := E.nx } σ2 H2)) ∨
    (∃ a', V.ref a = .ref a' ∧ (∃ xs, SqT X.K H a' xs) ∧ ∃ W : Nat → Nat → L2.St → Hp → Prop, (∃ m, W 0 m σ H) ∧ ∀ i m σ H, W i m σ H →
      ((Itt X.K a').stop i H ∧ E.nx σ H) ∨ ((Itt X.K a').go i H ∧ ∃ N : L2.St → Hp → Prop, (∀ σ' H', N σ' H' → ∃ m', m' < m ∧ W (i + 1) m' σ' H') ∧ ∀ x H', (Itt X.K a').yld i H x H' → g x σ H' fun σ2 H2 => tS X b { E with nx := N, ct := N, bk := E.nx } σ2 H2)) := by
  have rp' := rp.more h
  have any : ∀ {ρ own σ H}, Rep X ((d, .ref a) :: P) ρ own σ H → ∃ vs, (SqL X.K H a vs ∧ (∀ ys, d ≠ .tup ys) ∨ SqT X.K H a vs ∧ ∃ ys, d = .tup ys) ∧ DenL X.K (Own own) H xs vs := fun {ρ own σ H} rp => by
    have z := rp.prot _ List.mem_cons_self
    cases d with
    | tup ys =>
      cases hd
      rw [Den] at z
      obtain ⟨a', vs, ev, hq, l⟩ := z
      cases ev
      exact ⟨vs, .inr ⟨hq, _, rfl⟩, l⟩
    | lst ys => cases hd; rw [Den] at z; obtain ⟨a', vs, ev, hq, _, l⟩ := z; cases ev; exact ⟨vs, .inl ⟨.inl (.inl hq), fun ys z => by cases z⟩, l⟩
    | own ys => cases hd; rw [Den] at z; obtain ⟨a', vs, ev, hq, _, l⟩ := z; cases ev; exact ⟨vs, .inl ⟨.inl (.inl hq), fun ys z => by cases z⟩, l⟩
    | scr ys =>
      cases hd; rw [Den] at z; obtain ⟨a', vs, ev, hq, l⟩ := z; cases ev
      refine ⟨vs, .inl ⟨?_, fun ys z => by cases z⟩, l⟩
      rcases hq with ⟨o, hq⟩ | hq
      · exact .inl (.inr ⟨o, hq⟩)
      · rcases hq with (hq | ⟨o, hq⟩) | hq
        · cases hq
        · cases hq
        · exact .inr hq
    | _ => cases hd
  obtain ⟨vs, kind, l⟩ := any rp'
  rcases kind with ⟨hq, nt⟩ | ⟨hq, ys, et⟩
  · refine .inl ⟨a, rfl, ⟨vs, hq⟩, loop_ok (K := X.K) hg ((d, .ref a) :: P) (fun p hp => List.mem_cons_of_mem _ hp) (fun i own ρ σ H x rp ex => ?_) (fun own ρ σ H rp => ?_) rp' e q⟩
    · obtain ⟨vs, kind, l⟩ := any rp
      rcases kind with ⟨hq, _⟩ | ⟨_, ys, et⟩
      · obtain ⟨v, hv, dv⟩ := denL_get l ex
        refine ⟨⟨vs, v, hq, hv⟩, fun w H' y => ?_⟩
        obtain ⟨e1, e2⟩ := y
        have := e2 vs hq
        rw [hv] at this; cases this
        exact ⟨e1, dv⟩
      · exact absurd et (nt ys)
    · obtain ⟨vs, kind, l⟩ := any rp
      rcases kind with ⟨hq, _⟩ | ⟨_, ys, et⟩
      · exact ⟨vs, hq, by rw [← denL_length l]; exact Nat.le_refl _⟩
      · exact absurd et (nt ys)
  · refine .inr ⟨a, rfl, ⟨vs, hq⟩, loop_ok (K := X.K) hg ((d, .ref a) :: P) (fun p hp => List.mem_cons_of_mem _ hp) (fun i own ρ σ H x rp ex => ?_) (fun own ρ σ H rp => ?_) rp' e q⟩
    · obtain ⟨vs, kind, l⟩ := any rp
      rcases kind with ⟨_, nt⟩ | ⟨hq, _⟩
      · exact absurd et (nt ys)
      · obtain ⟨v, hv, dv⟩ := denL_get l ex
        refine ⟨⟨vs, v, hq, hv⟩, fun w H' y => ?_⟩
        obtain ⟨e1, e2⟩ := y
        have := e2 vs hq
        rw [hv] at this; cases this
        exact ⟨e1, dv⟩
    · obtain ⟨vs, kind, l⟩ := any rp
      rcases kind with ⟨_, nt⟩ | ⟨hq, _⟩
      · exact absurd et (nt ys)
      · exact ⟨vs, hq, by rw [← denL_length l]; exact Nat.le_refl _⟩
theorem pxs_for {tg : Expr} {g : TG} {gf : D → Ev → Option Ev} {iter : Expr} {body : List Stmt} {b : FS} (hp : PassesOwn (model X.prog X.w) X.A X.env X.xe) (hc : X.calm = true) (ha : PX X iter f) (hg : PG X tg g) (hgf : PXG X (.Name "" pos) g gf) (hb : PXSs X body b) (hs : ∀ x, foldedSetIterable iter X.env x = pure x := by intro _; rfl) :
    PXS X (.For tg iter body [] pos) (fFor f gf b) := PS.weak (ps_for hp hc (pi_seq ha) hg hb hs) fun E σ H ⟨P, own, ρ, r, rp, e, q⟩ => by
  unfold fFor at e
  cases e1 : f ρ with
  | none => rw [e1] at e; cases e
  | some d =>
    rw [e1] at e
    simp only [Option.bind_some] at e
    refine ⟨ρ, d, rp.view, e1, fun v H1 s1 d1 => ?_⟩
    have rp1 := rp.grow s1
    cases d with
    | own xs =>
      simp only [walkD] at e
      split at e
      · rename_i fl
        obtain ⟨a, vs, rfl, hn, h1, l⟩ := d1
        refine seq_loop (d := .lst xs) hgf rfl fl rp1 ?_ e q
        rw [Den]
        refine ⟨a, vs, rfl, h1, fun ⟨i, z⟩ => ?_, denL_lf _ _ fl l⟩
        obtain ⟨ws, w, _⟩ := rp.lst i a z
        rw [hn] at w; cases w
      · cases e
    | tup xs =>
      simp only [walkD] at e
      split at e
      · rename_i fl
        have z := d1.den
        have z2 := z
        rw [Den] at z2
        obtain ⟨a, vs, rfl, _⟩ := z2
        exact seq_loop hgf rfl fl rp1 (den_lf _ _ (by rw [lf]; exact fl) z) e q
      · cases e
    | scr xs =>
      simp only [walkD] at e
      split at e
      · rename_i fl
        have z := d1.den
        have z2 := z
        rw [Den] at z2
        obtain ⟨a, vs, rfl, _⟩ := z2
        exact seq_loop hgf rfl fl rp1 (den_lf _ _ (by rw [lf]; exact fl) z) e q
      · cases e
    | lst xs =>
      simp only [walkD] at e
      split at e
      · rename_i fl
        have z := d1.den
        have z2 := z
        rw [Den] at z2
        obtain ⟨a, vs, rfl, _⟩ := z2
        exact seq_loop hgf rfl fl rp1.frozen (den_mono (fun _ _ q _ => q) (fun _ z => z.elim) (fun b z => by obtain ⟨i, z⟩ := z; cases z) _ _ z) e q
      · cases e
    | _ => simp only [walkD] at e; cases e
/-! for x in range(n) -/
def fForR (f : FA) (gf : D → Ev → Option Ev) (b : FS) : FS := fun ρ => (f ρ).bind fun ds => match ds with
  | [.int n] => if n < 2 ^ 62 ∧ -(2 ^ 62) ≤ n then loopF (turnF gf b) ((List.range n.toNat).map fun i => .int (i : Nat)) ρ else none
  | _ => none
theorem pxs_forR {tg : Expr} {g : TG} {gf : D → Ev → Option Ev} {a : Expr} {p p2 : Pos} {body : List Stmt} {b : FS} (hp : PassesOwn (model X.prog X.w) X.A X.env X.xe) (hc : X.calm = true) (hm : X.mg "range" = none) (ha : PXA X [a] fa) (hg : PG X tg g) (hgf : PXG X (.Name "" pos) g gf) (hb : PXSs X body b) (hgl : Gl X "range" := by rfl) (hs : ∀ x, foldedSetIterable (.Call (.Name "range" p) [a] [] p2) X.env x = pure x := by intro _; rfl) (hst : starEach [a] X.env = [(false, eval a X.env)] := by rfl) :
    PXS X (.For tg (.Call (.Name "range" p) [a] [] p2) body [] pos) (fForR fa gf b) := PS.weak (ps_for hp hc (pi_range1 hgl hm ha hst) hg hb hs) fun E σ H ⟨P, own, ρ, r, rp, e, q⟩ => by
  unfold fForR at e
  cases e1 : fa ρ with
  | none => rw [e1] at e; cases e
  | some ds =>
    rw [e1] at e
    simp only [Option.bind_some] at e
    split at e
    · rename_i n
      split at e
      · rename_i hl
        refine ⟨ρ, _, rp.view, e1, fun vs H1 s1 l1 => ?_⟩
        obtain ⟨v, rfl, h⟩ := denL1 l1
        refine ⟨n, by rw [den_int.mp h], hl.2, hl.1, ?_⟩
        refine loop_ok (K := X.K) hgf P (fun p hp => hp) (fun i own ρ σ H x rp ex => ?_) (fun own ρ σ H rp => ?_) (rp.grow s1) e q
        · rw [List.getElem?_map] at ex
          have hi : i < n.toNat := by
            by_cases z : i < n.toNat
            · exact z
            · rw [List.getElem?_eq_none (by simpa using z)] at ex; cases ex
          rw [List.getElem?_range hi] at ex
          cases ex
          refine ⟨hi, fun w H' y => ?_⟩
          obtain ⟨e2, e3⟩ := y
          exact ⟨e2, by rw [Den, e3]; simp⟩
        · show n.toNat ≤ _
          simp
      · cases e
    · cases e
end
end Tw

set_option Elab.async false
set_option linter.all false
set_option maxRecDepth 100000
set_option maxHeartbeats 1000000
namespace Tw
open PySem PySem.Spec PyProof.Rows L2
/-! ### defs -/
def spF (K : PySem.W.Frag) (g : List D → Option D) : Sp := fun vs H Q _ => ∃ ds d, DenL K Emp H ds vs ∧ g ds = some d ∧ ∀ v H', Same H H' → DenF K H H' d v → Q v H'
/-- the def called x answers as g says -/
structure Fn (P : Program) (w : World) (K : PySem.W.Frag) (mg : Str → Option Value) (base : Heap) (x : Str) (k : Nat) (g : List D → Option D) : Prop where
  ex : ∃ (f : Addr) (fd : FuncData) (ps : List Str), FnOk P w K mg base CX0 k f fd ps (spF K g) ∧ Binds K fd ps [] ∧ PySem.W.keepIn K (.ref f) = true ∧ mg x = some (.ref f)
section
variable {P : Program} {w : World} {K : PySem.W.Frag} {mg : Str → Option Value} {base : Heap}
theorem Fn.mono {x : Str} {j k : Nat} {g : List D → Option D} (F : Fn P w K mg base x j g) (h : j ≤ k) : Fn P w K mg base x k g := by
  obtain ⟨f, fd, ps, a, b, c, d⟩ := F.ex
  exact ⟨f, fd, ps, a.mono h, b, c, d⟩
end
section
variable {X : Cx} {e : Expr} {es : List Expr} {pos p : Pos} {fa : FA} {x : Str} {k : Nat} {g : List D → Option D}
theorem px_call (F : Fn X.prog X.w X.K X.mg X.base x k g) (hr : Room k X.A) (ha : PXA X (e :: es) fa) (hg : Gl X x := by rfl) (hdb : (x == ("__debug__" : Str)) = false := by decide)
    (he : starEach (e :: es) X.env = (false, eval e X.env) :: starEach es X.env := by rfl) (hpl : (backTo pos (starEach es X.env)).any (·.1) = false := by rfl) : PX X (.Call (.Name x p) (e :: es) [] pos) (fCall g fa) := by
  obtain ⟨f, fd, ps, F, b, kp, hm⟩ := F.ex
  refine PE.weak (pe_call F hr hg hm kp b .nil pass0 ha hdb he hpl) fun σ H Q ⟨ρ, d, rv, e, q⟩ => ?_
  unfold fCall at e
  cases e1 : fa ρ with
  | none => rw [e1] at e; cases e
  | some ds =>
    rw [e1] at e
    exact ⟨ρ, ds, rv, e1, fun vs H1 s1 l1 => ⟨ds, d, by rw [List.append_nil]; exact l1, e, fun v H2 s2 d2 => q v H2 (s1.trans s2) (d2.elder s1)⟩⟩
end
section
variable {X : Cx} {a iter : Expr} {pos p p2 px : Pos} {f : FE} {fa : FA} {x : Str} {body : List Stmt} {b : FS}
theorem pxs_forRi (i : Nat) (hN : X.N.Nodup) (hp : PassesOwn (model X.prog X.w) X.A X.env X.xe) (hc : X.calm = true) (hm : X.mg "range" = none) (ha : PXA X [a] fa) (hb : PXSs X body b) (hi : X.N[i]? = some x := by rfl) (hx : Loc X.env.scope x := by first | exact Or.inl rfl | exact Or.inr rfl) (hf : X.fn x = true ∨ X.env.scope.names.lookup x = some .local := by first | exact .inl rfl | exact .inr rfl)
    (hgl : Gl X "range" := by rfl) (hs : ∀ x, foldedSetIterable (.Call (.Name "range" p) [a] [] p2) X.env x = pure x := by intro _; rfl) (hst : starEach [a] X.env = [(false, eval a X.env)] := by rfl) :
    PXS X (.For (.Name x px) (.Call (.Name "range" p) [a] [] p2) body [] pos) (fForR fa (gfName i) b) := pxs_forR hp hc hm ha (pg_name hN hi hx hf) (pxg_name i) hb hgl hs hst
theorem pxs_fori (i : Nat) (hN : X.N.Nodup) (hp : PassesOwn (model X.prog X.w) X.A X.env X.xe) (hc : X.calm = true) (ha : PX X iter f) (hb : PXSs X body b) (hi : X.N[i]? = some x := by rfl) (hx : Loc X.env.scope x := by first | exact Or.inl rfl | exact Or.inr rfl) (hf : X.fn x = true ∨ X.env.scope.names.lookup x = some .local := by first | exact .inl rfl | exact .inr rfl)
    (hs : ∀ x, foldedSetIterable iter X.env x = pure x := by intro _; rfl) : PXS X (.For (.Name x px) iter body [] pos) (fFor f (gfName i) b) := pxs_for hp hc ha (pg_name hN hi hx hf) (pxg_name i) hb hs
end
/-- a body of n names run upon its arguments -/
def start0 (n : Nat) (ds : List D) : Ev := ds.map (fun d => some (frz d)) ++ List.replicate (n - ds.length) none
def runD (np n : Nat) (G : FS) : List D → Option D := fun ds => if ds.length = np then match G (start0 n ds) with
  | some (.rt d) => some d
  | some (.nx _) => some .non
  | _ => none else none
section
variable {P : Program} {w : World} {K : PySem.W.Frag} {mg : Str → Option Value} {base : Heap}
theorem rep_start {X : Cx} {ds : List D} {vs : List V} {n : Nat} {N : List Str} {H : Hp} (hH : X.H₀ = H) (hN : N.length = n) (l : DenL X.K Emp H ds vs) : Rep X [] (start0 n ds) (fun _ => none) (start N vs) H where
  same := by rw [hH]; exact Same.refl H
  len := by unfold start0 L2.start; simp [denL_length l, hN]
  slot := fun i d e => by
    unfold start0 at e
    by_cases hi : i < ds.length
    · rw [List.getElem?_append_left (by simpa using hi), List.getElem?_map] at e
      cases q : ds[i]? with
      | none => rw [q] at e; cases e
      | some d0 =>
        rw [q] at e; cases e
        obtain ⟨v, h1, h2⟩ := denL_get l q
        refine ⟨v, ?_, SlotOk.plain (den_mono (fun _ _ q _ => q) (fun _ z => z.elim) (fun b z => by obtain ⟨i, z⟩ := z; cases z) _ v (den_frz.mpr h2))⟩
        unfold L2.start
        rw [List.getElem?_append_left (by have := denL_length l; simp; omega), List.getElem?_map, h1]; rfl
    · rw [List.getElem?_append_right (by simpa using hi), List.getElem?_replicate] at e
      split at e <;> cases e
  inj := fun i j a e => by cases e
  lst := fun i a e => by cases e
  new := fun i a e => by cases e
  prot := fun p hp => by cases hp
/-- THE RULE of a def -/
theorem fn_mk {x : Str} {st : Stmt} {f : Addr} {fd : FuncData} {N ps : List Str} {k np n : Nat} {G : FS} (F : Fun K x x st f fd) (S : FnScope N ps (defScope st)) (B : Binds K fd ps []) (hm : mg x = some (.ref f)) (hp : ps.length = np) (hn : N.length = n)
    (body : ∀ (cdv : Value) (A : Around) (outer : List Env) (s : Shared) (H : Hp) (E : XK), Room k (A.deeper (envOfC x (defScope st) s.heap.objs.size f cdv)) →
      PXSs (cxOf CX0 P w K mg base N x (defScope st) f cdv A outer s H E).nox (defBody st) G) : Fn P w K mg base x (k + 1) (runD np n G) := by
  refine ⟨f, fd, ps, F.ok S (fun vs H Q E ⟨ds, d, l, e, q⟩ => ?_) (fun cdv A outer s H vs Q E hr ⟨ds, d, l, e, q⟩ => ⟨_, body cdv A outer s H E hr, ?_⟩), B, F.kp, hm⟩
  · unfold runD at e
    split at e
    · rename_i hl; rw [← denL_length l, hl, hp]
    · cases e
  · unfold runD at e
    split at e
    · rename_i hl
      cases e1 : G (start0 n ds) with
      | none => rw [e1] at e; cases e
      | some r =>
        rw [e1] at e
        refine ⟨[], _, _, r, rep_start rfl hn l, e1, ?_⟩
        cases r with
        | rt d' => cases e; exact fun v H' s' d1 => q v H' s' d1
        | nx ρ' => cases e; exact fun own' σ' H' rp' => q .non H' rp'.same (by show Den _ Emp _ _ _; rw [Den])
        | bk ρ' => cases e
        | ct ρ' => cases e
    · cases e
/-- the law's own promise -/
def spLaw (K : PySem.W.Frag) : Sp := fun vs H Q _ => ∃ (a : Addr) (ns : List Int), vs = [.ref a] ∧ ((∃ o, H a = some (.frz o (.lst (ns.map V.int)))) ∨ SqL K (fun _ => none) a (ns.map V.int)) ∧ ns.length ≤ 63 ∧ ∀ H', Q (.bl true) H'
theorem denL_ints {K : PySem.W.Frag} {O : Addr → Prop} {H : Hp} : ∀ ns : List Int, DenL K O H (ns.map D.int) (ns.map V.int)
  | [] => by rw [List.map_nil, List.map_nil]; exact denL_nil
  | n :: ns => by rw [List.map_cons, List.map_cons]; exact denL_cons (by rw [Den]) (denL_ints ns)
end
end Tw

set_option Elab.async false
set_option linter.all false
set_option maxRecDepth 100000
set_option maxHeartbeats 1000000
namespace Tw
open PySem PySem.Spec PyProof.Rows L2
structure QX (X : Cx) (e : Expr) (f : FE) : Prop where
  to : PX X e f
structure QT (X : Cx) (e : Expr) (f : FT) : Prop where
  to : PXT X e f
structure QW (X : Cx) (e : Expr) (f : FT) : Prop where
  to : PXW X e f
structure QA (X : Cx) (e : List Expr) (f : FA) : Prop where
  to : PXA X e f
structure QO (X : Cx) (e : Option Expr) (f : FO) : Prop where
  to : PXO X e f
structure QS (X : Cx) (e : Stmt) (f : FS) : Prop where
  to : PXS X e f
structure QSs (X : Cx) (e : List Stmt) (f : FS) : Prop where
  to : PXSs X e f
section
variable {X : Cx} {a b c e : Expr} {pos : Pos} {f g h : FE}
theorem qx_name (i : Nat) {x : Str} (hN : X.N[i]? = some x := by rfl) (hv : Vis X.env.scope x := by first | exact Or.inl rfl | exact Or.inr (Or.inl rfl) | exact Or.inr (Or.inr rfl)) (hd : (x == ("__debug__" : Str)) = false := by decide) (hcd : (x == ("__classdict__" : Str)) = false := by decide) : QX X (.Name x pos) (fVar i) := ⟨px_name i hN hv hd hcd⟩
theorem qx_int {i : Int} {j : Nat} : QX X (.Constant (.int i) j pos) (fC (.int i)) := ⟨px_int ⟩
theorem qx_bl {i : Bool} {j : Nat} : QX X (.Constant (.bool i) j pos) (fC (.bl i)) := ⟨px_bl ⟩
theorem qx_str {i : Str} {j : Nat} : QX X (.Constant (.str i) j pos) (fC (.str i)) := ⟨px_str ⟩
theorem qx_sub (ha : QX X a f) (hb : QX X b g) : QX X (.BinOp a .Sub b pos) (fSub f g) := ⟨px_sub ha.to hb.to⟩
theorem qx_mul (ha : QX X a f) (hb : QX X b g) : QX X (.BinOp a .Mult b pos) (fMul f g) := ⟨px_mul ha.to hb.to⟩
theorem qx_div (ha : QX X a f) (hb : QX X b g) : QX X (.BinOp a .FloorDiv b pos) (fDiv f g) := ⟨px_div ha.to hb.to⟩
theorem qx_mod (ha : QX X a f) (hb : QX X b g) : QX X (.BinOp a .Mod b pos) (fMod f g) := ⟨px_mod ha.to hb.to⟩
theorem qx_pow (ha : QX X a f) (hb : QX X b g) : QX X (.BinOp a .Pow b pos) (fPow f g) := ⟨px_pow ha.to hb.to⟩
theorem qxt_lt (ha : QX X a f) (hb : QX X b g) : QT X (.Compare a [.Lt] [b] pos) (fTest (fBin oLt f g)) := ⟨pxt_lt ha.to hb.to⟩
theorem qxt_gt (ha : QX X a f) (hb : QX X b g) : QT X (.Compare a [.Gt] [b] pos) (fTest (fBin oGt f g)) := ⟨pxt_gt ha.to hb.to⟩
theorem qx_add (ha : QX X a f) (hb : QX X b g) : QX X (.BinOp a .Add b pos) (fBin oAdd f g) := ⟨px_add ha.to hb.to⟩
end
section
variable {X : Cx} {a b c e : Expr} {es rest : List Expr} {pos : Pos} {f g h : FE} {t u : FT} {fa : FA}
theorem qxt_tru (ha : QX X a f) (he : ∀ whole, isTrue a X.env whole = (do let v ← whole; standAt a.pos; holding [v] (truthy v)) := by intro _; rfl) : QT X a (fTru f) := ⟨pxt_tru ha.to he⟩
theorem qxt_not (ha : QT X a t) : QT X (.UnaryOp .Not a pos) (fNot t) := ⟨pxt_not ha.to⟩
theorem qxw_or1 (ha : QT X a t) : QW X (.BoolOp .Or [a] pos) t := ⟨pxw_or1 ha.to⟩
theorem qxw_or (ha : QT X a t) (hb : QW X (.BoolOp .Or (b :: rest) pos) u) : QW X (.BoolOp .Or (a :: b :: rest) pos) (fOr t u) := ⟨pxw_or ha.to hb.to⟩
theorem qxt_of (ha : QW X a t) : QT X a t := ⟨pxt_of ha.to⟩
theorem qxa_nil : QA X [] fNil := ⟨pxa_nil ⟩
theorem qxa_cons (ha : QX X e f) (hr : QA X es fa) (hs : starEach (e :: es) X.env = (false, eval e X.env) :: starEach es X.env := by rfl) : QA X (e :: es) (fCons f fa) := ⟨pxa_cons ha.to hr.to hs⟩
theorem qx_lst (ha : QA X es fa) : QX X (.List es pos) (fLst fa) := ⟨px_lst ha.to⟩
theorem qxo_none : QO X none fO0 := ⟨pxo_none ⟩
theorem qxo_some (ha : QX X e f) : QO X (some e) (fO1 f) := ⟨pxo_some ha.to⟩
theorem qx_len {p : Pos} (hm : X.mg "len" = none) (ha : QA X [e] fa) (hg : Gl X "len" := by rfl) (he : starEach [e] X.env = (false, eval e X.env) :: starEach [] X.env := by rfl) : QX X (.Call (.Name "len" p) [e] [] pos) (fCall kLen fa) := ⟨px_len hm ha.to hg he⟩
end
section
variable {X : Cx} {a b c e : Expr} {es rest : List Expr} {pos : Pos} {f g h : FE} {t u : FT} {fa : FA}
theorem qx_bits {apos : Pos} (ha : QX X a f) (hbase : attributeBase a "bit_length" X.env (eval a X.env) = eval a X.env := by rfl) (hline : (apos.endLine == pos.line) = true := by rfl) : QX X (.Call (.Attribute a "bit_length" apos) [] [] pos) (fBits f) := ⟨px_bits ha.to hbase hline⟩
end
section
variable {X : Cx} {a b c e : Expr} {es rest : List Expr} {pos : Pos} {f g h : FE} {t u : FT} {fa : FA}
theorem qx_eq {k : Nat} (hr : Room k X.A) (ha : QX X a f) (hb : QX X b g) : QX X (.Compare a [.Eq] [b] pos) (fBin (oEqN false) f g) := ⟨px_eq hr ha.to hb.to⟩
theorem qxt_ne {k : Nat} (hr : Room k X.A) (ha : QX X a f) (hb : QX X b g) : QT X (.Compare a [.NotEq] [b] pos) (fTest (fBin (oEqN true) f g)) := ⟨pxt_ne hr ha.to hb.to⟩
end
section
variable {X : Cx} {P : List (D × V)} {a b c e : Expr} {es : List Expr} {st : Stmt} {rest bd els : List Stmt} {pos : Pos} {f g : FE} {t : FT} {fa : FA} {F G : FS}
theorem qx_nil : QSs X [] (fun ρ => some (.nx ρ)) := ⟨px_nil ⟩
theorem qx_cons (h1 : QS X st F) (h2 : QSs X rest G) : QSs X (st :: rest) (fThen F G) := ⟨px_cons h1.to h2.to⟩
theorem qx_last (h1 : QS X st F) : QSs X [st] F := ⟨px_last h1.to⟩
theorem qxs_ret (ha : QX X e f) : QS X (.Return (some e) pos) (fRet f) := ⟨pxs_ret ha.to⟩
theorem qxs_retN (i : Nat) {x : Str} {p : Pos} (hN : X.N[i]? = some x := by rfl) (hv : Vis X.env.scope x := by first | exact Or.inl rfl | exact Or.inr (Or.inl rfl) | exact Or.inr (Or.inr rfl)) (hd : (x == ("__debug__" : Str)) = false := by decide) (hcd : (x == ("__classdict__" : Str)) = false := by decide) : QS X (.Return (some (.Name x p)) pos) (fRetN i) := ⟨pxs_retN i hN hv hd hcd⟩
theorem qxs_if (hc : QT X c t) (ha : QSs X bd F) (hb : QSs X els G) : QS X (.If c bd els pos) (fIfS t F G) := ⟨pxs_if hc.to ha.to hb.to⟩
theorem qxs_set (i : Nat) {x : Str} {pos' : Pos} (hN : X.N.Nodup) (ha : QX X e f) (hi : X.N[i]? = some x := by rfl) (hx : Loc X.env.scope x := by first | exact Or.inl rfl | exact Or.inr rfl) (hs : swapsWith e (some (.Name x pos')) pos.line X.env = pure false := by rfl) (hf : X.fn x = true ∨ X.env.scope.names.lookup x = some .local := by first | exact .inl rfl | exact .inr rfl) : QS X (.Assign [.Name x pos'] e pos) (fAsg i f) := ⟨pxs_set i hN ha.to hi hx hs hf⟩
theorem qxs_app (i : Nat) {x : Str} {p apos cpos : Pos} (ha : QX X e f) (hN : X.N[i]? = some x := by rfl) (hv : Vis X.env.scope x := by first | exact Or.inl rfl | exact Or.inr (Or.inl rfl) | exact Or.inr (Or.inr rfl)) (hd : (x == ("__debug__" : Str)) = false := by decide) (hcd : (x == ("__classdict__" : Str)) = false := by decide)
    (hbase : attributeBase (.Name x p) "append" X.env (eval (.Name x p) X.env) = eval (.Name x p) X.env := by rfl)
    (hfew : ((backTo cpos (starEach [e] X.env)).all (fun x => !x.1) && (backToKw cpos (keywordEach [] X.env)).all (fun x => x.1.isSome) && decide (([e] : List Expr).length + ([] : List Keyword).length + (if ([] : List Keyword).isEmpty then 0 else 1) < 30)) = true := by rfl)
    (hline : (apos.endLine == cpos.line) = true := by rfl) (hs : starEach [e] X.env = (false, eval e X.env) :: starEach [] X.env := by rfl) (hsw : swapsWith (.Call (.Attribute (.Name x p) "append" apos) [e] [] cpos) none pos.line X.env = pure false := by rfl) : QS X (.Expr (.Call (.Attribute (.Name x p) "append" apos) [e] [] cpos) pos) (fApp i f) := ⟨pxs_app i ha.to hN hv hd hcd hbase hfew hline hs hsw⟩
theorem qxs_while {body : List Stmt} {b : FS} (hp : PassesOwn (model X.prog X.w) X.A X.env X.xe) (hc : QT X c t) (hb : QSs X body b) : QS X (.While c body [] pos) (whileV t b) := ⟨pxs_while hp hc.to hb.to⟩
end
section
variable {P : Program} {w : World} {K : PySem.W.Frag} {mg : Str → Option Value} {base : Heap}
end
section
variable {X : Cx} {e : Expr} {es : List Expr} {pos p : Pos} {fa : FA} {x : Str} {k : Nat} {g : List D → Option D}
theorem qx_call (F : Fn X.prog X.w X.K X.mg X.base x k g) (hr : Room k X.A) (ha : QA X (e :: es) fa) (hg : Gl X x := by rfl) (hdb : (x == ("__debug__" : Str)) = false := by decide)
    (he : starEach (e :: es) X.env = (false, eval e X.env) :: starEach es X.env := by rfl) (hpl : (backTo pos (starEach es X.env)).any (·.1) = false := by rfl) : QX X (.Call (.Name x p) (e :: es) [] pos) (fCall g fa) := ⟨px_call F hr ha.to hg hdb he hpl⟩
end
section
variable {X : Cx} {a iter : Expr} {pos p p2 px : Pos} {f : FE} {fa : FA} {x : Str} {body : List Stmt} {b : FS}
theorem qxs_forRi (i : Nat) (hN : X.N.Nodup) (hp : PassesOwn (model X.prog X.w) X.A X.env X.xe) (hc : X.calm = true) (hm : X.mg "range" = none) (ha : QA X [a] fa) (hb : QSs X body b) (hi : X.N[i]? = some x := by rfl) (hx : Loc X.env.scope x := by first | exact Or.inl rfl | exact Or.inr rfl) (hf : X.fn x = true ∨ X.env.scope.names.lookup x = some .local := by first | exact .inl rfl | exact .inr rfl)
    (hgl : Gl X "range" := by rfl) (hs : ∀ x, foldedSetIterable (.Call (.Name "range" p) [a] [] p2) X.env x = pure x := by intro _; rfl) (hst : starEach [a] X.env = [(false, eval a X.env)] := by rfl) : QS X (.For (.Name x px) (.Call (.Name "range" p) [a] [] p2) body [] pos) (fForR fa (gfName i) b) := ⟨pxs_forRi i hN hp hc hm ha.to hb.to hi hx hf hgl hs hst⟩
theorem qxs_fori (i : Nat) (hN : X.N.Nodup) (hp : PassesOwn (model X.prog X.w) X.A X.env X.xe) (hc : X.calm = true) (ha : QX X iter f) (hb : QSs X body b) (hi : X.N[i]? = some x := by rfl) (hx : Loc X.env.scope x := by first | exact Or.inl rfl | exact Or.inr rfl) (hf : X.fn x = true ∨ X.env.scope.names.lookup x = some .local := by first | exact .inl rfl | exact .inr rfl)
    (hs : ∀ x, foldedSetIterable iter X.env x = pure x := by intro _; rfl) : QS X (.For (.Name x px) iter body [] pos) (fFor f (gfName i) b) := ⟨pxs_fori i hN hp hc ha.to hb.to hi hx hf hs⟩
end
section
variable {P : Program} {w : World} {K : PySem.W.Frag} {mg : Str → Option Value} {base : Heap}
end
end Tw

set_option Elab.async false
set_option linter.all false
set_option maxRecDepth 100000
set_option maxHeartbeats 1000000
namespace Tw
open PySem L2
/-! ### loops of denotations -/
theorem loopF_inv {b : D → FS} (I : Nat → Ev → Prop) : ∀ (xs : List D) (n : Nat) (ρ : Ev), I n ρ → (∀ i x ρ, xs[i]? = some x → I (n + i) ρ → ∃ ρ', (b x ρ = some (.nx ρ') ∨ b x ρ = some (.ct ρ')) ∧ I (n + i + 1) ρ') → ∃ ρ', loopF b xs ρ = some (.nx ρ') ∧ I (n + xs.length) ρ'
  | [], n, ρ, h, _ => ⟨ρ, rfl, h⟩
  | x :: xs, n, ρ, h, st => by
    obtain ⟨ρ1, e1, h1⟩ := st 0 x ρ rfl h
    obtain ⟨ρ2, e2, h2⟩ := loopF_inv I xs (n + 1) ρ1 h1 (fun i y ρ hy hi => by
      have := st (i + 1) y ρ (by simpa using hy) (by rw [show n + (i + 1) = n + 1 + i by omega]; exact hi)
      rw [show n + (i + 1) + 1 = n + 1 + i + 1 by omega] at this; exact this)
    refine ⟨ρ2, ?_, by rw [List.length_cons, show n + (xs.length + 1) = n + 1 + xs.length by omega]; exact h2⟩
    rw [loopF]
    rcases e1 with e1 | e1 <;> rw [e1] <;> exact e2
theorem loopF_all {b : D → FS} (I : Ev → Prop) (xs : List D) (ρ : Ev) (h : I ρ) (st : ∀ x ρ, x ∈ xs → I ρ → ∃ ρ', b x ρ = some (.nx ρ') ∧ I ρ') : ∃ ρ', loopF b xs ρ = some (.nx ρ') ∧ I ρ' :=
  loopF_inv (fun _ => I) xs 0 ρ h fun i x ρ hx hi => let ⟨ρ', e, h'⟩ := st x ρ (List.mem_of_getElem? hx) hi; ⟨ρ', .inl e, h'⟩
theorem whileF_inv {c : FT} {b : FS} (I : Ev → Prop) (μ : Ev → Nat) (st : ∀ ρ, I ρ → c ρ = some false ∨ (c ρ = some true ∧ ∃ ρ', b ρ = some (.nx ρ') ∧ I ρ' ∧ μ ρ' < μ ρ)) : ∀ (n : Nat) (ρ : Ev), μ ρ ≤ n → I ρ → ∃ ρ', whileF c b (n + 1) ρ = some (.nx ρ') ∧ I ρ' ∧ c ρ' = some false
  | n, ρ, hn, h => by
    rcases st ρ h with e | ⟨e, ρ1, e1, h1, m1⟩
    · exact ⟨ρ, by rw [whileF, e]; rfl, h, e⟩
    · cases n with
      | zero => omega
      | succ n =>
        obtain ⟨ρ2, e2, h2, h3⟩ := whileF_inv I μ st n ρ1 (by omega) h1
        exact ⟨ρ2, by rw [whileF, e]; simp only [Option.bind_some, if_true]; rw [e1]; exact e2, h2, h3⟩
theorem whileV_inv {c : FT} {b : FS} (I : Ev → Prop) (μ : Ev → Nat) (ρ : Ev) (h : I ρ) (st : ∀ ρ, I ρ → c ρ = some false ∨ (c ρ = some true ∧ ∃ ρ', b ρ = some (.nx ρ') ∧ I ρ' ∧ μ ρ' < μ ρ)) : ∃ ρ', whileV c b ρ = some (.nx ρ') ∧ I ρ' ∧ c ρ' = some false := by
  obtain ⟨ρ', e, h'⟩ := whileF_inv I μ st (μ ρ) ρ (Nat.le_refl _) h
  exact ⟨ρ', whileV_of e, h'⟩
/-! ### the greatest common divisor -/
/-! ### sizes -/
/-! ### a ratio of two numbers -/
end Tw

set_option Elab.async false
set_option linter.all false
set_option maxRecDepth 100000
set_option maxHeartbeats 1000000
namespace Tw
open PySem PySem.Spec PyProof.Rows L2
/-! ### a law's walk over the first cells of its script and their count -/
theorem lfL_ints : ∀ ns : List Int, lfL (ns.map D.int) = true
  | [] => by simp [lfL]
  | n :: ns => by rw [List.map_cons, lfL, lfL_ints ns]; rfl
theorem cutD_ints (ns : List Int) (lo hi : Option Int) : ∃ ms : List Int, cutD (ns.map D.int) lo hi = ms.map D.int ∧ ms.length ≤ ns.length := by
  refine ⟨(ns.drop (HT.sIx (ns.map D.int).length 0 lo)).take (HT.sIx (ns.map D.int).length (ns.map D.int).length hi - HT.sIx (ns.map D.int).length 0 lo), ?_, ?_⟩
  · unfold cutD; rw [List.map_take, List.map_drop]
  · rw [List.length_take, List.length_drop]; omega
section
variable {P : Program} {w : World} {K : PySem.W.Frag} {mg : Str → Option Value} {base : Heap}
/-- the law's own def, by its body -/
theorem law_ok {st : Stmt} {f : Addr} {fd : FuncData} {N ps : List Str} {k np n : Nat} {G : FS} (F : Fun K "law" "law" st f fd) (S : FnScope N ps (defScope st)) (hp : ps.length = np) (hn : N.length = n)
    (body : ∀ (cdv : Value) (A : Around) (outer : List Env) (s : Shared) (H : Hp) (E : XK), Room k (A.deeper (envOfC "law" (defScope st) s.heap.objs.size f cdv)) →
      PXSs (cxOf CX0 P w K mg base N "law" (defScope st) f cdv A outer s H E).nox (defBody st) G)
    (h : ∀ ns : List Int, ns.length ≤ 63 → runD np n G [.scr (ns.map D.int)] = some (.bl true)) : FnOk P w K mg base CX0 (k + 1) f fd ps (spLaw K) := by
  refine F.ok S (fun vs H Q E ⟨a, ns, ev, hq, hl, q⟩ => ?_) (fun cdv A outer s H vs Q E hr ⟨a, ns, ev, hq, hl, q⟩ => ⟨_, body cdv A outer s H E hr, ?_⟩)
  · have e := h ns hl
    unfold runD at e
    split at e
    · rename_i hl'
      rw [ev, hp, ← hl']; rfl
    · cases e
  · have e := h ns hl
    unfold runD at e
    split at e
    · rename_i hl'
      cases e1 : G (start0 n [.scr (ns.map D.int)]) with
      | none => rw [e1] at e; cases e
      | some r =>
        rw [e1] at e
        have l : DenL K Emp H [.scr (ns.map D.int)] vs := by
          rw [ev]
          refine denL_cons ?_ denL_nil
          rw [Den]
          exact ⟨a, _, rfl, hq, denL_ints ns⟩
        refine ⟨[], _, _, r, rep_start rfl hn l, e1, ?_⟩
        cases r with
        | rt d' => cases e; exact fun v H' s' d1 => by have := den_bl.mp d1.den; rw [this]; exact q H'
        | nx ρ' => cases e
        | bk ρ' => cases e
        | ct ρ' => cases e
    · cases e
/-- from the law's def to the row's walk -/
theorem walk {l : PySem.W.OpenLaw} {q : Program} {loose : List Str} {XP : (Str → Option Value) → Heap → Prop} {YP : World → Heap → Prop} {d : DefRec} {K : Params → PySem.W.Frag} (hn : l.most = some 63) (hdf : d.params.defaults = [])
    (hY : ∀ (w : World) (h : Heap), YP w h → (K w.params).In h)
    (F : ∀ (w : World) (mg : Str → Option Value) (fa : Addr) (h : Heap), (K w.params).In h → h.Ns mainGlobals mg → mg d.name = some (.ref fa) →
      ∃ fd : FuncData, (∀ (s : Shared) (u : Value), BindsTo s fd ⟨[u], []⟩ [("script", u)]) ∧ ∀ base : Heap, (K w.params).In base → base.Ns mainGlobals mg → FnOk l.prog w (K w.params) mg base CX0 20 fa fd ["script"] (spLaw (K w.params))) :
    PySem.W.WalkO q loose XP YP l.row.toRowW d [] (fun f vs => PySem.call f vs) :=
  L2.walk_of (n := 63) (k := 20) (x := "script") (CX := fun _ => CX0) (sp := fun w => spLaw (K w.params)) hn (by decide) hdf ⟨rfl, by decide, by decide⟩ hY F (fun _ H a ns hl hO hS => ⟨a, ns, rfl, (by
    rcases hS with (hS | ⟨o, hS⟩) | hS
    · rcases hO a with z | ⟨o, ys, z⟩
      · rw [z] at hS; cases hS
      · rw [z] at hS; cases hS
    · exact .inl ⟨o, hS⟩
    · exact .inr (.inr hS)), hl, fun _ => rfl⟩) fun _ _ _ _ _ z => z
end
end Tw

set_option Elab.async false
set_option linter.all false
set_option maxRecDepth 100000
set_option maxHeartbeats 1000000
namespace Tw
open PySem PySem.Spec PyProof.Rows L2
/-! ### exceptions: how one flies through the frames -/
theorem objOk_ex {P : Program} {w : World} {H : Hp} {h : Heap} {a : Addr} {o : HO} (x : ObjOk P w H h a o) : ∃ ob, h.get? a = some ob := by
  cases o with
  | lst xs => obtain ⟨_, _, _, _, e⟩ := x; exact ⟨_, e⟩
  | tup xs => obtain ⟨_, _, _, _, e, _⟩ := x; exact ⟨_, e⟩
  | dK kvs => obtain ⟨_, _, _, _, o, _, _, e, _⟩ := x; exact ⟨_, e⟩
  | dT kvs => obtain ⟨_, _, _, _, o, _, _, e, _⟩ := x; exact ⟨_, e⟩
  | set S n => obtain ⟨o, _, _, _, e, _⟩ := x; exact ⟨_, e⟩
  | ins C dx fs => obtain ⟨_, _, _, e, _⟩ := x; exact ⟨_, e⟩
  | own y => obtain ⟨_, e⟩ := x; exact ⟨_, e⟩
  | xd fs => obtain ⟨_, ⟨_, _, _, e, _⟩, _⟩ := x; exact ⟨_, e⟩
  | rng lo hi => obtain ⟨_, _, _, e⟩ := x; exact ⟨_, e⟩
  | frz ob u => obtain ⟨e, _⟩ := x; exact ⟨_, e⟩
  | tbl ps => exact ⟨_, (show h.get? a = some _ from x)⟩
  | met f y => exact ⟨_, (show h.get? a = some _ from x)⟩
  | ext φ => obtain ⟨_, e, _⟩ := x; exact e
/-- an exception of the class at C, at x, flies through the frames l; H, s: ahead of the call -/
structure Fly (P : Program) (w : World) (l : List Env) (H : Hp) (s : Shared) (C x : Addr) (H' : Hp) (s' : Shared) : Prop where
  os : s'.os = s.os
  bare : AllBare s'.gens
  un : Un (frs l) [] H H' s.heap s'.heap
  hok : HOk P w H' s'.heap
  fly : ∃ B a0, Heap.FlyingW B l x (.ref C) a0 s'.heap ∧ ∀ b o, s'.heap.get? b = some o → b ∉ frs l → ((∃ o0, s.heap.get? b = some o0) ∨ H' b ≠ none) → B.get? b = some o
def CXE (P : Program) (w : World) : CXT := fun l H s E e s' => ∃ C x H', e = .ref x ∧ Fly P w l H s C x H' s' ∧ E e (some C) H'
section
variable {X : Cx} {pins : List (Addr × Obj)} {σ : L2.St} {H H' : Hp} {s s' : Shared} {h'' B : Heap} {x C : Addr} {a0 : Value}
/-- an exception made in this frame, or come from a call: it is in hand -/
def Thr (X : Cx) (C : Addr) (v : Value) (s' : Shared) : Prop := ∃ pins σ x H1 s1, v = .ref x ∧ Inv X pins σ H1 s1 ∧ Same X.H₀ H1 ∧
  ((∃ h' args, Heap.MadeExcOf s1.heap h' x (.ref C) args ∧ s' = { s1 with heap := h' }) ∨ ∃ H', Same H1 H' ∧ Fly X.prog X.w X.stack H1 s1 C x H' s')
end
end Tw

set_option Elab.async false
set_option linter.all false
set_option maxRecDepth 100000
set_option maxHeartbeats 1000000
namespace Tw
open PySem PySem.Spec PyProof.Rows L2
/-! ### raising -/
abbrev bmV : List Value := [.type "ValueError", .type "Exception", .type "BaseException", .type "object"]
abbrev nwV : String := "ValueError.__new__"
theorem exc_obj {K : PySem.W.Frag} {h : Heap} {C : Addr} {bmB : List Value} {newId : String} (X : K.In h) (q : PySem.W.excIn K C bmB newId = true) :
    ∃ bm N nm qn bs hd sn sub ab col dd k0 k1 k2 k3 k5 mN, h.get? C = some (excClassObj nm qn C N bs bm hd sn sub ab col dd k0 k1 k2 k3 k5 newId) ∧ h.Ns N mN ∧ mN "__init__" = none ∧ OwnTail h bmB bm := by
  unfold PySem.W.excIn at q
  split at q
  · rename_i dd cd sl ho
    split at q
    · rename_i C' bm k0 k1 k2 k3 n k5 hm hs
      simp only [Bool.and_eq_true, beq_iff_eq, Bool.not_eq_true'] at q
      obtain ⟨⟨⟨⟨⟨rfl, rfl⟩, hdel⟩, ht⟩, hok⟩, hni⟩ := q
      obtain ⟨nm, bs, mro, ns, qn, hd, sn, sub, ab, col, del⟩ := cd
      dsimp only at hm hdel hok hni
      subst hm hdel
      have hsl : sl = #[k0, k1, k2, k3, some (.builtin n), k5] := by
        obtain ⟨l⟩ := sl
        simp only at hs
        rw [hs]
      subst hsl
      exact ⟨bm, ns, nm, qn, bs, hd, sn, sub, ab, col, dd, k0, k1, k2, k3, k5, _, X _ _ ho, .of_isNs (PySem.W.isNs_of_in X hok), PySem.W.nsMap_none_of_in X hok hni, PySem.W.tail_of_in X ht⟩
    · cases q
  · cases q
abbrev FR := Ev → Option Addr
theorem Rep.wish {X : Cx} {P : List (D × V)} {ρ : Ev} {own : Nat → Option Addr} {σ : L2.St} {H : Hp} (r : Rep X P ρ own σ H) (E : Value → Shared → Prop) : Rep (X.wish E) P ρ own σ H := ⟨r.same, r.len, r.slot, r.inj, r.lst, r.new, r.prot⟩
theorem Rep.unwish {X : Cx} {E : Value → Shared → Prop} {P : List (D × V)} {ρ : Ev} {own : Nat → Option Addr} {σ : L2.St} {H : Hp} (r : Rep (X.wish E) P ρ own σ H) : Rep X P ρ own σ H := ⟨r.same, r.len, r.slot, r.inj, r.lst, r.new, r.prot⟩
/-- the statement raises -/
structure PR (X : Cx) (st : Stmt) (r : FR) : Prop where
  to : ∀ (pins : List (Addr × Obj)) (s : Shared) (σ : L2.St) (H : Hp) (P : List (D × V)) (own : Nat → Option Addr) (ρ : Ev) (C : Addr), Inv X pins σ H s → Rep X P ρ own σ H → r ρ = some C →
    wpAny (model X.prog X.w) X.A (exec st X.env) (fun _ _ => False) (Thr X C) s
structure PRs (X : Cx) (st : List Stmt) (r : FR) : Prop where
  to : ∀ (pins : List (Addr × Obj)) (s : Shared) (σ : L2.St) (H : Hp) (P : List (D × V)) (own : Nat → Option Addr) (ρ : Ev) (C : Addr), Inv X pins σ H s → Rep X P ρ own σ H → r ρ = some C →
    wpAny (model X.prog X.w) X.A (execs st X.env) (fun _ _ => False) (Thr X C) s
/-- the expression raises -/
structure PRe (X : Cx) (e : Expr) (r : FR) : Prop where
  to : ∀ (pins : List (Addr × Obj)) (s : Shared) (σ : L2.St) (H : Hp) (ρ : Ev) (C : Addr), Inv X pins σ H s → RepV X.K ρ σ H → r ρ = some C →
    wpAny (model X.prog X.w) X.A (eval e X.env) (fun _ _ => False) (fun v s' => ∃ x H1 s1 H', v = .ref x ∧ Inv X pins σ H1 s1 ∧ Same H H1 ∧ Same H1 H' ∧ Fly X.prog X.w X.stack H1 s1 C x H' s') s
def spR (K : PySem.W.Frag) (gx : List D → Option Addr) : Sp := fun vs H _ E => ∃ ds C, DenL K Emp H ds vs ∧ gx ds = some C ∧ ∀ v H', Same H H' → E v (some C) H'
structure FnR (P : Program) (w : World) (K : PySem.W.Frag) (mg : Str → Option Value) (base : Heap) (x : Str) (k : Nat) (gx : List D → Option Addr) : Prop where
  ex : ∃ (f : Addr) (fd : FuncData) (ps : List Str), FnOk P w K mg base (CXE P w) k f fd ps (spR K gx) ∧ Binds K fd ps [] ∧ PySem.W.keepIn K (.ref f) = true ∧ mg x = some (.ref f)
theorem FnR.mono {P : Program} {w : World} {K : PySem.W.Frag} {mg : Str → Option Value} {base : Heap} {x : Str} {j k : Nat} {g : List D → Option Addr} (F : FnR P w K mg base x j g) (h : j ≤ k) : FnR P w K mg base x k g := by
  obtain ⟨f, fd, ps, a, b, c, d⟩ := F.ex
  exact ⟨f, fd, ps, a.mono h, b, c, d⟩
section
variable {X : Cx} {e : Expr} {es : List Expr} {pos p np cpos : Pos} {fa : FA} {x : Str} {k : Nat} {C : Addr} {st : Stmt} {rest bd els : List Stmt} {F : FS} {r r1 r2 : FR} {t : FT} {c : Expr}
end
section
variable {P : Program} {w : World} {K : PySem.W.Frag} {mg : Str → Option Value} {base : Heap}
end
end Tw

set_option Elab.async false
set_option linter.all false
set_option maxRecDepth 100000
set_option maxHeartbeats 1000000
namespace Tw
open PySem PySem.Spec PyProof.Rows L2
/-! ### try .. except .. as -/
section
variable {X : Cx} {pins : List (Addr × Obj)} {σ : L2.St} {H H1 H' : Hp} {s s1 s' : Shared} {h5 B : Heap} {x C : Addr} {a0 v : Value} {P : List (D × V)} {ρ : Ev} {own : Nat → Option Addr}
/-- slot i is forgotten -/
theorem Rep.drop (r : Rep X P ρ own σ H) {i : Nat} : Rep X P (ρ.set i none) own (σ.set i none) H where
  same := r.same
  len := by rw [List.length_set, List.length_set]; exact r.len
  slot := fun j d e => by
    by_cases q : i = j
    · subst q
      rw [List.getElem?_set, if_pos rfl] at e
      split at e <;> cases e
    · rw [List.getElem?_set_ne q] at e
      obtain ⟨u, h1, h2⟩ := r.slot j d e
      exact ⟨u, by rw [List.getElem?_set_ne q]; exact h1, h2⟩
  inj := r.inj
  lst := r.lst
  new := r.new
  prot := r.prot
end
end Tw

set_option Elab.async false
set_option linter.all false
set_option maxRecDepth 100000
set_option maxHeartbeats 1000000
namespace Tw
open PySem PySem.Spec PyProof.Rows L2
section
variable {X : Cx} {e : Expr} {ep np hp pos : Pos} {f : FE} {r : FR} {G : FS} {T n : Str} {CT : Addr} {b₀ : Stmt} {suite : List Stmt}
end
end Tw

set_option Elab.async false
set_option linter.all false
set_option maxRecDepth 100000
set_option maxHeartbeats 1000000
namespace Tw
open PySem PySem.Spec PyProof.Rows L2
/-! ### isinstance of an exception -/
section
variable {prog : Program} {w : World} {A : Around} {E : Value → Shared → Prop} {K : PySem.W.Frag} {h : Heap} {g : Array GenState} {d : Drawn} {t : Nat} {os : OsState} {a C : Addr} {o : Obj}
theorem exc_class_get {R : Result → Shared → Prop} {tp : Value} (X : K.In h) (hx : h.get? a = some o) (hc : o.cls = .ref C) (hm : PySem.W.mroIn K C (.type "object") = some true) (hq : R (.ok (.ret (.ref C))) ⟨h, g, d, t, os⟩) :
    codeAny (model prog w) A (.call (.builtin "getset_descriptor.__get__") ⟨[.builtin "object.__class__", .ref a, tp], []⟩) R ⟨h, g, d, t, os⟩ := by
  have L1 := PySem.W.looks_mroIn (M := model prog w) X hm
  have hT5 : (⟨h, g, d, t, os⟩ : Shared).TypeIs (.builtin "object.__class__") "getset_descriptor" := F.typeOf_object_class
  have fo := F.owner_object_class
  refine codeAny_call_builtin F.slot_gs_get.plain F.entry_gs_get (F.slot_gs_get.check _ _ _ _ _ _ _ _ hT5 (F.args_gs_get _ _ _) ?_)
  repeat (any_goals (first | assumption | (with_reducible refine wpAny_loadPart_at hx ?_; rw [hc]) | (rw [fo]; with_reducible refine L1.at ?_) | (with_reducible refine L1.at ?_) | wp_step))
  refine ⟨Code.quiet_builtin _ (by decide +kernel), codeAny_builtin F.entry_object_class ?_⟩
  unfold Builtin.«object.__class__» shownTypeOf
  repeat (any_goals (first | assumption | (with_reducible refine wpAny_loadPart_at hx ?_; rw [hc]) | wp_step))
theorem exc_check_ga {M : Model} {nameV : Value} {Q : Unit → Shared → Prop} (X : K.In h) (hx : h.get? a = some o) (hc : o.cls = .ref C) (hm : PySem.W.mroIn K C (.type "BaseException") = some true) (hq : Q () ⟨h, g, d, t, os⟩) :
    wpAny M A (checkBuiltinCall "BaseException.__getattribute__" ⟨[.ref a, nameV], []⟩) Q E ⟨h, g, d, t, os⟩ := by
  have L1 := PySem.W.looks_mroIn (M := M) X hm
  have hk : builtinKind "BaseException.__getattribute__" = some .slot := by decide +kernel
  have hsplit : splitId "BaseException.__getattribute__" = some ("BaseException", "__getattribute__") := by decide +kernel
  have ha := F.args_bexc_ga (.ref a) nameV
  simp only [checkBuiltinCall, hk, hsplit]
  refine wpAny_bind ?_
  · unfold isInstance
    repeat (first | (with_reducible refine wpAny_loadPart_at hx ?_; rw [hc]) | (with_reducible refine L1.at ?_) | wp_step)
    exact hq
theorem exc_class_entry {tk : Tok} {Q : Fin → Shared → Prop} (X : K.In h) (hx : h.get? a = some o) (hc : o.cls = .ref C) (hm : PySem.W.mroIn K C (.type "object") = some true) (hf : PySem.W.findIn K (.ref C) "__class__" = some (some (.builtin "object.__class__")))
    (hq : Q (.done (.ret (.ref C))) ⟨h, g, d, t, os⟩) : wpAny (model prog w) A (Builtin.«object.__getattribute__» ⟨[.ref a, .str "__class__" tk], []⟩) Q E ⟨h, g, d, t, os⟩ := by
  have L1 := PySem.W.looks_findIn (M := model prog w) X hf
  have hT5 : (⟨h, g, d, t, os⟩ : Shared).TypeIs (.builtin "object.__class__") "getset_descriptor" := F.typeOf_object_class
  have f5 := F.typeOf_object_class
  have f6 := F.slot_gs_get.lookup
  have f7 := F.slot_gs_set.lookup
  repeat (any_goals (first | assumption | (with_reducible refine wpAny_loadPart_at hx ?_; rw [hc]) | (with_reducible refine L1.at ?_) | wp_step))
  refine exc_class_get X hx hc hm ?_
  repeat (any_goals (first | assumption | wp_step))
theorem exc_class_by {tk : Tok} {Q : Value → Shared → Prop} (X : K.In h) (hx : h.get? a = some o) (hc : o.cls = .ref C) (hm : PySem.W.mroIn K C (.type "object") = some true) (hb : PySem.W.mroIn K C (.type "BaseException") = some true)
    (hf : PySem.W.findIn K (.ref C) "__class__" = some (some (.builtin "object.__class__"))) (hga : PySem.W.findIn K (.ref C) "__getattribute__" = some (some (.builtin "BaseException.__getattribute__"))) (hna : PySem.W.findIn K (.ref C) "__getattr__" = some none)
    (hq : Q (.ref C) ⟨h, g, d, t, os⟩) : wpAny (model prog w) A (getAttrBy (.ref a) (.str "__class__" tk) false) Q E ⟨h, g, d, t, os⟩ := by
  have L1 := PySem.W.looks_findIn (M := model prog w) X hga
  have L2 := PySem.W.looks_findIn (M := model prog w) X hna
  have FG := PySem.F.attrBase_ValueError.ga
  have f3 := FG.bind (.ref a)
  have hx2 : (Value.builtin "BaseException.__getattribute__" == Value.builtin "object.__getattribute__") = false := by decide +kernel
  have hx1 : (onTheHeap (Value.ref C) && Value.builtin "BaseException.__getattribute__" == Value.builtin "object.__getattribute__") = false := by rw [hx2]; rfl
  have hx0 : (false && onTheHeap (Value.builtin "BaseException.__getattribute__")) = false := rfl
  repeat (any_goals (first | assumption | (with_reducible refine wpAny_loadPart_at hx ?_; rw [hc]) | (with_reducible refine L1.at ?_) | (with_reducible refine L2.at ?_) | wp_step))
  refine codeAny_call_builtin FG.plain F.entry_bexc_ga (exc_check_ga X hx hc hb (exc_class_entry X hx hc hm hf ?_))
  repeat (any_goals (first | assumption | wp_step))
theorem exc_class_attr {Q : Option Value → Shared → Prop} (X : K.In h) (hx : h.get? a = some o) (hc : o.cls = .ref C) (hm : PySem.W.mroIn K C (.type "object") = some true) (hb : PySem.W.mroIn K C (.type "BaseException") = some true)
    (hf : PySem.W.findIn K (.ref C) "__class__" = some (some (.builtin "object.__class__"))) (hga : PySem.W.findIn K (.ref C) "__getattribute__" = some (some (.builtin "BaseException.__getattribute__"))) (hna : PySem.W.findIn K (.ref C) "__getattr__" = some none)
    (hq : Q (some (.ref C)) ⟨h, g, d, t + 1, os⟩) : wpAny (model prog w) A (getAttr? (.ref a) "__class__") Q E ⟨h, g, d, t, os⟩ := by
  unfold getAttr? getAttrBy?
  repeat (any_goals (first | assumption | with_reducible apply exc_class_by X hx hc hm hb hf hga hna | wp_step))
end
/-- what isinstance asks of an exception's class -/
structure ExcC (K : PySem.W.Frag) (C : Addr) : Prop where
  ob : PySem.W.mroIn K C (.type "object") = some true
  be : PySem.W.mroIn K C (.type "BaseException") = some true
  cl : PySem.W.findIn K (.ref C) "__class__" = some (some (.builtin "object.__class__"))
  ga : PySem.W.findIn K (.ref C) "__getattribute__" = some (some (.builtin "BaseException.__getattribute__"))
  na : PySem.W.findIn K (.ref C) "__getattr__" = some none
theorem kitx_exc {K : PySem.W.Frag} {x C : Addr} (T : ExcC K C) : PySem.W.KitX K (.ref x) (.ref C) (ExcAt x C) := by
  obtain ⟨cdC, hcC, _⟩ := Option.bind_eq_some_iff.mp T.ob
  unfold PySem.W.clsIn at hcC
  split at hcC
  · rename_i c' d' cd' sl' ho
    refine ⟨fun M h X ⟨o, vs, e1, e2, e3⟩ => e2 ▸ (PySem.W.Looks.ld e1).andThen .now, fun M h X _ => ?_, fun h tp dd its n sl X htp => ?_, fun {prog w A E Q s} X ⟨o, vs, e1, e2, e3⟩ hq => ?_⟩
    · intro A' Q' E' s' k q
      unfold isType loadHead
      exact wpAny_bind (wpAny_loadPart (k _ _ (X _ _ ho)) (wpAny_pure q))
    · refine Bool.eq_false_iff.mpr fun q => ?_
      have e : C = tp := Value.ref.inj (beq_iff_eq.mp q)
      subst e
      have z := (X _ _ ho).symm.trans htp
      cases z
    · obtain ⟨h, g, d, t, os⟩ := s
      exact exc_class_attr X e1 e2 T.ob T.be T.cl T.ga T.na hq
  · cases hcC
section
variable {X : Cx} {e : Expr} {pos p p2 : Pos} {f : FE} {x : Str}
end
end Tw

set_option Elab.async false
set_option linter.all false
set_option maxRecDepth 100000
set_option maxHeartbeats 1000000
namespace Tw
open PySem PySem.Spec PyProof.Rows L2
/-! ### len(str(e)) -/
section
variable {X : Cx} {a : Expr} {pos p p1 p2 : Pos} {fa : FA}
end
/-- one class -/
def k1 (c : Addr) (b : Bool) : Addr → Option Bool := fun C => if C = c then some b else none
end Tw

set_option Elab.async false
set_option linter.all false
set_option maxRecDepth 100000
set_option maxHeartbeats 1000000
namespace Tw
open PySem PySem.Spec PyProof.Rows L2
/-! ### a, b = a list -/
section
variable {prog : Program} {w : World} {A : Around} {E : Value → Shared → Prop} {s : Shared}
end
section
variable {X : Cx} {e : Expr} {es : List Expr} {pos : Pos} {f : FE}
/-- a, b = a tuple or a list -/
def fUnS (is : List Nat) (f : FE) : FS := fun ρ => (f ρ).bind fun d => match d with
  | .tup ds => if ds.length = is.length ∧ lfL ds = true then some (.nx (setAll is ds ρ)) else none
  | .lst ds => if ds.length = is.length ∧ lfL ds = true then some (.nx (setAll is ds ρ)) else none
  | _ => none
end
end Tw

set_option Elab.async false
set_option linter.all false
set_option maxRecDepth 100000
set_option maxHeartbeats 4000000
local macro_rules | `(tactic| walk_at "tv a") => `(tactic| first | exact Tw.qxa_nil | (refine' Tw.qxa_cons ?h0 ?h1; (case h0 => walk_at "tv e"); (case h1 => walk_at "tv a")))
local macro_rules | `(tactic| walk_at "tv n") => `(tactic| first | exact Tw.qx_name 0 | exact Tw.qx_name 1 | exact Tw.qx_name 2 | exact Tw.qx_name 3 | exact Tw.qx_name 4 | exact Tw.qx_name 5 | exact Tw.qx_name 6 | exact Tw.qx_name 7 | exact Tw.qx_name 8 | exact Tw.qx_name 9 | exact Tw.qx_name 10 | exact Tw.qx_name 11 | exact Tw.qx_name 12 | exact Tw.qx_name 13 | exact Tw.qx_name 14 | exact Tw.qx_name 15 | exact Tw.qx_name 16 | exact Tw.qx_name 17 | exact Tw.qx_name 18 | exact Tw.qx_name 19)
local macro_rules | `(tactic| walk_at "tv e") => `(tactic| first
  | exact Tw.qx_int | exact Tw.qx_bl | exact Tw.qx_non | exact Tw.qx_str | exact Tw.qx_dic | walk_at "tv n"
  | (refine' Tw.qx_add ?h0 ?h1; (case h0 => walk_at "tv e"); (case h1 => walk_at "tv e")) | (refine' Tw.qx_sub ?h0 ?h1; (case h0 => walk_at "tv e"); (case h1 => walk_at "tv e")) | (refine' Tw.qx_mul ?h0 ?h1; (case h0 => walk_at "tv e"); (case h1 => walk_at "tv e")) | (refine' Tw.qx_div ?h0 ?h1; (case h0 => walk_at "tv e"); (case h1 => walk_at "tv e")) | (refine' Tw.qx_mod ?h0 ?h1; (case h0 => walk_at "tv e"); (case h1 => walk_at "tv e")) | (refine' Tw.qx_pow ?h0 ?h1; (case h0 => walk_at "tv e"); (case h1 => walk_at "tv e"))
  | (refine' Tw.qx_neg ?h0; (case h0 => walk_at "tv e")) | (refine' Tw.qx_not ?h0; (case h0 => walk_at "tv e"))
  | (refine' Tw.qx_lt ?h0 ?h1; (case h0 => walk_at "tv e"); (case h1 => walk_at "tv e")) | (refine' Tw.qx_le ?h0 ?h1; (case h0 => walk_at "tv e"); (case h1 => walk_at "tv e")) | (refine' Tw.qx_gt ?h0 ?h1; (case h0 => walk_at "tv e"); (case h1 => walk_at "tv e")) | (refine' Tw.qx_ge ?h0 ?h1; (case h0 => walk_at "tv e"); (case h1 => walk_at "tv e"))
  | (refine' Tw.qx_eq (by assumption) ?h0 ?h1; (case h0 => walk_at "tv e"); (case h1 => walk_at "tv e")) | (refine' Tw.qx_ne (by assumption) ?h0 ?h1; (case h0 => walk_at "tv e"); (case h1 => walk_at "tv e")) | (refine' Tw.qx_is ?h0 ?h1; (case h0 => walk_at "tv e"); (case h1 => walk_at "tv e")) | (refine' Tw.qx_isnot ?h0 ?h1; (case h0 => walk_at "tv e"); (case h1 => walk_at "tv e"))
  | (refine' Tw.qx_and ?h0 ?h1; (case h0 => walk_at "tv e"); (case h1 => walk_at "tv e")) | (refine' Tw.qx_or ?h0 ?h1; (case h0 => walk_at "tv e"); (case h1 => walk_at "tv e")) | (refine' Tw.qx_one ?h0; (case h0 => walk_at "tv e"))
  | (refine' Tw.qx_tup ?h0; (case h0 => walk_at "tv a")) | (refine' Tw.qx_lst ?h0; (case h0 => walk_at "tv a"))
  | (refine' Tw.qx_slice ?h0 ?h1 ?h2; (case h0 => walk_at "tv e"); (case h1 => walk_at "tv o"); (case h2 => walk_at "tv o")) | (refine' Tw.qx_ix ?h0 ?h1; (case h0 => walk_at "tv e"); (case h1 => walk_at "tv e"))
  | (refine' Tw.qx_lenS (by assumption) ?h0; (case h0 => walk_at "tv a")) | (refine' Tw.qx_len (by assumption) ?h0; (case h0 => walk_at "tv a")) | (refine' Tw.qx_abs (by assumption) ?h0; (case h0 => walk_at "tv a")) | (refine' Tw.qx_max rfl (by assumption) ?h0; (case h0 => walk_at "tv a")) | (refine' Tw.qx_strI (by assumption) ?h0; (case h0 => walk_at "tv a"))
  | (refine' Tw.qx_isi (T := "tuple") (Tw.kit_mk (by decide)) (by assumption) (by assumption) ?h0; (case h0 => walk_at "tv e")) | (refine' Tw.qx_isi (T := "int") (Tw.kit_mk (by decide)) (by assumption) (by assumption) ?h0; (case h0 => walk_at "tv e")) | (refine' Tw.qx_isi (T := "bool") (Tw.kit_mk (by decide)) (by assumption) (by assumption) ?h0; (case h0 => walk_at "tv e")) | (refine' Tw.qx_isi (T := "str") (Tw.kit_mk (by decide)) (by assumption) (by assumption) ?h0; (case h0 => walk_at "tv e")) | (refine' Tw.qx_isi (T := "list") (Tw.kit_mk (by decide)) (by assumption) (by assumption) ?h0; (case h0 => walk_at "tv e")) | (refine' Tw.qx_isC (by assumption) (by assumption) (by assumption) (by assumption) ?h0; (case h0 => walk_at "tv e")) | (refine' Tw.qx_isT (by assumption) (by assumption) (by assumption) (by assumption) ?h0; (case h0 => walk_at "tv e")) | (refine' Tw.qx_bits ?h0; (case h0 => walk_at "tv e"))
  | (refine' Tw.qx_call (by assumption) (by assumption) ?h0; (case h0 => walk_at "tv a")) | (refine' Tw.qx_if ?h0 ?h1 ?h2; (case h0 => walk_at "tv t"); (case h1 => walk_at "tv e"); (case h2 => walk_at "tv e")))
local macro_rules | `(tactic| walk_at "tv o") => `(tactic| first | exact Tw.qxo_none | (refine' Tw.qxo_some ?h0; (case h0 => walk_at "tv e")))
local macro_rules | `(tactic| walk_at "tv w") => `(tactic| first | (refine' Tw.qxw_and ?h0 ?h1; (case h0 => walk_at "tv t"); (case h1 => walk_at "tv w")) | (refine' Tw.qxw_or ?h0 ?h1; (case h0 => walk_at "tv t"); (case h1 => walk_at "tv w")) | (refine' Tw.qxw_and1 ?h0; (case h0 => walk_at "tv t")) | (refine' Tw.qxw_or1 ?h0; (case h0 => walk_at "tv t")))
local macro_rules | `(tactic| walk_at "tv t") => `(tactic| first
  | (refine' Tw.qxt_lt ?h0 ?h1; (case h0 => walk_at "tv e"); (case h1 => walk_at "tv e")) | (refine' Tw.qxt_le ?h0 ?h1; (case h0 => walk_at "tv e"); (case h1 => walk_at "tv e")) | (refine' Tw.qxt_gt ?h0 ?h1; (case h0 => walk_at "tv e"); (case h1 => walk_at "tv e")) | (refine' Tw.qxt_ge ?h0 ?h1; (case h0 => walk_at "tv e"); (case h1 => walk_at "tv e"))
  | (refine' Tw.qxt_eq (by assumption) ?h0 ?h1; (case h0 => walk_at "tv e"); (case h1 => walk_at "tv e")) | (refine' Tw.qxt_ne (by assumption) ?h0 ?h1; (case h0 => walk_at "tv e"); (case h1 => walk_at "tv e")) | (refine' Tw.qxt_is ?h0 ?h1; (case h0 => walk_at "tv e"); (case h1 => walk_at "tv e")) | (refine' Tw.qxt_isnot ?h0 ?h1; (case h0 => walk_at "tv e"); (case h1 => walk_at "tv e"))
  | (refine' Tw.qxt_not ?h0; (case h0 => walk_at "tv t")) | (refine' Tw.qxt_of ?h0; (case h0 => walk_at "tv w")) | (refine' Tw.qxt_tru ?h0; (case h0 => walk_at "tv e")))
local macro_rules | `(tactic| walk_at "tv ss") => `(tactic| first | exact Tw.qx_nil | (refine' Tw.qx_last ?h0; (case h0 => walk_at "tv s")) | (refine' Tw.qx_cons ?h0 ?h1; (case h0 => walk_at "tv s"); (case h1 => walk_at "tv ss")))
local macro_rules | `(tactic| walk_at "tv tg") => `(tactic| first | exact Tw.Tg.nil | (refine' Tw.tg_cons (i := 0) ?h0; (case h0 => walk_at "tv tg")) | (refine' Tw.tg_cons (i := 1) ?h0; (case h0 => walk_at "tv tg")) | (refine' Tw.tg_cons (i := 2) ?h0; (case h0 => walk_at "tv tg")) | (refine' Tw.tg_cons (i := 3) ?h0; (case h0 => walk_at "tv tg")) | (refine' Tw.tg_cons (i := 4) ?h0; (case h0 => walk_at "tv tg")) | (refine' Tw.tg_cons (i := 5) ?h0; (case h0 => walk_at "tv tg")) | (refine' Tw.tg_cons (i := 6) ?h0; (case h0 => walk_at "tv tg")) | (refine' Tw.tg_cons (i := 7) ?h0; (case h0 => walk_at "tv tg")) | (refine' Tw.tg_cons (i := 8) ?h0; (case h0 => walk_at "tv tg")) | (refine' Tw.tg_cons (i := 9) ?h0; (case h0 => walk_at "tv tg")) | (refine' Tw.tg_cons (i := 10) ?h0; (case h0 => walk_at "tv tg")) | (refine' Tw.tg_cons (i := 11) ?h0; (case h0 => walk_at "tv tg")) | (refine' Tw.tg_cons (i := 12) ?h0; (case h0 => walk_at "tv tg")) | (refine' Tw.tg_cons (i := 13) ?h0; (case h0 => walk_at "tv tg")) | (refine' Tw.tg_cons (i := 14) ?h0; (case h0 => walk_at "tv tg")) | (refine' Tw.tg_cons (i := 15) ?h0; (case h0 => walk_at "tv tg")) | (refine' Tw.tg_cons (i := 16) ?h0; (case h0 => walk_at "tv tg")) | (refine' Tw.tg_cons (i := 17) ?h0; (case h0 => walk_at "tv tg")) | (refine' Tw.tg_cons (i := 18) ?h0; (case h0 => walk_at "tv tg")) | (refine' Tw.tg_cons (i := 19) ?h0; (case h0 => walk_at "tv tg")))
local macro_rules | `(tactic| walk_at "tv s") => `(tactic| first
  | exact Tw.qxs_pass | exact Tw.qxs_break | exact Tw.qxs_cont | exact Tw.qxs_retNone
  | exact Tw.qxs_retN 0 | exact Tw.qxs_retN 1 | exact Tw.qxs_retN 2 | exact Tw.qxs_retN 3 | exact Tw.qxs_retN 4 | exact Tw.qxs_retN 5 | exact Tw.qxs_retN 6 | exact Tw.qxs_retN 7 | exact Tw.qxs_retN 8 | exact Tw.qxs_retN 9 | exact Tw.qxs_retN 10 | exact Tw.qxs_retN 11 | exact Tw.qxs_retN 12 | exact Tw.qxs_retN 13 | exact Tw.qxs_retN 14 | exact Tw.qxs_retN 15 | exact Tw.qxs_retN 16 | exact Tw.qxs_retN 17 | exact Tw.qxs_retN 18 | exact Tw.qxs_retN 19
  | (refine' Tw.qxs_ret ?h0; (case h0 => walk_at "tv e"))
  | (refine' Tw.qxs_set 0 (by assumption) ?h0; (case h0 => walk_at "tv e")) | (refine' Tw.qxs_set 1 (by assumption) ?h0; (case h0 => walk_at "tv e")) | (refine' Tw.qxs_set 2 (by assumption) ?h0; (case h0 => walk_at "tv e")) | (refine' Tw.qxs_set 3 (by assumption) ?h0; (case h0 => walk_at "tv e")) | (refine' Tw.qxs_set 4 (by assumption) ?h0; (case h0 => walk_at "tv e")) | (refine' Tw.qxs_set 5 (by assumption) ?h0; (case h0 => walk_at "tv e")) | (refine' Tw.qxs_set 6 (by assumption) ?h0; (case h0 => walk_at "tv e")) | (refine' Tw.qxs_set 7 (by assumption) ?h0; (case h0 => walk_at "tv e")) | (refine' Tw.qxs_set 8 (by assumption) ?h0; (case h0 => walk_at "tv e")) | (refine' Tw.qxs_set 9 (by assumption) ?h0; (case h0 => walk_at "tv e")) | (refine' Tw.qxs_set 10 (by assumption) ?h0; (case h0 => walk_at "tv e")) | (refine' Tw.qxs_set 11 (by assumption) ?h0; (case h0 => walk_at "tv e")) | (refine' Tw.qxs_set 12 (by assumption) ?h0; (case h0 => walk_at "tv e")) | (refine' Tw.qxs_set 13 (by assumption) ?h0; (case h0 => walk_at "tv e")) | (refine' Tw.qxs_set 14 (by assumption) ?h0; (case h0 => walk_at "tv e")) | (refine' Tw.qxs_set 15 (by assumption) ?h0; (case h0 => walk_at "tv e")) | (refine' Tw.qxs_set 16 (by assumption) ?h0; (case h0 => walk_at "tv e")) | (refine' Tw.qxs_set 17 (by assumption) ?h0; (case h0 => walk_at "tv e")) | (refine' Tw.qxs_set 18 (by assumption) ?h0; (case h0 => walk_at "tv e")) | (refine' Tw.qxs_set 19 (by assumption) ?h0; (case h0 => walk_at "tv e"))
  | (refine' Tw.qxs_if ?h0 ?h1 ?h2; (case h0 => walk_at "tv t"); (case h1 => walk_at "tv ss"); (case h2 => walk_at "tv ss"))
  | (refine' Tw.qxs_par 0 1 rfl (by assumption) ?h0 rfl; (case h0 => walk_at "tv a")) | (refine' Tw.qxs_par 1 0 rfl (by assumption) ?h0 rfl; (case h0 => walk_at "tv a"))
  | (refine' Tw.qxs_unS rfl (by assumption) (by walk_at "tv tg") ?h0; (case h0 => walk_at "tv e"))
  | (refine' Tw.qxs_app 0 ?h0; (case h0 => walk_at "tv e")) | (refine' Tw.qxs_app 1 ?h0; (case h0 => walk_at "tv e")) | (refine' Tw.qxs_app 2 ?h0; (case h0 => walk_at "tv e")) | (refine' Tw.qxs_app 3 ?h0; (case h0 => walk_at "tv e")) | (refine' Tw.qxs_app 4 ?h0; (case h0 => walk_at "tv e")) | (refine' Tw.qxs_app 5 ?h0; (case h0 => walk_at "tv e")) | (refine' Tw.qxs_app 6 ?h0; (case h0 => walk_at "tv e")) | (refine' Tw.qxs_app 7 ?h0; (case h0 => walk_at "tv e")) | (refine' Tw.qxs_app 8 ?h0; (case h0 => walk_at "tv e")) | (refine' Tw.qxs_app 9 ?h0; (case h0 => walk_at "tv e")) | (refine' Tw.qxs_app 10 ?h0; (case h0 => walk_at "tv e")) | (refine' Tw.qxs_app 11 ?h0; (case h0 => walk_at "tv e")) | (refine' Tw.qxs_app 12 ?h0; (case h0 => walk_at "tv e")) | (refine' Tw.qxs_app 13 ?h0; (case h0 => walk_at "tv e")) | (refine' Tw.qxs_app 14 ?h0; (case h0 => walk_at "tv e")) | (refine' Tw.qxs_app 15 ?h0; (case h0 => walk_at "tv e")) | (refine' Tw.qxs_app 16 ?h0; (case h0 => walk_at "tv e")) | (refine' Tw.qxs_app 17 ?h0; (case h0 => walk_at "tv e")) | (refine' Tw.qxs_app 18 ?h0; (case h0 => walk_at "tv e")) | (refine' Tw.qxs_app 19 ?h0; (case h0 => walk_at "tv e"))
  | (refine' Tw.qxs_while PySem.PassesOwn.never ?h0 ?h1; (case h0 => walk_at "tv t"); (case h1 => walk_at "tv ss"))
  | (refine' Tw.qxs_forRi 0 (by assumption) PySem.PassesOwn.never rfl (by assumption) ?h0 ?h1; (case h0 => walk_at "tv a"); (case h1 => walk_at "tv ss"))
  | (refine' Tw.qxs_forRi 1 (by assumption) PySem.PassesOwn.never rfl (by assumption) ?h0 ?h1; (case h0 => walk_at "tv a"); (case h1 => walk_at "tv ss"))
  | (refine' Tw.qxs_forRi 2 (by assumption) PySem.PassesOwn.never rfl (by assumption) ?h0 ?h1; (case h0 => walk_at "tv a"); (case h1 => walk_at "tv ss"))
  | (refine' Tw.qxs_forRi 3 (by assumption) PySem.PassesOwn.never rfl (by assumption) ?h0 ?h1; (case h0 => walk_at "tv a"); (case h1 => walk_at "tv ss"))
  | (refine' Tw.qxs_forRi 4 (by assumption) PySem.PassesOwn.never rfl (by assumption) ?h0 ?h1; (case h0 => walk_at "tv a"); (case h1 => walk_at "tv ss"))
  | (refine' Tw.qxs_forRi 5 (by assumption) PySem.PassesOwn.never rfl (by assumption) ?h0 ?h1; (case h0 => walk_at "tv a"); (case h1 => walk_at "tv ss"))
  | (refine' Tw.qxs_forRi 6 (by assumption) PySem.PassesOwn.never rfl (by assumption) ?h0 ?h1; (case h0 => walk_at "tv a"); (case h1 => walk_at "tv ss"))
  | (refine' Tw.qxs_forRi 7 (by assumption) PySem.PassesOwn.never rfl (by assumption) ?h0 ?h1; (case h0 => walk_at "tv a"); (case h1 => walk_at "tv ss"))
  | (refine' Tw.qxs_forRi 8 (by assumption) PySem.PassesOwn.never rfl (by assumption) ?h0 ?h1; (case h0 => walk_at "tv a"); (case h1 => walk_at "tv ss"))
  | (refine' Tw.qxs_forRi 9 (by assumption) PySem.PassesOwn.never rfl (by assumption) ?h0 ?h1; (case h0 => walk_at "tv a"); (case h1 => walk_at "tv ss")) | (refine' Tw.qxs_forRi 10 (by assumption) PySem.PassesOwn.never rfl (by assumption) ?h0 ?h1; (case h0 => walk_at "tv a"); (case h1 => walk_at "tv ss")) | (refine' Tw.qxs_forRi 11 (by assumption) PySem.PassesOwn.never rfl (by assumption) ?h0 ?h1; (case h0 => walk_at "tv a"); (case h1 => walk_at "tv ss")) | (refine' Tw.qxs_forRi 12 (by assumption) PySem.PassesOwn.never rfl (by assumption) ?h0 ?h1; (case h0 => walk_at "tv a"); (case h1 => walk_at "tv ss")) | (refine' Tw.qxs_forRi 13 (by assumption) PySem.PassesOwn.never rfl (by assumption) ?h0 ?h1; (case h0 => walk_at "tv a"); (case h1 => walk_at "tv ss")) | (refine' Tw.qxs_forRi 14 (by assumption) PySem.PassesOwn.never rfl (by assumption) ?h0 ?h1; (case h0 => walk_at "tv a"); (case h1 => walk_at "tv ss")) | (refine' Tw.qxs_forRi 15 (by assumption) PySem.PassesOwn.never rfl (by assumption) ?h0 ?h1; (case h0 => walk_at "tv a"); (case h1 => walk_at "tv ss")) | (refine' Tw.qxs_forRi 16 (by assumption) PySem.PassesOwn.never rfl (by assumption) ?h0 ?h1; (case h0 => walk_at "tv a"); (case h1 => walk_at "tv ss")) | (refine' Tw.qxs_forRi 17 (by assumption) PySem.PassesOwn.never rfl (by assumption) ?h0 ?h1; (case h0 => walk_at "tv a"); (case h1 => walk_at "tv ss")) | (refine' Tw.qxs_forRi 18 (by assumption) PySem.PassesOwn.never rfl (by assumption) ?h0 ?h1; (case h0 => walk_at "tv a"); (case h1 => walk_at "tv ss")) | (refine' Tw.qxs_forRi 19 (by assumption) PySem.PassesOwn.never rfl (by assumption) ?h0 ?h1; (case h0 => walk_at "tv a"); (case h1 => walk_at "tv ss"))
  | (refine' Tw.qxs_fori 0 (by assumption) PySem.PassesOwn.never rfl ?h0 ?h1; (case h0 => walk_at "tv e"); (case h1 => walk_at "tv ss"))
  | (refine' Tw.qxs_fori 1 (by assumption) PySem.PassesOwn.never rfl ?h0 ?h1; (case h0 => walk_at "tv e"); (case h1 => walk_at "tv ss"))
  | (refine' Tw.qxs_fori 2 (by assumption) PySem.PassesOwn.never rfl ?h0 ?h1; (case h0 => walk_at "tv e"); (case h1 => walk_at "tv ss"))
  | (refine' Tw.qxs_fori 3 (by assumption) PySem.PassesOwn.never rfl ?h0 ?h1; (case h0 => walk_at "tv e"); (case h1 => walk_at "tv ss"))
  | (refine' Tw.qxs_fori 4 (by assumption) PySem.PassesOwn.never rfl ?h0 ?h1; (case h0 => walk_at "tv e"); (case h1 => walk_at "tv ss"))
  | (refine' Tw.qxs_fori 5 (by assumption) PySem.PassesOwn.never rfl ?h0 ?h1; (case h0 => walk_at "tv e"); (case h1 => walk_at "tv ss"))
  | (refine' Tw.qxs_fori 6 (by assumption) PySem.PassesOwn.never rfl ?h0 ?h1; (case h0 => walk_at "tv e"); (case h1 => walk_at "tv ss"))
  | (refine' Tw.qxs_fori 7 (by assumption) PySem.PassesOwn.never rfl ?h0 ?h1; (case h0 => walk_at "tv e"); (case h1 => walk_at "tv ss"))
  | (refine' Tw.qxs_fori 8 (by assumption) PySem.PassesOwn.never rfl ?h0 ?h1; (case h0 => walk_at "tv e"); (case h1 => walk_at "tv ss"))
  | (refine' Tw.qxs_fori 9 (by assumption) PySem.PassesOwn.never rfl ?h0 ?h1; (case h0 => walk_at "tv e"); (case h1 => walk_at "tv ss")) | (refine' Tw.qxs_fori 10 (by assumption) PySem.PassesOwn.never rfl ?h0 ?h1; (case h0 => walk_at "tv e"); (case h1 => walk_at "tv ss")) | (refine' Tw.qxs_fori 11 (by assumption) PySem.PassesOwn.never rfl ?h0 ?h1; (case h0 => walk_at "tv e"); (case h1 => walk_at "tv ss")) | (refine' Tw.qxs_fori 12 (by assumption) PySem.PassesOwn.never rfl ?h0 ?h1; (case h0 => walk_at "tv e"); (case h1 => walk_at "tv ss")) | (refine' Tw.qxs_fori 13 (by assumption) PySem.PassesOwn.never rfl ?h0 ?h1; (case h0 => walk_at "tv e"); (case h1 => walk_at "tv ss")) | (refine' Tw.qxs_fori 14 (by assumption) PySem.PassesOwn.never rfl ?h0 ?h1; (case h0 => walk_at "tv e"); (case h1 => walk_at "tv ss")) | (refine' Tw.qxs_fori 15 (by assumption) PySem.PassesOwn.never rfl ?h0 ?h1; (case h0 => walk_at "tv e"); (case h1 => walk_at "tv ss")) | (refine' Tw.qxs_fori 16 (by assumption) PySem.PassesOwn.never rfl ?h0 ?h1; (case h0 => walk_at "tv e"); (case h1 => walk_at "tv ss")) | (refine' Tw.qxs_fori 17 (by assumption) PySem.PassesOwn.never rfl ?h0 ?h1; (case h0 => walk_at "tv e"); (case h1 => walk_at "tv ss")) | (refine' Tw.qxs_fori 18 (by assumption) PySem.PassesOwn.never rfl ?h0 ?h1; (case h0 => walk_at "tv e"); (case h1 => walk_at "tv ss")) | (refine' Tw.qxs_fori 19 (by assumption) PySem.PassesOwn.never rfl ?h0 ?h1; (case h0 => walk_at "tv e"); (case h1 => walk_at "tv ss"))
  | (refine' Tw.qxs_forT (by assumption) PySem.PassesOwn.never rfl (by walk_at "tv tg") ?h0 ?h1; (case h0 => walk_at "tv e"); (case h1 => walk_at "tv ss"))
  | exact Tw.qxs_raise)
local macro_rules | `(tactic| walk_at "tv r") => `(tactic| simp only [Tw.runD, Tw.start0, Tw.fThen, Tw.fTest, Tw.fBin, Tw.fVar, Tw.fC, Tw.oI0, Tw.oI, Tw.oAdd, Tw.oIx, Tw.oEqN, Tw.oIs, Tw.isD, Tw.deq, Tw.deqL, Tw.flatE, Tw.frz, Tw.fPar, Tw.fCons, Tw.fNil, Tw.lf, Tw.lfL, Tw.fAsg, Tw.bindD, Tw.fIfS, Tw.fRet, Tw.fRetN, Tw.fCall, Tw.kAbs, Tw.kLen, Tw.kMax, Tw.fTup, Tw.fLst, Tw.fNeg, Tw.fNotV, Tw.fAndV, Tw.fOrV, Tw.bV, Tw.fNot, Tw.fAnd, Tw.fOr, Tw.fTru, Tw.truth, Tw.fIsi, Tw.isiB, Tw.tyD, Tw.items, Tw.fUnp, Tw.fUnS, Tw.setAll, Tw.fApp, Tw.fDrop, Tw.fIf, Tw.fBits, Tw.turnF, Tw.gfName, Tw.gfTup, Tw.isX,   List.length_cons, List.length_nil, List.map_cons, List.map_nil, List.replicate, List.append_nil, List.nil_append, List.cons_append, List.getElem?_cons_zero, List.getElem?_cons_succ, List.set_cons_zero, List.set_cons_succ, Option.bind_some, Option.map_some, Option.bind_none, Option.map_none, if_true, if_false, Bool.false_eq_true, Nat.zero_add, Nat.reduceAdd, Nat.reduceSub, Nat.sub_self, Nat.add_zero, and_self, and_true, true_and, Bool.and_self, Bool.and_true, Bool.true_and, Bool.not_true, Bool.not_false, Bool.or_false, Bool.or_true, Bool.false_or, Bool.true_or, Bool.and_false, Bool.false_and, reduceIte, decide_true, decide_false, Nat.reduceEqDiff, Nat.reduceLeDiff])
namespace KS
open PySem L2 Tw
/-! the law's own -/
def MixSpec (g : List D → Option D) : Prop := ∀ c k : Int, 0 ≤ k → k ≤ 2000 → ∃ m : Int, 0 ≤ m ∧ m < 2147483647 ∧ g [.int c, .int k] = some (.int m)
theorem mOkL {a b : Int} (h : a.natAbs < 2 ^ 64) : mOk a b := .inl h
theorem mOkR {a b : Int} (h : b.natAbs < 2 ^ 64) : mOk a b := .inr (.inl h)
theorem dOk_small {j : Int} (h0 : 0 < j) (h : j.natAbs < 2 ^ 200) : dOk j := ⟨h0, Nat.lt_of_lt_of_le h (by unfold big; exact Nat.pow_le_pow_right (by decide) (by decide))⟩
theorem cp {j : Int} (h0 : 0 ≤ j) (h : j ≤ 1000000) : CPow 10 j := ⟨h0, h, by decide⟩
def NumSpec (g : List D → Option D) : Prop := ∀ c many bs : Int, 0 ≤ many → many ≤ 200 → 0 < bs → bs.natAbs < 2 ^ 200 → ∃ ns : List Int, ns.length = many.toNat ∧ (∀ n ∈ ns, 0 ≤ n ∧ n < bs) ∧ g [.int c, .int many, .int bs] = some (.own (ns.map .int))
abbrev nWC : FT := fTest (fBin oLt (fMul (fVar 7) (fC (.int 30))) (fBin oAdd (fBits (fVar 2)) (fC (.int 8))))
abbrev nWB (g : List D → Option D) : FS := fThen (fAsg 6 (fBin oAdd (fMul (fVar 6) (fC (.int 2147483647))) (fCall g (fCons (fVar 0) (fCons (fBin oAdd (fMul (fC (.int 8)) (fVar 5)) (fVar 7)) fNil))))) (fAsg 7 (fBin oAdd (fVar 7) (fC (.int 1))))
noncomputable abbrev nB (g : List D → Option D) : FS := fThen (fAsg 6 (fVar 4)) (fThen (fIfS (fTest (fBin oGt (fVar 4) (fC (.int 0)))) (fAsg 4 (fDiv (fVar 4) (fVar 2))) (fThen (fAsg 6 (fC (.int 0))) (fThen (fAsg 7 (fC (.int 0))) (whileV nWC (nWB g))))) (fApp 3 (fMod (fVar 6) (fVar 2))))
theorem num_while {g : List D → Option D} (hg : MixSpec g) {c many bs left kk : Int} {xs : List D} (k0 : 0 ≤ kk) (k1 : kk ≤ 200) (bits : Builtin.Int.intBits bs ≤ 200) :
    ∃ y t : Int, whileV nWC (nWB g) [some (.int c), some (.int many), some (.int bs), some (.own xs), some (.int left), some (.int kk), some (.int 0), some (.int 0)] = some (.nx [some (.int c), some (.int many), some (.int bs), some (.own xs), some (.int left), some (.int kk), some (.int y), some (.int t)]) := by
  obtain ⟨ρ', e, ⟨y, t, t0, hρ⟩, _⟩ := whileV_inv (c := nWC) (b := nWB g) (fun ρ => ∃ y t : Int, (0 ≤ t ∧ t ≤ 10) ∧ ρ = [some (.int c), some (.int many), some (.int bs), some (.own xs), some (.int left), some (.int kk), some (.int y), some (.int t)])
    (fun ρ : Ev => match ρ[7]? with | some (some (D.int t)) => (20 - t).toNat | _ => 0) [some (.int c), some (.int many), some (.int bs), some (.own xs), some (.int left), some (.int kk), some (.int 0), some (.int 0)] ⟨0, 0, ⟨by decide, by decide⟩, rfl⟩ (by
      rintro ρ ⟨y, t, ⟨t0, t1⟩, rfl⟩
      have m1 : mOk t 30 := mOkR (by decide)
      have m2 : mOk y 2147483647 := mOkR (by decide)
      have m3 : mOk 8 kk := mOkL (by decide)
      by_cases q : t * 30 < (Builtin.Int.intBits bs : Int) + 8
      · refine .inr ⟨?_, ?_⟩
        · repeat (first | walk_at "tv r" | simp only [m1, q])
        · obtain ⟨m, _, _, hm⟩ := hg c (8 * kk + t) (by omega) (by omega)
          refine ⟨[some (.int c), some (.int many), some (.int bs), some (.own xs), some (.int left), some (.int kk), some (.int (y * 2147483647 + m)), some (.int (t + 1))], ?_, ⟨_, _, ⟨by omega, by omega⟩, rfl⟩, ?_⟩
          · repeat (first | walk_at "tv r" | simp only [m1, m2, m3, hm])
          · simp only [List.getElem?_cons_zero, List.getElem?_cons_succ]
            omega
      · refine .inl ?_
        repeat (first | walk_at "tv r" | simp only [m1, q]))
  exact ⟨y, t, by rw [e, hρ]⟩
/-! ratios in lowest terms, within a bound -/
structure Good (B : Nat) (p q : Int) : Prop where
  pos : 0 < q
  top : p.natAbs ≤ B
  bot : q.natAbs ≤ B
  low : Int.gcd p q = 1
/-! the order of fractions -/
theorem Good.mono {B B' : Nat} {p q : Int} (h : Good B p q) (hb : B ≤ B') : Good B' p q := ⟨h.pos, Nat.le_trans h.top hb, Nat.le_trans h.bot hb, h.low⟩
abbrev tp (a b : Int) : D := .tup [.int a, .int b]
end KS

set_option Elab.async false
set_option linter.all false
set_option maxRecDepth 100000
set_option maxHeartbeats 4000000
namespace KS
open PySem L2 Tw
/-! what a thing of any kind is -/
/-- a cell's turn ends well -/
def Fin (xs : List D) (n : Nat) (r : Option R) : Prop := ∃ (ρ' : Ev) (c' : Option D), List.length ρ' = n ∧ r = some (.nx (some (.scr xs) :: c' :: ρ'))
end KS

set_option Elab.async false
set_option linter.all false
set_option maxRecDepth 100000
set_option maxHeartbeats 1500000
namespace K5
open PySem L2 Tw KS
def top (i : Nat) : Stmt := PySem.Challenge.pw_twainhoard_k05_refusals_apart.main.body.getD i (.Pass ⟨0, 0, 0, 0⟩)
abbrev sMixed : Stmt := top 16
abbrev sNumbers : Stmt := top 17
abbrev sLaw : Stmt := top 19
section
variable {P : Program} {w : World} {K : PySem.W.Frag} {mg : Str → Option Value} {base : Heap} {f : Addr} {fd : FuncData} {k : Nat}
theorem scMixed : FnScope ["cell", "k", "number"] ["cell", "k"] (defScope sMixed) := ⟨rfl, rfl, rfl, by decide +kernel, rfl, by decide +kernel, by decide +kernel⟩
theorem fn_mixed (F : Fun K "_law_mixed" "_law_mixed" sMixed f fd) (B : Binds K fd ["cell", "k"] []) (hm : mg "_law_mixed" = some (.ref f)) : ∃ g, Fn P w K mg base "_law_mixed" (k + 1) g ∧ MixSpec g := by
  have nd := scMixed.nd
  refine ⟨_, fn_mk F scMixed B hm rfl rfl (fun cdv A outer s H E hr => (by walk_at "tv ss" : QSs _ _ _).to), fun c k h0 h1 => ?_⟩
  have b1 := Int.emod_nonneg ((c % 2147483629 + 7919 * k + 11) * 48271) (show (2147483647 : Int) ≠ 0 by decide)
  have b2 := Int.emod_lt_of_pos ((c % 2147483629 + 7919 * k + 11) * 48271) (show (0 : Int) < 2147483647 by decide)
  have m1 : mOk 7919 k := mOkL (by decide)
  have m2 : mOk (c % 2147483629 + 7919 * k + 11) 48271 := mOkR (by decide)
  have m3 : mOk ((c % 2147483629 + 7919 * k + 11) * 48271 % 2147483647) ((c % 2147483629 + 7919 * k + 11) * 48271 % 2147483647) := mOkL (by omega)
  have m4 : mOk 104729 k := mOkL (by decide)
  have m5 : ∀ x : Int, mOk x 39373 := fun x => mOkR (by decide)
  have p1 : (0 : Int) < 2147483629 := by decide
  have p2 : (0 : Int) < 2147483647 := by decide
  refine ⟨(((c % 2147483629 + 7919 * k + 11) * 48271 % 2147483647) * ((c % 2147483629 + 7919 * k + 11) * 48271 % 2147483647) % 2147483629 + 104729 * k) % 2147483629 * 39373 % 2147483647, Int.emod_nonneg _ (show (2147483647 : Int) ≠ 0 by decide), Int.emod_lt_of_pos _ p2, ?_⟩
  repeat (first | walk_at "tv r" | simp only [p1, p2, m1, m2, m3, m4, m5])
theorem scNumbers : FnScope ["cell", "many", "base", "found", "left", "k", "number", "turns"] ["cell", "many", "base"] (defScope sNumbers) := ⟨rfl, rfl, rfl, by decide +kernel, rfl, by decide +kernel, by decide +kernel⟩
theorem fn_numbers {g : List D → Option D} (G : Fn P w K mg base "_law_mixed" k g) (hg : MixSpec g) (mr : mg "range" = none) (F : Fun K "_law_numbers" "_law_numbers" sNumbers f fd) (B : Binds K fd ["cell", "many", "base"] []) (hm : mg "_law_numbers" = some (.ref f)) : ∃ g, Fn P w K mg base "_law_numbers" (k + 1) g ∧ NumSpec g := by
  have nd := scNumbers.nd
  refine ⟨_, fn_mk F scNumbers B hm rfl rfl (fun cdv A outer s H E hr => (by walk_at "tv ss" : QSs _ _ _).to), fun c many bs h0 h1 b0 b1 => ?_⟩
  have c1 : CPow 10 18 := cp (by decide) (by decide)
  have db : dOk bs := dOk_small b0 b1
  have bits : Builtin.Int.intBits bs ≤ 200 := intBits_le_iff.mpr b1
  obtain ⟨ρ', e, ns, left, o5, o6, o7, hρ, hl, hb⟩ := loopF_inv (b := turnF (gfName 5) (nB g)) (fun i ρ => ∃ (ns : List Int) (left : Int) (o5 o6 o7 : Option D), ρ = [some (.int c), some (.int many), some (.int bs), some (.own (ns.map .int)), some (.int left), o5, o6, o7] ∧ ns.length = i ∧ ∀ n ∈ ns, 0 ≤ n ∧ n < bs)
    ((List.range many.toNat).map fun i => D.int (i : Nat)) 0 [some (.int c), some (.int many), some (.int bs), some (.own []), some (.int (c - 10 ^ 18)), none, none, none] ⟨[], _, _, _, _, rfl, rfl, fun n hn => by cases hn⟩ (by
    rintro i x ρ hx ⟨ns, left, o5, o6, o7, hρ, hl, hb⟩
    have hi : i < many.toNat := by
      by_cases z : i < many.toNat
      · exact z
      · rw [List.getElem?_eq_none (by simpa using z)] at hx; cases hx
    rw [List.getElem?_map, List.getElem?_range hi] at hx
    cases hx
    subst hρ
    have app : ∀ y : Int, (∀ n ∈ ns ++ [y % bs], 0 ≤ n ∧ n < bs) ∧ (ns ++ [y % bs]).length = 0 + i + 1 := fun y => by
      refine ⟨fun n hn => ?_, by simp [hl]⟩
      rcases List.mem_append.mp hn with hn | hn
      · exact hb n hn
      · rw [List.mem_singleton.mp hn]
        exact ⟨Int.emod_nonneg y (by omega), Int.emod_lt_of_pos y b0⟩
    have lm : ns.length < lim := by unfold lim; omega
    by_cases lp : 0 < left
    · refine ⟨[some (.int c), some (.int many), some (.int bs), some (.own ((ns ++ [left % bs]).map .int)), some (.int (left / bs)), some (.int (i : Nat)), some (.int left), o7], .inl ?_, ns ++ [left % bs], _, _, _, _, rfl, (app left).2, (app left).1⟩
      repeat (first | walk_at "tv r" | simp only [nB, lp, db, b0, List.length_map, lm, List.map_append])
    · obtain ⟨y, t, hw⟩ := num_while hg (c := c) (many := many) (bs := bs) (left := left) (kk := (i : Nat)) (xs := ns.map .int) (by omega) (by omega) bits
      refine ⟨[some (.int c), some (.int many), some (.int bs), some (.own ((ns ++ [y % bs]).map .int)), some (.int left), some (.int (i : Nat)), some (.int y), some (.int t)], .inl ?_, ns ++ [y % bs], _, _, _, _, rfl, (app y).2, (app y).1⟩
      have pre : turnF (gfName 5) (nB g) (D.int (i : Nat)) [some (.int c), some (.int many), some (.int bs), some (.own (ns.map .int)), some (.int left), o5, o6, o7] = (whileV nWC (nWB g) [some (.int c), some (.int many), some (.int bs), some (.own (ns.map .int)), some (.int left), some (.int (i : Nat)), some (.int 0), some (.int 0)]).bind (fun r => match r with | .nx ρ' => fApp 3 (fMod (fVar 6) (fVar 2)) ρ' | r => some r) := by
        simp only [turnF, gfName, frz, nB, Option.bind_some]
        repeat (first | walk_at "tv r" | simp only [lp])
        all_goals rfl
      rw [pre, hw]
      repeat (first | walk_at "tv r" | simp only [b0, List.length_map, lm, List.map_append]))
  refine ⟨ns, by simpa using hl, hb, ?_⟩
  have r1 : many < 2 ^ 62 ∧ -(2 ^ 62) ≤ many := by omega
  have fr : fForR (fCons (fVar 1) fNil) (gfName 5) (nB g) [some (.int c), some (.int many), some (.int bs), some (.own []), some (.int (c - 10 ^ 18)), none, none, none] = some (.nx ρ') := by
    simp only [fForR, fCons, fVar, fNil, frz, List.getElem?_cons_zero, List.getElem?_cons_succ, Option.bind_some, Option.map_some]
    rw [if_pos r1]
    exact e
  rw [hρ] at fr
  repeat (first | walk_at "tv r" | simp only [c1, lim, Nat.zero_le, show (18 : Int).toNat = 18 from rfl])
  rw [fr]
  repeat (first | walk_at "tv r")

end
end K5

set_option Elab.async false
set_option linter.all false
set_option maxRecDepth 100000
set_option maxHeartbeats 1000000
namespace Tw
open PySem PySem.Spec PyProof.Rows L2
/-! ### list comprehensions with one for -/
section
variable {prog : Program} {w : World} {A : Around} {R : Result → Shared → Prop} {s : Shared}
abbrev Fa : Value → Shared → Prop := fun _ _ => False
/-- the turns of a block in which nothing is raised -/
theorem comp_loop {elt tg iter : Expr} {ifs : List Expr} {scope : Scope} {pos : Pos} {it acc : Value} {env : Env} (I : Nat → Shared → Prop)
    (turn : ∀ n s, I n s → wpAny (model prog w) A (pyNext it) (fun r s1 => match r with
      | none => R (.ok .next) s1
      | some v => wpAny (model prog w) A (letOwnedTupleGo tg it v) (fun _ s2 => wpAny (model prog w) A (assign tg env v) (fun _ s3 =>
          wpAny (model prog w) A (forIn ifs true fun c r => if r = true then do let ok ← isTrue c env (eval c env); pure (ForInStep.yield ok) else pure (ForInStep.yield r)) (fun ok s4 =>
            if ok = true then wpAny (model prog w) A (eval elt env) (fun x s5 => wpAny (model prog w) A (call (.builtin "list.append") [acc, x]) (fun _ s6 => ∃ m, m < n ∧ I m s6) Fa s5) Fa s4
            else ∃ m, m < n ∧ I m s4) Fa s3) Fa s2) Fa s1) Fa s)
    (n : Nat) (h : I n s) : codeAny (model prog w) A (.compLoop (.ListComp elt [⟨tg, iter, ifs, 0⟩] scope pos) 0 it acc env) R s := by
  refine codeAny_loop rfl I (fun n s hI => ?_) n h
  show wpAny _ A ((compTurn (.ListComp elt [⟨tg, iter, ifs, 0⟩] scope pos) 0 it acc env).onRaise (fun x => do noteFrame x env; theTreesLotGoes x)) _ _ s
  refine wpAny_noted ?_
  rw [compTurn_list]
  refine wpAny_bind (wpAny_standAt (wpAny_bind (wpAny_mono (turn n s hI) (fun r s1 h1 => ?_) fun _ _ z => z.elim)))
  cases r with
  | none => exact wpAny_pure h1
  | some v =>
    refine wpAny_bind (wpAny_mono h1 (fun _ s2 h2 => wpAny_bind (wpAny_mono h2 (fun _ s3 h3 => wpAny_bind (wpAny_mono h3 (fun ok s4 h4 => ?_) fun _ _ z => z.elim)) fun _ _ z => z.elim)) fun _ _ z => z.elim)
    cases ok with
    | true =>
      rw [if_pos rfl] at h4 ⊢
      exact wpAny_bind (wpAny_bind (wpAny_mono h4 (fun x s5 h5 => wpAny_bind (wpAny_mono h5 (fun _ s6 h6 => wpAny_pure (wpAny_pure ⟨rfl, h6⟩)) fun _ _ z => z.elim)) fun _ _ z => z.elim))
    | false =>
      rw [if_neg Bool.false_ne_true] at h4 ⊢
      exact wpAny_bind (wpAny_pure (wpAny_pure ⟨rfl, h4⟩))
end
end Tw

set_option Elab.async false
set_option linter.all false
set_option maxRecDepth 100000
set_option maxHeartbeats 1000000
namespace Tw
open PySem PySem.Spec PyProof.Rows L2
/-- the block's context: its own names, the captured ones, and the list that grows -/
def blk (X : Cx) (scope : Scope) (cl : List (Str × Addr)) (s2 : Shared) (H2 : Hp) (fp : List Addr) (C : Addr) (N : List Str) : Cx where
  prog := X.prog
  w := X.w
  K := X.K
  mg := X.mg
  base := X.base
  A := X.A
  N := N
  s₀ := s2
  H₀ := H2
  env := compEnvC scope cl C X.env
  outer := X.stack
  stack := X.stack
  ex := fp
  fn := fun _ => false
  calm := X.calm
  pn := []
  xe := fun _ _ => False
/-- the slot of the list that grows: no name of the text -/
abbrev accN : Str := " acc"
/-- names of the block: its own, or captured from slot j -/
inductive Cap (X : Cx) (sc : Scope) (cl : List (Str × Addr)) : List Str → List (Option Nat) → Prop where
  | nil : Cap X sc cl [] []
  | own {n : Str} {N : List Str} {js : List (Option Nat)} (t : Cap X sc cl N js) : Cap X sc cl (n :: N) (none :: js)
  | cap {n : Str} {N : List Str} {j : Nat} {js : List (Option Nat)} (hj : X.N[j]? = some n) (hk : X.env.scope.names.lookup n = some .cell) (hl : sc.names.lookup n = some .cell) (hc : cl.lookup n = X.env.cells.lookup n) (t : Cap X sc cl N js) : Cap X sc cl (n :: N) (some j :: js)
theorem Cap.len {X : Cx} {sc : Scope} {cl : List (Str × Addr)} {N : List Str} {js : List (Option Nat)} (h : Cap X sc cl N js) : js.length = N.length := by
  induction h with
  | nil => rfl
  | own t ih => simp [ih]
  | cap _ _ _ _ t ih => simp [ih]
theorem Cap.get {X : Cx} {sc : Scope} {cl : List (Str × Addr)} {N : List Str} {js : List (Option Nat)} (h : Cap X sc cl N js) : ∀ {i j : Nat} {n : Str}, N[i]? = some n → js[i]? = some (some j) → X.N[j]? = some n ∧ X.env.scope.names.lookup n = some .cell ∧ sc.names.lookup n = some .cell ∧ cl.lookup n = X.env.cells.lookup n := by
  induction h with
  | nil => intro i j n e1 _; simp at e1
  | own t ih =>
    intro i j n e1 e2
    cases i with
    | zero => simp at e2
    | succ i => exact ih (by simpa using e1) (by simpa using e2)
  | cap hj hk hl hc t ih =>
    intro i j n e1 e2
    cases i with
    | zero => simp at e1 e2; subst e1; subst e2; exact ⟨hj, hk, hl, hc⟩
    | succ i => exact ih (by simpa using e1) (by simpa using e2)
def capS (js : List (Option Nat)) (σ : L2.St) : L2.St := js.map fun o => o.bind fun j => (σ[j]?).join
def capE (js : List (Option Nat)) (ρ : Ev) : Ev := js.map fun o => o.bind fun j => ((ρ[j]?).join).map frz
structure Blk (X : Cx) (scope : Scope) (cl : List (Str × Addr)) (N : List Str) (js : List (Option Nat)) : Prop where
  clos : closureFor scope X.env = pure cl
  kind : scope.kind = .function
  cell : ∀ y ∈ scope.names, y.2 ≠ .cell
  nms : ∀ y ∈ scope.names, y.2 = .local → scope.names.lookup y.1 = some .local
  cap : Cap X (relabel scope X.env) cl N js
  sub : ∀ y c, cl.lookup y = some c → X.env.cells.lookup y = some c
  has : ∀ y, ((relabel scope X.env).names.lookup y = some .cell ∨ (relabel scope X.env).names.lookup y = some .free) → ∃ c, cl.lookup y = some c
  acc : ∀ k, (relabel scope X.env).names.lookup accN ≠ some k
section
variable {X : Cx} {pins : List (Addr × Obj)} {σ : L2.St} {H2 : Hp} {s2 s4 : Shared} {scope : Scope} {cl : List (Str × Addr)} {N : List Str} {js : List (Option Nat)} {fp : List Addr} {Dd C : Addr} {m : Str → Option Value}
theorem blk_ok (I : Inv X pins σ H2 s2) (b : Blk X scope cl N js) (f2 : ∀ y ∈ fp, FpOk X pins H2 y) (fl : ∀ y ∈ fp, y < s2.heap.objs.size) (hC : s2.heap.objs.size ≤ C) : (blk X scope cl s2 H2 fp C (N ++ [accN])).Ok where
  mod := I.ok.mod
  kind := b.kind
  glob := I.ok.glob
  blt := I.ok.blt
  above := hC
  inj := fun x y c e1 e2 => I.ok.inj x y c (b.sub x c e1) (b.sub y c e2)
  has := fun x h => b.has x h
  cab := fun x c h => nomatch h
  hd := I.ok.hd
  frames := I.ok.frames
  stk := .inl rfl
  exf := fun y hy => ⟨Nat.ne_of_lt (Nat.lt_of_lt_of_le (fl y hy) hC), fun x c e => (f2 y hy).2.2.2.2.1 x c (b.sub x c e)⟩
  bs := I.bs
  bsz := Nat.le_trans I.ok.bsz I.sz
  noex := fun y o e hy => by
    rcases (f2 y hy).2.2.2.1 with z | z
    · exact I.ok.noex y o e z
    · exact absurd (Nat.lt_of_lt_of_le (Heap.lt_size e) (Nat.le_trans I.ok.bsz z)) (Nat.lt_irrefl _)
  exfs := fun y hy z => (List.mem_cons.mp (I.stkSub y z)).elim (f2 y hy).2.1 (f2 y hy).2.2.1
  funs := I.stack
  frf := I.stkFree
theorem blk_inv (I : Inv X pins σ H2 s2) (b : Blk X scope cl N js) (f2 : ∀ y ∈ fp, FpOk X pins H2 y) (fl : ∀ y ∈ fp, y < s2.heap.objs.size) (hC : s2.heap.objs.size ≤ C) (hD : s2.heap.objs.size ≤ Dd) (ne : Dd ≠ C)
    (ho : s4.os = s2.os) (hg : AllBare s4.gens) (kp : ∀ y o, s2.heap.get? y = some o → s4.heap.get? y = some o) (hn : s4.heap.Ns C m) (hk : HOk X.prog X.w (upd H2 Dd (.lst [])) s4.heap) :
    Inv (blk X scope cl s2 H2 fp C (N ++ [accN])) [] (capS js σ ++ [some (.ref Dd)]) (upd H2 Dd (.lst [])) s4 := by
  have nD : ∀ y o, s2.heap.get? y = some o → y ≠ Dd := fun y o e => Nat.ne_of_lt (Nat.lt_of_lt_of_le (Heap.lt_size e) hD)
  have nH : ∀ y u, H2 y = some u → y ≠ Dd := fun y u e => Nat.ne_of_lt (Nat.lt_of_lt_of_le (I.hok.lt e) hD)
  have cD : ∀ x c, X.env.cells.lookup x = some c → c ≠ Dd := fun x c e => by
    obtain ⟨v, o, e1, _⟩ := I.cell x c e
    exact nD c o e1
  refine ⟨blk_ok I b f2 fl hC, ho, hg, ⟨fun y o e _ _ _ => kp y o e, fun y o e _ _ _ => ⟨o.slots, kp y o e⟩, fun y o e n _ => ?_, fun y o e _ => ⟨o, kp y o e⟩, fun y xs e => ?_, fun y o u e => ?_, fun y ps e => ?_⟩, ⟨m, hn, fun i x v e1 e2 e3 => ?_⟩, fun x c e => ?_, ?_, fun x c e => ?_, fun p hp => absurd (show p ∈ ([] : List (Addr × Obj)) from hp) (by simp), hk, ?_⟩
  · rw [upd_ne (nD y o e)]; exact n
  · rw [upd_ne (nH _ _ e)]; exact e
  · rw [upd_ne (nH _ _ e)]; exact e
  · have e' : H2 y = some (.tbl ps) := e
    exact ⟨#[], by rw [upd_ne (nH _ _ e'), e']; simp⟩
  · have hl : js.length = N.length := b.cap.len
    by_cases hi : i < N.length
    · have e1' : N[i]? = some x := by
        have z : (N ++ [accN])[i]? = some x := e1
        rw [List.getElem?_append_left hi] at z; exact z
      rw [List.getElem?_append_left (by unfold capS; simp; omega)] at e2
      unfold capS at e2
      rw [List.getElem?_map] at e2
      cases ej : js[i]? with
      | none => rw [ej] at e2; cases e2
      | some o =>
        rw [ej] at e2
        cases o with
        | none => cases e2
        | some j =>
          obtain ⟨c1, c2, c3, c4⟩ := b.cap.get e1' ej
          simp only [Option.map_some, Option.bind_some] at e2
          have e2' : σ[j]? = some (some v) := by
            cases q : σ[j]? with
            | none => rw [q] at e2; cases e2
            | some o => rw [q] at e2; simp at e2; rw [e2]
          obtain ⟨m2, _, hl2⟩ := I.loc
          obtain ⟨u, r, lk⟩ := hl2 j x v c1 e2' (.inr (.inl c2))
          refine ⟨u, r, .inr ⟨.inl c3, ?_⟩⟩
          rcases lk with ⟨k, _⟩ | ⟨_, c, e, z⟩
          · have k' : X.env.scope.names.lookup x = some .local := k
            rw [c2] at k'; cases k'
          · exact ⟨c, c4.trans e, z.keeps kp⟩
    · have hx : x = accN := by
        have z : (N ++ [accN])[i]? = some x := e1
        rw [List.getElem?_append_right (by omega)] at z
        cases q : i - N.length with
        | zero => rw [q] at z; simp at z; exact z.symm
        | succ k => rw [q] at z; simp at z
      subst hx
      rcases e3 with z | z | z
      · exact absurd z (b.acc _)
      · exact absurd z (b.acc _)
      · exact absurd z (b.acc _)
  · obtain ⟨v, z⟩ := I.cell x c (b.sub x c e)
    exact ⟨v, z.keeps kp⟩
  · show upd H2 Dd (.lst []) C = none
    rw [upd_ne (Ne.symm ne)]
    exact I.hok.fresh hC
  · rw [upd_ne (cD x c (b.sub x c e))]
    exact I.freeC x c (b.sub x c e)
  · show (capS js σ ++ [some (V.ref Dd)]).length = (N ++ [accN]).length
    unfold capS
    simp [b.cap.len]
theorem blk_rep {P : List (D × V)} {ρ : Ev} (b : Blk X scope cl N js) (rv : RepV X.K ρ σ H2) (hP : ∀ p ∈ P, Den X.K Emp H2 p.1 p.2) (hn : H2 Dd = none) :
    Rep (blk X scope cl s2 H2 fp C (N ++ [accN])) P (capE js ρ ++ [some (.own [])]) (fun k => if k = js.length then some Dd else none) (capS js σ ++ [some (.ref Dd)]) (upd H2 Dd (.lst [])) := by
  have up : ∀ {d v}, Den X.K Emp H2 d v → Den X.K (Own fun k => if k = js.length then some Dd else none) (upd H2 Dd (.lst [])) d v := fun {d v} h =>
    den_mono (fun y o e _ => by rw [upd_ne (fun z => by rw [z, hn] at e; cases e)]; exact e) (fun _ z => z.elim) (fun y ⟨i, z⟩ => by
      try dsimp only at z
      split at z
      · cases z; exact .inr hn
      · cases z) d v h
  refine ⟨same_upd hn _, by unfold capE capS; simp, fun i d e => ?_, fun i j a e1 e2 => ?_, fun i a e => ?_, fun i a e => ?_, fun p hp => up (hP p hp)⟩
  · by_cases hi : i < js.length
    · rw [List.getElem?_append_left (by unfold capE; simpa using hi)] at e
      unfold capE at e
      rw [List.getElem?_map] at e
      cases ej : js[i]? with
      | none => rw [ej] at e; cases e
      | some o =>
        rw [ej] at e
        cases o with
        | none => cases e
        | some j =>
          simp only [Option.map_some, Option.bind_some] at e
          cases q : ρ[j]? with
          | none => rw [q] at e; cases e
          | some o =>
            rw [q] at e
            cases o with
            | none => cases e
            | some d0 =>
              simp only [Option.join_some, Option.map_some] at e
              have e' : frz d0 = d := Option.some.inj (Option.some.inj e)
              subst e'
              obtain ⟨v, h1, h2⟩ := rv j d0 q
              refine ⟨v, ?_, SlotOk.plain (up (den_frz.mpr h2))⟩
              rw [List.getElem?_append_left (by unfold capS; simpa using hi)]
              unfold capS
              rw [List.getElem?_map, ej]
              simp only [Option.map_some, Option.bind_some]
              rw [h1]; rfl
    · rw [List.getElem?_append_right (by unfold capE; simpa using hi)] at e
      have hc : (capE js ρ).length = js.length := by unfold capE; simp
      rw [hc] at e
      cases q : i - js.length with
      | succ k => rw [q] at e; simp at e
      | zero =>
        rw [q] at e
        simp at e
        subst e
        have hi' : i = js.length := by omega
        subst hi'
        refine ⟨.ref Dd, ?_, Dd, [], by simp, rfl, upd_same, denL_nil⟩
        rw [List.getElem?_append_right (by unfold capS; simp)]
        unfold capS
        simp
  · try dsimp only at e1 e2
    split at e1
    · split at e2
      · omega
      · cases e2
    · cases e1
  · try dsimp only at e
    split at e
    · cases e; exact ⟨_, upd_same, trivial⟩
    · cases e
  · try dsimp only at e
    split at e
    · cases e; exact hn
    · cases e
end
end Tw

set_option Elab.async false
set_option linter.all false
set_option maxRecDepth 100000
set_option maxHeartbeats 1000000
namespace Tw
open PySem PySem.Spec PyProof.Rows L2
/-- what a block does to its names and its list -/
abbrev blkB (k : Nat) (t : FT) (fe : FE) : FS := fIfS t (fApp k fe) (fun ρ => some (.nx ρ))
def lastL (k : Nat) : Option R → Option D
  | some (.nx ρ) => match ρ[k]? with
    | some (some (.own ys)) => some (.own ys)
    | _ => none
  | _ => none
/-- a target that leaves slot k alone -/
def PXGk (Y : Cx) (k : Nat) (g : TG) (gf : D → Ev → Option Ev) : Prop := ∀ (P : List (D × V)) (d : D) (v : V) (own : Nat → Option Addr) (ρ ρ' : Ev) (σ : L2.St) (H : Hp) (Q : L2.St → Hp → Prop), Rep Y P ρ own σ H → Den Y.K (Own own) H d v → gf d ρ = some ρ' →
  (∀ own' σ', Rep Y P ρ' own' σ' H → σ'[k]? = σ[k]? → Q σ' H) → g v σ H Q
theorem pxgk_name {Y : Cx} {k : Nat} (i : Nat) (h : i ≠ k) : PXGk Y k (gName i) (gfName i) := fun P d v own ρ ρ' σ H Q rp hd e q => by
  unfold gfName at e
  cases e
  exact q _ _ (rp.put (i := i) (by cases d <;> rfl) (den_frz.mpr hd)) (List.getElem?_set_ne h)
section
variable {X : Cx} {pins : List (Addr × Obj)} {σ : L2.St} {H2 : Hp} {s2 : Shared} {scope : Scope} {cl : List (Str × Addr)} {N : List Str} {js : List (Option Nat)} {fp : List Addr} {it : Addr} {tn : Nat → Heap → Prop} {J : It}
  {elt tg iter : Expr} {ifs : List Expr} {pos : Pos} {P : List (D × V)} {ρ : Ev} {xs : List D} {g : TG} {gf : D → Ev → Option Ev} {t : FT} {fe : FE} {ys : List D} {Q : VK}
theorem comp_core (hcalm : X.calm = true) (I2 : Inv X pins σ H2 s2) (T : Turn X.prog X.w X.K tg J fp it tn) (st2 : tn 0 s2.heap) (f2 : ∀ y ∈ fp, FpOk X pins H2 y) (b : Blk X scope cl N js) (rv : RepV X.K ρ σ H2) (hP : ∀ p ∈ P, Den X.K Emp H2 p.1 p.2)
    (hgo : ∀ (Y : Cx), Y.K = X.K → ∀ (i : Nat) (own : Nat → Option Addr) (ρ : Ev) (σ : L2.St) (H : Hp) (x : D), Rep Y P ρ own σ H → xs[i]? = some x → J.go i H ∧ ∀ v H', J.yld i H v H' → Same H H' ∧ Den X.K (Own own) H' x v)
    (hst : ∀ (Y : Cx), Y.K = X.K → ∀ (own : Nat → Option Addr) (ρ : Ev) (σ : L2.St) (H : Hp), Rep Y P ρ own σ H → J.stop xs.length H)
    (hg : ∀ C, PG (blk X scope cl s2 H2 fp C (N ++ [accN])) tg g) (hgf : ∀ C, PXGk (blk X scope cl s2 H2 fp C (N ++ [accN])) js.length g gf)
    (htt : ∀ C pins' s σ' H ρ k Q, Inv (blk X scope cl s2 H2 fp C (N ++ [accN])) pins' σ' H s → RepV X.K ρ σ' H → t ρ = some k → (∀ H', Same H H' → Q k H') →
      wpAny (model X.prog X.w) X.A (forIn ifs true fun c r => if r = true then do let ok ← isTrue c (compEnvC scope cl C X.env) (eval c (compEnvC scope cl C X.env)); pure (ForInStep.yield ok) else pure (ForInStep.yield r)) (TP (blk X scope cl s2 H2 fp C (N ++ [accN])) pins' σ' Q) Fa s)
    (he : ∀ C, PX (blk X scope cl s2 H2 fp C (N ++ [accN])) elt fe)
    (e : lastL js.length (loopF (turnF gf (blkB js.length t fe)) xs (capE js ρ ++ [some (.own [])])) = some (.own ys))
    (q : ∀ Dd H', Same H2 H' → DenF X.K H2 H' (.own ys) (.ref Dd) → Q (.ref Dd) H') :
    wpAny (model X.prog X.w) X.A (newList []) (fun acc s3 => wpAny (model X.prog X.w) X.A (newFunctionEnv scope X.env.globals cl [] X.env.qual none .none (some X.env)) (fun cenv s4 =>
      codeAny (model X.prog X.w) X.A (.compStart (.ListComp elt [⟨tg, iter, ifs, 0⟩] scope pos) 0 (.ref it) acc { cenv with scope := relabel scope X.env }) (compPost (model X.prog X.w) X.A X.xe none (EP X pins σ Q) acc cenv.locals) s4) X.xe s3) X.xe s2 := by
  have fl : ∀ y ∈ fp, y < s2.heap.objs.size := fun y hy => by obtain ⟨o, eo, _⟩ := T.obj _ _ st2 y hy; exact Heap.lt_size eo
  refine wpAny_newObj_type (wpAny_newFunctionEnv b.cell (by intro y hy; simp at hy) (fun h' hns hsb => ?_) b.kind)
  dsimp only at hns hsb ⊢
  generalize hH : s2.heap.push { cls := .type "list", dict := none, data := .seq ([] : List Value).toArray } = H3 at hns hsb ⊢
  have hC : H3.objs.size = s2.heap.objs.size + 1 := by rw [← hH, Heap.size_push]
  have ne : s2.heap.objs.size ≠ H3.objs.size := by rw [hC]; exact Nat.ne_of_lt (Nat.lt_succ_self _)
  have leC : s2.heap.objs.size ≤ H3.objs.size := by rw [hC]; exact Nat.le_succ _
  have kp3 : ∀ y o, s2.heap.get? y = some o → H3.get? y = some o := fun y o e => hH ▸ Heap.get?_push_of_some _ e
  have kp4 : ∀ y o, H3.get? y = some o → h'.get? y = some o := fun y o e => hsb.extBut y o (Nat.ne_of_lt (Heap.lt_size e)) (Heap.get?_push_of_some _ e)
  have hDn : H2 s2.heap.objs.size = none := I2.hok.fresh (Nat.le_refl _)
  have ok3 : HOk X.prog X.w (upd H2 s2.heap.objs.size (.lst [])) H3 := I2.hok.laid kp3 (Nat.le_refl _) ⟨Nat.zero_le _, [], 0, .nil, by rw [← hH]; exact Heap.get?_push_size _ rfl⟩
  have I4 := blk_inv (s4 := { s2 with heap := h', toks := s2.toks + ([] : List (Str × Value)).length }) (Dd := s2.heap.objs.size) (C := H3.objs.size) I2 b f2 fl leC (Nat.le_refl _) ne rfl I2.bare (fun y o e => kp4 y o (kp3 y o e)) hns (ok3.kept kp4)
  have R4 := blk_rep (s2 := s2) (fp := fp) (C := H3.objs.size) (Dd := s2.heap.objs.size) (P := P) b rv hP hDn
  have hfree : ∀ {H' : Hp}, (∀ y ∈ fp, H' y = none) → ∀ y ∈ fp, FpOk (blk X scope cl s2 H2 fp H3.objs.size (N ++ [accN])) [] H' y := fun hn y hy =>
    ⟨hn y hy, Nat.ne_of_lt (Nat.lt_of_lt_of_le (fl y hy) leC), fun z => (List.mem_cons.mp (I2.stkSub y z)).elim (f2 y hy).2.1 (f2 y hy).2.2.1, .inl hy, fun x c ec => (f2 y hy).2.2.2.2.1 x c (b.sub x c ec), fun p hp => absurd (show p ∈ ([] : List (Addr × Obj)) from hp) (by simp)⟩
  have loop : ∀ s5 : Shared, s5 = { s2 with heap := h', toks := s2.toks + ([] : List (Str × Value)).length } →
      codeAny (model X.prog X.w) X.A (.compLoop (.ListComp elt [⟨tg, iter, ifs, 0⟩] scope pos) 0 (.ref it) (.ref s2.heap.objs.size) (compEnvC scope cl H3.objs.size X.env))
        (compPost (model X.prog X.w) X.A X.xe none (EP X pins σ Q) (.ref s2.heap.objs.size) H3.objs.size) s5 := by
    rintro s5 rfl
    let Y := blk X scope cl s2 H2 fp H3.objs.size (N ++ [accN])
    have he' : ∃ ρe, loopF (turnF gf (blkB js.length t fe)) xs (capE js ρ ++ [some (.own [])]) = some (.nx ρe) ∧ ρe[js.length]? = some (some (.own ys)) := by
      unfold lastL at e
      split at e
      · rename_i ρe eq
        refine ⟨ρe, eq, ?_⟩
        split at e
        · rename_i ys' eq'; cases e; exact eq'
        · cases e
      · cases e
    obtain ⟨ρe, eL, eY⟩ := he'
    refine comp_loop (fun n s => ∃ i σ' H' own' ρ', n = xs.length - i ∧ i ≤ xs.length ∧ Inv Y [] σ' H' s ∧ tn i s.heap ∧ (∀ y ∈ fp, H' y = none) ∧ σ'[js.length]? = some (some (.ref s2.heap.objs.size)) ∧ Rep Y P ρ' own' σ' H' ∧ loopF (turnF gf (blkB js.length t fe)) (xs.drop i) ρ' = some (.nx ρe)) ?_ xs.length
      ⟨0, _, _, _, _, by simp, Nat.zero_le _, I4, T.keep 0 _ _ st2 fun y hy o eo => kp4 y o (kp3 y o eo), fun y hy => by rw [upd_ne (Nat.ne_of_lt (fl y hy))]; exact (f2 y hy).1, by rw [List.getElem?_append_right (by unfold capS; simp)]; unfold capS; simp, R4, by simpa using eL⟩
    rintro n s ⟨i, σ', H', own', ρ', rfl, hi, I, st, fr, sl, rp, el⟩
    by_cases hlt : i < xs.length
    · obtain ⟨go, yl⟩ := hgo Y rfl i own' ρ' σ' H' xs[i] rp (by simp [hlt])
      refine wpAny_mono (T.item Y rfl rfl rfl hcalm i [] s σ' H' Fa I (hfree fr) st go) (fun r s1 ⟨u, hr, h1⟩ => ?_) fun _ _ z => z
      subst hr
      refine wpAny_mono h1 (fun _ s3 ⟨x, H5, I5, r5, y5, st5, fr5⟩ => ?_) fun _ _ z => z
      obtain ⟨sm5, dx⟩ := yl x H5 y5
      replace rp := rp.grow sm5
      rw [List.drop_eq_getElem_cons hlt, loopF] at el
      cases e1 : turnF gf (blkB js.length t fe) xs[i] ρ' with
      | none => rw [e1] at el; cases el
      | some r1 =>
        rw [e1] at el
        simp only [Option.bind_some] at el
        unfold turnF at e1
        cases e2 : gf xs[i] ρ' with
        | none => rw [e2] at e1; cases e1
        | some ρ1 =>
          rw [e2] at e1
          simp only [Option.bind_some, blkB, fIfS] at e1
          cases e3 : t ρ1 with
          | none => rw [e3] at e1; cases e1
          | some k =>
            rw [e3] at e1
            simp only [Option.bind_some] at e1
            have I5' := I5.pinned (hfree fr5) (T.obj _ _ st5)
            have gg := hgf H3.objs.size P xs[i] x own' ρ' ρ1 σ' H5 (fun σ2 Hh => ∃ own2, Rep Y P ρ1 own2 σ2 Hh ∧ σ2[js.length]? = some (some (.ref s2.heap.objs.size))) rp dx e2 (fun own2 σ2 rp2 k2 => ⟨own2, rp2, k2.trans sl⟩)
            refine wpAny_mono (hg H3.objs.size _ s3 σ' H5 x u _ I5' r5 gg) (fun _ s6 ⟨σ6, H6, I6, own6, rp6, sl6⟩ => ?_) fun _ _ z => z
            have back : ∀ {s7 : Shared} {H7 : Hp} {own7 : Nat → Option Addr} {ρ7 : Ev}, Inv Y ([] ++ pinsAt fp s3.heap) σ6 H7 s7 → Rep Y P ρ7 own7 σ6 H7 → loopF (turnF gf (blkB js.length t fe)) (xs.drop (i + 1)) ρ7 = some (.nx ρe) →
                ∃ m, m < xs.length - i ∧ ∃ i σ' H' own' ρ', m = xs.length - i ∧ i ≤ xs.length ∧ Inv Y [] σ' H' s7 ∧ tn i s7.heap ∧ (∀ y ∈ fp, H' y = none) ∧ σ'[js.length]? = some (some (.ref s2.heap.objs.size)) ∧ Rep Y P ρ' own' σ' H' ∧ loopF (turnF gf (blkB js.length t fe)) (xs.drop i) ρ' = some (.nx ρe) := fun {s7 H7 own7 ρ7} I7 rp7 e7 => by
              refine ⟨xs.length - (i + 1), by omega, i + 1, σ6, H7, own7, ρ7, rfl, hlt, I7.unpinned, T.keep _ _ _ st5 fun y hy o eo => (I7.pin (y, o) (List.mem_append_right _ (List.mem_append_right _ (mem_pinsAt hy eo)))).1, fun y hy => ?_, sl6, rp7, e7⟩
              obtain ⟨o, eo, _⟩ := T.obj _ _ st5 y hy
              exact (I7.pin (y, o) (List.mem_append_right _ (List.mem_append_right _ (mem_pinsAt hy eo)))).2.1
            refine wpAny_mono (htt H3.objs.size _ s6 σ6 H6 ρ1 k (fun k' Hh => k' = k ∧ Same H6 Hh) I6 rp6.view e3 (fun H' sm => ⟨rfl, sm⟩)) (fun ok s7 ⟨H7, I7, hk, sm7⟩ => ?_) fun _ _ z => z
            subst hk
            cases ok with
            | false =>
              rw [if_neg Bool.false_ne_true] at e1 ⊢
              cases e1
              exact back I7 (rp6.grow sm7) el
            | true =>
              rw [if_pos rfl] at e1 ⊢
              have rp7 := rp6.grow sm7
              unfold fApp at e1
              cases e4 : fe ρ1 with
              | none => rw [e4] at e1; cases e1
              | some d =>
                rw [e4] at e1
                simp only [Option.bind_some] at e1
                split at e1
                · rename_i zs e5
                  split at e1
                  · rename_i hl
                    cases e1
                    refine wpAny_mono (he H3.objs.size _ s7 σ6 H7 (fun v H8 => Same H7 H8 ∧ DenF X.K H7 H8 d v) I7 ⟨ρ1, d, rp7.view, e4, fun v H8 s8 d8 => ⟨s8, d8⟩⟩) (fun u8 s8 ⟨v8, H8, I8, r8, sm8, d8⟩ => ?_) fun _ _ z => z
                    have rp8 := rp7.grow sm8
                    obtain ⟨va, h1, a, vs, h2, h3, h4, lz⟩ := rp8.slot js.length _ e5
                    rw [sl6] at h1
                    cases h1
                    cases h3
                    have lz' : DenL X.K (Own own6) H8 zs vs := lz
                    have h9 := mt_append (X := Y) _ s8 σ6 H8 (.ref s2.heap.objs.size) [v8] (.ref s2.heap.objs.size) [u8] (fun v H9 => H9 = upd H8 s2.heap.objs.size (.lst (vs ++ [v8]))) I8 rfl (.cons r8 .nil) ⟨_, vs, v8, rfl, rfl, h4, by rw [← denL_length lz']; exact Nat.lt_of_lt_of_le hl.2 lim_line, rfl⟩
                    refine wpAny_mono h9 (fun _ s9 ⟨v9, H9, I9, _, e9⟩ => ?_) fun _ _ z => z
                    subst e9
                    exact back I9 (rp8.mut e5 h2 (denL_append lz' (denL_cons (den_lf _ _ hl.1 d8.den) denL_nil))) el
                  · cases e1
                · cases e1
    · have hie : i = xs.length := by omega
      subst hie
      refine wpAny_mono (T.done Y rfl rfl rfl hcalm _ [] s σ' H' Fa I (hfree fr) st (hst Y rfl own' ρ' σ' H' rp)) (fun r s1 ⟨hr, I1⟩ => ?_) fun _ _ z => z
      subst hr
      rw [List.drop_eq_nil_of_le (Nat.le_refl _), loopF] at el
      cases el
      obtain ⟨m, hnm, _⟩ := id I1.loc
      refine ⟨m, hnm, fun h9 hs9 => ?_⟩
      obtain ⟨va, h1, a, vs, h2, h3, h4, lz⟩ := rp.slot js.length _ eY
      rw [sl] at h1
      cases h1
      cases h3
      have neC : ∀ y, H' y ≠ none → y ≠ H3.objs.size := fun y z w => z (by rw [w]; exact I1.free)
      have inS : ∀ y o, s2.heap.get? y = some o → y ≠ H3.objs.size := fun y o e0 => Nat.ne_of_lt (Nat.lt_of_lt_of_le (Heap.lt_size e0) leC)
      have B := I1.base
      have un : Un (frs X.stack) fp H2 H' s2.heap h9 := ⟨fun y o e0 n hb hx => (hs9.2 y (inS y o e0)).trans (B.keep y o e0 n hb hx), fun y o e0 n hb hx => by
          obtain ⟨sl', z⟩ := B.slot y o e0 n hb hx
          exact ⟨sl', (hs9.2 y (inS y o e0)).trans z⟩, B.free, fun y o e0 hx => by
          obtain ⟨o', z⟩ := B.there y o e0 hx
          exact ⟨o', (hs9.2 y (inS y o e0)).trans z⟩, B.tups, B.frzs, B.tbls⟩
      have hok : HOk X.prog X.w H' h9 := fun y u0 q0 => (I1.hok y u0 q0).stay (fun c v hc z => (hs9.2 c (neC c (by
          rcases hc with w | w
          · rw [w, q0]; exact fun z => nomatch z
          · rw [w]; exact fun z => nomatch z))).trans z) (fun _ z => z) fun _ _ z => z
      refine ⟨.ref s2.heap.objs.size, H', I2.call' (s' := { s1 with heap := h9 }) (ch := fp) I1.os un hok I1.bare (fun y hy => ⟨(f2 y hy).2.2.2.1, (f2 y hy).2.1, (f2 y hy).2.2.2.2.1, (f2 y hy).2.2.2.2.2⟩), rfl, ?_⟩
      exact q _ H' rp.same ⟨_, vs, rfl, hDn, h4, denL_mono (fun _ _ q _ => q) rp.isL (fun b z => .inl ⟨js.length, by rw [z]; exact h2⟩) _ _ lz⟩
  exact codeAny_compStart_list (loop _ rfl) (T.self _ 0 _ _ _ (T.keep 0 _ _ st2 fun y hy o eo => kp4 y o (kp3 y o eo)) (loop _ rfl))
end
end Tw

set_option Elab.async false
set_option linter.all false
set_option maxRecDepth 100000
set_option maxHeartbeats 1000000
namespace Tw
open PySem PySem.Spec PyProof.Rows L2
def fCompL (js : List (Option Nat)) (gf : D → Ev → Option Ev) (t : FT) (fe : FE) (xs : List D) : FE := fun ρ => lastL js.length (loopF (turnF gf (blkB js.length t fe)) xs (capE js ρ ++ [some (.own [])]))
def fCompR (fa : FA) (js : List (Option Nat)) (gf : D → Ev → Option Ev) (t : FT) (fe : FE) : FE := fun ρ => (fa ρ).bind fun ds => match ds with
  | [.int n] => if n < 2 ^ 62 ∧ -(2 ^ 62) ≤ n then fCompL js gf t fe ((List.range n.toNat).map fun i => .int (i : Nat)) ρ else none
  | _ => none
theorem lastL_own {k : Nat} {r : Option R} {d : D} (e : lastL k r = some d) : ∃ ys, d = .own ys := by
  unfold lastL at e
  split at e
  · split at e
    · cases e; exact ⟨_, rfl⟩
    · cases e
  · cases e
/-- the tests of a block -/
structure Tst (Y : Cx) (ifs : List Expr) (t : FT) : Prop where
  to : ∀ pins' s σ' H ρ k Q, Inv Y pins' σ' H s → RepV Y.K ρ σ' H → t ρ = some k → (∀ H', Same H H' → Q k H') →
    wpAny (model Y.prog Y.w) Y.A (forIn ifs true fun c r => if r = true then do let ok ← isTrue c Y.env (eval c Y.env); pure (ForInStep.yield ok) else pure (ForInStep.yield r)) (TP Y pins' σ' Q) Fa s
theorem tst_nil {Y : Cx} : Tst Y [] (fun _ => some true) := ⟨fun pins' s σ' H ρ k Q I rv e q => by cases e; exact wpAny_tests_nil ⟨H, I, q H (Same.refl H)⟩⟩
section
variable {X : Cx} {scope : Scope} {cl : List (Str × Addr)} {N : List Str} {js : List (Option Nat)} {elt iter a : Expr} {ifs : List Expr} {x : Str} {px pos p p2 : Pos} {f : FE} {fa : FA} {t : FT} {fe : FE}
theorem qx_compR (i : Nat) (hc : X.calm = true) (hm : X.mg "range" = none) (b : Blk X scope cl N js) (hN : (N ++ [accN]).Nodup) (ha : QA X [a] fa) (ht : ∀ s2 H2 fp C, Tst (blk X scope cl s2 H2 fp C (N ++ [accN])) ifs t) (he : ∀ s2 H2 fp C, QX (blk X scope cl s2 H2 fp C (N ++ [accN])) elt fe)
    (hi : (N ++ [accN])[i]? = some x) (hx : (relabel scope X.env).names.lookup x = some .local) (hk : i ≠ js.length) (hgl : Gl X "range" := by rfl) (hst : starEach [a] X.env = [(false, eval a X.env)] := by rfl) (hs : ∀ x, foldedSetIterable (.Call (.Name "range" p) [a] [] p2) X.env x = pure x := by intro _; rfl) :
    QX X (.ListComp elt [⟨.Name x px, .Call (.Name "range" p) [a] [] p2, ifs, 0⟩] scope pos) (fCompR fa js (gfName i) t fe) := by
  refine ⟨fun pins s σ H Q I ⟨ρ, d, rv, e, q⟩ => ?_⟩
  unfold fCompR at e
  cases e1 : fa ρ with
  | none => rw [e1] at e; cases e
  | some ds =>
    rw [e1] at e
    simp only [Option.bind_some] at e
    split at e
    · rename_i n
      split at e
      · rename_i hl
        obtain ⟨ys, rfl⟩ := lastL_own e
        rw [eval_ListComp]
        refine wpAny_comprehension_free (use := none) rfl hs b.clos b.kind b.nms ?_
        have hw : iRng1 (tA X fa) σ H (fun J H1 => Same H H1 ∧ J = Itr 0 n.toNat) := by
          refine ⟨ρ, _, rv, e1, fun vs H1 s1 l1 => ?_⟩
          obtain ⟨v, rfl, h⟩ := denL1 l1
          exact ⟨n, by rw [den_int.mp h], hl.2, hl.1, s1, rfl⟩
        refine wpAny_mono (pi_range1 (tg := .Name x px) hgl hm ha.to hst pins s σ H _ I hw) (fun v s1 h1 => wpAny_mono h1 (fun itv s2 h2 => ?_) fun _ _ z => z) fun _ _ z => z
        obtain ⟨it, fp, tn, J, H2, rfl, I2, T, st2, f2, sm, rfl⟩ := h2
        refine comp_core (P := []) (xs := (List.range n.toNat).map fun i => .int (i : Nat)) hc I2 T st2 f2 b (rv.same sm) (fun p hp => nomatch hp) (fun Y hY i own ρ σ Hh y rp ey => ?_) (fun Y hY own ρ σ Hh rp => ?_) (fun C => pg_name hN hi (.inl hx) (.inr hx)) (fun C => pxgk_name i hk) (fun C => (ht s2 H2 fp C).to) (fun C => (he s2 H2 fp C).to) e (fun Dd H' s' d' => q _ H' (sm.trans s') (d'.elder sm))
        · rw [List.getElem?_map] at ey
          have hj : i < n.toNat := by
            by_cases z : i < n.toNat
            · exact z
            · rw [List.getElem?_eq_none (by simpa using z)] at ey; cases ey
          rw [List.getElem?_range hj] at ey
          cases ey
          exact ⟨hj, fun w H' ⟨y1, y2⟩ => by subst y1; exact ⟨Same.refl _, by rw [Den, y2]; simp⟩⟩
        · show n.toNat ≤ _
          simp
      · cases e
    · cases e
end
end Tw

set_option Elab.async false
set_option linter.all false
set_option maxRecDepth 100000
set_option maxHeartbeats 1000000
namespace Tw
open PySem PySem.Spec PyProof.Rows L2
def AllC (X : Cx) : List (Str × Addr) → Prop
  | [] => True
  | p :: r => X.env.cells.lookup p.1 = some p.2 ∧ AllC X r
theorem AllC.sub {X : Cx} : ∀ {cl : List (Str × Addr)}, AllC X cl → ∀ y c, cl.lookup y = some c → X.env.cells.lookup y = some c
  | [], _, y, c, e => by simp at e
  | (n, c0) :: r, h, y, c, e => by
    rw [List.lookup_cons] at e
    cases q : y == n with
    | true =>
      rw [q] at e
      cases e
      have : y = n := by simpa using q
      rw [this]; exact h.1
    | false => rw [q] at e; exact AllC.sub h.2 y c e
theorem lookup_mem {α : Type} : ∀ {l : List (Str × α)} {y : Str} {k : α}, l.lookup y = some k → (y, k) ∈ l
  | [], y, k, e => by simp at e
  | (n, a) :: r, y, k, e => by
    rw [List.lookup_cons] at e
    cases q : y == n with
    | true =>
      rw [q] at e
      cases e
      have : y = n := by simpa using q
      rw [this]; exact List.mem_cons_self
    | false => rw [q] at e; exact List.mem_cons_of_mem _ (lookup_mem e)
section
variable {X : Cx} {scope : Scope} {cl : List (Str × Addr)} {N : List Str} {js : List (Option Nat)}
theorem blk_mk (cap : Cap X (relabel scope X.env) cl N js) (clos : closureFor scope X.env = pure cl) (sub : AllC X cl) (has : (relabel scope X.env).names.all (fun p => (p.2 != .cell && p.2 != .free) || (cl.lookup p.1).isSome) = true) (kind : scope.kind = .function := by rfl) (cell : scope.names.all (fun y => y.2 != .cell) = true := by decide +kernel)
    (nms : scope.names.all (fun y => y.2 != .local || scope.names.lookup y.1 == some .local) = true := by decide +kernel) (acc : (relabel scope X.env).names.lookup accN = none := by rfl) : Blk X scope cl N js where
  clos := clos
  kind := kind
  cell := fun y hy => by have := List.all_eq_true.mp cell y hy; simpa using this
  nms := fun y hy hl => by have := List.all_eq_true.mp nms y hy; rw [hl] at this; simpa using this
  cap := cap
  sub := sub.sub
  has := fun y h => by
    have key : ∀ k, (relabel scope X.env).names.lookup y = some k → k = .cell ∨ k = .free → ∃ c, cl.lookup y = some c := fun k e hk => by
      have := List.all_eq_true.mp has (y, k) (lookup_mem e)
      rcases hk with rfl | rfl <;> simpa [Option.isSome_iff_exists] using this
    rcases h with h | h
    · exact key _ h (.inl rfl)
    · exact key _ h (.inr rfl)
  acc := fun k e => by rw [acc] at e; cases e
end
end Tw

set_option Elab.async false
set_option linter.all false
set_option maxRecDepth 100000
set_option maxHeartbeats 1000000
namespace Tw
open PySem PySem.Spec PyProof.Rows L2
/-! ### all, any of a list of truths; tuple, list, min; chains; tuples together -/
section
variable {X : Cx}
end
end Tw

set_option Elab.async false
set_option linter.all false
set_option maxRecDepth 100000
set_option maxHeartbeats 1000000
namespace Tw
open PySem PySem.Spec PyProof.Rows L2
/-- a list of ints -/
def intsOf : List D → Option (List Int)
  | [] => some []
  | .int i :: ds => (intsOf ds).map fun is => i :: is
  | _ => none
theorem intsOf_eq : ∀ {ds : List D} {is : List Int}, intsOf ds = some is → ds = is.map D.int
  | [], is, e => by simp [intsOf] at e; subst e; rfl
  | d :: ds, is, e => by
    cases d <;> simp only [intsOf] at e <;> try cases e
    rename_i i
    cases e1 : intsOf ds with
    | none => rw [e1] at e; cases e
    | some js =>
      rw [e1] at e; cases e
      rw [intsOf_eq e1]; rfl
theorem denL_of_ints {K : PySem.W.Frag} {O : Addr → Prop} {H : Hp} : ∀ {is : List Int} {vs : List V}, DenL K O H (is.map D.int) vs → vs = is.map V.int
  | [], vs, l => by rw [List.map_nil, DenL] at l; exact l
  | i :: is, vs, l => by
    rw [List.map_cons, DenL] at l
    obtain ⟨v, r, rfl, h, l⟩ := l
    rw [denL_of_ints l, den_int.mp h]; rfl
section
variable {X : Cx} {a b c e e' : Expr} {es : List Expr} {pos p : Pos} {f g h : FE} {fa : FA} {x : Str}
/-! ### global ints -/
/-! ### t + u -/
def oAddT : D → D → Option D
  | .tup xs, .tup ys => if xs.length + ys.length ≤ lim then some (.tup (xs ++ ys)) else none
  | x, y => oAdd x y
def rCat0 (K : PySem.W.Frag) : R2 := fun x y H Q => ∃ a b ys, x = .ref a ∧ y = .ref b ∧ SqT K H a [] ∧ SqT K H b ys ∧ Q (.ref b) H
theorem op_cat0 : OpR X (binaryOp .Add) (rCat0 X.K) := by
  intro pins s σ H x y v u Q I rx ry h
  obtain ⟨a, b, ys, rfl, rfl, ha, hb, q⟩ := h
  cases rx
  cases ry
  obtain ⟨its, r1, p1, _⟩ := I.tuple ha
  obtain ⟨its2, r2, p2, _⟩ := I.tuple hb
  cases r1
  obtain ⟨⟨cls, dd, data, sl⟩, ho, hc, n, hd⟩ := id p1
  obtain ⟨⟨cls2, dd2, data2, sl2⟩, ho2, hc2, n2, hd2⟩ := id p2
  simp only at hc hd hc2 hd2
  subst hc hd hc2 hd2
  exact concat_meets ⟨_, ho, rfl⟩ ⟨_, ho2, rfl⟩ noFill_tuple_add seq_tuple_add PySem.F.slot_tuple_add PySem.F.entry_tuple_add (PySem.F.args_tuple_add_2 _ _)
      (tuple_addW0 a b _ its2.toArray n n2 dd dd2 sl sl2 rfl) ⟨ho, ho2, .ref b, H, I, rfl, q⟩
theorem qx_addT (ha : QX X a f) (hb : QX X b g) : QX X (.BinOp a .Add b pos) (fBin oAddT f g) := ⟨px_bin ((op_add.or op_cat).or (op_catT.or op_cat0)) (by
  intro x y d v u H Q e hx hy q
  have cat : oCat x y = some d → rCat v u H Q := fun e => by
    unfold oCat at e
    cases e1 : asL x with
    | none => rw [e1] at e; cases e
    | some xs =>
      cases e2 : asL y with
      | none => rw [e1, e2] at e; cases e
      | some ys =>
        rw [e1, e2] at e
        simp only [Option.bind_some] at e
        split at e
        · rename_i hl
          cases e
          obtain ⟨a, vs, ev, ha, _, la⟩ := den_asL e1 hx
          obtain ⟨b, us, eu, hb, _, lb⟩ := den_asL e2 hy
          refine ⟨a, b, vs, us, ev, eu, ha, hb, ?_, fun p hp => q _ _ (same_upd hp _) (denF_new hp (denL_append la lb))⟩
          rw [← denL_length la, ← denL_length lb]
          exact Nat.le_trans hl lim_line
        · cases e
  have all : oAdd x y = some d → (rI0 (fun i j => .int (i + j)) v u H Q ∨ rCat v u H Q) := fun e => by
    cases x <;> cases y <;> first
      | exact .inr (cat e)
      | (simp only [oAdd] at e; cases e; rename_i i j; exact .inl ⟨i, j, den_int.mp hx, den_int.mp hy, q _ H (Same.refl H) denF_int⟩)
  by_cases z : ∃ xs ys, x = .tup xs ∧ y = .tup ys
  · obtain ⟨xs, ys, rfl, rfl⟩ := z
    simp only [oAddT] at e
    split at e
    · rename_i hl
      cases e
      have hx' := hx
      have hy' := hy
      rw [Den] at hx' hy'
      obtain ⟨a, vs, ev, ha, la⟩ := hx'
      obtain ⟨b, us, eu, hb, lb⟩ := hy'
      cases xs with
      | nil =>
        rw [DenL] at la
        subst la
        refine .inr (.inr ⟨a, b, us, ev, eu, ha, hb, q _ H (Same.refl H) ?_⟩)
        rw [← eu]
        exact hy
      | cons x0 xs =>
        refine .inr (.inl ⟨a, b, vs, us, ev, eu, ha, hb, ?_, ?_, fun z => ?_, fun z p hp => q _ _ (same_upd hp _) (denF_tup hp (denL_append la lb))⟩)
        · rw [DenL] at la
          obtain ⟨v0, r0, rfl, _⟩ := la
          exact fun z => nomatch z
        · rw [← denL_length la, ← denL_length lb]
          exact Nat.le_trans hl lim_line
        · subst z
          have hyn : ys = [] := by have := denL_length lb; simpa using this
          subst hyn
          refine q _ H (Same.refl H) ?_
          rw [List.append_nil, ← ev]
          exact hx
    · cases e
  · refine .inl (all ?_)
    cases x <;> cases y <;> first | exact e | exact absurd ⟨_, _, rfl, rfl⟩ z) ha.to hb.to⟩
/-! ### t < u of tuples of ints -/
def oLtT : D → D → Option D
  | .tup xs, .tup ys => (intsOf xs).bind fun ns => (intsOf ys).map fun ms => .bl (HT.lexLt ns ms)
  | x, y => oLt x y
/-! ### a op b op' c -/
def fChain (o o' : D → D → Option D) (f g h : FE) : FE := fun ρ => (f ρ).bind fun x => (g ρ).bind fun y => (o x y).bind fun d => match d with
  | .bl k => if k = true then (h ρ).bind fun z => o' y z else some (.bl false)
  | _ => none
/-! ### min, all, any, tuple, list -/
def kMin : List D → Option D
  | [.int i, .int j] => some (.int (if j < i then j else i))
  | _ => none
def kTuple : List D → Option D
  | [d] => (items d).map .tup
  | _ => none
def kList : List D → Option D
  | [d] => (items d).map .own
  | _ => none
end
end Tw

set_option Elab.async false
set_option linter.all false
set_option maxRecDepth 100000
set_option maxHeartbeats 1000000
namespace Tw
open PySem PySem.Spec PyProof.Rows L2
/-! ### dicts of tuples of ints -/
def lookD : List (List Int) → List D → List Int → Option D
  | k' :: ks, x :: xs, k => if k' = k then some x else lookD ks xs k
  | _, _, _ => none
def putKs (ks : List (List Int)) (k : List Int) : List (List Int) := if k ∈ ks then ks else ks ++ [k]
def putX {α : Type} (ks : List (List Int)) (xs : List α) (k : List Int) (d : α) : List α := if k ∈ ks then List.zipWith (fun k' x => if k' = k then d else x) ks xs else xs ++ [d]
theorem inl_inj {a b : List Int} (h : a.map (Sum.inl : Int → Key) = b.map Sum.inl) : a = b := by
  induction a generalizing b with
  | nil => cases b with | nil => rfl | cons _ _ => cases h
  | cons x a ih => cases b with
    | nil => cases h
    | cons y b => rw [List.map_cons, List.map_cons] at h; injection h with h1 h2; injection h1 with h1; rw [h1, ih h2]
theorem inl_kV (k : List Int) : (k.map (Sum.inl : Int → Key)).map kV = k.map V.int := by rw [List.map_map]; rfl
theorem zipK_val {K : PySem.W.Frag} {O : Addr → Prop} {H : Hp} : ∀ {ks : List (List Int)} {xs : List D} {vs : List V} {k : List Int} {x : D}, DenL K O H xs vs → lookD ks xs k = some x → ∃ v, valV (zipK ks vs) (k.map Sum.inl) = some v ∧ Den K O H x v
  | [], _, _, _, _, _, e => by simp [lookD] at e
  | _ :: _, [], _, _, _, _, e => by simp [lookD] at e
  | k' :: ks, x0 :: xs, vs, k, x, l, e => by
    rw [DenL] at l
    obtain ⟨v, r, rfl, h, l⟩ := l
    simp only [lookD] at e
    unfold zipK
    rw [List.zipWith_cons_cons]
    split at e
    · rename_i q
      cases e
      exact ⟨v, valV_pos (by simp [q]), h⟩
    · rename_i q
      rw [valV_neg (fun z => q (inl_inj z))]
      exact zipK_val l e
section
variable {X : Cx} {a b e : Expr} {es : List Expr} {pos p : Pos} {f g : FE} {fa : FA} {x : Str}
theorem key_ofT {pins : List (Addr × Obj)} {σ : L2.St} {H : Hp} {s : Shared} {b : Addr} {ks : List Key} (I : Inv X pins σ H s) (q : SqT X.K H b (ks.map kV)) : (tupleKind (mixKind X.prog X.w)).is s.heap ks b := by
  obtain ⟨its, r, ⟨o, h1, h2, n, h3⟩, _⟩ := I.tuple q
  exact ⟨o, its.toArray, n, h1, h2, h3, by simpa using items_are r⟩
def rIxD (K : PySem.W.Frag) : R2 := fun x y H Q => ∃ a b kvs k v, x = .ref a ∧ y = .ref b ∧ H a = some (.dT kvs) ∧ SqT K H b (k.map kV) ∧ valV kvs k = some v ∧ Q v H
theorem ix_dict {k : Nat} (hr : Room k X.A) : IxR X (rIxD X.K) := by
  intro value slice pins s σ H x y v u Q I rx ry h hs
  obtain ⟨a, b, kvs, k, z, rfl, rfl, ha, hq, hv, q⟩ := h
  cases rx
  cases ry
  obtain ⟨_, hd, xs, rel, dd⟩ := dt_of I.hok ha
  obtain ⟨w', hw, rw'⟩ := RelO.some_of (v := z) (o := (atKey xs k).map (·.2)) (by rw [← hv]; exact rel.val k)
  obtain ⟨p, hp, hp2⟩ := Option.map_eq_some_iff.mp hw
  refine subscriptTail_builtinR (x := w') dd.typeIs PySem.F.slot_dict_getitem.lookup ?_ hs
  refine wpAny_getItem_heap (tupleKind_room_in1 (hu_of hr)) (key_ofT I hq) dd hp ?_
  rw [hp2]
  exact ⟨rfl, z, H, I.tok _, rw', q⟩
def oIxD (x y : D) : Option D := match x with
  | .dct ks xs => match y with
    | .tup ds => (intsOf ds).bind fun k => (lookD ks xs k).map frz
    | _ => none
  | x => oIx x y
theorem qx_ixD {k : Nat} (hr : Room k X.A) (ha : QX X a f) (hb : QX X b g) (hs : PlainIx b := by intro _ _; rfl) : QX X (.Subscript a b pos) (fBin oIxD f g) := by
  have ho : IxR X (fun x y H Q => rIx X.K x y H Q ∨ rIxD X.K x y H Q) := by
    intro value slice pins s σ H x y v u Q I rx ry h hs
    rcases h with h | h
    · exact ix_seq value slice pins s σ H x y v u Q I rx ry h hs
    · exact ix_dict hr value slice pins s σ H x y v u Q I rx ry h hs
  refine ⟨PE.weak (pe_ix ho ha.to hb.to hs) (bin_weak ?_)⟩
  intro x y d v u H Q e hx hy q
  by_cases z : ∃ ks xs, x = .dct ks xs
  · obtain ⟨ks, xs, rfl⟩ := z
    simp only [oIxD] at e
    cases y <;> simp only at e <;> try cases e
    rename_i ds
    cases e1 : intsOf ds with
    | none => rw [e1] at e; cases e
    | some k =>
      rw [e1] at e
      simp only [Option.bind_some] at e
      cases e2 : lookD ks xs k with
      | none => rw [e2] at e; cases e
      | some z =>
        rw [e2] at e; cases e
        rw [Den] at hx
        obtain ⟨a, vs, ev, ha, _, hl, la⟩ := hx
        rw [intsOf_eq e1, Den] at hy
        obtain ⟨b, us, eu, hb, lb⟩ := hy
        rw [denL_of_ints lb, ← inl_kV] at hb
        obtain ⟨w, hw, dw⟩ := zipK_val la e2
        exact .inr ⟨a, b, _, _, w, ev, eu, ha, hb, hw, q w H (Same.refl H) (DenF.of (den_frz.mpr dw))⟩
  · have e' : oIx x y = some d := by
      cases x <;> first | exact e | exact absurd ⟨_, _, rfl⟩ z
    refine .inl ?_
    cases y <;> simp only [oIx] at e' <;> try cases e'
    rename_i i
    cases e1 : items x with
    | none => rw [e1] at e'; cases e'
    | some xs =>
      rw [e1] at e'
      simp only [Option.bind_some] at e'
      cases e2 : atI xs i with
      | none => rw [e2] at e'; cases e'
      | some z =>
        rw [e2] at e'; cases e'
        obtain ⟨p, vs, ev, hq, l⟩ := den_items e1 hx
        obtain ⟨w, hw, dw⟩ := atI_den l e2
        have fin := q w H (Same.refl H) (DenF.of (den_frz.mpr dw))
        rcases hq with hq | hq
        · exact .inl ⟨p, vs, i, w, ev, den_int.mp hy, hq, hw, fin⟩
        · exact .inr (.inl ⟨p, vs, i, w, ev, den_int.mp hy, hq, hw, fin⟩)
/-- d[(.., ..)] = e -/
def fDPut (i : Nat) (fk : FA) (fv : FE) : FS := fun ρ => (fv ρ).bind fun d => (fk ρ).bind fun ds => (intsOf ds).bind fun k => match ρ[i]? with
  | some (some (.odt ks xs)) => if lf d = true ∧ ks.length < lim ∧ k.length ≤ lim then some (.nx (ρ.set i (some (.odt (putKs ks k) (putX ks xs k d))))) else none
  | _ => none
end
end Tw

set_option Elab.async false
set_option linter.all false
set_option maxRecDepth 100000
set_option maxHeartbeats 1000000
namespace Tw
open PySem PySem.Spec PyProof.Rows L2
/-! ### t[:], t[::-1] -/
section
variable {prog : Program} {w : World} {A : Around} {E : Value → Shared → Prop} {s : Shared}
theorem tuple_full {t sl : Addr} {items : Array Value} {vl vu : Value} {lo hi : Option Int} {Q : Value → Shared → Prop} (ht : IsTup s.heap t items) (hs : s.heap.IsSliceOf sl vl vu .none) (pl : IsPart vl lo) (pu : IsPart vu hi)
    (hw : HT.sIx items.size 0 lo = 0 ∧ HT.sIx items.size items.size hi = items.size) (h : Q (.ref t) s) : wpAny (model prog w) A (getItem (.ref t) (.ref sl)) Q E s := by
  obtain ⟨os, hos, hcs, hds⟩ := id hs
  have hTs : s.TypeIs (.ref sl) "slice" := ⟨os, hos, hcs⟩
  unfold getItem
  try with_reducible refine wpAny_holding ?_
  first | refine wpAny_bind (wpAny_pure ?_) | skip
  refine wpAny_bind (wpAny_sequenceKey ht.typeIs (by decide) ?_)
  refine wpAny_bind (wpAny_callSpecial?_slot (name := Str.ofString "__getitem__") ht.typeIs PyProof.Rows.slot_tuple_getitem
    (wpAny_call_entry PyProof.Rows.slot_tuple_getitem ht.typeIs entry_tuple_getitem ?_ (args_tuple_getitem _ _)))
  show wpAny _ _ (Builtin.Tuple.tupleItemsOf (.ref t) >>= _) _ _ s
  refine wpAny_bind (tupleItemsOf_ ht ?_)
  refine wpAny_bind (wpAny_typeOf hTs ?_)
  rw [if_pos (by decide)]
  refine wpAny_bind (HT.sliceApplied_gen hs pl pu ?_)
  show wpAny _ _ (if (((HT.sIx items.size 0 lo : Nat) : Int) == 0 && (1 : Int) == 1 && (HT.sIx items.size items.size hi - HT.sIx items.size 0 lo) == items.size) = true then _ else _) _ _ s
  rw [if_pos (by rw [hw.1, hw.2]; simp)]
  unfold Builtin.Tuple.tupleIsExact
  refine wpAny_bind (wpAny_bind (wpAny_typeOf ht.typeIs (wpAny_pure ?_)))
  rw [if_pos (by decide)]
  first
    | exact wpAny_bind (wpAny_rule (wpAny_pure ⟨_, rfl, wpAny_pure h⟩))
    | exact wpAny_bind (wpAny_rule (wpAny_bind (wpAny_pure (wpAny_pure ⟨_, rfl, wpAny_pure h⟩))))
end
section
variable {X : Cx} {a e : Expr} {pos : Pos} {f : FE}
def rSlF (K : PySem.W.Frag) : V → Option Int → Option Int → Hp → VK → Prop := fun x lo hi H Q => ∃ a xs, x = .ref a ∧ SqT K H a xs ∧ (HT.sIx xs.length 0 lo = 0 ∧ HT.sIx xs.length xs.length hi = xs.length) ∧ Q (.ref a) H
theorem sl_full : SlR X (rSlF X.K) := by
  intro pins s σ H x v vl vu lo hi sl Q I rx hs pl pu h
  obtain ⟨a, xs, rfl, hx, hw, q⟩ := h
  cases rx
  obtain ⟨its, r, ht, hz⟩ := I.tuple hx
  have hlen : its.toArray.size = xs.length := by rw [List.size_toArray]; exact r.length.symm
  refine ⟨"tuple", _, PyProof.Rows.slot_tuple_getitem.lookup, ht.typeIs, ?_⟩
  exact tuple_full ht hs pl pu (by rw [hlen]; exact hw) ⟨.ref a, H, I, rfl, q⟩
def slT (x : D) (lo hi : Option Int) : Option D := match x with
  | .tup xs => some (.tup (cutD xs lo hi))
  | x => (items x).map fun xs => .own (cutD xs lo hi)
def fSlT (f : FE) (lo hi : FO) : FE := fun ρ => (f ρ).bind fun x => (lo ρ).bind fun l => (hi ρ).bind fun u => slT x l u
theorem qx_sliceT {lo hi : Option Expr} {fl fu : FO} {p2 : Pos} (ha : QX X a f) (hl : QO X lo fl) (hu : QO X hi fu) : QX X (.Subscript a (.Slice lo hi none p2) pos) (fSlT f fl fu) := ⟨PE.weak (pe_slice ((sl_list.or sl_tup).or sl_full) ha.to hl.to hu.to) fun σ H Q ⟨ρ, d, rv, e, q⟩ => by
  unfold fSlT at e
  cases e1 : f ρ with
  | none => rw [e1] at e; cases e
  | some x =>
    cases e2 : fl ρ with
    | none => rw [e1, e2] at e; cases e
    | some l =>
      cases e3 : fu ρ with
      | none => rw [e1, e2, e3] at e; cases e
      | some u =>
        rw [e1, e2, e3] at e
        simp only [Option.bind_some] at e
        refine ⟨ρ, x, rv, e1, fun v H1 s1 d1 => ⟨ρ, l, rv.same s1, e2, fun H2 s2 => ⟨ρ, u, (rv.same s1).same s2, e3, fun H3 s3 => ?_⟩⟩⟩
        have dx := den_same s3 (den_same s2 d1.den)
        have s : Same H H3 := (s1.trans s2).trans s3
        have fin : ∀ xs vs a, DenL X.K Emp H3 xs vs → d = .own (cutD xs l u) → v = .ref a → SqL X.K H3 a vs → rSlL X.K v l u H3 Q := fun xs vs a la ed ev hq =>
          ⟨a, vs, ev, hq, fun p hp => q _ _ (s.trans (same_upd hp _)) (by rw [ed]; exact (denF_new hp (cutD_den l u la)).elder s)⟩
        cases x with
        | tup xs =>
          simp only [slT] at e
          cases e
          have dx2 := dx
          rw [Den] at dx
          obtain ⟨a, vs, ev, hq, la⟩ := dx
          by_cases hn : HT.sIx xs.length 0 l = 0 ∧ HT.sIx xs.length xs.length u = xs.length
          · refine .inr ⟨a, vs, ev, hq, by rw [← denL_length la]; exact hn, q _ _ s ?_⟩
            have ec : cutD xs l u = xs := by
              unfold cutD
              rw [hn.1, hn.2, List.drop_zero, Nat.sub_zero, List.take_length]
            rw [ec, ← ev]
            exact dx2
          · exact .inl (.inr ⟨a, vs, ev, hq, by rw [← denL_length la]; exact hn, fun p hp => q _ _ (s.trans (same_upd hp _)) (denF_tup hp (cutD_den l u la))⟩)
        | lst xs =>
          simp only [slT, items, Option.map_some] at e
          cases e
          rw [Den] at dx
          obtain ⟨a, vs, ev, hq, _, la⟩ := dx
          exact .inl (.inl (fin xs vs a la rfl ev (.inl (.inl hq))))
        | own xs =>
          simp only [slT, items, Option.map_some] at e
          cases e
          rw [Den] at dx
          obtain ⟨a, vs, ev, hq, _, la⟩ := dx
          exact .inl (.inl (fin xs vs a la rfl ev (.inl (.inl hq))))
        | scr xs =>
          simp only [slT, items, Option.map_some] at e
          cases e
          rw [Den] at dx
          obtain ⟨a, vs, ev, hq, la⟩ := dx
          refine .inl (.inl (fin xs vs a la rfl ev ?_))
          rcases hq with ⟨o, hq⟩ | hq
          · exact .inl (.inr ⟨o, hq⟩)
          · rcases hq with (hq | ⟨o, hq⟩) | hq
            · cases hq
            · cases hq
            · exact .inr hq
        | _ => simp only [slT, items, Option.map_none] at e; cases e⟩
def fRev (f : FE) : FE := fun ρ => (f ρ).bind fun x => match x with
  | .tup xs => some (.tup xs.reverse)
  | _ => none
end
end Tw

set_option Elab.async false
set_option linter.all false
set_option maxRecDepth 100000
set_option maxHeartbeats 1000000
namespace Tw
open PySem PySem.W PyProof.Rows
/-! ### sorted: the tree of questions ends in a sorted order -/
section
variable {O : KeyOrd} {f : Nat → O.α} {n : Nat}
structure PB (n : Nat) (p : Array Nat) : Prop where
  perm : p.Perm (List.toArray (List.range n))
  pos : 0 < n
theorem PB.size {p : Array Nat} (h : PB n p) : p.size = n := by rw [h.perm.size_eq]; simp
theorem PB.lt {p : Array Nat} (h : PB n p) (i : Nat) : p.getD i 0 < n := by
  by_cases q : i < p.size
  · have e : p.getD i 0 = p[i] := by simp [Array.getD, q]
    rw [e]
    have m : p[i] ∈ p.toList := by simp
    have := (Array.perm_iff_toList_perm.mp h.perm).mem_iff.mp m
    simpa using this
  · have e : p.getD i 0 = 0 := by simp [Array.getD, q]
    rw [e]; exact h.pos
end
end Tw

set_option Elab.async false
set_option linter.all false
set_option maxRecDepth 100000
set_option maxHeartbeats 1000000
namespace Tw
open PySem PySem.Spec PyProof.Rows L2
/-! ### [.. for a, b in zip(xs, ys)] -/
end Tw

set_option Elab.async false
set_option linter.all false
set_option maxRecDepth 100000
set_option maxHeartbeats 1000000
namespace Tw
open PySem PySem.Spec PyProof.Rows L2
section
variable {X : Cx} {scope : Scope} {cl : List (Str × Addr)} {N : List Str} {js : List (Option Nat)} {elt a b : Expr} {ifs : List Expr} {pos p p2 : Pos} {fa : FA} {t : FT} {fe : FE}
end
end Tw

set_option Elab.async false
set_option linter.all false
set_option maxRecDepth 100000
set_option maxHeartbeats 1000000
namespace Tw
open PySem PySem.W PyProof.Rows
/-! ### the keys of a dict, whatever they are -/
def DRaw (h : Heap) (d : Addr) (es : Array DictEntry) (ep : Nat) : Prop := ∃ o, h.get? d = some o ∧ o.ExactDict ∧ o.data = .dict es ep
theorem DRaw.typeIs {s : Shared} {d : Addr} {es : Array DictEntry} {ep : Nat} (x : DRaw s.heap d es ep) : s.TypeIs (.ref d) "dict" := let ⟨o, e, c, _⟩ := x; ⟨o, e, c.1⟩
theorem DRaw.lt {h : Heap} {d : Addr} {es : Array DictEntry} {ep : Nat} (x : DRaw h d es ep) : d < h.objs.size := let ⟨_, e, _⟩ := x; Heap.lt_size e
theorem DRaw.on {h h' : Heap} {d : Addr} {es : Array DictEntry} {ep : Nat} (x : DRaw h d es ep) (k : ∀ o, h.get? d = some o → h'.get? d = some o) : DRaw h' d es ep := let ⟨o, e, r⟩ := x; ⟨o, k o e, r⟩
section
variable {prog : Program} {w : World} {A : Around} {E : Value → Shared → Prop} {s : Shared} {it d : Addr} {es : Array DictEntry} {i ep : Nat}
end
end Tw

set_option Elab.async false
set_option linter.all false
set_option maxRecDepth 100000
set_option maxHeartbeats 1000000
namespace Tw
open PySem PySem.W PyProof.Rows
/-! ### sorting tuples of ints -/
/-- refs to tuples of ints, none of them empty -/
inductive Tups (h : Heap) : List Value → List (List Int) → Prop where
  | nil : Tups h [] []
  | cons {a : Addr} {its : Array Value} {k : List Int} {vs : List Value} {ks : List (List Int)} (t : IsTup h a its) (i : IntsAre its.toList k) (ne : k ≠ []) (r : Tups h vs ks) : Tups h (.ref a :: vs) (k :: ks)
theorem Tups.len {h : Heap} {vs : List Value} {ks : List (List Int)} (t : Tups h vs ks) : vs.length = ks.length := by
  induction t with
  | nil => rfl
  | cons _ _ _ _ ih => simp [ih]
theorem Tups.on {h h' : Heap} {vs : List Value} {ks : List (List Int)} (t : Tups h vs ks) (k : ∀ a o, (.ref a) ∈ vs → h.get? a = some o → h'.get? a = some o) : Tups h' vs ks := by
  induction t with
  | nil => exact .nil
  | cons x i ne r ih =>
    obtain ⟨o, e, c⟩ := x
    exact .cons ⟨o, k _ o List.mem_cons_self e, c⟩ i ne (ih fun a o m e => k a o (List.mem_cons_of_mem _ m) e)
theorem Tups.at {h : Heap} {vs : List Value} {ks : List (List Int)} (t : Tups h vs ks) : ∀ {i : Nat}, i < vs.length → ∃ a its, vs.getD i .none = .ref a ∧ IsTup h a its ∧ IntsAre its.toList (ks.getD i []) ∧ ks.getD i [] ≠ [] := by
  induction t with
  | nil => intro i hi; simp at hi
  | cons x i ne r ih =>
    intro j hj
    cases j with
    | zero => exact ⟨_, _, rfl, x, i, ne⟩
    | succ j => exact ih (i := j) (by simpa using hj)
section
variable {prog : Program} {w : World} {A : Around} {E : Value → Shared → Prop} {s : Shared} {h₀ : Heap} {L D : Addr} {m : Str → Option Value} {vs : List Value} {ks : List (List Int)}
end
end Tw

set_option Elab.async false
set_option linter.all false
set_option maxRecDepth 100000
set_option maxHeartbeats 1000000
namespace Tw
open PySem PySem.Spec PyProof.Rows L2
/-! ### sorted(..) of a dict's keys, of a list: tuples of ints -/
inductive Al (K : PySem.W.Frag) (H : Hp) : List Addr → List (List Int) → Prop where
  | nil : Al K H [] []
  | cons {a : Addr} {k : List Int} {as : List Addr} {ks : List (List Int)} (q : SqT K H a (k.map V.int)) (r : Al K H as ks) : Al K H (a :: as) (k :: ks)
section
variable {K : PySem.W.Frag} {H : Hp}
theorem Al.len {as : List Addr} {ks : List (List Int)} (h : Al K H as ks) : as.length = ks.length := by
  induction h with
  | nil => rfl
  | cons _ _ ih => simp [ih]
theorem Al.at {as : List Addr} {ks : List (List Int)} (h : Al K H as ks) : ∀ {i : Nat}, i < as.length → SqT K H (as.getD i 0) ((ks.getD i []).map V.int) := by
  induction h with
  | nil => intro i hi; simp at hi
  | cons q r ih =>
    intro i hi
    cases i with
    | zero => exact q
    | succ i => exact ih (i := i) (by simpa using hi)
theorem Al.same {H' : Hp} {as : List Addr} {ks : List (List Int)} (h : Al K H as ks) (s : Same H H') : Al K H' as ks := by
  induction h with
  | nil => exact .nil
  | cons q r ih =>
    refine .cons ?_ ih
    rcases q with (q | ⟨o, q⟩) | q
    · exact .inl (.inl (s _ _ q))
    · exact .inl (.inr ⟨o, s _ _ q⟩)
    · exact .inr q
def tupI (k : List Int) : D := .tup (k.map D.int)
theorem Al.den {O : Addr → Prop} {as : List Addr} {ks : List (List Int)} (h : Al K H as ks) : DenL K O H (ks.map tupI) (as.map V.ref) := by
  induction h with
  | nil => exact denL_nil
  | cons q r ih =>
    refine denL_cons ?_ ih
    unfold tupI
    rw [Den]
    exact ⟨_, _, rfl, q, denL_ints _⟩
end
section
variable {X : Cx} {pins : List (Addr × Obj)} {σ : L2.St} {H : Hp} {s : Shared}
theorem Al.tups {as : List Addr} {ks : List (List Int)} (I : Inv X pins σ H s) (h : Al X.K H as ks) (ne : ∀ k ∈ ks, k ≠ []) : Tups s.heap (as.map Value.ref) ks := by
  induction h with
  | nil => exact .nil
  | cons q r ih =>
    obtain ⟨its, r1, p1, _⟩ := I.tuple q
    exact .cons p1 (intsAre_of r1) (ne _ List.mem_cons_self) (ih fun k hk => ne k (List.mem_cons_of_mem _ hk))
end
end Tw

set_option Elab.async false
set_option linter.all false
set_option maxRecDepth 100000
set_option maxHeartbeats 1000000
namespace Tw
open PySem PySem.Spec PyProof.Rows L2
section
variable {X : Cx} {e : Expr} {pos p : Pos} {fa : FA}
end
end Tw

set_option Elab.async false
set_option linter.all false
set_option maxRecDepth 100000
set_option maxHeartbeats 1000000
namespace Tw
open PySem PySem.Spec PyProof.Rows L2
/-! ### how the functions reckon -/
theorem add_ii {a b : Int} : oAddT (.int a) (.int b) = some (.int (a + b)) := rfl
theorem add_tt {xs ys : List D} : oAddT (.tup xs) (.tup ys) = if xs.length + ys.length ≤ lim then some (.tup (xs ++ ys)) else none := rfl
theorem add_oo {xs ys : List D} : oAddT (.own xs) (.own ys) = if xs.length + ys.length ≤ lim then some (.own (xs ++ ys)) else none := rfl
theorem add_lo {xs ys : List D} : oAddT (.lst xs) (.own ys) = if xs.length + ys.length ≤ lim then some (.own (xs ++ ys)) else none := rfl
theorem add_ol {xs ys : List D} : oAddT (.own xs) (.lst ys) = if xs.length + ys.length ≤ lim then some (.own (xs ++ ys)) else none := rfl
theorem add_ll {xs ys : List D} : oAddT (.lst xs) (.lst ys) = if xs.length + ys.length ≤ lim then some (.own (xs ++ ys)) else none := rfl
theorem lt_ii {a b : Int} : oLtT (.int a) (.int b) = some (.bl (decide (a < b))) := rfl
theorem lt_tt {xs ys : List D} : oLtT (.tup xs) (.tup ys) = (intsOf xs).bind fun ns => (intsOf ys).map fun ms => .bl (HT.lexLt ns ms) := rfl
theorem ix_t {xs : List D} {i : Int} : oIxD (.tup xs) (.int i) = (atI xs i).map frz := rfl
theorem ix_l {xs : List D} {i : Int} : oIxD (.lst xs) (.int i) = (atI xs i).map frz := rfl
theorem ix_o {xs : List D} {i : Int} : oIxD (.own xs) (.int i) = (atI xs i).map frz := rfl
theorem ix_s {xs : List D} {i : Int} : oIxD (.scr xs) (.int i) = (atI xs i).map frz := rfl
theorem ix_d {ks : List (List Int)} {xs ds : List D} : oIxD (.dct ks xs) (.tup ds) = (intsOf ds).bind fun k => (lookD ks xs k).map frz := rfl
theorem sl_t {xs : List D} {lo hi : Option Int} : slT (.tup xs) lo hi = some (.tup (cutD xs lo hi)) := rfl
theorem sl_l {xs : List D} {lo hi : Option Int} : slT (.lst xs) lo hi = some (.own (cutD xs lo hi)) := rfl
theorem sl_o {xs : List D} {lo hi : Option Int} : slT (.own xs) lo hi = some (.own (cutD xs lo hi)) := rfl
theorem sl_s {xs : List D} {lo hi : Option Int} : slT (.scr xs) lo hi = some (.own (cutD xs lo hi)) := rfl
theorem frz_non : frz .non = .non := rfl
theorem frz_bl {b : Bool} : frz (.bl b) = .bl b := rfl
theorem frz_int {i : Int} : frz (.int i) = .int i := rfl
theorem frz_str {x : Str} : frz (.str x) = .str x := rfl
theorem frz_tup {xs : List D} : frz (.tup xs) = .tup xs := rfl
theorem frz_lst {xs : List D} : frz (.lst xs) = .lst xs := rfl
theorem frz_own {xs : List D} : frz (.own xs) = .lst xs := rfl
theorem frz_scr {xs : List D} : frz (.scr xs) = .scr xs := rfl
theorem frz_dic : frz .dic = .dic := rfl
theorem frz_exn {C : Addr} : frz (.exn C) = .exn C := rfl
theorem frz_dct {ks : List (List Int)} {xs : List D} : frz (.dct ks xs) = .dct ks xs := rfl
theorem frz_odt {ks : List (List Int)} {xs : List D} : frz (.odt ks xs) = .dct ks xs := rfl
theorem frz_frz {d : D} : frz (frz d) = frz d := by cases d <;> rfl
/-- a comprehension's turns: over the things e y -/
theorem comp_run {α : Type} {gf : D → Ev → Option Ev} {t : FT} {fe : FE} {k : Nat} (S : Ev → Prop) (e h : α → D) (p : α → Bool) (hk : ∀ ρ, S ρ → ρ.length = k) :
    ∀ (ys : List α) (zs : List D) (ρ : Ev), (∀ y ∈ ys, ∀ ρ zs, S ρ → ∃ ρ', S ρ' ∧ gf (e y) (ρ ++ [some (.own zs)]) = some (ρ' ++ [some (.own zs)]) ∧ t (ρ' ++ [some (.own zs)]) = some (p y) ∧ (p y = true → fe (ρ' ++ [some (.own zs)]) = some (h y) ∧ lf (h y) = true)) → S ρ → zs.length + ys.length ≤ lim →
      lastL k (loopF (turnF gf (blkB k t fe)) (ys.map e) (ρ ++ [some (.own zs)])) = some (.own (zs ++ (ys.filter p).map h))
  | [], zs, ρ, _, s, _ => by
    have e : (ρ ++ [some (D.own zs)])[k]? = some (some (.own zs)) := by rw [← hk ρ s, List.getElem?_append_right (Nat.le_refl _)]; simp
    simp only [List.map_nil, loopF, lastL, e, List.filter_nil, List.map_nil, List.append_nil]
  | x :: xs, zs, ρ, st, s, l => by
    obtain ⟨ρ', s', e1, e2, e3⟩ := st x List.mem_cons_self ρ zs s
    have st' := fun y hy => st y (List.mem_cons_of_mem _ hy)
    have eg : (ρ' ++ [some (D.own zs)])[k]? = some (some (.own zs)) := by rw [← hk ρ' s', List.getElem?_append_right (Nat.le_refl _)]; simp
    simp only [List.length_cons] at l
    rw [List.map_cons]
    cases q : p x with
    | false =>
      have b : turnF gf (blkB k t fe) (e x) (ρ ++ [some (.own zs)]) = some (.nx (ρ' ++ [some (.own zs)])) := by
        simp only [turnF, e1, Option.bind_some, blkB, fIfS, e2, q]; rfl
      rw [loopF, b]
      simp only [Option.bind_some]
      rw [comp_run S e h p hk xs zs ρ' st' s' (by omega), List.filter_cons, if_neg (by simp [q])]
    | true =>
      obtain ⟨e4, e5⟩ := e3 q
      have b : turnF gf (blkB k t fe) (e x) (ρ ++ [some (.own zs)]) = some (.nx (ρ' ++ [some (.own (zs ++ [h x]))])) := by
        have hl : zs.length < lim := by omega
        have es : (ρ' ++ [some (D.own zs)]).set k (some (.own (zs ++ [h x]))) = ρ' ++ [some (.own (zs ++ [h x]))] := by rw [← hk ρ' s']; simp
        simp only [turnF, e1, Option.bind_some, blkB, fIfS, e2, q, if_true, fApp, e4, eg, e5, hl, and_self, es]
      rw [loopF, b]
      simp only [Option.bind_some]
      rw [comp_run S e h p hk xs (zs ++ [h x]) ρ' st' s' (by simp; omega), List.filter_cons, if_pos q, List.map_cons, List.append_assoc]
      rfl
theorem compL_run {α : Type} {js : List (Option Nat)} {gf : D → Ev → Option Ev} {t : FT} {fe : FE} {ys : List α} {ρ : Ev} (S : Ev → Prop) (e h : α → D) (p : α → Bool) (s : S (capE js ρ)) (hk : ∀ ρ, S ρ → ρ.length = js.length)
    (st : ∀ y ∈ ys, ∀ ρ zs, S ρ → ∃ ρ', S ρ' ∧ gf (e y) (ρ ++ [some (.own zs)]) = some (ρ' ++ [some (.own zs)]) ∧ t (ρ' ++ [some (.own zs)]) = some (p y) ∧ (p y = true → fe (ρ' ++ [some (.own zs)]) = some (h y) ∧ lf (h y) = true)) (hl : ys.length ≤ lim) :
    fCompL js gf t fe (ys.map e) ρ = some (.own ((ys.filter p).map h)) := by
  unfold fCompL
  rw [comp_run S e h p hk ys [] _ st s (by simpa using hl), List.nil_append]
/-- without a test -/
theorem compL_map {α : Type} {js : List (Option Nat)} {gf : D → Ev → Option Ev} {fe : FE} {ys : List α} {ρ : Ev} (S : Ev → Prop) (e h : α → D) (s : S (capE js ρ)) (hk : ∀ ρ, S ρ → ρ.length = js.length)
    (st : ∀ y ∈ ys, ∀ ρ zs, S ρ → ∃ ρ', S ρ' ∧ gf (e y) (ρ ++ [some (.own zs)]) = some (ρ' ++ [some (.own zs)]) ∧ fe (ρ' ++ [some (.own zs)]) = some (h y) ∧ lf (h y) = true) (hl : ys.length ≤ lim) :
    fCompL js gf (fun _ => some true) fe (ys.map e) ρ = some (.own (ys.map h)) := by
  have := compL_run (js := js) (gf := gf) (t := fun _ => some true) (fe := fe) (ys := ys) (ρ := ρ) S e h (fun _ => true) s hk (fun x hx ρ zs sρ => by
    obtain ⟨ρ', a, b, c⟩ := st x hx ρ zs sρ
    exact ⟨ρ', a, b, rfl, fun _ => c⟩) hl
  rw [this]
  congr 2
  rw [List.filter_eq_self.mpr (fun _ _ => rfl)]
/-! ### a, b = a tuple or a list, whatever lies in it -/
def fUnF (is : List Nat) (f : FE) : FS := fun ρ => (f ρ).bind fun d => match d with
  | .tup ds => if ds.length = is.length then (if lfL ds = true then some (.nx (setAll is ds ρ)) else some (.nx (setAll is (ds.map frz) (frzAll ρ)))) else none
  | .lst ds => if ds.length = is.length then (if lfL ds = true then some (.nx (setAll is ds ρ)) else some (.nx (setAll is (ds.map frz) (frzAll ρ)))) else none
  | _ => none
section
variable {X : Cx} {e : Expr} {es : List Expr} {pos : Pos} {f : FE} {P : List (D × V)}
end
end Tw

set_option Elab.async false
set_option linter.all false
set_option maxRecDepth 100000
set_option maxHeartbeats 1000000
namespace Tw
open PySem PySem.Spec PyProof.Rows L2
/-! ### a body walked in stages -/
def Ends (o : Option R) (Q : D → Prop) : Prop := ∃ d, o = some (.rt d) ∧ Q d
theorem forR_inv {fa : FA} {gf : D → Ev → Option Ev} {B : FS} {ρ0 : Ev} {n : Int} (hfa : fa ρ0 = some [.int n]) (hn : 0 ≤ n ∧ n < 2 ^ 62) (S : Nat → Ev → Prop) (h0 : S 0 ρ0)
    (st : ∀ (i : Nat) (ρ : Ev), i < n.toNat → S i ρ → ∃ ρ', turnF gf B (.int (i : Nat)) ρ = some (.nx ρ') ∧ S (i + 1) ρ') : ∃ ρe, fForR fa gf B ρ0 = some (.nx ρe) ∧ S n.toNat ρe := by
  have go : ∀ (m i : Nat) (ρ : Ev), i + m = n.toNat → S i ρ → ∃ ρe, loopF (turnF gf B) ((List.range' i m).map fun i => D.int (i : Nat)) ρ = some (.nx ρe) ∧ S n.toNat ρe := by
    intro m
    induction m with
    | zero => intro i ρ e s; exact ⟨ρ, rfl, by rw [← e, Nat.add_zero]; exact s⟩
    | succ m ih =>
      intro i ρ e s
      obtain ⟨ρ', e1, s1⟩ := st i ρ (by omega) s
      obtain ⟨ρe, e2, s2⟩ := ih (i + 1) ρ' (by omega) s1
      refine ⟨ρe, ?_, s2⟩
      rw [List.range'_succ, List.map_cons, loopF, e1]
      exact e2
  obtain ⟨ρe, e, s⟩ := go n.toNat 0 ρ0 (by omega) h0
  refine ⟨ρe, ?_, s⟩
  unfold fForR
  rw [hfa]
  simp only [Option.bind_some]
  rw [if_pos ⟨hn.2, by omega⟩, List.range_eq_range']
  exact e
theorem forR_ex {fa : FA} {gf : D → Ev → Option Ev} {B : FS} {ρ0 : Ev} {T : Ev → Prop} (n : Int) (S : Nat → Ev → Prop) (hfa : fa ρ0 = some [.int n]) (hn : 0 ≤ n ∧ n < 2 ^ 62) (h0 : S 0 ρ0)
    (st : ∀ (i : Nat) (ρ : Ev), i < n.toNat → S i ρ → ∃ ρ', turnF gf B (.int (i : Nat)) ρ = some (.nx ρ') ∧ S (i + 1) ρ') (fin : ∀ ρ, S n.toNat ρ → T ρ) : ∃ ρe, fForR fa gf B ρ0 = some (.nx ρe) ∧ T ρe :=
  let ⟨ρe, e, s⟩ := forR_inv hfa hn S h0 st
  ⟨ρe, e, fin ρe s⟩
theorem nx_then {F G : FS} {ρ1 : Ev} {T : Ev → Prop} (S : Ev → Prop) (h : ∃ ρ', F ρ1 = some (.nx ρ') ∧ S ρ') (k : ∀ ρ', S ρ' → ∃ ρ2, G ρ' = some (.nx ρ2) ∧ T ρ2) : ∃ ρ2, fThen F G ρ1 = some (.nx ρ2) ∧ T ρ2 := by
  obtain ⟨ρ', e, s⟩ := h
  obtain ⟨ρ2, e2, t⟩ := k ρ' s
  refine ⟨ρ2, ?_, t⟩
  unfold fThen
  rw [e]
  exact e2
end Tw

set_option Elab.async false
set_option linter.all false
set_option maxRecDepth 100000
set_option maxHeartbeats 1000000
namespace Tw
open PySem PySem.Spec PyProof.Rows L2
/-! ### a law's walk over its cells, with the wider rows -/
abbrev cellsT (N : Int) : FE := fBin oAddT (fSlT (fVar 0) fO0 (fO1 (fC (.int N)))) (fLst (fCons (fCall kLen (fCons (fVar 0) fNil)) fNil))
theorem cells_runT {n : Nat} {N : Int} {b : FS} (ns : List Int) (hl : ns.length ≤ 63)
    (st : ∀ (c : Int) (ρ : Ev), ρ.length = n → ∃ ρ2, b (some (.scr (ns.map D.int)) :: some (.int c) :: ρ) = some (.nx ρ2) ∧ ∃ (c' : Option D) (ρ' : Ev), ρ'.length = n ∧ ρ2 = some (.scr (ns.map D.int)) :: c' :: ρ') :
    runD 1 (n + 2) (fThen (fFor (cellsT N) (gfName 1) b) (fRet (fC (.bl true)))) [.scr (ns.map D.int)] = some (.bl true) := by
  obtain ⟨ms, e1, e2⟩ := cutD_ints ns none (some N)
  obtain ⟨ρ', e, _⟩ := loopF_all (b := turnF (gfName 1) b) (fun ρ => ∃ (c' : Option D) (ρ' : Ev), ρ'.length = n ∧ ρ = some (.scr (ns.map D.int)) :: c' :: ρ') ((ms ++ [(ns.length : Int)]).map D.int) (start0 (n + 2) [.scr (ns.map D.int)])
    ⟨none, List.replicate n none, List.length_replicate, by simp [start0, frz, List.replicate_succ]⟩ (by
    rintro x ρ hx ⟨c', ρ', h, rfl⟩
    obtain ⟨c, _, rfl⟩ := List.mem_map.mp hx
    obtain ⟨ρ3, e3, c2, ρ2, h2, rfl⟩ := st c ρ' h
    refine ⟨_, ?_, c2, ρ2, h2, rfl⟩
    simp only [turnF, gfName, frz, List.set_cons_succ, List.set_cons_zero, Option.bind_some]
    exact e3)
  have l1 : ms.length + 1 ≤ lim := by unfold lim; omega
  have ls := lfL_ints (ms ++ [(ns.length : Int)])
  rw [List.map_append] at ls e
  have f : fFor (cellsT N) (gfName 1) b (start0 (n + 2) [.scr (ns.map D.int)]) = some (.nx ρ') := by
    have z : start0 (n + 2) [.scr (ns.map D.int)] = some (.scr (ns.map D.int)) :: none :: List.replicate n none := by simp [start0, frz, List.replicate_succ]
    have l2 : (1 : Nat) ≤ lim := by decide
    have ev : cellsT N (start0 (n + 2) [.scr (ns.map D.int)]) = some (.own (ms.map D.int ++ [D.int (ns.length : Int)])) := by
      rw [z]
      simp only [cellsT, fBin, fSlT, fVar, fO0, fO1, fC, sl_s, items, fLst, fCons, fCall, kLen, fNil, frz, e1, add_oo, List.getElem?_cons_zero, Option.bind_some, Option.map_some, List.length_map, List.length_cons, List.length_nil, Nat.zero_add, l2, if_true, l1]
    unfold fFor
    rw [ev]
    simp only [Option.bind_some, walkD]
    rw [if_pos (by simpa using ls)]
    exact e
  unfold runD
  rw [if_pos (show [D.scr (ns.map D.int)].length = 1 from rfl)]
  unfold fThen
  rw [f]
  rfl
theorem nx_eq {F G : FS} {ρ1 : Ev} {T : Ev → Prop} (ρ' : Ev) (h : F ρ1 = some (.nx ρ')) (k : ∃ ρ2, G ρ' = some (.nx ρ2) ∧ T ρ2) : ∃ ρ2, fThen F G ρ1 = some (.nx ρ2) ∧ T ρ2 := nx_then (fun x => x = ρ') ⟨ρ', h, rfl⟩ fun x e => by rw [e]; exact k
end Tw

set_option Elab.async false
set_option linter.all false
set_option maxRecDepth 100000
set_option maxHeartbeats 1000000
namespace Tw
open PySem PySem.Spec PyProof.Rows L2
section
variable {X : Cx} {e k v : Expr} {es : List Expr} {pos p p2 : Pos} {fa : FA} {f : FE} {st : List Stmt} {r r' : FR}
/-! ### int(a truth) -/
/-! ### a dict of one pair of ints -/
/-! ### raising, here or there -/
/-! ### isinstance of an exception, a tuple of classes -/
/-- expressions that tell these classes -/
inductive Cls (X : Cx) : List Expr → List Addr → Prop where
  | nil : Cls X [] []
  | cons {x : Str} {p : Pos} {c : Addr} {es : List Expr} {cs : List Addr} (hx : X.mg x = some (.ref c)) (hg : Gl X x) (hd : (x == ("__debug__" : Str)) = false) (h : Cls X es cs) (hs : starEach (.Name x p :: es) X.env = (false, eval (.Name x p) X.env) :: starEach es X.env) : Cls X (.Name x p :: es) (c :: cs)
end
/-! ### two classes -/
def k2 (c c' : Addr) (b b' : Bool) : Addr → Option Bool := fun C => if C = c then some b else if C = c' then some b' else none
end Tw

set_option Elab.async false
set_option linter.all false
set_option maxRecDepth 100000
set_option maxHeartbeats 1000000
namespace Tw
open PySem PySem.Spec PyProof.Rows L2
/-! ### xs[lo::st] of a list -/
section
variable {X : Cx} {a se le : Expr} {pos : Pos} {f : FE}
/-! ### x = y.pop() -/
end
end Tw

set_option Elab.async false
set_option linter.all false
set_option maxRecDepth 100000
set_option maxHeartbeats 1000000
namespace Tw
open PySem PySem.Spec PyProof.Rows L2
/-! ### min, max of a tuple of two ints -/
section
variable {X : Cx} {e : Expr} {pos p : Pos} {fa : FA}
end
end Tw

set_option Elab.async false
set_option linter.all false
set_option maxRecDepth 100000
set_option maxHeartbeats 1000000
namespace Tw
open PySem PySem.Spec PyProof.Rows L2
/-! ### dict comprehensions with one for -/
section
variable {prog : Program} {w : World} {A : Around} {R : Result → Shared → Prop} {s : Shared}
end
section
variable {X : Cx} {pins : List (Addr × Obj)} {σ : L2.St} {H2 : Hp} {s2 s4 : Shared} {scope : Scope} {cl : List (Str × Addr)} {N : List Str} {js : List (Option Nat)} {fp : List Addr} {Dd C : Addr} {m : Str → Option Value}
end

section
variable {X : Cx} {pins : List (Addr × Obj)} {σ : L2.St} {H : Hp} {s : Shared} {a b : Addr} {v : V} {r : Value} {A : Around} {E : Value → Shared → Prop}
end
section
variable {X : Cx} {pins : List (Addr × Obj)} {σ : L2.St} {H2 : Hp} {s2 : Shared} {scope : Scope} {cl : List (Str × Addr)} {N : List Str} {js : List (Option Nat)} {fp : List Addr} {it : Addr} {tn : Nat → Heap → Prop} {J : It}
  {tg iter vx : Expr} {es : List Expr} {kt : Nat} {kp : Pos} {fa : FA} {ks : List (List Int)} {ifs : List Expr} {pos : Pos} {P : List (D × V)} {ρ : Ev} {xs : List D} {g : TG} {gf : D → Ev → Option Ev} {t : FT} {fe : FE} {ys : List D} {Q : VK}
end
end Tw

set_option Elab.async false
set_option linter.all false
set_option maxRecDepth 100000
set_option maxHeartbeats 1000000
namespace Tw
open PySem PySem.Spec PyProof.Rows L2
section
variable {X : Cx} {scope : Scope} {cl : List (Str × Addr)} {N : List Str} {js : List (Option Nat)} {iter a : Expr} {ifs : List Expr} {x : Str} {px pos p p2 : Pos} {f : FE} {t : FT} {fe : FE}
end
end Tw

set_option Elab.async false
set_option linter.all false
set_option maxRecDepth 100000
set_option maxHeartbeats 1000000
namespace Tw
open PySem PySem.Spec PyProof.Rows L2
/-! ### a tuple of ints in a list of tuples of ints -/
section
variable {X : Cx} {a b e : Expr} {pos : Pos} {f g : FE}
/-! ### d.get(key, x) -/
end
end Tw

set_option Elab.async false
set_option linter.all false
set_option maxRecDepth 100000
set_option maxHeartbeats 1000000
namespace Tw
open PySem PySem.Spec PyProof.Rows L2
section
variable {X : Cx} {a b e : Expr} {pos p : Pos} {f g : FE} {fa : FA}
/-! ### an int in a list or tuple of ints -/
/-! ### sum of a list of ints -/
end
end Tw

set_option Elab.async false
set_option linter.all false
set_option maxRecDepth 100000
set_option maxHeartbeats 1000000
namespace Tw
open PySem PySem.Spec PyProof.Rows L2
/-! ### sorted of a list of ints -/
section
variable {X : Cx} {e : Expr} {pos p : Pos} {fa : FA}
end
end Tw

set_option Elab.async false
set_option linter.all false
set_option maxRecDepth 100000
set_option maxHeartbeats 1000000
namespace Tw
open PySem PySem.Spec PyProof.Rows L2
/-! ### xs.extend(a tuple) -/
section
variable {X : Cx} {e : Expr} {pos : Pos} {f : FE}
end
end Tw

set_option Elab.async false
set_option linter.all false
set_option maxRecDepth 100000
set_option maxHeartbeats 1000000
namespace Tw
open PySem PySem.Spec PyProof.Rows L2
/-! ### list comprehensions with two fors -/
abbrev G2 (elt t1 i1 t2 i2 : Expr) (scope : Scope) (pos : Pos) : Expr := .ListComp elt [⟨t1, i1, [], 0⟩, ⟨t2, i2, [], 0⟩] scope pos
section
variable {prog : Program} {w : World} {A : Around} {R : Result → Shared → Prop} {s : Shared} {elt t1 i1 t2 i2 : Expr} {scope : Scope} {pos : Pos} {it acc : Value} {env : Env}
end
end Tw

set_option Elab.async false
set_option linter.all false
set_option maxRecDepth 100000
set_option maxHeartbeats 1000000
namespace Tw
open PySem PySem.Spec PyProof.Rows L2
section
variable {X : Cx} {pins : List (Addr × Obj)} {σ : L2.St} {H2 : Hp} {s2 : Shared} {scope : Scope} {cl : List (Str × Addr)} {N : List Str} {js : List (Option Nat)} {fp : List Addr} {it : Addr} {tn : Nat → Heap → Prop} {J : It}
  {elt tg iter t2 i2 : Expr} {fi : FE} {g2 : TG} {gf2 : D → Ev → Option Ev} {pos : Pos} {P : List (D × V)} {ρ : Ev} {xs : List D} {g : TG} {gf : D → Ev → Option Ev} {t : FT} {fe : FE} {ys : List D} {Q : VK}
end
end Tw

set_option Elab.async false
set_option linter.all false
set_option maxRecDepth 100000
set_option maxHeartbeats 1000000
namespace Tw
open PySem PySem.Spec PyProof.Rows L2
section
variable {X : Cx} {scope : Scope} {cl : List (Str × Addr)} {N : List Str} {js : List (Option Nat)} {elt iter i2 : Expr} {x y : Str} {px py pos : Pos} {f fi : FE} {fe : FE}
end
end Tw

set_option Elab.async false
set_option linter.all false
set_option maxRecDepth 100000
set_option maxHeartbeats 1000000
namespace Tw
open PySem PySem.Spec PyProof.Rows L2
/-! ### zip of two tuples -/
section
variable {prog : Program} {w : World} {A : Around} {E : Value → Shared → Prop} {s : Shared}
end
end Tw

set_option Elab.async false
set_option linter.all false
set_option maxRecDepth 100000
set_option maxHeartbeats 1000000
namespace Tw
open PySem PySem.Spec PyProof.Rows L2
section
variable {prog : Program} {w : World} {A : Around} {E : Value → Shared → Prop} {s : Shared} {z TI TO i1 i2 l1 l2 : Addr} {k1 k2 : Nat} {xs ys : Array Value} {x y a b : Value}
end
end Tw

set_option Elab.async false
set_option linter.all false
set_option maxRecDepth 100000
set_option maxHeartbeats 1000000
namespace Tw
open PySem PySem.Spec PyProof.Rows L2
section
variable {prog : Program} {w : World} {A : Around} {E : Value → Shared → Prop} {s : Shared} {z TI TO i1 i2 l1 l2 : Addr} {k1 k2 : Nat} {xs ys : Array Value} {x y a b : Value}
end
end Tw

set_option Elab.async false
set_option linter.all false
set_option maxRecDepth 100000
set_option maxHeartbeats 1000000
namespace Tw
open PySem PySem.Spec PyProof.Rows L2
/-! ### [.. for a, b in zip(t, u)], of two tuples -/
section
variable {X : Cx} {scope : Scope} {cl : List (Str × Addr)} {N : List Str} {js : List (Option Nat)} {elt a b : Expr} {ifs : List Expr} {pos p p2 : Pos} {fa : FA} {t : FT} {fe : FE}
end
end Tw

set_option Elab.async false
set_option linter.all false
set_option maxRecDepth 100000
set_option maxHeartbeats 1000000
namespace Tw
open PySem PySem.Spec PyProof.Rows L2
/-! ### list(range(n)) -/
section
variable {X : Cx} {a : Expr} {p p2 p3 pos : Pos} {fa : FA}
end
end Tw

set_option Elab.async false
set_option linter.all false
set_option maxRecDepth 100000
set_option maxHeartbeats 1000000
namespace Tw
open PySem PySem.Spec PyProof.Rows L2
/-! ### name = [comprehension]: the store comes ahead of the letting go of the comprehension's names -/
def UseOk (X : Cx) (pins : List (Addr × Obj)) (σ : L2.St) (Q : VK) (u : Value → Sem Unit) (Rr : Shared → Prop) : Prop :=
  ∀ (C : Addr) (m : Str → Option Value) (s' : Shared) (H' : Hp) (v : V) (vv : Value), FpOk X pins H' C → s'.heap.Ns C m → Inv X pins σ H' s' → RelV v vv → Q v H' →
    wpAny (model X.prog X.w) X.A (u vv) (fun _ s2 => ∃ m, s2.heap.Ns C m ∧ ∀ h', Heap.SameBut C s2.heap h' → Rr { s2 with heap := h' }) X.xe s'
structure QXU (X : Cx) (e : Expr) (f : FE) : Prop where
  to : ∀ (pins : List (Addr × Obj)) (s : Shared) (σ : L2.St) (H : Hp) (Q : VK) (u : Value → Sem Unit) (Rr : Shared → Prop), Inv X pins σ H s → tX X f σ H Q → UseOk X pins σ Q u Rr →
    wpAny (model X.prog X.w) X.A (evalThenUse e X.env u) (fun _ s' => Rr s') X.xe s
section
variable {X : Cx} {pins : List (Addr × Obj)} {σ : L2.St} {H2 : Hp} {s2 : Shared} {scope : Scope} {cl : List (Str × Addr)} {N : List Str} {js : List (Option Nat)} {fp : List Addr} {it : Addr} {tn : Nat → Heap → Prop} {J : It}
  {elt tg iter : Expr} {ifs : List Expr} {pos : Pos} {P : List (D × V)} {ρ : Ev} {xs : List D} {g : TG} {gf : D → Ev → Option Ev} {t : FT} {fe : FE} {ys : List D} {Q : VK}
end
section
variable {X : Cx} {scope : Scope} {cl : List (Str × Addr)} {N : List Str} {js : List (Option Nat)} {elt iter a : Expr} {ifs : List Expr} {x : Str} {px pos p p2 : Pos} {f : FE} {fa : FA} {t : FT} {fe : FE}
end
section
variable {X : Cx} {e : Expr} {f : FE} {pos : Pos}
end
end Tw

set_option Elab.async false
set_option linter.all false
set_option maxRecDepth 100000
set_option maxHeartbeats 1000000
namespace Tw
open PySem PySem.Spec PyProof.Rows L2
/-! ### divmod of ints -/
section
variable {X : Cx} {e e' : Expr} {pos p : Pos} {fa : FA}
end
end Tw

set_option Elab.async false
set_option linter.all false
set_option maxRecDepth 100000
set_option maxHeartbeats 1000000
namespace Tw
open PySem PySem.Spec PyProof.Rows L2
/-! ### x = y.pop(n) -/
section
variable {X : Cx} {e : Expr} {f : FE} {pos : Pos}
end
end Tw

set_option Elab.async false
set_option linter.all false
set_option maxRecDepth 100000
set_option maxHeartbeats 1000000
namespace Tw
open PySem PySem.Spec PyProof.Rows L2
/-! ### xs.remove(n) of a list of ints that holds n -/
section
variable {X : Cx} {e : Expr} {f : FE} {pos : Pos}
end
end Tw

set_option Elab.async false
set_option linter.all false
set_option maxRecDepth 100000
set_option maxHeartbeats 1000000
namespace Tw
open PySem PySem.Spec PyProof.Rows L2
/-! ### comprehensions over range(a, b) -/
section
variable {X : Cx} {scope : Scope} {cl : List (Str × Addr)} {N : List Str} {js : List (Option Nat)} {elt iter a b : Expr} {ifs : List Expr} {x : Str} {px pos p p2 : Pos} {f : FE} {fa : FA} {t : FT} {fe : FE}
end
end Tw

set_option Elab.async false
set_option linter.all false
set_option maxRecDepth 100000
set_option maxHeartbeats 1000000
namespace Tw
open PySem PySem.Spec PyProof.Rows L2
/-! ### for x in range(a, b) -/
section
variable {X : Cx} {a a2 : Expr} {pos p p2 px : Pos} {fa : FA} {x : Str} {body : List Stmt} {b : FS}
end
end Tw

set_option Elab.async false
set_option linter.all false
set_option maxRecDepth 100000
set_option maxHeartbeats 1000000
namespace Tw
open PySem PySem.Spec PyProof.Rows L2
/-! ### [e0, e1, ..][i]: what is picked keeps its freshness (a list so picked may be written) -/
theorem DenF.grow {K : PySem.W.Frag} {H0 H H' : Hp} (s : Same H H') : ∀ {d : D} {v : V}, DenF K H0 H d v → DenF K H0 H' d v
  | .own xs, v, h => by
    obtain ⟨a, vs, e, n, q, l⟩ := h
    exact ⟨a, vs, e, n, s a _ q, denL_mono (fun b o w _ => s b o w) (fun b z => ⟨.lst vs, by rw [z]; exact q, trivial⟩) (fun b z => .inl z) _ _ l⟩
  | .odt ks xs, v, h => by
    obtain ⟨a, vs, e, n, q, hl, l⟩ := h
    exact ⟨a, vs, e, n, s a _ q, hl, denL_mono (fun b o w _ => s b o w) (fun _ z => z.elim) (fun b z => .inl z) _ _ l⟩
  | .dct _ _, v, h => den_same s h
  | .non, v, h => den_same s h
  | .bl _, v, h => den_same s h
  | .int _, v, h => den_same s h
  | .str _, v, h => den_same s h
  | .tup _, v, h => den_same s h
  | .lst _, v, h => den_same s h
  | .scr _, v, h => den_same s h
  | .dic, v, h => den_same s h
  | .exn _, v, h => den_same s h
  | .exa _ _, v, h => den_same s h
def DenFL (K : PySem.W.Frag) (H H' : Hp) (ds : List D) (vs : List V) : Prop := ds.length = vs.length ∧ ∀ (i : Nat) (d : D), ds[i]? = some d → ∃ v, vs[i]? = some v ∧ DenF K H H' d v
def tAF (X : Cx) (f : FA) : TA := fun σ H Q => ∃ ρ ds, RepV X.K ρ σ H ∧ f ρ = some ds ∧ ∀ vs H', Same H H' → DenFL X.K H H' ds vs → Q vs H'
structure QAF (X : Cx) (es : List Expr) (f : FA) : Prop where
  to : PA X es (tAF X f)
section
variable {X : Cx} {e b : Expr} {es : List Expr} {f g : FE} {fa : FA} {pos p1 : Pos}
end
end Tw

set_option Elab.async false
set_option linter.all false
set_option maxRecDepth 100000
set_option maxHeartbeats 1000000
namespace Tw
open PySem PySem.Spec PyProof.Rows L2
/-! ### for x in y, y a list that was handed in: the def's own lists stay its own -/
section
variable {X : Cx} {pos p px : Pos} {x y : Str} {body : List Stmt} {b : FS}
end
end Tw

set_option Elab.async false
set_option linter.all false
set_option maxRecDepth 100000
set_option maxHeartbeats 1000000
namespace Tw
open PySem PySem.Spec PyProof.Rows L2
/-! ### for a, b in y, y a list of the def's own: y is frozen, the other own things stay so -/
section
variable {X : Cx} {pos p px : Pos} {y : Str} {body : List Stmt} {b : FS}
end
end Tw

set_option Elab.async false
set_option linter.all false
set_option maxRecDepth 100000
set_option maxHeartbeats 1000000
namespace Tw
open PySem PySem.Spec PyProof.Rows L2
/-! ### a class of exceptions with an __init__ of its own, under another one of one's own: the call -/
section
variable {prog : Program} {w : World} {A : Around} {E : Value → Shared → Prop} {h : Heap} {g : Array GenState} {d : Drawn} {t : Nat} {os : OsState} {nm q : Str} {C N fI : Addr} {oI : Obj} {bs bm bmB : List Value} {hdct : Bool} {sn : List Str} {sub : List Value} {ab : Bool} {col : Option Bool} {dd : Option Addr} {k0 k1 k2 k3 k5 : Option Value} {B newId initId : String} {K : PySem.W.Frag} {rest : List Value}
theorem type_call_initT {Q : PySem.Fin → Shared → Prop} (F : ExcBaseFacts B newId initId bmB) (T : OwnTail h bmB bm) (hC : h.get? C = some (excClassObj nm q C N bs bm hdct sn sub ab col dd k0 k1 k2 k3 k5 newId)) (X : K.In h) (hi : PySem.W.findIn K (.ref C) "__init__" = some (some (.ref fI))) (hf : h.get? fI = some oI) (hfc : oI.cls = .type "function") (hl : rest.length ≤ sizeLine)
    (hq : ∀ (h' : Heap) (e : Addr), h.MadeExcOf h' e (.ref C) rest → codeAny (model prog w) A (.call (.ref fI) ⟨.ref e :: rest, []⟩) (fun r s' => match r with | .ok (.ret v) => v = .none ∧ Q (.done (.ret (.ref e))) s' | .ok _ => False | .error x => E x s') ⟨h', g, d, t, os⟩) :
    wpAny (model prog w) A (Builtin.«type.__call__» ⟨.ref C :: rest, []⟩) Q E ⟨h, g, d, t, os⟩ := by
  unfold Builtin.«type.__call__»
  refine wpAny_ite_false rfl ?_
  repeat (first | (with_reducible refine wpAny_load' hC ?_) | (with_reducible refine wpAny_madeBy_exc hC ?_) | wp_step)
  refine codeAny_call_builtin_code (Code.quiet_builtin _ F.quiet) (wpAny_check_new_subT F T hC (codeAny_exc_new_subT F T hC ?_ hl))
  have kp : ∀ b o, h.get? b = some o → ((h.push { cls := .type "tuple", data := .seq rest.toArray }).push { cls := .ref C, data := .fields #[.ref h.objs.size, .none, .none, .none, .bool false, .none] }).get? b = some o := fun b o e => Heap.get?_push_of_some _ (Heap.get?_push_of_some _ e)
  have hC1 := kp _ _ hC
  have L1 := PySem.W.looks_findIn (M := model prog w) (X.keeps kp) hi
  have hf1 := kp _ _ hf
  have hx : ((h.push { cls := .type "tuple", data := .seq rest.toArray }).push { cls := .ref C, data := .fields #[.ref h.objs.size, .none, .none, .none, .bool false, .none] }).get? (h.objs.size + 1) = some { cls := .ref C, data := .fields #[.ref h.objs.size, .none, .none, .none, .bool false, .none] } := by
    have := Heap.get?_push_size (h.push { cls := .type "tuple", data := .seq rest.toArray }) (o := { cls := .ref C, data := .fields #[.ref h.objs.size, .none, .none, .none, .bool false, .none] }) rfl
    rwa [Heap.size_push] at this
  have me : h.MadeExcOf ((h.push { cls := .type "tuple", data := .seq rest.toArray }).push { cls := .ref C, data := .fields #[.ref h.objs.size, .none, .none, .none, .bool false, .none] }) (h.objs.size + 1) (.ref C) rest :=
    ⟨kp, Heap.get?_none_of_le (by omega), h.objs.size, hx, Heap.get?_none_of_le (by omega), Heap.get?_push_of_some _ (Heap.get?_push_size h rfl)⟩
  have hq1 := hq _ _ me
  generalize (h.push { cls := .type "tuple", data := .seq rest.toArray }).push { cls := .ref C, data := .fields #[.ref h.objs.size, .none, .none, .none, .bool false, .none] } = h1 at *
  generalize h.objs.size + 1 = e at *
  have hcC : (Value.ref C :: bm).contains (.ref C) = true := by simp
  have hTf : (⟨h1, g, d, t, os⟩ : Shared).TypeIs (.ref fI) "function" := ⟨oI, hf1, hfc⟩
  dsimp only
  repeat (first | (with_reducible refine wpAny_loadPart_at hx ?_) | (with_reducible refine wpAny_isSubtype_exc hC1 ?_) | (with_reducible refine L1.at ?_) | wp_step)
  unfold bindSpecial
  repeat (first | (with_reducible refine wpAny_typeOf hTf ?_) | wp_step)
  refine codeAny_mono hq1 fun r s' hr => ?_
  cases r with
  | error x => exact hr
  | ok fl =>
    cases fl with
    | ret v =>
      obtain ⟨rfl, hr⟩ := hr
      dsimp only
      repeat (first | assumption | wp_step)
    | next => exact hr
    | brk => exact hr
    | cont => exact hr
theorem call_initT {Q : Value → Shared → Prop} (F : ExcBaseFacts B newId initId bmB) (T : OwnTail h bmB bm) (hC : h.get? C = some (excClassObj nm q C N bs bm hdct sn sub ab col dd k0 k1 k2 k3 k5 newId)) (X : K.In h) (hi : PySem.W.findIn K (.ref C) "__init__" = some (some (.ref fI))) (hf : h.get? fI = some oI) (hfc : oI.cls = .type "function") (hl : rest.length ≤ sizeLine)
    (hq : ∀ (h' : Heap) (e : Addr), h.MadeExcOf h' e (.ref C) rest → codeAny (model prog w) (A.under (.builtin "type.__call__" ⟨.ref C :: rest, []⟩)) (.call (.ref fI) ⟨.ref e :: rest, []⟩) (fun r s' => match r with | .ok (.ret v) => v = .none ∧ Q (.ref e) s' | .ok _ => False | .error x => E x s') ⟨h', g, d, t, os⟩) :
    wpAny (model prog w) A (call (.ref C) rest) Q E ⟨h, g, d, t, os⟩ := by
  have hT : (⟨h, g, d, t, os⟩ : Shared).TypeIs (.ref C) "type" := ⟨_, hC, rfl⟩
  refine wpAny_call (codeAny_of_tree ?_)
  repeat (first | (with_reducible refine wpAny_load' hC ?_) | (with_reducible refine wpAny_specialOf hT tc_lookup ?_) | (with_reducible refine wpAny_of_eq (tc_bind (.ref C)) ?_) | wp_step)
  exact ⟨rfl, codeAny_call_builtin_at (Code.quiet_builtin _ (by decide +kernel)) entry_typeCall (wpAny_check_type_call_sub hC (type_call_initT F T hC X hi hf hfc hl fun h' e hm => hq h' e hm))⟩
end
end Tw

set_option Elab.async false
set_option linter.all false
set_option maxRecDepth 100000
set_option maxHeartbeats 1000000
namespace Tw
open PySem PySem.Spec PyProof.Rows L2
/-! ### T.__init__, T a class of one's own -/
section
variable {prog : Program} {w : World} {A : Around} {E : Value → Shared → Prop} {s : Shared} {K : PySem.W.Frag} {C : Addr} {i : String}
theorem get_initK {pl : Sem Bool} {Q : Value × List Value → Shared → Prop} (X : K.In s.heap) (hr : PySem.W.readsIn K C (.type "type") = true) (hf : PySem.W.findCls K (.ref C) (.type "type") "__init__" = some (.val (.builtin i))) (hT : s.TypeIs (.ref C) "type") (hw : (withoutEnding? i "#data").isSome = false) (q : Q (.builtin i, []) { s with toks := s.toks + 1 }) :
    wpAny (model prog w) A (getMethod (.ref C) "__init__" pl) Q E s := by
  unfold getMethod
  refine wpAny_bind (wpAny_specialOf hT PySem.W.KF.slot_tga.lookup ?_)
  dsimp only
  refine wpAny_ite_true PySem.W.canon_tga ?_
  refine wpAny_bind (PySem.W.cls_read X hr hf ?_)
  repeat (first | assumption | wp_step)
end
/-- a class of exceptions with an __init__ of its own -/
structure ExcI (K : PySem.W.Frag) (C fI : Addr) : Prop where
  ex : ∃ nm q N bs T sn sub ab col dd k0 k1 k2 k3 k5 oc od fd sl, K.lookup C = some (excClassObj nm q C N bs (.ref T :: bmV) true sn sub ab col dd k0 k1 k2 k3 k5 nwV) ∧ PySem.W.excIn K T bmV nwV = true ∧ PySem.W.findIn K (.ref C) "__init__" = some (some (.ref fI)) ∧ K.lookup fI = some ⟨oc, od, .func fd, sl⟩ ∧ oc = .type "function"
theorem tail_T {K : PySem.W.Frag} {h : Heap} {T : Addr} (X : K.In h) (q : PySem.W.excIn K T bmV nwV = true) : OwnTail h bmV (.ref T :: bmV) := by
  obtain ⟨bm, N, nm, qn, bs, hd, sn, sub, ab, col, dd, k0, k1, k2, k3, k5, mN, hC, hN, hni, _⟩ := exc_obj X q
  exact .own hC hN hni .base
section
variable {prog : Program} {w : World} {A : Around} {E : Value → Shared → Prop} {K : PySem.W.Frag} {h : Heap} {g : Array GenState} {d : Drawn} {t : Nat} {os : OsState} {a C fI : Addr} {o : Obj} {rest : List Value} {vs : Array Value} {t0 : Addr}
theorem exc_init_run {Q : Value → Shared → Prop} (X : K.In h) (T : ExcI K C fI) (hx : h.get? a = some o) (hc : o.cls = .ref C) (hd : o.data = .fields vs) (hv : vs[0]? = some (.ref t0)) (hl : rest.length ≤ sizeLine)
    (hq : Q .none ⟨(h.push { cls := .type "tuple", data := .seq rest.toArray }).update a (Obj.mapFields fun x => x.setIfInBounds 0 (.ref h.objs.size)), g, d, t, os⟩) :
    wpAny (model prog w) A (call (.builtin "ValueError.__init__") (.ref a :: rest)) Q E ⟨h, g, d, t, os⟩ := by
  have F := PySem.F.excBase_ValueError
  obtain ⟨nm, q, N, bs, TT, sn, sub, ab, col, dd, k0, k1, k2, k3, k5, oc, od, fd, sl, hC, ht, _⟩ := T.ex
  have hC := X _ _ hC
  have ht := tail_T X ht
  refine wpAny_call (codeAny_call_builtin F.init.plain F.initEntry (wpAny_check_init_subT F ht hC hx hc ?_))
  unfold Builtin.«BaseException.__init__» Builtin.BaseException.bexcPut
  have hx1 : (h.push { cls := .type "tuple", data := .seq rest.toArray }).get? a = some o := Heap.get?_push_of_some _ hx
  have hv0 : 0 < vs.size := by
    rcases Nat.lt_or_ge 0 vs.size with z | z
    · exact z
    · rw [Array.getElem?_eq_none z] at hv; cases hv
  repeat (first | assumption | (with_reducible refine wpAny_field hx1 hd hv ?_) | (with_reducible refine wpAny_setField hx1 hd hv0 ?_) | (with_reducible refine wpAny_letGo ?_) | wp_step)
end
end Tw

set_option Elab.async false
set_option linter.all false
set_option maxRecDepth 100000
set_option maxHeartbeats 1000000
namespace Tw
open PySem PySem.Spec PyProof.Rows L2
/-! ### x.at = v and x.at, x an exception of such a class -/
section
variable {prog : Program} {w : World} {A : Around} {E : Value → Shared → Prop} {K : PySem.W.Frag} {h : Heap} {g : Array GenState} {d : Drawn} {t : Nat} {os : OsState} {a C T fI : Addr} {o : Obj} {vs : Array Value} {t0 : Addr} {v : Value}
theorem exc_check_set {M : Model} {nameV v : Value} {Q : Unit → Shared → Prop} (X : K.In h) (hx : h.get? a = some o) (hc : o.cls = .ref C) (hm : PySem.W.mroIn K C (.type "object") = some true) (hq : Q () ⟨h, g, d, t, os⟩) :
    wpAny M A (checkBuiltinCall "object.__setattr__" ⟨[.ref a, nameV, v], []⟩) Q E ⟨h, g, d, t, os⟩ := by
  have L1 := PySem.W.looks_mroIn (M := M) X hm
  have hk : builtinKind "object.__setattr__" = some .slot := by decide +kernel
  have hsplit : splitId "object.__setattr__" = some ("object", "__setattr__") := by decide +kernel
  have ha := F.args_object_setattr_3 (.ref a) nameV v
  simp only [checkBuiltinCall, hk, hsplit]
  refine wpAny_bind ?_
  · unfold isInstance
    repeat (first | (with_reducible refine wpAny_loadPart_at hx ?_; rw [hc]) | (with_reducible refine L1.at ?_) | wp_step)
    exact hq
theorem exc_set {Q : Unit → Shared → Prop} {nm q : Str} {N : Addr} {bs : List Value} {sn : List Str} {sub : List Value} {ab : Bool} {col : Option Bool} {dd : Option Addr} {k0 k1 k2 k3 k5 : Option Value} (X : K.In h) (hC : K.lookup C = some (excClassObj nm q C N bs (.ref T :: bmV) true sn sub ab col dd k0 k1 k2 k3 k5 nwV)) (hx : h.get? a = some o) (hc : o.cls = .ref C) (hd : o.data = .fields vs) (hdn : o.dict = none) (hs : PySem.W.findIn K (.ref C) "__setattr__" = some (some (.builtin "object.__setattr__"))) (ha : PySem.W.findIn K (.ref C) "at" = some none) (hm : PySem.W.mroIn K C (.type "object") = some true)
    (hq : ∀ (h' : Heap) (d' : Addr) (t' : Nat), h.get? d' = none → d' = h.objs.size → h'.get? a = some { o with dict := some d' } → h'.Ns1 d' (fun y => if y = "at" then some v else none) → (∀ b u, b ≠ a → h.get? b = some u → h'.get? b = some u) → Q () ⟨h', g, d, t', os⟩) :
    wpAny (model prog w) A (setAttr (.ref a) "at" v) Q E ⟨h, g, d, t, os⟩ := by
  have L1 := PySem.W.looks_findIn (M := model prog w) X hs
  have L2 := PySem.W.looks_findIn (M := model prog w) X ha
  have hC := X _ _ hC
  have fb := F.slot_object_setattr.bind (.ref a)
  unfold setAttr
  repeat (any_goals (first | assumption | (with_reducible refine wpAny_loadPart_at hx ?_; rw [hc]) | (with_reducible refine L1.at ?_) | (with_reducible refine L2.at ?_) | wp_step))
  refine codeAny_call_builtin F.slot_object_setattr.plain F.entry_object_setattr (exc_check_set X hx hc hm ?_)
  unfold Builtin.«object.__setattr__»
  repeat (any_goals (first | assumption | (with_reducible refine wpAny_loadPart_at hx ?_; rw [hc]) | (with_reducible refine wpAny_load' hC ?_) | (with_reducible refine L1.at ?_) | (with_reducible refine L2.at ?_) | wp_step))
  rw [hdn, hd]
  have hx1 : (h.push PySem.W.emptyDict).get? a = some o := Heap.get?_push_of_some _ hx
  have ne : a ≠ h.objs.size := Nat.ne_of_lt (Heap.lt_size hx)
  have e1 : (h.push PySem.W.emptyDict).get? h.objs.size = some PySem.W.emptyDict := Heap.get?_push_size h rfl
  have e2 : ((h.push PySem.W.emptyDict).update a fun o => { cls := o.cls, dict := some h.objs.size, data := o.data, slots := o.slots }).get? h.objs.size = some PySem.W.emptyDict := by rw [Heap.get?_update_ne _ _ _ _ (Ne.symm ne)]; exact e1
  have e3 : ((h.push PySem.W.emptyDict).update a fun o => { cls := o.cls, dict := some h.objs.size, data := o.data, slots := o.slots }).get? a = some { o with dict := some h.objs.size } := Heap.get?_update_self _ hx1 (by simp [Obj.isFreed, hd])
  have n1 : ((h.push PySem.W.emptyDict).update a fun o => { cls := o.cls, dict := some h.objs.size, data := o.data, slots := o.slots }).Ns1 h.objs.size (fun _ => none) := Heap.Ns1.of_empty ⟨PySem.W.emptyDict, #[], _, e2, rfl, (fun e he => absurd he (by simp)), fun _ => rfl⟩
  refine wpAny_ite_false rfl ?_
  dsimp only
  refine wpAny_bind (wpAny_alloc' (wpAny_bind (wpAny_update' hx1 ?_)))
  unfold dictMade Builtin.ObjectAttr.storeInDict Builtin.ObjectAttr.newKeyGuard
  dsimp only
  refine wpAny_pure (wpAny_bind (wpAny_pure (wpAny_bind (wpAny_nsSet1 n1 fun h' hn2 hs2 => ?_))))
  obtain ⟨oD, esD, epD, hoD, hdD, hcD⟩ := hn2.count (PySem.Within.cons (ns := []) "at" v (fun y hy => absurd rfl hy))
  refine wpAny_bind (wpAny_lookBehind hoD (by rw [hdD]; exact pastItsLine_dict (Nat.le_trans hcD (by simp [sizeLine_eq]))) ?_)
  repeat (first | wp_step | exact hq h' h.objs.size _ (Heap.get?_none_of_le (Nat.le_refl _)) rfl ((hs2.2 _ ne).trans e3) hn2 fun b u hb e => (hs2.2 _ (Nat.ne_of_lt (Heap.lt_size e))).trans (by rw [Heap.get?_update_ne _ _ _ _ hb]; exact Heap.get?_push_of_some _ e))
end
end Tw

set_option Elab.async false
set_option linter.all false
set_option maxRecDepth 100000
set_option maxHeartbeats 1000000
namespace Tw
open PySem PySem.Spec PyProof.Rows L2
section
variable {prog : Program} {w : World} {A : Around} {E : Value → Shared → Prop} {K : PySem.W.Frag} {h : Heap} {g : Array GenState} {d : Drawn} {t : Nat} {os : OsState} {a C d' : Addr} {o : Obj} {n : Int} {tv : Tok} {m : Str → Option Value} {vs : Array Value} {nm q : Str} {N : Addr} {bs bm : List Value} {sn : List Str} {sub : List Value} {ab : Bool} {col : Option Bool} {dd : Option Addr} {k0 k1 k2 k3 k5 : Option Value}
theorem exc_at_entry {tk : Tok} {Q : Fin → Shared → Prop} (X : K.In h) (hC : h.get? C = some (excClassObj nm q C N bs bm true sn sub ab col dd k0 k1 k2 k3 k5 nwV)) (hd : o.data = .fields vs) (hx : h.get? a = some o) (hc : o.cls = .ref C) (hdn : o.dict = some d') (hn : h.Ns d' m) (hv : m "at" = some (.int n tv)) (hf : PySem.W.findIn K (.ref C) "at" = some none)
    (hq : Q (.done (.ret (.int n tv))) ⟨h, g, d, t, os⟩) : wpAny (model prog w) A (Builtin.«object.__getattribute__» ⟨[.ref a, .str "at" tk], []⟩) Q E ⟨h, g, d, t, os⟩ := by
  have L1 := PySem.W.looks_findIn (M := model prog w) X hf
  repeat (any_goals (first | assumption | (with_reducible refine wpAny_loadPart_at hx ?_; rw [hc]) | (with_reducible refine L1.at ?_) | wp_step))
  rw [hd]
  repeat (any_goals (first | assumption | (with_reducible refine wpAny_loadPart_at hx ?_; rw [hc]) | (with_reducible refine wpAny_load' hC ?_) | wp_step))
  rw [hdn]
  repeat (any_goals (first | assumption | (with_reducible refine wpAny_nsGet hn ?_; rw [hv]) | wp_step))
theorem exc_at_by {tk : Tok} {b1 b2 : Bool} {Q : Value → Shared → Prop} (X : K.In h) (hC : h.get? C = some (excClassObj nm q C N bs bm true sn sub ab col dd k0 k1 k2 k3 k5 nwV)) (hd : o.data = .fields vs) (hx : h.get? a = some o) (hc : o.cls = .ref C) (hdn : o.dict = some d') (hn : h.Ns d' m) (hv : m "at" = some (.int n tv)) (hf : PySem.W.findIn K (.ref C) "at" = some none)
    (hb : PySem.W.mroIn K C (.type "BaseException") = some true) (hga : PySem.W.findIn K (.ref C) "__getattribute__" = some (some (.builtin "BaseException.__getattribute__"))) (hna : PySem.W.findIn K (.ref C) "__getattr__" = some none)
    (hq : Q (.int n tv) ⟨h, g, d, t, os⟩) : wpAny (model prog w) A (getAttrBy (.ref a) (.str "at" tk) b1 b2) Q E ⟨h, g, d, t, os⟩ := by
  have L1 := PySem.W.looks_findIn (M := model prog w) X hga
  have L2 := PySem.W.looks_findIn (M := model prog w) X hna
  have FG := PySem.F.attrBase_ValueError.ga
  have f3 := FG.bind (.ref a)
  have hx2 : (Value.builtin "BaseException.__getattribute__" == Value.builtin "object.__getattribute__") = false := by decide +kernel
  have hx1 : (onTheHeap (Value.ref C) && Value.builtin "BaseException.__getattribute__" == Value.builtin "object.__getattribute__") = false := by rw [hx2]; rfl
  have hx0 : (b2 && onTheHeap (Value.builtin "BaseException.__getattribute__")) = false := by cases b2 <;> rfl
  repeat (any_goals (first | assumption | (with_reducible refine wpAny_loadPart_at hx ?_; rw [hc]) | (with_reducible refine L1.at ?_) | (with_reducible refine L2.at ?_) | wp_step))
  refine codeAny_call_builtin FG.plain F.entry_bexc_ga (exc_check_ga X hx hc hb (exc_at_entry X hC hd hx hc hdn hn hv hf ?_))
  repeat (any_goals (first | assumption | wp_step))
theorem exc_at {b2 : Bool} {Q : Value → Shared → Prop} (X : K.In h) (hC : h.get? C = some (excClassObj nm q C N bs bm true sn sub ab col dd k0 k1 k2 k3 k5 nwV)) (hd : o.data = .fields vs) (hx : h.get? a = some o) (hc : o.cls = .ref C) (hdn : o.dict = some d') (hn : h.Ns d' m) (hv : m "at" = some (.int n tv)) (hf : PySem.W.findIn K (.ref C) "at" = some none)
    (hb : PySem.W.mroIn K C (.type "BaseException") = some true) (hga : PySem.W.findIn K (.ref C) "__getattribute__" = some (some (.builtin "BaseException.__getattribute__"))) (hna : PySem.W.findIn K (.ref C) "__getattr__" = some none)
    (hq : ∀ t', Q (.int n tv) ⟨h, g, d, t', os⟩) : wpAny (model prog w) A (getAttr (.ref a) "at" b2) Q E ⟨h, g, d, t, os⟩ := by
  unfold getAttr
  have hq' := hq (t + 1)
  repeat (any_goals (first | assumption | with_reducible apply exc_at_by X hC hd hx hc hdn hn hv hf hb hga hna | wp_step))
end
end Tw

set_option Elab.async false
set_option linter.all false
set_option maxRecDepth 100000
set_option maxHeartbeats 1000000
namespace Tw
open PySem PySem.Spec PyProof.Rows L2
/-! ### C(e), C a class of exceptions of one's own without an __init__ -/
section
variable {X : Cx} {pins : List (Addr × Obj)} {σ : L2.St} {H : Hp} {s : Shared} {x C : Addr} {o : HO} {h' : Heap} {t' : Nat}
/-- a new object, wherever it lies, is tracked -/
theorem inv_trackG (I : Inv X pins σ H s) (hk : ∀ b u, s.heap.get? b = some u → h'.get? b = some u) (hx : s.heap.get? x = none) (new : ObjOk X.prog X.w (upd H x o) h' x o) : H x = none ∧ Inv X pins σ (upd H x o) { s with heap := h', toks := t' } := by
  have I1 := I.kept (t' := t') hk
  have hn : H x = none := by
    cases q : H x with
    | none => rfl
    | some u =>
      obtain ⟨ob, e⟩ := objOk_ex (I.hok x u q)
      rw [hx] at e; cases e
  refine ⟨hn, ?_⟩
  have ne : ∀ b u, H b = some u → b ≠ x := fun b u q z => by rw [z, hn] at q; cases q
  have nh : ∀ b u, s.heap.get? b = some u → b ≠ x := fun b u q z => by rw [z, hx] at q; cases q
  refine ⟨I1.ok, I1.os, I1.bare, ⟨I1.base.keep, I1.base.slot, fun b o q n hx' => ?_, I1.base.there, fun b xs q => ?_, fun b o u q => ?_, fun b ps q => ?_⟩, I1.loc, I1.cell, ?_, fun y c q => ?_, fun p q => ?_, fun b u q => ?_, I1.len⟩
  · obtain ⟨o', e'⟩ := I.base.there b o q hx'
    rw [upd_ne (nh _ _ e')]; exact I.base.free b o q n hx'
  · have := I.base.tups b xs q; rw [upd_ne (ne _ _ this)]; exact this
  · have := I.base.frzs b o u q; rw [upd_ne (ne _ _ this)]; exact this
  · obtain ⟨m, this⟩ := I.base.tbls b ps q; exact ⟨m, by rw [upd_ne (ne _ _ this)]; exact this⟩
  · have : ∃ u, s.heap.get? X.env.locals = some u := by
      obtain ⟨m, ⟨o, _, _, e, _⟩, _⟩ := I.loc
      exact ⟨o, e⟩
    obtain ⟨u, e⟩ := this
    rw [upd_ne (nh _ _ e)]; exact I.free
  · obtain ⟨v, o, ho, _⟩ := I.cell y c q
    rw [upd_ne (nh _ _ ho)]; exact I.freeC y c q
  · obtain ⟨e0, _⟩ := I.pin p q
    obtain ⟨e, n, n2, nf, d⟩ := I1.pin p q
    exact ⟨e, by rw [upd_ne (nh _ _ e0)]; exact n, n2, nf, d⟩
  · by_cases hb : b = x
    · subst hb
      rw [upd_same] at q; cases q
      exact new
    · rw [upd_ne hb] at q
      exact (I1.hok b u q).stay (fun _ _ _ e => e) (fun c z => by rw [upd_ne (ne _ _ z)]; exact z) fun c xs z => by rw [upd_ne (ne _ _ z)]; exact z
end
def tMkX (C : Addr) (t : TA) : TE := fun σ H Q => t σ H fun vs H1 => vs.length ≤ sizeLine ∧ ∀ x, H1 x = none → Q (.ref x) (upd H1 x (.ext (ExcAt x C)))
section
variable {X : Cx} {e : Expr} {es : List Expr} {pos p : Pos} {fa : FA} {f : FE} {x : Str} {C : Addr} {t : TA}
theorem pe_mkX (ex : X.mg x = some (.ref C)) (q : PySem.W.excIn X.K C bmV nwV = true) (kp : PySem.W.keepIn X.K (.ref C) = true) (hg : Gl X x) (ha : PA X (e :: es) t) (hdb : (x == ("__debug__" : Str)) = false := by decide)
    (he : starEach (e :: es) X.env = (false, eval e X.env) :: starEach es X.env := by rfl) (hpl : (backTo pos (starEach es X.env)).any (·.1) = false := by rfl) : PE X (.Call (.Name x p) (e :: es) [] pos) (tMkX C t) := by
  intro pins s σ H Q I h
  refine wpAny_Call_Name_kw (ld_glob I hg ex ?_ hdb)
  refine PySem.W.callWith_K (h₀ := X.base) I.ok.mod.kin kp (thn (ha pos pins s σ H _ I h) fun us s1 ⟨vs, H1, I1, r, hl, q1⟩ => ⟨I1.kIn, ?_⟩) he hpl
  obtain ⟨bm, N, nm, qn, bs, hd, sn, sub, ab, col, dd, k0, k1, k2, k3, k5, mN, hC, hN, hni, T⟩ := exc_obj I1.kIn q
  obtain ⟨hh, g, d, tt, os⟩ := s1
  refine wpAny_call_exc_subT PySem.F.excBase_ValueError T hC hN hni (fun h' a hm => ?_) (by show us.length ≤ sizeLine; rw [← r.length]; exact hl)
  obtain ⟨t0, e1, _⟩ := hm.there
  have new : ObjOk X.prog X.w (upd H1 a (.ext (ExcAt a C))) h' a (.ext (ExcAt a C)) := ⟨⟨_, _, e1, rfl, rfl⟩, ⟨_, e1⟩, fun h1 h2 ⟨o, vs, z1, z2⟩ k => ⟨o, vs, k o z1, z2⟩⟩
  obtain ⟨hn, I2⟩ := inv_trackG (t' := tt) I1 hm.keeps hm.new new
  exact ⟨.ref a, _, I2, rfl, q1 a hn⟩
def fMkX (C : Addr) (fa : FA) : FE := fun ρ => (fa ρ).bind fun ds => if ds.length ≤ lim then some (.exn C) else none
theorem qx_mkX (ex : X.mg x = some (.ref C)) (q : PySem.W.excIn X.K C bmV nwV = true) (kp : PySem.W.keepIn X.K (.ref C) = true) (ha : QA X (e :: es) fa) (hg : Gl X x := by rfl) (hdb : (x == ("__debug__" : Str)) = false := by decide)
    (he : starEach (e :: es) X.env = (false, eval e X.env) :: starEach es X.env := by rfl) (hpl : (backTo pos (starEach es X.env)).any (·.1) = false := by rfl) : QX X (.Call (.Name x p) (e :: es) [] pos) (fMkX C fa) := ⟨PE.weak (pe_mkX ex q kp hg ha.to hdb he hpl) fun σ H Q ⟨ρ, d, rv, e, q⟩ => by
  unfold fMkX at e
  cases e1 : fa ρ with
  | none => rw [e1] at e; cases e
  | some ds =>
    rw [e1] at e
    simp only [Option.bind_some] at e
    split at e
    · rename_i hl
      cases e
      refine ⟨ρ, ds, rv, e1, fun vs H1 s1 l1 => ⟨by rw [← denL_length l1]; exact Nat.le_trans hl lim_line, fun a hn => q _ _ (s1.trans (same_upd hn _)) ?_⟩⟩
      show Den _ Emp _ _ _
      rw [Den]
      exact ⟨a, rfl, upd_same⟩
    · cases e⟩
end
end Tw

set_option Elab.async false
set_option linter.all false
set_option maxRecDepth 100000
set_option maxHeartbeats 1000000
namespace Tw
open PySem PySem.Spec PyProof.Rows L2
/-! ### an __init__ of its own: T.__init__(self, f"..{at}"), self.at = at -/
/-- just made: no dict -/
def ExcAtN (a C : Addr) (h : Heap) : Prop := ∃ o vs t0, h.get? a = some o ∧ o.cls = .ref C ∧ o.data = .fields vs ∧ vs[0]? = some (.ref t0) ∧ o.dict = none
theorem excN_ok {P : Program} {w : World} {H : Hp} {h : Heap} {a C : Addr} (e : ExcAtN a C h) : ObjOk P w H h a (.ext (ExcAtN a C)) := by
  obtain ⟨o, vs, t0, e1, e2⟩ := e
  exact ⟨⟨o, vs, t0, e1, e2⟩, ⟨o, e1⟩, fun h1 h2 ⟨o, vs, t0, z1, z2⟩ k => ⟨o, vs, t0, k o z1, z2⟩⟩
theorem excD_ok {P : Program} {w : World} {H : Hp} {h : Heap} {a C d : Addr} (e : ExcAtD a C d h) : ObjOk P w H h a (.ext (ExcAtD a C d)) := by
  obtain ⟨o, vs, e1, e2⟩ := e
  exact ⟨⟨o, vs, e1, e2⟩, ⟨o, e1⟩, fun h1 h2 ⟨o, vs, z1, z2⟩ k => ⟨o, vs, k o z1, z2⟩⟩
/-- what the class must have -/
structure ExcT (K : PySem.W.Frag) (C fI : Addr) : Prop where
  i : ExcI K C fI
  ob : PySem.W.mroIn K C (.type "object") = some true
  be : PySem.W.mroIn K C (.type "BaseException") = some true
  sa : PySem.W.findIn K (.ref C) "__setattr__" = some (some (.builtin "object.__setattr__"))
  no : PySem.W.findIn K (.ref C) "at" = some none
  ga : PySem.W.findIn K (.ref C) "__getattribute__" = some (some (.builtin "BaseException.__getattribute__"))
  na : PySem.W.findIn K (.ref C) "__getattr__" = some none
  kp : PySem.W.keepIn K (.ref C) = true
def tJ (te : TE) : TE := fun σ H Q => te σ H fun x H1 => ∃ n : Int, x = .int n ∧ n.natAbs.log2 < 1901 ∧ ∀ y, Q (.str y) H1
def rInit (K : PySem.W.Frag) : List V → Hp → VK → Prop := fun xs H Q => ∃ a C fI y, xs = [.ref a, y] ∧ H a = some (.ext (ExcAtN a C)) ∧ ExcT K C fI ∧ Q .non H
def sAt (K : PySem.W.Frag) (ta tv : TE) : TS := fun D σ H => tv σ H fun y H1 => ta σ H1 fun x H2 => ∃ a C fI n, x = .ref a ∧ y = .int n ∧ H2 a = some (.ext (ExcAtN a C)) ∧ ExcT K C fI ∧ ∀ d, H2 d = none → D.nx σ (upd (upd H2 d (.xd [("at", .int n)])) a (.ext (ExcAtD a C d)))
section
variable {X : Cx} {e o value : Expr} {es : List Expr} {c : Str} {j : Nat} {pos pos' p p1 p2 apos cpos : Pos} {te ta tv : TE} {t : TA} {x : Str} {T : Addr}
theorem pe_join (he : PE X e te) (hc : c.length ≤ 1000) (hs : evalEach [.Constant (.str c) j p1, .FormattedValue e (-1) none p2] X.env = [eval (.Constant (.str c) j p1) X.env, eval (.FormattedValue e (-1) none p2) X.env] := by rfl) : PE X (.JoinedStr [.Constant (.str c) j p1, .FormattedValue e (-1) none p2] pos) (tJ te) := by
  intro pins s σ H Q I h
  refine wpAny_JoinedStr ?_
  rw [hs]
  have z0 : (Str.empty ++ c).length = c.length := by rw [strLen_append]; exact Nat.zero_add _
  have sl : (4000 : Nat) ≤ sizeLine := by rw [sizeLine_eq]; decide
  unfold Joins
  refine wpAny_Constant_str ⟨c, _, rfl, by rw [z0]; omega, ?_⟩
  unfold Joins
  refine wpAny_FormattedValue_plain (thn (he pins _ σ H _ (I.tok _) h) fun u s1 ⟨x, H1, I1, r1, n, ex, hn, q⟩ => ?_)
  subst ex
  obtain ⟨tk, rfl⟩ := (show ∃ tk, u = Value.int n tk from r1)
  have hl : (Str.empty ++ c ++ Str.ofString (toString n)).length ≤ sizeLine := by
    rw [strLen_append, z0, PySem.ofString_length]
    have := int_text_length_le (k := 1901) (by decide) hn
    omega
  refine wpAny_formatField_int (by omega) ⟨_, _, rfl, hl, ?_⟩
  unfold Joins
  exact ⟨hl, .str _, H1, I1.tok _, ⟨_, rfl⟩, q _⟩
theorem call_initX : CallR X (.builtin "ValueError.__init__") (rInit X.K) := by
  intro pins s σ H xs us Q I r h
  obtain ⟨a, C, fI, y, rfl, ha, T, q⟩ := h
  obtain ⟨u, w', rfl, ru, rw'⟩ := vals2 r
  cases (show u = Value.ref a from ru)
  obtain ⟨⟨o, vs, t0, hx, hc, hd, hv, hdn⟩, _⟩ := I.hok a _ ha
  obtain ⟨hh, g, d, tt, os⟩ := s
  refine exc_init_run I.kIn T.i hx hc hd hv (by show 1 ≤ sizeLine; rw [sizeLine_eq]; decide) ?_
  obtain ⟨oc, odi, oda, osl⟩ := o
  dsimp only at hc hd hdn
  subst hc hd hdn
  have hx1 := Heap.get?_push_of_some { cls := .type "tuple", data := .seq [w'].toArray } hx
  have e3 := Heap.get?_update_self (Obj.mapFields fun x => x.setIfInBounds 0 (.ref hh.objs.size)) hx1 rfl
  have v0 : 0 < vs.size := by
    rcases Nat.lt_or_ge 0 vs.size with z | z
    · exact z
    · rw [Array.getElem?_eq_none z] at hv; cases hv
  have N : ExcAtN a C ((hh.push { cls := .type "tuple", data := .seq [w'].toArray }).update a (Obj.mapFields fun x => x.setIfInBounds 0 (.ref hh.objs.size))) := ⟨_, vs.setIfInBounds 0 (.ref hh.objs.size), hh.objs.size, e3, rfl, rfl, by simp [v0], rfl⟩
  have I2 := I.write (x := a) (e := a) (o := .ext (ExcAtN a C)) (t' := tt) (by rw [ha]; exact True.intro) (.inl rfl) (fun b u hb e => by rw [Heap.get?_update_ne _ _ _ _ hb]; exact Heap.get?_push_of_some _ e) ⟨_, e3⟩ (excN_ok N)
  have hH : upd H a (.ext (ExcAtN a C)) = H := by
    funext b
    unfold upd
    split
    · rename_i z; rw [z, ha]
    · rfl
  rw [hH] at I2
  exact ⟨.non, H, I2, rfl, q⟩
theorem pe_initC {pl : Sem Bool} (ex : X.mg x = some (.ref T)) (hr : PySem.W.readsIn X.K T (.type "type") = true) (hf : PySem.W.findCls X.K (.ref T) (.type "type") "__init__" = some (.val (.builtin "ValueError.__init__"))) (hT : PySem.W.excIn X.K T bmV nwV = true) (hg : Gl X x) (ha : PA X (e :: es) t) (hdb : (x == ("__debug__" : Str)) = false := by decide)
    (he : starEach (e :: es) X.env = (false, eval e X.env) :: starEach es X.env := by rfl) (hpl : (backTo cpos (starEach es X.env)).any (·.1) = false := by rfl)
    (ht : eval (.Call (.Attribute (.Name x p) "__init__" apos) (e :: es) [] cpos) X.env = (do
      let ov ← eval (.Name x p) X.env
      standAt apos.atName
      let (f, first) ← holding [ov] (getMethod ov "__init__" pl)
      callWith cpos f first (backTo cpos (starEach (e :: es) X.env)) (backToKw cpos (keywordEach [] X.env))) := by rfl) :
    PE X (.Call (.Attribute (.Name x p) "__init__" apos) (e :: es) [] cpos) (tCB (rInit X.K) t) := by
  intro pins s σ H Q I h
  refine PySem.W.methodCall_KW (pl := pl) (ld_glob I hg ex ?_ hdb) ht
  obtain ⟨bm, N, nm, qn, bs, hd, sn, sub, ab, col, dd, k0, k1, k2, k3, k5, mN, hC, _⟩ := exc_obj I.kIn hT
  refine get_initK I.kIn hr hf ⟨_, hC, rfl⟩ (by decide +kernel) ?_
  exact PyProof.Rows.callWith_builtin1 (thn (ha cpos pins _ σ H _ (I.tok _) h) fun us s1 ⟨vs, H1, I1, r1, q1⟩ => call_initX pins s1 σ H1 vs us Q I1 r1 q1) he hpl
theorem ps_at (ha : PE X o ta) (hv : PE X value tv) (hs : swapsWith value (some (.Attribute o "at" pos')) pos.line X.env = pure false) : PS X (.Assign [.Attribute o "at" pos'] value pos) (sAt X.K ta tv) := by
  intro pins s σ H D I h
  refine plainObj_wpAny_Assign_Attribute (thn (hv pins s σ H _ I h) fun u s1 ⟨y, H1, I1, ry, q⟩ => thn (ha pins s1 σ H1 _ I1 q) fun ov s2 ⟨x, H2, I2, rx, a, C, fI, n, ex, ey, ha', T, q2⟩ => ?_) hs
  subst ex
  subst ey
  obtain rfl : ov = Value.ref a := rx
  obtain ⟨tk, rfl⟩ := (show ∃ tk, u = Value.int n tk from ry)
  obtain ⟨⟨ob, vs, t0, hx, hc, hd, hv0, hdn⟩, _⟩ := I2.hok a _ ha'
  obtain ⟨nm, q, N, bs, TT, sn, sub, ab, col, dd, k0, k1, k2, k3, k5, oc, od, fd, sl, hC, _⟩ := T.i.ex
  obtain ⟨hh, g, d, tt, os⟩ := s2
  refine exc_set I2.kIn hC hx hc hd hdn T.sa T.no T.ob fun h' d' t' e1 e2 e3 e4 e5 => ?_
  have ne : d' ≠ a := fun z => by rw [z, hx] at e1; cases e1
  have fr : Obj.isFreed ob = false := (fun (o : Obj) (h : o.data = .fields vs) => by obtain ⟨_, _, _, _⟩ := o; dsimp only at h; subst h; rfl : ∀ o : Obj, o.data = .fields vs → Obj.isFreed o = false) ob hd
  have m1 : (h'.update a fun _ => ob).get? a = some ob := Heap.get?_update_self (fun _ => ob) e3 fr
  have mk : ∀ b u, hh.get? b = some u → (h'.update a fun _ => ob).get? b = some u := fun b u e => by
    by_cases hb : b = a
    · subst hb; rw [hx] at e; cases e; exact m1
    · rw [Heap.get?_update_ne _ _ _ _ hb]; exact e5 b u hb e
  have n1 : (h'.update a fun _ => ob).Ns1 d' (fun y => if y = "at" then some (.int n tk) else none) := by
    obtain ⟨od', es, ep, z1, z2⟩ := e4
    exact ⟨od', es, ep, by rw [Heap.get?_update_ne _ _ _ _ ne]; exact z1, z2⟩
  have new : ObjOk X.prog X.w (upd H2 d' (.xd [("at", .int n)])) (h'.update a fun _ => ob) d' (.xd [("at", .int n)]) := ⟨_, n1, fun f => by
    by_cases hf : f = "at"
    · subst hf
      show RelO (some (V.int n)) _
      rw [if_pos rfl]
      exact ⟨tk, rfl⟩
    · have : ([(("at" : Str), V.int n)] : List (Str × V)).lookup f = none := by
        rw [List.lookup_cons]
        have : (f == ("at" : Str)) = false := by simpa using hf
        rw [this]; rfl
      rw [this, if_neg hf]
      exact True.intro⟩
  obtain ⟨hn, I3⟩ := inv_trackG (t' := t') I2 mk e1 new
  have ha3 : upd H2 d' (.xd [("at", .int n)]) a = some (.ext (ExcAtN a C)) := by rw [upd_ne (Ne.symm ne)]; exact ha'
  have I4 := I3.write (x := a) (e := a) (o := .ext (ExcAtD a C d')) (h' := h') (t' := t') (by rw [ha3]; exact True.intro) (.inl rfl) (fun b u hb e => by rw [← Heap.get?_update_ne h' b a (fun _ => ob) hb]; exact e) ⟨_, e3⟩ (excD_ok ⟨_, vs, e3, hc, hd, rfl⟩)
  exact ⟨σ, _, I4, q2 d' hn⟩
end
end Tw

set_option Elab.async false
set_option linter.all false
set_option maxRecDepth 100000
set_option maxHeartbeats 1000000
namespace Tw
open PySem PySem.Spec PyProof.Rows L2
/-! ### C(n) with that __init__; x.at; isinstance of such ones, too -/
def spInit (K : PySem.W.Frag) : Sp := fun vs H Q _ => ∃ a C fI n, vs = [.ref a, .int n] ∧ H a = some (.ext (ExcAtN a C)) ∧ n.natAbs.log2 < 1901 ∧ ExcT K C fI ∧ ∀ d, H d = none → Q .non (upd (upd H d (.xd [("at", .int n)])) a (.ext (ExcAtD a C d)))
def tMkI (C : Addr) (t : TA) : TE := fun σ H Q => t σ H fun vs H1 => ∃ n : Int, vs = [.int n] ∧ n.natAbs.log2 < 1901 ∧ ∀ x d, H1 x = none → H1 d = none → d ≠ x → Q (.ref x) (upd (upd (upd H1 x (.ext (ExcAtN x C))) d (.xd [("at", .int n)])) x (.ext (ExcAtD x C d)))
section
variable {X : Cx} {e : Expr} {es : List Expr} {pos p : Pos} {fa : FA} {f : FE} {x : Str} {C fI : Addr} {fd : FuncData} {t : TA} {k : Nat} {CX : CXT}
theorem pe_mkI (ex : X.mg x = some (.ref C)) (T : ExcT X.K C fI) (F : FnOk X.prog X.w X.K X.mg X.base CX0 k fI fd ["self", "at"] (spInit X.K)) (hr : Room (k + 1) X.A) (hb : Binds X.K fd ["self", "at"] []) (hg : Gl X x) (ha : PA X (e :: es) t) (hdb : (x == ("__debug__" : Str)) = false := by decide)
    (he : starEach (e :: es) X.env = (false, eval e X.env) :: starEach es X.env := by rfl) (hpl : (backTo pos (starEach es X.env)).any (·.1) = false := by rfl) : PE X (.Call (.Name x p) (e :: es) [] pos) (tMkI C t) := by
  intro pins s σ H Q I h
  refine wpAny_Call_Name_kw (ld_glob I hg ex ?_ hdb)
  refine PySem.W.callWith_K (h₀ := X.base) I.ok.mod.kin T.kp (thn (ha pos pins s σ H _ I h) fun us s1 ⟨vs, H1, I1, r, n, ev, hn, q1⟩ => ⟨I1.kIn, ?_⟩) he hpl
  subst ev
  obtain ⟨u, rfl, ru⟩ : ∃ u, us = [u] ∧ RelV (.int n) u := by
    cases r with
    | cons a b => cases b; exact ⟨_, rfl, a⟩
  obtain ⟨nm, q, N, bs, TT, sn, sub, ab, col, dd, k0, k1, k2, k3, k5, oc, od, fd', sl, hC, hT, hni, hf, hfc⟩ := T.i.ex
  obtain ⟨hh, g, d, tt, os⟩ := s1
  refine call_initT PySem.F.excBase_ValueError (tail_T I1.kIn hT) (I1.kIn _ _ hC) I1.kIn hni (I1.kIn _ _ hf) hfc (by show 1 ≤ sizeLine; rw [sizeLine_eq]; decide) fun h' a hm => ?_
  obtain ⟨t0, e1, _⟩ := hm.there
  obtain ⟨hnx, I2⟩ := inv_trackG (t' := tt) I1 hm.keeps hm.new (excN_ok (C := C) ⟨_, _, t0, e1, rfl, rfl, rfl, rfl⟩)
  have r2 : Vals [V.ref a, .int n] [Value.ref a, u] := .cons rfl (.cons ru .nil)
  refine codeAny_mono (F.run _ X.stack _ _ ⟨[Value.ref a, u], []⟩ [Value.ref a, u] _ (fun v H3 => v = .non ∧ Q (.ref a) H3) (fun _ _ _ => False) (hr.make C [u] []) (I2.env0.make C [u] []) (hb _ [Value.ref a, u] I2.kIn rfl) r2 ⟨a, C, fI, n, rfl, upd_same, hn, T, fun dd hd => ⟨rfl, ?_⟩⟩) fun rr s' hq' => ?_
  · have nd : dd ≠ a := fun z => by rw [z, upd_same] at hd; cases hd
    rw [upd_ne nd] at hd
    exact q1 a dd hnx hd nd
  · cases rr with
    | error e => exact hq'.elim
    | ok fl =>
      cases fl with
      | ret u =>
        obtain ⟨v, H', I3, rv, ev, q3⟩ := I2.after hq'
        subst ev
        exact ⟨rv, ⟨V.ref a, H', I3, rfl, q3⟩⟩
      | next => exact False.elim hq'
      | brk => exact False.elim hq'
      | cont => exact False.elim hq'
def fMkI (C : Addr) (fa : FA) : FE := fun ρ => (fa ρ).bind fun ds => match ds with
  | [.int n] => if n.natAbs.log2 < 1901 then some (.exa C n) else none
  | _ => none
theorem qx_mkI (ex : X.mg x = some (.ref C)) (T : ExcT X.K C fI) (F : FnOk X.prog X.w X.K X.mg X.base CX0 k fI fd ["self", "at"] (spInit X.K)) (hr : Room (k + 1) X.A) (hb : Binds X.K fd ["self", "at"] []) (ha : QA X (e :: es) fa) (hg : Gl X x := by rfl) (hdb : (x == ("__debug__" : Str)) = false := by decide)
    (he : starEach (e :: es) X.env = (false, eval e X.env) :: starEach es X.env := by rfl) (hpl : (backTo pos (starEach es X.env)).any (·.1) = false := by rfl) : QX X (.Call (.Name x p) (e :: es) [] pos) (fMkI C fa) := ⟨PE.weak (pe_mkI ex T F hr hb hg ha.to hdb he hpl) fun σ H Q ⟨ρ, d, rv, e, q⟩ => by
  unfold fMkI at e
  cases e1 : fa ρ with
  | none => rw [e1] at e; cases e
  | some ds =>
    rw [e1] at e
    simp only [Option.bind_some] at e
    split at e
    · rename_i n
      split at e
      · rename_i hl
        cases e
        refine ⟨ρ, _, rv, e1, fun vs H1 s1 l1 => ?_⟩
        obtain ⟨v, rfl, hv⟩ := denL1 l1
        refine ⟨n, by rw [den_int.mp hv], hl, fun a dd ha hd ne => q _ _ (s1.trans ?_) ?_⟩
        · intro b o hbo
          have nb : b ≠ a := fun z => by rw [z, ha] at hbo; cases hbo
          have nd : b ≠ dd := fun z => by rw [z, hd] at hbo; cases hbo
          rw [upd_ne nb, upd_ne nd, upd_ne nb]; exact hbo
        · show Den _ Emp _ _ _
          rw [Den]
          exact ⟨a, dd, rfl, upd_same, by rw [upd_ne ne, upd_same]⟩
      · cases e
    · cases e⟩
/-! e.at -/
def tAt (K : PySem.W.Frag) (ta : TE) : TE := fun σ H Q => ta σ H fun x H1 => ∃ a C fI d n, x = .ref a ∧ H1 a = some (.ext (ExcAtD a C d)) ∧ H1 d = some (.xd [("at", .int n)]) ∧ ExcT K C fI ∧ Q (.int n) H1
theorem pe_at {ta : TE} (he : PE X e ta) (hb : attributeBase e "at" X.env (eval e X.env) = eval e X.env) : PE X (.Attribute e "at" pos) (tAt X.K ta) := by
  intro pins s σ H Q I h
  refine attr_of hb (thn (he pins s σ H _ I h) fun u s1 ⟨x, H1, I1, rx, a, C, fI, d, n, ex, ea, ed, T, q⟩ => ?_)
  subst ex
  obtain rfl : u = Value.ref a := rx
  obtain ⟨⟨ob, vs, hx, hc, hd, hdn⟩, _⟩ := I1.hok a _ ea
  obtain ⟨mA, hn, hr⟩ := I1.hok d _ ed
  obtain ⟨nm, q', N, bs, TT, sn, sub, ab, col, dd, k0, k1, k2, k3, k5, oc, od, fd', sl, hC, _⟩ := T.i.ex
  have hv : ∃ tk, mA "at" = some (.int n tk) := by
    have z := hr "at"
    have z2 : RelO (some (V.int n)) (mA "at") := z
    obtain ⟨u, e1, tk, e2⟩ := RelO.some_of z2
    exact ⟨tk, by rw [e1, e2]⟩
  obtain ⟨tk, hv⟩ := hv
  obtain ⟨hh, g, d0, tt, os⟩ := s1
  have hn' : hh.Ns d mA := by
    obtain ⟨oD, es, ep, z1, z2, z3, _, z5⟩ := hn
    exact ⟨oD, es, ep, z1, z2, z3, z5⟩
  exact exc_at I1.kIn (I1.kIn _ _ hC) hd hx hc hdn hn' hv T.no T.be T.ga T.na fun t' => ⟨.int n, H1, I1.tok _, ⟨tk, rfl⟩, q⟩
def fAt (c : Addr) (f : FE) : FE := fun ρ => (f ρ).bind fun d => match d with
  | .exa C n => if C = c then some (.int n) else none
  | _ => none
theorem qx_at {c : Addr} (T : ExcT X.K c fI) (ha : QX X e f) (hb : attributeBase e "at" X.env (eval e X.env) = eval e X.env := by rfl) : QX X (.Attribute e "at" pos) (fAt c f) := ⟨PE.weak (pe_at ha.to hb) fun σ H Q ⟨ρ, d, rv, e, q⟩ => by
  unfold fAt at e
  cases e1 : f ρ with
  | none => rw [e1] at e; cases e
  | some y =>
    rw [e1] at e
    simp only [Option.bind_some] at e
    split at e
    · rename_i C n
      split at e
      · rename_i hC
        cases e
        refine ⟨ρ, _, rv, e1, fun v1 H1 s1 d1 => ?_⟩
        have z := d1.den
        rw [Den] at z
        obtain ⟨a, dd, rfl, h1, h2⟩ := z
        exact ⟨a, C, fI, dd, n, rfl, h1, h2, hC ▸ T, q _ H1 s1 denF_int⟩
      · cases e
    · cases e⟩
/-! isinstance -/
def fIsY (kc : Addr → Option Bool) (f : FE) : FE := fun ρ => (f ρ).bind fun d => match d with
  | .exn C => (kc C).map .bl
  | .exa C _ => (kc C).map .bl
  | _ => none
theorem px_isY {p2 : Pos} {kc : Addr → Option Bool} {v : V} {c : Value} (hT : ∀ C b, kc C = some b → ExcC X.K C) (hk : ∀ C b, kc C = some b → PySem.W.kitOne X.K (.ref C) c = some b) (hm : X.mg "isinstance" = none) (hx : PE X (.Name x p2) (tC v)) (rv : RelV v c) (hv : ∀ u, RelV v u → u = c) (ha : PX X e f)
    (hb : bootBuiltins "isinstance" = some (.builtin "isinstance") := by rfl) (hg : Gl X "isinstance" := by rfl)
    (he : starEach [e, .Name x p2] X.env = (false, eval e X.env) :: starEach [.Name x p2] X.env := by rfl) (hpl : (backTo pos (starEach [.Name x p2] X.env)).any (·.1) = false := by rfl) (hs : starEach [.Name x p2] X.env = (false, eval (.Name x p2) X.env) :: starEach [] X.env := by rfl) :
    PX X (.Call (.Name "isinstance" p) [e, .Name x p2] [] pos) (fIsY kc f) := by
  have hc : CallR X (.builtin "isinstance") (fun xs H Q => ∃ a φ C b, xs = [.ref a, v] ∧ H a = some (.ext φ) ∧ (∀ h, φ h → ExcAt a C h) ∧ kc C = some b ∧ Q (.bl b) H) := by
    intro pins s σ H xs us Q I r h
    obtain ⟨a, φ, C, b, rfl, ha, hφ, hb', q⟩ := h
    obtain ⟨u, w', rfl, ru, rw'⟩ := vals2 r
    obtain rfl := hv w' rw'
    cases (show u = Value.ref a from ru)
    have ob := I.hok a _ ha
    exact PySem.W.kia_one (kitx_exc (hT C b hb')) I.kIn (hφ _ ob.1) (hk C b hb') (fun z => nomatch z) fun tk => ⟨.bl b, H, I.tok _, rfl, q⟩
  refine PE.weak (pe_callB hc hg hm hb (pa_cons ha (pa_cons hx pa_nil hs) he) (by decide) (by decide) he hpl) fun σ H Q ⟨ρ, d, rv, e, q⟩ => ?_
  unfold fIsY at e
  cases e1 : f ρ with
  | none => rw [e1] at e; cases e
  | some y =>
    rw [e1] at e
    simp only [Option.bind_some] at e
    split at e
    · rename_i C
      cases e2 : kc C with
      | none => rw [e2] at e; cases e
      | some b =>
        rw [e2] at e; cases e
        refine ⟨ρ, _, rv, e1, fun v1 H1 s1 d1 => ?_⟩
        have z := d1.den
        rw [Den] at z
        obtain ⟨a, rfl, h1⟩ := z
        exact ⟨a, _, C, b, rfl, h1, fun h z => z, e2, q _ H1 s1 denF_bl⟩
    · rename_i C n
      cases e2 : kc C with
      | none => rw [e2] at e; cases e
      | some b =>
        rw [e2] at e; cases e
        refine ⟨ρ, _, rv, e1, fun v1 H1 s1 d1 => ?_⟩
        have z := d1.den
        rw [Den] at z
        obtain ⟨a, dd, rfl, h1, h2⟩ := z
        exact ⟨a, _, C, b, rfl, h1, fun h ⟨o, vs, z1, z2, z3, _⟩ => ⟨o, vs, z1, z2, z3⟩, e2, q _ H1 s1 denF_bl⟩
    · cases e
theorem qx_isYC {p2 : Pos} {kc : Addr → Option Bool} {c : Addr} (hm : X.mg "isinstance" = none) (hx : X.mg x = some (.ref c)) (hk : ∀ C b, kc C = some b → PySem.W.kitOne X.K (.ref C) (.ref c) = some b) (hT : ∀ C b, kc C = some b → ExcC X.K C) (ha : QX X e f)
    (hb : bootBuiltins "isinstance" = some (.builtin "isinstance") := by rfl) (hg : Gl X "isinstance" := by rfl) (hgx : Gl X x := by rfl) (hd : (x == ("__debug__" : Str)) = false := by decide)
    (he : starEach [e, .Name x p2] X.env = (false, eval e X.env) :: starEach [.Name x p2] X.env := by rfl) (hpl : (backTo pos (starEach [.Name x p2] X.env)).any (·.1) = false := by rfl) (hs : starEach [.Name x p2] X.env = (false, eval (.Name x p2) X.env) :: starEach [] X.env := by rfl) :
    QX X (.Call (.Name "isinstance" p) [e, .Name x p2] [] pos) (fIsY kc f) :=
  ⟨px_isY (v := .ref c) hT hk hm (pe_glob hgx hx rfl hd) rfl (fun u r => r) ha.to hb hg he hpl hs⟩
theorem qx_isYT {p2 : Pos} {kc : Addr → Option Bool} {T : String} (hm : X.mg "isinstance" = none) (hx : X.mg x = none) (hk : ∀ C b, kc C = some b → PySem.W.kitOne X.K (.ref C) (.type T) = some b) (hT : ∀ C b, kc C = some b → ExcC X.K C) (ha : QX X e f)
    (hbx : bootBuiltins x = some (.type T) := by rfl) (hb : bootBuiltins "isinstance" = some (.builtin "isinstance") := by rfl) (hg : Gl X "isinstance" := by rfl) (hgx : Gl X x := by rfl) (hn : x ≠ "__name__" := by decide) (hd : (x == ("__debug__" : Str)) = false := by decide)
    (he : starEach [e, .Name x p2] X.env = (false, eval e X.env) :: starEach [.Name x p2] X.env := by rfl) (hpl : (backTo pos (starEach [.Name x p2] X.env)).any (·.1) = false := by rfl) (hs : starEach [.Name x p2] X.env = (false, eval (.Name x p2) X.env) :: starEach [] X.env := by rfl) :
    QX X (.Call (.Name "isinstance" p) [e, .Name x p2] [] pos) (fIsY kc f) :=
  ⟨px_isY (v := .ty T) hT hk hm (pe_bltn hgx hx hbx rfl hn hd) rfl (fun u r => r) ha.to hb hg he hpl hs⟩
end
end Tw

set_option Elab.async false
set_option linter.all false
set_option maxRecDepth 100000
set_option maxHeartbeats 1000000
namespace Tw
open PySem PySem.Spec PyProof.Rows L2
/-! ### "x" * 90; many classes at once -/
def rep90 (x : Str) : Str := ⟨List.foldl (fun x1 x2 => x1 ++ x2) #[] (List.replicate 90 x.cps)⟩
theorem fold_len {α : Type} {c : Array α} (h : c.size = 1) : ∀ (n : Nat) (acc : Array α), (List.foldl (fun x1 x2 => x1 ++ x2) acc (List.replicate n c)).size = acc.size + n
  | 0, acc => rfl
  | n + 1, acc => by
    rw [List.replicate_succ, List.foldl_cons, fold_len h n, Array.size_append, h]
    omega
theorem rep90_len {x : Str} (h : x.length = 1) : (rep90 x).length ≤ sizeLine := by
  have z : (rep90 x).length = (#[] : Array UInt32).size + 90 := fold_len h 90 #[]
  rw [z, sizeLine_eq]
  decide
def rMS : R2 := fun v u H Q => ∃ x, v = .str x ∧ u = .int 90 ∧ x.length = 1 ∧ Q (.str (rep90 x)) H
def oMS (x y : D) : Option D := match x with
  | .str s => match y with
    | .int n => if n = 90 ∧ s.length = 1 then some (.str (rep90 s)) else none
    | _ => none
  | _ => none
section
variable {X : Cx} {a b : Expr} {f g : FE} {pos : Pos}
theorem op_mulS : OpR X (binaryOp .Mult) rMS := by
  intro pins s σ H v u vv uu Q I rv ru h
  obtain ⟨x, rfl, rfl, h3, q⟩ := h
  obtain ⟨t, rfl⟩ := (show ∃ t, vv = Value.str x t from rv)
  obtain ⟨t', rfl⟩ := (show ∃ t, uu = Value.int 90 t from ru)
  refine P.mul_str (by decide) (fun _ _ => by rw [h3]; decide) (fun _ _ => by rw [h3]; decide) ?_
  rw [if_neg (by decide), if_neg (by rw [h3]; decide)]
  exact ⟨rep90_len h3, .str _, H, I.tok _, ⟨_, rfl⟩, q⟩
theorem qx_mulS (ha : QX X a f) (hb : QX X b g) : QX X (.BinOp a .Mult b pos) (fBin oMS f g) := ⟨px_bin op_mulS (by
  intro x y d v u H Q e hx hy q
  unfold oMS at e
  split at e
  · split at e
    · split at e
      · rename_i hc
        cases e
        rw [hc.1] at hy
        exact ⟨_, (by rw [Den] at hx; exact hx), den_int.mp hy, hc.2, q _ H (Same.refl H) (by show Den _ Emp _ _ _; rw [Den])⟩
      · cases e
    · cases e
  · cases e) ha.to hb.to⟩
end
structure Cl13 (K : PySem.W.Frag) (T : Addr) (us : List Addr) : Prop where
  nd : us.Nodup
  tab : ∀ a ∈ us, ∀ b ∈ us, PySem.W.kitOne K (.ref a) (.ref b) = some (a == b)
  tw : ∀ a ∈ us, PySem.W.kitOne K (.ref a) (.ref T) = some true
  ve : ∀ a ∈ us, PySem.W.kitOne K (.ref a) (.type "ValueError") = some true
  ec : ∀ a ∈ us, ExcC K a
  kp : ∀ a ∈ us, PySem.W.keepIn K (.ref a) = true
def RowIs (K : PySem.W.Frag) (a : Addr) : List Addr → List Bool → Prop
  | [], [] => True
  | b :: bs, t :: ts => PySem.W.kitOne K (.ref a) (.ref b) = some t ∧ RowIs K a bs ts
  | _, _ => False
theorem row_get {K : PySem.W.Frag} {a : Addr} : ∀ {bs : List Addr} {ts : List Bool} {j : Nat} {b : Addr} {t : Bool}, RowIs K a bs ts → bs[j]? = some b → ts[j]? = some t → PySem.W.kitOne K (.ref a) (.ref b) = some t
  | [], [], _, _, _, _, e, _ => by simp at e
  | b :: bs, t :: ts, 0, _, _, h, e1, e2 => by simp at e1 e2; rw [← e1, ← e2]; exact h.1
  | b :: bs, t :: ts, j + 1, _, _, h, e1, e2 => row_get (j := j) h.2 (by simpa using e1) (by simpa using e2)
  | [], _ :: _, _, _, _, h, _, _ => h.elim
  | _ :: _, [], _, _, _, h, _, _ => h.elim
def AllIs (Q : Addr → Prop) : List Addr → Prop
  | [] => True
  | a :: r => Q a ∧ AllIs Q r
theorem all_is {Q : Addr → Prop} : ∀ {us : List Addr}, AllIs Q us → ∀ a ∈ us, Q a
  | [], _, _, h => by cases h
  | u :: us, h, a, m => by
    rcases List.mem_cons.mp m with rfl | m
    · exact h.1
    · exact all_is h.2 a m
def Cl1 (K : PySem.W.Frag) (T a : Addr) : Prop := PySem.W.kitOne K (.ref a) (.ref T) = some true ∧ PySem.W.kitOne K (.ref a) (.type "ValueError") = some true ∧ PySem.W.mroIn K a (.type "object") = some true ∧ PySem.W.mroIn K a (.type "BaseException") = some true ∧ PySem.W.findIn K (.ref a) "__class__" = some (some (.builtin "object.__class__")) ∧ PySem.W.findIn K (.ref a) "__getattribute__" = some (some (.builtin "BaseException.__getattribute__")) ∧ PySem.W.findIn K (.ref a) "__getattr__" = some none ∧ PySem.W.keepIn K (.ref a) = true
theorem cls_of {K : PySem.W.Frag} {T : Addr} {us : List Addr} (rows : ∀ (i : Nat) (h : i < us.length), RowIs K us[i] us ((List.range us.length).map fun j => decide (j = i))) (al : AllIs (Cl1 K T) us) : Cl13 K T us := by
  have kt : ∀ (i j : Nat) (hi : i < us.length) (hj : j < us.length), PySem.W.kitOne K (.ref us[i]) (.ref us[j]) = some (decide (j = i)) := fun i j hi hj =>
    row_get (rows i hi) (List.getElem?_eq_getElem hj) (by rw [List.getElem?_map, List.getElem?_range hj]; rfl)
  have inj : ∀ (i j : Nat) (hi : i < us.length) (hj : j < us.length), us[i] = us[j] → j = i := fun i j hi hj e => by
    have z1 := kt i j hi hj
    have z2 := kt i i hi hi
    rw [← e, z2] at z1
    simpa using z1
  have z := all_is al
  refine ⟨List.pairwise_iff_getElem.mpr fun i j hi hj l e => by have := inj i j hi hj e; omega, fun a ha b hb => ?_, fun a ha => (z a ha).1, fun a ha => (z a ha).2.1, fun a ha => ⟨(z a ha).2.2.1, (z a ha).2.2.2.1, (z a ha).2.2.2.2.1, (z a ha).2.2.2.2.2.1, (z a ha).2.2.2.2.2.2.1⟩, fun a ha => (z a ha).2.2.2.2.2.2.2⟩
  obtain ⟨i, hi, rfl⟩ := List.mem_iff_getElem.mp ha
  obtain ⟨j, hj, rfl⟩ := List.mem_iff_getElem.mp hb
  rw [kt i j hi hj]
  by_cases q : j = i
  · subst q; simp
  · have : us[i] ≠ us[j] := fun e => q (inj i j hi hj e)
    rw [decide_eq_false q, beq_eq_false_iff_ne.mpr this]
/-- which of them -/
def kc1 (us : List Addr) (b : Addr) : Addr → Option Bool := fun C => if C ∈ us then some (C == b) else none
def kcA (us : List Addr) : Addr → Option Bool := fun C => if C ∈ us then some true else none
theorem kc1_ok {K : PySem.W.Frag} {T : Addr} {us : List Addr} (c : Cl13 K T us) {b : Addr} (hb : b ∈ us) : ∀ C k, kc1 us b C = some k → PySem.W.kitOne K (.ref C) (.ref b) = some k := fun C k e => by
  unfold kc1 at e
  split at e
  · rename_i h; cases e; exact c.tab C h b hb
  · cases e
theorem kc1_ex {K : PySem.W.Frag} {T : Addr} {us : List Addr} (c : Cl13 K T us) {b : Addr} : ∀ C k, kc1 us b C = some k → ExcC K C := fun C k e => by
  unfold kc1 at e
  split at e
  · rename_i h; exact c.ec C h
  · cases e
theorem kcA_T {K : PySem.W.Frag} {T : Addr} {us : List Addr} (c : Cl13 K T us) : ∀ C k, kcA us C = some k → PySem.W.kitOne K (.ref C) (.ref T) = some k := fun C k e => by
  unfold kcA at e
  split at e
  · rename_i h; cases e; exact c.tw C h
  · cases e
theorem kcA_V {K : PySem.W.Frag} {T : Addr} {us : List Addr} (c : Cl13 K T us) : ∀ C k, kcA us C = some k → PySem.W.kitOne K (.ref C) (.type "ValueError") = some k := fun C k e => by
  unfold kcA at e
  split at e
  · rename_i h; cases e; exact c.ve C h
  · cases e
theorem kcA_ex {K : PySem.W.Frag} {T : Addr} {us : List Addr} (c : Cl13 K T us) : ∀ C k, kcA us C = some k → ExcC K C := fun C k e => by
  unfold kcA at e
  split at e
  · rename_i h; exact c.ec C h
  · cases e
end Tw

set_option Elab.async false
set_option linter.all false
set_option maxRecDepth 100000
set_option maxHeartbeats 1500000
local macro_rules | `(tactic| walk_at "tw a") => `(tactic| first | exact Tw.qxa_nil | (refine' Tw.qxa_cons ?h0 ?h1; (case h0 => walk_at "tw e"); (case h1 => walk_at "tw a")))
local macro_rules | `(tactic| walk_at "tw n") => `(tactic| first | exact Tw.qx_name 0 | exact Tw.qx_name 1 | exact Tw.qx_name 2 | exact Tw.qx_name 3 | exact Tw.qx_name 4 | exact Tw.qx_name 5 | exact Tw.qx_name 6 | exact Tw.qx_name 7 | exact Tw.qx_name 8 | exact Tw.qx_name 9 | exact Tw.qx_name 10 | exact Tw.qx_name 11 | exact Tw.qx_name 12 | exact Tw.qx_name 13 | exact Tw.qx_name 14 | exact Tw.qx_name 15 | exact Tw.qx_name 16 | exact Tw.qx_name 17 | exact Tw.qx_name 18 | exact Tw.qx_name 19)
local macro_rules | `(tactic| walk_at "tw e") => `(tactic| first
  | exact Tw.qx_int | exact Tw.qx_bl | exact Tw.qx_non | exact Tw.qx_str | exact Tw.qx_dic | walk_at "tw n"
  | (refine' Tw.qx_addT ?h0 ?h1; (case h0 => walk_at "tw e"); (case h1 => walk_at "tw e")) | (refine' Tw.qx_sub ?h0 ?h1; (case h0 => walk_at "tw e"); (case h1 => walk_at "tw e")) | (refine' Tw.qx_mul ?h0 ?h1; (case h0 => walk_at "tw e"); (case h1 => walk_at "tw e")) | (refine' Tw.qx_div ?h0 ?h1; (case h0 => walk_at "tw e"); (case h1 => walk_at "tw e")) | (refine' Tw.qx_mod ?h0 ?h1; (case h0 => walk_at "tw e"); (case h1 => walk_at "tw e")) | (refine' Tw.qx_pow ?h0 ?h1; (case h0 => walk_at "tw e"); (case h1 => walk_at "tw e"))
  | (refine' Tw.qx_neg ?h0; (case h0 => walk_at "tw e")) | (refine' Tw.qx_not ?h0; (case h0 => walk_at "tw e"))
  | (refine' Tw.qx_ltT (by assumption) ?h0 ?h1; (case h0 => walk_at "tw e"); (case h1 => walk_at "tw e")) | (refine' Tw.qx_le ?h0 ?h1; (case h0 => walk_at "tw e"); (case h1 => walk_at "tw e")) | (refine' Tw.qx_gt ?h0 ?h1; (case h0 => walk_at "tw e"); (case h1 => walk_at "tw e")) | (refine' Tw.qx_ge ?h0 ?h1; (case h0 => walk_at "tw e"); (case h1 => walk_at "tw e"))
  | (refine' Tw.qx_eq (by assumption) ?h0 ?h1; (case h0 => walk_at "tw e"); (case h1 => walk_at "tw e")) | (refine' Tw.qx_ne (by assumption) ?h0 ?h1; (case h0 => walk_at "tw e"); (case h1 => walk_at "tw e")) | (refine' Tw.qx_is ?h0 ?h1; (case h0 => walk_at "tw e"); (case h1 => walk_at "tw e")) | (refine' Tw.qx_isnot ?h0 ?h1; (case h0 => walk_at "tw e"); (case h1 => walk_at "tw e"))
  | (refine' Tw.qx_and ?h0 ?h1; (case h0 => walk_at "tw e"); (case h1 => walk_at "tw e")) | (refine' Tw.qx_or ?h0 ?h1; (case h0 => walk_at "tw e"); (case h1 => walk_at "tw e")) | (refine' Tw.qx_one ?h0; (case h0 => walk_at "tw e"))
  | (refine' Tw.qx_tup ?h0; (case h0 => walk_at "tw a")) | (refine' Tw.qx_lst ?h0; (case h0 => walk_at "tw a"))
  | (refine' Tw.qx_rev ?h0; (case h0 => walk_at "tw e")) | (refine' Tw.qx_sliceT ?h0 ?h1 ?h2; (case h0 => walk_at "tw e"); (case h1 => walk_at "tw o"); (case h2 => walk_at "tw o")) | (refine' Tw.qx_ixD (by assumption) ?h0 ?h1; (case h0 => walk_at "tw e"); (case h1 => walk_at "tw e"))
  | (refine' Tw.qx_leLt ?h0 ?h1 ?h2; (case h0 => walk_at "tw e"); (case h1 => walk_at "tw e"); (case h2 => walk_at "tw e")) | (refine' Tw.qx_leLe ?h0 ?h1 ?h2; (case h0 => walk_at "tw e"); (case h1 => walk_at "tw e"); (case h2 => walk_at "tw e")) | exact Tw.qx_globI (by assumption) | walk_at "tw lc"
  | (refine' Tw.qx_min rfl (by assumption) ?h0; (case h0 => walk_at "tw a")) | (refine' Tw.qx_all rfl (by assumption) ?h0; (case h0 => walk_at "tw a")) | (refine' Tw.qx_any rfl (by assumption) ?h0; (case h0 => walk_at "tw a")) | (refine' Tw.qx_tupleOf (by assumption) ?h0; (case h0 => walk_at "tw a")) | (refine' Tw.qx_listOf (by assumption) ?h0; (case h0 => walk_at "tw a")) | (refine' Tw.qx_sorted rfl (by assumption) ?h0; (case h0 => walk_at "tw a"))
  | (refine' Tw.qx_lenS (by assumption) ?h0; (case h0 => walk_at "tw a")) | (refine' Tw.qx_len (by assumption) ?h0; (case h0 => walk_at "tw a")) | (refine' Tw.qx_abs (by assumption) ?h0; (case h0 => walk_at "tw a")) | (refine' Tw.qx_max rfl (by assumption) ?h0; (case h0 => walk_at "tw a")) | (refine' Tw.qx_strI (by assumption) ?h0; (case h0 => walk_at "tw a"))
  | (refine' Tw.qx_isi (T := "tuple") (Tw.kit_mk (by decide)) (by assumption) (by assumption) ?h0; (case h0 => walk_at "tw e")) | (refine' Tw.qx_isi (T := "int") (Tw.kit_mk (by decide)) (by assumption) (by assumption) ?h0; (case h0 => walk_at "tw e")) | (refine' Tw.qx_isi (T := "bool") (Tw.kit_mk (by decide)) (by assumption) (by assumption) ?h0; (case h0 => walk_at "tw e")) | (refine' Tw.qx_isi (T := "str") (Tw.kit_mk (by decide)) (by assumption) (by assumption) ?h0; (case h0 => walk_at "tw e")) | (refine' Tw.qx_isi (T := "list") (Tw.kit_mk (by decide)) (by assumption) (by assumption) ?h0; (case h0 => walk_at "tw e")) | (refine' Tw.qx_isC (by assumption) (by assumption) (by assumption) (by assumption) ?h0; (case h0 => walk_at "tw e")) | (refine' Tw.qx_isT (by assumption) (by assumption) (by assumption) (by assumption) ?h0; (case h0 => walk_at "tw e")) | (refine' Tw.qx_bits ?h0; (case h0 => walk_at "tw e"))
  | (refine' Tw.qx_call (by assumption) (by assumption) ?h0; (case h0 => walk_at "tw a")) | (refine' Tw.qx_if ?h0 ?h1 ?h2; (case h0 => walk_at "tw t"); (case h1 => walk_at "tw e"); (case h2 => walk_at "tw e")))
local macro_rules | `(tactic| walk_at "tw o") => `(tactic| first | exact Tw.qxo_none | (refine' Tw.qxo_some ?h0; (case h0 => walk_at "tw e")))
local macro_rules | `(tactic| walk_at "tw w") => `(tactic| first | (refine' Tw.qxw_and ?h0 ?h1; (case h0 => walk_at "tw t"); (case h1 => walk_at "tw w")) | (refine' Tw.qxw_or ?h0 ?h1; (case h0 => walk_at "tw t"); (case h1 => walk_at "tw w")) | (refine' Tw.qxw_and1 ?h0; (case h0 => walk_at "tw t")) | (refine' Tw.qxw_or1 ?h0; (case h0 => walk_at "tw t")))
local macro_rules | `(tactic| walk_at "tw t") => `(tactic| first
  | (refine' Tw.qxt_ltT (by assumption) ?h0 ?h1; (case h0 => walk_at "tw e"); (case h1 => walk_at "tw e")) | (refine' Tw.qxt_le ?h0 ?h1; (case h0 => walk_at "tw e"); (case h1 => walk_at "tw e")) | (refine' Tw.qxt_gt ?h0 ?h1; (case h0 => walk_at "tw e"); (case h1 => walk_at "tw e")) | (refine' Tw.qxt_ge ?h0 ?h1; (case h0 => walk_at "tw e"); (case h1 => walk_at "tw e"))
  | (refine' Tw.qxt_eq (by assumption) ?h0 ?h1; (case h0 => walk_at "tw e"); (case h1 => walk_at "tw e")) | (refine' Tw.qxt_ne (by assumption) ?h0 ?h1; (case h0 => walk_at "tw e"); (case h1 => walk_at "tw e")) | (refine' Tw.qxt_is ?h0 ?h1; (case h0 => walk_at "tw e"); (case h1 => walk_at "tw e")) | (refine' Tw.qxt_isnot ?h0 ?h1; (case h0 => walk_at "tw e"); (case h1 => walk_at "tw e"))
  | (refine' Tw.qxt_not ?h0; (case h0 => walk_at "tw t")) | (refine' Tw.qxt_of ?h0; (case h0 => walk_at "tw w")) | (refine' Tw.qxt_tru ?h0; (case h0 => walk_at "tw e")))
local macro_rules | `(tactic| walk_at "tw ss") => `(tactic| first | exact Tw.qx_nil | (refine' Tw.qx_last ?h0; (case h0 => walk_at "tw s")) | (refine' Tw.qx_cons ?h0 ?h1; (case h0 => walk_at "tw s"); (case h1 => walk_at "tw ss")))
local macro_rules | `(tactic| walk_at "tw tg") => `(tactic| first | exact Tw.Tg.nil | (refine' Tw.tg_cons (i := 0) ?h0; (case h0 => walk_at "tw tg")) | (refine' Tw.tg_cons (i := 1) ?h0; (case h0 => walk_at "tw tg")) | (refine' Tw.tg_cons (i := 2) ?h0; (case h0 => walk_at "tw tg")) | (refine' Tw.tg_cons (i := 3) ?h0; (case h0 => walk_at "tw tg")) | (refine' Tw.tg_cons (i := 4) ?h0; (case h0 => walk_at "tw tg")) | (refine' Tw.tg_cons (i := 5) ?h0; (case h0 => walk_at "tw tg")) | (refine' Tw.tg_cons (i := 6) ?h0; (case h0 => walk_at "tw tg")) | (refine' Tw.tg_cons (i := 7) ?h0; (case h0 => walk_at "tw tg")) | (refine' Tw.tg_cons (i := 8) ?h0; (case h0 => walk_at "tw tg")) | (refine' Tw.tg_cons (i := 9) ?h0; (case h0 => walk_at "tw tg")) | (refine' Tw.tg_cons (i := 10) ?h0; (case h0 => walk_at "tw tg")) | (refine' Tw.tg_cons (i := 11) ?h0; (case h0 => walk_at "tw tg")) | (refine' Tw.tg_cons (i := 12) ?h0; (case h0 => walk_at "tw tg")) | (refine' Tw.tg_cons (i := 13) ?h0; (case h0 => walk_at "tw tg")) | (refine' Tw.tg_cons (i := 14) ?h0; (case h0 => walk_at "tw tg")) | (refine' Tw.tg_cons (i := 15) ?h0; (case h0 => walk_at "tw tg")) | (refine' Tw.tg_cons (i := 16) ?h0; (case h0 => walk_at "tw tg")) | (refine' Tw.tg_cons (i := 17) ?h0; (case h0 => walk_at "tw tg")) | (refine' Tw.tg_cons (i := 18) ?h0; (case h0 => walk_at "tw tg")) | (refine' Tw.tg_cons (i := 19) ?h0; (case h0 => walk_at "tw tg")))
local macro_rules | `(tactic| walk_at "tw s") => `(tactic| first
  | exact Tw.qxs_pass | exact Tw.qxs_break | exact Tw.qxs_cont | exact Tw.qxs_retNone
  | exact Tw.qxs_retN 0 | exact Tw.qxs_retN 1 | exact Tw.qxs_retN 2 | exact Tw.qxs_retN 3 | exact Tw.qxs_retN 4 | exact Tw.qxs_retN 5 | exact Tw.qxs_retN 6 | exact Tw.qxs_retN 7 | exact Tw.qxs_retN 8 | exact Tw.qxs_retN 9 | exact Tw.qxs_retN 10 | exact Tw.qxs_retN 11 | exact Tw.qxs_retN 12 | exact Tw.qxs_retN 13 | exact Tw.qxs_retN 14 | exact Tw.qxs_retN 15 | exact Tw.qxs_retN 16 | exact Tw.qxs_retN 17 | exact Tw.qxs_retN 18 | exact Tw.qxs_retN 19
  | (refine' Tw.qxs_ret ?h0; (case h0 => walk_at "tw e"))
  | exact Tw.qxs_set 0 (by assumption) Tw.qx_odt | exact Tw.qxs_set 1 (by assumption) Tw.qx_odt | exact Tw.qxs_set 2 (by assumption) Tw.qx_odt | exact Tw.qxs_set 3 (by assumption) Tw.qx_odt | exact Tw.qxs_set 4 (by assumption) Tw.qx_odt | exact Tw.qxs_set 5 (by assumption) Tw.qx_odt | exact Tw.qxs_set 6 (by assumption) Tw.qx_odt | exact Tw.qxs_set 7 (by assumption) Tw.qx_odt | exact Tw.qxs_set 8 (by assumption) Tw.qx_odt | exact Tw.qxs_set 9 (by assumption) Tw.qx_odt | exact Tw.qxs_set 10 (by assumption) Tw.qx_odt | exact Tw.qxs_set 11 (by assumption) Tw.qx_odt | exact Tw.qxs_set 12 (by assumption) Tw.qx_odt | exact Tw.qxs_set 13 (by assumption) Tw.qx_odt | exact Tw.qxs_set 14 (by assumption) Tw.qx_odt | exact Tw.qxs_set 15 (by assumption) Tw.qx_odt | exact Tw.qxs_set 16 (by assumption) Tw.qx_odt | exact Tw.qxs_set 17 (by assumption) Tw.qx_odt | exact Tw.qxs_set 18 (by assumption) Tw.qx_odt | exact Tw.qxs_set 19 (by assumption) Tw.qx_odt
  | (refine' Tw.qxs_dput 0 (by assumption) ?h0 ?h1; (case h0 => walk_at "tw a"); (case h1 => walk_at "tw e")) | (refine' Tw.qxs_dput 1 (by assumption) ?h0 ?h1; (case h0 => walk_at "tw a"); (case h1 => walk_at "tw e")) | (refine' Tw.qxs_dput 2 (by assumption) ?h0 ?h1; (case h0 => walk_at "tw a"); (case h1 => walk_at "tw e")) | (refine' Tw.qxs_dput 3 (by assumption) ?h0 ?h1; (case h0 => walk_at "tw a"); (case h1 => walk_at "tw e")) | (refine' Tw.qxs_dput 4 (by assumption) ?h0 ?h1; (case h0 => walk_at "tw a"); (case h1 => walk_at "tw e")) | (refine' Tw.qxs_dput 5 (by assumption) ?h0 ?h1; (case h0 => walk_at "tw a"); (case h1 => walk_at "tw e")) | (refine' Tw.qxs_dput 6 (by assumption) ?h0 ?h1; (case h0 => walk_at "tw a"); (case h1 => walk_at "tw e")) | (refine' Tw.qxs_dput 7 (by assumption) ?h0 ?h1; (case h0 => walk_at "tw a"); (case h1 => walk_at "tw e")) | (refine' Tw.qxs_dput 8 (by assumption) ?h0 ?h1; (case h0 => walk_at "tw a"); (case h1 => walk_at "tw e")) | (refine' Tw.qxs_dput 9 (by assumption) ?h0 ?h1; (case h0 => walk_at "tw a"); (case h1 => walk_at "tw e")) | (refine' Tw.qxs_dput 10 (by assumption) ?h0 ?h1; (case h0 => walk_at "tw a"); (case h1 => walk_at "tw e")) | (refine' Tw.qxs_dput 11 (by assumption) ?h0 ?h1; (case h0 => walk_at "tw a"); (case h1 => walk_at "tw e")) | (refine' Tw.qxs_dput 12 (by assumption) ?h0 ?h1; (case h0 => walk_at "tw a"); (case h1 => walk_at "tw e")) | (refine' Tw.qxs_dput 13 (by assumption) ?h0 ?h1; (case h0 => walk_at "tw a"); (case h1 => walk_at "tw e")) | (refine' Tw.qxs_dput 14 (by assumption) ?h0 ?h1; (case h0 => walk_at "tw a"); (case h1 => walk_at "tw e")) | (refine' Tw.qxs_dput 15 (by assumption) ?h0 ?h1; (case h0 => walk_at "tw a"); (case h1 => walk_at "tw e")) | (refine' Tw.qxs_dput 16 (by assumption) ?h0 ?h1; (case h0 => walk_at "tw a"); (case h1 => walk_at "tw e")) | (refine' Tw.qxs_dput 17 (by assumption) ?h0 ?h1; (case h0 => walk_at "tw a"); (case h1 => walk_at "tw e")) | (refine' Tw.qxs_dput 18 (by assumption) ?h0 ?h1; (case h0 => walk_at "tw a"); (case h1 => walk_at "tw e")) | (refine' Tw.qxs_dput 19 (by assumption) ?h0 ?h1; (case h0 => walk_at "tw a"); (case h1 => walk_at "tw e"))
  | (refine' Tw.qxs_set 0 (by assumption) ?h0; (case h0 => walk_at "tw e")) | (refine' Tw.qxs_set 1 (by assumption) ?h0; (case h0 => walk_at "tw e")) | (refine' Tw.qxs_set 2 (by assumption) ?h0; (case h0 => walk_at "tw e")) | (refine' Tw.qxs_set 3 (by assumption) ?h0; (case h0 => walk_at "tw e")) | (refine' Tw.qxs_set 4 (by assumption) ?h0; (case h0 => walk_at "tw e")) | (refine' Tw.qxs_set 5 (by assumption) ?h0; (case h0 => walk_at "tw e")) | (refine' Tw.qxs_set 6 (by assumption) ?h0; (case h0 => walk_at "tw e")) | (refine' Tw.qxs_set 7 (by assumption) ?h0; (case h0 => walk_at "tw e")) | (refine' Tw.qxs_set 8 (by assumption) ?h0; (case h0 => walk_at "tw e")) | (refine' Tw.qxs_set 9 (by assumption) ?h0; (case h0 => walk_at "tw e")) | (refine' Tw.qxs_set 10 (by assumption) ?h0; (case h0 => walk_at "tw e")) | (refine' Tw.qxs_set 11 (by assumption) ?h0; (case h0 => walk_at "tw e")) | (refine' Tw.qxs_set 12 (by assumption) ?h0; (case h0 => walk_at "tw e")) | (refine' Tw.qxs_set 13 (by assumption) ?h0; (case h0 => walk_at "tw e")) | (refine' Tw.qxs_set 14 (by assumption) ?h0; (case h0 => walk_at "tw e")) | (refine' Tw.qxs_set 15 (by assumption) ?h0; (case h0 => walk_at "tw e")) | (refine' Tw.qxs_set 16 (by assumption) ?h0; (case h0 => walk_at "tw e")) | (refine' Tw.qxs_set 17 (by assumption) ?h0; (case h0 => walk_at "tw e")) | (refine' Tw.qxs_set 18 (by assumption) ?h0; (case h0 => walk_at "tw e")) | (refine' Tw.qxs_set 19 (by assumption) ?h0; (case h0 => walk_at "tw e"))
  | (refine' Tw.qxs_if ?h0 ?h1 ?h2; (case h0 => walk_at "tw t"); (case h1 => walk_at "tw ss"); (case h2 => walk_at "tw ss"))
  | (refine' Tw.qxs_par 0 1 rfl (by assumption) ?h0 rfl; (case h0 => walk_at "tw a")) | (refine' Tw.qxs_par 1 0 rfl (by assumption) ?h0 rfl; (case h0 => walk_at "tw a"))
  | (refine' Tw.qxs_unF rfl (by assumption) (by walk_at "tw tg") ?h0; (case h0 => walk_at "tw e"))
  | (refine' Tw.qxs_app 0 ?h0; (case h0 => walk_at "tw e")) | (refine' Tw.qxs_app 1 ?h0; (case h0 => walk_at "tw e")) | (refine' Tw.qxs_app 2 ?h0; (case h0 => walk_at "tw e")) | (refine' Tw.qxs_app 3 ?h0; (case h0 => walk_at "tw e")) | (refine' Tw.qxs_app 4 ?h0; (case h0 => walk_at "tw e")) | (refine' Tw.qxs_app 5 ?h0; (case h0 => walk_at "tw e")) | (refine' Tw.qxs_app 6 ?h0; (case h0 => walk_at "tw e")) | (refine' Tw.qxs_app 7 ?h0; (case h0 => walk_at "tw e")) | (refine' Tw.qxs_app 8 ?h0; (case h0 => walk_at "tw e")) | (refine' Tw.qxs_app 9 ?h0; (case h0 => walk_at "tw e")) | (refine' Tw.qxs_app 10 ?h0; (case h0 => walk_at "tw e")) | (refine' Tw.qxs_app 11 ?h0; (case h0 => walk_at "tw e")) | (refine' Tw.qxs_app 12 ?h0; (case h0 => walk_at "tw e")) | (refine' Tw.qxs_app 13 ?h0; (case h0 => walk_at "tw e")) | (refine' Tw.qxs_app 14 ?h0; (case h0 => walk_at "tw e")) | (refine' Tw.qxs_app 15 ?h0; (case h0 => walk_at "tw e")) | (refine' Tw.qxs_app 16 ?h0; (case h0 => walk_at "tw e")) | (refine' Tw.qxs_app 17 ?h0; (case h0 => walk_at "tw e")) | (refine' Tw.qxs_app 18 ?h0; (case h0 => walk_at "tw e")) | (refine' Tw.qxs_app 19 ?h0; (case h0 => walk_at "tw e"))
  | (refine' Tw.qxs_while PySem.PassesOwn.never ?h0 ?h1; (case h0 => walk_at "tw t"); (case h1 => walk_at "tw ss"))
  | (refine' Tw.qxs_forRi 0 (by assumption) PySem.PassesOwn.never rfl (by assumption) ?h0 ?h1; (case h0 => walk_at "tw a"); (case h1 => walk_at "tw ss"))
  | (refine' Tw.qxs_forRi 1 (by assumption) PySem.PassesOwn.never rfl (by assumption) ?h0 ?h1; (case h0 => walk_at "tw a"); (case h1 => walk_at "tw ss"))
  | (refine' Tw.qxs_forRi 2 (by assumption) PySem.PassesOwn.never rfl (by assumption) ?h0 ?h1; (case h0 => walk_at "tw a"); (case h1 => walk_at "tw ss"))
  | (refine' Tw.qxs_forRi 3 (by assumption) PySem.PassesOwn.never rfl (by assumption) ?h0 ?h1; (case h0 => walk_at "tw a"); (case h1 => walk_at "tw ss"))
  | (refine' Tw.qxs_forRi 4 (by assumption) PySem.PassesOwn.never rfl (by assumption) ?h0 ?h1; (case h0 => walk_at "tw a"); (case h1 => walk_at "tw ss"))
  | (refine' Tw.qxs_forRi 5 (by assumption) PySem.PassesOwn.never rfl (by assumption) ?h0 ?h1; (case h0 => walk_at "tw a"); (case h1 => walk_at "tw ss"))
  | (refine' Tw.qxs_forRi 6 (by assumption) PySem.PassesOwn.never rfl (by assumption) ?h0 ?h1; (case h0 => walk_at "tw a"); (case h1 => walk_at "tw ss"))
  | (refine' Tw.qxs_forRi 7 (by assumption) PySem.PassesOwn.never rfl (by assumption) ?h0 ?h1; (case h0 => walk_at "tw a"); (case h1 => walk_at "tw ss"))
  | (refine' Tw.qxs_forRi 8 (by assumption) PySem.PassesOwn.never rfl (by assumption) ?h0 ?h1; (case h0 => walk_at "tw a"); (case h1 => walk_at "tw ss"))
  | (refine' Tw.qxs_forRi 9 (by assumption) PySem.PassesOwn.never rfl (by assumption) ?h0 ?h1; (case h0 => walk_at "tw a"); (case h1 => walk_at "tw ss")) | (refine' Tw.qxs_forRi 10 (by assumption) PySem.PassesOwn.never rfl (by assumption) ?h0 ?h1; (case h0 => walk_at "tw a"); (case h1 => walk_at "tw ss")) | (refine' Tw.qxs_forRi 11 (by assumption) PySem.PassesOwn.never rfl (by assumption) ?h0 ?h1; (case h0 => walk_at "tw a"); (case h1 => walk_at "tw ss")) | (refine' Tw.qxs_forRi 12 (by assumption) PySem.PassesOwn.never rfl (by assumption) ?h0 ?h1; (case h0 => walk_at "tw a"); (case h1 => walk_at "tw ss")) | (refine' Tw.qxs_forRi 13 (by assumption) PySem.PassesOwn.never rfl (by assumption) ?h0 ?h1; (case h0 => walk_at "tw a"); (case h1 => walk_at "tw ss")) | (refine' Tw.qxs_forRi 14 (by assumption) PySem.PassesOwn.never rfl (by assumption) ?h0 ?h1; (case h0 => walk_at "tw a"); (case h1 => walk_at "tw ss")) | (refine' Tw.qxs_forRi 15 (by assumption) PySem.PassesOwn.never rfl (by assumption) ?h0 ?h1; (case h0 => walk_at "tw a"); (case h1 => walk_at "tw ss")) | (refine' Tw.qxs_forRi 16 (by assumption) PySem.PassesOwn.never rfl (by assumption) ?h0 ?h1; (case h0 => walk_at "tw a"); (case h1 => walk_at "tw ss")) | (refine' Tw.qxs_forRi 17 (by assumption) PySem.PassesOwn.never rfl (by assumption) ?h0 ?h1; (case h0 => walk_at "tw a"); (case h1 => walk_at "tw ss")) | (refine' Tw.qxs_forRi 18 (by assumption) PySem.PassesOwn.never rfl (by assumption) ?h0 ?h1; (case h0 => walk_at "tw a"); (case h1 => walk_at "tw ss")) | (refine' Tw.qxs_forRi 19 (by assumption) PySem.PassesOwn.never rfl (by assumption) ?h0 ?h1; (case h0 => walk_at "tw a"); (case h1 => walk_at "tw ss"))
  | (refine' Tw.qxs_fori 0 (by assumption) PySem.PassesOwn.never rfl ?h0 ?h1; (case h0 => walk_at "tw e"); (case h1 => walk_at "tw ss"))
  | (refine' Tw.qxs_fori 1 (by assumption) PySem.PassesOwn.never rfl ?h0 ?h1; (case h0 => walk_at "tw e"); (case h1 => walk_at "tw ss"))
  | (refine' Tw.qxs_fori 2 (by assumption) PySem.PassesOwn.never rfl ?h0 ?h1; (case h0 => walk_at "tw e"); (case h1 => walk_at "tw ss"))
  | (refine' Tw.qxs_fori 3 (by assumption) PySem.PassesOwn.never rfl ?h0 ?h1; (case h0 => walk_at "tw e"); (case h1 => walk_at "tw ss"))
  | (refine' Tw.qxs_fori 4 (by assumption) PySem.PassesOwn.never rfl ?h0 ?h1; (case h0 => walk_at "tw e"); (case h1 => walk_at "tw ss"))
  | (refine' Tw.qxs_fori 5 (by assumption) PySem.PassesOwn.never rfl ?h0 ?h1; (case h0 => walk_at "tw e"); (case h1 => walk_at "tw ss"))
  | (refine' Tw.qxs_fori 6 (by assumption) PySem.PassesOwn.never rfl ?h0 ?h1; (case h0 => walk_at "tw e"); (case h1 => walk_at "tw ss"))
  | (refine' Tw.qxs_fori 7 (by assumption) PySem.PassesOwn.never rfl ?h0 ?h1; (case h0 => walk_at "tw e"); (case h1 => walk_at "tw ss"))
  | (refine' Tw.qxs_fori 8 (by assumption) PySem.PassesOwn.never rfl ?h0 ?h1; (case h0 => walk_at "tw e"); (case h1 => walk_at "tw ss"))
  | (refine' Tw.qxs_fori 9 (by assumption) PySem.PassesOwn.never rfl ?h0 ?h1; (case h0 => walk_at "tw e"); (case h1 => walk_at "tw ss")) | (refine' Tw.qxs_fori 10 (by assumption) PySem.PassesOwn.never rfl ?h0 ?h1; (case h0 => walk_at "tw e"); (case h1 => walk_at "tw ss")) | (refine' Tw.qxs_fori 11 (by assumption) PySem.PassesOwn.never rfl ?h0 ?h1; (case h0 => walk_at "tw e"); (case h1 => walk_at "tw ss")) | (refine' Tw.qxs_fori 12 (by assumption) PySem.PassesOwn.never rfl ?h0 ?h1; (case h0 => walk_at "tw e"); (case h1 => walk_at "tw ss")) | (refine' Tw.qxs_fori 13 (by assumption) PySem.PassesOwn.never rfl ?h0 ?h1; (case h0 => walk_at "tw e"); (case h1 => walk_at "tw ss")) | (refine' Tw.qxs_fori 14 (by assumption) PySem.PassesOwn.never rfl ?h0 ?h1; (case h0 => walk_at "tw e"); (case h1 => walk_at "tw ss")) | (refine' Tw.qxs_fori 15 (by assumption) PySem.PassesOwn.never rfl ?h0 ?h1; (case h0 => walk_at "tw e"); (case h1 => walk_at "tw ss")) | (refine' Tw.qxs_fori 16 (by assumption) PySem.PassesOwn.never rfl ?h0 ?h1; (case h0 => walk_at "tw e"); (case h1 => walk_at "tw ss")) | (refine' Tw.qxs_fori 17 (by assumption) PySem.PassesOwn.never rfl ?h0 ?h1; (case h0 => walk_at "tw e"); (case h1 => walk_at "tw ss")) | (refine' Tw.qxs_fori 18 (by assumption) PySem.PassesOwn.never rfl ?h0 ?h1; (case h0 => walk_at "tw e"); (case h1 => walk_at "tw ss")) | (refine' Tw.qxs_fori 19 (by assumption) PySem.PassesOwn.never rfl ?h0 ?h1; (case h0 => walk_at "tw e"); (case h1 => walk_at "tw ss"))
  | (refine' Tw.qxs_forT (by assumption) PySem.PassesOwn.never rfl (by walk_at "tw tg") ?h0 ?h1; (case h0 => walk_at "tw e"); (case h1 => walk_at "tw ss"))
  | exact Tw.qxs_raise)
local macro_rules | `(tactic| walk_at "tw r") => `(tactic| simp only [Tw.runD, Tw.start0, Tw.fThen, Tw.fTest, Tw.fBin, Tw.fVar, Tw.fC, Tw.oI0, Tw.oI, Tw.oAdd, Tw.add_ii, Tw.add_tt, Tw.add_oo, Tw.add_lo, Tw.add_ol, Tw.add_ll, Tw.lt_ii, Tw.lt_tt, Tw.ix_t, Tw.ix_l, Tw.ix_o, Tw.ix_s, Tw.ix_d, Tw.sl_t, Tw.sl_l, Tw.sl_o, Tw.sl_s, Tw.fSlT, Tw.fO0, Tw.fO1, Tw.fRev, Tw.fChain, Tw.kMin, Tw.kTuple, Tw.kList, Tw.intsOf, Tw.fDPut, Tw.oIx, Tw.oEqN, Tw.oIs, Tw.isD, Tw.deq, Tw.deqL, Tw.flatE, Tw.frz_non, Tw.frz_bl, Tw.frz_int, Tw.frz_str, Tw.frz_tup, Tw.frz_lst, Tw.frz_own, Tw.frz_scr, Tw.frz_dic, Tw.frz_exn, Tw.frz_dct, Tw.frz_odt, Tw.frz_frz, Tw.fPar, Tw.fCons, Tw.fNil, Tw.lf, Tw.lfL, Tw.fAsg, Tw.bindD, Tw.fIfS, Tw.fRet, Tw.fRetN, Tw.fCall, Tw.kAbs, Tw.kLen, Tw.kMax, Tw.fTup, Tw.fLst, Tw.fNeg, Tw.fNotV, Tw.fAndV, Tw.fOrV, Tw.bV, Tw.fNot, Tw.fAnd, Tw.fOr, Tw.fTru, Tw.truth, Tw.fIsi, Tw.isiB, Tw.tyD, Tw.items, Tw.fUnp, Tw.fUnS, Tw.fUnF, Tw.setAll, Tw.fApp, Tw.fDrop, Tw.fIf, Tw.fBits, Tw.turnF, Tw.gfName, Tw.gfTup, Tw.isX,   List.length_cons, List.length_nil, List.map_cons, List.map_nil, List.replicate, List.append_nil, List.nil_append, List.cons_append, List.getElem?_cons_zero, List.getElem?_cons_succ, List.set_cons_zero, List.set_cons_succ, Option.bind_some, Option.map_some, Option.bind_none, Option.map_none, if_true, if_false, Bool.false_eq_true, Nat.zero_add, Nat.reduceAdd, Nat.reduceSub, Nat.sub_self, Nat.add_zero, and_self, and_true, true_and, Bool.and_self, Bool.and_true, Bool.true_and, Bool.not_true, Bool.not_false, Bool.or_false, Bool.or_true, Bool.false_or, Bool.true_or, Bool.and_false, Bool.false_and, reduceIte, decide_true, decide_false, Nat.reduceEqDiff, Nat.reduceLeDiff])
namespace K5
open PySem L2 Tw KS
abbrev sNoDeed : Stmt := top 14
abbrev sMarks : Stmt := top 18
section
variable {P : Program} {w : World} {K : PySem.W.Frag} {mg : Str → Option Value} {base : Heap} {f : Addr} {fd : FuncData} {k : Nat}
-- def NoDeed NoDeed
-- def Marks _law_marks
def clsBody : Stmt → List Stmt
  | .ClassDef (body := b) .. => b
  | _ => []
abbrev sInit : Stmt := (clsBody sNoDeed).getD 0 (.Pass ⟨0, 0, 0, 0⟩)
theorem scInit : FnScope ["self", "at"] ["self", "at"] (defScope sInit) := ⟨rfl, rfl, rfl, by decide +kernel, rfl, by decide +kernel, by decide +kernel⟩
theorem fn_init {T : Addr} (mT : mg "TwainError" = some (.ref T)) (hr : PySem.W.readsIn K T (.type "type") = true) (hf : PySem.W.findCls K (.ref T) (.type "type") "__init__" = some (.val (.builtin "ValueError.__init__"))) (hT : PySem.W.excIn K T bmV nwV = true) (F : Fun K "__init__" "NoDeed.__init__" sInit f fd) : FnOk P w K mg base CX0 (k + 1) f fd ["self", "at"] (spInit K) := by
  refine F.ok scInit (fun vs H Q E ⟨a, C, fI, n, e, _⟩ => by rw [e]; rfl) (fun cdv A outer s H vs Q E hr' ⟨a, C, fI, n, e, ha, hn, TT, q⟩ => ⟨_, pss_cons (ps_expr (pe_initC mT hr hf hT rfl (pa_cons (pv 0) (pa_cons (pe_join (pv 1) (by decide)) pa_nil)))) (pss_one (ps_at (pv 0) (pv 1) rfl)), ?_⟩)
  subst e
  exact ⟨.ref a, rfl, .int n, rfl, n, rfl, hn, fun y => ⟨a, C, fI, .str y, rfl, ha, TT, .int n, rfl, .ref a, rfl, a, C, fI, n, rfl, rfl, ha, TT, fun d hd => q d hd⟩⟩
end
end K5

set_option Elab.async false
set_option linter.all false
set_option maxRecDepth 100000
set_option maxHeartbeats 1500000
namespace K5
open PySem L2 Tw KS
section
variable {P : Program} {w : World} {K : PySem.W.Frag} {mg : Str → Option Value} {base : Heap} {f : Addr} {fd : FuncData} {k : Nat}
theorem lims : 0 ≤ lim ∧ 1 ≤ lim ∧ 2 ≤ lim ∧ 3 ≤ lim ∧ 4 ≤ lim ∧ 5 ≤ lim ∧ 6 ≤ lim ∧ 7 ≤ lim ∧ 8 ≤ lim ∧ 9 ≤ lim ∧ 10 ≤ lim ∧ 11 ≤ lim ∧ 12 ≤ lim ∧ 13 ≤ lim ∧ 14 ≤ lim ∧ 15 ≤ lim ∧ 16 ≤ lim ∧ 17 ≤ lim ∧ 18 ≤ lim ∧ 19 ≤ lim ∧ 20 ≤ lim ∧ 21 ≤ lim ∧ 22 ≤ lim ∧ 23 ≤ lim ∧ 24 ≤ lim ∧ 25 ≤ lim ∧ 26 ≤ lim ∧ 27 ≤ lim ∧ 28 ≤ lim ∧ 29 ≤ lim ∧ 30 ≤ lim := by decide
theorem frz_exa {C : Addr} {n : Int} : frz (.exa C n) = .exa C n := rfl
theorem qx_isE {X : Cx} {e : Expr} {pos p p2 : Pos} {f : FE} {x : Str} {us : List Addr} {T b : Addr} (cl : Cl13 X.K T us) (hm : X.mg "isinstance" = none) (hx : X.mg x = some (.ref b)) (hb : b ∈ us) (ha : QX X e f)
    (hbb : bootBuiltins "isinstance" = some (.builtin "isinstance") := by rfl) (hg : Gl X "isinstance" := by rfl) (hgx : Gl X x := by rfl) (hd : (x == ("__debug__" : Str)) = false := by decide)
    (he : starEach [e, .Name x p2] X.env = (false, eval e X.env) :: starEach [.Name x p2] X.env := by rfl) (hpl : (backTo pos (starEach [.Name x p2] X.env)).any (·.1) = false := by rfl) (hs : starEach [.Name x p2] X.env = (false, eval (.Name x p2) X.env) :: starEach [] X.env := by rfl) :
    QX X (.Call (.Name "isinstance" p) [e, .Name x p2] [] pos) (fIsY (kc1 us b) f) := qx_isYC hm hx (kc1_ok cl hb) (kc1_ex cl) ha hbb hg hgx hd he hpl hs
local macro_rules | `(tactic| walk_at "tw e") => `(tactic| first | (refine' qx_isE (by assumption) (by assumption) (by assumption) (by simp) ?h0; (case h0 => walk_at "tw e")) | fail)
theorem scMarks : FnScope ["made", "some"] ["made"] (defScope sMarks) := ⟨rfl, rfl, rfl, by decide +kernel, rfl, by decide +kernel, by decide +kernel⟩
def MarksSpec (us : List Addr) (g : List D → Option D) : Prop := ∀ (C : Addr) (d : D), C ∈ us → (d = .exn C ∨ ∃ n, d = .exa C n) → g [d] = some (.own (us.map fun b => .bl (C == b)))
theorem fn_marks {T a0 a1 a2 a3 a4 a5 a6 a7 a8 a9 a10 a11 a12 : Addr} (cl : Cl13 K T [a0, a1, a2, a3, a4, a5, a6, a7, a8, a9, a10, a11, a12]) (m0 : mg "Alone" = some (.ref a0)) (m1 : mg "Barred" = some (.ref a1)) (m2 : mg "Loose" = some (.ref a2)) (m3 : mg "NoDeed" = some (.ref a3)) (m4 : mg "NoParty" = some (.ref a4)) (m5 : mg "NoPerson" = some (.ref a5)) (m6 : mg "NoRatio" = some (.ref a6)) (m7 : mg "NoRow" = some (.ref a7)) (m8 : mg "NoSides" = some (.ref a8)) (m9 : mg "NoText" = some (.ref a9)) (m10 : mg "NoWeb" = some (.ref a10)) (m11 : mg "NothingDone" = some (.ref a11)) (m12 : mg "Twice" = some (.ref a12))
    (mi : mg "isinstance" = none) (F : Fun K "_law_marks" "_law_marks" sMarks f fd) (B : Binds K fd ["made"] []) (hm : mg "_law_marks" = some (.ref f)) : ∃ g, Fn P w K mg base "_law_marks" (k + 1) g ∧ MarksSpec [a0, a1, a2, a3, a4, a5, a6, a7, a8, a9, a10, a11, a12] g := by
  have nd := scMarks.nd
  refine ⟨_, fn_mk F scMarks B hm rfl rfl (fun cdv A outer s H E hr => (by walk_at "tw ss" : QSs _ _ _).to), fun C d hC hd => ?_⟩
  have hk : ∀ b, kc1 [a0, a1, a2, a3, a4, a5, a6, a7, a8, a9, a10, a11, a12] b C = some (C == b) := fun b => by unfold kc1; rw [if_pos hC]
  simp only [List.map_cons, List.map_nil]
  generalize [a0, a1, a2, a3, a4, a5, a6, a7, a8, a9, a10, a11, a12] = us at hk
  rcases hd with rfl | ⟨n, rfl⟩
  · repeat (first | walk_at "tw r" | simp only [fIsY, hk, frz_exn, lims, lfL, lf, Bool.and_self])
  · repeat (first | walk_at "tw r" | simp only [fIsY, hk, frz_exa, lims, lfL, lf, Bool.and_self])
end
end K5

set_option Elab.async false
set_option linter.all false
set_option maxRecDepth 100000
set_option maxHeartbeats 1500000
namespace K5
open PySem L2 Tw KS
section
variable {P : Program} {w : World} {K : PySem.W.Frag} {mg : Str → Option Value} {base : Heap} {f : Addr} {fd : FuncData} {k : Nat}
section
variable {X : Cx} {e : Expr} {es : List Expr} {pos p p2 : Pos} {f : FE} {fa : FA} {x : Str} {us : List Addr} {T b : Addr}
theorem qx_isT13 (cl : Cl13 X.K T us) (hm : X.mg "isinstance" = none) (hx : X.mg x = some (.ref T)) (ha : QX X e f)
    (hbb : bootBuiltins "isinstance" = some (.builtin "isinstance") := by rfl) (hg : Gl X "isinstance" := by rfl) (hgx : Gl X x := by rfl) (hd : (x == ("__debug__" : Str)) = false := by decide)
    (he : starEach [e, .Name x p2] X.env = (false, eval e X.env) :: starEach [.Name x p2] X.env := by rfl) (hpl : (backTo pos (starEach [.Name x p2] X.env)).any (·.1) = false := by rfl) (hs : starEach [.Name x p2] X.env = (false, eval (.Name x p2) X.env) :: starEach [] X.env := by rfl) :
    QX X (.Call (.Name "isinstance" p) [e, .Name x p2] [] pos) (fIsY (kcA us) f) := qx_isYC hm hx (kcA_T cl) (kcA_ex cl) ha hbb hg hgx hd he hpl hs
theorem qx_isV13 (cl : Cl13 X.K T us) (hm : X.mg "isinstance" = none) (hx : X.mg "ValueError" = none) (ha : QX X e f)
    (hbb : bootBuiltins "isinstance" = some (.builtin "isinstance") := by rfl) (hg : Gl X "isinstance" := by rfl) (hgx : Gl X "ValueError" := by rfl)
    (he : starEach [e, .Name "ValueError" p2] X.env = (false, eval e X.env) :: starEach [.Name "ValueError" p2] X.env := by rfl) (hpl : (backTo pos (starEach [.Name "ValueError" p2] X.env)).any (·.1) = false := by rfl) (hs : starEach [.Name "ValueError" p2] X.env = (false, eval (.Name "ValueError" p2) X.env) :: starEach [] X.env := by rfl) :
    QX X (.Call (.Name "isinstance" p) [e, .Name "ValueError" p2] [] pos) (fIsY (kcA us) f) := qx_isYT (T := "ValueError") hm hx (kcA_V cl) (kcA_ex cl) ha rfl hbb hg hgx (by decide) (by decide) he hpl hs
theorem qx_mk13 (cl : Cl13 X.K T us) (hx : X.mg x = some (.ref b)) (q : PySem.W.excIn X.K b bmV nwV = true) (hb : b ∈ us) (ha : QA X (e :: es) fa) (hg : Gl X x := by rfl) (hdb : (x == ("__debug__" : Str)) = false := by decide)
    (he : starEach (e :: es) X.env = (false, eval e X.env) :: starEach es X.env := by rfl) (hpl : (backTo pos (starEach es X.env)).any (·.1) = false := by rfl) : QX X (.Call (.Name x p) (e :: es) [] pos) (fMkX b fa) := qx_mkX hx q (cl.kp b hb) ha hg hdb he hpl
end
local macro_rules | `(tactic| walk_at "tw e") => `(tactic| first
  | (refine' qx_isV13 (by assumption) (by assumption) (by assumption) ?h0; (case h0 => walk_at "tw e"))
  | (refine' qx_isT13 (by assumption) (by assumption) (by assumption) ?h0; (case h0 => walk_at "tw e"))
  | (refine' qx_mk13 (by assumption) (by assumption) (by assumption) (by simp) ?h0; (case h0 => walk_at "tw a"))
  | (refine' Tw.qx_mkI (by assumption) (by assumption) (by assumption) (by assumption) (by assumption) ?h0; (case h0 => walk_at "tw a"))
  | (refine' Tw.qx_mulS ?h0 ?h1; (case h0 => walk_at "tw e"); (case h1 => walk_at "tw e"))
  | (refine' Tw.qx_at (by assumption) ?h0; (case h0 => walk_at "tw e"))
  | (refine' Tw.qx_compR (N := ["j", "k"]) (js := [none, some 5]) 0 rfl (by assumption) (Tw.blk_mk (by exact .own (.cap rfl rfl rfl rfl .nil)) rfl (by exact ⟨rfl, trivial⟩) (by rfl)) (by decide) ?h0 (fun s2 H2 fp C => Tw.tst_nil) (fun s2 H2 fp C => ?h1) rfl rfl (by decide); (case h0 => walk_at "tw a"); (case h1 => walk_at "tw e"))
  | fail)
theorem scLaw : FnScope ["script", "cell", "numbers", "text", "made", "k"] ["script"] (defScope sLaw) := ⟨rfl, rfl, rfl, by decide +kernel, rfl, by decide +kernel, by decide +kernel⟩
theorem fn_law {gn gm : List D → Option D} {fI : Addr} {fdI : FuncData} {T a0 a1 a2 a3 a4 a5 a6 a7 a8 a9 a10 a11 a12 : Addr} (G1 : Fn P w K mg base "_law_numbers" (k + 1) gn) (h1 : NumSpec gn) (G2 : Fn P w K mg base "_law_marks" (k + 1) gm) (h2 : MarksSpec [a0, a1, a2, a3, a4, a5, a6, a7, a8, a9, a10, a11, a12] gm)
    (TT : ExcT K a3 fI) (FI : FnOk P w K mg base CX0 k fI fdI ["self", "at"] (spInit K)) (BI : Binds K fdI ["self", "at"] []) (cl : Cl13 K T [a0, a1, a2, a3, a4, a5, a6, a7, a8, a9, a10, a11, a12])
    (e0 : PySem.W.excIn K a0 bmV nwV = true) (e1 : PySem.W.excIn K a1 bmV nwV = true) (e2 : PySem.W.excIn K a2 bmV nwV = true) (e4 : PySem.W.excIn K a4 bmV nwV = true) (e5 : PySem.W.excIn K a5 bmV nwV = true) (e6 : PySem.W.excIn K a6 bmV nwV = true) (e7 : PySem.W.excIn K a7 bmV nwV = true) (e8 : PySem.W.excIn K a8 bmV nwV = true) (e9 : PySem.W.excIn K a9 bmV nwV = true) (e10 : PySem.W.excIn K a10 bmV nwV = true) (e11 : PySem.W.excIn K a11 bmV nwV = true) (e12 : PySem.W.excIn K a12 bmV nwV = true)
    (mT : mg "TwainError" = some (.ref T)) (m0 : mg "Alone" = some (.ref a0)) (m1 : mg "Barred" = some (.ref a1)) (m2 : mg "Loose" = some (.ref a2)) (m3 : mg "NoDeed" = some (.ref a3)) (m4 : mg "NoParty" = some (.ref a4)) (m5 : mg "NoPerson" = some (.ref a5)) (m6 : mg "NoRatio" = some (.ref a6)) (m7 : mg "NoRow" = some (.ref a7)) (m8 : mg "NoSides" = some (.ref a8)) (m9 : mg "NoText" = some (.ref a9)) (m10 : mg "NoWeb" = some (.ref a10)) (m11 : mg "NothingDone" = some (.ref a11)) (m12 : mg "Twice" = some (.ref a12))
    (mi : mg "isinstance" = none) (mr : mg "range" = none) (ml : mg "len" = none) (mV : mg "ValueError" = none) (F : Fun K "law" "law" sLaw f fd) : FnOk P w K mg base CX0 (k + 2) f fd ["script"] (spLaw K) := by
  have nd := scLaw.nd
  refine law_ok (k := k + 1) F scLaw rfl rfl (fun cdv A outer s H E hr => (by walk_at "tw ss" : QSs _ _ _).to) fun ns hl => ?_
  refine cells_runT (n := 4) (N := 20) ns hl fun c ρ hρ => ?_
  obtain ⟨o2, o3, o4, o5, rfl⟩ : ∃ o2 o3 o4 o5, ρ = [o2, o3, o4, o5] := by
    match ρ, hρ with
    | [a, b, c, d], _ => exact ⟨a, b, c, d, rfl⟩
  obtain ⟨ms, ml2, mb, en⟩ := h1 c 2 (10 ^ 59) (by decide) (by decide) (by decide) (by decide)
  obtain ⟨x0, x1, rfl⟩ : ∃ x0 x1, ms = [x0, x1] := by
    match ms, ml2 with
    | [a, b], _ => exact ⟨a, b, rfl⟩
  have b1 := mb x1 (by simp)
  have lg : x1.natAbs.log2 < 1901 := by
    by_cases z : x1.natAbs = 0
    · rw [z]; decide
    · exact Nat.lt_of_lt_of_le ((Nat.log2_lt z).mpr (show x1.natAbs < 2 ^ 200 by omega)) (by decide)
  simp only [List.map_cons, List.map_nil] at en
  have c1 : CPow 10 59 := cp (by decide) (by decide)
  have t0 : (59 : Int).toNat = 59 := rfl
  have z5 : (0 : Int) < 5 := by decide
  have i0 : atI [D.int x0, .int x1] 0 = some (.int x0) := rfl
  have i1 : atI [D.int x0, .int x1] 1 = some (.int x1) := rfl
  have hms : oMS (.str "x") (.int 90) = some (.str (rep90 "x")) := by
    simp only [oMS]
    exact if_pos ⟨trivial, rfl⟩
  obtain ⟨tx, et⟩ : ∃ tx : Str, atI [D.str "", .str "a", .str "0", .str "one two", .str (rep90 "x")] (x0 % 5) = some (.str tx) := by
    have z : x0 % 5 = 0 ∨ x0 % 5 = 1 ∨ x0 % 5 = 2 ∨ x0 % 5 = 3 ∨ x0 % 5 = 4 := by omega
    rcases z with z | z | z | z | z <;> rw [z] <;> exact ⟨_, rfl⟩
  generalize rep90 "x" = rx at hms et
  generalize ns.map D.int = nm
  refine nx_eq [some (.scr nm), some (.int c), some (.own [.int x0, .int x1]), o3, o4, o5] ?_ ?_
  · repeat (first | walk_at "tw r" | simp only [c1, t0, en, lfL, lf, Bool.and_self, lims])
  refine nx_eq [some (.scr nm), some (.int c), some (.own [.int x0, .int x1]), some (.str tx), o4, o5] ?_ ?_
  · repeat (first | walk_at "tw r" | simp only [hms, i0, z5, et, lims])
  refine nx_eq [some (.scr nm), some (.int c), some (.own [.int x0, .int x1]), some (.str tx), some (.own [.exn a0, .exn a1, .exn a2, .exa a3 x1, .exn a4, .exn a5]), o5] ?_ ?_
  · repeat (first | walk_at "tw r" | simp only [fMkX, fMkI, i1, lg, lfL, lf, Bool.and_self, lims])
  refine nx_eq [some (.scr nm), some (.int c), some (.own [.int x0, .int x1]), some (.str tx), some (.own [.exn a0, .exn a1, .exn a2, .exa a3 x1, .exn a4, .exn a5, .exn a6, .exn a7, .exn a8, .exn a9, .exn a10, .exn a11]), o5] ?_ ?_
  · repeat (first | walk_at "tw r" | simp only [fMkX, lfL, lf, Bool.and_self, lims])
  refine nx_eq [some (.scr nm), some (.int c), some (.own [.int x0, .int x1]), some (.str tx), some (.own [.exn a0, .exn a1, .exn a2, .exa a3 x1, .exn a4, .exn a5, .exn a6, .exn a7, .exn a8, .exn a9, .exn a10, .exn a11, .exn a12]), o5] ?_ ?_
  · have l13 : 12 < lim := by decide
    repeat (first | walk_at "tw r" | simp only [fMkX, l13, lims])
  have mat : ∀ i : Nat, i < 13 → ∃ C d, atI [D.exn a0, .exn a1, .exn a2, .exa a3 x1, .exn a4, .exn a5, .exn a6, .exn a7, .exn a8, .exn a9, .exn a10, .exn a11, .exn a12] ((i : Nat) : Int) = some d ∧ [a0, a1, a2, a3, a4, a5, a6, a7, a8, a9, a10, a11, a12][i]? = some C ∧ (d = .exn C ∨ ∃ n, d = .exa C n) := fun i hi => by
    match i, hi with
    | 0, _ => exact ⟨_, _, rfl, rfl, .inl rfl⟩
    | 1, _ => exact ⟨_, _, rfl, rfl, .inl rfl⟩
    | 2, _ => exact ⟨_, _, rfl, rfl, .inl rfl⟩
    | 3, _ => exact ⟨_, _, rfl, rfl, .inr ⟨_, rfl⟩⟩
    | 4, _ => exact ⟨_, _, rfl, rfl, .inl rfl⟩
    | 5, _ => exact ⟨_, _, rfl, rfl, .inl rfl⟩
    | 6, _ => exact ⟨_, _, rfl, rfl, .inl rfl⟩
    | 7, _ => exact ⟨_, _, rfl, rfl, .inl rfl⟩
    | 8, _ => exact ⟨_, _, rfl, rfl, .inl rfl⟩
    | 9, _ => exact ⟨_, _, rfl, rfl, .inl rfl⟩
    | 10, _ => exact ⟨_, _, rfl, rfl, .inl rfl⟩
    | 11, _ => exact ⟨_, _, rfl, rfl, .inl rfl⟩
    | 12, _ => exact ⟨_, _, rfl, rfl, .inl rfl⟩
    | n + 13, h => omega
  have m3' : atI [D.exn a0, .exn a1, .exn a2, .exa a3 x1, .exn a4, .exn a5, .exn a6, .exn a7, .exn a8, .exn a9, .exn a10, .exn a11, .exn a12] 3 = some (.exa a3 x1) := rfl
  have und := cl.nd
  have ulen : [a0, a1, a2, a3, a4, a5, a6, a7, a8, a9, a10, a11, a12].length = 13 := rfl
  generalize [D.exn a0, .exn a1, .exn a2, .exa a3 x1, .exn a4, .exn a5, .exn a6, .exn a7, .exn a8, .exn a9, .exn a10, .exn a11, .exn a12] = md at mat m3'
  generalize [a0, a1, a2, a3, a4, a5, a6, a7, a8, a9, a10, a11, a12] = us at mat und ulen h2
  refine nx_then (fun ρ => ∃ o5, ρ = [some (.scr nm), some (.int c), some (.own [.int x0, .int x1]), some (.str tx), some (.own md), o5]) ?_ ?_
  · refine forR_ex 13 (fun i ρ => ∃ o5, ρ = [some (.scr nm), some (.int c), some (.own [.int x0, .int x1]), some (.str tx), some (.own md), o5]) rfl ⟨by decide, by decide⟩ ⟨o5, rfl⟩ ?_ (fun ρ h => h)
    rintro i ρ hi ⟨o5, rfl⟩
    have hi' : i < 13 := hi
    obtain ⟨C, d, ea, eu, hd⟩ := mat i hi'
    have hC : C ∈ us := List.mem_of_getElem? eu
    have kA : kcA us C = some true := by unfold kcA; rw [if_pos hC]
    have eg := h2 C d hC hd
    have lst : (us.map fun b => D.bl (C == b)) = (List.range 13).map fun j => D.bl (((j : Nat) : Int) == ((i : Nat) : Int)) := by
      apply List.ext_getElem
      · simp [ulen]
      · intro j h1 h2
        have hj : j < us.length := by simpa using h1
        have hiu : i < us.length := by omega
        have eC : us[i] = C := by rw [List.getElem?_eq_getElem hiu] at eu; exact Option.some.inj eu
        rw [List.getElem_map, List.getElem_map, List.getElem_range]
        congr 1
        by_cases q : i = j
        · subst q
          exact (beq_iff_eq.mpr eC.symm).trans (beq_self_eq_true _).symm
        · have n1 : C ≠ us[j] := fun z => (Nat.lt_or_gt_of_ne q).elim (fun l => List.pairwise_iff_getElem.mp und i j hiu hj l (eC.trans z)) fun l => List.pairwise_iff_getElem.mp und j i hj hiu l (eC.trans z).symm
          have n2 : ¬ ((j : Nat) : Int) = ((i : Nat) : Int) := by omega
          exact (beq_eq_false_iff_ne.mpr n1).trans (beq_eq_false_iff_ne.mpr n2).symm
    have cm := compL_map (js := [none, some 5]) (gf := gfName 0) (fe := fBin (oEqN false) (fVar 0) (fVar 1)) (ys := List.range 13) (ρ := [some (.scr nm), some (.int c), some (.own [.int x0, .int x1]), some (.str tx), some (.own md), some (.int ((i : Nat) : Int))]) (fun ρ => ∃ o, ρ = [o, some (.int ((i : Nat) : Int))]) (fun j => .int ((j : Nat) : Int)) (fun j => .bl (((j : Nat) : Int) == ((i : Nat) : Int))) ⟨_, rfl⟩ (by rintro ρ ⟨o, rfl⟩; rfl) (by
      rintro j hj ρ zs ⟨o, rfl⟩
      refine ⟨[some (.int ((j : Nat) : Int)), some (.int ((i : Nat) : Int))], ⟨_, rfl⟩, rfl, ?_, rfl⟩
      repeat (first | walk_at "tw r" | simp only [lims])) (by rw [List.length_range]; decide)
    have cr : fCompR (fCons (fC (D.int 13)) fNil) [none, some 5] (gfName 0) (fun x => some true) (fBin (oEqN false) (fVar 0) (fVar 1)) [some (.scr nm), some (.int c), some (.own [.int x0, .int x1]), some (.str tx), some (.own md), some (.int ((i : Nat) : Int))] = some (.own ((List.range 13).map fun j => D.bl (((j : Nat) : Int) == ((i : Nat) : Int)))) := by
      have r13 : (13 : Int).toNat = 13 := rfl
      have fa : ∀ ρ : Ev, fCons (fC (D.int 13)) fNil ρ = some [.int 13] := fun ρ => rfl
      unfold fCompR
      rw [fa]
      simp only [Option.bind_some]
      rw [if_pos ⟨by decide, by decide⟩, r13]
      exact cm
    rw [lst] at eg
    have dq : ∀ bs : List Bool, deqL (deq 19) (bs.map D.bl) (bs.map D.bl) = some true := fun bs => by
      induction bs with
      | nil => rfl
      | cons b bs ih =>
        have eb : deq 19 (D.bl b) (.bl b) = some true := by cases b <;> rfl
        rw [List.map_cons, deqL, eb, ih]
        rfl
    have dq1 := dq ((List.range 13).map fun j => (((j : Nat) : Int) == ((i : Nat) : Int)))
    rw [List.map_map] at dq1
    change deqL (deq 19) ((List.range 13).map fun j => D.bl (((j : Nat) : Int) == ((i : Nat) : Int))) ((List.range 13).map fun j => D.bl (((j : Nat) : Int) == ((i : Nat) : Int))) = some true at dq1
    generalize ((List.range 13).map fun j => D.bl (((j : Nat) : Int) == ((i : Nat) : Int))) = L at eg cr dq1
    refine ⟨[some (.scr nm), some (.int c), some (.own [.int x0, .int x1]), some (.str tx), some (.own md), some (.int ((i : Nat) : Int))], ?_, _, rfl⟩
    rcases hd with rfl | ⟨n, rfl⟩
    · repeat (first | walk_at "tw r" | simp only [fIsY, ea, kA, eg, cr, dq1, frz_exn, lims])
    · repeat (first | walk_at "tw r" | simp only [fIsY, ea, kA, eg, cr, dq1, frz_exa, lims])
  rintro ρ ⟨o5, rfl⟩
  refine ⟨[some (.scr nm), some (.int c), some (.own [.int x0, .int x1]), some (.str tx), some (.own md), o5], ?_, _, _, rfl, rfl⟩
  repeat (first | walk_at "tw r" | simp only [fAt, m3', i1, frz_exa, beq_self_eq_true, lims])
end
end K5

namespace K5
open PySem PySem.Spec PyProof.Rows L2 Tw
theorem all_mk {l : PySem.W.OpenLaw} {w : World} {K : PySem.W.Frag} {h : Heap} {mg : Str → Option Value} {fa f1 f2 f3 f4 : Addr} {u1 u2 u3 u4 u5 u6 u7 u8 u9 u10 u11 u12 u13 u14 : Addr} (X : K.In h) (G : h.Ns mainGlobals mg) (hfa : mg "law" = some (.ref fa))
    {od1 an1 od2 an2 od3 an3 od4 an4 : Option Addr} {sl1 sl2 sl3 sl4 : Array (Option Value)} {oc1 kV1 dc1 pm1 cd1 ct1 oc2 kV2 dc2 pm2 cd2 ct2 oc3 kV3 dc3 pm3 cd3 ct3 oc4 kV4 dc4 pm4 cd4 ct4 : Value} {fI NI : Addr} {nmI qI : Str} {bsI subI : List Value} {snI : List Str} {abI : Bool} {colI : Option Bool} {ddI odI anI : Option Addr} {kI0 kI1 kI2 kI3 kI5 : Option Value} {slI : Array (Option Value)} {kVI dcI pmI cdI ctI : Value}
    (a1 : PySem.W.nsIn K mainGlobals "_law_mixed" = some (some (.ref f1))) (l1 : K.lookup f1 = some ⟨oc1, od1, .func (PySem.W.fnOf "_law_mixed" "_law_mixed" (defArgs sMixed) (defBody sMixed) (defScope sMixed) .none kV1 dc1 pm1 an1 cd1 ct1), sl1⟩) (c1 : PySem.W.codeIn K cd1 "_law_mixed" = true) (k1 : PySem.W.keepIn K (.ref f1) = true)
    (a2 : PySem.W.nsIn K mainGlobals "_law_numbers" = some (some (.ref f2))) (l2 : K.lookup f2 = some ⟨oc2, od2, .func (PySem.W.fnOf "_law_numbers" "_law_numbers" (defArgs sNumbers) (defBody sNumbers) (defScope sNumbers) .none kV2 dc2 pm2 an2 cd2 ct2), sl2⟩) (c2 : PySem.W.codeIn K cd2 "_law_numbers" = true) (k2 : PySem.W.keepIn K (.ref f2) = true)
    (a3 : PySem.W.nsIn K mainGlobals "_law_marks" = some (some (.ref f3))) (l3 : K.lookup f3 = some ⟨oc3, od3, .func (PySem.W.fnOf "_law_marks" "_law_marks" (defArgs sMarks) (defBody sMarks) (defScope sMarks) .none kV3 dc3 pm3 an3 cd3 ct3), sl3⟩) (c3 : PySem.W.codeIn K cd3 "_law_marks" = true) (k3 : PySem.W.keepIn K (.ref f3) = true)
    (a4 : PySem.W.nsIn K mainGlobals "law" = some (some (.ref f4))) (l4 : K.lookup f4 = some ⟨oc4, od4, .func (PySem.W.fnOf "law" "law" (defArgs sLaw) (defBody sLaw) (defScope sLaw) .none kV4 dc4 pm4 an4 cd4 ct4), sl4⟩) (c4 : PySem.W.codeIn K cd4 "law" = true) (k4 : PySem.W.keepIn K (.ref f4) = true)
    (y1 : PySem.W.nsIn K mainGlobals "len" = some none) (y2 : PySem.W.nsIn K mainGlobals "isinstance" = some none) (y3 : PySem.W.nsIn K mainGlobals "range" = some none) (y4 : PySem.W.nsIn K mainGlobals "ValueError" = some none) (n1 : PySem.W.nsIn K mainGlobals "Alone" = some (some (.ref u1))) (n2 : PySem.W.nsIn K mainGlobals "Barred" = some (some (.ref u2))) (n3 : PySem.W.nsIn K mainGlobals "Loose" = some (some (.ref u3))) (n4 : PySem.W.nsIn K mainGlobals "NoDeed" = some (some (.ref u4))) (n5 : PySem.W.nsIn K mainGlobals "NoParty" = some (some (.ref u5))) (n6 : PySem.W.nsIn K mainGlobals "NoPerson" = some (some (.ref u6))) (n7 : PySem.W.nsIn K mainGlobals "NoRatio" = some (some (.ref u7))) (n8 : PySem.W.nsIn K mainGlobals "NoRow" = some (some (.ref u8))) (n9 : PySem.W.nsIn K mainGlobals "NoSides" = some (some (.ref u9))) (n10 : PySem.W.nsIn K mainGlobals "NoText" = some (some (.ref u10))) (n11 : PySem.W.nsIn K mainGlobals "NoWeb" = some (some (.ref u11))) (n12 : PySem.W.nsIn K mainGlobals "NothingDone" = some (some (.ref u12))) (n13 : PySem.W.nsIn K mainGlobals "Twice" = some (some (.ref u13))) (n14 : PySem.W.nsIn K mainGlobals "TwainError" = some (some (.ref u14))) (x1 : K.lookup u4 = some (excClassObj nmI qI u4 NI bsI (.ref u14 :: Tw.bmV) true snI subI abI colI ddI kI0 kI1 kI2 kI3 kI5 Tw.nwV)) (x2 : PySem.W.findIn K (.ref u4) "__init__" = some (some (.ref fI))) (x3 : K.lookup fI = some ⟨.type "function", odI, .func (PySem.W.fnOf "__init__" "NoDeed.__init__" (defArgs sInit) (defBody sInit) (defScope sInit) .none kVI dcI pmI anI cdI ctI), slI⟩) (x4 : PySem.W.codeIn K cdI "NoDeed.__init__" = true) (x5 : PySem.W.keepIn K (.ref fI) = true) (x6 : PySem.W.findIn K (.ref u4) "__setattr__" = some (some (.builtin "object.__setattr__"))) (x7 : PySem.W.findIn K (.ref u4) "at" = some none) (x8 : PySem.W.readsIn K u14 (.type "type") = true) (x9 : PySem.W.findCls K (.ref u14) (.type "type") "__init__" = some (.val (.builtin "ValueError.__init__"))) (x10 : PySem.W.excIn K u14 bmV nwV = true) (x11 : PySem.W.excIn K u1 bmV nwV = true) (x12 : PySem.W.excIn K u2 bmV nwV = true) (x13 : PySem.W.excIn K u3 bmV nwV = true) (x14 : PySem.W.excIn K u5 bmV nwV = true) (x15 : PySem.W.excIn K u6 bmV nwV = true) (x16 : PySem.W.excIn K u7 bmV nwV = true) (x17 : PySem.W.excIn K u8 bmV nwV = true) (x18 : PySem.W.excIn K u9 bmV nwV = true) (x19 : PySem.W.excIn K u10 bmV nwV = true) (x20 : PySem.W.excIn K u11 bmV nwV = true) (x21 : PySem.W.excIn K u12 bmV nwV = true) (x22 : PySem.W.excIn K u13 bmV nwV = true) (x23 : PySem.W.kitOne K (.ref u1) (.ref u1) = some true) (x24 : PySem.W.kitOne K (.ref u1) (.ref u2) = some false) (x25 : PySem.W.kitOne K (.ref u1) (.ref u3) = some false) (x26 : PySem.W.kitOne K (.ref u1) (.ref u4) = some false) (x27 : PySem.W.kitOne K (.ref u1) (.ref u5) = some false) (x28 : PySem.W.kitOne K (.ref u1) (.ref u6) = some false) (x29 : PySem.W.kitOne K (.ref u1) (.ref u7) = some false) (x30 : PySem.W.kitOne K (.ref u1) (.ref u8) = some false) (x31 : PySem.W.kitOne K (.ref u1) (.ref u9) = some false) (x32 : PySem.W.kitOne K (.ref u1) (.ref u10) = some false) (x33 : PySem.W.kitOne K (.ref u1) (.ref u11) = some false) (x34 : PySem.W.kitOne K (.ref u1) (.ref u12) = some false) (x35 : PySem.W.kitOne K (.ref u1) (.ref u13) = some false) (x36 : PySem.W.kitOne K (.ref u1) (.ref u14) = some true) (x37 : PySem.W.kitOne K (.ref u1) (.type "ValueError") = some true) (x38 : PySem.W.mroIn K u1 (.type "object") = some true) (x39 : PySem.W.mroIn K u1 (.type "BaseException") = some true) (x40 : PySem.W.findIn K (.ref u1) "__class__" = some (some (.builtin "object.__class__"))) (x41 : PySem.W.findIn K (.ref u1) "__getattribute__" = some (some (.builtin "BaseException.__getattribute__"))) (x42 : PySem.W.findIn K (.ref u1) "__getattr__" = some none) (x43 : PySem.W.keepIn K (.ref u1) = true) (x44 : PySem.W.kitOne K (.ref u2) (.ref u1) = some false) (x45 : PySem.W.kitOne K (.ref u2) (.ref u2) = some true) (x46 : PySem.W.kitOne K (.ref u2) (.ref u3) = some false) (x47 : PySem.W.kitOne K (.ref u2) (.ref u4) = some false) (x48 : PySem.W.kitOne K (.ref u2) (.ref u5) = some false) (x49 : PySem.W.kitOne K (.ref u2) (.ref u6) = some false) (x50 : PySem.W.kitOne K (.ref u2) (.ref u7) = some false) (x51 : PySem.W.kitOne K (.ref u2) (.ref u8) = some false) (x52 : PySem.W.kitOne K (.ref u2) (.ref u9) = some false) (x53 : PySem.W.kitOne K (.ref u2) (.ref u10) = some false) (x54 : PySem.W.kitOne K (.ref u2) (.ref u11) = some false) (x55 : PySem.W.kitOne K (.ref u2) (.ref u12) = some false) (x56 : PySem.W.kitOne K (.ref u2) (.ref u13) = some false) (x57 : PySem.W.kitOne K (.ref u2) (.ref u14) = some true) (x58 : PySem.W.kitOne K (.ref u2) (.type "ValueError") = some true) (x59 : PySem.W.mroIn K u2 (.type "object") = some true) (x60 : PySem.W.mroIn K u2 (.type "BaseException") = some true) (x61 : PySem.W.findIn K (.ref u2) "__class__" = some (some (.builtin "object.__class__"))) (x62 : PySem.W.findIn K (.ref u2) "__getattribute__" = some (some (.builtin "BaseException.__getattribute__"))) (x63 : PySem.W.findIn K (.ref u2) "__getattr__" = some none) (x64 : PySem.W.keepIn K (.ref u2) = true) (x65 : PySem.W.kitOne K (.ref u3) (.ref u1) = some false) (x66 : PySem.W.kitOne K (.ref u3) (.ref u2) = some false) (x67 : PySem.W.kitOne K (.ref u3) (.ref u3) = some true) (x68 : PySem.W.kitOne K (.ref u3) (.ref u4) = some false) (x69 : PySem.W.kitOne K (.ref u3) (.ref u5) = some false) (x70 : PySem.W.kitOne K (.ref u3) (.ref u6) = some false) (x71 : PySem.W.kitOne K (.ref u3) (.ref u7) = some false) (x72 : PySem.W.kitOne K (.ref u3) (.ref u8) = some false) (x73 : PySem.W.kitOne K (.ref u3) (.ref u9) = some false) (x74 : PySem.W.kitOne K (.ref u3) (.ref u10) = some false) (x75 : PySem.W.kitOne K (.ref u3) (.ref u11) = some false) (x76 : PySem.W.kitOne K (.ref u3) (.ref u12) = some false) (x77 : PySem.W.kitOne K (.ref u3) (.ref u13) = some false) (x78 : PySem.W.kitOne K (.ref u3) (.ref u14) = some true) (x79 : PySem.W.kitOne K (.ref u3) (.type "ValueError") = some true) (x80 : PySem.W.mroIn K u3 (.type "object") = some true) (x81 : PySem.W.mroIn K u3 (.type "BaseException") = some true) (x82 : PySem.W.findIn K (.ref u3) "__class__" = some (some (.builtin "object.__class__"))) (x83 : PySem.W.findIn K (.ref u3) "__getattribute__" = some (some (.builtin "BaseException.__getattribute__"))) (x84 : PySem.W.findIn K (.ref u3) "__getattr__" = some none) (x85 : PySem.W.keepIn K (.ref u3) = true) (x86 : PySem.W.kitOne K (.ref u4) (.ref u1) = some false) (x87 : PySem.W.kitOne K (.ref u4) (.ref u2) = some false) (x88 : PySem.W.kitOne K (.ref u4) (.ref u3) = some false) (x89 : PySem.W.kitOne K (.ref u4) (.ref u4) = some true) (x90 : PySem.W.kitOne K (.ref u4) (.ref u5) = some false) (x91 : PySem.W.kitOne K (.ref u4) (.ref u6) = some false) (x92 : PySem.W.kitOne K (.ref u4) (.ref u7) = some false) (x93 : PySem.W.kitOne K (.ref u4) (.ref u8) = some false) (x94 : PySem.W.kitOne K (.ref u4) (.ref u9) = some false) (x95 : PySem.W.kitOne K (.ref u4) (.ref u10) = some false) (x96 : PySem.W.kitOne K (.ref u4) (.ref u11) = some false) (x97 : PySem.W.kitOne K (.ref u4) (.ref u12) = some false) (x98 : PySem.W.kitOne K (.ref u4) (.ref u13) = some false) (x99 : PySem.W.kitOne K (.ref u4) (.ref u14) = some true) (x100 : PySem.W.kitOne K (.ref u4) (.type "ValueError") = some true) (x101 : PySem.W.mroIn K u4 (.type "object") = some true) (x102 : PySem.W.mroIn K u4 (.type "BaseException") = some true) (x103 : PySem.W.findIn K (.ref u4) "__class__" = some (some (.builtin "object.__class__"))) (x104 : PySem.W.findIn K (.ref u4) "__getattribute__" = some (some (.builtin "BaseException.__getattribute__"))) (x105 : PySem.W.findIn K (.ref u4) "__getattr__" = some none) (x106 : PySem.W.keepIn K (.ref u4) = true) (x107 : PySem.W.kitOne K (.ref u5) (.ref u1) = some false) (x108 : PySem.W.kitOne K (.ref u5) (.ref u2) = some false) (x109 : PySem.W.kitOne K (.ref u5) (.ref u3) = some false) (x110 : PySem.W.kitOne K (.ref u5) (.ref u4) = some false) (x111 : PySem.W.kitOne K (.ref u5) (.ref u5) = some true) (x112 : PySem.W.kitOne K (.ref u5) (.ref u6) = some false) (x113 : PySem.W.kitOne K (.ref u5) (.ref u7) = some false) (x114 : PySem.W.kitOne K (.ref u5) (.ref u8) = some false) (x115 : PySem.W.kitOne K (.ref u5) (.ref u9) = some false) (x116 : PySem.W.kitOne K (.ref u5) (.ref u10) = some false) (x117 : PySem.W.kitOne K (.ref u5) (.ref u11) = some false) (x118 : PySem.W.kitOne K (.ref u5) (.ref u12) = some false) (x119 : PySem.W.kitOne K (.ref u5) (.ref u13) = some false) (x120 : PySem.W.kitOne K (.ref u5) (.ref u14) = some true) (x121 : PySem.W.kitOne K (.ref u5) (.type "ValueError") = some true) (x122 : PySem.W.mroIn K u5 (.type "object") = some true) (x123 : PySem.W.mroIn K u5 (.type "BaseException") = some true) (x124 : PySem.W.findIn K (.ref u5) "__class__" = some (some (.builtin "object.__class__"))) (x125 : PySem.W.findIn K (.ref u5) "__getattribute__" = some (some (.builtin "BaseException.__getattribute__"))) (x126 : PySem.W.findIn K (.ref u5) "__getattr__" = some none) (x127 : PySem.W.keepIn K (.ref u5) = true) (x128 : PySem.W.kitOne K (.ref u6) (.ref u1) = some false) (x129 : PySem.W.kitOne K (.ref u6) (.ref u2) = some false) (x130 : PySem.W.kitOne K (.ref u6) (.ref u3) = some false) (x131 : PySem.W.kitOne K (.ref u6) (.ref u4) = some false) (x132 : PySem.W.kitOne K (.ref u6) (.ref u5) = some false) (x133 : PySem.W.kitOne K (.ref u6) (.ref u6) = some true) (x134 : PySem.W.kitOne K (.ref u6) (.ref u7) = some false) (x135 : PySem.W.kitOne K (.ref u6) (.ref u8) = some false) (x136 : PySem.W.kitOne K (.ref u6) (.ref u9) = some false) (x137 : PySem.W.kitOne K (.ref u6) (.ref u10) = some false) (x138 : PySem.W.kitOne K (.ref u6) (.ref u11) = some false) (x139 : PySem.W.kitOne K (.ref u6) (.ref u12) = some false) (x140 : PySem.W.kitOne K (.ref u6) (.ref u13) = some false) (x141 : PySem.W.kitOne K (.ref u6) (.ref u14) = some true) (x142 : PySem.W.kitOne K (.ref u6) (.type "ValueError") = some true) (x143 : PySem.W.mroIn K u6 (.type "object") = some true) (x144 : PySem.W.mroIn K u6 (.type "BaseException") = some true) (x145 : PySem.W.findIn K (.ref u6) "__class__" = some (some (.builtin "object.__class__"))) (x146 : PySem.W.findIn K (.ref u6) "__getattribute__" = some (some (.builtin "BaseException.__getattribute__"))) (x147 : PySem.W.findIn K (.ref u6) "__getattr__" = some none) (x148 : PySem.W.keepIn K (.ref u6) = true) (x149 : PySem.W.kitOne K (.ref u7) (.ref u1) = some false) (x150 : PySem.W.kitOne K (.ref u7) (.ref u2) = some false) (x151 : PySem.W.kitOne K (.ref u7) (.ref u3) = some false) (x152 : PySem.W.kitOne K (.ref u7) (.ref u4) = some false) (x153 : PySem.W.kitOne K (.ref u7) (.ref u5) = some false) (x154 : PySem.W.kitOne K (.ref u7) (.ref u6) = some false) (x155 : PySem.W.kitOne K (.ref u7) (.ref u7) = some true) (x156 : PySem.W.kitOne K (.ref u7) (.ref u8) = some false) (x157 : PySem.W.kitOne K (.ref u7) (.ref u9) = some false) (x158 : PySem.W.kitOne K (.ref u7) (.ref u10) = some false) (x159 : PySem.W.kitOne K (.ref u7) (.ref u11) = some false) (x160 : PySem.W.kitOne K (.ref u7) (.ref u12) = some false) (x161 : PySem.W.kitOne K (.ref u7) (.ref u13) = some false) (x162 : PySem.W.kitOne K (.ref u7) (.ref u14) = some true) (x163 : PySem.W.kitOne K (.ref u7) (.type "ValueError") = some true) (x164 : PySem.W.mroIn K u7 (.type "object") = some true) (x165 : PySem.W.mroIn K u7 (.type "BaseException") = some true) (x166 : PySem.W.findIn K (.ref u7) "__class__" = some (some (.builtin "object.__class__"))) (x167 : PySem.W.findIn K (.ref u7) "__getattribute__" = some (some (.builtin "BaseException.__getattribute__"))) (x168 : PySem.W.findIn K (.ref u7) "__getattr__" = some none) (x169 : PySem.W.keepIn K (.ref u7) = true) (x170 : PySem.W.kitOne K (.ref u8) (.ref u1) = some false) (x171 : PySem.W.kitOne K (.ref u8) (.ref u2) = some false) (x172 : PySem.W.kitOne K (.ref u8) (.ref u3) = some false) (x173 : PySem.W.kitOne K (.ref u8) (.ref u4) = some false) (x174 : PySem.W.kitOne K (.ref u8) (.ref u5) = some false) (x175 : PySem.W.kitOne K (.ref u8) (.ref u6) = some false) (x176 : PySem.W.kitOne K (.ref u8) (.ref u7) = some false) (x177 : PySem.W.kitOne K (.ref u8) (.ref u8) = some true) (x178 : PySem.W.kitOne K (.ref u8) (.ref u9) = some false) (x179 : PySem.W.kitOne K (.ref u8) (.ref u10) = some false) (x180 : PySem.W.kitOne K (.ref u8) (.ref u11) = some false) (x181 : PySem.W.kitOne K (.ref u8) (.ref u12) = some false) (x182 : PySem.W.kitOne K (.ref u8) (.ref u13) = some false) (x183 : PySem.W.kitOne K (.ref u8) (.ref u14) = some true) (x184 : PySem.W.kitOne K (.ref u8) (.type "ValueError") = some true) (x185 : PySem.W.mroIn K u8 (.type "object") = some true) (x186 : PySem.W.mroIn K u8 (.type "BaseException") = some true) (x187 : PySem.W.findIn K (.ref u8) "__class__" = some (some (.builtin "object.__class__"))) (x188 : PySem.W.findIn K (.ref u8) "__getattribute__" = some (some (.builtin "BaseException.__getattribute__"))) (x189 : PySem.W.findIn K (.ref u8) "__getattr__" = some none) (x190 : PySem.W.keepIn K (.ref u8) = true) (x191 : PySem.W.kitOne K (.ref u9) (.ref u1) = some false) (x192 : PySem.W.kitOne K (.ref u9) (.ref u2) = some false) (x193 : PySem.W.kitOne K (.ref u9) (.ref u3) = some false) (x194 : PySem.W.kitOne K (.ref u9) (.ref u4) = some false) (x195 : PySem.W.kitOne K (.ref u9) (.ref u5) = some false) (x196 : PySem.W.kitOne K (.ref u9) (.ref u6) = some false) (x197 : PySem.W.kitOne K (.ref u9) (.ref u7) = some false) (x198 : PySem.W.kitOne K (.ref u9) (.ref u8) = some false) (x199 : PySem.W.kitOne K (.ref u9) (.ref u9) = some true) (x200 : PySem.W.kitOne K (.ref u9) (.ref u10) = some false) (x201 : PySem.W.kitOne K (.ref u9) (.ref u11) = some false) (x202 : PySem.W.kitOne K (.ref u9) (.ref u12) = some false) (x203 : PySem.W.kitOne K (.ref u9) (.ref u13) = some false) (x204 : PySem.W.kitOne K (.ref u9) (.ref u14) = some true) (x205 : PySem.W.kitOne K (.ref u9) (.type "ValueError") = some true) (x206 : PySem.W.mroIn K u9 (.type "object") = some true) (x207 : PySem.W.mroIn K u9 (.type "BaseException") = some true) (x208 : PySem.W.findIn K (.ref u9) "__class__" = some (some (.builtin "object.__class__"))) (x209 : PySem.W.findIn K (.ref u9) "__getattribute__" = some (some (.builtin "BaseException.__getattribute__"))) (x210 : PySem.W.findIn K (.ref u9) "__getattr__" = some none) (x211 : PySem.W.keepIn K (.ref u9) = true) (x212 : PySem.W.kitOne K (.ref u10) (.ref u1) = some false) (x213 : PySem.W.kitOne K (.ref u10) (.ref u2) = some false) (x214 : PySem.W.kitOne K (.ref u10) (.ref u3) = some false) (x215 : PySem.W.kitOne K (.ref u10) (.ref u4) = some false) (x216 : PySem.W.kitOne K (.ref u10) (.ref u5) = some false) (x217 : PySem.W.kitOne K (.ref u10) (.ref u6) = some false) (x218 : PySem.W.kitOne K (.ref u10) (.ref u7) = some false) (x219 : PySem.W.kitOne K (.ref u10) (.ref u8) = some false) (x220 : PySem.W.kitOne K (.ref u10) (.ref u9) = some false) (x221 : PySem.W.kitOne K (.ref u10) (.ref u10) = some true) (x222 : PySem.W.kitOne K (.ref u10) (.ref u11) = some false) (x223 : PySem.W.kitOne K (.ref u10) (.ref u12) = some false) (x224 : PySem.W.kitOne K (.ref u10) (.ref u13) = some false) (x225 : PySem.W.kitOne K (.ref u10) (.ref u14) = some true) (x226 : PySem.W.kitOne K (.ref u10) (.type "ValueError") = some true) (x227 : PySem.W.mroIn K u10 (.type "object") = some true) (x228 : PySem.W.mroIn K u10 (.type "BaseException") = some true) (x229 : PySem.W.findIn K (.ref u10) "__class__" = some (some (.builtin "object.__class__"))) (x230 : PySem.W.findIn K (.ref u10) "__getattribute__" = some (some (.builtin "BaseException.__getattribute__"))) (x231 : PySem.W.findIn K (.ref u10) "__getattr__" = some none) (x232 : PySem.W.keepIn K (.ref u10) = true) (x233 : PySem.W.kitOne K (.ref u11) (.ref u1) = some false) (x234 : PySem.W.kitOne K (.ref u11) (.ref u2) = some false) (x235 : PySem.W.kitOne K (.ref u11) (.ref u3) = some false) (x236 : PySem.W.kitOne K (.ref u11) (.ref u4) = some false) (x237 : PySem.W.kitOne K (.ref u11) (.ref u5) = some false) (x238 : PySem.W.kitOne K (.ref u11) (.ref u6) = some false) (x239 : PySem.W.kitOne K (.ref u11) (.ref u7) = some false) (x240 : PySem.W.kitOne K (.ref u11) (.ref u8) = some false) (x241 : PySem.W.kitOne K (.ref u11) (.ref u9) = some false) (x242 : PySem.W.kitOne K (.ref u11) (.ref u10) = some false) (x243 : PySem.W.kitOne K (.ref u11) (.ref u11) = some true) (x244 : PySem.W.kitOne K (.ref u11) (.ref u12) = some false) (x245 : PySem.W.kitOne K (.ref u11) (.ref u13) = some false) (x246 : PySem.W.kitOne K (.ref u11) (.ref u14) = some true) (x247 : PySem.W.kitOne K (.ref u11) (.type "ValueError") = some true) (x248 : PySem.W.mroIn K u11 (.type "object") = some true) (x249 : PySem.W.mroIn K u11 (.type "BaseException") = some true) (x250 : PySem.W.findIn K (.ref u11) "__class__" = some (some (.builtin "object.__class__"))) (x251 : PySem.W.findIn K (.ref u11) "__getattribute__" = some (some (.builtin "BaseException.__getattribute__"))) (x252 : PySem.W.findIn K (.ref u11) "__getattr__" = some none) (x253 : PySem.W.keepIn K (.ref u11) = true) (x254 : PySem.W.kitOne K (.ref u12) (.ref u1) = some false) (x255 : PySem.W.kitOne K (.ref u12) (.ref u2) = some false) (x256 : PySem.W.kitOne K (.ref u12) (.ref u3) = some false) (x257 : PySem.W.kitOne K (.ref u12) (.ref u4) = some false) (x258 : PySem.W.kitOne K (.ref u12) (.ref u5) = some false) (x259 : PySem.W.kitOne K (.ref u12) (.ref u6) = some false) (x260 : PySem.W.kitOne K (.ref u12) (.ref u7) = some false) (x261 : PySem.W.kitOne K (.ref u12) (.ref u8) = some false) (x262 : PySem.W.kitOne K (.ref u12) (.ref u9) = some false) (x263 : PySem.W.kitOne K (.ref u12) (.ref u10) = some false) (x264 : PySem.W.kitOne K (.ref u12) (.ref u11) = some false) (x265 : PySem.W.kitOne K (.ref u12) (.ref u12) = some true) (x266 : PySem.W.kitOne K (.ref u12) (.ref u13) = some false) (x267 : PySem.W.kitOne K (.ref u12) (.ref u14) = some true) (x268 : PySem.W.kitOne K (.ref u12) (.type "ValueError") = some true) (x269 : PySem.W.mroIn K u12 (.type "object") = some true) (x270 : PySem.W.mroIn K u12 (.type "BaseException") = some true) (x271 : PySem.W.findIn K (.ref u12) "__class__" = some (some (.builtin "object.__class__"))) (x272 : PySem.W.findIn K (.ref u12) "__getattribute__" = some (some (.builtin "BaseException.__getattribute__"))) (x273 : PySem.W.findIn K (.ref u12) "__getattr__" = some none) (x274 : PySem.W.keepIn K (.ref u12) = true) (x275 : PySem.W.kitOne K (.ref u13) (.ref u1) = some false) (x276 : PySem.W.kitOne K (.ref u13) (.ref u2) = some false) (x277 : PySem.W.kitOne K (.ref u13) (.ref u3) = some false) (x278 : PySem.W.kitOne K (.ref u13) (.ref u4) = some false) (x279 : PySem.W.kitOne K (.ref u13) (.ref u5) = some false) (x280 : PySem.W.kitOne K (.ref u13) (.ref u6) = some false) (x281 : PySem.W.kitOne K (.ref u13) (.ref u7) = some false) (x282 : PySem.W.kitOne K (.ref u13) (.ref u8) = some false) (x283 : PySem.W.kitOne K (.ref u13) (.ref u9) = some false) (x284 : PySem.W.kitOne K (.ref u13) (.ref u10) = some false) (x285 : PySem.W.kitOne K (.ref u13) (.ref u11) = some false) (x286 : PySem.W.kitOne K (.ref u13) (.ref u12) = some false) (x287 : PySem.W.kitOne K (.ref u13) (.ref u13) = some true) (x288 : PySem.W.kitOne K (.ref u13) (.ref u14) = some true) (x289 : PySem.W.kitOne K (.ref u13) (.type "ValueError") = some true) (x290 : PySem.W.mroIn K u13 (.type "object") = some true) (x291 : PySem.W.mroIn K u13 (.type "BaseException") = some true) (x292 : PySem.W.findIn K (.ref u13) "__class__" = some (some (.builtin "object.__class__"))) (x293 : PySem.W.findIn K (.ref u13) "__getattribute__" = some (some (.builtin "BaseException.__getattribute__"))) (x294 : PySem.W.findIn K (.ref u13) "__getattr__" = some none) (x295 : PySem.W.keepIn K (.ref u13) = true) :
    ∃ fd : FuncData, (∀ (s : Shared) (v : Value), BindsTo s fd ⟨[v], []⟩ [("script", v)]) ∧ ∀ base : Heap, K.In base → base.Ns mainGlobals mg → FnOk l.prog w K mg base CX0 20 fa fd ["script"] (spLaw K) := by
  have e := hfa.symm.trans (PySem.W.mg_of X G a4)
  cases e
  have F1 := fun_mk (st := sMixed) l1 c1 k1
  have b1 := F1.binds (ps := ["cell", "k"]) fun _ _ _ _ _ _ us hl => match us, hl with | [_, _], _ => rfl
  have m1 := PySem.W.mg_of X G a1
  have F2 := fun_mk (st := sNumbers) l2 c2 k2
  have b2 := F2.binds (ps := ["cell", "many", "base"]) fun _ _ _ _ _ _ us hl => match us, hl with | [_, _, _], _ => rfl
  have m2 := PySem.W.mg_of X G a2
  have F3 := fun_mk (st := sMarks) l3 c3 k3
  have b3 := F3.binds (ps := ["made"]) fun _ _ _ _ _ _ us hl => match us, hl with | [_], _ => rfl
  have m3 := PySem.W.mg_of X G a3
  have F4 := fun_mk (st := sLaw) l4 c4 k4
  have z1 := PySem.W.mg_none_of X G y1
  have z2 := PySem.W.mg_none_of X G y2
  have z3 := PySem.W.mg_none_of X G y3
  have z4 := PySem.W.mg_none_of X G y4
  have o1 := PySem.W.mg_of X G n1
  have o2 := PySem.W.mg_of X G n2
  have o3 := PySem.W.mg_of X G n3
  have o4 := PySem.W.mg_of X G n4
  have o5 := PySem.W.mg_of X G n5
  have o6 := PySem.W.mg_of X G n6
  have o7 := PySem.W.mg_of X G n7
  have o8 := PySem.W.mg_of X G n8
  have o9 := PySem.W.mg_of X G n9
  have o10 := PySem.W.mg_of X G n10
  have o11 := PySem.W.mg_of X G n11
  have o12 := PySem.W.mg_of X G n12
  have o13 := PySem.W.mg_of X G n13
  have o14 := PySem.W.mg_of X G n14
  refine ⟨PySem.W.fnOf "law" "law" (defArgs sLaw) (defBody sLaw) (defScope sLaw) .none kV4 dc4 pm4 an4 cd4 ct4, fun s v => .of_eq rfl, fun base _ _ => ?_⟩
  have FI := fun_mk (st := sInit) x3 x4 x5
  have BI := FI.binds (ps := ["self", "at"]) fun _ _ _ _ _ _ us hl => match us, hl with | [_, _], _ => rfl
  have TI : ExcT K u4 fI := ⟨⟨⟨nmI, qI, NI, bsI, u14, snI, subI, abI, colI, ddI, kI0, kI1, kI2, kI3, kI5, _, _, _, _, x1, x10, x2, x3, rfl⟩⟩, x101, x102, x6, x7, x104, x105, x106⟩
  have r1 : Tw.RowIs K u1 [u1, u2, u3, u4, u5, u6, u7, u8, u9, u10, u11, u12, u13] [true, false, false, false, false, false, false, false, false, false, false, false, false] := ⟨x23, x24, x25, x26, x27, x28, x29, x30, x31, x32, x33, x34, x35, trivial⟩
  have r2 : Tw.RowIs K u2 [u1, u2, u3, u4, u5, u6, u7, u8, u9, u10, u11, u12, u13] [false, true, false, false, false, false, false, false, false, false, false, false, false] := ⟨x44, x45, x46, x47, x48, x49, x50, x51, x52, x53, x54, x55, x56, trivial⟩
  have r3 : Tw.RowIs K u3 [u1, u2, u3, u4, u5, u6, u7, u8, u9, u10, u11, u12, u13] [false, false, true, false, false, false, false, false, false, false, false, false, false] := ⟨x65, x66, x67, x68, x69, x70, x71, x72, x73, x74, x75, x76, x77, trivial⟩
  have r4 : Tw.RowIs K u4 [u1, u2, u3, u4, u5, u6, u7, u8, u9, u10, u11, u12, u13] [false, false, false, true, false, false, false, false, false, false, false, false, false] := ⟨x86, x87, x88, x89, x90, x91, x92, x93, x94, x95, x96, x97, x98, trivial⟩
  have r5 : Tw.RowIs K u5 [u1, u2, u3, u4, u5, u6, u7, u8, u9, u10, u11, u12, u13] [false, false, false, false, true, false, false, false, false, false, false, false, false] := ⟨x107, x108, x109, x110, x111, x112, x113, x114, x115, x116, x117, x118, x119, trivial⟩
  have r6 : Tw.RowIs K u6 [u1, u2, u3, u4, u5, u6, u7, u8, u9, u10, u11, u12, u13] [false, false, false, false, false, true, false, false, false, false, false, false, false] := ⟨x128, x129, x130, x131, x132, x133, x134, x135, x136, x137, x138, x139, x140, trivial⟩
  have r7 : Tw.RowIs K u7 [u1, u2, u3, u4, u5, u6, u7, u8, u9, u10, u11, u12, u13] [false, false, false, false, false, false, true, false, false, false, false, false, false] := ⟨x149, x150, x151, x152, x153, x154, x155, x156, x157, x158, x159, x160, x161, trivial⟩
  have r8 : Tw.RowIs K u8 [u1, u2, u3, u4, u5, u6, u7, u8, u9, u10, u11, u12, u13] [false, false, false, false, false, false, false, true, false, false, false, false, false] := ⟨x170, x171, x172, x173, x174, x175, x176, x177, x178, x179, x180, x181, x182, trivial⟩
  have r9 : Tw.RowIs K u9 [u1, u2, u3, u4, u5, u6, u7, u8, u9, u10, u11, u12, u13] [false, false, false, false, false, false, false, false, true, false, false, false, false] := ⟨x191, x192, x193, x194, x195, x196, x197, x198, x199, x200, x201, x202, x203, trivial⟩
  have r10 : Tw.RowIs K u10 [u1, u2, u3, u4, u5, u6, u7, u8, u9, u10, u11, u12, u13] [false, false, false, false, false, false, false, false, false, true, false, false, false] := ⟨x212, x213, x214, x215, x216, x217, x218, x219, x220, x221, x222, x223, x224, trivial⟩
  have r11 : Tw.RowIs K u11 [u1, u2, u3, u4, u5, u6, u7, u8, u9, u10, u11, u12, u13] [false, false, false, false, false, false, false, false, false, false, true, false, false] := ⟨x233, x234, x235, x236, x237, x238, x239, x240, x241, x242, x243, x244, x245, trivial⟩
  have r12 : Tw.RowIs K u12 [u1, u2, u3, u4, u5, u6, u7, u8, u9, u10, u11, u12, u13] [false, false, false, false, false, false, false, false, false, false, false, true, false] := ⟨x254, x255, x256, x257, x258, x259, x260, x261, x262, x263, x264, x265, x266, trivial⟩
  have r13 : Tw.RowIs K u13 [u1, u2, u3, u4, u5, u6, u7, u8, u9, u10, u11, u12, u13] [false, false, false, false, false, false, false, false, false, false, false, false, true] := ⟨x275, x276, x277, x278, x279, x280, x281, x282, x283, x284, x285, x286, x287, trivial⟩
  have cl : Tw.Cl13 K u14 [u1, u2, u3, u4, u5, u6, u7, u8, u9, u10, u11, u12, u13] := Tw.cls_of (fun i h => match i, h with | 0, _ => r1 | 1, _ => r2 | 2, _ => r3 | 3, _ => r4 | 4, _ => r5 | 5, _ => r6 | 6, _ => r7 | 7, _ => r8 | 8, _ => r9 | 9, _ => r10 | 10, _ => r11 | 11, _ => r12 | 12, _ => r13 | n + 13, h => absurd h (by show ¬ n + 13 < 13; omega)) ⟨⟨x36, x37, x38, x39, x40, x41, x42, x43⟩, ⟨x57, x58, x59, x60, x61, x62, x63, x64⟩, ⟨x78, x79, x80, x81, x82, x83, x84, x85⟩, ⟨x99, x100, x101, x102, x103, x104, x105, x106⟩, ⟨x120, x121, x122, x123, x124, x125, x126, x127⟩, ⟨x141, x142, x143, x144, x145, x146, x147, x148⟩, ⟨x162, x163, x164, x165, x166, x167, x168, x169⟩, ⟨x183, x184, x185, x186, x187, x188, x189, x190⟩, ⟨x204, x205, x206, x207, x208, x209, x210, x211⟩, ⟨x225, x226, x227, x228, x229, x230, x231, x232⟩, ⟨x246, x247, x248, x249, x250, x251, x252, x253⟩, ⟨x267, x268, x269, x270, x271, x272, x273, x274⟩, ⟨x288, x289, x290, x291, x292, x293, x294, x295⟩, trivial⟩
  have hI := fn_init (P := l.prog) (w := w) (base := base) (k := 0) o14 x8 x9 x10 FI
  obtain ⟨g1, h1, s1⟩ := fn_mixed (P := l.prog) (w := w) (base := base) (k := 0) F1 b1 m1
  obtain ⟨g2, h2, s2⟩ := fn_numbers h1 s1 z3 F2 b2 m2
  obtain ⟨g3, h3, s3⟩ := fn_marks (P := l.prog) (w := w) (base := base) (k := 0) cl o1 o2 o3 o4 o5 o6 o7 o8 o9 o10 o11 o12 o13 z2 F3 b3 m3
  exact fn_law (k := 18) (h2.mono (k := 19) (by decide)) s2 (h3.mono (k := 19) (by decide)) s3 TI (hI.mono (by decide)) BI cl x11 x12 x13 x14 x15 x16 x17 x18 x19 x20 x21 x22 o14 o1 o2 o3 o4 o5 o6 o7 o8 o9 o10 o11 o12 o13 z2 z3 z1 z4 F4
end K5
open PySem PySem.W PyProof.Rows
set_option maxRecDepth 100000 in
set_option maxHeartbeats 0 in
theorem PySem.Challenge.cw_twainhoard_k05_refusals_apart_holds : PySem.Challenge.rw_twainhoard_k05_refusals_apart.Holds := by
  w_on; o_law; k_head; (case hw => w_witness2)
  k_fill
  refine Tw.walk (l := PySem.Challenge.rw_twainhoard_k05_refusals_apart) rfl rfl (fun w h Y => PySem.W.kIn_of Y) ?F
  case F =>
    intro w mg fa h KX G hmg
    refine' K5.all_mk KX G hmg ?a1 ?l1 ?c1 ?k1 ?a2 ?l2 ?c2 ?k2 ?a3 ?l3 ?c3 ?k3 ?a4 ?l4 ?c4 ?k4 ?y1 ?y2 ?y3 ?y4 ?n1 ?n2 ?n3 ?n4 ?n5 ?n6 ?n7 ?n8 ?n9 ?n10 ?n11 ?n12 ?n13 ?n14 ?x1 ?x2 ?x3 ?x4 ?x5 ?x6 ?x7 ?x8 ?x9 ?x10 ?x11 ?x12 ?x13 ?x14 ?x15 ?x16 ?x17 ?x18 ?x19 ?x20 ?x21 ?x22 ?x23 ?x24 ?x25 ?x26 ?x27 ?x28 ?x29 ?x30 ?x31 ?x32 ?x33 ?x34 ?x35 ?x36 ?x37 ?x38 ?x39 ?x40 ?x41 ?x42 ?x43 ?x44 ?x45 ?x46 ?x47 ?x48 ?x49 ?x50 ?x51 ?x52 ?x53 ?x54 ?x55 ?x56 ?x57 ?x58 ?x59 ?x60 ?x61 ?x62 ?x63 ?x64 ?x65 ?x66 ?x67 ?x68 ?x69 ?x70 ?x71 ?x72 ?x73 ?x74 ?x75 ?x76 ?x77 ?x78 ?x79 ?x80 ?x81 ?x82 ?x83 ?x84 ?x85 ?x86 ?x87 ?x88 ?x89 ?x90 ?x91 ?x92 ?x93 ?x94 ?x95 ?x96 ?x97 ?x98 ?x99 ?x100 ?x101 ?x102 ?x103 ?x104 ?x105 ?x106 ?x107 ?x108 ?x109 ?x110 ?x111 ?x112 ?x113 ?x114 ?x115 ?x116 ?x117 ?x118 ?x119 ?x120 ?x121 ?x122 ?x123 ?x124 ?x125 ?x126 ?x127 ?x128 ?x129 ?x130 ?x131 ?x132 ?x133 ?x134 ?x135 ?x136 ?x137 ?x138 ?x139 ?x140 ?x141 ?x142 ?x143 ?x144 ?x145 ?x146 ?x147 ?x148 ?x149 ?x150 ?x151 ?x152 ?x153 ?x154 ?x155 ?x156 ?x157 ?x158 ?x159 ?x160 ?x161 ?x162 ?x163 ?x164 ?x165 ?x166 ?x167 ?x168 ?x169 ?x170 ?x171 ?x172 ?x173 ?x174 ?x175 ?x176 ?x177 ?x178 ?x179 ?x180 ?x181 ?x182 ?x183 ?x184 ?x185 ?x186 ?x187 ?x188 ?x189 ?x190 ?x191 ?x192 ?x193 ?x194 ?x195 ?x196 ?x197 ?x198 ?x199 ?x200 ?x201 ?x202 ?x203 ?x204 ?x205 ?x206 ?x207 ?x208 ?x209 ?x210 ?x211 ?x212 ?x213 ?x214 ?x215 ?x216 ?x217 ?x218 ?x219 ?x220 ?x221 ?x222 ?x223 ?x224 ?x225 ?x226 ?x227 ?x228 ?x229 ?x230 ?x231 ?x232 ?x233 ?x234 ?x235 ?x236 ?x237 ?x238 ?x239 ?x240 ?x241 ?x242 ?x243 ?x244 ?x245 ?x246 ?x247 ?x248 ?x249 ?x250 ?x251 ?x252 ?x253 ?x254 ?x255 ?x256 ?x257 ?x258 ?x259 ?x260 ?x261 ?x262 ?x263 ?x264 ?x265 ?x266 ?x267 ?x268 ?x269 ?x270 ?x271 ?x272 ?x273 ?x274 ?x275 ?x276 ?x277 ?x278 ?x279 ?x280 ?x281 ?x282 ?x283 ?x284 ?x285 ?x286 ?x287 ?x288 ?x289 ?x290 ?x291 ?x292 ?x293 ?x294 ?x295
    (case a1 => k_is); (case l1 => k_is); (case c1 => k_is); (case k1 => k_is)
    (case a2 => k_is); (case l2 => k_is); (case c2 => k_is); (case k2 => k_is)
    (case a3 => k_is); (case l3 => k_is); (case c3 => k_is); (case k3 => k_is)
    (case a4 => k_is); (case l4 => k_is); (case c4 => k_is); (case k4 => k_is)
    (case y1 => k_is)
    (case y2 => k_is)
    (case y3 => k_is)
    (case y4 => k_is)
    (case n1 => k_is)
    (case n2 => k_is)
    (case n3 => k_is)
    (case n4 => k_is)
    (case n5 => k_is)
    (case n6 => k_is)
    (case n7 => k_is)
    (case n8 => k_is)
    (case n9 => k_is)
    (case n10 => k_is)
    (case n11 => k_is)
    (case n12 => k_is)
    (case n13 => k_is)
    (case n14 => k_is)
    (case x1 => first | k_is | k_exc | kit_is | kts_exm)
    (case x2 => first | k_is | k_exc | kit_is | kts_exm)
    (case x3 => first | k_is | k_exc | kit_is | kts_exm)
    (case x4 => first | k_is | k_exc | kit_is | kts_exm)
    (case x5 => first | k_is | k_exc | kit_is | kts_exm)
    (case x6 => first | k_is | k_exc | kit_is | kts_exm)
    (case x7 => first | k_is | k_exc | kit_is | kts_exm)
    (case x8 => first | k_is | k_exc | kit_is | kts_exm)
    (case x9 => first | k_is | k_exc | kit_is | kts_exm)
    (case x10 => first | k_is | k_exc | kit_is | kts_exm)
    (case x11 => first | k_is | k_exc | kit_is | kts_exm)
    (case x12 => first | k_is | k_exc | kit_is | kts_exm)
    (case x13 => first | k_is | k_exc | kit_is | kts_exm)
    (case x14 => first | k_is | k_exc | kit_is | kts_exm)
    (case x15 => first | k_is | k_exc | kit_is | kts_exm)
    (case x16 => first | k_is | k_exc | kit_is | kts_exm)
    (case x17 => first | k_is | k_exc | kit_is | kts_exm)
    (case x18 => first | k_is | k_exc | kit_is | kts_exm)
    (case x19 => first | k_is | k_exc | kit_is | kts_exm)
    (case x20 => first | k_is | k_exc | kit_is | kts_exm)
    (case x21 => first | k_is | k_exc | kit_is | kts_exm)
    (case x22 => first | k_is | k_exc | kit_is | kts_exm)
    (case x23 => first | k_is | k_exc | kit_is | kts_exm)
    (case x24 => first | k_is | k_exc | kit_is | kts_exm)
    (case x25 => first | k_is | k_exc | kit_is | kts_exm)
    (case x26 => first | k_is | k_exc | kit_is | kts_exm)
    (case x27 => first | k_is | k_exc | kit_is | kts_exm)
    (case x28 => first | k_is | k_exc | kit_is | kts_exm)
    (case x29 => first | k_is | k_exc | kit_is | kts_exm)
    (case x30 => first | k_is | k_exc | kit_is | kts_exm)
    (case x31 => first | k_is | k_exc | kit_is | kts_exm)
    (case x32 => first | k_is | k_exc | kit_is | kts_exm)
    (case x33 => first | k_is | k_exc | kit_is | kts_exm)
    (case x34 => first | k_is | k_exc | kit_is | kts_exm)
    (case x35 => first | k_is | k_exc | kit_is | kts_exm)
    (case x36 => first | k_is | k_exc | kit_is | kts_exm)
    (case x37 => first | k_is | k_exc | kit_is | kts_exm)
    (case x38 => first | k_is | k_exc | kit_is | kts_exm)
    (case x39 => first | k_is | k_exc | kit_is | kts_exm)
    (case x40 => first | k_is | k_exc | kit_is | kts_exm)
    (case x41 => first | k_is | k_exc | kit_is | kts_exm)
    (case x42 => first | k_is | k_exc | kit_is | kts_exm)
    (case x43 => first | k_is | k_exc | kit_is | kts_exm)
    (case x44 => first | k_is | k_exc | kit_is | kts_exm)
    (case x45 => first | k_is | k_exc | kit_is | kts_exm)
    (case x46 => first | k_is | k_exc | kit_is | kts_exm)
    (case x47 => first | k_is | k_exc | kit_is | kts_exm)
    (case x48 => first | k_is | k_exc | kit_is | kts_exm)
    (case x49 => first | k_is | k_exc | kit_is | kts_exm)
    (case x50 => first | k_is | k_exc | kit_is | kts_exm)
    (case x51 => first | k_is | k_exc | kit_is | kts_exm)
    (case x52 => first | k_is | k_exc | kit_is | kts_exm)
    (case x53 => first | k_is | k_exc | kit_is | kts_exm)
    (case x54 => first | k_is | k_exc | kit_is | kts_exm)
    (case x55 => first | k_is | k_exc | kit_is | kts_exm)
    (case x56 => first | k_is | k_exc | kit_is | kts_exm)
    (case x57 => first | k_is | k_exc | kit_is | kts_exm)
    (case x58 => first | k_is | k_exc | kit_is | kts_exm)
    (case x59 => first | k_is | k_exc | kit_is | kts_exm)
    (case x60 => first | k_is | k_exc | kit_is | kts_exm)
    (case x61 => first | k_is | k_exc | kit_is | kts_exm)
    (case x62 => first | k_is | k_exc | kit_is | kts_exm)
    (case x63 => first | k_is | k_exc | kit_is | kts_exm)
    (case x64 => first | k_is | k_exc | kit_is | kts_exm)
    (case x65 => first | k_is | k_exc | kit_is | kts_exm)
    (case x66 => first | k_is | k_exc | kit_is | kts_exm)
    (case x67 => first | k_is | k_exc | kit_is | kts_exm)
    (case x68 => first | k_is | k_exc | kit_is | kts_exm)
    (case x69 => first | k_is | k_exc | kit_is | kts_exm)
    (case x70 => first | k_is | k_exc | kit_is | kts_exm)
    (case x71 => first | k_is | k_exc | kit_is | kts_exm)
    (case x72 => first | k_is | k_exc | kit_is | kts_exm)
    (case x73 => first | k_is | k_exc | kit_is | kts_exm)
    (case x74 => first | k_is | k_exc | kit_is | kts_exm)
    (case x75 => first | k_is | k_exc | kit_is | kts_exm)
    (case x76 => first | k_is | k_exc | kit_is | kts_exm)
    (case x77 => first | k_is | k_exc | kit_is | kts_exm)
    (case x78 => first | k_is | k_exc | kit_is | kts_exm)
    (case x79 => first | k_is | k_exc | kit_is | kts_exm)
    (case x80 => first | k_is | k_exc | kit_is | kts_exm)
    (case x81 => first | k_is | k_exc | kit_is | kts_exm)
    (case x82 => first | k_is | k_exc | kit_is | kts_exm)
    (case x83 => first | k_is | k_exc | kit_is | kts_exm)
    (case x84 => first | k_is | k_exc | kit_is | kts_exm)
    (case x85 => first | k_is | k_exc | kit_is | kts_exm)
    (case x86 => first | k_is | k_exc | kit_is | kts_exm)
    (case x87 => first | k_is | k_exc | kit_is | kts_exm)
    (case x88 => first | k_is | k_exc | kit_is | kts_exm)
    (case x89 => first | k_is | k_exc | kit_is | kts_exm)
    (case x90 => first | k_is | k_exc | kit_is | kts_exm)
    (case x91 => first | k_is | k_exc | kit_is | kts_exm)
    (case x92 => first | k_is | k_exc | kit_is | kts_exm)
    (case x93 => first | k_is | k_exc | kit_is | kts_exm)
    (case x94 => first | k_is | k_exc | kit_is | kts_exm)
    (case x95 => first | k_is | k_exc | kit_is | kts_exm)
    (case x96 => first | k_is | k_exc | kit_is | kts_exm)
    (case x97 => first | k_is | k_exc | kit_is | kts_exm)
    (case x98 => first | k_is | k_exc | kit_is | kts_exm)
    (case x99 => first | k_is | k_exc | kit_is | kts_exm)
    (case x100 => first | k_is | k_exc | kit_is | kts_exm)
    (case x101 => first | k_is | k_exc | kit_is | kts_exm)
    (case x102 => first | k_is | k_exc | kit_is | kts_exm)
    (case x103 => first | k_is | k_exc | kit_is | kts_exm)
    (case x104 => first | k_is | k_exc | kit_is | kts_exm)
    (case x105 => first | k_is | k_exc | kit_is | kts_exm)
    (case x106 => first | k_is | k_exc | kit_is | kts_exm)
    (case x107 => first | k_is | k_exc | kit_is | kts_exm)
    (case x108 => first | k_is | k_exc | kit_is | kts_exm)
    (case x109 => first | k_is | k_exc | kit_is | kts_exm)
    (case x110 => first | k_is | k_exc | kit_is | kts_exm)
    (case x111 => first | k_is | k_exc | kit_is | kts_exm)
    (case x112 => first | k_is | k_exc | kit_is | kts_exm)
    (case x113 => first | k_is | k_exc | kit_is | kts_exm)
    (case x114 => first | k_is | k_exc | kit_is | kts_exm)
    (case x115 => first | k_is | k_exc | kit_is | kts_exm)
    (case x116 => first | k_is | k_exc | kit_is | kts_exm)
    (case x117 => first | k_is | k_exc | kit_is | kts_exm)
    (case x118 => first | k_is | k_exc | kit_is | kts_exm)
    (case x119 => first | k_is | k_exc | kit_is | kts_exm)
    (case x120 => first | k_is | k_exc | kit_is | kts_exm)
    (case x121 => first | k_is | k_exc | kit_is | kts_exm)
    (case x122 => first | k_is | k_exc | kit_is | kts_exm)
    (case x123 => first | k_is | k_exc | kit_is | kts_exm)
    (case x124 => first | k_is | k_exc | kit_is | kts_exm)
    (case x125 => first | k_is | k_exc | kit_is | kts_exm)
    (case x126 => first | k_is | k_exc | kit_is | kts_exm)
    (case x127 => first | k_is | k_exc | kit_is | kts_exm)
    (case x128 => first | k_is | k_exc | kit_is | kts_exm)
    (case x129 => first | k_is | k_exc | kit_is | kts_exm)
    (case x130 => first | k_is | k_exc | kit_is | kts_exm)
    (case x131 => first | k_is | k_exc | kit_is | kts_exm)
    (case x132 => first | k_is | k_exc | kit_is | kts_exm)
    (case x133 => first | k_is | k_exc | kit_is | kts_exm)
    (case x134 => first | k_is | k_exc | kit_is | kts_exm)
    (case x135 => first | k_is | k_exc | kit_is | kts_exm)
    (case x136 => first | k_is | k_exc | kit_is | kts_exm)
    (case x137 => first | k_is | k_exc | kit_is | kts_exm)
    (case x138 => first | k_is | k_exc | kit_is | kts_exm)
    (case x139 => first | k_is | k_exc | kit_is | kts_exm)
    (case x140 => first | k_is | k_exc | kit_is | kts_exm)
    (case x141 => first | k_is | k_exc | kit_is | kts_exm)
    (case x142 => first | k_is | k_exc | kit_is | kts_exm)
    (case x143 => first | k_is | k_exc | kit_is | kts_exm)
    (case x144 => first | k_is | k_exc | kit_is | kts_exm)
    (case x145 => first | k_is | k_exc | kit_is | kts_exm)
    (case x146 => first | k_is | k_exc | kit_is | kts_exm)
    (case x147 => first | k_is | k_exc | kit_is | kts_exm)
    (case x148 => first | k_is | k_exc | kit_is | kts_exm)
    (case x149 => first | k_is | k_exc | kit_is | kts_exm)
    (case x150 => first | k_is | k_exc | kit_is | kts_exm)
    (case x151 => first | k_is | k_exc | kit_is | kts_exm)
    (case x152 => first | k_is | k_exc | kit_is | kts_exm)
    (case x153 => first | k_is | k_exc | kit_is | kts_exm)
    (case x154 => first | k_is | k_exc | kit_is | kts_exm)
    (case x155 => first | k_is | k_exc | kit_is | kts_exm)
    (case x156 => first | k_is | k_exc | kit_is | kts_exm)
    (case x157 => first | k_is | k_exc | kit_is | kts_exm)
    (case x158 => first | k_is | k_exc | kit_is | kts_exm)
    (case x159 => first | k_is | k_exc | kit_is | kts_exm)
    (case x160 => first | k_is | k_exc | kit_is | kts_exm)
    (case x161 => first | k_is | k_exc | kit_is | kts_exm)
    (case x162 => first | k_is | k_exc | kit_is | kts_exm)
    (case x163 => first | k_is | k_exc | kit_is | kts_exm)
    (case x164 => first | k_is | k_exc | kit_is | kts_exm)
    (case x165 => first | k_is | k_exc | kit_is | kts_exm)
    (case x166 => first | k_is | k_exc | kit_is | kts_exm)
    (case x167 => first | k_is | k_exc | kit_is | kts_exm)
    (case x168 => first | k_is | k_exc | kit_is | kts_exm)
    (case x169 => first | k_is | k_exc | kit_is | kts_exm)
    (case x170 => first | k_is | k_exc | kit_is | kts_exm)
    (case x171 => first | k_is | k_exc | kit_is | kts_exm)
    (case x172 => first | k_is | k_exc | kit_is | kts_exm)
    (case x173 => first | k_is | k_exc | kit_is | kts_exm)
    (case x174 => first | k_is | k_exc | kit_is | kts_exm)
    (case x175 => first | k_is | k_exc | kit_is | kts_exm)
    (case x176 => first | k_is | k_exc | kit_is | kts_exm)
    (case x177 => first | k_is | k_exc | kit_is | kts_exm)
    (case x178 => first | k_is | k_exc | kit_is | kts_exm)
    (case x179 => first | k_is | k_exc | kit_is | kts_exm)
    (case x180 => first | k_is | k_exc | kit_is | kts_exm)
    (case x181 => first | k_is | k_exc | kit_is | kts_exm)
    (case x182 => first | k_is | k_exc | kit_is | kts_exm)
    (case x183 => first | k_is | k_exc | kit_is | kts_exm)
    (case x184 => first | k_is | k_exc | kit_is | kts_exm)
    (case x185 => first | k_is | k_exc | kit_is | kts_exm)
    (case x186 => first | k_is | k_exc | kit_is | kts_exm)
    (case x187 => first | k_is | k_exc | kit_is | kts_exm)
    (case x188 => first | k_is | k_exc | kit_is | kts_exm)
    (case x189 => first | k_is | k_exc | kit_is | kts_exm)
    (case x190 => first | k_is | k_exc | kit_is | kts_exm)
    (case x191 => first | k_is | k_exc | kit_is | kts_exm)
    (case x192 => first | k_is | k_exc | kit_is | kts_exm)
    (case x193 => first | k_is | k_exc | kit_is | kts_exm)
    (case x194 => first | k_is | k_exc | kit_is | kts_exm)
    (case x195 => first | k_is | k_exc | kit_is | kts_exm)
    (case x196 => first | k_is | k_exc | kit_is | kts_exm)
    (case x197 => first | k_is | k_exc | kit_is | kts_exm)
    (case x198 => first | k_is | k_exc | kit_is | kts_exm)
    (case x199 => first | k_is | k_exc | kit_is | kts_exm)
    (case x200 => first | k_is | k_exc | kit_is | kts_exm)
    (case x201 => first | k_is | k_exc | kit_is | kts_exm)
    (case x202 => first | k_is | k_exc | kit_is | kts_exm)
    (case x203 => first | k_is | k_exc | kit_is | kts_exm)
    (case x204 => first | k_is | k_exc | kit_is | kts_exm)
    (case x205 => first | k_is | k_exc | kit_is | kts_exm)
    (case x206 => first | k_is | k_exc | kit_is | kts_exm)
    (case x207 => first | k_is | k_exc | kit_is | kts_exm)
    (case x208 => first | k_is | k_exc | kit_is | kts_exm)
    (case x209 => first | k_is | k_exc | kit_is | kts_exm)
    (case x210 => first | k_is | k_exc | kit_is | kts_exm)
    (case x211 => first | k_is | k_exc | kit_is | kts_exm)
    (case x212 => first | k_is | k_exc | kit_is | kts_exm)
    (case x213 => first | k_is | k_exc | kit_is | kts_exm)
    (case x214 => first | k_is | k_exc | kit_is | kts_exm)
    (case x215 => first | k_is | k_exc | kit_is | kts_exm)
    (case x216 => first | k_is | k_exc | kit_is | kts_exm)
    (case x217 => first | k_is | k_exc | kit_is | kts_exm)
    (case x218 => first | k_is | k_exc | kit_is | kts_exm)
    (case x219 => first | k_is | k_exc | kit_is | kts_exm)
    (case x220 => first | k_is | k_exc | kit_is | kts_exm)
    (case x221 => first | k_is | k_exc | kit_is | kts_exm)
    (case x222 => first | k_is | k_exc | kit_is | kts_exm)
    (case x223 => first | k_is | k_exc | kit_is | kts_exm)
    (case x224 => first | k_is | k_exc | kit_is | kts_exm)
    (case x225 => first | k_is | k_exc | kit_is | kts_exm)
    (case x226 => first | k_is | k_exc | kit_is | kts_exm)
    (case x227 => first | k_is | k_exc | kit_is | kts_exm)
    (case x228 => first | k_is | k_exc | kit_is | kts_exm)
    (case x229 => first | k_is | k_exc | kit_is | kts_exm)
    (case x230 => first | k_is | k_exc | kit_is | kts_exm)
    (case x231 => first | k_is | k_exc | kit_is | kts_exm)
    (case x232 => first | k_is | k_exc | kit_is | kts_exm)
    (case x233 => first | k_is | k_exc | kit_is | kts_exm)
    (case x234 => first | k_is | k_exc | kit_is | kts_exm)
    (case x235 => first | k_is | k_exc | kit_is | kts_exm)
    (case x236 => first | k_is | k_exc | kit_is | kts_exm)
    (case x237 => first | k_is | k_exc | kit_is | kts_exm)
    (case x238 => first | k_is | k_exc | kit_is | kts_exm)
    (case x239 => first | k_is | k_exc | kit_is | kts_exm)
    (case x240 => first | k_is | k_exc | kit_is | kts_exm)
    (case x241 => first | k_is | k_exc | kit_is | kts_exm)
    (case x242 => first | k_is | k_exc | kit_is | kts_exm)
    (case x243 => first | k_is | k_exc | kit_is | kts_exm)
    (case x244 => first | k_is | k_exc | kit_is | kts_exm)
    (case x245 => first | k_is | k_exc | kit_is | kts_exm)
    (case x246 => first | k_is | k_exc | kit_is | kts_exm)
    (case x247 => first | k_is | k_exc | kit_is | kts_exm)
    (case x248 => first | k_is | k_exc | kit_is | kts_exm)
    (case x249 => first | k_is | k_exc | kit_is | kts_exm)
    (case x250 => first | k_is | k_exc | kit_is | kts_exm)
    (case x251 => first | k_is | k_exc | kit_is | kts_exm)
    (case x252 => first | k_is | k_exc | kit_is | kts_exm)
    (case x253 => first | k_is | k_exc | kit_is | kts_exm)
    (case x254 => first | k_is | k_exc | kit_is | kts_exm)
    (case x255 => first | k_is | k_exc | kit_is | kts_exm)
    (case x256 => first | k_is | k_exc | kit_is | kts_exm)
    (case x257 => first | k_is | k_exc | kit_is | kts_exm)
    (case x258 => first | k_is | k_exc | kit_is | kts_exm)
    (case x259 => first | k_is | k_exc | kit_is | kts_exm)
    (case x260 => first | k_is | k_exc | kit_is | kts_exm)
    (case x261 => first | k_is | k_exc | kit_is | kts_exm)
    (case x262 => first | k_is | k_exc | kit_is | kts_exm)
    (case x263 => first | k_is | k_exc | kit_is | kts_exm)
    (case x264 => first | k_is | k_exc | kit_is | kts_exm)
    (case x265 => first | k_is | k_exc | kit_is | kts_exm)
    (case x266 => first | k_is | k_exc | kit_is | kts_exm)
    (case x267 => first | k_is | k_exc | kit_is | kts_exm)
    (case x268 => first | k_is | k_exc | kit_is | kts_exm)
    (case x269 => first | k_is | k_exc | kit_is | kts_exm)
    (case x270 => first | k_is | k_exc | kit_is | kts_exm)
    (case x271 => first | k_is | k_exc | kit_is | kts_exm)
    (case x272 => first | k_is | k_exc | kit_is | kts_exm)
    (case x273 => first | k_is | k_exc | kit_is | kts_exm)
    (case x274 => first | k_is | k_exc | kit_is | kts_exm)
    (case x275 => first | k_is | k_exc | kit_is | kts_exm)
    (case x276 => first | k_is | k_exc | kit_is | kts_exm)
    (case x277 => first | k_is | k_exc | kit_is | kts_exm)
    (case x278 => first | k_is | k_exc | kit_is | kts_exm)
    (case x279 => first | k_is | k_exc | kit_is | kts_exm)
    (case x280 => first | k_is | k_exc | kit_is | kts_exm)
    (case x281 => first | k_is | k_exc | kit_is | kts_exm)
    (case x282 => first | k_is | k_exc | kit_is | kts_exm)
    (case x283 => first | k_is | k_exc | kit_is | kts_exm)
    (case x284 => first | k_is | k_exc | kit_is | kts_exm)
    (case x285 => first | k_is | k_exc | kit_is | kts_exm)
    (case x286 => first | k_is | k_exc | kit_is | kts_exm)
    (case x287 => first | k_is | k_exc | kit_is | kts_exm)
    (case x288 => first | k_is | k_exc | kit_is | kts_exm)
    (case x289 => first | k_is | k_exc | kit_is | kts_exm)
    (case x290 => first | k_is | k_exc | kit_is | kts_exm)
    (case x291 => first | k_is | k_exc | kit_is | kts_exm)
    (case x292 => first | k_is | k_exc | kit_is | kts_exm)
    (case x293 => first | k_is | k_exc | kit_is | kts_exm)
    (case x294 => first | k_is | k_exc | kit_is | kts_exm)
    (case x295 => first | k_is | k_exc | kit_is | kts_exm)
