import PyProof.Rows.All
import Wide.All
import OpenK.AllK
import Wide.FinOn
import Lean
import PyProof.EqAt
import PyProof.EqKinds
import PyProof.TupleCall
import PySem.Challenge.RW_twainhoard_k02_ratios_reckoned
-- CHANGE: your row's module here, as the last of these rows
set_option Elab.async false
set_option linter.all false
set_option maxRecDepth 100000
/-! THE HAND LAYER, for ints, bools, texts, own classes, LISTS and tuples (index, slices, in, append, pop ..), calls, loops. Paste it whole ahead of your own text; what your proof does not reach may be deleted. -/
namespace L2
open PySem PySem.Spec PyProof.Rows

/-- a key: an int or a str -/
abbrev Key := Sum Int Str
def keyIs : Key → Value → Bool
  | .inl k, v => Value.isInt k v
  | .inr x, v => Value.isStrOf x v
def keyH (w : World) : Key → Int
  | .inl k => hashInt k
  | .inr x => hashStr w x
theorem keyIs_shape : ∀ {k : Key} {v : Value}, keyIs k v = true → (∃ i t, k = Sum.inl i ∧ v = Value.int i t) ∨ (∃ x t, k = Sum.inr x ∧ v = Value.str x t)
  | .inl i, v, h => by
    obtain ⟨t, e⟩ := Value.isInt_shape (k := i) (v := v) h
    exact .inl ⟨i, t, rfl, e⟩
  | .inr x, v, h => by
    obtain ⟨t, e⟩ := Value.isStrOf_shape (x := x) (v := v) h
    exact .inr ⟨x, t, rfl, e⟩
theorem keyIs_int (i : Int) (t : Tok) : keyIs (.inl i) (.int i t) = true := by simp [keyIs, Value.isInt]
theorem keyIs_str (x : Str) (t : Tok) : keyIs (.inr x) (.str x t) = true := by simp [keyIs, Value.isStrOf]
theorem key_ll (a b : Int) : decide ((Sum.inl a : Key) = Sum.inl b) = (a == b) := by
  by_cases e : a = b
  · subst e; simp
  · have h : ¬ (Sum.inl a : Key) = Sum.inl b := fun q => e (Sum.inl.inj q)
    rw [decide_eq_false h]
    exact (beq_eq_false_iff_ne.mpr e).symm
theorem key_rr (a b : Str) : decide ((Sum.inr a : Key) = Sum.inr b) = decide (a = b) := by
  by_cases e : a = b
  · subst e; simp
  · have h : ¬ (Sum.inr a : Key) = Sum.inr b := fun q => e (Sum.inr.inj q)
    rw [decide_eq_false h, decide_eq_false e]
theorem key_lr (a : Int) (b : Str) : decide ((Sum.inl a : Key) = Sum.inr b) = false := decide_eq_false (fun q => nomatch q)
theorem key_rl (a : Str) (b : Int) : decide ((Sum.inr a : Key) = Sum.inl b) = false := decide_eq_false (fun q => nomatch q)

def mixKind (prog : Program) (w : World) : PySem.KeyKind prog w Key where
  is := keyIs
  hash := keyH w
  inj := fun v a b ha hb => by
    rcases keyIs_shape ha with ⟨i, t, rfl, rfl⟩ | ⟨x, t, rfl, rfl⟩
    · rcases keyIs_shape hb with ⟨j, u, rfl, e⟩ | ⟨y, u, rfl, e⟩
      · injection e with e1 _; rw [e1]
      · exact nomatch e
    · rcases keyIs_shape hb with ⟨j, u, rfl, e⟩ | ⟨y, u, rfl, e⟩
      · exact nomatch e
      · injection e with e1 _; rw [e1]
  byValue := fun k v h => by
    rcases keyIs_shape h with ⟨i, t, rfl, rfl⟩ | ⟨x, t, rfl, rfl⟩ <;> rfl
  pyHash := fun hv h => by
    rcases keyIs_shape hv with ⟨i, t, rfl, rfl⟩ | ⟨x, t, rfl, rfl⟩
    · exact wpAny_pyHash_int h
    · exact wpAny_pyHash_str h
  eqBool := fun hu hv h => by
    rcases keyIs_shape hu with ⟨i, t, rfl, rfl⟩ | ⟨x, t, rfl, rfl⟩
    · rcases keyIs_shape hv with ⟨j, u, rfl, rfl⟩ | ⟨y, u, rfl, rfl⟩
      · rw [key_ll] at h; exact wpAny_eqBool_int h
      · rw [key_lr] at h; exact SeqAt.EqAt.int_str i t y u _ _ _ _ h
    · rcases keyIs_shape hv with ⟨j, u, rfl, rfl⟩ | ⟨y, u, rfl, rfl⟩
      · rw [key_rl] at h; exact SeqAt.EqAt.str_int x t j u _ _ _ _ h
      · rw [key_rr] at h; exact wpAny_eqBool_str h
  «strs» := fun k x t v h => by
    rcases keyIs_shape h with ⟨i, u, rfl, e⟩ | ⟨y, u, rfl, e⟩
    · exact nomatch e
    · injection e with e1 _
      subst e1
      cases v <;> rfl

theorem mixKind_is (prog : Program) (w : World) (k : Key) (v : Value) : (mixKind prog w).is k v = keyIs k v := rfl
theorem mixKind_int (prog : Program) (w : World) (i : Int) (t : Tok) : (mixKind prog w).is (.inl i) (.int i t) = true := keyIs_int i t
theorem mixKind_str (prog : Program) (w : World) (x : Str) (t : Tok) : (mixKind prog w).is (.inr x) (.str x t) = true := keyIs_str x t
end L2

namespace L2
open PySem PySem.Spec PyProof.Rows

/-- a value, without the heap -/
inductive V where
  | non | bl (b : Bool) | int (i : Int) | str (x : Str) | byt (b : Array UInt8) | flt (b : UInt64) | ref (a : Addr) | ty (n : String)
  deriving DecidableEq

def RelV : V → Value → Prop
  | .non, u => u = Value.none
  | .bl b, u => u = Value.bool b
  | .int i, u => ∃ t, u = Value.int i t
  | .str x, u => ∃ t, u = Value.str x t
  | .byt b, u => ∃ t, u = Value.bytes b t
  | .flt b, u => ∃ t, u = Value.float b t
  | .ref a, u => u = Value.ref a
  | .ty n, u => u = Value.type n

abbrev Vals : List V → List Value → Prop := Paired RelV
theorem Vals.length {xs : List V} {us : List Value} (r : Vals xs us) : xs.length = us.length := Paired.length r
theorem Vals.get : ∀ {xs : List V} {us : List Value} {i : Nat} {x : V}, Vals xs us → xs[i]? = some x → ∃ u, us[i]? = some u ∧ RelV x u
  | _, _, _, _, .nil, e => by simp at e
  | _, _, 0, _, .cons r _, e => by simp at e; subst e; exact ⟨_, rfl, r⟩
  | _, _, i + 1, x, .cons _ t, e => by
    obtain ⟨u, h1, h2⟩ := Vals.get (i := i) (x := x) t (by simpa using e)
    exact ⟨u, by simpa using h1, h2⟩
theorem Vals.set {x : V} {u : Value} (r : RelV x u) : ∀ {xs : List V} {us : List Value} (i : Nat), Vals xs us → Vals (xs.set i x) (us.set i u)
  | _, _, _, .nil => .nil
  | _, _, 0, .cons _ t => .cons r t
  | _, _, i + 1, .cons q t => .cons q (Vals.set r i t)
theorem Vals.append : ∀ {xs ys : List V} {us ws : List Value}, Vals xs us → Vals ys ws → Vals (xs ++ ys) (us ++ ws)
  | _, _, _, _, .nil, s => s
  | _, _, _, _, .cons r t, s => .cons r (Vals.append t s)
theorem Vals.take : ∀ {xs : List V} {us : List Value} (n : Nat), Vals xs us → Vals (xs.take n) (us.take n)
  | _, _, 0, _ => .nil
  | _, _, _ + 1, .nil => .nil
  | _, _, n + 1, .cons r t => .cons r (Vals.take n t)
theorem Vals.drop : ∀ {xs : List V} {us : List Value} (n : Nat), Vals xs us → Vals (xs.drop n) (us.drop n)
  | _, _, 0, r => r
  | _, _, _ + 1, .nil => .nil
  | _, _, n + 1, .cons _ t => Vals.drop n t
theorem Vals.none_of : ∀ {xs : List V} {us : List Value} {i : Nat}, Vals xs us → xs[i]? = none → us[i]? = none := fun {xs us i} r e => by
  have h1 := r.length
  have h2 : xs.length ≤ i := List.getElem?_eq_none_iff.mp e
  exact List.getElem?_eq_none_iff.mpr (by omega)

def RelO : Option V → Option Value → Prop
  | some v, some u => RelV v u
  | none, none => True
  | _, _ => False
def KV {κ : Type} : List (κ × V) → List (κ × Value) → Prop := Paired fun (p : κ × V) (q : κ × Value) => p.1 = q.1 ∧ RelV p.2 q.2

/-- a key of a dict (00_mix): an int or a text -/
def kV : Key → V
  | .inl i => .int i
  | .inr x => .str x

/-- what stands at a tracked address -/
inductive HO where
  /-- a list -/
  | lst (xs : List V)
  /-- a tuple (never changes) -/
  | tup (xs : List V)
  /-- a dict whose keys are ints and texts; one whose keys are tuples of ints and texts (the empty one is both) -/
  | dK (kvs : List (Key × V)) | dT (kvs : List (List Key × V))
  /-- a set of ints: its members, its size -/
  | set (S : Int → Bool) (n : Nat)
  /-- an instance of the class at C, its dict at dx, its attributes -/
  | ins (C dx : Addr) (fs : List (Str × V))
  /-- the dict of the instance at x -/
  | own (x : Addr)
  /-- the dict of an exception -/
  | xd (fs : List (Str × V))
  /-- a bound method, f of x -/
  | met (f x : Addr)
  /-- a range object lo, lo + 1, .. below hi -/
  | rng (lo hi : Int)
  /-- a thing that is known to the object (the script; a dict while a loop walks it): read, never written while it is so -/
  | frz (o : Obj) (u : HO)
  /-- a code object's table -/
  | tbl (ps : Array Value)
  /-- any other thing, by what is true of its one object (a def of one's own: SetO a S n := HO.ext fun h => ..) -/
  | ext (φ : Heap → Prop)

abbrev Hp := Addr → Option HO
def upd (H : Hp) (a : Addr) (o : HO) : Hp := fun b => if b = a then some o else H b
theorem upd_same {H : Hp} {a : Addr} {o : HO} : upd H a o a = some o := by unfold upd; rw [if_pos rfl]
theorem upd_ne {H : Hp} {a b : Addr} {o : HO} (h : b ≠ a) : upd H a o b = H b := by unfold upd; rw [if_neg h]
theorem upd_upd {H : Hp} {a : Addr} {o u : HO} : upd (upd H a o) a u = upd H a u := by
  funext b; unfold upd; split <;> rfl
/-- two objects of different content stand apart -/
theorem ne_of {H : Hp} {a b : Addr} {o u : HO} (h : H a = some o) (h' : H b = some u) (d : o ≠ u) : a ≠ b := by
  intro e; subst e; rw [h] at h'; exact d (Option.some.inj h')
theorem ne_of_none {H : Hp} {a b : Addr} {o : HO} (h : H a = some o) (h' : H b = none) : a ≠ b := by
  intro e; subst e; rw [h] at h'; cases h'

section
variable (P : Program) (w : World)
def ObjOk (H : Hp) (h : Heap) (a : Addr) : HO → Prop
  | .lst xs => xs.length ≤ sizeLine ∧ ∃ (its : List Value) (n : Nat), Vals xs its ∧ h.get? a = some { cls := .type "list", data := .seq its.toArray n }
  | .tup xs => xs.length ≤ sizeLine ∧ ∃ its : List Value, Vals xs its ∧ IsTup h a its.toArray
  | .dK kvs => kvs.length ≤ sizeLine ∧ (a == sysModules) = false ∧ ∃ vs, KV kvs vs ∧ h.DictOf (mixKind P w) a vs
  | .dT kvs => kvs.length ≤ sizeLine ∧ (a == sysModules) = false ∧ ∃ xs : List (List Key × Addr × Value),
      Paired (fun (p : List Key × V) (q : List Key × Addr × Value) => p.1 = q.1 ∧ H q.2.1 = some (.tup (p.1.map kV)) ∧ RelV p.2 q.2.2) kvs xs ∧
      ∃ o es ep, h.get? a = some o ∧ o.ExactDict ∧ o.data = .dict es ep ∧ es.toList = xs.map (entryOfKey (tupleKind (mixKind P w))) ∧ (xs.map (·.1)).Nodup
  | .set S n => h.SetOf (intKind P w) a S n
  | .ins C dx fs => H dx = some (.own a) ∧ fs.length ≤ 1000 ∧ dx ≠ a ∧ h.get? a = some (PySem.W.instObj C dx) ∧
      ∃ mA, h.Ns1 dx mA ∧ (∀ f, RelO (fs.lookup f) (mA f)) ∧ PySem.Within mA (fs.map (·.1))
  | .own _ => ∃ o, h.get? a = some o
  | .xd fs => ∃ mA, h.Ns1 a mA ∧ ∀ f, RelO (fs.lookup f) (mA f)
  | .rng lo hi => ∃ t u v, h.get? a = some { cls := .type "range", data := .fields #[.int lo t, .int hi u, .int 1 v] }
  | .frz o u => h.get? a = some o ∧ ObjOk H h a u
  | .tbl ps => h.get? a = some { cls := .none, data := .fields ps }
  | .met f x => h.get? a = some (PySem.W.methodObj (.ref f) (.ref x))
  | .ext φ => φ h ∧ (∃ o, h.get? a = some o) ∧ ∀ h1 h2 : Heap, φ h1 → (∀ o, h1.get? a = some o → h2.get? a = some o) → φ h2
/-- the abstract heap is held -/
def HOk (H : Hp) (h : Heap) : Prop := ∀ a o, H a = some o → ObjOk P w H h a o
end

section
variable {P : Program} {w : World} {H H' : Hp} {h h' : Heap} {a : Addr} {o : HO}
theorem ObjOk.lt (x : ObjOk P w H h a o) : a < h.objs.size := by
  cases o with
  | lst xs => obtain ⟨_, _, _, _, e⟩ := x; exact Heap.lt_size e
  | tup xs => obtain ⟨_, _, _, p⟩ := x; exact p.lt
  | dK kvs => obtain ⟨_, _, _, _, o, _, _, e, _⟩ := x; exact Heap.lt_size e
  | dT kvs => obtain ⟨_, _, _, _, o, _, _, e, _⟩ := x; exact Heap.lt_size e
  | set S n => obtain ⟨o, _, _, _, e, _⟩ := x; exact Heap.lt_size e
  | ins C dx fs => obtain ⟨_, _, _, e, _⟩ := x; exact Heap.lt_size e
  | own y => obtain ⟨_, e⟩ := x; exact Heap.lt_size e
  | xd fs => obtain ⟨_, ⟨_, _, _, e, _⟩, _⟩ := x; exact Heap.lt_size e
  | rng lo hi => obtain ⟨_, _, _, e⟩ := x; exact Heap.lt_size e
  | frz ob u => obtain ⟨e, _⟩ := x; exact Heap.lt_size e
  | tbl ps => exact Heap.lt_size (show h.get? a = some _ from x)
  | met f y => exact Heap.lt_size (show h.get? a = some _ from x)
  | ext φ => obtain ⟨_, ⟨_, e⟩, _⟩ := x; exact Heap.lt_size e
theorem Paired.mapP {α β : Type} {F G : α → β → Prop} : ∀ {l₁ : List α} {l₂ : List β}, Paired F l₁ l₂ → (∀ a b, F a b → G a b) → Paired G l₁ l₂
  | _, _, .nil, _ => .nil
  | _, _, .cons r t, f => .cons (f _ _ r) (Paired.mapP t f)
theorem Paired.imp' {α β : Type} {F G : α → β → Prop} (f : ∀ a b, F a b → G a b) {l₁ : List α} {l₂ : List β} (r : Paired F l₁ l₂) : Paired G l₁ l₂ := Paired.mapP r f
/-- what an object's description leans on: its own object, its own dict, the tuples -/
theorem ObjOk.stay (x : ObjOk P w H h a o) (k : ∀ b u, (b = a ∨ H b = some (.own a)) → h.get? b = some u → h'.get? b = some u)
    (ho : ∀ b, H b = some (.own a) → H' b = some (.own a)) (ht : ∀ b xs, H b = some (.tup xs) → H' b = some (.tup xs)) : ObjOk P w H' h' a o := by
  induction o with
  | lst xs => obtain ⟨z, its, n, r, e⟩ := x; exact ⟨z, its, n, r, k _ _ (.inl rfl) e⟩
  | tup xs => obtain ⟨z, its, r, ob, e, c⟩ := x; exact ⟨z, its, r, ob, k _ _ (.inl rfl) e, c⟩
  | dK kvs => obtain ⟨z, y, vs, r, ob, es, ep, e, c⟩ := x; exact ⟨z, y, vs, r, ob, es, ep, k _ _ (.inl rfl) e, c⟩
  | dT kvs =>
    obtain ⟨z, y, xs, r, ob, es, ep, e, c⟩ := x
    exact ⟨z, y, xs, Paired.mapP r fun p q z => ⟨z.1, ht _ _ z.2.1, z.2.2⟩, ob, es, ep, k _ _ (.inl rfl) e, c⟩
  | set S n => obtain ⟨ob, es, ep, t, e, c⟩ := x; exact ⟨ob, es, ep, t, k _ _ (.inl rfl) e, c⟩
  | ins C dx fs =>
    obtain ⟨d, z, ne, e, mA, ⟨od, es, ep, e2, c⟩, r⟩ := x
    exact ⟨ho _ d, z, ne, k _ _ (.inl rfl) e, mA, ⟨od, es, ep, k _ _ (.inr d) e2, c⟩, r⟩
  | own y => obtain ⟨ob, e⟩ := x; exact ⟨ob, k _ _ (.inl rfl) e⟩
  | xd fs => obtain ⟨mA, ⟨od, es, ep, e, c⟩, r⟩ := x; exact ⟨mA, ⟨od, es, ep, k _ _ (.inl rfl) e, c⟩, r⟩
  | rng lo hi => obtain ⟨t, u, v, e⟩ := x; exact ⟨t, u, v, k _ _ (.inl rfl) e⟩
  | frz ob u ih => obtain ⟨e, q⟩ := x; exact ⟨k _ _ (.inl rfl) e, ih q⟩
  | tbl ps =>
    have e : h.get? a = some { cls := .none, data := .fields ps } := x
    show h'.get? a = some { cls := .none, data := .fields ps }
    exact k a _ (.inl rfl) e
  | met f y =>
    have e : h.get? a = some (PySem.W.methodObj (.ref f) (.ref y)) := x
    show h'.get? a = some (PySem.W.methodObj (.ref f) (.ref y))
    exact k a _ (.inl rfl) e
  | ext φ => obtain ⟨p, ⟨o, e⟩, st⟩ := x; exact ⟨st _ _ p fun o q => k _ _ (.inl rfl) q, ⟨o, k _ _ (.inl rfl) e⟩, st⟩
theorem HOk.lt (x : HOk P w H h) (e : H a = some o) : a < h.objs.size := (x a o e).lt
theorem HOk.fresh (x : HOk P w H h) (e : h.objs.size ≤ a) : H a = none := by
  cases q : H a with
  | none => rfl
  | some u => exact absurd (Nat.lt_of_lt_of_le (x.lt q) e) (Nat.lt_irrefl _)
/-- every object of the heap is kept -/
theorem HOk.kept (x : HOk P w H h) (k : ∀ b u, h.get? b = some u → h'.get? b = some u) : HOk P w H h' := fun a o e =>
  (x a o e).stay (fun b u _ q => k b u q) (fun _ q => q) fun _ _ q => q
/-- a new object is laid and tracked -/
theorem HOk.laid (x : HOk P w H h) (k : ∀ b u, h.get? b = some u → h'.get? b = some u) (hp : h.objs.size ≤ a) (new : ObjOk P w (upd H a o) h' a o) : HOk P w (upd H a o) h' := fun b u e => by
  have hn := x.fresh hp
  by_cases hb : b = a
  · subst hb; rw [upd_same] at e; cases e; exact new
  · rw [upd_ne hb] at e
    exact (x b u e).stay (fun c v _ q => k c v q) (fun c q => by rw [upd_ne (ne_of_none q hn)]; exact q) fun c xs q => by rw [upd_ne (ne_of_none q hn)]; exact q
end

/-- what may be read as u: it is u, or a known u -/
def Rd (H : Hp) (a : Addr) (u : HO) : Prop := H a = some u ∨ ∃ o, H a = some (.frz o u)
theorem Rd.of {H : Hp} {a : Addr} {u : HO} (h : H a = some u) : Rd H a u := .inl h
theorem Rd.ok {P : Program} {w : World} {H : Hp} {h : Heap} {a : Addr} {u : HO} (r : Rd H a u) (x : HOk P w H h) : ObjOk P w H h a u := by
  rcases r with r | ⟨o, r⟩
  · exact x a u r
  · obtain ⟨_, q⟩ := x a _ r
    exact q
/-- what may be written -/
def Mut : Option HO → Prop
  | some (.lst _) => True
  | some (.dK _) => True
  | some (.dT _) => True
  | some (.set _ _) => True
  | some (.ins _ _ _) => True
  | some (.ext _) => True
  | _ => False
section
variable {P : Program} {w : World} {H : Hp} {h h' : Heap} {x e : Addr} {o' : HO}
/-- the object at e is changed: x itself, or the dict of the instance x -/
theorem HOk.write (ok : HOk P w H h) (mu : Mut (H x)) (he : e = x ∨ H e = some (.own x)) (k : ∀ b u, b ≠ e → h.get? b = some u → h'.get? b = some u) (heo : ∃ u, h'.get? e = some u)
    (new : ObjOk P w (upd H x o') h' x o') : HOk P w (upd H x o') h' := fun b u q => by
  have nown : ∀ c y, H c = some (.own y) → c ≠ x := fun c y r z => by subst z; rw [r] at mu; exact mu
  have ntup : ∀ c xs, H c = some (.tup xs) → c ≠ x := fun c xs r z => by subst z; rw [r] at mu; exact mu
  by_cases hb : b = x
  · subst hb; rw [upd_same] at q; cases q; exact new
  · rw [upd_ne hb] at q
    by_cases hbe : b = e
    · have q' : H b = some (.own x) := by
        rcases he with z | z
        · exact absurd (hbe.trans z) hb
        · rw [hbe]; exact z
      rw [q] at q'; cases q'
      obtain ⟨v, hv⟩ := heo
      exact ⟨v, by rw [hbe]; exact hv⟩
    · refine (ok b u q).stay (fun c v hc r => k c v ?_ r) (fun c r => by rw [upd_ne (nown c b r)]; exact r) fun c xs r => by rw [upd_ne (ntup c xs r)]; exact r
      rcases hc with rfl | hc
      · exact hbe
      · rintro rfl
        rcases he with z | z
        · exact nown c b hc z
        · rw [hc] at z; cases z; exact hb rfl
end

/-! ### kept unless tracked; of the frames at fs (the callers') the slots may change (an exception that passes writes there); of the records at ex (iterators) nothing is said -/
structure Un (fs ex : List Addr) (H H' : Hp) (h h' : Heap) : Prop where
  keep : ∀ b o, h.get? b = some o → H b = none → b ∉ fs → b ∉ ex → h'.get? b = some o
  slot : ∀ b o, h.get? b = some o → H b = none → b ∈ fs → b ∉ ex → ∃ sl, h'.get? b = some { o with slots := sl }
  free : ∀ b o, h.get? b = some o → H b = none → b ∉ ex → H' b = none
  there : ∀ b o, h.get? b = some o → b ∉ ex → ∃ o', h'.get? b = some o'
  tups : ∀ b xs, H b = some (.tup xs) → H' b = some (.tup xs)
  frzs : ∀ b o u, H b = some (.frz o u) → H' b = some (.frz o u)
  tbls : ∀ b ps, H b = some (.tbl ps) → ∃ more, H' b = some (.tbl (ps ++ more))
section
variable {fs fs' ex ex' : List Addr} {H H1 H2 : Hp} {h h1 h2 h' : Heap} {a x e : Addr} {o : HO}
theorem Un.any (u : Un fs ex H H1 h h1) {b : Addr} {ob : Obj} (q : h.get? b = some ob) (n : H b = none) (hx : b ∉ ex) : ∃ sl, h1.get? b = some { ob with slots := sl } := by
  by_cases hb : b ∈ fs
  · exact u.slot b ob q n hb hx
  · exact ⟨ob.slots, u.keep b ob q n hb hx⟩
theorem Un.trans (a : Un fs ex H H1 h h1) (b : Un fs ex H1 H2 h1 h2) : Un fs ex H H2 h h2 where
  keep := fun c ob q n hc hx => b.keep c ob (a.keep c ob q n hc hx) (a.free c ob q n hx) hc hx
  slot := fun c ob q n hc hx => by
    obtain ⟨sl, e1⟩ := a.slot c ob q n hc hx
    obtain ⟨sl', e2⟩ := b.slot c _ e1 (a.free c ob q n hx) hc hx
    exact ⟨sl', e2⟩
  free := fun c ob q n hx => by
    obtain ⟨o', e1⟩ := a.there c ob q hx
    exact b.free c o' e1 (a.free c ob q n hx) hx
  there := fun c ob q hx => by
    obtain ⟨o', e1⟩ := a.there c ob q hx
    exact b.there c o' e1 hx
  tups := fun c xs q => b.tups c xs (a.tups c xs q)
  frzs := fun c ob xs q => b.frzs c ob xs (a.frzs c ob xs q)
  tbls := fun c ps q => by
    obtain ⟨m1, e1⟩ := a.tbls c ps q
    obtain ⟨m2, e2⟩ := b.tbls c _ e1
    exact ⟨m1 ++ m2, by rw [e2, Array.append_assoc]⟩
theorem Un.kept (k : ∀ b u, h.get? b = some u → h'.get? b = some u) : Un fs ex H H h h' :=
  ⟨fun b ob q _ _ _ => k b ob q, fun b ob q _ _ _ => ⟨ob.slots, k b ob q⟩, fun _ _ _ n _ => n, fun b ob q _ => ⟨ob, k b ob q⟩, fun _ _ q => q, fun _ _ _ q => q, fun _ ps q => ⟨#[], by rw [q]; simp⟩⟩
theorem Un.refl : Un fs ex H H h h := Un.kept fun _ _ q => q
theorem Un.laid (k : ∀ b u, h.get? b = some u → h'.get? b = some u) (hp : h.objs.size ≤ a) (hn : H a = none) : Un fs ex H (upd H a o) h h' where
  keep := fun b u q _ _ _ => k b u q
  slot := fun b u q _ _ _ => ⟨u.slots, k b u q⟩
  free := fun b u q n _ => by rw [upd_ne (Nat.ne_of_lt (Nat.lt_of_lt_of_le (Heap.lt_size q) hp))]; exact n
  there := fun b u q _ => ⟨u, k b u q⟩
  tups := fun b xs q => by rw [upd_ne (ne_of_none q hn)]; exact q
  frzs := fun b u xs q => by rw [upd_ne (ne_of_none q hn)]; exact q
  tbls := fun b ps q => ⟨#[], by rw [upd_ne (ne_of_none q hn), q]; simp⟩
theorem Un.write (mu : Mut (H x)) (he : e = x ∨ H e = some (.own x)) (k : ∀ b u, b ≠ e → h.get? b = some u → h'.get? b = some u) (heo : ∃ u, h'.get? e = some u) : Un fs ex H (upd H x o) h h' := by
  have hx : ∀ b, H b = none → b ≠ x := fun b n z => by subst z; rw [n] at mu; exact mu
  have hb : ∀ b, H b = none → b ≠ e := fun b n z => by
    subst z
    rcases he with r | r
    · exact hx b n r
    · rw [n] at r; cases r
  have hm : ∀ b u, H b = some u → ¬ Mut (some u) → b ≠ x := fun b u q nm z => by subst z; rw [q] at mu; exact nm mu
  refine ⟨fun b u q n _ _ => k b u (hb b n) q, fun b u q n _ _ => ⟨u.slots, k b u (hb b n) q⟩, fun b u q n _ => by rw [upd_ne (hx b n)]; exact n, fun b u q _ => ?_,
    fun b xs q => by rw [upd_ne (hm b _ q fun z => z)]; exact q, fun b u xs q => by rw [upd_ne (hm b _ q fun z => z)]; exact q, fun b ps q => ⟨#[], by rw [upd_ne (hm b _ q fun z => z), q]; simp⟩⟩
  by_cases hbe : b = e
  · subst hbe; exact heo
  · exact ⟨u, k b u hbe q⟩
theorem Un.mono (u : Un fs ex H H1 h h1) (hs : ∀ b ∈ fs, b ∈ fs') (hx : ∀ b ∈ ex, b ∈ ex') : Un fs' ex' H H1 h h1 :=
  ⟨fun b ob q n hb he => u.keep b ob q n (fun z => hb (hs b z)) fun z => he (hx b z), fun _ _ q n _ he => u.any q n fun z => he (hx _ z), fun b ob q n he => u.free b ob q n fun z => he (hx b z), fun b ob q he => u.there b ob q fun z => he (hx b z), u.tups, u.frzs, u.tbls⟩
end

/-! ### the heap without what is tracked -/
def trk (h : Heap) (H : Hp) : List Addr := (List.range h.objs.size).filter fun a => (H a).isSome
def hidT (h : Heap) (H : Hp) : Heap := PySem.W.hideAll h (trk h H)
theorem hidT_size (h : Heap) (H : Hp) : (hidT h H).objs.size = h.objs.size := PySem.W.hideAll_size _ _
theorem hidT_get {h : Heap} {H : Hp} {b : Addr} {o : Obj} (e : h.get? b = some o) (n : H b = none) : (hidT h H).get? b = some o :=
  PySem.W.hideAll_get _ e fun hm => by
    have q : (H b).isSome = true := (List.mem_filter.mp hm).2
    rw [n] at q; simp at q
theorem of_hidT {h : Heap} {H : Hp} {b : Addr} {o : Obj} (e : (hidT h H).get? b = some o) : h.get? b = some o ∧ H b = none := by
  have e' : h.get? b = some o := PySem.W.of_hideAll (trk h H) e
  refine ⟨e', ?_⟩
  cases q : H b with
  | none => rfl
  | some x =>
    have hm : b ∈ trk h H := List.mem_filter.mpr ⟨List.mem_range.mpr (Heap.lt_size e'), by simp [q]⟩
    have z : (hidT h H).get? b = none := PySem.W.hideAll_none (trk h H) hm
    rw [z] at e; cases e

/-! ### OpenK's ledger, filled with every new object but one -/
def allNews (g h : Heap) (L : Addr) : List (Addr × Obj) := (List.range h.objs.size).filterMap fun a => if a = L ∨ (g.get? a).isSome = true then none else (h.get? a).map fun o => (a, o)
theorem mem_allNews {g h : Heap} {L a : Addr} {o : Obj} (h1 : a ≠ L) (h2 : g.get? a = none) (h3 : h.get? a = some o) : (a, o) ∈ allNews g h L :=
  List.mem_filterMap.mpr ⟨a, List.mem_range.mpr (Heap.lt_size h3), by simp [h1, h2, h3]⟩
theorem of_mem_allNews {g h : Heap} {L : Addr} {p : Addr × Obj} (hp : p ∈ allNews g h L) : p.1 ≠ L ∧ g.get? p.1 = none ∧ h.get? p.1 = some p.2 := by
  obtain ⟨b, _, e⟩ := List.mem_filterMap.mp hp
  split at e
  · cases e
  · rename_i hn
    cases q : h.get? b with
    | none => rw [q] at e; simp at e
    | some u =>
      rw [q] at e
      simp only [Option.map_some, Option.some.injEq] at e
      subst e
      refine ⟨fun z => hn (.inl z), ?_, q⟩
      show g.get? b = none
      cases r : g.get? b with
      | none => rfl
      | some v => exact (hn (.inr (by simp [r]))).elim
def rest (g h : Heap) (L d : Addr) : List (Addr × Obj) := (allNews g h L).filter fun p => decide (p.1 ≠ d)
theorem rest_ne {g h : Heap} {L d : Addr} : ∀ p ∈ rest g h L d, p.1 ≠ d := fun p hp => of_decide_eq_true (List.mem_filter.mp hp).2
theorem mem_rest {g h : Heap} {L d a : Addr} {o : Obj} (h1 : a ≠ L) (h2 : g.get? a = none) (h3 : h.get? a = some o) (h4 : a ≠ d) : (a, o) ∈ rest g h L d :=
  List.mem_filter.mpr ⟨mem_allNews h1 h2 h3, decide_eq_true h4⟩
theorem news_all {g h : Heap} {L : Addr} : News g L h (allNews g h L) := fun p hp => let ⟨a, b, c⟩ := of_mem_allNews hp; ⟨c, a, b⟩
theorem news_at {g h : Heap} {L d : Addr} {o : Obj} (h1 : d ≠ L) (h2 : g.get? d = none) (h3 : h.get? d = some o) : News g L h ((d, o) :: rest g h L d) := fun p hp => by
  rcases List.mem_cons.mp hp with rfl | hp
  · exact ⟨h3, h1, h2⟩
  · exact news_all p (List.mem_filter.mp hp).1
/-- behind a rule that changed d alone: all else but the frame is kept -/
theorem kept_of_news {g h h' : Heap} {L d : Addr} {m : Str → Option Value} (k : ∀ b o, g.get? b = some o → h.get? b = some o) (F : Fr g L h' m) (N : News g L h' (rest g h L d)) :
    ∀ b o, b ≠ L → b ≠ d → h.get? b = some o → h'.get? b = some o := fun b o h1 h2 e => by
  cases q : g.get? b with
  | some u =>
    have := k b u q
    rw [e] at this; cases this
    exact F.keep b _ q
  | none => exact (N (b, o) (mem_rest h1 q e h2)).1
end L2

namespace L2
open PySem PySem.Spec PyProof.Rows

/-- the module's facts, over the base: the heap at the law's entry without what is tracked there -/
structure Mod (K : PySem.W.Frag) (mg : Str → Option Value) (base : Heap) : Prop where
  kin : K.In base
  glob : base.Ns mainGlobals mg
  blt : ∃ mb, base.Ns builtinsNs mb ∧ ∀ x : Str, x ≠ "__name__" → mb x = bootBuiltins x
  nolimit : base.NoLimit

/-- the context: a def's body (or a comprehension's block) running. base: fixed through the whole law; s₀, H₀: the entry; outer: the frames whose slots others may change (a def's callers); stack: all frames that run;
   ex: iterators that were made ahead of the entry and are walked here (a comprehension's); fn: the names whose cells were made at the entry (a def: all; a comprehension's block: its own); calm: not within an except suite; pn: pins that every state bears; xe: what is wanted of an exception that leaves the code -/
structure Cx where
  prog : Program
  w : World
  K : PySem.W.Frag
  mg : Str → Option Value
  base : Heap
  A : Around
  N : List Str
  s₀ : Shared
  H₀ : Hp
  env : Env
  outer : List Env
  stack : List Env
  ex : List Addr
  fn : Str → Bool
  calm : Bool
  pn : List (Addr × Obj)
  xe : Value → Shared → Prop
/-- the callers' frames -/
def frs (l : List Env) : List Addr := l.filterMap (·.frame)
abbrev Cx.fs (X : Cx) : List Addr := frs X.outer

def Vis (sc : Scope) (x : Str) : Prop := sc.names.lookup x = some .local ∨ sc.names.lookup x = some .cell ∨ sc.names.lookup x = some .free
def Loc (sc : Scope) (x : Str) : Prop := sc.names.lookup x = some .local ∨ sc.names.lookup x = some .cell
def Look (env : Env) (h : Heap) (m : Str → Option Value) (x : Str) (u : Value) : Prop :=
  (env.kindOf x = some .local ∧ m x = some u) ∨ ((env.kindOf x = some .cell ∨ env.kindOf x = some .free) ∧ ∃ c, env.cells.lookup x = some c ∧ h.IsCell c (some u))

structure Cx.Ok (X : Cx) : Prop where
  mod : Mod X.K X.mg X.base
  kind : X.env.scope.kind = .function
  glob : X.env.globals = mainGlobals
  blt : X.env.builtins = builtinsNs
  above : X.s₀.heap.objs.size ≤ X.env.locals
  inj : ∀ x y c, X.env.cells.lookup x = some c → X.env.cells.lookup y = some c → x = y
  has : ∀ x, (X.env.kindOf x = some .cell ∨ X.env.kindOf x = some .free) → ∃ c, X.env.cells.lookup x = some c
  cab : ∀ x c, X.fn x = true → X.env.cells.lookup x = some c → X.s₀.heap.objs.size ≤ c
  hd : X.calm = true → X.A.handled = none
  frames : X.A.frames = some X.stack
  stk : X.stack = X.outer ∨ (X.stack = X.env :: X.outer ∧ X.env.frame = some X.env.locals)
  exf : ∀ b ∈ X.ex, b ≠ X.env.locals ∧ ∀ x c, X.env.cells.lookup x = some c → c ≠ b
  bs : ∀ b o, X.base.get? b = some o → X.s₀.heap.get? b = some o ∧ X.H₀ b = none
  bsz : X.base.objs.size ≤ X.s₀.heap.objs.size
  noex : ∀ b o, X.base.get? b = some o → b ∉ X.ex
  exfs : ∀ b ∈ X.ex, b ∉ X.fs
  funs : X.s₀.heap.FunFrames X.base X.outer
  frf : ∀ b ∈ X.fs, X.H₀ b = none

structure Inv (X : Cx) (pins : List (Addr × Obj)) (σ : List (Option V)) (H : Hp) (s : Shared) : Prop where
  ok : X.Ok
  os : s.os = X.s₀.os
  bare : AllBare s.gens
  base : Un X.fs X.ex X.H₀ H X.s₀.heap s.heap
  loc : ∃ m, s.heap.Ns X.env.locals m ∧ ∀ (i : Nat) (x : Str) (v : V), X.N[i]? = some x → σ[i]? = some (some v) → Vis X.env.scope x → ∃ u, RelV v u ∧ Look X.env s.heap m x u
  cell : ∀ x c, X.env.cells.lookup x = some c → ∃ v, s.heap.IsCell c v
  free : H X.env.locals = none
  freeC : ∀ x c, X.env.cells.lookup x = some c → H c = none
  pin : ∀ p ∈ X.pn ++ pins, s.heap.get? p.1 = some p.2 ∧ H p.1 = none ∧ p.1 ≠ X.env.locals ∧ p.1 ∉ X.fs ∧ ∀ v, p.2.data ≠ .cell v
  hok : HOk X.prog X.w H s.heap
  len : σ.length = X.N.length

section
variable {X : Cx} {pins : List (Addr × Obj)} {σ : List (Option V)} {H H' : Hp} {s : Shared} {h' : Heap}

theorem Cx.Ok.nofr (ok : X.Ok) {b : Addr} {o : Obj} (e : X.base.get? b = some o) : b ∉ X.fs := fun hb => by
  have := (ok.funs.mem hb).1
  rw [e] at this; cases this
theorem Inv.bs (I : Inv X pins σ H s) : ∀ b o, X.base.get? b = some o → s.heap.get? b = some o ∧ H b = none := fun b o e =>
  ⟨I.base.keep b o (I.ok.bs b o e).1 (I.ok.bs b o e).2 (I.ok.nofr e) (I.ok.noex b o e), I.base.free b o (I.ok.bs b o e).1 (I.ok.bs b o e).2 (I.ok.noex b o e)⟩
theorem Inv.bk (I : Inv X pins σ H s) : ∀ b o, X.base.get? b = some o → s.heap.get? b = some o := fun b o e => (I.bs b o e).1
theorem Inv.mod (I : Inv X pins σ H s) : Mod X.K X.mg X.base := I.ok.mod
theorem Inv.kIn (I : Inv X pins σ H s) : X.K.In s.heap := I.ok.mod.kin.keeps I.bk
theorem Inv.nolimit (I : Inv X pins σ H s) : s.heap.NoLimit := I.ok.mod.nolimit.keeps I.bk
/-- the frame over the base: for OpenK's rules (K.In X.base is I.mod.kin) -/
theorem Inv.fr (I : Inv X pins σ H s) : ∃ m, Fr X.base X.env.locals s.heap m :=
  let ⟨m, hn, _⟩ := I.loc
  ⟨m, hn, I.bk, Nat.le_trans I.ok.bsz I.ok.above⟩
theorem Inv.lt (I : Inv X pins σ H s) : X.env.locals < s.heap.objs.size := let ⟨_, hn, _⟩ := I.loc; hn.lt
theorem Inv.sz (I : Inv X pins σ H s) : X.s₀.heap.objs.size ≤ s.heap.objs.size := Nat.le_trans I.ok.above (Nat.le_of_lt I.lt)
theorem Inv.nofs (I : Inv X pins σ H s) {a : Addr} (h : s.heap.objs.size ≤ a) : a ∉ X.fs := fun hb => by
  obtain ⟨_, o, ho, _⟩ := I.ok.funs.mem hb
  exact absurd (Nat.lt_of_lt_of_le (Heap.lt_size ho) (Nat.le_trans I.sz h)) (Nat.lt_irrefl _)
theorem Inv.cne (I : Inv X pins σ H s) : ∀ x c, X.env.cells.lookup x = some c → c ≠ X.env.locals := fun x c e z => by
  obtain ⟨v, o, ho, hd⟩ := I.cell x c e
  obtain ⟨m, ⟨o', es, ep, ho', hd', _⟩, _⟩ := I.loc
  rw [z, ho'] at ho; cases ho; rw [hd'] at hd; cases hd
theorem Inv.funs (I : Inv X pins σ H s) : s.heap.FunFrames X.base X.outer := by
  have all : ∀ (l : List Env), (∀ b ∈ frs l, b ∈ X.fs) → X.s₀.heap.FunFrames X.base l → s.heap.FunFrames X.base l := by
    intro l
    induction l with
    | nil => intro _ _; trivial
    | cons env r ih =>
      intro hs hl
      obtain ⟨hk, ⟨L, o, hf, hn, ho, hd⟩, hr⟩ := hl
      have hL : L ∈ X.fs := hs L (by unfold frs; rw [List.filterMap_cons, hf]; exact List.mem_cons_self)
      obtain ⟨sl, e⟩ := I.base.slot L o ho (I.ok.frf L hL) hL fun z => I.ok.exfs L z hL
      exact ⟨hk, ⟨L, _, hf, hn, e, hd⟩, ih (fun b hb => hs b (by unfold frs; rw [List.filterMap_cons, hf]; exact List.mem_cons_of_mem _ hb)) hr⟩
  exact all X.outer (fun _ hb => hb) I.ok.funs

/-- the frames that run, for a call -/
theorem Inv.stack (I : Inv X pins σ H s) : s.heap.FunFrames X.base X.stack := by
  rcases I.ok.stk with e | ⟨e, hf⟩
  · rw [e]; exact I.funs
  · rw [e]
    obtain ⟨m, hn, _⟩ := I.loc
    refine .cons (by rw [I.ok.kind]; decide) hf hn ?_ I.funs
    exact Heap.get?_none_of_le (Nat.le_trans I.ok.bsz I.ok.above)
theorem Inv.stkSub (I : Inv X pins σ H s) : ∀ b ∈ frs X.stack, b ∈ X.env.locals :: X.fs := fun b hb => by
  rcases I.ok.stk with e | ⟨e, hf⟩
  · rw [e] at hb; exact List.mem_cons_of_mem _ hb
  · rw [e] at hb
    unfold frs at hb
    rw [List.filterMap_cons, hf] at hb
    exact hb
theorem Inv.stkFree (I : Inv X pins σ H s) : ∀ b ∈ frs X.stack, H b = none := fun b hb => by
  rcases List.mem_cons.mp (I.stkSub b hb) with e | hb
  · rw [e]; exact I.free
  · obtain ⟨_, o, ho, _⟩ := I.ok.funs.mem hb
    exact I.base.free b o ho (I.ok.frf b hb) fun z => I.ok.exfs b z hb

/-- THE STEP: the untracked objects but the frame and the records at ch are kept (the callers' frames up to slots), the frame's map is kept, the new abstract heap is held -/
theorem Inv.step {g' : Array GenState} {t' : Nat} {d' : Drawn} {ch : List Addr} (I : Inv X pins σ H s)
    (hch : ∀ b ∈ ch, (b ∈ X.ex ∨ X.s₀.heap.objs.size ≤ b) ∧ b ≠ X.env.locals ∧ (∀ x c, X.env.cells.lookup x = some c → c ≠ b) ∧ ∀ p ∈ X.pn ++ pins, p.1 ≠ b)
    (keep : ∀ b o, b ≠ X.env.locals → b ∉ X.fs → b ∉ ch → s.heap.get? b = some o → H b = none → h'.get? b = some o)
    (slot : ∀ b o, b ≠ X.env.locals → b ∈ X.fs → b ∉ ch → s.heap.get? b = some o → H b = none → ∃ sl, h'.get? b = some { o with slots := sl }) (free : ∀ b o, b ∉ ch → s.heap.get? b = some o → H b = none → H' b = none)
    (there : ∀ b o, b ∉ ch → s.heap.get? b = some o → ∃ o', h'.get? b = some o')
    (tups : ∀ b xs, H b = some (.tup xs) → H' b = some (.tup xs)) (frzs : ∀ b o u, H b = some (.frz o u) → H' b = some (.frz o u)) (tbls : ∀ b ps, H b = some (.tbl ps) → ∃ more, H' b = some (.tbl (ps ++ more)))
    (ns : ∀ m, s.heap.Ns X.env.locals m → h'.Ns X.env.locals m) (hok : HOk X.prog X.w H' h') (hg : AllBare g') :
    Inv X pins σ H' { s with heap := h', gens := g', drawn := d', toks := t' } := by
  have neL : ∀ b o, X.s₀.heap.get? b = some o → b ≠ X.env.locals := fun b o e => Nat.ne_of_lt (Nat.lt_of_lt_of_le (Heap.lt_size e) I.ok.above)
  have neC : ∀ b o, X.s₀.heap.get? b = some o → b ∉ X.ex → b ∉ ch := fun b o e hx hb => by
    rcases (hch b hb).1 with z | z
    · exact hx z
    · exact absurd (Nat.lt_of_lt_of_le (Heap.lt_size e) z) (Nat.lt_irrefl _)
  have cellK : ∀ x c, X.env.cells.lookup x = some c → ∀ v, s.heap.IsCell c v → h'.IsCell c v := fun x c e v ⟨o, ho, hd⟩ => by
    have nch : c ∉ ch := fun z => (hch c z).2.2.1 x c e rfl
    by_cases hc : c ∈ X.fs
    · obtain ⟨sl, q⟩ := slot c o (I.cne x c e) hc nch ho (I.freeC x c e)
      exact ⟨_, q, hd⟩
    · exact ⟨o, keep c o (I.cne x c e) hc nch ho (I.freeC x c e), hd⟩
  refine ⟨I.ok, I.os, hg, ⟨fun b o e n hb hx => ?_, fun b o e n hb hx => ?_, fun b o e n hx => ?_, fun b o e hx => ?_, fun b xs e => tups b xs (I.base.tups b xs e), fun b o xs e => frzs b o xs (I.base.frzs b o xs e), fun b ps e => ?_⟩, ?_, fun x c e => ?_, ?_, fun x c e => ?_, fun p hp => ?_, hok, I.len⟩
  · exact keep b o (neL b o e) hb (neC b o e hx) (I.base.keep b o e n hb hx) (I.base.free b o e n hx)
  · obtain ⟨sl, e1⟩ := I.base.slot b o e n hb hx
    obtain ⟨sl', e2⟩ := slot b _ (neL b o e) hb (neC b o e hx) e1 (I.base.free b o e n hx)
    exact ⟨sl', e2⟩
  · obtain ⟨o', e1⟩ := I.base.there b o e hx
    exact free b o' (neC b o e hx) e1 (I.base.free b o e n hx)
  · obtain ⟨o', e1⟩ := I.base.there b o e hx
    exact there b o' (neC b o e hx) e1
  · obtain ⟨m1, e1⟩ := I.base.tbls b ps e
    obtain ⟨m2, e2⟩ := tbls b _ e1
    exact ⟨m1 ++ m2, by rw [e2, Array.append_assoc]⟩
  · obtain ⟨m, hn, hl⟩ := I.loc
    refine ⟨m, ns m hn, fun i x v e1 e2 e3 => ?_⟩
    obtain ⟨u, r, l⟩ := hl i x v e1 e2 e3
    refine ⟨u, r, ?_⟩
    rcases l with l | ⟨k, c, e, z⟩
    · exact .inl l
    · exact .inr ⟨k, c, e, cellK x c e _ z⟩
  · obtain ⟨v, z⟩ := I.cell x c e
    exact ⟨v, cellK x c e v z⟩
  · obtain ⟨m, ⟨o, _, _, ho, _⟩, _⟩ := I.loc
    exact free _ o (fun z => (hch _ z).2.1 rfl) ho I.free
  · obtain ⟨v, o, ho, hd⟩ := I.cell x c e
    exact free c o (fun z => (hch c z).2.2.1 x c e rfl) ho (I.freeC x c e)
  · obtain ⟨e, n, ne, nf, d⟩ := I.pin p hp
    have nch : p.1 ∉ ch := fun z => (hch p.1 z).2.2.2 p hp rfl
    exact ⟨keep p.1 p.2 ne nf nch e n, free p.1 p.2 nch e n, ne, nf, d⟩
/-- .. where the frame's own object is kept too -/
theorem Inv.un {t' : Nat} (I : Inv X pins σ H s) (u : Un X.fs [] H H' s.heap h') (hok : HOk X.prog X.w H' h') : Inv X pins σ H' { s with heap := h', toks := t' } := by
  obtain ⟨m, ⟨o, es, ep, ho, r⟩, _⟩ := id I.loc
  obtain ⟨sl, hL⟩ := u.any ho I.free (by simp)
  exact I.step (g' := s.gens) (d' := s.drawn) (ch := []) (fun _ z => nomatch z) (fun b o _ hb _ e n => u.keep b o e n hb (by simp)) (fun b o _ hb _ e n => u.slot b o e n hb (by simp)) (fun b o _ e n => u.free b o e n (by simp)) (fun b o _ e => u.there b o e (by simp)) u.tups u.frzs u.tbls (fun m' hm => by
    obtain ⟨o', es', ep', ho', r'⟩ := hm
    rw [ho] at ho'; cases ho'
    exact ⟨_, es', ep', hL, r'⟩) hok I.bare
/-- behind a call (or a comprehension's block): the slots of this frame may have changed too, the records at ch may have turned -/
theorem Inv.call {g' : Array GenState} {t' : Nat} {d' : Drawn} {ch : List Addr} (I : Inv X pins σ H s) (u : Un (frs X.stack) ch H H' s.heap h') (hok : HOk X.prog X.w H' h') (hg : AllBare g')
    (hch : ∀ b ∈ ch, (b ∈ X.ex ∨ X.s₀.heap.objs.size ≤ b) ∧ b ≠ X.env.locals ∧ (∀ x c, X.env.cells.lookup x = some c → c ≠ b) ∧ ∀ p ∈ X.pn ++ pins, p.1 ≠ b) :
    Inv X pins σ H' { s with heap := h', gens := g', drawn := d', toks := t' } := by
  obtain ⟨m, ⟨o, es, ep, ho, r⟩, _⟩ := id I.loc
  obtain ⟨sl, hL⟩ := u.any ho I.free fun z => (hch _ z).2.1 rfl
  exact I.step (ch := ch) hch (fun b o hL hb hc e n => u.keep b o e n (fun z => (List.mem_cons.mp (I.stkSub b z)).elim hL hb) hc) (fun b o _ _ hc e n => u.any e n hc) (fun b o hc e n => u.free b o e n hc) (fun b o hc e => u.there b o e hc) u.tups u.frzs u.tbls (fun m' hm => by
    obtain ⟨o', es', ep', ho', r'⟩ := hm
    rw [ho] at ho'; cases ho'
    exact ⟨_, es', ep', hL, r'⟩) hok hg
/-- an untracked record of ours (an iterator) has turned -/
theorem Inv.turned {t' : Nat} {it : Addr} (I : Inv X pins σ H s) (k : ∀ b o, b ≠ it → s.heap.get? b = some o → h'.get? b = some o) (hn : H it = none) (hL : it ≠ X.env.locals)
    (h1 : it ∈ X.ex ∨ X.s₀.heap.objs.size ≤ it) (h2 : ∀ x c, X.env.cells.lookup x = some c → c ≠ it) (h3 : ∀ p ∈ X.pn ++ pins, p.1 ≠ it) : Inv X pins σ H { s with heap := h', toks := t' } := by
  have nit : ∀ b u, H b = some u → b ≠ it := fun b u e z => by rw [z, hn] at e; cases e
  refine I.step (g' := s.gens) (d' := s.drawn) (ch := [it]) (fun b hb => ?_) (fun b o _ _ hc e _ => k b o (fun z => hc (by simp [z])) e) (fun b o _ _ hc e _ => ⟨o.slots, k b o (fun z => hc (by simp [z])) e⟩) (fun _ _ _ _ n => n)
    (fun b o hc e => ⟨o, k b o (fun z => hc (by simp [z])) e⟩) (fun _ _ e => e) (fun _ _ _ e => e) (fun b ps e => ⟨#[], by rw [e]; simp⟩) (fun m hm => ?_) (fun b u e => ?_) I.bare
  · have e : b = it := by simpa using hb
    subst e
    exact ⟨h1, hL, h2, h3⟩
  · obtain ⟨o, es, ep, ho, r⟩ := hm
    exact ⟨o, es, ep, k _ o (Ne.symm hL) ho, r⟩
  · refine (I.hok b u e).stay (fun c v hc q => k c v ?_ q) (fun _ q => q) fun _ _ q => q
    rcases hc with z | z
    · rw [z]; exact nit b u e
    · exact nit c _ z
theorem Inv.tok (I : Inv X pins σ H s) (t : Nat) : Inv X pins σ H { s with toks := t } := I.un (h' := s.heap) (t' := t) Un.refl I.hok
/-- all objects kept -/
theorem Inv.kept {t' : Nat} (I : Inv X pins σ H s) (k : ∀ b u, s.heap.get? b = some u → h'.get? b = some u) : Inv X pins σ H { s with heap := h', toks := t' } := I.un (Un.kept k) (I.hok.kept k)
/-- a new object laid and tracked -/
theorem Inv.laid {a : Addr} {o : HO} {t' : Nat} (I : Inv X pins σ H s) (k : ∀ b u, s.heap.get? b = some u → h'.get? b = some u) (hp : s.heap.objs.size ≤ a) (new : ObjOk X.prog X.w (upd H a o) h' a o) :
    Inv X pins σ (upd H a o) { s with heap := h', toks := t' } := I.un (Un.laid k hp (I.hok.fresh hp)) (I.hok.laid k hp new)
/-- an object written -/
theorem Inv.write {x e : Addr} {o : HO} {t' : Nat} (I : Inv X pins σ H s) (mu : Mut (H x)) (he : e = x ∨ H e = some (.own x)) (k : ∀ b u, b ≠ e → s.heap.get? b = some u → h'.get? b = some u) (heo : ∃ u, h'.get? e = some u)
    (new : ObjOk X.prog X.w (upd H x o) h' x o) : Inv X pins σ (upd H x o) { s with heap := h', toks := t' } := I.un (Un.write mu he k heo) (I.hok.write mu he k heo new)
/-- forgetting slots, pins -/
theorem Inv.weak {σ' : List (Option V)} (I : Inv X pins σ H s) (hl : σ'.length = σ.length) (w : ∀ (i : Nat) v, σ'[i]? = some (some v) → σ[i]? = some (some v)) : Inv X pins σ' H s :=
  ⟨I.ok, I.os, I.bare, I.base, let ⟨m, hn, hl'⟩ := I.loc; ⟨m, hn, fun i x v e1 e2 e3 => hl' i x v e1 (w i v e2) e3⟩, I.cell, I.free, I.freeC, I.pin, I.hok, hl.trans I.len⟩
theorem Inv.pins_of {pins' : List (Addr × Obj)} (I : Inv X pins σ H s) (h : ∀ p ∈ pins', s.heap.get? p.1 = some p.2 ∧ H p.1 = none ∧ p.1 ≠ X.env.locals ∧ p.1 ∉ X.fs ∧ ∀ v, p.2.data ≠ .cell v) : Inv X pins' σ H s :=
  ⟨I.ok, I.os, I.bare, I.base, I.loc, I.cell, I.free, I.freeC, fun p hp => (List.mem_append.mp hp).elim (fun z => I.pin p (List.mem_append_left _ z)) (h p), I.hok, I.len⟩

theorem nodup_ix {N : List Str} (hN : N.Nodup) {i j : Nat} {x : Str} (a : N[i]? = some x) (b : N[j]? = some x) : i = j := by
  obtain ⟨h1, e1⟩ := List.getElem?_eq_some_iff.mp a
  obtain ⟨h2, e2⟩ := List.getElem?_eq_some_iff.mp b
  exact (List.getElem_inj hN).mp (e1.trans e2.symm)

/-- a name is stored; what changed -/
theorem store_ok2 {M : Model} {A : Around} {E : Value → Shared → Prop} {i : Nat} {x : Str} {v : V} {u : Value} {Q : Unit → Shared → Prop} (I : Inv X pins σ H s) (hN : X.N.Nodup) (hi : X.N[i]? = some x) (hx : Loc X.env.scope x) (r : RelV v u)
    (h : ∀ s', Inv X pins (σ.set i (some v)) H s' → (∃ a, Heap.SameBut a s.heap s'.heap ∧ (a = X.env.locals ∨ X.env.cells.lookup x = some a)) → Q () s') (hf : X.fn x = true ∨ X.env.scope.names.lookup x = some .local := by first | exact .inl rfl | exact .inr rfl | assumption) : wpAny M A (storeName X.env x u) Q E s := by
  obtain ⟨m, hn, hl⟩ := id I.loc
  have hcls : (X.env.scope.kind == .class || (X.env.scope.kind == .module && X.env.locals != X.env.globals)) = false := by rw [I.ok.kind]; rfl
  have hiσ : i < σ.length := by rw [I.len]; exact (List.getElem?_eq_some_iff.mp hi).1
  have cne := I.cne
  have tracked : ∀ {a : Addr} {h' : Heap}, (∃ o, s.heap.get? a = some o ∧ H a = none) → Heap.SameBut a s.heap h' → HOk X.prog X.w H h' := fun {a h'} ha hs b ob e => by
    obtain ⟨_, _, hfree⟩ := ha
    refine (I.hok b ob e).stay (fun c w' hc q => (hs.2 c ?_).trans q) (fun _ q => q) fun _ _ q => q
    rintro rfl
    rcases hc with rfl | hc
    · rw [hfree] at e; cases e
    · rw [hfree] at hc; cases hc
  rcases hx with hk | hk
  · refine wpAny_storeName_local hk hn (fun h' hn' hs => ?_) hcls
    obtain ⟨oL, _, _, hoL, _⟩ := id hn
    refine h _ ⟨I.ok, I.os, I.bare, ⟨fun b o e n hb hx => ?_, fun b o e n hb hx => ?_, I.base.free, fun b o e hx => ?_, I.base.tups, I.base.frzs, I.base.tbls⟩, ⟨_, hn', fun j y v' e1 e2 e3 => ?_⟩, fun y c e => ?_, I.free, I.freeC, fun p hp => ?_, tracked ⟨oL, hoL, I.free⟩ hs, by simpa using I.len⟩ ⟨_, hs, .inl rfl⟩
    · exact (hs.2 b (Nat.ne_of_lt (Nat.lt_of_lt_of_le (Heap.lt_size e) I.ok.above))).trans (I.base.keep b o e n hb hx)
    · obtain ⟨sl, e1⟩ := I.base.slot b o e n hb hx
      exact ⟨sl, (hs.2 b (Nat.ne_of_lt (Nat.lt_of_lt_of_le (Heap.lt_size e) I.ok.above))).trans e1⟩
    · obtain ⟨o', e1⟩ := I.base.there b o e hx
      exact ⟨o', (hs.2 b (Nat.ne_of_lt (Nat.lt_of_lt_of_le (Heap.lt_size e) I.ok.above))).trans e1⟩
    · by_cases hj : j = i
      · subst hj
        rw [hi] at e1; cases e1
        rw [List.getElem?_set_self hiσ] at e2
        cases e2
        exact ⟨u, r, .inl ⟨hk, by simp⟩⟩
      · rw [List.getElem?_set_ne (Ne.symm hj)] at e2
        obtain ⟨u', r', q⟩ := hl j y v' e1 e2 e3
        refine ⟨u', r', ?_⟩
        rcases q with ⟨k, e⟩ | ⟨k, c, e, z⟩
        · refine .inl ⟨k, ?_⟩
          have : y ≠ x := fun e => hj (nodup_ix hN e1 (e ▸ hi))
          simp [this, e]
        · exact .inr ⟨k, c, e, z.sameBut hs (cne y c e)⟩
    · obtain ⟨w', z⟩ := I.cell y c e
      exact ⟨w', z.sameBut hs (cne y c e)⟩
    · obtain ⟨e, n, ne, nf, d⟩ := I.pin p hp
      exact ⟨(hs.2 p.1 ne).trans e, n, ne, nf, d⟩
  · have hfn : X.fn x = true := by
      rcases hf with z | z
      · exact z
      · rw [z] at hk; cases hk
    obtain ⟨c, hc⟩ := I.ok.has x (.inl hk)
    obtain ⟨w', z⟩ := I.cell x c hc
    refine wpAny_storeName_cell I.ok.kind hk hc z (fun h' hc' hs => ?_)
    obtain ⟨oc, hoc, hocd⟩ := id z
    refine h { s with heap := h' } ⟨I.ok, I.os, I.bare, ⟨fun b o e n hb hx => ?_, fun b o e n hb hx => ?_, I.base.free, fun b o e hx => ?_, I.base.tups, I.base.frzs, I.base.tbls⟩, ⟨m, hn.sameBut hs (Ne.symm (cne x c hc)), fun j y v' e1 e2 e3 => ?_⟩, fun y c' e => ?_, I.free, I.freeC, fun p hp => ?_, tracked ⟨oc, hoc, I.freeC x c hc⟩ hs, by simpa using I.len⟩ ⟨c, hs, .inr hc⟩
    · exact (hs.2 b (Nat.ne_of_lt (Nat.lt_of_lt_of_le (Heap.lt_size e) (I.ok.cab x c hfn hc)))).trans (I.base.keep b o e n hb hx)
    · obtain ⟨sl, e1⟩ := I.base.slot b o e n hb hx
      exact ⟨sl, (hs.2 b (Nat.ne_of_lt (Nat.lt_of_lt_of_le (Heap.lt_size e) (I.ok.cab x c hfn hc)))).trans e1⟩
    · obtain ⟨o', e1⟩ := I.base.there b o e hx
      exact ⟨o', (hs.2 b (Nat.ne_of_lt (Nat.lt_of_lt_of_le (Heap.lt_size e) (I.ok.cab x c hfn hc)))).trans e1⟩
    · by_cases hj : j = i
      · subst hj
        rw [hi] at e1; cases e1
        rw [List.getElem?_set_self hiσ] at e2
        cases e2
        exact ⟨u, r, .inr ⟨.inl hk, c, hc, hc'⟩⟩
      · rw [List.getElem?_set_ne (Ne.symm hj)] at e2
        obtain ⟨u', r', q⟩ := hl j y v' e1 e2 e3
        refine ⟨u', r', ?_⟩
        rcases q with q | ⟨k, c', e, z'⟩
        · exact .inl q
        · refine .inr ⟨k, c', e, z'.sameBut hs ?_⟩
          rintro rfl
          exact hj (nodup_ix hN e1 (I.ok.inj _ _ _ e hc ▸ hi))
    · by_cases hcc : c' = c
      · subst hcc; exact ⟨_, hc'⟩
      · obtain ⟨w2, z2⟩ := I.cell y c' e
        exact ⟨w2, z2.sameBut hs hcc⟩
    · obtain ⟨e, n, ne, nf, d⟩ := I.pin p hp
      refine ⟨(hs.2 p.1 ?_).trans e, n, ne, nf, d⟩
      intro q
      rw [q, hoc] at e
      have q' : oc = p.2 := Option.some.inj e
      exact d w' (by rw [← q']; exact hocd)
theorem store_ok {M : Model} {A : Around} {E : Value → Shared → Prop} {i : Nat} {x : Str} {v : V} {u : Value} {Q : Unit → Shared → Prop} (I : Inv X pins σ H s) (hN : X.N.Nodup) (hi : X.N[i]? = some x) (hx : Loc X.env.scope x) (r : RelV v u)
    (h : ∀ s', Inv X pins (σ.set i (some v)) H s' → Q () s') (hf : X.fn x = true ∨ X.env.scope.names.lookup x = some .local := by first | exact .inl rfl | exact .inr rfl | assumption) : wpAny M A (storeName X.env x u) Q E s :=
  store_ok2 I hN hi hx r (fun s' I' _ => h s' I') hf
/-- behind a call or a block, the state as it is -/
theorem Inv.call' {s' : Shared} {ch : List Addr} (I : Inv X pins σ H s) (ho : s'.os = s.os) (u : Un (frs X.stack) ch H H' s.heap s'.heap) (hok : HOk X.prog X.w H' s'.heap) (hg : AllBare s'.gens)
    (hch : ∀ b ∈ ch, (b ∈ X.ex ∨ X.s₀.heap.objs.size ≤ b) ∧ b ≠ X.env.locals ∧ (∀ x c, X.env.cells.lookup x = some c → c ≠ b) ∧ ∀ p ∈ X.pn ++ pins, p.1 ≠ b) : Inv X pins σ H' s' := by
  obtain ⟨h', g', d', t', o'⟩ := s'
  have e : o' = s.os := ho
  subst e
  exact I.call (g' := g') (t' := t') (d' := d') u hok hg hch
end

/-! ### the judgements -/
/-- an exception: its class, its own dict's address (where it has one), the abstract heap behind it -/
abbrev XK := Value → Option Addr → Hp → Prop
abbrev St := List (Option V)
abbrev VK := V → Hp → Prop
/-- an expression's reading; a test's; an argument list's -/
abbrev TE := St → Hp → VK → Prop
abbrev TT := St → Hp → (Bool → Hp → Prop) → Prop
abbrev TA := St → Hp → (List V → Hp → Prop) → Prop
/-- what is wanted behind a statement -/
structure Ends where
  nx : St → Hp → Prop
  rt : VK
  bk : St → Hp → Prop := fun _ _ => False
  ct : St → Hp → Prop := fun _ _ => False
abbrev TS := Ends → St → Hp → Prop

def EP (X : Cx) (pins : List (Addr × Obj)) (σ : St) (Q : VK) (u : Value) (s' : Shared) : Prop := ∃ v H', Inv X pins σ H' s' ∧ RelV v u ∧ Q v H'
def TP (X : Cx) (pins : List (Addr × Obj)) (σ : St) (Q : Bool → Hp → Prop) (b : Bool) (s' : Shared) : Prop := ∃ H', Inv X pins σ H' s' ∧ Q b H'
def AP (X : Cx) (pins : List (Addr × Obj)) (σ : St) (Q : List V → Hp → Prop) (us : List Value) (s' : Shared) : Prop := ∃ vs H', Inv X pins σ H' s' ∧ Vals vs us ∧ Q vs H'
def SP (X : Cx) (pins : List (Addr × Obj)) (D : Ends) (f : Flow) (s' : Shared) : Prop :=
  match f with
  | .next => ∃ σ' H', Inv X pins σ' H' s' ∧ D.nx σ' H'
  | .brk => ∃ σ' H', Inv X pins σ' H' s' ∧ D.bk σ' H'
  | .cont => ∃ σ' H', Inv X pins σ' H' s' ∧ D.ct σ' H'
  | .ret u => ∃ v σ' H', Inv X pins σ' H' s' ∧ RelV v u ∧ D.rt v H'

def PE (X : Cx) (e : Expr) (t : TE) : Prop :=
  ∀ (pins : List (Addr × Obj)) (s : Shared) (σ : St) (H : Hp) (Q : VK), Inv X pins σ H s → t σ H Q → wpAny (model X.prog X.w) X.A (eval e X.env) (EP X pins σ Q) X.xe s
def PT (X : Cx) (e : Expr) (t : TT) : Prop :=
  ∀ (pins : List (Addr × Obj)) (s : Shared) (σ : St) (H : Hp) (Q : Bool → Hp → Prop), Inv X pins σ H s → t σ H Q → wpAny (model X.prog X.w) X.A (isTrue e X.env (eval e X.env)) (TP X pins σ Q) X.xe s
/-- a test whatever its 'whole' is (and, or) -/
def PW (X : Cx) (e : Expr) (t : TT) : Prop :=
  ∀ (whole : Sem Value) (pins : List (Addr × Obj)) (s : Shared) (σ : St) (H : Hp) (Q : Bool → Hp → Prop), Inv X pins σ H s → t σ H Q → wpAny (model X.prog X.w) X.A (isTrue e X.env whole) (TP X pins σ Q) X.xe s
theorem PW.pt {X : Cx} {e : Expr} {t : TT} (h : PW X e t) : PT X e t := h _
/-- an argument list (no star), from the left -/
def PA (X : Cx) (es : List Expr) (t : TA) : Prop :=
  ∀ (pos : Pos) (pins : List (Addr × Obj)) (s : Shared) (σ : St) (H : Hp) (Q : List V → Hp → Prop), Inv X pins σ H s → t σ H Q → wpAny (model X.prog X.w) X.A (spliced (backTo pos (starEach es X.env))) (AP X pins σ Q) X.xe s
def PS (X : Cx) (st : Stmt) (t : TS) : Prop :=
  ∀ (pins : List (Addr × Obj)) (s : Shared) (σ : St) (H : Hp) (D : Ends), Inv X pins σ H s → t D σ H → wpAny (model X.prog X.w) X.A (exec st X.env) (SP X pins D) X.xe s
def PSs (X : Cx) (st : List Stmt) (t : TS) : Prop :=
  ∀ (pins : List (Addr × Obj)) (s : Shared) (σ : St) (H : Hp) (D : Ends), Inv X pins σ H s → t D σ H → wpAny (model X.prog X.w) X.A (execs st X.env) (SP X pins D) X.xe s
/-- weaken the end -/
theorem thn {α : Type} {t : Sem α} {Q Q' : α → Shared → Prop} {M : Model} {A : Around} {E : Value → Shared → Prop} {s : Shared} (h : wpAny M A t Q E s) (hQ : ∀ a s, Q a s → Q' a s) : wpAny M A t Q' E s := wpAny_mono h hQ fun _ _ x => x
end L2

namespace L2
open PySem PySem.Spec PyProof.Rows
section
variable {X : Cx}

/-- two expressions in a row -/
theorem bin {a b : Expr} {ta tb : TE} (ha : PE X a ta) (hb : PE X b tb) {pins : List (Addr × Obj)} {s : Shared} {σ : St} {H : Hp} {R : V → V → Hp → Prop} (I : Inv X pins σ H s) (h : ta σ H fun x H1 => tb σ H1 fun y H2 => R x y H2)
    {α : Type} {Q : α → Shared → Prop} {f : Value → Value → Sem α}
    (hf : ∀ v u s2 x y H2, Inv X pins σ H2 s2 → RelV x v → RelV y u → R x y H2 → wpAny (model X.prog X.w) X.A (f v u) Q X.xe s2) :
    wpAny (model X.prog X.w) X.A (eval a X.env) (fun v s₁ => wpAny (model X.prog X.w) X.A (eval b X.env) (fun u s₂ => wpAny (model X.prog X.w) X.A (f v u) Q X.xe s₂) X.xe s₁) X.xe s := by
  refine thn (ha pins s σ H _ I h) fun v s1 ⟨x, H1, I1, r1, q1⟩ => ?_
  refine thn (hb pins s1 σ H1 _ I1 q1) fun u s2 ⟨y, H2, I2, r2, q2⟩ => ?_
  exact hf v u s2 x y H2 I2 r1 r2 q2

/-! ### names and constants -/
def tVar (i : Nat) : TE := fun σ H Q => ∃ v, σ[i]? = some (some v) ∧ Q v H
def tC (v : V) : TE := fun _ H Q => Q v H
theorem pe_var {i : Nat} {x : Str} {pos : Pos} (hN : X.N[i]? = some x) (hv : Vis X.env.scope x) (hd : (x == ("__debug__" : Str)) = false := by decide) (hcd : (x == ("__classdict__" : Str)) = false := by decide) : PE X (.Name x pos) (tVar i) := by
  intro pins s σ H Q I h
  obtain ⟨v, e, h⟩ := h
  obtain ⟨m, hn, hl⟩ := I.loc
  obtain ⟨u, r, l⟩ := hl i x v hN e hv
  have fin : EP X pins σ Q u s := ⟨v, H, I, r, h⟩
  rcases l with ⟨hk, hm⟩ | ⟨hk, c, hc, hcell⟩
  · exact wpAny_Name (wpAny_loadName_local I.ok.kind hk hn hm fin) hd
  · rcases hk with hk | hk
    · exact wpAny_Name (wpAny_loadName_cell I.ok.kind hk hc hcell fin) hd
    · exact wpAny_Name (wpAny_loadName_free I.ok.kind hk hc hcell fin hcd) hd
theorem pe_int {i j pos} : PE X (.Constant (.int i) j pos) (tC (.int i)) := fun _ _ _ H _ I h => wpAny_Constant_int ⟨.int i, H, I.tok _, ⟨_, rfl⟩, h⟩
theorem pe_bl {b j pos} : PE X (.Constant (.bool b) j pos) (tC (.bl b)) := fun _ _ _ H _ I h => Constant_bool ⟨.bl b, H, I, rfl, h⟩
theorem pe_non {j pos} : PE X (.Constant .none j pos) (tC .non) := fun _ _ _ H _ I h => Constant_none ⟨.non, H, I, rfl, h⟩
theorem pe_str {x j pos} : PE X (.Constant (.str x) j pos) (tC (.str x)) := fun _ _ _ H _ I h => Calls.Constant_str ⟨.str x, H, I.tok _, ⟨_, rfl⟩, h⟩

/-- a global name of the def -/
def Gl (X : Cx) (x : Str) : Prop := X.env.kindOf x = some .globalImplicit
theorem ld_glob {E : Value → Shared → Prop} {pins : List (Addr × Obj)} {s : Shared} {σ : St} {H : Hp} {x : Str} {u : Value} {pos : Pos} {Q : Value → Shared → Prop} (I : Inv X pins σ H s) (hg : Gl X x) (hm : X.mg x = some u) (h : Q u s)
    (hd : (x == ("__debug__" : Str)) = false := by decide) : wpAny (model X.prog X.w) X.A (eval (.Name x pos) X.env) Q E s :=
  Calls.Name_function_global I.ok.kind hg (Calls.loadGlobal_global (by rw [I.ok.glob]; exact I.mod.glob.keeps I.bk) hm h) hd
theorem ld_blt {E : Value → Shared → Prop} {pins : List (Addr × Obj)} {s : Shared} {σ : St} {H : Hp} {x : Str} {u : Value} {pos : Pos} {Q : Value → Shared → Prop} (I : Inv X pins σ H s) (hg : Gl X x) (hm : X.mg x = none) (hv : bootBuiltins x = some u) (h : Q u s)
    (hn : x ≠ "__name__" := by decide) (hd : (x == ("__debug__" : Str)) = false := by decide) : wpAny (model X.prog X.w) X.A (eval (.Name x pos) X.env) Q E s := by
  obtain ⟨mb, h1, h2⟩ := I.mod.blt
  exact Calls.Name_function_global I.ok.kind hg (Calls.loadGlobal_builtin (by rw [I.ok.glob]; exact I.mod.glob.keeps I.bk) hm (by rw [I.ok.blt]; exact h1.keeps I.bk) ((h2 x hn).trans hv) h) hd
/-- a module's constant, a class, a function, as a value -/
theorem pe_glob {x : Str} {v : V} {u : Value} {pos : Pos} (hg : Gl X x) (hm : X.mg x = some u) (r : RelV v u) (hd : (x == ("__debug__" : Str)) = false := by decide) : PE X (.Name x pos) (tC v) :=
  fun _ _ _ H _ I h => ld_glob I hg hm ⟨v, H, I, r, h⟩ hd
theorem pe_bltn {x : Str} {v : V} {u : Value} {pos : Pos} (hg : Gl X x) (hm : X.mg x = none) (hv : bootBuiltins x = some u) (r : RelV v u) (hn : x ≠ "__name__" := by decide) (hd : (x == ("__debug__" : Str)) = false := by decide) : PE X (.Name x pos) (tC v) :=
  fun _ _ _ H _ I h => ld_blt I hg hm hv ⟨v, H, I, r, h⟩ hn hd

/-! ### arithmetic -/
/-- two ints -/
def t2I (ta tb : TE) (k : Int → Int → Hp → Prop) : St → Hp → Prop := fun σ H => ta σ H fun x H1 => tb σ H1 fun y H2 => ∃ i j, x = .int i ∧ y = .int j ∧ k i j H2
def tAdd (ta tb : TE) : TE := fun σ H Q => t2I ta tb (fun i j H2 => Q (.int (i + j)) H2) σ H
def tSub (ta tb : TE) : TE := fun σ H Q => t2I ta tb (fun i j H2 => Q (.int (i - j)) H2) σ H
/-- the left factor below 2^64 -/
def tMul (ta tb : TE) : TE := fun σ H Q => t2I ta tb (fun i j H2 => (-(2 ^ 64) < i ∧ i < 2 ^ 64) ∧ Q (.int (i * j)) H2) σ H
variable {a b : Expr} {ta tb : TE} {pos : Pos}
theorem pe_add (ha : PE X a ta) (hb : PE X b tb) : PE X (.BinOp a .Add b pos) (tAdd ta tb) := by
  intro pins s σ H Q I h
  refine wpAny_BinOp (bin ha hb I h fun v u s2 x y H2 I2 rx ry q => ?_)
  obtain ⟨i, j, rfl, rfl, q⟩ := q
  obtain ⟨t, rfl⟩ := rx
  obtain ⟨t', rfl⟩ := ry
  exact add_int ⟨.int _, H2, I2.tok _, ⟨_, rfl⟩, q⟩
theorem pe_sub (ha : PE X a ta) (hb : PE X b tb) : PE X (.BinOp a .Sub b pos) (tSub ta tb) := by
  intro pins s σ H Q I h
  refine wpAny_BinOp (bin ha hb I h fun v u s2 x y H2 I2 rx ry q => ?_)
  obtain ⟨i, j, rfl, rfl, q⟩ := q
  obtain ⟨t, rfl⟩ := rx
  obtain ⟨t', rfl⟩ := ry
  exact sub_int ⟨.int _, H2, I2.tok _, ⟨_, rfl⟩, q⟩
theorem pe_mul (ha : PE X a ta) (hb : PE X b tb) : PE X (.BinOp a .Mult b pos) (tMul ta tb) := by
  intro pins s σ H Q I h
  refine wpAny_BinOp (bin ha hb I h fun v u s2 x y H2 I2 rx ry q => ?_)
  obtain ⟨i, j, rfl, rfl, ⟨q1, q2⟩, q⟩ := q
  obtain ⟨t, rfl⟩ := rx
  obtain ⟨t', rfl⟩ := ry
  exact mul_int ⟨.int _, H2, I2.tok _, ⟨_, rfl⟩, q⟩ (.of_left (intBits_le_64 q1 q2))

/-! ### comparisons -/
def PC (X : Cx) (op : CmpOp) (a b : Expr) (t : TE) : Prop :=
  ∀ (pins : List (Addr × Obj)) (s : Shared) (σ : St) (H : Hp) (Q : VK), Inv X pins σ H s → t σ H Q →
    wpAny (model X.prog X.w) X.A (eval a X.env) (fun v s₁ => wpAny (model X.prog X.w) X.A (eval b X.env) (fun u s₂ => wpAny (model X.prog X.w) X.A (compareOp op v u) (EP X pins σ Q) X.xe s₂) X.xe s₁) X.xe s
theorem nobehind (b : Expr) {op : CmpOp} (h : op ≠ .In) (h2 : op ≠ .NotIn) : behindInMarks op b = false := by
  have e1 : (op == CmpOp.In) = false := by cases op <;> first | rfl | exact absurd rfl h
  have e2 : (op == CmpOp.NotIn) = false := by cases op <;> first | rfl | exact absurd rfl h2
  cases b <;> simp [behindInMarks, e1, e2]
def tCmp (p : Int → Int → Bool) (ta tb : TE) : TE := fun σ H Q => t2I ta tb (fun i j H2 => Q (.bl (p i j)) H2) σ H
abbrev tLt : TE → TE → TE := tCmp fun i j => decide (i < j)
abbrev tLe : TE → TE → TE := tCmp fun i j => decide (i ≤ j)
abbrev tGt : TE → TE → TE := tCmp fun i j => decide (j < i)
abbrev tGe : TE → TE → TE := tCmp fun i j => decide (j ≤ i)
abbrev tEqI : TE → TE → TE := tCmp fun i j => decide (i = j)
abbrev tNeI : TE → TE → TE := tCmp fun i j => !decide (i = j)
/-- a comparison of two ints, by its rule -/
theorem pc_int {op : CmpOp} {p : Int → Int → Bool} (ha : PE X a ta) (hb : PE X b tb)
    (rule : ∀ (i j : Int) (t u : Tok) (Q : Value → Shared → Prop) (s : Shared), Q (.bool (p i j)) s → wpAny (model X.prog X.w) X.A (compareOp op (.int i t) (.int j u)) Q X.xe s) : PC X op a b (tCmp p ta tb) := by
  intro pins s σ H Q I h
  refine bin ha hb I h fun v u s2 x y H2 I2 rx ry q => ?_
  obtain ⟨i, j, rfl, rfl, q⟩ := q
  obtain ⟨t, rfl⟩ := rx
  obtain ⟨t', rfl⟩ := ry
  exact rule i j t t' _ s2 ⟨.bl _, H2, I2, rfl, q⟩
theorem pc_lt (ha : PE X a ta) (hb : PE X b tb) : PC X .Lt a b (tLt ta tb) := pc_int ha hb fun _ _ _ _ _ _ h => lt_int h
theorem pc_le (ha : PE X a ta) (hb : PE X b tb) : PC X .LtE a b (tLe ta tb) := pc_int ha hb fun _ _ _ _ _ _ h => le_int h
theorem pc_gt (ha : PE X a ta) (hb : PE X b tb) : PC X .Gt a b (tGt ta tb) := pc_int ha hb fun _ _ _ _ _ _ h => gt_int h
theorem pc_ge (ha : PE X a ta) (hb : PE X b tb) : PC X .GtE a b (tGe ta tb) := pc_int ha hb fun _ _ _ _ _ _ h => ge_int h
theorem pc_eqI (ha : PE X a ta) (hb : PE X b tb) : PC X .Eq a b (tEqI ta tb) := pc_int ha hb fun _ _ _ _ _ _ h => eq_int (by rw [Bool.beq_eq_decide_eq]; exact h)
theorem pc_neI (ha : PE X a ta) (hb : PE X b tb) : PC X .NotEq a b (tNeI ta tb) := pc_int ha hb fun _ _ _ _ _ _ h => ne_int (by rw [bne, Bool.beq_eq_decide_eq]; exact h)
/-- is None -/
def tIsN (ta : TE) : TE := fun σ H Q => ta σ H fun x H1 => Q (.bl (decide (x = .non))) H1
def tNotN (ta : TE) : TE := fun σ H Q => ta σ H fun x H1 => Q (.bl (!decide (x = .non))) H1
theorem RelV.none_iff {x : V} {v : Value} (r : RelV x v) : (v == Value.none) = decide (x = .non) := by
  cases x with
  | non => cases r; rfl
  | bl _ => cases r; rfl
  | int _ => obtain ⟨t, rfl⟩ := r; rfl
  | str _ => obtain ⟨t, rfl⟩ := r; rfl
  | byt _ => obtain ⟨t, rfl⟩ := r; rfl
  | flt _ => obtain ⟨t, rfl⟩ := r; rfl
  | ref _ => cases r; rfl
  | ty _ => cases r; rfl
theorem pc_isN {j pos'} (ha : PE X a ta) : PC X .Is a (.Constant .none j pos') (tIsN ta) := by
  intro pins s σ H Q I h
  refine thn (ha pins s σ H _ I h) fun v s1 ⟨x, H1, I1, r1, q1⟩ => ?_
  exact Constant_none (is_none_gen ⟨.bl _, H1, I1, by rw [r1.none_iff]; rfl, q1⟩)
theorem pc_notN {j pos'} (ha : PE X a ta) : PC X .IsNot a (.Constant .none j pos') (tNotN ta) := by
  intro pins s σ H Q I h
  refine thn (ha pins s σ H _ I h) fun v s1 ⟨x, H1, I1, r1, q1⟩ => ?_
  exact Constant_none (isnot_none_gen ⟨.bl _, H1, I1, by rw [r1.none_iff]; rfl, q1⟩)
/-- a comparison as a value, as a test -/
def tB (t : TE) : TT := fun σ H Q => t σ H fun x H1 => ∃ c, x = .bl c ∧ Q c H1
theorem pe_cmp {op : CmpOp} {t : TE} (h : PC X op a b t) (h1 : behindInMarks op b = false := by first | exact nobehind _ (by decide) (by decide) | rfl) : PE X (.Compare a [op] [b] pos) t := fun pins s σ H Q I hw => wpAny_Compare1 (h pins s σ H Q I hw) h1
theorem pt_cmp {op : CmpOp} {t : TE} (h : PC X op a b t) (h1 : behindInMarks op b = false := by first | exact nobehind _ (by decide) (by decide) | rfl) : PT X (.Compare a [op] [b] pos) (tB t) := by
  intro pins s σ H Q I hw
  refine wpAny_isTrue_Compare1 (thn (h pins s σ H _ I hw) fun v s1 h1 => thn h1 fun u s2 h2 => thn h2 fun c s3 ⟨x, H1, I1, r1, q1⟩ => ?_) h1
  obtain ⟨d, rfl, q⟩ := q1
  cases r1
  exact wpAny_truthy_bool ⟨H1, I1, q⟩
/-- an expression whose value is a bool, as a test -/
theorem pt_val {e : Expr} {t : TE} (h : PE X e t) (he : ∀ whole, isTrue e X.env whole = (do let v ← whole; standAt e.pos; holding [v] (truthy v)) := by intro _; rfl) : PT X e (tB t) := by
  intro pins s σ H Q I hw
  refine isTrue_plain (thn (h pins s σ H _ I hw) fun v s1 ⟨x, H1, I1, r1, q1⟩ => ?_) (he _)
  obtain ⟨d, rfl, q⟩ := q1
  cases r1
  exact wpAny_truthy_bool ⟨H1, I1, q⟩

/-! ### and, or, not -/
variable {tA tB' : TT} {rest : List Expr}
def tAnd (t u : TT) : TT := fun σ H Q => t σ H fun c H1 => if c = true then u σ H1 Q else Q false H1
def tOr (t u : TT) : TT := fun σ H Q => t σ H fun c H1 => if c = true then Q true H1 else u σ H1 Q
def tNot (t : TT) : TT := fun σ H Q => t σ H fun c H1 => Q (!c) H1
theorem pw_and1 (ha : PT X a tA) : PW X (.BoolOp .And [a] pos) tA := by
  intro wh pins s σ H Q I h
  refine isTrue_and (thn (ha pins s σ H Q I h) fun c s1 e => ?_)
  cases c with
  | true => exact isTrue_and_nil e
  | false => exact e
theorem pw_or1 (ha : PT X a tA) : PW X (.BoolOp .Or [a] pos) tA := by
  intro wh pins s σ H Q I h
  refine isTrue_or (thn (ha pins s σ H Q I h) fun c s1 e => ?_)
  cases c with
  | false => exact isTrue_or_nil e
  | true => exact e
theorem pw_and (ha : PT X a tA) (hb : PW X (.BoolOp .And (b :: rest) pos) tB') : PW X (.BoolOp .And (a :: b :: rest) pos) (tAnd tA tB') := by
  intro wh pins s σ H Q I h
  refine isTrue_and (thn (ha pins s σ H _ I h) fun c s1 ⟨H1, I1, q1⟩ => ?_)
  cases c with
  | true => exact hb wh pins s1 σ H1 Q I1 q1
  | false => exact ⟨H1, I1, q1⟩
theorem pw_or (ha : PT X a tA) (hb : PW X (.BoolOp .Or (b :: rest) pos) tB') : PW X (.BoolOp .Or (a :: b :: rest) pos) (tOr tA tB') := by
  intro wh pins s σ H Q I h
  refine isTrue_or (thn (ha pins s σ H _ I h) fun c s1 ⟨H1, I1, q1⟩ => ?_)
  cases c with
  | true => exact ⟨H1, I1, q1⟩
  | false => exact hb wh pins s1 σ H1 Q I1 q1
theorem pt_not (ha : PT X a tA) : PT X (.UnaryOp .Not a pos) (tNot tA) := by
  intro pins s σ H Q I h
  exact isTrue_not (ha pins s σ H (fun c H1 => Q (!c) H1) I h)
/-- .. as values (bools) -/
def tAndV (ta tb : TE) : TE := fun σ H Q => ta σ H fun x H1 => ∃ c, x = .bl c ∧ if c = true then tb σ H1 Q else Q (.bl false) H1
def tOrV (ta tb : TE) : TE := fun σ H Q => ta σ H fun x H1 => ∃ c, x = .bl c ∧ if c = true then Q (.bl true) H1 else tb σ H1 Q
def tNotV (ta : TE) : TE := fun σ H Q => ta σ H fun x H1 => ∃ c, x = .bl c ∧ Q (.bl (!c)) H1
theorem pe_one {op} {t : TE} (h : PE X a t) : PE X (.BoolOp op [a] pos) t := fun pins s σ H Q I hw => BoolOp_one (h pins s σ H Q I hw)
theorem pe_and (ha : PE X a ta) (hb : PE X (.BoolOp .And (b :: rest) pos) tb) : PE X (.BoolOp .And (a :: b :: rest) pos) (tAndV ta tb) := by
  intro pins s σ H Q I h
  refine BoolOp_and (thn (ha pins s σ H _ I h) fun v s1 ⟨x, H1, I1, r1, q1⟩ => ?_)
  obtain ⟨c, rfl, q1⟩ := q1
  cases r1
  refine wpAny_truthy_bool ?_
  cases c with
  | true => exact hb pins s1 σ H1 Q I1 q1
  | false => exact ⟨.bl false, H1, I1, rfl, q1⟩
theorem pe_or (ha : PE X a ta) (hb : PE X (.BoolOp .Or (b :: rest) pos) tb) : PE X (.BoolOp .Or (a :: b :: rest) pos) (tOrV ta tb) := by
  intro pins s σ H Q I h
  refine BoolOp_or (thn (ha pins s σ H _ I h) fun v s1 ⟨x, H1, I1, r1, q1⟩ => ?_)
  obtain ⟨c, rfl, q1⟩ := q1
  cases r1
  refine wpAny_truthy_bool ?_
  cases c with
  | false => exact hb pins s1 σ H1 Q I1 q1
  | true => exact ⟨.bl true, H1, I1, rfl, q1⟩
theorem pe_not (ha : PE X a ta) : PE X (.UnaryOp .Not a pos) (tNotV ta) := by
  intro pins s σ H Q I h
  refine UnaryOp_ (thn (ha pins s σ H _ I h) fun v s1 ⟨x, H1, I1, r1, q1⟩ => ?_)
  obtain ⟨c, rfl, q1⟩ := q1
  cases r1
  exact not_of (wpAny_truthy_bool ⟨.bl (!c), H1, I1, rfl, q1⟩)
/-- a if t else b -/
def tIf (t : TT) (ta tb : TE) : TE := fun σ H Q => t σ H fun c H1 => if c = true then ta σ H1 Q else tb σ H1 Q
theorem pe_ifExp {c : Expr} (hc : PT X c tA) (ha : PE X a ta) (hb : PE X b tb) : PE X (.IfExp c a b pos) (tIf tA ta tb) := by
  intro pins s σ H Q I h
  refine wpAny_IfExp (thn (hc pins s σ H _ I h) fun d s1 ⟨H1, I1, q1⟩ => ?_)
  cases d with
  | true => exact ha pins s1 σ H1 Q I1 q1
  | false => exact hb pins s1 σ H1 Q I1 q1
end
end L2

namespace L2
open PySem PySem.Spec PyProof.Rows

/-! ### a list, a tuple that is read: tracked, frozen, or an object of the module -/
def SqL (K : PySem.W.Frag) (H : Hp) (a : Addr) (xs : List V) : Prop :=
  Rd H a (.lst xs) ∨
    ∃ (o : Obj) (its : Array Value) (n : Nat), K.lookup a = some o ∧ o.cls = .type "list" ∧ o.dict = none ∧ o.data = .seq its n ∧ its.size ≤ sizeLine ∧ Vals xs its.toList
def SqT (K : PySem.W.Frag) (H : Hp) (a : Addr) (xs : List V) : Prop :=
  Rd H a (.tup xs) ∨
    ∃ (o : Obj) (its : Array Value) (n : Nat), K.lookup a = some o ∧ o.cls = .type "tuple" ∧ o.data = .seq its n ∧ its.size ≤ sizeLine ∧ Vals xs its.toList
def absV : Value → Option V
  | .none => some .non
  | .bool b => some (.bl b)
  | .int i _ => some (.int i)
  | .str x _ => some (.str x)
  | .bytes b _ => some (.byt b)
  | .float b _ => some (.flt b)
  | .ref a => some (.ref a)
  | .type n => some (.ty n)
  | _ => none
theorem RelV.abs {x : V} {u : Value} (r : RelV x u) : absV u = some x := by
  cases x with
  | non => cases r; rfl
  | bl _ => cases r; rfl
  | int _ => obtain ⟨t, rfl⟩ := r; rfl
  | str _ => obtain ⟨t, rfl⟩ := r; rfl
  | byt _ => obtain ⟨t, rfl⟩ := r; rfl
  | flt _ => obtain ⟨t, rfl⟩ := r; rfl
  | ref _ => cases r; rfl
  | ty _ => cases r; rfl
theorem RelV.inj {x y : V} {u : Value} (r : RelV x u) (q : RelV y u) : x = y := Option.some.inj (r.abs.symm.trans q.abs)
theorem Vals.inj : ∀ {xs ys : List V} {us : List Value}, Vals xs us → Vals ys us → xs = ys
  | _, _, _, .nil, .nil => rfl
  | _, _, _, .cons r t, .cons r' t' => by rw [r.inj r', Vals.inj t t']
section
variable {X : Cx} {pins : List (Addr × Obj)} {σ : St} {H : Hp} {s : Shared} {a : Addr} {xs ys : List V}
theorem SqL.of {K : PySem.W.Frag} (h : H a = some (.lst xs)) : SqL K H a xs := .inl (.inl h)
theorem SqT.of {K : PySem.W.Frag} (h : H a = some (.tup xs)) : SqT K H a xs := .inl (.inl h)
theorem Inv.list (I : Inv X pins σ H s) (h : SqL X.K H a xs) : ∃ its : List Value, Vals xs its ∧ PlainL s.heap a its.toArray ∧ xs.length ≤ sizeLine := by
  rcases h with h | ⟨o, its, n, hk, hc, hd, hs, hz, r⟩
  · obtain ⟨z, its, n, r, e⟩ := h.ok I.hok
    exact ⟨its, r, ⟨_, n, e, rfl, rfl, rfl⟩, z⟩
  · refine ⟨its.toList, r, ⟨o, n, I.kIn a o hk, hc, hd, by simpa using hs⟩, ?_⟩
    have e := r.length
    simp only [Array.length_toList] at e
    omega
theorem Inv.tuple (I : Inv X pins σ H s) (h : SqT X.K H a xs) : ∃ its : List Value, Vals xs its ∧ IsTup s.heap a its.toArray ∧ xs.length ≤ sizeLine := by
  rcases h with h | ⟨o, its, n, hk, hc, hs, hz, r⟩
  · obtain ⟨z, its, r, p⟩ := h.ok I.hok
    exact ⟨its, r, p, z⟩
  · refine ⟨its.toList, r, ⟨o, I.kIn a o hk, hc, n, by simpa using hs⟩, ?_⟩
    have e := r.length
    simp only [Array.length_toList] at e
    omega
theorem Inv.list_inj (I : Inv X pins σ H s) (h : SqL X.K H a xs) (h' : SqL X.K H a ys) : xs = ys := by
  obtain ⟨its, r, ⟨o, n, e, _, _, d⟩, _⟩ := I.list h
  obtain ⟨its', r', ⟨o', n', e', _, _, d'⟩, _⟩ := I.list h'
  rw [e] at e'; cases e'
  rw [d] at d'
  injection d' with d1 _
  have : its = its' := by simpa using congrArg Array.toList d1
  subst this
  exact r.inj r'
theorem Inv.tuple_inj (I : Inv X pins σ H s) (h : SqT X.K H a xs) (h' : SqT X.K H a ys) : xs = ys := by
  obtain ⟨its, r, ⟨o, e, _, n, d⟩, _⟩ := I.tuple h
  obtain ⟨its', r', ⟨o', e', _, n', d'⟩, _⟩ := I.tuple h'
  rw [e] at e'; cases e'
  rw [d] at d'
  injection d' with d1 _
  have : its = its' := by simpa using congrArg Array.toList d1
  subst this
  exact r.inj r'
end

/-! ### another wish about exceptions -/
abbrev Cx.wish (X : Cx) (E : Value → Shared → Prop) : Cx := { X with xe := E }
/-- no exception leaves -/
abbrev Cx.nox (X : Cx) : Cx := X.wish fun _ _ => False
theorem Cx.Ok.wish {X : Cx} (ok : X.Ok) (E : Value → Shared → Prop) : (X.wish E).Ok :=
  ⟨ok.mod, ok.kind, ok.glob, ok.blt, ok.above, ok.inj, ok.has, ok.cab, ok.hd, ok.frames, ok.stk, ok.exf, ok.bs, ok.bsz, ok.noex, ok.exfs, ok.funs, ok.frf⟩
theorem Cx.Ok.unwish {X : Cx} {E : Value → Shared → Prop} (ok : (X.wish E).Ok) : X.Ok :=
  ⟨ok.mod, ok.kind, ok.glob, ok.blt, ok.above, ok.inj, ok.has, ok.cab, ok.hd, ok.frames, ok.stk, ok.exf, ok.bs, ok.bsz, ok.noex, ok.exfs, ok.funs, ok.frf⟩
section
variable {X : Cx} {pins : List (Addr × Obj)} {σ : St} {H : Hp} {s : Shared} {E : Value → Shared → Prop}
theorem Inv.wish (I : Inv X pins σ H s) (E : Value → Shared → Prop) : Inv (X.wish E) pins σ H s := ⟨I.ok.wish E, I.os, I.bare, I.base, I.loc, I.cell, I.free, I.freeC, I.pin, I.hok, I.len⟩
theorem Inv.unwish (I : Inv (X.wish E) pins σ H s) : Inv X pins σ H s := ⟨I.ok.unwish, I.os, I.bare, I.base, I.loc, I.cell, I.free, I.freeC, I.pin, I.hok, I.len⟩
theorem SP.unwish {D : Ends} {f : Flow} {s' : Shared} (h : SP (X.wish E) pins D f s') : SP X pins D f s' := by
  cases f with
  | next => obtain ⟨σ', H', I, q⟩ := h; exact ⟨σ', H', I.unwish, q⟩
  | brk => obtain ⟨σ', H', I, q⟩ := h; exact ⟨σ', H', I.unwish, q⟩
  | cont => obtain ⟨σ', H', I, q⟩ := h; exact ⟨σ', H', I.unwish, q⟩
  | ret u => obtain ⟨v, σ', H', I, r, q⟩ := h; exact ⟨v, σ', H', I.unwish, r, q⟩
theorem PE.nox {e : Expr} {t : TE} (h : PE X.nox e t) : PE X e t := fun pins s σ H Q I hw =>
  wpAny_mono (h pins s σ H Q (I.wish _) hw) (fun _ _ ⟨v, H', I', r, q⟩ => ⟨v, H', I'.unwish, r, q⟩) fun _ _ z => False.elim z
theorem PT.nox {e : Expr} {t : TT} (h : PT X.nox e t) : PT X e t := fun pins s σ H Q I hw =>
  wpAny_mono (h pins s σ H Q (I.wish _) hw) (fun _ _ ⟨H', I', q⟩ => ⟨H', I'.unwish, q⟩) fun _ _ z => False.elim z
theorem PSs.nox {st : List Stmt} {t : TS} (h : PSs X.nox st t) : PSs X st t := fun pins s σ H D I hw =>
  wpAny_mono (h pins s σ H D (I.wish _) hw) (fun _ _ q => q.unwish) fun _ _ z => False.elim z
end

/-! ### blocks and small statements -/
section
variable {X : Cx} {st : Stmt} {rest : List Stmt} {t u : TS} {e : Expr} {te : TE} {pos : Pos}
def tNext : TS := fun D σ H => D.nx σ H
def tSeq (t u : TS) : TS := fun D σ H => t { D with nx := u D } σ H
theorem pss_nil : PSs X [] tNext := fun _ _ σ H _ I h => wpAny_execs_nil ⟨σ, H, I, h⟩
theorem pss_cons (h1 : PS X st t) (h2 : PSs X rest u) : PSs X (st :: rest) (tSeq t u) := by
  intro pins s σ H D I h
  refine wpAny_execs_cons (thn (h1 pins s σ H { D with nx := u D } I h) fun f s1 q => ?_)
  cases f with
  | next =>
    obtain ⟨σ', H', I', q⟩ := q
    exact h2 pins s1 σ' H' D I' q
  | ret v => exact q
  | brk => exact q
  | cont => exact q
theorem pss_one (h1 : PS X st t) : PSs X [st] t := by
  intro pins s σ H D I h
  refine wpAny_execs_cons (thn (h1 pins s σ H D I h) fun f s1 q => ?_)
  cases f with
  | next => exact wpAny_execs_nil q
  | ret v => exact q
  | brk => exact q
  | cont => exact q
def tBreak : TS := fun D σ H => D.bk σ H
def tCont : TS := fun D σ H => D.ct σ H
theorem ps_pass : PS X (.Pass pos) tNext := fun _ _ σ H _ I h => wpAny_Pass ⟨σ, H, I, h⟩
theorem ps_break : PS X (.Break pos) tBreak := fun _ _ σ H _ I h => wpAny_Break ⟨σ, H, I, h⟩
theorem ps_continue : PS X (.Continue pos) tCont := fun _ _ σ H _ I h => wpAny_Continue ⟨σ, H, I, h⟩
/-- in a def's body nothing is shown -/
theorem Inv.quiet {pins : List (Addr × Obj)} {σ : St} {H : Hp} {s : Shared} (I : Inv X pins σ H s) : interactive X.env = false := by simp [interactive, I.ok.kind]
/-- a docstring -/
theorem ps_doc {x j pos pos'} : PS X (.Expr (.Constant (.str x) j pos) pos') tNext := fun _ s σ H _ I h => wpAny_Expr (Calls.Constant_str (show SP X _ _ .next { s with toks := s.toks + 1 } from ⟨σ, H, I.tok _, h⟩)) I.quiet
/-- an expression whose value is dropped -/
def tDrop (te : TE) : TS := fun D σ H => te σ H fun _ H1 => D.nx σ H1
theorem ps_expr (he : PE X e te) (hs : swapsWith e none pos.line X.env = pure false := by rfl) : PS X (.Expr e pos) (tDrop te) := by
  intro pins s σ H D I h
  exact wpAny_Expr_any (thn (he pins s σ H _ I h) fun v s1 ⟨x, H1, I1, r1, q1⟩ => ⟨σ, H1, I1, q1⟩) I.quiet hs
def tRet (te : TE) : TS := fun D σ H => te σ H D.rt
theorem ps_ret (he : PE X e te) : PS X (.Return (some e) pos) (tRet te) := by
  intro pins s σ H D I h
  exact wpAny_Return_some (thn (he pins s σ H _ I h) fun v s1 ⟨x, H1, I1, r1, q1⟩ => ⟨x, σ, H1, I1, r1, q1⟩)
def tRetN : TS := fun D _ H => D.rt .non H
theorem ps_retN : PS X (.Return none pos) tRetN := fun _ _ σ H _ I h => wpAny_Return_none ⟨.non, σ, H, I, rfl, h⟩
def tIfS (c : TT) (t u : TS) : TS := fun D σ H => c σ H fun b H1 => if b = true then t D σ H1 else u D σ H1
theorem ps_if {c : Expr} {a b : List Stmt} {tc : TT} (hc : PT X c tc) (ha : PSs X a t) (hb : PSs X b u) : PS X (.If c a b pos) (tIfS tc t u) := by
  intro pins s σ H D I h
  refine wpAny_If (thn (hc pins s σ H _ I h) fun d s1 ⟨H1, I1, q1⟩ => ?_)
  cases d with
  | true => exact ha pins s1 σ H1 D I1 q1
  | false => exact hb pins s1 σ H1 D I1 q1
/-- code that the proof never comes to -/
def tNever : TS := fun _ _ _ => False
theorem ps_never : PS X st tNever := fun _ _ _ _ _ _ h => h.elim
theorem pss_never {sts : List Stmt} : PSs X sts tNever := fun _ _ _ _ _ _ h => h.elim
end

/-! ### targets -/
abbrev TG := V → St → Hp → (St → Hp → Prop) → Prop
abbrev TGs := List V → St → Hp → (St → Hp → Prop) → Prop
def PG (X : Cx) (target : Expr) (t : TG) : Prop :=
  ∀ (pins : List (Addr × Obj)) (s : Shared) (σ : St) (H : Hp) (v : V) (u : Value) (Q : St → Hp → Prop), Inv X pins σ H s → RelV v u → t v σ H Q →
    wpAny (model X.prog X.w) X.A (assign target X.env u) (fun _ s' => ∃ σ' H', Inv X pins σ' H' s' ∧ Q σ' H') X.xe s
/-- several targets, one after another -/
def PGs (X : Cx) (ts : List Expr) (t : TGs) : Prop :=
  ∀ (pins : List (Addr × Obj)) (s : Shared) (σ : St) (H : Hp) (vs : List V) (us : List Value) (Q : St → Hp → Prop), Inv X pins σ H s → Vals vs us → t vs σ H Q →
    wpAny (model X.prog X.w) X.A (assignInOrder ((assignEach ts X.env).map (·.2)) us) (fun _ s' => ∃ σ' H', Inv X pins σ' H' s' ∧ Q σ' H') X.xe s
/-- o[i] = v, by values -/
abbrev TSet := V → V → V → Hp → (Hp → Prop) → Prop
def PSet (X : Cx) (t : TSet) : Prop :=
  ∀ (pins : List (Addr × Obj)) (s : Shared) (σ : St) (H : Hp) (o i v : V) (ov iv u : Value) (Q : Hp → Prop), Inv X pins σ H s → RelV o ov → RelV i iv → RelV v u → t o i v H Q →
    wpAny (model X.prog X.w) X.A (setItem ov iv u) (fun _ s' => ∃ H', Inv X pins σ H' s' ∧ Q H') X.xe s
/-- a op= b, by values -/
abbrev TIp := V → V → Hp → VK → Prop
def PIp (X : Cx) (op : Operator) (t : TIp) : Prop :=
  ∀ (pins : List (Addr × Obj)) (s : Shared) (σ : St) (H : Hp) (x y : V) (v u : Value) (Q : VK), Inv X pins σ H s → RelV x v → RelV y u → t x y H Q →
    wpAny (model X.prog X.w) X.A (inplaceOp op v u) (EP X pins σ Q) X.xe s
section
variable {X : Cx} {pos : Pos}
def gName (i : Nat) : TG := fun v σ H Q => Q (σ.set i (some v)) H
theorem pg_name {i : Nat} {x : Str} (hN : X.N.Nodup) (hi : X.N[i]? = some x) (hx : Loc X.env.scope x) (hf : X.fn x = true ∨ X.env.scope.names.lookup x = some .local := by first | exact .inl rfl | exact .inr rfl | assumption) : PG X (.Name x pos) (gName i) := by
  intro pins s σ H v u Q I r h
  exact wpAny_assign_Name (store_ok I hN hi hx r (fun s' I' => ⟨_, H, I', h⟩) hf)
def gNil : TGs := fun vs σ H Q => vs = [] ∧ Q σ H
def gCons (t : TG) (u : TGs) : TGs := fun vs σ H Q => ∃ v r, vs = v :: r ∧ t v σ H fun σ' H' => u r σ' H' Q
theorem pgs_nil : PGs X [] gNil := by
  intro pins s σ H vs us Q I r h
  obtain ⟨e, h⟩ := h
  subst e
  cases r
  exact assignInOrder_nil ⟨σ, H, I, h⟩
theorem pgs_cons {e : Expr} {es : List Expr} {t : TG} {u : TGs} (h1 : PG X e t) (h2 : PGs X es u)
    (hs : (assignEach (e :: es) X.env).map (·.2) = assign e X.env :: (assignEach es X.env).map (·.2) := by rfl) : PGs X (e :: es) (gCons t u) := by
  intro pins s σ H vs us Q I r h
  obtain ⟨v, vr, e1, h⟩ := h
  subst e1
  cases r with
  | cons r rr =>
    rw [hs]
    refine assignInOrder_cons (thn (h1 pins s σ H _ _ _ I r h) fun _ s1 ⟨σ1, H1, I1, q1⟩ => ?_)
    exact h2 pins s1 σ1 H1 _ _ Q I1 rr q1
/-- (a, b, ..) = a tuple of that length -/
def gTup (K : PySem.W.Frag) (n : Nat) (t : TGs) : TG := fun v σ H Q => ∃ a xs, v = .ref a ∧ SqT K H a xs ∧ xs.length = n ∧ t xs σ H Q
theorem pg_tup {es : List Expr} {k : Nat} {t : TGs} {n : Nat} (hc : X.calm = true) (h : PGs X es t)
    (hn : (assignEach es X.env).length = n := by rfl) (hst : (assignEach es X.env).findIdx? (·.1) = none := by rfl) : PG X (.Tuple es k pos) (gTup X.K n t) := by
  intro pins s σ H v u Q I r hw
  obtain ⟨a, xs, e1, hq, hl, hw⟩ := hw
  subst e1
  cases r
  obtain ⟨its, rv, ht, hz⟩ := I.tuple hq
  refine assign_Tuple_tuple (I.ok.hd hc) ht (by simp [hn, ← hl, rv.length]) hst fun h' hx => ?_
  have I1 : Inv X pins σ H { s with heap := h' } := I.kept (t' := s.toks) fun b o e => hx b o (Nat.ne_of_lt (Heap.lt_size e)) e
  exact h pins _ σ H xs _ Q I1 (by simpa using rv) hw
/-- o[i] = .. -/
def gSub (to ti : TE) (t : TSet) : TG := fun v σ H Q => to σ H fun o H1 => ti σ H1 fun i H2 => t o i v H2 fun H3 => Q σ H3
theorem pg_sub {o i : Expr} {to ti : TE} {t : TSet} (ho : PE X o to) (hi : PE X i ti) (hs : PSet X t)
    (ha : ∀ v, assign (.Subscript o i pos) X.env v = (do
      let ov ← holding [v] (eval o X.env)
      let iv ← holding [v, ov] (eval i X.env)
      standAt pos
      holding [v, ov, iv] (setItem ov iv v)
      release [v, ov, iv] []) := by intro _; rfl) : PG X (.Subscript o i pos) (gSub to ti t) := by
  intro pins s σ H v u Q I r h
  rw [ha]
  refine wpAny_bind (wpAny_holding (thn (ho pins s σ H _ I h) fun ov s1 ⟨x, H1, I1, r1, q1⟩ => ?_))
  refine wpAny_bind (wpAny_holding (thn (hi pins s1 σ H1 _ I1 q1) fun iv s2 ⟨y, H2, I2, r2, q2⟩ => ?_))
  refine wpAny_bind (wpAny_standAt (wpAny_bind (wpAny_holding (thn (hs pins s2 σ H2 x y v ov iv u _ I2 r1 r2 r q2) fun _ s3 ⟨H3, I3, q3⟩ => ?_))))
  exact wpAny_release ⟨σ, H3, I3, q3⟩
/-- target = value -/
def tAsg (te : TE) (g : TG) : TS := fun D σ H => te σ H fun x H1 => g x σ H1 D.nx
theorem ps_asg {tg e : Expr} {te : TE} {g : TG} (he : PE X e te) (hg : PG X tg g) (hs : swapsWithSole [tg] e pos.line X.env = pure false := by rfl) (hw : swappedStores [tg] e X.env = pure none := by rfl)
    (h1 : (assignEach [tg] X.env).map (·.2) = [assign tg X.env] := by rfl) : PS X (.Assign [tg] e pos) (tAsg te g) := by
  intro pins s σ H D I h
  refine wpAny_Assign_stores (thn (he pins s σ H _ I h) fun v s1 ⟨x, H1, I1, r1, q1⟩ => ?_) hs hw
  rw [h1]
  exact thn (hg pins s1 σ H1 x v _ I1 r1 q1) fun _ s2 q => q
/-- name = value -/
theorem ps_set {i : Nat} {x : Str} {e : Expr} {te : TE} {pos' : Pos} (hN : X.N.Nodup) (hi : X.N[i]? = some x) (hx : Loc X.env.scope x) (he : PE X e te) (hs : swapsWith e (some (.Name x pos')) pos.line X.env = pure false := by rfl) (hf : X.fn x = true ∨ X.env.scope.names.lookup x = some .local := by first | exact .inl rfl | exact .inr rfl | assumption) :
    PS X (.Assign [.Name x pos'] e pos) (tAsg te (gName i)) := by
  intro pins s σ H D I h
  refine wpAny_Assign_Name (thn (he pins s σ H _ I h) fun v s1 ⟨y, H1, I1, r1, q1⟩ => ?_) hs
  exact store_ok I1 hN hi hx r1 (fun s2 I2 => ⟨_, H1, I2, q1⟩) hf
/-- a, b = x, y with plain local names: stored from the right; the pair itself is not tracked (the opening rows as in PyProof/Rows/TupAssign.lean:23) -/
def tPar (i j : Nat) (ta : TA) : TS := fun D σ H => ta σ H fun vs H1 => ∃ v w, vs = [v, w] ∧ D.nx ((σ.set i (some v)).set j (some w)) H1
theorem ps_par {i j : Nat} {x y : Str} {a b : Expr} {ta : TA} {px py pt : Pos} {kt k2 pt2} (hc : X.calm = true) (hN : X.N.Nodup) (hi : X.N[i]? = some x) (hj : X.N[j]? = some y) (hij : i ≠ j)
    (hx : X.env.scope.names.lookup x = some .local) (hy : X.env.scope.names.lookup y = some .local) (ha : PA X [a, b] ta)
    (hw : swappedStores [.Tuple [.Name x px, .Name y py] kt pt] (.Tuple [a, b] k2 pt2) X.env = pure (some [x, y]))
    (hs : swapsWithSole [.Tuple [.Name x px, .Name y py] kt pt] (.Tuple [a, b] k2 pt2) pos.line X.env = pure false := by rfl) :
    PS X (.Assign [.Tuple [.Name x px, .Name y py] kt pt] (.Tuple [a, b] k2 pt2) pos) (tPar i j ta) := by
  intro pins s σ H D I h
  rw [exec_Assign_arm]
  refine wpAny_bind (wpAny_standAt ?_)
  rw [hs]
  refine wpAny_bind (wpAny_pure ?_)
  rw [if_neg (by decide)]
  refine wpAny_bind (Tuple_ (thn (ha _ pins s σ H _ I h) fun us s1 ⟨vs, H1, I1, r1, q1⟩ => ?_))
  obtain ⟨v, w, e1, q1⟩ := q1
  subst e1
  obtain ⟨u1, u2, rfl, rv, rw'⟩ : ∃ u1 u2, us = [u1, u2] ∧ RelV v u1 ∧ RelV w u2 := by
    cases r1 with
    | cons p q =>
      cases q with
      | cons p' q' =>
        cases q'
        exact ⟨_, _, rfl, p, p'⟩
  refine wpAny_newObj_type ?_ (by show 2 ≤ sizeLine; decide)
  have I2 : Inv X pins σ H1 { s1 with heap := s1.heap.push { cls := .type "tuple", data := .seq [u1, u2].toArray } } := I1.kept (t' := s1.toks) fun b o e => Heap.get?_push_of_some _ e
  rw [hw]
  refine wpAny_bind (wpAny_pure ?_)
  show wpAny (model X.prog X.w) X.A (do rule "assign.swapped-stores"; let items ← unpackItems (.ref s1.heap.objs.size) 2 none; assignInOrder [fun v => bindName X.env y v, fun v => bindName X.env x v] items.reverse; pure Flow.next) _ _ _
  refine wpAny_bind (wpAny_rule (wpAny_bind (unpackItems_tuple (items := #[u1, u2]) (I.ok.hd hc) (IsTup.new s1.heap _) fun h' hx' => ?_)))
  have I3 := I2.kept (h' := h') (t' := s1.toks) fun b o e => hx' b o (Nat.ne_of_lt (Heap.lt_size e)) e
  show wpAny _ _ (assignInOrder [fun v => bindName X.env y v, fun v => bindName X.env x v] [u2, u1] >>= fun _ => pure Flow.next) _ _ _
  refine wpAny_bind (assignInOrder_cons (wpAny_bindName (store_ok I3 hN hj (.inl hy) rw' (fun s2 I4 => ?_) (.inr hy))))
  refine assignInOrder_cons (wpAny_bindName (store_ok I4 hN hi (.inl hx) rv (fun s3 I5 => assignInOrder_nil (wpAny_pure ?_)) (.inr hx)))
  rw [List.set_comm _ _ (Ne.symm hij)] at I5
  exact ⟨_, H1, I5, q1⟩
/-- name op= e -/
def tAug (i : Nat) (te : TE) (ti : TIp) : TS := fun D σ H => ∃ x, σ[i]? = some (some x) ∧ te σ H fun y H1 => ti x y H1 fun z H2 => D.nx (σ.set i (some z)) H2
theorem ps_aug {i : Nat} {x : Str} {e : Expr} {te : TE} {op : Operator} {ti : TIp} {pos' : Pos} (hN : X.N.Nodup) (hi : X.N[i]? = some x) (hx : Loc X.env.scope x) (he : PE X e te) (ho : PIp X op ti) (hf : X.fn x = true ∨ X.env.scope.names.lookup x = some .local := by first | exact .inl rfl | exact .inr rfl | assumption) :
    PS X (.AugAssign (.Name x pos') op e pos) (tAug i te ti) := by
  intro pins s σ H D I h
  obtain ⟨v, e1, h⟩ := h
  obtain ⟨m, hn, hl⟩ := I.loc
  have vis : Vis X.env.scope x := by rcases hx with k | k; exact .inl k; exact .inr (.inl k)
  obtain ⟨u, r, l⟩ := hl i x v hi e1 vis
  refine wpAny_AugAssign_Name ?_
  have go : wpAny (model X.prog X.w) X.A (eval e X.env) (fun w s₂ => wpAny (model X.prog X.w) X.A (inplaceOp op u w) (fun r s₃ => wpAny (model X.prog X.w) X.A (storeName X.env x r) (fun _ => SP X pins D .next) X.xe s₃) X.xe s₂) X.xe s := by
    refine thn (he pins s σ H _ I h) fun w s1 ⟨y, H1, I1, r1, q1⟩ => ?_
    refine thn (ho pins s1 σ H1 v y u w _ I1 r r1 q1) fun z s2 ⟨zv, H2, I2, r2, q2⟩ => ?_
    exact store_ok I2 hN hi hx r2 (fun s3 I3 => ⟨_, H2, I3, q2⟩) hf
  rcases l with ⟨hk, hm⟩ | ⟨hk, c, hc, hcell⟩
  · exact wpAny_loadName_local I.ok.kind hk hn hm go
  · rcases hk with hk | hk
    · exact wpAny_loadName_cell I.ok.kind hk hc hcell go
    · rcases hx with k | k
      · have : X.env.scope.names.lookup x = some .free := hk
        rw [k] at this; cases this
      · have : X.env.scope.names.lookup x = some .free := hk
        rw [k] at this; cases this
/-- o[i] op= e -/
def tAugS (to ti te : TE) (tget : V → V → Hp → VK → Prop) (tip : TIp) (tset : TSet) : TS := fun D σ H => to σ H fun o H1 => ti σ H1 fun i H2 => tget o i H2 fun x H3 => te σ H3 fun y H4 => tip x y H4 fun z H5 => tset o i z H5 fun H6 => D.nx σ H6
/-- o[i], by values -/
def PGet (X : Cx) (t : V → V → Hp → VK → Prop) : Prop :=
  ∀ (pins : List (Addr × Obj)) (s : Shared) (σ : St) (H : Hp) (o i : V) (ov iv : Value) (Q : VK), Inv X pins σ H s → RelV o ov → RelV i iv → t o i H Q →
    wpAny (model X.prog X.w) X.A (getItem ov iv) (EP X pins σ Q) X.xe s
theorem ps_augS {o i e : Expr} {to ti te : TE} {tget : V → V → Hp → VK → Prop} {tip : TIp} {tset : TSet} {op : Operator} {tpos : Pos} (ho : PE X o to) (hi : PE X i ti) (hg : PGet X tget) (he : PE X e te) (hp : PIp X op tip) (hs : PSet X tset)
    (ha : ∀ ov iv new, augStore i ov iv new = (do holding [new, ov, iv] (setItem ov iv new); release [new, ov, iv] []; pure .next) := by intros; rfl) : PS X (.AugAssign (.Subscript o i tpos) op e pos) (tAugS to ti te tget tip tset) := by
  intro pins s σ H D I h
  refine wpAny_AugAssign_SubscriptAny (thn (ho pins s σ H _ I h) fun ov s1 ⟨x1, H1, I1, r1, q1⟩ => ?_) ha
  refine thn (hi pins s1 σ H1 _ I1 q1) fun iv s2 ⟨x2, H2, I2, r2, q2⟩ => ?_
  refine thn (hg pins s2 σ H2 x1 x2 ov iv _ I2 r1 r2 q2) fun old s3 ⟨x3, H3, I3, r3, q3⟩ => ?_
  refine thn (he pins s3 σ H3 _ I3 q3) fun v s4 ⟨x4, H4, I4, r4, q4⟩ => ?_
  refine thn (hp pins s4 σ H4 x3 x4 old v _ I4 r3 r4 q4) fun new s5 ⟨x5, H5, I5, r5, q5⟩ => ?_
  exact thn (hs pins s5 σ H5 x1 x2 x5 ov iv new _ I5 r1 r2 r5 q5) fun _ s6 ⟨H6, I6, q6⟩ => ⟨σ, H6, I6, q6⟩
/-- ints -/
def ipI (f : Int → Int → Int) : TIp := fun x y H Q => ∃ i j, x = .int i ∧ y = .int j ∧ Q (.int (f i j)) H
theorem ip_add : PIp X .Add (ipI fun i j => i + j) := by
  intro pins s σ H x y v u Q I r1 r2 h
  obtain ⟨i, j, e1, e2, q⟩ := h
  subst e1; subst e2
  obtain ⟨t, rfl⟩ := r1
  obtain ⟨t', rfl⟩ := r2
  exact iadd_int ⟨.int _, H, I.tok _, ⟨_, rfl⟩, q⟩
theorem ip_sub : PIp X .Sub (ipI fun i j => i - j) := by
  intro pins s σ H x y v u Q I r1 r2 h
  obtain ⟨i, j, e1, e2, q⟩ := h
  subst e1; subst e2
  obtain ⟨t, rfl⟩ := r1
  obtain ⟨t', rfl⟩ := r2
  exact isub_int ⟨.int _, H, I.tok _, ⟨_, rfl⟩, q⟩
end

/-! ### while -/
section
variable {X : Cx} {pos : Pos}
/-- the invariant W with its measure -/
def tWhile (c : TT) (tb : TS) : TS := fun D σ H => ∃ W : Nat → St → Hp → Prop, (∃ m, W m σ H) ∧ ∀ m σ H, W m σ H →
  c σ H fun b H1 => if b = true then ∃ N : St → Hp → Prop, (∀ σ' H', N σ' H' → ∃ m', m' < m ∧ W m' σ' H') ∧ tb { D with nx := N, ct := N, bk := D.nx } σ H1 else D.nx σ H1
theorem ps_while {c : Expr} {body : List Stmt} {tc : TT} {tb : TS} (hp : PassesOwn (model X.prog X.w) X.A X.env X.xe) (hc : PT X c tc) (hb : PSs X body tb) : PS X (.While c body [] pos) (tWhile tc tb) := by
  intro pins s σ H D I h
  obtain ⟨W, ⟨m0, w0⟩, turn⟩ := h
  refine wpAny_While (codeAny_whileLoop (fun n s' => ∃ σ' H', Inv X pins σ' H' s' ∧ W n σ' H') ?_ m0 ⟨σ, H, I, w0⟩)
  rintro n s1 ⟨σ1, H1, I1, w1⟩
  refine wpAny_passesOwn hp (thn (hc pins s1 σ1 H1 _ I1 (turn n σ1 H1 w1)) fun b s2 ⟨H2, I2, q2⟩ => ?_)
  cases b with
  | true =>
    obtain ⟨N, hN, q2⟩ := q2
    rw [if_pos rfl]
    refine wpAny_passesOwn hp (thn (hb pins s2 σ1 H2 _ I2 q2) fun f s3 q3 => ?_)
    cases f with
    | next =>
      obtain ⟨σ3, H3, I3, n3⟩ := q3
      obtain ⟨m', hm, w3⟩ := hN σ3 H3 n3
      exact ⟨m', hm, σ3, H3, I3, w3⟩
    | cont =>
      obtain ⟨σ3, H3, I3, n3⟩ := q3
      obtain ⟨m', hm, w3⟩ := hN σ3 H3 n3
      exact ⟨m', hm, σ3, H3, I3, w3⟩
    | brk => exact q3
    | ret v => exact q3
  | false =>
    rw [if_neg Bool.false_ne_true]
    exact wpAny_execs_nil ⟨σ1, H2, I2, q2⟩
end

/-! ### what a loop or a comprehension walks -/
/-- at turn i: it yields x (the heap may grow), or it stops -/
structure It where
  go : Nat → Hp → Prop
  yld : Nat → Hp → V → Hp → Prop
  stop : Nat → Hp → Prop
/-- the iterator's own objects may turn: they are not the frame's, not pinned, younger than the entry (or a comprehension's own) -/
def FpOk (X : Cx) (pins : List (Addr × Obj)) (H : Hp) (b : Addr) : Prop :=
  H b = none ∧ b ≠ X.env.locals ∧ b ∉ X.fs ∧ (b ∈ X.ex ∨ X.s₀.heap.objs.size ≤ b) ∧ (∀ x c, X.env.cells.lookup x = some c → c ≠ b) ∧ ∀ p ∈ X.pn ++ pins, p.1 ≠ b
theorem Inv.fpOk {X : Cx} {pins : List (Addr × Obj)} {σ : St} {H H' : Hp} {s : Shared} {b : Addr} (I : Inv X pins σ H s) (hb : s.heap.objs.size ≤ b) (hn : H' b = none) : FpOk X pins H' b := by
  refine ⟨hn, Nat.ne_of_gt (Nat.lt_of_lt_of_le I.lt hb), I.nofs hb, .inr (Nat.le_trans I.sz hb), fun x c e z => ?_, fun p hp z => ?_⟩
  · obtain ⟨v, q⟩ := I.cell x c e
    exact absurd (Nat.lt_of_lt_of_le q.lt (by rw [z]; exact hb)) (Nat.lt_irrefl _)
  · exact absurd (Nat.lt_of_lt_of_le (Heap.lt_size (I.pin p hp).1) (by rw [z]; exact hb)) (Nat.lt_irrefl _)
structure Turn (P : Program) (w : World) (K : PySem.W.Frag) (tg : Expr) (J : It) (fp : List Addr) (it : Addr) (tn : Nat → Heap → Prop) : Prop where
  mem : it ∈ fp
  obj : ∀ i h, tn i h → ∀ b ∈ fp, ∃ o, h.get? b = some o ∧ ∀ v, o.data ≠ .cell v
  keep : ∀ i h h', tn i h → (∀ b ∈ fp, ∀ o, h.get? b = some o → h'.get? b = some o) → tn i h'
  item : ∀ (X : Cx), X.prog = P → X.w = w → X.K = K → X.calm = true → ∀ (i : Nat) (pins : List (Addr × Obj)) (s : Shared) (σ : St) (H : Hp) (E : Value → Shared → Prop), Inv X pins σ H s → (∀ b ∈ fp, FpOk X pins H b) → tn i s.heap → J.go i H →
    wpAny (model P w) X.A (pyNext (.ref it)) (fun r s1 => ∃ u, r = some u ∧
      wpAny (model P w) X.A (letOwnedTupleGo tg (.ref it) u) (fun _ s2 => ∃ x H', Inv X pins σ H' s2 ∧ RelV x u ∧ J.yld i H x H' ∧ tn (i + 1) s2.heap ∧ ∀ b ∈ fp, H' b = none) E s1) E s
  done : ∀ (X : Cx), X.prog = P → X.w = w → X.K = K → X.calm = true → ∀ (i : Nat) (pins : List (Addr × Obj)) (s : Shared) (σ : St) (H : Hp) (E : Value → Shared → Prop), Inv X pins σ H s → (∀ b ∈ fp, FpOk X pins H b) → tn i s.heap → J.stop i H →
    wpAny (model P w) X.A (pyNext (.ref it)) (fun r s1 => r = none ∧ Inv X pins σ H s1) E s
  self : ∀ (A : Around) (i : Nat) (s : Shared) (Q : Value → Shared → Prop) (E : Value → Shared → Prop), tn i s.heap → Q (.ref it) s → wpAny (model P w) A (pyIter (.ref it)) Q E s
abbrev TI := St → Hp → (It → Hp → Prop) → Prop
/-- an iterator has come -/
def PIE (X : Cx) (pins : List (Addr × Obj)) (σ : St) (tg : Expr) (R : It → Hp → Prop) (itv : Value) (s2 : Shared) : Prop :=
  ∃ (it : Addr) (fp : List Addr) (tn : Nat → Heap → Prop) (J : It) (H' : Hp), itv = .ref it ∧ Inv X pins σ H' s2 ∧ Turn X.prog X.w X.K tg J fp it tn ∧ tn 0 s2.heap ∧ (∀ b ∈ fp, FpOk X pins H' b) ∧ R J H'
def PI (X : Cx) (tg iter : Expr) (wi : TI) : Prop :=
  ∀ (pins : List (Addr × Obj)) (s : Shared) (σ : St) (H : Hp) (R : It → Hp → Prop), Inv X pins σ H s → wi σ H R →
    wpAny (model X.prog X.w) X.A (eval iter X.env) (fun v s1 => wpAny (model X.prog X.w) X.A (pyIter v) (PIE X pins σ tg R) X.xe s1) X.xe s

/-- the step ahead of the store is nothing for an iterator that keeps no tuple -/
theorem go_of {M : Model} {A : Around} {E : Value → Shared → Prop} {s : Shared} {tg : Expr} {it : Addr} {u : Value} {o : Obj} {n : String} {vs : Array Value} {Q : Unit → Shared → Prop} (ho : s.heap.get? it = some o) (hc : o.cls = .type n) (hd : o.data = .fields vs)
    (hn : ["enumerate", "zip", "dict_itemiterator", "dict_reverseitemiterator", "odict_iterator", "itertools.zip_longest", "itertools.pairwise"].contains n = false) (hQ : Q () s) : wpAny M A (letOwnedTupleGo tg (.ref it) u) Q E s := by
  unfold letOwnedTupleGo
  cases tg <;> first
    | exact wpAny_pure hQ
    | (cases u <;> first
        | exact wpAny_pure hQ
        | (refine wpAny_bind (wpAny_load ho ?_)
           rw [hc, hd]
           show wpAny M A (if (["enumerate", "zip", "dict_itemiterator", "dict_reverseitemiterator", "odict_iterator", "itertools.zip_longest", "itertools.pairwise"].contains n && vs[0]? == some (rawInt _)) = true then _ else _) Q E s
           rw [if_neg (by intro h; rw [hn, Bool.false_and] at h; cases h)]
           exact wpAny_pure hQ))

/-- the list at a, as it stands at each turn (a loop may append to it) -/
def Itl (K : PySem.W.Frag) (a : Addr) : It :=
  ⟨fun i H => ∃ xs x, SqL K H a xs ∧ xs[i]? = some x, fun i H x H' => H' = H ∧ ∀ xs, SqL K H a xs → xs[i]? = some x, fun i H => ∃ xs, SqL K H a xs ∧ xs.length ≤ i⟩
def Itt (K : PySem.W.Frag) (a : Addr) : It :=
  ⟨fun i H => ∃ xs x, SqT K H a xs ∧ xs[i]? = some x, fun i H x H' => H' = H ∧ ∀ xs, SqT K H a xs → xs[i]? = some x, fun i H => ∃ xs, SqT K H a xs ∧ xs.length ≤ i⟩
/-- lo, lo + 1, .. (n of them) -/
def Itr (lo : Int) (n : Nat) : It := ⟨fun i _ => i < n, fun i H x H' => H' = H ∧ x = .int (lo + i), fun i _ => n ≤ i⟩
theorem turn_list {P : Program} {w : World} {K : PySem.W.Frag} {tg : Expr} (a it : Addr) : Turn P w K tg (Itl K a) [it] it (fun i h => h.IsListIter it a i) where
  mem := by simp
  obj := fun i h st b hb => by
    have e : b = it := by simpa using hb
    subst e
    obtain ⟨o, e, c, d⟩ := st
    exact ⟨o, e, fun v z => by rw [d] at z; cases z⟩
  keep := fun i h h' st k => st.at fun o e => k it (by simp) o e
  item := by
    intro X hP hw hK hc i pins s σ H E I hf st hg
    subst hP hw hK
    obtain ⟨xs, x, hq, hx⟩ := hg
    obtain ⟨its, rv, p, hz⟩ := I.list hq
    obtain ⟨u, hu, ru⟩ := rv.get hx
    obtain ⟨f0, f1, f2, f3, f4, f5⟩ := hf it (by simp)
    refine wpAny_pyNext_list_item st p.isList (x := u) (by simpa using hu) fun h' st' sb => ?_
    have I1 : Inv X pins σ H { s with heap := h' } := I.turned (t' := s.toks) (fun b o hb e => (sb.2 b hb).trans e) f0 f1 f3 f4 f5
    obtain ⟨o, e, c, d⟩ := id st'
    exact ⟨u, rfl, go_of (s := { s with heap := h' }) e c d (by decide) ⟨x, H, I1, ru, ⟨rfl, fun ys hy => by rw [I.list_inj hy hq]; exact hx⟩, st', fun b hb => (hf b hb).1⟩⟩
  done := by
    intro X hP hw hK hc i pins s σ H E I hf st hg
    subst hP hw hK
    obtain ⟨xs, hq, hx⟩ := hg
    obtain ⟨its, rv, p, hz⟩ := I.list hq
    obtain ⟨f0, f1, f2, f3, f4, f5⟩ := hf it (by simp)
    have hl := rv.length
    exact wpAny_pyNext_list_end (I.ok.hd hc) st p.isList (by simp; omega) fun h' eb => ⟨rfl, I.turned (t' := s.toks) (fun b o hb e => eb b o hb e) f0 f1 f3 f4 f5⟩
  self := fun _ _ _ _ _ st h => wpAny_pyIter_listiter st h
theorem turn_tuple {P : Program} {w : World} {K : PySem.W.Frag} {tg : Expr} (a it : Addr) : Turn P w K tg (Itt K a) [it] it (fun i h => h.IsTupleIter it a i) where
  mem := by simp
  obj := fun i h st b hb => by
    have e : b = it := by simpa using hb
    subst e
    obtain ⟨o, e, c, d⟩ := st
    exact ⟨o, e, fun v z => by rw [d] at z; cases z⟩
  keep := fun i h h' st k => st.at fun o e => k it (by simp) o e
  item := by
    intro X hP hw hK hc i pins s σ H E I hf st hg
    subst hP hw hK
    obtain ⟨xs, x, hq, hx⟩ := hg
    obtain ⟨its, rv, p, hz⟩ := I.tuple hq
    obtain ⟨u, hu, ru⟩ := rv.get hx
    obtain ⟨f0, f1, f2, f3, f4, f5⟩ := hf it (by simp)
    refine wpAny_pyNext_tuple_item st (show s.heap.IsTuple a its.toArray from p) (x := u) (by simpa using hu) fun h' st' sb => ?_
    have I1 : Inv X pins σ H { s with heap := h' } := I.turned (t' := s.toks) (fun b o hb e => (sb.2 b hb).trans e) f0 f1 f3 f4 f5
    obtain ⟨o, e, c, d⟩ := id st'
    exact ⟨u, rfl, go_of (s := { s with heap := h' }) e c d (by decide) ⟨x, H, I1, ru, ⟨rfl, fun ys hy => by rw [I.tuple_inj hy hq]; exact hx⟩, st', fun b hb => (hf b hb).1⟩⟩
  done := by
    intro X hP hw hK hc i pins s σ H E I hf st hg
    subst hP hw hK
    obtain ⟨xs, hq, hx⟩ := hg
    obtain ⟨its, rv, p, hz⟩ := I.tuple hq
    obtain ⟨f0, f1, f2, f3, f4, f5⟩ := hf it (by simp)
    have hl := rv.length
    exact wpAny_pyNext_tuple_end (I.ok.hd hc) st (show s.heap.IsTuple a its.toArray from p) (by simp; omega) fun h' eb => ⟨rfl, I.turned (t' := s.toks) (fun b o hb e => eb b o hb e) f0 f1 f3 f4 f5⟩
  self := fun _ _ _ _ _ st h => wpAny_pyIter_tupleiter st h
theorem turn_range {P : Program} {w : World} {K : PySem.W.Frag} {tg : Expr} (it : Addr) (lo : Int) (n : Nat) : Turn P w K tg (Itr lo n) [it] it (fun i h => IsRangeIter h it (lo + (i : Nat) * 1) ((n : Int) - (i : Nat)) 1) where
  mem := by simp
  obj := fun i h st b hb => by
    have e : b = it := by simpa using hb
    subst e
    exact ⟨_, st, fun v z => by
      have z' : Data.fields _ = Data.cell v := z
      cases z'⟩
  keep := fun i h h' st k => k it (by simp) _ st
  item := by
    intro X hP hw hK hc i pins s σ H E I hf st hg
    subst hP hw hK
    obtain ⟨f0, f1, f2, f3, f4, f5⟩ := hf it (by simp)
    have W := Walks.range (prog := X.prog) (w := X.w) (I.ok.hd hc) it lo 1 n
    refine W.item i s _ _ hg st fun v h' tk hv st' kk => ?_
    obtain ⟨t, rfl⟩ := hv
    have I1 : Inv X pins σ H { s with heap := h', toks := tk } := I.turned (fun b o hb e => kk b o (by simpa using hb) e) f0 f1 f3 f4 f5
    refine ⟨_, rfl, go_of (s := { s with heap := h', toks := tk }) (n := "range_iterator") st' rfl rfl (by decide) ⟨.int (lo + i), H, I1, ⟨t, ?_⟩, ⟨rfl, rfl⟩, st', fun b hb => (hf b hb).1⟩⟩
    rw [Int.mul_one]
  done := by
    intro X hP hw hK hc i pins s σ H E I hf st hg
    subst hP hw hK
    obtain ⟨f0, f1, f2, f3, f4, f5⟩ := hf it (by simp)
    exact wpAny_pyNext_range_end (I.ok.hd hc) st (by have : n ≤ i := hg; omega) fun h' eb => ⟨rfl, I.turned (t' := s.toks) (fun b o hb e => eb b o hb e) f0 f1 f3 f4 f5⟩
  self := fun _ _ _ _ _ st h => wpAny_pyIter_rangeiter st h
end L2

namespace L2
open PySem PySem.Spec PyProof.Rows
section
variable {X : Cx} {tg : Expr}
def iList (K : PySem.W.Frag) (tl : TE) : TI := fun σ H R => tl σ H fun x H1 => ∃ a, x = .ref a ∧ (∃ xs, SqL K H1 a xs) ∧ R (Itl K a) H1
def iTup (K : PySem.W.Frag) (tl : TE) : TI := fun σ H R => tl σ H fun x H1 => ∃ a, x = .ref a ∧ (∃ xs, SqT K H1 a xs) ∧ R (Itt K a) H1
theorem pi_list {l : Expr} {tl : TE} (hl : PE X l tl) : PI X tg l (iList X.K tl) := by
  intro pins s σ H R I h
  refine thn (hl pins s σ H _ I h) fun v s1 ⟨x, H1, I1, r1, q1⟩ => ?_
  obtain ⟨a, e, ⟨xs, hq⟩, q⟩ := q1
  subst e
  cases r1
  obtain ⟨its, rv, p, hz⟩ := I1.list hq
  refine wpAny_pyIter_list p.isList ?_
  refine ⟨s1.heap.objs.size, [s1.heap.objs.size], _, _, H1, rfl, I1.kept (t' := s1.toks) fun b o e => Heap.get?_push_of_some _ e, turn_list a _, ⟨_, Heap.get?_push_size _ rfl, rfl, rfl⟩, fun b hb => ?_, q⟩
  have e : b = s1.heap.objs.size := by simpa using hb
  subst e
  exact I1.fpOk (Nat.le_refl _) (I1.hok.fresh (Nat.le_refl _))
theorem pi_tup {l : Expr} {tl : TE} (hl : PE X l tl) : PI X tg l (iTup X.K tl) := by
  intro pins s σ H R I h
  refine thn (hl pins s σ H _ I h) fun v s1 ⟨x, H1, I1, r1, q1⟩ => ?_
  obtain ⟨a, e, ⟨xs, hq⟩, q⟩ := q1
  subst e
  cases r1
  obtain ⟨its, rv, p, hz⟩ := I1.tuple hq
  refine wpAny_pyIter_tuple (show s1.heap.IsTuple a its.toArray from p) ?_
  refine ⟨s1.heap.objs.size, [s1.heap.objs.size], _, _, H1, rfl, I1.kept (t' := s1.toks) fun b o e => Heap.get?_push_of_some _ e, turn_tuple a _, ⟨_, Heap.get?_push_size _ rfl, rfl, rfl⟩, fun b hb => ?_, q⟩
  have e : b = s1.heap.objs.size := by simpa using hb
  subst e
  exact I1.fpOk (Nat.le_refl _) (I1.hok.fresh (Nat.le_refl _))
/-- a range object just made, walked -/
theorem range_it {pins : List (Addr × Obj)} {σ : St} {H : Hp} {s : Shared} {R : It → Hp → Prop} {E : Value → Shared → Prop} {lo hi : Int} {t u v : Tok} {tk : Nat} (I : Inv X pins σ H s) (h1 : -(2 ^ 62) ≤ lo) (h2 : lo < 2 ^ 62) (h3 : -(2 ^ 62) ≤ hi) (h4 : hi < 2 ^ 62)
    (q : R (Itr lo (hi - lo).toNat) H) : wpAny (model X.prog X.w) X.A (pyIter (.ref s.heap.objs.size)) (PIE X pins σ tg R) E { s with heap := s.heap.push { cls := .type "range", data := .fields #[.int lo t, .int hi u, .int 1 v] }, toks := tk } := by
  refine wpAny_pyIter_range (IsRange.new ..) (small_one h1 h2 h3 h4) ?_
  have I1 : Inv X pins σ H { s with heap := s.heap.push { cls := .type "range", data := .fields #[.int lo t, .int hi u, .int 1 v] }, toks := tk } := I.kept fun b o e => Heap.get?_push_of_some _ e
  refine ⟨(s.heap.push { cls := .type "range", data := .fields #[.int lo t, .int hi u, .int 1 v] }).objs.size, [(s.heap.push { cls := .type "range", data := .fields #[.int lo t, .int hi u, .int 1 v] }).objs.size], _, _, H, rfl,
    I1.kept (t' := tk) fun b o e => Heap.get?_push_of_some _ e, turn_range _ lo (hi - lo).toNat, ?_, fun b hb => ?_, q⟩
  · have e1 : lo + ((0 : Nat) : Int) * 1 = lo := by simp
    have e2 : (((hi - lo).toNat : Nat) : Int) - ((0 : Nat) : Int) = Builtin.Range.rangeSize lo hi 1 := by rw [rangeSize_one]; split <;> omega
    show IsRangeIter _ _ (lo + ((0 : Nat) : Int) * 1) ((((hi - lo).toNat : Nat) : Int) - ((0 : Nat) : Int)) 1
    rw [e1, e2]
    exact Heap.get?_push_size _ rfl
  · have e : b = (s.heap.push { cls := .type "range", data := .fields #[.int lo t, .int hi u, .int 1 v] }).objs.size := by simpa using hb
    subst e
    exact I1.fpOk (Nat.le_refl _) (I1.hok.fresh (Nat.le_refl _))
def iRng1 (ta : TA) : TI := fun σ H R => ta σ H fun vs H1 => ∃ j : Int, vs = [.int j] ∧ -(2 ^ 62) ≤ j ∧ j < 2 ^ 62 ∧ R (Itr 0 j.toNat) H1
def iRng2 (ta : TA) : TI := fun σ H R => ta σ H fun vs H1 => ∃ i j : Int, vs = [.int i, .int j] ∧ (-(2 ^ 62) ≤ i ∧ i < 2 ^ 62 ∧ -(2 ^ 62) ≤ j ∧ j < 2 ^ 62) ∧ R (Itr i (j - i).toNat) H1
theorem pi_range1 {a : Expr} {ta : TA} {p pos : Pos} (hg : Gl X "range") (hm : X.mg "range" = none) (ha : PA X [a] ta) (hs : starEach [a] X.env = [(false, eval a X.env)] := by rfl) : PI X tg (.Call (.Name "range" p) [a] [] pos) (iRng1 ta) := by
  intro pins s σ H R I h
  refine Call_ (ld_blt I hg hm boot_range (PyProof.Rows.callWith_type1 (thn (ha pos pins s σ H _ I h) fun us s1 ⟨vs, H1, I1, r1, q1⟩ => ?_) hs rfl))
  obtain ⟨j, e, q1, q2, q⟩ := q1
  subst e
  cases r1 with
  | cons r rr =>
    cases rr
    obtain ⟨t, rfl⟩ := r
    exact call_range_1 (range_it I1 (by omega) (by omega) q1 q2 (by simpa using q))
theorem pi_range2 {a b : Expr} {ta : TA} {p pos : Pos} (hg : Gl X "range") (hm : X.mg "range" = none) (ha : PA X [a, b] ta) (hs : starEach [a, b] X.env = [(false, eval a X.env), (false, eval b X.env)] := by rfl) (hs2 : starEach [b] X.env = [(false, eval b X.env)] := by rfl) :
    PI X tg (.Call (.Name "range" p) [a, b] [] pos) (iRng2 ta) := by
  intro pins s σ H R I h
  refine Call_ (ld_blt I hg hm boot_range (PyProof.Rows.callWith_type1 (thn (ha pos pins s σ H _ I h) fun us s1 ⟨vs, H1, I1, r1, q1⟩ => ?_) (by rw [hs, hs2]) (by rw [hs2]; rfl)))
  obtain ⟨i, j, e, ⟨q1, q2, q3, q4⟩, q⟩ := q1
  subst e
  cases r1 with
  | cons r rr =>
    cases rr with
    | cons r' rr =>
      cases rr
      obtain ⟨t, rfl⟩ := r
      obtain ⟨t', rfl⟩ := r'
      exact call_range_2 (range_it I1 q1 q2 q3 q4 q)

/-! ### for -/
/-- W: the invariant by the turn and a measure; N: what the body is to reach -/
def tFor (wi : TI) (g : TG) (tb : TS) : TS := fun D σ H => wi σ H fun J H1 => ∃ W : Nat → Nat → St → Hp → Prop, (∃ m, W 0 m σ H1) ∧ ∀ i m σ H, W i m σ H →
  (J.stop i H ∧ D.nx σ H) ∨ (J.go i H ∧ ∃ N : St → Hp → Prop, (∀ σ' H', N σ' H' → ∃ m', m' < m ∧ W (i + 1) m' σ' H') ∧ ∀ x H', J.yld i H x H' → g x σ H' fun σ2 H2 => tb { D with nx := N, ct := N, bk := D.nx } σ2 H2)
/-- the records at fp as they stand -/
def pinsAt (fp : List Addr) (h : Heap) : List (Addr × Obj) := fp.filterMap fun b => (h.get? b).map fun o => (b, o)
theorem mem_pinsAt {fp : List Addr} {h : Heap} {b : Addr} {o : Obj} (hb : b ∈ fp) (e : h.get? b = some o) : (b, o) ∈ pinsAt fp h := List.mem_filterMap.mpr ⟨b, hb, by rw [e]; rfl⟩
theorem of_pinsAt {fp : List Addr} {h : Heap} {p : Addr × Obj} (hp : p ∈ pinsAt fp h) : p.1 ∈ fp ∧ h.get? p.1 = some p.2 := by
  obtain ⟨b, hb, e⟩ := List.mem_filterMap.mp hp
  cases q : h.get? b with
  | none => rw [q] at e; cases e
  | some o =>
    rw [q] at e
    have e' : (b, o) = p := Option.some.inj e
    subst e'
    exact ⟨hb, q⟩
theorem Inv.pinned {pins : List (Addr × Obj)} {σ : St} {H : Hp} {s : Shared} {fp : List Addr} (I : Inv X pins σ H s) (hf : ∀ b ∈ fp, FpOk X pins H b) (ho : ∀ b ∈ fp, ∃ o, s.heap.get? b = some o ∧ ∀ v, o.data ≠ .cell v) : Inv X (pins ++ pinsAt fp s.heap) σ H s :=
  I.pins_of fun p hp => (List.mem_append.mp hp).elim (fun z => I.pin p (List.mem_append_right _ z)) fun z => by
    obtain ⟨hb, e⟩ := of_pinsAt z
    obtain ⟨f0, f1, f2, _⟩ := hf p.1 hb
    obtain ⟨o, e', d⟩ := ho p.1 hb
    rw [e] at e'; cases e'
    exact ⟨e, f0, f1, f2, d⟩
theorem Inv.unpinned {pins pl : List (Addr × Obj)} {σ : St} {H : Hp} {s : Shared} (I : Inv X (pins ++ pl) σ H s) : Inv X pins σ H s := I.pins_of fun p hp => I.pin p (List.mem_append_right _ (List.mem_append_left _ hp))
theorem ps_for {iter : Expr} {body : List Stmt} {wi : TI} {g : TG} {tb : TS} {pos : Pos} (hp : PassesOwn (model X.prog X.w) X.A X.env X.xe) (hc : X.calm = true) (hi : PI X tg iter wi) (hg : PG X tg g) (hb : PSs X body tb)
    (hs : ∀ x, foldedSetIterable iter X.env x = pure x := by intro _; rfl) : PS X (.For tg iter body [] pos) (tFor wi g tb) := by
  intro pins s σ H D I h
  refine wpAny_For (thn (hi pins s σ H _ I h) fun v s1 h1 => thn h1 fun itv s2 h2 => ?_) hs
  obtain ⟨it, fp, tn, J, H2, e, I2, T, st2, f2, W, ⟨m0, w0⟩, turn⟩ := h2
  subst e
  -- what stays true of the iterator's objects through the loop
  have stat : ∀ {H' : Hp}, (∀ b ∈ fp, H' b = none) → ∀ b ∈ fp, FpOk X pins H' b := fun hn b hb => ⟨hn b hb, (f2 b hb).2⟩
  refine codeAny_forLoop_any (fun n s' => ∃ i σ' H', Inv X pins σ' H' s' ∧ tn i s'.heap ∧ (∀ b ∈ fp, H' b = none) ∧ W i n σ' H') ?_ m0 ⟨0, σ, H2, I2, st2, fun b hb => (f2 b hb).1, w0⟩
  rintro n s3 ⟨i, σ3, H3, I3, st3, fr3, w3⟩
  rcases turn i n σ3 H3 w3 with ⟨stop, qn⟩ | ⟨go, N, hN, step⟩
  · refine wpAny_passesOwn hp (thn (T.done X rfl rfl rfl hc i pins s3 σ3 H3 X.xe I3 (stat fr3) st3 stop) fun r s4 ⟨hr, I4⟩ => ?_)
    subst hr
    exact wpAny_execs_nil ⟨σ3, H3, I4, qn⟩
  · refine wpAny_passesOwn hp (thn (T.item X rfl rfl rfl hc i pins s3 σ3 H3 X.xe I3 (stat fr3) st3 go) fun r s4 ⟨u, hr, h4⟩ => ?_)
    subst hr
    refine wpAny_passesOwn hp (thn h4 fun _ s5 ⟨x, H5, I5, r5, y5, st5, fr5⟩ => ?_)
    have I5' := I5.pinned (stat fr5) (T.obj _ _ st5)
    refine wpAny_passesOwn hp (thn (hg _ s5 σ3 H5 x u _ I5' r5 (step x H5 y5)) fun _ s6 ⟨σ6, H6, I6, q6⟩ => ?_)
    refine wpAny_passesOwn hp (thn (hb _ s6 σ6 H6 _ I6 q6) fun f s7 q7 => ?_)
    have again : ∀ {σ7 : St} {H7 : Hp}, Inv X (pins ++ pinsAt fp s5.heap) σ7 H7 s7 → N σ7 H7 → ∃ m, m < n ∧ ∃ i σ' H', Inv X pins σ' H' s7 ∧ tn i s7.heap ∧ (∀ b ∈ fp, H' b = none) ∧ W i m σ' H' := fun {σ7 H7} I7 n7 => by
      obtain ⟨m', hm, w7⟩ := hN σ7 H7 n7
      refine ⟨m', hm, i + 1, σ7, H7, I7.unpinned, T.keep _ _ _ st5 fun b hb o e => (I7.pin (b, o) (List.mem_append_right _ (List.mem_append_right _ (mem_pinsAt hb e)))).1, fun b hb => ?_, w7⟩
      obtain ⟨o, e, d⟩ := T.obj _ _ st5 b hb
      exact (I7.pin (b, o) (List.mem_append_right _ (List.mem_append_right _ (mem_pinsAt hb e)))).2.1
    cases f with
    | next => obtain ⟨σ7, H7, I7, n7⟩ := q7; exact again I7 n7
    | cont => obtain ⟨σ7, H7, I7, n7⟩ := q7; exact again I7 n7
    | brk => obtain ⟨σ7, H7, I7, q7⟩ := q7; exact ⟨σ7, H7, I7.unpinned, q7⟩
    | ret v => obtain ⟨x7, σ7, H7, I7, r7, q7⟩ := q7; exact ⟨x7, σ7, H7, I7.unpinned, r7, q7⟩
end

/-! ### the forms one uses -/
/-- over a list that the body leaves as it is -/
theorem for_list {K : PySem.W.Frag} {a : Addr} {xs : List V} {g : TG} {tb : TS} {D : Ends} {σ : St} {H : Hp} (Pv : Nat → St → Hp → Prop) (h0 : Pv 0 σ H) (hl : ∀ i σ H, i ≤ xs.length → Pv i σ H → SqL K H a xs)
    (hs : ∀ i x σ H, xs[i]? = some x → Pv i σ H → g x σ H fun σ2 H2 => tb { D with nx := Pv (i + 1), ct := Pv (i + 1), bk := D.nx } σ2 H2) (hd : ∀ σ H, Pv xs.length σ H → D.nx σ H) :
    ∃ W : Nat → Nat → St → Hp → Prop, (∃ m, W 0 m σ H) ∧ ∀ i m σ H, W i m σ H →
      ((Itl K a).stop i H ∧ D.nx σ H) ∨ ((Itl K a).go i H ∧ ∃ N : St → Hp → Prop, (∀ σ' H', N σ' H' → ∃ m', m' < m ∧ W (i + 1) m' σ' H') ∧ ∀ x H', (Itl K a).yld i H x H' → g x σ H' fun σ2 H2 => tb { D with nx := N, ct := N, bk := D.nx } σ2 H2) := by
  refine ⟨fun i m σ H => m = xs.length - i ∧ i ≤ xs.length ∧ Pv i σ H, ⟨xs.length, by simp, Nat.zero_le _, h0⟩, ?_⟩
  rintro i m σ H ⟨rfl, hi, p⟩
  have q := hl i σ H hi p
  by_cases hlt : i < xs.length
  · refine .inr ⟨⟨xs, xs[i], q, by simp [hlt]⟩, Pv (i + 1), fun σ' H' p' => ⟨xs.length - (i + 1), by omega, rfl, hlt, p'⟩, fun x H' y => ?_⟩
    obtain ⟨e, y⟩ := y
    subst e
    exact hs i x σ _ (y xs q) p
  · have e : i = xs.length := by omega
    subst e
    exact .inl ⟨⟨xs, q, Nat.le_refl _⟩, hd σ H p⟩
theorem for_tup {K : PySem.W.Frag} {a : Addr} {xs : List V} {g : TG} {tb : TS} {D : Ends} {σ : St} {H : Hp} (Pv : Nat → St → Hp → Prop) (h0 : Pv 0 σ H) (hl : ∀ i σ H, i ≤ xs.length → Pv i σ H → SqT K H a xs)
    (hs : ∀ i x σ H, xs[i]? = some x → Pv i σ H → g x σ H fun σ2 H2 => tb { D with nx := Pv (i + 1), ct := Pv (i + 1), bk := D.nx } σ2 H2) (hd : ∀ σ H, Pv xs.length σ H → D.nx σ H) :
    ∃ W : Nat → Nat → St → Hp → Prop, (∃ m, W 0 m σ H) ∧ ∀ i m σ H, W i m σ H →
      ((Itt K a).stop i H ∧ D.nx σ H) ∨ ((Itt K a).go i H ∧ ∃ N : St → Hp → Prop, (∀ σ' H', N σ' H' → ∃ m', m' < m ∧ W (i + 1) m' σ' H') ∧ ∀ x H', (Itt K a).yld i H x H' → g x σ H' fun σ2 H2 => tb { D with nx := N, ct := N, bk := D.nx } σ2 H2) := by
  refine ⟨fun i m σ H => m = xs.length - i ∧ i ≤ xs.length ∧ Pv i σ H, ⟨xs.length, by simp, Nat.zero_le _, h0⟩, ?_⟩
  rintro i m σ H ⟨rfl, hi, p⟩
  have q := hl i σ H hi p
  by_cases hlt : i < xs.length
  · refine .inr ⟨⟨xs, xs[i], q, by simp [hlt]⟩, Pv (i + 1), fun σ' H' p' => ⟨xs.length - (i + 1), by omega, rfl, hlt, p'⟩, fun x H' y => ?_⟩
    obtain ⟨e, y⟩ := y
    subst e
    exact hs i x σ _ (y xs q) p
  · have e : i = xs.length := by omega
    subst e
    exact .inl ⟨⟨xs, q, Nat.le_refl _⟩, hd σ H p⟩
theorem for_range {lo : Int} {n : Nat} {g : TG} {tb : TS} {D : Ends} {σ : St} {H : Hp} (Pv : Nat → St → Hp → Prop) (h0 : Pv 0 σ H)
    (hs : ∀ i σ H, i < n → Pv i σ H → g (.int (lo + i)) σ H fun σ2 H2 => tb { D with nx := Pv (i + 1), ct := Pv (i + 1), bk := D.nx } σ2 H2) (hd : ∀ σ H, Pv n σ H → D.nx σ H) :
    ∃ W : Nat → Nat → St → Hp → Prop, (∃ m, W 0 m σ H) ∧ ∀ i m σ H, W i m σ H →
      ((Itr lo n).stop i H ∧ D.nx σ H) ∨ ((Itr lo n).go i H ∧ ∃ N : St → Hp → Prop, (∀ σ' H', N σ' H' → ∃ m', m' < m ∧ W (i + 1) m' σ' H') ∧ ∀ x H', (Itr lo n).yld i H x H' → g x σ H' fun σ2 H2 => tb { D with nx := N, ct := N, bk := D.nx } σ2 H2) := by
  refine ⟨fun i m σ H => m = n - i ∧ i ≤ n ∧ Pv i σ H, ⟨n, by simp, Nat.zero_le _, h0⟩, ?_⟩
  rintro i m σ H ⟨rfl, hi, p⟩
  by_cases hlt : i < n
  · refine .inr ⟨hlt, Pv (i + 1), fun σ' H' p' => ⟨n - (i + 1), by omega, rfl, hlt, p'⟩, fun x H' y => ?_⟩
    obtain ⟨e, y⟩ := y
    subst e y
    exact hs i σ _ hlt p
  · have e : i = n := by omega
    subst e
    exact .inl ⟨Nat.le_refl _, hd σ H p⟩
/-- while, by a word and a measure of the state -/
theorem while_by {c : TT} {tb : TS} {D : Ends} {σ : St} {H : Hp} (Pv : St → Hp → Prop) (μ : St → Hp → Nat) (h0 : Pv σ H)
    (hs : ∀ σ H, Pv σ H → c σ H fun b H1 => if b = true then tb { D with nx := fun σ' H' => Pv σ' H' ∧ μ σ' H' < μ σ H, ct := fun σ' H' => Pv σ' H' ∧ μ σ' H' < μ σ H, bk := D.nx } σ H1 else D.nx σ H1)
    (mono : ∀ σ H Q Q', (∀ b H1, Q b H1 → Q' b H1) → c σ H Q → c σ H Q') : tWhile c tb D σ H := by
  refine ⟨fun m σ H => m = μ σ H ∧ Pv σ H, ⟨_, rfl, h0⟩, ?_⟩
  rintro m σ H ⟨rfl, p⟩
  refine mono σ H _ _ (fun b H1 q => ?_) (hs σ H p)
  cases b with
  | true => exact ⟨_, fun σ' H' ⟨p', l⟩ => ⟨_, l, rfl, p'⟩, q⟩
  | false => exact q
end L2

namespace L2
open PySem PySem.Spec PyProof.Rows

abbrev R2 := V → V → Hp → VK → Prop
/-- a two-place operation on values: f is binaryOp op, inplaceOp op or compareOp op -/
def OpR (X : Cx) (f : Value → Value → Sem Value) (r : R2) : Prop :=
  ∀ (pins : List (Addr × Obj)) (s : Shared) (σ : St) (H : Hp) (x y : V) (v u : Value) (Q : VK), Inv X pins σ H s → RelV x v → RelV y u → r x y H Q →
    wpAny (model X.prog X.w) X.A (f v u) (EP X pins σ Q) X.xe s
/-- a one-place operation -/
def UnR (X : Cx) (f : Value → Sem Value) (r : V → Hp → VK → Prop) : Prop :=
  ∀ (pins : List (Addr × Obj)) (s : Shared) (σ : St) (H : Hp) (x : V) (v : Value) (Q : VK), Inv X pins σ H s → RelV x v → r x H Q →
    wpAny (model X.prog X.w) X.A (f v) (EP X pins σ Q) X.xe s
/-- a call of a value that is known (a builtin, a type) with values -/
def CallR (X : Cx) (f : Value) (r : List V → Hp → VK → Prop) : Prop :=
  ∀ (pins : List (Addr × Obj)) (s : Shared) (σ : St) (H : Hp) (xs : List V) (us : List Value) (Q : VK), Inv X pins σ H s → Vals xs us → r xs H Q →
    wpAny (model X.prog X.w) X.A (call f us) (EP X pins σ Q) X.xe s
/-- a value's truth -/
def TruR (X : Cx) (r : V → Hp → (Bool → Hp → Prop) → Prop) : Prop :=
  ∀ (pins : List (Addr × Obj)) (s : Shared) (σ : St) (H : Hp) (x : V) (v : Value) (Q : Bool → Hp → Prop), Inv X pins σ H s → RelV x v → r x H Q →
    wpAny (model X.prog X.w) X.A (truthy v) (TP X pins σ Q) X.xe s

def tOp (r : R2) (ta tb : TE) : TE := fun σ H Q => ta σ H fun x H1 => tb σ H1 fun y H2 => r x y H2 Q
def tUn (r : V → Hp → VK → Prop) (ta : TE) : TE := fun σ H Q => ta σ H fun x H1 => r x H1 Q
/-- ints in, under C, and a value out -/
def rI (C : Int → Int → Prop) (g : Int → Int → V) : R2 := fun x y H Q => ∃ i j, x = .int i ∧ y = .int j ∧ C i j ∧ Q (g i j) H
def rI0 (g : Int → Int → V) : R2 := fun x y H Q => ∃ i j, x = .int i ∧ y = .int j ∧ Q (g i j) H
def rU (g : Int → V) : V → Hp → VK → Prop := fun x H Q => ∃ i, x = .int i ∧ Q (g i) H

section
variable {X : Cx} {a b c : Expr} {ta tb tc : TE} {pos : Pos}

theorem binT (ha : PE X a ta) (hb : PE X b tb) {pins : List (Addr × Obj)} {s : Shared} {σ : St} {H : Hp} {R : V → V → Hp → Prop} (I : Inv X pins σ H s)
    (h : ta σ H fun x H1 => tb σ H1 fun y H2 => R x y H2) {Q : Value → Shared → Prop} {f : Value → Value → Sem Value}
    (hf : ∀ v u s2 x y H2, Inv X pins σ H2 s2 → RelV x v → RelV y u → R x y H2 → wpAny (model X.prog X.w) X.A (f v u) Q X.xe s2) :
    wpAny (model X.prog X.w) X.A (eval a X.env) (fun v s₁ => wpAny (model X.prog X.w) X.A (eval b X.env) (fun u s₂ => wpAny (model X.prog X.w) X.A (f v u) Q X.xe s₂) X.xe s₁) X.xe s := by
  refine thn (ha pins s σ H _ I h) fun v s1 ⟨x, H1, I1, r1, q1⟩ => ?_
  refine thn (hb pins s1 σ H1 _ I1 q1) fun u s2 ⟨y, H2, I2, r2, q2⟩ => ?_
  exact hf v u s2 x y H2 I2 r1 r2 q2

theorem pe_op {op : Operator} {r : R2} (ho : OpR X (binaryOp op) r) (ha : PE X a ta) (hb : PE X b tb) : PE X (.BinOp a op b pos) (tOp r ta tb) := by
  intro pins s σ H Q I h
  exact wpAny_BinOp (binT ha hb I h fun v u s2 x y H2 I2 rx ry q => ho pins s2 σ H2 x y v u Q I2 rx ry q)
theorem pe_un {op : UnaryOp} {r : V → Hp → VK → Prop} (ho : UnR X (unaryOp op) r) (ha : PE X a ta) : PE X (.UnaryOp op a pos) (tUn r ta) := by
  intro pins s σ H Q I h
  exact UnaryOp_ (thn (ha pins s σ H _ I h) fun v s1 ⟨x, H1, I1, r1, q1⟩ => ho pins s1 σ H1 x v Q I1 r1 q1)
/-- a op= e at a name: the name's slot i -/
theorem augR {op : Operator} {r : R2} (ho : OpR X (inplaceOp op) r) {pins : List (Addr × Obj)} {s : Shared} {σ : St} {H : Hp} {x y : V} {v u : Value} {Q : VK} (I : Inv X pins σ H s)
    (rx : RelV x v) (ry : RelV y u) (q : r x y H Q) : wpAny (model X.prog X.w) X.A (inplaceOp op v u) (EP X pins σ Q) X.xe s := ho pins s σ H x y v u Q I rx ry q

/-! ### ints -/
theorem opI {f : Value → Value → Sem Value} {C : Int → Int → Prop} {g : Int → Int → Int}
    (rule : ∀ (i j : Int) (t u : Tok) (s : Shared) (Q : Value → Shared → Prop) (E : Value → Shared → Prop), C i j → Q (.int (g i j) s.toks) { s with toks := s.toks + 1 } → wpAny (model X.prog X.w) X.A (f (.int i t) (.int j u)) Q E s) :
    OpR X f (rI C fun i j => .int (g i j)) := by
  intro pins s σ H x y v u Q I rx ry h
  obtain ⟨i, j, rfl, rfl, hc, q⟩ := h
  obtain ⟨t, rfl⟩ := rx
  obtain ⟨t', rfl⟩ := ry
  exact rule i j t t' s _ _ hc ⟨.int (g i j), H, I.tok _, ⟨_, rfl⟩, q⟩
theorem opI0 {f : Value → Value → Sem Value} {g : Int → Int → Int}
    (rule : ∀ (i j : Int) (t u : Tok) (s : Shared) (Q : Value → Shared → Prop) (E : Value → Shared → Prop), Q (.int (g i j) s.toks) { s with toks := s.toks + 1 } → wpAny (model X.prog X.w) X.A (f (.int i t) (.int j u)) Q E s) :
    OpR X f (rI0 fun i j => .int (g i j)) := by
  intro pins s σ H x y v u Q I rx ry h
  obtain ⟨i, j, rfl, rfl, q⟩ := h
  obtain ⟨t, rfl⟩ := rx
  obtain ⟨t', rfl⟩ := ry
  exact rule i j t t' s _ _ ⟨.int (g i j), H, I.tok _, ⟨_, rfl⟩, q⟩
theorem opB0 {f : Value → Value → Sem Value} {g : Int → Int → Bool}
    (rule : ∀ (i j : Int) (t u : Tok) (s : Shared) (Q : Value → Shared → Prop) (E : Value → Shared → Prop), Q (.bool (g i j)) s → wpAny (model X.prog X.w) X.A (f (.int i t) (.int j u)) Q E s) :
    OpR X f (rI0 fun i j => .bl (g i j)) := by
  intro pins s σ H x y v u Q I rx ry h
  obtain ⟨i, j, rfl, rfl, q⟩ := h
  obtain ⟨t, rfl⟩ := rx
  obtain ⟨t', rfl⟩ := ry
  exact rule i j t t' s _ _ ⟨.bl (g i j), H, I, rfl, q⟩

def CDiv (i j : Int) : Prop := 0 < j ∧ j < 1073741824
def CDivN (i j : Int) : Prop := j ≠ 0 ∧ j.natAbs < 1073741824
def CPow (i j : Int) : Prop := 0 ≤ j ∧ j ≤ 1000000 ∧ i.natAbs < 2 ^ 64
def CMul (i j : Int) : Prop := (-(2 ^ 64) < i ∧ i < 2 ^ 64) ∨ (-(2 ^ 64) < j ∧ j < 2 ^ 64)
theorem CMul.ok {i j : Int} (h : CMul i j) : IntMulOk i j := by
  rcases h with ⟨h1, h2⟩ | ⟨h1, h2⟩
  · exact .of_left (intBits_le_64 h1 h2)
  · exact .of_right (intBits_le_64 h1 h2)
theorem two_pow_nn (k : Nat) : (0 : Int) ≤ 2 ^ k := by
  rw [two_pow_cast]
  exact Int.natCast_nonneg _

theorem op_add : OpR X (binaryOp .Add) (rI0 fun i j => .int (i + j)) := opI0 fun _ _ _ _ _ _ _ q => add_int q
theorem op_sub : OpR X (binaryOp .Sub) (rI0 fun i j => .int (i - j)) := opI0 fun _ _ _ _ _ _ _ q => sub_int q
theorem op_mul : OpR X (binaryOp .Mult) (rI CMul fun i j => .int (i * j)) := opI fun _ _ _ _ _ _ _ hc q => mul_int q hc.ok
/-- // by a positive divisor -/
theorem op_fdiv : OpR X (binaryOp .FloorDiv) (rI CDiv fun i j => .int (i / j)) := opI fun i j _ _ _ _ _ hc q => by
  have h1 : (0 : Int) < j := hc.1
  have h2 : j < 1073741824 := hc.2
  exact floordiv_int (by omega) (by rw [Int.fdiv_eq_ediv_of_nonneg i (by omega)]; exact q) (.inl (PyProof.noPylong_small (by omega)))
theorem op_fdivN : OpR X (binaryOp .FloorDiv) (rI CDivN fun i j => .int (i.fdiv j)) := opI fun _ _ _ _ _ _ _ hc q => floordiv_int hc.1 q (.inl (PyProof.noPylong_small hc.2))
/-- % by a positive divisor of any size -/
theorem op_mod : OpR X (binaryOp .Mod) (rI (fun _ j => 0 < j) fun i j => .int (i % j)) := opI fun i j _ _ _ _ _ hc q => by
  have h1 : (0 : Int) < j := hc
  exact mod_int' (by omega) (by rw [Int.fmod_eq_emod_of_nonneg i (by omega)]; exact q)
theorem op_modN : OpR X (binaryOp .Mod) (rI (fun _ j => j ≠ 0) fun i j => .int (i.fmod j)) := opI fun _ _ _ _ _ _ _ hc q => mod_int' hc q
theorem op_pow : OpR X (binaryOp .Pow) (rI CPow fun i j => .int (i ^ j.toNat)) := opI fun _ _ _ _ _ _ _ hc q => pow_int_small hc.1 hc.2.1 hc.2.2 q
theorem op_shl : OpR X (binaryOp .LShift) (rI CPow fun i j => .int (i * 2 ^ j.toNat)) := opI fun _ _ _ _ _ _ _ hc q => lshift_int_small hc.1 hc.2.1 hc.2.2 q
theorem op_shr : OpR X (binaryOp .RShift) (rI (fun _ j => 0 ≤ j) fun i j => .int (i / 2 ^ j.toNat)) := opI fun i j _ _ _ _ _ hc q =>
  rshift_int hc (by rw [Int.fdiv_eq_ediv_of_nonneg i (two_pow_nn _)]; exact q)
theorem op_and : OpR X (binaryOp .BitAnd) (rI0 fun i j => .int (Builtin.bitAnd i j)) := opI0 fun _ _ _ _ _ _ _ q => and_int q
theorem op_or : OpR X (binaryOp .BitOr) (rI0 fun i j => .int (Builtin.bitOr i j)) := opI0 fun _ _ _ _ _ _ _ q => or_int q
theorem op_xor : OpR X (binaryOp .BitXor) (rI0 fun i j => .int (Builtin.bitXor i j)) := opI0 fun _ _ _ _ _ _ _ q => xor_int q

theorem iop_add : OpR X (inplaceOp .Add) (rI0 fun i j => .int (i + j)) := opI0 fun _ _ _ _ _ _ _ q => iadd_int q
theorem iop_sub : OpR X (inplaceOp .Sub) (rI0 fun i j => .int (i - j)) := opI0 fun _ _ _ _ _ _ _ q => isub_int q
theorem iop_mul : OpR X (inplaceOp .Mult) (rI CMul fun i j => .int (i * j)) := opI fun _ _ _ _ _ _ _ hc q => imul_int q hc.ok
theorem iop_fdiv : OpR X (inplaceOp .FloorDiv) (rI CDiv fun i j => .int (i / j)) := opI fun i j _ _ _ _ _ hc q => by
  have h1 : (0 : Int) < j := hc.1
  have h2 : j < 1073741824 := hc.2
  exact ifloordiv_int (by omega) (by rw [Int.fdiv_eq_ediv_of_nonneg i (by omega)]; exact q) (.inl (PyProof.noPylong_small (by omega)))
theorem iop_mod : OpR X (inplaceOp .Mod) (rI (fun _ j => 0 < j) fun i j => .int (i % j)) := opI fun i j _ _ _ _ _ hc q => by
  have h1 : (0 : Int) < j := hc
  exact imod_int (by omega) (by rw [Int.fmod_eq_emod_of_nonneg i (by omega)]; exact q)
theorem iop_shl : OpR X (inplaceOp .LShift) (rI CPow fun i j => .int (i * 2 ^ j.toNat)) := opI fun _ _ _ _ _ _ _ hc q => ilshift_int_small hc.1 hc.2.1 hc.2.2 q
theorem iop_shr : OpR X (inplaceOp .RShift) (rI (fun _ j => 0 ≤ j) fun i j => .int (i / 2 ^ j.toNat)) := opI fun i j _ _ _ _ _ hc q =>
  irshift_int hc (by rw [Int.fdiv_eq_ediv_of_nonneg i (two_pow_nn _)]; exact q)
theorem iop_and : OpR X (inplaceOp .BitAnd) (rI0 fun i j => .int (Builtin.bitAnd i j)) := opI0 fun _ _ _ _ _ _ _ q => iand_int q
theorem iop_or : OpR X (inplaceOp .BitOr) (rI0 fun i j => .int (Builtin.bitOr i j)) := opI0 fun _ _ _ _ _ _ _ q => ior_int q
theorem iop_xor : OpR X (inplaceOp .BitXor) (rI0 fun i j => .int (Builtin.bitXor i j)) := opI0 fun _ _ _ _ _ _ _ q => ixor_int q

theorem unI {f : Value → Sem Value} {g : Int → Int}
    (rule : ∀ (i : Int) (t : Tok) (s : Shared) (Q : Value → Shared → Prop) (E : Value → Shared → Prop), Q (.int (g i) s.toks) { s with toks := s.toks + 1 } → wpAny (model X.prog X.w) X.A (f (.int i t)) Q E s) :
    UnR X f (rU fun i => .int (g i)) := by
  intro pins s σ H x v Q I rx h
  obtain ⟨i, rfl, q⟩ := h
  obtain ⟨t, rfl⟩ := rx
  exact rule i t s _ _ ⟨.int (g i), H, I.tok _, ⟨_, rfl⟩, q⟩
theorem un_neg : UnR X (unaryOp .USub) (rU fun i => .int (-i)) := unI fun _ _ _ _ _ q => neg_int q
theorem un_inv : UnR X (unaryOp .Invert) (rU fun i => .int (Builtin.bitNot i)) := unI fun _ _ _ _ _ q => invert_int q

/-! ### bools among ints: n += (a < b) -/
theorem op_add_ib : OpR X (binaryOp .Add) (fun x y H Q => ∃ i k, x = .int i ∧ y = .bl k ∧ Q (.int (i + b2i k)) H) := by
  intro pins s σ H x y v u Q I rx ry h
  obtain ⟨i, k, rfl, rfl, q⟩ := h
  obtain ⟨t, rfl⟩ := rx
  cases ry
  exact add_int_bool ⟨.int (i + b2i k), H, I.tok _, ⟨_, rfl⟩, q⟩
end

/-! ### comparisons -/
/-- the scalars that == tells apart as data does -/
def scal : V → V → Bool
  | .non, .non => true | .non, .int _ => true | .int _, .non => true | .non, .bl _ => true | .bl _, .non => true | .non, .str _ => true | .str _, .non => true
  | .int _, .int _ => true | .bl _, .bl _ => true | .str _, .str _ => true | .byt _, .byt _ => true
  | .int _, .str _ => true | .str _, .int _ => true | .bl _, .str _ => true | .str _, .bl _ => true
  | _, _ => false
def rEq : R2 := fun x y H Q => scal x y = true ∧ Q (.bl (decide (x = y))) H
def rNe : R2 := fun x y H Q => scal x y = true ∧ Q (.bl (!decide (x = y))) H

theorem dec_int {i j : Int} : decide (V.int i = V.int j) = (i == j) := by
  rw [Bool.eq_iff_iff]
  simp
theorem dec_bl {i j : Bool} : decide (V.bl i = V.bl j) = (i == j) := by
  rw [Bool.eq_iff_iff]
  simp
theorem dec_str {i j : Str} : decide (V.str i = V.str j) = (i == j) := by
  rw [Bool.eq_iff_iff]
  simp
theorem dec_byt {i j : Array UInt8} : decide (V.byt i = V.byt j) = (i.toList == j.toList) := by
  rw [Bool.eq_iff_iff]
  cases i
  cases j
  simp

section
variable {X : Cx} {a b c : Expr} {ta tb tc : TE} {pos : Pos}
theorem fin_bl {pins : List (Addr × Obj)} {σ : St} {H : Hp} {s : Shared} {Q : VK} {k k' : Bool} (I : Inv X pins σ H s) (q : Q (.bl k) H) (e : k = k') : EP X pins σ Q (.bool k') s := by
  subst e
  exact ⟨.bl k, H, I, rfl, q⟩
theorem op_eq : OpR X (compareOp .Eq) rEq := by
  intro pins s σ H x y v u Q I rx ry h
  obtain ⟨hs, q⟩ := h
  cases x with
  | non =>
    cases rx
    cases y with
    | non => cases ry; exact PySem.EqNone.eq_none_none (fin_bl I q (by simp))
    | bl j => cases ry; exact PySem.EqNone.eq_none_bool (fin_bl I q (by simp))
    | int j => obtain ⟨t', rfl⟩ := ry; exact PySem.EqNone.eq_none_int (fin_bl I q (by simp))
    | str j => obtain ⟨t', rfl⟩ := ry; exact PySem.EqNone.eq_none_str (fin_bl I q (by simp))
    | _ => exact absurd (show false = true from hs) Bool.false_ne_true
  | bl i =>
    cases rx
    cases y with
    | non => cases ry; exact PySem.EqNone.eq_bool_none (fin_bl I q (by simp))
    | bl j => cases ry; exact eq_bool (fin_bl I q dec_bl)
    | str j => obtain ⟨t', rfl⟩ := ry; exact PySem.EqMixed.eq_bool_str (fin_bl I q (by simp))
    | _ => exact absurd (show false = true from hs) Bool.false_ne_true
  | int i =>
    obtain ⟨t, rfl⟩ := rx
    cases y with
    | non => cases ry; exact PySem.EqNone.eq_int_none (fin_bl I q (by simp))
    | int j => obtain ⟨t', rfl⟩ := ry; exact eq_int (fin_bl I q dec_int)
    | str j => obtain ⟨t', rfl⟩ := ry; exact PySem.EqMixed.eq_int_str (fin_bl I q (by simp))
    | _ => exact absurd (show false = true from hs) Bool.false_ne_true
  | str i =>
    obtain ⟨t, rfl⟩ := rx
    cases y with
    | non => cases ry; exact PySem.EqNone.eq_str_none (fin_bl I q (by simp))
    | bl j => cases ry; exact PySem.EqMixed.eq_str_bool (fin_bl I q (by simp))
    | int j => obtain ⟨t', rfl⟩ := ry; exact PySem.EqMixed.eq_str_int (fin_bl I q (by simp))
    | str j => obtain ⟨t', rfl⟩ := ry; exact eq_str (fin_bl I q dec_str)
    | _ => exact absurd (show false = true from hs) Bool.false_ne_true
  | byt i =>
    obtain ⟨t, rfl⟩ := rx
    cases y with
    | byt j => obtain ⟨t', rfl⟩ := ry; exact PySem.W.eq_bytes (fin_bl I q dec_byt)
    | _ => exact absurd (show false = true from hs) Bool.false_ne_true
  | _ => cases y <;> exact absurd (show false = true from hs) Bool.false_ne_true
theorem op_ne : OpR X (compareOp .NotEq) rNe := by
  intro pins s σ H x y v u Q I rx ry h
  obtain ⟨hs, q⟩ := h
  cases x with
  | non =>
    cases rx
    cases y with
    | non => cases ry; exact PySem.EqNone.ne_none_none (fin_bl I q (by simp))
    | bl j => cases ry; exact PySem.EqNone.ne_none_bool (fin_bl I q (by simp))
    | int j => obtain ⟨t', rfl⟩ := ry; exact PySem.EqNone.ne_none_int (fin_bl I q (by simp))
    | str j => obtain ⟨t', rfl⟩ := ry; exact PySem.EqNone.ne_none_str (fin_bl I q (by simp))
    | _ => exact absurd (show false = true from hs) Bool.false_ne_true
  | bl i =>
    cases rx
    cases y with
    | non => cases ry; exact PySem.EqNone.ne_bool_none (fin_bl I q (by simp))
    | bl j => cases ry; exact ne_bool (fin_bl I q (congrArg not dec_bl))
    | str j => obtain ⟨t', rfl⟩ := ry; exact PySem.EqMixed.ne_bool_str (fin_bl I q (by simp))
    | _ => exact absurd (show false = true from hs) Bool.false_ne_true
  | int i =>
    obtain ⟨t, rfl⟩ := rx
    cases y with
    | non => cases ry; exact PySem.EqNone.ne_int_none (fin_bl I q (by simp))
    | int j => obtain ⟨t', rfl⟩ := ry; exact ne_int (fin_bl I q (congrArg not dec_int))
    | str j => obtain ⟨t', rfl⟩ := ry; exact PySem.EqMixed.ne_int_str (fin_bl I q (by simp))
    | _ => exact absurd (show false = true from hs) Bool.false_ne_true
  | str i =>
    obtain ⟨t, rfl⟩ := rx
    cases y with
    | non => cases ry; exact PySem.EqNone.ne_str_none (fin_bl I q (by simp))
    | bl j => cases ry; exact PySem.EqMixed.ne_str_bool (fin_bl I q (by simp))
    | int j => obtain ⟨t', rfl⟩ := ry; exact PySem.EqMixed.ne_str_int (fin_bl I q (by simp))
    | str j => obtain ⟨t', rfl⟩ := ry; exact ne_str (fin_bl I q (congrArg not dec_str))
    | _ => exact absurd (show false = true from hs) Bool.false_ne_true
  | byt i =>
    obtain ⟨t, rfl⟩ := rx
    cases y with
    | byt j => obtain ⟨t', rfl⟩ := ry; exact PySem.W.ne_bytes (fin_bl I q (congrArg not dec_byt))
    | _ => exact absurd (show false = true from hs) Bool.false_ne_true
  | _ => cases y <;> exact absurd (show false = true from hs) Bool.false_ne_true

theorem op_lt : OpR X (compareOp .Lt) (rI0 fun i j => .bl (decide (i < j))) := opB0 fun _ _ _ _ _ _ _ q => lt_int q
theorem op_le : OpR X (compareOp .LtE) (rI0 fun i j => .bl (decide (i ≤ j))) := opB0 fun _ _ _ _ _ _ _ q => le_int q
theorem op_gt : OpR X (compareOp .Gt) (rI0 fun i j => .bl (decide (j < i))) := opB0 fun _ _ _ _ _ _ _ q => gt_int q
theorem op_ge : OpR X (compareOp .GtE) (rI0 fun i j => .bl (decide (j ≤ i))) := opB0 fun _ _ _ _ _ _ _ q => ge_int q
theorem op_lt_str : OpR X (compareOp .Lt) (fun x y H Q => ∃ i j, x = .str i ∧ y = .str j ∧ Q (.bl (decide (i.cps.toList < j.cps.toList))) H) := by
  intro pins s σ H x y v u Q I rx ry h
  obtain ⟨i, j, rfl, rfl, q⟩ := h
  obtain ⟨t, rfl⟩ := rx
  obtain ⟨t', rfl⟩ := ry
  exact lt_str (fin_bl I q rfl)
/-- the one string within the other -/
theorem op_in_str : OpR X (compareOp .In) (fun x y H Q => ∃ i j, x = .str i ∧ y = .str j ∧ Q (.bl (!(Builtin.Str.occurrences j i 0 j.length 1).isEmpty)) H) := by
  intro pins s σ H x y v u Q I rx ry h
  obtain ⟨i, j, rfl, rfl, q⟩ := h
  obtain ⟨t, rfl⟩ := rx
  obtain ⟨t', rfl⟩ := ry
  exact in_str (fin_bl I q rfl)

/-- is None, is not None: the right side a value none -/
theorem op_isN : OpR X (compareOp .Is) (fun x y H Q => y = .non ∧ Q (.bl (decide (x = .non))) H) := by
  intro pins s σ H x y v u Q I rx ry h
  obtain ⟨rfl, q⟩ := h
  cases ry
  refine is_none_gen (fin_bl I q ?_)
  cases x <;> first
    | (cases rx; rfl)
    | (obtain ⟨t, rfl⟩ := rx; rfl)
theorem op_notN : OpR X (compareOp .IsNot) (fun x y H Q => y = .non ∧ Q (.bl (!decide (x = .non))) H) := by
  intro pins s σ H x y v u Q I rx ry h
  obtain ⟨rfl, q⟩ := h
  cases ry
  refine isnot_none_gen (fin_bl I q ?_)
  cases x <;> first
    | (cases rx; rfl)
    | (obtain ⟨t, rfl⟩ := rx; rfl)

theorem op_notin_str : OpR X (compareOp .NotIn) (fun x y H Q => ∃ i j, x = .str i ∧ y = .str j ∧ Q (.bl (!(!(Builtin.Str.occurrences j i 0 j.length 1).isEmpty))) H) := by
  intro pins s σ H x y v u Q I rx ry h
  obtain ⟨i, j, rfl, rfl, q⟩ := h
  obtain ⟨t, rfl⟩ := rx
  obtain ⟨t', rfl⟩ := ry
  exact notIn_str (fin_bl I q rfl)
/-- is, is not of two objects that are tracked lists or instances -/
def isObj : HO → Bool
  | .lst _ => true
  | .ins _ _ _ => true
  | _ => false
theorem obj_there {pins : List (Addr × Obj)} {s : Shared} {σ : St} {H : Hp} {a : Addr} {o : HO} (I : Inv X pins σ H s) (h : H a = some o) (p : isObj o = true) : ∃ ob, s.heap.get? a = some ob ∧ ob.cls ≠ .type "tuple" := by
  cases o with
  | lst xs =>
    obtain ⟨_, its, n, _, e⟩ : xs.length ≤ sizeLine ∧ ∃ (its : List Value) (n : Nat), Vals xs its ∧ s.heap.get? a = some { cls := .type "list", data := .seq its.toArray n } := I.hok a _ h
    exact ⟨_, e, (by show Value.type "list" ≠ .type "tuple"; decide +kernel)⟩
  | ins C dx fs =>
    have x := I.hok a _ h
    obtain ⟨_, _, _, e, _⟩ := x
    exact ⟨_, e, (by show Value.ref C ≠ .type "tuple"; exact fun z => by cases z)⟩
  | _ => exact absurd (show false = true from p) Bool.false_ne_true
theorem op_is_ref : OpR X (compareOp .Is) (fun x y H Q => ∃ a b oa ob, x = .ref a ∧ y = .ref b ∧ H a = some oa ∧ isObj oa = true ∧ H b = some ob ∧ isObj ob = true ∧ Q (.bl (decide (a = b))) H) := by
  intro pins s σ H x y v u Q I rx ry h
  obtain ⟨a, b, oa, ob, rfl, rfl, ha, pa, hb, pb, q⟩ := h
  cases rx
  cases ry
  obtain ⟨o1, e1, n1⟩ := obj_there I ha pa
  obtain ⟨o2, e2, _⟩ := obj_there I hb pb
  by_cases z : a = b
  · subst z
    exact wpAny_is_ref_self (fin_bl I q (by simp))
  · exact wpAny_is_ref_other z e1 e2 n1 (fin_bl I q (by simp [z]))
theorem op_isnot_ref : OpR X (compareOp .IsNot) (fun x y H Q => ∃ a b oa ob, x = .ref a ∧ y = .ref b ∧ H a = some oa ∧ isObj oa = true ∧ H b = some ob ∧ isObj ob = true ∧ Q (.bl (!decide (a = b))) H) := by
  intro pins s σ H x y v u Q I rx ry h
  obtain ⟨a, b, oa, ob, rfl, rfl, ha, pa, hb, pb, q⟩ := h
  cases rx
  cases ry
  obtain ⟨o1, e1, n1⟩ := obj_there I ha pa
  obtain ⟨o2, e2, _⟩ := obj_there I hb pb
  by_cases z : a = b
  · subst z
    exact wpAny_isNot_ref_self (fin_bl I q (by simp))
  · exact wpAny_isNot_ref_other z e1 e2 n1 (fin_bl I q (by simp [z]))

/-- two rules for one operation: by cases -/
theorem OpR.or {f : Value → Value → Sem Value} {r r' : R2} (h : OpR X f r) (h' : OpR X f r') : OpR X f (fun x y H Q => r x y H Q ∨ r' x y H Q) := by
  intro pins s σ H x y v u Q I rx ry q
  rcases q with q | q
  · exact h pins s σ H x y v u Q I rx ry q
  · exact h' pins s σ H x y v u Q I rx ry q

theorem nomark (b : Expr) {op : CmpOp} (h : op ≠ .In := by decide) (h2 : op ≠ .NotIn := by decide) : behindInMarks op b = false := by
  have e1 : (op == CmpOp.In) = false := by cases op <;> first | rfl | exact absurd rfl h
  have e2 : (op == CmpOp.NotIn) = false := by cases op <;> first | rfl | exact absurd rfl h2
  cases b <;> simp [behindInMarks, e1, e2]
/-- a comparison as a value; hm: nomark b, or (for in, not in) by with_unfolding_all rfl -/
theorem pe_cmpR {op : CmpOp} {r : R2} (ho : OpR X (compareOp op) r) (ha : PE X a ta) (hb : PE X b tb) (hm : behindInMarks op b = false) : PE X (.Compare a [op] [b] pos) (tOp r ta tb) := by
  intro pins s σ H Q I h
  exact wpAny_Compare1 (binT ha hb I h fun v u s2 x y H2 I2 rx ry q => ho pins s2 σ H2 x y v u Q I2 rx ry q) hm
/-- a reading of a value as a test -/
def tTest (t : TE) : TT := fun σ H Q => t σ H fun x H' => ∃ k, x = .bl k ∧ Q k H'
theorem pt_cmpR {op : CmpOp} {r : R2} (ho : OpR X (compareOp op) r) (ha : PE X a ta) (hb : PE X b tb) (hm : behindInMarks op b = false) : PT X (.Compare a [op] [b] pos) (tTest (tOp r ta tb)) := by
  intro pins s σ H Q I h
  refine wpAny_isTrue_Compare1 (thn (ha pins s σ H _ I h) fun v s1 ⟨x, H1, I1, r1, q1⟩ => thn (hb pins s1 σ H1 _ I1 q1) fun u s2 ⟨y, H2, I2, r2, q2⟩ =>
    thn (ho pins s2 σ H2 x y v u _ I2 r1 r2 q2) fun c s3 ⟨z, H3, I3, r3, k, e, q3⟩ => ?_) hm
  subst e
  cases r3
  exact wpAny_truthy_bool ⟨H3, I3, q3⟩
/-- a op1 b op2 c -/
def tChain (r r' : R2) (ta tb tc : TE) : TE := fun σ H Q => ta σ H fun x H1 => tb σ H1 fun y H2 => r x y H2 fun z H3 => ∃ k, z = .bl k ∧
  (if k = true then tc σ H3 fun w' H4 => r' y w' H4 Q else Q (.bl false) H3)
theorem pe_chain {op op' : CmpOp} {r r' : R2} (ho : OpR X (compareOp op) r) (ho' : OpR X (compareOp op') r') (ha : PE X a ta) (hb : PE X b tb) (hc : PE X c tc)
    (hm : lastMarks [op, op'] [b, c] = false := by with_unfolding_all rfl) : PE X (.Compare a [op, op'] [b, c] pos) (tChain r r' ta tb tc) := by
  intro pins s σ H Q I h
  refine Compare_chain (thn (ha pins s σ H _ I h) fun v s1 ⟨x, H1, I1, r1, q1⟩ => chain_link (thn (hb pins s1 σ H1 _ I1 q1) fun u s2 ⟨y, H2, I2, r2, q2⟩ =>
    thn (ho pins s2 σ H2 x y v u _ I2 r1 r2 q2) fun d s3 ⟨z, H3, I3, r3, k, e, q3⟩ => ?_)) hm
  subst e
  cases r3
  refine wpAny_truthy_bool ?_
  cases k with
  | false => exact ite_ff ⟨.bl false, H3, I3, rfl, q3⟩
  | true => exact ite_tt (chain_last (thn (hc pins s3 σ H3 _ I3 q3) fun w' s4 ⟨z', H4, I4, r4, q4⟩ => ho' pins s4 σ H4 y z' u w' Q I4 r2 r4 q4))
theorem pt_chain {op op' : CmpOp} {r r' : R2} (ho : OpR X (compareOp op) r) (ho' : OpR X (compareOp op') r') (ha : PE X a ta) (hb : PE X b tb) (hc : PE X c tc)
    (hm : lastMarks [op, op'] [b, c] = false := by with_unfolding_all rfl) : PT X (.Compare a [op, op'] [b, c] pos) (tTest (tChain r r' ta tb tc)) := by
  intro pins s σ H Q I h
  refine isTrue_chain (thn (ha pins s σ H _ I h) fun v s1 ⟨x, H1, I1, r1, q1⟩ => test_link (thn (hb pins s1 σ H1 _ I1 q1) fun u s2 ⟨y, H2, I2, r2, q2⟩ =>
    thn (ho pins s2 σ H2 x y v u _ I2 r1 r2 q2) fun d s3 ⟨z, H3, I3, r3, k, e, q3⟩ => ?_)) hm
  subst e
  cases r3
  refine wpAny_truthy_bool ?_
  cases k with
  | false =>
    obtain ⟨k', e', q'⟩ := q3
    cases e'
    exact ite_ff ⟨H3, I3, q'⟩
  | true =>
    refine ite_tt (test_last (thn (hc pins s3 σ H3 _ I3 q3) fun w' s4 ⟨z', H4, I4, r4, q4⟩ => thn (ho' pins s4 σ H4 y z' u w' _ I4 r2 r4 q4) fun d' s5 ⟨z2, H5, I5, r5, k2, e2, q5⟩ => ?_))
    subst e2
    cases r5
    exact wpAny_truthy_bool ⟨H5, I5, q5⟩

/-! ### truth -/
/-- a value's truth by the abstract heap -/
def TruV (K : PySem.W.Frag) (x : V) (H : Hp) (k : Bool) : Prop :=
  match x with
  | .non => k = false
  | .bl b => k = b
  | .int i => k = (i != 0)
  | .str y => y.length ≤ sizeLine ∧ k = ((y.length : Int) != 0)
  | .byt y => y.size ≤ sizeLine ∧ k = ((y.size : Int) != 0)
  | .ref p => (∃ xs, SqL K H p xs ∧ k = !xs.isEmpty) ∨ (∃ xs, SqT K H p xs ∧ k = !xs.isEmpty) ∨ ∃ kvs, H p = some (.dK kvs) ∧ k = !kvs.isEmpty
  | _ => False
theorem isEmpty_kv {κ : Type} {kvs : List (κ × V)} {vs : List (κ × Value)} (r : KV kvs vs) : (!vs.isEmpty) = !kvs.isEmpty := by
  cases r <;> rfl
theorem isEmpty_of {xs : List V} {its : List Value} (r : Vals xs its) : (!its.toArray.isEmpty) = !xs.isEmpty := by
  cases r <;> simp
theorem line63 : (sizeLine : Nat) < 2 ^ 63 := by rw [sizeLine_eq]; decide
theorem tru_ok : TruR X (fun x H Q => ∃ k, TruV X.K x H k ∧ Q k H) := by
  intro pins s σ H x v Q I rx h
  obtain ⟨k, e, q⟩ := h
  have hl := line63
  have hs : sizeLine = 16777216 := sizeLine_eq
  cases x with
  | non =>
    cases rx
    have e' : k = false := e
    subst e'
    exact truthy_none ⟨H, I, q⟩
  | bl b =>
    cases rx
    have e' : k = b := e
    subst e'
    exact wpAny_truthy_bool ⟨H, I, q⟩
  | int i =>
    obtain ⟨t, rfl⟩ := rx
    have e' : k = (i != 0) := e
    subst e'
    exact PySem.P.truthy_int ⟨H, I, q⟩
  | str y =>
    obtain ⟨t, rfl⟩ := rx
    obtain ⟨hy, e'⟩ : y.length ≤ sizeLine ∧ k = ((y.length : Int) != 0) := e
    subst e'
    exact PySem.P.truthy_str (by omega) ⟨H, I.tok _, q⟩
  | byt y =>
    obtain ⟨t, rfl⟩ := rx
    obtain ⟨hy, e'⟩ : y.size ≤ sizeLine ∧ k = ((y.size : Int) != 0) := e
    subst e'
    exact PySem.W.truthy_bytes (by omega) ⟨H, I.tok _, q⟩
  | ref p =>
    cases rx
    have e' : (∃ xs, SqL X.K H p xs ∧ k = !xs.isEmpty) ∨ (∃ xs, SqT X.K H p xs ∧ k = !xs.isEmpty) ∨ ∃ kvs, H p = some (.dK kvs) ∧ k = !kvs.isEmpty := e
    rcases e' with ⟨xs, hx, e'⟩ | ⟨xs, hx, e'⟩ | ⟨kvs, hx, e'⟩
    · subst e'
      obtain ⟨its, r, pl, hz⟩ := I.list hx
      have hlen := r.length
      exact wpAny_truthy_list pl.isList (by simp only [List.size_toArray]; omega) ⟨H, I.tok _, by rw [isEmpty_of r]; exact q⟩
    · subst e'
      obtain ⟨its, r, pl, hz⟩ := I.tuple hx
      have hlen := r.length
      exact truthy_tuple pl (by simp only [List.size_toArray]; omega) ⟨H, I.tok _, by rw [isEmpty_of r]; exact q⟩
    · subst e'
      obtain ⟨hz, hS, vs, r, m⟩ : kvs.length ≤ sizeLine ∧ (p == sysModules) = false ∧ ∃ vs, KV kvs vs ∧ s.heap.DictOf (mixKind X.prog X.w) p vs := I.hok p _ hx
      have hlen : kvs.length = vs.length := Paired.length r
      exact wpAny_truthy_dict hS m (by omega) ⟨H, I.tok _, by rw [isEmpty_kv r]; exact q⟩
  | _ => exact (show False from e).elim
/-- any expression whose test is its value's truth (a name, a call, a subscript, a field ..: he by fun _ => rfl) -/
theorem pt_truth (ha : PE X a ta) (he : ∀ whole, isTrue a X.env whole = (do let v ← whole; standAt a.pos; holding [v] (truthy v))) :
    PT X a (fun σ H Q => ta σ H fun x H' => ∃ k, TruV X.K x H' k ∧ Q k H') := by
  intro pins s σ H Q I h
  exact isTrue_plain (thn (ha pins s σ H _ I h) fun v s1 ⟨x, H1, I1, r1, q1⟩ => tru_ok pins s1 σ H1 x v Q I1 r1 q1) (he _)

/-! ### strs and bytes -/
theorem pe_byt {x : List UInt8} {k : Nat} : PE X (.Constant (.bytes x) k pos) (fun _ H Q => Q (.byt x.toArray) H) := fun _ _ _ H _ I h => PySem.W.Constant_bytes ⟨.byt x.toArray, H, I.tok _, ⟨_, rfl⟩, h⟩
theorem op_add_str : OpR X (binaryOp .Add) (fun x y H Q => ∃ i j, x = .str i ∧ y = .str j ∧ i.length + j.length ≤ sizeLine ∧ Q (.str (i ++ j)) H) := by
  intro pins s σ H x y v u Q I rx ry h
  obtain ⟨i, j, rfl, rfl, hz, q⟩ := h
  obtain ⟨t, rfl⟩ := rx
  obtain ⟨t', rfl⟩ := ry
  exact add_str (fun t' tk => ⟨.str (i ++ j), H, I.tok _, ⟨_, rfl⟩, q⟩) hz
theorem iop_add_str : OpR X (inplaceOp .Add) (fun x y H Q => ∃ i j, x = .str i ∧ y = .str j ∧ i.length + j.length ≤ sizeLine ∧ Q (.str (i ++ j)) H) := by
  intro pins s σ H x y v u Q I rx ry h
  obtain ⟨i, j, rfl, rfl, hz, q⟩ := h
  obtain ⟨t, rfl⟩ := rx
  obtain ⟨t', rfl⟩ := ry
  exact iadd_str (fun t' tk => ⟨.str (i ++ j), H, I.tok _, ⟨_, rfl⟩, q⟩) hz
theorem op_add_byt : OpR X (binaryOp .Add) (fun x y H Q => ∃ i j, x = .byt i ∧ y = .byt j ∧ i.size + j.size ≤ 16777216 ∧ Q (.byt (i ++ j)) H) := by
  intro pins s σ H x y v u Q I rx ry h
  obtain ⟨i, j, rfl, rfl, hz, q⟩ := h
  obtain ⟨t, rfl⟩ := rx
  obtain ⟨t', rfl⟩ := ry
  exact PySem.W.KBy.add_bytes hz (fun t' tk => ⟨.byt (i ++ j), H, I.tok _, ⟨_, rfl⟩, q⟩)

def PlainIxT (b : Expr) : Prop := ∀ o i, subscripted b false o i = operate [o, i] (getItem o i)
/-- s[i], 0 ≤ i < len -/
theorem pe_item_str (ha : PE X a ta) (hb : PE X b tb) (hs : PlainIxT b) :
    PE X (.Subscript a b pos) (tOp (fun x y H Q => ∃ z i c, x = .str z ∧ y = .int i ∧ 0 ≤ i ∧ i < 2 ^ 63 ∧ i < z.length ∧ z.cps[i.toNat]? = some c ∧ Q (.str ⟨#[c]⟩) H) ta tb) := by
  intro pins s σ H Q I h
  refine Subscript_ (binT ha hb I h fun v u s2 x y H2 I2 rx ry q => ?_)
  obtain ⟨z, i, c, rfl, rfl, h0, h63, h1, hc, q⟩ := q
  obtain ⟨t, rfl⟩ := rx
  obtain ⟨t', rfl⟩ := ry
  have e : seqIndex? i z.length = some i.toNat := PySem.StrLaws.seqIndex_nonneg h0 h1
  exact tail_any (typeIs_str s2 z t) slot_str_getitem.lookup (getItem_str (c := c) (by
    have e1 : decide (i < -(2 ^ 63 : Int)) = false := decide_eq_false (by omega)
    have e2 : decide (i ≥ 2 ^ 63) = false := decide_eq_false (by omega)
    rw [e1, e2] <;> rfl) (by rw [e]; exact hc) ⟨.str ⟨#[c]⟩, H2, I2.tok _, ⟨_, rfl⟩, q⟩) (hs _ _)
/-- b[i], 0 ≤ i < len -/
theorem pe_item_byt (ha : PE X a ta) (hb : PE X b tb) (hs : PlainIxT b) :
    PE X (.Subscript a b pos) (tOp (fun x y H Q => ∃ (z : List UInt8) (i : Int), x = .byt z.toArray ∧ y = .int i ∧ z.length ≤ sizeLine ∧ 0 ≤ i ∧ i < z.length ∧ Q (.int ((z.getD i.toNat 0).toNat : Nat)) H) ta tb) := by
  intro pins s σ H Q I h
  refine Subscript_ (binT ha hb I h fun v u s2 x y H2 I2 rx ry q => ?_)
  obtain ⟨z, i, rfl, rfl, hz, h0, h1, q⟩ := q
  obtain ⟨t, rfl⟩ := rx
  obtain ⟨t', rfl⟩ := ry
  have hl : sizeLine = 16777216 := sizeLine_eq
  exact tail_any (PySem.W.typeIs_bytes s2 z.toArray t) PySem.W.FB.slot_bytes_getitem.lookup (PySem.W.getItem_bytes (by omega) h0 h1 ⟨.int ((z.getD i.toNat 0).toNat : Nat), H2, I2.tok _, ⟨_, rfl⟩, q⟩) (hs _ _)

/-! ### scalar builtins, by CallR -/
theorem vals1 {x : V} {us : List Value} (r : Vals [x] us) : ∃ u, us = [u] ∧ RelV x u := by
  cases r with
  | cons r1 r2 => cases r2; exact ⟨_, rfl, r1⟩
theorem vals2 {x y : V} {us : List Value} (r : Vals [x, y] us) : ∃ u w', us = [u, w'] ∧ RelV x u ∧ RelV y w' := by
  cases r with
  | cons r1 r2 =>
    cases r2 with
    | cons r3 r4 => cases r4; exact ⟨_, _, rfl, r1, r3⟩
theorem call_abs : CallR X (.builtin "abs") (fun xs H Q => ∃ i, xs = [.int i] ∧ Q (.int (if i < 0 then -i else i)) H) := by
  intro pins s σ H xs us Q I r h
  obtain ⟨i, rfl, q⟩ := h
  obtain ⟨u, rfl, t, rfl⟩ := vals1 r
  exact call_abs_int fun u tk => ⟨.int (if i < 0 then -i else i), H, I.tok _, ⟨_, rfl⟩, q⟩
theorem call_max2 (hc : X.calm = true) : CallR X (.builtin "max") (fun xs H Q => ∃ i j, xs = [.int i, .int j] ∧ Q (.int (if j > i then j else i)) H) := by
  intro pins s σ H xs us Q I r h
  obtain ⟨i, j, rfl, q⟩ := h
  obtain ⟨u, w', rfl, ⟨t, rfl⟩, ⟨t', rfl⟩⟩ := vals2 r
  refine max_two_ints (I.ok.hd hc) fun h' tk k => ⟨_, H, I.kept k, ?_, q⟩
  by_cases hj : j > i
  · rw [if_pos hj, if_pos hj]; exact ⟨_, rfl⟩
  · rw [if_neg hj, if_neg hj]; exact ⟨_, rfl⟩
theorem call_min2 (hc : X.calm = true) : CallR X (.builtin "min") (fun xs H Q => ∃ i j, xs = [.int i, .int j] ∧ Q (.int (if j < i then j else i)) H) := by
  intro pins s σ H xs us Q I r h
  obtain ⟨i, j, rfl, q⟩ := h
  obtain ⟨u, w', rfl, ⟨t, rfl⟩, ⟨t', rfl⟩⟩ := vals2 r
  refine min_two_ints (I.ok.hd hc) fun h' tk k => ⟨_, H, I.kept k, ?_, q⟩
  by_cases hj : j < i
  · rw [if_pos hj, if_pos hj]; exact ⟨_, rfl⟩
  · rw [if_neg hj, if_neg hj]; exact ⟨_, rfl⟩
theorem call_int1 : CallR X (.type "int") (fun xs H Q => (∃ i, xs = [.int i] ∧ Q (.int i) H) ∨ ∃ k, xs = [.bl k] ∧ Q (.int (if k then 1 else 0)) H) := by
  intro pins s σ H xs us Q I r h
  rcases h with ⟨i, rfl, q⟩ | ⟨k, rfl, q⟩
  · obtain ⟨u, rfl, t, rfl⟩ := vals1 r
    exact call_int_int ⟨.int i, H, I, ⟨_, rfl⟩, q⟩
  · obtain ⟨u, rfl, r1⟩ := vals1 r
    cases r1
    exact call_int_bool ⟨.int (if k then 1 else 0), H, I.tok _, ⟨_, rfl⟩, q⟩
theorem call_bool1 : CallR X (.type "bool") (fun xs H Q => (∃ i, xs = [.int i] ∧ Q (.bl (i != 0)) H) ∨ ∃ k, xs = [.bl k] ∧ Q (.bl k) H) := by
  intro pins s σ H xs us Q I r h
  rcases h with ⟨i, rfl, q⟩ | ⟨k, rfl, q⟩
  · obtain ⟨u, rfl, t, rfl⟩ := vals1 r
    exact call_bool_int ⟨.bl (i != 0), H, I, rfl, q⟩
  · obtain ⟨u, rfl, r1⟩ := vals1 r
    cases r1
    exact call_bool_bool ⟨.bl k, H, I, rfl, q⟩
theorem call_str_int : CallR X (.type "str") (fun xs H Q => ∃ i, xs = [.int i] ∧ i.natAbs.log2 < 1920 ∧ Q (.str (toString i)) H) := by
  intro pins s σ H xs us Q I r h
  obtain ⟨i, rfl, hz, q⟩ := h
  obtain ⟨u, rfl, t, rfl⟩ := vals1 r
  exact PySem.P.str_of_int hz ⟨.str _, H, I.tok _, ⟨_, rfl⟩, q⟩
theorem call_ord : CallR X (.builtin "ord") (fun xs H Q => ∃ x, xs = [.str x] ∧ x.length = 1 ∧ Q (.int (x.cps.getD 0 0 : Nat)) H) := by
  intro pins s σ H xs us Q I r h
  obtain ⟨x, rfl, hz, q⟩ := h
  obtain ⟨u, rfl, t, rfl⟩ := vals1 r
  exact ord_of_one hz ⟨.int _, H, I.tok _, ⟨_, rfl⟩, q⟩
theorem call_chr : CallR X (.builtin "chr") (fun xs H Q => ∃ i, xs = [.int i] ∧ 0 ≤ i ∧ i ≤ 1114111 ∧ Q (.str ⟨#[i.toNat]⟩) H) := by
  intro pins s σ H xs us Q I r h
  obtain ⟨i, rfl, h0, h1, q⟩ := h
  obtain ⟨u, rfl, t, rfl⟩ := vals1 r
  exact chr_of_range h0 h1 ⟨.str _, H, I.tok _, ⟨_, rfl⟩, q⟩
/-- len of a str, a bytes, a list, a tuple -/
def LenV (K : PySem.W.Frag) (x : V) (H : Hp) (n : Nat) : Prop :=
  match x with
  | .str y => y.length ≤ sizeLine ∧ n = y.length
  | .byt y => y.size ≤ sizeLine ∧ n = y.size
  | .ref p => (∃ xs, SqL K H p xs ∧ n = xs.length) ∨ ∃ xs, SqT K H p xs ∧ n = xs.length
  | _ => False
theorem call_len : CallR X (.builtin "len") (fun xs H Q => ∃ x n, xs = [x] ∧ LenV X.K x H n ∧ Q (.int n) H) := by
  intro pins s σ H xs us Q I r h
  obtain ⟨x, n, rfl, e, q⟩ := h
  obtain ⟨u, rfl, rx⟩ := vals1 r
  have hl := line63
  have hs : sizeLine = 16777216 := sizeLine_eq
  cases x with
  | str y =>
    obtain ⟨t, rfl⟩ := rx
    obtain ⟨hy, e'⟩ : y.length ≤ sizeLine ∧ n = y.length := e
    subst e'
    exact len_str (by omega) ⟨.int _, H, I.tok _, ⟨_, rfl⟩, q⟩
  | byt y =>
    obtain ⟨t, rfl⟩ := rx
    obtain ⟨hy, e'⟩ : y.size ≤ sizeLine ∧ n = y.size := e
    subst e'
    exact PySem.W.len_bytes (by omega) ⟨.int _, H, I.tok _, ⟨_, rfl⟩, q⟩
  | ref p =>
    cases rx
    have e' : (∃ xs, SqL X.K H p xs ∧ n = xs.length) ∨ ∃ xs, SqT X.K H p xs ∧ n = xs.length := e
    rcases e' with ⟨xs, hx, e'⟩ | ⟨xs, hx, e'⟩
    · subst e'
      obtain ⟨its, r', pl, hz⟩ := I.list hx
      have hlen := r'.length
      exact Calls.call_len_list pl.isList (by simp only [List.size_toArray]; omega) ⟨.int xs.length, H, I.tok _, ⟨_, by simp only [List.size_toArray]; rw [hlen]⟩, q⟩
    · subst e'
      obtain ⟨its, r', pl, hz⟩ := I.tuple hx
      have hlen := r'.length
      exact len_tuple pl (by simp only [List.size_toArray]; omega) ⟨.int xs.length, H, I.tok _, ⟨_, by simp only [List.size_toArray]; rw [hlen]⟩, q⟩
  | _ => exact (show False from e).elim
/-- divmod: a new tuple -/
theorem call_divmod : CallR X (.builtin "divmod") (fun xs H Q => ∃ i j, xs = [.int i, .int j] ∧ CDiv i j ∧ ∀ p, H p = none → Q (.ref p) (upd H p (.tup [.int (i / j), .int (i % j)]))) := by
  intro pins s σ H xs us Q I r h
  obtain ⟨i, j, rfl, ⟨h1, h2⟩, q⟩ := h
  obtain ⟨u, w', rfl, ⟨t, rfl⟩, ⟨t', rfl⟩⟩ := vals2 r
  refine divmod_int (by omega) ?_ (.inl (PyProof.noPylong_small (by omega)))
  rw [Int.fdiv_eq_ediv_of_nonneg i (by omega), Int.fmod_eq_emod_of_nonneg i (by omega)]
  have hn : H s.heap.objs.size = none := I.hok.fresh (Nat.le_refl _)
  refine ⟨.ref s.heap.objs.size, _, ?_, rfl, q _ hn⟩
  refine I.laid (fun b o e => Heap.get?_push_of_some _ e) (Nat.le_refl _) ⟨by simp only [List.length_cons, List.length_nil]; rw [sizeLine_eq]; decide, [.int (i / j) s.toks, .int (i % j) (s.toks + 1)], .cons ⟨_, rfl⟩ (.cons ⟨_, rfl⟩ .nil), ?_⟩
  exact ⟨_, Heap.get?_push_size s.heap rfl, rfl, 0, rfl⟩
end
end L2

namespace L2
open PySem PySem.Spec PyProof.Rows

/-! ### an instance, its attributes a map -/
structure ObjM (h : Heap) (x dx C : Addr) (mA : Str → Option Value) : Prop where
  obj : h.get? x = some (PySem.W.instObj C dx)
  ns : h.Ns1 dx mA
  ne : dx ≠ x

theorem lookIn_ns {h : Heap} {dx : Addr} {mA : Str → Option Value} (n : h.Ns1 dx mA) : ∃ od, h.get? dx = some od ∧ ∀ name, PySem.W.lookIn name od = some (mA name) := by
  obtain ⟨o, es, ep, ho, hd, hk, _, hm⟩ := n
  refine ⟨o, ho, fun name => ?_⟩
  have e := hm name
  unfold nsFind findBy at e
  rw [← Array.find?_toList] at e
  unfold PySem.W.lookIn
  rw [hd]
  dsimp only
  split
  · rename_i y q
    rw [q] at e
    exact congrArg some e
  · rename_i q
    rw [q] at e
    have a : es.toList.any (·.refKey) = false := by
      rw [List.any_eq_false]
      intro y hy
      obtain ⟨z, t, hkey⟩ := hk y (Array.mem_toList_iff.mp hy)
      simp [DictEntry.refKey, hkey]
    have a' : ¬ es.toList.any (·.refKey) = true := by rw [a]; exact Bool.false_ne_true
    rw [if_neg a']
    exact congrArg some e

theorem ObjM.look {h : Heap} {x dx C : Addr} {mA : Str → Option Value} (I : ObjM h x dx C mA) : ∃ od, PySem.W.InstAt h x (PySem.W.instObj C dx) C (some od) ∧ ∀ name, PySem.W.lookIn name od = some (mA name) :=
  let ⟨od, ho, hl⟩ := lookIn_ns I.ns
  ⟨od, ⟨I.obj, rfl, rfl, ho⟩, hl⟩

section
variable {prog : Program} {w : World} {A : Around} {E : Value → Shared → Prop} {s : Shared} {K : PySem.W.Frag} {x dx C f : Addr} {mA : Str → Option Value} {name : Str} {v : Value}

theorem get_map {expr : Bool} {Q : Value → Shared → Prop} (X : K.In s.heap) (I : ObjM s.heap x dx C mA) (hg : PySem.W.plainGet K C name = true) (hh : PySem.W.hasDictIn K C = true)
    (ha : PySem.W.findIn K (.ref C) name = some none) (hv : mA name = some v) (hv' : PySem.W.handedIn v = true) (h : Q v { s with toks := s.toks + 1 }) :
    wpAny (model prog w) A (getAttr (.ref x) name expr) Q E s := by
  obtain ⟨od, J, hl⟩ := I.look
  exact PySem.W.get_value X J (PySem.W.plainGet_of hg).1 (PySem.W.findObj_own hh ha rfl (by rw [hl, hv])) hv' h

theorem get_const {expr : Bool} {a : Value} {Q : Value → Shared → Prop} (X : K.In s.heap) (I : ObjM s.heap x dx C mA) (hg : PySem.W.plainGet K C name = true) (hh : PySem.W.hasDictIn K C = true)
    (ha : PySem.W.findIn K (.ref C) name = some (some a)) (hn : PySem.W.specialIn K a "__get__" = some none) (hc : PySem.W.copiedNames.contains name = false) (hv : mA name = none) (hv' : PySem.W.handedIn a = true)
    (h : Q a { s with toks := s.toks + 1 }) : wpAny (model prog w) A (getAttr (.ref x) name expr) Q E s := by
  obtain ⟨od, J, hl⟩ := I.look
  exact PySem.W.get_value X J (PySem.W.plainGet_of hg).1 (PySem.W.findObj_cls hh ha hn hv' hc (by rw [hl, hv])) hv' h

theorem get_meth {pl : Sem Bool} {Q : Value × List Value → Shared → Prop} (X : K.In s.heap) (I : ObjM s.heap x dx C mA) (hg : PySem.W.plainGet K C name = true)
    (hf : PySem.W.findIn K (.ref C) name = some (some (.ref f))) (ht : PySem.W.isFn K (.ref f) = true) (hv : mA name = none) (h : Q (.ref f, [.ref x]) s) :
    wpAny (model prog w) A (getMethod (.ref x) name pl) Q E s := by
  obtain ⟨od, J, hl⟩ := I.look
  exact PySem.W.method_fn X J (PySem.W.plainGet_of hg).1 (PySem.W.plainGet_of hg).2 hf (beq_iff_eq.mp ht) (by show (PySem.W.lookIn name od).map (·.isSome) = some false; rw [hl, hv]; rfl) h

theorem set_map {ns : List Str} {Q : Unit → Shared → Prop} (X : K.In s.heap) (I : ObjM s.heap x dx C mA)
    (hs : PySem.W.findIn K (.ref C) "__setattr__" = some (some (.builtin "object.__setattr__"))) (hp : PySem.W.plainOver K C = true) (ht : PySem.W.takerIn K C name = some none) (hh : PySem.W.hasDictIn K C = true)
    (hw : PySem.Within mA ns) (hsz : ns.length ≤ sizeLine)
    (h : ∀ h', ObjM h' x dx C (fun y => if y = name then some v else mA y) → Heap.SameBut dx s.heap h' → Q () { s with heap := h', toks := s.toks + 2 }) :
    wpAny (model prog w) A (setAttr (.ref x) name v) Q E s := by
  obtain ⟨od, J, hl⟩ := I.look
  refine PySem.W.set_plain X J hs (PySem.W.osa_open (s := { s with toks := s.toks + 1 }) (r := none) X J hp ht fun b => ?_)
  obtain ⟨cd, hc, hd'⟩ := PySem.W.any_some hh
  have hx : s.heap.get? x = some ⟨.ref C, some dx, .plain, #[]⟩ := I.obj
  refine wpAny_bind (wpAny_pure (wpAny_bind (wpAny_bind (wpAny_loadPart hx (wpAny_bind (PySem.W.Looks.here (s := { s with toks := s.toks + 1 }) (PySem.W.looks_clsIn X hc) ?_))))))
  rw [hd']
  refine wpAny_pure (a := some dx) (wpAny_bind (wpAny_pure (wpAny_bind ?_)))
  refine wpAny_nsSet1 (s := { s with toks := s.toks + 1 }) I.ns fun h' hn2 hs2 => ?_
  obtain ⟨oD, esD, epD, hoD, hdD, hcD⟩ := hn2.count (PySem.Within.cons name v hw)
  refine wpAny_bind (wpAny_lookBehind hoD (by rw [hdD]; exact pastItsLine_dict (Nat.le_trans hcD (by rw [List.length_cons]; omega))) ?_)
  exact wpAny_pure (h _ ⟨(hs2.2 _ (Ne.symm I.ne)).trans I.obj, hn2, I.ne⟩ hs2)

/-- C(..): the dict at the heap's end, the instance behind it; then its __init__ -/
theorem make_map {R : Result → Shared → Prop} {vs : List Value} {kw : List (Str × Value)} (X : K.In s.heap) (hm : PySem.W.makesIn K C = true)
    (hi : PySem.W.findIn K (.ref C) "__init__" = some (some (.ref f))) (hf : PySem.W.typeIn K (.ref f) = some (.type "function"))
    (h : codeAny (model prog w) (A.under (.builtin "type.__call__" ⟨.ref C :: vs, kw⟩)) (.call (.ref f) ⟨.ref (s.heap.objs.size + 1) :: vs, kw⟩) (PySem.W.InitBack (s.heap.objs.size + 1) R)
      { s with heap := (s.heap.push PySem.W.emptyDict).push (PySem.W.instObj C s.heap.objs.size) }) :
    codeAny (model prog w) A (.call (.ref C) ⟨vs, kw⟩) R s := by
  obtain ⟨hh, g, d, t, os⟩ := s
  exact PySem.W.make_core (PySem.W.makes_of X hm) (PySem.W.looks_findIn X hi) (fun self => PySem.W.bind_fn X self hf) (.inl rfl) h
/-- C() where there is no __init__ but object's -/
theorem make_map0 {R : Result → Shared → Prop} (X : K.In s.heap) (hm : PySem.W.makesIn K C = true)
    (hi : PySem.W.findIn K (.ref C) "__init__" = some (some (.builtin "object.__init__")))
    (hb : ∀ self, PySem.W.Looks (model prog w) s.heap (bindSpecial (.builtin "object.__init__") self) (.builtin "object.__init__", [self]))
    (h : codeAny (model prog w) (A.under (.builtin "type.__call__" ⟨[.ref C], []⟩)) (.call (.builtin "object.__init__") ⟨[.ref (s.heap.objs.size + 1)], []⟩) (PySem.W.InitBack (s.heap.objs.size + 1) R)
      { s with heap := (s.heap.push PySem.W.emptyDict).push (PySem.W.instObj C s.heap.objs.size) }) :
    codeAny (model prog w) A (.call (.ref C) ⟨[], []⟩) R s := by
  obtain ⟨hh, g, d, t, os⟩ := s
  exact PySem.W.make_core (PySem.W.makes_of X hm) (PySem.W.looks_findIn X hi) hb (.inr ⟨rfl, rfl⟩) h
end

/-! ### the attributes as a list of pairs -/
def putF (f : Str) (v : V) : List (Str × V) → List (Str × V)
  | [] => [(f, v)]
  | (g, x) :: r => if g = f then (g, v) :: r else (g, x) :: putF f v r
theorem lookup_putF (f g : Str) (v : V) : ∀ fs : List (Str × V), (putF f v fs).lookup g = if g = f then some v else fs.lookup g
  | [] => by
    show List.lookup g [(f, v)] = _
    by_cases h : g = f
    · have hb : (g == f) = true := beq_iff_eq.mpr h
      simp only [List.lookup, hb, if_pos h]
    · have hb : (g == f) = false := beq_eq_false_iff_ne.mpr h
      simp only [List.lookup, hb, if_neg h]
  | (k, x) :: r => by
    have ih := lookup_putF f g v r
    rw [show putF f v ((k, x) :: r) = (if k = f then (k, v) :: r else (k, x) :: putF f v r) from rfl]
    by_cases hk : k = f
    · rw [if_pos hk]
      by_cases h : g = k
      · have hb : (g == k) = true := beq_iff_eq.mpr h
        simp only [List.lookup, hb, if_pos (h.trans hk)]
      · have hb : (g == k) = false := beq_eq_false_iff_ne.mpr h
        simp only [List.lookup, hb, if_neg (fun e : g = f => h (e.trans hk.symm))]
    · rw [if_neg hk]
      by_cases h : g = k
      · have hb : (g == k) = true := beq_iff_eq.mpr h
        simp only [List.lookup, hb, if_neg (fun e : g = f => hk (h.symm.trans e))]
      · have hb : (g == k) = false := beq_eq_false_iff_ne.mpr h
        simp only [List.lookup, hb]
        exact ih
theorem keys_putF (f : Str) (v : V) : ∀ fs : List (Str × V), f ∈ (putF f v fs).map (·.1) ∧ ∀ g, g ∈ fs.map (·.1) → g ∈ (putF f v fs).map (·.1)
  | [] => ⟨by simp [putF], fun g h => by simp at h⟩
  | (k, x) :: r => by
    obtain ⟨i1, i2⟩ := keys_putF f v r
    rw [show putF f v ((k, x) :: r) = (if k = f then (k, v) :: r else (k, x) :: putF f v r) from rfl]
    by_cases hk : k = f
    · rw [if_pos hk]
      subst hk
      exact ⟨by simp, fun g h => by simpa using h⟩
    · rw [if_neg hk]
      refine ⟨?_, fun g h => ?_⟩
      · rw [List.map_cons]
        exact List.mem_cons_of_mem _ i1
      · rw [List.map_cons] at h ⊢
        rcases List.mem_cons.mp h with e | e
        · exact List.mem_cons.mpr (.inl e)
        · exact List.mem_cons_of_mem _ (i2 g e)
theorem length_putF (f : Str) (v : V) : ∀ fs : List (Str × V), (putF f v fs).length ≤ fs.length + 1
  | [] => by simp [putF]
  | (k, x) :: r => by
    have ih := length_putF f v r
    rw [show putF f v ((k, x) :: r) = (if k = f then (k, v) :: r else (k, x) :: putF f v r) from rfl]
    by_cases hk : k = f
    · rw [if_pos hk, List.length_cons, List.length_cons]; omega
    · rw [if_neg hk, List.length_cons, List.length_cons]; omega

theorem RelO.some_of {v : V} {o : Option Value} (r : RelO (some v) o) : ∃ u, o = some u ∧ RelV v u := by
  cases o with
  | none => exact (show False from r).elim
  | some u => exact ⟨u, rfl, r⟩
theorem RelO.none_of {o : Option Value} (r : RelO none o) : o = none := by
  cases o with
  | none => rfl
  | some u => exact (show False from r).elim
theorem handed_of {v : V} {u : Value} (r : RelV v u) : PySem.W.handedIn u = true := by
  cases v with
  | non => cases (show u = Value.none from r); rfl
  | bl b => cases (show u = Value.bool b from r); rfl
  | int i => obtain ⟨t, e⟩ := (show ∃ t, u = Value.int i t from r); cases e; rfl
  | str x => obtain ⟨t, e⟩ := (show ∃ t, u = Value.str x t from r); cases e; rfl
  | byt b => obtain ⟨t, e⟩ := (show ∃ t, u = Value.bytes b t from r); cases e; rfl
  | flt b => obtain ⟨t, e⟩ := (show ∃ t, u = Value.float b t from r); cases e; rfl
  | ref a => cases (show u = Value.ref a from r); rfl
  | ty n => cases (show u = Value.type n from r); rfl

section
variable {P : Program} {w : World} {H H' : Hp} {h h' : Heap} {a C dx : Addr} {fs fs' : List (Str × V)}
theorem ins_get (hok : HOk P w H h) (e : H a = some (.ins C dx fs)) : ∃ mA, ObjM h a dx C mA ∧ (∀ f, RelO (fs.lookup f) (mA f)) ∧ PySem.Within mA (fs.map (·.1)) ∧ fs.length ≤ 1000 ∧ H dx = some (.own a) := by
  obtain ⟨d, z, ne, ob, mA, n, r, q⟩ := (show ObjOk P w H h a (.ins C dx fs) from hok a _ e)
  exact ⟨mA, ⟨ob, n, ne⟩, r, q, z, d⟩
end

/-! ### what of the text a class must have -/
structure Cls (K : PySem.W.Frag) (C : Addr) : Prop where
  pg : PySem.W.plainGet K C Str.empty = true
  hd : PySem.W.hasDictIn K C = true
  po : PySem.W.plainOver K C = true
  sa : PySem.W.findIn K (.ref C) "__setattr__" = some (some (.builtin "object.__setattr__"))
theorem Cls.get {K : PySem.W.Frag} {C : Addr} (c : Cls K C) (f : Str) : PySem.W.plainGet K C f = true := c.pg
/-- no class of it has the name -/
def NoAttr (K : PySem.W.Frag) (C : Addr) (f : Str) : Prop := PySem.W.findIn K (.ref C) f = some none
theorem NoAttr.taker {K : PySem.W.Frag} {C : Addr} {f : Str} (n : NoAttr K C f) : PySem.W.takerIn K C f = some none := by
  unfold PySem.W.takerIn
  rw [show PySem.W.findIn K (.ref C) f = some none from n]
  rfl
/-- a constant of the class -/
structure Con (K : PySem.W.Frag) (C : Addr) (f : Str) (v : V) (u : Value) : Prop where
  at_ : PySem.W.findIn K (.ref C) f = some (some u)
  rel : RelV v u
  get : PySem.W.specialIn K u "__get__" = some none
  cp : PySem.W.copiedNames.contains f = false
/-- a method: a plain def of the class or of one above it -/
structure Meth (K : PySem.W.Frag) (C : Addr) (m : Str) (f : Addr) : Prop where
  at_ : PySem.W.findIn K (.ref C) m = some (some (.ref f))
  fn : PySem.W.isFn K (.ref f) = true
  kp : PySem.W.keepIn K (.ref f) = true

section
variable {X : Cx} {pins : List (Addr × Obj)} {σ : St} {H : Hp} {s : Shared} {a C dx : Addr} {fs : List (Str × V)} {f : Str} {v : V} {A : Around} {E : Value → Shared → Prop}

theorem getattr_ok {b : Bool} {Q : Value → Shared → Prop} (I : Inv X pins σ H s) (e : H a = some (.ins C dx fs)) (c : Cls X.K C) (n : NoAttr X.K C f) (l : fs.lookup f = some v)
    (h : ∀ u s', Inv X pins σ H s' → RelV v u → Q u s') : wpAny (model X.prog X.w) A (getAttr (.ref a) f b) Q E s := by
  obtain ⟨mA, O, r, _, _, _⟩ := ins_get I.hok e
  obtain ⟨u, hu, ru⟩ := RelO.some_of (v := v) (o := mA f) (by rw [← l]; exact r f)
  exact get_map I.kIn O (c.get f) c.hd n hu (handed_of ru) (h u _ (I.tok _) ru)

theorem getcon_ok {b : Bool} {u : Value} {Q : Value → Shared → Prop} (I : Inv X pins σ H s) (e : H a = some (.ins C dx fs)) (c : Cls X.K C) (k : Con X.K C f v u) (l : fs.lookup f = none)
    (h : ∀ s', Inv X pins σ H s' → Q u s') : wpAny (model X.prog X.w) A (getAttr (.ref a) f b) Q E s := by
  obtain ⟨mA, O, r, _, _, _⟩ := ins_get I.hok e
  have hn : mA f = none := RelO.none_of (by rw [← l]; exact r f)
  exact get_const I.kIn O (c.get f) c.hd k.at_ k.get k.cp hn (handed_of k.rel) (h _ (I.tok _))

theorem getmeth_ok {m : Str} {g : Addr} {pl : Sem Bool} {Q : Value × List Value → Shared → Prop} (I : Inv X pins σ H s) (e : H a = some (.ins C dx fs)) (c : Cls X.K C) (k : Meth X.K C m g) (l : fs.lookup m = none)
    (h : Q (.ref g, [.ref a]) s) : wpAny (model X.prog X.w) A (getMethod (.ref a) m pl) Q E s := by
  obtain ⟨mA, O, r, _, _, _⟩ := ins_get I.hok e
  have hn : mA m = none := RelO.none_of (by rw [← l]; exact r m)
  exact get_meth I.kIn O (c.get m) k.at_ k.fn hn h

theorem setattr_ok {y : V} {u : Value} {Q : Unit → Shared → Prop} (I : Inv X pins σ H s) (e : H a = some (.ins C dx fs)) (c : Cls X.K C) (n : NoAttr X.K C f) (hl : fs.length < 1000) (ry : RelV y u)
    (h : ∀ s', Inv X pins σ (upd H a (.ins C dx (putF f y fs))) s' → Q () s') : wpAny (model X.prog X.w) A (setAttr (.ref a) f u) Q E s := by
  obtain ⟨mA, O, r, wi, _, ho⟩ := ins_get I.hok e
  have hz : (fs.map (·.1)).length ≤ sizeLine := by rw [List.length_map, sizeLine_eq]; omega
  refine set_map I.kIn O c.sa c.po n.taker c.hd wi hz fun h' O' sb => h _ ?_
  have hd : ∃ o, h'.get? dx = some o := let ⟨o, _, _, e', _⟩ := O'.ns; ⟨o, e'⟩
  refine I.write (x := a) (e := dx) (by rw [e]; exact True.intro) (.inr ho) (fun b q hb z => (sb.2 b hb).trans z) hd ?_
  refine ⟨by rw [upd_ne O.ne]; exact ho, ?_, O.ne, O'.obj, _, O'.ns, fun g => ?_, fun g hg => ?_⟩
  · have := length_putF f y fs; omega
  · show RelO ((putF f y fs).lookup g) (if g = f then some u else mA g)
    rw [lookup_putF]
    by_cases q : g = f
    · rw [if_pos q, if_pos q]; exact ry
    · rw [if_neg q, if_neg q]; exact r g
  · by_cases q : g = f
    · rw [q]; exact (keys_putF f y fs).1
    · refine (keys_putF f y fs).2 g (wi g fun z => hg ?_)
      show (if g = f then some u else mA g) = none
      rw [if_neg q]; exact z

/-- a new instance, tracked, without attributes -/
theorem Inv.made (I : Inv X pins σ H s) : Inv X pins σ (upd (upd H s.heap.objs.size (.own (s.heap.objs.size + 1))) (s.heap.objs.size + 1) (.ins C s.heap.objs.size []))
    { s with heap := (s.heap.push PySem.W.emptyDict).push (PySem.W.instObj C s.heap.objs.size) } := by
  have e1 : (s.heap.push PySem.W.emptyDict).get? s.heap.objs.size = some PySem.W.emptyDict := Heap.get?_push_size s.heap rfl
  have e2 : ((s.heap.push PySem.W.emptyDict).push (PySem.W.instObj C s.heap.objs.size)).get? (s.heap.objs.size + 1) = some (PySem.W.instObj C s.heap.objs.size) := by
    have := Heap.get?_push_size (s.heap.push PySem.W.emptyDict) (o := PySem.W.instObj C s.heap.objs.size) rfl
    rwa [Heap.size_push] at this
  have e3 : (s.heap.push PySem.W.emptyDict).Ns s.heap.objs.size (fun _ => none) := ⟨PySem.W.emptyDict, #[], _, e1, rfl, (fun e he => absurd he (by simp)), fun _ => rfl⟩
  have I1 := I.laid (a := s.heap.objs.size) (o := .own (s.heap.objs.size + 1)) (h' := s.heap.push PySem.W.emptyDict) (t' := s.toks) (fun b u q => Heap.get?_push_of_some _ q) (Nat.le_refl _) ⟨_, e1⟩
  refine I1.laid (a := s.heap.objs.size + 1) (o := .ins C s.heap.objs.size []) (t' := s.toks) (fun b u q => Heap.get?_push_of_some _ q) (Nat.le_of_eq (Heap.size_push _ _)) ?_
  have ne : s.heap.objs.size ≠ s.heap.objs.size + 1 := Nat.ne_of_lt (Nat.lt_succ_self _)
  refine ⟨by rw [upd_ne ne, upd_same], Nat.zero_le _, ne, e2, fun _ => none, (Heap.Ns1.of_empty e3).at fun o q => Heap.get?_push_of_some _ q, fun _ => True.intro, fun y hy => absurd rfl hy⟩

/-- e.f where nothing but the object is asked: through attributeBase (super) and the last hold -/
theorem attr_of {prog : Program} {w : World} {env : Env} {e : Expr} {f : Str} {pos : Pos} {s : Shared} {Q : Value → Shared → Prop} (hb : attributeBase e f env (eval e env) = eval e env)
    (h : wpAny (model prog w) A (eval e env) (fun o s₁ => wpAny (model prog w) A (getAttr o f true) Q E s₁) E s) : wpAny (model prog w) A (eval (.Attribute e f pos) env) Q E s :=
  Attribute_any_ h (by rw [arm_eval_Attribute, hb])
end

/-! ### readings and rules -/
/-- e.f, an attribute of the instance -/
def tFld (K : PySem.W.Frag) (ta : TE) (f : Str) : TE := fun σ H Q => ta σ H fun x H1 => ∃ a C dx fs v, x = .ref a ∧ H1 a = some (.ins C dx fs) ∧ Cls K C ∧ NoAttr K C f ∧ fs.lookup f = some v ∧ Q v H1
/-- e.f, a constant of the class -/
def tCon (K : PySem.W.Frag) (ta : TE) (f : Str) : TE := fun σ H Q => ta σ H fun x H1 => ∃ a C dx fs v u, x = .ref a ∧ H1 a = some (.ins C dx fs) ∧ Cls K C ∧ Con K C f v u ∧ fs.lookup f = none ∧ Q v H1
/-- e.f = value -/
def sFld (K : PySem.W.Frag) (ta tv : TE) (f : Str) : TS := fun D σ H => tv σ H fun y H1 => ta σ H1 fun x H2 => ∃ a C dx fs, x = .ref a ∧ H2 a = some (.ins C dx fs) ∧ Cls K C ∧ NoAttr K C f ∧ fs.length < 1000 ∧
  D.nx σ (upd H2 a (.ins C dx (putF f y fs)))
/-- an augmented operator on two values -/
def InOp (X : Cx) (op : Operator) (rd : V → V → Hp → VK → Prop) : Prop :=
  ∀ (pins : List (Addr × Obj)) (s : Shared) (σ : St) (H : Hp) (x y : V) (u v : Value) (Q : VK), Inv X pins σ H s → RelV x u → RelV y v → rd x y H Q → wpAny (model X.prog X.w) X.A (inplaceOp op u v) (EP X pins σ Q) X.xe s
/-- e.f op= value -/
def sFldAug (K : PySem.W.Frag) (ta tv : TE) (rd : V → V → Hp → VK → Prop) (f : Str) : TS := fun D σ H => ta σ H fun x H1 => ∃ a C dx fs v, x = .ref a ∧ H1 a = some (.ins C dx fs) ∧ Cls K C ∧ NoAttr K C f ∧ fs.lookup f = some v ∧
  tv σ H1 fun y H2 => rd v y H2 fun z H3 => ∃ dx' fs', H3 a = some (.ins C dx' fs') ∧ fs'.length < 1000 ∧ D.nx σ (upd H3 a (.ins C dx' (putF f z fs')))

section
variable {X : Cx} {o e value : Expr} {f : Str} {pos pos' tpos : Pos} {ta tv : TE}
theorem pe_fld (he : PE X e ta) (hb : attributeBase e f X.env (eval e X.env) = eval e X.env) : PE X (.Attribute e f pos) (tFld X.K ta f) := by
  intro pins s σ H Q I h
  refine attr_of hb (thn (he pins s σ H _ I h) fun u s1 ⟨x, H1, I1, rx, a, C, dx, fs, v, ex, ea, c, n, l, q⟩ => ?_)
  subst ex
  obtain rfl : u = Value.ref a := rx
  exact getattr_ok I1 ea c n l fun u' s2 I2 ru => ⟨v, H1, I2, ru, q⟩
theorem pe_con (he : PE X e ta) (hb : attributeBase e f X.env (eval e X.env) = eval e X.env) : PE X (.Attribute e f pos) (tCon X.K ta f) := by
  intro pins s σ H Q I h
  refine attr_of hb (thn (he pins s σ H _ I h) fun u s1 ⟨x, H1, I1, rx, a, C, dx, fs, v, u0, ex, ea, c, k, l, q⟩ => ?_)
  subst ex
  obtain rfl : u = Value.ref a := rx
  exact getcon_ok I1 ea c k l fun s2 I2 => ⟨v, H1, I2, k.rel, q⟩
theorem ps_fld (ha : PE X o ta) (hv : PE X value tv) (hs : swapsWith value (some (.Attribute o f pos')) pos.line X.env = pure false) : PS X (.Assign [.Attribute o f pos'] value pos) (sFld X.K ta tv f) := by
  intro pins s σ H D I h
  refine plainObj_wpAny_Assign_Attribute (thn (hv pins s σ H _ I h) fun u s1 ⟨y, H1, I1, ry, q⟩ => thn (ha pins s1 σ H1 _ I1 q) fun ov s2 ⟨x, H2, I2, rx, a, C, dx, fs, ex, ea, c, n, l, q2⟩ => ?_) hs
  subst ex
  obtain rfl : ov = Value.ref a := rx
  exact setattr_ok I2 ea c n l ry fun s3 I3 => ⟨σ, _, I3, q2⟩
theorem ps_fldaug {op : Operator} {rd : V → V → Hp → VK → Prop} (ha : PE X o ta) (hv : PE X value tv) (hop : InOp X op rd) : PS X (.AugAssign (.Attribute o f tpos) op value pos) (sFldAug X.K ta tv rd f) := by
  intro pins s σ H D I h
  refine wpAny_AugAssign_AttributeAny (thn (ha pins s σ H _ I h) fun ov s1 ⟨x, H1, I1, rx, a, C, dx, fs, v, ex, ea, c, n, l, q⟩ => ?_)
  subst ex
  obtain rfl : ov = Value.ref a := rx
  refine getattr_ok I1 ea c n l fun u s2 I2 ru => thn (hv pins s2 σ H1 _ I2 q) fun w3 s3 ⟨y, H2, I3, ry, q3⟩ => thn (hop pins s3 σ H2 v y u w3 _ I3 ru ry q3) fun w4 s4 ⟨z, H3, I4, rz, dx', fs', ea', l', q4⟩ => ?_
  exact setattr_ok I4 ea' c n l' rz fun s5 I5 => ⟨σ, _, I5, q4⟩
def rAdd : V → V → Hp → VK → Prop := fun x y H Q => ∃ i j, x = .int i ∧ y = .int j ∧ Q (.int (i + j)) H
def rSub : V → V → Hp → VK → Prop := fun x y H Q => ∃ i j, x = .int i ∧ y = .int j ∧ Q (.int (i - j)) H
theorem in_add : InOp X .Add rAdd := by
  rintro pins s σ H x y u v Q I rx ry ⟨i, j, rfl, rfl, q⟩
  obtain ⟨t, rfl⟩ := (show ∃ t, u = Value.int i t from rx)
  obtain ⟨t', rfl⟩ := (show ∃ t', v = Value.int j t' from ry)
  exact PyProof.Rows.iadd_int ⟨.int (i + j), H, I.tok _, ⟨_, rfl⟩, q⟩
theorem in_sub : InOp X .Sub rSub := by
  rintro pins s σ H x y u v Q I rx ry ⟨i, j, rfl, rfl, q⟩
  obtain ⟨t, rfl⟩ := (show ∃ t, u = Value.int i t from rx)
  obtain ⟨t', rfl⟩ := (show ∃ t', v = Value.int j t' from ry)
  exact PyProof.Rows.isub_int ⟨.int (i - j), H, I.tok _, ⟨_, rfl⟩, q⟩

/-- what is between an instance and its method: the tree of a method call -/
theorem methcall_of {pl : Sem Bool} {m : Str} {apos : Pos} {args : List Expr} {pins : List (Addr × Obj)} {s : Shared} {σ : St} {H : Hp} {Q : Value → Shared → Prop} {te : TE} (he : PE X e te) (I : Inv X pins σ H s)
    (h : te σ H fun x H1 => ∃ a C dx fs g, x = .ref a ∧ H1 a = some (.ins C dx fs) ∧ Cls X.K C ∧ Meth X.K C m g ∧ fs.lookup m = none ∧
      ∀ s1, Inv X pins σ H1 s1 → wpAny (model X.prog X.w) X.A (callWith pos (.ref g) [.ref a] (backTo pos (starEach args X.env)) (backToKw pos (keywordEach [] X.env))) Q X.xe s1)
    (ht : eval (.Call (.Attribute e m apos) args [] pos) X.env = (do
      let ov ← eval e X.env
      standAt apos.atName
      let (f, first) ← holding [ov] (getMethod ov m pl)
      callWith pos f first (backTo pos (starEach args X.env)) (backToKw pos (keywordEach [] X.env)))) :
    wpAny (model X.prog X.w) X.A (eval (.Call (.Attribute e m apos) args [] pos) X.env) Q X.xe s := by
  refine PySem.W.methodCall_KW (pl := pl) (thn (he pins s σ H _ I h) fun u s1 ⟨x, H1, I1, rx, a, C, dx, fs, g, ex, ea, c, k, l, q⟩ => ?_) ht
  subst ex
  obtain rfl : u = Value.ref a := rx
  exact getmeth_ok I1 ea c k l (q s1 I1)
end

/-! ### isinstance -/
section
variable {X : Cx} {pins : List (Addr × Obj)} {σ : St} {H : Hp} {s : Shared} {A : Around} {E : Value → Shared → Prop} {Q : Value → Shared → Prop} {c : Value} {b : Bool}
/-- the type of a value, as the fragment's deciders take it; for an instance its class -/
inductive TyOf (K : PySem.W.Frag) (H : Hp) : V → Value → Prop where
  | non : TyOf K H .non (.type "NoneType")
  | bl (x : Bool) : TyOf K H (.bl x) (.type "bool")
  | int (i : Int) : TyOf K H (.int i) (.type "int")
  | str (x : Str) : TyOf K H (.str x) (.type "str")
  | flt (x : UInt64) : TyOf K H (.flt x) (.type "float")
  | lst {a : Addr} {xs : List V} (e : H a = some (.lst xs)) : TyOf K H (.ref a) (.type "list")
  | frz {a : Addr} {o : Obj} {xs : List V} (e : H a = some (.frz o (.lst xs))) : TyOf K H (.ref a) (.type "list")
  | tup {a : Addr} {xs : List V} (e : H a = some (.tup xs)) : TyOf K H (.ref a) (.type "tuple")
  | dK {a : Addr} {kvs : List (Key × V)} (e : H a = some (.dK kvs)) : TyOf K H (.ref a) (.type "dict")
  | dT {a : Addr} {kvs : List (List Key × V)} (e : H a = some (.dT kvs)) : TyOf K H (.ref a) (.type "dict")
  | ins {a C dx : Addr} {fs : List (Str × V)} (e : H a = some (.ins C dx fs)) (cl : Cls K C) (ha : PySem.W.findIn K (.ref C) "__class__" = some (some (.builtin "object.__class__")))
      (hn : PySem.W.specialIn K (.builtin "object.__class__") "__get__" = some (some (.builtin "getset_descriptor.__get__"))) (htk : PySem.W.takesIn K (.builtin "object.__class__") = some true)
      (hm : PySem.W.mroIn K C (.type "object") = some true) : TyOf K H (.ref a) (.ref C)
/-- isinstance(x, c) for one class c, a built-in or an own one: kitOne's answer -/
theorem isinst_ok {x : V} {u t : Value} (I : Inv X pins σ H s) (rx : RelV x u) (ty : TyOf X.K H x t) (e : PySem.W.kitOne X.K t c = some b) (h : ∀ tk, Q (.bool b) { s with toks := tk }) :
    wpAny (model X.prog X.w) A (call (.builtin "isinstance") [u, c]) Q E s := by
  cases ty with
  | non => cases (show u = Value.none from rx); exact PySem.W.kia_one PySem.W.kitx_none I.kIn True.intro e (fun z => nomatch z) h
  | bl y => cases (show u = Value.bool y from rx); exact PySem.W.kia_one PySem.W.kitx_bool I.kIn True.intro e (fun z => nomatch z) h
  | int i => obtain ⟨t, q⟩ := (show ∃ t, u = Value.int i t from rx); cases q; exact PySem.W.kia_one PySem.W.kitx_int I.kIn True.intro e (fun z => nomatch z) h
  | str y => obtain ⟨t, q⟩ := (show ∃ t, u = Value.str y t from rx); cases q; exact PySem.W.kia_one PySem.W.kitx_str I.kIn True.intro e (fun z => nomatch z) h
  | flt y => obtain ⟨t, q⟩ := (show ∃ t, u = Value.float y t from rx); cases q; exact PySem.W.kia_one PySem.W.kitx_float I.kIn True.intro e (fun z => nomatch z) h
  | @lst a xs ea =>
    cases (show u = Value.ref a from rx)
    obtain ⟨_, _, n, _, h1⟩ := (show ObjOk X.prog X.w H s.heap a (.lst xs) from I.hok a _ ea)
    exact PySem.W.kia_one PySem.W.kitx_list I.kIn ⟨_, h1, rfl⟩ e (fun z => nomatch z) h
  | @frz a ob xs ea =>
    cases (show u = Value.ref a from rx)
    obtain ⟨_, _, _, n, _, h1⟩ := (show ObjOk X.prog X.w H s.heap a (.frz ob (.lst xs)) from I.hok a _ ea)
    exact PySem.W.kia_one PySem.W.kitx_list I.kIn ⟨_, h1, rfl⟩ e (fun z => nomatch z) h
  | @tup a xs ea =>
    cases (show u = Value.ref a from rx)
    obtain ⟨_, _, _, p⟩ := (show ObjOk X.prog X.w H s.heap a (.tup xs) from I.hok a _ ea)
    obtain ⟨o, h1, h2, _⟩ := p
    exact PySem.W.kia_one PySem.W.kitx_tuple I.kIn ⟨o, h1, h2⟩ e (fun z => nomatch z) h
  | @dK a kvs ea =>
    cases (show u = Value.ref a from rx)
    obtain ⟨_, _, vs, _, p⟩ := (show ObjOk X.prog X.w H s.heap a (.dK kvs) from I.hok a _ ea)
    obtain ⟨o, es, ep, h1, h2, _⟩ := p
    exact PySem.W.kia_one PySem.W.kitx_dict I.kIn ⟨o, h1, h2.1⟩ e (fun z => nomatch z) h
  | @dT a kvs ea =>
    cases (show u = Value.ref a from rx)
    obtain ⟨_, _, xs, _, o, es, ep, h1, h2, _⟩ := (show ObjOk X.prog X.w H s.heap a (.dT kvs) from I.hok a _ ea)
    exact PySem.W.kia_one PySem.W.kitx_dict I.kIn ⟨o, h1, h2.1⟩ e (fun z => nomatch z) h
  | @ins a C dx fs ea cl ha hn htk hm =>
    cases (show u = Value.ref a from rx)
    obtain ⟨mA, O, _⟩ := ins_get I.hok ea
    obtain ⟨od, J, _⟩ := O.look
    exact PySem.W.kia_one (PySem.W.kitx_own (cl.get _) cl.hd ha hn htk hm) I.kIn J e (fun z => nomatch z) h
end
end L2

namespace L2
open PySem PySem.Spec PyProof.Rows

/-! ### room -/
structure Room (k : Nat) (A : Around) : Prop where
  hd : A.handled = none
  dp : A.depth + 3 * k + 5 < recursionLimit
  un : A.units + 16 * k + 200 < cLine
theorem Room.mono {j k : Nat} {A : Around} (r : Room k A) (h : j ≤ k) : Room j A := ⟨r.hd, by have := r.dp; omega, by have := r.un; omega⟩
theorem Room.deeper {k : Nat} {A : Around} (r : Room (k + 1) A) (env : Env) : Room k (A.deeper env) :=
  ⟨r.hd, by have := r.dp; show A.depth + 1 + 3 * k + 5 < _; omega, by have := r.un; show A.units + 3 + 16 * k + 200 < _; omega⟩
theorem Room.in1 {k : Nat} {A : Around} (r : Room (k + 1) A) : Room k A.in1 :=
  ⟨r.hd, by have := r.dp; show A.depth + 3 * k + 5 < _; omega, by have := r.un; show A.units + 1 + 16 * k + 200 < _; omega⟩
theorem make_depth {A : Around} {C : Addr} {us : List Value} {kw : List (Str × Value)} : (A.under (.builtin "type.__call__" ⟨.ref C :: us, kw⟩)).depth = A.depth + 1 := by
  first | rfl | simp [Around.under, Code.weight, Code.isCreation, Code.isGuard, Code.isCaller, Code.frames, Code.isFrame, guardIds]
theorem make_units {A : Around} {C : Addr} {us : List Value} {kw : List (Str × Value)} : (A.under (.builtin "type.__call__" ⟨.ref C :: us, kw⟩)).units = A.units + 1 := by
  first | rfl | simp [Around.under, Code.cUnits, Code.frames, Code.isFrame]
theorem Room.make {k : Nat} {A : Around} (r : Room (k + 1) A) (C : Addr) (us : List Value) (kw : List (Str × Value)) : Room k (A.under (.builtin "type.__call__" ⟨.ref C :: us, kw⟩)) :=
  ⟨r.hd, by have := r.dp; rw [make_depth]; omega, by have := r.un; rw [make_units]; omega⟩
theorem Room.depth {k : Nat} {A : Around} (r : Room k A) : A.depth < recursionLimit := by have := r.dp; omega
theorem Room.units {k : Nat} {A : Around} (r : Room k A) : A.units + 64 < cLine := by have := r.un; omega
theorem Room.units0 {k : Nat} {A : Around} (r : Room k A) : A.units < cLine := by have := r.un; omega

/-! ### argument lists and displays -/
def tNil : TA := fun _ H Q => Q [] H
def tCons (ta : TE) (tr : TA) : TA := fun σ H Q => ta σ H fun x H1 => tr σ H1 fun xs H2 => Q (x :: xs) H2
section
variable {X : Cx} {e : Expr} {es : List Expr} {te : TE} {t : TA} {pos : Pos}
theorem pa_nil : PA X [] tNil := fun _ _ _ _ H Q I h => Calls.spliced_nil ⟨[], H, I, .nil, h⟩
theorem pa_cons (ha : PE X e te) (hr : PA X es t) (hs : starEach (e :: es) X.env = (false, eval e X.env) :: starEach es X.env := by rfl) : PA X (e :: es) (tCons te t) := by
  intro pos pins s σ H Q I h
  rw [hs]
  show wpAny _ _ (spliced ((false, eval e X.env) :: backTo pos (starEach es X.env))) _ _ s
  refine Calls.spliced_cons (thn (ha pins s σ H _ I h) fun u s1 ⟨x, H1, I1, r1, q1⟩ => ?_)
  exact thn (hr pos pins s1 σ H1 _ I1 q1) fun us s2 ⟨xs, H2, I2, r2, q2⟩ => ⟨x :: xs, H2, I2, .cons r1 r2, q2⟩

/-- a tuple, a list of written items -/
def tTup (t : TA) : TE := fun σ H Q => t σ H fun xs H1 => xs.length ≤ sizeLine ∧ ∀ p, H1 p = none → Q (.ref p) (upd H1 p (.tup xs))
def tLst (t : TA) : TE := fun σ H Q => t σ H fun xs H1 => xs.length ≤ sizeLine ∧ ∀ p, H1 p = none → Q (.ref p) (upd H1 p (.lst xs))
theorem pe_tup {x1} (h : PA X es t) : PE X (.Tuple es x1 pos) (tTup t) := by
  intro pins s σ H Q I hq
  refine wpAny_Tuple_spliced (thn (h pos pins s σ H _ I hq) fun us s1 ⟨xs, H1, I1, r, z, q⟩ => ⟨by rw [← r.length]; exact z, ?_⟩)
  have hf : H1 s1.heap.objs.size = none := I1.hok.fresh (Nat.le_refl _)
  refine ⟨.ref s1.heap.objs.size, upd H1 s1.heap.objs.size (.tup xs), I1.laid (t' := s1.toks) (fun b u e => Heap.get?_push_of_some _ e) (Nat.le_refl _) ?_, rfl, q _ hf⟩
  exact ⟨z, us, r, ⟨_, Heap.get?_push_size _ rfl, rfl, _, rfl⟩⟩
theorem pe_lst (h : PA X es t) : PE X (.List es pos) (tLst t) := by
  intro pins s σ H Q I hq
  refine wpAny_List_spliced (thn (h pos pins s σ H _ I hq) fun us s1 ⟨xs, H1, I1, r, z, q⟩ => ⟨by rw [← r.length]; exact z, ?_⟩)
  have hf : H1 s1.heap.objs.size = none := I1.hok.fresh (Nat.le_refl _)
  refine ⟨.ref s1.heap.objs.size, upd H1 s1.heap.objs.size (.lst xs), I1.laid (t' := s1.toks) (fun b u e => Heap.get?_push_of_some _ e) (Nat.le_refl _) ?_, rfl, q _ hf⟩
  exact ⟨z, us, 0, r, Heap.get?_push_size _ rfl⟩
end

/-! ### what a def promises -/
/-- a def's promise: the bound arguments in the parameters' order, the heap, the wanted end, the wanted exception -/
abbrev Sp := List V → Hp → VK → XK → Prop
/-- how an exception lies behind a call (file 08 gives it): the callers' frames, abstract heap and state ahead of the call, the wish, the exception, the state -/
abbrev CXT := List Env → Hp → Shared → XK → Value → Shared → Prop

/-- the state at a call -/
structure Env0 (P : Program) (w : World) (K : PySem.W.Frag) (mg : Str → Option Value) (base : Heap) (A : Around) (outer : List Env) (s : Shared) (H : Hp) : Prop where
  frames : A.frames = some outer
  mod : Mod K mg base
  bs : ∀ b o, base.get? b = some o → s.heap.get? b = some o ∧ H b = none
  bsz : base.objs.size ≤ s.heap.objs.size
  funs : s.heap.FunFrames base outer
  frf : ∀ b ∈ frs outer, H b = none
  hok : HOk P w H s.heap
  bare : AllBare s.gens
/-- a call's end -/
def CE (outer : List Env) (P : Program) (w : World) (H : Hp) (s : Shared) (Q : VK) (u : Value) (s' : Shared) : Prop :=
  ∃ v H', s'.os = s.os ∧ AllBare s'.gens ∧ Un (frs outer) [] H H' s.heap s'.heap ∧ HOk P w H' s'.heap ∧ RelV v u ∧ Q v H'
def CR (CX : CXT) (outer : List Env) (P : Program) (w : World) (H : Hp) (s : Shared) (Q : VK) (E : XK) (r : Result) (s' : Shared) : Prop :=
  match r with
  | .ok (.ret u) => CE outer P w H s Q u s'
  | .ok _ => False
  | .error e => CX outer H s E e s'
structure FnOk (P : Program) (w : World) (K : PySem.W.Frag) (mg : Str → Option Value) (base : Heap) (CX : CXT) (k : Nat) (f : Addr) (fd : FuncData) (ps : List Str) (sp : Sp) : Prop where
  len : ∀ vs H Q E, sp vs H Q E → vs.length = ps.length
  run : ∀ (A : Around) (outer : List Env) (s : Shared) (H : Hp) (args : Args) (us : List Value) (vs : List V) (Q : VK) (E : XK), Room k A → Env0 P w K mg base A outer s H → BindsTo s fd args (ps.zip us) → Vals vs us → sp vs H Q E →
    codeAny (model P w) A (.call (.ref f) args) (CR CX outer P w H s Q E) s
theorem FnOk.mono {P : Program} {w : World} {K : PySem.W.Frag} {mg : Str → Option Value} {base : Heap} {CX : CXT} {j k : Nat} {f : Addr} {fd : FuncData} {ps : List Str} {sp : Sp} (F : FnOk P w K mg base CX j f fd ps sp) (h : j ≤ k) :
    FnOk P w K mg base CX k f fd ps sp := ⟨F.len, fun A outer s H args us vs Q E hr => F.run A outer s H args us vs Q E (hr.mono h)⟩
/-- a weaker promise -/
theorem FnOk.imp {P : Program} {w : World} {K : PySem.W.Frag} {mg : Str → Option Value} {base : Heap} {CX : CXT} {k : Nat} {f : Addr} {fd : FuncData} {ps : List Str} {sp sp' : Sp} (F : FnOk P w K mg base CX k f fd ps sp)
    (h : ∀ vs H Q E, sp' vs H Q E → sp vs H Q E) : FnOk P w K mg base CX k f fd ps sp' :=
  ⟨fun vs H Q E q => F.len vs H Q E (h _ _ _ _ q), fun A outer s H args us vs Q E hr he hb hv hs => F.run A outer s H args us vs Q E hr he hb hv (h _ _ _ _ hs)⟩

theorem Env0.make {P : Program} {w : World} {K : PySem.W.Frag} {mg : Str → Option Value} {base : Heap} {A : Around} {outer : List Env} {s : Shared} {H : Hp} (e : Env0 P w K mg base A outer s H) (C : Addr) (us : List Value) (kw : List (Str × Value)) :
    Env0 P w K mg base (A.under (.builtin "type.__call__" ⟨.ref C :: us, kw⟩)) outer s H := ⟨by first | exact e.frames | (simpa [Around.under, Code.envs, Code.isFrame, pushEnvs] using e.frames), e.mod, e.bs, e.bsz, e.funs, e.frf, e.hok, e.bare⟩
theorem Env0.in1 {P : Program} {w : World} {K : PySem.W.Frag} {mg : Str → Option Value} {base : Heap} {A : Around} {outer : List Env} {s : Shared} {H : Hp} (e : Env0 P w K mg base A outer s H) :
    Env0 P w K mg base A.in1 outer s H := ⟨e.frames, e.mod, e.bs, e.bsz, e.funs, e.frf, e.hok, e.bare⟩

section
variable {X : Cx} {pins : List (Addr × Obj)} {σ : St} {H : Hp} {s s' : Shared}
/-- from a body: what a callee wants -/
theorem Inv.env0 (I : Inv X pins σ H s) : Env0 X.prog X.w X.K X.mg X.base X.A X.stack s H :=
  ⟨I.ok.frames, I.ok.mod, I.bs, Nat.le_trans I.ok.bsz I.sz, I.stack, I.stkFree, I.hok, I.bare⟩
/-- behind a call -/
theorem Inv.after {Q : VK} {u : Value} (I : Inv X pins σ H s) (h : CE X.stack X.prog X.w H s Q u s') : EP X pins σ Q u s' := by
  obtain ⟨v, H', os, bare, un, hok, r, q⟩ := h
  obtain ⟨hh, g, d, t, os'⟩ := s'
  obtain rfl : os' = s.os := os
  exact ⟨v, H', I.call (h' := hh) (g' := g) (d' := d) (t' := t) (ch := []) un hok bare (fun b z => absurd z (by simp)), r, q⟩
end

/-! ### calls -/
/-- f(..): the written arguments, then the defaults dvs; E: what is wanted of an exception -/
def tCall (sp : Sp) (dvs : List V) (E : XK) (t : TA) : TE := fun σ H Q => t σ H fun vs H1 => sp (vs ++ dvs) H1 Q E
/-- o.m(..) of an instance of the class at C -/
def tMeth (C : Addr) (m : Str) (sp : Sp) (dvs : List V) (E : XK) (ta : TE) (t : TA) : TE := fun σ H Q => ta σ H fun x H1 => ∃ a dx fs, x = .ref a ∧ H1 a = some (.ins C dx fs) ∧ fs.lookup m = none ∧
  t σ H1 fun vs H2 => sp (x :: (vs ++ dvs)) H2 Q E
/-- C(..): a new instance and its dict, then __init__ -/
def tMake (C : Addr) (sp : Sp) (dvs : List V) (E : XK) (t : TA) : TE := fun σ H Q => t σ H fun vs H1 => ∀ x dx, H1 x = none → H1 dx = none → dx ≠ x →
  sp (.ref x :: (vs ++ dvs)) (upd (upd H1 dx (.own x)) x (.ins C dx [])) (fun v H2 => v = .non ∧ Q (.ref x) H2) E

/-- how the parameters are bound: us the positional arguments, kw the keywords' values by name, ds the defaults that fill up -/
def Binds (K : PySem.W.Frag) (fd : FuncData) (ps : List Str) (ds : List Value) : Prop :=
  ∀ (s : Shared) (us : List Value), K.In s.heap → (us ++ ds).length = ps.length → BindsTo s fd ⟨us, []⟩ (ps.zip (us ++ ds))
/-- every parameter is given -/
theorem Binds.all {K : PySem.W.Frag} {fd : FuncData} {ps : List Str} (h : ∀ us : List Value, us.length = ps.length → bindArgs fd ⟨us, []⟩ = pure (ps.zip us)) : Binds K fd ps [] := fun s us _ hl => by
  rw [List.append_nil] at hl ⊢
  exact .of_eq (h us hl)

/-- an exception of a callee reaches what this body wants of exceptions -/
def Passes (CX : CXT) (X : Cx) (E : XK) : Prop := ∀ (pins : List (Addr × Obj)) (σ : St) (H : Hp) (s : Shared) (e : Value) (s' : Shared), Inv X pins σ H s → CX X.stack H s E e s' → X.xe e s'

section
variable {X : Cx} {CX : CXT} {k : Nat} {f C : Addr} {fd : FuncData} {ps : List Str} {sp : Sp} {dvs : List V} {ds : List Value} {E : XK} {x m : Str} {p pos apos : Pos} {e o : Expr} {es : List Expr} {ta : TE} {t : TA}

/-- the callee runs -/
theorem run_fn {pins : List (Addr × Obj)} {σ : St} {H : Hp} {s : Shared} {Q : VK} {us : List Value} {vs : List V} (F : FnOk X.prog X.w X.K X.mg X.base CX k f fd ps sp) (hr : Room k X.A) (hb : Binds X.K fd ps ds) (hd : Vals dvs ds) (hx : Passes CX X E)
    (I : Inv X pins σ H s) (r : Vals vs us) (h : sp (vs ++ dvs) H Q E) : wpAny (model X.prog X.w) X.A (call (.ref f) us) (EP X pins σ Q) X.xe s := by
  have r2 : Vals (vs ++ dvs) (us ++ ds) := r.append hd
  have hl : (us ++ ds).length = ps.length := by rw [← r2.length]; exact F.len _ _ _ _ h
  refine wpAny_call (codeAny_mono (F.run X.A X.stack s H ⟨us, []⟩ (us ++ ds) (vs ++ dvs) Q E hr I.env0 (hb s us I.kIn hl) r2 h) fun r s' hq => ?_)
  cases r with
  | error e => exact hx pins σ H s e s' I hq
  | ok fl =>
    cases fl with
    | ret u => exact I.after hq
    | next => exact False.elim hq
    | brk => exact False.elim hq
    | cont => exact False.elim hq

theorem pe_call (F : FnOk X.prog X.w X.K X.mg X.base CX k f fd ps sp) (hr : Room k X.A) (hg : Gl X x) (hm : X.mg x = some (.ref f)) (hk : PySem.W.keepIn X.K (.ref f) = true) (hb : Binds X.K fd ps ds) (hd : Vals dvs ds) (hx : Passes CX X E)
    (ha : PA X (e :: es) t) (hdb : (x == ("__debug__" : Str)) = false := by decide) (he : starEach (e :: es) X.env = (false, eval e X.env) :: starEach es X.env := by rfl) (hpl : (backTo pos (starEach es X.env)).any (·.1) = false := by rfl) :
    PE X (.Call (.Name x p) (e :: es) [] pos) (tCall sp dvs E t) := by
  intro pins s σ H Q I h
  refine wpAny_Call_Name_kw (ld_glob I hg hm ?_ hdb)
  refine PySem.W.callWith_K (h₀ := X.base) I.ok.mod.kin hk (thn (ha pos pins s σ H _ I h) fun us s1 ⟨vs, H1, I1, r, q⟩ => ⟨I1.kIn, ?_⟩) he hpl
  exact run_fn F hr hb hd hx I1 r q
theorem pe_call0 (F : FnOk X.prog X.w X.K X.mg X.base CX k f fd ps sp) (hr : Room k X.A) (hg : Gl X x) (hm : X.mg x = some (.ref f)) (hk : PySem.W.keepIn X.K (.ref f) = true) (hb : Binds X.K fd ps ds) (hd : Vals dvs ds) (hx : Passes CX X E)
    (hdb : (x == ("__debug__" : Str)) = false := by decide) : PE X (.Call (.Name x p) [] [] pos) (tCall sp dvs E tNil) := by
  intro pins s σ H Q I h
  refine wpAny_Call_Name_kw (ld_glob I hg hm ?_ hdb)
  exact PySem.W.callWith_K0 I.kIn hk (run_fn (us := []) F hr hb hd hx I .nil h)

/-- o.m(e, ..) -/
theorem pe_meth {pl : Sem Bool} (he : PE X o ta) (c : Cls X.K C) (hm : Meth X.K C m f) (F : FnOk X.prog X.w X.K X.mg X.base CX k f fd ps sp) (hr : Room k X.A) (hb : Binds X.K fd ps ds) (hd : Vals dvs ds) (hx : Passes CX X E) (ha : PA X (e :: es) t)
    (hst : starEach (e :: es) X.env = (false, eval e X.env) :: starEach es X.env := by rfl) (hpl : (backTo pos (starEach es X.env)).any (·.1) = false := by rfl)
    (ht : eval (.Call (.Attribute o m apos) (e :: es) [] pos) X.env = (do
      let ov ← eval o X.env
      standAt apos.atName
      let (f, first) ← holding [ov] (getMethod ov m pl)
      callWith pos f first (backTo pos (starEach (e :: es) X.env)) (backToKw pos (keywordEach [] X.env))) := by rfl) :
    PE X (.Call (.Attribute o m apos) (e :: es) [] pos) (tMeth C m sp dvs E ta t) := by
  intro pins s σ H Q I h
  refine PySem.W.methodCall_KW (pl := pl) (thn (he pins s σ H _ I h) fun u s1 ⟨x, H1, I1, rx, a, dx, fs, ex, ea, l, q⟩ => ?_) ht
  subst ex
  obtain rfl : u = Value.ref a := rx
  refine getmeth_ok I1 ea c hm l ?_
  refine PySem.W.callWith_K (first := [.ref a]) (h₀ := X.base) I.ok.mod.kin hm.kp (thn (ha pos pins s1 σ H1 _ I1 q) fun us s2 ⟨vs, H2, I2, r, q2⟩ => ⟨I2.kIn, ?_⟩) hst hpl
  exact run_fn (us := .ref a :: us) (vs := .ref a :: vs) F hr hb hd hx I2 (.cons rfl r) q2
/-- o.m() -/
theorem pe_meth0 {pl : Sem Bool} (he : PE X o ta) (c : Cls X.K C) (hm : Meth X.K C m f) (F : FnOk X.prog X.w X.K X.mg X.base CX k f fd ps sp) (hr : Room k X.A) (hb : Binds X.K fd ps ds) (hd : Vals dvs ds) (hx : Passes CX X E)
    (ht : eval (.Call (.Attribute o m apos) [] [] pos) X.env = (do
      let ov ← eval o X.env
      standAt apos.atName
      let (f, first) ← holding [ov] (getMethod ov m pl)
      callWith pos f first (backTo pos (starEach [] X.env)) (backToKw pos (keywordEach [] X.env))) := by rfl) :
    PE X (.Call (.Attribute o m apos) [] [] pos) (tMeth C m sp dvs E ta tNil) := by
  intro pins s σ H Q I h
  refine PySem.W.methodCall_KW (pl := pl) (thn (he pins s σ H _ I h) fun u s1 ⟨x, H1, I1, rx, a, dx, fs, ex, ea, l, q⟩ => ?_) ht
  subst ex
  obtain rfl : u = Value.ref a := rx
  refine getmeth_ok I1 ea c hm l ?_
  exact PySem.W.callWith_K0 (first := [.ref a]) I1.kIn hm.kp (run_fn (us := [.ref a]) (vs := [.ref a]) F hr hb hd hx I1 (.cons rfl .nil) q)

/-- what a class must have to be made -/
structure Mk (K : PySem.W.Frag) (C f : Addr) : Prop where
  makes : PySem.W.makesIn K C = true
  init : PySem.W.findIn K (.ref C) "__init__" = some (some (.ref f))
  fn : PySem.W.isFn K (.ref f) = true
  kp : PySem.W.keepIn K (.ref C) = true

theorem run_make {pins : List (Addr × Obj)} {σ : St} {H : Hp} {s : Shared} {Q : VK} {us : List Value} {vs : List V} (M : Mk X.K C f) (F : FnOk X.prog X.w X.K X.mg X.base CX k f fd ps sp) (hr : Room (k + 1) X.A) (hb : Binds X.K fd ps ds) (hd : Vals dvs ds)
    (hx : Passes CX X E) (I : Inv X pins σ H s) (r : Vals vs us)
    (h : ∀ x dx, H x = none → H dx = none → dx ≠ x → sp (.ref x :: (vs ++ dvs)) (upd (upd H dx (.own x)) x (.ins C dx [])) (fun v H2 => v = .non ∧ Q (.ref x) H2) E) :
    wpAny (model X.prog X.w) X.A (call (.ref C) us) (EP X pins σ Q) X.xe s := by
  have hq := h (s.heap.objs.size + 1) s.heap.objs.size (I.hok.fresh (Nat.le_succ _)) (I.hok.fresh (Nat.le_refl _)) (Nat.ne_of_lt (Nat.lt_succ_self _))
  have I2 := Inv.made (C := C) I
  have r2 : Vals (V.ref (s.heap.objs.size + 1) :: (vs ++ dvs)) (Value.ref (s.heap.objs.size + 1) :: (us ++ ds)) := .cons rfl (r.append hd)
  have hl : (Value.ref (s.heap.objs.size + 1) :: us ++ ds).length = ps.length := by
    have e := r2.length
    rw [F.len _ _ _ _ hq] at e
    exact e.symm
  refine wpAny_call (make_map (f := f) I.kIn M.makes M.init (beq_iff_eq.mp M.fn) (codeAny_mono (F.run _ X.stack _ _ ⟨Value.ref (s.heap.objs.size + 1) :: us, []⟩ (Value.ref (s.heap.objs.size + 1) :: (us ++ ds)) _ _ E (hr.make C us [])
    (I2.env0.make C us []) (hb _ (Value.ref (s.heap.objs.size + 1) :: us) I2.kIn hl) r2 hq) fun r s' hq' => ?_))
  cases r with
  | error e => exact hx pins σ _ _ e s' I2 hq'
  | ok fl =>
    cases fl with
    | ret u =>
      obtain ⟨v, H', I3, rv, ev, q3⟩ := I2.after hq'
      subst ev
      exact ⟨rv, ⟨V.ref (s.heap.objs.size + 1), H', I3, rfl, q3⟩⟩
    | next => exact False.elim hq'
    | brk => exact False.elim hq'
    | cont => exact False.elim hq'
theorem pe_make (M : Mk X.K C f) (F : FnOk X.prog X.w X.K X.mg X.base CX k f fd ps sp) (hr : Room (k + 1) X.A) (hg : Gl X x) (hm : X.mg x = some (.ref C)) (hb : Binds X.K fd ps ds) (hd : Vals dvs ds) (hx : Passes CX X E)
    (ha : PA X (e :: es) t) (hdb : (x == ("__debug__" : Str)) = false := by decide) (he : starEach (e :: es) X.env = (false, eval e X.env) :: starEach es X.env := by rfl) (hpl : (backTo pos (starEach es X.env)).any (·.1) = false := by rfl) :
    PE X (.Call (.Name x p) (e :: es) [] pos) (tMake C sp dvs E t) := by
  intro pins s σ H Q I h
  refine wpAny_Call_Name_kw (ld_glob I hg hm ?_ hdb)
  refine PySem.W.callWith_K (h₀ := X.base) I.ok.mod.kin M.kp (thn (ha pos pins s σ H _ I h) fun us s1 ⟨vs, H1, I1, r, q⟩ => ⟨I1.kIn, ?_⟩) he hpl
  exact run_make M F hr hb hd hx I1 r q
theorem pe_make0 (M : Mk X.K C f) (F : FnOk X.prog X.w X.K X.mg X.base CX k f fd ps sp) (hr : Room (k + 1) X.A) (hg : Gl X x) (hm : X.mg x = some (.ref C)) (hb : Binds X.K fd ps ds) (hd : Vals dvs ds) (hx : Passes CX X E)
    (hdb : (x == ("__debug__" : Str)) = false := by decide) : PE X (.Call (.Name x p) [] [] pos) (tMake C sp dvs E tNil) := by
  intro pins s σ H Q I h
  refine wpAny_Call_Name_kw (ld_glob I hg hm ?_ hdb)
  exact PySem.W.callWith_K0 I.kIn M.kp (run_make (us := []) M F hr hb hd hx I .nil h)
end

/-! ### keywords -/
/-- the values of the keywords, from the left -/
def PK (X : Cx) (kws : List Keyword) (t : TA) : Prop :=
  ∀ (pos : Pos) (pins : List (Addr × Obj)) (s : Shared) (σ : St) (H : Hp) (Q : List V → Hp → Prop), Inv X pins σ H s → t σ H Q → wpAny (model X.prog X.w) X.A (evalAll ((backToKw pos (keywordEach kws X.env)).map (·.2))) (AP X pins σ Q) X.xe s
section
variable {X : Cx} {CX : CXT} {k : Nat} {f C : Addr} {fd : FuncData} {ps ks : List Str} {sp : Sp} {E : XK} {x m : Str} {p pos apos kpos : Pos} {e o : Expr} {es : List Expr} {kws : List Keyword} {te ta : TE} {t tk : TA} {nm : Option Str}
theorem pk_nil : PK X [] tNil := fun _ _ _ _ H Q I h => wpAny_evalAll_nil ⟨[], H, I, .nil, h⟩
theorem pk_cons (ha : PE X e te) (hr : PK X kws t) : PK X (⟨nm, e, kpos⟩ :: kws) (tCons te t) := by
  intro pos pins s σ H Q I h
  show wpAny _ _ (evalAll ((do let v ← eval e X.env; standAt pos; pure v) :: (backToKw pos (keywordEach kws X.env)).map (·.2))) _ _ s
  refine wpAny_evalAll_cons (wpAny_bind (thn (ha pins s σ H _ I h) fun u s1 ⟨x, H1, I1, r1, q1⟩ => wpAny_bind (wpAny_standAt (wpAny_pure ?_))))
  exact thn (hr pos pins s1 σ H1 _ I1 q1) fun us s2 ⟨xs, H2, I2, r2, q2⟩ => ⟨x :: xs, H2, I2, .cons r1 r2, q2⟩

/-- how a call with keywords binds: g puts the positional values us and the keywords' values ws (names ks) in the parameters' order, defaults among them -/
structure KBinds (K : PySem.W.Frag) (fd : FuncData) (ps ks : List Str) (g : List Value → List Value → List Value) (gV : List V → List V → List V) : Prop where
  to : ∀ (s : Shared) (us ws : List Value), K.In s.heap → (g us ws).length = ps.length → BindsTo s fd ⟨us, ks.zip ws⟩ (ps.zip (g us ws))
  rel : ∀ {vs : List V} {us : List Value} {zs : List V} {ws : List Value}, Vals vs us → Vals zs ws → Vals (gV vs zs) (g us ws)
def tCallK (sp : Sp) (gV : List V → List V → List V) (E : XK) (t tk : TA) : TE := fun σ H Q => t σ H fun vs H1 => tk σ H1 fun zs H2 => sp (gV vs zs) H2 Q E
variable {g : List Value → List Value → List Value} {gV : List V → List V → List V}
theorem run_fnk {pins : List (Addr × Obj)} {σ : St} {H : Hp} {s : Shared} {Q : VK} {us ws : List Value} {vs zs : List V} (F : FnOk X.prog X.w X.K X.mg X.base CX k f fd ps sp) (hr : Room k X.A) (hb : KBinds X.K fd ps ks g gV) (hx : Passes CX X E)
    (I : Inv X pins σ H s) (r : Vals vs us) (rz : Vals zs ws) (h : sp (gV vs zs) H Q E) : wpAny (model X.prog X.w) X.A (call (.ref f) us (ks.zip ws)) (EP X pins σ Q) X.xe s := by
  have r2 := hb.rel r rz
  have hl : (g us ws).length = ps.length := by rw [← r2.length]; exact F.len _ _ _ _ h
  refine wpAny_call (codeAny_mono (F.run X.A X.stack s H ⟨us, ks.zip ws⟩ (g us ws) (gV vs zs) Q E hr I.env0 (hb.to s us ws I.kIn hl) r2 h) fun r s' hq => ?_)
  cases r with
  | error e => exact hx pins σ H s e s' I hq
  | ok fl =>
    cases fl with
    | ret u => exact I.after hq
    | next => exact False.elim hq
    | brk => exact False.elim hq
    | cont => exact False.elim hq
/-- f(e, .., k = v, ..) -/
theorem pe_callK (F : FnOk X.prog X.w X.K X.mg X.base CX k f fd ps sp) (hr : Room k X.A) (hg : Gl X x) (hm : X.mg x = some (.ref f)) (hk : PySem.W.keepIn X.K (.ref f) = true) (hb : KBinds X.K fd ps ks g gV) (hx : Passes CX X E)
    (ha : PA X (e :: es) t) (hkw : PK X kws tk) (hall : (backToKw pos (keywordEach kws X.env)).all (·.1.isSome) = true := by rfl) (hks : (backToKw pos (keywordEach kws X.env)).filterMap (·.1) = ks := by rfl)
    (hdb : (x == ("__debug__" : Str)) = false := by decide) (he : starEach (e :: es) X.env = (false, eval e X.env) :: starEach es X.env := by rfl)
    (hpl : ((backTo pos (starEach (e :: es) X.env)).any (·.1) || (backToKw pos (keywordEach kws X.env)).any (·.1.isNone)) = false := by rfl) :
    PE X (.Call (.Name x p) (e :: es) kws pos) (tCallK sp gV E t tk) := by
  intro pins s σ H Q I h
  refine wpAny_Call_Name_kw (ld_glob I hg hm ?_ hdb)
  refine PySem.W.callWith_KW (h₀ := X.base) I.ok.mod.kin hk hall (thn (ha pos pins s σ H _ I h) fun us s1 ⟨vs, H1, I1, r, q⟩ => ?_) hpl he
  refine thn (hkw pos pins s1 σ H1 _ I1 q) fun ws s2 ⟨zs, H2, I2, rz, q2⟩ => ⟨I2.kIn, ?_⟩
  rw [hks]
  exact run_fnk F hr hb hx I2 r rz q2
end

/-! ### a def's body keeps its promise -/
/-- names: the parameters first -/
structure FnScope (N P : List Str) (sc : Scope) : Prop where
  kind : sc.kind = .function
  co : sc.isCoroutine = false
  gen : sc.isGenerator = false
  nd : N.Nodup
  pre : N.take P.length = P
  par : ∀ x ∈ P, sc.names.lookup x = some .local ∨ sc.names.lookup x = some .cell
  nofree : ∀ y ∈ sc.names, y.2 ≠ .free

theorem bindL_out {kindOf : Str → Option NameKind} {x : Str} : ∀ {binds : List (Str × Value)} {m : Str → Option Value}, (∀ v, (x, v) ∉ binds) → bindL kindOf binds m x = m x
  | [], _, _ => rfl
  | (n, v) :: r, m, h => by
    unfold bindL
    rw [bindL_out fun w hw => h w (List.mem_cons_of_mem _ hw)]
    split
    · have : x ≠ n := by rintro rfl; exact h v List.mem_cons_self
      simp [this]
    · rfl
theorem bindC_out {kindOf : Str → Option NameKind} {x : Str} : ∀ {binds : List (Str × Value)} {m : Str → Option Value}, (∀ v, (x, v) ∉ binds) → bindC kindOf binds m x = m x
  | [], _, _ => rfl
  | (n, v) :: r, m, h => by
    unfold bindC
    rw [bindC_out fun w hw => h w (List.mem_cons_of_mem _ hw)]
    split
    · rfl
    · have : x ≠ n := by rintro rfl; exact h v List.mem_cons_self
      simp [this]
theorem bindL_get {kindOf : Str → Option NameKind} {x : Str} {v : Value} : ∀ {P : List Str} {vs : List Value} {i : Nat} {m : Str → Option Value}, P.Nodup → P[i]? = some x → vs[i]? = some v → kindOf x = some .local →
    bindL kindOf (P.zip vs) m x = some v
  | [], _, _, _, _, h, _, _ => by simp at h
  | _ :: _, [], _, _, _, _, h, _ => by simp at h
  | p :: P, w :: vs, 0, m, nd, h1, h2, hk => by
    simp at h1 h2; subst h1; subst h2
    show bindL kindOf ((p, w) :: P.zip vs) m p = _
    unfold bindL
    rw [bindL_out fun v hv => (List.nodup_cons.mp nd).1 (List.of_mem_zip hv).1, if_pos hk]
    simp
  | p :: P, w :: vs, i + 1, m, nd, h1, h2, hk => by
    show bindL kindOf ((p, w) :: P.zip vs) m x = _
    unfold bindL
    exact bindL_get (i := i) (List.nodup_cons.mp nd).2 (by simpa using h1) (by simpa using h2) hk
theorem bindC_get {kindOf : Str → Option NameKind} {x : Str} {v : Value} : ∀ {P : List Str} {vs : List Value} {i : Nat} {m : Str → Option Value}, P.Nodup → P[i]? = some x → vs[i]? = some v → kindOf x ≠ some .local →
    bindC kindOf (P.zip vs) m x = some v
  | [], _, _, _, _, h, _, _ => by simp at h
  | _ :: _, [], _, _, _, _, h, _ => by simp at h
  | p :: P, w :: vs, 0, m, nd, h1, h2, hk => by
    simp at h1 h2; subst h1; subst h2
    show bindC kindOf ((p, w) :: P.zip vs) m p = _
    unfold bindC
    rw [bindC_out fun v hv => (List.nodup_cons.mp nd).1 (List.of_mem_zip hv).1, if_neg hk]
    simp
  | p :: P, w :: vs, i + 1, m, nd, h1, h2, hk => by
    show bindC kindOf ((p, w) :: P.zip vs) m x = _
    unfold bindC
    exact bindC_get (i := i) (List.nodup_cons.mp nd).2 (by simpa using h1) (by simpa using h2) hk

/-- the names' values at the entry -/
def start (N : List Str) (vs : List V) : St := vs.map some ++ List.replicate (N.length - vs.length) none

/-- the context of a def's body, at its entry; an exception leaves the frame, then lies as CX says -/
def cxOf (CX : CXT) (P : Program) (w : World) (K : PySem.W.Frag) (mg : Str → Option Value) (base : Heap) (N : List Str) (qual : Str) (scope : Scope) (f : Addr) (cd : Value) (A : Around) (outer : List Env) (s : Shared) (H : Hp) (E : XK) : Cx where
  prog := P
  w := w
  K := K
  mg := mg
  base := base
  A := A.deeper (envOfC qual scope s.heap.objs.size f cd)
  N := N
  s₀ := s
  H₀ := H
  env := envOfC qual scope s.heap.objs.size f cd
  outer := outer
  stack := envOfC qual scope s.heap.objs.size f cd :: outer
  ex := []
  calm := true
  fn := fun _ => true
  pn := []
  xe := fun e s' => wpAny (model P w) (A.deeper (envOfC qual scope s.heap.objs.size f cd)) (leaving (envOfC qual scope s.heap.objs.size f cd) e) (fun _ s'' => CX outer H s E e s'') (fun e' s'' => CX outer H s E e' s'') s'

theorem cell_has {sc : Scope} {n : Nat} {x : Str} (h : sc.names.lookup x = some .cell) : ∃ c, (cellsFrom n sc.names []).lookup x = some c := by
  have q := PySem.W.cellsFrom_some sc.names n [] (.inl h)
  exact Option.isSome_iff_exists.mp q

theorem inv_start {CX : CXT} {P : Program} {w : World} {K : PySem.W.Frag} {mg : Str → Option Value} {base : Heap} {N ps : List Str} {qual : Str} {scope : Scope} {f : Addr} {cd : Value} {A : Around} {outer : List Env} {s s1 : Shared} {H : Hp} {E : XK} {us : List Value} {vs : List V}
    (S : FnScope N ps scope) (hd : A.handled = none) (e0 : Env0 P w K mg base A outer s H) (hl : vs.length = ps.length) (r : Vals vs us)
    (x : InCallC s s.heap.objs.size (bindL (envOfC qual scope s.heap.objs.size f cd).kindOf (ps.zip us) fun _ => none) (cellsFrom (s.heap.objs.size + 1) scope.names []) (bindC (envOfC qual scope s.heap.objs.size f cd).kindOf (ps.zip us) fun _ => none) s1) :
    Inv (cxOf CX P w K mg base N qual scope f cd A outer s H E) [] (start N vs) H s1 := by
  have hpl : ps.length ≤ N.length := by have := congrArg List.length S.pre; rw [List.length_take] at this; omega
  obtain ⟨h1, tk, rfl, hk⟩ := x.done
  have noA : ∀ b : Addr, b ∉ (cxOf CX P w K mg base N qual scope f cd A outer s H E).ex := fun b z => absurd (show b ∈ ([] : List Addr) from z) (by simp)
  refine ⟨⟨e0.mod, S.kind, rfl, rfl, Nat.le_refl _, fun y z c h1 h2 => ?_, fun y hy => ?_, fun y c _ h => ?_, fun _ => hd, Around.frames_deeper e0.frames, .inr ⟨rfl, rfl⟩, fun b z => absurd z (noA b), e0.bs, e0.bsz, fun b _ _ => noA b, fun b z => absurd z (noA b), e0.funs, e0.frf⟩,
    rfl, e0.bare, Un.kept hk, ⟨_, x.toInCall.ns, fun i y v h1 h2 h3 => ?_⟩, fun y c h => ⟨_, x.cell y c h⟩, e0.hok.fresh (Nat.le_refl _), fun y c h => ?_, fun p hp => absurd (show p ∈ ([] : List (Addr × Obj)) from hp) (by simp), e0.hok.kept hk, ?_⟩
  · exact name_of_addr x.apart (PySem.mem_of_lookup h1) (PySem.mem_of_lookup h2)
  · have hy : scope.names.lookup y = some .cell ∨ scope.names.lookup y = some .free := hy
    rcases hy with hy | hy
    · exact cell_has hy
    · exact absurd rfl (S.nofree _ (PySem.mem_of_lookup hy))
  · exact Nat.le_of_lt (x.above y c (PySem.mem_of_lookup h))
  · have hi : i < vs.length := by
      unfold start at h2
      by_cases hi : i < vs.length
      · exact hi
      · rw [List.getElem?_append_right (by simpa using hi)] at h2
        rw [List.getElem?_replicate] at h2
        split at h2 <;> cases h2
    have ha : vs[i]? = some v := by
      unfold start at h2
      rw [List.getElem?_append_left (by simpa using hi), List.getElem?_map] at h2
      cases e : vs[i]? with
      | none => rw [e] at h2; cases h2
      | some a => rw [e] at h2; cases h2; rfl
    obtain ⟨u, hu, rv⟩ := r.get ha
    have hp : ps[i]? = some y := by
      rw [← S.pre, List.getElem?_take_of_lt (by omega)]; exact h1
    have ndP : ps.Nodup := by rw [← S.pre]; exact S.nd.sublist (List.take_sublist _ _)
    refine ⟨u, rv, ?_⟩
    rcases S.par y (List.mem_of_getElem? hp) with k | k
    · exact .inl ⟨k, bindL_get ndP hp hu k⟩
    · obtain ⟨c, e⟩ := cell_has (n := s.heap.objs.size + 1) k
      refine .inr ⟨.inl k, c, e, ?_⟩
      have q := x.cell y c e
      rw [bindC_get ndP hp hu (by show scope.names.lookup y ≠ _; rw [k]; decide)] at q
      exact q
  · exact e0.hok.fresh (Nat.le_of_lt (x.above y c (PySem.mem_of_lookup h)))
  · unfold start
    show _ = N.length
    rw [List.length_append, List.length_map, List.length_replicate]
    omega

/-- THE RULE: a def (or a method) of the text, by its body. The body's reading t is chosen for each entry; it is run at the parameters' values -/
theorem fn_of {CX : CXT} {P : Program} {w : World} {K : PySem.W.Frag} {mg : Str → Option Value} {base : Heap} {k : Nat} {f : Addr} {name qual : Str} {params : Arguments} {body : List Stmt} {scope : Scope} {dV kV doc pm cdv ct oc : Value} {an od : Option Addr}
    {osl : Array (Option Value)} {N ps : List Str} {sp : Sp} (lk : K.lookup f = some ⟨oc, od, .func (PySem.W.fnOf name qual params body scope dV kV doc pm an cdv ct), osl⟩) (hcd : PySem.W.codeIn K cdv qual = true) (S : FnScope N ps scope)
    (len : ∀ vs H Q E, sp vs H Q E → vs.length = ps.length)
    (hbody : ∀ (A : Around) (outer : List Env) (s : Shared) (H : Hp) (vs : List V) (Q : VK) (E : XK), Room k (A.deeper (envOfC qual scope s.heap.objs.size f cdv)) → sp vs H Q E →
      ∃ t, PSs (cxOf CX P w K mg base N qual scope f cdv A outer s H E) body t ∧ t { nx := fun _ H' => Q .non H', rt := Q } (start N vs) H) :
    FnOk P w K mg base CX (k + 1) f (PySem.W.fnOf name qual params body scope dV kV doc pm an cdv ct) ps sp := by
  refine ⟨len, fun A outer s H args us vs Q E hr e0 hb r hsp => ?_⟩
  have hl := len _ _ _ _ hsp
  have KX : K.In s.heap := e0.mod.kin.keeps fun b o e => (e0.bs b o e).1
  have lim : s.heap.NoLimit := e0.mod.nolimit.keeps fun b o e => (e0.bs b o e).1
  have hkind : ∀ y ∈ ps.zip us, scope.names.lookup y.1 = some .local ∨ (scope.names.lookup y.1 = some .cell ∧ ((cellsFrom (s.heap.objs.size + 1) scope.names []).lookup y.1).isSome = true) := fun ⟨n, v⟩ hy => by
    rcases S.par n (List.of_mem_zip hy).1 with q | q
    · exact .inl q
    · exact .inr ⟨q, PySem.W.cellsFrom_some _ _ _ (.inl q)⟩
  refine codeAny_call_function hr.depth (KX _ _ lk) rfl S.co S.gen rfl (PySem.W.codeRec_of KX hcd) (hb _ _ _ _ ?_)
  refine wpAny_newFunctionEnv_cells S.kind hkind fun env he s1 x => ?_
  subst he
  refine ⟨lim.keeps x.toInCall.keep, codeAny_func ?_⟩
  obtain ⟨t, ht, hq⟩ := hbody A outer s H vs Q E (hr.deeper _) hsp
  have I : Inv (cxOf CX P w K mg base N qual scope f cdv A outer s H E) [] (start N vs) H s1 := inv_start S hr.hd e0 hl r x
  refine wpAny_mono (ht [] s1 (start N vs) H _ I hq) (fun fl s' hs => ?_) fun e s' hs => hs
  have fin : ∀ {σ' : St} {H' : Hp} {v : V} {u : Value}, Inv (cxOf CX P w K mg base N qual scope f cdv A outer s H E) [] σ' H' s' → RelV v u → Q v H' → CE outer P w H s Q u s' :=
    fun {σ' H' v u} J rv q => ⟨v, H', J.os, J.bare, J.base, J.hok, rv, q⟩
  cases fl with
  | ret u =>
    obtain ⟨v, σ', H', J, rv, q⟩ := hs
    exact fin J rv q
  | next =>
    obtain ⟨σ', H', J, q⟩ := hs
    exact fin (v := V.non) (u := Value.none) J rfl q
  | brk =>
    obtain ⟨_, _, _, q⟩ := hs
    exact False.elim q
  | cont =>
    obtain ⟨_, _, _, q⟩ := hs
    exact False.elim q
end L2

namespace L2
open PySem PySem.Spec PyProof.Rows
section
variable {X : Cx} {x : Str} {p pos : Pos} {e : Expr} {es : List Expr} {t : TA} {id T : String} {r : List V → Hp → VK → Prop}

def tCB (r : List V → Hp → VK → Prop) (t : TA) : TE := fun σ H Q => t σ H fun vs H1 => r vs H1 Q
/-- f(e, ..), f a built-in function -/
theorem pe_callB (hc : CallR X (.builtin id) r) (hg : Gl X x) (hm : X.mg x = none) (hv : bootBuiltins x = some (.builtin id)) (ha : PA X (e :: es) t) (hn : x ≠ "__name__" := by decide) (hdb : (x == ("__debug__" : Str)) = false := by decide)
    (he : starEach (e :: es) X.env = (false, eval e X.env) :: starEach es X.env := by rfl) (hpl : (backTo pos (starEach es X.env)).any (·.1) = false := by rfl) : PE X (.Call (.Name x p) (e :: es) [] pos) (tCB r t) := by
  intro pins s σ H Q I h
  refine wpAny_Call_Name_kw (ld_blt I hg hm hv ?_ hn hdb)
  exact PyProof.Rows.callWith_builtin1 (thn (ha pos pins s σ H _ I h) fun us s1 ⟨vs, H1, I1, r1, q1⟩ => hc pins s1 σ H1 vs us Q I1 r1 q1) he hpl
/-- T(e, ..), T a built-in type -/
theorem pe_callTy (hc : CallR X (.type T) r) (hg : Gl X x) (hm : X.mg x = none) (hv : bootBuiltins x = some (.type T)) (ha : PA X (e :: es) t) (hn : x ≠ "__name__" := by decide) (hdb : (x == ("__debug__" : Str)) = false := by decide)
    (he : starEach (e :: es) X.env = (false, eval e X.env) :: starEach es X.env := by rfl) (hpl : (backTo pos (starEach es X.env)).any (·.1) = false := by rfl) : PE X (.Call (.Name x p) (e :: es) [] pos) (tCB r t) := by
  intro pins s σ H Q I h
  refine wpAny_Call_Name_kw (ld_blt I hg hm hv ?_ hn hdb)
  exact PyProof.Rows.callWith_type1 (thn (ha pos pins s σ H _ I h) fun us s1 ⟨vs, H1, I1, r1, q1⟩ => hc pins s1 σ H1 vs us Q I1 r1 q1) he hpl
/-- T() -/
theorem pe_callTy0 (hc : CallR X (.type T) r) (hg : Gl X x) (hm : X.mg x = none) (hv : bootBuiltins x = some (.type T)) (hn : x ≠ "__name__" := by decide) (hdb : (x == ("__debug__" : Str)) = false := by decide) :
    PE X (.Call (.Name x p) [] [] pos) (tCB r tNil) := by
  intro pins s σ H Q I h
  refine wpAny_Call_Name_kw (ld_blt I hg hm hv ?_ hn hdb)
  exact PyProof.Rows.callWith_type0 (hc pins s σ H [] [] Q I .nil h)
end
end L2

namespace HT
open PySem PyProof.Rows

/-- t < u of tuples of ints -/
def lexLt : List Int → List Int → Bool
  | [], [] => false
  | [], _ :: _ => true
  | _ :: _, [] => false
  | x :: xs, y :: ys => if x = y then lexLt xs ys else decide (x < y)
theorem lexLt_cons (x y : Int) (xs ys : List Int) : lexLt (x :: xs) (y :: ys) = if x = y then lexLt xs ys else decide (x < y) := rfl
theorem lexLt_nil_nil : lexLt [] [] = false := rfl
theorem lexLt_nil_cons (y : Int) (ys : List Int) : lexLt [] (y :: ys) = true := rfl
theorem lexLt_cons_nil (x : Int) (xs : List Int) : lexLt (x :: xs) [] = false := rfl

theorem eqAt_int (A : Around) (s : Shared) (a : Int) (t : Tok) (c : Int) (u : Tok) : ∃ e, SeqAt.EqAt A s (.int a t) (.int c u) e ∧ (e = true ↔ a = c) :=
  ⟨(a == c), SeqAt.EqAt.int_int a t c u, by simp⟩
theorem rcLt_int (A : Around) (s : Shared) (a : Int) (t : Tok) (c : Int) (u : Tok) (prog : Program) (w : World) (E : Value → Shared → Prop) (Q : Value → Shared → Prop) (h : Q (.bool (decide (a < c))) s) :
    wpAny (model prog w) A (richCompare .Lt (.int a t) (.int c u)) Q E s :=
  (PyProof.Rows.lt_int h : wpAny (model prog w) A (compareOp .Lt (.int a t) (.int c u)) Q E s)

section
open PySem.SeqAt
open PySem.AutoSeq1 (wpAny_loadPart')
open PySem.MeetsSeq PySem.MeetsSeq2 PySem.MeetsSeq3

theorem tuple_lt_ints (l b : Addr) (items items2 : Array Value) (n n2 : Nat) (dd dd2 : Option Addr) (sl sl2 : Array (Option Value)) (ns ms : List Int) (hi : IntsAre items.toList ns) (hj : IntsAre items2.toList ms) :
    Meets (Builtin.«tuple.__lt__» ⟨[.ref l, .ref b], []⟩)
      (fun _ R s => s.heap.get? l = some { cls := .type "tuple", dict := dd, data := .seq items n, slots := sl } ∧ s.heap.get? b = some { cls := .type "tuple", dict := dd2, data := .seq items2 n2, slots := sl2 } ∧
        R (.ok (.ret (.bool (lexLt ns ms)))) s) :=
  .of_wp fun prog w A R s h => by
    obtain ⟨hp, g, d, tk, os⟩ := s; obtain ⟨hl, hb, h⟩ := h
    have f2 := AutoSeq1.sub_tuple_tuple
    have z1 : items.size = ns.length := by rw [← hi.length]; simp
    have z2 : items2.size = ms.length := by rw [← hj.length]; simp
    wp_walk using wpAny_loadPart' hl, wpAny_loadPart' hb, wpAny_forIn_list _ (fun rest b s' => b.1 = none ∧ s' = ⟨hp, g, d, tk, os⟩ ∧ ∃ (vs ws : List Value) (ns' ms' : List Int), rest = vs.zip ws ∧
      IntsAre vs ns' ∧ IntsAre ws ms' ∧ ns'.length + items2.size = ms'.length + items.size ∧ R (.ok (.ret (.bool (lexLt ns' ms')))) ⟨hp, g, d, tk, os⟩) _
    case turn =>
      rintro ⟨y, x⟩ rest b s' ⟨hb', rfl, vs, ws, ns', ms', hz, hvi, hwi, hlen, hR⟩
      cases hvi with
      | nil => rw [List.zip_nil_left] at hz; cases hz
      | cons a t hvi' =>
        cases hwi with
        | nil => rw [List.zip_nil_right] at hz; cases hz
        | cons c u hwi' =>
          rw [List.zip_cons_cons] at hz
          injection hz with hyx hrest
          injection hyx with hy hx
          subst hy hx
          rw [lexLt_cons] at hR
          simp only [List.length_cons] at hlen
          obtain ⟨e, he, hiff⟩ := eqAt_int A.in1 ⟨hp, g, d, tk, os⟩ a t c u
          refine wpAny_bind (he prog w _ _ ?_)
          cases e with
          | true =>
            rw [if_pos (hiff.mp rfl)] at hR
            wp_walk
            exact ⟨rfl, rfl, _, _, _, _, hrest, hvi', hwi', by omega, hR⟩
          | false =>
            rw [if_neg (fun q => absurd (hiff.mpr q) Bool.false_ne_true)] at hR
            have hri := rcLt_int A.in1 ⟨hp, g, d, tk, os⟩ a t c u prog w
            wp_walk using hri
            exact ⟨_, rfl, by simpa using hR⟩
    case fin =>
      rintro ⟨b1, b2⟩ s' ⟨hb', rfl, vs, ws, ns', ms', hz, hvi, hwi, hlen, hR⟩
      simp only at hb'
      subst hb'
      have hv : lexLt ns' ms' = decide (items.size < items2.size) := by
        cases hvi with
        | nil =>
          cases hwi with
          | nil =>
            simp only [List.length_nil] at hlen
            rw [lexLt_nil_nil]
            exact (decide_eq_false (by omega)).symm
          | cons c u hw =>
            simp only [List.length_nil, List.length_cons] at hlen
            rw [lexLt_nil_cons]
            exact (decide_eq_true (by omega)).symm
        | cons a t hv =>
          cases hwi with
          | nil =>
            simp only [List.length_nil, List.length_cons] at hlen
            rw [lexLt_cons_nil]
            exact (decide_eq_false (by omega)).symm
          | cons c u hw =>
            rw [List.zip_cons_cons] at hz
            cases hz
      rw [hv] at hR
      wp_walk
      exact ⟨_, rfl, by simpa [Builtin.Tuple.tupleCompareSizes] using hR⟩
    case h =>
      exact ⟨rfl, rfl, items.toList, items2.toList, ns, ms, rfl, hi, hj, by omega, h⟩
end

section
variable {prog : Program} {w : World} {A : Around} {E : Value → Shared → Prop} {s : Shared}

theorem lt_tupInts {l b : Addr} {items items2 : Array Value} {ns ms : List Int} {Q : Value → Shared → Prop} (hl : IsTup s.heap l items) (hb : IsTup s.heap b items2) (hi : IntsAre items.toList ns) (hj : IntsAre items2.toList ms)
    (hu : A.units < cLine) (h : Q (.bool (lexLt ns ms)) s) : wpAny (model prog w) A (compareOp .Lt (.ref l) (.ref b)) Q E s := by
  obtain ⟨⟨cls, dd, data, sl⟩, ho, hc, n, hd⟩ := id hl
  obtain ⟨⟨cls2, dd2, data2, sl2⟩, ho2, hc2, n2, hd2⟩ := id hb
  simp only at hc hd hc2 hd2
  subst hc hd hc2 hd2
  exact richCompare_meets_room (op := .Lt) ⟨_, ho, rfl⟩ ⟨_, ho2, rfl⟩ PySem.F.slot_tuple_lt PySem.F.entry_tuple_lt (PySem.F.args_tuple_lt_2 _ _) (tuple_lt_ints l b items items2 n n2 dd dd2 sl sl2 ns ms hi hj)
    ⟨ho, ho2, show Value.bool (lexLt ns ms) ≠ Value.notImplemented ∧ Q (.bool (lexLt ns ms)) s from ⟨(fun x => nomatch x), h⟩⟩ hu

/-- t + u, t not empty -/
theorem cat_tup {t b : Addr} {vs ws : List Value} {Q : Value → Shared → Prop} (ht : IsTup s.heap t vs.toArray) (hb : IsTup s.heap b ws.toArray) (hv : vs ≠ [])
    (h1 : ws = [] → Q (.ref t) s) (h2 : ws ≠ [] → Q (.ref s.heap.objs.size) { s with heap := s.heap.push { cls := .type "tuple", data := .seq (vs ++ ws).toArray } })
    (hsz : vs.length + ws.length ≤ sizeLine) : wpAny (model prog w) A (binaryOp .Add (.ref t) (.ref b)) Q E s := by
  obtain ⟨⟨cls, dd, data, sl⟩, ho, hc, n, hd⟩ := id ht
  obtain ⟨⟨cls2, dd2, data2, sl2⟩, ho2, hc2, n2, hd2⟩ := id hb
  simp only at hc hd hc2 hd2
  subst hc hd hc2 hd2
  have e : vs.toArray ++ ws.toArray = (vs ++ ws).toArray := by simp
  by_cases hw : ws = []
  · exact concat_meets ⟨_, ho, rfl⟩ ⟨_, ho2, rfl⟩ noFill_tuple_add seq_tuple_add PySem.F.slot_tuple_add PySem.F.entry_tuple_add (PySem.F.args_tuple_add_2 _ _)
      (tuple_addW1 t b vs.toArray ws.toArray n n2 dd dd2 sl sl2 (by simpa using hv) (by simp [hw])) ⟨ho, ho2, h1 hw⟩
  · refine concat_meets ⟨_, ho, rfl⟩ ⟨_, ho2, rfl⟩ noFill_tuple_add seq_tuple_add PySem.F.slot_tuple_add PySem.F.entry_tuple_add (PySem.F.args_tuple_add_2 _ _)
      (tuple_addW2 t b vs.toArray ws.toArray n n2 dd dd2 sl sl2 (by simpa using hv) (by simpa using hw) (by rw [List.size_toArray, List.size_toArray]; exact hsz)) ⟨ho, ho2, ?_⟩
    rw [e]
    exact h2 hw

/-! ### t[a:b], not the whole -/
/-- a slice's bound as a place among n (d where it is left out) -/
def sIx (n d : Nat) : Option Int → Nat
  | none => d
  | some v => if v < 0 then (v + (n : Int)).toNat else min v.toNat n
theorem sIx_none (n d : Nat) : sIx n d none = d := rfl
theorem sIx_nat (n d k : Nat) : sIx n d (some (k : Int)) = min k n := by
  show (if (k : Int) < 0 then ((k : Int) + (n : Int)).toNat else min (k : Int).toNat n) = min k n
  rw [if_neg (by omega), Int.toNat_natCast]
theorem sIx_le (n d : Nat) (hd : d ≤ n) (o : Option Int) : sIx n d o ≤ n := by
  cases o with
  | none => exact hd
  | some v =>
    show (if v < 0 then (v + (n : Int)).toNat else min v.toNat n) ≤ n
    by_cases hv : v < 0
    · rw [if_pos hv]; omega
    · rw [if_neg hv]; exact Nat.min_le_right _ _
theorem clip_eq (v : Int) (n d : Nat) : (if v < 0 then max (v + (n : Int)) 0 else min v (n : Int)) = ((sIx n d (some v) : Nat) : Int) := by
  show (if v < 0 then max (v + (n : Int)) 0 else min v (n : Int)) = (((if v < 0 then (v + (n : Int)).toNat else min v.toNat n) : Nat) : Int)
  by_cases hv : v < 0
  · simp only [if_pos hv]; omega
  · simp only [if_neg hv]; omega
theorem adjust_gen (lo hi : Option Int) (n : Nat) : Builtin.Slice.sliceAdjust lo hi 1 (n : Int) = (((sIx n 0 lo : Nat) : Int), ((sIx n n hi : Nat) : Int)) := by
  have h1 : ¬ ((1 : Int) < 0) := by omega
  unfold Builtin.Slice.sliceAdjust
  simp only [h1, if_false]
  refine Prod.ext ?_ ?_
  · cases lo with
    | none => rfl
    | some v => exact clip_eq v n 0
  · cases hi with
    | none => rfl
    | some v => exact clip_eq v n n
theorem places_gen (i j : Nat) : Builtin.Slice.slicePlaces (i : Int) (j : Int) 1 = j - i := by
  unfold Builtin.Slice.slicePlaces
  have h1 : (1 : Int) > 0 := by omega
  simp only [h1, if_true, Int.ediv_one]
  split <;> omega
theorem slicePart_ {v : Value} {o : Option Int} {Q : Option Int → Shared → Prop} (p : IsPart v o) (h : Q o s) : wpAny (model prog w) A (Builtin.Slice.slicePartIndex v) Q E s := by
  cases p with
  | none => exact slicePart_none h
  | int i t => exact slicePart_int h
theorem sliceApplied_gen {sl : Addr} {vl vu : Value} {lo hi : Option Int} {n : Nat} {Q : Int × Int × Nat → Shared → Prop} (hs : s.heap.IsSliceOf sl vl vu .none) (pl : IsPart vl lo) (pu : IsPart vu hi)
    (h : Q (((sIx n 0 lo : Nat) : Int), 1, sIx n n hi - sIx n 0 lo) s) : wpAny (model prog w) A (Builtin.Slice.sliceApplied (.ref sl) (pure (n : Int))) Q E s := by
  obtain ⟨os, hos, hcs, hds⟩ := id hs
  unfold Builtin.Slice.sliceApplied Builtin.Slice.sliceFields
  refine wpAny_bind (wpAny_bind (wpAny_field hos hds (x := vl) rfl (wpAny_bind (wpAny_field hos hds (x := vu) rfl (wpAny_bind (wpAny_field hos hds (x := .none) rfl (wpAny_pure ?_)))))))
  refine wpAny_bind (slicePart_none ?_)
  show wpAny _ _ (if ((1 : Int) == 0) = true then _ else _) _ _ s
  rw [if_neg (by decide)]
  refine wpAny_bind (slicePart_ pl (wpAny_bind (slicePart_ pu (wpAny_bind (wpAny_pure ?_)))))
  show wpAny _ _ (match Builtin.Slice.sliceAdjust lo hi 1 (n : Int) with | (lo, hi) => pure (lo, (1 : Int), Builtin.Slice.slicePlaces lo hi 1)) _ _ s
  rw [adjust_gen lo hi n]
  show wpAny _ _ (pure (((sIx n 0 lo : Nat) : Int), (1 : Int), Builtin.Slice.slicePlaces ((sIx n 0 lo : Nat) : Int) ((sIx n n hi : Nat) : Int) 1)) _ _ s
  rw [places_gen]
  exact wpAny_pure h
theorem pick_gen (xs : Array Value) (i k : Nat) : ((List.range k).filterMap fun (m : Nat) => xs[((i : Int) + (m : Int) * 1).toNat]?).toArray = ((xs.toList.drop i).take k).toArray := by
  have e : (fun (m : Nat) => xs[((i : Int) + (m : Int) * 1).toNat]?) = fun m => xs[i + m]? := by
    funext m
    have : ((i : Int) + (m : Int) * 1).toNat = i + m := by omega
    rw [this]
  rw [e]
  have := pick_run xs i k
  rw [List.filterMap_map] at this
  have e2 : ((fun x => xs[x]?) ∘ fun x => i + x) = fun m => xs[i + m]? := rfl
  rw [e2] at this
  rw [this]

theorem getItem_tuple_cut {t sl : Addr} {items : Array Value} {vl vu : Value} {lo hi : Option Int} {Q : Value → Shared → Prop} (ht : IsTup s.heap t items) (hs : s.heap.IsSliceOf sl vl vu .none) (pl : IsPart vl lo) (pu : IsPart vu hi)
    (hw : ¬ (sIx items.size 0 lo = 0 ∧ sIx items.size items.size hi = items.size))
    (h : Q (.ref s.heap.objs.size) { s with heap := s.heap.push { cls := .type "tuple", data := .seq ((items.toList.drop (sIx items.size 0 lo)).take (sIx items.size items.size hi - sIx items.size 0 lo)).toArray } })
    (hsz : items.size ≤ sizeLine) : wpAny (model prog w) A (getItem (.ref t) (.ref sl)) Q E s := by
  have htake : sizeOk (.seq ((items.toList.drop (sIx items.size 0 lo)).take (sIx items.size items.size hi - sIx items.size 0 lo)).toArray) := by
    show ((items.toList.drop (sIx items.size 0 lo)).take (sIx items.size items.size hi - sIx items.size 0 lo)).toArray.size ≤ sizeLine
    rw [List.size_toArray, List.length_take, List.length_drop, Array.length_toList]
    omega
  have hj : sIx items.size items.size hi ≤ items.size := sIx_le _ _ (Nat.le_refl _) hi
  obtain ⟨os, hos, hcs, hds⟩ := id hs
  have hTs : s.TypeIs (.ref sl) "slice" := ⟨os, hos, hcs⟩
  unfold getItem
  try with_reducible refine wpAny_holding ?_
  first | refine wpAny_bind (wpAny_pure ?_) | skip
  refine wpAny_bind (wpAny_sequenceKey ht.typeIs (by decide) ?_)
  refine wpAny_bind (wpAny_callSpecial?_slot (name := Str.ofString "__getitem__") ht.typeIs PyProof.Rows.slot_tuple_getitem
    (wpAny_call_entry PyProof.Rows.slot_tuple_getitem ht.typeIs entry_tuple_getitem ?_ (args_tuple_getitem _ _)))
  show wpAny _ _ (Builtin.Tuple.tupleItemsOf (.ref t) >>= _) _ _ s
  refine wpAny_bind (tupleItemsOf_ ht ?_)
  refine wpAny_bind (wpAny_typeOf hTs ?_)
  rw [if_pos (by decide)]
  refine wpAny_bind (sliceApplied_gen hs pl pu ?_)
  have hno : ¬ ((((sIx items.size 0 lo : Nat) : Int) == 0 && (1 : Int) == 1 && (sIx items.size items.size hi - sIx items.size 0 lo) == items.size) = true) := by
    intro q
    rw [Bool.and_eq_true, Bool.and_eq_true] at q
    have q1 : ((sIx items.size 0 lo : Nat) : Int) = 0 := eq_of_beq q.1.1
    have q2 : sIx items.size items.size hi - sIx items.size 0 lo = items.size := eq_of_beq q.2
    exact hw ⟨by omega, by omega⟩
  show wpAny _ _ (if (((sIx items.size 0 lo : Nat) : Int) == 0 && (1 : Int) == 1 && (sIx items.size items.size hi - sIx items.size 0 lo) == items.size) = true then _ else _) _ _ s
  rw [if_neg hno, pick_gen]
  first
    | exact wpAny_bind (m := Builtin.Tuple.tupleExact _) (wpAny_newObj_type (wpAny_pure ⟨_, rfl, wpAny_pure h⟩) htake)
    | exact wpAny_bind (m := Builtin.Tuple.tupleExact _) (wpAny_newObj_type (wpAny_bind (wpAny_pure (wpAny_pure ⟨_, rfl, wpAny_pure h⟩))) htake)
    | exact wpAny_bind (wpAny_bind (m := Builtin.Tuple.tupleExact _) (wpAny_newObj_type (wpAny_pure (wpAny_pure ⟨_, rfl, wpAny_pure h⟩)) htake))
    | exact wpAny_bind (wpAny_bind (m := Builtin.Tuple.tupleExact _) (wpAny_newObj_type (wpAny_pure ⟨_, rfl, wpAny_pure h⟩) htake))
end
end HT

namespace L2
open PySem PySem.Spec PyProof.Rows

/-! ### the parts of a slice -/
abbrev TO := St → Hp → (Option Int → Hp → Prop) → Prop
/-- a slice's part (left out, or an int) -/
def PO (X : Cx) (e : Option Expr) (t : TO) : Prop :=
  ∀ (pins : List (Addr × Obj)) (s : Shared) (σ : St) (H : Hp) (Q : Option Int → Hp → Prop), Inv X pins σ H s → t σ H Q →
    wpAny (model X.prog X.w) X.A (evalPart e X.env) (fun u s' => ∃ o H', Inv X pins σ H' s' ∧ IsPart u o ∧ Q o H') X.xe s
def tNoPart : TO := fun _ H Q => Q none H
def tPart (t : TE) : TO := fun σ H Q => t σ H fun x H1 => ∃ i, x = .int i ∧ Q (some i) H1

theorem intsAre_of {ns : List Int} : ∀ {us : List Value}, Vals (ns.map V.int) us → IntsAre us ns := by
  induction ns with
  | nil => intro us r; rw [List.map_nil] at r; cases r; exact .nil
  | cons n ns ih =>
    intro us r
    rw [List.map_cons] at r
    cases r with
    | cons r1 r2 =>
      obtain ⟨t, e⟩ := r1
      subst e
      exact .cons n t (ih r2)

section
variable {X : Cx} {e : Expr} {te : TE} {lo hi : Option Expr} {tl th : TO} {pos p2 : Pos}

theorem po_none : PO X none tNoPart := by
  intro pins s σ H Q I h
  rw [evalPart_none]
  exact wpAny_pure ⟨none, H, I, .none, h⟩
theorem po_some (h : PE X e te) : PO X (some e) (tPart te) := by
  intro pins s σ H Q I hw
  rw [evalPart_some]
  refine thn (h pins s σ H _ I hw) fun u s1 ⟨x, H1, I1, r1, q1⟩ => ?_
  obtain ⟨i, rfl, q⟩ := q1
  obtain ⟨t, rfl⟩ := r1
  exact ⟨some i, H1, I1, .int i t, q⟩

/-- what a slice of a value is, by values: the slice object stands at sl -/
def SlR (X : Cx) (r : V → Option Int → Option Int → Hp → VK → Prop) : Prop :=
  ∀ (pins : List (Addr × Obj)) (s : Shared) (σ : St) (H : Hp) (x : V) (v vl vu : Value) (lo hi : Option Int) (sl : Addr) (Q : VK), Inv X pins σ H s → RelV x v → s.heap.IsSliceOf sl vl vu .none → IsPart vl lo → IsPart vu hi → r x lo hi H Q →
    ∃ T id, typeLookup (.type T) "__getitem__" = pure (some (.builtin id)) ∧ s.TypeIs v T ∧ wpAny (model X.prog X.w) X.A (getItem v (.ref sl)) (EP X pins σ Q) X.xe s
theorem SlR.or {r r' : V → Option Int → Option Int → Hp → VK → Prop} (h : SlR X r) (h' : SlR X r') : SlR X (fun x lo hi H Q => r x lo hi H Q ∨ r' x lo hi H Q) := by
  intro pins s σ H x v vl vu lo hi sl Q I rx hs pl pu q
  rcases q with q | q
  · exact h pins s σ H x v vl vu lo hi sl Q I rx hs pl pu q
  · exact h' pins s σ H x v vl vu lo hi sl Q I rx hs pl pu q
def tSl (r : V → Option Int → Option Int → Hp → VK → Prop) (te : TE) (tl th : TO) : TE := fun σ H Q => te σ H fun x H1 => tl σ H1 fun l H2 => th σ H2 fun u H3 => r x l u H3 Q
/-- a[lo:hi], any a -/
theorem pe_slice {r : V → Option Int → Option Int → Hp → VK → Prop} (hr : SlR X r) (he : PE X e te) (hl : PO X lo tl) (hu : PO X hi th) : PE X (.Subscript e (.Slice lo hi none p2) pos) (tSl r te tl th) := by
  intro pins s σ H Q I h
  refine Subscript_ (thn (he pins s σ H _ I h) fun v s1 ⟨x, H1, I1, r1, q1⟩ => ?_)
  refine wpAny_Slice (thn (hl pins s1 σ H1 _ I1 q1) fun vl s2 ⟨l, H2, I2, pl, q2⟩ => thn (hu pins s2 σ H2 _ I2 q2) fun vu s3 ⟨u, H3, I3, pu, q3⟩ => ?_)
  rw [evalPart_none]
  refine wpAny_pure ?_
  have I4 : Inv X pins σ H3 { s3 with heap := s3.heap.push { cls := .type "slice", data := .fields #[vl, vu, .none] } } := I3.kept (t' := s3.toks) fun b ob q => Heap.get?_push_of_some _ q
  obtain ⟨T, id, hT, ht, hg⟩ := hr pins { s3 with heap := s3.heap.push { cls := .type "slice", data := .fields #[vl, vu, .none] } } σ H3 x v vl vu l u s3.heap.objs.size Q I4 r1 (Heap.IsSliceOf.new ..) pl pu q3
  show wpAny (model X.prog X.w) X.A (subscriptTail e (.Slice lo hi none p2) v (.ref s3.heap.objs.size)) (EP X pins σ Q) X.xe { s3 with heap := s3.heap.push { cls := .type "slice", data := .fields #[vl, vu, .none] } }
  exact tail_any (ops := [.ref s3.heap.objs.size, v]) ht hT hg (by with_unfolding_all rfl)

/-- the items of xs[lo:hi] -/
def cutV (xs : List V) (lo hi : Option Int) : List V := (xs.drop (HT.sIx xs.length 0 lo)).take (HT.sIx xs.length xs.length hi - HT.sIx xs.length 0 lo)
theorem cutV_length (xs : List V) (lo hi : Option Int) : (cutV xs lo hi).length ≤ xs.length := by
  unfold cutV
  rw [List.length_take, List.length_drop]
  omega
/-- t[lo:hi], not the whole of it (the whole would be t itself) -/
def rSlT (K : PySem.W.Frag) : V → Option Int → Option Int → Hp → VK → Prop := fun x lo hi H Q => ∃ a xs, x = .ref a ∧ SqT K H a xs ∧
  ¬ (HT.sIx xs.length 0 lo = 0 ∧ HT.sIx xs.length xs.length hi = xs.length) ∧ ∀ p, H p = none → Q (.ref p) (upd H p (.tup (cutV xs lo hi)))
theorem sl_tup : SlR X (rSlT X.K) := by
  intro pins s σ H x v vl vu lo hi sl Q I rx hs pl pu h
  obtain ⟨a, xs, rfl, hx, hw, q⟩ := h
  cases rx
  obtain ⟨its, r, ht, hz⟩ := I.tuple hx
  have hlen : its.toArray.size = xs.length := by rw [List.size_toArray]; exact r.length.symm
  refine ⟨"tuple", _, PyProof.Rows.slot_tuple_getitem.lookup, ht.typeIs, ?_⟩
  refine HT.getItem_tuple_cut ht hs pl pu (by rw [hlen]; exact hw) ?_ (by rw [hlen]; exact hz)
  rw [hlen]
  refine ⟨.ref s.heap.objs.size, _, I.laid (t' := s.toks) (o := .tup (cutV xs lo hi)) (fun b ob q => Heap.get?_push_of_some _ q) (Nat.le_refl _) ?_, rfl, q _ (I.hok.fresh (Nat.le_refl _))⟩
  exact ⟨Nat.le_trans (cutV_length xs lo hi) hz, _, (r.drop (HT.sIx xs.length 0 lo)).take (HT.sIx xs.length xs.length hi - HT.sIx xs.length 0 lo), IsTup.new _ _⟩

/-! ### t < u, t + u -/
def rLtT (K : PySem.W.Frag) : R2 := fun x y H Q => ∃ a b ns ms, x = .ref a ∧ y = .ref b ∧ SqT K H a (ns.map V.int) ∧ SqT K H b (ms.map V.int) ∧ Q (.bl (HT.lexLt ns ms)) H
theorem op_ltT (hu : X.A.units < cLine) : OpR X (compareOp .Lt) (rLtT X.K) := by
  intro pins s σ H x y v u Q I rx ry h
  obtain ⟨a, b, ns, ms, rfl, rfl, ha, hb, q⟩ := h
  cases rx
  cases ry
  obtain ⟨its, r1, p1, _⟩ := I.tuple ha
  obtain ⟨its2, r2, p2, _⟩ := I.tuple hb
  have i1 : IntsAre its.toArray.toList ns := intsAre_of r1
  have i2 : IntsAre its2.toArray.toList ms := intsAre_of r2
  exact HT.lt_tupInts p1 p2 i1 i2 hu ⟨.bl (HT.lexLt ns ms), H, I, rfl, q⟩
/-- t + u, t not empty: u empty gives t itself -/
def rCatT (K : PySem.W.Frag) : R2 := fun x y H Q => ∃ a b xs ys, x = .ref a ∧ y = .ref b ∧ SqT K H a xs ∧ SqT K H b ys ∧ xs ≠ [] ∧ xs.length + ys.length ≤ sizeLine ∧
  (ys = [] → Q (.ref a) H) ∧ (ys ≠ [] → ∀ p, H p = none → Q (.ref p) (upd H p (.tup (xs ++ ys))))
theorem Vals.nil_iff {xs : List V} {us : List Value} (r : Vals xs us) : us = [] ↔ xs = [] := by
  cases r with
  | nil => simp
  | cons _ _ => simp
theorem op_catT : OpR X (binaryOp .Add) (rCatT X.K) := by
  intro pins s σ H x y v u Q I rx ry h
  obtain ⟨a, b, xs, ys, rfl, rfl, ha, hb, hx, hz, q1, q2⟩ := h
  cases rx
  cases ry
  obtain ⟨its, r1, p1, _⟩ := I.tuple ha
  obtain ⟨its2, r2, p2, _⟩ := I.tuple hb
  refine HT.cat_tup p1 p2 (fun z => hx (r1.nil_iff.mp z)) (fun z => ⟨.ref a, H, I, rfl, q1 (r2.nil_iff.mp z)⟩) (fun z => ?_) (by rw [← r1.length, ← r2.length]; exact hz)
  refine ⟨.ref s.heap.objs.size, _, I.laid (t' := s.toks) (o := .tup (xs ++ ys)) (fun b ob q => Heap.get?_push_of_some _ q) (Nat.le_refl _) ?_, rfl, q2 (fun w => z (r2.nil_iff.mpr w)) _ (I.hok.fresh (Nat.le_refl _))⟩
  exact ⟨by rw [List.length_append]; exact hz, _, r1.append r2, IsTup.new _ _⟩
/-- tuple(t) -/
theorem call_tupleT : CallR X (.type "tuple") (fun xs H Q => ∃ a ys, xs = [.ref a] ∧ SqT X.K H a ys ∧ Q (.ref a) H) := by
  intro pins s σ H xs us Q I r h
  obtain ⟨a, ys, rfl, ha, q⟩ := h
  obtain ⟨u, rfl, ru⟩ := vals1 r
  cases ru
  obtain ⟨its, _, p1, _⟩ := I.tuple ha
  exact call_tuple_same (items := its.toArray) p1 ⟨.ref a, H, I, rfl, q⟩
end
end L2

namespace L2
open PySem PySem.Spec PyProof.Rows

/-! ### places -/
/-- the place that an index of any sign means -/
def ixN (n : Nat) (i : Int) : Option Nat := if 0 ≤ i then (if i < n then some i.toNat else none) else if -(n : Int) ≤ i then some (i + n).toNat else none
def atI {α : Type} (xs : List α) (i : Int) : Option α := (ixN xs.length i).bind fun j => xs[j]?
theorem ixN_seq {n : Nat} {i : Int} {j : Nat} (h : ixN n i = some j) : seqIndex? i n = some j ∧ j < n ∧ -(n : Int) ≤ i ∧ i < n := by
  unfold ixN at h
  by_cases h0 : 0 ≤ i
  · rw [if_pos h0] at h
    by_cases h1 : i < n
    · rw [if_pos h1] at h
      have e : i.toNat = j := Option.some.inj h
      exact ⟨by rw [seqIndex_of h0 h1, e], by omega, by omega, h1⟩
    · rw [if_neg h1] at h; cases h
  · rw [if_neg h0] at h
    by_cases h1 : -(n : Int) ≤ i
    · rw [if_pos h1] at h
      have e : (i + n).toNat = j := Option.some.inj h
      exact ⟨by rw [seqIndex_neg (by omega) h1, e], by omega, h1, by omega⟩
    · rw [if_neg h1] at h; cases h
theorem atI_get {α : Type} {xs : List α} {i : Int} {v : α} (h : atI xs i = some v) : ∃ j, seqIndex? i xs.length = some j ∧ xs[j]? = some v ∧ j < xs.length ∧ -(xs.length : Int) ≤ i ∧ i < xs.length := by
  unfold atI at h
  cases e : ixN xs.length i with
  | none => rw [e] at h; cases h
  | some j =>
    rw [e] at h
    obtain ⟨h1, h2, h3, h4⟩ := ixN_seq e
    exact ⟨j, h1, h, h2, h3, h4⟩
theorem atI_nat {α : Type} {xs : List α} {j : Nat} {v : α} (h : xs[j]? = some v) : atI xs (j : Int) = some v := by
  have hj : j < xs.length := (List.getElem?_eq_some_iff.mp h).1
  have e : ixN xs.length (j : Int) = some j := by
    unfold ixN
    rw [if_pos (by omega), if_pos (by omega)]; simp
  unfold atI; rw [e]; exact h
theorem atI_last {α : Type} (xs : List α) (v : α) : atI (xs ++ [v]) (-1) = some v := by
  have hl : (xs ++ [v]).length = xs.length + 1 := by simp
  have e : ixN (xs ++ [v]).length (-1) = some xs.length := by
    unfold ixN
    rw [hl, if_neg (by decide), if_pos (by omega)]
    congr 1
    omega
  unfold atI
  rw [e]
  show (xs ++ [v])[xs.length]? = some v
  simp

/-! ### what may be subscripted -/
/-- what stands as an index of a plain subscript -/
def PlainIx (b : Expr) : Prop := ∀ o i, subscripted b false o i = operate [o, i] (getItem o i)
/-- a subscript by values -/
def IxR (X : Cx) (r : R2) : Prop :=
  ∀ (value slice : Expr) (pins : List (Addr × Obj)) (s : Shared) (σ : St) (H : Hp) (x y : V) (v u : Value) (Q : VK), Inv X pins σ H s → RelV x v → RelV y u → r x y H Q →
    subscripted slice false v u = operate [v, u] (getItem v u) → wpAny (model X.prog X.w) X.A (subscriptTail value slice v u) (EP X pins σ Q) X.xe s
/-- a call of a builtin's method by values: the receiver, the arguments -/
def MtR (X : Cx) (id : String) (r : V → List V → Hp → VK → Prop) : Prop :=
  ∀ (pins : List (Addr × Obj)) (s : Shared) (σ : St) (H : Hp) (x : V) (xs : List V) (v : Value) (us : List Value) (Q : VK), Inv X pins σ H s → RelV x v → Vals xs us → r x xs H Q →
    wpAny (model X.prog X.w) X.A (call (.builtin id) (v :: us)) (EP X pins σ Q) X.xe s
section
variable {X : Cx} {a b : Expr} {ta tb : TE} {pos : Pos}
theorem IxR.or {r r' : R2} (h : IxR X r) (h' : IxR X r') : IxR X (fun x y H Q => r x y H Q ∨ r' x y H Q) := by
  intro value slice pins s σ H x y v u Q I rx ry q hs
  rcases q with q | q
  · exact h value slice pins s σ H x y v u Q I rx ry q hs
  · exact h' value slice pins s σ H x y v u Q I rx ry q hs
theorem MtR.or {id : String} {r r' : V → List V → Hp → VK → Prop} (h : MtR X id r) (h' : MtR X id r') : MtR X id (fun x xs H Q => r x xs H Q ∨ r' x xs H Q) := by
  intro pins s σ H x xs v us Q I rx rs q
  rcases q with q | q
  · exact h pins s σ H x xs v us Q I rx rs q
  · exact h' pins s σ H x xs v us Q I rx rs q
/-- a[b] -/
theorem pe_ix {r : R2} (hr : IxR X r) (ha : PE X a ta) (hb : PE X b tb) (hs : PlainIx b) : PE X (.Subscript a b pos) (tOp r ta tb) := by
  intro pins s σ H Q I h
  exact Subscript_ (binT ha hb I h fun v u s2 x y H2 I2 rx ry q => hr a b pins s2 σ H2 x y v u Q I2 rx ry q (hs _ _))

def rIxL (K : PySem.W.Frag) : R2 := fun x y H Q => ∃ p xs i v, x = .ref p ∧ y = .int i ∧ SqL K H p xs ∧ atI xs i = some v ∧ Q v H
def rIxT (K : PySem.W.Frag) : R2 := fun x y H Q => ∃ p xs i v, x = .ref p ∧ y = .int i ∧ SqT K H p xs ∧ atI xs i = some v ∧ Q v H
def rIxS : R2 := fun x y H Q => ∃ z i c, x = .str z ∧ y = .int i ∧ z.length ≤ sizeLine ∧ atI z.cps.toList i = some c ∧ Q (.str ⟨#[c]⟩) H
theorem ix_list : IxR X (rIxL X.K) := by
  intro value slice pins s σ H x y v u Q I rx ry h hs
  obtain ⟨p, xs, i, z, rfl, rfl, hq, he, q⟩ := h
  cases rx
  obtain ⟨t, rfl⟩ := ry
  obtain ⟨its, r, pl, hz⟩ := I.list hq
  obtain ⟨j, h1, h2, h3, h4, h5⟩ := atI_get he
  obtain ⟨w, ew, rw'⟩ := r.get h2
  have hl := r.length
  have hn := line63
  have fin : EP X pins σ Q w s := ⟨z, H, I, rw', q⟩
  by_cases h0 : 0 ≤ i
  · have hj : i.toNat = j := by
      rw [seqIndex_of h0 h5] at h1
      exact Option.some.inj h1
    exact item_listR pl.isList h0 (by omega) (by rw [hj]; simpa using ew) fin hs
  · have hj : (i + (its.toArray.size : Int)).toNat = j := by
      rw [seqIndex_neg (by omega) h4] at h1
      rw [List.size_toArray, ← hl]
      exact Option.some.inj h1
    exact subscriptTail_builtinR (x := w) pl.isList.typeIs slot_list_getitem.lookup
      (wpAny_getItem_list_neg (Q := fun r s' => r = w ∧ EP X pins σ Q r s') pl.isList (by omega) (by rw [List.size_toArray] <;> omega) (by omega) (by rw [hj]; simpa using ew) ⟨rfl, fin⟩) hs
theorem ix_tup : IxR X (rIxT X.K) := by
  intro value slice pins s σ H x y v u Q I rx ry h hs
  obtain ⟨p, xs, i, z, rfl, rfl, hq, he, q⟩ := h
  cases rx
  obtain ⟨t, rfl⟩ := ry
  obtain ⟨its, r, pl, hz⟩ := I.tuple hq
  obtain ⟨j, h1, h2, h3, h4, h5⟩ := atI_get he
  obtain ⟨w, ew, rw'⟩ := r.get h2
  have hl := r.length
  have hn := line63
  have fin : EP X pins σ Q w s := ⟨z, H, I, rw', q⟩
  exact subscriptTail_builtinR (x := w) pl.typeIs slot_tuple_getitem.lookup
    (getItem_tuple (j := j) (Q := fun r s' => r = w ∧ EP X pins σ Q r s') pl (by omega) (by omega) (by rw [List.size_toArray, ← hl]; exact h1) (by simpa using ew) ⟨rfl, fin⟩) hs
theorem ix_str : IxR X rIxS := by
  intro value slice pins s σ H x y v u Q I rx ry h hs
  obtain ⟨z, i, c, rfl, rfl, hz, he, q⟩ := h
  obtain ⟨t, rfl⟩ := rx
  obtain ⟨t', rfl⟩ := ry
  obtain ⟨j, h1, h2, h3, h4, h5⟩ := atI_get he
  have hl : z.cps.toList.length = z.length := by simp [Str.length]
  rw [hl] at h1 h4 h5
  have hn := line63
  exact tail_any (typeIs_str s z t) slot_str_getitem.lookup (getItem_str (c := c) (by
    have e1 : decide (i < -(2 ^ 63 : Int)) = false := decide_eq_false (by omega)
    have e2 : decide (i ≥ 2 ^ 63) = false := decide_eq_false (by omega)
    rw [e1, e2, Bool.or_false]) (by rw [h1]; simpa using h2) ⟨.str ⟨#[c]⟩, H, I.tok _, ⟨_, rfl⟩, q⟩) hs
/-- list, tuple or str -/
def rIx (K : PySem.W.Frag) : R2 := fun x y H Q => rIxL K x y H Q ∨ rIxT K x y H Q ∨ rIxS x y H Q
theorem ix_seq : IxR X (rIx X.K) := ix_list.or (ix_tup.or ix_str)

/-! ### xs[i] = v, any sign -/
/-- the list's object behind a store -/
theorem mapSeq_set (its : List Value) (n j : Nat) (u : Value) : Obj.mapSeq (·.setIfInBounds j u) { cls := .type "list", data := .seq its.toArray n } = { cls := .type "list", data := .seq (its.set j u).toArray n } := by
  simp [Obj.mapSeq]
theorem Inv.lst {pins : List (Addr × Obj)} {σ : St} {H : Hp} {s : Shared} {p : Addr} {xs : List V} (I : Inv X pins σ H s) (h : H p = some (.lst xs)) :
    ∃ (its : List Value) (n : Nat), Vals xs its ∧ s.heap.get? p = some { cls := .type "list", data := .seq its.toArray n } ∧ xs.length ≤ sizeLine := by
  obtain ⟨z, its, n, r, e⟩ := I.hok p _ h
  exact ⟨its, n, r, e, z⟩
/-- the list at p is written by an update of its object -/
theorem Inv.lstUpd {pins : List (Addr × Obj)} {σ : St} {H : Hp} {s : Shared} {p : Addr} {xs ys : List V} {its its' : List Value} {n n' : Nat} {f : Obj → Obj} (I : Inv X pins σ H s) (h : H p = some (.lst xs))
    (ho : s.heap.get? p = some { cls := .type "list", data := .seq its.toArray n }) (hf : f { cls := .type "list", data := .seq its.toArray n } = { cls := .type "list", data := .seq its'.toArray n' }) (r : Vals ys its') (hz : ys.length ≤ sizeLine) (t : Nat) :
    Inv X pins σ (upd H p (.lst ys)) { s with heap := s.heap.update p f, toks := t } := by
  have e : (s.heap.update p f).get? p = some { cls := .type "list", data := .seq its'.toArray n' } := by
    rw [Heap.get?_update_self f ho (by rw [hf] <;> rfl), hf]
  refine I.write (x := p) (e := p) (by rw [h]; trivial) (.inl rfl) (fun b u hb q => (Heap.get?_update_other _ _ (Ne.symm hb)).trans q) ⟨_, e⟩ ?_
  exact ⟨hz, its', n', r, e⟩
def rSetL : V → V → V → Hp → (Hp → Prop) → Prop := fun o i v H Q => ∃ p xs k j, o = .ref p ∧ i = .int k ∧ H p = some (.lst xs) ∧ ixN xs.length k = some j ∧ Q (upd H p (.lst (xs.set j v)))
theorem set_list : PSet X rSetL := by
  intro pins s σ H o i v ov iv u Q I ro ri rv h
  obtain ⟨p, xs, k, j, rfl, rfl, hp, hj, q⟩ := h
  cases ro
  obtain ⟨t, rfl⟩ := ri
  obtain ⟨its, n, r, ho, hz⟩ := I.lst hp
  obtain ⟨h1, h2, h3, h4⟩ := ixN_seq hj
  have hl := r.length
  have hn := line63
  have I' : Inv X pins σ (upd H p (.lst (xs.set j v))) { s with heap := s.heap.update p (Obj.mapSeq (·.setIfInBounds j u)) } :=
    I.lstUpd hp ho (mapSeq_set its n j u) (r.set rv j) (by rw [List.length_set]; exact hz) s.toks
  by_cases h0 : 0 ≤ k
  · have hk : k.toNat = j := by
      rw [seqIndex_of h0 h4] at h1
      exact Option.some.inj h1
    exact PySem.W.ki_setAt ho h0 (by omega) (by rw [List.size_toArray, ← hl]; exact h4) (by rw [hk]; exact ⟨_, I', q⟩)
  · have hk : (k + (its.toArray.size : Int)).toNat = j := by
      rw [seqIndex_neg (by omega) h3] at h1
      rw [List.size_toArray, ← hl]
      exact Option.some.inj h1
    exact PySem.W.ki_setBack ho (by omega) (by rw [List.size_toArray, ← hl]; exact h3) (by omega) (by rw [hk]; exact ⟨_, I', q⟩)

/-! ### slices -/
theorem slice_bounds (lo hi : Option Int) (n : Nat) : (sliceBounds lo hi none n).1 = ((HT.sIx n 0 lo : Nat) : Int) ∧ (sliceBounds lo hi none n).2.1 = ((HT.sIx n n hi : Nat) : Int) ∧ (sliceBounds lo hi none n).2.2 = 1 := by
  refine ⟨?_, ?_, rfl⟩
  · cases lo with
    | none => simp [sliceBounds, HT.sIx]
    | some i =>
      simp only [sliceBounds, HT.sIx, Option.getD_none, show (1 : Int) > 0 by decide, if_true]
      by_cases h : i < 0
      · simp only [h, if_true] <;> omega
      · simp only [h, if_false] <;> omega
  · cases hi with
    | none => simp [sliceBounds, HT.sIx]
    | some i =>
      simp only [sliceBounds, HT.sIx, Option.getD_none, show (1 : Int) > 0 by decide, if_true]
      by_cases h : i < 0
      · simp only [h, if_true] <;> omega
      · simp only [h, if_false] <;> omega
theorem slicePick_cut (its : List Value) (lo hi : Option Int) : slicePick its.toArray lo hi none = ((its.drop (HT.sIx its.length 0 lo)).take (HT.sIx its.length its.length hi - HT.sIx its.length 0 lo)).toArray := by
  obtain ⟨h1, h2, h3⟩ := slice_bounds lo hi its.toArray.size
  unfold slicePick
  rw [h1, h2, h3]
  simp only [sliceRange_one, pick_run, List.size_toArray] <;> rfl
/-- xs[lo:hi] of a list: a new list -/
def rSlL (K : PySem.W.Frag) : V → Option Int → Option Int → Hp → VK → Prop := fun x lo hi H Q => ∃ a xs, x = .ref a ∧ SqL K H a xs ∧ ∀ p, H p = none → Q (.ref p) (upd H p (.lst (cutV xs lo hi)))
theorem sl_list : SlR X (rSlL X.K) := by
  intro pins s σ H x v vl vu lo hi sl Q I rx hs pl pu h
  obtain ⟨a, xs, rfl, hx, q⟩ := h
  cases rx
  obtain ⟨its, r, ht, hz⟩ := I.list hx
  have hlen := r.length
  refine ⟨"list", _, slot_list_getitem.lookup, ht.isList.typeIs, ?_⟩
  refine wpAny_getItem_list_slice ht.isList hs pl pu .none (by simp) ?_ (by rw [List.size_toArray] <;> omega)
  rw [slicePick_cut, ← hlen]
  refine ⟨.ref s.heap.objs.size, _, I.laid (t' := s.toks) (o := .lst (cutV xs lo hi)) (fun b ob q => Heap.get?_push_of_some _ q) (Nat.le_refl _) ?_, rfl, q _ (I.hok.fresh (Nat.le_refl _))⟩
  exact ⟨Nat.le_trans (cutV_length xs lo hi) hz, _, 0, (r.drop (HT.sIx xs.length 0 lo)).take (HT.sIx xs.length xs.length hi - HT.sIx xs.length 0 lo), Heap.get?_push_size _ rfl⟩

/-! ### in, not in: flat items -/
def flatV : V → Bool
  | .non => true
  | .bl _ => true
  | .int _ => true
  | .str _ => true
  | _ => false
/-- == of flat values -/
def eqV : V → V → Bool
  | .non, .non => true
  | .bl a, .bl b => a == b
  | .bl a, .int b => (if a then 1 else 0) == b
  | .int a, .bl b => a == (if b then 1 else 0)
  | .int a, .int b => a == b
  | .str a, .str b => a == b
  | _, _ => false
theorem eqAt_V {A : Around} {s : Shared} {y x : V} {u v : Value} (ry : RelV y u) (rx : RelV x v) (fy : flatV y = true) (fx : flatV x = true) : SeqAt.EqAt A s u v (eqV y x) := by
  cases y with
  | non =>
    cases ry
    cases x with
    | non => cases rx; exact SeqAt.EqAt.same _
    | bl b => cases rx; exact SeqAt.EqAt.none_bool b
    | int b => obtain ⟨t, rfl⟩ := rx; exact SeqAt.EqAt.none_int b t
    | str b => obtain ⟨t, rfl⟩ := rx; exact SeqAt.EqAt.none_str b t
    | _ => exact absurd (show false = true from fx) Bool.false_ne_true
  | bl a =>
    cases ry
    cases x with
    | non => cases rx; exact SeqAt.EqAt.bool_none a
    | bl b => cases rx; exact SeqAt.EqAt.bool_bool a b
    | int b => obtain ⟨t, rfl⟩ := rx; exact SeqAt.EqAt.bool_int a b t
    | str b => obtain ⟨t, rfl⟩ := rx; exact SeqAt.EqAt.bool_str a b t
    | _ => exact absurd (show false = true from fx) Bool.false_ne_true
  | int a =>
    obtain ⟨t', rfl⟩ := ry
    cases x with
    | non => cases rx; exact SeqAt.EqAt.int_none a t'
    | bl b => cases rx; exact SeqAt.EqAt.int_bool a t' b
    | int b => obtain ⟨t, rfl⟩ := rx; exact SeqAt.EqAt.int_int a t' b t
    | str b => obtain ⟨t, rfl⟩ := rx; exact SeqAt.EqAt.int_str a t' b t
    | _ => exact absurd (show false = true from fx) Bool.false_ne_true
  | str a =>
    obtain ⟨t', rfl⟩ := ry
    cases x with
    | non => cases rx; exact SeqAt.EqAt.str_none a t'
    | bl b => cases rx; exact SeqAt.EqAt.str_bool a t' b
    | int b => obtain ⟨t, rfl⟩ := rx; exact SeqAt.EqAt.str_int a t' b t
    | str b => obtain ⟨t, rfl⟩ := rx; exact SeqAt.EqAt.str_str a t' b t
    | _ => exact absurd (show false = true from fx) Bool.false_ne_true
  | _ => exact absurd (show false = true from fy) Bool.false_ne_true
/-- the items' answers, read off the values (a value's own answer does not lean on its token) -/
def eqU (x : V) (u : Value) : Bool := match u with
  | .none => eqV .non x
  | .bool b => eqV (.bl b) x
  | .int i _ => eqV (.int i) x
  | .str z _ => eqV (.str z) x
  | _ => false
theorem eqU_of {x y : V} {u : Value} (r : RelV y u) (f : flatV y = true) : eqU x u = eqV y x := by
  cases y with
  | non => cases r; rfl
  | bl b => cases r; rfl
  | int i => obtain ⟨t, rfl⟩ := r; rfl
  | str z => obtain ⟨t, rfl⟩ := r; rfl
  | _ => exact absurd (show false = true from f) Bool.false_ne_true
theorem any_eqU {x : V} : ∀ {xs : List V} {us : List Value}, Vals xs us → xs.all flatV = true → us.any (eqU x) = xs.any fun y => eqV y x
  | _, _, .nil, _ => rfl
  | y :: xs, u :: us, .cons r t, f => by
    rw [List.all_cons, Bool.and_eq_true] at f
    rw [List.any_cons, List.any_cons, eqU_of r f.1, any_eqU t f.2]
theorem mem_eqAt {A : Around} {s : Shared} {x : V} {v : Value} (rx : RelV x v) (fx : flatV x = true) : ∀ {xs : List V} {us : List Value}, Vals xs us → xs.all flatV = true → ∀ u ∈ us, SeqAt.EqAt A s u v (eqU x u)
  | _, _, .nil, _ => fun u hu => by cases hu
  | y :: xs, u :: us, .cons r t, f => fun u' hu => by
    rw [List.all_cons, Bool.and_eq_true] at f
    rcases List.mem_cons.mp hu with rfl | hu
    · rw [eqU_of r f.1]; exact eqAt_V r rx f.1 fx
    · exact mem_eqAt rx fx t f.2 u' hu
def inV (x : V) (xs : List V) : Bool := xs.any fun y => eqV y x
/-- x in a list or tuple of flat items -/
def rIn (K : PySem.W.Frag) (neg : Bool) : R2 := fun x y H Q => ∃ p xs, y = .ref p ∧ (SqL K H p xs ∨ SqT K H p xs) ∧ flatV x = true ∧ xs.all flatV = true ∧ Q (.bl (if neg then !inV x xs else inV x xs)) H
theorem op_in_seq : OpR X (compareOp .In) (rIn X.K false) := by
  intro pins s σ H x y v u Q I rx ry h
  obtain ⟨p, xs, rfl, hq, fx, fs, q⟩ := h
  cases ry
  rcases hq with hq | hq
  · obtain ⟨its, r, pl, hz⟩ := I.list hq
    refine SeqAt.in_listAt (eqU x) pl.isList (fun w hw => mem_eqAt rx fx r fs w (by simpa using hw)) ⟨.bl _, H, I, rfl, ?_⟩
    rw [show its.toArray.any (eqU x) = its.any (eqU x) by simp, any_eqU r fs]
    exact q
  · obtain ⟨its, r, pl, hz⟩ := I.tuple hq
    refine SeqAt.in_tupleAt (eqU x) pl (fun w hw => mem_eqAt rx fx r fs w (by simpa using hw)) ⟨.bl _, H, I, rfl, ?_⟩
    rw [show its.toArray.any (eqU x) = its.any (eqU x) by simp, any_eqU r fs]
    exact q
theorem op_notIn_seq : OpR X (compareOp .NotIn) (rIn X.K true) := by
  intro pins s σ H x y v u Q I rx ry h
  obtain ⟨p, xs, rfl, hq, fx, fs, q⟩ := h
  cases ry
  rcases hq with hq | hq
  · obtain ⟨its, r, pl, hz⟩ := I.list hq
    refine SeqAt.notIn_listAt (eqU x) pl.isList (fun w hw => mem_eqAt rx fx r fs w (by simpa using hw)) ⟨.bl _, H, I, rfl, ?_⟩
    rw [show its.toArray.any (eqU x) = its.any (eqU x) by simp, any_eqU r fs]
    exact q
  · obtain ⟨its, r, pl, hz⟩ := I.tuple hq
    refine SeqAt.notIn_tupleAt (eqU x) pl (fun w hw => mem_eqAt rx fx r fs w (by simpa using hw)) ⟨.bl _, H, I, rfl, ?_⟩
    rw [show its.toArray.any (eqU x) = its.any (eqU x) by simp, any_eqU r fs]
    exact q
theorem op_notIn_str : OpR X (compareOp .NotIn) (fun x y H Q => ∃ i j, x = .str i ∧ y = .str j ∧ Q (.bl (!(!(Builtin.Str.occurrences j i 0 j.length 1).isEmpty))) H) := by
  intro pins s σ H x y v u Q I rx ry h
  obtain ⟨i, j, rfl, rfl, q⟩ := h
  obtain ⟨t, rfl⟩ := rx
  obtain ⟨t', rfl⟩ := ry
  exact notIn_str ⟨.bl _, H, I, rfl, q⟩

/-! ### len, list(x), tuple(x) of any list or tuple that is read -/
theorem call_len_seq : CallR X (.builtin "len") (fun xs H Q => ∃ p ys, xs = [.ref p] ∧ (SqL X.K H p ys ∨ SqT X.K H p ys) ∧ Q (.int ys.length) H) := by
  intro pins s σ H xs us Q I r h
  obtain ⟨p, ys, rfl, hq, q⟩ := h
  obtain ⟨u, rfl, rx⟩ := vals1 r
  cases rx
  have hn := line63
  rcases hq with hq | hq
  · obtain ⟨its, r', pl, hz⟩ := I.list hq
    have hlen := r'.length
    exact Calls.call_len_list pl.isList (by simp only [List.size_toArray] <;> omega) ⟨.int ys.length, H, I.tok _, ⟨s.toks + 1, by rw [List.size_toArray, hlen]⟩, q⟩
  · obtain ⟨its, r', pl, hz⟩ := I.tuple hq
    have hlen := r'.length
    exact len_tuple pl (by simp only [List.size_toArray] <;> omega) ⟨.int ys.length, H, I.tok _, ⟨s.toks + 1, by rw [List.size_toArray, hlen]⟩, q⟩
theorem call_len_str : CallR X (.builtin "len") (fun xs H Q => ∃ z, xs = [.str z] ∧ z.length ≤ sizeLine ∧ Q (.int z.length) H) := by
  intro pins s σ H xs us Q I r h
  obtain ⟨z, rfl, hz, q⟩ := h
  obtain ⟨u, rfl, t, rfl⟩ := vals1 r
  have hn := line63
  exact len_str (by omega) ⟨.int z.length, H, I.tok _, ⟨_, rfl⟩, q⟩
theorem CallR.or {f : Value} {r r' : List V → Hp → VK → Prop} (h : CallR X f r) (h' : CallR X f r') : CallR X f (fun xs H Q => r xs H Q ∨ r' xs H Q) := by
  intro pins s σ H xs us Q I rs q
  rcases q with q | q
  · exact h pins s σ H xs us Q I rs q
  · exact h' pins s σ H xs us Q I rs q
theorem call_list_of : CallR X (.type "list") (fun xs H Q => ∃ p ys, xs = [.ref p] ∧ (SqL X.K H p ys ∨ SqT X.K H p ys) ∧ ∀ l, H l = none → Q (.ref l) (upd H l (.lst ys))) := by
  intro pins s σ H xs us Q I r h
  obtain ⟨p, ys, rfl, hq, q⟩ := h
  obtain ⟨u, rfl, rx⟩ := vals1 r
  cases rx
  have fin : ∀ (its : List Value), Vals ys its → ys.length ≤ sizeLine → ∀ (h' : Heap) (c' : Nat), (∀ b o', s.heap.get? b = some o' → h'.get? b = some o') →
      h'.get? s.heap.objs.size = some { cls := .type "list", dict := none, data := .seq its.toArray c', slots := #[] } → EP X pins σ Q (.ref s.heap.objs.size) { s with heap := h' } := fun its r' hz h' c' kp e =>
    ⟨.ref s.heap.objs.size, _, I.laid (t' := s.toks) kp (Nat.le_refl _) (show ObjOk X.prog X.w _ h' _ (.lst ys) from ⟨hz, its, c', r', e⟩), rfl, q _ (I.hok.fresh (Nat.le_refl _))⟩
  rcases hq with hq | hq
  · obtain ⟨its, r', pl, hz⟩ := I.list hq
    have hlen := r'.length
    obtain ⟨o, ho, hc, n, hd⟩ := pl.isList
    exact call_list_seq p (.inl rfl) ho hc hd (fun h' c' kp e => fin its r' hz h' c' kp e) (by simp only [List.size_toArray] <;> omega)
  · obtain ⟨its, r', pl, hz⟩ := I.tuple hq
    have hlen := r'.length
    obtain ⟨o, ho, hc, n, hd⟩ := pl
    exact call_list_seq p (.inr rfl) ho hc hd (fun h' c' kp e => fin its r' hz h' c' kp e) (by simp only [List.size_toArray] <;> omega)
theorem call_tuple_of : CallR X (.type "tuple") (fun xs H Q => ∃ p ys, xs = [.ref p] ∧ ((SqL X.K H p ys ∧ ∀ l, H l = none → Q (.ref l) (upd H l (.tup ys))) ∨ (SqT X.K H p ys ∧ Q (.ref p) H))) := by
  intro pins s σ H xs us Q I r h
  obtain ⟨p, ys, rfl, h⟩ := h
  obtain ⟨u, rfl, rx⟩ := vals1 r
  cases rx
  rcases h with ⟨hq, q⟩ | ⟨hq, q⟩
  · obtain ⟨its, r', pl, hz⟩ := I.list hq
    have hlen := r'.length
    refine call_tuple_list pl.isList (fun h' kp => ?_) (by simp only [List.size_toArray] <;> omega)
    have I1 : Inv X pins σ H { s with heap := h' } := I.kept (t' := s.toks) kp
    have I2 : Inv X pins σ (upd H h'.objs.size (.tup ys)) { s with heap := h'.push { cls := .type "tuple", data := .seq its.toArray } } :=
      I1.laid (t' := s.toks) (fun b o e => Heap.get?_push_of_some _ e) (Nat.le_refl _) (show ObjOk X.prog X.w _ _ _ (.tup ys) from ⟨hz, its, r', IsTup.new _ _⟩)
    exact ⟨.ref h'.objs.size, _, I2, rfl, q _ (I1.hok.fresh (Nat.le_refl _))⟩
  · obtain ⟨its, r', pl, hz⟩ := I.tuple hq
    exact call_tuple_same pl ⟨.ref p, H, I, rfl, q⟩

/-! ### the call of a builtin's method: o.m(..) -/
/-- the value is of that builtin type -/
def tyV (K : PySem.W.Frag) (T : String) (x : V) (H : Hp) : Prop := match x with
  | .str _ => T = "str"
  | .int _ => T = "int"
  | .ref p => (T = "list" ∧ ∃ xs, SqL K H p xs) ∨ (T = "tuple" ∧ ∃ o, K.lookup p = some o ∧ o.cls = .type "tuple" ∧ o.dict = none) ∨
      (T = "dict" ∧ ((∃ kvs, H p = some (.dK kvs)) ∨ ∃ kvs, H p = some (.dT kvs))) ∨ (T = "set" ∧ ∃ S n, H p = some (.set S n))
  | _ => False
theorem tyV_is {pins : List (Addr × Obj)} {σ : St} {H : Hp} {s : Shared} {T : String} {x : V} {v : Value} (I : Inv X pins σ H s) (r : RelV x v) (ty : tyV X.K T x H) :
    s.TypeIs v T ∧ ∀ a, v = .ref a → ∃ ob, s.heap.get? a = some ob ∧ ob.dict = none := by
  cases x with
  | str z =>
    obtain ⟨t, rfl⟩ := r
    cases (show T = "str" from ty)
    exact ⟨typeIs_str s z t, fun _ e => nomatch e⟩
  | int i =>
    obtain ⟨t, rfl⟩ := r
    cases (show T = "int" from ty)
    exact ⟨typeIs_int s i t, fun _ e => nomatch e⟩
  | ref p =>
    cases r
    rcases ty with ⟨rfl, xs, hq⟩ | ⟨rfl, o, hk, hc, hd⟩ | ⟨rfl, hk⟩ | ⟨rfl, S, n, hk⟩
    · obtain ⟨its, _, pl, _⟩ := I.list hq
      refine ⟨pl.isList.typeIs, fun a e => ?_⟩
      cases e
      obtain ⟨o, n, e, c, hd, _⟩ := pl
      exact ⟨o, e, hd⟩
    · refine ⟨⟨o, I.kIn p o hk, hc⟩, fun a e => ?_⟩
      cases e
      exact ⟨o, I.kIn _ o hk, hd⟩
    · have z : ∃ o, s.heap.get? p = some o ∧ o.ExactDict := by
        rcases hk with ⟨kvs, hk⟩ | ⟨kvs, hk⟩
        · obtain ⟨_, _, _, _, o, _, _, e, ex, _⟩ := I.hok p _ hk
          exact ⟨o, e, ex⟩
        · obtain ⟨_, _, _, _, o, _, _, e, ex, _⟩ := I.hok p _ hk
          exact ⟨o, e, ex⟩
      obtain ⟨o, e, ex⟩ := z
      refine ⟨⟨o, e, ex.1⟩, fun a e2 => ?_⟩
      cases e2
      exact ⟨o, e, ex.2.1⟩
    · obtain ⟨o, _, _, _, e, ex, _⟩ := I.hok p _ hk
      refine ⟨⟨o, e, ex.1⟩, fun a e2 => ?_⟩
      cases e2
      exact ⟨o, e, ex.2.1⟩
  | _ => exact False.elim ty
def tBM0 (K : PySem.W.Frag) (T : String) (r : V → List V → Hp → VK → Prop) (to : TE) : TE := fun σ H Q => to σ H fun x H1 => tyV K T x H1 ∧ r x [] H1 Q
def tBM (K : PySem.W.Frag) (T : String) (r : V → List V → Hp → VK → Prop) (to : TE) (t : TA) : TE := fun σ H Q => to σ H fun x H1 => tyV K T x H1 ∧ t σ H1 fun xs H2 => r x xs H2 Q
variable {o e : Expr} {es : List Expr} {to : TE} {t : TA} {name : Str} {apos cpos : Pos} {T id : String} {r : V → List V → Hp → VK → Prop}
theorem pe_bm0 (pa : PlainAttrs T) (slot : Slot T name id) (hty : typeOf (.builtin id) = pure (.type "method_descriptor")) (hm : MtR X id r) (ho : PE X o to)
    (hbase : attributeBase o name X.env (eval o X.env) = eval o X.env := by rfl) (hline : (apos.endLine == cpos.line) = true := by rfl) : PE X (.Call (.Attribute o name apos) [] [] cpos) (tBM0 X.K T r to) := by
  intro pins s σ H Q I h
  refine wpAny_Call_method0_late hbase hline (thn (ho pins s σ H _ I h) fun v s1 ⟨x, H1, I1, r1, ty, q1⟩ => ?_)
  obtain ⟨h1, h2⟩ := tyV_is I1 r1 ty
  exact ⟨T, id, pa, slot, hty, h1, h2, Calls.callWith_builtin rfl (PySem.evalArgs_none (hm pins s1 σ H1 x [] v [] Q I1 r1 .nil q1))⟩
theorem pe_bm (pa : PlainAttrs T) (slot : Slot T name id) (hty : typeOf (.builtin id) = pure (.type "method_descriptor")) (hm : MtR X id r) (ho : PE X o to) (ha : PA X (e :: es) t)
    (hbase : attributeBase o name X.env (eval o X.env) = eval o X.env := by rfl)
    (hfew : ((backTo cpos (starEach (e :: es) X.env)).all (fun x => !x.1) && (backToKw cpos (keywordEach [] X.env)).all (fun x => x.1.isSome)
      && decide ((e :: es).length + ([] : List Keyword).length + (if ([] : List Keyword).isEmpty then 0 else 1) < 30)) = true := by rfl)
    (hline : (apos.endLine == cpos.line) = true := by rfl) (hs : starEach (e :: es) X.env = (false, eval e X.env) :: starEach es X.env := by rfl) (hplain : (backTo cpos (starEach es X.env)).any (·.1) = false := by rfl) :
    PE X (.Call (.Attribute o name apos) (e :: es) [] cpos) (tBM X.K T r to t) := by
  intro pins s σ H Q I h
  refine wpAny_Call_method_late hbase hfew hline rfl (thn (ho pins s σ H _ I h) fun v s1 ⟨x, H1, I1, r1, ty, q1⟩ => ?_)
  obtain ⟨h1, h2⟩ := tyV_is I1 r1 ty
  refine ⟨T, id, pa, slot, hty, h1, h2, ?_⟩
  have hA := ha cpos pins s1 σ H1 _ I1 q1
  rw [hs] at hA ⊢
  refine Calls.callWith_builtin (by show (false || (backTo cpos (starEach es X.env)).any (·.1)) = false; rw [hplain] <;> rfl) (Calls.evalArgs_plain ?_)
  exact thn hA fun us s2 ⟨vs, H2, I2, r2, q2⟩ => hm pins s2 σ H2 x vs v us Q I2 r1 r2 q2
/- xs.append(e), list.index on a module's tuple .. are MtR facts of 06m -/
end
end L2

namespace L2
open PySem PySem.Spec PyProof.Rows

def MtM (X : Cx) (id : String) (r : V → List V → Hp → VK → Prop) : Prop :=
  ∀ (pins : List (Addr × Obj)) (s : Shared) (σ : St) (H : Hp) (x : V) (xs : List V) (v : Value) (us : List Value) (Q : VK), Inv X pins σ H s → RelV x v → Vals xs us → r x xs H Q →
    wpAny (model X.prog X.w) X.A (call (.builtin id) (v :: us)) (EP X pins σ Q) X.xe s

/-! ### lists of values -/
theorem Vals.one : ∀ {x : V} {us : List Value}, Vals [x] us → ∃ u, us = [u] ∧ RelV x u
  | _, _, .cons r .nil => ⟨_, rfl, r⟩
theorem Vals.two : ∀ {x y : V} {us : List Value}, Vals [x, y] us → ∃ u v, us = [u, v] ∧ RelV x u ∧ RelV y v
  | _, _, _, .cons r (.cons q .nil) => ⟨_, _, rfl, r, q⟩
theorem Vals.zero : ∀ {us : List Value}, Vals [] us → us = []
  | _, .nil => rfl
theorem Vals.dropLast {xs : List V} {us : List Value} (h : Vals xs us) : Vals xs.dropLast us.dropLast := by
  induction h with
  | nil => exact .nil
  | cons r t ih =>
    cases t with
    | nil => exact .nil
    | cons q t' => exact .cons r ih
theorem Vals.eraseIdx : ∀ {xs : List V} {us : List Value} (i : Nat), Vals xs us → Vals (xs.eraseIdx i) (us.eraseIdx i)
  | _, _, _, .nil => .nil
  | _, _, 0, .cons _ t => t
  | _, _, i + 1, .cons r t => .cons r (Vals.eraseIdx i t)
theorem Vals.reverse {xs : List V} {us : List Value} (h : Vals xs us) : Vals xs.reverse us.reverse := by
  induction h with
  | nil => exact .nil
  | cons r t ih => rw [List.reverse_cons, List.reverse_cons]; exact Vals.append ih (.cons r .nil)
theorem Vals.rep {xs : List V} {us : List Value} (h : Vals xs us) : ∀ k : Nat, Vals (List.replicate k xs).flatten (List.replicate k us).flatten
  | 0 => .nil
  | k + 1 => by
    rw [List.replicate_succ, List.replicate_succ, List.flatten_cons, List.flatten_cons]
    exact Vals.append h (Vals.rep h k)
theorem erase_last {α : Type} (l : List α) : l.eraseIdx (l.length - 1) = l.dropLast := by
  induction l with
  | nil => rfl
  | cons a r ih =>
    cases r with
    | nil => rfl
    | cons b r =>
      have e : (a :: b :: r).length - 1 = ((b :: r).length - 1) + 1 := by
        have h1 : (a :: b :: r).length = r.length + 2 := rfl
        have h2 : (b :: r).length = r.length + 1 := rfl
        omega
      rw [e, List.eraseIdx_cons_succ, ih]
      all_goals rfl
theorem len_erase {α : Type} : ∀ (l : List α) (i : Nat), (l.eraseIdx i).length ≤ l.length
  | [], _ => Nat.le_refl _
  | _ :: _, 0 => Nat.le_succ _
  | _ :: r, i + 1 => Nat.succ_le_succ (len_erase r i)
theorem foldl_rep (its : List Value) : ∀ (k : Nat) (acc : List Value),
    List.foldl (fun x1 x2 => x1 ++ x2) acc.toArray (List.replicate k its.toArray) = (acc ++ (List.replicate k its).flatten).toArray
  | 0, acc => by simp
  | k + 1, acc => by
    have e : acc.toArray ++ its.toArray = (acc ++ its).toArray := by simp
    have e2 : (acc ++ its) ++ (List.replicate k its).flatten = acc ++ (List.replicate (k + 1) its).flatten := by
      rw [List.replicate_succ, List.flatten_cons, List.append_assoc]
    rw [← e2, ← foldl_rep its k (acc ++ its), ← e, List.replicate_succ, List.foldl_cons]

section
variable {X : Cx} {pins : List (Addr × Obj)} {σ : St} {H : Hp} {s : Shared} {l b : Addr} {xs ys zs : List V}

/-! ### the two steps: a tracked list is rewritten, a new list is laid -/
theorem Inv.lset {its its' : List Value} {n : Nat} {f : Array Value → Array Value} {t' : Nat} (I : Inv X pins σ H s) (hH : H l = some (.lst xs))
    (e : s.heap.get? l = some { cls := .type "list", data := .seq its.toArray n }) (hf : f its.toArray = its'.toArray) (hv : Vals ys its') (hz : ys.length ≤ sizeLine) :
    Inv X pins σ (upd H l (.lst ys)) { s with heap := s.heap.update l (Obj.mapSeq f), toks := t' } := by
  have q := PySem.IsL.update e f
  rw [hf] at q
  refine I.write (x := l) (e := l) (by rw [hH]; exact trivial) (.inl rfl) (fun b' u hb hu => (Heap.get?_update_other s.heap (Obj.mapSeq f) (Ne.symm hb)).trans hu) ⟨_, q⟩ ?_
  exact ⟨hz, its', _, hv, q⟩
theorem Inv.lnew {its : List Value} {t' : Nat} (I : Inv X pins σ H s) (hv : Vals ys its) (hz : ys.length ≤ sizeLine) :
    Inv X pins σ (upd H s.heap.objs.size (.lst ys)) { s with heap := s.heap.push { cls := .type "list", data := .seq its.toArray }, toks := t' } :=
  I.laid (fun _ _ q => Heap.get?_push_of_some _ q) (Nat.le_refl _) ⟨hz, its, 0, hv, Heap.get?_push_size _ rfl⟩
theorem Inv.fresh (I : Inv X pins σ H s) : H s.heap.objs.size = none := I.hok.fresh (Nat.le_refl _)
theorem Inv.lstM (I : Inv X pins σ H s) (hH : H l = some (.lst xs)) : xs.length ≤ sizeLine ∧ ∃ (its : List Value) (n : Nat), Vals xs its ∧ xs.length = its.length ∧ s.heap.get? l = some { cls := .type "list", data := .seq its.toArray n } := by
  obtain ⟨z, its, n, r, e⟩ := I.hok l _ hH
  exact ⟨z, its, n, r, r.length, e⟩

theorem notLongL {n : Nat} (h : n ≤ sizeLine) : Builtin.List.listTooLong n = false := by
  unfold Builtin.List.listTooLong
  exact decide_eq_false (by omega)
end

section
variable {X : Cx}

/-! ### methods -/
def rAppend : V → List V → Hp → VK → Prop := fun x vs H Q => ∃ l xs y, x = .ref l ∧ vs = [y] ∧ H l = some (.lst xs) ∧ xs.length < sizeLine ∧ Q .non (upd H l (.lst (xs ++ [y])))
theorem mt_append : MtM X "list.append" rAppend := by
  intro pins s σ H x vs v us Q I rx rv h
  obtain ⟨l, xs, y, rfl, rfl, hH, hz, q⟩ := h
  cases rx
  obtain ⟨u, rfl, ru⟩ := rv.one
  obtain ⟨z, its, n, r, hl, e⟩ := I.lstM hH
  refine call_meets F.slot_list_append ⟨_, e, rfl⟩ F.entry_list_append (F.args_list_append_2 _ _) (PySem.list_append l its.toArray n u (by rw [List.size_toArray]; omega)) ⟨e, ?_⟩
  refine ⟨.non, _, I.lset (its' := its ++ [u]) hH e (by simp) (r.append (.cons ru .nil)) ?_, rfl, q⟩
  rw [List.length_append, List.length_singleton]
  omega

def rExtend : V → List V → Hp → VK → Prop := fun x vs H Q => ∃ l b xs zs, x = .ref l ∧ vs = [.ref b] ∧ H l = some (.lst xs) ∧ H b = some (.lst zs) ∧ xs.length + zs.length ≤ sizeLine ∧ Q .non (upd H l (.lst (xs ++ zs)))
theorem mt_extend : MtM X "list.extend" rExtend := by
  intro pins s σ H x vs v us Q I rx rv h
  obtain ⟨l, b, xs, zs, rfl, rfl, hH, hB, hz, q⟩ := h
  cases rx
  obtain ⟨u, rfl, ru⟩ := rv.one
  cases ru
  obtain ⟨z, its, n, r, hl, e⟩ := I.lstM hH
  obtain ⟨z2, its2, n2, r2, hl2, e2⟩ := I.lstM hB
  have hsz : its.toArray.size + its2.toArray.size ≤ sizeLine := by rw [List.size_toArray, List.size_toArray]; omega
  have hlong : ¬ (!its.toArray.isEmpty && Builtin.List.listTooLong (its.toArray.size + its2.toArray.size)) = true := by
    rw [notLongL hsz, Bool.and_false]
    exact Bool.false_ne_true
  refine call_meets F.slot_list_extend ⟨_, e, rfl⟩ F.entry_list_extend (F.args_list_extend_2 _ _)
    (AutoSeq1.list_extend_list_list_0 l its.toArray n b its2.toArray n2 hlong (by rw [List.size_toArray]; omega) (by omega)) ⟨e, e2, ?_⟩
  refine ⟨.non, _, I.lset (its' := its ++ its2) hH e (by simp) (r.append r2) ?_, rfl, q⟩
  rw [List.length_append]
  omega

def rPop : V → List V → Hp → VK → Prop := fun x vs H Q => ∃ l xs y, x = .ref l ∧ vs = [] ∧ H l = some (.lst xs) ∧ xs[xs.length - 1]? = some y ∧ Q y (upd H l (.lst xs.dropLast))
theorem mt_pop : MtM X "list.pop" rPop := by
  intro pins s σ H x vs v us Q I rx rv h
  obtain ⟨l, xs, y, rfl, rfl, hH, hy, q⟩ := h
  cases rx
  have hus := rv.zero
  subst hus
  obtain ⟨z, its, n, r, hl, e⟩ := I.lstM hH
  obtain ⟨u, hu, ru⟩ := r.get hy
  have hy' : its.toArray[its.toArray.size - 1]? = some u := by
    show its.toArray[its.length - 1]? = some u
    rw [← Array.getElem?_toList, ← hl]
    exact hu
  refine call_meets F.slot_list_pop ⟨_, e, rfl⟩ F.entry_list_pop (F.args_list_pop_1 _) (MeetsSeq.list_pop_last l its.toArray n u hy' (by rw [List.size_toArray]; omega)) ⟨e, ?_⟩
  refine ⟨y, _, I.lset (its' := its.dropLast) hH e ?_ r.dropLast ?_, ru, q⟩
  · show its.toArray.eraseIdxIfInBounds (its.toArray.size - 1) = its.dropLast.toArray
    rw [List.size_toArray, List.eraseIdxIfInBounds_toArray, erase_last]
  · rw [List.length_dropLast]
    omega

def rPopAt : V → List V → Hp → VK → Prop := fun x vs H Q => ∃ l xs i k y, x = .ref l ∧ vs = [.int i] ∧ H l = some (.lst xs) ∧ -(2 ^ 63) ≤ i ∧ i < 2 ^ 63 ∧ seqIndex? i xs.length = some k ∧ xs[k]? = some y ∧ Q y (upd H l (.lst (xs.eraseIdx k)))
theorem mt_popAt : MtM X "list.pop" rPopAt := by
  intro pins s σ H x vs v us Q I rx rv h
  obtain ⟨l, xs, i, k, y, rfl, rfl, hH, h1, h2, hk, hy, q⟩ := h
  cases rx
  obtain ⟨u, rfl, ru⟩ := rv.one
  obtain ⟨t, rfl⟩ := ru
  obtain ⟨z, its, n, r, hl, e⟩ := I.lstM hH
  obtain ⟨w, hw, rw'⟩ := r.get hy
  refine call_meets F.slot_list_pop ⟨_, e, rfl⟩ F.entry_list_pop (F.args_list_pop_2 _ _)
    (MeetsSeq.list_pop_at l its.toArray n i t k w (fitsIndex_both h1 h2) (by rw [List.size_toArray, ← hl]; exact hk) (by rw [← Array.getElem?_toList]; exact hw) (by rw [List.size_toArray]; omega)) ⟨e, ?_⟩
  refine ⟨y, _, I.lset (its' := its.eraseIdx k) hH e ?_ (r.eraseIdx k) ?_, rw', q⟩
  · show its.toArray.eraseIdxIfInBounds k = (its.eraseIdx k).toArray
    rw [List.eraseIdxIfInBounds_toArray]
  · have := len_erase xs k
    omega

def rReverse : V → List V → Hp → VK → Prop := fun x vs H Q => ∃ l xs, x = .ref l ∧ vs = [] ∧ H l = some (.lst xs) ∧ Q .non (upd H l (.lst xs.reverse))
theorem mt_reverse : MtM X "list.reverse" rReverse := by
  intro pins s σ H x vs v us Q I rx rv h
  obtain ⟨l, xs, rfl, rfl, hH, q⟩ := h
  cases rx
  have hus := rv.zero
  subst hus
  obtain ⟨z, its, n, r, hl, e⟩ := I.lstM hH
  refine call_meets F.slot_list_reverse ⟨_, e, rfl⟩ F.entry_list_reverse (F.args_list_reverse_1 _) (AutoSeq1.list_reverse_list_0 l its.toArray n (by rw [List.size_toArray]; omega)) ⟨e, ?_⟩
  refine ⟨.non, _, I.lset (its' := its.reverse) hH e (by simp) r.reverse ?_, rfl, q⟩
  rw [List.length_reverse]
  omega

def rClear : V → List V → Hp → VK → Prop := fun x vs H Q => ∃ l xs, x = .ref l ∧ vs = [] ∧ H l = some (.lst xs) ∧ Q .non (upd H l (.lst []))
theorem mt_clear : MtM X "list.clear" rClear := by
  intro pins s σ H x vs v us Q I rx rv h
  obtain ⟨l, xs, rfl, rfl, hH, q⟩ := h
  cases rx
  have hus := rv.zero
  subst hus
  obtain ⟨z, its, n, r, hl, e⟩ := I.lstM hH
  refine call_meets F.slot_list_clear ⟨_, e, rfl⟩ F.entry_list_clear (F.args_list_clear_1 _) (AutoSeq1.list_clear_list_0 l its.toArray n (by rw [List.size_toArray]; omega)) ⟨e, ?_⟩
  exact ⟨.non, _, I.lset (its' := []) (ys := []) hH e rfl .nil (Nat.zero_le _), rfl, q⟩

/-! ### list + list, list += list, list * int -/
def rCat : R2 := fun x y H Q => ∃ l b xs zs, x = .ref l ∧ y = .ref b ∧ H l = some (.lst xs) ∧ H b = some (.lst zs) ∧ xs.length + zs.length ≤ sizeLine ∧ ∀ p, H p = none → Q (.ref p) (upd H p (.lst (xs ++ zs)))
theorem op_cat : OpR X (binaryOp .Add) rCat := by
  intro pins s σ H x y v u Q I rx ry h
  obtain ⟨l, b, xs, zs, rfl, rfl, hH, hB, hz, q⟩ := h
  cases rx
  cases ry
  obtain ⟨z, its, n, r, hl, e⟩ := I.lstM hH
  obtain ⟨z2, its2, n2, r2, hl2, e2⟩ := I.lstM hB
  refine PySem.P.add_list e e2 ?_ (by rw [List.size_toArray, List.size_toArray]; omega)
  have ea : its.toArray ++ its2.toArray = (its ++ its2).toArray := by simp
  rw [ea]
  exact ⟨.ref _, _, I.lnew (t' := s.toks) (r.append r2) (by rw [List.length_append]; omega), rfl, q _ I.fresh⟩
/-- a list times an int (a negative one is nothing) -/
def rRep : R2 := fun x y H Q => ∃ l k xs, x = .ref l ∧ y = .int k ∧ H l = some (.lst xs) ∧ -(2 ^ 63) ≤ k ∧ k < 2 ^ 63 ∧ xs.length * k.toNat ≤ sizeLine ∧
  ∀ p, H p = none → Q (.ref p) (upd H p (.lst (List.replicate k.toNat xs).flatten))
theorem len_rep {α : Type} (xs : List α) (k : Nat) : (List.replicate k xs).flatten.length = k * xs.length := by
  induction k with
  | zero => simp
  | succ k ih => rw [List.replicate_succ, List.flatten_cons, List.length_append, ih, Nat.succ_mul, Nat.add_comm]
theorem op_rep : OpR X (binaryOp .Mult) rRep := by
  intro pins s σ H x y v u Q I rx ry h
  obtain ⟨l, k, xs, rfl, rfl, hH, h1, h2, hz, q⟩ := h
  cases rx
  obtain ⟨t, rfl⟩ := ry
  obtain ⟨z, its, n, r, hl, e⟩ := I.lstM hH
  have hlen : its.toArray.size * k.toNat ≤ sizeLine := by rw [List.size_toArray, ← hl]; exact hz
  have hcap : ¬ its.toArray.size * k.toNat > (2 ^ 63 - 1) / 8 := by
    have : (sizeLine : Nat) ≤ (2 ^ 63 - 1) / 8 := by decide
    omega
  have hfit : ¬ (!Builtin.List.listFitsIndex k) = true := by
    rw [fitsIndex_both h1 h2]
    exact Bool.false_ne_true
  have hlong : ¬ Builtin.List.listTooLong (its.toArray.size * k.toNat) = true := by
    rw [notLongL hlen]
    exact Bool.false_ne_true
  have hnew : List.foldl (fun x1 x2 => x1 ++ x2) #[] (List.replicate (if its.toArray.isEmpty = true then 0 else k.toNat) its.toArray) = (List.replicate k.toNat its).flatten.toArray := by
    have f0 : ∀ m : Nat, List.foldl (fun x1 x2 => x1 ++ x2) #[] (List.replicate m its.toArray) = (List.replicate m its).flatten.toArray := fun m => by
      have := foldl_rep its m []
      rw [List.nil_append] at this
      exact this
    rw [f0]
    cases its with
    | nil => simp
    | cons a r' => rw [if_neg (by simp)]
  refine wpAny_binaryOp_repeat_ref (T := "list") (U := "int") (by decide) ⟨_, e, rfl⟩ (fun s' => typeIs_int s' k t) noFill_list_mul F.fills_int_mul F.slot_int_rmul repeat_list F.slot_int_index.lookup
    (call_meets F.slot_int_rmul (typeIs_int s k t) F.entry_int_rmul (F.args_int_rmul_2 _ _) (int___rmul___int_list k t l its.toArray n)
      ⟨e, rfl, ⟨_, e, rfl⟩, call_meets F.slot_list_mul ⟨_, e, rfl⟩ F.entry_list_mul (F.args_list_mul_2 _ _) (AutoListH.list___mul___list_int_3 l its.toArray n k t hfit hcap hlong) ⟨e, ?_⟩⟩)
  rw [hnew]
  exact ⟨.ref _, _, I.lnew (t' := s.toks) (r.rep k.toNat) (by rw [len_rep, Nat.mul_comm]; exact hz), rfl, q _ I.fresh⟩

/-! ### del xs[i] -/
theorem del_list {pins : List (Addr × Obj)} {s : Shared} {σ : St} {H : Hp} {l : Addr} {xs : List V} {i : Int} {t : Tok} {k : Nat} {Q : Unit → Shared → Prop} (I : Inv X pins σ H s) (hH : H l = some (.lst xs))
    (h1 : -(2 ^ 63) ≤ i) (h2 : i < 2 ^ 63) (hk : seqIndex? i xs.length = some k) (h : ∀ s', Inv X pins σ (upd H l (.lst (xs.eraseIdx k))) s' → Q () s') :
    wpAny (model X.prog X.w) X.A (delItem (.ref l) (.int i t)) Q X.xe s := by
  obtain ⟨z, its, n, r, hl, e⟩ := I.lstM hH
  refine PySem.P.delItem_list (k := k) e (fitsIndex_both h1 h2) (by rw [List.size_toArray, ← hl]; exact hk) (h _ ?_) (by rw [List.size_toArray]; omega)
  refine I.lset (its' := its.eraseIdx k) (t' := s.toks) hH e ?_ (r.eraseIdx k) ?_
  · show its.toArray.eraseIdxIfInBounds k = (its.eraseIdx k).toArray
    rw [List.eraseIdxIfInBounds_toArray]
  · have := len_erase xs k
    omega
end

/-! ### xs[a:b] = ys -/
section
variable {prog : Program} {w : World} {A : Around} {E : Value → Shared → Prop} {s : Shared}
theorem splice_eq (its its2 : List Value) (a c : Nat) : its.toArray.extract 0 a ++ its2.toArray ++ its.toArray.extract c its.toArray.size = (its.take a ++ its2 ++ its.drop c).toArray := by
  apply Array.toList_inj.mp
  first
    | (simp
       exact List.take_of_length_le (by simp))
    | simp [List.take_of_length_le]
    | simp
theorem bounds_run {a c n : Nat} (hac : a ≤ c) (hc : c ≤ n) : sliceBounds (some (a : Int)) (some (c : Int)) none n = ((a : Int), (c : Int), 1) := by
  simp only [sliceBounds, Option.getD_none]
  have h1 : ¬ ((a : Int) < 0) := by omega
  have h2 : ¬ ((c : Int) < 0) := by omega
  simp only [h1, h2, if_false, show (1 : Int) > 0 by decide, if_true]
  congr 1
  · omega
  · congr 1; omega
set_option maxRecDepth 100000 in
/-- list.__setitem__ with a slice of step one and another list -/
theorem setItem_slice {l b sl : Addr} {items new : Array Value} {n n2 : Nat} {vl vu : Value} {a c : Nat} {Q : Unit → Shared → Prop}
    (e : s.heap.get? l = some { cls := .type "list", data := .seq items n }) (e2 : s.heap.get? b = some { cls := .type "list", data := .seq new n2 }) (hne : l ≠ b)
    (hs : s.heap.IsSliceOf sl vl vu .none) (pl : IsPart vl (some (a : Int))) (pu : IsPart vu (some (c : Int))) (hac : a ≤ c) (hc : c ≤ items.size)
    (hsz : items.size + new.size ≤ sizeLine) (h : Q () { s with heap := s.heap.update l (Obj.mapSeq fun xs => xs.extract 0 a ++ new ++ xs.extract c xs.size) }) :
    wpAny (model prog w) A (setItem (.ref l) (.ref sl) (.ref b)) Q E s := by
  have hl : s.heap.IsList l items := PySem.IsL.isList e
  have hb : s.heap.IsList b new := PySem.IsL.isList e2
  obtain ⟨os, hos, hcs, hds⟩ := id hs
  have hTs : s.TypeIs (.ref sl) "slice" := ⟨os, hos, hcs⟩
  have hstep : ¬ ((rawPart none == rawInt 0) = true) := Bool.false_ne_true
  have hsame : Builtin.List.listSameRef (.ref l) (.ref b) = false := by
    unfold Builtin.List.listSameRef
    exact beq_eq_false_iff_ne.mpr hne
  have hmax : (max (a : Int) (c : Int)).toNat = c := by omega
  have hz' : ((fun xs : Array Value => xs.extract 0 a ++ new ++ xs.extract c xs.size) items).size ≤ sizeLine + 1 := by
    simp only [Array.size_append, Array.size_extract]
    omega
  unfold setItem
  try with_reducible refine wpAny_holding ?_
  first | refine wpAny_bind (wpAny_pure ?_) | skip
  refine wpAny_bind (wpAny_sequenceKey hl.typeIs (by decide) ?_)
  refine wpAny_bind (wpAny_callSpecial?_slot (name := Str.ofString "__setitem__") hl.typeIs slot_list_setitem
    (wpAny_call_entry slot_list_setitem hl.typeIs entry_list_setitem ?_ (args_list_setitem _ _ _)))
  show wpAny _ _ (Builtin.List.listSubscript? (.ref sl) >>= _) _ _ s
  refine wpAny_bind ?_
  unfold Builtin.List.listSubscript?
  refine wpAny_bind (wpAny_specialOf hTs slice_no_index ?_)
  simp only [Option.isNone_none, if_true]
  refine wpAny_pure ?_
  show wpAny _ _ (typeOf (.ref sl) >>= _) _ _ s
  refine wpAny_bind (wpAny_typeOf hTs ?_)
  first
    | rw [if_neg (by decide)]
    | refine PySem.W.KFB.if_not (by decide) ?_
  rw [listSliceParts_eq]
  refine wpAny_bind (wpAny_bind (wpAny_field hos hds (x := .none) rfl (wpAny_bind (wpAny_listPart .none ?_))))
  rw [if_neg hstep]
  refine wpAny_bind (wpAny_field hos hds (x := vl) rfl (wpAny_bind (wpAny_listPart pl ?_)))
  refine wpAny_bind (wpAny_field hos hds (x := vu) rfl (wpAny_bind (wpAny_listPart pu (wpAny_pure ?_))))
  first
    | simp only [hsame, Bool.false_eq_true, if_false]
    | refine PySem.W.KFB.if_not hsame ?_
    | (dsimp only
       rw [if_neg (by rw [hsame]; exact Bool.false_ne_true)])
  refine wpAny_bind (m := Builtin.List.listAllItems (.ref b) "must assign iterable to extended slice") ?_
  unfold Builtin.List.listAllItems
  refine wpAny_bind (wpAny_typeOf hb.typeIs ?_)
  first
    | refine PySem.W.KFB.if_so (by decide) ?_
    | rw [if_pos (by decide)]
    | simp only [beq_self_eq_true, Bool.true_or, if_true]
  unfold Builtin.List.listItems
  refine wpAny_bind (wpAny_seqItems e2 rfl (wpAny_pure ?_))
  refine wpAny_bind (wpAny_bind (wpAny_seqItems e rfl (wpAny_pure ?_)))
  refine wpAny_bind (wpAny_of_eq ((sliceIndices_raw (some (a : Int)) (some (c : Int)) none items.size (by simp)).trans (congrArg (pure : Int × Int × Int → Sem (Int × Int × Int)) (bounds_run hac hc))) ?_)
  show wpAny _ _ (if ((1 : Int) == 1) = true then _ else _) _ _ s
  rw [if_pos (by decide)]
  refine wpAny_bind (wpAny_rule ?_)
  first
    | simp only [notLongL hsz, Bool.false_eq_true, if_false]
    | refine PySem.W.KFB.if_not (notLongL hsz) ?_
  first | refine wpAny_bind (wpAny_pure ?_) | skip
  show wpAny _ _ (updateSeq l (fun xs => xs.extract 0 ((a : Int)).toNat ++ new ++ xs.extract (max (a : Int) (c : Int)).toNat xs.size) >>= _) _ _ s
  rw [hmax, Int.toNat_natCast]
  refine wpAny_bind (wpAny_updateSeq (hz := Nat.le_trans (Nat.le_add_right _ _) hsz) (_hz' := hz') e rfl ?_)
  refine wpAny_bind (wpAny_letGo ?_)
  first
    | exact wpAny_bind (wpAny_pure (wpAny_pure ⟨.none, rfl, wpAny_pure h⟩))
    | exact wpAny_pure ⟨.none, rfl, wpAny_pure h⟩
end

section
variable {X : Cx}
/-- xs[a:c] = ys of another list, at the value level: sl is the slice object that was just made -/
theorem set_slice {pins : List (Addr × Obj)} {s : Shared} {σ : St} {H : Hp} {l b sl : Addr} {xs ys : List V} {a c : Int} {vl vu : Value} {Q : Unit → Shared → Prop} (I : Inv X pins σ H s)
    (hH : H l = some (.lst xs)) (hB : H b = some (.lst ys)) (hne : l ≠ b) (hs : s.heap.IsSliceOf sl vl vu .none) (ra : RelV (.int a) vl) (rc : RelV (.int c) vu) (h0 : 0 ≤ a) (hac : a ≤ c) (hc : c ≤ xs.length)
    (hz : xs.length + ys.length ≤ sizeLine) (h : ∀ s', Inv X pins σ (upd H l (.lst (xs.take a.toNat ++ ys ++ xs.drop c.toNat))) s' → Q () s') :
    wpAny (model X.prog X.w) X.A (setItem (.ref l) (.ref sl) (.ref b)) Q X.xe s := by
  obtain ⟨ta, rfl⟩ := ra
  obtain ⟨tc, rfl⟩ := rc
  obtain ⟨z, its, n, r, hl, e⟩ := I.lstM hH
  obtain ⟨z2, its2, n2, r2, hl2, e2⟩ := I.lstM hB
  obtain ⟨a', rfl⟩ := Int.eq_ofNat_of_zero_le h0
  obtain ⟨c', rfl⟩ := Int.eq_ofNat_of_zero_le (Int.le_trans h0 hac)
  simp only [Int.toNat_natCast] at h
  refine setItem_slice (a := a') (c := c') e e2 hne hs (.int _ _) (.int _ _) (by omega) (by rw [List.size_toArray]; omega) (by rw [List.size_toArray, List.size_toArray]; omega) (h _ ?_)
  refine I.lset (its' := its.take a' ++ its2 ++ its.drop c') (t' := s.toks) hH e ?_ (Vals.append (Vals.append (r.take _) r2) (r.drop _)) ?_
  · exact splice_eq its its2 a' c'
  · rw [List.length_append, List.length_append, List.length_take, List.length_drop]
    omega
end
end L2

namespace Att
open PySem PySem.W PySem.Calls PyProof.Rows

/-! ### the script -/
theorem ints_of_wellAll {P : Params} {h : Heap} : ∀ (ns : List Int) (vs : List Value), WellAll P h vs (ns.map WData.int) → IntsAre vs ns := by
  intro ns
  induction ns with
  | nil =>
    intro vs w
    rw [List.map_nil] at w
    cases w
    exact .nil
  | cons n ns ih =>
    intro vs w
    rw [List.map_cons] at w
    cases w with
    | cons a b =>
      cases a
      exact .cons _ _ (ih _ b)

theorem script_of {l : OpenLaw} {n : Nat} (hn : l.most = some n) {P : Params} {h : Heap} {args : List WData} {vals : List Value}
    (hpre : l.row.toRowW.claim.pre args = true) (hwl : WellAll P h vals args) :
    ∃ a vs ns, vals = [Value.ref a] ∧ args = [WData.list (ns.map WData.int)] ∧ h.get? a = some { cls := .type "list", data := .seq vs.toArray } ∧ IntsAre vs ns ∧ ns.length ≤ n := by
  have hsh : WShape.hasAll [] args [.list .int] = true := (pre_splitW hpre).1
  have hc : l.pre.holds [] { args := args } = true := (pre_splitW hpre).2
  obtain ⟨d, r, rfl, h1, h2⟩ := hasAllW_cons hsh
  obtain rfl := hasAllW_nil h2
  obtain ⟨xs, rfl, h3⟩ := hasW_list h1
  obtain ⟨ns, rfl⟩ := items_int h3
  have hlen : ns.length ≤ n := by
    unfold OpenLaw.pre at hc
    have h4 : (WTm.not (.lt (.lit (.int (n : Int))) (.len (.arg 0)))).holds [] { args := [.list (ns.map .int)] } = true := by
      have h4 := (holds_andW hc).1
      rw [hn] at h4
      exact h4
    have h5 := condW_of h4 (w_not (w_lt w_lit (w_len_list (w_arg rfl))))
    rw [List.length_map] at h5
    refine Nat.le_of_not_lt fun q => ?_
    have q' : (n : Int) < ((ns.length : Nat) : Int) := by omega
    first
      | (rw [decide_eq_true q'] at h5; exact absurd h5 (by decide))
      | (simp at h5; omega)
  cases hwl with
  | cons w1 w2 =>
    cases w2
    cases w1 with
    | list ho hall => exact ⟨_, _, ns, rfl, rfl, ho, ints_of_wellAll ns _ hall, hlen⟩

theorem post_true (l : OpenLaw) (args : List WData) : l.row.toRowW.claim.post args (.bool true) args = true :=
  postW_of (r := l.row.toRowW) (X := (true == true))
    (show WShape.has [] (.bool true) .bool = true by first | rfl | decide | simp [WShape.has, WShape.arms, WShape.armsAll])
    (show (WTm.eq .res (.lit (.bool true))).value [] { args := args, res := some (.bool true), after := args } = some (.bool (true == true)) from w_eq_bool (w_res rfl) w_lit) rfl

/-! ### the attachment: holds_open's last premise (the goal 'hc' behind k_head) from a wpAny of the law's body -/
theorem attach {l : OpenLaw} {n : Nat} {q : Program} {loose : List Str} {XP : (Str → Option Value) → Heap → Prop} {YP : World → Heap → Prop} {d : DefRec} {x : Str}
    (hn : l.most = some n) (hdf : d.params.defaults = [])
    (hbind : ∀ pm cd doc v : Value, bindArgs (docDef d.name d.params d.body d.scope pm cd doc) ⟨[v], []⟩ = pure [(x, v)])
    (hx : d.scope.names.lookup x = some .local ∨ d.scope.names.lookup x = some .cell)
    (hk : d.scope.kind = .function) (hco : d.scope.isCoroutine = false) (hgen : d.scope.isGenerator = false)
    (body : ∀ (w : World) (s₀ s₁ s : Shared) (mg mb : Str → Option Value) (fa : Addr) (o : Obj) (pm cd doc : Value) (a : Addr) (vs : List Value) (ns : List Int),
      Ground q loose [] XP w s₀ mg mb s₁.heap → YP w s₁.heap →
      s₁.heap.get? fa = some o → o.data = .func (docDef d.name d.params d.body d.scope pm cd doc) → s₁.heap.CodeRec cd d.name → mg d.name = some (.ref fa) →
      s₁.heap.get? a = some { cls := .type "list", data := .seq vs.toArray } → IntsAre vs ns → ns.length ≤ n →
      s.gens = #[] → s.os = s₁.os →
      Fr s₁.heap s₁.heap.objs.size s.heap (bindL (envOfC d.name d.scope s₁.heap.objs.size fa cd).kindOf [(x, .ref a)] fun _ => none) →
      Cl s₁.heap.objs.size (cellsFrom (s₁.heap.objs.size + 1) d.scope.names []) s.heap (bindC (envOfC d.name d.scope s₁.heap.objs.size fa cd).kindOf [(x, .ref a)] fun _ => none) →
      wpAny (model l.prog w) (callerA.deeper (envOfC d.name d.scope s₁.heap.objs.size fa cd)) (execs d.body (envOfC d.name d.scope s₁.heap.objs.size fa cd))
        (fun f s' => f = .ret (.bool true) ∧ OldK s₁.heap s'.heap ∧ s'.os = s₁.os ∧ AllBare s'.gens) (fun _ _ => False) s) :
    WalkO q loose XP YP l.row.toRowW d [] (fun f vs => PySem.call f vs) := by
  intro w s₀ s₁ mg mb G Y fa o pm cd doc dV kV ho hd hcd hD hmg hg args vals as hpre hlay hrd hwl hlo
  obtain rfl : dV = .none := Dflts.none hD hdf
  obtain rfl : kV = .none := Dflts.noKw hD
  obtain ⟨a, vs, ns, rfl, rfl, hobj, hints, hlen⟩ := script_of hn hpre hwl
  refine enter_call ?_
  refine call_cells_ret (o := o) (by rw [depth_caller]; decide) ho (fd_plain hd) G.T.nolimit hcd (hbind pm cd doc (.ref a)) (fun y hy => ?_) (fun h₁ tk F X => ?_) hco hgen hk
  · obtain rfl : y = (x, Value.ref a) := List.mem_singleton.mp hy
    rcases hx with e | e
    · exact .inl e
    · exact .inr ⟨e, cellsFrom_some _ _ _ (.inl e)⟩
  · refine wpAny_mono (body w s₀ s₁ { s₁ with heap := h₁, toks := tk } mg mb fa o pm cd doc a vs ns G Y ho (fd_plain hd) hcd hmg hobj hints hlen hg rfl F X) (fun f s' hq => ?_) (fun _ _ hq => hq)
    obtain ⟨rfl, h2, h3, h4⟩ := hq
    exact ⟨.inl ⟨.bool true, .bool true, [], rfl, fun _ => rfl, .bool true, post_true l _, fun _ => ⟨List.Pairwise.nil, fun _ hm => (nomatch hm)⟩⟩, h2, h3, h4⟩

/-- the same from a codeAny of the CALL (for a layer whose function contracts speak of calls) -/
theorem attach_call {l : OpenLaw} {n : Nat} {q : Program} {loose : List Str} {XP : (Str → Option Value) → Heap → Prop} {YP : World → Heap → Prop} {d : DefRec}
    (hn : l.most = some n) (hdf : d.params.defaults = [])
    (call : ∀ (w : World) (s₀ s₁ : Shared) (mg mb : Str → Option Value) (fa : Addr) (o : Obj) (pm cd doc : Value) (a : Addr) (vs : List Value) (ns : List Int),
      Ground q loose [] XP w s₀ mg mb s₁.heap → YP w s₁.heap →
      s₁.heap.get? fa = some o → o.data = .func (docDef d.name d.params d.body d.scope pm cd doc) → s₁.heap.CodeRec cd d.name → mg d.name = some (.ref fa) →
      s₁.heap.get? a = some { cls := .type "list", data := .seq vs.toArray } → IntsAre vs ns → ns.length ≤ n → s₁.gens = #[] →
      codeAny (model l.prog w) callerA (.call (.ref fa) ⟨[.ref a], []⟩) (fun r s' => r = .ok (.ret (.bool true)) ∧ OldK s₁.heap s'.heap ∧ s'.os = s₁.os ∧ AllBare s'.gens) s₁) :
    WalkO q loose XP YP l.row.toRowW d [] (fun f vs => PySem.call f vs) := by
  intro w s₀ s₁ mg mb G Y fa o pm cd doc dV kV ho hd hcd hD hmg hg args vals as hpre hlay hrd hwl hlo
  obtain rfl : dV = .none := Dflts.none hD hdf
  obtain rfl : kV = .none := Dflts.noKw hD
  obtain ⟨a, vs, ns, rfl, rfl, hobj, hints, hlen⟩ := script_of hn hpre hwl
  refine enter_call (codeAny_mono (call w s₀ s₁ mg mb fa o pm cd doc a vs ns G Y ho (fd_plain hd) hcd hmg hobj hints hlen hg) fun r s' hq => ?_)
  obtain ⟨rfl, h2, h3, h4⟩ := hq
  exact ⟨.inl ⟨.bool true, .bool true, [], rfl, fun _ => rfl, .bool true, post_true l _, fun _ => ⟨List.Pairwise.nil, fun _ hm => (nomatch hm)⟩⟩, h2, h3, h4⟩

/-- the same where the top left finished generators (o_head chose holds_openN): nothing may have changed at all and no generator may be left -/
theorem attachN {l : OpenLaw} {n : Nat} {q : Program} {loose : List Str} {XP : (Str → Option Value) → Heap → Prop} {YP : World → Heap → Prop} {d : DefRec} {x : Str}
    (hn : l.most = some n) (hdf : d.params.defaults = [])
    (hbind : ∀ pm cd doc v : Value, bindArgs (docDef d.name d.params d.body d.scope pm cd doc) ⟨[v], []⟩ = pure [(x, v)])
    (hx : d.scope.names.lookup x = some .local ∨ d.scope.names.lookup x = some .cell)
    (hk : d.scope.kind = .function) (hco : d.scope.isCoroutine = false) (hgen : d.scope.isGenerator = false)
    (body : ∀ (w : World) (s₀ s₁ s : Shared) (mg mb : Str → Option Value) (fa : Addr) (o : Obj) (pm cd doc : Value) (a : Addr) (vs : List Value) (ns : List Int),
      Ground q loose [] XP w s₀ mg mb s₁.heap → YP w s₁.heap →
      s₁.heap.get? fa = some o → o.data = .func (docDef d.name d.params d.body d.scope pm cd doc) → s₁.heap.CodeRec cd d.name → mg d.name = some (.ref fa) →
      s₁.heap.get? a = some { cls := .type "list", data := .seq vs.toArray } → IntsAre vs ns → ns.length ≤ n →
      s.gens = #[] → s.os = s₁.os →
      Fr s₁.heap s₁.heap.objs.size s.heap (bindL (envOfC d.name d.scope s₁.heap.objs.size fa cd).kindOf [(x, .ref a)] fun _ => none) →
      Cl s₁.heap.objs.size (cellsFrom (s₁.heap.objs.size + 1) d.scope.names []) s.heap (bindC (envOfC d.name d.scope s₁.heap.objs.size fa cd).kindOf [(x, .ref a)] fun _ => none) →
      wpAny (model l.prog w) (callerA.deeper (envOfC d.name d.scope s₁.heap.objs.size fa cd)) (execs d.body (envOfC d.name d.scope s₁.heap.objs.size fa cd))
        (fun f s' => f = .ret (.bool true) ∧ (∀ b o, s₁.heap.get? b = some o → s'.heap.get? b = some o) ∧ s'.os = s₁.os ∧ s'.gens = #[]) (fun _ _ => False) s) :
    WalkN q loose XP YP l.row.toRowW d [] (fun f vs => PySem.call f vs) := by
  intro w s₀ s₁ mg mb G Y fa o pm cd doc dV kV ho hd hcd hD hmg hg args vals as hpre hlay hrd hwl hlo
  obtain rfl : dV = .none := Dflts.none hD hdf
  obtain rfl : kV = .none := Dflts.noKw hD
  obtain ⟨a, vs, ns, rfl, rfl, hobj, hints, hlen⟩ := script_of hn hpre hwl
  refine enter_callW ?_
  refine call_cells_ret (o := o) (by rw [depth_caller]; decide) ho (fd_plain hd) G.T.nolimit hcd (hbind pm cd doc (.ref a)) (fun y hy => ?_) (fun h₁ tk F X => ?_) hco hgen hk
  · obtain rfl : y = (x, Value.ref a) := List.mem_singleton.mp hy
    rcases hx with e | e
    · exact .inl e
    · exact .inr ⟨e, cellsFrom_some _ _ _ (.inl e)⟩
  · refine wpAny_mono (body w s₀ s₁ { s₁ with heap := h₁, toks := tk } mg mb fa o pm cd doc a vs ns G Y ho (fd_plain hd) hcd hmg hobj hints hlen hg rfl F X) (fun f s' hq => ?_) (fun _ _ hq => hq)
    obtain ⟨rfl, h2, h3, h4⟩ := hq
    exact ⟨.inl ⟨.bool true, .bool true, [], rfl, fun _ => rfl, .bool true, post_true l _, fun _ => ⟨List.Pairwise.nil, fun _ hm => (nomatch hm)⟩⟩, h2, h3, h4⟩

/-! ### rules over ANY heap (no ledger) from facts about the written part K: the library's own take a ledger (News) for what they write -/
section
variable {prog : Program} {w : World} {A : Around} {E : Value → Shared → Prop} {s : Shared} {K : Frag}

/-- a def of the module, or a method (qual 'C.m'), entered: the frame is the next address; cells behind it -/
theorem call_fn {R : Result → Shared → Prop} {name qual : Str} {params : Arguments} {body : List Stmt} {scope : Scope} {dV kV doc pm cdv ct oc : Value} {an od : Option Addr} {osl : Array (Option Value)} {f : Addr} {args : Args} {binds : List (Str × Value)}
    (X : K.In s.heap) (hlim : s.heap.NoLimit) (ho : K.lookup f = some ⟨oc, od, .func (fnOf name qual params body scope dV kV doc pm an cdv ct), osl⟩) (hcd : codeIn K cdv qual = true) (hroom : A.depth < recursionLimit)
    (hbind : BindsTo s (fnOf name qual params body scope dV kV doc pm an cdv ct) args binds)
    (hkind : (binds.all fun y => scope.names.lookup y.1 == some .local || scope.names.lookup y.1 == some .cell) = true)
    (h : ∀ s₁, InCallC s s.heap.objs.size (bindL (envOfC qual scope s.heap.objs.size f cdv).kindOf binds fun _ => none) (cellsFrom (s.heap.objs.size + 1) scope.names [])
        (bindC (envOfC qual scope s.heap.objs.size f cdv).kindOf binds fun _ => none) s₁ →
      wpAny (model prog w) (A.deeper (envOfC qual scope s.heap.objs.size f cdv)) (execs body (envOfC qual scope s.heap.objs.size f cdv))
        (fun fl s' => R (.ok (.ret (match fl with | .ret v => v | _ => .none))) s')
        (fun e s' => wpAny (model prog w) (A.deeper (envOfC qual scope s.heap.objs.size f cdv)) (leaving (envOfC qual scope s.heap.objs.size f cdv) e) (fun _ s'' => R (.error e) s'') (fun e' s'' => R (.error e') s'') s') s₁)
    (hco : scope.isCoroutine = false) (hgen : scope.isGenerator = false) (hk : scope.kind = .function) : codeAny (model prog w) A (.call (.ref f) args) R s := by
  refine codeAny_call_function hroom (X _ _ ho) rfl hco hgen rfl (codeRec_of X hcd) (hbind _ _ _ _ ?_)
  refine wpAny_newFunctionEnv_cells hk (kindsX hkind _) fun env he s₁ x => ?_
  subst he
  exact ⟨hlim.keeps x.toInCall.keep, codeAny_func (h s₁ x)⟩

/-- C(..): dict at size, instance at size + 1, then __init__ -/
theorem make_obj {R : Result → Shared → Prop} {C fI : Addr} {rest : List Value} {kw : List (Str × Value)}
    (X : K.In s.heap) (hm : makesIn K C = true) (hi : findIn K (.ref C) "__init__" = some (some (.ref fI))) (hf : isFn K (.ref fI) = true)
    (h : codeAny (model prog w) (A.under (.builtin "type.__call__" ⟨.ref C :: rest, kw⟩)) (.call (.ref fI) ⟨.ref (s.heap.objs.size + 1) :: rest, kw⟩) (InitBack (s.heap.objs.size + 1) R)
      { s with heap := (s.heap.push emptyDict).push (instObj C s.heap.objs.size) }) : codeAny (model prog w) A (.call (.ref C) ⟨rest, kw⟩) R s := by
  obtain ⟨hh, g, d, t, os⟩ := s
  exact make_core (makes_of X hm) (looks_findIn X hi) (fun self => bind_fn X self (beq_iff_eq.mp hf)) (.inl rfl) h

/-- x.name where the instance's dict holds the name and the class does not -/
theorem get_field {x C : Addr} {ox : Obj} {es : List DictEntry} {n : Nat} {name : Str} {expr : Bool} {v : Value} {Q : Value → Shared → Prop}
    (X : K.In s.heap) (I : PySem.W.InstAt s.heap x ox C (some (dictOf es n))) (hg : plainGet K C name = true) (hh : hasDictIn K C = true) (ha : findIn K (.ref C) name = some none)
    (hl : getL name es = some (some v)) (hv : handedIn v = true) (h : Q v { s with toks := s.toks + 1 }) : wpAny (model prog w) A (getAttr (.ref x) name expr) Q E s :=
  get_value X I (plainGet_of hg).1 (findObj_own hh ha rfl hl) hv h

/-- x.m(..): the method found in the class -/
theorem get_method {x C f : Addr} {ox : Obj} {es : List DictEntry} {n : Nat} {name : Str} {pl : Sem Bool} {Q : Value × List Value → Shared → Prop}
    (X : K.In s.heap) (I : PySem.W.InstAt s.heap x ox C (some (dictOf es n))) (hg : plainGet K C name = true) (hf : findIn K (.ref C) name = some (some (.ref f))) (ht : isFn K (.ref f) = true)
    (hl : getL name es = some none) (h : Q (.ref f, [.ref x]) s) : wpAny (model prog w) A (getMethod (.ref x) name pl) Q E s :=
  method_fn X I (plainGet_of hg).1 (plainGet_of hg).2 hf (beq_iff_eq.mp ht) (by show (lookIn name (dictOf es n)).map _ = _; rw [lookIn_dict, hl]; rfl) h

/-! the whole heap as the ledger: makes every rule that writes through a ledger a rule over any heap -/
def noObjs (h : Heap) : Heap := { h with objs := #[] }
theorem noObjs_get (h : Heap) (b : Addr) : (noObjs h).get? b = none := by
  cases e : (noObjs h).get? b with
  | none => rfl
  | some o => exact absurd (Heap.lt_size e) (Nat.not_lt_zero _)
def ledger (h : Heap) (L d : Addr) : List (Addr × Obj) := (List.range h.objs.size).filterMap fun a => if a = L ∨ a = d then none else (h.get? a).map fun o => (a, o)
theorem mem_ledger {h : Heap} {L d a : Addr} {o : Obj} : (a, o) ∈ ledger h L d ↔ a ≠ L ∧ a ≠ d ∧ h.get? a = some o := by
  unfold ledger
  rw [List.mem_filterMap]
  constructor
  · rintro ⟨b, _, e⟩
    split at e
    · cases e
    · rename_i hb
      obtain ⟨o', ho, e'⟩ := Option.map_eq_some_iff.mp e
      cases e'
      exact ⟨fun q => hb (.inl q), fun q => hb (.inr q), ho⟩
  · rintro ⟨n1, n2, ho⟩
    refine ⟨a, List.mem_range.mpr (Heap.lt_size ho), ?_⟩
    rw [if_neg (show ¬ (a = L ∨ a = d) from fun q => q.elim n1 n2), ho] <;> rfl
theorem news_ledger {h : Heap} {L d : Addr} {od : Obj} (hne : d ≠ L) (ho : h.get? d = some od) : News (noObjs h) L h ([] ++ (d, od) :: ledger h L d) := by
  rintro ⟨a, o⟩ hp
  rcases List.mem_cons.mp hp with e | hp
  · cases e
    exact ⟨ho, hne, noObjs_get _ _⟩
  · obtain ⟨n1, n2, e⟩ := mem_ledger.mp hp
    exact ⟨e, n1, noObjs_get _ _⟩
theorem fr_all {h : Heap} {L : Addr} {m : Str → Option Value} (n : h.Ns L m) : Fr (noObjs h) L h m :=
  ⟨n, fun b o e => (by rw [noObjs_get] at e; cases e), Nat.zero_le _⟩
/-- Upd of the head entry (for append_K, setItem_K ..) -/
theorem upd_ledger {h : Heap} {L d : Addr} {o o' : Obj} : Upd d o o' ((d, o) :: ledger h L d) ((d, o') :: ledger h L d) :=
  .head fun ⟨_, _⟩ hp => (mem_ledger.mp hp).2.1

/-- x.name = v over any heap: L is any namespace of the heap (the frame's, say): its map stays, its object is not told; all else but the dict stays -/
theorem set_field {x C dx L : Addr} {ox : Obj} {m : Str → Option Value} {es es' : List DictEntry} {n n' : Nat} {name : Str} {v : Value} {Q : Unit → Shared → Prop}
    (X : K.In s.heap) (I : PySem.W.InstAt s.heap x ox C (some (dictOf es n))) (hd : ox.dict = some dx) (hL : s.heap.Ns L m) (hne : dx ≠ L)
    (hs : findIn K (.ref C) "__setattr__" = some (some (.builtin "object.__setattr__"))) (hp : plainOver K C = true) (ht : takerIn K C name = some none) (hh : hasDictIn K C = true) (hl : (getL name es).isSome = true)
    (e : (putL name (PyData.keyHash w.params name) (.str name (s.toks + 1)) v es, putN name es n) = (es', n')) (hz : es'.length ≤ 1000)
    (h : ∀ h' : Heap, h'.Ns L m → h'.get? dx = some (dictOf es' n') → (∀ b o, b ≠ dx → b ≠ L → s.heap.get? b = some o → h'.get? b = some o) → Q () { s with heap := h', toks := s.toks + 2 }) :
    wpAny (model prog w) A (setAttr (.ref x) name v) Q E s := by
  obtain ⟨e1, e2⟩ := Prod.mk.inj e
  have hdx : s.heap.get? dx = some (dictOf es n) := by
    have := I.dict
    rw [hd] at this
    exact this
  refine set_plain X I hs (osa_dict (s := { s with toks := s.toks + 1 }) (h₀ := noObjs s.heap) (L := L) (m := m) (od := dictOf es n) (od' := dictOf es' n') (es := es') (n := n') (pre := []) (post := ledger s.heap L dx)
    (fr_all hL) (news_ledger hne hdx) X I hd hp ht hh hl (fun _ q => nomatch q) (fun ⟨_, _⟩ q => (mem_ledger.mp q).2.1) (by rw [putName_dict, e1, e2]) rfl hz fun h' F' N' => ?_)
  exact h h' F'.ns (N'.get (List.Mem.head _)) fun b o n1 n2 ho => N'.get (List.Mem.tail _ (mem_ledger.mpr ⟨n2, n1, ho⟩))
end
end Att

namespace L2
open PySem PySem.Spec PyProof.Rows

theorem vals_ints : ∀ {vs : List Value} {ns : List Int}, IntsAre vs ns → Vals (ns.map V.int) vs
  | _, _, .nil => .nil
  | _, _, .cons n t h => .cons ⟨t, rfl⟩ (vals_ints h)

/-- nothing is tracked but the script, known to the object (or it is an object of the module) -/
def Only (H : Hp) : Prop := ∀ b, H b = none ∨ ∃ o xs, H b = some (.frz o (.lst xs))

/-- THE HEAD: the law's promise, at the heap behind the top. F, the promise of the law's def, may use that base is part of the heap (so K.In base, base.Ns mainGlobals mg stand in Mod) -/
theorem law_call {P : Program} {w : World} {K : PySem.W.Frag} {mg mb : Str → Option Value} {CX : CXT} {k : Nat} {fa a : Addr} {fd : FuncData} {x : Str} {sp : Sp} {s₁ : Shared} {vs : List Value} {ns : List Int}
    (KX : K.In s₁.heap) (hns : s₁.heap.Ns mainGlobals mg) (hb : s₁.heap.Ns builtinsNs mb) (hbb : ∀ x : Str, x ≠ "__name__" → mb x = bootBuiltins x) (hlim : s₁.heap.NoLimit) (hg : s₁.gens = #[])
    (ha : s₁.heap.get? a = some { cls := .type "list", data := .seq vs.toArray }) (hi : IntsAre vs ns) (hl : ns.length ≤ sizeLine) (hr : Room k callerA)
    (F : ∀ base : Heap, K.In base → base.Ns mainGlobals mg → FnOk P w K mg base CX k fa fd [x] sp) (hbind : ∀ (s : Shared) (u : Value), BindsTo s fd ⟨[u], []⟩ [(x, u)])
    (hsp : ∀ H : Hp, Only H → SqL K H a (ns.map V.int) → sp [.ref a] H (fun v _ => v = .bl true) fun _ _ _ => False)
    (hCX : ∀ H e s', CX [] H s₁ (fun _ _ _ => False) e s' → False) :
    codeAny (model P w) callerA (.call (.ref fa) ⟨[.ref a], []⟩) (fun r s' => r = .ok (.ret (.bool true)) ∧ OldK s₁.heap s'.heap ∧ s'.os = s₁.os ∧ AllBare s'.gens) s₁ := by
  have rv := vals_ints hi
  have lenV := hi.length
  -- from an abstract heap in which nothing but the script may be tracked
  have core : ∀ H : Hp, Only H → SqL K H a (ns.map V.int) → HOk P w H s₁.heap → (∀ b, H b ≠ none → b = a) → (H a ≠ none → K.lookup a = none) →
      codeAny (model P w) callerA (.call (.ref fa) ⟨[.ref a], []⟩) (fun r s' => r = .ok (.ret (.bool true)) ∧ OldK s₁.heap s'.heap ∧ s'.os = s₁.os ∧ AllBare s'.gens) s₁ := by
    intro H hO hS hok hA hK
    have base_of : ∀ {b : Addr} {o : Obj}, s₁.heap.get? b = some o → H b = none → (hidT s₁.heap H).get? b = some o := fun e n => hidT_get e n
    have noA : ∀ {b : Addr} {o : Obj} {es : Array DictEntry} {ep : Nat}, s₁.heap.get? b = some o → o.data = .dict es ep → H b = none := fun {b o es ep} e d => by
      cases q : H b with
      | none => rfl
      | some u =>
        have e' : b = a := hA b (by rw [q]; simp)
        subst e'
        rw [ha] at e; cases e
        have d' : Data.seq vs.toArray _ = Data.dict es ep := d
        cases d'
    have nsK : ∀ {b : Addr} {m : Str → Option Value}, s₁.heap.Ns b m → (hidT s₁.heap H).Ns b m := fun {b m} ⟨o, es, ep, e, d, r⟩ => ⟨o, es, ep, base_of e (noA e d), d, r⟩
    have hKb : K.In (hidT s₁.heap H) := fun b o e => base_of (KX b o e) (by
      cases q : H b with
      | none => rfl
      | some u =>
        have e' : b = a := hA b (by rw [q]; simp)
        subst e'
        rw [hK (by rw [q]; simp)] at e; cases e)
    have hM : Mod K mg (hidT s₁.heap H) := ⟨hKb, nsK hns, ⟨mb, nsK hb, hbb⟩, let ⟨mc, h1, h2⟩ := hlim; ⟨mc, nsK h1, h2⟩⟩
    have e0 : Env0 P w K mg (hidT s₁.heap H) callerA [] s₁ H := ⟨rfl, hM, fun b o e => of_hidT e, Nat.le_of_eq (hidT_size _ _), trivial, fun b hb => absurd (show b ∈ ([] : List Addr) from hb) (by simp), hok, .of_eq hg⟩
    refine codeAny_mono ((F _ hKb (nsK hns)).run callerA [] s₁ H ⟨[.ref a], []⟩ [.ref a] [.ref a] _ _ hr e0 (hbind s₁ (.ref a)) (.cons rfl .nil) (hsp H hO hS)) fun r s' h => ?_
    cases r with
    | error e => exact (hCX H e s' h).elim
    | ok fl =>
      cases fl with
      | next => exact False.elim h
      | brk => exact False.elim h
      | cont => exact False.elim h
      | ret u =>
        obtain ⟨v, H', os, bare, un, hok', r', q⟩ := h
        have q' : v = .bl true := q
        subst q'
        obtain rfl : u = Value.bool true := r'
        refine ⟨rfl, OldK.of_keep fun b o e => ?_, os, bare⟩
        cases q : H b with
        | none => exact un.keep b o e q (by intro z; exact absurd (show b ∈ ([] : List Addr) from z) (by simp)) (by simp)
        | some u =>
          rcases hO b with z | ⟨ob, xs, z⟩
          · rw [q] at z; cases z
          · have z2 := un.frzs b ob _ z
            obtain ⟨e1, _⟩ := hok b _ z
            obtain ⟨e2, _⟩ := hok' b _ z2
            rw [e] at e1; cases e1
            exact e2
  cases hk : K.lookup a with
  | some o =>
    -- the script is one of the module's own objects
    have e := KX a o hk
    rw [ha] at e
    cases e
    refine core (fun _ => none) (fun _ => .inl rfl) (.inr ⟨_, vs.toArray, _, hk, rfl, rfl, rfl, by rw [List.size_toArray, lenV]; exact hl, by simpa using rv⟩) (fun b u z => by have z' : (none : Option HO) = some u := z; cases z') (fun b z => absurd rfl z) fun z => absurd rfl z
  | none =>
    refine core (fun b => if b = a then some (.frz { cls := .type "list", data := .seq vs.toArray } (.lst (ns.map V.int))) else none) (fun b => ?_) (.inl (.inr ⟨{ cls := .type "list", data := .seq vs.toArray }, if_pos rfl⟩)) (fun b u z => ?_) (fun b z => ?_) fun _ => hk
    · by_cases hb : b = a
      · exact .inr ⟨_, _, if_pos hb⟩
      · exact .inl (if_neg hb)
    · by_cases hb : b = a
      · have z' := (if_pos hb).symm.trans z
        cases z'
        subst hb
        exact ⟨ha, by rw [List.length_map]; exact hl, vs, _, rv, ha⟩
      · have z' := (if_neg hb).symm.trans z
        cases z'
    · by_cases hb : b = a
      · exact hb
      · exact absurd (if_neg hb) z
end L2

namespace L2
open PySem PySem.Spec PyProof.Rows

abbrev KOf {K : PySem.W.Frag} {h : Heap} (_ : K.In h) : PySem.W.Frag := K

/-- the goal that k_head leaves (case hc), from the law's promise. F gives the function object fd (K's own) once, then the promise over every base -/
theorem walk_of {l : PySem.W.OpenLaw} {n k : Nat} {q : Program} {loose : List Str} {XP : (Str → Option Value) → Heap → Prop} {YP : World → Heap → Prop} {d : DefRec} {K : Params → PySem.W.Frag} {CX : World → CXT} {sp : World → Sp} {x : Str}
    (hn : l.most = some n) (hn2 : n ≤ sizeLine) (hdf : d.params.defaults = []) (hr : Room k callerA)
    (hY : ∀ (w : World) (h : Heap), YP w h → (K w.params).In h)
    (F : ∀ (w : World) (mg : Str → Option Value) (fa : Addr) (h : Heap), (K w.params).In h → h.Ns mainGlobals mg → mg d.name = some (.ref fa) →
      ∃ fd : FuncData, (∀ (s : Shared) (u : Value), BindsTo s fd ⟨[u], []⟩ [(x, u)]) ∧
        ∀ base : Heap, (K w.params).In base → base.Ns mainGlobals mg → FnOk l.prog w (K w.params) mg base (CX w) k fa fd [x] (sp w))
    (hsp : ∀ (w : World) (H : Hp) (a : Addr) (ns : List Int), ns.length ≤ n → Only H → SqL (K w.params) H a (ns.map V.int) → sp w [.ref a] H (fun v _ => v = .bl true) fun _ _ _ => False)
    (hCX : ∀ (w : World) (H : Hp) (s : Shared) (e : Value) (s' : Shared), CX w [] H s (fun _ _ _ => False) e s' → False) :
    PySem.W.WalkO q loose XP YP l.row.toRowW d [] (fun f vs => PySem.call f vs) := by
  refine Att.attach_call hn hdf fun w s₀ s₁ mg mb fa o pm cd doc a vs ns G Y ho hd hcd hmg hobj hints hlen hg => ?_
  have KX := hY w _ Y
  obtain ⟨fd, hb, hF⟩ := F w mg fa _ KX G.T.g hmg
  exact law_call KX G.T.g G.T.b G.T.builtins G.T.nolimit hg hobj hints (Nat.le_trans hlen hn2) hr hF hb (fun H hO hS => hsp w H a ns hlen hO hS) fun H e s' => hCX w H s₁ e s'
/-- the same where the promise hangs on the written part alone: (sp := My.sp_law), no hole under a binder -/
theorem walk_ofK {l : PySem.W.OpenLaw} {n k : Nat} {q : Program} {loose : List Str} {XP : (Str → Option Value) → Heap → Prop} {YP : World → Heap → Prop} {d : DefRec} {K : Params → PySem.W.Frag} {CX : CXT} {sp : PySem.W.Frag → Sp} {x : Str}
    (hn : l.most = some n) (hn2 : n ≤ sizeLine) (hdf : d.params.defaults = []) (hr : Room k callerA)
    (hY : ∀ (w : World) (h : Heap), YP w h → (K w.params).In h)
    (F : ∀ (w : World) (mg : Str → Option Value) (fa : Addr) (h : Heap), (K w.params).In h → h.Ns mainGlobals mg → mg d.name = some (.ref fa) →
      ∃ fd : FuncData, (∀ (s : Shared) (u : Value), BindsTo s fd ⟨[u], []⟩ [(x, u)]) ∧
        ∀ base : Heap, (K w.params).In base → base.Ns mainGlobals mg → FnOk l.prog w (K w.params) mg base CX k fa fd [x] (sp (K w.params)))
    (hsp : ∀ (K : PySem.W.Frag) (H : Hp) (a : Addr) (ns : List Int), ns.length ≤ n → Only H → SqL K H a (ns.map V.int) → sp K [.ref a] H (fun v _ => v = .bl true) fun _ _ _ => False)
    (hCX : ∀ (H : Hp) (s : Shared) (e : Value) (s' : Shared), CX [] H s (fun _ _ _ => False) e s' → False) :
    PySem.W.WalkO q loose XP YP l.row.toRowW d [] (fun f vs => PySem.call f vs) :=
  walk_of (K := K) (CX := fun _ => CX) (sp := fun w => sp (K w.params)) hn hn2 hdf hr hY F (fun w H a ns h1 h2 h3 => hsp (K w.params) H a ns h1 h2 h3) fun _ H s e s' => hCX H s e s'
end L2

/- THE LAST THEOREM (shape; LID, My.* are yours):
   My.Adr: a structure of the addresses that your layer names (classes, functions); My.Txt K t: a structure (Prop) of the equations over K;
   My.txt_mk : {K} {implicit addresses ..} (e1 : nsIn K mainGlobals "law" = some (some (.ref f))) (e2 : K.lookup f = some ⟨oc, od, .func (fnOf "law" "law" params body scope dV kV doc pm an cdv ct), sl⟩) (e3 : codeIn K cdv "law" = true) .. : ∃ t, My.Txt K t

set_option maxRecDepth 100000 in
set_option maxHeartbeats 0 in
theorem PySem.Challenge.cw_LID_holds : PySem.Challenge.rw_LID.Holds := by
  w_on; o_law; k_head; (case hw => w_witness2)
  k_fill
  refine L2.walk_of (l := PySem.Challenge.rw_LID) (n := 63) (k := 40) (x := "script") (CX := fun w => ..) (sp := fun _ => My.sp_law) rfl (by decide) rfl ⟨rfl, by decide, by decide⟩ (fun w h Y => PySem.W.kIn_of Y) ?F ?S ?C
  case F =>
    intro w mg fa h KX G hmg
    have T : ∃ t, My.Txt (L2.KOf KX) t := by
      dsimp only [L2.KOf]                          -- K must stand as «<heap const> w.params» for k_is
      refine' My.txt_mk ?e1 ?e2 ?e3 ..
      (case e1 => PySem.W.k_is)                    -- in the order: a name -> its address -> its object -> its parts
      (case e2 => PySem.W.k_is)
      ..
    obtain ⟨t, T⟩ := T
    have e0 := hmg.symm.trans (PySem.W.mg_of KX G T.law)
    cases e0                                       -- fa is the law's own address
    exact ⟨_, fun s u => .of_eq rfl, fun base kb nb => My.law_fn T kb nb⟩     -- if «.of_eq rfl» comes too early: refine' ⟨_, ?b, fun base kb nb => My.law_fn T kb nb⟩; exact fun s u => .of_eq rfl
  case S => exact fun w H a ns hl hO hS => ..
  case C => exact ..
(the tactic k_is has no namespace: write k_is) -/

/-! SHORT WORDS over the layer: a def of the text, its body, what a loop and a test want. -/
namespace L2
open PySem PySem.Spec PyProof.Rows

/-! ### the text by places -/
/-- the j-th statement of a class's body -/
def inClass (s : Stmt) (j : Nat) : Stmt := match s with
  | .ClassDef _ _ _ body _ _ _ _ _ _ _ => body.getD j (.Pass ⟨0, 0, 0, 0⟩)
  | _ => .Pass ⟨0, 0, 0, 0⟩
def defArgs (s : Stmt) : Arguments := match s with
  | .FunctionDef _ a _ _ _ _ _ _ _ _ => a
  | _ => { posonlyargs := [], args := [], vararg := none, kwonlyargs := [], kw_defaults := [], kwarg := none, defaults := [] }
def defBody (s : Stmt) : List Stmt := match s with
  | .FunctionDef _ _ b _ _ _ _ _ _ _ => b
  | _ => []
def defScope (s : Stmt) : Scope := match s with
  | .FunctionDef _ _ _ _ _ _ sc _ _ _ => sc
  | _ => { kind := .function, names := [], isGenerator := false, isCoroutine := false }

/-! ### no exception leaves a def -/
abbrev CX0 : CXT := fun _ _ _ _ _ _ => False
abbrev E0 : XK := fun _ _ _ => False
theorem pass0 {X : Cx} : Passes CX0 X E0 := fun _ _ _ _ _ _ _ h => h.elim

/-! ### a def (or method) of the text as it stands behind the top -/
structure Fun (K : PySem.W.Frag) (x qual : Str) (st : Stmt) (f : Addr) (fd : FuncData) : Prop where
  ex : ∃ (oc : Value) (od : Option Addr) (kV doc pm : Value) (an : Option Addr) (cdv ct : Value) (osl : Array (Option Value)),
    fd = PySem.W.fnOf x qual (defArgs st) (defBody st) (defScope st) .none kV doc pm an cdv ct ∧ K.lookup f = some ⟨oc, od, .func fd, osl⟩ ∧ PySem.W.codeIn K cdv qual = true
  kp : PySem.W.keepIn K (.ref f) = true
section
variable {P : Program} {w : World} {K : PySem.W.Frag} {mg : Str → Option Value} {base : Heap}
/-- THE RULE for a def: its body as a term of rules, and the reading of that term -/
theorem Fun.ok {x qual : Str} {st : Stmt} {f : Addr} {fd : FuncData} {N ps : List Str} {k : Nat} {sp : Sp} (F : Fun K x qual st f fd) (S : FnScope N ps (defScope st)) (len : ∀ vs H Q E, sp vs H Q E → vs.length = ps.length)
    (hbody : ∀ (cdv : Value) (A : Around) (outer : List Env) (s : Shared) (H : Hp) (vs : List V) (Q : VK) (E : XK), Room k (A.deeper (envOfC qual (defScope st) s.heap.objs.size f cdv)) → sp vs H Q E →
      ∃ t, PSs (cxOf CX0 P w K mg base N qual (defScope st) f cdv A outer s H E).nox (defBody st) t ∧ t { nx := fun _ H' => Q .non H', rt := Q } (start N vs) H) : FnOk P w K mg base CX0 (k + 1) f fd ps sp := by
  obtain ⟨oc, od, kV, doc, pm, an, cdv, ct, osl, rfl, lk, hcd⟩ := F.ex
  refine fn_of lk hcd S len fun A outer s H vs Q E hr hsp => ?_
  obtain ⟨t, h, q⟩ := hbody cdv A outer s H vs Q E hr hsp
  exact ⟨t, h.nox, q⟩
/-- how its arguments bind (no defaults): h is «fun _ _ _ _ _ _ us hl => match us, hl with | [_, _], _ => rfl», one _ a parameter -/
theorem Fun.binds {x qual : Str} {st : Stmt} {f : Addr} {fd : FuncData} {ps : List Str} (F : Fun K x qual st f fd)
    (h : ∀ (kV doc pm : Value) (an : Option Addr) (cdv ct : Value) (us : List Value), us.length = ps.length → bindArgs (PySem.W.fnOf x qual (defArgs st) (defBody st) (defScope st) .none kV doc pm an cdv ct) ⟨us, []⟩ = pure (ps.zip us)) : Binds K fd ps [] := by
  obtain ⟨oc, od, kV, doc, pm, an, cdv, ct, osl, rfl, lk, hcd⟩ := F.ex
  exact .all (h kV doc pm an cdv ct)
theorem fun_mk {x qual : Str} {st : Stmt} {f : Addr} {oc : Value} {od an : Option Addr} {osl : Array (Option Value)} {kV doc pm cdv ct : Value} (l : K.lookup f = some ⟨oc, od, .func (PySem.W.fnOf x qual (defArgs st) (defBody st) (defScope st) .none kV doc pm an cdv ct), osl⟩)
    (c : PySem.W.codeIn K cdv qual = true) (k : PySem.W.keepIn K (.ref f) = true) : Fun K x qual st f (PySem.W.fnOf x qual (defArgs st) (defBody st) (defScope st) .none kV doc pm an cdv ct) := ⟨⟨oc, od, kV, doc, pm, an, cdv, ct, osl, rfl, l, c⟩, k⟩
end
theorem hu_of {A : Around} {k : Nat} (hr : Room k A) : A.units + 1 < cLine := Nat.lt_of_le_of_lt (Nat.add_le_add_left (by decide : 1 ≤ 64) _) hr.units
theorem small1000 {n : Nat} (h : n ≤ 1000) : n < sizeLine := Nat.lt_of_le_of_lt h (by decide)

/-! ### expressions in short: the name that stands in the i-th slot -/
section
variable {X : Cx}
theorem pv (i : Nat) {x : Str} {pos : Pos} (hN : X.N[i]? = some x := by rfl) (hv : Vis X.env.scope x := by first | exact Or.inl rfl | exact Or.inr (Or.inl rfl) | exact Or.inr (Or.inr rfl)) (hd : (x == ("__debug__" : Str)) = false := by decide)
    (hcd : (x == ("__classdict__" : Str)) = false := by decide) : PE X (.Name x pos) (tVar i) := pe_var hN hv hd hcd
end

/-! ### tests -/
theorem iteF {A B : Prop} (h : B) : if false = true then A else B := by
  rw [if_neg Bool.false_ne_true]
  exact h
theorem iteT {A B : Prop} (h : A) : if true = true then A else B := by
  rw [if_pos rfl]
  exact h
theorem ite2 {c A B : Prop} [Decidable c] (h1 : c → A) (h2 : ¬ c → B) : if c then A else B := by
  by_cases h : c
  · rw [if_pos h]
    exact h1 h
  · rw [if_neg h]
    exact h2 h
theorem iteNS {c A B : Prop} [Decidable c] (hc : c) (h : B) : if (!decide c) = true then A else B := by
  rw [decide_eq_true hc]
  exact iteF h

/-! ### heaps -/
/-- all that was tracked is as it was -/
def Same (H H' : Hp) : Prop := ∀ b o, H b = some o → H' b = some o
theorem Same.refl (H : Hp) : Same H H := fun _ _ h => h
theorem Same.trans {H H1 H2 : Hp} (a : Same H H1) (b : Same H1 H2) : Same H H2 := fun c o h => b c o (a c o h)
theorem Same.free {H H' : Hp} (e : Same H H') {l : Addr} (h : H' l = Option.none) : H l = Option.none := by
  cases q : H l with
  | none => rfl
  | some o =>
    rw [e l o q] at h
    cases h
theorem Same.seq {K : PySem.W.Frag} {H H' : Hp} {a : Addr} {xs : List V} (e : Same H H') (h : SqL K H a xs) : SqL K H' a xs := by
  rcases h with (h | ⟨o, h⟩) | h
  · exact .inl (.inl (e _ _ h))
  · exact .inl (.inr ⟨o, e _ _ h⟩)
  · exact .inr h

end L2

set_option Elab.async false
set_option linter.all false
set_option maxRecDepth 100000
set_option maxHeartbeats 1000000
namespace Tw
open PySem PySem.Spec PyProof.Rows L2

/-- a value with all that lies in it; scr: a list that is never written; own: a list just made, or a name's own -/
inductive D where
  | non | bl (b : Bool) | int (i : Int) | str (x : Str) | tup (xs : List D) | lst (xs : List D) | own (xs : List D) | scr (xs : List D) | dic | exn (C : Addr)

/-- an exception of the class at C -/
def ExcAt (a C : Addr) (h : Heap) : Prop := ∃ o vs, h.get? a = some o ∧ o.cls = .ref C ∧ o.data = .fields vs
abbrev Emp : Addr → Prop := fun _ => False
mutual
def Den (K : PySem.W.Frag) (O : Addr → Prop) (H : Hp) : D → V → Prop
  | .non, v => v = .non
  | .bl b, v => v = .bl b
  | .int i, v => v = .int i
  | .str x, v => v = .str x
  | .tup xs, v => ∃ a vs, v = .ref a ∧ SqT K H a vs ∧ DenL K O H xs vs
  | .lst xs, v => ∃ a vs, v = .ref a ∧ H a = some (.lst vs) ∧ ¬ O a ∧ DenL K O H xs vs
  | .own xs, v => ∃ a vs, v = .ref a ∧ H a = some (.lst vs) ∧ ¬ O a ∧ DenL K O H xs vs
  | .scr xs, v => ∃ a vs, v = .ref a ∧ ((∃ o, H a = some (.frz o (.lst vs))) ∨ SqL K (fun _ => none) a vs) ∧ DenL K O H xs vs
  | .dic, v => ∃ a, v = .ref a ∧ H a = some (.dK [])
  | .exn C, v => ∃ a, v = .ref a ∧ H a = some (.ext (ExcAt a C))
def DenL (K : PySem.W.Frag) (O : Addr → Prop) (H : Hp) : List D → List V → Prop
  | [], vs => vs = []
  | d :: ds, vs => ∃ v r, vs = v :: r ∧ Den K O H d v ∧ DenL K O H ds r
end

section
variable {K : PySem.W.Frag} {O O' : Addr → Prop} {H H' : Hp}
mutual
theorem den_mono (h1 : ∀ b o, H b = some o → ¬ O b → H' b = some o) (hO : ∀ b, O b → ∃ ws, H b = some (.lst ws)) (h2 : ∀ b, O' b → O b ∨ H b = none) :
    ∀ (d : D) (v : V), Den K O H d v → Den K O' H' d v
  | .non, v, h => by rw [Den] at h ⊢; exact h
  | .bl b, v, h => by rw [Den] at h ⊢; exact h
  | .int i, v, h => by rw [Den] at h ⊢; exact h
  | .str x, v, h => by rw [Den] at h ⊢; exact h
  | .tup xs, v, h => by
    rw [Den] at h ⊢
    obtain ⟨a, vs, e, q, l⟩ := h
    refine ⟨a, vs, e, ?_, denL_mono h1 hO h2 xs vs l⟩
    rcases q with (q | ⟨o, q⟩) | q
    · exact .inl (.inl (h1 _ _ q fun z => by obtain ⟨ws, e⟩ := hO a z; rw [q] at e; cases e))
    · exact .inl (.inr ⟨o, h1 _ _ q fun z => by obtain ⟨ws, e⟩ := hO a z; rw [q] at e; cases e⟩)
    · exact .inr q
  | .lst xs, v, h => by
    rw [Den] at h ⊢
    obtain ⟨a, vs, e, q, n, l⟩ := h
    refine ⟨a, vs, e, h1 _ _ q n, fun z => ?_, denL_mono h1 hO h2 xs vs l⟩
    rcases h2 a z with z | z
    · exact n z
    · rw [q] at z; cases z
  | .own xs, v, h => by
    rw [Den] at h ⊢
    obtain ⟨a, vs, e, q, n, l⟩ := h
    refine ⟨a, vs, e, h1 _ _ q n, fun z => ?_, denL_mono h1 hO h2 xs vs l⟩
    rcases h2 a z with z | z
    · exact n z
    · rw [q] at z; cases z
  | .scr xs, v, h => by
    rw [Den] at h ⊢
    obtain ⟨a, vs, e, q, l⟩ := h
    refine ⟨a, vs, e, ?_, denL_mono h1 hO h2 xs vs l⟩
    rcases q with ⟨o, q⟩ | q
    · exact .inl ⟨o, h1 _ _ q fun z => by obtain ⟨ws, e⟩ := hO a z; rw [q] at e; cases e⟩
    · exact .inr q
  | .dic, v, h => by
    rw [Den] at h ⊢
    obtain ⟨a, e, q⟩ := h
    exact ⟨a, e, h1 _ _ q fun z => by obtain ⟨ws, e⟩ := hO a z; rw [q] at e; cases e⟩
  | .exn C, v, h => by
    rw [Den] at h ⊢
    obtain ⟨a, e, q⟩ := h
    exact ⟨a, e, h1 _ _ q fun z => by obtain ⟨ws, e⟩ := hO a z; rw [q] at e; cases e⟩
theorem denL_mono (h1 : ∀ b o, H b = some o → ¬ O b → H' b = some o) (hO : ∀ b, O b → ∃ ws, H b = some (.lst ws)) (h2 : ∀ b, O' b → O b ∨ H b = none) :
    ∀ (ds : List D) (vs : List V), DenL K O H ds vs → DenL K O' H' ds vs
  | [], vs, h => by rw [DenL] at h ⊢; exact h
  | d :: ds, vs, h => by
    rw [DenL] at h ⊢
    obtain ⟨v, r, e, q, l⟩ := h
    exact ⟨v, r, e, den_mono h1 hO h2 d v q, denL_mono h1 hO h2 ds r l⟩
end
/-- in expressions: nothing is owned -/
theorem den_same (s : Same H H') {d : D} {v : V} (h : Den K Emp H d v) : Den K Emp H' d v := den_mono (fun b o e _ => s b o e) (fun _ z => z.elim) (fun _ z => z.elim) d v h
theorem denL_same (s : Same H H') {d : List D} {v : List V} (h : DenL K Emp H d v) : DenL K Emp H' d v := denL_mono (fun b o e _ => s b o e) (fun _ z => z.elim) (fun _ z => z.elim) d v h
theorem denL_cons {d : D} {ds : List D} {v : V} {vs : List V} (h : Den K O H d v) (t : DenL K O H ds vs) : DenL K O H (d :: ds) (v :: vs) := by rw [DenL]; exact ⟨v, vs, rfl, h, t⟩
theorem denL_nil : DenL K O H [] [] := by rw [DenL]
theorem denL_append : ∀ {ds es : List D} {vs ws : List V}, DenL K O H ds vs → DenL K O H es ws → DenL K O H (ds ++ es) (vs ++ ws)
  | [], _, _, _, h, t => by rw [DenL] at h; subst h; exact t
  | d :: ds, _, _, _, h, t => by
    rw [DenL] at h
    obtain ⟨v, r, rfl, q, l⟩ := h
    exact denL_cons q (denL_append l t)
theorem denL_length : ∀ {ds : List D} {vs : List V}, DenL K O H ds vs → ds.length = vs.length
  | [], _, h => by rw [DenL] at h; subst h; rfl
  | d :: ds, _, h => by
    rw [DenL] at h
    obtain ⟨v, r, rfl, q, l⟩ := h
    rw [List.length_cons, List.length_cons, denL_length l]
theorem denL_get : ∀ {ds : List D} {vs : List V} {i : Nat} {d : D}, DenL K O H ds vs → ds[i]? = some d → ∃ v, vs[i]? = some v ∧ Den K O H d v
  | [], _, _, _, _, e => by simp at e
  | d :: ds, _, 0, _, h, e => by
    rw [DenL] at h
    obtain ⟨v, r, rfl, q, l⟩ := h
    simp at e; subst e
    exact ⟨v, rfl, q⟩
  | d :: ds, _, i + 1, x, h, e => by
    rw [DenL] at h
    obtain ⟨v, r, rfl, q, l⟩ := h
    obtain ⟨u, h1, h2⟩ := denL_get (i := i) (d := x) l (by simpa using e)
    exact ⟨u, by simpa using h1, h2⟩
theorem denL_take : ∀ {ds : List D} {vs : List V} (n : Nat), DenL K O H ds vs → DenL K O H (ds.take n) (vs.take n)
  | [], _, n, h => by rw [DenL] at h; subst h; simp; exact denL_nil
  | d :: ds, _, 0, h => by simp; exact denL_nil
  | d :: ds, _, n + 1, h => by
    rw [DenL] at h
    obtain ⟨v, r, rfl, q, l⟩ := h
    exact denL_cons q (denL_take n l)
theorem denL_drop : ∀ {ds : List D} {vs : List V} (n : Nat), DenL K O H ds vs → DenL K O H (ds.drop n) (vs.drop n)
  | [], _, n, h => by rw [DenL] at h; subst h; simp; exact denL_nil
  | d :: ds, _, 0, h => h
  | d :: ds, _, n + 1, h => by
    rw [DenL] at h
    obtain ⟨v, r, rfl, q, l⟩ := h
    exact denL_drop n l
end

/-! without lists in it -/
mutual
def lf : D → Bool
  | .tup xs => lfL xs
  | .scr xs => lfL xs
  | .lst _ => false
  | .own _ => false
  | _ => true
def lfL : List D → Bool
  | [] => true
  | d :: ds => lf d && lfL ds
end
section
variable {K : PySem.W.Frag} {O O' : Addr → Prop} {H : Hp}
mutual
theorem den_lf : ∀ (d : D) (v : V), lf d = true → Den K O H d v → Den K O' H d v
  | .non, v, _, h => by rw [Den] at h ⊢; exact h
  | .bl b, v, _, h => by rw [Den] at h ⊢; exact h
  | .int i, v, _, h => by rw [Den] at h ⊢; exact h
  | .str x, v, _, h => by rw [Den] at h ⊢; exact h
  | .tup xs, v, f, h => by
    rw [Den] at h ⊢
    obtain ⟨a, vs, e, q, l⟩ := h
    exact ⟨a, vs, e, q, denL_lf xs vs (by rw [lf] at f; exact f) l⟩
  | .scr xs, v, f, h => by
    rw [Den] at h ⊢
    obtain ⟨a, vs, e, q, l⟩ := h
    exact ⟨a, vs, e, q, denL_lf xs vs (by rw [lf] at f; exact f) l⟩
  | .lst xs, v, f, h => by rw [lf] at f; cases f
  | .own xs, v, f, h => by rw [lf] at f; cases f
  | .dic, v, _, h => by rw [Den] at h ⊢; exact h
  | .exn _, v, _, h => by rw [Den] at h ⊢; exact h
theorem denL_lf : ∀ (d : List D) (v : List V), lfL d = true → DenL K O H d v → DenL K O' H d v
  | [], v, _, h => by rw [DenL] at h ⊢; exact h
  | d :: ds, v, f, h => by
    rw [lfL, Bool.and_eq_true] at f
    rw [DenL] at h ⊢
    obtain ⟨u, r, e, q, l⟩ := h
    exact ⟨u, r, e, den_lf d u f.1 q, denL_lf ds r f.2 l⟩
end
end
def frz : D → D
  | .own xs => .lst xs
  | d => d
theorem den_frz {K : PySem.W.Frag} {O : Addr → Prop} {H : Hp} {d : D} {v : V} : Den K O H (frz d) v ↔ Den K O H d v := by
  cases d <;> simp only [frz]
  rw [Den, Den]
/-- an expression's value: a list of its own is younger than the start -/
def DenF (K : PySem.W.Frag) (H H' : Hp) : D → V → Prop
  | .own xs, v => ∃ a vs, v = .ref a ∧ H a = none ∧ H' a = some (.lst vs) ∧ DenL K Emp H' xs vs
  | d, v => Den K Emp H' d v
theorem DenF.den {K : PySem.W.Frag} {H H' : Hp} : ∀ {d : D} {v : V}, DenF K H H' d v → Den K Emp H' d v
  | .own xs, v, h => by
    obtain ⟨a, vs, e, _, q, l⟩ := h
    rw [Den]; exact ⟨a, vs, e, q, fun z => z, l⟩
  | .non, v, h => h
  | .bl _, v, h => h
  | .int _, v, h => h
  | .str _, v, h => h
  | .tup _, v, h => h
  | .lst _, v, h => h
  | .scr _, v, h => h
  | .dic, v, h => h
  | .exn _, v, h => h
theorem DenF.of {K : PySem.W.Frag} {H H' : Hp} : ∀ {d : D} {v : V}, Den K Emp H' (frz d) v → DenF K H H' (frz d) v
  | .own xs, v, h => h
  | .non, v, h => h
  | .bl _, v, h => h
  | .int _, v, h => h
  | .str _, v, h => h
  | .tup _, v, h => h
  | .lst _, v, h => h
  | .scr _, v, h => h
  | .dic, v, h => h
  | .exn _, v, h => h
/-- younger than an elder start -/
theorem DenF.elder {K : PySem.W.Frag} {H0 H H' : Hp} (s : Same H0 H) : ∀ {d : D} {v : V}, DenF K H H' d v → DenF K H0 H' d v
  | .own xs, v, h => by
    obtain ⟨a, vs, e, n, q, l⟩ := h
    exact ⟨a, vs, e, s.free n, q, l⟩
  | .non, v, h => h
  | .bl _, v, h => h
  | .int _, v, h => h
  | .str _, v, h => h
  | .tup _, v, h => h
  | .lst _, v, h => h
  | .scr _, v, h => h
  | .dic, v, h => h
  | .exn _, v, h => h

abbrev Ev := List (Option D)
def RepV (K : PySem.W.Frag) (ρ : Ev) (σ : L2.St) (H : Hp) : Prop := ∀ (i : Nat) (d : D), ρ[i]? = some (some d) → ∃ v, σ[i]? = some (some v) ∧ Den K Emp H d v
theorem RepV.same {K : PySem.W.Frag} {ρ : Ev} {σ : L2.St} {H H' : Hp} (r : RepV K ρ σ H) (s : Same H H') : RepV K ρ σ H' := fun i d e => let ⟨v, h1, h2⟩ := r i d e; ⟨v, h1, den_same s h2⟩
abbrev FE := Ev → Option D
abbrev FT := Ev → Option Bool
abbrev FA := Ev → Option (List D)
def tX (X : Cx) (f : FE) : TE := fun σ H Q => ∃ ρ d, RepV X.K ρ σ H ∧ f ρ = some d ∧ ∀ v H', Same H H' → DenF X.K H H' d v → Q v H'
def tT (X : Cx) (f : FT) : TT := fun σ H Q => ∃ ρ b, RepV X.K ρ σ H ∧ f ρ = some b ∧ ∀ H', Same H H' → Q b H'
def tA (X : Cx) (f : FA) : TA := fun σ H Q => ∃ ρ ds, RepV X.K ρ σ H ∧ f ρ = some ds ∧ ∀ vs H', Same H H' → DenL X.K Emp H' ds vs → Q vs H'
def PX (X : Cx) (e : Expr) (f : FE) : Prop := PE X e (tX X f)
def PXT (X : Cx) (e : Expr) (f : FT) : Prop := PT X e (tT X f)
def PXW (X : Cx) (e : Expr) (f : FT) : Prop := PW X e (tT X f)
def PXA (X : Cx) (es : List Expr) (f : FA) : Prop := PA X es (tA X f)
theorem PE.weak {X : Cx} {e : Expr} {t u : TE} (h : PE X e t) (w : ∀ σ H Q, u σ H Q → t σ H Q) : PE X e u := fun pins s σ H Q I q => h pins s σ H Q I (w σ H Q q)
theorem PT.weak {X : Cx} {e : Expr} {t u : TT} (h : PT X e t) (w : ∀ σ H Q, u σ H Q → t σ H Q) : PT X e u := fun pins s σ H Q I q => h pins s σ H Q I (w σ H Q q)
theorem PW.weak {X : Cx} {e : Expr} {t u : TT} (h : PW X e t) (w : ∀ σ H Q, u σ H Q → t σ H Q) : PW X e u := fun wh pins s σ H Q I q => h wh pins s σ H Q I (w σ H Q q)
theorem PA.weak {X : Cx} {e : List Expr} {t u : TA} (h : PA X e t) (w : ∀ σ H Q, u σ H Q → t σ H Q) : PA X e u := fun pos pins s σ H Q I q => h pos pins s σ H Q I (w σ H Q q)

/-! ### statements -/
inductive R where
  | nx (ρ : Ev) | bk (ρ : Ev) | ct (ρ : Ev) | rt (d : D)
abbrev FS := Ev → Option R
def Own (own : Nat → Option Addr) : Addr → Prop := fun a => ∃ i, own i = some a
def SlotOk (K : PySem.W.Frag) (own : Nat → Option Addr) (H : Hp) (i : Nat) : D → V → Prop
  | .own xs, v => ∃ a vs, own i = some a ∧ v = .ref a ∧ H a = some (.lst vs) ∧ lfL xs = true ∧ DenL K (Own own) H xs vs
  | d, v => Den K (Own own) H d v
structure Rep (X : Cx) (P : List (D × V)) (ρ : Ev) (own : Nat → Option Addr) (σ : L2.St) (H : Hp) : Prop where
  same : Same X.H₀ H
  len : ρ.length = σ.length
  slot : ∀ (i : Nat) (d : D), ρ[i]? = some (some d) → ∃ v, σ[i]? = some (some v) ∧ SlotOk X.K own H i d v
  inj : ∀ i j a, own i = some a → own j = some a → i = j
  lst : ∀ i a, own i = some a → ∃ ws, H a = some (.lst ws)
  new : ∀ i a, own i = some a → X.H₀ a = none
  prot : ∀ p ∈ P, Den X.K (Own own) H p.1 p.2
def EndsOk (X : Cx) (P : List (D × V)) (E : Ends) : R → Prop
  | .nx ρ => ∀ own σ H, Rep X P ρ own σ H → E.nx σ H
  | .bk ρ => ∀ own σ H, Rep X P ρ own σ H → E.bk σ H
  | .ct ρ => ∀ own σ H, Rep X P ρ own σ H → E.ct σ H
  | .rt d => ∀ v H, Same X.H₀ H → DenF X.K X.H₀ H d v → E.rt v H
def tS (X : Cx) (F : FS) : TS := fun E σ H => ∃ P own ρ r, Rep X P ρ own σ H ∧ F ρ = some r ∧ EndsOk X P E r
def PXS (X : Cx) (st : Stmt) (F : FS) : Prop := PS X st (tS X F)
def PXSs (X : Cx) (st : List Stmt) (F : FS) : Prop := PSs X st (tS X F)
theorem PS.weak {X : Cx} {e : Stmt} {t u : TS} (h : PS X e t) (w : ∀ E σ H, u E σ H → t E σ H) : PS X e u := fun pins s σ H E I q => h pins s σ H E I (w E σ H q)
theorem PSs.weak {X : Cx} {e : List Stmt} {t u : TS} (h : PSs X e t) (w : ∀ E σ H, u E σ H → t E σ H) : PSs X e u := fun pins s σ H E I q => h pins s σ H E I (w E σ H q)

section
variable {X : Cx} {P : List (D × V)} {ρ : Ev} {own : Nat → Option Addr} {σ : L2.St} {H H' : Hp}
theorem Rep.isL (r : Rep X P ρ own σ H) : ∀ b, Own own b → ∃ ws, H b = some (.lst ws) := fun b ⟨i, e⟩ => r.lst i b e
theorem Rep.view (r : Rep X P ρ own σ H) : RepV X.K ρ σ H := fun i d e => by
  obtain ⟨v, h1, h2⟩ := r.slot i d e
  refine ⟨v, h1, ?_⟩
  have mono : ∀ d v, Den X.K (Own own) H d v → Den X.K Emp H d v := fun d v => den_mono (fun _ _ q _ => q) r.isL (fun _ z => z.elim) d v
  cases d with
  | own xs =>
    obtain ⟨a, vs, _, e1, e2, _, l⟩ := h2
    rw [Den]
    exact ⟨a, vs, e1, e2, fun z => z, denL_mono (fun _ _ q _ => q) r.isL (fun _ z => z.elim) xs vs l⟩
  | _ => exact mono _ v h2
/-- the heap has grown -/
theorem SlotOk.grow {K : PySem.W.Frag} {own own' : Nat → Option Addr} {i : Nat} {d : D} {v : V} (h1 : ∀ b o, H b = some o → ¬ Own own b → H' b = some o) (hO : ∀ b, Own own b → ∃ ws, H b = some (.lst ws)) (h2 : ∀ b, Own own' b → Own own b ∨ H b = none)
    (ho : own' i = own i) (hk : ∀ a, own i = some a → H' a = H a) (h : SlotOk K own H i d v) : SlotOk K own' H' i d v := by
  cases d with
  | own xs =>
    obtain ⟨a, vs, e0, e1, e2, f, l⟩ := h
    exact ⟨a, vs, ho.trans e0, e1, (hk a e0).trans e2, f, denL_mono h1 hO h2 xs vs l⟩
  | _ => exact den_mono h1 hO h2 _ v h
theorem Rep.grow (r : Rep X P ρ own σ H) (s : Same H H') : Rep X P ρ own σ H' where
  same := r.same.trans s
  len := r.len
  slot := fun i d e => by
    obtain ⟨v, h1, h2⟩ := r.slot i d e
    refine ⟨v, h1, SlotOk.grow (fun b o q _ => s b o q) r.isL (fun b z => .inl z) rfl (fun a e => ?_) h2⟩
    obtain ⟨ws, q⟩ := r.lst i a e
    rw [q, s a _ q]
  inj := r.inj
  lst := fun i a e => let ⟨ws, q⟩ := r.lst i a e; ⟨ws, s a _ q⟩
  new := r.new
  prot := fun p hp => den_mono (fun b o q _ => s b o q) r.isL (fun b z => .inl z) _ _ (r.prot p hp)

def frzO : Option D → Option D
  | some d => some (frz d)
  | none => none
def frzAll (ρ : Ev) : Ev := ρ.map frzO
/-- a value stored in slot i -/
def bindD (ρ : Ev) (i : Nat) (d : D) : Ev :=
  if lf d = true then ρ.set i (some d)
  else match d with
    | .own xs => if lfL xs = true then ρ.set i (some (.own xs)) else (frzAll ρ).set i (some (.lst xs))
    | d => (frzAll ρ).set i (some d)
theorem SlotOk.plain {K : PySem.W.Frag} {i : Nat} {v : V} : ∀ {d : D}, Den K (Own own) H (frz d) v → SlotOk K own H i (frz d) v
  | .own _, h => h
  | .non, h => h
  | .bl _, h => h
  | .int _, h => h
  | .str _, h => h
  | .tup _, h => h
  | .lst _, h => h
  | .scr _, h => h
  | .dic, h => h
  | .exn _, h => h
theorem lf_frz : ∀ {d : D}, lf d = true → frz d = d
  | .own xs, h => by rw [lf] at h; cases h
  | .non, _ => rfl
  | .bl _, _ => rfl
  | .int _, _ => rfl
  | .str _, _ => rfl
  | .tup _, _ => rfl
  | .lst _, _ => rfl
  | .scr _, _ => rfl
  | .dic, _ => rfl
  | .exn _, _ => rfl
/-- everything read only -/
theorem Rep.frozen (r : Rep X P ρ own σ H) : Rep X P (frzAll ρ) (fun _ => none) σ H where
  same := r.same
  len := by unfold frzAll; rw [List.length_map]; exact r.len
  slot := fun i d e => by
    unfold frzAll at e
    rw [List.getElem?_map] at e
    cases q : ρ[i]? with
    | none => rw [q] at e; cases e
    | some o =>
      rw [q] at e
      cases o with
      | none => cases e
      | some d0 =>
        have e' : frz d0 = d := by cases e; rfl
        subst e'
        obtain ⟨v, h1, h2⟩ := r.view i d0 q
        refine ⟨v, h1, SlotOk.plain ?_⟩
        exact den_mono (fun _ _ q _ => q) (fun _ z => z.elim) (fun b z => by obtain ⟨i, z⟩ := z; cases z) _ v (den_frz.mpr h2)
  inj := fun i j a e => by cases e
  lst := fun i a e => by cases e
  new := fun i a e => by cases e
  prot := fun p hp => den_mono (fun _ _ q _ => q) r.isL (fun b z => by obtain ⟨i, z⟩ := z; cases z) _ _ (r.prot p hp)
/-- slot i gets a value without an own list -/
theorem Rep.put (r : Rep X P ρ own σ H) {i : Nat} {d : D} {v : V} (hd : frz d = d) (h : Den X.K (Own own) H d v) : Rep X P (ρ.set i (some d)) (fun j => if j = i then none else own j) (σ.set i (some v)) H := by
  have sub : ∀ b, Own (fun j => if j = i then none else own j) b → Own own b := fun b ⟨j, e⟩ => by
    by_cases q : j = i
    · simp [q] at e
    · simp [q] at e; exact ⟨j, e⟩
  refine ⟨r.same, by rw [List.length_set, List.length_set]; exact r.len, fun j d' e => ?_, fun j k a e1 e2 => ?_, fun j a e => ?_, fun j a e => ?_, fun p hp => den_mono (fun _ _ q _ => q) r.isL (fun b z => .inl (sub b z)) _ _ (r.prot p hp)⟩
  · by_cases q : i = j
    · subst q
      rw [List.getElem?_set] at e
      rw [if_pos rfl] at e
      split at e
      · rename_i hl
        cases e
        refine ⟨v, by rw [List.getElem?_set, if_pos rfl, if_pos (by rw [← r.len]; exact hl)], ?_⟩
        rw [← hd]
        refine SlotOk.plain (den_mono (fun _ _ q _ => q) r.isL (fun b z => .inl (sub b z)) _ _ ?_)
        rw [hd]; exact h
      · cases e
    · rw [List.getElem?_set_ne q] at e
      obtain ⟨u, h1, h2⟩ := r.slot j d' e
      refine ⟨u, by rw [List.getElem?_set_ne q]; exact h1, SlotOk.grow (fun _ _ q _ => q) r.isL (fun b z => .inl (sub b z)) (by show (if j = i then none else own j) = own j; rw [if_neg (Ne.symm q)]) (fun _ _ => rfl) h2⟩
  · try dsimp only at e1 e2
    split at e1
    · cases e1
    · split at e2
      · cases e2
      · exact r.inj j k a e1 e2
  · try dsimp only at e
    split at e
    · cases e
    · exact r.lst j a e
  · try dsimp only at e
    split at e
    · cases e
    · exact r.new j a e
/-- slot i gets a list of its own -/
theorem Rep.putOwn (r : Rep X P ρ own σ H) {i : Nat} {a : Addr} {xs : List D} {vs : List V} (hn : ¬ Own (fun j => if j = i then none else own j) a) (hP : ∀ p ∈ P, Den X.K (fun b => Own own b ∨ b = a) H p.1 p.2) (hS : ∀ (j : Nat) (d : D) (v : V), ρ[j]? = some (some d) → σ[j]? = some (some v) → frz d = d → Den X.K (fun b => Own own b ∨ b = a) H d v)
    (f : lfL xs = true) (h0 : X.H₀ a = none) (h : H a = some (.lst vs)) (l : DenL X.K (fun b => Own own b ∨ b = a) H xs vs) :
    Rep X P (ρ.set i (some (.own xs))) (fun j => if j = i then some a else own j) (σ.set i (some (.ref a))) H := by
  have sub : ∀ b, Own (fun j => if j = i then some a else own j) b → (Own own b ∨ b = a) := fun b ⟨j, e⟩ => by
    by_cases q : j = i
    · simp [q] at e; exact .inr e.symm
    · simp [q] at e; exact .inl ⟨j, e⟩
  have isL : ∀ b, (Own own b ∨ b = a) → ∃ ws, H b = some (.lst ws) := fun b z => by
    rcases z with z | z
    · exact r.isL b z
    · rw [z]; exact ⟨vs, h⟩
  refine ⟨r.same, by rw [List.length_set, List.length_set]; exact r.len, fun j d' e => ?_, fun j k b e1 e2 => ?_, fun j b e => ?_, fun j b e => ?_, fun p hp => den_mono (fun _ _ q _ => q) isL (fun b z => .inl (sub b z)) _ _ (hP p hp)⟩
  · by_cases q : i = j
    · subst q
      rw [List.getElem?_set, if_pos rfl] at e
      split at e
      · rename_i hl
        cases e
        exact ⟨.ref a, by rw [List.getElem?_set, if_pos rfl, if_pos (by rw [← r.len]; exact hl)], a, vs, by simp, rfl, h, f, denL_mono (fun _ _ q _ => q) isL (fun b z => .inl (sub b z)) _ _ l⟩
      · cases e
    · rw [List.getElem?_set_ne q] at e
      obtain ⟨u, h1, h2⟩ := r.slot j d' e
      refine ⟨u, by rw [List.getElem?_set_ne q]; exact h1, ?_⟩
      cases d' with
      | own xs' =>
        obtain ⟨b, ws, e0, e1, e2, f', l'⟩ := h2
        exact ⟨b, ws, by show (if j = i then some a else own j) = some b; rw [if_neg (Ne.symm q)]; exact e0, e1, e2, f', denL_lf _ _ f' l'⟩
      | _ => exact den_mono (fun _ _ q _ => q) isL (fun b z => .inl (sub b z)) _ _ (hS j _ u e h1 rfl)
  · try dsimp only at e1 e2
    by_cases q1 : j = i
    · by_cases q2 : k = i
      · rw [q1, q2]
      · rw [if_pos q1] at e1; cases e1
        rw [if_neg q2] at e2
        exact absurd ⟨k, by simp [q2]; exact e2⟩ hn
    · by_cases q2 : k = i
      · rw [if_pos q2] at e2; cases e2
        rw [if_neg q1] at e1
        exact absurd ⟨j, by simp [q1]; exact e1⟩ hn
      · rw [if_neg q1] at e1; rw [if_neg q2] at e2
        exact r.inj j k b e1 e2
  · try dsimp only at e
    split at e
    · cases e; exact ⟨vs, h⟩
    · exact r.lst j b e
  · try dsimp only at e
    split at e
    · cases e; exact h0
    · exact r.new j b e
/-- a fresh list of its own into slot i -/
theorem Rep.bindOwn (r : Rep X P ρ own σ H) (s : Same H H') {i : Nat} {a : Addr} {xs : List D} {vs : List V} (hn : H a = none) (h : H' a = some (.lst vs)) (f : lfL xs = true) (l : DenL X.K Emp H' xs vs) :
    Rep X P (ρ.set i (some (.own xs))) (fun j => if j = i then some a else own j) (σ.set i (some (.ref a))) H' := by
  have up : ∀ b, (Own own b ∨ b = a) → Own own b ∨ H b = none := fun b z => z.elim .inl fun z => .inr (by rw [z]; exact hn)
  refine (r.grow s).putOwn (fun ⟨j, e⟩ => ?_) (fun p hp => den_mono (fun b o q _ => s b o q) r.isL up _ _ (r.prot p hp)) (fun j d v e1 e2 e3 => ?_) f (r.same.free hn) h (denL_lf _ _ f l)
  · have e' : own j = some a := by
      dsimp only at e
      split at e
      · cases e
      · exact e
    obtain ⟨ws, q⟩ := r.lst j a e'
    rw [hn] at q; cases q
  · obtain ⟨u, h1, h2⟩ := r.slot j d e1
    rw [e2] at h1; cases h1
    refine den_mono (fun b o q _ => s b o q) r.isL up _ _ ?_
    cases d with
    | own _ => cases e3
    | _ => exact h2
/-- the own list of slot i is written -/
theorem Rep.mut (r : Rep X P ρ own σ H) {i : Nat} {a : Addr} {xs ys : List D} {vs : List V} (e : ρ[i]? = some (some (D.own xs))) (ei : own i = some a) (f : lfL ys = true) (l : DenL X.K Emp H ys vs) :
    Rep X P (ρ.set i (some (.own ys))) own σ (upd H a (.lst vs)) := by
  have step : ∀ b o, H b = some o → ¬ Own own b → upd H a (.lst vs) b = some o := fun b o q n => by
    have ne : b ≠ a := fun z => n ⟨i, by rw [z]; exact ei⟩
    rw [upd_ne ne]; exact q
  have isL : ∀ b, Own own b → ∃ ws, upd H a (.lst vs) b = some (.lst ws) := fun b z => by
    by_cases q : b = a
    · rw [q]; exact ⟨vs, upd_same⟩
    · rw [upd_ne q]; exact r.isL b z
  refine ⟨fun b o q => ?_, by rw [List.length_set]; exact r.len, fun j d' e' => ?_, r.inj, fun j b e' => isL b ⟨j, e'⟩, r.new, fun p hp => den_mono step r.isL (fun b z => .inl z) _ _ (r.prot p hp)⟩
  · have ne : b ≠ a := fun z => by
      have := r.new i a ei
      rw [← z, q] at this; cases this
    rw [upd_ne ne]; exact r.same b o q
  · by_cases q : i = j
    · subst q
      rw [List.getElem?_set, if_pos rfl] at e'
      split at e'
      · cases e'
        obtain ⟨v, h1, b, ws, h2, h3, _⟩ := r.slot i _ e
        rw [ei] at h2; cases h2
        refine ⟨v, h1, a, vs, ei, h3, upd_same, f, denL_lf (O := Own own) _ _ f (denL_mono step r.isL (fun b z => .inl z) _ _ (denL_lf _ _ f l))⟩
      · cases e'
    · rw [List.getElem?_set_ne q] at e'
      obtain ⟨u, h1, h2⟩ := r.slot j d' e'
      refine ⟨u, h1, SlotOk.grow step r.isL (fun b z => .inl z) rfl (fun b e2 => ?_) h2⟩
      have ne : b ≠ a := fun z => q (r.inj i j a ei (by rw [← z]; exact e2))
      rw [upd_ne ne]
/-- the rule of a store -/
theorem Rep.bind (r : Rep X P ρ own σ H) (s : Same H H') {i : Nat} {d : D} {v : V} (h : DenF X.K H H' d v) : ∃ own', Rep X P (bindD ρ i d) own' (σ.set i (some v)) H' := by
  unfold bindD
  by_cases f : lf d = true
  · rw [if_pos f]
    exact ⟨_, (r.grow s).put (lf_frz f) (den_lf _ _ f h.den)⟩
  · rw [if_neg f]
    have fz : ∀ d', frz d' = d' → Den X.K Emp H' d' v → ∃ own', Rep X P ((frzAll ρ).set i (some d')) own' (σ.set i (some v)) H' := fun d' e q =>
      ⟨_, (r.grow s).frozen.put e (den_mono (fun _ _ q _ => q) (fun _ z => z.elim) (fun b z => by obtain ⟨i, z⟩ := z; cases z) _ v q)⟩
    cases d with
    | own xs =>
      dsimp only
      by_cases g : lfL xs = true
      · rw [if_pos g]
        obtain ⟨a, vs, rfl, hn, ha, l⟩ := h
        exact ⟨_, r.bindOwn s hn ha g l⟩
      · rw [if_neg g]
        exact fz _ rfl (den_frz.mpr h.den)
    | lst xs => exact fz _ rfl h.den
    | tup xs => exact fz _ rfl h.den
    | scr xs => exact fz _ rfl h.den
    | dic => exact fz _ rfl h.den
    | exn C => exact fz _ rfl h.den
    | non => exact absurd rfl f
    | bl b => exact absurd rfl f
    | int b => exact absurd rfl f
    | str b => exact absurd rfl f
end
end Tw

set_option Elab.async false
set_option linter.all false
set_option maxRecDepth 100000
set_option maxHeartbeats 1000000
namespace Tw
open PySem PySem.Spec PyProof.Rows L2
section
variable {X : Cx} {a b c e : Expr} {pos : Pos} {f g h : FE}

/-! ### names, constants -/
def fVar (i : Nat) : FE := fun ρ => match ρ[i]? with
  | some (some d) => some (frz d)
  | _ => none
def fC (d : D) : FE := fun _ => some d
theorem px_name (i : Nat) {x : Str} (hN : X.N[i]? = some x := by rfl) (hv : Vis X.env.scope x := by first | exact Or.inl rfl | exact Or.inr (Or.inl rfl) | exact Or.inr (Or.inr rfl)) (hd : (x == ("__debug__" : Str)) = false := by decide) (hcd : (x == ("__classdict__" : Str)) = false := by decide) : PX X (.Name x pos) (fVar i) := by
  refine PE.weak (pe_var hN hv hd hcd) fun σ H Q ⟨ρ, d, rv, e, q⟩ => ?_
  unfold fVar at e
  split at e
  · rename_i d0 e0
    cases e
    obtain ⟨v, h1, h2⟩ := rv i d0 e0
    exact ⟨v, h1, q v H (Same.refl H) (DenF.of (den_frz.mpr h2))⟩
  · cases e
theorem tC_of {d : D} {v : V} (hd : ∀ H, DenF X.K H H d v) : ∀ σ H Q, tX X (fC d) σ H Q → tC v σ H Q := fun σ H Q ⟨ρ, d', rv, e, q⟩ => by cases e; exact q v H (Same.refl H) (hd H)
theorem px_int {i : Int} {j : Nat} : PX X (.Constant (.int i) j pos) (fC (.int i)) := PE.weak pe_int (tC_of fun H => by show Den _ Emp _ _ _; rw [Den])
theorem px_bl {i : Bool} {j : Nat} : PX X (.Constant (.bool i) j pos) (fC (.bl i)) := PE.weak pe_bl (tC_of fun H => by show Den _ Emp _ _ _; rw [Den])
theorem px_non {j : Nat} : PX X (.Constant .none j pos) (fC .non) := PE.weak pe_non (tC_of fun H => by show Den _ Emp _ _ _; rw [Den])
theorem px_str {i : Str} {j : Nat} : PX X (.Constant (.str i) j pos) (fC (.str i)) := PE.weak pe_str (tC_of fun H => by show Den _ Emp _ _ _; rw [Den])

/-! ### two places -/
def fBin (op : D → D → Option D) (f g : FE) : FE := fun ρ => (f ρ).bind fun x => (g ρ).bind fun y => op x y
theorem bin_weak {r : R2} {op : D → D → Option D} (k : ∀ (x y d : D) (v u : V) (H : Hp) (Q : VK), op x y = some d → Den X.K Emp H x v → Den X.K Emp H y u → (∀ w H', Same H H' → DenF X.K H H' d w → Q w H') → r v u H Q) :
    ∀ σ H Q, tX X (fBin op f g) σ H Q → tOp r (tX X f) (tX X g) σ H Q := fun σ H Q ⟨ρ, d, rv, e, q⟩ => by
  unfold fBin at e
  cases e1 : f ρ with
  | none => rw [e1] at e; cases e
  | some x =>
    cases e2 : g ρ with
    | none => rw [e1, e2] at e; cases e
    | some y =>
      rw [e1, e2] at e
      refine ⟨ρ, x, rv, e1, fun v H1 s1 d1 => ⟨ρ, y, rv.same s1, e2, fun u H2 s2 d2 => ?_⟩⟩
      exact k x y d v u H2 Q e (den_same s2 d1.den) d2.den fun w H' s3 d3 => q w H' ((s1.trans s2).trans s3) (d3.elder (s1.trans s2))
theorem px_bin {op : Operator} {r : R2} {o : D → D → Option D} (ho : OpR X (binaryOp op) r) (k : ∀ (x y d : D) (v u : V) (H : Hp) (Q : VK), o x y = some d → Den X.K Emp H x v → Den X.K Emp H y u → (∀ w H', Same H H' → DenF X.K H H' d w → Q w H') → r v u H Q)
    (ha : PX X a f) (hb : PX X b g) : PX X (.BinOp a op b pos) (fBin o f g) := PE.weak (pe_op ho ha hb) (bin_weak k)
theorem px_cmp {op : CmpOp} {r : R2} {o : D → D → Option D} (ho : OpR X (compareOp op) r) (k : ∀ (x y d : D) (v u : V) (H : Hp) (Q : VK), o x y = some d → Den X.K Emp H x v → Den X.K Emp H y u → (∀ w H', Same H H' → DenF X.K H H' d w → Q w H') → r v u H Q)
    (ha : PX X a f) (hb : PX X b g) (hm : behindInMarks op b = false := by first | exact nomark _ | rfl) : PX X (.Compare a [op] [b] pos) (fBin o f g) := PE.weak (pe_cmpR ho ha hb hm) (bin_weak k)
def fTest (f : FE) : FT := fun ρ => (f ρ).bind fun d => match d with | .bl k => some k | _ => none
theorem pt_cmpX {op : CmpOp} {r : R2} {o : D → D → Option D} (ho : OpR X (compareOp op) r) (k : ∀ (x y d : D) (v u : V) (H : Hp) (Q : VK), o x y = some d → Den X.K Emp H x v → Den X.K Emp H y u → (∀ w H', Same H H' → DenF X.K H H' d w → Q w H') → r v u H Q)
    (ha : PX X a f) (hb : PX X b g) (hm : behindInMarks op b = false := by first | exact nomark _ | rfl) : PXT X (.Compare a [op] [b] pos) (fTest (fBin o f g)) := by
  refine PT.weak (pt_cmpR ho ha hb hm) fun σ H Q ⟨ρ, t, rv, e, q⟩ => ?_
  unfold fTest at e
  cases e1 : fBin o f g ρ with
  | none => rw [e1] at e; cases e
  | some d =>
    rw [e1] at e
    refine bin_weak k σ H _ ⟨ρ, d, rv, e1, fun v H' s d' => ?_⟩
    cases d with
    | bl k1 => cases e; exact ⟨_, by have z := d'.den; rw [Den] at z; exact z, q H' s⟩
    | _ => cases e

/-! ints -/
def big : Nat := 2 ^ 8000
def mOk (i j : Int) : Prop := i.natAbs < 2 ^ 64 ∨ j.natAbs < 2 ^ 64 ∨ (i.natAbs < big ∧ j.natAbs < big)
instance (i j : Int) : Decidable (mOk i j) := by unfold mOk; infer_instance
theorem mOk.ok {i j : Int} (m : mOk i j) : IntMulOk i j := by
  rcases m with m | m | ⟨m, n⟩
  · exact .of_left (KE_bits m)
  · exact .of_right (KE_bits m)
  · exact .of_bits (Nat.le_trans (KE_bits m) (by decide)) (Nat.le_trans (KE_bits n) (by decide))
where KE_bits {x : Int} {m : Nat} (h : x.natAbs < 2 ^ m) : Builtin.Int.intBits x ≤ m := intBits_le_iff.mpr h
theorem op_mulB : OpR X (binaryOp .Mult) (rI mOk fun i j => .int (i * j)) := opI fun _ _ _ _ _ _ _ hc q => mul_int q hc.ok
def dOk (j : Int) : Prop := 0 < j ∧ j.natAbs < big
instance (j : Int) : Decidable (dOk j) := by unfold dOk; infer_instance
theorem op_divB : OpR X (binaryOp .FloorDiv) (rI (fun _ j => dOk j) fun i j => .int (i / j)) := opI fun i j _ _ _ _ _ hc q => by
  have e : i.fdiv j = i / j := Int.fdiv_eq_ediv_of_nonneg i (Int.le_of_lt hc.1)
  refine floordiv_int (Int.ne_of_gt hc.1) (by rw [e]; exact q) (.inl (PyProof.noPylong_of_log2 ?_))
  by_cases z : j.natAbs = 0
  · rw [z]; decide
  · exact Nat.lt_of_lt_of_le ((Nat.log2_lt z).mpr (show j.natAbs < 2 ^ 8000 from hc.2)) (by decide)

def oI (C : Int → Int → Prop) [∀ i j, Decidable (C i j)] (g : Int → Int → D) : D → D → Option D
  | .int i, .int j => if C i j then some (g i j) else none
  | _, _ => none
def oI0 (g : Int → Int → D) : D → D → Option D
  | .int i, .int j => some (g i j)
  | _, _ => none
theorem den_int {K : PySem.W.Frag} {O : Addr → Prop} {H : Hp} {i : Int} {v : V} : Den K O H (.int i) v ↔ v = .int i := by rw [Den]
theorem den_bl {K : PySem.W.Frag} {O : Addr → Prop} {H : Hp} {i : Bool} {v : V} : Den K O H (.bl i) v ↔ v = .bl i := by rw [Den]
theorem denF_int {K : PySem.W.Frag} {H H' : Hp} {i : Int} : DenF K H H' (.int i) (.int i) := by show Den _ Emp _ _ _; rw [Den]
theorem denF_bl {K : PySem.W.Frag} {H H' : Hp} {i : Bool} : DenF K H H' (.bl i) (.bl i) := by show Den _ Emp _ _ _; rw [Den]
theorem kI {C : Int → Int → Prop} [∀ i j, Decidable (C i j)] {g : Int → Int → Int} : ∀ (x y d : D) (v u : V) (H : Hp) (Q : VK), oI C (fun i j => .int (g i j)) x y = some d → Den X.K Emp H x v → Den X.K Emp H y u → (∀ w H', Same H H' → DenF X.K H H' d w → Q w H') → rI C (fun i j => .int (g i j)) v u H Q := by
  intro x y d v u H Q e hx hy q
  cases x <;> cases y <;> simp only [oI] at e <;> try cases e
  rename_i i j
  split at e
  · rename_i hc
    cases e
    exact ⟨i, j, den_int.mp hx, den_int.mp hy, hc, q _ H (Same.refl H) denF_int⟩
  · cases e
theorem kI0 {g : Int → Int → Int} : ∀ (x y d : D) (v u : V) (H : Hp) (Q : VK), oI0 (fun i j => .int (g i j)) x y = some d → Den X.K Emp H x v → Den X.K Emp H y u → (∀ w H', Same H H' → DenF X.K H H' d w → Q w H') → rI0 (fun i j => .int (g i j)) v u H Q := by
  intro x y d v u H Q e hx hy q
  cases x <;> cases y <;> simp only [oI0] at e <;> cases e
  rename_i i j
  exact ⟨i, j, den_int.mp hx, den_int.mp hy, q _ H (Same.refl H) denF_int⟩
theorem kB0 {g : Int → Int → Bool} : ∀ (x y d : D) (v u : V) (H : Hp) (Q : VK), oI0 (fun i j => .bl (g i j)) x y = some d → Den X.K Emp H x v → Den X.K Emp H y u → (∀ w H', Same H H' → DenF X.K H H' d w → Q w H') → rI0 (fun i j => .bl (g i j)) v u H Q := by
  intro x y d v u H Q e hx hy q
  cases x <;> cases y <;> simp only [oI0] at e <;> cases e
  rename_i i j
  exact ⟨i, j, den_int.mp hx, den_int.mp hy, q _ H (Same.refl H) denF_bl⟩
abbrev fSub := fBin (oI0 fun i j => .int (i - j))
abbrev fMul := fBin (oI mOk fun i j => .int (i * j))
abbrev fDiv := fBin (oI (fun _ j => dOk j) fun i j => .int (i / j))
abbrev fMod := fBin (oI (fun _ j => 0 < j) fun i j => .int (i % j))
instance (i j : Int) : Decidable (CPow i j) := by unfold CPow; infer_instance
abbrev fPow := fBin (oI CPow fun i j => .int (i ^ j.toNat))
theorem px_sub (ha : PX X a f) (hb : PX X b g) : PX X (.BinOp a .Sub b pos) (fSub f g) := px_bin op_sub kI0 ha hb
theorem px_mul (ha : PX X a f) (hb : PX X b g) : PX X (.BinOp a .Mult b pos) (fMul f g) := px_bin op_mulB kI ha hb
theorem px_div (ha : PX X a f) (hb : PX X b g) : PX X (.BinOp a .FloorDiv b pos) (fDiv f g) := px_bin op_divB kI ha hb
theorem px_mod (ha : PX X a f) (hb : PX X b g) : PX X (.BinOp a .Mod b pos) (fMod f g) := px_bin op_mod kI ha hb
theorem px_pow (ha : PX X a f) (hb : PX X b g) : PX X (.BinOp a .Pow b pos) (fPow f g) := px_bin op_pow kI ha hb
abbrev oLt := oI0 fun i j => .bl (decide (i < j))
abbrev oLe := oI0 fun i j => .bl (decide (i ≤ j))
abbrev oGt := oI0 fun i j => .bl (decide (j < i))
abbrev oGe := oI0 fun i j => .bl (decide (j ≤ i))
theorem px_lt (ha : PX X a f) (hb : PX X b g) : PX X (.Compare a [.Lt] [b] pos) (fBin oLt f g) := px_cmp op_lt kB0 ha hb
theorem px_le (ha : PX X a f) (hb : PX X b g) : PX X (.Compare a [.LtE] [b] pos) (fBin oLe f g) := px_cmp op_le kB0 ha hb
theorem px_gt (ha : PX X a f) (hb : PX X b g) : PX X (.Compare a [.Gt] [b] pos) (fBin oGt f g) := px_cmp op_gt kB0 ha hb
theorem px_ge (ha : PX X a f) (hb : PX X b g) : PX X (.Compare a [.GtE] [b] pos) (fBin oGe f g) := px_cmp op_ge kB0 ha hb
theorem pxt_lt (ha : PX X a f) (hb : PX X b g) : PXT X (.Compare a [.Lt] [b] pos) (fTest (fBin oLt f g)) := pt_cmpX op_lt kB0 ha hb
theorem pxt_le (ha : PX X a f) (hb : PX X b g) : PXT X (.Compare a [.LtE] [b] pos) (fTest (fBin oLe f g)) := pt_cmpX op_le kB0 ha hb
theorem pxt_gt (ha : PX X a f) (hb : PX X b g) : PXT X (.Compare a [.Gt] [b] pos) (fTest (fBin oGt f g)) := pt_cmpX op_gt kB0 ha hb
theorem pxt_ge (ha : PX X a f) (hb : PX X b g) : PXT X (.Compare a [.GtE] [b] pos) (fTest (fBin oGe f g)) := pt_cmpX op_ge kB0 ha hb

/-! lists + lists, ints + ints -/
def asL : D → Option (List D)
  | .lst xs => some xs
  | .own xs => some xs
  | _ => none
def lim : Nat := 1000000
def oCat (x y : D) : Option D := (asL x).bind fun xs => (asL y).bind fun ys => if xs.length + ys.length ≤ lim then some (.own (xs ++ ys)) else none
def oAdd : D → D → Option D
  | .int i, .int j => some (.int (i + j))
  | x, y => oCat x y
theorem den_asL {K : PySem.W.Frag} {O : Addr → Prop} {H : Hp} {d : D} {xs : List D} {v : V} (e : asL d = some xs) (h : Den K O H d v) : ∃ a vs, v = .ref a ∧ H a = some (.lst vs) ∧ ¬ O a ∧ DenL K O H xs vs := by
  cases d <;> simp only [asL] at e <;> cases e <;> (rw [Den] at h; exact h)
theorem lim_line : lim ≤ sizeLine := by unfold lim; rw [sizeLine_eq]; decide
theorem same_upd {H : Hp} {p : Addr} (h : H p = none) (o : HO) : Same H (upd H p o) := fun b u q => by rw [upd_ne (ne_of_none q h)]; exact q
theorem denF_new {K : PySem.W.Frag} {H : Hp} {p : Addr} {xs : List D} {vs : List V} (hp : H p = none) (l : DenL K Emp H xs vs) : DenF K H (upd H p (.lst vs)) (.own xs) (.ref p) :=
  ⟨p, vs, rfl, hp, upd_same, denL_same (same_upd hp _) l⟩
theorem denF_tup {K : PySem.W.Frag} {H H0 : Hp} {p : Addr} {xs : List D} {vs : List V} (hp : H p = none) (l : DenL K Emp H xs vs) : DenF K H0 (upd H p (.tup vs)) (.tup xs) (.ref p) := by
  show Den _ Emp _ _ _; rw [Den]
  exact ⟨p, vs, rfl, .inl (.inl upd_same), denL_same (same_upd hp _) l⟩
theorem px_add (ha : PX X a f) (hb : PX X b g) : PX X (.BinOp a .Add b pos) (fBin oAdd f g) := px_bin (op_add.or op_cat) (by
  intro x y d v u H Q e hx hy q
  have cat : oCat x y = some d → rCat v u H Q := fun e => by
    unfold oCat at e
    cases e1 : asL x with
    | none => rw [e1] at e; cases e
    | some xs =>
      cases e2 : asL y with
      | none => rw [e1, e2] at e; cases e
      | some ys =>
        rw [e1, e2] at e
        simp only [Option.bind_some] at e
        split at e
        · rename_i hl
          cases e
          obtain ⟨a, vs, ev, ha, _, la⟩ := den_asL e1 hx
          obtain ⟨b, us, eu, hb, _, lb⟩ := den_asL e2 hy
          refine ⟨a, b, vs, us, ev, eu, ha, hb, ?_, fun p hp => q _ _ (same_upd hp _) (denF_new hp (denL_append la lb))⟩
          rw [← denL_length la, ← denL_length lb]
          exact Nat.le_trans hl lim_line
        · cases e
  cases x <;> cases y <;> first
    | exact .inr (cat e)
    | (simp only [oAdd] at e; cases e; rename_i i j; exact .inl ⟨i, j, den_int.mp hx, den_int.mp hy, q _ H (Same.refl H) denF_int⟩)) ha hb
def fNeg (f : FE) : FE := fun ρ => (f ρ).bind fun d => match d with | .int i => some (.int (-i)) | _ => none
theorem px_neg (ha : PX X a f) : PX X (.UnaryOp .USub a pos) (fNeg f) := PE.weak (pe_un un_neg ha) fun σ H Q ⟨ρ, d, rv, e, q⟩ => by
  unfold fNeg at e
  cases e1 : f ρ with
  | none => rw [e1] at e; cases e
  | some x =>
    rw [e1] at e
    refine ⟨ρ, x, rv, e1, fun v H1 s1 d1 => ?_⟩
    cases x <;> simp only [Option.bind_some] at e <;> cases e
    rename_i i
    exact ⟨i, den_int.mp d1.den, q _ H1 s1 denF_int⟩
end
end Tw

set_option Elab.async false
set_option linter.all false
set_option maxRecDepth 100000
set_option maxHeartbeats 1000000
namespace Tw
open PySem PySem.Spec PyProof.Rows L2
section
variable {X : Cx} {a b c e : Expr} {es rest : List Expr} {pos : Pos} {f g h : FE} {t u : FT} {fa : FA}

/-! ### tests -/
def truth : D → Option Bool
  | .non => some false
  | .bl b => some b
  | .int i => some (i != 0)
  | .tup xs => some (!xs.isEmpty)
  | .lst xs => some (!xs.isEmpty)
  | .own xs => some (!xs.isEmpty)
  | _ => none
def fTru (f : FE) : FT := fun ρ => (f ρ).bind truth
theorem denL_empty {K : PySem.W.Frag} {O : Addr → Prop} {H : Hp} {xs : List D} {vs : List V} (l : DenL K O H xs vs) : (!xs.isEmpty) = !vs.isEmpty := by
  have := denL_length l
  cases xs <;> cases vs <;> simp at this ⊢
theorem tru_den {K : PySem.W.Frag} {H : Hp} {d : D} {v : V} {k : Bool} (e : truth d = some k) (h : Den K Emp H d v) : TruV K v H k := by
  cases d <;> simp only [truth] at e <;> cases e <;> rw [Den] at h
  · subst h; rfl
  · subst h; rfl
  · subst h; rfl
  · obtain ⟨a, vs, rfl, q, l⟩ := h
    exact .inr (.inl ⟨vs, q, denL_empty l⟩)
  · obtain ⟨a, vs, rfl, q, _, l⟩ := h
    exact .inl ⟨vs, .inl (.inl q), denL_empty l⟩
  · obtain ⟨a, vs, rfl, q, _, l⟩ := h
    exact .inl ⟨vs, .inl (.inl q), denL_empty l⟩
theorem pxt_tru (ha : PX X a f) (he : ∀ whole, isTrue a X.env whole = (do let v ← whole; standAt a.pos; holding [v] (truthy v)) := by intro _; rfl) : PXT X a (fTru f) := PT.weak (pt_truth ha he) fun σ H Q ⟨ρ, k, rv, e, q⟩ => by
  unfold fTru at e
  cases e1 : f ρ with
  | none => rw [e1] at e; cases e
  | some d =>
    rw [e1] at e
    exact ⟨ρ, d, rv, e1, fun v H1 s1 d1 => ⟨k, tru_den e d1.den, q H1 s1⟩⟩
def fNot (t : FT) : FT := fun ρ => (t ρ).map (!·)
theorem pxt_not (ha : PXT X a t) : PXT X (.UnaryOp .Not a pos) (fNot t) := PT.weak (L2.pt_not ha) fun σ H Q ⟨ρ, k, rv, e, q⟩ => by
  unfold fNot at e
  cases e1 : t ρ with
  | none => rw [e1] at e; cases e
  | some d =>
    rw [e1] at e; cases e
    exact ⟨ρ, d, rv, e1, fun H1 s1 => q H1 s1⟩
def fAnd (t u : FT) : FT := fun ρ => (t ρ).bind fun k => if k = true then u ρ else some false
def fOr (t u : FT) : FT := fun ρ => (t ρ).bind fun k => if k = true then some true else u ρ
theorem pxw_and1 (ha : PXT X a t) : PXW X (.BoolOp .And [a] pos) t := pw_and1 ha
theorem pxw_or1 (ha : PXT X a t) : PXW X (.BoolOp .Or [a] pos) t := pw_or1 ha
theorem pxw_and (ha : PXT X a t) (hb : PXW X (.BoolOp .And (b :: rest) pos) u) : PXW X (.BoolOp .And (a :: b :: rest) pos) (fAnd t u) := PW.weak (pw_and ha hb) fun σ H Q ⟨ρ, k, rv, e, q⟩ => by
  unfold fAnd at e
  cases e1 : t ρ with
  | none => rw [e1] at e; cases e
  | some d =>
    rw [e1] at e
    refine ⟨ρ, d, rv, e1, fun H1 s1 => ?_⟩
    cases d with
    | true => rw [if_pos rfl]; exact ⟨ρ, k, rv.same s1, e, fun H2 s2 => q H2 (s1.trans s2)⟩
    | false => rw [if_neg Bool.false_ne_true]; cases e; exact q H1 s1
theorem pxw_or (ha : PXT X a t) (hb : PXW X (.BoolOp .Or (b :: rest) pos) u) : PXW X (.BoolOp .Or (a :: b :: rest) pos) (fOr t u) := PW.weak (pw_or ha hb) fun σ H Q ⟨ρ, k, rv, e, q⟩ => by
  unfold fOr at e
  cases e1 : t ρ with
  | none => rw [e1] at e; cases e
  | some d =>
    rw [e1] at e
    refine ⟨ρ, d, rv, e1, fun H1 s1 => ?_⟩
    cases d with
    | false => rw [if_neg Bool.false_ne_true]; exact ⟨ρ, k, rv.same s1, e, fun H2 s2 => q H2 (s1.trans s2)⟩
    | true => rw [if_pos rfl]; cases e; exact q H1 s1
theorem pxt_of (ha : PXW X a t) : PXT X a t := PW.pt ha
/-! as values: bools -/
def vB (t : FT) : FE := fun ρ => (t ρ).map .bl
def bV (f : FE) : FT := fun ρ => (f ρ).bind fun d => match d with | .bl k => some k | _ => none
theorem px_one {op} (ha : PX X a f) : PX X (.BoolOp op [a] pos) f := pe_one ha
def fAndV (f g : FE) : FE := fun ρ => (bV f ρ).bind fun k => if k = true then g ρ else some (.bl false)
def fOrV (f g : FE) : FE := fun ρ => (bV f ρ).bind fun k => if k = true then some (.bl true) else g ρ
def fNotV (f : FE) : FE := fun ρ => (bV f ρ).map fun k => .bl (!k)
theorem bV_some {f : FE} {ρ : Ev} {k : Bool} (e : bV f ρ = some k) : f ρ = some (.bl k) := by
  unfold bV at e
  cases e1 : f ρ with
  | none => rw [e1] at e; cases e
  | some d => rw [e1] at e; cases d <;> simp only [Option.bind_some] at e <;> cases e; rfl
theorem px_and (ha : PX X a f) (hb : PX X (.BoolOp .And (b :: rest) pos) g) : PX X (.BoolOp .And (a :: b :: rest) pos) (fAndV f g) := PE.weak (pe_and ha hb) fun σ H Q ⟨ρ, d, rv, e, q⟩ => by
  unfold fAndV at e
  cases e1 : bV f ρ with
  | none => rw [e1] at e; cases e
  | some k =>
    rw [e1] at e
    refine ⟨ρ, _, rv, bV_some e1, fun v H1 s1 d1 => ⟨k, den_bl.mp d1.den, ?_⟩⟩
    cases k with
    | true => rw [if_pos rfl]; exact ⟨ρ, d, rv.same s1, e, fun w H2 s2 d2 => q w H2 (s1.trans s2) (d2.elder s1)⟩
    | false => rw [if_neg Bool.false_ne_true]; cases e; exact q _ H1 s1 denF_bl
theorem px_or (ha : PX X a f) (hb : PX X (.BoolOp .Or (b :: rest) pos) g) : PX X (.BoolOp .Or (a :: b :: rest) pos) (fOrV f g) := PE.weak (pe_or ha hb) fun σ H Q ⟨ρ, d, rv, e, q⟩ => by
  unfold fOrV at e
  cases e1 : bV f ρ with
  | none => rw [e1] at e; cases e
  | some k =>
    rw [e1] at e
    refine ⟨ρ, _, rv, bV_some e1, fun v H1 s1 d1 => ⟨k, den_bl.mp d1.den, ?_⟩⟩
    cases k with
    | false => rw [if_neg Bool.false_ne_true]; exact ⟨ρ, d, rv.same s1, e, fun w H2 s2 d2 => q w H2 (s1.trans s2) (d2.elder s1)⟩
    | true => rw [if_pos rfl]; cases e; exact q _ H1 s1 denF_bl
theorem px_not (ha : PX X a f) : PX X (.UnaryOp .Not a pos) (fNotV f) := PE.weak (L2.pe_not ha) fun σ H Q ⟨ρ, d, rv, e, q⟩ => by
  unfold fNotV at e
  cases e1 : bV f ρ with
  | none => rw [e1] at e; cases e
  | some k =>
    rw [e1] at e
    cases e
    exact ⟨ρ, _, rv, bV_some e1, fun v H1 s1 d1 => ⟨k, den_bl.mp d1.den, q _ H1 s1 denF_bl⟩⟩
def fIf (t : FT) (f g : FE) : FE := fun ρ => (t ρ).bind fun k => if k = true then f ρ else g ρ
theorem px_if (hc : PXT X c t) (ha : PX X a f) (hb : PX X b g) : PX X (.IfExp c a b pos) (fIf t f g) := PE.weak (pe_ifExp hc ha hb) fun σ H Q ⟨ρ, d, rv, e, q⟩ => by
  unfold fIf at e
  cases e1 : t ρ with
  | none => rw [e1] at e; cases e
  | some k =>
    rw [e1] at e
    refine ⟨ρ, k, rv, e1, fun H1 s1 => ?_⟩
    cases k with
    | true => rw [if_pos rfl]; exact ⟨ρ, d, rv.same s1, e, fun w H2 s2 d2 => q w H2 (s1.trans s2) (d2.elder s1)⟩
    | false => rw [if_neg Bool.false_ne_true]; exact ⟨ρ, d, rv.same s1, e, fun w H2 s2 d2 => q w H2 (s1.trans s2) (d2.elder s1)⟩

/-! ### argument lists, displays -/
def fNil : FA := fun _ => some []
def fCons (f : FE) (fa : FA) : FA := fun ρ => (f ρ).bind fun d => (fa ρ).map fun ds => d :: ds
theorem pxa_nil : PXA X [] fNil := PA.weak pa_nil fun σ H Q ⟨ρ, ds, rv, e, q⟩ => by cases e; exact q [] H (Same.refl H) denL_nil
theorem pxa_cons (ha : PX X e f) (hr : PXA X es fa) (hs : starEach (e :: es) X.env = (false, eval e X.env) :: starEach es X.env := by rfl) : PXA X (e :: es) (fCons f fa) := PA.weak (pa_cons ha hr hs) fun σ H Q ⟨ρ, ds, rv, e, q⟩ => by
  unfold fCons at e
  cases e1 : f ρ with
  | none => rw [e1] at e; cases e
  | some d =>
    cases e2 : fa ρ with
    | none => rw [e1, e2] at e; cases e
    | some dr =>
      rw [e1, e2] at e; cases e
      exact ⟨ρ, d, rv, e1, fun v H1 s1 d1 => ⟨ρ, dr, rv.same s1, e2, fun vs H2 s2 l2 => q _ H2 (s1.trans s2) (denL_cons (den_same s2 d1.den) l2)⟩⟩
def fTup (fa : FA) : FE := fun ρ => (fa ρ).bind fun ds => if ds.length ≤ lim then some (.tup ds) else none
def fLst (fa : FA) : FE := fun ρ => (fa ρ).bind fun ds => if ds.length ≤ lim then some (.own ds) else none
theorem px_tup {k : Nat} (ha : PXA X es fa) : PX X (.Tuple es k pos) (fTup fa) := PE.weak (pe_tup ha) fun σ H Q ⟨ρ, d, rv, e, q⟩ => by
  unfold fTup at e
  cases e1 : fa ρ with
  | none => rw [e1] at e; cases e
  | some ds =>
    rw [e1] at e
    simp only [Option.bind_some] at e
    split at e
    · rename_i hl
      cases e
      refine ⟨ρ, ds, rv, e1, fun vs H1 s1 l1 => ⟨?_, fun p hp => q _ _ (s1.trans (same_upd hp _)) (denF_tup hp l1)⟩⟩
      rw [← denL_length l1]; exact Nat.le_trans hl lim_line
    · cases e
theorem px_lst (ha : PXA X es fa) : PX X (.List es pos) (fLst fa) := PE.weak (pe_lst ha) fun σ H Q ⟨ρ, d, rv, e, q⟩ => by
  unfold fLst at e
  cases e1 : fa ρ with
  | none => rw [e1] at e; cases e
  | some ds =>
    rw [e1] at e
    simp only [Option.bind_some] at e
    split at e
    · rename_i hl
      cases e
      refine ⟨ρ, ds, rv, e1, fun vs H1 s1 l1 => ⟨?_, fun p hp => q _ _ (s1.trans (same_upd hp _)) ((denF_new hp l1).elder s1)⟩⟩
      rw [← denL_length l1]; exact Nat.le_trans hl lim_line
    · cases e

/-! ### a[i] -/
def items : D → Option (List D)
  | .tup xs => some xs
  | .lst xs => some xs
  | .own xs => some xs
  | .scr xs => some xs
  | _ => none
theorem den_items {K : PySem.W.Frag} {O : Addr → Prop} {H : Hp} {d : D} {xs : List D} {v : V} (e : items d = some xs) (h : Den K O H d v) : ∃ a vs, v = .ref a ∧ (SqL K H a vs ∨ SqT K H a vs) ∧ DenL K O H xs vs := by
  cases d <;> simp only [items] at e <;> cases e <;> rw [Den] at h
  · obtain ⟨a, vs, ev, q, l⟩ := h; exact ⟨a, vs, ev, .inr q, l⟩
  · obtain ⟨a, vs, ev, q, _, l⟩ := h; exact ⟨a, vs, ev, .inl (.inl (.inl q)), l⟩
  · obtain ⟨a, vs, ev, q, _, l⟩ := h; exact ⟨a, vs, ev, .inl (.inl (.inl q)), l⟩
  · obtain ⟨a, vs, ev, q, l⟩ := h
    refine ⟨a, vs, ev, .inl ?_, l⟩
    rcases q with ⟨o, q⟩ | q
    · exact .inl (.inr ⟨o, q⟩)
    · rcases q with (q | ⟨o, q⟩) | q
      · cases q
      · cases q
      · exact .inr q
def oIx (x y : D) : Option D := match y with
  | .int i => (items x).bind fun xs => (atI xs i).map frz
  | _ => none
theorem atI_den {K : PySem.W.Frag} {O : Addr → Prop} {H : Hp} {xs : List D} {vs : List V} {i : Int} {d : D} (l : DenL K O H xs vs) (e : atI xs i = some d) : ∃ v, atI vs i = some v ∧ Den K O H d v := by
  unfold atI at e ⊢
  rw [← denL_length l]
  cases q : ixN xs.length i with
  | none => rw [q] at e; cases e
  | some j => rw [q] at e; exact denL_get l e
theorem px_ix (ha : PX X a f) (hb : PX X b g) (hs : PlainIx b := by intro _ _; rfl) : PX X (.Subscript a b pos) (fBin oIx f g) := PE.weak (pe_ix ix_seq ha hb hs) (bin_weak (by
  intro x y d v u H Q e hx hy q
  cases y <;> simp only [oIx] at e <;> try cases e
  rename_i i
  cases e1 : items x with
  | none => rw [e1] at e; cases e
  | some xs =>
    rw [e1] at e
    simp only [Option.bind_some] at e
    cases e2 : atI xs i with
    | none => rw [e2] at e; cases e
    | some z =>
      rw [e2] at e; cases e
      obtain ⟨p, vs, ev, hq, l⟩ := den_items e1 hx
      obtain ⟨w, hw, dw⟩ := atI_den l e2
      have fin := q w H (Same.refl H) (DenF.of (den_frz.mpr dw))
      rcases hq with hq | hq
      · exact .inl ⟨p, vs, i, w, ev, den_int.mp hy, hq, hw, fin⟩
      · exact .inr (.inl ⟨p, vs, i, w, ev, den_int.mp hy, hq, hw, fin⟩)))
/-! ### a[lo:hi] of lists, tuples -/
abbrev FO := Ev → Option (Option Int)
def tO (X : Cx) (f : FO) : TO := fun σ H Q => ∃ ρ o, RepV X.K ρ σ H ∧ f ρ = some o ∧ ∀ H', Same H H' → Q o H'
def PXO (X : Cx) (e : Option Expr) (f : FO) : Prop := PO X e (tO X f)
theorem PO.weak {X : Cx} {e : Option Expr} {t u : TO} (h : PO X e t) (w : ∀ σ H Q, u σ H Q → t σ H Q) : PO X e u := fun pins s σ H Q I q => h pins s σ H Q I (w σ H Q q)
def fO0 : FO := fun _ => some none
def fO1 (f : FE) : FO := fun ρ => (f ρ).bind fun d => match d with | .int i => some (some i) | _ => none
theorem pxo_none : PXO X none fO0 := PO.weak po_none fun σ H Q ⟨ρ, o, rv, e, q⟩ => by cases e; exact q H (Same.refl H)
theorem pxo_some (ha : PX X e f) : PXO X (some e) (fO1 f) := PO.weak (po_some ha) fun σ H Q ⟨ρ, o, rv, e, q⟩ => by
  unfold fO1 at e
  cases e1 : f ρ with
  | none => rw [e1] at e; cases e
  | some d =>
    rw [e1] at e
    refine ⟨ρ, d, rv, e1, fun v H1 s1 d1 => ?_⟩
    cases d <;> simp only [Option.bind_some] at e <;> cases e
    rename_i i
    exact ⟨i, den_int.mp d1.den, q H1 s1⟩
def cutD (xs : List D) (lo hi : Option Int) : List D := (xs.drop (HT.sIx xs.length 0 lo)).take (HT.sIx xs.length xs.length hi - HT.sIx xs.length 0 lo)
theorem cutD_den {K : PySem.W.Frag} {O : Addr → Prop} {H : Hp} {xs : List D} {vs : List V} (lo hi : Option Int) (l : DenL K O H xs vs) : DenL K O H (cutD xs lo hi) (cutV vs lo hi) := by
  unfold cutD cutV
  rw [← denL_length l]
  exact denL_take _ (denL_drop _ l)
def slD (x : D) (lo hi : Option Int) : Option D := match x with
  | .tup xs => if HT.sIx xs.length 0 lo = 0 ∧ HT.sIx xs.length xs.length hi = xs.length then none else some (.tup (cutD xs lo hi))
  | x => (items x).map fun xs => .own (cutD xs lo hi)
def fSl (f : FE) (lo hi : FO) : FE := fun ρ => (f ρ).bind fun x => (lo ρ).bind fun l => (hi ρ).bind fun u => slD x l u
theorem px_slice {lo hi : Option Expr} {fl fu : FO} {p2 : Pos} (ha : PX X a f) (hl : PXO X lo fl) (hu : PXO X hi fu) : PX X (.Subscript a (.Slice lo hi none p2) pos) (fSl f fl fu) := PE.weak (pe_slice (sl_list.or sl_tup) ha hl hu) fun σ H Q ⟨ρ, d, rv, e, q⟩ => by
  unfold fSl at e
  cases e1 : f ρ with
  | none => rw [e1] at e; cases e
  | some x =>
    cases e2 : fl ρ with
    | none => rw [e1, e2] at e; cases e
    | some l =>
      cases e3 : fu ρ with
      | none => rw [e1, e2, e3] at e; cases e
      | some u =>
        rw [e1, e2, e3] at e
        simp only [Option.bind_some] at e
        refine ⟨ρ, x, rv, e1, fun v H1 s1 d1 => ⟨ρ, l, rv.same s1, e2, fun H2 s2 => ⟨ρ, u, (rv.same s1).same s2, e3, fun H3 s3 => ?_⟩⟩⟩
        have dx := den_same s3 (den_same s2 d1.den)
        have s : Same H H3 := (s1.trans s2).trans s3
        have fin : ∀ xs vs a, DenL X.K Emp H3 xs vs → d = .own (cutD xs l u) → v = .ref a → SqL X.K H3 a vs → rSlL X.K v l u H3 Q := fun xs vs a la ed ev hq =>
          ⟨a, vs, ev, hq, fun p hp => q _ _ (s.trans (same_upd hp _)) (by rw [ed]; exact (denF_new hp (cutD_den l u la)).elder s)⟩
        cases x with
        | tup xs =>
          simp only [slD] at e
          split at e
          · cases e
          · rename_i hn
            cases e
            rw [Den] at dx
            obtain ⟨a, vs, ev, hq, la⟩ := dx
            refine .inr ⟨a, vs, ev, hq, by rw [← denL_length la]; exact hn, fun p hp => q _ _ (s.trans (same_upd hp _)) (denF_tup hp (cutD_den l u la))⟩
        | lst xs =>
          simp only [slD, items, Option.map_some] at e
          cases e
          rw [Den] at dx
          obtain ⟨a, vs, ev, hq, _, la⟩ := dx
          exact .inl (fin xs vs a la rfl ev (.inl (.inl hq)))
        | own xs =>
          simp only [slD, items, Option.map_some] at e
          cases e
          rw [Den] at dx
          obtain ⟨a, vs, ev, hq, _, la⟩ := dx
          exact .inl (fin xs vs a la rfl ev (.inl (.inl hq)))
        | scr xs =>
          simp only [slD, items, Option.map_some] at e
          cases e
          rw [Den] at dx
          obtain ⟨a, vs, ev, hq, la⟩ := dx
          refine .inl (fin xs vs a la rfl ev ?_)
          rcases hq with ⟨o, hq⟩ | hq
          · exact .inl (.inr ⟨o, hq⟩)
          · rcases hq with (hq | ⟨o, hq⟩) | hq
            · cases hq
            · cases hq
            · exact .inr hq
        | _ => simp only [slD, items, Option.map_none] at e; cases e

/-! ### built-in calls -/
def fCall (k : List D → Option D) (fa : FA) : FE := fun ρ => (fa ρ).bind k
theorem px_callB {x : Str} {p : Pos} {id : String} {r : List V → Hp → VK → Prop} {k : List D → Option D} (hc : CallR X (.builtin id) r)
    (hk : ∀ (ds : List D) (d : D) (vs : List V) (H : Hp) (Q : VK), k ds = some d → DenL X.K Emp H ds vs → (∀ w H', Same H H' → DenF X.K H H' d w → Q w H') → r vs H Q)
    (hv : bootBuiltins x = some (.builtin id)) (hm : X.mg x = none) (ha : PXA X (e :: es) fa) (hg : Gl X x := by rfl) (hn : x ≠ "__name__" := by decide) (hdb : (x == ("__debug__" : Str)) = false := by decide)
    (he : starEach (e :: es) X.env = (false, eval e X.env) :: starEach es X.env := by rfl) (hpl : (backTo pos (starEach es X.env)).any (·.1) = false := by rfl) : PX X (.Call (.Name x p) (e :: es) [] pos) (fCall k fa) := PE.weak (pe_callB hc hg hm hv ha hn hdb he hpl) fun σ H Q ⟨ρ, d, rv, e, q⟩ => by
  unfold fCall at e
  cases e1 : fa ρ with
  | none => rw [e1] at e; cases e
  | some ds =>
    rw [e1] at e
    exact ⟨ρ, ds, rv, e1, fun vs H1 s1 l1 => hk ds d vs H1 Q e l1 fun w H2 s2 d2 => q w H2 (s1.trans s2) (d2.elder s1)⟩
theorem px_callT {x : Str} {p : Pos} {T : String} {r : List V → Hp → VK → Prop} {k : List D → Option D} (hc : CallR X (.type T) r)
    (hk : ∀ (ds : List D) (d : D) (vs : List V) (H : Hp) (Q : VK), k ds = some d → DenL X.K Emp H ds vs → (∀ w H', Same H H' → DenF X.K H H' d w → Q w H') → r vs H Q)
    (hv : bootBuiltins x = some (.type T)) (hm : X.mg x = none) (ha : PXA X (e :: es) fa) (hg : Gl X x := by rfl) (hn : x ≠ "__name__" := by decide) (hdb : (x == ("__debug__" : Str)) = false := by decide)
    (he : starEach (e :: es) X.env = (false, eval e X.env) :: starEach es X.env := by rfl) (hpl : (backTo pos (starEach es X.env)).any (·.1) = false := by rfl) : PX X (.Call (.Name x p) (e :: es) [] pos) (fCall k fa) := PE.weak (pe_callTy hc hg hm hv ha hn hdb he hpl) fun σ H Q ⟨ρ, d, rv, e, q⟩ => by
  unfold fCall at e
  cases e1 : fa ρ with
  | none => rw [e1] at e; cases e
  | some ds =>
    rw [e1] at e
    exact ⟨ρ, ds, rv, e1, fun vs H1 s1 l1 => hk ds d vs H1 Q e l1 fun w H2 s2 d2 => q w H2 (s1.trans s2) (d2.elder s1)⟩
theorem denL1 {K : PySem.W.Frag} {O : Addr → Prop} {H : Hp} {d : D} {vs : List V} (l : DenL K O H [d] vs) : ∃ v, vs = [v] ∧ Den K O H d v := by
  rw [DenL] at l
  obtain ⟨v, r, rfl, h, l⟩ := l
  rw [DenL] at l; subst l
  exact ⟨v, rfl, h⟩
theorem denL2 {K : PySem.W.Frag} {O : Addr → Prop} {H : Hp} {d d' : D} {vs : List V} (l : DenL K O H [d, d'] vs) : ∃ v v', vs = [v, v'] ∧ Den K O H d v ∧ Den K O H d' v' := by
  rw [DenL] at l
  obtain ⟨v, r, rfl, h, l⟩ := l
  obtain ⟨v', rfl, h'⟩ := denL1 l
  exact ⟨v, v', rfl, h, h'⟩
def kLen : List D → Option D
  | [d] => (items d).map fun xs => .int xs.length
  | _ => none
theorem px_len {p : Pos} (hm : X.mg "len" = none) (ha : PXA X [e] fa) (hg : Gl X "len" := by rfl) (he : starEach [e] X.env = (false, eval e X.env) :: starEach [] X.env := by rfl) : PX X (.Call (.Name "len" p) [e] [] pos) (fCall kLen fa) := px_callB call_len_seq (by
  intro ds d vs H Q ek l q
  match ds, ek, l with
  | [x], ek, l =>
    simp only [kLen] at ek
    cases e1 : items x with
    | none => rw [e1] at ek; cases ek
    | some xs =>
      rw [e1] at ek; cases ek
      obtain ⟨v, rfl, h⟩ := denL1 l
      obtain ⟨a, ws, rfl, hq, lw⟩ := den_items e1 h
      exact ⟨a, ws, rfl, hq, by rw [← denL_length lw]; exact q _ H (Same.refl H) denF_int⟩) PySem.boot_len hm ha hg (by decide) (by decide) he rfl
def kAbs : List D → Option D
  | [.int i] => some (.int (if i < 0 then -i else i))
  | _ => none
theorem px_abs {p : Pos} (hm : X.mg "abs" = none) (ha : PXA X [e] fa) (hb : bootBuiltins "abs" = some (.builtin "abs") := by rfl) (hg : Gl X "abs" := by rfl) (he : starEach [e] X.env = (false, eval e X.env) :: starEach [] X.env := by rfl) : PX X (.Call (.Name "abs" p) [e] [] pos) (fCall kAbs fa) := px_callB call_abs (by
  intro ds d vs H Q ek l q
  unfold kAbs at ek
  split at ek
  · cases ek
    obtain ⟨v, rfl, h⟩ := denL1 l
    exact ⟨_, by rw [den_int.mp h], q _ H (Same.refl H) denF_int⟩
  · cases ek) hb hm ha hg (by decide) (by decide) he rfl
def kMax : List D → Option D
  | [.int i, .int j] => some (.int (if j > i then j else i))
  | _ => none
theorem px_max {p : Pos} {e' : Expr} (hc : X.calm = true) (hm : X.mg "max" = none) (ha : PXA X [e, e'] fa) (hb : bootBuiltins "max" = some (.builtin "max") := by rfl) (hg : Gl X "max" := by rfl) (he : starEach [e, e'] X.env = (false, eval e X.env) :: starEach [e'] X.env := by rfl) (hpl : (backTo pos (starEach [e'] X.env)).any (·.1) = false := by rfl) : PX X (.Call (.Name "max" p) [e, e'] [] pos) (fCall kMax fa) := px_callB (call_max2 hc) (by
  intro ds d vs H Q ek l q
  unfold kMax at ek
  split at ek
  · cases ek
    obtain ⟨v, v', rfl, h, h'⟩ := denL2 l
    exact ⟨_, _, by rw [den_int.mp h, den_int.mp h'], q _ H (Same.refl H) denF_int⟩
  · cases ek) hb hm ha hg (by decide) (by decide) he hpl
def kStr : List D → Option D
  | [.int i] => if i.natAbs < 2 ^ 1900 then some (.str (toString i)) else none
  | _ => none
theorem px_strI {p : Pos} (hm : X.mg "str" = none) (ha : PXA X [e] fa) (hb : bootBuiltins "str" = some (.type "str") := by rfl) (hg : Gl X "str" := by rfl) (he : starEach [e] X.env = (false, eval e X.env) :: starEach [] X.env := by rfl) : PX X (.Call (.Name "str" p) [e] [] pos) (fCall kStr fa) := px_callT call_str_int (by
  intro ds d vs H Q ek l q
  unfold kStr at ek
  split at ek
  · rename_i i
    split at ek
    · rename_i hl
      cases ek
      obtain ⟨v, rfl, h⟩ := denL1 l
      refine ⟨i, by rw [den_int.mp h], ?_, q _ H (Same.refl H) (by show Den _ Emp _ _ _; rw [Den])⟩
      by_cases z : i.natAbs = 0
      · rw [z]; decide
      · exact Nat.lt_of_lt_of_le ((Nat.log2_lt z).mpr hl) (by decide)
    · cases ek
  · cases ek) hb hm ha hg (by decide) (by decide) he rfl
end
end Tw

set_option Elab.async false
set_option linter.all false
set_option maxRecDepth 100000
set_option maxHeartbeats 1000000
namespace Tw
open PySem PySem.Spec PyProof.Rows L2
section
variable {X : Cx} {a b c e : Expr} {es rest : List Expr} {pos : Pos} {f g h : FE} {t u : FT} {fa : FA}
/-! ### n.bit_length() -/
def fBits (f : FE) : FE := fun ρ => (f ρ).bind fun d => match d with | .int i => some (.int (Builtin.Int.intBits i : Nat)) | _ => none
theorem mt_bits : MtR X "int.bit_length" (fun x xs H Q => ∃ i, x = .int i ∧ xs = [] ∧ Q (.int (Builtin.Int.intBits i : Nat)) H) := by
  intro pins s σ H x xs v us Q I rx rs h
  obtain ⟨i, rfl, rfl, q⟩ := h
  obtain ⟨t, rfl⟩ := rx
  cases rs
  exact call_gives PySem.F.slot_int_bit_length (typeIs_int s i t) PySem.F.entry_int_bit_length (PySem.F.args_int_bit_length_1 _) (AutoIntG2.int_bit_length_int_0 i t) ⟨.int _, H, I.tok _, ⟨_, rfl⟩, q⟩
theorem px_bits {apos : Pos} (ha : PX X a f) (hbase : attributeBase a "bit_length" X.env (eval a X.env) = eval a X.env := by rfl) (hline : (apos.endLine == pos.line) = true := by rfl) : PX X (.Call (.Attribute a "bit_length" apos) [] [] pos) (fBits f) :=
  PE.weak (pe_bm0 PySem.F.plainAttrs_int PySem.F.slot_int_bit_length PySem.F.type_int_bit_length mt_bits ha hbase hline) fun σ H Q ⟨ρ, d, rv, e, q⟩ => by
  unfold fBits at e
  cases e1 : f ρ with
  | none => rw [e1] at e; cases e
  | some x =>
    rw [e1] at e
    refine ⟨ρ, x, rv, e1, fun v H1 s1 d1 => ?_⟩
    cases x <;> simp only [Option.bind_some] at e <;> cases e
    rename_i i
    have ev := den_int.mp d1.den
    exact ⟨by rw [ev]; rfl, i, ev, rfl, q _ H1 s1 denF_int⟩

/-! ### {} -/
theorem dk_empty {P : Program} {w : World} {H : Hp} (h : Heap) (hb : sysModules < h.objs.size) : ObjOk P w H (h.push { cls := .type "dict", data := .dict #[] }) h.objs.size (.dK []) :=
  ⟨Nat.zero_le _, beq_eq_false_iff_ne.mpr (Ne.symm (Nat.ne_of_lt hb)), [], .nil, Heap.DictOf.new h⟩
theorem inv_big {pins : List (Addr × Obj)} {σ : L2.St} {H : Hp} {s : Shared} (I : Inv X pins σ H s) : sysModules < s.heap.objs.size := by
  have h : mainGlobals < s.heap.objs.size := (I.mod.glob.keeps I.bk).lt
  exact Nat.lt_trans (by decide) h
theorem pe_dnewK {pos : Pos} : PE X (.Dict [] [] pos) (fun _ H Q => ∀ p, H p = none → Q (.ref p) (upd H p (.dK []))) := fun pins s σ H Q I h =>
  wpAny_Dict_empty ⟨.ref s.heap.objs.size, _, I.laid (a := s.heap.objs.size) (o := .dK []) (t' := s.toks) (fun _ _ q => Heap.get?_push_of_some _ q) (Nat.le_refl _) (dk_empty s.heap (inv_big I)), rfl, h _ (I.hok.fresh (Nat.le_refl _))⟩
theorem px_dic {pos : Pos} : PX X (.Dict [] [] pos) (fC .dic) := PE.weak pe_dnewK fun σ H Q ⟨ρ, d, rv, e, q⟩ => by
  cases e
  intro p hp
  exact q _ _ (same_upd hp _) (by show Den _ Emp _ _ _; rw [Den]; exact ⟨p, rfl, upd_same⟩)

/-! ### isinstance(e, T) -/
def tyD : D → String
  | .non => "NoneType"
  | .bl _ => "bool"
  | .int _ => "int"
  | .str _ => "str"
  | .tup _ => "tuple"
  | .dic => "dict"
  | _ => "list"
def isX : D → Bool
  | .exn _ => true
  | _ => false
def isiB (T : String) (d : D) : Bool := tyD d == T || (tyD d == "bool" && T == "int")
def Kit (K : PySem.W.Frag) (T : String) : Prop := ∀ d : D, PySem.W.kitOne K (.type (tyD d)) (.type T) = some (isiB T d)
theorem call_isi {T : String} (hk : Kit X.K T) : CallR X (.builtin "isinstance") (fun xs H Q => ∃ x d, xs = [x, .ty T] ∧ isX d = false ∧ Den X.K Emp H d x ∧ Q (.bl (isiB T d)) H) := by
  intro pins s σ H xs us Q I r h
  obtain ⟨x, d, rfl, nx, hd, q⟩ := h
  obtain ⟨u, w, rfl, ru, rw'⟩ := vals2 r
  cases (show w = Value.type T from rw')
  have e := hk d
  have fin : ∀ tk, EP X pins σ Q (.bool (isiB T d)) { s with toks := tk } := fun tk => ⟨.bl _, H, I.tok _, rfl, q⟩
  have lst : ∀ a vs, SqL X.K H a vs → u = .ref a → tyD d = "list" → wpAny (model X.prog X.w) X.A (call (.builtin "isinstance") [u, .type T]) (EP X pins σ Q) X.xe s := fun a vs hq eu et => by
    obtain ⟨its, _, p, _⟩ := I.list hq
    obtain ⟨o, n, h1, h2, _⟩ := p
    rw [et] at e
    subst eu
    exact PySem.W.kia_one PySem.W.kitx_list I.kIn ⟨o, h1, h2⟩ e (fun z => nomatch z) fin
  cases d with
  | non => rw [Den] at hd; subst hd; cases (show u = Value.none from ru); exact PySem.W.kia_one PySem.W.kitx_none I.kIn True.intro e (fun z => nomatch z) fin
  | bl y => rw [Den] at hd; subst hd; cases (show u = Value.bool y from ru); exact PySem.W.kia_one PySem.W.kitx_bool I.kIn True.intro e (fun z => nomatch z) fin
  | int i => rw [Den] at hd; subst hd; obtain ⟨t, z⟩ := (show ∃ t, u = Value.int i t from ru); cases z; exact PySem.W.kia_one PySem.W.kitx_int I.kIn True.intro e (fun z => nomatch z) fin
  | str y => rw [Den] at hd; subst hd; obtain ⟨t, z⟩ := (show ∃ t, u = Value.str y t from ru); cases z; exact PySem.W.kia_one PySem.W.kitx_str I.kIn True.intro e (fun z => nomatch z) fin
  | tup ys =>
    rw [Den] at hd
    obtain ⟨a, vs, rfl, hq, _⟩ := hd
    cases (show u = Value.ref a from ru)
    obtain ⟨its, _, p, _⟩ := I.tuple hq
    obtain ⟨o, h1, h2, _⟩ := p
    exact PySem.W.kia_one PySem.W.kitx_tuple I.kIn ⟨o, h1, h2⟩ e (fun z => nomatch z) fin
  | lst ys =>
    rw [Den] at hd
    obtain ⟨a, vs, rfl, hq, _⟩ := hd
    exact lst a vs (.inl (.inl hq)) ru rfl
  | own ys =>
    rw [Den] at hd
    obtain ⟨a, vs, rfl, hq, _⟩ := hd
    exact lst a vs (.inl (.inl hq)) ru rfl
  | scr ys =>
    rw [Den] at hd
    obtain ⟨a, vs, rfl, hq, _⟩ := hd
    refine lst a vs ?_ ru rfl
    rcases hq with ⟨o, hq⟩ | hq
    · exact .inl (.inr ⟨o, hq⟩)
    · rcases hq with (hq | ⟨o, hq⟩) | hq
      · cases hq
      · cases hq
      · exact .inr hq
  | dic =>
    rw [Den] at hd
    obtain ⟨a, rfl, hq⟩ := hd
    cases (show u = Value.ref a from ru)
    obtain ⟨_, _, vs, _, p⟩ := (show ObjOk X.prog X.w H s.heap a (.dK []) from I.hok a _ hq)
    obtain ⟨o, es, ep, h1, h2, _⟩ := p
    exact PySem.W.kia_one PySem.W.kitx_dict I.kIn ⟨o, h1, h2.1⟩ e (fun z => nomatch z) fin
  | exn C => cases nx
def fIsi (T : String) (f : FE) : FE := fun ρ => (f ρ).bind fun d => if isX d = true then none else some (.bl (isiB T d))
theorem px_isi {T : String} {x : Str} {p p2 : Pos} (hk : Kit X.K T) (hm : X.mg "isinstance" = none) (hmT : X.mg x = none) (ha : PX X e f) (hT : bootBuiltins x = some (.type T) := by rfl) (hb : bootBuiltins "isinstance" = some (.builtin "isinstance") := by rfl) (hg : Gl X "isinstance" := by rfl) (hgT : Gl X x := by rfl) (hn : x ≠ "__name__" := by decide) (hdb : (x == ("__debug__" : Str)) = false := by decide)
    (he : starEach [e, .Name x p2] X.env = (false, eval e X.env) :: starEach [.Name x p2] X.env := by rfl) (hpl : (backTo pos (starEach [.Name x p2] X.env)).any (·.1) = false := by rfl) (hs : starEach [.Name x p2] X.env = (false, eval (.Name x p2) X.env) :: starEach [] X.env := by rfl) : PX X (.Call (.Name "isinstance" p) [e, .Name x p2] [] pos) (fIsi T f) :=
  PE.weak (pe_callB (call_isi hk) hg hm hb (pa_cons ha (pa_cons (pe_bltn (v := .ty T) hgT hmT hT rfl hn hdb) pa_nil hs) he) (by decide) (by decide) he hpl) fun σ H Q ⟨ρ, d, rv, e, q⟩ => by
  unfold fIsi at e
  cases e1 : f ρ with
  | none => rw [e1] at e; cases e
  | some x =>
    rw [e1] at e
    simp only [Option.bind_some] at e
    split at e
    · cases e
    · rename_i nx
      cases e
      exact ⟨ρ, x, rv, e1, fun v H1 s1 d1 => ⟨v, x, rfl, by simpa using nx, d1.den, q _ H1 s1 denF_bl⟩⟩

/-! ### is, is not: of None, of bools -/
def isD : D → D → Option Bool
  | .non, .non => some true
  | d, .non => some false
  | .bl a, .bl b => some (a == b)
  | .non, .bl _ => some false
  | .int _, .bl _ => some false
  | .str _, .bl _ => some false
  | .tup _, .bl _ => some false
  | .lst _, .bl _ => some false
  | .own _, .bl _ => some false
  | .dic, .bl _ => some false
  | .exn _, .bl _ => some false
  | _, _ => none
def flatD : D → Bool
  | .non => true
  | .bl _ => true
  | .int _ => true
  | .str _ => true
  | _ => false
theorem is_of {M : Model} {A : Around} {E : Value → Shared → Prop} {s : Shared} {x y : Value} {k : Bool} {Q : Value → Shared → Prop} (h : isSame x y = pure k) (q : Q (.bool k) s) : wpAny M A (compareOp .Is x y) Q E s := by
  show wpAny M A (isSame x y >>= fun b => pure (Value.bool b)) Q E s
  rw [h]
  exact wpAny_pure q
theorem isnot_of {M : Model} {A : Around} {E : Value → Shared → Prop} {s : Shared} {x y : Value} {k : Bool} {Q : Value → Shared → Prop} (h : isSame x y = pure k) (q : Q (.bool (!k)) s) : wpAny M A (compareOp .IsNot x y) Q E s := by
  show wpAny M A (isSame x y >>= fun b => pure (Value.bool (!b))) Q E s
  rw [h]
  exact wpAny_pure q
end
end Tw

set_option Elab.async false
set_option linter.all false
set_option maxRecDepth 100000
set_option maxHeartbeats 1000000
namespace Tw
open PySem PySem.Spec PyProof.Rows L2
section
variable {X : Cx} {a b c e : Expr} {es rest : List Expr} {pos : Pos} {f g h : FE} {t u : FT} {fa : FA}
theorem kit_mk {K : PySem.W.Frag} {T : String} (h : T = "int" ∨ T = "bool" ∨ T = "str" ∨ T = "tuple" ∨ T = "list") : Kit K T := by
  rcases h with h | h | h | h | h <;> subst h <;> intro d <;> cases d <;> rfl
theorem isD_val {K : PySem.W.Frag} {H : Hp} {x y : D} {v u : V} {vv uu : Value} {k : Bool} (e : isD x y = some k) (hx : Den K Emp H x v) (hy : Den K Emp H y u) (rx : RelV v vv) (ry : RelV u uu) : isSame vv uu = pure k := by
  cases y with
  | non =>
    rw [Den] at hy; subst hy; cases (show uu = Value.none from ry)
    rw [PySem.isSame_none]
    cases x <;> simp only [isD] at e <;> cases e <;> rw [Den] at hx
    · subst hx; cases (show vv = Value.none from rx); rfl
    · subst hx; cases (show vv = Value.bool _ from rx); rfl
    · subst hx; obtain ⟨t, z⟩ := (show ∃ t, vv = Value.int _ t from rx); cases z; rfl
    · subst hx; obtain ⟨t, z⟩ := (show ∃ t, vv = Value.str _ t from rx); cases z; rfl
    · obtain ⟨a, vs, rfl, _⟩ := hx; cases (show vv = Value.ref a from rx); rfl
    · obtain ⟨a, vs, rfl, _⟩ := hx; cases (show vv = Value.ref a from rx); rfl
    · obtain ⟨a, vs, rfl, _⟩ := hx; cases (show vv = Value.ref a from rx); rfl
    · obtain ⟨a, vs, rfl, _⟩ := hx; cases (show vv = Value.ref a from rx); rfl
    · obtain ⟨a, rfl, _⟩ := hx; cases (show vv = Value.ref a from rx); rfl
    · obtain ⟨a, rfl, _⟩ := hx; cases (show vv = Value.ref a from rx); rfl
  | bl q =>
    rw [Den] at hy; subst hy; cases (show uu = Value.bool q from ry)
    cases x <;> simp only [isD] at e <;> cases e <;> rw [Den] at hx
    · subst hx; cases (show vv = Value.none from rx); rfl
    · subst hx; cases (show vv = Value.bool _ from rx); rename_i p; cases p <;> cases q <;> rfl
    · subst hx; obtain ⟨t, z⟩ := (show ∃ t, vv = Value.int _ t from rx); cases z; rfl
    · subst hx; obtain ⟨t, z⟩ := (show ∃ t, vv = Value.str _ t from rx); cases z; rfl
    · obtain ⟨a, vs, rfl, _⟩ := hx; cases (show vv = Value.ref a from rx); rfl
    · obtain ⟨a, vs, rfl, _⟩ := hx; cases (show vv = Value.ref a from rx); rfl
    · obtain ⟨a, vs, rfl, _⟩ := hx; cases (show vv = Value.ref a from rx); rfl
    · obtain ⟨a, rfl, _⟩ := hx; cases (show vv = Value.ref a from rx); rfl
    · obtain ⟨a, rfl, _⟩ := hx; cases (show vv = Value.ref a from rx); rfl
  | _ => cases x <;> simp only [isD] at e <;> cases e
def rIsD (K : PySem.W.Frag) (neg : Bool) : R2 := fun v u H Q => ∃ x y k, isD x y = some k ∧ Den K Emp H x v ∧ Den K Emp H y u ∧ Q (.bl (if neg then !k else k)) H
theorem op_isD : OpR X (compareOp .Is) (rIsD X.K false) := by
  intro pins s σ H x y v u Q I rx ry ⟨dx, dy, k, e, hx, hy, q⟩
  exact is_of (isD_val e hx hy rx ry) ⟨.bl k, H, I, rfl, q⟩
theorem op_isnotD : OpR X (compareOp .IsNot) (rIsD X.K true) := by
  intro pins s σ H x y v u Q I rx ry ⟨dx, dy, k, e, hx, hy, q⟩
  exact isnot_of (isD_val e hx hy rx ry) ⟨.bl (!k), H, I, rfl, q⟩
def oIs (neg : Bool) (x y : D) : Option D := (isD x y).map fun k => .bl (if neg then !k else k)
theorem kIs {neg : Bool} : ∀ (x y d : D) (v u : V) (H : Hp) (Q : VK), oIs neg x y = some d → Den X.K Emp H x v → Den X.K Emp H y u → (∀ w H', Same H H' → DenF X.K H H' d w → Q w H') → rIsD X.K neg v u H Q := by
  intro x y d v u H Q e hx hy q
  unfold oIs at e
  cases e1 : isD x y with
  | none => rw [e1] at e; cases e
  | some k => rw [e1] at e; cases e; exact ⟨x, y, k, e1, hx, hy, q _ H (Same.refl H) denF_bl⟩
theorem px_is (ha : PX X a f) (hb : PX X b g) : PX X (.Compare a [.Is] [b] pos) (fBin (oIs false) f g) := px_cmp op_isD kIs ha hb
theorem px_isnot (ha : PX X a f) (hb : PX X b g) : PX X (.Compare a [.IsNot] [b] pos) (fBin (oIs true) f g) := px_cmp op_isnotD kIs ha hb
theorem pxt_is (ha : PX X a f) (hb : PX X b g) : PXT X (.Compare a [.Is] [b] pos) (fTest (fBin (oIs false) f g)) := pt_cmpX op_isD kIs ha hb
theorem pxt_isnot (ha : PX X a f) (hb : PX X b g) : PXT X (.Compare a [.IsNot] [b] pos) (fTest (fBin (oIs true) f g)) := pt_cmpX op_isnotD kIs ha hb

/-! ### ==, != -/
def flatE : D → D → Option Bool
  | .non, .non => some true
  | .bl a, .bl b => some (a == b)
  | .bl a, .int b => some ((if a then 1 else 0) == b)
  | .int a, .bl b => some (a == (if b then 1 else 0))
  | .int a, .int b => some (a == b)
  | .str a, .str b => some (a == b)
  | _, _ => none
def deqL (eq : D → D → Option Bool) : List D → List D → Option Bool
  | [], [] => some true
  | [], _ :: _ => some false
  | _ :: _, [] => some false
  | x :: xs, y :: ys => (eq x y).bind fun p => (deqL eq xs ys).map fun q => p && q
def deq : Nat → D → D → Option Bool
  | 0, x, y => flatE x y
  | n + 1, .tup xs, .tup ys => deqL (deq n) xs ys
  | n + 1, .lst xs, .lst ys => deqL (deq n) xs ys
  | n + 1, .lst xs, .own ys => deqL (deq n) xs ys
  | n + 1, .own xs, .lst ys => deqL (deq n) xs ys
  | n + 1, .own xs, .own ys => deqL (deq n) xs ys
  | _ + 1, x, y => flatE x y
theorem flat_eqAt {K : PySem.W.Frag} {O : Addr → Prop} {H : Hp} {A : Around} {s : Shared} {x y : D} {v u : V} {vv uu : Value} {k : Bool} (e : flatE x y = some k) (hx : Den K O H x v) (hy : Den K O H y u) (rx : RelV v vv) (ry : RelV u uu) : SeqAt.EqAt A s vv uu k ∧ SeqAt.RcAt A s vv uu k ∧ SeqAt.RcNeAt A s vv uu (!k) := by
  cases x <;> cases y <;> simp only [flatE] at e <;> cases e <;> rw [Den] at hx <;> rw [Den] at hy <;> subst hx <;> subst hy
  · cases (show vv = Value.none from rx); cases (show uu = Value.none from ry); exact ⟨.same _, .none_none, .none_none⟩
  · cases (show vv = Value.bool _ from rx); cases (show uu = Value.bool _ from ry); exact ⟨.bool_bool _ _, .bool_bool _ _, .bool_bool _ _⟩
  · cases (show vv = Value.bool _ from rx); obtain ⟨t, z⟩ := (show ∃ t, uu = Value.int _ t from ry); cases z; exact ⟨.bool_int _ _ _, .bool_int _ _ _, .bool_int _ _ _⟩
  · cases (show uu = Value.bool _ from ry); obtain ⟨t, z⟩ := (show ∃ t, vv = Value.int _ t from rx); cases z; exact ⟨.int_bool _ _ _, .int_bool _ _ _, .int_bool _ _ _⟩
  · obtain ⟨t, z⟩ := (show ∃ t, vv = Value.int _ t from rx); cases z; obtain ⟨t, z⟩ := (show ∃ t, uu = Value.int _ t from ry); cases z; exact ⟨.int_int _ _ _ _, .int_int _ _ _ _, .int_int _ _ _ _⟩
  · obtain ⟨t, z⟩ := (show ∃ t, vv = Value.str _ t from rx); cases z; obtain ⟨t, z⟩ := (show ∃ t, uu = Value.str _ t from ry); cases z; exact ⟨.str_str _ _ _ _, .str_str _ _ _ _, .str_str _ _ _ _⟩
theorem flat_self {K : PySem.W.Frag} {O : Addr → Prop} {H : Hp} {x y : D} {v : V} {k : Bool} (e : flatE x y = some k) (hx : Den K O H x v) (hy : Den K O H y v) : k = true := by
  cases x <;> cases y <;> simp only [flatE] at e <;> cases e <;> rw [Den] at hx <;> rw [Den] at hy
  all_goals first
    | rfl
    | (rw [hx] at hy; cases hy; simp)
    | (rw [hx] at hy; cases hy)
/-- the places' answers -/
theorem deqL_at {K : PySem.W.Frag} {O : Addr → Prop} {H : Hp} {A : Around} {s : Shared} {eq : D → D → Option Bool} (hq : ∀ x y v u vv uu k, eq x y = some k → Den K O H x v → Den K O H y u → RelV v vv → RelV u uu → SeqAt.EqAt A s vv uu k) :
    ∀ {xs ys : List D} {vs us : List V} {its jts : List Value} {k : Bool}, deqL eq xs ys = some k → DenL K O H xs vs → DenL K O H ys us → Vals vs its → Vals us jts →
      ∃ e : Nat → Bool, (∀ j (h1 : j < its.toArray.size) (h2 : j < jts.toArray.size), SeqAt.EqAt A s its.toArray[j] jts.toArray[j] (e j)) ∧ k = ((List.range (min its.toArray.size jts.toArray.size)).all e && its.toArray.size == jts.toArray.size)
  | [], [], vs, us, its, jts, k, e, hx, hy, rx, ry => by
    rw [DenL] at hx hy; subst hx; subst hy; cases rx; cases ry
    cases e
    exact ⟨fun _ => true, fun j h1 h2 => absurd h1 (by simp), rfl⟩
  | [], y :: ys, vs, us, its, jts, k, e, hx, hy, rx, ry => by
    rw [DenL] at hx; rw [DenL] at hy; subst hx
    obtain ⟨u, r, rfl, _, _⟩ := hy
    cases rx; cases ry
    cases e
    exact ⟨fun _ => true, fun j h1 h2 => absurd h1 (by simp), by simp⟩
  | x :: xs, [], vs, us, its, jts, k, e, hx, hy, rx, ry => by
    rw [DenL] at hx; rw [DenL] at hy; subst hy
    obtain ⟨u, r, rfl, _, _⟩ := hx
    cases rx; cases ry
    cases e
    exact ⟨fun _ => true, fun j h1 h2 => absurd h2 (by simp), by simp⟩
  | x :: xs, y :: ys, vs, us, its, jts, k, e, hx, hy, rx, ry => by
    rw [DenL] at hx hy
    obtain ⟨v, r, rfl, dx, lx⟩ := hx
    obtain ⟨u, q, rfl, dy, ly⟩ := hy
    cases rx with
    | cons r1 rs1 =>
      cases ry with
      | cons r2 rs2 =>
        rw [deqL] at e
        cases e1 : eq x y with
        | none => rw [e1] at e; cases e
        | some p =>
          cases e2 : deqL eq xs ys with
          | none => rw [e1, e2] at e; cases e
          | some q2 =>
            rw [e1, e2] at e; cases e
            obtain ⟨w, h1, h2⟩ := deqL_at hq e2 lx ly rs1 rs2
            refine ⟨fun j => if j = 0 then p else w (j - 1), fun j g1 g2 => ?_, ?_⟩
            · cases j with
              | zero => simpa using hq x y v u _ _ p e1 dx dy r1 r2
              | succ j =>
                have z := h1 j (by simpa using g1) (by simpa using g2)
                simp only [List.getElem_toArray] at z ⊢
                simpa using z
            · rw [h2]
              simp only [List.size_toArray, List.length_cons]
              rw [show min (_ + 1) (_ + 1) = min _ _ + 1 from Nat.succ_min_succ _ _, List.range_succ_eq_map, List.all_cons, List.all_map]
              simp [Function.comp_def, Bool.and_assoc]
theorem deqL_self {K : PySem.W.Frag} {O : Addr → Prop} {H : Hp} {eq : D → D → Option Bool} (hq : ∀ x y v k, eq x y = some k → Den K O H x v → Den K O H y v → k = true) :
    ∀ {xs ys : List D} {vs : List V} {k : Bool}, deqL eq xs ys = some k → DenL K O H xs vs → DenL K O H ys vs → k = true
  | [], [], vs, k, e, hx, hy => by cases e; rfl
  | [], y :: ys, vs, k, e, hx, hy => by have := denL_length hx; have := denL_length hy; simp at *; omega
  | x :: xs, [], vs, k, e, hx, hy => by have := denL_length hx; have := denL_length hy; simp at *; omega
  | x :: xs, y :: ys, vs, k, e, hx, hy => by
    rw [DenL] at hx hy
    obtain ⟨v, r, rfl, dx, lx⟩ := hx
    obtain ⟨u, q, e0, dy, ly⟩ := hy
    cases e0
    rw [deqL] at e
    cases e1 : eq x y with
    | none => rw [e1] at e; cases e
    | some p =>
      cases e2 : deqL eq xs ys with
      | none => rw [e1, e2] at e; cases e
      | some q2 =>
        rw [e1, e2] at e; cases e
        rw [hq x y v p e1 dx dy, deqL_self hq e2 lx ly]; rfl
/-- the two kinds of sequences -/
theorem deq_cases {n : Nat} {x y : D} {k : Bool} (e : deq (n + 1) x y = some k) : flatE x y = some k ∨ (∃ xs ys, x = .tup xs ∧ y = .tup ys ∧ deqL (deq n) xs ys = some k) ∨ ∃ xs ys, asL x = some xs ∧ asL y = some ys ∧ deqL (deq n) xs ys = some k := by
  cases x <;> cases y <;> first
    | exact .inl e
    | exact .inr (.inl ⟨_, _, rfl, rfl, e⟩)
    | exact .inr (.inr ⟨_, _, rfl, rfl, e⟩)
theorem deq_self {pins : List (Addr × Obj)} {σ : L2.St} {H : Hp} {s : Shared} (I : Inv X pins σ H s) : ∀ (n : Nat) (x y : D) (v : V) (k : Bool), deq n x y = some k → Den X.K Emp H x v → Den X.K Emp H y v → k = true
  | 0, x, y, v, k, e, hx, hy => flat_self e hx hy
  | n + 1, x, y, v, k, e, hx, hy => by
    rcases deq_cases e with e | ⟨xs, ys, rfl, rfl, e⟩ | ⟨xs, ys, e1, e2, e⟩
    · exact flat_self e hx hy
    · rw [Den] at hx hy
      obtain ⟨a, vs, rfl, q1, l1⟩ := hx
      obtain ⟨b, us, z, q2, l2⟩ := hy
      cases z
      rw [I.tuple_inj q2 q1] at l2
      exact deqL_self (deq_self I n) e l1 l2
    · obtain ⟨a, vs, rfl, q1, _, l1⟩ := den_asL e1 hx
      obtain ⟨b, us, z, q2, _, l2⟩ := den_asL e2 hy
      cases z
      rw [q1] at q2; cases q2
      exact deqL_self (deq_self I n) e l1 l2
theorem deq_at {pins : List (Addr × Obj)} {σ : L2.St} {H : Hp} {s : Shared} (I : Inv X pins σ H s) : ∀ (n : Nat) (A : Around), A.units + n + 1 < cLine → ∀ (x y : D) (v u : V) (vv uu : Value) (k : Bool), deq n x y = some k → Den X.K Emp H x v → Den X.K Emp H y u → RelV v vv → RelV u uu →
    SeqAt.EqAt A s vv uu k ∧ SeqAt.RcAt A s vv uu k ∧ SeqAt.RcNeAt A s vv uu (!k)
  | 0, A, hA, x, y, v, u, vv, uu, k, e, hx, hy, rx, ry => flat_eqAt e hx hy rx ry
  | n + 1, A, hA, x, y, v, u, vv, uu, k, e, hx, hy, rx, ry => by
    have hin : ∀ x y v u vv uu k, deq n x y = some k → Den X.K Emp H x v → Den X.K Emp H y u → RelV v vv → RelV u uu → SeqAt.EqAt A.in1 s vv uu k := fun x y v u vv uu k e hx hy rx ry => (deq_at I n A.in1 (by show A.units + 1 + n + 1 < _; omega) x y v u vv uu k e hx hy rx ry).1
    have hu : A.units < cLine := by omega
    have done : ∀ (p q : Addr), v = .ref p → u = .ref q → SeqAt.RcAt A s (.ref p) (.ref q) k → SeqAt.RcNeAt A s (.ref p) (.ref q) (!k) → SeqAt.EqAt A s vv uu k ∧ SeqAt.RcAt A s vv uu k ∧ SeqAt.RcNeAt A s vv uu (!k) := fun p q ev eu rc rn => by
      subst ev; subst eu
      cases (show vv = Value.ref p from rx); cases (show uu = Value.ref q from ry)
      refine ⟨?_, rc, rn⟩
      by_cases pq : p = q
      · subst pq
        rw [deq_self I (n + 1) x y _ k e hx hy]
        exact .same _
      · exact .of_refs pq rc
    rcases deq_cases e with e | ⟨xs, ys, rfl, rfl, e⟩ | ⟨xs, ys, e1, e2, e⟩
    · exact flat_eqAt e hx hy rx ry
    · have hx' := hx
      have hy' := hy
      rw [Den] at hx' hy'
      obtain ⟨p, vs, ev, q1, l1⟩ := hx'
      obtain ⟨q, us, eu, q2, l2⟩ := hy'
      obtain ⟨its, r1, t1, _⟩ := I.tuple q1
      obtain ⟨jts, r2, t2, _⟩ := I.tuple q2
      obtain ⟨w, h1, h2⟩ := deqL_at hin e l1 l2 r1 r2
      refine done p q ev eu ?_ ?_
      · rw [h2]
        exact SeqAt.RcAt.tuples t1 t2 hu h1
      · rw [h2]
        exact SeqAt.RcNeAt.tuples t1 t2 hu h1
    · obtain ⟨p, vs, ev, q1, _, l1⟩ := den_asL e1 hx
      obtain ⟨q, us, eu, q2, _, l2⟩ := den_asL e2 hy
      obtain ⟨its, r1, t1, _⟩ := I.list (.inl (.inl q1))
      obtain ⟨jts, r2, t2, _⟩ := I.list (.inl (.inl q2))
      obtain ⟨w, h1, h2⟩ := deqL_at hin e l1 l2 r1 r2
      by_cases sz : its.toArray.size = jts.toArray.size
      · have r1 := SeqAt.RcAt.lists t1.isList t2.isList sz hu h1
        have r2 := SeqAt.RcNeAt.lists t1.isList t2.isList sz hu h1
        rw [sz, Nat.min_self, show (jts.toArray.size == jts.toArray.size) = true by simp, Bool.and_true] at h2
        rw [sz, ← h2] at r1 r2
        exact done p q ev eu r1 r2
      · have r1 := SeqAt.RcAt.lists_lengths (A := A) t1.isList t2.isList (by simpa using sz) hu
        have r2 := SeqAt.RcNeAt.lists_lengths (A := A) t1.isList t2.isList (by simpa using sz) hu
        rw [show (its.toArray.size == jts.toArray.size) = false by simpa using sz, Bool.and_false] at h2
        subst h2
        exact done p q ev eu r1 r2
def oEq (x y : D) : Option D := (deq 20 x y).map .bl
def oNe (x y : D) : Option D := (deq 20 x y).map fun k => .bl (!k)
def rEqD (K : PySem.W.Frag) (neg : Bool) : R2 := fun v u H Q => ∃ x y k, deq 20 x y = some k ∧ Den K Emp H x v ∧ Den K Emp H y u ∧ Q (.bl (if neg then !k else k)) H
theorem op_eqD {k : Nat} (hr : Room k X.A) : OpR X (compareOp .Eq) (rEqD X.K false) := by
  intro pins s σ H x y v u Q I rx ry ⟨dx, dy, k, e, hx, hy, q⟩
  have := (deq_at I 20 X.A (by have := hr.units; omega) dx dy x y v u k e hx hy rx ry).2.1
  exact this X.prog X.w X.xe _ ⟨.bl k, H, I, rfl, q⟩
theorem op_neD {k : Nat} (hr : Room k X.A) : OpR X (compareOp .NotEq) (rEqD X.K true) := by
  intro pins s σ H x y v u Q I rx ry ⟨dx, dy, k, e, hx, hy, q⟩
  have := (deq_at I 20 X.A (by have := hr.units; omega) dx dy x y v u k e hx hy rx ry).2.2
  exact this X.prog X.w X.xe _ ⟨.bl (!k), H, I, rfl, q⟩
def oEqN (neg : Bool) (x y : D) : Option D := (deq 20 x y).map fun k => .bl (if neg then !k else k)
theorem kEq {neg : Bool} : ∀ (x y d : D) (v u : V) (H : Hp) (Q : VK), oEqN neg x y = some d → Den X.K Emp H x v → Den X.K Emp H y u → (∀ w H', Same H H' → DenF X.K H H' d w → Q w H') → rEqD X.K neg v u H Q := by
  intro x y d v u H Q e hx hy q
  unfold oEqN at e
  cases e1 : deq 20 x y with
  | none => rw [e1] at e; cases e
  | some k => rw [e1] at e; cases e; exact ⟨x, y, k, e1, hx, hy, q _ H (Same.refl H) denF_bl⟩
theorem px_eq {k : Nat} (hr : Room k X.A) (ha : PX X a f) (hb : PX X b g) : PX X (.Compare a [.Eq] [b] pos) (fBin (oEqN false) f g) := px_cmp (op_eqD hr) kEq ha hb
theorem px_ne {k : Nat} (hr : Room k X.A) (ha : PX X a f) (hb : PX X b g) : PX X (.Compare a [.NotEq] [b] pos) (fBin (oEqN true) f g) := px_cmp (op_neD hr) kEq ha hb
theorem pxt_eq {k : Nat} (hr : Room k X.A) (ha : PX X a f) (hb : PX X b g) : PXT X (.Compare a [.Eq] [b] pos) (fTest (fBin (oEqN false) f g)) := pt_cmpX (op_eqD hr) kEq ha hb
theorem pxt_ne {k : Nat} (hr : Room k X.A) (ha : PX X a f) (hb : PX X b g) : PXT X (.Compare a [.NotEq] [b] pos) (fTest (fBin (oEqN true) f g)) := pt_cmpX (op_neD hr) kEq ha hb
end
end Tw

set_option Elab.async false
set_option linter.all false
set_option maxRecDepth 100000
set_option maxHeartbeats 1000000
namespace Tw
open PySem PySem.Spec PyProof.Rows L2
/-! ### statements -/
def fThen (F G : FS) : FS := fun ρ => (F ρ).bind fun r => match r with
  | .nx ρ' => G ρ'
  | r => some r
section
variable {X : Cx} {P : List (D × V)} {a b c e : Expr} {es : List Expr} {st : Stmt} {rest bd els : List Stmt} {pos : Pos} {f g : FE} {t : FT} {fa : FA} {F G : FS}
theorem px_nil : PXSs X [] (fun ρ => some (.nx ρ)) := PSs.weak pss_nil fun E σ H ⟨P, own, ρ, r, rp, e, q⟩ => by cases e; exact q own σ H rp
theorem px_cons (h1 : PXS X st F) (h2 : PXSs X rest G) : PXSs X (st :: rest) (fThen F G) := PSs.weak (pss_cons h1 h2) fun E σ H ⟨P, own, ρ, r, rp, e, q⟩ => by
  unfold fThen at e
  cases e1 : F ρ with
  | none => rw [e1] at e; cases e
  | some r1 =>
    rw [e1] at e
    refine ⟨P, own, ρ, r1, rp, e1, ?_⟩
    cases r1 with
    | nx ρ' => exact fun own' σ' H' rp' => ⟨P, own', ρ', r, rp', e, q⟩
    | bk ρ' => cases e; exact q
    | ct ρ' => cases e; exact q
    | rt d => cases e; exact q
theorem px_last (h1 : PXS X st F) : PXSs X [st] F := pss_one h1
theorem pxs_pass : PXS X (.Pass pos) (fun ρ => some (.nx ρ)) := PS.weak ps_pass fun E σ H ⟨P, own, ρ, r, rp, e, q⟩ => by cases e; exact q own σ H rp
theorem pxs_break : PXS X (.Break pos) (fun ρ => some (.bk ρ)) := PS.weak ps_break fun E σ H ⟨P, own, ρ, r, rp, e, q⟩ => by cases e; exact q own σ H rp
theorem pxs_cont : PXS X (.Continue pos) (fun ρ => some (.ct ρ)) := PS.weak ps_continue fun E σ H ⟨P, own, ρ, r, rp, e, q⟩ => by cases e; exact q own σ H rp
theorem pxs_doc {x j pos pos'} : PXS X (.Expr (.Constant (.str x) j pos) pos') (fun ρ => some (.nx ρ)) := PS.weak ps_doc fun E σ H ⟨P, own, ρ, r, rp, e, q⟩ => by cases e; exact q own σ H rp
/-- statements that are never come to -/
theorem pxs_never : PXS X st (fun _ => none) := PS.weak ps_never fun E σ H ⟨P, own, ρ, r, rp, e, q⟩ => by cases e
theorem pxss_never {sts : List Stmt} : PXSs X sts (fun _ => none) := PSs.weak pss_never fun E σ H ⟨P, own, ρ, r, rp, e, q⟩ => by cases e
def fRet (f : FE) : FS := fun ρ => (f ρ).map .rt
theorem pxs_ret (ha : PX X e f) : PXS X (.Return (some e) pos) (fRet f) := PS.weak (ps_ret ha) fun E σ H ⟨P, own, ρ, r, rp, e, q⟩ => by
  unfold fRet at e
  cases e1 : f ρ with
  | none => rw [e1] at e; cases e
  | some d =>
    rw [e1] at e; cases e
    exact ⟨ρ, d, rp.view, e1, fun v H1 s1 d1 => q v H1 (rp.same.trans s1) (d1.elder rp.same)⟩
/-- a name's own list leaves -/
def fRetN (i : Nat) : FS := fun ρ => match ρ[i]? with
  | some (some d) => some (.rt d)
  | _ => none
theorem pxs_retN (i : Nat) {x : Str} {p : Pos} (hN : X.N[i]? = some x := by rfl) (hv : Vis X.env.scope x := by first | exact Or.inl rfl | exact Or.inr (Or.inl rfl) | exact Or.inr (Or.inr rfl)) (hd : (x == ("__debug__" : Str)) = false := by decide) (hcd : (x == ("__classdict__" : Str)) = false := by decide) :
    PXS X (.Return (some (.Name x p)) pos) (fRetN i) := PS.weak (ps_ret (pe_var hN hv hd hcd)) fun E σ H ⟨P, own, ρ, r, rp, e, q⟩ => by
  unfold fRetN at e
  split at e
  · rename_i d e0
    cases e
    obtain ⟨v, h1, h2⟩ := rp.slot i d e0
    obtain ⟨v', h1', h3⟩ := rp.view i d e0
    rw [h1] at h1'; cases h1'
    refine ⟨v, h1, q v H rp.same ?_⟩
    cases d with
    | own xs =>
      obtain ⟨a, vs, e1, e2, e3, fl, l⟩ := h2
      exact ⟨a, vs, e2, rp.new i a e1, e3, denL_lf _ _ fl l⟩
    | _ => exact h3
  · cases e
theorem pxs_retNone : PXS X (.Return none pos) (fun _ => some (.rt .non)) := PS.weak ps_retN fun E σ H ⟨P, own, ρ, r, rp, e, q⟩ => by
  cases e
  exact q .non H rp.same (by show Den _ Emp _ _ _; rw [Den])
def fIfS (t : FT) (F G : FS) : FS := fun ρ => (t ρ).bind fun k => if k = true then F ρ else G ρ
theorem pxs_if (hc : PXT X c t) (ha : PXSs X bd F) (hb : PXSs X els G) : PXS X (.If c bd els pos) (fIfS t F G) := PS.weak (ps_if hc ha hb) fun E σ H ⟨P, own, ρ, r, rp, e, q⟩ => by
  unfold fIfS at e
  cases e1 : t ρ with
  | none => rw [e1] at e; cases e
  | some k =>
    rw [e1] at e
    refine ⟨ρ, k, rp.view, e1, fun H1 s1 => ?_⟩
    cases k with
    | true => rw [if_pos rfl]; exact ⟨P, own, ρ, r, rp.grow s1, e, q⟩
    | false => rw [if_neg Bool.false_ne_true]; exact ⟨P, own, ρ, r, rp.grow s1, e, q⟩
/-! name = e -/
def fAsg (i : Nat) (f : FE) : FS := fun ρ => (f ρ).map fun d => .nx (bindD ρ i d)
theorem pxs_set (i : Nat) {x : Str} {pos' : Pos} (hN : X.N.Nodup) (ha : PX X e f) (hi : X.N[i]? = some x := by rfl) (hx : Loc X.env.scope x := by first | exact Or.inl rfl | exact Or.inr rfl) (hs : swapsWith e (some (.Name x pos')) pos.line X.env = pure false := by rfl) (hf : X.fn x = true ∨ X.env.scope.names.lookup x = some .local := by first | exact .inl rfl | exact .inr rfl) :
    PXS X (.Assign [.Name x pos'] e pos) (fAsg i f) := PS.weak (ps_set hN hi hx ha hs hf) fun E σ H ⟨P, own, ρ, r, rp, e, q⟩ => by
  unfold fAsg at e
  cases e1 : f ρ with
  | none => rw [e1] at e; cases e
  | some d =>
    rw [e1] at e; cases e
    refine ⟨ρ, d, rp.view, e1, fun v H1 s1 d1 => ?_⟩
    obtain ⟨own', rp'⟩ := rp.bind (i := i) s1 d1
    exact q own' _ H1 rp'
/-! a, b = x, y -/
def fPar (i j : Nat) (fa : FA) : FS := fun ρ => (fa ρ).bind fun ds => match ds with
  | [d, d'] => if lf d = true ∧ lf d' = true then some (.nx ((ρ.set i (some d)).set j (some d'))) else none
  | _ => none
theorem pxs_par (i j : Nat) {x y : Str} {px py pt : Pos} {kt k2 pt2} (hc : X.calm = true) (hN : X.N.Nodup) (ha : PXA X [a, b] fa) (hw : swappedStores [.Tuple [.Name x px, .Name y py] kt pt] (.Tuple [a, b] k2 pt2) X.env = pure (some [x, y])) (hi : X.N[i]? = some x := by rfl) (hj : X.N[j]? = some y := by rfl) (hij : i ≠ j := by decide)
    (hx : X.env.scope.names.lookup x = some .local := by rfl) (hy : X.env.scope.names.lookup y = some .local := by rfl)
    (hs : swapsWithSole [.Tuple [.Name x px, .Name y py] kt pt] (.Tuple [a, b] k2 pt2) pos.line X.env = pure false := by rfl) :
    PXS X (.Assign [.Tuple [.Name x px, .Name y py] kt pt] (.Tuple [a, b] k2 pt2) pos) (fPar i j fa) := PS.weak (ps_par hc hN hi hj hij hx hy ha hw hs) fun E σ H ⟨P, own, ρ, r, rp, e, q⟩ => by
  unfold fPar at e
  cases e1 : fa ρ with
  | none => rw [e1] at e; cases e
  | some ds =>
    rw [e1] at e
    simp only [Option.bind_some] at e
    split at e
    · rename_i d d' 
      split at e
      · rename_i hl
        cases e
        refine ⟨ρ, _, rp.view, e1, fun vs H1 s1 l1 => ?_⟩
        obtain ⟨v, v', rfl, h, h'⟩ := denL2 l1
        have r1 := (rp.grow s1).put (i := i) (lf_frz hl.1) (den_lf _ _ hl.1 h)
        have r2 := r1.put (i := j) (lf_frz hl.2) (den_lf _ _ hl.2 h')
        exact ⟨v, v', rfl, q _ _ H1 r2⟩
      · cases e
    · cases e
/-! (a, b, ..) = a tuple -/
def setAll : List Nat → List D → Ev → Ev
  | i :: is, d :: ds, ρ => setAll is ds (ρ.set i (some d))
  | _, _, ρ => ρ
def fUnp (is : List Nat) (f : FE) : FS := fun ρ => (f ρ).bind fun d => match d with
  | .tup ds => if ds.length = is.length ∧ lfL ds = true then some (.nx (setAll is ds ρ)) else none
  | _ => none
/-- the targets are names -/
inductive Tg (X : Cx) : List Expr → List Nat → Prop where
  | nil : Tg X [] []
  | cons {i : Nat} {x : Str} {p : Pos} {es : List Expr} {is : List Nat} (hi : X.N[i]? = some x) (hx : Loc X.env.scope x) (hf : X.fn x = true ∨ X.env.scope.names.lookup x = some .local)
      (hs : (assignEach (.Name x p :: es) X.env).map (·.2) = assign (.Name x p) X.env :: (assignEach es X.env).map (·.2)) (t : Tg X es is) : Tg X (.Name x p :: es) (i :: is)
theorem tg_cons {i : Nat} {x : Str} {p : Pos} {es : List Expr} {is : List Nat} (t : Tg X es is) (hi : X.N[i]? = some x := by rfl) (hx : Loc X.env.scope x := by first | exact Or.inl rfl | exact Or.inr rfl) (hf : X.fn x = true ∨ X.env.scope.names.lookup x = some .local := by first | exact .inl rfl | exact .inr rfl)
      (hs : (assignEach (.Name x p :: es) X.env).map (·.2) = assign (.Name x p) X.env :: (assignEach es X.env).map (·.2) := by rfl) : Tg X (.Name x p :: es) (i :: is) := .cons hi hx hf hs t
def gAll : List Nat → TGs
  | [] => gNil
  | i :: is => gCons (gName i) (gAll is)
theorem tg_pgs (hN : X.N.Nodup) : ∀ {es : List Expr} {is : List Nat}, Tg X es is → PGs X es (gAll is)
  | _, _, .nil => pgs_nil
  | _, _, .cons hi hx hf hs t => pgs_cons (pg_name hN hi hx hf) (tg_pgs hN t) hs
theorem gAll_of {Q : L2.St → Hp → Prop} {H : Hp} : ∀ {is : List Nat} {ds : List D} {vs : List V} {own : Nat → Option Addr} {ρ : Ev} {σ : L2.St}, ds.length = is.length → lfL ds = true → DenL X.K Emp H ds vs → Rep X P ρ own σ H →
    (∀ own' σ', Rep X P (setAll is ds ρ) own' σ' H → Q σ' H) → gAll is vs σ H Q
  | [], [], vs, own, ρ, σ, hl, fl, l, rp, q => by rw [DenL] at l; subst l; exact ⟨rfl, q own σ rp⟩
  | [], _ :: _, vs, own, ρ, σ, hl, fl, l, rp, q => by simp at hl
  | _ :: _, [], vs, own, ρ, σ, hl, fl, l, rp, q => by simp at hl
  | i :: is, d :: ds, vs, own, ρ, σ, hl, fl, l, rp, q => by
    rw [DenL] at l
    obtain ⟨v, r, rfl, h, l⟩ := l
    rw [lfL, Bool.and_eq_true] at fl
    exact ⟨v, r, rfl, gAll_of (by simpa using hl) fl.2 l (rp.put (i := i) (lf_frz fl.1) (den_lf _ _ fl.1 h)) q⟩
theorem pg_names {is : List Nat} {k : Nat} (hc : X.calm = true) (hN : X.N.Nodup) (tg : Tg X es is) (hn : (assignEach es X.env).length = is.length := by rfl) (hst : (assignEach es X.env).findIdx? (·.1) = none := by rfl) : PG X (.Tuple es k pos) (gTup X.K is.length (gAll is)) := pg_tup hc (tg_pgs hN tg) hn hst
theorem pxs_unp {is : List Nat} {k : Nat} {p2 : Pos} (hc : X.calm = true) (hN : X.N.Nodup) (tg : Tg X es is) (ha : PX X e f) (hn : (assignEach es X.env).length = is.length := by rfl) (hst : (assignEach es X.env).findIdx? (·.1) = none := by rfl)
    (hs : swapsWithSole [.Tuple es k p2] e pos.line X.env = pure false := by rfl) (hw : swappedStores [.Tuple es k p2] e X.env = pure none := by rfl)
    (h1 : (assignEach [.Tuple es k p2] X.env).map (·.2) = [assign (.Tuple es k p2) X.env] := by rfl) : PXS X (.Assign [.Tuple es k p2] e pos) (fUnp is f) := PS.weak (ps_asg ha (pg_names hc hN tg hn hst) hs hw h1) fun E σ H ⟨P, own, ρ, r, rp, e, q⟩ => by
  unfold fUnp at e
  cases e1 : f ρ with
  | none => rw [e1] at e; cases e
  | some d =>
    rw [e1] at e
    simp only [Option.bind_some] at e
    refine ⟨ρ, d, rp.view, e1, fun v H1 s1 d1 => ?_⟩
    cases d with
    | tup ds =>
      simp only at e
      split at e
      · rename_i hl
        cases e
        have z := d1.den
        rw [Den] at z
        obtain ⟨p, vs, ev, hq, l⟩ := z
        exact ⟨p, vs, ev, hq, by rw [← denL_length l]; exact hl.1, gAll_of hl.1 hl.2 l (rp.grow s1) fun own' σ' rp' => q own' σ' H1 rp'⟩
      · cases e
    | _ => cases e
/-! x.append(e) -/
def fApp (i : Nat) (f : FE) : FS := fun ρ => (f ρ).bind fun d => match ρ[i]? with
  | some (some (.own xs)) => if lf d = true ∧ xs.length < lim then some (.nx (ρ.set i (some (.own (xs ++ [d]))))) else none
  | _ => none
theorem lfL_append {xs : List D} {d : D} : lfL xs = true → lf d = true → lfL (xs ++ [d]) = true := by
  induction xs with
  | nil => intro _ h; simp [lfL, h]
  | cons x xs ih => intro h1 h2; rw [lfL, Bool.and_eq_true] at h1; rw [List.cons_append, lfL, Bool.and_eq_true]; exact ⟨h1.1, ih h1.2 h2⟩
theorem pxs_app (i : Nat) {x : Str} {p apos cpos : Pos} (ha : PX X e f) (hN : X.N[i]? = some x := by rfl) (hv : Vis X.env.scope x := by first | exact Or.inl rfl | exact Or.inr (Or.inl rfl) | exact Or.inr (Or.inr rfl)) (hd : (x == ("__debug__" : Str)) = false := by decide) (hcd : (x == ("__classdict__" : Str)) = false := by decide)
    (hbase : attributeBase (.Name x p) "append" X.env (eval (.Name x p) X.env) = eval (.Name x p) X.env := by rfl)
    (hfew : ((backTo cpos (starEach [e] X.env)).all (fun x => !x.1) && (backToKw cpos (keywordEach [] X.env)).all (fun x => x.1.isSome) && decide (([e] : List Expr).length + ([] : List Keyword).length + (if ([] : List Keyword).isEmpty then 0 else 1) < 30)) = true := by rfl)
    (hline : (apos.endLine == cpos.line) = true := by rfl) (hs : starEach [e] X.env = (false, eval e X.env) :: starEach [] X.env := by rfl) (hsw : swapsWith (.Call (.Attribute (.Name x p) "append" apos) [e] [] cpos) none pos.line X.env = pure false := by rfl) :
    PXS X (.Expr (.Call (.Attribute (.Name x p) "append" apos) [e] [] cpos) pos) (fApp i f) :=
  PS.weak (ps_expr (pe_bm PySem.F.plainAttrs_list PySem.F.slot_list_append PySem.F.type_list_append mt_append (pe_var hN hv hd hcd) (pa_cons ha pa_nil hs) hbase hfew hline hs rfl) hsw) fun E σ H ⟨P, own, ρ, r, rp, e, q⟩ => by
  unfold fApp at e
  cases e1 : f ρ with
  | none => rw [e1] at e; cases e
  | some d =>
    rw [e1] at e
    simp only [Option.bind_some] at e
    split at e
    · rename_i xs e0
      split at e
      · rename_i hl
        cases e
        obtain ⟨v, h1, a, vs, h2, h3, h4, fl, l⟩ := rp.slot i _ e0
        subst h3
        refine ⟨_, h1, .inl ⟨rfl, vs, .inl (.inl h4)⟩, ⟨ρ, d, rp.view, e1, fun w H1 s1 d1 => ⟨a, vs, w, rfl, rfl, s1 _ _ h4, ?_, ?_⟩⟩⟩
        · rw [← denL_length l]; exact Nat.lt_of_lt_of_le hl.2 lim_line
        · have rp1 := rp.grow s1
          have l1 : DenL X.K Emp H1 xs vs := denL_same s1 (denL_lf _ _ fl l)
          exact q own σ _ (rp1.mut e0 h2 (lfL_append fl hl.1) (denL_append l1 (denL_cons d1.den denL_nil)))
      · cases e
    · cases e
/-! an expression alone -/
def fDrop (f : FE) : FS := fun ρ => (f ρ).map fun _ => .nx ρ
theorem pxs_expr (ha : PX X e f) (hs : swapsWith e none pos.line X.env = pure false := by rfl) : PXS X (.Expr e pos) (fDrop f) := PS.weak (ps_expr ha hs) fun E σ H ⟨P, own, ρ, r, rp, e, q⟩ => by
  unfold fDrop at e
  cases e1 : f ρ with
  | none => rw [e1] at e; cases e
  | some d =>
    rw [e1] at e; cases e
    exact ⟨ρ, d, rp.view, e1, fun v H1 s1 d1 => q own σ H1 (rp.grow s1)⟩
/-! while -/
def whileF (c : FT) (b : FS) : Nat → Ev → Option R
  | 0, _ => none
  | n + 1, ρ => (c ρ).bind fun k => if k = true then (b ρ).bind (fun r => match r with
      | .nx ρ' => whileF c b n ρ'
      | .ct ρ' => whileF c b n ρ'
      | .bk ρ' => some (.nx ρ')
      | .rt d => some (.rt d)) else some (.nx ρ)
theorem whileF_more {c : FT} {b : FS} : ∀ {n : Nat} {ρ : Ev} {r : R}, whileF c b n ρ = some r → whileF c b (n + 1) ρ = some r
  | 0, ρ, r, h => by cases h
  | n + 1, ρ, r, h => by
    rw [whileF] at h ⊢
    cases e : c ρ with
    | none => rw [e] at h; cases h
    | some k =>
      rw [e] at h
      cases k with
      | false => exact h
      | true =>
        simp only [Option.bind_some, if_true] at h ⊢
        cases e2 : b ρ with
        | none => rw [e2] at h; cases h
        | some r2 =>
          rw [e2] at h
          cases r2 with
          | nx ρ' => exact whileF_more (n := n) h
          | ct ρ' => exact whileF_more (n := n) h
          | bk ρ' => exact h
          | rt d => exact h
theorem whileF_le {c : FT} {b : FS} {n m : Nat} {ρ : Ev} {r : R} (h : whileF c b n ρ = some r) (hm : n ≤ m) : whileF c b m ρ = some r := by
  induction hm with
  | refl => exact h
  | step _ ih => exact whileF_more ih
open Classical in
noncomputable def whileV (c : FT) (b : FS) : FS := fun ρ => if h : ∃ r, ∃ n, whileF c b n ρ = some r then some h.choose else none
theorem whileV_of {c : FT} {b : FS} {n : Nat} {ρ : Ev} {r : R} (h : whileF c b n ρ = some r) : whileV c b ρ = some r := by
  have z : ∃ r, ∃ n, whileF c b n ρ = some r := ⟨r, n, h⟩
  unfold whileV
  rw [dif_pos z]
  obtain ⟨m, hm⟩ := z.choose_spec
  have h1 := whileF_le h (Nat.le_max_left n m)
  have h2 := whileF_le hm (Nat.le_max_right n m)
  rw [h1] at h2
  exact h2.symm
theorem of_whileV {c : FT} {b : FS} {ρ : Ev} {r : R} (h : whileV c b ρ = some r) : ∃ n, whileF c b n ρ = some r := by
  unfold whileV at h
  split at h
  · rename_i z
    cases h
    exact z.choose_spec
  · cases h
theorem pxs_while {body : List Stmt} {b : FS} (hp : PassesOwn (model X.prog X.w) X.A X.env X.xe) (hc : PXT X c t) (hb : PXSs X body b) : PXS X (.While c body [] pos) (whileV t b) := PS.weak (ps_while hp hc hb) fun E σ H ⟨P, own, ρ, r, rp, e, q⟩ => by
  obtain ⟨n, e⟩ := of_whileV e
  refine ⟨fun m σ H => ∃ own ρ, Rep X P ρ own σ H ∧ whileF t b m ρ = some r, ⟨n, own, ρ, rp, e⟩, fun m σ H ⟨own, ρ, rp, e⟩ => ?_⟩
  cases m with
  | zero => cases e
  | succ m =>
    rw [whileF] at e
    cases e1 : t ρ with
    | none => rw [e1] at e; cases e
    | some k =>
      rw [e1] at e
      refine ⟨ρ, k, rp.view, e1, fun H1 s1 => ?_⟩
      cases k with
      | false =>
        rw [if_neg Bool.false_ne_true]
        cases e
        exact q own σ H1 (rp.grow s1)
      | true =>
        rw [if_pos rfl]
        simp only [Option.bind_some, if_true] at e
        cases e2 : b ρ with
        | none => rw [e2] at e; cases e
        | some r2 =>
          rw [e2] at e
          refine ⟨fun σ' H' => ∃ own ρ, Rep X P ρ own σ' H' ∧ whileF t b m ρ = some r, fun σ' H' h => ⟨m, Nat.lt_succ_self m, h⟩, P, own, ρ, r2, rp.grow s1, e2, ?_⟩
          cases r2 with
          | nx ρ' => exact fun own' σ' H' rp' => ⟨own', ρ', rp', e⟩
          | ct ρ' => exact fun own' σ' H' rp' => ⟨own', ρ', rp', e⟩
          | bk ρ' => cases e; exact fun own' σ' H' rp' => q own' σ' H' rp'
          | rt d => cases e; exact q
/-! for -/
def loopF (b : D → FS) : List D → Ev → Option R
  | [], ρ => some (.nx ρ)
  | x :: xs, ρ => (b x ρ).bind fun r => match r with
    | .nx ρ' => loopF b xs ρ'
    | .ct ρ' => loopF b xs ρ'
    | .bk ρ' => some (.nx ρ')
    | .rt d => some (.rt d)
/-- a target of a loop -/
def PXG (X : Cx) (tg : Expr) (g : TG) (gf : D → Ev → Option Ev) : Prop := ∀ (P : List (D × V)) (d : D) (v : V) (own : Nat → Option Addr) (ρ ρ' : Ev) (σ : L2.St) (H : Hp) (Q : L2.St → Hp → Prop), Rep X P ρ own σ H → Den X.K (Own own) H d v → gf d ρ = some ρ' → (∀ own' σ', Rep X P ρ' own' σ' H → Q σ' H) → g v σ H Q
def gfName (i : Nat) : D → Ev → Option Ev := fun d ρ => some (ρ.set i (some (frz d)))
theorem pxg_name (i : Nat) : PXG X (.Name "" pos) (gName i) (gfName i) := fun P d v own ρ ρ' σ H Q rp h e q => by
  unfold gfName at e
  cases e
  exact q _ _ (rp.put (i := i) (by cases d <;> rfl) (den_frz.mpr h))
def gfTup (is : List Nat) : D → Ev → Option Ev := fun d ρ => match d with
  | .tup ds => if ds.length = is.length ∧ lfL ds = true then some (setAll is ds ρ) else none
  | _ => none
theorem pxg_tup (is : List Nat) : PXG X (.Name "" pos) (gTup X.K is.length (gAll is)) (gfTup is) := fun P d v own ρ ρ' σ H Q rp h e q => by
  unfold gfTup at e
  cases d with
  | tup ds =>
    simp only at e
    split at e
    · rename_i hl
      cases e
      rw [Den] at h
      obtain ⟨p, vs, ev, hq, l⟩ := h
      exact ⟨p, vs, ev, hq, by rw [← denL_length l]; exact hl.1, gAll_of hl.1 hl.2 (denL_lf _ _ hl.2 l) rp q⟩
    · cases e
  | _ => cases e
def turnF (gf : D → Ev → Option Ev) (b : FS) : D → FS := fun x ρ => (gf x ρ).bind b
theorem loop_ok {K : PySem.W.Frag} {J : It} {g : TG} {gf : D → Ev → Option Ev} {tg : Expr} {b : FS} {E : Ends} {xs : List D} {r : R} {H0 : Hp} {σ : L2.St} {own : Nat → Option Addr} {ρ : Ev} (hg : PXG X tg g gf) (P' : List (D × V)) (hP : ∀ p ∈ P, p ∈ P')
    (hgo : ∀ (i : Nat) (own : Nat → Option Addr) (ρ : Ev) (σ : L2.St) (H : Hp) (x : D), Rep X P' ρ own σ H → xs[i]? = some x → J.go i H ∧ ∀ v H', J.yld i H v H' → H' = H ∧ Den X.K (Own own) H x v)
    (hst : ∀ (own : Nat → Option Addr) (ρ : Ev) (σ : L2.St) (H : Hp), Rep X P' ρ own σ H → J.stop xs.length H)
    (rp : Rep X P' ρ own σ H0) (e : loopF (turnF gf b) xs ρ = some r) (q : EndsOk X P E r) :
    ∃ W : Nat → Nat → L2.St → Hp → Prop, (∃ m, W 0 m σ H0) ∧ ∀ i m σ H, W i m σ H →
      (J.stop i H ∧ E.nx σ H) ∨ (J.go i H ∧ ∃ N : L2.St → Hp → Prop, (∀ σ' H', N σ' H' → ∃ m', m' < m ∧ W (i + 1) m' σ' H') ∧ ∀ x H', J.yld i H x H' → g x σ H' fun σ2 H2 => tS X b { E with nx := N, ct := N, bk := E.nx } σ2 H2) := by
  have weak : ∀ {ρ own σ H}, Rep X P' ρ own σ H → Rep X P ρ own σ H := fun rp => ⟨rp.same, rp.len, rp.slot, rp.inj, rp.lst, rp.new, fun p hp => rp.prot p (hP p hp)⟩
  refine ⟨fun i m σ H => m = xs.length - i ∧ i ≤ xs.length ∧ ∃ own ρ, Rep X P' ρ own σ H ∧ loopF (turnF gf b) (xs.drop i) ρ = some r, ⟨xs.length, by simp, Nat.zero_le _, own, ρ, rp, by simpa using e⟩, ?_⟩
  rintro i m σ H ⟨rfl, hi, own, ρ, rp, e⟩
  by_cases hlt : i < xs.length
  · obtain ⟨go, yl⟩ := hgo i own ρ σ H xs[i] rp (by simp [hlt])
    refine .inr ⟨go, fun σ' H' => ∃ own ρ, Rep X P' ρ own σ' H' ∧ loopF (turnF gf b) (xs.drop (i + 1)) ρ = some r, fun σ' H' h => ⟨xs.length - (i + 1), by omega, rfl, hlt, h⟩, fun v H' y => ?_⟩
    obtain ⟨rfl, dv⟩ := yl v H' y
    rw [List.drop_eq_getElem_cons hlt, loopF] at e
    cases e1 : turnF gf b xs[i] ρ with
    | none => rw [e1] at e; cases e
    | some r1 =>
      rw [e1] at e
      simp only [Option.bind_some] at e
      unfold turnF at e1
      cases e2 : gf xs[i] ρ with
      | none => rw [e2] at e1; cases e1
      | some ρ1 =>
        rw [e2] at e1
        refine hg P' xs[i] v own ρ ρ1 σ _ _ rp dv e2 fun own' σ' rp' => ⟨P', own', ρ1, r1, rp', e1, ?_⟩
        cases r1 with
        | nx ρ2 => exact fun own2 σ2 H2 rp2 => ⟨own2, ρ2, rp2, e⟩
        | ct ρ2 => exact fun own2 σ2 H2 rp2 => ⟨own2, ρ2, rp2, e⟩
        | bk ρ2 => cases e; exact fun own2 σ2 H2 rp2 => q own2 σ2 H2 (weak rp2)
        | rt d => cases e; exact q
  · have ei : i = xs.length := by omega
    subst ei
    rw [List.drop_length, loopF] at e
    cases e
    exact .inl ⟨hst own ρ σ H rp, q own σ H (weak rp)⟩
/-- a list or a tuple is walked -/
def iSeq (K : PySem.W.Frag) (tl : TE) : TI := fun σ H R => tl σ H fun x H1 => (∃ a, x = .ref a ∧ (∃ xs, SqL K H1 a xs) ∧ R (Itl K a) H1) ∨ ∃ a, x = .ref a ∧ (∃ xs, SqT K H1 a xs) ∧ R (Itt K a) H1
theorem pi_seq {tg l : Expr} {tl : TE} (hl : PE X l tl) : PI X tg l (iSeq X.K tl) := by
  intro pins s σ H R I h
  refine thn (hl pins s σ H _ I h) fun v s1 ⟨x, H1, I1, r1, q1⟩ => ?_
  rcases q1 with ⟨a, e, ⟨xs, hq⟩, q⟩ | ⟨a, e, ⟨xs, hq⟩, q⟩
  · subst e
    cases r1
    obtain ⟨its, rv, p, hz⟩ := I1.list hq
    refine wpAny_pyIter_list p.isList ?_
    refine ⟨s1.heap.objs.size, [s1.heap.objs.size], _, _, H1, rfl, I1.kept (t' := s1.toks) fun b o e => Heap.get?_push_of_some _ e, turn_list a _, ⟨_, Heap.get?_push_size _ rfl, rfl, rfl⟩, fun b hb => ?_, q⟩
    have e : b = s1.heap.objs.size := by simpa using hb
    subst e
    exact I1.fpOk (Nat.le_refl _) (I1.hok.fresh (Nat.le_refl _))
  · subst e
    cases r1
    obtain ⟨its, rv, p, hz⟩ := I1.tuple hq
    refine wpAny_pyIter_tuple (show s1.heap.IsTuple a its.toArray from p) ?_
    refine ⟨s1.heap.objs.size, [s1.heap.objs.size], _, _, H1, rfl, I1.kept (t' := s1.toks) fun b o e => Heap.get?_push_of_some _ e, turn_tuple a _, ⟨_, Heap.get?_push_size _ rfl, rfl, rfl⟩, fun b hb => ?_, q⟩
    have e : b = s1.heap.objs.size := by simpa using hb
    subst e
    exact I1.fpOk (Nat.le_refl _) (I1.hok.fresh (Nat.le_refl _))
theorem Rep.more {ρ : Ev} {own : Nat → Option Addr} {σ : L2.St} {H : Hp} (rp : Rep X P ρ own σ H) {d : D} {v : V} (h : Den X.K (Own own) H d v) : Rep X ((d, v) :: P) ρ own σ H :=
  ⟨rp.same, rp.len, rp.slot, rp.inj, rp.lst, rp.new, fun p hp => by
    rcases List.mem_cons.mp hp with e | e
    · rw [e]; exact h
    · exact rp.prot p e⟩
/-- what may be walked, and how the names stand then -/
def walkD : D → Ev → Option (List D × Ev)
  | .own xs, ρ => if lfL xs = true then some (xs, ρ) else none
  | .scr xs, ρ => if lfL xs = true then some (xs, ρ) else none
  | .tup xs, ρ => if lfL xs = true then some (xs, ρ) else none
  | .lst xs, ρ => if lfL xs = true then some (xs, frzAll ρ) else none
  | _, _ => none
def fFor (f : FE) (gf : D → Ev → Option Ev) (b : FS) : FS := fun ρ => (f ρ).bind fun d => (walkD d ρ).bind fun p => loopF (turnF gf b) p.1 p.2
theorem seq_loop {g : TG} {gf : D → Ev → Option Ev} {tg : Expr} {b : FS} {E : Ends} {xs : List D} {r : R} {H : Hp} {σ : L2.St} {own : Nat → Option Addr} {ρ : Ev} {a : Addr} {d : D} (hg : PXG X tg g gf) (hd : items d = some xs) (fl : lfL xs = true)
    (rp : Rep X P ρ own σ H) (h : Den X.K (Own own) H d (.ref a)) (e : loopF (turnF gf b) xs ρ = some r) (q : EndsOk X P E r) :
    (∃ a', V.ref a = .ref a' ∧ (∃ xs, SqL X.K H a' xs) ∧ ∃ W : Nat → Nat → L2.St → Hp → Prop, (∃ m, W 0 m σ H) ∧ ∀ i m σ H, W i m σ H →
      ((Itl X.K a').stop i H ∧ E.nx σ H) ∨ ((Itl X.K a').go i H ∧ ∃ N : L2.St → Hp → Prop, (∀ σ' H', N σ' H' → ∃ m', m' < m ∧ W (i + 1) m' σ' H') ∧ ∀ x H', (Itl X.K a').yld i H x H' → g x σ H' fun σ2 H2 => tS X b { E with nx := N, ct := N, bk := E.nx } σ2 H2)) ∨
    (∃ a', V.ref a = .ref a' ∧ (∃ xs, SqT X.K H a' xs) ∧ ∃ W : Nat → Nat → L2.St → Hp → Prop, (∃ m, W 0 m σ H) ∧ ∀ i m σ H, W i m σ H →
      ((Itt X.K a').stop i H ∧ E.nx σ H) ∨ ((Itt X.K a').go i H ∧ ∃ N : L2.St → Hp → Prop, (∀ σ' H', N σ' H' → ∃ m', m' < m ∧ W (i + 1) m' σ' H') ∧ ∀ x H', (Itt X.K a').yld i H x H' → g x σ H' fun σ2 H2 => tS X b { E with nx := N, ct := N, bk := E.nx } σ2 H2)) := by
  have rp' := rp.more h
  have any : ∀ {ρ own σ H}, Rep X ((d, .ref a) :: P) ρ own σ H → ∃ vs, (SqL X.K H a vs ∧ (∀ ys, d ≠ .tup ys) ∨ SqT X.K H a vs ∧ ∃ ys, d = .tup ys) ∧ DenL X.K (Own own) H xs vs := fun {ρ own σ H} rp => by
    have z := rp.prot _ List.mem_cons_self
    cases d with
    | tup ys =>
      cases hd
      rw [Den] at z
      obtain ⟨a', vs, ev, hq, l⟩ := z
      cases ev
      exact ⟨vs, .inr ⟨hq, _, rfl⟩, l⟩
    | lst ys => cases hd; rw [Den] at z; obtain ⟨a', vs, ev, hq, _, l⟩ := z; cases ev; exact ⟨vs, .inl ⟨.inl (.inl hq), fun ys z => by cases z⟩, l⟩
    | own ys => cases hd; rw [Den] at z; obtain ⟨a', vs, ev, hq, _, l⟩ := z; cases ev; exact ⟨vs, .inl ⟨.inl (.inl hq), fun ys z => by cases z⟩, l⟩
    | scr ys =>
      cases hd; rw [Den] at z; obtain ⟨a', vs, ev, hq, l⟩ := z; cases ev
      refine ⟨vs, .inl ⟨?_, fun ys z => by cases z⟩, l⟩
      rcases hq with ⟨o, hq⟩ | hq
      · exact .inl (.inr ⟨o, hq⟩)
      · rcases hq with (hq | ⟨o, hq⟩) | hq
        · cases hq
        · cases hq
        · exact .inr hq
    | _ => cases hd
  obtain ⟨vs, kind, l⟩ := any rp'
  rcases kind with ⟨hq, nt⟩ | ⟨hq, ys, et⟩
  · refine .inl ⟨a, rfl, ⟨vs, hq⟩, loop_ok (K := X.K) hg ((d, .ref a) :: P) (fun p hp => List.mem_cons_of_mem _ hp) (fun i own ρ σ H x rp ex => ?_) (fun own ρ σ H rp => ?_) rp' e q⟩
    · obtain ⟨vs, kind, l⟩ := any rp
      rcases kind with ⟨hq, _⟩ | ⟨_, ys, et⟩
      · obtain ⟨v, hv, dv⟩ := denL_get l ex
        refine ⟨⟨vs, v, hq, hv⟩, fun w H' y => ?_⟩
        obtain ⟨e1, e2⟩ := y
        have := e2 vs hq
        rw [hv] at this; cases this
        exact ⟨e1, dv⟩
      · exact absurd et (nt ys)
    · obtain ⟨vs, kind, l⟩ := any rp
      rcases kind with ⟨hq, _⟩ | ⟨_, ys, et⟩
      · exact ⟨vs, hq, by rw [← denL_length l]; exact Nat.le_refl _⟩
      · exact absurd et (nt ys)
  · refine .inr ⟨a, rfl, ⟨vs, hq⟩, loop_ok (K := X.K) hg ((d, .ref a) :: P) (fun p hp => List.mem_cons_of_mem _ hp) (fun i own ρ σ H x rp ex => ?_) (fun own ρ σ H rp => ?_) rp' e q⟩
    · obtain ⟨vs, kind, l⟩ := any rp
      rcases kind with ⟨_, nt⟩ | ⟨hq, _⟩
      · exact absurd et (nt ys)
      · obtain ⟨v, hv, dv⟩ := denL_get l ex
        refine ⟨⟨vs, v, hq, hv⟩, fun w H' y => ?_⟩
        obtain ⟨e1, e2⟩ := y
        have := e2 vs hq
        rw [hv] at this; cases this
        exact ⟨e1, dv⟩
    · obtain ⟨vs, kind, l⟩ := any rp
      rcases kind with ⟨_, nt⟩ | ⟨hq, _⟩
      · exact absurd et (nt ys)
      · exact ⟨vs, hq, by rw [← denL_length l]; exact Nat.le_refl _⟩
theorem pxs_for {tg : Expr} {g : TG} {gf : D → Ev → Option Ev} {iter : Expr} {body : List Stmt} {b : FS} (hp : PassesOwn (model X.prog X.w) X.A X.env X.xe) (hc : X.calm = true) (ha : PX X iter f) (hg : PG X tg g) (hgf : PXG X (.Name "" pos) g gf) (hb : PXSs X body b) (hs : ∀ x, foldedSetIterable iter X.env x = pure x := by intro _; rfl) :
    PXS X (.For tg iter body [] pos) (fFor f gf b) := PS.weak (ps_for hp hc (pi_seq ha) hg hb hs) fun E σ H ⟨P, own, ρ, r, rp, e, q⟩ => by
  unfold fFor at e
  cases e1 : f ρ with
  | none => rw [e1] at e; cases e
  | some d =>
    rw [e1] at e
    simp only [Option.bind_some] at e
    refine ⟨ρ, d, rp.view, e1, fun v H1 s1 d1 => ?_⟩
    have rp1 := rp.grow s1
    cases d with
    | own xs =>
      simp only [walkD] at e
      split at e
      · rename_i fl
        obtain ⟨a, vs, rfl, hn, h1, l⟩ := d1
        refine seq_loop (d := .lst xs) hgf rfl fl rp1 ?_ e q
        rw [Den]
        refine ⟨a, vs, rfl, h1, fun ⟨i, z⟩ => ?_, denL_lf _ _ fl l⟩
        obtain ⟨ws, w⟩ := rp.lst i a z
        rw [hn] at w; cases w
      · cases e
    | tup xs =>
      simp only [walkD] at e
      split at e
      · rename_i fl
        have z := d1.den
        have z2 := z
        rw [Den] at z2
        obtain ⟨a, vs, rfl, _⟩ := z2
        exact seq_loop hgf rfl fl rp1 (den_lf _ _ (by rw [lf]; exact fl) z) e q
      · cases e
    | scr xs =>
      simp only [walkD] at e
      split at e
      · rename_i fl
        have z := d1.den
        have z2 := z
        rw [Den] at z2
        obtain ⟨a, vs, rfl, _⟩ := z2
        exact seq_loop hgf rfl fl rp1 (den_lf _ _ (by rw [lf]; exact fl) z) e q
      · cases e
    | lst xs =>
      simp only [walkD] at e
      split at e
      · rename_i fl
        have z := d1.den
        have z2 := z
        rw [Den] at z2
        obtain ⟨a, vs, rfl, _⟩ := z2
        exact seq_loop hgf rfl fl rp1.frozen (den_mono (fun _ _ q _ => q) (fun _ z => z.elim) (fun b z => by obtain ⟨i, z⟩ := z; cases z) _ _ z) e q
      · cases e
    | _ => simp only [walkD] at e; cases e
/-! for x in range(n) -/
def fForR (f : FA) (gf : D → Ev → Option Ev) (b : FS) : FS := fun ρ => (f ρ).bind fun ds => match ds with
  | [.int n] => if n < 2 ^ 62 ∧ -(2 ^ 62) ≤ n then loopF (turnF gf b) ((List.range n.toNat).map fun i => .int (i : Nat)) ρ else none
  | _ => none
theorem pxs_forR {tg : Expr} {g : TG} {gf : D → Ev → Option Ev} {a : Expr} {p p2 : Pos} {body : List Stmt} {b : FS} (hp : PassesOwn (model X.prog X.w) X.A X.env X.xe) (hc : X.calm = true) (hm : X.mg "range" = none) (ha : PXA X [a] fa) (hg : PG X tg g) (hgf : PXG X (.Name "" pos) g gf) (hb : PXSs X body b) (hgl : Gl X "range" := by rfl) (hs : ∀ x, foldedSetIterable (.Call (.Name "range" p) [a] [] p2) X.env x = pure x := by intro _; rfl) (hst : starEach [a] X.env = [(false, eval a X.env)] := by rfl) :
    PXS X (.For tg (.Call (.Name "range" p) [a] [] p2) body [] pos) (fForR fa gf b) := PS.weak (ps_for hp hc (pi_range1 hgl hm ha hst) hg hb hs) fun E σ H ⟨P, own, ρ, r, rp, e, q⟩ => by
  unfold fForR at e
  cases e1 : fa ρ with
  | none => rw [e1] at e; cases e
  | some ds =>
    rw [e1] at e
    simp only [Option.bind_some] at e
    split at e
    · rename_i n
      split at e
      · rename_i hl
        refine ⟨ρ, _, rp.view, e1, fun vs H1 s1 l1 => ?_⟩
        obtain ⟨v, rfl, h⟩ := denL1 l1
        refine ⟨n, by rw [den_int.mp h], hl.2, hl.1, ?_⟩
        refine loop_ok (K := X.K) hgf P (fun p hp => hp) (fun i own ρ σ H x rp ex => ?_) (fun own ρ σ H rp => ?_) (rp.grow s1) e q
        · rw [List.getElem?_map] at ex
          have hi : i < n.toNat := by
            by_cases z : i < n.toNat
            · exact z
            · rw [List.getElem?_eq_none (by simpa using z)] at ex; cases ex
          rw [List.getElem?_range hi] at ex
          cases ex
          refine ⟨hi, fun w H' y => ?_⟩
          obtain ⟨e2, e3⟩ := y
          exact ⟨e2, by rw [Den, e3]; simp⟩
        · show n.toNat ≤ _
          simp
      · cases e
    · cases e
end
end Tw

set_option Elab.async false
set_option linter.all false
set_option maxRecDepth 100000
set_option maxHeartbeats 1000000
namespace Tw
open PySem PySem.Spec PyProof.Rows L2
/-! ### defs -/
def spF (K : PySem.W.Frag) (g : List D → Option D) : Sp := fun vs H Q _ => ∃ ds d, DenL K Emp H ds vs ∧ g ds = some d ∧ ∀ v H', Same H H' → DenF K H H' d v → Q v H'
/-- the def called x answers as g says -/
structure Fn (P : Program) (w : World) (K : PySem.W.Frag) (mg : Str → Option Value) (base : Heap) (x : Str) (k : Nat) (g : List D → Option D) : Prop where
  ex : ∃ (f : Addr) (fd : FuncData) (ps : List Str), FnOk P w K mg base CX0 k f fd ps (spF K g) ∧ Binds K fd ps [] ∧ PySem.W.keepIn K (.ref f) = true ∧ mg x = some (.ref f)
section
variable {P : Program} {w : World} {K : PySem.W.Frag} {mg : Str → Option Value} {base : Heap}
theorem Fn.mono {x : Str} {j k : Nat} {g : List D → Option D} (F : Fn P w K mg base x j g) (h : j ≤ k) : Fn P w K mg base x k g := by
  obtain ⟨f, fd, ps, a, b, c, d⟩ := F.ex
  exact ⟨f, fd, ps, a.mono h, b, c, d⟩
theorem Fn.imp {x : Str} {k : Nat} {g g' : List D → Option D} (F : Fn P w K mg base x k g) (h : ∀ ds d, g' ds = some d → g ds = some d) : Fn P w K mg base x k g' := by
  obtain ⟨f, fd, ps, a, b, c, d⟩ := F.ex
  exact ⟨f, fd, ps, a.imp fun vs H Q E ⟨ds, d, l, e, q⟩ => ⟨ds, d, l, h ds d e, q⟩, b, c, d⟩
end
section
variable {X : Cx} {e : Expr} {es : List Expr} {pos p : Pos} {fa : FA} {x : Str} {k : Nat} {g : List D → Option D}
theorem px_call (F : Fn X.prog X.w X.K X.mg X.base x k g) (hr : Room k X.A) (ha : PXA X (e :: es) fa) (hg : Gl X x := by rfl) (hdb : (x == ("__debug__" : Str)) = false := by decide)
    (he : starEach (e :: es) X.env = (false, eval e X.env) :: starEach es X.env := by rfl) (hpl : (backTo pos (starEach es X.env)).any (·.1) = false := by rfl) : PX X (.Call (.Name x p) (e :: es) [] pos) (fCall g fa) := by
  obtain ⟨f, fd, ps, F, b, kp, hm⟩ := F.ex
  refine PE.weak (pe_call F hr hg hm kp b .nil pass0 ha hdb he hpl) fun σ H Q ⟨ρ, d, rv, e, q⟩ => ?_
  unfold fCall at e
  cases e1 : fa ρ with
  | none => rw [e1] at e; cases e
  | some ds =>
    rw [e1] at e
    exact ⟨ρ, ds, rv, e1, fun vs H1 s1 l1 => ⟨ds, d, by rw [List.append_nil]; exact l1, e, fun v H2 s2 d2 => q v H2 (s1.trans s2) (d2.elder s1)⟩⟩
theorem px_call0 (F : Fn X.prog X.w X.K X.mg X.base x k g) (hr : Room k X.A) (hg : Gl X x := by rfl) (hdb : (x == ("__debug__" : Str)) = false := by decide) : PX X (.Call (.Name x p) [] [] pos) (fun _ => g []) := by
  obtain ⟨f, fd, ps, F, b, kp, hm⟩ := F.ex
  refine PE.weak (pe_call0 F hr hg hm kp b .nil pass0 hdb) fun σ H Q ⟨ρ, d, rv, e, q⟩ => ?_
  exact ⟨[], d, denL_nil, e, fun v H2 s2 d2 => q v H2 s2 d2⟩
end
section
variable {X : Cx} {a iter : Expr} {pos p p2 px : Pos} {f : FE} {fa : FA} {x : Str} {body : List Stmt} {b : FS}
theorem pxs_raise {e c : Option Expr} : PXS X (.Raise e c pos) (fun _ => none) := pxs_never
theorem pxs_forRi (i : Nat) (hN : X.N.Nodup) (hp : PassesOwn (model X.prog X.w) X.A X.env X.xe) (hc : X.calm = true) (hm : X.mg "range" = none) (ha : PXA X [a] fa) (hb : PXSs X body b) (hi : X.N[i]? = some x := by rfl) (hx : Loc X.env.scope x := by first | exact Or.inl rfl | exact Or.inr rfl) (hf : X.fn x = true ∨ X.env.scope.names.lookup x = some .local := by first | exact .inl rfl | exact .inr rfl)
    (hgl : Gl X "range" := by rfl) (hs : ∀ x, foldedSetIterable (.Call (.Name "range" p) [a] [] p2) X.env x = pure x := by intro _; rfl) (hst : starEach [a] X.env = [(false, eval a X.env)] := by rfl) :
    PXS X (.For (.Name x px) (.Call (.Name "range" p) [a] [] p2) body [] pos) (fForR fa (gfName i) b) := pxs_forR hp hc hm ha (pg_name hN hi hx hf) (pxg_name i) hb hgl hs hst
theorem pxs_fori (i : Nat) (hN : X.N.Nodup) (hp : PassesOwn (model X.prog X.w) X.A X.env X.xe) (hc : X.calm = true) (ha : PX X iter f) (hb : PXSs X body b) (hi : X.N[i]? = some x := by rfl) (hx : Loc X.env.scope x := by first | exact Or.inl rfl | exact Or.inr rfl) (hf : X.fn x = true ∨ X.env.scope.names.lookup x = some .local := by first | exact .inl rfl | exact .inr rfl)
    (hs : ∀ x, foldedSetIterable iter X.env x = pure x := by intro _; rfl) : PXS X (.For (.Name x px) iter body [] pos) (fFor f (gfName i) b) := pxs_for hp hc ha (pg_name hN hi hx hf) (pxg_name i) hb hs
theorem pxs_forT {es : List Expr} {is : List Nat} {k : Nat} (hN : X.N.Nodup) (hp : PassesOwn (model X.prog X.w) X.A X.env X.xe) (hc : X.calm = true) (tg : Tg X es is) (ha : PX X iter f) (hb : PXSs X body b) (hn : (assignEach es X.env).length = is.length := by rfl) (hst : (assignEach es X.env).findIdx? (·.1) = none := by rfl)
    (hs : ∀ x, foldedSetIterable iter X.env x = pure x := by intro _; rfl) : PXS X (.For (.Tuple es k px) iter body [] pos) (fFor f (gfTup is) b) := pxs_for hp hc ha (pg_names hc hN tg hn hst) (pxg_tup is) hb hs
end
/-- a body of n names run upon its arguments -/
def start0 (n : Nat) (ds : List D) : Ev := ds.map (fun d => some (frz d)) ++ List.replicate (n - ds.length) none
def runD (np n : Nat) (G : FS) : List D → Option D := fun ds => if ds.length = np then match G (start0 n ds) with
  | some (.rt d) => some d
  | some (.nx _) => some .non
  | _ => none else none
section
variable {P : Program} {w : World} {K : PySem.W.Frag} {mg : Str → Option Value} {base : Heap}
theorem rep_start {X : Cx} {ds : List D} {vs : List V} {n : Nat} {N : List Str} {H : Hp} (hH : X.H₀ = H) (hN : N.length = n) (l : DenL X.K Emp H ds vs) : Rep X [] (start0 n ds) (fun _ => none) (start N vs) H where
  same := by rw [hH]; exact Same.refl H
  len := by unfold start0 L2.start; simp [denL_length l, hN]
  slot := fun i d e => by
    unfold start0 at e
    by_cases hi : i < ds.length
    · rw [List.getElem?_append_left (by simpa using hi), List.getElem?_map] at e
      cases q : ds[i]? with
      | none => rw [q] at e; cases e
      | some d0 =>
        rw [q] at e; cases e
        obtain ⟨v, h1, h2⟩ := denL_get l q
        refine ⟨v, ?_, SlotOk.plain (den_mono (fun _ _ q _ => q) (fun _ z => z.elim) (fun b z => by obtain ⟨i, z⟩ := z; cases z) _ v (den_frz.mpr h2))⟩
        unfold L2.start
        rw [List.getElem?_append_left (by have := denL_length l; simp; omega), List.getElem?_map, h1]; rfl
    · rw [List.getElem?_append_right (by simpa using hi), List.getElem?_replicate] at e
      split at e <;> cases e
  inj := fun i j a e => by cases e
  lst := fun i a e => by cases e
  new := fun i a e => by cases e
  prot := fun p hp => by cases hp
/-- THE RULE of a def -/
theorem fn_mk {x : Str} {st : Stmt} {f : Addr} {fd : FuncData} {N ps : List Str} {k np n : Nat} {G : FS} (F : Fun K x x st f fd) (S : FnScope N ps (defScope st)) (B : Binds K fd ps []) (hm : mg x = some (.ref f)) (hp : ps.length = np) (hn : N.length = n)
    (body : ∀ (cdv : Value) (A : Around) (outer : List Env) (s : Shared) (H : Hp) (E : XK), Room k (A.deeper (envOfC x (defScope st) s.heap.objs.size f cdv)) →
      PXSs (cxOf CX0 P w K mg base N x (defScope st) f cdv A outer s H E).nox (defBody st) G) : Fn P w K mg base x (k + 1) (runD np n G) := by
  refine ⟨f, fd, ps, F.ok S (fun vs H Q E ⟨ds, d, l, e, q⟩ => ?_) (fun cdv A outer s H vs Q E hr ⟨ds, d, l, e, q⟩ => ⟨_, body cdv A outer s H E hr, ?_⟩), B, F.kp, hm⟩
  · unfold runD at e
    split at e
    · rename_i hl; rw [← denL_length l, hl, hp]
    · cases e
  · unfold runD at e
    split at e
    · rename_i hl
      cases e1 : G (start0 n ds) with
      | none => rw [e1] at e; cases e
      | some r =>
        rw [e1] at e
        refine ⟨[], _, _, r, rep_start rfl hn l, e1, ?_⟩
        cases r with
        | rt d' => cases e; exact fun v H' s' d1 => q v H' s' d1
        | nx ρ' => cases e; exact fun own' σ' H' rp' => q .non H' rp'.same (by show Den _ Emp _ _ _; rw [Den])
        | bk ρ' => cases e
        | ct ρ' => cases e
    · cases e
/-- the law's own promise -/
def spLaw (K : PySem.W.Frag) : Sp := fun vs H Q _ => ∃ (a : Addr) (ns : List Int), vs = [.ref a] ∧ ((∃ o, H a = some (.frz o (.lst (ns.map V.int)))) ∨ SqL K (fun _ => none) a (ns.map V.int)) ∧ ns.length ≤ 63 ∧ ∀ H', Q (.bl true) H'
theorem denL_ints {K : PySem.W.Frag} {O : Addr → Prop} {H : Hp} : ∀ ns : List Int, DenL K O H (ns.map D.int) (ns.map V.int)
  | [] => by rw [List.map_nil, List.map_nil]; exact denL_nil
  | n :: ns => by rw [List.map_cons, List.map_cons]; exact denL_cons (by rw [Den]) (denL_ints ns)
theorem law_mk {k : Nat} {g : List D → Option D} (F : Fn P w K mg base "law" k g) (h : ∀ ns : List Int, ns.length ≤ 63 → g [.scr (ns.map D.int)] = some (.bl true)) :
    ∃ (f : Addr) (fd : FuncData) (ps : List Str), FnOk P w K mg base CX0 k f fd ps (spLaw K) ∧ Binds K fd ps [] ∧ PySem.W.keepIn K (.ref f) = true ∧ mg "law" = some (.ref f) := by
  obtain ⟨f, fd, ps, F, b, kp, hm⟩ := F.ex
  refine ⟨f, fd, ps, F.imp fun vs H Q E ⟨a, ns, ev, hq, hl, q⟩ => ?_, b, kp, hm⟩
  refine ⟨[.scr (ns.map D.int)], .bl true, ?_, h ns hl, fun v H' s d => ?_⟩
  · rw [ev]
    refine denL_cons ?_ denL_nil
    rw [Den]
    exact ⟨a, _, rfl, hq, denL_ints ns⟩
  · have := den_bl.mp d.den
    rw [this]; exact q H'
end
end Tw

set_option Elab.async false
set_option linter.all false
set_option maxRecDepth 100000
set_option maxHeartbeats 1000000
namespace Tw
open PySem PySem.Spec PyProof.Rows L2
structure QX (X : Cx) (e : Expr) (f : FE) : Prop where
  to : PX X e f
structure QT (X : Cx) (e : Expr) (f : FT) : Prop where
  to : PXT X e f
structure QW (X : Cx) (e : Expr) (f : FT) : Prop where
  to : PXW X e f
structure QA (X : Cx) (e : List Expr) (f : FA) : Prop where
  to : PXA X e f
structure QO (X : Cx) (e : Option Expr) (f : FO) : Prop where
  to : PXO X e f
structure QS (X : Cx) (e : Stmt) (f : FS) : Prop where
  to : PXS X e f
structure QSs (X : Cx) (e : List Stmt) (f : FS) : Prop where
  to : PXSs X e f
section
variable {X : Cx} {a b c e : Expr} {pos : Pos} {f g h : FE}
theorem qx_name (i : Nat) {x : Str} (hN : X.N[i]? = some x := by rfl) (hv : Vis X.env.scope x := by first | exact Or.inl rfl | exact Or.inr (Or.inl rfl) | exact Or.inr (Or.inr rfl)) (hd : (x == ("__debug__" : Str)) = false := by decide) (hcd : (x == ("__classdict__" : Str)) = false := by decide) : QX X (.Name x pos) (fVar i) := ⟨px_name i hN hv hd hcd⟩
theorem qx_int {i : Int} {j : Nat} : QX X (.Constant (.int i) j pos) (fC (.int i)) := ⟨px_int ⟩
theorem qx_bl {i : Bool} {j : Nat} : QX X (.Constant (.bool i) j pos) (fC (.bl i)) := ⟨px_bl ⟩
theorem qx_non {j : Nat} : QX X (.Constant .none j pos) (fC .non) := ⟨px_non ⟩
theorem qx_str {i : Str} {j : Nat} : QX X (.Constant (.str i) j pos) (fC (.str i)) := ⟨px_str ⟩
theorem qx_sub (ha : QX X a f) (hb : QX X b g) : QX X (.BinOp a .Sub b pos) (fSub f g) := ⟨px_sub ha.to hb.to⟩
theorem qx_mul (ha : QX X a f) (hb : QX X b g) : QX X (.BinOp a .Mult b pos) (fMul f g) := ⟨px_mul ha.to hb.to⟩
theorem qx_div (ha : QX X a f) (hb : QX X b g) : QX X (.BinOp a .FloorDiv b pos) (fDiv f g) := ⟨px_div ha.to hb.to⟩
theorem qx_mod (ha : QX X a f) (hb : QX X b g) : QX X (.BinOp a .Mod b pos) (fMod f g) := ⟨px_mod ha.to hb.to⟩
theorem qx_pow (ha : QX X a f) (hb : QX X b g) : QX X (.BinOp a .Pow b pos) (fPow f g) := ⟨px_pow ha.to hb.to⟩
theorem qx_lt (ha : QX X a f) (hb : QX X b g) : QX X (.Compare a [.Lt] [b] pos) (fBin oLt f g) := ⟨px_lt ha.to hb.to⟩
theorem qx_le (ha : QX X a f) (hb : QX X b g) : QX X (.Compare a [.LtE] [b] pos) (fBin oLe f g) := ⟨px_le ha.to hb.to⟩
theorem qx_gt (ha : QX X a f) (hb : QX X b g) : QX X (.Compare a [.Gt] [b] pos) (fBin oGt f g) := ⟨px_gt ha.to hb.to⟩
theorem qx_ge (ha : QX X a f) (hb : QX X b g) : QX X (.Compare a [.GtE] [b] pos) (fBin oGe f g) := ⟨px_ge ha.to hb.to⟩
theorem qxt_lt (ha : QX X a f) (hb : QX X b g) : QT X (.Compare a [.Lt] [b] pos) (fTest (fBin oLt f g)) := ⟨pxt_lt ha.to hb.to⟩
theorem qxt_le (ha : QX X a f) (hb : QX X b g) : QT X (.Compare a [.LtE] [b] pos) (fTest (fBin oLe f g)) := ⟨pxt_le ha.to hb.to⟩
theorem qxt_gt (ha : QX X a f) (hb : QX X b g) : QT X (.Compare a [.Gt] [b] pos) (fTest (fBin oGt f g)) := ⟨pxt_gt ha.to hb.to⟩
theorem qxt_ge (ha : QX X a f) (hb : QX X b g) : QT X (.Compare a [.GtE] [b] pos) (fTest (fBin oGe f g)) := ⟨pxt_ge ha.to hb.to⟩
theorem qx_add (ha : QX X a f) (hb : QX X b g) : QX X (.BinOp a .Add b pos) (fBin oAdd f g) := ⟨px_add ha.to hb.to⟩
theorem qx_neg (ha : QX X a f) : QX X (.UnaryOp .USub a pos) (fNeg f) := ⟨px_neg ha.to⟩
end
section
variable {X : Cx} {a b c e : Expr} {es rest : List Expr} {pos : Pos} {f g h : FE} {t u : FT} {fa : FA}
theorem qxt_tru (ha : QX X a f) (he : ∀ whole, isTrue a X.env whole = (do let v ← whole; standAt a.pos; holding [v] (truthy v)) := by intro _; rfl) : QT X a (fTru f) := ⟨pxt_tru ha.to he⟩
theorem qxt_not (ha : QT X a t) : QT X (.UnaryOp .Not a pos) (fNot t) := ⟨pxt_not ha.to⟩
theorem qxw_and1 (ha : QT X a t) : QW X (.BoolOp .And [a] pos) t := ⟨pxw_and1 ha.to⟩
theorem qxw_or1 (ha : QT X a t) : QW X (.BoolOp .Or [a] pos) t := ⟨pxw_or1 ha.to⟩
theorem qxw_and (ha : QT X a t) (hb : QW X (.BoolOp .And (b :: rest) pos) u) : QW X (.BoolOp .And (a :: b :: rest) pos) (fAnd t u) := ⟨pxw_and ha.to hb.to⟩
theorem qxw_or (ha : QT X a t) (hb : QW X (.BoolOp .Or (b :: rest) pos) u) : QW X (.BoolOp .Or (a :: b :: rest) pos) (fOr t u) := ⟨pxw_or ha.to hb.to⟩
theorem qxt_of (ha : QW X a t) : QT X a t := ⟨pxt_of ha.to⟩
theorem qx_one {op} (ha : QX X a f) : QX X (.BoolOp op [a] pos) f := ⟨px_one ha.to⟩
theorem qx_and (ha : QX X a f) (hb : QX X (.BoolOp .And (b :: rest) pos) g) : QX X (.BoolOp .And (a :: b :: rest) pos) (fAndV f g) := ⟨px_and ha.to hb.to⟩
theorem qx_or (ha : QX X a f) (hb : QX X (.BoolOp .Or (b :: rest) pos) g) : QX X (.BoolOp .Or (a :: b :: rest) pos) (fOrV f g) := ⟨px_or ha.to hb.to⟩
theorem qx_not (ha : QX X a f) : QX X (.UnaryOp .Not a pos) (fNotV f) := ⟨px_not ha.to⟩
theorem qx_if (hc : QT X c t) (ha : QX X a f) (hb : QX X b g) : QX X (.IfExp c a b pos) (fIf t f g) := ⟨px_if hc.to ha.to hb.to⟩
theorem qxa_nil : QA X [] fNil := ⟨pxa_nil ⟩
theorem qxa_cons (ha : QX X e f) (hr : QA X es fa) (hs : starEach (e :: es) X.env = (false, eval e X.env) :: starEach es X.env := by rfl) : QA X (e :: es) (fCons f fa) := ⟨pxa_cons ha.to hr.to hs⟩
theorem qx_tup {k : Nat} (ha : QA X es fa) : QX X (.Tuple es k pos) (fTup fa) := ⟨px_tup ha.to⟩
theorem qx_lst (ha : QA X es fa) : QX X (.List es pos) (fLst fa) := ⟨px_lst ha.to⟩
theorem qx_ix (ha : QX X a f) (hb : QX X b g) (hs : PlainIx b := by intro _ _; rfl) : QX X (.Subscript a b pos) (fBin oIx f g) := ⟨px_ix ha.to hb.to hs⟩
theorem qxo_none : QO X none fO0 := ⟨pxo_none ⟩
theorem qxo_some (ha : QX X e f) : QO X (some e) (fO1 f) := ⟨pxo_some ha.to⟩
theorem qx_slice {lo hi : Option Expr} {fl fu : FO} {p2 : Pos} (ha : QX X a f) (hl : QO X lo fl) (hu : QO X hi fu) : QX X (.Subscript a (.Slice lo hi none p2) pos) (fSl f fl fu) := ⟨px_slice ha.to hl.to hu.to⟩
theorem qx_len {p : Pos} (hm : X.mg "len" = none) (ha : QA X [e] fa) (hg : Gl X "len" := by rfl) (he : starEach [e] X.env = (false, eval e X.env) :: starEach [] X.env := by rfl) : QX X (.Call (.Name "len" p) [e] [] pos) (fCall kLen fa) := ⟨px_len hm ha.to hg he⟩
theorem qx_abs {p : Pos} (hm : X.mg "abs" = none) (ha : QA X [e] fa) (hb : bootBuiltins "abs" = some (.builtin "abs") := by rfl) (hg : Gl X "abs" := by rfl) (he : starEach [e] X.env = (false, eval e X.env) :: starEach [] X.env := by rfl) : QX X (.Call (.Name "abs" p) [e] [] pos) (fCall kAbs fa) := ⟨px_abs hm ha.to hb hg he⟩
theorem qx_max {p : Pos} {e' : Expr} (hc : X.calm = true) (hm : X.mg "max" = none) (ha : QA X [e, e'] fa) (hb : bootBuiltins "max" = some (.builtin "max") := by rfl) (hg : Gl X "max" := by rfl) (he : starEach [e, e'] X.env = (false, eval e X.env) :: starEach [e'] X.env := by rfl) (hpl : (backTo pos (starEach [e'] X.env)).any (·.1) = false := by rfl) : QX X (.Call (.Name "max" p) [e, e'] [] pos) (fCall kMax fa) := ⟨px_max hc hm ha.to hb hg he hpl⟩
theorem qx_strI {p : Pos} (hm : X.mg "str" = none) (ha : QA X [e] fa) (hb : bootBuiltins "str" = some (.type "str") := by rfl) (hg : Gl X "str" := by rfl) (he : starEach [e] X.env = (false, eval e X.env) :: starEach [] X.env := by rfl) : QX X (.Call (.Name "str" p) [e] [] pos) (fCall kStr fa) := ⟨px_strI hm ha.to hb hg he⟩
end
section
variable {X : Cx} {a b c e : Expr} {es rest : List Expr} {pos : Pos} {f g h : FE} {t u : FT} {fa : FA}
theorem qx_bits {apos : Pos} (ha : QX X a f) (hbase : attributeBase a "bit_length" X.env (eval a X.env) = eval a X.env := by rfl) (hline : (apos.endLine == pos.line) = true := by rfl) : QX X (.Call (.Attribute a "bit_length" apos) [] [] pos) (fBits f) := ⟨px_bits ha.to hbase hline⟩
theorem qx_dic {pos : Pos} : QX X (.Dict [] [] pos) (fC .dic) := ⟨px_dic ⟩
theorem qx_isi {T : String} {x : Str} {p p2 : Pos} (hk : Kit X.K T) (hm : X.mg "isinstance" = none) (hmT : X.mg x = none) (ha : QX X e f) (hT : bootBuiltins x = some (.type T) := by rfl) (hb : bootBuiltins "isinstance" = some (.builtin "isinstance") := by rfl) (hg : Gl X "isinstance" := by rfl) (hgT : Gl X x := by rfl) (hn : x ≠ "__name__" := by decide) (hdb : (x == ("__debug__" : Str)) = false := by decide)
    (he : starEach [e, .Name x p2] X.env = (false, eval e X.env) :: starEach [.Name x p2] X.env := by rfl) (hpl : (backTo pos (starEach [.Name x p2] X.env)).any (·.1) = false := by rfl) (hs : starEach [.Name x p2] X.env = (false, eval (.Name x p2) X.env) :: starEach [] X.env := by rfl) : QX X (.Call (.Name "isinstance" p) [e, .Name x p2] [] pos) (fIsi T f) := ⟨px_isi hk hm hmT ha.to hT hb hg hgT hn hdb he hpl hs⟩
end
section
variable {X : Cx} {a b c e : Expr} {es rest : List Expr} {pos : Pos} {f g h : FE} {t u : FT} {fa : FA}
theorem qx_is (ha : QX X a f) (hb : QX X b g) : QX X (.Compare a [.Is] [b] pos) (fBin (oIs false) f g) := ⟨px_is ha.to hb.to⟩
theorem qx_isnot (ha : QX X a f) (hb : QX X b g) : QX X (.Compare a [.IsNot] [b] pos) (fBin (oIs true) f g) := ⟨px_isnot ha.to hb.to⟩
theorem qxt_is (ha : QX X a f) (hb : QX X b g) : QT X (.Compare a [.Is] [b] pos) (fTest (fBin (oIs false) f g)) := ⟨pxt_is ha.to hb.to⟩
theorem qxt_isnot (ha : QX X a f) (hb : QX X b g) : QT X (.Compare a [.IsNot] [b] pos) (fTest (fBin (oIs true) f g)) := ⟨pxt_isnot ha.to hb.to⟩
theorem qx_eq {k : Nat} (hr : Room k X.A) (ha : QX X a f) (hb : QX X b g) : QX X (.Compare a [.Eq] [b] pos) (fBin (oEqN false) f g) := ⟨px_eq hr ha.to hb.to⟩
theorem qx_ne {k : Nat} (hr : Room k X.A) (ha : QX X a f) (hb : QX X b g) : QX X (.Compare a [.NotEq] [b] pos) (fBin (oEqN true) f g) := ⟨px_ne hr ha.to hb.to⟩
theorem qxt_eq {k : Nat} (hr : Room k X.A) (ha : QX X a f) (hb : QX X b g) : QT X (.Compare a [.Eq] [b] pos) (fTest (fBin (oEqN false) f g)) := ⟨pxt_eq hr ha.to hb.to⟩
theorem qxt_ne {k : Nat} (hr : Room k X.A) (ha : QX X a f) (hb : QX X b g) : QT X (.Compare a [.NotEq] [b] pos) (fTest (fBin (oEqN true) f g)) := ⟨pxt_ne hr ha.to hb.to⟩
end
section
variable {X : Cx} {P : List (D × V)} {a b c e : Expr} {es : List Expr} {st : Stmt} {rest bd els : List Stmt} {pos : Pos} {f g : FE} {t : FT} {fa : FA} {F G : FS}
theorem qx_nil : QSs X [] (fun ρ => some (.nx ρ)) := ⟨px_nil ⟩
theorem qx_cons (h1 : QS X st F) (h2 : QSs X rest G) : QSs X (st :: rest) (fThen F G) := ⟨px_cons h1.to h2.to⟩
theorem qx_last (h1 : QS X st F) : QSs X [st] F := ⟨px_last h1.to⟩
theorem qxs_pass : QS X (.Pass pos) (fun ρ => some (.nx ρ)) := ⟨pxs_pass ⟩
theorem qxs_break : QS X (.Break pos) (fun ρ => some (.bk ρ)) := ⟨pxs_break ⟩
theorem qxs_cont : QS X (.Continue pos) (fun ρ => some (.ct ρ)) := ⟨pxs_cont ⟩
theorem qxs_doc {x j pos pos'} : QS X (.Expr (.Constant (.str x) j pos) pos') (fun ρ => some (.nx ρ)) := ⟨pxs_doc ⟩
theorem qxs_ret (ha : QX X e f) : QS X (.Return (some e) pos) (fRet f) := ⟨pxs_ret ha.to⟩
theorem qxs_retN (i : Nat) {x : Str} {p : Pos} (hN : X.N[i]? = some x := by rfl) (hv : Vis X.env.scope x := by first | exact Or.inl rfl | exact Or.inr (Or.inl rfl) | exact Or.inr (Or.inr rfl)) (hd : (x == ("__debug__" : Str)) = false := by decide) (hcd : (x == ("__classdict__" : Str)) = false := by decide) : QS X (.Return (some (.Name x p)) pos) (fRetN i) := ⟨pxs_retN i hN hv hd hcd⟩
theorem qxs_retNone : QS X (.Return none pos) (fun _ => some (.rt .non)) := ⟨pxs_retNone ⟩
theorem qxs_if (hc : QT X c t) (ha : QSs X bd F) (hb : QSs X els G) : QS X (.If c bd els pos) (fIfS t F G) := ⟨pxs_if hc.to ha.to hb.to⟩
theorem qxs_set (i : Nat) {x : Str} {pos' : Pos} (hN : X.N.Nodup) (ha : QX X e f) (hi : X.N[i]? = some x := by rfl) (hx : Loc X.env.scope x := by first | exact Or.inl rfl | exact Or.inr rfl) (hs : swapsWith e (some (.Name x pos')) pos.line X.env = pure false := by rfl) (hf : X.fn x = true ∨ X.env.scope.names.lookup x = some .local := by first | exact .inl rfl | exact .inr rfl) : QS X (.Assign [.Name x pos'] e pos) (fAsg i f) := ⟨pxs_set i hN ha.to hi hx hs hf⟩
theorem qxs_par (i j : Nat) {x y : Str} {px py pt : Pos} {kt k2 pt2} (hc : X.calm = true) (hN : X.N.Nodup) (ha : QA X [a, b] fa) (hw : swappedStores [.Tuple [.Name x px, .Name y py] kt pt] (.Tuple [a, b] k2 pt2) X.env = pure (some [x, y])) (hi : X.N[i]? = some x := by rfl) (hj : X.N[j]? = some y := by rfl) (hij : i ≠ j := by decide)
    (hx : X.env.scope.names.lookup x = some .local := by rfl) (hy : X.env.scope.names.lookup y = some .local := by rfl)
    (hs : swapsWithSole [.Tuple [.Name x px, .Name y py] kt pt] (.Tuple [a, b] k2 pt2) pos.line X.env = pure false := by rfl) : QS X (.Assign [.Tuple [.Name x px, .Name y py] kt pt] (.Tuple [a, b] k2 pt2) pos) (fPar i j fa) := ⟨pxs_par i j hc hN ha.to hw hi hj hij hx hy hs⟩
theorem qxs_unp {is : List Nat} {k : Nat} {p2 : Pos} (hc : X.calm = true) (hN : X.N.Nodup) (tg : Tg X es is) (ha : QX X e f) (hn : (assignEach es X.env).length = is.length := by rfl) (hst : (assignEach es X.env).findIdx? (·.1) = none := by rfl)
    (hs : swapsWithSole [.Tuple es k p2] e pos.line X.env = pure false := by rfl) (hw : swappedStores [.Tuple es k p2] e X.env = pure none := by rfl)
    (h1 : (assignEach [.Tuple es k p2] X.env).map (·.2) = [assign (.Tuple es k p2) X.env] := by rfl) : QS X (.Assign [.Tuple es k p2] e pos) (fUnp is f) := ⟨pxs_unp hc hN tg ha.to hn hst hs hw h1⟩
theorem qxs_app (i : Nat) {x : Str} {p apos cpos : Pos} (ha : QX X e f) (hN : X.N[i]? = some x := by rfl) (hv : Vis X.env.scope x := by first | exact Or.inl rfl | exact Or.inr (Or.inl rfl) | exact Or.inr (Or.inr rfl)) (hd : (x == ("__debug__" : Str)) = false := by decide) (hcd : (x == ("__classdict__" : Str)) = false := by decide)
    (hbase : attributeBase (.Name x p) "append" X.env (eval (.Name x p) X.env) = eval (.Name x p) X.env := by rfl)
    (hfew : ((backTo cpos (starEach [e] X.env)).all (fun x => !x.1) && (backToKw cpos (keywordEach [] X.env)).all (fun x => x.1.isSome) && decide (([e] : List Expr).length + ([] : List Keyword).length + (if ([] : List Keyword).isEmpty then 0 else 1) < 30)) = true := by rfl)
    (hline : (apos.endLine == cpos.line) = true := by rfl) (hs : starEach [e] X.env = (false, eval e X.env) :: starEach [] X.env := by rfl) (hsw : swapsWith (.Call (.Attribute (.Name x p) "append" apos) [e] [] cpos) none pos.line X.env = pure false := by rfl) : QS X (.Expr (.Call (.Attribute (.Name x p) "append" apos) [e] [] cpos) pos) (fApp i f) := ⟨pxs_app i ha.to hN hv hd hcd hbase hfew hline hs hsw⟩
theorem qxs_expr (ha : QX X e f) (hs : swapsWith e none pos.line X.env = pure false := by rfl) : QS X (.Expr e pos) (fDrop f) := ⟨pxs_expr ha.to hs⟩
theorem qxs_while {body : List Stmt} {b : FS} (hp : PassesOwn (model X.prog X.w) X.A X.env X.xe) (hc : QT X c t) (hb : QSs X body b) : QS X (.While c body [] pos) (whileV t b) := ⟨pxs_while hp hc.to hb.to⟩
end
section
variable {P : Program} {w : World} {K : PySem.W.Frag} {mg : Str → Option Value} {base : Heap}
end
section
variable {X : Cx} {e : Expr} {es : List Expr} {pos p : Pos} {fa : FA} {x : Str} {k : Nat} {g : List D → Option D}
theorem qx_call (F : Fn X.prog X.w X.K X.mg X.base x k g) (hr : Room k X.A) (ha : QA X (e :: es) fa) (hg : Gl X x := by rfl) (hdb : (x == ("__debug__" : Str)) = false := by decide)
    (he : starEach (e :: es) X.env = (false, eval e X.env) :: starEach es X.env := by rfl) (hpl : (backTo pos (starEach es X.env)).any (·.1) = false := by rfl) : QX X (.Call (.Name x p) (e :: es) [] pos) (fCall g fa) := ⟨px_call F hr ha.to hg hdb he hpl⟩
theorem qx_call0 (F : Fn X.prog X.w X.K X.mg X.base x k g) (hr : Room k X.A) (hg : Gl X x := by rfl) (hdb : (x == ("__debug__" : Str)) = false := by decide) : QX X (.Call (.Name x p) [] [] pos) (fun _ => g []) := ⟨px_call0 F hr hg hdb⟩
end
section
variable {X : Cx} {a iter : Expr} {pos p p2 px : Pos} {f : FE} {fa : FA} {x : Str} {body : List Stmt} {b : FS}
theorem qxs_raise {e c : Option Expr} : QS X (.Raise e c pos) (fun _ => none) := ⟨pxs_raise ⟩
theorem qxs_forRi (i : Nat) (hN : X.N.Nodup) (hp : PassesOwn (model X.prog X.w) X.A X.env X.xe) (hc : X.calm = true) (hm : X.mg "range" = none) (ha : QA X [a] fa) (hb : QSs X body b) (hi : X.N[i]? = some x := by rfl) (hx : Loc X.env.scope x := by first | exact Or.inl rfl | exact Or.inr rfl) (hf : X.fn x = true ∨ X.env.scope.names.lookup x = some .local := by first | exact .inl rfl | exact .inr rfl)
    (hgl : Gl X "range" := by rfl) (hs : ∀ x, foldedSetIterable (.Call (.Name "range" p) [a] [] p2) X.env x = pure x := by intro _; rfl) (hst : starEach [a] X.env = [(false, eval a X.env)] := by rfl) : QS X (.For (.Name x px) (.Call (.Name "range" p) [a] [] p2) body [] pos) (fForR fa (gfName i) b) := ⟨pxs_forRi i hN hp hc hm ha.to hb.to hi hx hf hgl hs hst⟩
theorem qxs_fori (i : Nat) (hN : X.N.Nodup) (hp : PassesOwn (model X.prog X.w) X.A X.env X.xe) (hc : X.calm = true) (ha : QX X iter f) (hb : QSs X body b) (hi : X.N[i]? = some x := by rfl) (hx : Loc X.env.scope x := by first | exact Or.inl rfl | exact Or.inr rfl) (hf : X.fn x = true ∨ X.env.scope.names.lookup x = some .local := by first | exact .inl rfl | exact .inr rfl)
    (hs : ∀ x, foldedSetIterable iter X.env x = pure x := by intro _; rfl) : QS X (.For (.Name x px) iter body [] pos) (fFor f (gfName i) b) := ⟨pxs_fori i hN hp hc ha.to hb.to hi hx hf hs⟩
theorem qxs_forT {es : List Expr} {is : List Nat} {k : Nat} (hN : X.N.Nodup) (hp : PassesOwn (model X.prog X.w) X.A X.env X.xe) (hc : X.calm = true) (tg : Tg X es is) (ha : QX X iter f) (hb : QSs X body b) (hn : (assignEach es X.env).length = is.length := by rfl) (hst : (assignEach es X.env).findIdx? (·.1) = none := by rfl)
    (hs : ∀ x, foldedSetIterable iter X.env x = pure x := by intro _; rfl) : QS X (.For (.Tuple es k px) iter body [] pos) (fFor f (gfTup is) b) := ⟨pxs_forT hN hp hc tg ha.to hb.to hn hst hs⟩
end
section
variable {P : Program} {w : World} {K : PySem.W.Frag} {mg : Str → Option Value} {base : Heap}
end
end Tw

set_option Elab.async false
set_option linter.all false
set_option maxRecDepth 100000
set_option maxHeartbeats 1000000
namespace Tw
open PySem L2
/-! ### loops of denotations -/
theorem loopF_inv {b : D → FS} (I : Nat → Ev → Prop) : ∀ (xs : List D) (n : Nat) (ρ : Ev), I n ρ → (∀ i x ρ, xs[i]? = some x → I (n + i) ρ → ∃ ρ', (b x ρ = some (.nx ρ') ∨ b x ρ = some (.ct ρ')) ∧ I (n + i + 1) ρ') → ∃ ρ', loopF b xs ρ = some (.nx ρ') ∧ I (n + xs.length) ρ'
  | [], n, ρ, h, _ => ⟨ρ, rfl, h⟩
  | x :: xs, n, ρ, h, st => by
    obtain ⟨ρ1, e1, h1⟩ := st 0 x ρ rfl h
    obtain ⟨ρ2, e2, h2⟩ := loopF_inv I xs (n + 1) ρ1 h1 (fun i y ρ hy hi => by
      have := st (i + 1) y ρ (by simpa using hy) (by rw [show n + (i + 1) = n + 1 + i by omega]; exact hi)
      rw [show n + (i + 1) + 1 = n + 1 + i + 1 by omega] at this; exact this)
    refine ⟨ρ2, ?_, by rw [List.length_cons, show n + (xs.length + 1) = n + 1 + xs.length by omega]; exact h2⟩
    rw [loopF]
    rcases e1 with e1 | e1 <;> rw [e1] <;> exact e2
theorem loopF_all {b : D → FS} (I : Ev → Prop) (xs : List D) (ρ : Ev) (h : I ρ) (st : ∀ x ρ, x ∈ xs → I ρ → ∃ ρ', b x ρ = some (.nx ρ') ∧ I ρ') : ∃ ρ', loopF b xs ρ = some (.nx ρ') ∧ I ρ' :=
  loopF_inv (fun _ => I) xs 0 ρ h fun i x ρ hx hi => let ⟨ρ', e, h'⟩ := st x ρ (List.mem_of_getElem? hx) hi; ⟨ρ', .inl e, h'⟩
theorem whileF_inv {c : FT} {b : FS} (I : Ev → Prop) (μ : Ev → Nat) (st : ∀ ρ, I ρ → c ρ = some false ∨ (c ρ = some true ∧ ∃ ρ', b ρ = some (.nx ρ') ∧ I ρ' ∧ μ ρ' < μ ρ)) : ∀ (n : Nat) (ρ : Ev), μ ρ ≤ n → I ρ → ∃ ρ', whileF c b (n + 1) ρ = some (.nx ρ') ∧ I ρ' ∧ c ρ' = some false
  | n, ρ, hn, h => by
    rcases st ρ h with e | ⟨e, ρ1, e1, h1, m1⟩
    · exact ⟨ρ, by rw [whileF, e]; rfl, h, e⟩
    · cases n with
      | zero => omega
      | succ n =>
        obtain ⟨ρ2, e2, h2, h3⟩ := whileF_inv I μ st n ρ1 (by omega) h1
        exact ⟨ρ2, by rw [whileF, e]; simp only [Option.bind_some, if_true]; rw [e1]; exact e2, h2, h3⟩
theorem whileV_inv {c : FT} {b : FS} (I : Ev → Prop) (μ : Ev → Nat) (ρ : Ev) (h : I ρ) (st : ∀ ρ, I ρ → c ρ = some false ∨ (c ρ = some true ∧ ∃ ρ', b ρ = some (.nx ρ') ∧ I ρ' ∧ μ ρ' < μ ρ)) : ∃ ρ', whileV c b ρ = some (.nx ρ') ∧ I ρ' ∧ c ρ' = some false := by
  obtain ⟨ρ', e, h'⟩ := whileF_inv I μ st (μ ρ) ρ (Nat.le_refl _) h
  exact ⟨ρ', whileV_of e, h'⟩
/-! ### the greatest common divisor -/
abbrev gcC : FT := fTest (fBin oGt (fVar 1) (fC (.int 0)))
abbrev gcB : FS := fPar 0 1 (fCons (fVar 1) (fCons (fMod (fVar 0) (fVar 1)) fNil))
theorem gcd_turn (m n : Nat) (h : 0 < n) : Nat.gcd m n = Nat.gcd n (m % n) := by
  rw [Nat.gcd_comm m n, Nat.gcd_rec n m, Nat.gcd_comm]
theorem gcd_loopF : ∀ (k m n : Nat), n ≤ k → whileF gcC gcB (k + 1) [some (.int (m : Nat)), some (.int (n : Nat))] = some (.nx [some (.int (Nat.gcd m n : Nat)), some (.int 0)])
  | k, m, n, h => by
    rw [whileF]
    by_cases z : n = 0
    · subst z
      simp [gcC, fTest, fBin, fVar, fC, oI0, frz]
    · have hp : (0 : Int) < (n : Int) := by omega
      cases k with
      | zero => omega
      | succ k =>
        have hm : m % n < n := Nat.mod_lt m (by omega)
        have ih := gcd_loopF k n (m % n) (by omega)
        rw [← gcd_turn m n (by omega)] at ih
        simp only [gcC, gcB, fTest, fBin, fVar, fC, oI0, oI, frz, fPar, fCons, fNil, lf, hp, List.getElem?_cons_zero, List.getElem?_cons_succ, Option.bind_some, Option.map_some, decide_true, if_true, and_self, List.set_cons_zero, List.set_cons_succ]
        rw [show ((m : Int) % (n : Int)) = ((m % n : Nat) : Int) from rfl]
        exact ih
theorem gcd_loop (a b : Int) (ha : 0 ≤ a) (hb : 0 ≤ b) : whileV gcC gcB [some (.int a), some (.int b)] = some (.nx [some (.int (Int.gcd a b : Nat)), some (.int 0)]) := by
  obtain ⟨m, rfl⟩ := Int.eq_ofNat_of_zero_le ha
  obtain ⟨n, rfl⟩ := Int.eq_ofNat_of_zero_le hb
  exact whileV_of (gcd_loopF n m n (Nat.le_refl n))
/-! ### sizes -/
def sml : Nat := 2 ^ 1000
theorem sml_sq : sml * sml ≤ big := by unfold sml big; rw [← Nat.pow_add]; exact Nat.pow_le_pow_right (by decide) (by decide)
theorem sml_big : sml ≤ big := by unfold sml big; exact Nat.pow_le_pow_right (by decide) (by decide)
theorem mOk_sml {a b : Int} (ha : a.natAbs < sml) (hb : b.natAbs < sml) : mOk a b := .inr (.inr ⟨Nat.lt_of_lt_of_le ha sml_big, Nat.lt_of_lt_of_le hb sml_big⟩)
theorem mul_big {a b : Int} (ha : a.natAbs < sml) (hb : b.natAbs < sml) : (a * b).natAbs < big := by
  rw [Int.natAbs_mul]
  exact Nat.lt_of_lt_of_le (Nat.mul_lt_mul'' ha hb) sml_sq
/-! ### a ratio of two numbers -/
def rT (t b : Int) : Int := (if b < 0 then -t else t) / (Int.gcd t b : Nat)
def rB (t b : Int) : Int := (if b < 0 then -b else b) / (Int.gcd t b : Nat)
theorem gcd_ok {t b : Int} (h : b ≠ 0) (hb : b.natAbs < big) : dOk ((Int.gcd t b : Nat) : Int) := by
  have hp : 0 < Int.gcd t b := Nat.pos_of_ne_zero (by rw [Int.gcd]; intro z; exact h (Int.natAbs_eq_zero.mp (Nat.gcd_eq_zero_iff.mp z).2))
  refine ⟨by omega, ?_⟩
  rw [Int.natAbs_natCast]
  refine Nat.lt_of_le_of_lt (Nat.le_of_dvd (by omega) ?_) hb
  exact Nat.gcd_dvd_right _ _
end Tw

set_option Elab.async false
set_option linter.all false
set_option maxRecDepth 100000
set_option maxHeartbeats 1000000
namespace Tw
open PySem PySem.Spec PyProof.Rows L2
/-! ### a law's walk over the first cells of its script and their count -/
abbrev cellsE (N : Int) : FE := fBin oAdd (fSl (fVar 0) fO0 (fO1 (fC (.int N)))) (fLst (fCons (fCall kLen (fCons (fVar 0) fNil)) fNil))
theorem lfL_ints : ∀ ns : List Int, lfL (ns.map D.int) = true
  | [] => by simp [lfL]
  | n :: ns => by rw [List.map_cons, lfL, lfL_ints ns]; rfl
theorem cutD_ints (ns : List Int) (lo hi : Option Int) : ∃ ms : List Int, cutD (ns.map D.int) lo hi = ms.map D.int ∧ ms.length ≤ ns.length := by
  refine ⟨(ns.drop (HT.sIx (ns.map D.int).length 0 lo)).take (HT.sIx (ns.map D.int).length (ns.map D.int).length hi - HT.sIx (ns.map D.int).length 0 lo), ?_, ?_⟩
  · unfold cutD; rw [List.map_take, List.map_drop]
  · rw [List.length_take, List.length_drop]; omega
theorem cells_run {n : Nat} {N : Int} {b : FS} (ns : List Int) (hl : ns.length ≤ 63)
    (st : ∀ (c : Int) (ρ : Ev), ρ.length = n → ∃ (ρ' : Ev) (c' : Option D), ρ'.length = n ∧ b (some (.scr (ns.map D.int)) :: some (.int c) :: ρ) = some (.nx (some (.scr (ns.map D.int)) :: c' :: ρ'))) :
    runD 1 (n + 2) (fThen (fFor (cellsE N) (gfName 1) b) (fRet (fC (.bl true)))) [.scr (ns.map D.int)] = some (.bl true) := by
  obtain ⟨ms, e1, e2⟩ := cutD_ints ns none (some N)
  obtain ⟨ρ', e, _⟩ := loopF_all (b := turnF (gfName 1) b) (fun ρ => ∃ (c' : Option D) (ρ' : Ev), ρ'.length = n ∧ ρ = some (.scr (ns.map D.int)) :: c' :: ρ') ((ms ++ [(ns.length : Int)]).map D.int) (start0 (n + 2) [.scr (ns.map D.int)])
    ⟨none, List.replicate n none, List.length_replicate, by simp [start0, frz, List.replicate_succ]⟩ (by
    rintro x ρ hx ⟨c', ρ', h, rfl⟩
    obtain ⟨c, _, rfl⟩ := List.mem_map.mp hx
    obtain ⟨ρ2, c2, h2, e2⟩ := st c ρ' h
    refine ⟨_, ?_, c2, ρ2, h2, rfl⟩
    simp only [turnF, gfName, frz, List.set_cons_succ, List.set_cons_zero, Option.bind_some]
    exact e2)
  have l1 : ms.length + 1 ≤ lim := by unfold lim; omega
  have ls := lfL_ints (ms ++ [(ns.length : Int)])
  rw [List.map_append] at ls e
  have f : fFor (cellsE N) (gfName 1) b (start0 (n + 2) [.scr (ns.map D.int)]) = some (.nx ρ') := by
    have z : start0 (n + 2) [.scr (ns.map D.int)] = some (.scr (ns.map D.int)) :: none :: List.replicate n none := by simp [start0, frz, List.replicate_succ]
    have ev : cellsE N (start0 (n + 2) [.scr (ns.map D.int)]) = some (.own (ms.map D.int ++ [D.int (ns.length : Int)])) := by
      rw [z]
      simp [cellsE, fBin, fSl, fVar, fO0, fO1, fC, slD, items, fLst, fCons, fCall, kLen, fNil, frz, e1, oAdd, oCat, asL, lim]
      omega
    unfold fFor
    rw [ev]
    simp only [Option.bind_some, walkD]
    rw [if_pos (by simpa using ls)]
    exact e
  unfold runD
  rw [if_pos (show [D.scr (ns.map D.int)].length = 1 from rfl)]
  unfold fThen
  rw [f]
  rfl
section
variable {P : Program} {w : World} {K : PySem.W.Frag} {mg : Str → Option Value} {base : Heap}
/-- the law's own def, by its body -/
theorem law_ok {st : Stmt} {f : Addr} {fd : FuncData} {N ps : List Str} {k np n : Nat} {G : FS} (F : Fun K "law" "law" st f fd) (S : FnScope N ps (defScope st)) (hp : ps.length = np) (hn : N.length = n)
    (body : ∀ (cdv : Value) (A : Around) (outer : List Env) (s : Shared) (H : Hp) (E : XK), Room k (A.deeper (envOfC "law" (defScope st) s.heap.objs.size f cdv)) →
      PXSs (cxOf CX0 P w K mg base N "law" (defScope st) f cdv A outer s H E).nox (defBody st) G)
    (h : ∀ ns : List Int, ns.length ≤ 63 → runD np n G [.scr (ns.map D.int)] = some (.bl true)) : FnOk P w K mg base CX0 (k + 1) f fd ps (spLaw K) := by
  refine F.ok S (fun vs H Q E ⟨a, ns, ev, hq, hl, q⟩ => ?_) (fun cdv A outer s H vs Q E hr ⟨a, ns, ev, hq, hl, q⟩ => ⟨_, body cdv A outer s H E hr, ?_⟩)
  · have e := h ns hl
    unfold runD at e
    split at e
    · rename_i hl'
      rw [ev, hp, ← hl']; rfl
    · cases e
  · have e := h ns hl
    unfold runD at e
    split at e
    · rename_i hl'
      cases e1 : G (start0 n [.scr (ns.map D.int)]) with
      | none => rw [e1] at e; cases e
      | some r =>
        rw [e1] at e
        have l : DenL K Emp H [.scr (ns.map D.int)] vs := by
          rw [ev]
          refine denL_cons ?_ denL_nil
          rw [Den]
          exact ⟨a, _, rfl, hq, denL_ints ns⟩
        refine ⟨[], _, _, r, rep_start rfl hn l, e1, ?_⟩
        cases r with
        | rt d' => cases e; exact fun v H' s' d1 => by have := den_bl.mp d1.den; rw [this]; exact q H'
        | nx ρ' => cases e
        | bk ρ' => cases e
        | ct ρ' => cases e
    · cases e
/-- from the law's def to the row's walk -/
theorem walk {l : PySem.W.OpenLaw} {q : Program} {loose : List Str} {XP : (Str → Option Value) → Heap → Prop} {YP : World → Heap → Prop} {d : DefRec} {K : Params → PySem.W.Frag} (hn : l.most = some 63) (hdf : d.params.defaults = [])
    (hY : ∀ (w : World) (h : Heap), YP w h → (K w.params).In h)
    (F : ∀ (w : World) (mg : Str → Option Value) (fa : Addr) (h : Heap), (K w.params).In h → h.Ns mainGlobals mg → mg d.name = some (.ref fa) →
      ∃ fd : FuncData, (∀ (s : Shared) (u : Value), BindsTo s fd ⟨[u], []⟩ [("script", u)]) ∧ ∀ base : Heap, (K w.params).In base → base.Ns mainGlobals mg → FnOk l.prog w (K w.params) mg base CX0 20 fa fd ["script"] (spLaw (K w.params))) :
    PySem.W.WalkO q loose XP YP l.row.toRowW d [] (fun f vs => PySem.call f vs) :=
  L2.walk_of (n := 63) (k := 20) (x := "script") (CX := fun _ => CX0) (sp := fun w => spLaw (K w.params)) hn (by decide) hdf ⟨rfl, by decide, by decide⟩ hY F (fun _ H a ns hl hO hS => ⟨a, ns, rfl, (by
    rcases hS with (hS | ⟨o, hS⟩) | hS
    · rcases hO a with z | ⟨o, ys, z⟩
      · rw [z] at hS; cases hS
      · rw [z] at hS; cases hS
    · exact .inl ⟨o, hS⟩
    · exact .inr (.inr hS)), hl, fun _ => rfl⟩) fun _ _ _ _ _ z => z
end
end Tw

set_option Elab.async false
set_option linter.all false
set_option maxRecDepth 100000
set_option maxHeartbeats 1000000
namespace Tw
open PySem PySem.Spec PyProof.Rows L2
/-! ### exceptions: how one flies through the frames -/
theorem objOk_ex {P : Program} {w : World} {H : Hp} {h : Heap} {a : Addr} {o : HO} (x : ObjOk P w H h a o) : ∃ ob, h.get? a = some ob := by
  cases o with
  | lst xs => obtain ⟨_, _, _, _, e⟩ := x; exact ⟨_, e⟩
  | tup xs => obtain ⟨_, _, _, _, e, _⟩ := x; exact ⟨_, e⟩
  | dK kvs => obtain ⟨_, _, _, _, o, _, _, e, _⟩ := x; exact ⟨_, e⟩
  | dT kvs => obtain ⟨_, _, _, _, o, _, _, e, _⟩ := x; exact ⟨_, e⟩
  | set S n => obtain ⟨o, _, _, _, e, _⟩ := x; exact ⟨_, e⟩
  | ins C dx fs => obtain ⟨_, _, _, e, _⟩ := x; exact ⟨_, e⟩
  | own y => obtain ⟨_, e⟩ := x; exact ⟨_, e⟩
  | xd fs => obtain ⟨_, ⟨_, _, _, e, _⟩, _⟩ := x; exact ⟨_, e⟩
  | rng lo hi => obtain ⟨_, _, _, e⟩ := x; exact ⟨_, e⟩
  | frz ob u => obtain ⟨e, _⟩ := x; exact ⟨_, e⟩
  | tbl ps => exact ⟨_, (show h.get? a = some _ from x)⟩
  | met f y => exact ⟨_, (show h.get? a = some _ from x)⟩
  | ext φ => obtain ⟨_, e, _⟩ := x; exact e
/-- an exception of the class at C, at x, flies through the frames l; H, s: ahead of the call -/
structure Fly (P : Program) (w : World) (l : List Env) (H : Hp) (s : Shared) (C x : Addr) (H' : Hp) (s' : Shared) : Prop where
  os : s'.os = s.os
  bare : AllBare s'.gens
  un : Un (frs l) [] H H' s.heap s'.heap
  hok : HOk P w H' s'.heap
  fly : ∃ B a0, Heap.FlyingW B l x (.ref C) a0 s'.heap ∧ ∀ b o, s'.heap.get? b = some o → b ∉ frs l → ((∃ o0, s.heap.get? b = some o0) ∨ H' b ≠ none) → B.get? b = some o
def CXE (P : Program) (w : World) : CXT := fun l H s E e s' => ∃ C x H', e = .ref x ∧ Fly P w l H s C x H' s' ∧ E e (some C) H'
section
variable {X : Cx} {pins : List (Addr × Obj)} {σ : L2.St} {H H' : Hp} {s s' : Shared} {h'' B : Heap} {x C : Addr} {a0 : Value}
/-- behind the frame -/
theorem fly_of (I : Inv X pins σ H' s') (hex : X.ex = []) (hsm : s'.heap.UpToSlots h'') (hfl : Heap.FlyingW B X.outer x (.ref C) a0 h'')
    (hB : ∀ b o, s'.heap.get? b = some o → b ∉ frs X.stack → ((∃ o0, X.s₀.heap.get? b = some o0) ∨ H' b ≠ none) → B.get? b = some o) :
    Fly X.prog X.w X.outer X.H₀ X.s₀ C x H' { s' with heap := h'' } := by
  have nex : ∀ b, b ∉ X.ex := fun b z => by rw [hex] at z; cases z
  have inB : ∀ b o, s'.heap.get? b = some o → b ∉ frs X.stack → ((∃ o0, X.s₀.heap.get? b = some o0) ∨ H' b ≠ none) → h''.get? b = some o := fun b o e hb hc => hfl.1 b o (hB b o e hb hc)
  have nl : ∀ b o, X.s₀.heap.get? b = some o → b ≠ X.env.locals := fun b o e => Nat.ne_of_lt (Nat.lt_of_lt_of_le (Heap.lt_size e) I.ok.above)
  have ns : ∀ b, b ≠ X.env.locals → b ∉ frs X.outer → b ∉ frs X.stack := fun b n hb z => (List.mem_cons.mp (I.stkSub b z)).elim n hb
  have sl : ∀ b o, s'.heap.get? b = some o → b ∈ frs X.outer → ∃ t, h''.get? b = some { o with slots := t } := fun b o e hb => by
    obtain ⟨o', e', nf⟩ := (I.funs.mem hb).2
    rw [e] at e'; cases e'
    exact hsm b o e nf
  refine ⟨I.os, I.bare, ⟨fun b o e n hb _ => inB b o (I.base.keep b o e n hb (nex b)) (ns b (nl b o e) hb) (.inl ⟨o, e⟩), fun b o e n hb _ => ?_, fun b o e n _ => I.base.free b o e n (nex b), fun b o e _ => ?_, I.base.tups, I.base.frzs, I.base.tbls⟩, fun b u q => ?_, B, a0, hfl, fun b o e hb hc => ?_⟩
  · obtain ⟨t, e1⟩ := I.base.slot b o e n hb (nex b)
    obtain ⟨t', e2⟩ := sl b _ e1 hb
    exact ⟨t', e2⟩
  · obtain ⟨o', e1⟩ := I.base.there b o e (nex b)
    by_cases hb : b ∈ frs X.outer
    · obtain ⟨t', e2⟩ := sl b _ e1 hb
      exact ⟨_, e2⟩
    · exact ⟨o', inB b o' e1 (ns b (nl b o e) hb) (.inl ⟨o, e⟩)⟩
  · refine (I.hok b u q).stay (fun c v hc e => ?_) (fun _ q => q) fun _ _ q => q
    have tr : H' c ≠ none := by
      rcases hc with z | z
      · rw [z, q]; exact fun z => nomatch z
      · rw [z]; exact fun z => nomatch z
    exact inB c v e (fun z => tr (I.stkFree c z)) (.inr tr)
  · have nlb : b ≠ X.env.locals := by
      rcases hc with ⟨o0, e0⟩ | z
      · exact nl b o0 e0
      · exact fun y => z (by rw [y]; exact I.free)
    have hb' := ns b nlb hb
    obtain ⟨o', e1⟩ : ∃ o', s'.heap.get? b = some o' := by
      rcases hc with ⟨o0, e0⟩ | z
      · exact I.base.there b o0 e0 (nex b)
      · cases q : H' b with
        | none => exact absurd q z
        | some u => exact objOk_ex (I.hok b u q)
    have e2 := hB b o' e1 hb' hc
    have e3 := hfl.1 b o' e2
    rw [show ({ s' with heap := h'' } : Shared).heap = h'' from rfl] at e
    rw [e3] at e; cases e
    exact e2
/-- behind a call that raised -/
theorem Fly.inv (I : Inv X pins σ H s) (F : Fly X.prog X.w X.stack H s C x H' s') : Inv X pins σ H' s' := by
  obtain ⟨hh, g, d, t, os'⟩ := s'
  obtain rfl : os' = s.os := F.os
  exact I.call (h' := hh) (g' := g) (d' := d) (t' := t) (ch := []) F.un F.hok F.bare (fun b z => absurd z (by simp))
/-- an exception made in this frame, or come from a call: it is in hand -/
def Thr (X : Cx) (C : Addr) (v : Value) (s' : Shared) : Prop := ∃ pins σ x H1 s1, v = .ref x ∧ Inv X pins σ H1 s1 ∧ Same X.H₀ H1 ∧
  ((∃ h' args, Heap.MadeExcOf s1.heap h' x (.ref C) args ∧ s' = { s1 with heap := h' }) ∨ ∃ H', Same H1 H' ∧ Fly X.prog X.w X.stack H1 s1 C x H' s')
theorem thr_leave {M : Model} {E : Value → Shared → Prop} {Q : Unit → Shared → Prop} {v : Value} (T : Thr X C v s') (hst : X.stack = X.env :: X.outer) (hf : X.env.frame = some X.env.locals) (hex : X.ex = [])
    (hQ : ∀ x H' s'', v = .ref x → Same X.H₀ H' → Fly X.prog X.w X.outer X.H₀ X.s₀ C x H' s'' → Q () s'') : wpAny M X.A (leaving X.env v) Q E s' := by
  obtain ⟨pins, σ, x, H1, s1, rfl, I, sm, h⟩ := T
  have fr : X.A.frames = some (X.env :: X.outer) := by rw [I.ok.frames, hst]
  rcases h with ⟨h', args, hx, rfl⟩ | ⟨H', sm', F⟩
  · refine wpAny_leaves_madeW (base := PySem.W.hideAll s1.heap (frs X.stack)) (h := s1.heap) fr hf (fun b o q => PySem.W.of_hideAll _ q) ?_ hx fun h'' t x1 x2 x3 x4 => ?_
    · rw [← hst]
      exact PySem.W.funFrames_hide I.stack fun env he a ha => List.mem_filterMap.mpr ⟨env, he, ha⟩
    · have F := fly_of (X := X) (h'' := h'') (s' := s1) I hex ((Heap.UpToSlots.of_keeps hx.keeps).trans x4) x1 (fun b o e hb _ => PySem.W.hideAll_get _ e hb)
      exact hQ x H1 _ rfl sm F
  · obtain ⟨B, a0, hfl, hB⟩ := F.fly
    have I' := F.inv I
    refine wpAny_leaves_onW fr hf (by rw [← hst]; exact hfl) fun h'' hfl'' hsm => ?_
    have G := fly_of (X := X) (h'' := h'') (s' := s') I' hex hsm hfl'' (fun b o e hb hc => hB b o e hb (hc.imp (fun ⟨o0, e0⟩ => I.base.there b o0 e0 (fun z => by rw [hex] at z; cases z)) id))
    exact hQ x H' _ rfl (sm.trans sm') G
end
end Tw

set_option Elab.async false
set_option linter.all false
set_option maxRecDepth 100000
set_option maxHeartbeats 1000000
namespace Tw
open PySem PySem.Spec PyProof.Rows L2
/-! ### raising -/
abbrev bmV : List Value := [.type "ValueError", .type "Exception", .type "BaseException", .type "object"]
abbrev nwV : String := "ValueError.__new__"
theorem exc_obj {K : PySem.W.Frag} {h : Heap} {C : Addr} {bmB : List Value} {newId : String} (X : K.In h) (q : PySem.W.excIn K C bmB newId = true) :
    ∃ bm N nm qn bs hd sn sub ab col dd k0 k1 k2 k3 k5 mN, h.get? C = some (excClassObj nm qn C N bs bm hd sn sub ab col dd k0 k1 k2 k3 k5 newId) ∧ h.Ns N mN ∧ mN "__init__" = none ∧ OwnTail h bmB bm := by
  unfold PySem.W.excIn at q
  split at q
  · rename_i dd cd sl ho
    split at q
    · rename_i C' bm k0 k1 k2 k3 n k5 hm hs
      simp only [Bool.and_eq_true, beq_iff_eq, Bool.not_eq_true'] at q
      obtain ⟨⟨⟨⟨⟨rfl, rfl⟩, hdel⟩, ht⟩, hok⟩, hni⟩ := q
      obtain ⟨nm, bs, mro, ns, qn, hd, sn, sub, ab, col, del⟩ := cd
      dsimp only at hm hdel hok hni
      subst hm hdel
      have hsl : sl = #[k0, k1, k2, k3, some (.builtin n), k5] := by
        obtain ⟨l⟩ := sl
        simp only at hs
        rw [hs]
      subst hsl
      exact ⟨bm, ns, nm, qn, bs, hd, sn, sub, ab, col, dd, k0, k1, k2, k3, k5, _, X _ _ ho, .of_isNs (PySem.W.isNs_of_in X hok), PySem.W.nsMap_none_of_in X hok hni, PySem.W.tail_of_in X ht⟩
    · cases q
  · cases q
abbrev FR := Ev → Option Addr
theorem Rep.wish {X : Cx} {P : List (D × V)} {ρ : Ev} {own : Nat → Option Addr} {σ : L2.St} {H : Hp} (r : Rep X P ρ own σ H) (E : Value → Shared → Prop) : Rep (X.wish E) P ρ own σ H := ⟨r.same, r.len, r.slot, r.inj, r.lst, r.new, r.prot⟩
theorem Rep.unwish {X : Cx} {E : Value → Shared → Prop} {P : List (D × V)} {ρ : Ev} {own : Nat → Option Addr} {σ : L2.St} {H : Hp} (r : Rep (X.wish E) P ρ own σ H) : Rep X P ρ own σ H := ⟨r.same, r.len, r.slot, r.inj, r.lst, r.new, r.prot⟩
/-- the statement raises -/
structure PR (X : Cx) (st : Stmt) (r : FR) : Prop where
  to : ∀ (pins : List (Addr × Obj)) (s : Shared) (σ : L2.St) (H : Hp) (P : List (D × V)) (own : Nat → Option Addr) (ρ : Ev) (C : Addr), Inv X pins σ H s → Rep X P ρ own σ H → r ρ = some C →
    wpAny (model X.prog X.w) X.A (exec st X.env) (fun _ _ => False) (Thr X C) s
structure PRs (X : Cx) (st : List Stmt) (r : FR) : Prop where
  to : ∀ (pins : List (Addr × Obj)) (s : Shared) (σ : L2.St) (H : Hp) (P : List (D × V)) (own : Nat → Option Addr) (ρ : Ev) (C : Addr), Inv X pins σ H s → Rep X P ρ own σ H → r ρ = some C →
    wpAny (model X.prog X.w) X.A (execs st X.env) (fun _ _ => False) (Thr X C) s
/-- the expression raises -/
structure PRe (X : Cx) (e : Expr) (r : FR) : Prop where
  to : ∀ (pins : List (Addr × Obj)) (s : Shared) (σ : L2.St) (H : Hp) (ρ : Ev) (C : Addr), Inv X pins σ H s → RepV X.K ρ σ H → r ρ = some C →
    wpAny (model X.prog X.w) X.A (eval e X.env) (fun _ _ => False) (fun v s' => ∃ x H1 s1 H', v = .ref x ∧ Inv X pins σ H1 s1 ∧ Same H H1 ∧ Same H1 H' ∧ Fly X.prog X.w X.stack H1 s1 C x H' s') s
def spR (K : PySem.W.Frag) (gx : List D → Option Addr) : Sp := fun vs H _ E => ∃ ds C, DenL K Emp H ds vs ∧ gx ds = some C ∧ ∀ v H', Same H H' → E v (some C) H'
structure FnR (P : Program) (w : World) (K : PySem.W.Frag) (mg : Str → Option Value) (base : Heap) (x : Str) (k : Nat) (gx : List D → Option Addr) : Prop where
  ex : ∃ (f : Addr) (fd : FuncData) (ps : List Str), FnOk P w K mg base (CXE P w) k f fd ps (spR K gx) ∧ Binds K fd ps [] ∧ PySem.W.keepIn K (.ref f) = true ∧ mg x = some (.ref f)
theorem FnR.mono {P : Program} {w : World} {K : PySem.W.Frag} {mg : Str → Option Value} {base : Heap} {x : Str} {j k : Nat} {g : List D → Option Addr} (F : FnR P w K mg base x j g) (h : j ≤ k) : FnR P w K mg base x k g := by
  obtain ⟨f, fd, ps, a, b, c, d⟩ := F.ex
  exact ⟨f, fd, ps, a.mono h, b, c, d⟩
section
variable {X : Cx} {e : Expr} {es : List Expr} {pos p np cpos : Pos} {fa : FA} {x : Str} {k : Nat} {C : Addr} {st : Stmt} {rest bd els : List Stmt} {F : FS} {r r1 r2 : FR} {t : FT} {c : Expr}
def fRaise (C : Addr) (fa : FA) : FR := fun ρ => (fa ρ).bind fun ds => if ds.length ≤ lim then some C else none
theorem pr_raise (hc : X.calm = true) (ex : X.mg x = some (.ref C)) (q : PySem.W.excIn X.K C bmV nwV = true) (ha : QA X.nox (e :: es) fa) (hg : Gl X x := by rfl) (hdb : (x == ("__debug__" : Str)) = false := by decide)
    (he : starEach (e :: es) X.env = (false, eval e X.env) :: starEach es X.env := by rfl) (hpl : (backTo cpos (starEach es X.env)).any (·.1) = false := by rfl) :
    PR X (.Raise (some (.Call (.Name x np) (e :: es) [] cpos)) none pos) (fRaise C fa) := by
  refine ⟨fun pins s σ H P own ρ C' I rp hr => ?_⟩
  unfold fRaise at hr
  cases e1 : fa ρ with
  | none => rw [e1] at hr; cases hr
  | some ds =>
    rw [e1] at hr
    simp only [Option.bind_some] at hr
    split at hr
    · rename_i hl
      cases hr
      obtain ⟨bm, N, nm, qn, bs, hd, sn, sub, ab, col, dd, k0, k1, k2, k3, k5, mN, hC, hN, hni, T⟩ := exc_obj I.ok.mod.kin q
      refine wpAny_Raise_call_subT (C := C) (nm := nm) (q := qn) (N := N) (bs := bs) (bm := bm) (hdct := hd) (sn := sn) (sub := sub) (ab := ab) (col := col) (dd := dd) (k0 := k0) (k1 := k1) (k2 := k2) (k3 := k3) (k5 := k5)
        PySem.F.excBase_ValueError (mN := mN) (T.hasType PySem.F.excBase_ValueError.hasBase) (I.ok.hd hc) (by rw [he]; show (false || (backTo cpos (starEach es X.env)).any (·.1)) = false; rw [hpl]; rfl) hni (ld_glob I hg ex ⟨rfl, ?_⟩ hdb)
      have h2 := ha.to cpos pins s σ H (fun vs H1 => vs.length ≤ sizeLine ∧ Same H H1) (I.wish _) ⟨ρ, ds, rp.view, e1, fun vs H1 s1 l1 => ⟨by rw [← denL_length l1]; exact Nat.le_trans hl lim_line, s1⟩⟩
      rw [he]
      rw [show X.nox.env = X.env from rfl, he] at h2
      refine Calls.evalArgs_plain (wpAny_mono h2 (fun us s2 ⟨vs, H2, I2, rel, hl2, sm⟩ => ⟨rfl, by rw [← rel.length]; exact hl2, I2.bk _ _ hC, hN.keeps I2.bk, T.keeps I2.bk, fun h' x hm => ?_⟩) fun _ _ z => z.elim)
      exact ⟨pins, σ, x, H2, s2, rfl, I2.unwish, rp.same.trans sm, .inl ⟨h', us, hm, rfl⟩⟩
    · cases hr
theorem prs_nil : PRs X [] (fun _ => none) := ⟨fun _ _ _ _ _ _ _ _ _ _ z => nomatch z⟩
def fRN (F : FS) (r : FR) : FR := fun ρ => (F ρ).bind fun q => match q with | .nx ρ' => r ρ' | _ => none
theorem prs_norm (h1 : QS X.nox st F) (h2 : PRs X rest r) : PRs X (st :: rest) (fRN F r) := by
  refine ⟨fun pins s σ H P own ρ C I rp hr => ?_⟩
  unfold fRN at hr
  cases e1 : F ρ with
  | none => rw [e1] at hr; cases hr
  | some q =>
    rw [e1] at hr
    simp only [Option.bind_some] at hr
    cases q with
    | nx ρ' =>
      have h := h1.to pins s σ H { nx := fun σ' H' => ∃ own', Rep X P ρ' own' σ' H', rt := fun _ _ => False } (I.wish _) ⟨P, own, ρ, .nx ρ', rp.wish _, e1, fun own' σ' H' rp' => ⟨own', rp'.unwish⟩⟩
      refine wpAny_execs_cons (wpAny_mono h (fun f s1 q => ?_) fun _ _ z => z.elim)
      cases f with
      | next => obtain ⟨σ', H', I', own', rp'⟩ := q; exact h2.to pins s1 σ' H' P own' ρ' C I'.unwish rp' hr
      | ret v => obtain ⟨_, _, _, _, _, z⟩ := q; exact z.elim
      | brk => obtain ⟨_, _, _, z⟩ := q; exact z.elim
      | cont => obtain ⟨_, _, _, z⟩ := q; exact z.elim
    | bk ρ' => cases hr
    | ct ρ' => cases hr
    | rt d => cases hr
theorem prs_here (h1 : PR X st r) : PRs X (st :: rest) r :=
  ⟨fun pins s σ H P own ρ C I rp hr => wpAny_execs_cons (wpAny_mono (h1.to pins s σ H P own ρ C I rp hr) (fun _ _ z => z.elim) fun _ _ z => z)⟩
def fRIf (t : FT) (r1 r2 : FR) : FR := fun ρ => (t ρ).bind fun k => if k = true then r1 ρ else r2 ρ
theorem pr_if (hc : QT X.nox c t) (ha : PRs X bd r1) (hb : PRs X els r2) : PR X (.If c bd els pos) (fRIf t r1 r2) := by
  refine ⟨fun pins s σ H P own ρ C I rp hr => ?_⟩
  unfold fRIf at hr
  cases e1 : t ρ with
  | none => rw [e1] at hr; cases hr
  | some k =>
    rw [e1] at hr
    simp only [Option.bind_some] at hr
    have h := hc.to pins s σ H (fun b H1 => b = k ∧ Same H H1) (I.wish _) ⟨ρ, k, rp.view, e1, fun H1 s1 => ⟨rfl, s1⟩⟩
    refine wpAny_If (wpAny_mono h (fun b s1 ⟨H1, I1, hb', s1'⟩ => ?_) fun _ _ z => z.elim)
    subst hb'
    cases b with
    | true => exact ha.to pins s1 σ H1 P own ρ C I1.unwish (rp.grow s1') hr
    | false => exact hb.to pins s1 σ H1 P own ρ C I1.unwish (rp.grow s1') hr
theorem pr_ret (h : PRe X e r) : PR X (.Return (some e) pos) r := by
  refine ⟨fun pins s σ H P own ρ C I rp hr => ?_⟩
  refine wpAny_Return_some (wpAny_mono (h.to pins s σ H ρ C I rp.view hr) (fun _ _ z => z.elim) fun v s' ⟨x, H1, s1, H', ev, I1, s1', s2, F⟩ => ?_)
  exact ⟨pins, σ, x, H1, s1, ev, I1, rp.same.trans s1', .inr ⟨H', s2, F⟩⟩
theorem pr_expr (h : PRe X e r) (hs : swapsWith e none pos.line X.env = pure false := by rfl) : PR X (.Expr e pos) r := by
  refine ⟨fun pins s σ H P own ρ C I rp hr => ?_⟩
  refine wpAny_Expr_any (wpAny_mono (h.to pins s σ H ρ C I rp.view hr) (fun _ _ z => z.elim) fun v s' ⟨x, H1, s1, H', ev, I1, s1', s2, F⟩ => ?_) I.quiet hs
  exact ⟨pins, σ, x, H1, s1, ev, I1, rp.same.trans s1', .inr ⟨H', s2, F⟩⟩
def fRCall (gx : List D → Option Addr) (fa : FA) : FR := fun ρ => (fa ρ).bind gx
theorem pre_call {gx : List D → Option Addr} (F : FnR X.prog X.w X.K X.mg X.base x k gx) (hr : Room k X.A) (ha : QA X.nox (e :: es) fa) (hg : Gl X x := by rfl) (hdb : (x == ("__debug__" : Str)) = false := by decide)
    (he : starEach (e :: es) X.env = (false, eval e X.env) :: starEach es X.env := by rfl) (hpl : (backTo pos (starEach es X.env)).any (·.1) = false := by rfl) : PRe X (.Call (.Name x p) (e :: es) [] pos) (fRCall gx fa) := by
  refine ⟨fun pins s σ H ρ C I rv hc => ?_⟩
  unfold fRCall at hc
  cases e1 : fa ρ with
  | none => rw [e1] at hc; cases hc
  | some ds =>
    rw [e1] at hc
    simp only [Option.bind_some] at hc
    obtain ⟨f, fd, ps, F, b, kp, hm⟩ := F.ex
    have h := ha.to pos pins s σ H (fun vs H1 => Same H H1 ∧ DenL X.K Emp H1 ds vs) (I.wish _) ⟨ρ, ds, rv, e1, fun vs H1 s1 l1 => ⟨s1, l1⟩⟩
    refine wpAny_Call_Name_kw (ld_glob I hg hm ?_ hdb)
    refine PySem.W.callWith_K (h₀ := X.base) I.ok.mod.kin kp (wpAny_mono h (fun us s1 ⟨vs, H1, I1, rel, s1', l1⟩ => ⟨I1.kIn, ?_⟩) fun _ _ z => z.elim) he hpl
    have I2 := I1.unwish
    have sp : spR X.K gx vs H1 (fun _ _ => False) (fun v oc H' => oc = some C ∧ Same H1 H') := ⟨ds, C, l1, hc, fun v H' s2 => ⟨rfl, s2⟩⟩
    have hl : us.length = ps.length := by rw [← rel.length]; exact F.len _ _ _ _ sp
    have bb := b s1 us I2.kIn (by rw [List.append_nil]; exact hl)
    rw [List.append_nil] at bb
    refine wpAny_call (codeAny_mono (F.run X.A X.stack s1 H1 ⟨us, []⟩ us vs _ _ hr I2.env0 bb rel sp) fun r s' hq => ?_)
    cases r with
    | error v =>
      obtain ⟨C', x', H', ev, fl, ec, s2⟩ := hq
      cases ec
      exact ⟨x', H1, s1, H', ev, I2, s1', s2, fl⟩
    | ok fl =>
      cases fl with
      | ret u => obtain ⟨_, _, _, _, _, _, _, z⟩ := hq; exact z.elim
      | next => exact False.elim hq
      | brk => exact False.elim hq
      | cont => exact False.elim hq
end
section
variable {P : Program} {w : World} {K : PySem.W.Frag} {mg : Str → Option Value} {base : Heap}
def runR (np n : Nat) (r : FR) : List D → Option Addr := fun ds => if ds.length = np then r (start0 n ds) else none
/-- THE RULE of a def that raises -/
theorem fnR_mk {x : Str} {st : Stmt} {f : Addr} {fd : FuncData} {N ps : List Str} {k np n : Nat} {r : FR} (F : Fun K x x st f fd) (S : FnScope N ps (defScope st)) (B : Binds K fd ps []) (hm : mg x = some (.ref f)) (hp : ps.length = np) (hn : N.length = n)
    (body : ∀ (cdv : Value) (A : Around) (outer : List Env) (s : Shared) (H : Hp) (E : XK), Room k (A.deeper (envOfC x (defScope st) s.heap.objs.size f cdv)) →
      PRs (cxOf (CXE P w) P w K mg base N x (defScope st) f cdv A outer s H E) (defBody st) r) : FnR P w K mg base x (k + 1) (runR np n r) := by
  refine ⟨f, fd, ps, ?_, B, F.kp, hm⟩
  obtain ⟨oc, od, kV, doc, pm, an, cdv, ct, osl, rfl, lk, hcd⟩ := F.ex
  refine fn_of lk hcd S (fun vs H Q E ⟨ds, C, l, e, q⟩ => ?_) fun A outer s H vs Q E hr ⟨ds, C, l, e, q⟩ => ?_
  · unfold runR at e
    split at e
    · rename_i hl; rw [← denL_length l, hl, hp]
    · cases e
  · unfold runR at e
    split at e
    · rename_i hl
      refine ⟨fun _ σ H1 => σ = start N vs ∧ H1 = H, fun pins s1 σ H1 D I hq => ?_, rfl, rfl⟩
      obtain ⟨rfl, rfl⟩ := hq
      have h := (body cdv A outer s _ E hr).to pins s1 _ _ [] _ _ C I (rep_start rfl hn l) e
      refine wpAny_mono h (fun _ _ z => z.elim) fun v s' T => ?_
      exact thr_leave T rfl rfl rfl fun x H' s'' ev sm G => ⟨C, x, H', ev, G, q v H' sm⟩
    · cases e
end
end Tw

set_option Elab.async false
set_option linter.all false
set_option maxRecDepth 100000
set_option maxHeartbeats 1000000
namespace Tw
open PySem PySem.Spec PyProof.Rows L2
/-! ### try .. except .. as -/
/-- within an except suite -/
abbrev inx (X : Cx) (v : Value) : Cx := { X with A := X.A.mark (some v), calm := false, xe := fun _ _ => False }
section
variable {X : Cx} {pins : List (Addr × Obj)} {σ : L2.St} {H H1 H' : Hp} {s s1 s' : Shared} {h5 B : Heap} {x C : Addr} {a0 v : Value} {P : List (D × V)} {ρ : Ev} {own : Nat → Option Addr}
theorem ok_inx (ok : X.Ok) : (inx X v).Ok :=
  ⟨ok.mod, ok.kind, ok.glob, ok.blt, ok.above, ok.inj, ok.has, ok.cab, (fun z => nomatch z), ok.frames, ok.stk, ok.exf, ok.bs, ok.bsz, ok.noex, ok.exfs, ok.funs, ok.frf⟩
theorem inv_inx (I : Inv X pins σ H s) : Inv (inx X v) pins σ H s := ⟨ok_inx I.ok, I.os, I.bare, I.base, I.loc, I.cell, I.free, I.freeC, I.pin, I.hok, I.len⟩
theorem inv_un (ok : X.Ok) (I : Inv (inx X v) pins σ H s) : Inv X pins σ H s := ⟨ok, I.os, I.bare, I.base, I.loc, I.cell, I.free, I.freeC, I.pin, I.hok, I.len⟩
theorem rep_inx (r : Rep X P ρ own σ H) : Rep (inx X v) P ρ own σ H := ⟨r.same, r.len, r.slot, r.inj, r.lst, r.new, r.prot⟩
theorem rep_un (r : Rep (inx X v) P ρ own σ H) : Rep X P ρ own σ H := ⟨r.same, r.len, r.slot, r.inj, r.lst, r.new, r.prot⟩
/-- the exception has come down in this frame -/
theorem inv_land (I1 : Inv X pins σ H1 s1) (I : Inv X pins σ H' s') (hst : X.stack = X.env :: X.outer) (hf : X.env.frame = some X.env.locals) (hex : X.ex = [])
    (hB : ∀ b o, s'.heap.get? b = some o → b ∉ frs X.stack → ((∃ o0, s1.heap.get? b = some o0) ∨ H' b ≠ none) → B.get? b = some o) (st : B.StaysIn h5) (sm : s'.heap.UpToSlots h5) : Inv X pins σ H' { s' with heap := h5 } := by
  have nex : ∀ b, b ∉ X.ex := fun b z => by rw [hex] at z; cases z
  have inB : ∀ b o, s'.heap.get? b = some o → b ∉ frs X.stack → ((∃ o0, s1.heap.get? b = some o0) ∨ H' b ≠ none) → h5.get? b = some o := fun b o e hb hc => st b o (hB b o e hb hc)
  have nl : ∀ b o, X.s₀.heap.get? b = some o → b ≠ X.env.locals := fun b o e => Nat.ne_of_lt (Nat.lt_of_lt_of_le (Heap.lt_size e) I.ok.above)
  have ns : ∀ b, b ≠ X.env.locals → b ∉ frs X.outer → b ∉ frs X.stack := fun b n hb z => (List.mem_cons.mp (I.stkSub b z)).elim n hb
  have sub : ∀ b, b ∈ frs X.outer → b ∈ frs X.stack := fun b hb => by rw [hst]; unfold frs at hb ⊢; rw [List.filterMap_cons, hf]; exact List.mem_cons_of_mem _ hb
  have sl : ∀ b o, s'.heap.get? b = some o → b ∈ frs X.stack → ∃ t, h5.get? b = some { o with slots := t } := fun b o e hb => by
    obtain ⟨o', e', nf⟩ := (I.stack.mem hb).2
    rw [e] at e'; cases e'
    exact sm b o e nf
  have cellK : ∀ c v, s'.heap.IsCell c v → h5.IsCell c v := fun c v ⟨o, ho, hd⟩ => by
    obtain ⟨t, e⟩ := sm c o ho (fun vs z => by rw [hd] at z; cases z)
    exact ⟨_, e, hd⟩
  refine ⟨I.ok, I.os, I.bare, ⟨fun b o e n hb hx => inB b o (I.base.keep b o e n hb hx) (ns b (nl b o e) hb) (.inl (I1.base.there b o e hx)), fun b o e n hb hx => ?_, I.base.free, fun b o e hx => ?_, I.base.tups, I.base.frzs, I.base.tbls⟩, ?_, fun y c e => ?_, I.free, I.freeC, fun p hp => ?_, fun b u q => ?_, I.len⟩
  · obtain ⟨t, e1⟩ := I.base.slot b o e n hb hx
    obtain ⟨t', e2⟩ := sl b _ e1 (sub b hb)
    exact ⟨t', e2⟩
  · obtain ⟨o', e1⟩ := I.base.there b o e hx
    by_cases hb : b ∈ frs X.stack
    · obtain ⟨t', e2⟩ := sl b _ e1 hb
      exact ⟨_, e2⟩
    · exact ⟨o', inB b o' e1 hb (.inl (I1.base.there b o e hx))⟩
  · obtain ⟨m, hn, hl⟩ := I.loc
    refine ⟨m, sm.ns hn, fun i y v e1 e2 e3 => ?_⟩
    obtain ⟨u, r, l⟩ := hl i y v e1 e2 e3
    refine ⟨u, r, ?_⟩
    rcases l with l | ⟨k, c, e, z⟩
    · exact .inl l
    · exact .inr ⟨k, c, e, cellK c _ z⟩
  · obtain ⟨v, z⟩ := I.cell y c e
    exact ⟨v, cellK c v z⟩
  · obtain ⟨e, n, ne, nf, d⟩ := I.pin p hp
    exact ⟨inB p.1 p.2 e (ns p.1 ne nf) (.inl ⟨_, (I1.pin p hp).1⟩), n, ne, nf, d⟩
  · refine (I.hok b u q).stay (fun c v hc e => ?_) (fun _ q => q) fun _ _ q => q
    have tr : H' c ≠ none := by
      rcases hc with z | z
      · rw [z, q]; exact fun z => nomatch z
      · rw [z]; exact fun z => nomatch z
    exact inB c v e (fun z => tr (I.stkFree c z)) (.inr tr)
/-- the exception is tracked from now on -/
theorem inv_track (I : Inv X pins σ H s) (hx : H x = none) (h0 : X.s₀.heap.get? x = none) (hL : x ≠ X.env.locals) (hc : ∀ y c, X.env.cells.lookup y = some c → c ≠ x) (hp : ∀ p ∈ X.pn ++ pins, p.1 ≠ x) (e : ExcAt x C s.heap) :
    Inv X pins σ (upd H x (.ext (ExcAt x C))) s := by
  have ne : ∀ b u, H b = some u → b ≠ x := fun b u q z => by rw [z, hx] at q; cases q
  refine ⟨I.ok, I.os, I.bare, ⟨I.base.keep, I.base.slot, fun b o q n hx' => ?_, I.base.there, fun b xs q => ?_, fun b o u q => ?_, fun b ps q => ?_⟩, I.loc, I.cell, ?_, fun y c q => ?_, fun p q => ?_, fun b u q => ?_, I.len⟩
  · rw [upd_ne (fun z => by rw [z, h0] at q; cases q)]; exact I.base.free b o q n hx'
  · have := I.base.tups b xs q; rw [upd_ne (ne _ _ this)]; exact this
  · have := I.base.frzs b o u q; rw [upd_ne (ne _ _ this)]; exact this
  · obtain ⟨m, this⟩ := I.base.tbls b ps q; exact ⟨m, by rw [upd_ne (ne _ _ this)]; exact this⟩
  · rw [upd_ne (Ne.symm hL)]; exact I.free
  · rw [upd_ne (hc y c q)]; exact I.freeC y c q
  · obtain ⟨e, n, n2, nf, d⟩ := I.pin p q
    exact ⟨e, by rw [upd_ne (hp p q)]; exact n, n2, nf, d⟩
  · by_cases hb : b = x
    · subst hb
      rw [upd_same] at q; cases q
      obtain ⟨o, vs, e1, e2⟩ := e
      exact ⟨⟨o, vs, e1, e2⟩, ⟨o, e1⟩, fun h1 h2 ⟨o, vs, e1, e2⟩ k => ⟨o, vs, k o e1, e2⟩⟩
    · rw [upd_ne hb] at q
      exact (I.hok b u q).stay (fun _ _ _ e => e) (fun c z => by rw [upd_ne (ne _ _ z)]; exact z) fun c xs z => by rw [upd_ne (ne _ _ z)]; exact z
/-- a name is gone -/
theorem inv_goes {i : Nat} {n : Str} {u : Option Value} {m : Str → Option Value} {h' : Heap} {t : Nat} (I : Inv X pins σ H s) (hN : X.N.Nodup) (hi : X.N[i]? = some n) (hm : ∀ (j : Nat) (y : Str) (v : V), X.N[j]? = some y → σ[j]? = some (some v) → Vis X.env.scope y → ∃ u, RelV v u ∧ Look X.env s.heap m y u)
    (hn' : h'.Ns X.env.locals (fun y => if y = n then u else m y)) (hs : Heap.SameBut X.env.locals s.heap h') : Inv X pins (σ.set i none) H { s with heap := h', toks := t } := by
  have nl : ∀ b o, X.s₀.heap.get? b = some o → b ≠ X.env.locals := fun b o e => Nat.ne_of_lt (Nat.lt_of_lt_of_le (Heap.lt_size e) I.ok.above)
  refine ⟨I.ok, I.os, I.bare, ⟨fun b o e n hb hx => (hs.2 b (nl b o e)).trans (I.base.keep b o e n hb hx), fun b o e n hb hx => ?_, I.base.free, fun b o e hx => ?_, I.base.tups, I.base.frzs, I.base.tbls⟩, ⟨_, hn', fun j y v e1 e2 e3 => ?_⟩, fun y c e => ?_, I.free, I.freeC, fun p hp => ?_, fun b u q => ?_, by simpa using I.len⟩
  · obtain ⟨sl, e1⟩ := I.base.slot b o e n hb hx
    exact ⟨sl, (hs.2 b (nl b o e)).trans e1⟩
  · obtain ⟨o', e1⟩ := I.base.there b o e hx
    exact ⟨o', (hs.2 b (nl b o e)).trans e1⟩
  · by_cases hj : j = i
    · subst hj
      rw [List.getElem?_set, if_pos rfl] at e2
      split at e2 <;> cases e2
    · rw [List.getElem?_set_ne (Ne.symm hj)] at e2
      obtain ⟨u', r', q⟩ := hm j y v e1 e2 e3
      refine ⟨u', r', ?_⟩
      rcases q with ⟨k, e⟩ | ⟨k, c, e, z⟩
      · refine .inl ⟨k, ?_⟩
        have : y ≠ n := fun e => hj (nodup_ix hN e1 (e ▸ hi))
        simp [this, e]
      · exact .inr ⟨k, c, e, z.sameBut hs (I.cne y c e)⟩
  · obtain ⟨w', z⟩ := I.cell y c e
    exact ⟨w', z.sameBut hs (I.cne y c e)⟩
  · obtain ⟨e, n, ne, nf, d⟩ := I.pin p hp
    exact ⟨(hs.2 p.1 ne).trans e, n, ne, nf, d⟩
  · refine (I.hok b u q).stay (fun c v hc e => (hs.2 c ?_).trans e) (fun _ q => q) fun _ _ q => q
    rintro rfl
    rcases hc with z | z
    · rw [← z, I.free] at q; cases q
    · rw [I.free] at z; cases z
/-- slot i is forgotten -/
theorem Rep.drop (r : Rep X P ρ own σ H) {i : Nat} : Rep X P (ρ.set i none) own (σ.set i none) H where
  same := r.same
  len := by rw [List.length_set, List.length_set]; exact r.len
  slot := fun j d e => by
    by_cases q : i = j
    · subst q
      rw [List.getElem?_set, if_pos rfl] at e
      split at e <;> cases e
    · rw [List.getElem?_set_ne q] at e
      obtain ⟨u, h1, h2⟩ := r.slot j d e
      exact ⟨u, by rw [List.getElem?_set_ne q]; exact h1, h2⟩
  inj := r.inj
  lst := r.lst
  new := r.new
  prot := r.prot
end
end Tw

set_option Elab.async false
set_option linter.all false
set_option maxRecDepth 100000
set_option maxHeartbeats 1000000
namespace Tw
open PySem PySem.Spec PyProof.Rows L2
def fTry (i : Nat) (kc : Addr → Option Bool) (f : FE) (r : FR) (G : FS) : FS := fun ρ => match r ρ with
  | some C => if kc C = some true then (G (ρ.set i (some (.exn C)))).bind fun q => match q with
      | .nx ρ' => some (.nx (ρ'.set i none))
      | _ => none
    else none
  | none => (f ρ).map fun _ => .nx ρ
section
variable {X : Cx} {e : Expr} {ep np hp pos : Pos} {f : FE} {r : FR} {G : FS} {T n : Str} {CT : Addr} {b₀ : Stmt} {suite : List Stmt}
theorem pxs_try (i : Nat) {kc : Addr → Option Bool} (hN : X.N.Nodup) (hT : X.mg T = some (.ref CT)) (hk : ∀ C b, kc C = some b → PySem.W.exmOne X.K (.ref C) (.ref CT) = some b) (hn : QX X e f) (hr : PRe X e r) (hG : ∀ v, QSs (inx X v) (b₀ :: suite) G)
    (hi : X.N[i]? = some n := by rfl) (hl : X.env.kindOf n = some .local := by rfl) (hg : Gl X T := by rfl) (hdb : (T == ("__debug__" : Str)) = false := by decide) (hs : swapsWith e none ep.line X.env = pure false := by rfl)
    (hst : X.stack = X.env :: X.outer := by rfl) (hf : X.env.frame = some X.env.locals := by rfl) (hex : X.ex = [] := by rfl) (hxe : X.xe = fun _ _ => False := by rfl) :
    QS X (.Try [.Expr e ep] [.ExceptHandler (some (.Name T np)) (some n) (b₀ :: suite) hp] [] [] pos) (fTry i kc f r G) := by
  refine ⟨fun pins s σ H D I ⟨P, own, ρ, res, rp, he, q⟩ => ?_⟩
  unfold fTry at he
  cases e1 : r ρ with
  | none =>
    rw [e1] at he
    dsimp only at he
    cases e2 : f ρ with
    | none => rw [e2] at he; cases he
    | some d =>
      rw [e2] at he; cases he
      refine wpAny_Try_except (wpAny_execs_cons ?_)
      have h := hn.to pins s σ H (fun _ H1 => Same H H1) I ⟨ρ, d, rp.view, e2, fun v H1 s1 _ => s1⟩
      refine wpAny_Expr_any (wpAny_mono h (fun v s1 ⟨x, H1, I1, _, sm⟩ => ?_) fun v s1 z => ?_) I.quiet hs
      · exact wpAny_execs_nil (wpAny_execs_nil ⟨σ, H1, I1, q own σ H1 (rp.grow sm)⟩)
      · rw [hxe] at z; exact z.elim
  | some C =>
    rw [e1] at he
    dsimp only at he
    split at he
    · rename_i hkc
      cases e2 : G (ρ.set i (some (.exn C))) with
      | none => rw [e2] at he; cases he
      | some qq =>
        rw [e2] at he
        simp only [Option.bind_some] at he
        cases qq with
        | bk _ => cases he
        | ct _ => cases he
        | rt _ => cases he
        | nx ρ' =>
          cases he
          have fr : X.A.frames = some (X.env :: X.outer) := by rw [I.ok.frames, hst]
          refine wpAny_Try_except (wpAny_execs_cons (wpAny_Expr_any (wpAny_mono (hr.to pins s σ H ρ C I rp.view e1) (fun _ _ z => z.elim) fun v s' hv => ?_) I.quiet hs))
          obtain ⟨x, H1, s1, H', rfl, I1, sm1, sm2, F⟩ := hv
          have I' := F.inv I1
          obtain ⟨B, a0, hfl, hB⟩ := F.fly
          rw [hst] at hfl
          refine wpAny_looks_onW fr hf hfl fun h4 held4 sm4 => ?_
          refine wpAny_landsW held4 fun h5 hfl5 sm5 => ?_
          have I5 := inv_land I1 I' hst hf hex hB hfl5.1 (sm4.trans sm5)
          -- what the exception's address is apart from
          obtain ⟨ob, hob, hobc⟩ := hfl.there
          obtain ⟨oe, ws, hoe, _, hoed, _⟩ := hfl.first
          have nB : B.get? x = none := hfl.2.1
          have xs : x ∉ frs X.stack := fun z => by
            obtain ⟨o', e', nf⟩ := (I'.stack.mem z).2
            rw [hoe] at e'; cases e'
            exact nf _ hoed
          have notin : ∀ b o, s1.heap.get? b = some o → b ∉ frs X.stack → b ≠ x := fun b o e0 hb z => by
            subst z
            have := hB b oe hoe hb (.inl ⟨o, e0⟩)
            rw [nB] at this; cases this
          have xH : H' x = none := by
            cases z : H' x with
            | none => rfl
            | some u =>
              have := hB x oe hoe xs (.inr (by rw [z]; exact fun y => nomatch y))
              rw [nB] at this; cases this
          have xL : x ≠ X.env.locals := fun z => xs (by rw [z, hst]; unfold frs; rw [List.filterMap_cons, hf]; exact List.mem_cons_self)
          have x0 : X.s₀.heap.get? x = none := by
            cases z : X.s₀.heap.get? x with
            | none => rfl
            | some o =>
              obtain ⟨o', e'⟩ := I1.base.there x o z (fun y => by rw [hex] at y; cases y)
              exact absurd rfl (notin x o' e' xs)
          have xC : ∀ y c, X.env.cells.lookup y = some c → c ≠ x := fun y c ec z => by
            obtain ⟨v, o, ho, hd⟩ := I'.cell y c ec
            rw [z, hoe] at ho; cases ho
            rw [hoed] at hd; cases hd
          have xP : ∀ p ∈ X.pn ++ pins, p.1 ≠ x := fun p hp => by
            obtain ⟨e0, _, ne, nf, _⟩ := I1.pin p hp
            exact notin p.1 p.2 e0 (fun z => (List.mem_cons.mp (I1.stkSub p.1 z)).elim ne nf)
          refine wpAny_handleBy_cons (codeAny_handlers_test ?_) (by intro z; cases z)
          refine ld_glob (X := inx X (.ref x)) (inv_inx I5) hg hT ?_ hdb
          obtain ⟨ob5, hob5, hobc5⟩ := hfl5.there
          have LT : PySem.W.Looks (model X.prog X.w) h5 (typeOf (.ref x)) (.ref C) := hobc5 ▸ (PySem.W.Looks.ld hob5).andThen .now
          refine (PySem.W.exm_one (K := X.K) I5.kIn LT (hk C true hkc)) _ _ _ _ (fun _ _ z => z) ?_
          refine codeAny_handlers_suite_as ?_
          refine lands_againW hfl5 fun h6 hfl6 sm6 => ?_
          have I6 := inv_land I1 I' hst hf hex hB hfl6.1 (sm4.trans (sm5.trans sm6))
          obtain ⟨oe6, ws6, hoe6, hoec6, hoed6, _⟩ := hfl6.first
          have I7 := inv_track (C := C) I6 xH x0 xL xC xP ⟨oe6, ws6, hoe6, hoec6, hoed6⟩
          refine store_ok (v := .ref x) I7 hN hi (.inl hl) rfl (fun s8 I8 => ?_) (.inr hl)
          have sm : Same H (upd H' x (.ext (ExcAt x C))) := (sm1.trans sm2).trans (same_upd xH _)
          have rp8 := (rp.grow sm).put (i := i) (d := .exn C) (v := .ref x) rfl (by rw [Den]; exact ⟨x, rfl, upd_same⟩)
          have h9 := (hG (.ref x)).to pins s8 _ _ { nx := fun σ' H'' => ∃ own', Rep X P ρ' own' σ' H'', rt := fun _ _ => False } (inv_inx I8) ⟨P, _, _, .nx ρ', rep_inx rp8, e2, fun own' σ' H'' rp' => ⟨own', rep_un rp'⟩⟩
          refine wpAny_mono h9 (fun fl s9 hq => ?_) fun _ _ z => z.elim
          cases fl with
          | ret v => obtain ⟨_, _, _, _, _, z⟩ := hq; exact z.elim
          | brk => obtain ⟨_, _, _, z⟩ := hq; exact z.elim
          | cont => obtain ⟨_, _, _, z⟩ := hq; exact z.elim
          | next =>
            obtain ⟨σ9, H9, I9, own9, rp9⟩ := hq
            have I9' := inv_un I.ok I9
            obtain ⟨m, hnm, hlk⟩ := id I9'.loc
            refine wpAny_nameGoes_keeps hl hnm (by rw [I.ok.kind]; rfl) fun h10 u hn10 hs10 => ?_
            exact ⟨_, H9, inv_goes I9' hN hi hlk hn10 hs10, q own9 _ H9 rp9.drop⟩
    · cases he
end
end Tw

set_option Elab.async false
set_option linter.all false
set_option maxRecDepth 100000
set_option maxHeartbeats 1000000
namespace Tw
open PySem PySem.Spec PyProof.Rows L2
/-! ### isinstance of an exception -/
section
variable {prog : Program} {w : World} {A : Around} {E : Value → Shared → Prop} {K : PySem.W.Frag} {h : Heap} {g : Array GenState} {d : Drawn} {t : Nat} {os : OsState} {a C : Addr} {o : Obj}
theorem exc_class_get {R : Result → Shared → Prop} {tp : Value} (X : K.In h) (hx : h.get? a = some o) (hc : o.cls = .ref C) (hm : PySem.W.mroIn K C (.type "object") = some true) (hq : R (.ok (.ret (.ref C))) ⟨h, g, d, t, os⟩) :
    codeAny (model prog w) A (.call (.builtin "getset_descriptor.__get__") ⟨[.builtin "object.__class__", .ref a, tp], []⟩) R ⟨h, g, d, t, os⟩ := by
  have L1 := PySem.W.looks_mroIn (M := model prog w) X hm
  have hT5 : (⟨h, g, d, t, os⟩ : Shared).TypeIs (.builtin "object.__class__") "getset_descriptor" := F.typeOf_object_class
  have fo := F.owner_object_class
  refine codeAny_call_builtin F.slot_gs_get.plain F.entry_gs_get (F.slot_gs_get.check _ _ _ _ _ _ _ _ hT5 (F.args_gs_get _ _ _) ?_)
  repeat (any_goals (first | assumption | (with_reducible refine wpAny_loadPart_at hx ?_; rw [hc]) | (rw [fo]; with_reducible refine L1.at ?_) | (with_reducible refine L1.at ?_) | wp_step))
  refine ⟨Code.quiet_builtin _ (by decide +kernel), codeAny_builtin F.entry_object_class ?_⟩
  unfold Builtin.«object.__class__» shownTypeOf
  repeat (any_goals (first | assumption | (with_reducible refine wpAny_loadPart_at hx ?_; rw [hc]) | wp_step))
theorem exc_check_ga {M : Model} {nameV : Value} {Q : Unit → Shared → Prop} (X : K.In h) (hx : h.get? a = some o) (hc : o.cls = .ref C) (hm : PySem.W.mroIn K C (.type "BaseException") = some true) (hq : Q () ⟨h, g, d, t, os⟩) :
    wpAny M A (checkBuiltinCall "BaseException.__getattribute__" ⟨[.ref a, nameV], []⟩) Q E ⟨h, g, d, t, os⟩ := by
  have L1 := PySem.W.looks_mroIn (M := M) X hm
  have hk : builtinKind "BaseException.__getattribute__" = some .slot := by decide +kernel
  have hsplit : splitId "BaseException.__getattribute__" = some ("BaseException", "__getattribute__") := by decide +kernel
  have ha := F.args_bexc_ga (.ref a) nameV
  simp only [checkBuiltinCall, hk, hsplit]
  refine wpAny_bind ?_
  · unfold isInstance
    repeat (first | (with_reducible refine wpAny_loadPart_at hx ?_; rw [hc]) | (with_reducible refine L1.at ?_) | wp_step)
    exact hq
theorem exc_class_entry {tk : Tok} {Q : Fin → Shared → Prop} (X : K.In h) (hx : h.get? a = some o) (hc : o.cls = .ref C) (hm : PySem.W.mroIn K C (.type "object") = some true) (hf : PySem.W.findIn K (.ref C) "__class__" = some (some (.builtin "object.__class__")))
    (hq : Q (.done (.ret (.ref C))) ⟨h, g, d, t, os⟩) : wpAny (model prog w) A (Builtin.«object.__getattribute__» ⟨[.ref a, .str "__class__" tk], []⟩) Q E ⟨h, g, d, t, os⟩ := by
  have L1 := PySem.W.looks_findIn (M := model prog w) X hf
  have hT5 : (⟨h, g, d, t, os⟩ : Shared).TypeIs (.builtin "object.__class__") "getset_descriptor" := F.typeOf_object_class
  have f5 := F.typeOf_object_class
  have f6 := F.slot_gs_get.lookup
  have f7 := F.slot_gs_set.lookup
  repeat (any_goals (first | assumption | (with_reducible refine wpAny_loadPart_at hx ?_; rw [hc]) | (with_reducible refine L1.at ?_) | wp_step))
  refine exc_class_get X hx hc hm ?_
  repeat (any_goals (first | assumption | wp_step))
theorem exc_class_by {tk : Tok} {Q : Value → Shared → Prop} (X : K.In h) (hx : h.get? a = some o) (hc : o.cls = .ref C) (hm : PySem.W.mroIn K C (.type "object") = some true) (hb : PySem.W.mroIn K C (.type "BaseException") = some true)
    (hf : PySem.W.findIn K (.ref C) "__class__" = some (some (.builtin "object.__class__"))) (hga : PySem.W.findIn K (.ref C) "__getattribute__" = some (some (.builtin "BaseException.__getattribute__"))) (hna : PySem.W.findIn K (.ref C) "__getattr__" = some none)
    (hq : Q (.ref C) ⟨h, g, d, t, os⟩) : wpAny (model prog w) A (getAttrBy (.ref a) (.str "__class__" tk) false) Q E ⟨h, g, d, t, os⟩ := by
  have L1 := PySem.W.looks_findIn (M := model prog w) X hga
  have L2 := PySem.W.looks_findIn (M := model prog w) X hna
  have FG := PySem.F.attrBase_ValueError.ga
  have f3 := FG.bind (.ref a)
  have hx2 : (Value.builtin "BaseException.__getattribute__" == Value.builtin "object.__getattribute__") = false := by decide +kernel
  have hx1 : (onTheHeap (Value.ref C) && Value.builtin "BaseException.__getattribute__" == Value.builtin "object.__getattribute__") = false := by rw [hx2]; rfl
  have hx0 : (false && onTheHeap (Value.builtin "BaseException.__getattribute__")) = false := rfl
  repeat (any_goals (first | assumption | (with_reducible refine wpAny_loadPart_at hx ?_; rw [hc]) | (with_reducible refine L1.at ?_) | (with_reducible refine L2.at ?_) | wp_step))
  refine codeAny_call_builtin FG.plain F.entry_bexc_ga (exc_check_ga X hx hc hb (exc_class_entry X hx hc hm hf ?_))
  repeat (any_goals (first | assumption | wp_step))
theorem exc_class_attr {Q : Option Value → Shared → Prop} (X : K.In h) (hx : h.get? a = some o) (hc : o.cls = .ref C) (hm : PySem.W.mroIn K C (.type "object") = some true) (hb : PySem.W.mroIn K C (.type "BaseException") = some true)
    (hf : PySem.W.findIn K (.ref C) "__class__" = some (some (.builtin "object.__class__"))) (hga : PySem.W.findIn K (.ref C) "__getattribute__" = some (some (.builtin "BaseException.__getattribute__"))) (hna : PySem.W.findIn K (.ref C) "__getattr__" = some none)
    (hq : Q (some (.ref C)) ⟨h, g, d, t + 1, os⟩) : wpAny (model prog w) A (getAttr? (.ref a) "__class__") Q E ⟨h, g, d, t, os⟩ := by
  unfold getAttr? getAttrBy?
  repeat (any_goals (first | assumption | with_reducible apply exc_class_by X hx hc hm hb hf hga hna | wp_step))
end
/-- what isinstance asks of an exception's class -/
structure ExcC (K : PySem.W.Frag) (C : Addr) : Prop where
  ob : PySem.W.mroIn K C (.type "object") = some true
  be : PySem.W.mroIn K C (.type "BaseException") = some true
  cl : PySem.W.findIn K (.ref C) "__class__" = some (some (.builtin "object.__class__"))
  ga : PySem.W.findIn K (.ref C) "__getattribute__" = some (some (.builtin "BaseException.__getattribute__"))
  na : PySem.W.findIn K (.ref C) "__getattr__" = some none
theorem kitx_exc {K : PySem.W.Frag} {x C : Addr} (T : ExcC K C) : PySem.W.KitX K (.ref x) (.ref C) (ExcAt x C) := by
  obtain ⟨cdC, hcC, _⟩ := Option.bind_eq_some_iff.mp T.ob
  unfold PySem.W.clsIn at hcC
  split at hcC
  · rename_i c' d' cd' sl' ho
    refine ⟨fun M h X ⟨o, vs, e1, e2, e3⟩ => e2 ▸ (PySem.W.Looks.ld e1).andThen .now, fun M h X _ => ?_, fun h tp dd its n sl X htp => ?_, fun {prog w A E Q s} X ⟨o, vs, e1, e2, e3⟩ hq => ?_⟩
    · intro A' Q' E' s' k q
      unfold isType loadHead
      exact wpAny_bind (wpAny_loadPart (k _ _ (X _ _ ho)) (wpAny_pure q))
    · refine Bool.eq_false_iff.mpr fun q => ?_
      have e : C = tp := Value.ref.inj (beq_iff_eq.mp q)
      subst e
      have z := (X _ _ ho).symm.trans htp
      cases z
    · obtain ⟨h, g, d, t, os⟩ := s
      exact exc_class_attr X e1 e2 T.ob T.be T.cl T.ga T.na hq
  · cases hcC
section
variable {X : Cx} {e : Expr} {pos p p2 : Pos} {f : FE} {x : Str}
/-- isinstance(e, c): e an exception of a class that kc speaks of -/
def fIsX (kc : Addr → Option Bool) (f : FE) : FE := fun ρ => (f ρ).bind fun d => match d with
  | .exn C => (kc C).map .bl
  | _ => none
theorem px_isX {kc : Addr → Option Bool} {v : V} {c : Value} (hT : ∀ C b, kc C = some b → ExcC X.K C) (hk : ∀ C b, kc C = some b → PySem.W.kitOne X.K (.ref C) c = some b) (hm : X.mg "isinstance" = none) (hx : PE X (.Name x p2) (tC v)) (rv : RelV v c) (hv : ∀ u, RelV v u → u = c) (ha : PX X e f)
    (hb : bootBuiltins "isinstance" = some (.builtin "isinstance") := by rfl) (hg : Gl X "isinstance" := by rfl)
    (he : starEach [e, .Name x p2] X.env = (false, eval e X.env) :: starEach [.Name x p2] X.env := by rfl) (hpl : (backTo pos (starEach [.Name x p2] X.env)).any (·.1) = false := by rfl) (hs : starEach [.Name x p2] X.env = (false, eval (.Name x p2) X.env) :: starEach [] X.env := by rfl) :
    PX X (.Call (.Name "isinstance" p) [e, .Name x p2] [] pos) (fIsX kc f) := by
  have hc : CallR X (.builtin "isinstance") (fun xs H Q => ∃ y C b, xs = [y, v] ∧ Den X.K Emp H (.exn C) y ∧ kc C = some b ∧ Q (.bl b) H) := by
    intro pins s σ H xs us Q I r h
    obtain ⟨y, C, b, rfl, hd, hb', q⟩ := h
    obtain ⟨u, w', rfl, ru, rw'⟩ := vals2 r
    obtain rfl := hv w' rw'
    rw [Den] at hd
    obtain ⟨a, rfl, ha⟩ := hd
    cases (show u = Value.ref a from ru)
    have ob := I.hok a _ ha
    exact PySem.W.kia_one (kitx_exc (hT C b hb')) I.kIn ob.1 (hk C b hb') (fun z => nomatch z) fun tk => ⟨.bl b, H, I.tok _, rfl, q⟩
  refine PE.weak (pe_callB hc hg hm hb (pa_cons ha (pa_cons hx pa_nil hs) he) (by decide) (by decide) he hpl) fun σ H Q ⟨ρ, d, rv, e, q⟩ => ?_
  unfold fIsX at e
  cases e1 : f ρ with
  | none => rw [e1] at e; cases e
  | some y =>
    rw [e1] at e
    simp only [Option.bind_some] at e
    split at e
    · rename_i C
      cases e2 : kc C with
      | none => rw [e2] at e; cases e
      | some b =>
        rw [e2] at e; cases e
        exact ⟨ρ, _, rv, e1, fun v1 H1 s1 d1 => ⟨v1, C, b, rfl, d1.den, e2, q _ H1 s1 denF_bl⟩⟩
    · cases e
theorem qx_isC {kc : Addr → Option Bool} {c : Addr} (hm : X.mg "isinstance" = none) (hx : X.mg x = some (.ref c)) (hk : ∀ C b, kc C = some b → PySem.W.kitOne X.K (.ref C) (.ref c) = some b) (hT : ∀ C b, kc C = some b → ExcC X.K C) (ha : QX X e f)
    (hb : bootBuiltins "isinstance" = some (.builtin "isinstance") := by rfl) (hg : Gl X "isinstance" := by rfl) (hgx : Gl X x := by rfl) (hd : (x == ("__debug__" : Str)) = false := by decide)
    (he : starEach [e, .Name x p2] X.env = (false, eval e X.env) :: starEach [.Name x p2] X.env := by rfl) (hpl : (backTo pos (starEach [.Name x p2] X.env)).any (·.1) = false := by rfl) (hs : starEach [.Name x p2] X.env = (false, eval (.Name x p2) X.env) :: starEach [] X.env := by rfl) :
    QX X (.Call (.Name "isinstance" p) [e, .Name x p2] [] pos) (fIsX kc f) :=
  ⟨px_isX (v := .ref c) hT hk hm (pe_glob hgx hx rfl hd) rfl (fun u r => r) ha.to hb hg he hpl hs⟩
theorem qx_isT {kc : Addr → Option Bool} {T : String} (hm : X.mg "isinstance" = none) (hx : X.mg x = none) (hk : ∀ C b, kc C = some b → PySem.W.kitOne X.K (.ref C) (.type T) = some b) (hT : ∀ C b, kc C = some b → ExcC X.K C) (ha : QX X e f)
    (hbx : bootBuiltins x = some (.type T) := by rfl) (hb : bootBuiltins "isinstance" = some (.builtin "isinstance") := by rfl) (hg : Gl X "isinstance" := by rfl) (hgx : Gl X x := by rfl) (hn : x ≠ "__name__" := by decide) (hd : (x == ("__debug__" : Str)) = false := by decide)
    (he : starEach [e, .Name x p2] X.env = (false, eval e X.env) :: starEach [.Name x p2] X.env := by rfl) (hpl : (backTo pos (starEach [.Name x p2] X.env)).any (·.1) = false := by rfl) (hs : starEach [.Name x p2] X.env = (false, eval (.Name x p2) X.env) :: starEach [] X.env := by rfl) :
    QX X (.Call (.Name "isinstance" p) [e, .Name x p2] [] pos) (fIsX kc f) :=
  ⟨px_isX (v := .ty T) hT hk hm (pe_bltn hgx hx hbx rfl hn hd) rfl (fun u r => r) ha.to hb hg he hpl hs⟩
end
end Tw

set_option Elab.async false
set_option linter.all false
set_option maxRecDepth 100000
set_option maxHeartbeats 1000000
namespace Tw
open PySem PySem.Spec PyProof.Rows L2
/-! ### len(str(e)) -/
def kLenS : List D → Option D
  | [.str z] => if z.length ≤ sizeLine then some (.int z.length) else none
  | _ => none
section
variable {X : Cx} {a : Expr} {pos p p1 p2 : Pos} {fa : FA}
theorem px_lenS (hm : X.mg "len" = none) (ha : PXA X [.Call (.Name "str" p1) [a] [] p2] fa) (hg : Gl X "len" := by rfl) (he : starEach [.Call (.Name "str" p1) [a] [] p2] X.env = (false, eval (.Call (.Name "str" p1) [a] [] p2) X.env) :: starEach [] X.env := by rfl) :
    PX X (.Call (.Name "len" p) [.Call (.Name "str" p1) [a] [] p2] [] pos) (fCall kLenS fa) := px_callB call_len_str (by
  intro ds d vs H Q ek l q
  unfold kLenS at ek
  split at ek
  · rename_i z
    split at ek
    · rename_i hz
      cases ek
      obtain ⟨v, rfl, h⟩ := denL1 l
      rw [Den] at h
      exact ⟨z, by rw [h], hz, q _ H (Same.refl H) denF_int⟩
    · cases ek
  · cases ek) PySem.boot_len hm ha hg (by decide) (by decide) he rfl
theorem qx_lenS (hm : X.mg "len" = none) (ha : QA X [.Call (.Name "str" p1) [a] [] p2] fa) (hg : Gl X "len" := by rfl) (he : starEach [.Call (.Name "str" p1) [a] [] p2] X.env = (false, eval (.Call (.Name "str" p1) [a] [] p2) X.env) :: starEach [] X.env := by rfl) :
    QX X (.Call (.Name "len" p) [.Call (.Name "str" p1) [a] [] p2] [] pos) (fCall kLenS fa) := ⟨px_lenS hm ha.to hg he⟩
end
theorem then_nx {F G : FS} {ρ ρ' : Ev} (h : F ρ = some (.nx ρ')) : fThen F G ρ = G ρ' := by unfold fThen; rw [h]; rfl
/-- one class -/
def k1 (c : Addr) (b : Bool) : Addr → Option Bool := fun C => if C = c then some b else none
theorem k1_all {c : Addr} {b : Bool} {Q : Addr → Bool → Prop} (h : Q c b) : ∀ C b', k1 c b C = some b' → Q C b' := fun C b' e => by
  unfold k1 at e
  split at e
  · rename_i z; subst z; cases e; exact h
  · cases e
theorem k1_at {c : Addr} {b : Bool} : k1 c b c = some b := if_pos rfl
end Tw

set_option Elab.async false
set_option linter.all false
set_option maxRecDepth 100000
set_option maxHeartbeats 1000000
namespace Tw
open PySem PySem.Spec PyProof.Rows L2
/-! ### a, b = a list -/
section
variable {prog : Program} {w : World} {A : Around} {E : Value → Shared → Prop} {s : Shared}
theorem draw_lst {it t : Addr} {its : Array Value} (ne : t ≠ it) : ∀ (n i : Nat) (s : Shared) (Q : List Value → Shared → Prop), s.heap.IsListIter it t i → s.heap.IsList t its → i + n ≤ its.size →
    (∀ h', h'.IsListIter it t (i + n) → Heap.SameBut it s.heap h' → Q ((its.toList.drop i).take n) { s with heap := h' }) → wpAny (model prog w) A (draw (.ref it) n) Q E s
  | 0, i, s, Q, hi, _, _, q => by
    show wpAny _ _ (pure []) Q E s
    exact wpAny_pure (by simpa using q s.heap hi (Heap.SameBut.refl ..))
  | n + 1, i, s, Q, hi, ht, le, q => by
    have lt : i < its.size := by omega
    show wpAny _ _ (pyNext (.ref it) >>= _) Q E s
    refine wpAny_bind (wpAny_pyNext_list_item hi ht (x := its[i]) (by simp [lt]) fun h1 hi1 hs1 => ?_)
    refine wpAny_bind (wpAny_holding (draw_lst ne n (i + 1) _ _ hi1 (ht.extBut hs1.extBut ne) (by omega) fun h2 hi2 hs2 => wpAny_pure ?_))
    have hd : its.toList.drop i = its[i] :: its.toList.drop (i + 1) := by simp [List.drop_eq_getElem_cons, lt]
    have z := q h2 (by rw [show i + (n + 1) = i + 1 + n by omega]; exact hi2) (hs1.trans hs2)
    rw [hd, List.take_succ_cons] at z
    exact z
theorem items_lst {t : Addr} {its : Array Value} {Q : List Value → Shared → Prop} (hh : A.handled = none) (ht : s.heap.IsList t its)
    (q : ∀ h', Heap.ExtBut s.heap.objs.size s.heap h' → Q its.toList { s with heap := h' }) : wpAny (model prog w) A (unpackItems (.ref t) its.size none) Q E s := by
  have ne : t ≠ s.heap.objs.size := by obtain ⟨o, ho, _⟩ := ht; exact Nat.ne_of_lt (Heap.lt_size ho)
  unfold unpackItems
  refine wpAny_bind ?_
  unfold notIterableAtAll
  refine wpAny_bind (wpAny_specialOf ht.typeIs slot_list_iter.lookup ?_)
  refine wpAny_pure ?_
  simp only [Bool.false_eq_true, if_false]
  refine wpAny_bind (wpAny_holding (wpAny_pyIter_list ht ?_))
  refine wpAny_bind (wpAny_holding (draw_lst ne its.size 0 _ _ ⟨_, Heap.get?_push_size _ rfl, rfl, rfl⟩ (ht.push _) (by omega) fun h1 hi1 hs1 => ?_))
  have all : List.take its.size (List.drop 0 its.toList) = its.toList := by rw [List.drop_zero]; exact List.take_of_length_le (by simp)
  rw [all, if_neg (by simp)]
  have ht1 : h1.IsList t its := (ht.push _).extBut hs1.extBut ne
  refine wpAny_bind (wpAny_holding (wpAny_pyNext_list_end hh hi1 ht1 (by simp) fun h2 he2 => ?_))
  simp only [Option.isSome_none, Bool.false_eq_true, if_false]
  exact wpAny_pure (q h2 fun b o hb e => he2 b o hb (hs1.extBut b o hb (Heap.get?_push_of_some _ e)))
theorem assign_lst {env : Env} {elts : List Expr} {x1} {pos : Pos} {t : Addr} {its : Array Value} {Q : Unit → Shared → Prop} (hh : A.handled = none) (ht : s.heap.IsList t its)
    (hn : (assignEach elts env).length = its.size) (st : (assignEach elts env).findIdx? (·.1) = none)
    (h : ∀ h', Heap.ExtBut s.heap.objs.size s.heap h' → wpAny (model prog w) A (assignInOrder ((assignEach elts env).map (·.2)) its.toList) Q E { s with heap := h' }) :
    wpAny (model prog w) A (assign (.Tuple elts x1 pos) env (.ref t)) Q E s := by
  rw [arm_assign_Tuple]
  refine wpAny_bind (wpAny_standAt ?_)
  unfold unpack
  rw [hn, st]
  exact wpAny_bind (wpAny_holding (items_lst hh ht h))
end
def gLst (K : PySem.W.Frag) (n : Nat) (t : TGs) : TG := fun v σ H Q => ∃ a xs, v = .ref a ∧ SqL K H a xs ∧ xs.length = n ∧ t xs σ H Q
section
variable {X : Cx} {e : Expr} {es : List Expr} {pos : Pos} {f : FE}
theorem pg_lst {k : Nat} {t : TGs} {n : Nat} (hc : X.calm = true) (h : PGs X es t) (hn : (assignEach es X.env).length = n := by rfl) (hst : (assignEach es X.env).findIdx? (·.1) = none := by rfl) : PG X (.Tuple es k pos) (gLst X.K n t) := by
  intro pins s σ H v u Q I r hw
  obtain ⟨a, xs, e1, hq, hl, hw⟩ := hw
  subst e1
  cases r
  obtain ⟨its, rv, ⟨o, m, h1, h2, _, h4⟩, hz⟩ := I.list hq
  refine assign_lst (I.ok.hd hc) ⟨o, h1, h2, m, h4⟩ (by simp [hn, ← hl, rv.length]) hst fun h' hx => ?_
  have I1 : Inv X pins σ H { s with heap := h' } := I.kept (t' := s.toks) fun b o e => hx b o (Nat.ne_of_lt (Heap.lt_size e)) e
  exact h pins _ σ H xs _ Q I1 (by simpa using rv) hw
/-- a, b = a tuple or a list -/
def fUnS (is : List Nat) (f : FE) : FS := fun ρ => (f ρ).bind fun d => match d with
  | .tup ds => if ds.length = is.length ∧ lfL ds = true then some (.nx (setAll is ds ρ)) else none
  | .lst ds => if ds.length = is.length ∧ lfL ds = true then some (.nx (setAll is ds ρ)) else none
  | _ => none
theorem pg_seq {k n : Nat} {t : TGs} (hc : X.calm = true) (h : PGs X es t) (hn : (assignEach es X.env).length = n := by rfl) (hst : (assignEach es X.env).findIdx? (·.1) = none := by rfl) : PG X (.Tuple es k pos) (fun v σ H Q => gTup X.K n t v σ H Q ∨ gLst X.K n t v σ H Q) := by
  intro pins s σ H v u Q I r hw
  rcases hw with hw | hw
  · exact pg_tup hc h hn hst pins s σ H v u Q I r hw
  · exact pg_lst hc h hn hst pins s σ H v u Q I r hw
theorem qxs_unS {is : List Nat} {k : Nat} {p2 : Pos} (hc : X.calm = true) (hN : X.N.Nodup) (tg : Tg X es is) (ha : QX X e f) (hn : (assignEach es X.env).length = is.length := by rfl) (hst : (assignEach es X.env).findIdx? (·.1) = none := by rfl)
    (hs : swapsWithSole [.Tuple es k p2] e pos.line X.env = pure false := by rfl) (hw : swappedStores [.Tuple es k p2] e X.env = pure none := by rfl)
    (h1 : (assignEach [.Tuple es k p2] X.env).map (·.2) = [assign (.Tuple es k p2) X.env] := by rfl) : QS X (.Assign [.Tuple es k p2] e pos) (fUnS is f) := ⟨PS.weak (ps_asg ha.to (pg_seq hc (tg_pgs hN tg) hn hst) hs hw h1) fun E σ H ⟨P, own, ρ, r, rp, e, q⟩ => by
  unfold fUnS at e
  cases e1 : f ρ with
  | none => rw [e1] at e; cases e
  | some d =>
    rw [e1] at e
    simp only [Option.bind_some] at e
    refine ⟨ρ, d, rp.view, e1, fun v H1 s1 d1 => ?_⟩
    cases d with
    | tup ds =>
      simp only at e
      split at e
      · rename_i hl
        cases e
        have z := d1.den
        rw [Den] at z
        obtain ⟨p, vs, ev, hq, l⟩ := z
        exact .inl ⟨p, vs, ev, hq, by rw [← denL_length l]; exact hl.1, gAll_of hl.1 hl.2 l (rp.grow s1) fun own' σ' rp' => q own' σ' H1 rp'⟩
      · cases e
    | lst ds =>
      simp only at e
      split at e
      · rename_i hl
        cases e
        have z := d1.den
        rw [Den] at z
        obtain ⟨p, vs, ev, hq, _, l⟩ := z
        exact .inr ⟨p, vs, ev, .inl (.inl hq), by rw [← denL_length l]; exact hl.1, gAll_of hl.1 hl.2 l (rp.grow s1) fun own' σ' rp' => q own' σ' H1 rp'⟩
      · cases e
    | _ => cases e⟩
end
end Tw

set_option Elab.async false
set_option linter.all false
set_option maxRecDepth 100000
set_option maxHeartbeats 4000000
local macro_rules | `(tactic| walk_at "tw a") => `(tactic| first | exact Tw.qxa_nil | (refine' Tw.qxa_cons ?h0 ?h1; (case h0 => walk_at "tw e"); (case h1 => walk_at "tw a")))
local macro_rules | `(tactic| walk_at "tw n") => `(tactic| first | exact Tw.qx_name 0 | exact Tw.qx_name 1 | exact Tw.qx_name 2 | exact Tw.qx_name 3 | exact Tw.qx_name 4 | exact Tw.qx_name 5 | exact Tw.qx_name 6 | exact Tw.qx_name 7 | exact Tw.qx_name 8 | exact Tw.qx_name 9 | exact Tw.qx_name 10 | exact Tw.qx_name 11 | exact Tw.qx_name 12 | exact Tw.qx_name 13 | exact Tw.qx_name 14 | exact Tw.qx_name 15 | exact Tw.qx_name 16 | exact Tw.qx_name 17 | exact Tw.qx_name 18 | exact Tw.qx_name 19)
local macro_rules | `(tactic| walk_at "tw e") => `(tactic| first
  | exact Tw.qx_int | exact Tw.qx_bl | exact Tw.qx_non | exact Tw.qx_str | exact Tw.qx_dic | walk_at "tw n"
  | (refine' Tw.qx_add ?h0 ?h1; (case h0 => walk_at "tw e"); (case h1 => walk_at "tw e")) | (refine' Tw.qx_sub ?h0 ?h1; (case h0 => walk_at "tw e"); (case h1 => walk_at "tw e")) | (refine' Tw.qx_mul ?h0 ?h1; (case h0 => walk_at "tw e"); (case h1 => walk_at "tw e")) | (refine' Tw.qx_div ?h0 ?h1; (case h0 => walk_at "tw e"); (case h1 => walk_at "tw e")) | (refine' Tw.qx_mod ?h0 ?h1; (case h0 => walk_at "tw e"); (case h1 => walk_at "tw e")) | (refine' Tw.qx_pow ?h0 ?h1; (case h0 => walk_at "tw e"); (case h1 => walk_at "tw e"))
  | (refine' Tw.qx_neg ?h0; (case h0 => walk_at "tw e")) | (refine' Tw.qx_not ?h0; (case h0 => walk_at "tw e"))
  | (refine' Tw.qx_lt ?h0 ?h1; (case h0 => walk_at "tw e"); (case h1 => walk_at "tw e")) | (refine' Tw.qx_le ?h0 ?h1; (case h0 => walk_at "tw e"); (case h1 => walk_at "tw e")) | (refine' Tw.qx_gt ?h0 ?h1; (case h0 => walk_at "tw e"); (case h1 => walk_at "tw e")) | (refine' Tw.qx_ge ?h0 ?h1; (case h0 => walk_at "tw e"); (case h1 => walk_at "tw e"))
  | (refine' Tw.qx_eq (by assumption) ?h0 ?h1; (case h0 => walk_at "tw e"); (case h1 => walk_at "tw e")) | (refine' Tw.qx_ne (by assumption) ?h0 ?h1; (case h0 => walk_at "tw e"); (case h1 => walk_at "tw e")) | (refine' Tw.qx_is ?h0 ?h1; (case h0 => walk_at "tw e"); (case h1 => walk_at "tw e")) | (refine' Tw.qx_isnot ?h0 ?h1; (case h0 => walk_at "tw e"); (case h1 => walk_at "tw e"))
  | (refine' Tw.qx_and ?h0 ?h1; (case h0 => walk_at "tw e"); (case h1 => walk_at "tw e")) | (refine' Tw.qx_or ?h0 ?h1; (case h0 => walk_at "tw e"); (case h1 => walk_at "tw e")) | (refine' Tw.qx_one ?h0; (case h0 => walk_at "tw e"))
  | (refine' Tw.qx_tup ?h0; (case h0 => walk_at "tw a")) | (refine' Tw.qx_lst ?h0; (case h0 => walk_at "tw a"))
  | (refine' Tw.qx_slice ?h0 ?h1 ?h2; (case h0 => walk_at "tw e"); (case h1 => walk_at "tw o"); (case h2 => walk_at "tw o")) | (refine' Tw.qx_ix ?h0 ?h1; (case h0 => walk_at "tw e"); (case h1 => walk_at "tw e"))
  | (refine' Tw.qx_lenS (by assumption) ?h0; (case h0 => walk_at "tw a")) | (refine' Tw.qx_len (by assumption) ?h0; (case h0 => walk_at "tw a")) | (refine' Tw.qx_abs (by assumption) ?h0; (case h0 => walk_at "tw a")) | (refine' Tw.qx_max rfl (by assumption) ?h0; (case h0 => walk_at "tw a")) | (refine' Tw.qx_strI (by assumption) ?h0; (case h0 => walk_at "tw a"))
  | (refine' Tw.qx_isi (T := "tuple") (Tw.kit_mk (by decide)) (by assumption) (by assumption) ?h0; (case h0 => walk_at "tw e")) | (refine' Tw.qx_isi (T := "int") (Tw.kit_mk (by decide)) (by assumption) (by assumption) ?h0; (case h0 => walk_at "tw e")) | (refine' Tw.qx_isi (T := "bool") (Tw.kit_mk (by decide)) (by assumption) (by assumption) ?h0; (case h0 => walk_at "tw e")) | (refine' Tw.qx_isi (T := "str") (Tw.kit_mk (by decide)) (by assumption) (by assumption) ?h0; (case h0 => walk_at "tw e")) | (refine' Tw.qx_isi (T := "list") (Tw.kit_mk (by decide)) (by assumption) (by assumption) ?h0; (case h0 => walk_at "tw e")) | (refine' Tw.qx_isC (by assumption) (by assumption) (by assumption) (by assumption) ?h0; (case h0 => walk_at "tw e")) | (refine' Tw.qx_isT (by assumption) (by assumption) (by assumption) (by assumption) ?h0; (case h0 => walk_at "tw e")) | (refine' Tw.qx_bits ?h0; (case h0 => walk_at "tw e"))
  | (refine' Tw.qx_call (by assumption) (by assumption) ?h0; (case h0 => walk_at "tw a")) | (refine' Tw.qx_if ?h0 ?h1 ?h2; (case h0 => walk_at "tw t"); (case h1 => walk_at "tw e"); (case h2 => walk_at "tw e")))
local macro_rules | `(tactic| walk_at "tw o") => `(tactic| first | exact Tw.qxo_none | (refine' Tw.qxo_some ?h0; (case h0 => walk_at "tw e")))
local macro_rules | `(tactic| walk_at "tw w") => `(tactic| first | (refine' Tw.qxw_and ?h0 ?h1; (case h0 => walk_at "tw t"); (case h1 => walk_at "tw w")) | (refine' Tw.qxw_or ?h0 ?h1; (case h0 => walk_at "tw t"); (case h1 => walk_at "tw w")) | (refine' Tw.qxw_and1 ?h0; (case h0 => walk_at "tw t")) | (refine' Tw.qxw_or1 ?h0; (case h0 => walk_at "tw t")))
local macro_rules | `(tactic| walk_at "tw t") => `(tactic| first
  | (refine' Tw.qxt_lt ?h0 ?h1; (case h0 => walk_at "tw e"); (case h1 => walk_at "tw e")) | (refine' Tw.qxt_le ?h0 ?h1; (case h0 => walk_at "tw e"); (case h1 => walk_at "tw e")) | (refine' Tw.qxt_gt ?h0 ?h1; (case h0 => walk_at "tw e"); (case h1 => walk_at "tw e")) | (refine' Tw.qxt_ge ?h0 ?h1; (case h0 => walk_at "tw e"); (case h1 => walk_at "tw e"))
  | (refine' Tw.qxt_eq (by assumption) ?h0 ?h1; (case h0 => walk_at "tw e"); (case h1 => walk_at "tw e")) | (refine' Tw.qxt_ne (by assumption) ?h0 ?h1; (case h0 => walk_at "tw e"); (case h1 => walk_at "tw e")) | (refine' Tw.qxt_is ?h0 ?h1; (case h0 => walk_at "tw e"); (case h1 => walk_at "tw e")) | (refine' Tw.qxt_isnot ?h0 ?h1; (case h0 => walk_at "tw e"); (case h1 => walk_at "tw e"))
  | (refine' Tw.qxt_not ?h0; (case h0 => walk_at "tw t")) | (refine' Tw.qxt_of ?h0; (case h0 => walk_at "tw w")) | (refine' Tw.qxt_tru ?h0; (case h0 => walk_at "tw e")))
local macro_rules | `(tactic| walk_at "tw ss") => `(tactic| first | exact Tw.qx_nil | (refine' Tw.qx_last ?h0; (case h0 => walk_at "tw s")) | (refine' Tw.qx_cons ?h0 ?h1; (case h0 => walk_at "tw s"); (case h1 => walk_at "tw ss")))
local macro_rules | `(tactic| walk_at "tw tg") => `(tactic| first | exact Tw.Tg.nil | (refine' Tw.tg_cons (i := 0) ?h0; (case h0 => walk_at "tw tg")) | (refine' Tw.tg_cons (i := 1) ?h0; (case h0 => walk_at "tw tg")) | (refine' Tw.tg_cons (i := 2) ?h0; (case h0 => walk_at "tw tg")) | (refine' Tw.tg_cons (i := 3) ?h0; (case h0 => walk_at "tw tg")) | (refine' Tw.tg_cons (i := 4) ?h0; (case h0 => walk_at "tw tg")) | (refine' Tw.tg_cons (i := 5) ?h0; (case h0 => walk_at "tw tg")) | (refine' Tw.tg_cons (i := 6) ?h0; (case h0 => walk_at "tw tg")) | (refine' Tw.tg_cons (i := 7) ?h0; (case h0 => walk_at "tw tg")) | (refine' Tw.tg_cons (i := 8) ?h0; (case h0 => walk_at "tw tg")) | (refine' Tw.tg_cons (i := 9) ?h0; (case h0 => walk_at "tw tg")) | (refine' Tw.tg_cons (i := 10) ?h0; (case h0 => walk_at "tw tg")) | (refine' Tw.tg_cons (i := 11) ?h0; (case h0 => walk_at "tw tg")) | (refine' Tw.tg_cons (i := 12) ?h0; (case h0 => walk_at "tw tg")) | (refine' Tw.tg_cons (i := 13) ?h0; (case h0 => walk_at "tw tg")) | (refine' Tw.tg_cons (i := 14) ?h0; (case h0 => walk_at "tw tg")) | (refine' Tw.tg_cons (i := 15) ?h0; (case h0 => walk_at "tw tg")) | (refine' Tw.tg_cons (i := 16) ?h0; (case h0 => walk_at "tw tg")) | (refine' Tw.tg_cons (i := 17) ?h0; (case h0 => walk_at "tw tg")) | (refine' Tw.tg_cons (i := 18) ?h0; (case h0 => walk_at "tw tg")) | (refine' Tw.tg_cons (i := 19) ?h0; (case h0 => walk_at "tw tg")))
local macro_rules | `(tactic| walk_at "tw s") => `(tactic| first
  | exact Tw.qxs_pass | exact Tw.qxs_break | exact Tw.qxs_cont | exact Tw.qxs_retNone
  | exact Tw.qxs_retN 0 | exact Tw.qxs_retN 1 | exact Tw.qxs_retN 2 | exact Tw.qxs_retN 3 | exact Tw.qxs_retN 4 | exact Tw.qxs_retN 5 | exact Tw.qxs_retN 6 | exact Tw.qxs_retN 7 | exact Tw.qxs_retN 8 | exact Tw.qxs_retN 9 | exact Tw.qxs_retN 10 | exact Tw.qxs_retN 11 | exact Tw.qxs_retN 12 | exact Tw.qxs_retN 13 | exact Tw.qxs_retN 14 | exact Tw.qxs_retN 15 | exact Tw.qxs_retN 16 | exact Tw.qxs_retN 17 | exact Tw.qxs_retN 18 | exact Tw.qxs_retN 19
  | (refine' Tw.qxs_ret ?h0; (case h0 => walk_at "tw e"))
  | (refine' Tw.qxs_set 0 (by assumption) ?h0; (case h0 => walk_at "tw e")) | (refine' Tw.qxs_set 1 (by assumption) ?h0; (case h0 => walk_at "tw e")) | (refine' Tw.qxs_set 2 (by assumption) ?h0; (case h0 => walk_at "tw e")) | (refine' Tw.qxs_set 3 (by assumption) ?h0; (case h0 => walk_at "tw e")) | (refine' Tw.qxs_set 4 (by assumption) ?h0; (case h0 => walk_at "tw e")) | (refine' Tw.qxs_set 5 (by assumption) ?h0; (case h0 => walk_at "tw e")) | (refine' Tw.qxs_set 6 (by assumption) ?h0; (case h0 => walk_at "tw e")) | (refine' Tw.qxs_set 7 (by assumption) ?h0; (case h0 => walk_at "tw e")) | (refine' Tw.qxs_set 8 (by assumption) ?h0; (case h0 => walk_at "tw e")) | (refine' Tw.qxs_set 9 (by assumption) ?h0; (case h0 => walk_at "tw e")) | (refine' Tw.qxs_set 10 (by assumption) ?h0; (case h0 => walk_at "tw e")) | (refine' Tw.qxs_set 11 (by assumption) ?h0; (case h0 => walk_at "tw e")) | (refine' Tw.qxs_set 12 (by assumption) ?h0; (case h0 => walk_at "tw e")) | (refine' Tw.qxs_set 13 (by assumption) ?h0; (case h0 => walk_at "tw e")) | (refine' Tw.qxs_set 14 (by assumption) ?h0; (case h0 => walk_at "tw e")) | (refine' Tw.qxs_set 15 (by assumption) ?h0; (case h0 => walk_at "tw e")) | (refine' Tw.qxs_set 16 (by assumption) ?h0; (case h0 => walk_at "tw e")) | (refine' Tw.qxs_set 17 (by assumption) ?h0; (case h0 => walk_at "tw e")) | (refine' Tw.qxs_set 18 (by assumption) ?h0; (case h0 => walk_at "tw e")) | (refine' Tw.qxs_set 19 (by assumption) ?h0; (case h0 => walk_at "tw e"))
  | (refine' Tw.qxs_if ?h0 ?h1 ?h2; (case h0 => walk_at "tw t"); (case h1 => walk_at "tw ss"); (case h2 => walk_at "tw ss"))
  | (refine' Tw.qxs_par 0 1 rfl (by assumption) ?h0 rfl; (case h0 => walk_at "tw a")) | (refine' Tw.qxs_par 1 0 rfl (by assumption) ?h0 rfl; (case h0 => walk_at "tw a"))
  | (refine' Tw.qxs_unS rfl (by assumption) (by walk_at "tw tg") ?h0; (case h0 => walk_at "tw e"))
  | (refine' Tw.qxs_app 0 ?h0; (case h0 => walk_at "tw e")) | (refine' Tw.qxs_app 1 ?h0; (case h0 => walk_at "tw e")) | (refine' Tw.qxs_app 2 ?h0; (case h0 => walk_at "tw e")) | (refine' Tw.qxs_app 3 ?h0; (case h0 => walk_at "tw e")) | (refine' Tw.qxs_app 4 ?h0; (case h0 => walk_at "tw e")) | (refine' Tw.qxs_app 5 ?h0; (case h0 => walk_at "tw e")) | (refine' Tw.qxs_app 6 ?h0; (case h0 => walk_at "tw e")) | (refine' Tw.qxs_app 7 ?h0; (case h0 => walk_at "tw e")) | (refine' Tw.qxs_app 8 ?h0; (case h0 => walk_at "tw e")) | (refine' Tw.qxs_app 9 ?h0; (case h0 => walk_at "tw e")) | (refine' Tw.qxs_app 10 ?h0; (case h0 => walk_at "tw e")) | (refine' Tw.qxs_app 11 ?h0; (case h0 => walk_at "tw e")) | (refine' Tw.qxs_app 12 ?h0; (case h0 => walk_at "tw e")) | (refine' Tw.qxs_app 13 ?h0; (case h0 => walk_at "tw e")) | (refine' Tw.qxs_app 14 ?h0; (case h0 => walk_at "tw e")) | (refine' Tw.qxs_app 15 ?h0; (case h0 => walk_at "tw e")) | (refine' Tw.qxs_app 16 ?h0; (case h0 => walk_at "tw e")) | (refine' Tw.qxs_app 17 ?h0; (case h0 => walk_at "tw e")) | (refine' Tw.qxs_app 18 ?h0; (case h0 => walk_at "tw e")) | (refine' Tw.qxs_app 19 ?h0; (case h0 => walk_at "tw e"))
  | (refine' Tw.qxs_while PySem.PassesOwn.never ?h0 ?h1; (case h0 => walk_at "tw t"); (case h1 => walk_at "tw ss"))
  | (refine' Tw.qxs_forRi 0 (by assumption) PySem.PassesOwn.never rfl (by assumption) ?h0 ?h1; (case h0 => walk_at "tw a"); (case h1 => walk_at "tw ss"))
  | (refine' Tw.qxs_forRi 1 (by assumption) PySem.PassesOwn.never rfl (by assumption) ?h0 ?h1; (case h0 => walk_at "tw a"); (case h1 => walk_at "tw ss"))
  | (refine' Tw.qxs_forRi 2 (by assumption) PySem.PassesOwn.never rfl (by assumption) ?h0 ?h1; (case h0 => walk_at "tw a"); (case h1 => walk_at "tw ss"))
  | (refine' Tw.qxs_forRi 3 (by assumption) PySem.PassesOwn.never rfl (by assumption) ?h0 ?h1; (case h0 => walk_at "tw a"); (case h1 => walk_at "tw ss"))
  | (refine' Tw.qxs_forRi 4 (by assumption) PySem.PassesOwn.never rfl (by assumption) ?h0 ?h1; (case h0 => walk_at "tw a"); (case h1 => walk_at "tw ss"))
  | (refine' Tw.qxs_forRi 5 (by assumption) PySem.PassesOwn.never rfl (by assumption) ?h0 ?h1; (case h0 => walk_at "tw a"); (case h1 => walk_at "tw ss"))
  | (refine' Tw.qxs_forRi 6 (by assumption) PySem.PassesOwn.never rfl (by assumption) ?h0 ?h1; (case h0 => walk_at "tw a"); (case h1 => walk_at "tw ss"))
  | (refine' Tw.qxs_forRi 7 (by assumption) PySem.PassesOwn.never rfl (by assumption) ?h0 ?h1; (case h0 => walk_at "tw a"); (case h1 => walk_at "tw ss"))
  | (refine' Tw.qxs_forRi 8 (by assumption) PySem.PassesOwn.never rfl (by assumption) ?h0 ?h1; (case h0 => walk_at "tw a"); (case h1 => walk_at "tw ss"))
  | (refine' Tw.qxs_forRi 9 (by assumption) PySem.PassesOwn.never rfl (by assumption) ?h0 ?h1; (case h0 => walk_at "tw a"); (case h1 => walk_at "tw ss")) | (refine' Tw.qxs_forRi 10 (by assumption) PySem.PassesOwn.never rfl (by assumption) ?h0 ?h1; (case h0 => walk_at "tw a"); (case h1 => walk_at "tw ss")) | (refine' Tw.qxs_forRi 11 (by assumption) PySem.PassesOwn.never rfl (by assumption) ?h0 ?h1; (case h0 => walk_at "tw a"); (case h1 => walk_at "tw ss")) | (refine' Tw.qxs_forRi 12 (by assumption) PySem.PassesOwn.never rfl (by assumption) ?h0 ?h1; (case h0 => walk_at "tw a"); (case h1 => walk_at "tw ss")) | (refine' Tw.qxs_forRi 13 (by assumption) PySem.PassesOwn.never rfl (by assumption) ?h0 ?h1; (case h0 => walk_at "tw a"); (case h1 => walk_at "tw ss")) | (refine' Tw.qxs_forRi 14 (by assumption) PySem.PassesOwn.never rfl (by assumption) ?h0 ?h1; (case h0 => walk_at "tw a"); (case h1 => walk_at "tw ss")) | (refine' Tw.qxs_forRi 15 (by assumption) PySem.PassesOwn.never rfl (by assumption) ?h0 ?h1; (case h0 => walk_at "tw a"); (case h1 => walk_at "tw ss")) | (refine' Tw.qxs_forRi 16 (by assumption) PySem.PassesOwn.never rfl (by assumption) ?h0 ?h1; (case h0 => walk_at "tw a"); (case h1 => walk_at "tw ss")) | (refine' Tw.qxs_forRi 17 (by assumption) PySem.PassesOwn.never rfl (by assumption) ?h0 ?h1; (case h0 => walk_at "tw a"); (case h1 => walk_at "tw ss")) | (refine' Tw.qxs_forRi 18 (by assumption) PySem.PassesOwn.never rfl (by assumption) ?h0 ?h1; (case h0 => walk_at "tw a"); (case h1 => walk_at "tw ss")) | (refine' Tw.qxs_forRi 19 (by assumption) PySem.PassesOwn.never rfl (by assumption) ?h0 ?h1; (case h0 => walk_at "tw a"); (case h1 => walk_at "tw ss"))
  | (refine' Tw.qxs_fori 0 (by assumption) PySem.PassesOwn.never rfl ?h0 ?h1; (case h0 => walk_at "tw e"); (case h1 => walk_at "tw ss"))
  | (refine' Tw.qxs_fori 1 (by assumption) PySem.PassesOwn.never rfl ?h0 ?h1; (case h0 => walk_at "tw e"); (case h1 => walk_at "tw ss"))
  | (refine' Tw.qxs_fori 2 (by assumption) PySem.PassesOwn.never rfl ?h0 ?h1; (case h0 => walk_at "tw e"); (case h1 => walk_at "tw ss"))
  | (refine' Tw.qxs_fori 3 (by assumption) PySem.PassesOwn.never rfl ?h0 ?h1; (case h0 => walk_at "tw e"); (case h1 => walk_at "tw ss"))
  | (refine' Tw.qxs_fori 4 (by assumption) PySem.PassesOwn.never rfl ?h0 ?h1; (case h0 => walk_at "tw e"); (case h1 => walk_at "tw ss"))
  | (refine' Tw.qxs_fori 5 (by assumption) PySem.PassesOwn.never rfl ?h0 ?h1; (case h0 => walk_at "tw e"); (case h1 => walk_at "tw ss"))
  | (refine' Tw.qxs_fori 6 (by assumption) PySem.PassesOwn.never rfl ?h0 ?h1; (case h0 => walk_at "tw e"); (case h1 => walk_at "tw ss"))
  | (refine' Tw.qxs_fori 7 (by assumption) PySem.PassesOwn.never rfl ?h0 ?h1; (case h0 => walk_at "tw e"); (case h1 => walk_at "tw ss"))
  | (refine' Tw.qxs_fori 8 (by assumption) PySem.PassesOwn.never rfl ?h0 ?h1; (case h0 => walk_at "tw e"); (case h1 => walk_at "tw ss"))
  | (refine' Tw.qxs_fori 9 (by assumption) PySem.PassesOwn.never rfl ?h0 ?h1; (case h0 => walk_at "tw e"); (case h1 => walk_at "tw ss")) | (refine' Tw.qxs_fori 10 (by assumption) PySem.PassesOwn.never rfl ?h0 ?h1; (case h0 => walk_at "tw e"); (case h1 => walk_at "tw ss")) | (refine' Tw.qxs_fori 11 (by assumption) PySem.PassesOwn.never rfl ?h0 ?h1; (case h0 => walk_at "tw e"); (case h1 => walk_at "tw ss")) | (refine' Tw.qxs_fori 12 (by assumption) PySem.PassesOwn.never rfl ?h0 ?h1; (case h0 => walk_at "tw e"); (case h1 => walk_at "tw ss")) | (refine' Tw.qxs_fori 13 (by assumption) PySem.PassesOwn.never rfl ?h0 ?h1; (case h0 => walk_at "tw e"); (case h1 => walk_at "tw ss")) | (refine' Tw.qxs_fori 14 (by assumption) PySem.PassesOwn.never rfl ?h0 ?h1; (case h0 => walk_at "tw e"); (case h1 => walk_at "tw ss")) | (refine' Tw.qxs_fori 15 (by assumption) PySem.PassesOwn.never rfl ?h0 ?h1; (case h0 => walk_at "tw e"); (case h1 => walk_at "tw ss")) | (refine' Tw.qxs_fori 16 (by assumption) PySem.PassesOwn.never rfl ?h0 ?h1; (case h0 => walk_at "tw e"); (case h1 => walk_at "tw ss")) | (refine' Tw.qxs_fori 17 (by assumption) PySem.PassesOwn.never rfl ?h0 ?h1; (case h0 => walk_at "tw e"); (case h1 => walk_at "tw ss")) | (refine' Tw.qxs_fori 18 (by assumption) PySem.PassesOwn.never rfl ?h0 ?h1; (case h0 => walk_at "tw e"); (case h1 => walk_at "tw ss")) | (refine' Tw.qxs_fori 19 (by assumption) PySem.PassesOwn.never rfl ?h0 ?h1; (case h0 => walk_at "tw e"); (case h1 => walk_at "tw ss"))
  | (refine' Tw.qxs_forT (by assumption) PySem.PassesOwn.never rfl (by walk_at "tw tg") ?h0 ?h1; (case h0 => walk_at "tw e"); (case h1 => walk_at "tw ss"))
  | exact Tw.qxs_raise)
local macro_rules | `(tactic| walk_at "tw r") => `(tactic| simp only [Tw.runD, Tw.start0, Tw.fThen, Tw.fTest, Tw.fBin, Tw.fVar, Tw.fC, Tw.oI0, Tw.oI, Tw.oAdd, Tw.oIx, Tw.oEqN, Tw.oIs, Tw.isD, Tw.deq, Tw.deqL, Tw.flatE, Tw.frz, Tw.fPar, Tw.fCons, Tw.fNil, Tw.lf, Tw.lfL, Tw.fAsg, Tw.bindD, Tw.fIfS, Tw.fRet, Tw.fRetN, Tw.fCall, Tw.kAbs, Tw.kLen, Tw.kMax, Tw.fTup, Tw.fLst, Tw.fNeg, Tw.fNotV, Tw.fAndV, Tw.fOrV, Tw.bV, Tw.fNot, Tw.fAnd, Tw.fOr, Tw.fTru, Tw.truth, Tw.fIsi, Tw.isiB, Tw.tyD, Tw.items, Tw.fUnp, Tw.fUnS, Tw.setAll, Tw.fApp, Tw.fDrop, Tw.fIf, Tw.fBits, Tw.turnF, Tw.gfName, Tw.gfTup, Tw.isX, Tw.fIsX, Tw.fTry, Tw.fRCall, Tw.fRIf, Tw.fRN, Tw.fRaise, Tw.runR, Tw.k1_at,
  List.length_cons, List.length_nil, List.map_cons, List.map_nil, List.replicate, List.append_nil, List.nil_append, List.cons_append, List.getElem?_cons_zero, List.getElem?_cons_succ, List.set_cons_zero, List.set_cons_succ, Option.bind_some, Option.map_some, Option.bind_none, Option.map_none, if_true, if_false, Bool.false_eq_true, Nat.zero_add, Nat.reduceAdd, Nat.reduceSub, Nat.sub_self, Nat.add_zero, and_self, and_true, true_and, Bool.and_self, Bool.and_true, Bool.true_and, Bool.not_true, Bool.not_false, Bool.or_false, Bool.or_true, Bool.false_or, Bool.true_or, Bool.and_false, Bool.false_and, reduceIte, decide_true, decide_false, Nat.reduceEqDiff, Nat.reduceLeDiff])
namespace KS
open PySem L2 Tw
def CdSpec (g : List D → Option D) : Prop := ∀ a b : Int, 0 ≤ a → 0 ≤ b → g [.int a, .int b] = some (.int (Int.gcd a b : Nat))
def RatioSpec (g : List D → Option D) : Prop := ∀ t b : Int, b ≠ 0 → b.natAbs < big → g [.int t, .int b] = some (.tup [.int (rT t b), .int (rB t b)])
def PlusSpec (g : List D → Option D) : Prop := ∀ a b c d : Int, a.natAbs < sml → b.natAbs < sml → c.natAbs < sml → d.natAbs < sml → b ≠ 0 → d ≠ 0 → g [.tup [.int a, .int b], .tup [.int c, .int d]] = some (.tup [.int (rT (a * d + c * b) (b * d)), .int (rB (a * d + c * b) (b * d))])
def LessSpec (g : List D → Option D) : Prop := ∀ a b c d : Int, mOk a d → mOk c b → g [.tup [.int a, .int b], .tup [.int c, .int d]] = some (.bl (decide (a * d < c * b)))
/-! the law's own -/
def MixSpec (g : List D → Option D) : Prop := ∀ c k : Int, 0 ≤ k → k ≤ 1000 → ∃ m : Int, 0 ≤ m ∧ m < 2147483647 ∧ g [.int c, .int k] = some (.int m)
theorem mOkL {a b : Int} (h : a.natAbs < 2 ^ 64) : mOk a b := .inl h
theorem mOkR {a b : Int} (h : b.natAbs < 2 ^ 64) : mOk a b := .inr (.inl h)
def ComSpec (g : List D → Option D) : Prop := ∀ a b : Int, g [.int a, .int b] = some (.int (Int.gcd a b : Nat))
def LowSpec (g : List D → Option D) : Prop := ∀ t b : Int, b ≠ 0 → b.natAbs < big → g [.int t, .int b] = some (.tup [.int (t / (Int.gcd t b : Nat)), .int (b / (Int.gcd t b : Nat))])
theorem dOk_small {j : Int} (h0 : 0 < j) (h : j.natAbs < 2 ^ 200) : dOk j := ⟨h0, Nat.lt_of_lt_of_le h (by unfold big; exact Nat.pow_le_pow_right (by decide) (by decide))⟩
theorem cp {j : Int} (h0 : 0 ≤ j) (h : j ≤ 1000000) : CPow 10 j := ⟨h0, h, by decide⟩
def SizSpec (g : List D → Option D) : Prop := ∀ n w : Int, ∃ m : Int, m.natAbs < 10 ^ 60 ∧ (0 ≤ w → w < 6 → 0 ≤ m) ∧ g [.int n, .int w] = some (.int m)
theorem size_at (w : Int) : ∃ S : Int, 0 < S ∧ S ≤ 10 ^ 60 ∧ atI [D.int 3, .int 13, .int 1000, .int (10 ^ 12), .int (10 ^ 30), .int (10 ^ 60)] (w % 6) = some (D.int S) := by
  have h : w % 6 = 0 ∨ w % 6 = 1 ∨ w % 6 = 2 ∨ w % 6 = 3 ∨ w % 6 = 4 ∨ w % 6 = 5 := by omega
  rcases h with h | h | h | h | h | h <;> rw [h]
  · exact ⟨3, by decide, by decide, rfl⟩
  · exact ⟨13, by decide, by decide, rfl⟩
  · exact ⟨1000, by decide, by decide, rfl⟩
  · exact ⟨10 ^ 12, by decide, by decide, rfl⟩
  · exact ⟨10 ^ 30, by decide, by decide, rfl⟩
  · exact ⟨10 ^ 60, by decide, by decide, rfl⟩
def NumSpec (g : List D → Option D) : Prop := ∀ c many bs : Int, 0 ≤ many → many ≤ 80 → 0 < bs → bs.natAbs < 2 ^ 200 → ∃ ns : List Int, ns.length = many.toNat ∧ (∀ n ∈ ns, 0 ≤ n ∧ n < bs) ∧ g [.int c, .int many, .int bs] = some (.own (ns.map .int))
abbrev nWC : FT := fTest (fBin oLt (fMul (fVar 7) (fC (.int 30))) (fBin oAdd (fBits (fVar 2)) (fC (.int 8))))
abbrev nWB (g : List D → Option D) : FS := fThen (fAsg 6 (fBin oAdd (fMul (fVar 6) (fC (.int 2147483647))) (fCall g (fCons (fVar 0) (fCons (fBin oAdd (fMul (fC (.int 8)) (fVar 5)) (fVar 7)) fNil))))) (fAsg 7 (fBin oAdd (fVar 7) (fC (.int 1))))
noncomputable abbrev nB (g : List D → Option D) : FS := fThen (fAsg 6 (fVar 4)) (fThen (fIfS (fTest (fBin oGt (fVar 4) (fC (.int 0)))) (fAsg 4 (fDiv (fVar 4) (fVar 2))) (fThen (fAsg 6 (fC (.int 0))) (fThen (fAsg 7 (fC (.int 0))) (whileV nWC (nWB g))))) (fApp 3 (fMod (fVar 6) (fVar 2))))
theorem num_while {g : List D → Option D} (hg : MixSpec g) {c many bs left kk : Int} {xs : List D} (k0 : 0 ≤ kk) (k1 : kk ≤ 80) (bits : Builtin.Int.intBits bs ≤ 200) :
    ∃ y t : Int, whileV nWC (nWB g) [some (.int c), some (.int many), some (.int bs), some (.own xs), some (.int left), some (.int kk), some (.int 0), some (.int 0)] = some (.nx [some (.int c), some (.int many), some (.int bs), some (.own xs), some (.int left), some (.int kk), some (.int y), some (.int t)]) := by
  obtain ⟨ρ', e, ⟨y, t, t0, hρ⟩, _⟩ := whileV_inv (c := nWC) (b := nWB g) (fun ρ => ∃ y t : Int, (0 ≤ t ∧ t ≤ 10) ∧ ρ = [some (.int c), some (.int many), some (.int bs), some (.own xs), some (.int left), some (.int kk), some (.int y), some (.int t)])
    (fun ρ : Ev => match ρ[7]? with | some (some (D.int t)) => (20 - t).toNat | _ => 0) [some (.int c), some (.int many), some (.int bs), some (.own xs), some (.int left), some (.int kk), some (.int 0), some (.int 0)] ⟨0, 0, ⟨by decide, by decide⟩, rfl⟩ (by
      rintro ρ ⟨y, t, ⟨t0, t1⟩, rfl⟩
      have m1 : mOk t 30 := mOkR (by decide)
      have m2 : mOk y 2147483647 := mOkR (by decide)
      have m3 : mOk 8 kk := mOkL (by decide)
      by_cases q : t * 30 < (Builtin.Int.intBits bs : Int) + 8
      · refine .inr ⟨?_, ?_⟩
        · repeat (first | walk_at "tw r" | simp only [m1, q])
        · obtain ⟨m, _, _, hm⟩ := hg c (8 * kk + t) (by omega) (by omega)
          refine ⟨[some (.int c), some (.int many), some (.int bs), some (.own xs), some (.int left), some (.int kk), some (.int (y * 2147483647 + m)), some (.int (t + 1))], ?_, ⟨_, _, ⟨by omega, by omega⟩, rfl⟩, ?_⟩
          · repeat (first | walk_at "tw r" | simp only [m1, m2, m3, hm])
          · simp only [List.getElem?_cons_zero, List.getElem?_cons_succ]
            omega
      · refine .inl ?_
        repeat (first | walk_at "tw r" | simp only [m1, q]))
  exact ⟨y, t, by rw [e, hρ]⟩
/-! ratios in lowest terms, within a bound -/
structure Good (B : Nat) (p q : Int) : Prop where
  pos : 0 < q
  top : p.natAbs ≤ B
  bot : q.natAbs ≤ B
  low : Int.gcd p q = 1
theorem low_good {B : Nat} {t b : Int} (hb : 0 < b) (ht : t.natAbs ≤ B) (hB : b.natAbs ≤ B) : Good B (t / (Int.gcd t b : Nat)) (b / (Int.gcd t b : Nat)) := by
  have hp : 0 < Int.gcd t b := Nat.pos_of_ne_zero (by rw [Int.gcd]; intro z; have := Int.natAbs_eq_zero.mp (Nat.gcd_eq_zero_iff.mp z).2; omega)
  have hd : ((Int.gcd t b : Nat) : Int) ∣ b := Int.gcd_dvd_right ..
  have h1 : ((Int.gcd t b : Nat) : Int) ≤ b := Int.le_of_dvd hb hd
  refine ⟨Int.ediv_pos_of_pos_of_dvd hb (by omega) hd, Nat.le_trans (Int.natAbs_ediv_le_natAbs _ _) ht, Nat.le_trans (Int.natAbs_ediv_le_natAbs _ _) hB, ?_⟩
  exact Int.gcd_ediv_gcd_ediv_gcd hp
theorem dvd_of_low {a b d : Int} (h : Int.gcd a b = 1) (q : b ∣ a * d) : b ∣ d := by
  have q' := Int.natAbs_dvd_natAbs.mpr q
  rw [Int.natAbs_mul] at q'
  have c : Nat.Coprime b.natAbs a.natAbs := by
    show Nat.gcd b.natAbs a.natAbs = 1
    rw [Nat.gcd_comm]; exact h
  exact Int.natAbs_dvd_natAbs.mp (Nat.Coprime.dvd_of_dvd_mul_left c q')
/-- the same fraction is the same ratio -/
theorem same_of {B B' : Nat} {a b c d : Int} (x : Good B a b) (y : Good B' c d) (h : a * d = c * b) : a = c ∧ b = d := by
  have hbd : b ∣ d := by
    have : b ∣ a * d := ⟨c, by rw [h, Int.mul_comm]⟩
    exact dvd_of_low x.low this
  have hdb : d ∣ b := by
    have : d ∣ c * b := ⟨a, by rw [← h, Int.mul_comm]⟩
    exact dvd_of_low y.low this
  have e : b = d := by
    have h1 := Int.le_of_dvd y.pos hbd
    have h2 := Int.le_of_dvd x.pos hdb
    omega
  subst e
  exact ⟨Int.eq_of_mul_eq_mul_right (Int.ne_of_gt x.pos) h, rfl⟩
theorem atI_ints {ns : List Int} {i : Int} (h0 : 0 ≤ i) (h1 : i < ns.length) : ∃ n ∈ ns, atI (ns.map D.int) i = some (.int n) := by
  obtain ⟨j, rfl⟩ := Int.eq_ofNat_of_zero_le h0
  have hj : j < ns.length := by omega
  exact ⟨ns[j], List.getElem_mem hj, atI_nat (by rw [List.getElem?_map, List.getElem?_eq_getElem hj]; rfl)⟩
def DrawnSpec (g : List D → Option D) : Prop := ∀ (ns : List Int) (i : Int) (B : Nat), (∀ n ∈ ns, 0 ≤ n ∧ n < 10 ^ 60) → 0 ≤ i → i + 3 < ns.length → 10 ^ 60 ≤ B → B < 10 ^ 70 →
  (∃ p q : Int, Good (B + 1) p q ∧ g [.lst (ns.map D.int), .int i, .non] = some (.tup [.int p, .int q])) ∧
  ∀ p q : Int, Good B p q → ∃ p' q' : Int, Good (B + 1) p' q' ∧ g [.lst (ns.map D.int), .int i, .tup [.int p, .int q]] = some (.tup [.int p', .int q'])
theorem small_big {x : Int} {B : Nat} (h : x.natAbs ≤ B + 1) (hB : B < 10 ^ 70) : x.natAbs < big := by
  have : (10 : Nat) ^ 70 + 1 < 2 ^ 250 := by decide
  exact Nat.lt_of_lt_of_le (show x.natAbs < 2 ^ 250 by omega) (by unfold big; exact Nat.pow_le_pow_right (by decide) (by decide))
/-! the order of fractions -/
theorem mul_cancel {a b m : Int} (hm : 0 < m) (h : a * m < b * m) : a < b := Int.lt_of_mul_lt_mul_right h (Int.le_of_lt hm)
theorem lt_trans3 {a b c d e f : Int} (hb : 0 < b) (hd : 0 < d) (hf : 0 < f) (h1 : a * d < c * b) (h2 : c * f < e * d) : a * f < e * b := by
  have x1 := Int.mul_lt_mul_of_pos_right h1 hf
  have x2 := Int.mul_lt_mul_of_pos_right h2 hb
  refine mul_cancel hd ?_
  have e1 : a * f * d = a * d * f := by rw [Int.mul_assoc, Int.mul_comm f d, ← Int.mul_assoc]
  have e2 : c * b * f = c * f * b := by rw [Int.mul_assoc, Int.mul_comm b f, ← Int.mul_assoc]
  have e3 : e * d * b = e * b * d := by rw [Int.mul_assoc, Int.mul_comm d b, ← Int.mul_assoc]
  omega
theorem rT_rB {t b : Int} (hb : 0 < b) : rT t b * b = t * rB t b ∧ 0 < rB t b := by
  have nb : ¬ b < 0 := by omega
  have hp : 0 < Int.gcd t b := Nat.pos_of_ne_zero (by rw [Int.gcd]; intro z; have := Int.natAbs_eq_zero.mp (Nat.gcd_eq_zero_iff.mp z).2; omega)
  have d1 : ((Int.gcd t b : Nat) : Int) ∣ t := Int.gcd_dvd_left ..
  have d2 : ((Int.gcd t b : Nat) : Int) ∣ b := Int.gcd_dvd_right ..
  unfold rT rB
  rw [if_neg nb, if_neg nb]
  refine ⟨?_, Int.ediv_pos_of_pos_of_dvd hb (by omega) d2⟩
  obtain ⟨x, hx⟩ := d1
  obtain ⟨y, hy⟩ := d2
  have g0 : ((Int.gcd t b : Nat) : Int) ≠ 0 := by omega
  have q1 : t / (Int.gcd t b : Nat) = x := by
    conv => lhs; lhs; rw [hx]
    exact Int.mul_ediv_cancel_left x g0
  have q2 : b / (Int.gcd t b : Nat) = y := by
    conv => lhs; lhs; rw [hy]
    exact Int.mul_ediv_cancel_left y g0
  rw [q1, q2]
  conv => lhs; rhs; rw [hy]
  conv => rhs; lhs; rw [hx]
  rw [← Int.mul_assoc, Int.mul_comm x]
/-- crosswise with the reduced ones is crosswise with the given ones -/
theorem red_lt {s b t d : Int} (hb : 0 < b) (hd : 0 < d) : (rT s b * rB t d < rT t d * rB s b) ↔ s * d < t * b := by
  obtain ⟨e1, p1⟩ := rT_rB (t := s) hb
  obtain ⟨e2, p2⟩ := rT_rB (t := t) hd
  have bd : 0 < b * d := Int.mul_pos hb hd
  have pp : 0 < rB s b * rB t d := Int.mul_pos p1 p2
  have l : rT s b * rB t d * (b * d) = s * d * (rB s b * rB t d) := by
    have : rT s b * rB t d * (b * d) = (rT s b * b) * (rB t d * d) := by ac_rfl
    rw [this, e1]; ac_rfl
  have r : rT t d * rB s b * (b * d) = t * b * (rB s b * rB t d) := by
    have : rT t d * rB s b * (b * d) = (rT t d * d) * (rB s b * b) := by ac_rfl
    rw [this, e2]; ac_rfl
  constructor
  · intro h
    have := Int.mul_lt_mul_of_pos_right h bd
    rw [l, r] at this
    exact mul_cancel pp this
  · intro h
    have := Int.mul_lt_mul_of_pos_right h pp
    rw [← l, ← r] at this
    exact mul_cancel bd this
/-- as much put to both changes nothing -/
theorem plus_lt {a b c d e f : Int} (hb : 0 < b) (hd : 0 < d) (hf : 0 < f) : (rT (a * f + e * b) (b * f) * rB (c * f + e * d) (d * f) < rT (c * f + e * d) (d * f) * rB (a * f + e * b) (b * f)) ↔ a * d < c * b := by
  rw [red_lt (Int.mul_pos hb hf) (Int.mul_pos hd hf)]
  have ff : 0 < f * f := Int.mul_pos hf hf
  have l : (a * f + e * b) * (d * f) = a * d * (f * f) + e * b * (d * f) := by rw [Int.add_mul]; congr 1; ac_rfl
  have r : (c * f + e * d) * (b * f) = c * b * (f * f) + e * b * (d * f) := by rw [Int.add_mul]; congr 1 <;> ac_rfl
  rw [l, r]
  constructor
  · intro h
    exact mul_cancel ff (by omega)
  · intro h
    have := Int.mul_lt_mul_of_pos_right h ff
    omega
theorem Good.mono {B B' : Nat} {p q : Int} (h : Good B p q) (hb : B ≤ B') : Good B' p q := ⟨h.pos, Nat.le_trans h.top hb, Nat.le_trans h.bot hb, h.low⟩
abbrev tp (a b : Int) : D := .tup [.int a, .int b]
theorem frzO_some (d : D) : frzO (some d) = some (frz d) := rfl
end KS

set_option Elab.async false
set_option linter.all false
set_option maxRecDepth 100000
set_option maxHeartbeats 4000000
namespace KS
open PySem L2 Tw
/-! what a thing of any kind is -/
def isW : D → Bool
  | .int _ => true
  | _ => false
def isRow (n : Int) : D → Bool
  | .tup xs => decide ((xs.length : Int) = n)
  | _ => false
def isR : D → Bool
  | .tup [.int p, .int q] => decide (0 < q) && decide (Int.gcd p q = 1)
  | _ => false
def nX : D → Bool
  | .exn _ => false
  | .tup xs => xs.all fun d => !isX d
  | _ => true
def WholeSpec (g : List D → Option D) : Prop := ∀ d, isX d = false → g [d] = some (.bl (isW d))
def RowSpec (g : List D → Option D) : Prop := ∀ d n, isX d = false → g [d, .int n] = some (.bl (isRow n d))
def IsrSpec (g : List D → Option D) : Prop := ∀ d, nX d = true → g [d] = some (.bl (isR d))
def OddSpec (g : List D → Option D) : Prop := ∀ p q far way : Int, 0 < q → p.natAbs < 2 ^ 250 → q.natAbs < 2 ^ 250 → ∃ d, g [.tup [.int p, .int q], .int far, .int way] = some d ∧ isR d = false ∧ nX d = true
theorem isR_good {B : Nat} {p q : Int} (h : Good B p q) : isR (.tup [.int p, .int q]) = true := by
  simp [isR, h.pos, h.low]
theorem isR_times {p q b : Int} (h : 2 ≤ b) : isR (.tup [.int (p * b), .int (q * b)]) = false := by
  have : ¬ Int.gcd (p * b) (q * b) = 1 := by
    intro z
    rw [Int.gcd_mul_right] at z
    have hb : b.natAbs ∣ 1 := ⟨Int.gcd p q, by rw [Nat.mul_comm]; exact z.symm⟩
    have := Nat.le_of_dvd (by decide) hb
    omega
  simp [isR, this]
theorem isR_zero {b : Int} (h : 2 ≤ b) : isR (.tup [.int 0, .int b]) = false := by
  have : ¬ Int.gcd 0 b = 1 := by
    rw [Int.gcd_zero_left]; omega
  show (decide (0 < b) && decide (Int.gcd 0 b = 1)) = false
  rw [decide_eq_false this, Bool.and_false]
theorem isR_neg {p q : Int} (h : q ≤ 0) : isR (.tup [.int p, .int q]) = false := by
  have : ¬ 0 < q := by omega
  simp [isR, this]
abbrev oddL (a b c : Int) (s1 s2 : Str) : List D := [.tup [.int (a * c), .int (b * c)], .tup [.int a, .int 0], .tup [.int a, .int (0 - b)], .own [.int a, .int b], .tup [.int a], .tup [.int a, .int b, .int 1], .non, .int a,
  .tup [.bl true, .int b], .tup [.int a, .bl true], .tup [.str s1, .int b], .tup [.int a, .str s2], .tup [.int a, .non], .tup [.tup [.int a], .int b],
  .str "1/2", .tup [], .dic, .tup [.int 0, .int c], .tup [.int 0, .int 0], .tup [.bl false, .int 1]]
theorem odd_at {a b c : Int} {s1 s2 : Str} (hb : 0 < b) (hc : 2 ≤ c) (way : Int) : ∃ d, atI (oddL a b c s1 s2) (way % 20) = some d ∧ isR (frz d) = false ∧ nX (frz d) = true := by
  have q := isR_times (p := a) (q := b) hc
  have q2 := isR_zero hc
  have q3 := isR_neg (p := a) (q := 0) (by decide)
  have q4 := isR_neg (p := a) (q := 0 - b) (by omega)
  have w0 := Int.emod_nonneg way (show (20 : Int) ≠ 0 by decide)
  have w1 := Int.emod_lt_of_pos way (show (0 : Int) < 20 by decide)
  generalize way % 20 = ww at w0 w1
  have h : ww = 0 ∨ ww = 1 ∨ ww = 2 ∨ ww = 3 ∨ ww = 4 ∨ ww = 5 ∨ ww = 6 ∨ ww = 7 ∨ ww = 8 ∨ ww = 9 ∨ ww = 10 ∨ ww = 11 ∨ ww = 12 ∨ ww = 13 ∨ ww = 14 ∨ ww = 15 ∨ ww = 16 ∨ ww = 17 ∨ ww = 18 ∨ ww = 19 := by omega
  rcases h with rfl | rfl | rfl | rfl | rfl | rfl | rfl | rfl | rfl | rfl | rfl | rfl | rfl | rfl | rfl | rfl | rfl | rfl | rfl | rfl
  all_goals first | exact ⟨_, rfl, rfl, rfl⟩ | exact ⟨_, rfl, q, rfl⟩ | exact ⟨_, rfl, q2, rfl⟩ | exact ⟨_, rfl, q3, rfl⟩ | exact ⟨_, rfl, q4, rfl⟩
theorem isX_frz (d : D) : isX (frz d) = isX d := by cases d <;> rfl
/-- of a bottom of 0 -/
def RatioR (c : Addr) (gx : List D → Option Addr) : Prop := ∀ t : Int, gx [.int t, .int 0] = some c
def LisSpec (g : List D → Option D) : Prop := ∀ p q t b : Int, 0 < q → Int.gcd p q = 1 → p * b = t * q → mOk p b → mOk t q → g [.tup [.int p, .int q], .int t, .int b] = some (.bl true)
theorem gcd_neg2 (t b : Int) : Int.gcd (-t) (-b) = Int.gcd t b := by unfold Int.gcd; rw [Int.natAbs_neg, Int.natAbs_neg]
theorem rT_spec {t b : Int} (h : b ≠ 0) : 0 < rB t b ∧ Int.gcd (rT t b) (rB t b) = 1 ∧ rT t b * b = t * rB t b ∧ (rT t b).natAbs ≤ t.natAbs ∧ (rB t b).natAbs ≤ b.natAbs := by
  have key : ∀ t b : Int, 0 < b → 0 < b / (Int.gcd t b : Nat) ∧ Int.gcd (t / (Int.gcd t b : Nat)) (b / (Int.gcd t b : Nat)) = 1 ∧ t / (Int.gcd t b : Nat) * b = t * (b / (Int.gcd t b : Nat)) ∧ (t / (Int.gcd t b : Nat)).natAbs ≤ t.natAbs ∧ (b / (Int.gcd t b : Nat)).natAbs ≤ b.natAbs := fun t b hb => by
    have g := low_good (B := t.natAbs + b.natAbs) (t := t) (b := b) hb (by omega) (by omega)
    have e := (rT_rB (t := t) hb).1
    unfold rT rB at e
    rw [if_neg (by omega), if_neg (by omega)] at e
    exact ⟨g.pos, g.low, e, Int.natAbs_ediv_le_natAbs _ _, Int.natAbs_ediv_le_natAbs _ _⟩
  by_cases n : b < 0
  · have k := key (-t) (-b) (by omega)
    rw [gcd_neg2] at k
    unfold rT rB
    rw [if_pos n, if_pos n]
    obtain ⟨k1, k2, k3, k4, k5⟩ := k
    refine ⟨k1, k2, ?_, by rw [Int.natAbs_neg] at k4; exact k4, by rw [Int.natAbs_neg] at k5; exact k5⟩
    rw [Int.mul_neg, Int.neg_mul] at k3
    omega
  · have k := key t b (by omega)
    unfold rT rB
    rw [if_neg n, if_neg n]
    exact k
theorem rT_neg {t b : Int} (h : b ≠ 0) : rT (0 - t) (0 - b) = rT t b ∧ rB (0 - t) (0 - b) = rB t b := by
  rw [Int.zero_sub, Int.zero_sub]
  unfold rT rB
  rw [gcd_neg2]
  by_cases n : b < 0
  · rw [if_pos n, if_pos n, if_neg (by omega), if_neg (by omega)]; exact ⟨rfl, rfl⟩
  · rw [if_neg n, if_neg n, if_pos (by omega), if_pos (by omega), Int.neg_neg, Int.neg_neg]; exact ⟨rfl, rfl⟩
theorem rT_zero (b : Int) : rT 0 b = 0 := by
  unfold rT
  rw [Int.neg_zero, ite_self, Int.zero_ediv]
/-- a cell's turn ends well -/
def Fin (xs : List D) (n : Nat) (r : Option R) : Prop := ∃ (ρ' : Ev) (c' : Option D), List.length ρ' = n ∧ r = some (.nx (some (.scr xs) :: c' :: ρ'))
theorem then_ex {F G : FS} {ρ : Ev} (Q : Ev → Prop) {Z : Option R → Prop} (h : ∃ ρ', F ρ = some (.nx ρ') ∧ Q ρ') (h2 : ∀ ρ', Q ρ' → Z (G ρ')) : Z (fThen F G ρ) := by
  obtain ⟨ρ', e, q⟩ := h
  rw [then_nx e]
  exact h2 ρ' q
theorem then_eq {F G : FS} {ρ ρ' : Ev} {Z : Option R → Prop} (h : F ρ = some (.nx ρ')) (h2 : Z (G ρ')) : Z (fThen F G ρ) := by rw [then_nx h]; exact h2
end KS

set_option Elab.async false
set_option linter.all false
set_option maxRecDepth 100000
set_option maxHeartbeats 4000000
namespace KS
open PySem L2 Tw
def MinusSpec (g : List D → Option D) : Prop := ∀ a b c d : Int, a.natAbs < sml → b.natAbs < sml → c.natAbs < sml → d.natAbs < sml → b ≠ 0 → d ≠ 0 → g [.tup [.int a, .int b], .tup [.int c, .int d]] = some (.tup [.int (rT (a * d - c * b) (b * d)), .int (rB (a * d - c * b) (b * d))])
def TimesSpec (g : List D → Option D) : Prop := ∀ a b c d : Int, a.natAbs < sml → b.natAbs < sml → c.natAbs < sml → d.natAbs < sml → b ≠ 0 → d ≠ 0 → g [.tup [.int a, .int b], .tup [.int c, .int d]] = some (.tup [.int (rT (a * c) (b * d)), .int (rB (a * c) (b * d))])
def OverSpec (g : List D → Option D) : Prop := ∀ a b c d : Int, a.natAbs < sml → b.natAbs < sml → c.natAbs < sml → d.natAbs < sml → b ≠ 0 → c ≠ 0 → g [.tup [.int a, .int b], .tup [.int c, .int d]] = some (.tup [.int (rT (a * d) (b * c)), .int (rB (a * d) (b * c))])
def OverR (c : Addr) (gx : List D → Option Addr) : Prop := ∀ a b : Int, gx [.tup [.int a, .int b], .tup [.int 0, .int 1]] = some c
/-- what is made of two whole numbers is their ratio -/
theorem lis_of {g : List D → Option D} (h : LisSpec g) {t b : Int} (hb : b ≠ 0) (ht : t.natAbs < sml) (hs : b.natAbs < sml) : g [.tup [.int (rT t b), .int (rB t b)], .int t, .int b] = some (.bl true) := by
  obtain ⟨s1, s2, s3, s4, s5⟩ := rT_spec (t := t) hb
  exact h _ _ t b s1 s2 s3 (mOk_sml (by omega) hs) (mOk_sml ht (by omega))
end KS

set_option Elab.async false
set_option linter.all false
set_option maxRecDepth 100000
set_option maxHeartbeats 1500000
namespace K2
open PySem L2 Tw KS
def top (i : Nat) : Stmt := PySem.Challenge.pw_twainhoard_k02_ratios_reckoned.main.body.getD i (.Pass ⟨0, 0, 0, 0⟩)
abbrev sCd : Stmt := top 5
abbrev sRatio : Stmt := top 6
abbrev sPlus : Stmt := top 7
abbrev sMinus : Stmt := top 8
abbrev sTimes : Stmt := top 9
abbrev sOver : Stmt := top 10
abbrev sMixed : Stmt := top 12
abbrev sNumbers : Stmt := top 13
abbrev sLwhole : Stmt := top 14
abbrev sCommon : Stmt := top 15
abbrev sLis : Stmt := top 16
abbrev sSized : Stmt := top 17
abbrev sLowest : Stmt := top 18
abbrev sRef : Stmt := top 19
abbrev sLaw : Stmt := top 21
abbrev sRight : Stmt := top 20
section
variable {P : Program} {w : World} {K : PySem.W.Frag} {mg : Str → Option Value} {base : Heap} {f : Addr} {fd : FuncData} {k : Nat}
theorem scCd : FnScope ["one", "other"] ["one", "other"] (defScope sCd) := ⟨rfl, rfl, rfl, by decide +kernel, rfl, by decide +kernel, by decide +kernel⟩
theorem fn_cd (F : Fun K "common_divisor" "common_divisor" sCd f fd) (B : Binds K fd ["one", "other"] []) (hm : mg "common_divisor" = some (.ref f)) : ∃ g, Fn P w K mg base "common_divisor" (k + 1) g ∧ CdSpec g := by
  have nd := scCd.nd
  refine ⟨_, fn_mk F scCd B hm rfl rfl (fun cdv A outer s H E hr => (by walk_at "tw ss" : QSs _ _ _).to), fun a b ha hb => ?_⟩
  have l := gcd_loop a b ha hb
  walk_at "tw r"
  rw [l]
  walk_at "tw r"
theorem scRatio : FnScope ["top", "bottom", "common"] ["top", "bottom"] (defScope sRatio) := ⟨rfl, rfl, rfl, by decide +kernel, rfl, by decide +kernel, by decide +kernel⟩
theorem fn_ratio {g : List D → Option D} (G : Fn P w K mg base "common_divisor" k g) (hg : CdSpec g) (ma : mg "abs" = none) (F : Fun K "ratio" "ratio" sRatio f fd) (B : Binds K fd ["top", "bottom"] []) (hm : mg "ratio" = some (.ref f)) : ∃ g, Fn P w K mg base "ratio" (k + 1) g ∧ RatioSpec g := by
  have nd := scRatio.nd
  refine ⟨_, fn_mk F scRatio B hm rfl rfl (fun cdv A outer s H E hr => (by walk_at "tw ss" : QSs _ _ _).to), fun t b hb hs => ?_⟩
  have d := gcd_ok (t := t) hb hs
  have ab : (0 : Int) ≤ (if t < 0 then -t else t) := by split <;> omega
  have z0 : (b == 0) = false := by simpa using hb
  by_cases n : b < 0
  · have c := hg (if -t < 0 then - -t else -t) (-b) (by split <;> omega) (by omega)
    have e : Int.gcd (if -t < 0 then - -t else -t) (-b) = Int.gcd t b := by
      unfold Int.gcd
      congr 1
      · split <;> omega
      · omega
    rw [e] at c
    walk_at "tw r"
    rw [z0]
    walk_at "tw r"
    simp only [n]
    walk_at "tw r"
    rw [c]
    walk_at "tw r"
    simp only [d]
    walk_at "tw r"
    simp [rT, rB, n, lim]
  · have c := hg (if t < 0 then -t else t) b ab (by omega)
    have e : Int.gcd (if t < 0 then -t else t) b = Int.gcd t b := by
      unfold Int.gcd
      congr 1
      split <;> omega
    rw [e] at c
    walk_at "tw r"
    rw [z0]
    walk_at "tw r"
    simp only [n]
    walk_at "tw r"
    rw [c]
    walk_at "tw r"
    simp only [d]
    walk_at "tw r"
    simp [rT, rB, n, lim]
theorem fn_ratioR {c : Addr} (ex : mg "NoRatio" = some (.ref c)) (q : PySem.W.excIn K c bmV nwV = true) (F : Fun K "ratio" "ratio" sRatio f fd) (B : Binds K fd ["top", "bottom"] []) (hm : mg "ratio" = some (.ref f)) : ∃ gx, FnR P w K mg base "ratio" (k + 1) gx ∧ RatioR c gx := by
  refine ⟨_, fnR_mk F scRatio B hm rfl rfl (fun cdv A outer s H E hr => prs_here (pr_if (by walk_at "tw t") (prs_here (pr_raise rfl ex q (by walk_at "tw a"))) prs_nil)), fun t => ?_⟩
  have z : ((0 : Int) == 0) = true := rfl
  have l1 : 1 ≤ lim := by decide
  repeat (first | walk_at "tw r" | simp only [z, l1])
theorem scPlus : FnScope ["one", "other"] ["one", "other"] (defScope sPlus) := ⟨rfl, rfl, rfl, by decide +kernel, rfl, by decide +kernel, by decide +kernel⟩
theorem fn_plus {g : List D → Option D} (G : Fn P w K mg base "ratio" k g) (hg : RatioSpec g) (F : Fun K "plus" "plus" sPlus f fd) (B : Binds K fd ["one", "other"] []) (hm : mg "plus" = some (.ref f)) : ∃ g, Fn P w K mg base "plus" (k + 1) g ∧ PlusSpec g := by
  have nd := scPlus.nd
  refine ⟨_, fn_mk F scPlus B hm rfl rfl (fun cdv A outer s H E hr => (by walk_at "tw ss" : QSs _ _ _).to), fun a b c d ha hb hc hd zb zd => ?_⟩
  have m1 := mOk_sml ha hd
  have m2 := mOk_sml hc hb
  have m3 := mOk_sml hb hd
  have r := hg (a * d + c * b) (b * d) (Int.mul_ne_zero zb zd) (mul_big hb hd)
  walk_at "tw r"
  simp only [show ∀ x y : D, atI [x, y] 0 = some x from fun _ _ => rfl, show ∀ x y : D, atI [x, y] 1 = some y from fun _ _ => rfl]
  walk_at "tw r"
  simp only [m1, m2, m3]
  walk_at "tw r"
  rw [r]
  rfl
theorem scMinus : FnScope ["one", "other"] ["one", "other"] (defScope sMinus) := ⟨rfl, rfl, rfl, by decide +kernel, rfl, by decide +kernel, by decide +kernel⟩
theorem fn_minus {g : List D → Option D} (G : Fn P w K mg base "ratio" k g) (hg : RatioSpec g) (F : Fun K "minus" "minus" sMinus f fd) (B : Binds K fd ["one", "other"] []) (hm : mg "minus" = some (.ref f)) : ∃ g, Fn P w K mg base "minus" (k + 1) g ∧ MinusSpec g := by
  have nd := scMinus.nd
  refine ⟨_, fn_mk F scMinus B hm rfl rfl (fun cdv A outer s H E hr => (by walk_at "tw ss" : QSs _ _ _).to), fun a b c d ha hb hc hd zb zd => ?_⟩
  have a0 : ∀ u v : D, atI [u, v] 0 = some u := fun _ _ => rfl
  have a1 : ∀ u v : D, atI [u, v] 1 = some v := fun _ _ => rfl
  have m1 := mOk_sml ha hd
  have m2 := mOk_sml hc hb
  have m3 := mOk_sml hb hd
  have r := hg (a * d - c * b) (b * d) (Int.mul_ne_zero zb zd) (mul_big hb hd)
  repeat (first | walk_at "tw r" | simp only [a0, a1, m1, m2, m3, r])
theorem scTimes : FnScope ["one", "other"] ["one", "other"] (defScope sTimes) := ⟨rfl, rfl, rfl, by decide +kernel, rfl, by decide +kernel, by decide +kernel⟩
theorem fn_times {g : List D → Option D} (G : Fn P w K mg base "ratio" k g) (hg : RatioSpec g) (F : Fun K "times" "times" sTimes f fd) (B : Binds K fd ["one", "other"] []) (hm : mg "times" = some (.ref f)) : ∃ g, Fn P w K mg base "times" (k + 1) g ∧ TimesSpec g := by
  have nd := scTimes.nd
  refine ⟨_, fn_mk F scTimes B hm rfl rfl (fun cdv A outer s H E hr => (by walk_at "tw ss" : QSs _ _ _).to), fun a b c d ha hb hc hd zb zd => ?_⟩
  have a0 : ∀ u v : D, atI [u, v] 0 = some u := fun _ _ => rfl
  have a1 : ∀ u v : D, atI [u, v] 1 = some v := fun _ _ => rfl
  have m1 := mOk_sml ha hc
  have m2 := mOk_sml hb hd
  have m3 := mOk_sml hb hd
  have r := hg (a * c) (b * d) (Int.mul_ne_zero zb zd) (mul_big hb hd)
  repeat (first | walk_at "tw r" | simp only [a0, a1, m1, m2, m3, r])
theorem scOver : FnScope ["one", "other"] ["one", "other"] (defScope sOver) := ⟨rfl, rfl, rfl, by decide +kernel, rfl, by decide +kernel, by decide +kernel⟩
theorem fn_over {g : List D → Option D} (G : Fn P w K mg base "ratio" k g) (hg : RatioSpec g) (F : Fun K "over" "over" sOver f fd) (B : Binds K fd ["one", "other"] []) (hm : mg "over" = some (.ref f)) : ∃ g, Fn P w K mg base "over" (k + 1) g ∧ OverSpec g := by
  have nd := scOver.nd
  refine ⟨_, fn_mk F scOver B hm rfl rfl (fun cdv A outer s H E hr => (by walk_at "tw ss" : QSs _ _ _).to), fun a b c d ha hb hc hd zb zd => ?_⟩
  have a0 : ∀ u v : D, atI [u, v] 0 = some u := fun _ _ => rfl
  have a1 : ∀ u v : D, atI [u, v] 1 = some v := fun _ _ => rfl
  have m1 := mOk_sml ha hd
  have m2 := mOk_sml hb hc
  have m3 := mOk_sml hb hc
  have r := hg (a * d) (b * c) (Int.mul_ne_zero zb zd) (mul_big hb hc)
  repeat (first | walk_at "tw r" | simp only [a0, a1, m1, m2, m3, r])
theorem fn_overR {c : Addr} {gx : List D → Option Addr} (R : FnR P w K mg base "ratio" k gx) (hx : RatioR c gx) (F : Fun K "over" "over" sOver f fd) (B : Binds K fd ["one", "other"] []) (hm : mg "over" = some (.ref f)) : ∃ gx, FnR P w K mg base "over" (k + 1) gx ∧ OverR c gx := by
  refine ⟨_, fnR_mk F scOver B hm rfl rfl (fun cdv A outer s H E hr => prs_here (pr_ret (pre_call R hr (by walk_at "tw a")))), fun a b => ?_⟩
  have a0 : ∀ u v : D, atI [u, v] 0 = some u := fun _ _ => rfl
  have a1 : ∀ u v : D, atI [u, v] 1 = some v := fun _ _ => rfl
  have m1 : mOk a 1 := mOkR (by decide)
  have m2 : mOk b 0 := mOkR (by decide)
  have r := hx (a * 1)
  repeat (first | walk_at "tw r" | simp only [a0, a1, m1, m2, Int.mul_zero, r])
theorem scMixed : FnScope ["cell", "k", "number"] ["cell", "k"] (defScope sMixed) := ⟨rfl, rfl, rfl, by decide +kernel, rfl, by decide +kernel, by decide +kernel⟩
theorem fn_mixed (F : Fun K "_law_mixed" "_law_mixed" sMixed f fd) (B : Binds K fd ["cell", "k"] []) (hm : mg "_law_mixed" = some (.ref f)) : ∃ g, Fn P w K mg base "_law_mixed" (k + 1) g ∧ MixSpec g := by
  have nd := scMixed.nd
  refine ⟨_, fn_mk F scMixed B hm rfl rfl (fun cdv A outer s H E hr => (by walk_at "tw ss" : QSs _ _ _).to), fun c k h0 h1 => ?_⟩
  have b1 := Int.emod_nonneg ((c % 2147483629 + 7919 * k + 11) * 48271) (show (2147483647 : Int) ≠ 0 by decide)
  have b2 := Int.emod_lt_of_pos ((c % 2147483629 + 7919 * k + 11) * 48271) (show (0 : Int) < 2147483647 by decide)
  have m1 : mOk 7919 k := mOkL (by decide)
  have m2 : mOk (c % 2147483629 + 7919 * k + 11) 48271 := mOkR (by decide)
  have m3 : mOk ((c % 2147483629 + 7919 * k + 11) * 48271 % 2147483647) ((c % 2147483629 + 7919 * k + 11) * 48271 % 2147483647) := mOkL (by omega)
  have m4 : mOk 104729 k := mOkL (by decide)
  have m5 : ∀ x : Int, mOk x 39373 := fun x => mOkR (by decide)
  have p1 : (0 : Int) < 2147483629 := by decide
  have p2 : (0 : Int) < 2147483647 := by decide
  refine ⟨(((c % 2147483629 + 7919 * k + 11) * 48271 % 2147483647) * ((c % 2147483629 + 7919 * k + 11) * 48271 % 2147483647) % 2147483629 + 104729 * k) % 2147483629 * 39373 % 2147483647, Int.emod_nonneg _ (show (2147483647 : Int) ≠ 0 by decide), Int.emod_lt_of_pos _ p2, ?_⟩
  repeat (first | walk_at "tw r" | simp only [p1, p2, m1, m2, m3, m4, m5])
theorem scNumbers : FnScope ["cell", "many", "base", "found", "left", "k", "number", "turns"] ["cell", "many", "base"] (defScope sNumbers) := ⟨rfl, rfl, rfl, by decide +kernel, rfl, by decide +kernel, by decide +kernel⟩
theorem fn_numbers {g : List D → Option D} (G : Fn P w K mg base "_law_mixed" k g) (hg : MixSpec g) (mr : mg "range" = none) (F : Fun K "_law_numbers" "_law_numbers" sNumbers f fd) (B : Binds K fd ["cell", "many", "base"] []) (hm : mg "_law_numbers" = some (.ref f)) : ∃ g, Fn P w K mg base "_law_numbers" (k + 1) g ∧ NumSpec g := by
  have nd := scNumbers.nd
  refine ⟨_, fn_mk F scNumbers B hm rfl rfl (fun cdv A outer s H E hr => (by walk_at "tw ss" : QSs _ _ _).to), fun c many bs h0 h1 b0 b1 => ?_⟩
  have c1 : CPow 10 18 := cp (by decide) (by decide)
  have db : dOk bs := dOk_small b0 b1
  have bits : Builtin.Int.intBits bs ≤ 200 := intBits_le_iff.mpr b1
  obtain ⟨ρ', e, ns, left, o5, o6, o7, hρ, hl, hb⟩ := loopF_inv (b := turnF (gfName 5) (nB g)) (fun i ρ => ∃ (ns : List Int) (left : Int) (o5 o6 o7 : Option D), ρ = [some (.int c), some (.int many), some (.int bs), some (.own (ns.map .int)), some (.int left), o5, o6, o7] ∧ ns.length = i ∧ ∀ n ∈ ns, 0 ≤ n ∧ n < bs)
    ((List.range many.toNat).map fun i => D.int (i : Nat)) 0 [some (.int c), some (.int many), some (.int bs), some (.own []), some (.int (c - 10 ^ 18)), none, none, none] ⟨[], _, _, _, _, rfl, rfl, fun n hn => by cases hn⟩ (by
    rintro i x ρ hx ⟨ns, left, o5, o6, o7, hρ, hl, hb⟩
    have hi : i < many.toNat := by
      by_cases z : i < many.toNat
      · exact z
      · rw [List.getElem?_eq_none (by simpa using z)] at hx; cases hx
    rw [List.getElem?_map, List.getElem?_range hi] at hx
    cases hx
    subst hρ
    have app : ∀ y : Int, (∀ n ∈ ns ++ [y % bs], 0 ≤ n ∧ n < bs) ∧ (ns ++ [y % bs]).length = 0 + i + 1 := fun y => by
      refine ⟨fun n hn => ?_, by simp [hl]⟩
      rcases List.mem_append.mp hn with hn | hn
      · exact hb n hn
      · rw [List.mem_singleton.mp hn]
        exact ⟨Int.emod_nonneg y (by omega), Int.emod_lt_of_pos y b0⟩
    have lm : ns.length < lim := by unfold lim; omega
    by_cases lp : 0 < left
    · refine ⟨[some (.int c), some (.int many), some (.int bs), some (.own ((ns ++ [left % bs]).map .int)), some (.int (left / bs)), some (.int (i : Nat)), some (.int left), o7], .inl ?_, ns ++ [left % bs], _, _, _, _, rfl, (app left).2, (app left).1⟩
      repeat (first | walk_at "tw r" | simp only [nB, lp, db, b0, List.length_map, lm, List.map_append])
    · obtain ⟨y, t, hw⟩ := num_while hg (c := c) (many := many) (bs := bs) (left := left) (kk := (i : Nat)) (xs := ns.map .int) (by omega) (by omega) bits
      refine ⟨[some (.int c), some (.int many), some (.int bs), some (.own ((ns ++ [y % bs]).map .int)), some (.int left), some (.int (i : Nat)), some (.int y), some (.int t)], .inl ?_, ns ++ [y % bs], _, _, _, _, rfl, (app y).2, (app y).1⟩
      have pre : turnF (gfName 5) (nB g) (D.int (i : Nat)) [some (.int c), some (.int many), some (.int bs), some (.own (ns.map .int)), some (.int left), o5, o6, o7] = (whileV nWC (nWB g) [some (.int c), some (.int many), some (.int bs), some (.own (ns.map .int)), some (.int left), some (.int (i : Nat)), some (.int 0), some (.int 0)]).bind (fun r => match r with | .nx ρ' => fApp 3 (fMod (fVar 6) (fVar 2)) ρ' | r => some r) := by
        simp only [turnF, gfName, frz, nB, Option.bind_some]
        repeat (first | walk_at "tw r" | simp only [lp])
        all_goals rfl
      rw [pre, hw]
      repeat (first | walk_at "tw r" | simp only [b0, List.length_map, lm, List.map_append]))
  refine ⟨ns, by simpa using hl, hb, ?_⟩
  have r1 : many < 2 ^ 62 ∧ -(2 ^ 62) ≤ many := by omega
  have fr : fForR (fCons (fVar 1) fNil) (gfName 5) (nB g) [some (.int c), some (.int many), some (.int bs), some (.own []), some (.int (c - 10 ^ 18)), none, none, none] = some (.nx ρ') := by
    simp only [fForR, fCons, fVar, fNil, frz, List.getElem?_cons_zero, List.getElem?_cons_succ, Option.bind_some, Option.map_some]
    rw [if_pos r1]
    exact e
  rw [hρ] at fr
  repeat (first | walk_at "tw r" | simp only [c1, lim, Nat.zero_le, show (18 : Int).toNat = 18 from rfl])
  rw [fr]
  repeat (first | walk_at "tw r")
theorem scLwhole : FnScope ["found"] ["found"] (defScope sLwhole) := ⟨rfl, rfl, rfl, by decide +kernel, rfl, by decide +kernel, by decide +kernel⟩
theorem fn_lwhole (mi : mg "isinstance" = none) (mt : mg "int" = none) (mb : mg "bool" = none) (F : Fun K "_law_whole" "_law_whole" sLwhole f fd) (B : Binds K fd ["found"] []) (hm : mg "_law_whole" = some (.ref f)) : ∃ g, Fn P w K mg base "_law_whole" (k + 1) g ∧ WholeSpec g := by
  have nd := scLwhole.nd
  refine ⟨_, fn_mk F scLwhole B hm rfl rfl (fun cdv A outer s H E hr => (by walk_at "tw ss" : QSs _ _ _).to), fun d nx => ?_⟩
  cases d <;> first | rfl | cases nx
theorem scCommon : FnScope ["one", "other"] ["one", "other"] (defScope sCommon) := ⟨rfl, rfl, rfl, by decide +kernel, rfl, by decide +kernel, by decide +kernel⟩
theorem fn_common (ma : mg "abs" = none) (F : Fun K "_law_common" "_law_common" sCommon f fd) (B : Binds K fd ["one", "other"] []) (hm : mg "_law_common" = some (.ref f)) : ∃ g, Fn P w K mg base "_law_common" (k + 1) g ∧ ComSpec g := by
  have nd := scCommon.nd
  refine ⟨_, fn_mk F scCommon B hm rfl rfl (fun cdv A outer s H E hr => (by walk_at "tw ss" : QSs _ _ _).to), fun a b => ?_⟩
  have l := gcd_loop (if a < 0 then -a else a) (if b < 0 then -b else b) (by split <;> omega) (by split <;> omega)
  have e : Int.gcd (if a < 0 then -a else a) (if b < 0 then -b else b) = Int.gcd a b := by
    unfold Int.gcd
    congr 1 <;> (split <;> omega)
  rw [e] at l
  walk_at "tw r"
  rw [l]
  walk_at "tw r"
theorem scLis : FnScope ["found", "top", "bottom"] ["found", "top", "bottom"] (defScope sLis) := ⟨rfl, rfl, rfl, by decide +kernel, rfl, by decide +kernel, by decide +kernel⟩
theorem fn_lis {gw gc : List D → Option D} (G1 : Fn P w K mg base "_law_whole" k gw) (h1 : WholeSpec gw) (G2 : Fn P w K mg base "_law_common" k gc) (h2 : ComSpec gc) (mi : mg "isinstance" = none) (mt : mg "tuple" = none) (ml : mg "len" = none) (F : Fun K "_law_is" "_law_is" sLis f fd) (B : Binds K fd ["found", "top", "bottom"] []) (hm : mg "_law_is" = some (.ref f)) : ∃ g, Fn P w K mg base "_law_is" (k + 1) g ∧ LisSpec g := by
  have nd := scLis.nd
  refine ⟨_, fn_mk F scLis B hm rfl rfl (fun cdv A outer s H E hr => (by walk_at "tw ss" : QSs _ _ _).to), fun p q t b hq hg he m1 m2 => ?_⟩
  have a0 : ∀ u v : D, atI [u, v] 0 = some u := fun _ _ => rfl
  have a1 : ∀ u v : D, atI [u, v] 1 = some v := fun _ _ => rfl
  have w1 := h1 (.int p) rfl
  have w2 := h1 (.int q) rfl
  have wt : ∀ i : Int, isW (.int i) = true := fun _ => rfl
  have cg := h2 p q
  rw [hg] at cg
  have q1 : ¬ q < 1 := by omega
  have ee : (p * b == t * q) = true := by rw [he]; exact beq_self_eq_true _
  have n1 : (!true) = false := rfl
  have tt : (("tuple" : String) == "tuple") = true := rfl
  have o1 : (((1 : Nat) : Int) == 1) = true := rfl
  have o2 : (((2 : Nat) : Int) == 2) = true := rfl
  repeat (first | walk_at "tw r" | simp only [a0, a1, w1, w2, wt, cg, q1, ee, n1, tt, o1, o2, m1, m2])
theorem scSized : FnScope ["number", "way", "size", "found"] ["number", "way"] (defScope sSized) := ⟨rfl, rfl, rfl, by decide +kernel, rfl, by decide +kernel, by decide +kernel⟩
theorem fn_sized (F : Fun K "_law_sized" "_law_sized" sSized f fd) (B : Binds K fd ["number", "way"] []) (hm : mg "_law_sized" = some (.ref f)) : ∃ g, Fn P w K mg base "_law_sized" (k + 1) g ∧ SizSpec g := by
  have nd := scSized.nd
  refine ⟨_, fn_mk F scSized B hm rfl rfl (fun cdv A outer s H E hr => (by walk_at "tw ss" : QSs _ _ _).to), fun n w => ?_⟩
  obtain ⟨S, s0, s1, hS⟩ := size_at w
  have c1 : CPow 10 12 := cp (by decide) (by decide)
  have c2 : CPow 10 30 := cp (by decide) (by decide)
  have c3 : CPow 10 60 := cp (by decide) (by decide)
  have d6 : dOk 6 := dOk_small (by decide) (by decide)
  have p6 : (0 : Int) < 6 := by decide
  have p3 : (0 : Int) < 3 := by decide
  have e1 := Int.emod_nonneg n (show S ≠ 0 by omega)
  have e2 := Int.emod_lt_of_pos n s0
  by_cases q : w / 6 % 3 = 1
  · refine ⟨0 - n % S, by omega, fun h0 h6 => by omega, ?_⟩
    repeat (first | walk_at "tw r" | simp only [c1, c2, c3, p6, d6, lim, hS, s0, p3, q, beq_self_eq_true, show (12 : Int).toNat = 12 from rfl, show (30 : Int).toNat = 30 from rfl, show (60 : Int).toNat = 60 from rfl])
  · have q' : (w / 6 % 3 == 1) = false := by simpa using q
    refine ⟨n % S, by omega, fun _ _ => e1, ?_⟩
    repeat (first | walk_at "tw r" | simp only [c1, c2, c3, p6, d6, lim, hS, s0, p3, q', beq_self_eq_true, show (12 : Int).toNat = 12 from rfl, show (30 : Int).toNat = 30 from rfl, show (60 : Int).toNat = 60 from rfl])
theorem scLowest : FnScope ["top", "bottom", "by"] ["top", "bottom"] (defScope sLowest) := ⟨rfl, rfl, rfl, by decide +kernel, rfl, by decide +kernel, by decide +kernel⟩
theorem fn_lowest {g : List D → Option D} (G : Fn P w K mg base "_law_common" k g) (hg : ComSpec g) (F : Fun K "_law_lowest" "_law_lowest" sLowest f fd) (B : Binds K fd ["top", "bottom"] []) (hm : mg "_law_lowest" = some (.ref f)) : ∃ g, Fn P w K mg base "_law_lowest" (k + 1) g ∧ LowSpec g := by
  have nd := scLowest.nd
  refine ⟨_, fn_mk F scLowest B hm rfl rfl (fun cdv A outer s H E hr => (by walk_at "tw ss" : QSs _ _ _).to), fun t b hb hs => ?_⟩
  have d := gcd_ok (t := t) hb hs
  walk_at "tw r"
  rw [hg]
  walk_at "tw r"
  simp only [d]
  walk_at "tw r"
  simp [lim]
theorem scRef : FnScope ["one", "caught", "e"] ["one"] (defScope sRef) := ⟨rfl, rfl, rfl, by decide +kernel, rfl, by decide +kernel, by decide +kernel⟩
theorem fn_ref {gr : List D → Option D} {gx : List D → Option Addr} {c cT cW : Addr} (G : Fn P w K mg base "over" k gr) (R : FnR P w K mg base "over" k gx) (hx : OverR c gx) (mT : mg "TwainError" = some (.ref cT)) (mR : mg "NoRatio" = some (.ref c)) (mW : mg "NoPerson" = some (.ref cW)) (mi : mg "isinstance" = none)
    (km : PySem.W.exmOne K (.ref c) (.ref cT) = some true) (q1 : PySem.W.kitOne K (.ref c) (.ref c) = some true) (q3 : PySem.W.kitOne K (.ref c) (.ref cW) = some false) (T : ExcC K c)
    (F : Fun K "_law_refused" "_law_refused" sRef f fd) (B : Binds K fd ["one"] []) (hm : mg "_law_refused" = some (.ref f)) : ∃ g, Fn P w K mg base "_law_refused" (k + 1) g ∧ ∀ a b : Int, g [.tup [.int a, .int b]] = some (.bl true) := by
  have nd := scRef.nd
  have hkT := k1_all (Q := fun C b => PySem.W.exmOne K (.ref C) (.ref cT) = some b) km
  have hk1 := k1_all (Q := fun C b => PySem.W.kitOne K (.ref C) (.ref c) = some b) q1
  have hk3 := k1_all (Q := fun C b => PySem.W.kitOne K (.ref C) (.ref cW) = some b) q3
  have hT1 := k1_all (b := true) (Q := fun C b => ExcC K C) T
  have hT3 := k1_all (b := false) (Q := fun C b => ExcC K C) T
  refine ⟨_, fn_mk F scRef B hm rfl rfl (fun cdv A outer s H E hr => (qx_cons (by walk_at "tw s") (qx_cons (pxs_try 2 nd mT hkT (by walk_at "tw e") (pre_call R hr (by walk_at "tw a")) (fun v => by walk_at "tw ss")) (by walk_at "tw ss")) : QSs _ _ _).to), fun a b => ?_⟩
  have e := hx a b
  have l2 : 2 ≤ lim := by decide
  repeat (first | walk_at "tw r" | simp only [e, l2])
-- def Right _law_right
abbrev B6 : Nat := 10 ^ 60
def RightSpec (g : List D → Option D) : Prop := ∀ a b c d : Int, Good B6 a b → Good B6 c d → g [.tup [.int a, .int b], .tup [.int c, .int d]] = some (.bl true)
theorem scRight : FnScope ["one", "other", "a", "b", "c", "d"] ["one", "other"] (defScope sRight) := ⟨rfl, rfl, rfl, by decide +kernel, rfl, by decide +kernel, by decide +kernel⟩
theorem fn_right {gp gm gt go gl gf : List D → Option D} (G1 : Fn P w K mg base "plus" k gp) (h1 : PlusSpec gp) (G2 : Fn P w K mg base "minus" k gm) (h2 : MinusSpec gm) (G3 : Fn P w K mg base "times" k gt) (h3 : TimesSpec gt) (G4 : Fn P w K mg base "over" k go) (h4 : OverSpec go) (G5 : Fn P w K mg base "_law_is" k gl) (h5 : LisSpec gl) (G6 : Fn P w K mg base "_law_refused" k gf) (h6 : ∀ a b : Int, gf [.tup [.int a, .int b]] = some (.bl true))
    (F : Fun K "_law_right" "_law_right" sRight f fd) (B : Binds K fd ["one", "other"] []) (hm : mg "_law_right" = some (.ref f)) : ∃ g, Fn P w K mg base "_law_right" (k + 1) g ∧ RightSpec g := by
  have nd := scRight.nd
  refine ⟨_, fn_mk F scRight B hm rfl rfl (fun cdv A outer s H E hr => (by walk_at "tw ss" : QSs _ _ _).to), fun a b c d x y => ?_⟩
  have e0 : B6 < sml := Nat.lt_of_lt_of_le (show B6 < 2 ^ 250 by decide) (by unfold sml; exact Nat.pow_le_pow_right (by decide) (by decide))
  have ha : a.natAbs < sml := Nat.lt_of_le_of_lt x.top e0
  have hb : b.natAbs < sml := Nat.lt_of_le_of_lt x.bot e0
  have hc : c.natAbs < sml := Nat.lt_of_le_of_lt y.top e0
  have hd : d.natAbs < sml := Nat.lt_of_le_of_lt y.bot e0
  have zb := Int.ne_of_gt x.pos
  have zd := Int.ne_of_gt y.pos
  have m1 := mOk_sml ha hd
  have m2 := mOk_sml hc hb
  have m3 := mOk_sml hb hd
  have m4 := mOk_sml ha hc
  have m5 := mOk_sml hb hc
  have bb : B6 * B6 + B6 * B6 < sml := Nat.lt_of_lt_of_le (show B6 * B6 + B6 * B6 < 2 ^ 500 by decide) (by unfold sml; exact Nat.pow_le_pow_right (by decide) (by decide))
  have n1 : (a * d).natAbs ≤ B6 * B6 := by rw [Int.natAbs_mul]; exact Nat.mul_le_mul x.top y.bot
  have n2 : (c * b).natAbs ≤ B6 * B6 := by rw [Int.natAbs_mul]; exact Nat.mul_le_mul y.top x.bot
  have n3 : (b * d).natAbs ≤ B6 * B6 := by rw [Int.natAbs_mul]; exact Nat.mul_le_mul x.bot y.bot
  have n4 : (a * c).natAbs ≤ B6 * B6 := by rw [Int.natAbs_mul]; exact Nat.mul_le_mul x.top y.top
  have n5 : (b * c).natAbs ≤ B6 * B6 := by rw [Int.natAbs_mul]; exact Nat.mul_le_mul x.bot y.top
  have p1 := h1 a b c d ha hb hc hd zb zd
  have p2 := h2 a b c d ha hb hc hd zb zd
  have p3 := h3 a b c d ha hb hc hd zb zd
  have zbd := Int.mul_ne_zero zb zd
  have l1 := lis_of h5 (t := a * d + c * b) zbd (by omega) (by omega)
  have l2 := lis_of h5 (t := a * d - c * b) zbd (by omega) (by omega)
  have l3 := lis_of h5 (t := a * c) zbd (by omega) (by omega)
  have f1 := h6 a b
  have q1 : (!true) = false := rfl
  by_cases z : c = 0
  · have z' : (c == 0) = true := by rw [z]; rfl
    repeat (first | walk_at "tw r" | simp only [m1, m2, m3, m4, m5, p1, p2, p3, l1, l2, l3, f1, q1, z'])
  · have z' : (c == 0) = false := by simpa using z
    have p4 := h4 a b c d ha hb hc hd zb z
    have l4 := lis_of h5 (t := a * d) (Int.mul_ne_zero zb z) (by omega) (by omega)
    repeat (first | walk_at "tw r" | simp only [m1, m2, m3, m4, m5, p1, p2, p3, p4, l1, l2, l3, l4, q1, z'])
end
end K2

set_option Elab.async false
set_option linter.all false
set_option maxRecDepth 100000
set_option maxHeartbeats 4000000
namespace K2
open PySem L2 Tw KS
section
variable {P : Program} {w : World} {K : PySem.W.Frag} {mg : Str → Option Value} {base : Heap} {f : Addr} {fd : FuncData} {k : Nat}
theorem scLaw : FnScope ["script", "cell", "numbers", "some", "k", "top", "bottom", "one", "other", "pair"] ["script"] (defScope sLaw) := ⟨rfl, rfl, rfl, by decide +kernel, rfl, by decide +kernel, by decide +kernel⟩
theorem fn_law {gn gs gl gr : List D → Option D} (G1 : Fn P w K mg base "_law_numbers" k gn) (h1 : NumSpec gn) (G2 : Fn P w K mg base "_law_sized" k gs) (h2 : SizSpec gs) (G3 : Fn P w K mg base "_law_lowest" k gl) (h3 : LowSpec gl) (G4 : Fn P w K mg base "_law_right" k gr) (h4 : RightSpec gr)
    (ml : mg "len" = none) (mx : mg "max" = none) (mr : mg "range" = none) (F : Fun K "law" "law" sLaw f fd) : FnOk P w K mg base CX0 (k + 1) f fd ["script"] (spLaw K) := by
  have nd := scLaw.nd
  refine law_ok F scLaw rfl rfl (fun cdv A outer s H E hr => (by walk_at "tw ss" : QSs _ _ _).to) fun ns hl => ?_
  refine cells_run (n := 8) (N := 30) ns hl fun c ρ hρ => ?_
  match ρ, hρ with
  | [o2, o3, o4, o5, o6, o7, o8, o9], _ =>
    obtain ⟨ms, hl, hb, e1⟩ := h1 c 8 (10 ^ 60) (by decide) (by decide) (by decide) (by decide)
    have hl' : (ms.length : Int) = 8 := by rw [hl]; rfl
    obtain ⟨n0, _, a0⟩ := atI_ints (ns := ms) (i := 4 * ((0 : Nat) : Int)) (by decide) (by omega)
    obtain ⟨n1, _, a1⟩ := atI_ints (ns := ms) (i := 4 * ((0 : Nat) : Int) + 1) (by decide) (by omega)
    obtain ⟨n2, _, a2⟩ := atI_ints (ns := ms) (i := 4 * ((0 : Nat) : Int) + 2) (by decide) (by omega)
    obtain ⟨n3, _, a3⟩ := atI_ints (ns := ms) (i := 4 * ((0 : Nat) : Int) + 3) (by decide) (by omega)
    obtain ⟨n4, _, a4⟩ := atI_ints (ns := ms) (i := 4 * ((1 : Nat) : Int)) (by decide) (by omega)
    obtain ⟨n5, _, a5⟩ := atI_ints (ns := ms) (i := 4 * ((1 : Nat) : Int) + 1) (by decide) (by omega)
    obtain ⟨n6, _, a6⟩ := atI_ints (ns := ms) (i := 4 * ((1 : Nat) : Int) + 2) (by decide) (by omega)
    obtain ⟨n7, _, a7⟩ := atI_ints (ns := ms) (i := 4 * ((1 : Nat) : Int) + 3) (by decide) (by omega)
    obtain ⟨t, ht, _, et⟩ := h2 n0 n1
    obtain ⟨b, hb1, _, eb⟩ := h2 n2 (n3 % 6)
    obtain ⟨t', ht', _, et'⟩ := h2 n4 n5
    obtain ⟨b', hb1', _, eb'⟩ := h2 n6 (n7 % 6)
    have c1 : CPow 10 60 := cp (by decide) (by decide)
    have t0 : (60 : Int).toNat = 60 := rfl
    have p6 : (0 : Int) < 6 := by decide
    have nl := lfL_ints ms
    have mk : ∀ i : Int, mOk 4 i := fun i => mOkL (by decide)
    have rg : (List.range (2 : Int).toNat).map (fun i => D.int (i : Nat)) = [.int ((0 : Nat) : Int), .int ((1 : Nat) : Int)] := rfl
    have r2 : (2 : Int) < 2 ^ 62 ∧ -(2 ^ 62) ≤ (2 : Int) := by decide
    have bp : 0 < (if b > 1 then b else 1) := by split <;> omega
    have bB : (if b > 1 then b else 1).natAbs ≤ 10 ^ 60 := by split <;> omega
    have bp' : 0 < (if b' > 1 then b' else 1) := by split <;> omega
    have bB' : (if b' > 1 then b' else 1).natAbs ≤ 10 ^ 60 := by split <;> omega
    have g0 := low_good (t := t) bp (by omega) bB
    have g1 := low_good (t := t') bp' (by omega) bB'
    have w0 := h3 t _ (Int.ne_of_gt bp) (small_big (B := 10 ^ 60) (by omega) (by decide))
    have w1 := h3 t' _ (Int.ne_of_gt bp') (small_big (B := 10 ^ 60) (by omega) (by decide))
    show Fin (ns.map D.int) 8 _
    refine then_eq (ρ' := [some (.scr (ns.map D.int)), some (.int c), some (.own (ms.map D.int)), o3, o4, o5, o6, o7, o8, o9]) ?_ ?_
    · repeat (first | walk_at "tw r" | simp only [e1, c1, t0, nl])
    refine then_eq (ρ' := [some (.scr (ns.map D.int)), some (.int c), some (.own (ms.map D.int)), some (.own []), o4, o5, o6, o7, o8, o9]) ?_ ?_
    · repeat (first | walk_at "tw r" | simp only [show 0 ≤ lim by decide])
    have x0 : Good B6 (t / (Int.gcd t (if b > 1 then b else 1) : Nat)) ((if b > 1 then b else 1) / (Int.gcd t (if b > 1 then b else 1) : Nat)) := g0
    have x1 : Good B6 (t' / (Int.gcd t' (if b' > 1 then b' else 1) : Nat)) ((if b' > 1 then b' else 1) / (Int.gcd t' (if b' > 1 then b' else 1) : Nat)) := g1
    refine then_eq (ρ' := [some (.scr (ns.map D.int)), some (.int c), some (.own (ms.map D.int)), some (.own [tp (t / (Int.gcd t (if b > 1 then b else 1) : Nat)) ((if b > 1 then b else 1) / (Int.gcd t (if b > 1 then b else 1) : Nat)), tp (t' / (Int.gcd t' (if b' > 1 then b' else 1) : Nat)) ((if b' > 1 then b' else 1) / (Int.gcd t' (if b' > 1 then b' else 1) : Nat))]), some (.int ((1 : Nat) : Int)), some (.int t'), some (.int (if b' > 1 then b' else 1)), o7, o8, o9]) ?_ ?_
    · simp only [fForR, fCons, fC, fNil, Option.bind_some, Option.map_some]
      rw [if_pos r2, rg]
      simp only [loopF]
      repeat (first | walk_at "tw r" | simp only [loopF, a0, a1, a2, a3, a4, a5, a6, a7, et, eb, et', eb', p6, mk, w0, w1, show 0 < lim by decide, show 1 < lim by decide, show 0 + 1 < lim by decide])
    generalize t / (Int.gcd t (if b > 1 then b else 1) : Nat) = p at x0 ⊢
    generalize (if b > 1 then b else 1) / (Int.gcd t (if b > 1 then b else 1) : Nat) = q at x0 ⊢
    generalize t' / (Int.gcd t' (if b' > 1 then b' else 1) : Nat) = p' at x1 ⊢
    generalize (if b' > 1 then b' else 1) / (Int.gcd t' (if b' > 1 then b' else 1) : Nat) = q' at x1 ⊢
    generalize some (D.int (if b' > 1 then b' else 1)) = o6'
    refine then_eq (ρ' := [some (.scr (ns.map D.int)), some (.int c), some (.own (ms.map D.int)), some (.own [tp p q, tp p' q']), some (.int ((1 : Nat) : Int)), some (.int t'), o6', some (tp p q), some (tp p' q'), o9]) ?_ ?_
    · repeat (first | walk_at "tw r" | simp only [show 0 + 1 + 1 = 2 from rfl])
    have z : Good B6 0 1 := ⟨by decide, by decide, by decide, by decide⟩
    have y1 := h4 p q p' q' x0 x1
    have y2 := h4 p' q' p q x1 x0
    have y3 := h4 p q p q x0 x0
    have y4 := h4 p q 0 1 x0 z
    have y5 := h4 0 1 p' q' z x1
    have i0 : ∀ u v : D, atI [u, v] 0 = some u := fun _ _ => rfl
    have i1 : ∀ u v : D, atI [u, v] 1 = some v := fun _ _ => rfl
    have n1' : (!true) = false := rfl
    refine ⟨[some (.own (ms.map D.int)), some (.own [tp p q, tp p' q']), some (.int ((1 : Nat) : Int)), some (.int t'), o6', some (tp p q), some (tp p' q'), some (.tup [tp 0 1, tp p' q'])], some (.int c), rfl, ?_⟩
    simp only [fFor]
    repeat (first | walk_at "tw r" | simp only [walkD, loopF, y1, y2, y3, y4, y5, i0, i1, n1', show 5 ≤ lim by decide, show 2 ≤ lim by decide])
end
end K2

namespace K2
open PySem PySem.Spec PyProof.Rows L2 Tw
theorem all_mk {l : PySem.W.OpenLaw} {w : World} {K : PySem.W.Frag} {h : Heap} {mg : Str → Option Value} {fa f1 f2 f3 f4 f5 f6 f7 f8 f9 f10 f11 f12 f13 f14 f15 f16 : Addr} {u1 u2 u3 : Addr} (X : K.In h) (G : h.Ns mainGlobals mg) (hfa : mg "law" = some (.ref fa))
    {od1 an1 od2 an2 od3 an3 od4 an4 od5 an5 od6 an6 od7 an7 od8 an8 od9 an9 od10 an10 od11 an11 od12 an12 od13 an13 od14 an14 od15 an15 od16 an16 : Option Addr} {sl1 sl2 sl3 sl4 sl5 sl6 sl7 sl8 sl9 sl10 sl11 sl12 sl13 sl14 sl15 sl16 : Array (Option Value)} {oc1 kV1 dc1 pm1 cd1 ct1 oc2 kV2 dc2 pm2 cd2 ct2 oc3 kV3 dc3 pm3 cd3 ct3 oc4 kV4 dc4 pm4 cd4 ct4 oc5 kV5 dc5 pm5 cd5 ct5 oc6 kV6 dc6 pm6 cd6 ct6 oc7 kV7 dc7 pm7 cd7 ct7 oc8 kV8 dc8 pm8 cd8 ct8 oc9 kV9 dc9 pm9 cd9 ct9 oc10 kV10 dc10 pm10 cd10 ct10 oc11 kV11 dc11 pm11 cd11 ct11 oc12 kV12 dc12 pm12 cd12 ct12 oc13 kV13 dc13 pm13 cd13 ct13 oc14 kV14 dc14 pm14 cd14 ct14 oc15 kV15 dc15 pm15 cd15 ct15 oc16 kV16 dc16 pm16 cd16 ct16 : Value}
    (a1 : PySem.W.nsIn K mainGlobals "common_divisor" = some (some (.ref f1))) (l1 : K.lookup f1 = some ⟨oc1, od1, .func (PySem.W.fnOf "common_divisor" "common_divisor" (defArgs sCd) (defBody sCd) (defScope sCd) .none kV1 dc1 pm1 an1 cd1 ct1), sl1⟩) (c1 : PySem.W.codeIn K cd1 "common_divisor" = true) (k1 : PySem.W.keepIn K (.ref f1) = true)
    (a2 : PySem.W.nsIn K mainGlobals "ratio" = some (some (.ref f2))) (l2 : K.lookup f2 = some ⟨oc2, od2, .func (PySem.W.fnOf "ratio" "ratio" (defArgs sRatio) (defBody sRatio) (defScope sRatio) .none kV2 dc2 pm2 an2 cd2 ct2), sl2⟩) (c2 : PySem.W.codeIn K cd2 "ratio" = true) (k2 : PySem.W.keepIn K (.ref f2) = true)
    (a3 : PySem.W.nsIn K mainGlobals "plus" = some (some (.ref f3))) (l3 : K.lookup f3 = some ⟨oc3, od3, .func (PySem.W.fnOf "plus" "plus" (defArgs sPlus) (defBody sPlus) (defScope sPlus) .none kV3 dc3 pm3 an3 cd3 ct3), sl3⟩) (c3 : PySem.W.codeIn K cd3 "plus" = true) (k3 : PySem.W.keepIn K (.ref f3) = true)
    (a4 : PySem.W.nsIn K mainGlobals "minus" = some (some (.ref f4))) (l4 : K.lookup f4 = some ⟨oc4, od4, .func (PySem.W.fnOf "minus" "minus" (defArgs sMinus) (defBody sMinus) (defScope sMinus) .none kV4 dc4 pm4 an4 cd4 ct4), sl4⟩) (c4 : PySem.W.codeIn K cd4 "minus" = true) (k4 : PySem.W.keepIn K (.ref f4) = true)
    (a5 : PySem.W.nsIn K mainGlobals "times" = some (some (.ref f5))) (l5 : K.lookup f5 = some ⟨oc5, od5, .func (PySem.W.fnOf "times" "times" (defArgs sTimes) (defBody sTimes) (defScope sTimes) .none kV5 dc5 pm5 an5 cd5 ct5), sl5⟩) (c5 : PySem.W.codeIn K cd5 "times" = true) (k5 : PySem.W.keepIn K (.ref f5) = true)
    (a6 : PySem.W.nsIn K mainGlobals "over" = some (some (.ref f6))) (l6 : K.lookup f6 = some ⟨oc6, od6, .func (PySem.W.fnOf "over" "over" (defArgs sOver) (defBody sOver) (defScope sOver) .none kV6 dc6 pm6 an6 cd6 ct6), sl6⟩) (c6 : PySem.W.codeIn K cd6 "over" = true) (k6 : PySem.W.keepIn K (.ref f6) = true)
    (a7 : PySem.W.nsIn K mainGlobals "_law_mixed" = some (some (.ref f7))) (l7 : K.lookup f7 = some ⟨oc7, od7, .func (PySem.W.fnOf "_law_mixed" "_law_mixed" (defArgs sMixed) (defBody sMixed) (defScope sMixed) .none kV7 dc7 pm7 an7 cd7 ct7), sl7⟩) (c7 : PySem.W.codeIn K cd7 "_law_mixed" = true) (k7 : PySem.W.keepIn K (.ref f7) = true)
    (a8 : PySem.W.nsIn K mainGlobals "_law_numbers" = some (some (.ref f8))) (l8 : K.lookup f8 = some ⟨oc8, od8, .func (PySem.W.fnOf "_law_numbers" "_law_numbers" (defArgs sNumbers) (defBody sNumbers) (defScope sNumbers) .none kV8 dc8 pm8 an8 cd8 ct8), sl8⟩) (c8 : PySem.W.codeIn K cd8 "_law_numbers" = true) (k8 : PySem.W.keepIn K (.ref f8) = true)
    (a9 : PySem.W.nsIn K mainGlobals "_law_whole" = some (some (.ref f9))) (l9 : K.lookup f9 = some ⟨oc9, od9, .func (PySem.W.fnOf "_law_whole" "_law_whole" (defArgs sLwhole) (defBody sLwhole) (defScope sLwhole) .none kV9 dc9 pm9 an9 cd9 ct9), sl9⟩) (c9 : PySem.W.codeIn K cd9 "_law_whole" = true) (k9 : PySem.W.keepIn K (.ref f9) = true)
    (a10 : PySem.W.nsIn K mainGlobals "_law_common" = some (some (.ref f10))) (l10 : K.lookup f10 = some ⟨oc10, od10, .func (PySem.W.fnOf "_law_common" "_law_common" (defArgs sCommon) (defBody sCommon) (defScope sCommon) .none kV10 dc10 pm10 an10 cd10 ct10), sl10⟩) (c10 : PySem.W.codeIn K cd10 "_law_common" = true) (k10 : PySem.W.keepIn K (.ref f10) = true)
    (a11 : PySem.W.nsIn K mainGlobals "_law_is" = some (some (.ref f11))) (l11 : K.lookup f11 = some ⟨oc11, od11, .func (PySem.W.fnOf "_law_is" "_law_is" (defArgs sLis) (defBody sLis) (defScope sLis) .none kV11 dc11 pm11 an11 cd11 ct11), sl11⟩) (c11 : PySem.W.codeIn K cd11 "_law_is" = true) (k11 : PySem.W.keepIn K (.ref f11) = true)
    (a12 : PySem.W.nsIn K mainGlobals "_law_sized" = some (some (.ref f12))) (l12 : K.lookup f12 = some ⟨oc12, od12, .func (PySem.W.fnOf "_law_sized" "_law_sized" (defArgs sSized) (defBody sSized) (defScope sSized) .none kV12 dc12 pm12 an12 cd12 ct12), sl12⟩) (c12 : PySem.W.codeIn K cd12 "_law_sized" = true) (k12 : PySem.W.keepIn K (.ref f12) = true)
    (a13 : PySem.W.nsIn K mainGlobals "_law_lowest" = some (some (.ref f13))) (l13 : K.lookup f13 = some ⟨oc13, od13, .func (PySem.W.fnOf "_law_lowest" "_law_lowest" (defArgs sLowest) (defBody sLowest) (defScope sLowest) .none kV13 dc13 pm13 an13 cd13 ct13), sl13⟩) (c13 : PySem.W.codeIn K cd13 "_law_lowest" = true) (k13 : PySem.W.keepIn K (.ref f13) = true)
    (a14 : PySem.W.nsIn K mainGlobals "_law_refused" = some (some (.ref f14))) (l14 : K.lookup f14 = some ⟨oc14, od14, .func (PySem.W.fnOf "_law_refused" "_law_refused" (defArgs sRef) (defBody sRef) (defScope sRef) .none kV14 dc14 pm14 an14 cd14 ct14), sl14⟩) (c14 : PySem.W.codeIn K cd14 "_law_refused" = true) (k14 : PySem.W.keepIn K (.ref f14) = true)
    (a15 : PySem.W.nsIn K mainGlobals "_law_right" = some (some (.ref f15))) (l15 : K.lookup f15 = some ⟨oc15, od15, .func (PySem.W.fnOf "_law_right" "_law_right" (defArgs sRight) (defBody sRight) (defScope sRight) .none kV15 dc15 pm15 an15 cd15 ct15), sl15⟩) (c15 : PySem.W.codeIn K cd15 "_law_right" = true) (k15 : PySem.W.keepIn K (.ref f15) = true)
    (a16 : PySem.W.nsIn K mainGlobals "law" = some (some (.ref f16))) (l16 : K.lookup f16 = some ⟨oc16, od16, .func (PySem.W.fnOf "law" "law" (defArgs sLaw) (defBody sLaw) (defScope sLaw) .none kV16 dc16 pm16 an16 cd16 ct16), sl16⟩) (c16 : PySem.W.codeIn K cd16 "law" = true) (k16 : PySem.W.keepIn K (.ref f16) = true)
    (y1 : PySem.W.nsIn K mainGlobals "len" = some none) (y2 : PySem.W.nsIn K mainGlobals "isinstance" = some none) (y3 : PySem.W.nsIn K mainGlobals "bool" = some none) (y4 : PySem.W.nsIn K mainGlobals "range" = some none) (y5 : PySem.W.nsIn K mainGlobals "abs" = some none) (y6 : PySem.W.nsIn K mainGlobals "int" = some none) (y7 : PySem.W.nsIn K mainGlobals "tuple" = some none) (y8 : PySem.W.nsIn K mainGlobals "max" = some none) (n1 : PySem.W.nsIn K mainGlobals "NoRatio" = some (some (.ref u1))) (n2 : PySem.W.nsIn K mainGlobals "TwainError" = some (some (.ref u2))) (n3 : PySem.W.nsIn K mainGlobals "NoPerson" = some (some (.ref u3))) (x1 : PySem.W.excIn K u1 bmV nwV = true) (x2 : PySem.W.exmOne K (.ref u1) (.ref u2) = some true) (x3 : PySem.W.kitOne K (.ref u1) (.ref u1) = some true) (x4 : PySem.W.kitOne K (.ref u1) (.ref u3) = some false) (x5 : PySem.W.mroIn K u1 (.type "object") = some true) (x6 : PySem.W.mroIn K u1 (.type "BaseException") = some true) (x7 : PySem.W.findIn K (.ref u1) "__class__" = some (some (.builtin "object.__class__"))) (x8 : PySem.W.findIn K (.ref u1) "__getattribute__" = some (some (.builtin "BaseException.__getattribute__"))) (x9 : PySem.W.findIn K (.ref u1) "__getattr__" = some none) :
    ∃ fd : FuncData, (∀ (s : Shared) (v : Value), BindsTo s fd ⟨[v], []⟩ [("script", v)]) ∧ ∀ base : Heap, K.In base → base.Ns mainGlobals mg → FnOk l.prog w K mg base CX0 20 fa fd ["script"] (spLaw K) := by
  have e := hfa.symm.trans (PySem.W.mg_of X G a16)
  cases e
  have F1 := fun_mk (st := sCd) l1 c1 k1
  have b1 := F1.binds (ps := ["one", "other"]) fun _ _ _ _ _ _ us hl => match us, hl with | [_, _], _ => rfl
  have m1 := PySem.W.mg_of X G a1
  have F2 := fun_mk (st := sRatio) l2 c2 k2
  have b2 := F2.binds (ps := ["top", "bottom"]) fun _ _ _ _ _ _ us hl => match us, hl with | [_, _], _ => rfl
  have m2 := PySem.W.mg_of X G a2
  have F3 := fun_mk (st := sPlus) l3 c3 k3
  have b3 := F3.binds (ps := ["one", "other"]) fun _ _ _ _ _ _ us hl => match us, hl with | [_, _], _ => rfl
  have m3 := PySem.W.mg_of X G a3
  have F4 := fun_mk (st := sMinus) l4 c4 k4
  have b4 := F4.binds (ps := ["one", "other"]) fun _ _ _ _ _ _ us hl => match us, hl with | [_, _], _ => rfl
  have m4 := PySem.W.mg_of X G a4
  have F5 := fun_mk (st := sTimes) l5 c5 k5
  have b5 := F5.binds (ps := ["one", "other"]) fun _ _ _ _ _ _ us hl => match us, hl with | [_, _], _ => rfl
  have m5 := PySem.W.mg_of X G a5
  have F6 := fun_mk (st := sOver) l6 c6 k6
  have b6 := F6.binds (ps := ["one", "other"]) fun _ _ _ _ _ _ us hl => match us, hl with | [_, _], _ => rfl
  have m6 := PySem.W.mg_of X G a6
  have F7 := fun_mk (st := sMixed) l7 c7 k7
  have b7 := F7.binds (ps := ["cell", "k"]) fun _ _ _ _ _ _ us hl => match us, hl with | [_, _], _ => rfl
  have m7 := PySem.W.mg_of X G a7
  have F8 := fun_mk (st := sNumbers) l8 c8 k8
  have b8 := F8.binds (ps := ["cell", "many", "base"]) fun _ _ _ _ _ _ us hl => match us, hl with | [_, _, _], _ => rfl
  have m8 := PySem.W.mg_of X G a8
  have F9 := fun_mk (st := sLwhole) l9 c9 k9
  have b9 := F9.binds (ps := ["found"]) fun _ _ _ _ _ _ us hl => match us, hl with | [_], _ => rfl
  have m9 := PySem.W.mg_of X G a9
  have F10 := fun_mk (st := sCommon) l10 c10 k10
  have b10 := F10.binds (ps := ["one", "other"]) fun _ _ _ _ _ _ us hl => match us, hl with | [_, _], _ => rfl
  have m10 := PySem.W.mg_of X G a10
  have F11 := fun_mk (st := sLis) l11 c11 k11
  have b11 := F11.binds (ps := ["found", "top", "bottom"]) fun _ _ _ _ _ _ us hl => match us, hl with | [_, _, _], _ => rfl
  have m11 := PySem.W.mg_of X G a11
  have F12 := fun_mk (st := sSized) l12 c12 k12
  have b12 := F12.binds (ps := ["number", "way"]) fun _ _ _ _ _ _ us hl => match us, hl with | [_, _], _ => rfl
  have m12 := PySem.W.mg_of X G a12
  have F13 := fun_mk (st := sLowest) l13 c13 k13
  have b13 := F13.binds (ps := ["top", "bottom"]) fun _ _ _ _ _ _ us hl => match us, hl with | [_, _], _ => rfl
  have m13 := PySem.W.mg_of X G a13
  have F14 := fun_mk (st := sRef) l14 c14 k14
  have b14 := F14.binds (ps := ["one"]) fun _ _ _ _ _ _ us hl => match us, hl with | [_], _ => rfl
  have m14 := PySem.W.mg_of X G a14
  have F15 := fun_mk (st := sRight) l15 c15 k15
  have b15 := F15.binds (ps := ["one", "other"]) fun _ _ _ _ _ _ us hl => match us, hl with | [_, _], _ => rfl
  have m15 := PySem.W.mg_of X G a15
  have F16 := fun_mk (st := sLaw) l16 c16 k16
  have z1 := PySem.W.mg_none_of X G y1
  have z2 := PySem.W.mg_none_of X G y2
  have z3 := PySem.W.mg_none_of X G y3
  have z4 := PySem.W.mg_none_of X G y4
  have z5 := PySem.W.mg_none_of X G y5
  have z6 := PySem.W.mg_none_of X G y6
  have z7 := PySem.W.mg_none_of X G y7
  have z8 := PySem.W.mg_none_of X G y8
  have o1 := PySem.W.mg_of X G n1
  have o2 := PySem.W.mg_of X G n2
  have o3 := PySem.W.mg_of X G n3
  refine ⟨PySem.W.fnOf "law" "law" (defArgs sLaw) (defBody sLaw) (defScope sLaw) .none kV16 dc16 pm16 an16 cd16 ct16, fun s v => .of_eq rfl, fun base _ _ => ?_⟩
  obtain ⟨g1, h1, s1⟩ := fn_cd (P := l.prog) (w := w) (base := base) (k := 0) F1 b1 m1
  obtain ⟨g2, h2, s2⟩ := fn_ratio h1 s1 z5 F2 b2 m2
  obtain ⟨gx, hx, sx⟩ := fn_ratioR (P := l.prog) (w := w) (base := base) (k := 1) o1 x1 F2 b2 m2
  obtain ⟨g3, h3, s3⟩ := fn_plus h2 s2 F3 b3 m3
  obtain ⟨g4, h4, s4⟩ := fn_minus h2 s2 F4 b4 m4
  obtain ⟨g5, h5, s5⟩ := fn_times h2 s2 F5 b5 m5
  obtain ⟨g6, h6, s6⟩ := fn_over h2 s2 F6 b6 m6
  obtain ⟨gy, hy, sy⟩ := fn_overR hx sx F6 b6 m6
  obtain ⟨g7, h7, s7⟩ := fn_mixed (P := l.prog) (w := w) (base := base) (k := 0) F7 b7 m7
  obtain ⟨g8, h8, s8⟩ := fn_numbers h7 s7 z4 F8 b8 m8
  obtain ⟨g9, h9, s9⟩ := fn_lwhole (P := l.prog) (w := w) (base := base) (k := 0) z2 z6 z3 F9 b9 m9
  obtain ⟨g10, h10, s10⟩ := fn_common (P := l.prog) (w := w) (base := base) (k := 0) z5 F10 b10 m10
  obtain ⟨g11, h11, s11⟩ := fn_lis h9 s9 h10 s10 z2 z7 z1 F11 b11 m11
  obtain ⟨g12, h12, s12⟩ := fn_sized (P := l.prog) (w := w) (base := base) (k := 0) F12 b12 m12
  obtain ⟨g13, h13, s13⟩ := fn_lowest h10 s10 F13 b13 m13
  obtain ⟨g14, h14, s14⟩ := fn_ref h6 hy sy o2 o1 o3 z2 x2 x3 x4 ⟨x5, x6, x7, x8, x9⟩ F14 b14 m14
  obtain ⟨g15, h15, s15⟩ := fn_right (h3.mono (k := 5) (by decide)) s3 (h4.mono (k := 5) (by decide)) s4 (h5.mono (k := 5) (by decide)) s5 (h6.mono (k := 5) (by decide)) s6 (h11.mono (k := 5) (by decide)) s11 (h14.mono (k := 5) (by decide)) s14 F15 b15 m15
  exact fn_law (h8.mono (k := 19) (by decide)) s8 (h12.mono (k := 19) (by decide)) s12 (h13.mono (k := 19) (by decide)) s13 (h15.mono (k := 19) (by decide)) s15 z1 z8 z4 F16
end K2
open PySem PySem.W PyProof.Rows
set_option maxRecDepth 100000 in
set_option maxHeartbeats 0 in
theorem PySem.Challenge.cw_twainhoard_k02_ratios_reckoned_holds : PySem.Challenge.rw_twainhoard_k02_ratios_reckoned.Holds := by
  w_on; o_law; k_head; (case hw => w_witness2)
  k_fill
  refine Tw.walk (l := PySem.Challenge.rw_twainhoard_k02_ratios_reckoned) rfl rfl (fun w h Y => PySem.W.kIn_of Y) ?F
  case F =>
    intro w mg fa h KX G hmg
    refine' K2.all_mk KX G hmg ?a1 ?l1 ?c1 ?k1 ?a2 ?l2 ?c2 ?k2 ?a3 ?l3 ?c3 ?k3 ?a4 ?l4 ?c4 ?k4 ?a5 ?l5 ?c5 ?k5 ?a6 ?l6 ?c6 ?k6 ?a7 ?l7 ?c7 ?k7 ?a8 ?l8 ?c8 ?k8 ?a9 ?l9 ?c9 ?k9 ?a10 ?l10 ?c10 ?k10 ?a11 ?l11 ?c11 ?k11 ?a12 ?l12 ?c12 ?k12 ?a13 ?l13 ?c13 ?k13 ?a14 ?l14 ?c14 ?k14 ?a15 ?l15 ?c15 ?k15 ?a16 ?l16 ?c16 ?k16 ?y1 ?y2 ?y3 ?y4 ?y5 ?y6 ?y7 ?y8 ?n1 ?n2 ?n3 ?x1 ?x2 ?x3 ?x4 ?x5 ?x6 ?x7 ?x8 ?x9
    (case a1 => k_is); (case l1 => k_is); (case c1 => k_is); (case k1 => k_is)
    (case a2 => k_is); (case l2 => k_is); (case c2 => k_is); (case k2 => k_is)
    (case a3 => k_is); (case l3 => k_is); (case c3 => k_is); (case k3 => k_is)
    (case a4 => k_is); (case l4 => k_is); (case c4 => k_is); (case k4 => k_is)
    (case a5 => k_is); (case l5 => k_is); (case c5 => k_is); (case k5 => k_is)
    (case a6 => k_is); (case l6 => k_is); (case c6 => k_is); (case k6 => k_is)
    (case a7 => k_is); (case l7 => k_is); (case c7 => k_is); (case k7 => k_is)
    (case a8 => k_is); (case l8 => k_is); (case c8 => k_is); (case k8 => k_is)
    (case a9 => k_is); (case l9 => k_is); (case c9 => k_is); (case k9 => k_is)
    (case a10 => k_is); (case l10 => k_is); (case c10 => k_is); (case k10 => k_is)
    (case a11 => k_is); (case l11 => k_is); (case c11 => k_is); (case k11 => k_is)
    (case a12 => k_is); (case l12 => k_is); (case c12 => k_is); (case k12 => k_is)
    (case a13 => k_is); (case l13 => k_is); (case c13 => k_is); (case k13 => k_is)
    (case a14 => k_is); (case l14 => k_is); (case c14 => k_is); (case k14 => k_is)
    (case a15 => k_is); (case l15 => k_is); (case c15 => k_is); (case k15 => k_is)
    (case a16 => k_is); (case l16 => k_is); (case c16 => k_is); (case k16 => k_is)
    (case y1 => k_is)
    (case y2 => k_is)
    (case y3 => k_is)
    (case y4 => k_is)
    (case y5 => k_is)
    (case y6 => k_is)
    (case y7 => k_is)
    (case y8 => k_is)
    (case n1 => k_is)
    (case n2 => k_is)
    (case n3 => k_is)
    (case x1 => first | k_is | k_exc | kit_is | kts_exm)
    (case x2 => first | k_is | k_exc | kit_is | kts_exm)
    (case x3 => first | k_is | k_exc | kit_is | kts_exm)
    (case x4 => first | k_is | k_exc | kit_is | kts_exm)
    (case x5 => first | k_is | k_exc | kit_is | kts_exm)
    (case x6 => first | k_is | k_exc | kit_is | kts_exm)
    (case x7 => first | k_is | k_exc | kit_is | kts_exm)
    (case x8 => first | k_is | k_exc | kit_is | kts_exm)
    (case x9 => first | k_is | k_exc | kit_is | kts_exm)
