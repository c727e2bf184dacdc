import PyProof.Rows.All
import Wide.All
import OpenK.AllK
import Wide.FinOn
import Lean
import PyProof.EqAt
import PyProof.EqKinds
import PyProof.TupleCall
import PySem.Challenge.RW_turnbase_k14_numbers_and_rows
-- CHANGE: your row's module here, as the last of these rows
set_option Elab.async false
set_option linter.all false
set_option maxRecDepth 100000
/-! THE HAND LAYER, for ints, bools, texts, own classes, LISTS and tuples (index, slices, in, append, pop ..), calls, loops. Paste it whole ahead of your own text; what your proof does not reach may be deleted. -/
namespace L2
open PySem PySem.Spec PyProof.Rows

/-- a key: an int or a str -/
abbrev Key := Sum Int Str
def keyIs : Key → Value → Bool
  | .inl k, v => Value.isInt k v
  | .inr x, v => Value.isStrOf x v
def keyH (w : World) : Key → Int
  | .inl k => hashInt k
  | .inr x => hashStr w x
theorem keyIs_shape : ∀ {k : Key} {v : Value}, keyIs k v = true → (∃ i t, k = Sum.inl i ∧ v = Value.int i t) ∨ (∃ x t, k = Sum.inr x ∧ v = Value.str x t)
  | .inl i, v, h => by
    obtain ⟨t, e⟩ := Value.isInt_shape (k := i) (v := v) h
    exact .inl ⟨i, t, rfl, e⟩
  | .inr x, v, h => by
    obtain ⟨t, e⟩ := Value.isStrOf_shape (x := x) (v := v) h
    exact .inr ⟨x, t, rfl, e⟩
theorem keyIs_int (i : Int) (t : Tok) : keyIs (.inl i) (.int i t) = true := by simp [keyIs, Value.isInt]
theorem keyIs_str (x : Str) (t : Tok) : keyIs (.inr x) (.str x t) = true := by simp [keyIs, Value.isStrOf]
theorem key_ll (a b : Int) : decide ((Sum.inl a : Key) = Sum.inl b) = (a == b) := by
  by_cases e : a = b
  · subst e; simp
  · have h : ¬ (Sum.inl a : Key) = Sum.inl b := fun q => e (Sum.inl.inj q)
    rw [decide_eq_false h]
    exact (beq_eq_false_iff_ne.mpr e).symm
theorem key_rr (a b : Str) : decide ((Sum.inr a : Key) = Sum.inr b) = decide (a = b) := by
  by_cases e : a = b
  · subst e; simp
  · have h : ¬ (Sum.inr a : Key) = Sum.inr b := fun q => e (Sum.inr.inj q)
    rw [decide_eq_false h, decide_eq_false e]
theorem key_lr (a : Int) (b : Str) : decide ((Sum.inl a : Key) = Sum.inr b) = false := decide_eq_false (fun q => nomatch q)
theorem key_rl (a : Str) (b : Int) : decide ((Sum.inr a : Key) = Sum.inl b) = false := decide_eq_false (fun q => nomatch q)

def mixKind (prog : Program) (w : World) : PySem.KeyKind prog w Key where
  is := keyIs
  hash := keyH w
  inj := fun v a b ha hb => by
    rcases keyIs_shape ha with ⟨i, t, rfl, rfl⟩ | ⟨x, t, rfl, rfl⟩
    · rcases keyIs_shape hb with ⟨j, u, rfl, e⟩ | ⟨y, u, rfl, e⟩
      · injection e with e1 _; rw [e1]
      · exact nomatch e
    · rcases keyIs_shape hb with ⟨j, u, rfl, e⟩ | ⟨y, u, rfl, e⟩
      · exact nomatch e
      · injection e with e1 _; rw [e1]
  byValue := fun k v h => by
    rcases keyIs_shape h with ⟨i, t, rfl, rfl⟩ | ⟨x, t, rfl, rfl⟩ <;> rfl
  pyHash := fun hv h => by
    rcases keyIs_shape hv with ⟨i, t, rfl, rfl⟩ | ⟨x, t, rfl, rfl⟩
    · exact wpAny_pyHash_int h
    · exact wpAny_pyHash_str h
  eqBool := fun hu hv h => by
    rcases keyIs_shape hu with ⟨i, t, rfl, rfl⟩ | ⟨x, t, rfl, rfl⟩
    · rcases keyIs_shape hv with ⟨j, u, rfl, rfl⟩ | ⟨y, u, rfl, rfl⟩
      · rw [key_ll] at h; exact wpAny_eqBool_int h
      · rw [key_lr] at h; exact SeqAt.EqAt.int_str i t y u _ _ _ _ h
    · rcases keyIs_shape hv with ⟨j, u, rfl, rfl⟩ | ⟨y, u, rfl, rfl⟩
      · rw [key_rl] at h; exact SeqAt.EqAt.str_int x t j u _ _ _ _ h
      · rw [key_rr] at h; exact wpAny_eqBool_str h
  «strs» := fun k x t v h => by
    rcases keyIs_shape h with ⟨i, u, rfl, e⟩ | ⟨y, u, rfl, e⟩
    · exact nomatch e
    · injection e with e1 _
      subst e1
      cases v <;> rfl

theorem mixKind_int (prog : Program) (w : World) (i : Int) (t : Tok) : (mixKind prog w).is (.inl i) (.int i t) = true := keyIs_int i t
theorem mixKind_str (prog : Program) (w : World) (x : Str) (t : Tok) : (mixKind prog w).is (.inr x) (.str x t) = true := keyIs_str x t
end L2

namespace L2
open PySem PySem.Spec PyProof.Rows

/-- a value, without the heap -/
inductive V where
  | non | bl (b : Bool) | int (i : Int) | str (x : Str) | byt (b : Array UInt8) | flt (b : UInt64) | ref (a : Addr) | ty (n : String)
  deriving DecidableEq

def RelV : V → Value → Prop
  | .non, u => u = Value.none
  | .bl b, u => u = Value.bool b
  | .int i, u => ∃ t, u = Value.int i t
  | .str x, u => ∃ t, u = Value.str x t
  | .byt b, u => ∃ t, u = Value.bytes b t
  | .flt b, u => ∃ t, u = Value.float b t
  | .ref a, u => u = Value.ref a
  | .ty n, u => u = Value.type n

abbrev Vals : List V → List Value → Prop := Paired RelV
theorem Vals.length {xs : List V} {us : List Value} (r : Vals xs us) : xs.length = us.length := Paired.length r
theorem Vals.get : ∀ {xs : List V} {us : List Value} {i : Nat} {x : V}, Vals xs us → xs[i]? = some x → ∃ u, us[i]? = some u ∧ RelV x u
  | _, _, _, _, .nil, e => by simp at e
  | _, _, 0, _, .cons r _, e => by simp at e; subst e; exact ⟨_, rfl, r⟩
  | _, _, i + 1, x, .cons _ t, e => by
    obtain ⟨u, h1, h2⟩ := Vals.get (i := i) (x := x) t (by simpa using e)
    exact ⟨u, by simpa using h1, h2⟩
theorem Vals.set {x : V} {u : Value} (r : RelV x u) : ∀ {xs : List V} {us : List Value} (i : Nat), Vals xs us → Vals (xs.set i x) (us.set i u)
  | _, _, _, .nil => .nil
  | _, _, 0, .cons _ t => .cons r t
  | _, _, i + 1, .cons q t => .cons q (Vals.set r i t)
theorem Vals.append : ∀ {xs ys : List V} {us ws : List Value}, Vals xs us → Vals ys ws → Vals (xs ++ ys) (us ++ ws)
  | _, _, _, _, .nil, s => s
  | _, _, _, _, .cons r t, s => .cons r (Vals.append t s)
theorem Vals.take : ∀ {xs : List V} {us : List Value} (n : Nat), Vals xs us → Vals (xs.take n) (us.take n)
  | _, _, 0, _ => .nil
  | _, _, _ + 1, .nil => .nil
  | _, _, n + 1, .cons r t => .cons r (Vals.take n t)
theorem Vals.drop : ∀ {xs : List V} {us : List Value} (n : Nat), Vals xs us → Vals (xs.drop n) (us.drop n)
  | _, _, 0, r => r
  | _, _, _ + 1, .nil => .nil
  | _, _, n + 1, .cons _ t => Vals.drop n t
theorem Vals.none_of : ∀ {xs : List V} {us : List Value} {i : Nat}, Vals xs us → xs[i]? = none → us[i]? = none := fun {xs us i} r e => by
  have h1 := r.length
  have h2 : xs.length ≤ i := List.getElem?_eq_none_iff.mp e
  exact List.getElem?_eq_none_iff.mpr (by omega)

def RelO : Option V → Option Value → Prop
  | some v, some u => RelV v u
  | none, none => True
  | _, _ => False
def KV {κ : Type} : List (κ × V) → List (κ × Value) → Prop := Paired fun (p : κ × V) (q : κ × Value) => p.1 = q.1 ∧ RelV p.2 q.2

/-- a key of a dict (00_mix): an int or a text -/
def kV : Key → V
  | .inl i => .int i
  | .inr x => .str x

/-- what stands at a tracked address -/
inductive HO where
  /-- a list -/
  | lst (xs : List V)
  /-- a tuple (never changes) -/
  | tup (xs : List V)
  /-- a dict whose keys are ints and texts; one whose keys are tuples of ints and texts (the empty one is both) -/
  | dK (kvs : List (Key × V)) | dT (kvs : List (List Key × V))
  /-- a set of ints: its members, its size -/
  | set (S : Int → Bool) (n : Nat)
  /-- an instance of the class at C, its dict at dx, its attributes -/
  | ins (C dx : Addr) (fs : List (Str × V))
  /-- the dict of the instance at x -/
  | own (x : Addr)
  /-- the dict of an exception -/
  | xd (fs : List (Str × V))
  /-- a bound method, f of x -/
  | met (f x : Addr)
  /-- a range object lo, lo + 1, .. below hi -/
  | rng (lo hi : Int)
  /-- a thing that is known to the object (the script; a dict while a loop walks it): read, never written while it is so -/
  | frz (o : Obj) (u : HO)
  /-- a code object's table -/
  | tbl (ps : Array Value)
  /-- any other thing, by what is true of its one object (a def of one's own: SetO a S n := HO.ext fun h => ..) -/
  | ext (φ : Heap → Prop)

abbrev Hp := Addr → Option HO
def upd (H : Hp) (a : Addr) (o : HO) : Hp := fun b => if b = a then some o else H b
theorem upd_same {H : Hp} {a : Addr} {o : HO} : upd H a o a = some o := by unfold upd; rw [if_pos rfl]
theorem upd_ne {H : Hp} {a b : Addr} {o : HO} (h : b ≠ a) : upd H a o b = H b := by unfold upd; rw [if_neg h]
/-- two objects of different content stand apart -/
theorem ne_of {H : Hp} {a b : Addr} {o u : HO} (h : H a = some o) (h' : H b = some u) (d : o ≠ u) : a ≠ b := by
  intro e; subst e; rw [h] at h'; exact d (Option.some.inj h')
theorem ne_of_none {H : Hp} {a b : Addr} {o : HO} (h : H a = some o) (h' : H b = none) : a ≠ b := by
  intro e; subst e; rw [h] at h'; cases h'

section
variable (P : Program) (w : World)
def ObjOk (H : Hp) (h : Heap) (a : Addr) : HO → Prop
  | .lst xs => xs.length ≤ sizeLine ∧ ∃ (its : List Value) (n : Nat), Vals xs its ∧ h.get? a = some { cls := .type "list", data := .seq its.toArray n }
  | .tup xs => xs.length ≤ sizeLine ∧ ∃ its : List Value, Vals xs its ∧ IsTup h a its.toArray
  | .dK kvs => kvs.length ≤ sizeLine ∧ (a == sysModules) = false ∧ ∃ vs, KV kvs vs ∧ h.DictOf (mixKind P w) a vs
  | .dT kvs => kvs.length ≤ sizeLine ∧ (a == sysModules) = false ∧ ∃ xs : List (List Key × Addr × Value),
      Paired (fun (p : List Key × V) (q : List Key × Addr × Value) => p.1 = q.1 ∧ H q.2.1 = some (.tup (p.1.map kV)) ∧ RelV p.2 q.2.2) kvs xs ∧
      ∃ o es ep, h.get? a = some o ∧ o.ExactDict ∧ o.data = .dict es ep ∧ es.toList = xs.map (entryOfKey (tupleKind (mixKind P w))) ∧ (xs.map (·.1)).Nodup
  | .set S n => h.SetOf (intKind P w) a S n
  | .ins C dx fs => H dx = some (.own a) ∧ fs.length ≤ 1000 ∧ dx ≠ a ∧ h.get? a = some (PySem.W.instObj C dx) ∧
      ∃ mA, h.Ns1 dx mA ∧ (∀ f, RelO (fs.lookup f) (mA f)) ∧ PySem.Within mA (fs.map (·.1))
  | .own _ => ∃ o, h.get? a = some o
  | .xd fs => ∃ mA, h.Ns1 a mA ∧ ∀ f, RelO (fs.lookup f) (mA f)
  | .rng lo hi => ∃ t u v, h.get? a = some { cls := .type "range", data := .fields #[.int lo t, .int hi u, .int 1 v] }
  | .frz o u => h.get? a = some o ∧ ObjOk H h a u
  | .tbl ps => h.get? a = some { cls := .none, data := .fields ps }
  | .met f x => h.get? a = some (PySem.W.methodObj (.ref f) (.ref x))
  | .ext φ => φ h ∧ (∃ o, h.get? a = some o) ∧ ∀ h1 h2 : Heap, φ h1 → (∀ o, h1.get? a = some o → h2.get? a = some o) → φ h2
/-- the abstract heap is held -/
def HOk (H : Hp) (h : Heap) : Prop := ∀ a o, H a = some o → ObjOk P w H h a o
end

section
variable {P : Program} {w : World} {H H' : Hp} {h h' : Heap} {a : Addr} {o : HO}
theorem ObjOk.lt (x : ObjOk P w H h a o) : a < h.objs.size := by
  cases o with
  | lst xs => obtain ⟨_, _, _, _, e⟩ := x; exact Heap.lt_size e
  | tup xs => obtain ⟨_, _, _, p⟩ := x; exact p.lt
  | dK kvs => obtain ⟨_, _, _, _, o, _, _, e, _⟩ := x; exact Heap.lt_size e
  | dT kvs => obtain ⟨_, _, _, _, o, _, _, e, _⟩ := x; exact Heap.lt_size e
  | set S n => obtain ⟨o, _, _, _, e, _⟩ := x; exact Heap.lt_size e
  | ins C dx fs => obtain ⟨_, _, _, e, _⟩ := x; exact Heap.lt_size e
  | own y => obtain ⟨_, e⟩ := x; exact Heap.lt_size e
  | xd fs => obtain ⟨_, ⟨_, _, _, e, _⟩, _⟩ := x; exact Heap.lt_size e
  | rng lo hi => obtain ⟨_, _, _, e⟩ := x; exact Heap.lt_size e
  | frz ob u => obtain ⟨e, _⟩ := x; exact Heap.lt_size e
  | tbl ps => exact Heap.lt_size (show h.get? a = some _ from x)
  | met f y => exact Heap.lt_size (show h.get? a = some _ from x)
  | ext φ => obtain ⟨_, ⟨_, e⟩, _⟩ := x; exact Heap.lt_size e
theorem Paired.mapP {α β : Type} {F G : α → β → Prop} : ∀ {l₁ : List α} {l₂ : List β}, Paired F l₁ l₂ → (∀ a b, F a b → G a b) → Paired G l₁ l₂
  | _, _, .nil, _ => .nil
  | _, _, .cons r t, f => .cons (f _ _ r) (Paired.mapP t f)
theorem Paired.imp' {α β : Type} {F G : α → β → Prop} (f : ∀ a b, F a b → G a b) {l₁ : List α} {l₂ : List β} (r : Paired F l₁ l₂) : Paired G l₁ l₂ := Paired.mapP r f
/-- what an object's description leans on: its own object, its own dict, the tuples -/
theorem ObjOk.stay (x : ObjOk P w H h a o) (k : ∀ b u, (b = a ∨ H b = some (.own a)) → h.get? b = some u → h'.get? b = some u)
    (ho : ∀ b, H b = some (.own a) → H' b = some (.own a)) (ht : ∀ b xs, H b = some (.tup xs) → H' b = some (.tup xs)) : ObjOk P w H' h' a o := by
  induction o with
  | lst xs => obtain ⟨z, its, n, r, e⟩ := x; exact ⟨z, its, n, r, k _ _ (.inl rfl) e⟩
  | tup xs => obtain ⟨z, its, r, ob, e, c⟩ := x; exact ⟨z, its, r, ob, k _ _ (.inl rfl) e, c⟩
  | dK kvs => obtain ⟨z, y, vs, r, ob, es, ep, e, c⟩ := x; exact ⟨z, y, vs, r, ob, es, ep, k _ _ (.inl rfl) e, c⟩
  | dT kvs =>
    obtain ⟨z, y, xs, r, ob, es, ep, e, c⟩ := x
    exact ⟨z, y, xs, Paired.mapP r fun p q z => ⟨z.1, ht _ _ z.2.1, z.2.2⟩, ob, es, ep, k _ _ (.inl rfl) e, c⟩
  | set S n => obtain ⟨ob, es, ep, t, e, c⟩ := x; exact ⟨ob, es, ep, t, k _ _ (.inl rfl) e, c⟩
  | ins C dx fs =>
    obtain ⟨d, z, ne, e, mA, ⟨od, es, ep, e2, c⟩, r⟩ := x
    exact ⟨ho _ d, z, ne, k _ _ (.inl rfl) e, mA, ⟨od, es, ep, k _ _ (.inr d) e2, c⟩, r⟩
  | own y => obtain ⟨ob, e⟩ := x; exact ⟨ob, k _ _ (.inl rfl) e⟩
  | xd fs => obtain ⟨mA, ⟨od, es, ep, e, c⟩, r⟩ := x; exact ⟨mA, ⟨od, es, ep, k _ _ (.inl rfl) e, c⟩, r⟩
  | rng lo hi => obtain ⟨t, u, v, e⟩ := x; exact ⟨t, u, v, k _ _ (.inl rfl) e⟩
  | frz ob u ih => obtain ⟨e, q⟩ := x; exact ⟨k _ _ (.inl rfl) e, ih q⟩
  | tbl ps =>
    have e : h.get? a = some { cls := .none, data := .fields ps } := x
    show h'.get? a = some { cls := .none, data := .fields ps }
    exact k a _ (.inl rfl) e
  | met f y =>
    have e : h.get? a = some (PySem.W.methodObj (.ref f) (.ref y)) := x
    show h'.get? a = some (PySem.W.methodObj (.ref f) (.ref y))
    exact k a _ (.inl rfl) e
  | ext φ => obtain ⟨p, ⟨o, e⟩, st⟩ := x; exact ⟨st _ _ p fun o q => k _ _ (.inl rfl) q, ⟨o, k _ _ (.inl rfl) e⟩, st⟩
theorem HOk.lt (x : HOk P w H h) (e : H a = some o) : a < h.objs.size := (x a o e).lt
theorem HOk.fresh (x : HOk P w H h) (e : h.objs.size ≤ a) : H a = none := by
  cases q : H a with
  | none => rfl
  | some u => exact absurd (Nat.lt_of_lt_of_le (x.lt q) e) (Nat.lt_irrefl _)
/-- every object of the heap is kept -/
theorem HOk.kept (x : HOk P w H h) (k : ∀ b u, h.get? b = some u → h'.get? b = some u) : HOk P w H h' := fun a o e =>
  (x a o e).stay (fun b u _ q => k b u q) (fun _ q => q) fun _ _ q => q
/-- a new object is laid and tracked -/
theorem HOk.laid (x : HOk P w H h) (k : ∀ b u, h.get? b = some u → h'.get? b = some u) (hp : h.objs.size ≤ a) (new : ObjOk P w (upd H a o) h' a o) : HOk P w (upd H a o) h' := fun b u e => by
  have hn := x.fresh hp
  by_cases hb : b = a
  · subst hb; rw [upd_same] at e; cases e; exact new
  · rw [upd_ne hb] at e
    exact (x b u e).stay (fun c v _ q => k c v q) (fun c q => by rw [upd_ne (ne_of_none q hn)]; exact q) fun c xs q => by rw [upd_ne (ne_of_none q hn)]; exact q
end

/-- what may be read as u: it is u, or a known u -/
def Rd (H : Hp) (a : Addr) (u : HO) : Prop := H a = some u ∨ ∃ o, H a = some (.frz o u)
theorem Rd.of {H : Hp} {a : Addr} {u : HO} (h : H a = some u) : Rd H a u := .inl h
theorem Rd.ok {P : Program} {w : World} {H : Hp} {h : Heap} {a : Addr} {u : HO} (r : Rd H a u) (x : HOk P w H h) : ObjOk P w H h a u := by
  rcases r with r | ⟨o, r⟩
  · exact x a u r
  · obtain ⟨_, q⟩ := x a _ r
    exact q
/-- what may be written -/
def Mut : Option HO → Prop
  | some (.lst _) => True
  | some (.dK _) => True
  | some (.dT _) => True
  | some (.set _ _) => True
  | some (.ins _ _ _) => True
  | some (.ext _) => True
  | _ => False
section
variable {P : Program} {w : World} {H : Hp} {h h' : Heap} {x e : Addr} {o' : HO}
/-- the object at e is changed: x itself, or the dict of the instance x -/
theorem HOk.write (ok : HOk P w H h) (mu : Mut (H x)) (he : e = x ∨ H e = some (.own x)) (k : ∀ b u, b ≠ e → h.get? b = some u → h'.get? b = some u) (heo : ∃ u, h'.get? e = some u)
    (new : ObjOk P w (upd H x o') h' x o') : HOk P w (upd H x o') h' := fun b u q => by
  have nown : ∀ c y, H c = some (.own y) → c ≠ x := fun c y r z => by subst z; rw [r] at mu; exact mu
  have ntup : ∀ c xs, H c = some (.tup xs) → c ≠ x := fun c xs r z => by subst z; rw [r] at mu; exact mu
  by_cases hb : b = x
  · subst hb; rw [upd_same] at q; cases q; exact new
  · rw [upd_ne hb] at q
    by_cases hbe : b = e
    · have q' : H b = some (.own x) := by
        rcases he with z | z
        · exact absurd (hbe.trans z) hb
        · rw [hbe]; exact z
      rw [q] at q'; cases q'
      obtain ⟨v, hv⟩ := heo
      exact ⟨v, by rw [hbe]; exact hv⟩
    · refine (ok b u q).stay (fun c v hc r => k c v ?_ r) (fun c r => by rw [upd_ne (nown c b r)]; exact r) fun c xs r => by rw [upd_ne (ntup c xs r)]; exact r
      rcases hc with rfl | hc
      · exact hbe
      · rintro rfl
        rcases he with z | z
        · exact nown c b hc z
        · rw [hc] at z; cases z; exact hb rfl
end

/-! ### kept unless tracked; of the frames at fs (the callers') the slots may change (an exception that passes writes there); of the records at ex (iterators) nothing is said -/
structure Un (fs ex : List Addr) (H H' : Hp) (h h' : Heap) : Prop where
  keep : ∀ b o, h.get? b = some o → H b = none → b ∉ fs → b ∉ ex → h'.get? b = some o
  slot : ∀ b o, h.get? b = some o → H b = none → b ∈ fs → b ∉ ex → ∃ sl, h'.get? b = some { o with slots := sl }
  free : ∀ b o, h.get? b = some o → H b = none → b ∉ ex → H' b = none
  there : ∀ b o, h.get? b = some o → b ∉ ex → ∃ o', h'.get? b = some o'
  tups : ∀ b xs, H b = some (.tup xs) → H' b = some (.tup xs)
  frzs : ∀ b o u, H b = some (.frz o u) → H' b = some (.frz o u)
  tbls : ∀ b ps, H b = some (.tbl ps) → ∃ more, H' b = some (.tbl (ps ++ more))
section
variable {fs fs' ex ex' : List Addr} {H H1 H2 : Hp} {h h1 h2 h' : Heap} {a x e : Addr} {o : HO}
theorem Un.any (u : Un fs ex H H1 h h1) {b : Addr} {ob : Obj} (q : h.get? b = some ob) (n : H b = none) (hx : b ∉ ex) : ∃ sl, h1.get? b = some { ob with slots := sl } := by
  by_cases hb : b ∈ fs
  · exact u.slot b ob q n hb hx
  · exact ⟨ob.slots, u.keep b ob q n hb hx⟩
theorem Un.trans (a : Un fs ex H H1 h h1) (b : Un fs ex H1 H2 h1 h2) : Un fs ex H H2 h h2 where
  keep := fun c ob q n hc hx => b.keep c ob (a.keep c ob q n hc hx) (a.free c ob q n hx) hc hx
  slot := fun c ob q n hc hx => by
    obtain ⟨sl, e1⟩ := a.slot c ob q n hc hx
    obtain ⟨sl', e2⟩ := b.slot c _ e1 (a.free c ob q n hx) hc hx
    exact ⟨sl', e2⟩
  free := fun c ob q n hx => by
    obtain ⟨o', e1⟩ := a.there c ob q hx
    exact b.free c o' e1 (a.free c ob q n hx) hx
  there := fun c ob q hx => by
    obtain ⟨o', e1⟩ := a.there c ob q hx
    exact b.there c o' e1 hx
  tups := fun c xs q => b.tups c xs (a.tups c xs q)
  frzs := fun c ob xs q => b.frzs c ob xs (a.frzs c ob xs q)
  tbls := fun c ps q => by
    obtain ⟨m1, e1⟩ := a.tbls c ps q
    obtain ⟨m2, e2⟩ := b.tbls c _ e1
    exact ⟨m1 ++ m2, by rw [e2, Array.append_assoc]⟩
theorem Un.kept (k : ∀ b u, h.get? b = some u → h'.get? b = some u) : Un fs ex H H h h' :=
  ⟨fun b ob q _ _ _ => k b ob q, fun b ob q _ _ _ => ⟨ob.slots, k b ob q⟩, fun _ _ _ n _ => n, fun b ob q _ => ⟨ob, k b ob q⟩, fun _ _ q => q, fun _ _ _ q => q, fun _ ps q => ⟨#[], by rw [q]; simp⟩⟩
theorem Un.refl : Un fs ex H H h h := Un.kept fun _ _ q => q
theorem Un.laid (k : ∀ b u, h.get? b = some u → h'.get? b = some u) (hp : h.objs.size ≤ a) (hn : H a = none) : Un fs ex H (upd H a o) h h' where
  keep := fun b u q _ _ _ => k b u q
  slot := fun b u q _ _ _ => ⟨u.slots, k b u q⟩
  free := fun b u q n _ => by rw [upd_ne (Nat.ne_of_lt (Nat.lt_of_lt_of_le (Heap.lt_size q) hp))]; exact n
  there := fun b u q _ => ⟨u, k b u q⟩
  tups := fun b xs q => by rw [upd_ne (ne_of_none q hn)]; exact q
  frzs := fun b u xs q => by rw [upd_ne (ne_of_none q hn)]; exact q
  tbls := fun b ps q => ⟨#[], by rw [upd_ne (ne_of_none q hn), q]; simp⟩
theorem Un.write (mu : Mut (H x)) (he : e = x ∨ H e = some (.own x)) (k : ∀ b u, b ≠ e → h.get? b = some u → h'.get? b = some u) (heo : ∃ u, h'.get? e = some u) : Un fs ex H (upd H x o) h h' := by
  have hx : ∀ b, H b = none → b ≠ x := fun b n z => by subst z; rw [n] at mu; exact mu
  have hb : ∀ b, H b = none → b ≠ e := fun b n z => by
    subst z
    rcases he with r | r
    · exact hx b n r
    · rw [n] at r; cases r
  have hm : ∀ b u, H b = some u → ¬ Mut (some u) → b ≠ x := fun b u q nm z => by subst z; rw [q] at mu; exact nm mu
  refine ⟨fun b u q n _ _ => k b u (hb b n) q, fun b u q n _ _ => ⟨u.slots, k b u (hb b n) q⟩, fun b u q n _ => by rw [upd_ne (hx b n)]; exact n, fun b u q _ => ?_,
    fun b xs q => by rw [upd_ne (hm b _ q fun z => z)]; exact q, fun b u xs q => by rw [upd_ne (hm b _ q fun z => z)]; exact q, fun b ps q => ⟨#[], by rw [upd_ne (hm b _ q fun z => z), q]; simp⟩⟩
  by_cases hbe : b = e
  · subst hbe; exact heo
  · exact ⟨u, k b u hbe q⟩
theorem Un.mono (u : Un fs ex H H1 h h1) (hs : ∀ b ∈ fs, b ∈ fs') (hx : ∀ b ∈ ex, b ∈ ex') : Un fs' ex' H H1 h h1 :=
  ⟨fun b ob q n hb he => u.keep b ob q n (fun z => hb (hs b z)) fun z => he (hx b z), fun _ _ q n _ he => u.any q n fun z => he (hx _ z), fun b ob q n he => u.free b ob q n fun z => he (hx b z), fun b ob q he => u.there b ob q fun z => he (hx b z), u.tups, u.frzs, u.tbls⟩
end

/-! ### the heap without what is tracked -/
def trk (h : Heap) (H : Hp) : List Addr := (List.range h.objs.size).filter fun a => (H a).isSome
def hidT (h : Heap) (H : Hp) : Heap := PySem.W.hideAll h (trk h H)
theorem hidT_size (h : Heap) (H : Hp) : (hidT h H).objs.size = h.objs.size := PySem.W.hideAll_size _ _
theorem hidT_get {h : Heap} {H : Hp} {b : Addr} {o : Obj} (e : h.get? b = some o) (n : H b = none) : (hidT h H).get? b = some o :=
  PySem.W.hideAll_get _ e fun hm => by
    have q : (H b).isSome = true := (List.mem_filter.mp hm).2
    rw [n] at q; simp at q
theorem of_hidT {h : Heap} {H : Hp} {b : Addr} {o : Obj} (e : (hidT h H).get? b = some o) : h.get? b = some o ∧ H b = none := by
  have e' : h.get? b = some o := PySem.W.of_hideAll (trk h H) e
  refine ⟨e', ?_⟩
  cases q : H b with
  | none => rfl
  | some x =>
    have hm : b ∈ trk h H := List.mem_filter.mpr ⟨List.mem_range.mpr (Heap.lt_size e'), by simp [q]⟩
    have z : (hidT h H).get? b = none := PySem.W.hideAll_none (trk h H) hm
    rw [z] at e; cases e

/-! ### OpenK's ledger, filled with every new object but one -/
def allNews (g h : Heap) (L : Addr) : List (Addr × Obj) := (List.range h.objs.size).filterMap fun a => if a = L ∨ (g.get? a).isSome = true then none else (h.get? a).map fun o => (a, o)
def rest (g h : Heap) (L d : Addr) : List (Addr × Obj) := (allNews g h L).filter fun p => decide (p.1 ≠ d)
end L2

namespace L2
open PySem PySem.Spec PyProof.Rows

/-- the module's facts, over the base: the heap at the law's entry without what is tracked there -/
structure Mod (K : PySem.W.Frag) (mg : Str → Option Value) (base : Heap) : Prop where
  kin : K.In base
  glob : base.Ns mainGlobals mg
  blt : ∃ mb, base.Ns builtinsNs mb ∧ ∀ x : Str, x ≠ "__name__" → mb x = bootBuiltins x
  nolimit : base.NoLimit

/-- the context: a def's body (or a comprehension's block) running. base: fixed through the whole law; s₀, H₀: the entry; outer: the frames whose slots others may change (a def's callers); stack: all frames that run;
   ex: iterators that were made ahead of the entry and are walked here (a comprehension's); fn: the names whose cells were made at the entry (a def: all; a comprehension's block: its own); calm: not within an except suite; pn: pins that every state bears; xe: what is wanted of an exception that leaves the code -/
structure Cx where
  prog : Program
  w : World
  K : PySem.W.Frag
  mg : Str → Option Value
  base : Heap
  A : Around
  N : List Str
  s₀ : Shared
  H₀ : Hp
  env : Env
  outer : List Env
  stack : List Env
  ex : List Addr
  fn : Str → Bool
  calm : Bool
  pn : List (Addr × Obj)
  xe : Value → Shared → Prop
/-- the callers' frames -/
def frs (l : List Env) : List Addr := l.filterMap (·.frame)
abbrev Cx.fs (X : Cx) : List Addr := frs X.outer

def Vis (sc : Scope) (x : Str) : Prop := sc.names.lookup x = some .local ∨ sc.names.lookup x = some .cell ∨ sc.names.lookup x = some .free
def Loc (sc : Scope) (x : Str) : Prop := sc.names.lookup x = some .local ∨ sc.names.lookup x = some .cell
def Look (env : Env) (h : Heap) (m : Str → Option Value) (x : Str) (u : Value) : Prop :=
  (env.kindOf x = some .local ∧ m x = some u) ∨ ((env.kindOf x = some .cell ∨ env.kindOf x = some .free) ∧ ∃ c, env.cells.lookup x = some c ∧ h.IsCell c (some u))

structure Cx.Ok (X : Cx) : Prop where
  mod : Mod X.K X.mg X.base
  kind : X.env.scope.kind = .function
  glob : X.env.globals = mainGlobals
  blt : X.env.builtins = builtinsNs
  above : X.s₀.heap.objs.size ≤ X.env.locals
  inj : ∀ x y c, X.env.cells.lookup x = some c → X.env.cells.lookup y = some c → x = y
  has : ∀ x, (X.env.kindOf x = some .cell ∨ X.env.kindOf x = some .free) → ∃ c, X.env.cells.lookup x = some c
  cab : ∀ x c, X.fn x = true → X.env.cells.lookup x = some c → X.s₀.heap.objs.size ≤ c
  hd : X.calm = true → X.A.handled = none
  frames : X.A.frames = some X.stack
  stk : X.stack = X.outer ∨ (X.stack = X.env :: X.outer ∧ X.env.frame = some X.env.locals)
  exf : ∀ b ∈ X.ex, b ≠ X.env.locals ∧ ∀ x c, X.env.cells.lookup x = some c → c ≠ b
  bs : ∀ b o, X.base.get? b = some o → X.s₀.heap.get? b = some o ∧ X.H₀ b = none
  bsz : X.base.objs.size ≤ X.s₀.heap.objs.size
  noex : ∀ b o, X.base.get? b = some o → b ∉ X.ex
  exfs : ∀ b ∈ X.ex, b ∉ X.fs
  funs : X.s₀.heap.FunFrames X.base X.outer
  frf : ∀ b ∈ X.fs, X.H₀ b = none

structure Inv (X : Cx) (pins : List (Addr × Obj)) (σ : List (Option V)) (H : Hp) (s : Shared) : Prop where
  ok : X.Ok
  os : s.os = X.s₀.os
  bare : AllBare s.gens
  base : Un X.fs X.ex X.H₀ H X.s₀.heap s.heap
  loc : ∃ m, s.heap.Ns X.env.locals m ∧ ∀ (i : Nat) (x : Str) (v : V), X.N[i]? = some x → σ[i]? = some (some v) → Vis X.env.scope x → ∃ u, RelV v u ∧ Look X.env s.heap m x u
  cell : ∀ x c, X.env.cells.lookup x = some c → ∃ v, s.heap.IsCell c v
  free : H X.env.locals = none
  freeC : ∀ x c, X.env.cells.lookup x = some c → H c = none
  pin : ∀ p ∈ X.pn ++ pins, s.heap.get? p.1 = some p.2 ∧ H p.1 = none ∧ p.1 ≠ X.env.locals ∧ p.1 ∉ X.fs ∧ ∀ v, p.2.data ≠ .cell v
  hok : HOk X.prog X.w H s.heap
  len : σ.length = X.N.length

section
variable {X : Cx} {pins : List (Addr × Obj)} {σ : List (Option V)} {H H' : Hp} {s : Shared} {h' : Heap}

theorem Cx.Ok.nofr (ok : X.Ok) {b : Addr} {o : Obj} (e : X.base.get? b = some o) : b ∉ X.fs := fun hb => by
  have := (ok.funs.mem hb).1
  rw [e] at this; cases this
theorem Inv.bs (I : Inv X pins σ H s) : ∀ b o, X.base.get? b = some o → s.heap.get? b = some o ∧ H b = none := fun b o e =>
  ⟨I.base.keep b o (I.ok.bs b o e).1 (I.ok.bs b o e).2 (I.ok.nofr e) (I.ok.noex b o e), I.base.free b o (I.ok.bs b o e).1 (I.ok.bs b o e).2 (I.ok.noex b o e)⟩
theorem Inv.bk (I : Inv X pins σ H s) : ∀ b o, X.base.get? b = some o → s.heap.get? b = some o := fun b o e => (I.bs b o e).1
theorem Inv.mod (I : Inv X pins σ H s) : Mod X.K X.mg X.base := I.ok.mod
theorem Inv.kIn (I : Inv X pins σ H s) : X.K.In s.heap := I.ok.mod.kin.keeps I.bk
theorem Inv.nolimit (I : Inv X pins σ H s) : s.heap.NoLimit := I.ok.mod.nolimit.keeps I.bk
/-- the frame over the base: for OpenK's rules (K.In X.base is I.mod.kin) -/
theorem Inv.fr (I : Inv X pins σ H s) : ∃ m, Fr X.base X.env.locals s.heap m :=
  let ⟨m, hn, _⟩ := I.loc
  ⟨m, hn, I.bk, Nat.le_trans I.ok.bsz I.ok.above⟩
theorem Inv.lt (I : Inv X pins σ H s) : X.env.locals < s.heap.objs.size := let ⟨_, hn, _⟩ := I.loc; hn.lt
theorem Inv.sz (I : Inv X pins σ H s) : X.s₀.heap.objs.size ≤ s.heap.objs.size := Nat.le_trans I.ok.above (Nat.le_of_lt I.lt)
theorem Inv.nofs (I : Inv X pins σ H s) {a : Addr} (h : s.heap.objs.size ≤ a) : a ∉ X.fs := fun hb => by
  obtain ⟨_, o, ho, _⟩ := I.ok.funs.mem hb
  exact absurd (Nat.lt_of_lt_of_le (Heap.lt_size ho) (Nat.le_trans I.sz h)) (Nat.lt_irrefl _)
theorem Inv.cne (I : Inv X pins σ H s) : ∀ x c, X.env.cells.lookup x = some c → c ≠ X.env.locals := fun x c e z => by
  obtain ⟨v, o, ho, hd⟩ := I.cell x c e
  obtain ⟨m, ⟨o', es, ep, ho', hd', _⟩, _⟩ := I.loc
  rw [z, ho'] at ho; cases ho; rw [hd'] at hd; cases hd
theorem Inv.funs (I : Inv X pins σ H s) : s.heap.FunFrames X.base X.outer := by
  have all : ∀ (l : List Env), (∀ b ∈ frs l, b ∈ X.fs) → X.s₀.heap.FunFrames X.base l → s.heap.FunFrames X.base l := by
    intro l
    induction l with
    | nil => intro _ _; trivial
    | cons env r ih =>
      intro hs hl
      obtain ⟨hk, ⟨L, o, hf, hn, ho, hd⟩, hr⟩ := hl
      have hL : L ∈ X.fs := hs L (by unfold frs; rw [List.filterMap_cons, hf]; exact List.mem_cons_self)
      obtain ⟨sl, e⟩ := I.base.slot L o ho (I.ok.frf L hL) hL fun z => I.ok.exfs L z hL
      exact ⟨hk, ⟨L, _, hf, hn, e, hd⟩, ih (fun b hb => hs b (by unfold frs; rw [List.filterMap_cons, hf]; exact List.mem_cons_of_mem _ hb)) hr⟩
  exact all X.outer (fun _ hb => hb) I.ok.funs

/-- the frames that run, for a call -/
theorem Inv.stack (I : Inv X pins σ H s) : s.heap.FunFrames X.base X.stack := by
  rcases I.ok.stk with e | ⟨e, hf⟩
  · rw [e]; exact I.funs
  · rw [e]
    obtain ⟨m, hn, _⟩ := I.loc
    refine .cons (by rw [I.ok.kind]; decide) hf hn ?_ I.funs
    exact Heap.get?_none_of_le (Nat.le_trans I.ok.bsz I.ok.above)
theorem Inv.stkSub (I : Inv X pins σ H s) : ∀ b ∈ frs X.stack, b ∈ X.env.locals :: X.fs := fun b hb => by
  rcases I.ok.stk with e | ⟨e, hf⟩
  · rw [e] at hb; exact List.mem_cons_of_mem _ hb
  · rw [e] at hb
    unfold frs at hb
    rw [List.filterMap_cons, hf] at hb
    exact hb
theorem Inv.stkFree (I : Inv X pins σ H s) : ∀ b ∈ frs X.stack, H b = none := fun b hb => by
  rcases List.mem_cons.mp (I.stkSub b hb) with e | hb
  · rw [e]; exact I.free
  · obtain ⟨_, o, ho, _⟩ := I.ok.funs.mem hb
    exact I.base.free b o ho (I.ok.frf b hb) fun z => I.ok.exfs b z hb

/-- THE STEP: the untracked objects but the frame and the records at ch are kept (the callers' frames up to slots), the frame's map is kept, the new abstract heap is held -/
theorem Inv.step {g' : Array GenState} {t' : Nat} {d' : Drawn} {ch : List Addr} (I : Inv X pins σ H s)
    (hch : ∀ b ∈ ch, (b ∈ X.ex ∨ X.s₀.heap.objs.size ≤ b) ∧ b ≠ X.env.locals ∧ (∀ x c, X.env.cells.lookup x = some c → c ≠ b) ∧ ∀ p ∈ X.pn ++ pins, p.1 ≠ b)
    (keep : ∀ b o, b ≠ X.env.locals → b ∉ X.fs → b ∉ ch → s.heap.get? b = some o → H b = none → h'.get? b = some o)
    (slot : ∀ b o, b ≠ X.env.locals → b ∈ X.fs → b ∉ ch → s.heap.get? b = some o → H b = none → ∃ sl, h'.get? b = some { o with slots := sl }) (free : ∀ b o, b ∉ ch → s.heap.get? b = some o → H b = none → H' b = none)
    (there : ∀ b o, b ∉ ch → s.heap.get? b = some o → ∃ o', h'.get? b = some o')
    (tups : ∀ b xs, H b = some (.tup xs) → H' b = some (.tup xs)) (frzs : ∀ b o u, H b = some (.frz o u) → H' b = some (.frz o u)) (tbls : ∀ b ps, H b = some (.tbl ps) → ∃ more, H' b = some (.tbl (ps ++ more)))
    (ns : ∀ m, s.heap.Ns X.env.locals m → h'.Ns X.env.locals m) (hok : HOk X.prog X.w H' h') (hg : AllBare g') :
    Inv X pins σ H' { s with heap := h', gens := g', drawn := d', toks := t' } := by
  have neL : ∀ b o, X.s₀.heap.get? b = some o → b ≠ X.env.locals := fun b o e => Nat.ne_of_lt (Nat.lt_of_lt_of_le (Heap.lt_size e) I.ok.above)
  have neC : ∀ b o, X.s₀.heap.get? b = some o → b ∉ X.ex → b ∉ ch := fun b o e hx hb => by
    rcases (hch b hb).1 with z | z
    · exact hx z
    · exact absurd (Nat.lt_of_lt_of_le (Heap.lt_size e) z) (Nat.lt_irrefl _)
  have cellK : ∀ x c, X.env.cells.lookup x = some c → ∀ v, s.heap.IsCell c v → h'.IsCell c v := fun x c e v ⟨o, ho, hd⟩ => by
    have nch : c ∉ ch := fun z => (hch c z).2.2.1 x c e rfl
    by_cases hc : c ∈ X.fs
    · obtain ⟨sl, q⟩ := slot c o (I.cne x c e) hc nch ho (I.freeC x c e)
      exact ⟨_, q, hd⟩
    · exact ⟨o, keep c o (I.cne x c e) hc nch ho (I.freeC x c e), hd⟩
  refine ⟨I.ok, I.os, hg, ⟨fun b o e n hb hx => ?_, fun b o e n hb hx => ?_, fun b o e n hx => ?_, fun b o e hx => ?_, fun b xs e => tups b xs (I.base.tups b xs e), fun b o xs e => frzs b o xs (I.base.frzs b o xs e), fun b ps e => ?_⟩, ?_, fun x c e => ?_, ?_, fun x c e => ?_, fun p hp => ?_, hok, I.len⟩
  · exact keep b o (neL b o e) hb (neC b o e hx) (I.base.keep b o e n hb hx) (I.base.free b o e n hx)
  · obtain ⟨sl, e1⟩ := I.base.slot b o e n hb hx
    obtain ⟨sl', e2⟩ := slot b _ (neL b o e) hb (neC b o e hx) e1 (I.base.free b o e n hx)
    exact ⟨sl', e2⟩
  · obtain ⟨o', e1⟩ := I.base.there b o e hx
    exact free b o' (neC b o e hx) e1 (I.base.free b o e n hx)
  · obtain ⟨o', e1⟩ := I.base.there b o e hx
    exact there b o' (neC b o e hx) e1
  · obtain ⟨m1, e1⟩ := I.base.tbls b ps e
    obtain ⟨m2, e2⟩ := tbls b _ e1
    exact ⟨m1 ++ m2, by rw [e2, Array.append_assoc]⟩
  · obtain ⟨m, hn, hl⟩ := I.loc
    refine ⟨m, ns m hn, fun i x v e1 e2 e3 => ?_⟩
    obtain ⟨u, r, l⟩ := hl i x v e1 e2 e3
    refine ⟨u, r, ?_⟩
    rcases l with l | ⟨k, c, e, z⟩
    · exact .inl l
    · exact .inr ⟨k, c, e, cellK x c e _ z⟩
  · obtain ⟨v, z⟩ := I.cell x c e
    exact ⟨v, cellK x c e v z⟩
  · obtain ⟨m, ⟨o, _, _, ho, _⟩, _⟩ := I.loc
    exact free _ o (fun z => (hch _ z).2.1 rfl) ho I.free
  · obtain ⟨v, o, ho, hd⟩ := I.cell x c e
    exact free c o (fun z => (hch c z).2.2.1 x c e rfl) ho (I.freeC x c e)
  · obtain ⟨e, n, ne, nf, d⟩ := I.pin p hp
    have nch : p.1 ∉ ch := fun z => (hch p.1 z).2.2.2 p hp rfl
    exact ⟨keep p.1 p.2 ne nf nch e n, free p.1 p.2 nch e n, ne, nf, d⟩
/-- .. where the frame's own object is kept too -/
theorem Inv.un {t' : Nat} (I : Inv X pins σ H s) (u : Un X.fs [] H H' s.heap h') (hok : HOk X.prog X.w H' h') : Inv X pins σ H' { s with heap := h', toks := t' } := by
  obtain ⟨m, ⟨o, es, ep, ho, r⟩, _⟩ := id I.loc
  obtain ⟨sl, hL⟩ := u.any ho I.free (by simp)
  exact I.step (g' := s.gens) (d' := s.drawn) (ch := []) (fun _ z => nomatch z) (fun b o _ hb _ e n => u.keep b o e n hb (by simp)) (fun b o _ hb _ e n => u.slot b o e n hb (by simp)) (fun b o _ e n => u.free b o e n (by simp)) (fun b o _ e => u.there b o e (by simp)) u.tups u.frzs u.tbls (fun m' hm => by
    obtain ⟨o', es', ep', ho', r'⟩ := hm
    rw [ho] at ho'; cases ho'
    exact ⟨_, es', ep', hL, r'⟩) hok I.bare
/-- behind a call (or a comprehension's block): the slots of this frame may have changed too, the records at ch may have turned -/
theorem Inv.call {g' : Array GenState} {t' : Nat} {d' : Drawn} {ch : List Addr} (I : Inv X pins σ H s) (u : Un (frs X.stack) ch H H' s.heap h') (hok : HOk X.prog X.w H' h') (hg : AllBare g')
    (hch : ∀ b ∈ ch, (b ∈ X.ex ∨ X.s₀.heap.objs.size ≤ b) ∧ b ≠ X.env.locals ∧ (∀ x c, X.env.cells.lookup x = some c → c ≠ b) ∧ ∀ p ∈ X.pn ++ pins, p.1 ≠ b) :
    Inv X pins σ H' { s with heap := h', gens := g', drawn := d', toks := t' } := by
  obtain ⟨m, ⟨o, es, ep, ho, r⟩, _⟩ := id I.loc
  obtain ⟨sl, hL⟩ := u.any ho I.free fun z => (hch _ z).2.1 rfl
  exact I.step (ch := ch) hch (fun b o hL hb hc e n => u.keep b o e n (fun z => (List.mem_cons.mp (I.stkSub b z)).elim hL hb) hc) (fun b o _ _ hc e n => u.any e n hc) (fun b o hc e n => u.free b o e n hc) (fun b o hc e => u.there b o e hc) u.tups u.frzs u.tbls (fun m' hm => by
    obtain ⟨o', es', ep', ho', r'⟩ := hm
    rw [ho] at ho'; cases ho'
    exact ⟨_, es', ep', hL, r'⟩) hok hg
/-- an untracked record of ours (an iterator) has turned -/
theorem Inv.turned {t' : Nat} {it : Addr} (I : Inv X pins σ H s) (k : ∀ b o, b ≠ it → s.heap.get? b = some o → h'.get? b = some o) (hn : H it = none) (hL : it ≠ X.env.locals)
    (h1 : it ∈ X.ex ∨ X.s₀.heap.objs.size ≤ it) (h2 : ∀ x c, X.env.cells.lookup x = some c → c ≠ it) (h3 : ∀ p ∈ X.pn ++ pins, p.1 ≠ it) : Inv X pins σ H { s with heap := h', toks := t' } := by
  have nit : ∀ b u, H b = some u → b ≠ it := fun b u e z => by rw [z, hn] at e; cases e
  refine I.step (g' := s.gens) (d' := s.drawn) (ch := [it]) (fun b hb => ?_) (fun b o _ _ hc e _ => k b o (fun z => hc (by simp [z])) e) (fun b o _ _ hc e _ => ⟨o.slots, k b o (fun z => hc (by simp [z])) e⟩) (fun _ _ _ _ n => n)
    (fun b o hc e => ⟨o, k b o (fun z => hc (by simp [z])) e⟩) (fun _ _ e => e) (fun _ _ _ e => e) (fun b ps e => ⟨#[], by rw [e]; simp⟩) (fun m hm => ?_) (fun b u e => ?_) I.bare
  · have e : b = it := by simpa using hb
    subst e
    exact ⟨h1, hL, h2, h3⟩
  · obtain ⟨o, es, ep, ho, r⟩ := hm
    exact ⟨o, es, ep, k _ o (Ne.symm hL) ho, r⟩
  · refine (I.hok b u e).stay (fun c v hc q => k c v ?_ q) (fun _ q => q) fun _ _ q => q
    rcases hc with z | z
    · rw [z]; exact nit b u e
    · exact nit c _ z
theorem Inv.tok (I : Inv X pins σ H s) (t : Nat) : Inv X pins σ H { s with toks := t } := I.un (h' := s.heap) (t' := t) Un.refl I.hok
/-- all objects kept -/
theorem Inv.kept {t' : Nat} (I : Inv X pins σ H s) (k : ∀ b u, s.heap.get? b = some u → h'.get? b = some u) : Inv X pins σ H { s with heap := h', toks := t' } := I.un (Un.kept k) (I.hok.kept k)
/-- a new object laid and tracked -/
theorem Inv.laid {a : Addr} {o : HO} {t' : Nat} (I : Inv X pins σ H s) (k : ∀ b u, s.heap.get? b = some u → h'.get? b = some u) (hp : s.heap.objs.size ≤ a) (new : ObjOk X.prog X.w (upd H a o) h' a o) :
    Inv X pins σ (upd H a o) { s with heap := h', toks := t' } := I.un (Un.laid k hp (I.hok.fresh hp)) (I.hok.laid k hp new)
/-- an object written -/
theorem Inv.write {x e : Addr} {o : HO} {t' : Nat} (I : Inv X pins σ H s) (mu : Mut (H x)) (he : e = x ∨ H e = some (.own x)) (k : ∀ b u, b ≠ e → s.heap.get? b = some u → h'.get? b = some u) (heo : ∃ u, h'.get? e = some u)
    (new : ObjOk X.prog X.w (upd H x o) h' x o) : Inv X pins σ (upd H x o) { s with heap := h', toks := t' } := I.un (Un.write mu he k heo) (I.hok.write mu he k heo new)
/-- forgetting slots, pins -/
theorem Inv.weak {σ' : List (Option V)} (I : Inv X pins σ H s) (hl : σ'.length = σ.length) (w : ∀ (i : Nat) v, σ'[i]? = some (some v) → σ[i]? = some (some v)) : Inv X pins σ' H s :=
  ⟨I.ok, I.os, I.bare, I.base, let ⟨m, hn, hl'⟩ := I.loc; ⟨m, hn, fun i x v e1 e2 e3 => hl' i x v e1 (w i v e2) e3⟩, I.cell, I.free, I.freeC, I.pin, I.hok, hl.trans I.len⟩
theorem Inv.pins_of {pins' : List (Addr × Obj)} (I : Inv X pins σ H s) (h : ∀ p ∈ pins', s.heap.get? p.1 = some p.2 ∧ H p.1 = none ∧ p.1 ≠ X.env.locals ∧ p.1 ∉ X.fs ∧ ∀ v, p.2.data ≠ .cell v) : Inv X pins' σ H s :=
  ⟨I.ok, I.os, I.bare, I.base, I.loc, I.cell, I.free, I.freeC, fun p hp => (List.mem_append.mp hp).elim (fun z => I.pin p (List.mem_append_left _ z)) (h p), I.hok, I.len⟩

theorem nodup_ix {N : List Str} (hN : N.Nodup) {i j : Nat} {x : Str} (a : N[i]? = some x) (b : N[j]? = some x) : i = j := by
  obtain ⟨h1, e1⟩ := List.getElem?_eq_some_iff.mp a
  obtain ⟨h2, e2⟩ := List.getElem?_eq_some_iff.mp b
  exact (List.getElem_inj hN).mp (e1.trans e2.symm)

/-- a name is stored; what changed -/
theorem store_ok2 {M : Model} {A : Around} {E : Value → Shared → Prop} {i : Nat} {x : Str} {v : V} {u : Value} {Q : Unit → Shared → Prop} (I : Inv X pins σ H s) (hN : X.N.Nodup) (hi : X.N[i]? = some x) (hx : Loc X.env.scope x) (r : RelV v u)
    (h : ∀ s', Inv X pins (σ.set i (some v)) H s' → (∃ a, Heap.SameBut a s.heap s'.heap ∧ (a = X.env.locals ∨ X.env.cells.lookup x = some a)) → Q () s') (hf : X.fn x = true ∨ X.env.scope.names.lookup x = some .local := by first | exact .inl rfl | exact .inr rfl | assumption) : wpAny M A (storeName X.env x u) Q E s := by
  obtain ⟨m, hn, hl⟩ := id I.loc
  have hcls : (X.env.scope.kind == .class || (X.env.scope.kind == .module && X.env.locals != X.env.globals)) = false := by rw [I.ok.kind]; rfl
  have hiσ : i < σ.length := by rw [I.len]; exact (List.getElem?_eq_some_iff.mp hi).1
  have cne := I.cne
  have tracked : ∀ {a : Addr} {h' : Heap}, (∃ o, s.heap.get? a = some o ∧ H a = none) → Heap.SameBut a s.heap h' → HOk X.prog X.w H h' := fun {a h'} ha hs b ob e => by
    obtain ⟨_, _, hfree⟩ := ha
    refine (I.hok b ob e).stay (fun c w' hc q => (hs.2 c ?_).trans q) (fun _ q => q) fun _ _ q => q
    rintro rfl
    rcases hc with rfl | hc
    · rw [hfree] at e; cases e
    · rw [hfree] at hc; cases hc
  rcases hx with hk | hk
  · refine wpAny_storeName_local hk hn (fun h' hn' hs => ?_) hcls
    obtain ⟨oL, _, _, hoL, _⟩ := id hn
    refine h _ ⟨I.ok, I.os, I.bare, ⟨fun b o e n hb hx => ?_, fun b o e n hb hx => ?_, I.base.free, fun b o e hx => ?_, I.base.tups, I.base.frzs, I.base.tbls⟩, ⟨_, hn', fun j y v' e1 e2 e3 => ?_⟩, fun y c e => ?_, I.free, I.freeC, fun p hp => ?_, tracked ⟨oL, hoL, I.free⟩ hs, by simpa using I.len⟩ ⟨_, hs, .inl rfl⟩
    · exact (hs.2 b (Nat.ne_of_lt (Nat.lt_of_lt_of_le (Heap.lt_size e) I.ok.above))).trans (I.base.keep b o e n hb hx)
    · obtain ⟨sl, e1⟩ := I.base.slot b o e n hb hx
      exact ⟨sl, (hs.2 b (Nat.ne_of_lt (Nat.lt_of_lt_of_le (Heap.lt_size e) I.ok.above))).trans e1⟩
    · obtain ⟨o', e1⟩ := I.base.there b o e hx
      exact ⟨o', (hs.2 b (Nat.ne_of_lt (Nat.lt_of_lt_of_le (Heap.lt_size e) I.ok.above))).trans e1⟩
    · by_cases hj : j = i
      · subst hj
        rw [hi] at e1; cases e1
        rw [List.getElem?_set_self hiσ] at e2
        cases e2
        exact ⟨u, r, .inl ⟨hk, by simp⟩⟩
      · rw [List.getElem?_set_ne (Ne.symm hj)] at e2
        obtain ⟨u', r', q⟩ := hl j y v' e1 e2 e3
        refine ⟨u', r', ?_⟩
        rcases q with ⟨k, e⟩ | ⟨k, c, e, z⟩
        · refine .inl ⟨k, ?_⟩
          have : y ≠ x := fun e => hj (nodup_ix hN e1 (e ▸ hi))
          simp [this, e]
        · exact .inr ⟨k, c, e, z.sameBut hs (cne y c e)⟩
    · obtain ⟨w', z⟩ := I.cell y c e
      exact ⟨w', z.sameBut hs (cne y c e)⟩
    · obtain ⟨e, n, ne, nf, d⟩ := I.pin p hp
      exact ⟨(hs.2 p.1 ne).trans e, n, ne, nf, d⟩
  · have hfn : X.fn x = true := by
      rcases hf with z | z
      · exact z
      · rw [z] at hk; cases hk
    obtain ⟨c, hc⟩ := I.ok.has x (.inl hk)
    obtain ⟨w', z⟩ := I.cell x c hc
    refine wpAny_storeName_cell I.ok.kind hk hc z (fun h' hc' hs => ?_)
    obtain ⟨oc, hoc, hocd⟩ := id z
    refine h { s with heap := h' } ⟨I.ok, I.os, I.bare, ⟨fun b o e n hb hx => ?_, fun b o e n hb hx => ?_, I.base.free, fun b o e hx => ?_, I.base.tups, I.base.frzs, I.base.tbls⟩, ⟨m, hn.sameBut hs (Ne.symm (cne x c hc)), fun j y v' e1 e2 e3 => ?_⟩, fun y c' e => ?_, I.free, I.freeC, fun p hp => ?_, tracked ⟨oc, hoc, I.freeC x c hc⟩ hs, by simpa using I.len⟩ ⟨c, hs, .inr hc⟩
    · exact (hs.2 b (Nat.ne_of_lt (Nat.lt_of_lt_of_le (Heap.lt_size e) (I.ok.cab x c hfn hc)))).trans (I.base.keep b o e n hb hx)
    · obtain ⟨sl, e1⟩ := I.base.slot b o e n hb hx
      exact ⟨sl, (hs.2 b (Nat.ne_of_lt (Nat.lt_of_lt_of_le (Heap.lt_size e) (I.ok.cab x c hfn hc)))).trans e1⟩
    · obtain ⟨o', e1⟩ := I.base.there b o e hx
      exact ⟨o', (hs.2 b (Nat.ne_of_lt (Nat.lt_of_lt_of_le (Heap.lt_size e) (I.ok.cab x c hfn hc)))).trans e1⟩
    · by_cases hj : j = i
      · subst hj
        rw [hi] at e1; cases e1
        rw [List.getElem?_set_self hiσ] at e2
        cases e2
        exact ⟨u, r, .inr ⟨.inl hk, c, hc, hc'⟩⟩
      · rw [List.getElem?_set_ne (Ne.symm hj)] at e2
        obtain ⟨u', r', q⟩ := hl j y v' e1 e2 e3
        refine ⟨u', r', ?_⟩
        rcases q with q | ⟨k, c', e, z'⟩
        · exact .inl q
        · refine .inr ⟨k, c', e, z'.sameBut hs ?_⟩
          rintro rfl
          exact hj (nodup_ix hN e1 (I.ok.inj _ _ _ e hc ▸ hi))
    · by_cases hcc : c' = c
      · subst hcc; exact ⟨_, hc'⟩
      · obtain ⟨w2, z2⟩ := I.cell y c' e
        exact ⟨w2, z2.sameBut hs hcc⟩
    · obtain ⟨e, n, ne, nf, d⟩ := I.pin p hp
      refine ⟨(hs.2 p.1 ?_).trans e, n, ne, nf, d⟩
      intro q
      rw [q, hoc] at e
      have q' : oc = p.2 := Option.some.inj e
      exact d w' (by rw [← q']; exact hocd)
theorem store_ok {M : Model} {A : Around} {E : Value → Shared → Prop} {i : Nat} {x : Str} {v : V} {u : Value} {Q : Unit → Shared → Prop} (I : Inv X pins σ H s) (hN : X.N.Nodup) (hi : X.N[i]? = some x) (hx : Loc X.env.scope x) (r : RelV v u)
    (h : ∀ s', Inv X pins (σ.set i (some v)) H s' → Q () s') (hf : X.fn x = true ∨ X.env.scope.names.lookup x = some .local := by first | exact .inl rfl | exact .inr rfl | assumption) : wpAny M A (storeName X.env x u) Q E s :=
  store_ok2 I hN hi hx r (fun s' I' _ => h s' I') hf
/-- behind a call or a block, the state as it is -/
theorem Inv.call' {s' : Shared} {ch : List Addr} (I : Inv X pins σ H s) (ho : s'.os = s.os) (u : Un (frs X.stack) ch H H' s.heap s'.heap) (hok : HOk X.prog X.w H' s'.heap) (hg : AllBare s'.gens)
    (hch : ∀ b ∈ ch, (b ∈ X.ex ∨ X.s₀.heap.objs.size ≤ b) ∧ b ≠ X.env.locals ∧ (∀ x c, X.env.cells.lookup x = some c → c ≠ b) ∧ ∀ p ∈ X.pn ++ pins, p.1 ≠ b) : Inv X pins σ H' s' := by
  obtain ⟨h', g', d', t', o'⟩ := s'
  have e : o' = s.os := ho
  subst e
  exact I.call (g' := g') (t' := t') (d' := d') u hok hg hch
end

/-! ### the judgements -/
/-- an exception: its class, its own dict's address (where it has one), the abstract heap behind it -/
abbrev XK := Value → Option Addr → Hp → Prop
abbrev St := List (Option V)
abbrev VK := V → Hp → Prop
/-- an expression's reading; a test's; an argument list's -/
abbrev TE := St → Hp → VK → Prop
abbrev TT := St → Hp → (Bool → Hp → Prop) → Prop
abbrev TA := St → Hp → (List V → Hp → Prop) → Prop
/-- what is wanted behind a statement -/
structure Ends where
  nx : St → Hp → Prop
  rt : VK
  bk : St → Hp → Prop := fun _ _ => False
  ct : St → Hp → Prop := fun _ _ => False
abbrev TS := Ends → St → Hp → Prop

def EP (X : Cx) (pins : List (Addr × Obj)) (σ : St) (Q : VK) (u : Value) (s' : Shared) : Prop := ∃ v H', Inv X pins σ H' s' ∧ RelV v u ∧ Q v H'
def TP (X : Cx) (pins : List (Addr × Obj)) (σ : St) (Q : Bool → Hp → Prop) (b : Bool) (s' : Shared) : Prop := ∃ H', Inv X pins σ H' s' ∧ Q b H'
def AP (X : Cx) (pins : List (Addr × Obj)) (σ : St) (Q : List V → Hp → Prop) (us : List Value) (s' : Shared) : Prop := ∃ vs H', Inv X pins σ H' s' ∧ Vals vs us ∧ Q vs H'
def SP (X : Cx) (pins : List (Addr × Obj)) (D : Ends) (f : Flow) (s' : Shared) : Prop :=
  match f with
  | .next => ∃ σ' H', Inv X pins σ' H' s' ∧ D.nx σ' H'
  | .brk => ∃ σ' H', Inv X pins σ' H' s' ∧ D.bk σ' H'
  | .cont => ∃ σ' H', Inv X pins σ' H' s' ∧ D.ct σ' H'
  | .ret u => ∃ v σ' H', Inv X pins σ' H' s' ∧ RelV v u ∧ D.rt v H'

def PE (X : Cx) (e : Expr) (t : TE) : Prop :=
  ∀ (pins : List (Addr × Obj)) (s : Shared) (σ : St) (H : Hp) (Q : VK), Inv X pins σ H s → t σ H Q → wpAny (model X.prog X.w) X.A (eval e X.env) (EP X pins σ Q) X.xe s
def PT (X : Cx) (e : Expr) (t : TT) : Prop :=
  ∀ (pins : List (Addr × Obj)) (s : Shared) (σ : St) (H : Hp) (Q : Bool → Hp → Prop), Inv X pins σ H s → t σ H Q → wpAny (model X.prog X.w) X.A (isTrue e X.env (eval e X.env)) (TP X pins σ Q) X.xe s
/-- a test whatever its 'whole' is (and, or) -/
def PW (X : Cx) (e : Expr) (t : TT) : Prop :=
  ∀ (whole : Sem Value) (pins : List (Addr × Obj)) (s : Shared) (σ : St) (H : Hp) (Q : Bool → Hp → Prop), Inv X pins σ H s → t σ H Q → wpAny (model X.prog X.w) X.A (isTrue e X.env whole) (TP X pins σ Q) X.xe s
theorem PW.pt {X : Cx} {e : Expr} {t : TT} (h : PW X e t) : PT X e t := h _
/-- an argument list (no star), from the left -/
def PA (X : Cx) (es : List Expr) (t : TA) : Prop :=
  ∀ (pos : Pos) (pins : List (Addr × Obj)) (s : Shared) (σ : St) (H : Hp) (Q : List V → Hp → Prop), Inv X pins σ H s → t σ H Q → wpAny (model X.prog X.w) X.A (spliced (backTo pos (starEach es X.env))) (AP X pins σ Q) X.xe s
def PS (X : Cx) (st : Stmt) (t : TS) : Prop :=
  ∀ (pins : List (Addr × Obj)) (s : Shared) (σ : St) (H : Hp) (D : Ends), Inv X pins σ H s → t D σ H → wpAny (model X.prog X.w) X.A (exec st X.env) (SP X pins D) X.xe s
def PSs (X : Cx) (st : List Stmt) (t : TS) : Prop :=
  ∀ (pins : List (Addr × Obj)) (s : Shared) (σ : St) (H : Hp) (D : Ends), Inv X pins σ H s → t D σ H → wpAny (model X.prog X.w) X.A (execs st X.env) (SP X pins D) X.xe s
/-- weaken the end -/
theorem thn {α : Type} {t : Sem α} {Q Q' : α → Shared → Prop} {M : Model} {A : Around} {E : Value → Shared → Prop} {s : Shared} (h : wpAny M A t Q E s) (hQ : ∀ a s, Q a s → Q' a s) : wpAny M A t Q' E s := wpAny_mono h hQ fun _ _ x => x
end L2

namespace L2
open PySem PySem.Spec PyProof.Rows
section
variable {X : Cx}


/-! ### names and constants -/
def tVar (i : Nat) : TE := fun σ H Q => ∃ v, σ[i]? = some (some v) ∧ Q v H
def tC (v : V) : TE := fun _ H Q => Q v H
theorem pe_var {i : Nat} {x : Str} {pos : Pos} (hN : X.N[i]? = some x) (hv : Vis X.env.scope x) (hd : (x == ("__debug__" : Str)) = false := by decide) (hcd : (x == ("__classdict__" : Str)) = false := by decide) : PE X (.Name x pos) (tVar i) := by
  intro pins s σ H Q I h
  obtain ⟨v, e, h⟩ := h
  obtain ⟨m, hn, hl⟩ := I.loc
  obtain ⟨u, r, l⟩ := hl i x v hN e hv
  have fin : EP X pins σ Q u s := ⟨v, H, I, r, h⟩
  rcases l with ⟨hk, hm⟩ | ⟨hk, c, hc, hcell⟩
  · exact wpAny_Name (wpAny_loadName_local I.ok.kind hk hn hm fin) hd
  · rcases hk with hk | hk
    · exact wpAny_Name (wpAny_loadName_cell I.ok.kind hk hc hcell fin) hd
    · exact wpAny_Name (wpAny_loadName_free I.ok.kind hk hc hcell fin hcd) hd
theorem pe_int {i j pos} : PE X (.Constant (.int i) j pos) (tC (.int i)) := fun _ _ _ H _ I h => wpAny_Constant_int ⟨.int i, H, I.tok _, ⟨_, rfl⟩, h⟩
theorem pe_bl {b j pos} : PE X (.Constant (.bool b) j pos) (tC (.bl b)) := fun _ _ _ H _ I h => Constant_bool ⟨.bl b, H, I, rfl, h⟩
theorem pe_non {j pos} : PE X (.Constant .none j pos) (tC .non) := fun _ _ _ H _ I h => Constant_none ⟨.non, H, I, rfl, h⟩
theorem pe_str {x j pos} : PE X (.Constant (.str x) j pos) (tC (.str x)) := fun _ _ _ H _ I h => Calls.Constant_str ⟨.str x, H, I.tok _, ⟨_, rfl⟩, h⟩

/-- a global name of the def -/
def Gl (X : Cx) (x : Str) : Prop := X.env.kindOf x = some .globalImplicit
theorem ld_glob {E : Value → Shared → Prop} {pins : List (Addr × Obj)} {s : Shared} {σ : St} {H : Hp} {x : Str} {u : Value} {pos : Pos} {Q : Value → Shared → Prop} (I : Inv X pins σ H s) (hg : Gl X x) (hm : X.mg x = some u) (h : Q u s)
    (hd : (x == ("__debug__" : Str)) = false := by decide) : wpAny (model X.prog X.w) X.A (eval (.Name x pos) X.env) Q E s :=
  Calls.Name_function_global I.ok.kind hg (Calls.loadGlobal_global (by rw [I.ok.glob]; exact I.mod.glob.keeps I.bk) hm h) hd
theorem ld_blt {E : Value → Shared → Prop} {pins : List (Addr × Obj)} {s : Shared} {σ : St} {H : Hp} {x : Str} {u : Value} {pos : Pos} {Q : Value → Shared → Prop} (I : Inv X pins σ H s) (hg : Gl X x) (hm : X.mg x = none) (hv : bootBuiltins x = some u) (h : Q u s)
    (hn : x ≠ "__name__" := by decide) (hd : (x == ("__debug__" : Str)) = false := by decide) : wpAny (model X.prog X.w) X.A (eval (.Name x pos) X.env) Q E s := by
  obtain ⟨mb, h1, h2⟩ := I.mod.blt
  exact Calls.Name_function_global I.ok.kind hg (Calls.loadGlobal_builtin (by rw [I.ok.glob]; exact I.mod.glob.keeps I.bk) hm (by rw [I.ok.blt]; exact h1.keeps I.bk) ((h2 x hn).trans hv) h) hd
/-- a module's constant, a class, a function, as a value -/
theorem pe_glob {x : Str} {v : V} {u : Value} {pos : Pos} (hg : Gl X x) (hm : X.mg x = some u) (r : RelV v u) (hd : (x == ("__debug__" : Str)) = false := by decide) : PE X (.Name x pos) (tC v) :=
  fun _ _ _ H _ I h => ld_glob I hg hm ⟨v, H, I, r, h⟩ hd
theorem pe_bltn {x : Str} {v : V} {u : Value} {pos : Pos} (hg : Gl X x) (hm : X.mg x = none) (hv : bootBuiltins x = some u) (r : RelV v u) (hn : x ≠ "__name__" := by decide) (hd : (x == ("__debug__" : Str)) = false := by decide) : PE X (.Name x pos) (tC v) :=
  fun _ _ _ H _ I h => ld_blt I hg hm hv ⟨v, H, I, r, h⟩ hn hd

/-! ### arithmetic -/
variable {a b : Expr} {ta tb : TE} {pos : Pos}

/-! ### comparisons -/
def PC (X : Cx) (op : CmpOp) (a b : Expr) (t : TE) : Prop :=
  ∀ (pins : List (Addr × Obj)) (s : Shared) (σ : St) (H : Hp) (Q : VK), Inv X pins σ H s → t σ H Q →
    wpAny (model X.prog X.w) X.A (eval a X.env) (fun v s₁ => wpAny (model X.prog X.w) X.A (eval b X.env) (fun u s₂ => wpAny (model X.prog X.w) X.A (compareOp op v u) (EP X pins σ Q) X.xe s₂) X.xe s₁) X.xe s
theorem nobehind (b : Expr) {op : CmpOp} (h : op ≠ .In) (h2 : op ≠ .NotIn) : behindInMarks op b = false := by
  have e1 : (op == CmpOp.In) = false := by cases op <;> first | rfl | exact absurd rfl h
  have e2 : (op == CmpOp.NotIn) = false := by cases op <;> first | rfl | exact absurd rfl h2
  cases b <;> simp [behindInMarks, e1, e2]
/-- is None -/
def tIsN (ta : TE) : TE := fun σ H Q => ta σ H fun x H1 => Q (.bl (decide (x = .non))) H1
theorem RelV.none_iff {x : V} {v : Value} (r : RelV x v) : (v == Value.none) = decide (x = .non) := by
  cases x with
  | non => cases r; rfl
  | bl _ => cases r; rfl
  | int _ => obtain ⟨t, rfl⟩ := r; rfl
  | str _ => obtain ⟨t, rfl⟩ := r; rfl
  | byt _ => obtain ⟨t, rfl⟩ := r; rfl
  | flt _ => obtain ⟨t, rfl⟩ := r; rfl
  | ref _ => cases r; rfl
  | ty _ => cases r; rfl
theorem pc_isN {j pos'} (ha : PE X a ta) : PC X .Is a (.Constant .none j pos') (tIsN ta) := by
  intro pins s σ H Q I h
  refine thn (ha pins s σ H _ I h) fun v s1 ⟨x, H1, I1, r1, q1⟩ => ?_
  exact Constant_none (is_none_gen ⟨.bl _, H1, I1, by rw [r1.none_iff]; rfl, q1⟩)
/-- a comparison as a value, as a test -/
def tB (t : TE) : TT := fun σ H Q => t σ H fun x H1 => ∃ c, x = .bl c ∧ Q c H1
theorem pe_cmp {op : CmpOp} {t : TE} (h : PC X op a b t) (h1 : behindInMarks op b = false := by first | exact nobehind _ (by decide) (by decide) | rfl) : PE X (.Compare a [op] [b] pos) t := fun pins s σ H Q I hw => wpAny_Compare1 (h pins s σ H Q I hw) h1
theorem pt_cmp {op : CmpOp} {t : TE} (h : PC X op a b t) (h1 : behindInMarks op b = false := by first | exact nobehind _ (by decide) (by decide) | rfl) : PT X (.Compare a [op] [b] pos) (tB t) := by
  intro pins s σ H Q I hw
  refine wpAny_isTrue_Compare1 (thn (h pins s σ H _ I hw) fun v s1 h1 => thn h1 fun u s2 h2 => thn h2 fun c s3 ⟨x, H1, I1, r1, q1⟩ => ?_) h1
  obtain ⟨d, rfl, q⟩ := q1
  cases r1
  exact wpAny_truthy_bool ⟨H1, I1, q⟩
/-- an expression whose value is a bool, as a test -/
theorem pt_val {e : Expr} {t : TE} (h : PE X e t) (he : ∀ whole, isTrue e X.env whole = (do let v ← whole; standAt e.pos; holding [v] (truthy v)) := by intro _; rfl) : PT X e (tB t) := by
  intro pins s σ H Q I hw
  refine isTrue_plain (thn (h pins s σ H _ I hw) fun v s1 ⟨x, H1, I1, r1, q1⟩ => ?_) (he _)
  obtain ⟨d, rfl, q⟩ := q1
  cases r1
  exact wpAny_truthy_bool ⟨H1, I1, q⟩

/-! ### and, or, not -/
variable {tA tB' : TT} {rest : List Expr}
def tAnd (t u : TT) : TT := fun σ H Q => t σ H fun c H1 => if c = true then u σ H1 Q else Q false H1
def tOr (t u : TT) : TT := fun σ H Q => t σ H fun c H1 => if c = true then Q true H1 else u σ H1 Q
def tNot (t : TT) : TT := fun σ H Q => t σ H fun c H1 => Q (!c) H1
theorem pw_and1 (ha : PT X a tA) : PW X (.BoolOp .And [a] pos) tA := by
  intro wh pins s σ H Q I h
  refine isTrue_and (thn (ha pins s σ H Q I h) fun c s1 e => ?_)
  cases c with
  | true => exact isTrue_and_nil e
  | false => exact e
theorem pw_or1 (ha : PT X a tA) : PW X (.BoolOp .Or [a] pos) tA := by
  intro wh pins s σ H Q I h
  refine isTrue_or (thn (ha pins s σ H Q I h) fun c s1 e => ?_)
  cases c with
  | false => exact isTrue_or_nil e
  | true => exact e
theorem pw_and (ha : PT X a tA) (hb : PW X (.BoolOp .And (b :: rest) pos) tB') : PW X (.BoolOp .And (a :: b :: rest) pos) (tAnd tA tB') := by
  intro wh pins s σ H Q I h
  refine isTrue_and (thn (ha pins s σ H _ I h) fun c s1 ⟨H1, I1, q1⟩ => ?_)
  cases c with
  | true => exact hb wh pins s1 σ H1 Q I1 q1
  | false => exact ⟨H1, I1, q1⟩
theorem pw_or (ha : PT X a tA) (hb : PW X (.BoolOp .Or (b :: rest) pos) tB') : PW X (.BoolOp .Or (a :: b :: rest) pos) (tOr tA tB') := by
  intro wh pins s σ H Q I h
  refine isTrue_or (thn (ha pins s σ H _ I h) fun c s1 ⟨H1, I1, q1⟩ => ?_)
  cases c with
  | true => exact ⟨H1, I1, q1⟩
  | false => exact hb wh pins s1 σ H1 Q I1 q1
theorem pt_not (ha : PT X a tA) : PT X (.UnaryOp .Not a pos) (tNot tA) := by
  intro pins s σ H Q I h
  exact isTrue_not (ha pins s σ H (fun c H1 => Q (!c) H1) I h)
/-- .. as values (bools) -/
def tAndV (ta tb : TE) : TE := fun σ H Q => ta σ H fun x H1 => ∃ c, x = .bl c ∧ if c = true then tb σ H1 Q else Q (.bl false) H1
def tNotV (ta : TE) : TE := fun σ H Q => ta σ H fun x H1 => ∃ c, x = .bl c ∧ Q (.bl (!c)) H1
theorem pe_one {op} {t : TE} (h : PE X a t) : PE X (.BoolOp op [a] pos) t := fun pins s σ H Q I hw => BoolOp_one (h pins s σ H Q I hw)
theorem pe_and (ha : PE X a ta) (hb : PE X (.BoolOp .And (b :: rest) pos) tb) : PE X (.BoolOp .And (a :: b :: rest) pos) (tAndV ta tb) := by
  intro pins s σ H Q I h
  refine BoolOp_and (thn (ha pins s σ H _ I h) fun v s1 ⟨x, H1, I1, r1, q1⟩ => ?_)
  obtain ⟨c, rfl, q1⟩ := q1
  cases r1
  refine wpAny_truthy_bool ?_
  cases c with
  | true => exact hb pins s1 σ H1 Q I1 q1
  | false => exact ⟨.bl false, H1, I1, rfl, q1⟩
theorem pe_not (ha : PE X a ta) : PE X (.UnaryOp .Not a pos) (tNotV ta) := by
  intro pins s σ H Q I h
  refine UnaryOp_ (thn (ha pins s σ H _ I h) fun v s1 ⟨x, H1, I1, r1, q1⟩ => ?_)
  obtain ⟨c, rfl, q1⟩ := q1
  cases r1
  exact not_of (wpAny_truthy_bool ⟨.bl (!c), H1, I1, rfl, q1⟩)
end
end L2

namespace L2
open PySem PySem.Spec PyProof.Rows

/-! ### a list, a tuple that is read: tracked, frozen, or an object of the module -/
def SqL (K : PySem.W.Frag) (H : Hp) (a : Addr) (xs : List V) : Prop :=
  Rd H a (.lst xs) ∨
    ∃ (o : Obj) (its : Array Value) (n : Nat), K.lookup a = some o ∧ o.cls = .type "list" ∧ o.dict = none ∧ o.data = .seq its n ∧ its.size ≤ sizeLine ∧ Vals xs its.toList
def SqT (K : PySem.W.Frag) (H : Hp) (a : Addr) (xs : List V) : Prop :=
  Rd H a (.tup xs) ∨
    ∃ (o : Obj) (its : Array Value) (n : Nat), K.lookup a = some o ∧ o.cls = .type "tuple" ∧ o.data = .seq its n ∧ its.size ≤ sizeLine ∧ Vals xs its.toList
def absV : Value → Option V
  | .none => some .non
  | .bool b => some (.bl b)
  | .int i _ => some (.int i)
  | .str x _ => some (.str x)
  | .bytes b _ => some (.byt b)
  | .float b _ => some (.flt b)
  | .ref a => some (.ref a)
  | .type n => some (.ty n)
  | _ => none
theorem RelV.abs {x : V} {u : Value} (r : RelV x u) : absV u = some x := by
  cases x with
  | non => cases r; rfl
  | bl _ => cases r; rfl
  | int _ => obtain ⟨t, rfl⟩ := r; rfl
  | str _ => obtain ⟨t, rfl⟩ := r; rfl
  | byt _ => obtain ⟨t, rfl⟩ := r; rfl
  | flt _ => obtain ⟨t, rfl⟩ := r; rfl
  | ref _ => cases r; rfl
  | ty _ => cases r; rfl
theorem RelV.inj {x y : V} {u : Value} (r : RelV x u) (q : RelV y u) : x = y := Option.some.inj (r.abs.symm.trans q.abs)
theorem Vals.inj : ∀ {xs ys : List V} {us : List Value}, Vals xs us → Vals ys us → xs = ys
  | _, _, _, .nil, .nil => rfl
  | _, _, _, .cons r t, .cons r' t' => by rw [r.inj r', Vals.inj t t']
section
variable {X : Cx} {pins : List (Addr × Obj)} {σ : St} {H : Hp} {s : Shared} {a : Addr} {xs ys : List V}
theorem SqL.of {K : PySem.W.Frag} (h : H a = some (.lst xs)) : SqL K H a xs := .inl (.inl h)
theorem SqT.of {K : PySem.W.Frag} (h : H a = some (.tup xs)) : SqT K H a xs := .inl (.inl h)
theorem Inv.list (I : Inv X pins σ H s) (h : SqL X.K H a xs) : ∃ its : List Value, Vals xs its ∧ PlainL s.heap a its.toArray ∧ xs.length ≤ sizeLine := by
  rcases h with h | ⟨o, its, n, hk, hc, hd, hs, hz, r⟩
  · obtain ⟨z, its, n, r, e⟩ := h.ok I.hok
    exact ⟨its, r, ⟨_, n, e, rfl, rfl, rfl⟩, z⟩
  · refine ⟨its.toList, r, ⟨o, n, I.kIn a o hk, hc, hd, by simpa using hs⟩, ?_⟩
    have e := r.length
    simp only [Array.length_toList] at e
    omega
theorem Inv.tuple (I : Inv X pins σ H s) (h : SqT X.K H a xs) : ∃ its : List Value, Vals xs its ∧ IsTup s.heap a its.toArray ∧ xs.length ≤ sizeLine := by
  rcases h with h | ⟨o, its, n, hk, hc, hs, hz, r⟩
  · obtain ⟨z, its, r, p⟩ := h.ok I.hok
    exact ⟨its, r, p, z⟩
  · refine ⟨its.toList, r, ⟨o, I.kIn a o hk, hc, n, by simpa using hs⟩, ?_⟩
    have e := r.length
    simp only [Array.length_toList] at e
    omega
theorem Inv.list_inj (I : Inv X pins σ H s) (h : SqL X.K H a xs) (h' : SqL X.K H a ys) : xs = ys := by
  obtain ⟨its, r, ⟨o, n, e, _, _, d⟩, _⟩ := I.list h
  obtain ⟨its', r', ⟨o', n', e', _, _, d'⟩, _⟩ := I.list h'
  rw [e] at e'; cases e'
  rw [d] at d'
  injection d' with d1 _
  have : its = its' := by simpa using congrArg Array.toList d1
  subst this
  exact r.inj r'
end

/-! ### another wish about exceptions -/
abbrev Cx.wish (X : Cx) (E : Value → Shared → Prop) : Cx := { X with xe := E }
/-- no exception leaves -/
abbrev Cx.nox (X : Cx) : Cx := X.wish fun _ _ => False
theorem Cx.Ok.wish {X : Cx} (ok : X.Ok) (E : Value → Shared → Prop) : (X.wish E).Ok :=
  ⟨ok.mod, ok.kind, ok.glob, ok.blt, ok.above, ok.inj, ok.has, ok.cab, ok.hd, ok.frames, ok.stk, ok.exf, ok.bs, ok.bsz, ok.noex, ok.exfs, ok.funs, ok.frf⟩
theorem Cx.Ok.unwish {X : Cx} {E : Value → Shared → Prop} (ok : (X.wish E).Ok) : X.Ok :=
  ⟨ok.mod, ok.kind, ok.glob, ok.blt, ok.above, ok.inj, ok.has, ok.cab, ok.hd, ok.frames, ok.stk, ok.exf, ok.bs, ok.bsz, ok.noex, ok.exfs, ok.funs, ok.frf⟩
section
variable {X : Cx} {pins : List (Addr × Obj)} {σ : St} {H : Hp} {s : Shared} {E : Value → Shared → Prop}
theorem Inv.wish (I : Inv X pins σ H s) (E : Value → Shared → Prop) : Inv (X.wish E) pins σ H s := ⟨I.ok.wish E, I.os, I.bare, I.base, I.loc, I.cell, I.free, I.freeC, I.pin, I.hok, I.len⟩
theorem Inv.unwish (I : Inv (X.wish E) pins σ H s) : Inv X pins σ H s := ⟨I.ok.unwish, I.os, I.bare, I.base, I.loc, I.cell, I.free, I.freeC, I.pin, I.hok, I.len⟩
theorem SP.unwish {D : Ends} {f : Flow} {s' : Shared} (h : SP (X.wish E) pins D f s') : SP X pins D f s' := by
  cases f with
  | next => obtain ⟨σ', H', I, q⟩ := h; exact ⟨σ', H', I.unwish, q⟩
  | brk => obtain ⟨σ', H', I, q⟩ := h; exact ⟨σ', H', I.unwish, q⟩
  | cont => obtain ⟨σ', H', I, q⟩ := h; exact ⟨σ', H', I.unwish, q⟩
  | ret u => obtain ⟨v, σ', H', I, r, q⟩ := h; exact ⟨v, σ', H', I.unwish, r, q⟩
theorem PE.nox {e : Expr} {t : TE} (h : PE X.nox e t) : PE X e t := fun pins s σ H Q I hw =>
  wpAny_mono (h pins s σ H Q (I.wish _) hw) (fun _ _ ⟨v, H', I', r, q⟩ => ⟨v, H', I'.unwish, r, q⟩) fun _ _ z => False.elim z
theorem PT.nox {e : Expr} {t : TT} (h : PT X.nox e t) : PT X e t := fun pins s σ H Q I hw =>
  wpAny_mono (h pins s σ H Q (I.wish _) hw) (fun _ _ ⟨H', I', q⟩ => ⟨H', I'.unwish, q⟩) fun _ _ z => False.elim z
theorem PSs.nox {st : List Stmt} {t : TS} (h : PSs X.nox st t) : PSs X st t := fun pins s σ H D I hw =>
  wpAny_mono (h pins s σ H D (I.wish _) hw) (fun _ _ q => q.unwish) fun _ _ z => False.elim z
end

/-! ### blocks and small statements -/
section
variable {X : Cx} {st : Stmt} {rest : List Stmt} {t u : TS} {e : Expr} {te : TE} {pos : Pos}
def tNext : TS := fun D σ H => D.nx σ H
def tSeq (t u : TS) : TS := fun D σ H => t { D with nx := u D } σ H
theorem pss_nil : PSs X [] tNext := fun _ _ σ H _ I h => wpAny_execs_nil ⟨σ, H, I, h⟩
theorem pss_cons (h1 : PS X st t) (h2 : PSs X rest u) : PSs X (st :: rest) (tSeq t u) := by
  intro pins s σ H D I h
  refine wpAny_execs_cons (thn (h1 pins s σ H { D with nx := u D } I h) fun f s1 q => ?_)
  cases f with
  | next =>
    obtain ⟨σ', H', I', q⟩ := q
    exact h2 pins s1 σ' H' D I' q
  | ret v => exact q
  | brk => exact q
  | cont => exact q
theorem pss_one (h1 : PS X st t) : PSs X [st] t := by
  intro pins s σ H D I h
  refine wpAny_execs_cons (thn (h1 pins s σ H D I h) fun f s1 q => ?_)
  cases f with
  | next => exact wpAny_execs_nil q
  | ret v => exact q
  | brk => exact q
  | cont => exact q
/-- in a def's body nothing is shown -/
theorem Inv.quiet {pins : List (Addr × Obj)} {σ : St} {H : Hp} {s : Shared} (I : Inv X pins σ H s) : interactive X.env = false := by simp [interactive, I.ok.kind]
/-- an expression whose value is dropped -/
def tDrop (te : TE) : TS := fun D σ H => te σ H fun _ H1 => D.nx σ H1
theorem ps_expr (he : PE X e te) (hs : swapsWith e none pos.line X.env = pure false := by rfl) : PS X (.Expr e pos) (tDrop te) := by
  intro pins s σ H D I h
  exact wpAny_Expr_any (thn (he pins s σ H _ I h) fun v s1 ⟨x, H1, I1, r1, q1⟩ => ⟨σ, H1, I1, q1⟩) I.quiet hs
def tRet (te : TE) : TS := fun D σ H => te σ H D.rt
theorem ps_ret (he : PE X e te) : PS X (.Return (some e) pos) (tRet te) := by
  intro pins s σ H D I h
  exact wpAny_Return_some (thn (he pins s σ H _ I h) fun v s1 ⟨x, H1, I1, r1, q1⟩ => ⟨x, σ, H1, I1, r1, q1⟩)
def tIfS (c : TT) (t u : TS) : TS := fun D σ H => c σ H fun b H1 => if b = true then t D σ H1 else u D σ H1
theorem ps_if {c : Expr} {a b : List Stmt} {tc : TT} (hc : PT X c tc) (ha : PSs X a t) (hb : PSs X b u) : PS X (.If c a b pos) (tIfS tc t u) := by
  intro pins s σ H D I h
  refine wpAny_If (thn (hc pins s σ H _ I h) fun d s1 ⟨H1, I1, q1⟩ => ?_)
  cases d with
  | true => exact ha pins s1 σ H1 D I1 q1
  | false => exact hb pins s1 σ H1 D I1 q1
end

/-! ### targets -/
abbrev TG := V → St → Hp → (St → Hp → Prop) → Prop
def PG (X : Cx) (target : Expr) (t : TG) : Prop :=
  ∀ (pins : List (Addr × Obj)) (s : Shared) (σ : St) (H : Hp) (v : V) (u : Value) (Q : St → Hp → Prop), Inv X pins σ H s → RelV v u → t v σ H Q →
    wpAny (model X.prog X.w) X.A (assign target X.env u) (fun _ s' => ∃ σ' H', Inv X pins σ' H' s' ∧ Q σ' H') X.xe s
section
variable {X : Cx} {pos : Pos}
def gName (i : Nat) : TG := fun v σ H Q => Q (σ.set i (some v)) H
theorem pg_name {i : Nat} {x : Str} (hN : X.N.Nodup) (hi : X.N[i]? = some x) (hx : Loc X.env.scope x) (hf : X.fn x = true ∨ X.env.scope.names.lookup x = some .local := by first | exact .inl rfl | exact .inr rfl | assumption) : PG X (.Name x pos) (gName i) := by
  intro pins s σ H v u Q I r h
  exact wpAny_assign_Name (store_ok I hN hi hx r (fun s' I' => ⟨_, H, I', h⟩) hf)
/-- target = value -/
def tAsg (te : TE) (g : TG) : TS := fun D σ H => te σ H fun x H1 => g x σ H1 D.nx
/-- name = value -/
theorem ps_set {i : Nat} {x : Str} {e : Expr} {te : TE} {pos' : Pos} (hN : X.N.Nodup) (hi : X.N[i]? = some x) (hx : Loc X.env.scope x) (he : PE X e te) (hs : swapsWith e (some (.Name x pos')) pos.line X.env = pure false := by rfl) (hf : X.fn x = true ∨ X.env.scope.names.lookup x = some .local := by first | exact .inl rfl | exact .inr rfl | assumption) :
    PS X (.Assign [.Name x pos'] e pos) (tAsg te (gName i)) := by
  intro pins s σ H D I h
  refine wpAny_Assign_Name (thn (he pins s σ H _ I h) fun v s1 ⟨y, H1, I1, r1, q1⟩ => ?_) hs
  exact store_ok I1 hN hi hx r1 (fun s2 I2 => ⟨_, H1, I2, q1⟩) hf
end

/-! ### while -/
section
variable {X : Cx} {pos : Pos}
end

/-! ### what a loop or a comprehension walks -/
/-- at turn i: it yields x (the heap may grow), or it stops -/
structure It where
  go : Nat → Hp → Prop
  yld : Nat → Hp → V → Hp → Prop
  stop : Nat → Hp → Prop
/-- the iterator's own objects may turn: they are not the frame's, not pinned, younger than the entry (or a comprehension's own) -/
def FpOk (X : Cx) (pins : List (Addr × Obj)) (H : Hp) (b : Addr) : Prop :=
  H b = none ∧ b ≠ X.env.locals ∧ b ∉ X.fs ∧ (b ∈ X.ex ∨ X.s₀.heap.objs.size ≤ b) ∧ (∀ x c, X.env.cells.lookup x = some c → c ≠ b) ∧ ∀ p ∈ X.pn ++ pins, p.1 ≠ b
theorem Inv.fpOk {X : Cx} {pins : List (Addr × Obj)} {σ : St} {H H' : Hp} {s : Shared} {b : Addr} (I : Inv X pins σ H s) (hb : s.heap.objs.size ≤ b) (hn : H' b = none) : FpOk X pins H' b := by
  refine ⟨hn, Nat.ne_of_gt (Nat.lt_of_lt_of_le I.lt hb), I.nofs hb, .inr (Nat.le_trans I.sz hb), fun x c e z => ?_, fun p hp z => ?_⟩
  · obtain ⟨v, q⟩ := I.cell x c e
    exact absurd (Nat.lt_of_lt_of_le q.lt (by rw [z]; exact hb)) (Nat.lt_irrefl _)
  · exact absurd (Nat.lt_of_lt_of_le (Heap.lt_size (I.pin p hp).1) (by rw [z]; exact hb)) (Nat.lt_irrefl _)
structure Turn (P : Program) (w : World) (K : PySem.W.Frag) (tg : Expr) (J : It) (fp : List Addr) (it : Addr) (tn : Nat → Heap → Prop) : Prop where
  mem : it ∈ fp
  obj : ∀ i h, tn i h → ∀ b ∈ fp, ∃ o, h.get? b = some o ∧ ∀ v, o.data ≠ .cell v
  keep : ∀ i h h', tn i h → (∀ b ∈ fp, ∀ o, h.get? b = some o → h'.get? b = some o) → tn i h'
  item : ∀ (X : Cx), X.prog = P → X.w = w → X.K = K → X.calm = true → ∀ (i : Nat) (pins : List (Addr × Obj)) (s : Shared) (σ : St) (H : Hp) (E : Value → Shared → Prop), Inv X pins σ H s → (∀ b ∈ fp, FpOk X pins H b) → tn i s.heap → J.go i H →
    wpAny (model P w) X.A (pyNext (.ref it)) (fun r s1 => ∃ u, r = some u ∧
      wpAny (model P w) X.A (letOwnedTupleGo tg (.ref it) u) (fun _ s2 => ∃ x H', Inv X pins σ H' s2 ∧ RelV x u ∧ J.yld i H x H' ∧ tn (i + 1) s2.heap ∧ ∀ b ∈ fp, H' b = none) E s1) E s
  done : ∀ (X : Cx), X.prog = P → X.w = w → X.K = K → X.calm = true → ∀ (i : Nat) (pins : List (Addr × Obj)) (s : Shared) (σ : St) (H : Hp) (E : Value → Shared → Prop), Inv X pins σ H s → (∀ b ∈ fp, FpOk X pins H b) → tn i s.heap → J.stop i H →
    wpAny (model P w) X.A (pyNext (.ref it)) (fun r s1 => r = none ∧ Inv X pins σ H s1) E s
  self : ∀ (A : Around) (i : Nat) (s : Shared) (Q : Value → Shared → Prop) (E : Value → Shared → Prop), tn i s.heap → Q (.ref it) s → wpAny (model P w) A (pyIter (.ref it)) Q E s
abbrev TI := St → Hp → (It → Hp → Prop) → Prop
/-- an iterator has come -/
def PIE (X : Cx) (pins : List (Addr × Obj)) (σ : St) (tg : Expr) (R : It → Hp → Prop) (itv : Value) (s2 : Shared) : Prop :=
  ∃ (it : Addr) (fp : List Addr) (tn : Nat → Heap → Prop) (J : It) (H' : Hp), itv = .ref it ∧ Inv X pins σ H' s2 ∧ Turn X.prog X.w X.K tg J fp it tn ∧ tn 0 s2.heap ∧ (∀ b ∈ fp, FpOk X pins H' b) ∧ R J H'
def PI (X : Cx) (tg iter : Expr) (wi : TI) : Prop :=
  ∀ (pins : List (Addr × Obj)) (s : Shared) (σ : St) (H : Hp) (R : It → Hp → Prop), Inv X pins σ H s → wi σ H R →
    wpAny (model X.prog X.w) X.A (eval iter X.env) (fun v s1 => wpAny (model X.prog X.w) X.A (pyIter v) (PIE X pins σ tg R) X.xe s1) X.xe s

/-- the step ahead of the store is nothing for an iterator that keeps no tuple -/
theorem go_of {M : Model} {A : Around} {E : Value → Shared → Prop} {s : Shared} {tg : Expr} {it : Addr} {u : Value} {o : Obj} {n : String} {vs : Array Value} {Q : Unit → Shared → Prop} (ho : s.heap.get? it = some o) (hc : o.cls = .type n) (hd : o.data = .fields vs)
    (hn : ["enumerate", "zip", "dict_itemiterator", "dict_reverseitemiterator", "odict_iterator", "itertools.zip_longest", "itertools.pairwise"].contains n = false) (hQ : Q () s) : wpAny M A (letOwnedTupleGo tg (.ref it) u) Q E s := by
  unfold letOwnedTupleGo
  cases tg <;> first
    | exact wpAny_pure hQ
    | (cases u <;> first
        | exact wpAny_pure hQ
        | (refine wpAny_bind (wpAny_load ho ?_)
           rw [hc, hd]
           show wpAny M A (if (["enumerate", "zip", "dict_itemiterator", "dict_reverseitemiterator", "odict_iterator", "itertools.zip_longest", "itertools.pairwise"].contains n && vs[0]? == some (rawInt _)) = true then _ else _) Q E s
           rw [if_neg (by intro h; rw [hn, Bool.false_and] at h; cases h)]
           exact wpAny_pure hQ))

/-- the list at a, as it stands at each turn (a loop may append to it) -/
def Itl (K : PySem.W.Frag) (a : Addr) : It :=
  ⟨fun i H => ∃ xs x, SqL K H a xs ∧ xs[i]? = some x, fun i H x H' => H' = H ∧ ∀ xs, SqL K H a xs → xs[i]? = some x, fun i H => ∃ xs, SqL K H a xs ∧ xs.length ≤ i⟩
/-- lo, lo + 1, .. (n of them) -/
def Itr (lo : Int) (n : Nat) : It := ⟨fun i _ => i < n, fun i H x H' => H' = H ∧ x = .int (lo + i), fun i _ => n ≤ i⟩
theorem turn_list {P : Program} {w : World} {K : PySem.W.Frag} {tg : Expr} (a it : Addr) : Turn P w K tg (Itl K a) [it] it (fun i h => h.IsListIter it a i) where
  mem := by simp
  obj := fun i h st b hb => by
    have e : b = it := by simpa using hb
    subst e
    obtain ⟨o, e, c, d⟩ := st
    exact ⟨o, e, fun v z => by rw [d] at z; cases z⟩
  keep := fun i h h' st k => st.at fun o e => k it (by simp) o e
  item := by
    intro X hP hw hK hc i pins s σ H E I hf st hg
    subst hP hw hK
    obtain ⟨xs, x, hq, hx⟩ := hg
    obtain ⟨its, rv, p, hz⟩ := I.list hq
    obtain ⟨u, hu, ru⟩ := rv.get hx
    obtain ⟨f0, f1, f2, f3, f4, f5⟩ := hf it (by simp)
    refine wpAny_pyNext_list_item st p.isList (x := u) (by simpa using hu) fun h' st' sb => ?_
    have I1 : Inv X pins σ H { s with heap := h' } := I.turned (t' := s.toks) (fun b o hb e => (sb.2 b hb).trans e) f0 f1 f3 f4 f5
    obtain ⟨o, e, c, d⟩ := id st'
    exact ⟨u, rfl, go_of (s := { s with heap := h' }) e c d (by decide) ⟨x, H, I1, ru, ⟨rfl, fun ys hy => by rw [I.list_inj hy hq]; exact hx⟩, st', fun b hb => (hf b hb).1⟩⟩
  done := by
    intro X hP hw hK hc i pins s σ H E I hf st hg
    subst hP hw hK
    obtain ⟨xs, hq, hx⟩ := hg
    obtain ⟨its, rv, p, hz⟩ := I.list hq
    obtain ⟨f0, f1, f2, f3, f4, f5⟩ := hf it (by simp)
    have hl := rv.length
    exact wpAny_pyNext_list_end (I.ok.hd hc) st p.isList (by simp; omega) fun h' eb => ⟨rfl, I.turned (t' := s.toks) (fun b o hb e => eb b o hb e) f0 f1 f3 f4 f5⟩
  self := fun _ _ _ _ _ st h => wpAny_pyIter_listiter st h
theorem turn_range {P : Program} {w : World} {K : PySem.W.Frag} {tg : Expr} (it : Addr) (lo : Int) (n : Nat) : Turn P w K tg (Itr lo n) [it] it (fun i h => IsRangeIter h it (lo + (i : Nat) * 1) ((n : Int) - (i : Nat)) 1) where
  mem := by simp
  obj := fun i h st b hb => by
    have e : b = it := by simpa using hb
    subst e
    exact ⟨_, st, fun v z => by
      have z' : Data.fields _ = Data.cell v := z
      cases z'⟩
  keep := fun i h h' st k => k it (by simp) _ st
  item := by
    intro X hP hw hK hc i pins s σ H E I hf st hg
    subst hP hw hK
    obtain ⟨f0, f1, f2, f3, f4, f5⟩ := hf it (by simp)
    have W := Walks.range (prog := X.prog) (w := X.w) (I.ok.hd hc) it lo 1 n
    refine W.item i s _ _ hg st fun v h' tk hv st' kk => ?_
    obtain ⟨t, rfl⟩ := hv
    have I1 : Inv X pins σ H { s with heap := h', toks := tk } := I.turned (fun b o hb e => kk b o (by simpa using hb) e) f0 f1 f3 f4 f5
    refine ⟨_, rfl, go_of (s := { s with heap := h', toks := tk }) (n := "range_iterator") st' rfl rfl (by decide) ⟨.int (lo + i), H, I1, ⟨t, ?_⟩, ⟨rfl, rfl⟩, st', fun b hb => (hf b hb).1⟩⟩
    rw [Int.mul_one]
  done := by
    intro X hP hw hK hc i pins s σ H E I hf st hg
    subst hP hw hK
    obtain ⟨f0, f1, f2, f3, f4, f5⟩ := hf it (by simp)
    exact wpAny_pyNext_range_end (I.ok.hd hc) st (by have : n ≤ i := hg; omega) fun h' eb => ⟨rfl, I.turned (t' := s.toks) (fun b o hb e => eb b o hb e) f0 f1 f3 f4 f5⟩
  self := fun _ _ _ _ _ st h => wpAny_pyIter_rangeiter st h
end L2

namespace L2
open PySem PySem.Spec PyProof.Rows
section
variable {X : Cx} {tg : Expr}
def iList (K : PySem.W.Frag) (tl : TE) : TI := fun σ H R => tl σ H fun x H1 => ∃ a, x = .ref a ∧ (∃ xs, SqL K H1 a xs) ∧ R (Itl K a) H1
theorem pi_list {l : Expr} {tl : TE} (hl : PE X l tl) : PI X tg l (iList X.K tl) := by
  intro pins s σ H R I h
  refine thn (hl pins s σ H _ I h) fun v s1 ⟨x, H1, I1, r1, q1⟩ => ?_
  obtain ⟨a, e, ⟨xs, hq⟩, q⟩ := q1
  subst e
  cases r1
  obtain ⟨its, rv, p, hz⟩ := I1.list hq
  refine wpAny_pyIter_list p.isList ?_
  refine ⟨s1.heap.objs.size, [s1.heap.objs.size], _, _, H1, rfl, I1.kept (t' := s1.toks) fun b o e => Heap.get?_push_of_some _ e, turn_list a _, ⟨_, Heap.get?_push_size _ rfl, rfl, rfl⟩, fun b hb => ?_, q⟩
  have e : b = s1.heap.objs.size := by simpa using hb
  subst e
  exact I1.fpOk (Nat.le_refl _) (I1.hok.fresh (Nat.le_refl _))
/-- a range object just made, walked -/
theorem range_it {pins : List (Addr × Obj)} {σ : St} {H : Hp} {s : Shared} {R : It → Hp → Prop} {E : Value → Shared → Prop} {lo hi : Int} {t u v : Tok} {tk : Nat} (I : Inv X pins σ H s) (h1 : -(2 ^ 62) ≤ lo) (h2 : lo < 2 ^ 62) (h3 : -(2 ^ 62) ≤ hi) (h4 : hi < 2 ^ 62)
    (q : R (Itr lo (hi - lo).toNat) H) : wpAny (model X.prog X.w) X.A (pyIter (.ref s.heap.objs.size)) (PIE X pins σ tg R) E { s with heap := s.heap.push { cls := .type "range", data := .fields #[.int lo t, .int hi u, .int 1 v] }, toks := tk } := by
  refine wpAny_pyIter_range (IsRange.new ..) (small_one h1 h2 h3 h4) ?_
  have I1 : Inv X pins σ H { s with heap := s.heap.push { cls := .type "range", data := .fields #[.int lo t, .int hi u, .int 1 v] }, toks := tk } := I.kept fun b o e => Heap.get?_push_of_some _ e
  refine ⟨(s.heap.push { cls := .type "range", data := .fields #[.int lo t, .int hi u, .int 1 v] }).objs.size, [(s.heap.push { cls := .type "range", data := .fields #[.int lo t, .int hi u, .int 1 v] }).objs.size], _, _, H, rfl,
    I1.kept (t' := tk) fun b o e => Heap.get?_push_of_some _ e, turn_range _ lo (hi - lo).toNat, ?_, fun b hb => ?_, q⟩
  · have e1 : lo + ((0 : Nat) : Int) * 1 = lo := by simp
    have e2 : (((hi - lo).toNat : Nat) : Int) - ((0 : Nat) : Int) = Builtin.Range.rangeSize lo hi 1 := by rw [rangeSize_one]; split <;> omega
    show IsRangeIter _ _ (lo + ((0 : Nat) : Int) * 1) ((((hi - lo).toNat : Nat) : Int) - ((0 : Nat) : Int)) 1
    rw [e1, e2]
    exact Heap.get?_push_size _ rfl
  · have e : b = (s.heap.push { cls := .type "range", data := .fields #[.int lo t, .int hi u, .int 1 v] }).objs.size := by simpa using hb
    subst e
    exact I1.fpOk (Nat.le_refl _) (I1.hok.fresh (Nat.le_refl _))
def iRng1 (ta : TA) : TI := fun σ H R => ta σ H fun vs H1 => ∃ j : Int, vs = [.int j] ∧ -(2 ^ 62) ≤ j ∧ j < 2 ^ 62 ∧ R (Itr 0 j.toNat) H1
theorem pi_range1 {a : Expr} {ta : TA} {p pos : Pos} (hg : Gl X "range") (hm : X.mg "range" = none) (ha : PA X [a] ta) (hs : starEach [a] X.env = [(false, eval a X.env)] := by rfl) : PI X tg (.Call (.Name "range" p) [a] [] pos) (iRng1 ta) := by
  intro pins s σ H R I h
  refine Call_ (ld_blt I hg hm boot_range (PyProof.Rows.callWith_type1 (thn (ha pos pins s σ H _ I h) fun us s1 ⟨vs, H1, I1, r1, q1⟩ => ?_) hs rfl))
  obtain ⟨j, e, q1, q2, q⟩ := q1
  subst e
  cases r1 with
  | cons r rr =>
    cases rr
    obtain ⟨t, rfl⟩ := r
    exact call_range_1 (range_it I1 (by omega) (by omega) q1 q2 (by simpa using q))

/-! ### for -/
/-- W: the invariant by the turn and a measure; N: what the body is to reach -/
def tFor (wi : TI) (g : TG) (tb : TS) : TS := fun D σ H => wi σ H fun J H1 => ∃ W : Nat → Nat → St → Hp → Prop, (∃ m, W 0 m σ H1) ∧ ∀ i m σ H, W i m σ H →
  (J.stop i H ∧ D.nx σ H) ∨ (J.go i H ∧ ∃ N : St → Hp → Prop, (∀ σ' H', N σ' H' → ∃ m', m' < m ∧ W (i + 1) m' σ' H') ∧ ∀ x H', J.yld i H x H' → g x σ H' fun σ2 H2 => tb { D with nx := N, ct := N, bk := D.nx } σ2 H2)
/-- the records at fp as they stand -/
def pinsAt (fp : List Addr) (h : Heap) : List (Addr × Obj) := fp.filterMap fun b => (h.get? b).map fun o => (b, o)
theorem mem_pinsAt {fp : List Addr} {h : Heap} {b : Addr} {o : Obj} (hb : b ∈ fp) (e : h.get? b = some o) : (b, o) ∈ pinsAt fp h := List.mem_filterMap.mpr ⟨b, hb, by rw [e]; rfl⟩
theorem of_pinsAt {fp : List Addr} {h : Heap} {p : Addr × Obj} (hp : p ∈ pinsAt fp h) : p.1 ∈ fp ∧ h.get? p.1 = some p.2 := by
  obtain ⟨b, hb, e⟩ := List.mem_filterMap.mp hp
  cases q : h.get? b with
  | none => rw [q] at e; cases e
  | some o =>
    rw [q] at e
    have e' : (b, o) = p := Option.some.inj e
    subst e'
    exact ⟨hb, q⟩
theorem Inv.pinned {pins : List (Addr × Obj)} {σ : St} {H : Hp} {s : Shared} {fp : List Addr} (I : Inv X pins σ H s) (hf : ∀ b ∈ fp, FpOk X pins H b) (ho : ∀ b ∈ fp, ∃ o, s.heap.get? b = some o ∧ ∀ v, o.data ≠ .cell v) : Inv X (pins ++ pinsAt fp s.heap) σ H s :=
  I.pins_of fun p hp => (List.mem_append.mp hp).elim (fun z => I.pin p (List.mem_append_right _ z)) fun z => by
    obtain ⟨hb, e⟩ := of_pinsAt z
    obtain ⟨f0, f1, f2, _⟩ := hf p.1 hb
    obtain ⟨o, e', d⟩ := ho p.1 hb
    rw [e] at e'; cases e'
    exact ⟨e, f0, f1, f2, d⟩
theorem Inv.unpinned {pins pl : List (Addr × Obj)} {σ : St} {H : Hp} {s : Shared} (I : Inv X (pins ++ pl) σ H s) : Inv X pins σ H s := I.pins_of fun p hp => I.pin p (List.mem_append_right _ (List.mem_append_left _ hp))
theorem ps_for {iter : Expr} {body : List Stmt} {wi : TI} {g : TG} {tb : TS} {pos : Pos} (hp : PassesOwn (model X.prog X.w) X.A X.env X.xe) (hc : X.calm = true) (hi : PI X tg iter wi) (hg : PG X tg g) (hb : PSs X body tb)
    (hs : ∀ x, foldedSetIterable iter X.env x = pure x := by intro _; rfl) : PS X (.For tg iter body [] pos) (tFor wi g tb) := by
  intro pins s σ H D I h
  refine wpAny_For (thn (hi pins s σ H _ I h) fun v s1 h1 => thn h1 fun itv s2 h2 => ?_) hs
  obtain ⟨it, fp, tn, J, H2, e, I2, T, st2, f2, W, ⟨m0, w0⟩, turn⟩ := h2
  subst e
  -- what stays true of the iterator's objects through the loop
  have stat : ∀ {H' : Hp}, (∀ b ∈ fp, H' b = none) → ∀ b ∈ fp, FpOk X pins H' b := fun hn b hb => ⟨hn b hb, (f2 b hb).2⟩
  refine codeAny_forLoop_any (fun n s' => ∃ i σ' H', Inv X pins σ' H' s' ∧ tn i s'.heap ∧ (∀ b ∈ fp, H' b = none) ∧ W i n σ' H') ?_ m0 ⟨0, σ, H2, I2, st2, fun b hb => (f2 b hb).1, w0⟩
  rintro n s3 ⟨i, σ3, H3, I3, st3, fr3, w3⟩
  rcases turn i n σ3 H3 w3 with ⟨stop, qn⟩ | ⟨go, N, hN, step⟩
  · refine wpAny_passesOwn hp (thn (T.done X rfl rfl rfl hc i pins s3 σ3 H3 X.xe I3 (stat fr3) st3 stop) fun r s4 ⟨hr, I4⟩ => ?_)
    subst hr
    exact wpAny_execs_nil ⟨σ3, H3, I4, qn⟩
  · refine wpAny_passesOwn hp (thn (T.item X rfl rfl rfl hc i pins s3 σ3 H3 X.xe I3 (stat fr3) st3 go) fun r s4 ⟨u, hr, h4⟩ => ?_)
    subst hr
    refine wpAny_passesOwn hp (thn h4 fun _ s5 ⟨x, H5, I5, r5, y5, st5, fr5⟩ => ?_)
    have I5' := I5.pinned (stat fr5) (T.obj _ _ st5)
    refine wpAny_passesOwn hp (thn (hg _ s5 σ3 H5 x u _ I5' r5 (step x H5 y5)) fun _ s6 ⟨σ6, H6, I6, q6⟩ => ?_)
    refine wpAny_passesOwn hp (thn (hb _ s6 σ6 H6 _ I6 q6) fun f s7 q7 => ?_)
    have again : ∀ {σ7 : St} {H7 : Hp}, Inv X (pins ++ pinsAt fp s5.heap) σ7 H7 s7 → N σ7 H7 → ∃ m, m < n ∧ ∃ i σ' H', Inv X pins σ' H' s7 ∧ tn i s7.heap ∧ (∀ b ∈ fp, H' b = none) ∧ W i m σ' H' := fun {σ7 H7} I7 n7 => by
      obtain ⟨m', hm, w7⟩ := hN σ7 H7 n7
      refine ⟨m', hm, i + 1, σ7, H7, I7.unpinned, T.keep _ _ _ st5 fun b hb o e => (I7.pin (b, o) (List.mem_append_right _ (List.mem_append_right _ (mem_pinsAt hb e)))).1, fun b hb => ?_, w7⟩
      obtain ⟨o, e, d⟩ := T.obj _ _ st5 b hb
      exact (I7.pin (b, o) (List.mem_append_right _ (List.mem_append_right _ (mem_pinsAt hb e)))).2.1
    cases f with
    | next => obtain ⟨σ7, H7, I7, n7⟩ := q7; exact again I7 n7
    | cont => obtain ⟨σ7, H7, I7, n7⟩ := q7; exact again I7 n7
    | brk => obtain ⟨σ7, H7, I7, q7⟩ := q7; exact ⟨σ7, H7, I7.unpinned, q7⟩
    | ret v => obtain ⟨x7, σ7, H7, I7, r7, q7⟩ := q7; exact ⟨x7, σ7, H7, I7.unpinned, r7, q7⟩
end

/-! ### the forms one uses -/
/-- over a list that the body leaves as it is -/
theorem for_list {K : PySem.W.Frag} {a : Addr} {xs : List V} {g : TG} {tb : TS} {D : Ends} {σ : St} {H : Hp} (Pv : Nat → St → Hp → Prop) (h0 : Pv 0 σ H) (hl : ∀ i σ H, i ≤ xs.length → Pv i σ H → SqL K H a xs)
    (hs : ∀ i x σ H, xs[i]? = some x → Pv i σ H → g x σ H fun σ2 H2 => tb { D with nx := Pv (i + 1), ct := Pv (i + 1), bk := D.nx } σ2 H2) (hd : ∀ σ H, Pv xs.length σ H → D.nx σ H) :
    ∃ W : Nat → Nat → St → Hp → Prop, (∃ m, W 0 m σ H) ∧ ∀ i m σ H, W i m σ H →
      ((Itl K a).stop i H ∧ D.nx σ H) ∨ ((Itl K a).go i H ∧ ∃ N : St → Hp → Prop, (∀ σ' H', N σ' H' → ∃ m', m' < m ∧ W (i + 1) m' σ' H') ∧ ∀ x H', (Itl K a).yld i H x H' → g x σ H' fun σ2 H2 => tb { D with nx := N, ct := N, bk := D.nx } σ2 H2) := by
  refine ⟨fun i m σ H => m = xs.length - i ∧ i ≤ xs.length ∧ Pv i σ H, ⟨xs.length, by simp, Nat.zero_le _, h0⟩, ?_⟩
  rintro i m σ H ⟨rfl, hi, p⟩
  have q := hl i σ H hi p
  by_cases hlt : i < xs.length
  · refine .inr ⟨⟨xs, xs[i], q, by simp [hlt]⟩, Pv (i + 1), fun σ' H' p' => ⟨xs.length - (i + 1), by omega, rfl, hlt, p'⟩, fun x H' y => ?_⟩
    obtain ⟨e, y⟩ := y
    subst e
    exact hs i x σ _ (y xs q) p
  · have e : i = xs.length := by omega
    subst e
    exact .inl ⟨⟨xs, q, Nat.le_refl _⟩, hd σ H p⟩
theorem for_range {lo : Int} {n : Nat} {g : TG} {tb : TS} {D : Ends} {σ : St} {H : Hp} (Pv : Nat → St → Hp → Prop) (h0 : Pv 0 σ H)
    (hs : ∀ i σ H, i < n → Pv i σ H → g (.int (lo + i)) σ H fun σ2 H2 => tb { D with nx := Pv (i + 1), ct := Pv (i + 1), bk := D.nx } σ2 H2) (hd : ∀ σ H, Pv n σ H → D.nx σ H) :
    ∃ W : Nat → Nat → St → Hp → Prop, (∃ m, W 0 m σ H) ∧ ∀ i m σ H, W i m σ H →
      ((Itr lo n).stop i H ∧ D.nx σ H) ∨ ((Itr lo n).go i H ∧ ∃ N : St → Hp → Prop, (∀ σ' H', N σ' H' → ∃ m', m' < m ∧ W (i + 1) m' σ' H') ∧ ∀ x H', (Itr lo n).yld i H x H' → g x σ H' fun σ2 H2 => tb { D with nx := N, ct := N, bk := D.nx } σ2 H2) := by
  refine ⟨fun i m σ H => m = n - i ∧ i ≤ n ∧ Pv i σ H, ⟨n, by simp, Nat.zero_le _, h0⟩, ?_⟩
  rintro i m σ H ⟨rfl, hi, p⟩
  by_cases hlt : i < n
  · refine .inr ⟨hlt, Pv (i + 1), fun σ' H' p' => ⟨n - (i + 1), by omega, rfl, hlt, p'⟩, fun x H' y => ?_⟩
    obtain ⟨e, y⟩ := y
    subst e y
    exact hs i σ _ hlt p
  · have e : i = n := by omega
    subst e
    exact .inl ⟨Nat.le_refl _, hd σ H p⟩
end L2

namespace L2
open PySem PySem.Spec PyProof.Rows

abbrev R2 := V → V → Hp → VK → Prop
/-- a two-place operation on values: f is binaryOp op, inplaceOp op or compareOp op -/
def OpR (X : Cx) (f : Value → Value → Sem Value) (r : R2) : Prop :=
  ∀ (pins : List (Addr × Obj)) (s : Shared) (σ : St) (H : Hp) (x y : V) (v u : Value) (Q : VK), Inv X pins σ H s → RelV x v → RelV y u → r x y H Q →
    wpAny (model X.prog X.w) X.A (f v u) (EP X pins σ Q) X.xe s
/-- a one-place operation -/
def UnR (X : Cx) (f : Value → Sem Value) (r : V → Hp → VK → Prop) : Prop :=
  ∀ (pins : List (Addr × Obj)) (s : Shared) (σ : St) (H : Hp) (x : V) (v : Value) (Q : VK), Inv X pins σ H s → RelV x v → r x H Q →
    wpAny (model X.prog X.w) X.A (f v) (EP X pins σ Q) X.xe s
/-- a call of a value that is known (a builtin, a type) with values -/
def CallR (X : Cx) (f : Value) (r : List V → Hp → VK → Prop) : Prop :=
  ∀ (pins : List (Addr × Obj)) (s : Shared) (σ : St) (H : Hp) (xs : List V) (us : List Value) (Q : VK), Inv X pins σ H s → Vals xs us → r xs H Q →
    wpAny (model X.prog X.w) X.A (call f us) (EP X pins σ Q) X.xe s

def tOp (r : R2) (ta tb : TE) : TE := fun σ H Q => ta σ H fun x H1 => tb σ H1 fun y H2 => r x y H2 Q
def tUn (r : V → Hp → VK → Prop) (ta : TE) : TE := fun σ H Q => ta σ H fun x H1 => r x H1 Q
/-- ints in, under C, and a value out -/
def rI (C : Int → Int → Prop) (g : Int → Int → V) : R2 := fun x y H Q => ∃ i j, x = .int i ∧ y = .int j ∧ C i j ∧ Q (g i j) H
def rI0 (g : Int → Int → V) : R2 := fun x y H Q => ∃ i j, x = .int i ∧ y = .int j ∧ Q (g i j) H
def rU (g : Int → V) : V → Hp → VK → Prop := fun x H Q => ∃ i, x = .int i ∧ Q (g i) H

section
variable {X : Cx} {a b c : Expr} {ta tb tc : TE} {pos : Pos}

theorem binT (ha : PE X a ta) (hb : PE X b tb) {pins : List (Addr × Obj)} {s : Shared} {σ : St} {H : Hp} {R : V → V → Hp → Prop} (I : Inv X pins σ H s)
    (h : ta σ H fun x H1 => tb σ H1 fun y H2 => R x y H2) {Q : Value → Shared → Prop} {f : Value → Value → Sem Value}
    (hf : ∀ v u s2 x y H2, Inv X pins σ H2 s2 → RelV x v → RelV y u → R x y H2 → wpAny (model X.prog X.w) X.A (f v u) Q X.xe s2) :
    wpAny (model X.prog X.w) X.A (eval a X.env) (fun v s₁ => wpAny (model X.prog X.w) X.A (eval b X.env) (fun u s₂ => wpAny (model X.prog X.w) X.A (f v u) Q X.xe s₂) X.xe s₁) X.xe s := by
  refine thn (ha pins s σ H _ I h) fun v s1 ⟨x, H1, I1, r1, q1⟩ => ?_
  refine thn (hb pins s1 σ H1 _ I1 q1) fun u s2 ⟨y, H2, I2, r2, q2⟩ => ?_
  exact hf v u s2 x y H2 I2 r1 r2 q2

theorem pe_op {op : Operator} {r : R2} (ho : OpR X (binaryOp op) r) (ha : PE X a ta) (hb : PE X b tb) : PE X (.BinOp a op b pos) (tOp r ta tb) := by
  intro pins s σ H Q I h
  exact wpAny_BinOp (binT ha hb I h fun v u s2 x y H2 I2 rx ry q => ho pins s2 σ H2 x y v u Q I2 rx ry q)
theorem pe_un {op : UnaryOp} {r : V → Hp → VK → Prop} (ho : UnR X (unaryOp op) r) (ha : PE X a ta) : PE X (.UnaryOp op a pos) (tUn r ta) := by
  intro pins s σ H Q I h
  exact UnaryOp_ (thn (ha pins s σ H _ I h) fun v s1 ⟨x, H1, I1, r1, q1⟩ => ho pins s1 σ H1 x v Q I1 r1 q1)

/-! ### ints -/
theorem opI {f : Value → Value → Sem Value} {C : Int → Int → Prop} {g : Int → Int → Int}
    (rule : ∀ (i j : Int) (t u : Tok) (s : Shared) (Q : Value → Shared → Prop) (E : Value → Shared → Prop), C i j → Q (.int (g i j) s.toks) { s with toks := s.toks + 1 } → wpAny (model X.prog X.w) X.A (f (.int i t) (.int j u)) Q E s) :
    OpR X f (rI C fun i j => .int (g i j)) := by
  intro pins s σ H x y v u Q I rx ry h
  obtain ⟨i, j, rfl, rfl, hc, q⟩ := h
  obtain ⟨t, rfl⟩ := rx
  obtain ⟨t', rfl⟩ := ry
  exact rule i j t t' s _ _ hc ⟨.int (g i j), H, I.tok _, ⟨_, rfl⟩, q⟩
theorem opI0 {f : Value → Value → Sem Value} {g : Int → Int → Int}
    (rule : ∀ (i j : Int) (t u : Tok) (s : Shared) (Q : Value → Shared → Prop) (E : Value → Shared → Prop), Q (.int (g i j) s.toks) { s with toks := s.toks + 1 } → wpAny (model X.prog X.w) X.A (f (.int i t) (.int j u)) Q E s) :
    OpR X f (rI0 fun i j => .int (g i j)) := by
  intro pins s σ H x y v u Q I rx ry h
  obtain ⟨i, j, rfl, rfl, q⟩ := h
  obtain ⟨t, rfl⟩ := rx
  obtain ⟨t', rfl⟩ := ry
  exact rule i j t t' s _ _ ⟨.int (g i j), H, I.tok _, ⟨_, rfl⟩, q⟩
theorem opB0 {f : Value → Value → Sem Value} {g : Int → Int → Bool}
    (rule : ∀ (i j : Int) (t u : Tok) (s : Shared) (Q : Value → Shared → Prop) (E : Value → Shared → Prop), Q (.bool (g i j)) s → wpAny (model X.prog X.w) X.A (f (.int i t) (.int j u)) Q E s) :
    OpR X f (rI0 fun i j => .bl (g i j)) := by
  intro pins s σ H x y v u Q I rx ry h
  obtain ⟨i, j, rfl, rfl, q⟩ := h
  obtain ⟨t, rfl⟩ := rx
  obtain ⟨t', rfl⟩ := ry
  exact rule i j t t' s _ _ ⟨.bl (g i j), H, I, rfl, q⟩

def CDiv (i j : Int) : Prop := 0 < j ∧ j < 1073741824
def CPow (i j : Int) : Prop := 0 ≤ j ∧ j ≤ 1000000 ∧ i.natAbs < 2 ^ 64
def CMul (i j : Int) : Prop := (-(2 ^ 64) < i ∧ i < 2 ^ 64) ∨ (-(2 ^ 64) < j ∧ j < 2 ^ 64)
theorem CMul.ok {i j : Int} (h : CMul i j) : IntMulOk i j := by
  rcases h with ⟨h1, h2⟩ | ⟨h1, h2⟩
  · exact .of_left (intBits_le_64 h1 h2)
  · exact .of_right (intBits_le_64 h1 h2)

theorem op_add : OpR X (binaryOp .Add) (rI0 fun i j => .int (i + j)) := opI0 fun _ _ _ _ _ _ _ q => add_int q
theorem op_sub : OpR X (binaryOp .Sub) (rI0 fun i j => .int (i - j)) := opI0 fun _ _ _ _ _ _ _ q => sub_int q
theorem op_mul : OpR X (binaryOp .Mult) (rI CMul fun i j => .int (i * j)) := opI fun _ _ _ _ _ _ _ hc q => mul_int q hc.ok
/-- // by a positive divisor -/
theorem op_fdiv : OpR X (binaryOp .FloorDiv) (rI CDiv fun i j => .int (i / j)) := opI fun i j _ _ _ _ _ hc q => by
  have h1 : (0 : Int) < j := hc.1
  have h2 : j < 1073741824 := hc.2
  exact floordiv_int (by omega) (by rw [Int.fdiv_eq_ediv_of_nonneg i (by omega)]; exact q) (.inl (PyProof.noPylong_small (by omega)))
/-- % by a positive divisor of any size -/
theorem op_mod : OpR X (binaryOp .Mod) (rI (fun _ j => 0 < j) fun i j => .int (i % j)) := opI fun i j _ _ _ _ _ hc q => by
  have h1 : (0 : Int) < j := hc
  exact mod_int' (by omega) (by rw [Int.fmod_eq_emod_of_nonneg i (by omega)]; exact q)
theorem op_pow : OpR X (binaryOp .Pow) (rI CPow fun i j => .int (i ^ j.toNat)) := opI fun _ _ _ _ _ _ _ hc q => pow_int_small hc.1 hc.2.1 hc.2.2 q


theorem unI {f : Value → Sem Value} {g : Int → Int}
    (rule : ∀ (i : Int) (t : Tok) (s : Shared) (Q : Value → Shared → Prop) (E : Value → Shared → Prop), Q (.int (g i) s.toks) { s with toks := s.toks + 1 } → wpAny (model X.prog X.w) X.A (f (.int i t)) Q E s) :
    UnR X f (rU fun i => .int (g i)) := by
  intro pins s σ H x v Q I rx h
  obtain ⟨i, rfl, q⟩ := h
  obtain ⟨t, rfl⟩ := rx
  exact rule i t s _ _ ⟨.int (g i), H, I.tok _, ⟨_, rfl⟩, q⟩
theorem un_neg : UnR X (unaryOp .USub) (rU fun i => .int (-i)) := unI fun _ _ _ _ _ q => neg_int q

/-! ### bools among ints: n += (a < b) -/
end

/-! ### comparisons -/
/-- the scalars that == tells apart as data does -/
def scal : V → V → Bool
  | .non, .non => true | .non, .int _ => true | .int _, .non => true | .non, .bl _ => true | .bl _, .non => true | .non, .str _ => true | .str _, .non => true
  | .int _, .int _ => true | .bl _, .bl _ => true | .str _, .str _ => true | .byt _, .byt _ => true
  | .int _, .str _ => true | .str _, .int _ => true | .bl _, .str _ => true | .str _, .bl _ => true
  | _, _ => false
def rEq : R2 := fun x y H Q => scal x y = true ∧ Q (.bl (decide (x = y))) H
def rNe : R2 := fun x y H Q => scal x y = true ∧ Q (.bl (!decide (x = y))) H

theorem dec_int {i j : Int} : decide (V.int i = V.int j) = (i == j) := by
  rw [Bool.eq_iff_iff]
  simp
theorem dec_bl {i j : Bool} : decide (V.bl i = V.bl j) = (i == j) := by
  rw [Bool.eq_iff_iff]
  simp
theorem dec_str {i j : Str} : decide (V.str i = V.str j) = (i == j) := by
  rw [Bool.eq_iff_iff]
  simp
theorem dec_byt {i j : Array UInt8} : decide (V.byt i = V.byt j) = (i.toList == j.toList) := by
  rw [Bool.eq_iff_iff]
  cases i
  cases j
  simp

section
variable {X : Cx} {a b c : Expr} {ta tb tc : TE} {pos : Pos}
theorem fin_bl {pins : List (Addr × Obj)} {σ : St} {H : Hp} {s : Shared} {Q : VK} {k k' : Bool} (I : Inv X pins σ H s) (q : Q (.bl k) H) (e : k = k') : EP X pins σ Q (.bool k') s := by
  subst e
  exact ⟨.bl k, H, I, rfl, q⟩
theorem op_eq : OpR X (compareOp .Eq) rEq := by
  intro pins s σ H x y v u Q I rx ry h
  obtain ⟨hs, q⟩ := h
  cases x with
  | non =>
    cases rx
    cases y with
    | non => cases ry; exact PySem.EqNone.eq_none_none (fin_bl I q (by simp))
    | bl j => cases ry; exact PySem.EqNone.eq_none_bool (fin_bl I q (by simp))
    | int j => obtain ⟨t', rfl⟩ := ry; exact PySem.EqNone.eq_none_int (fin_bl I q (by simp))
    | str j => obtain ⟨t', rfl⟩ := ry; exact PySem.EqNone.eq_none_str (fin_bl I q (by simp))
    | _ => exact absurd (show false = true from hs) Bool.false_ne_true
  | bl i =>
    cases rx
    cases y with
    | non => cases ry; exact PySem.EqNone.eq_bool_none (fin_bl I q (by simp))
    | bl j => cases ry; exact eq_bool (fin_bl I q dec_bl)
    | str j => obtain ⟨t', rfl⟩ := ry; exact PySem.EqMixed.eq_bool_str (fin_bl I q (by simp))
    | _ => exact absurd (show false = true from hs) Bool.false_ne_true
  | int i =>
    obtain ⟨t, rfl⟩ := rx
    cases y with
    | non => cases ry; exact PySem.EqNone.eq_int_none (fin_bl I q (by simp))
    | int j => obtain ⟨t', rfl⟩ := ry; exact eq_int (fin_bl I q dec_int)
    | str j => obtain ⟨t', rfl⟩ := ry; exact PySem.EqMixed.eq_int_str (fin_bl I q (by simp))
    | _ => exact absurd (show false = true from hs) Bool.false_ne_true
  | str i =>
    obtain ⟨t, rfl⟩ := rx
    cases y with
    | non => cases ry; exact PySem.EqNone.eq_str_none (fin_bl I q (by simp))
    | bl j => cases ry; exact PySem.EqMixed.eq_str_bool (fin_bl I q (by simp))
    | int j => obtain ⟨t', rfl⟩ := ry; exact PySem.EqMixed.eq_str_int (fin_bl I q (by simp))
    | str j => obtain ⟨t', rfl⟩ := ry; exact eq_str (fin_bl I q dec_str)
    | _ => exact absurd (show false = true from hs) Bool.false_ne_true
  | byt i =>
    obtain ⟨t, rfl⟩ := rx
    cases y with
    | byt j => obtain ⟨t', rfl⟩ := ry; exact PySem.W.eq_bytes (fin_bl I q dec_byt)
    | _ => exact absurd (show false = true from hs) Bool.false_ne_true
  | _ => cases y <;> exact absurd (show false = true from hs) Bool.false_ne_true
theorem op_ne : OpR X (compareOp .NotEq) rNe := by
  intro pins s σ H x y v u Q I rx ry h
  obtain ⟨hs, q⟩ := h
  cases x with
  | non =>
    cases rx
    cases y with
    | non => cases ry; exact PySem.EqNone.ne_none_none (fin_bl I q (by simp))
    | bl j => cases ry; exact PySem.EqNone.ne_none_bool (fin_bl I q (by simp))
    | int j => obtain ⟨t', rfl⟩ := ry; exact PySem.EqNone.ne_none_int (fin_bl I q (by simp))
    | str j => obtain ⟨t', rfl⟩ := ry; exact PySem.EqNone.ne_none_str (fin_bl I q (by simp))
    | _ => exact absurd (show false = true from hs) Bool.false_ne_true
  | bl i =>
    cases rx
    cases y with
    | non => cases ry; exact PySem.EqNone.ne_bool_none (fin_bl I q (by simp))
    | bl j => cases ry; exact ne_bool (fin_bl I q (congrArg not dec_bl))
    | str j => obtain ⟨t', rfl⟩ := ry; exact PySem.EqMixed.ne_bool_str (fin_bl I q (by simp))
    | _ => exact absurd (show false = true from hs) Bool.false_ne_true
  | int i =>
    obtain ⟨t, rfl⟩ := rx
    cases y with
    | non => cases ry; exact PySem.EqNone.ne_int_none (fin_bl I q (by simp))
    | int j => obtain ⟨t', rfl⟩ := ry; exact ne_int (fin_bl I q (congrArg not dec_int))
    | str j => obtain ⟨t', rfl⟩ := ry; exact PySem.EqMixed.ne_int_str (fin_bl I q (by simp))
    | _ => exact absurd (show false = true from hs) Bool.false_ne_true
  | str i =>
    obtain ⟨t, rfl⟩ := rx
    cases y with
    | non => cases ry; exact PySem.EqNone.ne_str_none (fin_bl I q (by simp))
    | bl j => cases ry; exact PySem.EqMixed.ne_str_bool (fin_bl I q (by simp))
    | int j => obtain ⟨t', rfl⟩ := ry; exact PySem.EqMixed.ne_str_int (fin_bl I q (by simp))
    | str j => obtain ⟨t', rfl⟩ := ry; exact ne_str (fin_bl I q (congrArg not dec_str))
    | _ => exact absurd (show false = true from hs) Bool.false_ne_true
  | byt i =>
    obtain ⟨t, rfl⟩ := rx
    cases y with
    | byt j => obtain ⟨t', rfl⟩ := ry; exact PySem.W.ne_bytes (fin_bl I q (congrArg not dec_byt))
    | _ => exact absurd (show false = true from hs) Bool.false_ne_true
  | _ => cases y <;> exact absurd (show false = true from hs) Bool.false_ne_true

theorem op_lt : OpR X (compareOp .Lt) (rI0 fun i j => .bl (decide (i < j))) := opB0 fun _ _ _ _ _ _ _ q => lt_int q
theorem op_le : OpR X (compareOp .LtE) (rI0 fun i j => .bl (decide (i ≤ j))) := opB0 fun _ _ _ _ _ _ _ q => le_int q
theorem op_gt : OpR X (compareOp .Gt) (rI0 fun i j => .bl (decide (j < i))) := opB0 fun _ _ _ _ _ _ _ q => gt_int q
theorem op_ge : OpR X (compareOp .GtE) (rI0 fun i j => .bl (decide (j ≤ i))) := opB0 fun _ _ _ _ _ _ _ q => ge_int q
/-- the one string within the other -/
theorem op_in_str : OpR X (compareOp .In) (fun x y H Q => ∃ i j, x = .str i ∧ y = .str j ∧ Q (.bl (!(Builtin.Str.occurrences j i 0 j.length 1).isEmpty)) H) := by
  intro pins s σ H x y v u Q I rx ry h
  obtain ⟨i, j, rfl, rfl, q⟩ := h
  obtain ⟨t, rfl⟩ := rx
  obtain ⟨t', rfl⟩ := ry
  exact in_str (fin_bl I q rfl)



/-- two rules for one operation: by cases -/
theorem OpR.or {f : Value → Value → Sem Value} {r r' : R2} (h : OpR X f r) (h' : OpR X f r') : OpR X f (fun x y H Q => r x y H Q ∨ r' x y H Q) := by
  intro pins s σ H x y v u Q I rx ry q
  rcases q with q | q
  · exact h pins s σ H x y v u Q I rx ry q
  · exact h' pins s σ H x y v u Q I rx ry q

theorem nomark (b : Expr) {op : CmpOp} (h : op ≠ .In := by decide) (h2 : op ≠ .NotIn := by decide) : behindInMarks op b = false := by
  have e1 : (op == CmpOp.In) = false := by cases op <;> first | rfl | exact absurd rfl h
  have e2 : (op == CmpOp.NotIn) = false := by cases op <;> first | rfl | exact absurd rfl h2
  cases b <;> simp [behindInMarks, e1, e2]
/-- a comparison as a value; hm: nomark b, or (for in, not in) by with_unfolding_all rfl -/
theorem pe_cmpR {op : CmpOp} {r : R2} (ho : OpR X (compareOp op) r) (ha : PE X a ta) (hb : PE X b tb) (hm : behindInMarks op b = false) : PE X (.Compare a [op] [b] pos) (tOp r ta tb) := by
  intro pins s σ H Q I h
  exact wpAny_Compare1 (binT ha hb I h fun v u s2 x y H2 I2 rx ry q => ho pins s2 σ H2 x y v u Q I2 rx ry q) hm
/-- a reading of a value as a test -/
def tTest (t : TE) : TT := fun σ H Q => t σ H fun x H' => ∃ k, x = .bl k ∧ Q k H'
theorem pt_cmpR {op : CmpOp} {r : R2} (ho : OpR X (compareOp op) r) (ha : PE X a ta) (hb : PE X b tb) (hm : behindInMarks op b = false) : PT X (.Compare a [op] [b] pos) (tTest (tOp r ta tb)) := by
  intro pins s σ H Q I h
  refine wpAny_isTrue_Compare1 (thn (ha pins s σ H _ I h) fun v s1 ⟨x, H1, I1, r1, q1⟩ => thn (hb pins s1 σ H1 _ I1 q1) fun u s2 ⟨y, H2, I2, r2, q2⟩ =>
    thn (ho pins s2 σ H2 x y v u _ I2 r1 r2 q2) fun c s3 ⟨z, H3, I3, r3, k, e, q3⟩ => ?_) hm
  subst e
  cases r3
  exact wpAny_truthy_bool ⟨H3, I3, q3⟩
/-- a op1 b op2 c -/
def tChain (r r' : R2) (ta tb tc : TE) : TE := fun σ H Q => ta σ H fun x H1 => tb σ H1 fun y H2 => r x y H2 fun z H3 => ∃ k, z = .bl k ∧
  (if k = true then tc σ H3 fun w' H4 => r' y w' H4 Q else Q (.bl false) H3)
theorem pt_chain {op op' : CmpOp} {r r' : R2} (ho : OpR X (compareOp op) r) (ho' : OpR X (compareOp op') r') (ha : PE X a ta) (hb : PE X b tb) (hc : PE X c tc)
    (hm : lastMarks [op, op'] [b, c] = false := by with_unfolding_all rfl) : PT X (.Compare a [op, op'] [b, c] pos) (tTest (tChain r r' ta tb tc)) := by
  intro pins s σ H Q I h
  refine isTrue_chain (thn (ha pins s σ H _ I h) fun v s1 ⟨x, H1, I1, r1, q1⟩ => test_link (thn (hb pins s1 σ H1 _ I1 q1) fun u s2 ⟨y, H2, I2, r2, q2⟩ =>
    thn (ho pins s2 σ H2 x y v u _ I2 r1 r2 q2) fun d s3 ⟨z, H3, I3, r3, k, e, q3⟩ => ?_)) hm
  subst e
  cases r3
  refine wpAny_truthy_bool ?_
  cases k with
  | false =>
    obtain ⟨k', e', q'⟩ := q3
    cases e'
    exact ite_ff ⟨H3, I3, q'⟩
  | true =>
    refine ite_tt (test_last (thn (hc pins s3 σ H3 _ I3 q3) fun w' s4 ⟨z', H4, I4, r4, q4⟩ => thn (ho' pins s4 σ H4 y z' u w' _ I4 r2 r4 q4) fun d' s5 ⟨z2, H5, I5, r5, k2, e2, q5⟩ => ?_))
    subst e2
    cases r5
    exact wpAny_truthy_bool ⟨H5, I5, q5⟩

/-! ### truth -/
theorem line63 : (sizeLine : Nat) < 2 ^ 63 := by rw [sizeLine_eq]; decide

/-! ### strs and bytes -/
theorem op_add_str : OpR X (binaryOp .Add) (fun x y H Q => ∃ i j, x = .str i ∧ y = .str j ∧ i.length + j.length ≤ sizeLine ∧ Q (.str (i ++ j)) H) := by
  intro pins s σ H x y v u Q I rx ry h
  obtain ⟨i, j, rfl, rfl, hz, q⟩ := h
  obtain ⟨t, rfl⟩ := rx
  obtain ⟨t', rfl⟩ := ry
  exact add_str (fun t' tk => ⟨.str (i ++ j), H, I.tok _, ⟨_, rfl⟩, q⟩) hz


/-! ### scalar builtins, by CallR -/
theorem vals1 {x : V} {us : List Value} (r : Vals [x] us) : ∃ u, us = [u] ∧ RelV x u := by
  cases r with
  | cons r1 r2 => cases r2; exact ⟨_, rfl, r1⟩
theorem vals2 {x y : V} {us : List Value} (r : Vals [x, y] us) : ∃ u w', us = [u, w'] ∧ RelV x u ∧ RelV y w' := by
  cases r with
  | cons r1 r2 =>
    cases r2 with
    | cons r3 r4 => cases r4; exact ⟨_, _, rfl, r1, r3⟩
theorem call_max2 (hc : X.calm = true) : CallR X (.builtin "max") (fun xs H Q => ∃ i j, xs = [.int i, .int j] ∧ Q (.int (if j > i then j else i)) H) := by
  intro pins s σ H xs us Q I r h
  obtain ⟨i, j, rfl, q⟩ := h
  obtain ⟨u, w', rfl, ⟨t, rfl⟩, ⟨t', rfl⟩⟩ := vals2 r
  refine max_two_ints (I.ok.hd hc) fun h' tk k => ⟨_, H, I.kept k, ?_, q⟩
  by_cases hj : j > i
  · rw [if_pos hj, if_pos hj]; exact ⟨_, rfl⟩
  · rw [if_neg hj, if_neg hj]; exact ⟨_, rfl⟩
theorem call_str_int : CallR X (.type "str") (fun xs H Q => ∃ i, xs = [.int i] ∧ i.natAbs.log2 < 1920 ∧ Q (.str (toString i)) H) := by
  intro pins s σ H xs us Q I r h
  obtain ⟨i, rfl, hz, q⟩ := h
  obtain ⟨u, rfl, t, rfl⟩ := vals1 r
  exact PySem.P.str_of_int hz ⟨.str _, H, I.tok _, ⟨_, rfl⟩, q⟩
end
end L2

namespace L2
open PySem PySem.Spec PyProof.Rows

/-! ### an instance, its attributes a map -/
structure ObjM (h : Heap) (x dx C : Addr) (mA : Str → Option Value) : Prop where
  obj : h.get? x = some (PySem.W.instObj C dx)
  ns : h.Ns1 dx mA
  ne : dx ≠ x

theorem lookIn_ns {h : Heap} {dx : Addr} {mA : Str → Option Value} (n : h.Ns1 dx mA) : ∃ od, h.get? dx = some od ∧ ∀ name, PySem.W.lookIn name od = some (mA name) := by
  obtain ⟨o, es, ep, ho, hd, hk, _, hm⟩ := n
  refine ⟨o, ho, fun name => ?_⟩
  have e := hm name
  unfold nsFind findBy at e
  rw [← Array.find?_toList] at e
  unfold PySem.W.lookIn
  rw [hd]
  dsimp only
  split
  · rename_i y q
    rw [q] at e
    exact congrArg some e
  · rename_i q
    rw [q] at e
    have a : es.toList.any (·.refKey) = false := by
      rw [List.any_eq_false]
      intro y hy
      obtain ⟨z, t, hkey⟩ := hk y (Array.mem_toList_iff.mp hy)
      simp [DictEntry.refKey, hkey]
    have a' : ¬ es.toList.any (·.refKey) = true := by rw [a]; exact Bool.false_ne_true
    rw [if_neg a']
    exact congrArg some e

theorem ObjM.look {h : Heap} {x dx C : Addr} {mA : Str → Option Value} (I : ObjM h x dx C mA) : ∃ od, PySem.W.InstAt h x (PySem.W.instObj C dx) C (some od) ∧ ∀ name, PySem.W.lookIn name od = some (mA name) :=
  let ⟨od, ho, hl⟩ := lookIn_ns I.ns
  ⟨od, ⟨I.obj, rfl, rfl, ho⟩, hl⟩

section
variable {prog : Program} {w : World} {A : Around} {E : Value → Shared → Prop} {s : Shared} {K : PySem.W.Frag} {x dx C f : Addr} {mA : Str → Option Value} {name : Str} {v : Value}





end

/-! ### the attributes as a list of pairs -/

theorem RelO.some_of {v : V} {o : Option Value} (r : RelO (some v) o) : ∃ u, o = some u ∧ RelV v u := by
  cases o with
  | none => exact (show False from r).elim
  | some u => exact ⟨u, rfl, r⟩
theorem RelO.none_of {o : Option Value} (r : RelO none o) : o = none := by
  cases o with
  | none => rfl
  | some u => exact (show False from r).elim

section
variable {P : Program} {w : World} {H H' : Hp} {h h' : Heap} {a C dx : Addr} {fs fs' : List (Str × V)}
theorem ins_get (hok : HOk P w H h) (e : H a = some (.ins C dx fs)) : ∃ mA, ObjM h a dx C mA ∧ (∀ f, RelO (fs.lookup f) (mA f)) ∧ PySem.Within mA (fs.map (·.1)) ∧ fs.length ≤ 1000 ∧ H dx = some (.own a) := by
  obtain ⟨d, z, ne, ob, mA, n, r, q⟩ := (show ObjOk P w H h a (.ins C dx fs) from hok a _ e)
  exact ⟨mA, ⟨ob, n, ne⟩, r, q, z, d⟩
end

/-! ### what of the text a class must have -/
structure Cls (K : PySem.W.Frag) (C : Addr) : Prop where
  pg : PySem.W.plainGet K C Str.empty = true
  hd : PySem.W.hasDictIn K C = true
  po : PySem.W.plainOver K C = true
  sa : PySem.W.findIn K (.ref C) "__setattr__" = some (some (.builtin "object.__setattr__"))
theorem Cls.get {K : PySem.W.Frag} {C : Addr} (c : Cls K C) (f : Str) : PySem.W.plainGet K C f = true := c.pg
/-- a constant of the class -/
structure Con (K : PySem.W.Frag) (C : Addr) (f : Str) (v : V) (u : Value) : Prop where
  at_ : PySem.W.findIn K (.ref C) f = some (some u)
  rel : RelV v u
  get : PySem.W.specialIn K u "__get__" = some none
  cp : PySem.W.copiedNames.contains f = false
/-- a method: a plain def of the class or of one above it -/
structure Meth (K : PySem.W.Frag) (C : Addr) (m : Str) (f : Addr) : Prop where
  at_ : PySem.W.findIn K (.ref C) m = some (some (.ref f))
  fn : PySem.W.isFn K (.ref f) = true
  kp : PySem.W.keepIn K (.ref f) = true

section
variable {X : Cx} {pins : List (Addr × Obj)} {σ : St} {H : Hp} {s : Shared} {a C dx : Addr} {fs : List (Str × V)} {f : Str} {v : V} {A : Around} {E : Value → Shared → Prop}





/-- a new instance, tracked, without attributes -/
theorem Inv.made (I : Inv X pins σ H s) : Inv X pins σ (upd (upd H s.heap.objs.size (.own (s.heap.objs.size + 1))) (s.heap.objs.size + 1) (.ins C s.heap.objs.size []))
    { s with heap := (s.heap.push PySem.W.emptyDict).push (PySem.W.instObj C s.heap.objs.size) } := by
  have e1 : (s.heap.push PySem.W.emptyDict).get? s.heap.objs.size = some PySem.W.emptyDict := Heap.get?_push_size s.heap rfl
  have e2 : ((s.heap.push PySem.W.emptyDict).push (PySem.W.instObj C s.heap.objs.size)).get? (s.heap.objs.size + 1) = some (PySem.W.instObj C s.heap.objs.size) := by
    have := Heap.get?_push_size (s.heap.push PySem.W.emptyDict) (o := PySem.W.instObj C s.heap.objs.size) rfl
    rwa [Heap.size_push] at this
  have e3 : (s.heap.push PySem.W.emptyDict).Ns s.heap.objs.size (fun _ => none) := ⟨PySem.W.emptyDict, #[], _, e1, rfl, (fun e he => absurd he (by simp)), fun _ => rfl⟩
  have I1 := I.laid (a := s.heap.objs.size) (o := .own (s.heap.objs.size + 1)) (h' := s.heap.push PySem.W.emptyDict) (t' := s.toks) (fun b u q => Heap.get?_push_of_some _ q) (Nat.le_refl _) ⟨_, e1⟩
  refine I1.laid (a := s.heap.objs.size + 1) (o := .ins C s.heap.objs.size []) (t' := s.toks) (fun b u q => Heap.get?_push_of_some _ q) (Nat.le_of_eq (Heap.size_push _ _)) ?_
  have ne : s.heap.objs.size ≠ s.heap.objs.size + 1 := Nat.ne_of_lt (Nat.lt_succ_self _)
  refine ⟨by rw [upd_ne ne, upd_same], Nat.zero_le _, ne, e2, fun _ => none, (Heap.Ns1.of_empty e3).at fun o q => Heap.get?_push_of_some _ q, fun _ => True.intro, fun y hy => absurd rfl hy⟩

end

/-! ### readings and rules -/

section
variable {X : Cx} {o e value : Expr} {f : Str} {pos pos' tpos : Pos} {ta tv : TE}

end

/-! ### isinstance -/
section
variable {X : Cx} {pins : List (Addr × Obj)} {σ : St} {H : Hp} {s : Shared} {A : Around} {E : Value → Shared → Prop} {Q : Value → Shared → Prop} {c : Value} {b : Bool}
/-- the type of a value, as the fragment's deciders take it; for an instance its class -/
inductive TyOf (K : PySem.W.Frag) (H : Hp) : V → Value → Prop where
  | non : TyOf K H .non (.type "NoneType")
  | bl (x : Bool) : TyOf K H (.bl x) (.type "bool")
  | int (i : Int) : TyOf K H (.int i) (.type "int")
  | str (x : Str) : TyOf K H (.str x) (.type "str")
  | flt (x : UInt64) : TyOf K H (.flt x) (.type "float")
  | lst {a : Addr} {xs : List V} (e : H a = some (.lst xs)) : TyOf K H (.ref a) (.type "list")
  | frz {a : Addr} {o : Obj} {xs : List V} (e : H a = some (.frz o (.lst xs))) : TyOf K H (.ref a) (.type "list")
  | tup {a : Addr} {xs : List V} (e : H a = some (.tup xs)) : TyOf K H (.ref a) (.type "tuple")
  | dK {a : Addr} {kvs : List (Key × V)} (e : H a = some (.dK kvs)) : TyOf K H (.ref a) (.type "dict")
  | dT {a : Addr} {kvs : List (List Key × V)} (e : H a = some (.dT kvs)) : TyOf K H (.ref a) (.type "dict")
  | ins {a C dx : Addr} {fs : List (Str × V)} (e : H a = some (.ins C dx fs)) (cl : Cls K C) (ha : PySem.W.findIn K (.ref C) "__class__" = some (some (.builtin "object.__class__")))
      (hn : PySem.W.specialIn K (.builtin "object.__class__") "__get__" = some (some (.builtin "getset_descriptor.__get__"))) (htk : PySem.W.takesIn K (.builtin "object.__class__") = some true)
      (hm : PySem.W.mroIn K C (.type "object") = some true) : TyOf K H (.ref a) (.ref C)
/-- isinstance(x, c) for one class c, a built-in or an own one: kitOne's answer -/
theorem isinst_ok {x : V} {u t : Value} (I : Inv X pins σ H s) (rx : RelV x u) (ty : TyOf X.K H x t) (e : PySem.W.kitOne X.K t c = some b) (h : ∀ tk, Q (.bool b) { s with toks := tk }) :
    wpAny (model X.prog X.w) A (call (.builtin "isinstance") [u, c]) Q E s := by
  cases ty with
  | non => cases (show u = Value.none from rx); exact PySem.W.kia_one PySem.W.kitx_none I.kIn True.intro e (fun z => nomatch z) h
  | bl y => cases (show u = Value.bool y from rx); exact PySem.W.kia_one PySem.W.kitx_bool I.kIn True.intro e (fun z => nomatch z) h
  | int i => obtain ⟨t, q⟩ := (show ∃ t, u = Value.int i t from rx); cases q; exact PySem.W.kia_one PySem.W.kitx_int I.kIn True.intro e (fun z => nomatch z) h
  | str y => obtain ⟨t, q⟩ := (show ∃ t, u = Value.str y t from rx); cases q; exact PySem.W.kia_one PySem.W.kitx_str I.kIn True.intro e (fun z => nomatch z) h
  | flt y => obtain ⟨t, q⟩ := (show ∃ t, u = Value.float y t from rx); cases q; exact PySem.W.kia_one PySem.W.kitx_float I.kIn True.intro e (fun z => nomatch z) h
  | @lst a xs ea =>
    cases (show u = Value.ref a from rx)
    obtain ⟨_, _, n, _, h1⟩ := (show ObjOk X.prog X.w H s.heap a (.lst xs) from I.hok a _ ea)
    exact PySem.W.kia_one PySem.W.kitx_list I.kIn ⟨_, h1, rfl⟩ e (fun z => nomatch z) h
  | @frz a ob xs ea =>
    cases (show u = Value.ref a from rx)
    obtain ⟨_, _, _, n, _, h1⟩ := (show ObjOk X.prog X.w H s.heap a (.frz ob (.lst xs)) from I.hok a _ ea)
    exact PySem.W.kia_one PySem.W.kitx_list I.kIn ⟨_, h1, rfl⟩ e (fun z => nomatch z) h
  | @tup a xs ea =>
    cases (show u = Value.ref a from rx)
    obtain ⟨_, _, _, p⟩ := (show ObjOk X.prog X.w H s.heap a (.tup xs) from I.hok a _ ea)
    obtain ⟨o, h1, h2, _⟩ := p
    exact PySem.W.kia_one PySem.W.kitx_tuple I.kIn ⟨o, h1, h2⟩ e (fun z => nomatch z) h
  | @dK a kvs ea =>
    cases (show u = Value.ref a from rx)
    obtain ⟨_, _, vs, _, p⟩ := (show ObjOk X.prog X.w H s.heap a (.dK kvs) from I.hok a _ ea)
    obtain ⟨o, es, ep, h1, h2, _⟩ := p
    exact PySem.W.kia_one PySem.W.kitx_dict I.kIn ⟨o, h1, h2.1⟩ e (fun z => nomatch z) h
  | @dT a kvs ea =>
    cases (show u = Value.ref a from rx)
    obtain ⟨_, _, xs, _, o, es, ep, h1, h2, _⟩ := (show ObjOk X.prog X.w H s.heap a (.dT kvs) from I.hok a _ ea)
    exact PySem.W.kia_one PySem.W.kitx_dict I.kIn ⟨o, h1, h2.1⟩ e (fun z => nomatch z) h
  | @ins a C dx fs ea cl ha hn htk hm =>
    cases (show u = Value.ref a from rx)
    obtain ⟨mA, O, _⟩ := ins_get I.hok ea
    obtain ⟨od, J, _⟩ := O.look
    exact PySem.W.kia_one (PySem.W.kitx_own (cl.get _) cl.hd ha hn htk hm) I.kIn J e (fun z => nomatch z) h
end
end L2

namespace L2
open PySem PySem.Spec PyProof.Rows

/-! ### room -/
structure Room (k : Nat) (A : Around) : Prop where
  hd : A.handled = none
  dp : A.depth + 3 * k + 5 < recursionLimit
  un : A.units + 16 * k + 200 < cLine
theorem Room.mono {j k : Nat} {A : Around} (r : Room k A) (h : j ≤ k) : Room j A := ⟨r.hd, by have := r.dp; omega, by have := r.un; omega⟩
theorem Room.deeper {k : Nat} {A : Around} (r : Room (k + 1) A) (env : Env) : Room k (A.deeper env) :=
  ⟨r.hd, by have := r.dp; show A.depth + 1 + 3 * k + 5 < _; omega, by have := r.un; show A.units + 3 + 16 * k + 200 < _; omega⟩
theorem Room.in1 {k : Nat} {A : Around} (r : Room (k + 1) A) : Room k A.in1 :=
  ⟨r.hd, by have := r.dp; show A.depth + 3 * k + 5 < _; omega, by have := r.un; show A.units + 1 + 16 * k + 200 < _; omega⟩
theorem make_depth {A : Around} {C : Addr} {us : List Value} {kw : List (Str × Value)} : (A.under (.builtin "type.__call__" ⟨.ref C :: us, kw⟩)).depth = A.depth + 1 := by
  first | rfl | simp [Around.under, Code.weight, Code.isCreation, Code.isGuard, Code.isCaller, Code.frames, Code.isFrame, guardIds]
theorem make_units {A : Around} {C : Addr} {us : List Value} {kw : List (Str × Value)} : (A.under (.builtin "type.__call__" ⟨.ref C :: us, kw⟩)).units = A.units + 1 := by
  first | rfl | simp [Around.under, Code.cUnits, Code.frames, Code.isFrame]
theorem Room.make {k : Nat} {A : Around} (r : Room (k + 1) A) (C : Addr) (us : List Value) (kw : List (Str × Value)) : Room k (A.under (.builtin "type.__call__" ⟨.ref C :: us, kw⟩)) :=
  ⟨r.hd, by have := r.dp; rw [make_depth]; omega, by have := r.un; rw [make_units]; omega⟩
theorem Room.depth {k : Nat} {A : Around} (r : Room k A) : A.depth < recursionLimit := by have := r.dp; omega
theorem Room.units {k : Nat} {A : Around} (r : Room k A) : A.units + 64 < cLine := by have := r.un; omega

/-! ### argument lists and displays -/
def tNil : TA := fun _ H Q => Q [] H
def tCons (ta : TE) (tr : TA) : TA := fun σ H Q => ta σ H fun x H1 => tr σ H1 fun xs H2 => Q (x :: xs) H2
section
variable {X : Cx} {e : Expr} {es : List Expr} {te : TE} {t : TA} {pos : Pos}
theorem pa_nil : PA X [] tNil := fun _ _ _ _ H Q I h => Calls.spliced_nil ⟨[], H, I, .nil, h⟩
theorem pa_cons (ha : PE X e te) (hr : PA X es t) (hs : starEach (e :: es) X.env = (false, eval e X.env) :: starEach es X.env := by rfl) : PA X (e :: es) (tCons te t) := by
  intro pos pins s σ H Q I h
  rw [hs]
  show wpAny _ _ (spliced ((false, eval e X.env) :: backTo pos (starEach es X.env))) _ _ s
  refine Calls.spliced_cons (thn (ha pins s σ H _ I h) fun u s1 ⟨x, H1, I1, r1, q1⟩ => ?_)
  exact thn (hr pos pins s1 σ H1 _ I1 q1) fun us s2 ⟨xs, H2, I2, r2, q2⟩ => ⟨x :: xs, H2, I2, .cons r1 r2, q2⟩

/-- a tuple, a list of written items -/
def tTup (t : TA) : TE := fun σ H Q => t σ H fun xs H1 => xs.length ≤ sizeLine ∧ ∀ p, H1 p = none → Q (.ref p) (upd H1 p (.tup xs))
def tLst (t : TA) : TE := fun σ H Q => t σ H fun xs H1 => xs.length ≤ sizeLine ∧ ∀ p, H1 p = none → Q (.ref p) (upd H1 p (.lst xs))
theorem pe_tup {x1} (h : PA X es t) : PE X (.Tuple es x1 pos) (tTup t) := by
  intro pins s σ H Q I hq
  refine wpAny_Tuple_spliced (thn (h pos pins s σ H _ I hq) fun us s1 ⟨xs, H1, I1, r, z, q⟩ => ⟨by rw [← r.length]; exact z, ?_⟩)
  have hf : H1 s1.heap.objs.size = none := I1.hok.fresh (Nat.le_refl _)
  refine ⟨.ref s1.heap.objs.size, upd H1 s1.heap.objs.size (.tup xs), I1.laid (t' := s1.toks) (fun b u e => Heap.get?_push_of_some _ e) (Nat.le_refl _) ?_, rfl, q _ hf⟩
  exact ⟨z, us, r, ⟨_, Heap.get?_push_size _ rfl, rfl, _, rfl⟩⟩
theorem pe_lst (h : PA X es t) : PE X (.List es pos) (tLst t) := by
  intro pins s σ H Q I hq
  refine wpAny_List_spliced (thn (h pos pins s σ H _ I hq) fun us s1 ⟨xs, H1, I1, r, z, q⟩ => ⟨by rw [← r.length]; exact z, ?_⟩)
  have hf : H1 s1.heap.objs.size = none := I1.hok.fresh (Nat.le_refl _)
  refine ⟨.ref s1.heap.objs.size, upd H1 s1.heap.objs.size (.lst xs), I1.laid (t' := s1.toks) (fun b u e => Heap.get?_push_of_some _ e) (Nat.le_refl _) ?_, rfl, q _ hf⟩
  exact ⟨z, us, 0, r, Heap.get?_push_size _ rfl⟩
end

/-! ### what a def promises -/
/-- a def's promise: the bound arguments in the parameters' order, the heap, the wanted end, the wanted exception -/
abbrev Sp := List V → Hp → VK → XK → Prop
/-- how an exception lies behind a call (file 08 gives it): the callers' frames, abstract heap and state ahead of the call, the wish, the exception, the state -/
abbrev CXT := List Env → Hp → Shared → XK → Value → Shared → Prop

/-- the state at a call -/
structure Env0 (P : Program) (w : World) (K : PySem.W.Frag) (mg : Str → Option Value) (base : Heap) (A : Around) (outer : List Env) (s : Shared) (H : Hp) : Prop where
  frames : A.frames = some outer
  mod : Mod K mg base
  bs : ∀ b o, base.get? b = some o → s.heap.get? b = some o ∧ H b = none
  bsz : base.objs.size ≤ s.heap.objs.size
  funs : s.heap.FunFrames base outer
  frf : ∀ b ∈ frs outer, H b = none
  hok : HOk P w H s.heap
  bare : AllBare s.gens
/-- a call's end -/
def CE (outer : List Env) (P : Program) (w : World) (H : Hp) (s : Shared) (Q : VK) (u : Value) (s' : Shared) : Prop :=
  ∃ v H', s'.os = s.os ∧ AllBare s'.gens ∧ Un (frs outer) [] H H' s.heap s'.heap ∧ HOk P w H' s'.heap ∧ RelV v u ∧ Q v H'
def CR (CX : CXT) (outer : List Env) (P : Program) (w : World) (H : Hp) (s : Shared) (Q : VK) (E : XK) (r : Result) (s' : Shared) : Prop :=
  match r with
  | .ok (.ret u) => CE outer P w H s Q u s'
  | .ok _ => False
  | .error e => CX outer H s E e s'
structure FnOk (P : Program) (w : World) (K : PySem.W.Frag) (mg : Str → Option Value) (base : Heap) (CX : CXT) (k : Nat) (f : Addr) (fd : FuncData) (ps : List Str) (sp : Sp) : Prop where
  len : ∀ vs H Q E, sp vs H Q E → vs.length = ps.length
  run : ∀ (A : Around) (outer : List Env) (s : Shared) (H : Hp) (args : Args) (us : List Value) (vs : List V) (Q : VK) (E : XK), Room k A → Env0 P w K mg base A outer s H → BindsTo s fd args (ps.zip us) → Vals vs us → sp vs H Q E →
    codeAny (model P w) A (.call (.ref f) args) (CR CX outer P w H s Q E) s
theorem FnOk.mono {P : Program} {w : World} {K : PySem.W.Frag} {mg : Str → Option Value} {base : Heap} {CX : CXT} {j k : Nat} {f : Addr} {fd : FuncData} {ps : List Str} {sp : Sp} (F : FnOk P w K mg base CX j f fd ps sp) (h : j ≤ k) :
    FnOk P w K mg base CX k f fd ps sp := ⟨F.len, fun A outer s H args us vs Q E hr => F.run A outer s H args us vs Q E (hr.mono h)⟩
/-- a weaker promise -/
theorem FnOk.imp {P : Program} {w : World} {K : PySem.W.Frag} {mg : Str → Option Value} {base : Heap} {CX : CXT} {k : Nat} {f : Addr} {fd : FuncData} {ps : List Str} {sp sp' : Sp} (F : FnOk P w K mg base CX k f fd ps sp)
    (h : ∀ vs H Q E, sp' vs H Q E → sp vs H Q E) : FnOk P w K mg base CX k f fd ps sp' :=
  ⟨fun vs H Q E q => F.len vs H Q E (h _ _ _ _ q), fun A outer s H args us vs Q E hr he hb hv hs => F.run A outer s H args us vs Q E hr he hb hv (h _ _ _ _ hs)⟩

theorem Env0.make {P : Program} {w : World} {K : PySem.W.Frag} {mg : Str → Option Value} {base : Heap} {A : Around} {outer : List Env} {s : Shared} {H : Hp} (e : Env0 P w K mg base A outer s H) (C : Addr) (us : List Value) (kw : List (Str × Value)) :
    Env0 P w K mg base (A.under (.builtin "type.__call__" ⟨.ref C :: us, kw⟩)) outer s H := ⟨by first | exact e.frames | (simpa [Around.under, Code.envs, Code.isFrame, pushEnvs] using e.frames), e.mod, e.bs, e.bsz, e.funs, e.frf, e.hok, e.bare⟩
theorem Env0.in1 {P : Program} {w : World} {K : PySem.W.Frag} {mg : Str → Option Value} {base : Heap} {A : Around} {outer : List Env} {s : Shared} {H : Hp} (e : Env0 P w K mg base A outer s H) :
    Env0 P w K mg base A.in1 outer s H := ⟨e.frames, e.mod, e.bs, e.bsz, e.funs, e.frf, e.hok, e.bare⟩

section
variable {X : Cx} {pins : List (Addr × Obj)} {σ : St} {H : Hp} {s s' : Shared}
/-- from a body: what a callee wants -/
theorem Inv.env0 (I : Inv X pins σ H s) : Env0 X.prog X.w X.K X.mg X.base X.A X.stack s H :=
  ⟨I.ok.frames, I.ok.mod, I.bs, Nat.le_trans I.ok.bsz I.sz, I.stack, I.stkFree, I.hok, I.bare⟩
/-- behind a call -/
theorem Inv.after {Q : VK} {u : Value} (I : Inv X pins σ H s) (h : CE X.stack X.prog X.w H s Q u s') : EP X pins σ Q u s' := by
  obtain ⟨v, H', os, bare, un, hok, r, q⟩ := h
  obtain ⟨hh, g, d, t, os'⟩ := s'
  obtain rfl : os' = s.os := os
  exact ⟨v, H', I.call (h' := hh) (g' := g) (d' := d) (t' := t) (ch := []) un hok bare (fun b z => absurd z (by simp)), r, q⟩
end

/-! ### calls -/
/-- f(..): the written arguments, then the defaults dvs; E: what is wanted of an exception -/
def tCall (sp : Sp) (dvs : List V) (E : XK) (t : TA) : TE := fun σ H Q => t σ H fun vs H1 => sp (vs ++ dvs) H1 Q E

/-- how the parameters are bound: us the positional arguments, kw the keywords' values by name, ds the defaults that fill up -/
def Binds (K : PySem.W.Frag) (fd : FuncData) (ps : List Str) (ds : List Value) : Prop :=
  ∀ (s : Shared) (us : List Value), K.In s.heap → (us ++ ds).length = ps.length → BindsTo s fd ⟨us, []⟩ (ps.zip (us ++ ds))
/-- every parameter is given -/
theorem Binds.all {K : PySem.W.Frag} {fd : FuncData} {ps : List Str} (h : ∀ us : List Value, us.length = ps.length → bindArgs fd ⟨us, []⟩ = pure (ps.zip us)) : Binds K fd ps [] := fun s us _ hl => by
  rw [List.append_nil] at hl ⊢
  exact .of_eq (h us hl)

/-- an exception of a callee reaches what this body wants of exceptions -/
def Passes (CX : CXT) (X : Cx) (E : XK) : Prop := ∀ (pins : List (Addr × Obj)) (σ : St) (H : Hp) (s : Shared) (e : Value) (s' : Shared), Inv X pins σ H s → CX X.stack H s E e s' → X.xe e s'

section
variable {X : Cx} {CX : CXT} {k : Nat} {f C : Addr} {fd : FuncData} {ps : List Str} {sp : Sp} {dvs : List V} {ds : List Value} {E : XK} {x m : Str} {p pos apos : Pos} {e o : Expr} {es : List Expr} {ta : TE} {t : TA}

/-- the callee runs -/
theorem run_fn {pins : List (Addr × Obj)} {σ : St} {H : Hp} {s : Shared} {Q : VK} {us : List Value} {vs : List V} (F : FnOk X.prog X.w X.K X.mg X.base CX k f fd ps sp) (hr : Room k X.A) (hb : Binds X.K fd ps ds) (hd : Vals dvs ds) (hx : Passes CX X E)
    (I : Inv X pins σ H s) (r : Vals vs us) (h : sp (vs ++ dvs) H Q E) : wpAny (model X.prog X.w) X.A (call (.ref f) us) (EP X pins σ Q) X.xe s := by
  have r2 : Vals (vs ++ dvs) (us ++ ds) := r.append hd
  have hl : (us ++ ds).length = ps.length := by rw [← r2.length]; exact F.len _ _ _ _ h
  refine wpAny_call (codeAny_mono (F.run X.A X.stack s H ⟨us, []⟩ (us ++ ds) (vs ++ dvs) Q E hr I.env0 (hb s us I.kIn hl) r2 h) fun r s' hq => ?_)
  cases r with
  | error e => exact hx pins σ H s e s' I hq
  | ok fl =>
    cases fl with
    | ret u => exact I.after hq
    | next => exact False.elim hq
    | brk => exact False.elim hq
    | cont => exact False.elim hq

theorem pe_call (F : FnOk X.prog X.w X.K X.mg X.base CX k f fd ps sp) (hr : Room k X.A) (hg : Gl X x) (hm : X.mg x = some (.ref f)) (hk : PySem.W.keepIn X.K (.ref f) = true) (hb : Binds X.K fd ps ds) (hd : Vals dvs ds) (hx : Passes CX X E)
    (ha : PA X (e :: es) t) (hdb : (x == ("__debug__" : Str)) = false := by decide) (he : starEach (e :: es) X.env = (false, eval e X.env) :: starEach es X.env := by rfl) (hpl : (backTo pos (starEach es X.env)).any (·.1) = false := by rfl) :
    PE X (.Call (.Name x p) (e :: es) [] pos) (tCall sp dvs E t) := by
  intro pins s σ H Q I h
  refine wpAny_Call_Name_kw (ld_glob I hg hm ?_ hdb)
  refine PySem.W.callWith_K (h₀ := X.base) I.ok.mod.kin hk (thn (ha pos pins s σ H _ I h) fun us s1 ⟨vs, H1, I1, r, q⟩ => ⟨I1.kIn, ?_⟩) he hpl
  exact run_fn F hr hb hd hx I1 r q


/-- what a class must have to be made -/
structure Mk (K : PySem.W.Frag) (C f : Addr) : Prop where
  makes : PySem.W.makesIn K C = true
  init : PySem.W.findIn K (.ref C) "__init__" = some (some (.ref f))
  fn : PySem.W.isFn K (.ref f) = true
  kp : PySem.W.keepIn K (.ref C) = true

end

/-! ### keywords -/
section
variable {X : Cx} {CX : CXT} {k : Nat} {f C : Addr} {fd : FuncData} {ps ks : List Str} {sp : Sp} {E : XK} {x m : Str} {p pos apos kpos : Pos} {e o : Expr} {es : List Expr} {kws : List Keyword} {te ta : TE} {t tk : TA} {nm : Option Str}

/-- how a call with keywords binds: g puts the positional values us and the keywords' values ws (names ks) in the parameters' order, defaults among them -/
structure KBinds (K : PySem.W.Frag) (fd : FuncData) (ps ks : List Str) (g : List Value → List Value → List Value) (gV : List V → List V → List V) : Prop where
  to : ∀ (s : Shared) (us ws : List Value), K.In s.heap → (g us ws).length = ps.length → BindsTo s fd ⟨us, ks.zip ws⟩ (ps.zip (g us ws))
  rel : ∀ {vs : List V} {us : List Value} {zs : List V} {ws : List Value}, Vals vs us → Vals zs ws → Vals (gV vs zs) (g us ws)
variable {g : List Value → List Value → List Value} {gV : List V → List V → List V}
end

/-! ### a def's body keeps its promise -/
/-- names: the parameters first -/
structure FnScope (N P : List Str) (sc : Scope) : Prop where
  kind : sc.kind = .function
  co : sc.isCoroutine = false
  gen : sc.isGenerator = false
  nd : N.Nodup
  pre : N.take P.length = P
  par : ∀ x ∈ P, sc.names.lookup x = some .local ∨ sc.names.lookup x = some .cell
  nofree : ∀ y ∈ sc.names, y.2 ≠ .free

theorem bindL_out {kindOf : Str → Option NameKind} {x : Str} : ∀ {binds : List (Str × Value)} {m : Str → Option Value}, (∀ v, (x, v) ∉ binds) → bindL kindOf binds m x = m x
  | [], _, _ => rfl
  | (n, v) :: r, m, h => by
    unfold bindL
    rw [bindL_out fun w hw => h w (List.mem_cons_of_mem _ hw)]
    split
    · have : x ≠ n := by rintro rfl; exact h v List.mem_cons_self
      simp [this]
    · rfl
theorem bindC_out {kindOf : Str → Option NameKind} {x : Str} : ∀ {binds : List (Str × Value)} {m : Str → Option Value}, (∀ v, (x, v) ∉ binds) → bindC kindOf binds m x = m x
  | [], _, _ => rfl
  | (n, v) :: r, m, h => by
    unfold bindC
    rw [bindC_out fun w hw => h w (List.mem_cons_of_mem _ hw)]
    split
    · rfl
    · have : x ≠ n := by rintro rfl; exact h v List.mem_cons_self
      simp [this]
theorem bindL_get {kindOf : Str → Option NameKind} {x : Str} {v : Value} : ∀ {P : List Str} {vs : List Value} {i : Nat} {m : Str → Option Value}, P.Nodup → P[i]? = some x → vs[i]? = some v → kindOf x = some .local →
    bindL kindOf (P.zip vs) m x = some v
  | [], _, _, _, _, h, _, _ => by simp at h
  | _ :: _, [], _, _, _, _, h, _ => by simp at h
  | p :: P, w :: vs, 0, m, nd, h1, h2, hk => by
    simp at h1 h2; subst h1; subst h2
    show bindL kindOf ((p, w) :: P.zip vs) m p = _
    unfold bindL
    rw [bindL_out fun v hv => (List.nodup_cons.mp nd).1 (List.of_mem_zip hv).1, if_pos hk]
    simp
  | p :: P, w :: vs, i + 1, m, nd, h1, h2, hk => by
    show bindL kindOf ((p, w) :: P.zip vs) m x = _
    unfold bindL
    exact bindL_get (i := i) (List.nodup_cons.mp nd).2 (by simpa using h1) (by simpa using h2) hk
theorem bindC_get {kindOf : Str → Option NameKind} {x : Str} {v : Value} : ∀ {P : List Str} {vs : List Value} {i : Nat} {m : Str → Option Value}, P.Nodup → P[i]? = some x → vs[i]? = some v → kindOf x ≠ some .local →
    bindC kindOf (P.zip vs) m x = some v
  | [], _, _, _, _, h, _, _ => by simp at h
  | _ :: _, [], _, _, _, _, h, _ => by simp at h
  | p :: P, w :: vs, 0, m, nd, h1, h2, hk => by
    simp at h1 h2; subst h1; subst h2
    show bindC kindOf ((p, w) :: P.zip vs) m p = _
    unfold bindC
    rw [bindC_out fun v hv => (List.nodup_cons.mp nd).1 (List.of_mem_zip hv).1, if_neg hk]
    simp
  | p :: P, w :: vs, i + 1, m, nd, h1, h2, hk => by
    show bindC kindOf ((p, w) :: P.zip vs) m x = _
    unfold bindC
    exact bindC_get (i := i) (List.nodup_cons.mp nd).2 (by simpa using h1) (by simpa using h2) hk

/-- the names' values at the entry -/
def start (N : List Str) (vs : List V) : St := vs.map some ++ List.replicate (N.length - vs.length) none

/-- the context of a def's body, at its entry; an exception leaves the frame, then lies as CX says -/
def cxOf (CX : CXT) (P : Program) (w : World) (K : PySem.W.Frag) (mg : Str → Option Value) (base : Heap) (N : List Str) (qual : Str) (scope : Scope) (f : Addr) (cd : Value) (A : Around) (outer : List Env) (s : Shared) (H : Hp) (E : XK) : Cx where
  prog := P
  w := w
  K := K
  mg := mg
  base := base
  A := A.deeper (envOfC qual scope s.heap.objs.size f cd)
  N := N
  s₀ := s
  H₀ := H
  env := envOfC qual scope s.heap.objs.size f cd
  outer := outer
  stack := envOfC qual scope s.heap.objs.size f cd :: outer
  ex := []
  calm := true
  fn := fun _ => true
  pn := []
  xe := fun e s' => wpAny (model P w) (A.deeper (envOfC qual scope s.heap.objs.size f cd)) (leaving (envOfC qual scope s.heap.objs.size f cd) e) (fun _ s'' => CX outer H s E e s'') (fun e' s'' => CX outer H s E e' s'') s'

theorem cell_has {sc : Scope} {n : Nat} {x : Str} (h : sc.names.lookup x = some .cell) : ∃ c, (cellsFrom n sc.names []).lookup x = some c := by
  have q := PySem.W.cellsFrom_some sc.names n [] (.inl h)
  exact Option.isSome_iff_exists.mp q

theorem inv_start {CX : CXT} {P : Program} {w : World} {K : PySem.W.Frag} {mg : Str → Option Value} {base : Heap} {N ps : List Str} {qual : Str} {scope : Scope} {f : Addr} {cd : Value} {A : Around} {outer : List Env} {s s1 : Shared} {H : Hp} {E : XK} {us : List Value} {vs : List V}
    (S : FnScope N ps scope) (hd : A.handled = none) (e0 : Env0 P w K mg base A outer s H) (hl : vs.length = ps.length) (r : Vals vs us)
    (x : InCallC s s.heap.objs.size (bindL (envOfC qual scope s.heap.objs.size f cd).kindOf (ps.zip us) fun _ => none) (cellsFrom (s.heap.objs.size + 1) scope.names []) (bindC (envOfC qual scope s.heap.objs.size f cd).kindOf (ps.zip us) fun _ => none) s1) :
    Inv (cxOf CX P w K mg base N qual scope f cd A outer s H E) [] (start N vs) H s1 := by
  have hpl : ps.length ≤ N.length := by have := congrArg List.length S.pre; rw [List.length_take] at this; omega
  obtain ⟨h1, tk, rfl, hk⟩ := x.done
  have noA : ∀ b : Addr, b ∉ (cxOf CX P w K mg base N qual scope f cd A outer s H E).ex := fun b z => absurd (show b ∈ ([] : List Addr) from z) (by simp)
  refine ⟨⟨e0.mod, S.kind, rfl, rfl, Nat.le_refl _, fun y z c h1 h2 => ?_, fun y hy => ?_, fun y c _ h => ?_, fun _ => hd, Around.frames_deeper e0.frames, .inr ⟨rfl, rfl⟩, fun b z => absurd z (noA b), e0.bs, e0.bsz, fun b _ _ => noA b, fun b z => absurd z (noA b), e0.funs, e0.frf⟩,
    rfl, e0.bare, Un.kept hk, ⟨_, x.toInCall.ns, fun i y v h1 h2 h3 => ?_⟩, fun y c h => ⟨_, x.cell y c h⟩, e0.hok.fresh (Nat.le_refl _), fun y c h => ?_, fun p hp => absurd (show p ∈ ([] : List (Addr × Obj)) from hp) (by simp), e0.hok.kept hk, ?_⟩
  · exact name_of_addr x.apart (PySem.mem_of_lookup h1) (PySem.mem_of_lookup h2)
  · have hy : scope.names.lookup y = some .cell ∨ scope.names.lookup y = some .free := hy
    rcases hy with hy | hy
    · exact cell_has hy
    · exact absurd rfl (S.nofree _ (PySem.mem_of_lookup hy))
  · exact Nat.le_of_lt (x.above y c (PySem.mem_of_lookup h))
  · have hi : i < vs.length := by
      unfold start at h2
      by_cases hi : i < vs.length
      · exact hi
      · rw [List.getElem?_append_right (by simpa using hi)] at h2
        rw [List.getElem?_replicate] at h2
        split at h2 <;> cases h2
    have ha : vs[i]? = some v := by
      unfold start at h2
      rw [List.getElem?_append_left (by simpa using hi), List.getElem?_map] at h2
      cases e : vs[i]? with
      | none => rw [e] at h2; cases h2
      | some a => rw [e] at h2; cases h2; rfl
    obtain ⟨u, hu, rv⟩ := r.get ha
    have hp : ps[i]? = some y := by
      rw [← S.pre, List.getElem?_take_of_lt (by omega)]; exact h1
    have ndP : ps.Nodup := by rw [← S.pre]; exact S.nd.sublist (List.take_sublist _ _)
    refine ⟨u, rv, ?_⟩
    rcases S.par y (List.mem_of_getElem? hp) with k | k
    · exact .inl ⟨k, bindL_get ndP hp hu k⟩
    · obtain ⟨c, e⟩ := cell_has (n := s.heap.objs.size + 1) k
      refine .inr ⟨.inl k, c, e, ?_⟩
      have q := x.cell y c e
      rw [bindC_get ndP hp hu (by show scope.names.lookup y ≠ _; rw [k]; decide)] at q
      exact q
  · exact e0.hok.fresh (Nat.le_of_lt (x.above y c (PySem.mem_of_lookup h)))
  · unfold start
    show _ = N.length
    rw [List.length_append, List.length_map, List.length_replicate]
    omega

/-- THE RULE: a def (or a method) of the text, by its body. The body's reading t is chosen for each entry; it is run at the parameters' values -/
theorem fn_of {CX : CXT} {P : Program} {w : World} {K : PySem.W.Frag} {mg : Str → Option Value} {base : Heap} {k : Nat} {f : Addr} {name qual : Str} {params : Arguments} {body : List Stmt} {scope : Scope} {dV kV doc pm cdv ct oc : Value} {an od : Option Addr}
    {osl : Array (Option Value)} {N ps : List Str} {sp : Sp} (lk : K.lookup f = some ⟨oc, od, .func (PySem.W.fnOf name qual params body scope dV kV doc pm an cdv ct), osl⟩) (hcd : PySem.W.codeIn K cdv qual = true) (S : FnScope N ps scope)
    (len : ∀ vs H Q E, sp vs H Q E → vs.length = ps.length)
    (hbody : ∀ (A : Around) (outer : List Env) (s : Shared) (H : Hp) (vs : List V) (Q : VK) (E : XK), Room k (A.deeper (envOfC qual scope s.heap.objs.size f cdv)) → sp vs H Q E →
      ∃ t, PSs (cxOf CX P w K mg base N qual scope f cdv A outer s H E) body t ∧ t { nx := fun _ H' => Q .non H', rt := Q } (start N vs) H) :
    FnOk P w K mg base CX (k + 1) f (PySem.W.fnOf name qual params body scope dV kV doc pm an cdv ct) ps sp := by
  refine ⟨len, fun A outer s H args us vs Q E hr e0 hb r hsp => ?_⟩
  have hl := len _ _ _ _ hsp
  have KX : K.In s.heap := e0.mod.kin.keeps fun b o e => (e0.bs b o e).1
  have lim : s.heap.NoLimit := e0.mod.nolimit.keeps fun b o e => (e0.bs b o e).1
  have hkind : ∀ y ∈ ps.zip us, scope.names.lookup y.1 = some .local ∨ (scope.names.lookup y.1 = some .cell ∧ ((cellsFrom (s.heap.objs.size + 1) scope.names []).lookup y.1).isSome = true) := fun ⟨n, v⟩ hy => by
    rcases S.par n (List.of_mem_zip hy).1 with q | q
    · exact .inl q
    · exact .inr ⟨q, PySem.W.cellsFrom_some _ _ _ (.inl q)⟩
  refine codeAny_call_function hr.depth (KX _ _ lk) rfl S.co S.gen rfl (PySem.W.codeRec_of KX hcd) (hb _ _ _ _ ?_)
  refine wpAny_newFunctionEnv_cells S.kind hkind fun env he s1 x => ?_
  subst he
  refine ⟨lim.keeps x.toInCall.keep, codeAny_func ?_⟩
  obtain ⟨t, ht, hq⟩ := hbody A outer s H vs Q E (hr.deeper _) hsp
  have I : Inv (cxOf CX P w K mg base N qual scope f cdv A outer s H E) [] (start N vs) H s1 := inv_start S hr.hd e0 hl r x
  refine wpAny_mono (ht [] s1 (start N vs) H _ I hq) (fun fl s' hs => ?_) fun e s' hs => hs
  have fin : ∀ {σ' : St} {H' : Hp} {v : V} {u : Value}, Inv (cxOf CX P w K mg base N qual scope f cdv A outer s H E) [] σ' H' s' → RelV v u → Q v H' → CE outer P w H s Q u s' :=
    fun {σ' H' v u} J rv q => ⟨v, H', J.os, J.bare, J.base, J.hok, rv, q⟩
  cases fl with
  | ret u =>
    obtain ⟨v, σ', H', J, rv, q⟩ := hs
    exact fin J rv q
  | next =>
    obtain ⟨σ', H', J, q⟩ := hs
    exact fin (v := V.non) (u := Value.none) J rfl q
  | brk =>
    obtain ⟨_, _, _, q⟩ := hs
    exact False.elim q
  | cont =>
    obtain ⟨_, _, _, q⟩ := hs
    exact False.elim q
end L2

namespace L2
open PySem PySem.Spec PyProof.Rows
section
variable {X : Cx} {x : Str} {p pos : Pos} {e : Expr} {es : List Expr} {t : TA} {id T : String} {r : List V → Hp → VK → Prop}

def tCB (r : List V → Hp → VK → Prop) (t : TA) : TE := fun σ H Q => t σ H fun vs H1 => r vs H1 Q
/-- f(e, ..), f a built-in function -/
theorem pe_callB (hc : CallR X (.builtin id) r) (hg : Gl X x) (hm : X.mg x = none) (hv : bootBuiltins x = some (.builtin id)) (ha : PA X (e :: es) t) (hn : x ≠ "__name__" := by decide) (hdb : (x == ("__debug__" : Str)) = false := by decide)
    (he : starEach (e :: es) X.env = (false, eval e X.env) :: starEach es X.env := by rfl) (hpl : (backTo pos (starEach es X.env)).any (·.1) = false := by rfl) : PE X (.Call (.Name x p) (e :: es) [] pos) (tCB r t) := by
  intro pins s σ H Q I h
  refine wpAny_Call_Name_kw (ld_blt I hg hm hv ?_ hn hdb)
  exact PyProof.Rows.callWith_builtin1 (thn (ha pos pins s σ H _ I h) fun us s1 ⟨vs, H1, I1, r1, q1⟩ => hc pins s1 σ H1 vs us Q I1 r1 q1) he hpl
/-- T(e, ..), T a built-in type -/
theorem pe_callTy (hc : CallR X (.type T) r) (hg : Gl X x) (hm : X.mg x = none) (hv : bootBuiltins x = some (.type T)) (ha : PA X (e :: es) t) (hn : x ≠ "__name__" := by decide) (hdb : (x == ("__debug__" : Str)) = false := by decide)
    (he : starEach (e :: es) X.env = (false, eval e X.env) :: starEach es X.env := by rfl) (hpl : (backTo pos (starEach es X.env)).any (·.1) = false := by rfl) : PE X (.Call (.Name x p) (e :: es) [] pos) (tCB r t) := by
  intro pins s σ H Q I h
  refine wpAny_Call_Name_kw (ld_blt I hg hm hv ?_ hn hdb)
  exact PyProof.Rows.callWith_type1 (thn (ha pos pins s σ H _ I h) fun us s1 ⟨vs, H1, I1, r1, q1⟩ => hc pins s1 σ H1 vs us Q I1 r1 q1) he hpl
end
end L2

namespace HT
open PySem PyProof.Rows



section
open PySem.SeqAt
open PySem.AutoSeq1 (wpAny_loadPart')
open PySem.MeetsSeq PySem.MeetsSeq2 PySem.MeetsSeq3

end

section
variable {prog : Program} {w : World} {A : Around} {E : Value → Shared → Prop} {s : Shared}



/-! ### t[a:b], not the whole -/
/-- a slice's bound as a place among n (d where it is left out) -/
def sIx (n d : Nat) : Option Int → Nat
  | none => d
  | some v => if v < 0 then (v + (n : Int)).toNat else min v.toNat n

end
end HT

namespace L2
open PySem PySem.Spec PyProof.Rows

/-! ### the parts of a slice -/
abbrev TO := St → Hp → (Option Int → Hp → Prop) → Prop
/-- a slice's part (left out, or an int) -/
def PO (X : Cx) (e : Option Expr) (t : TO) : Prop :=
  ∀ (pins : List (Addr × Obj)) (s : Shared) (σ : St) (H : Hp) (Q : Option Int → Hp → Prop), Inv X pins σ H s → t σ H Q →
    wpAny (model X.prog X.w) X.A (evalPart e X.env) (fun u s' => ∃ o H', Inv X pins σ H' s' ∧ IsPart u o ∧ Q o H') X.xe s
def tNoPart : TO := fun _ H Q => Q none H
def tPart (t : TE) : TO := fun σ H Q => t σ H fun x H1 => ∃ i, x = .int i ∧ Q (some i) H1

theorem intsAre_of {ns : List Int} : ∀ {us : List Value}, Vals (ns.map V.int) us → IntsAre us ns := by
  induction ns with
  | nil => intro us r; rw [List.map_nil] at r; cases r; exact .nil
  | cons n ns ih =>
    intro us r
    rw [List.map_cons] at r
    cases r with
    | cons r1 r2 =>
      obtain ⟨t, e⟩ := r1
      subst e
      exact .cons n t (ih r2)

section
variable {X : Cx} {e : Expr} {te : TE} {lo hi : Option Expr} {tl th : TO} {pos p2 : Pos}

theorem po_none : PO X none tNoPart := by
  intro pins s σ H Q I h
  rw [evalPart_none]
  exact wpAny_pure ⟨none, H, I, .none, h⟩
theorem po_some (h : PE X e te) : PO X (some e) (tPart te) := by
  intro pins s σ H Q I hw
  rw [evalPart_some]
  refine thn (h pins s σ H _ I hw) fun u s1 ⟨x, H1, I1, r1, q1⟩ => ?_
  obtain ⟨i, rfl, q⟩ := q1
  obtain ⟨t, rfl⟩ := r1
  exact ⟨some i, H1, I1, .int i t, q⟩

/-- what a slice of a value is, by values: the slice object stands at sl -/
def SlR (X : Cx) (r : V → Option Int → Option Int → Hp → VK → Prop) : Prop :=
  ∀ (pins : List (Addr × Obj)) (s : Shared) (σ : St) (H : Hp) (x : V) (v vl vu : Value) (lo hi : Option Int) (sl : Addr) (Q : VK), Inv X pins σ H s → RelV x v → s.heap.IsSliceOf sl vl vu .none → IsPart vl lo → IsPart vu hi → r x lo hi H Q →
    ∃ T id, typeLookup (.type T) "__getitem__" = pure (some (.builtin id)) ∧ s.TypeIs v T ∧ wpAny (model X.prog X.w) X.A (getItem v (.ref sl)) (EP X pins σ Q) X.xe s
theorem SlR.or {r r' : V → Option Int → Option Int → Hp → VK → Prop} (h : SlR X r) (h' : SlR X r') : SlR X (fun x lo hi H Q => r x lo hi H Q ∨ r' x lo hi H Q) := by
  intro pins s σ H x v vl vu lo hi sl Q I rx hs pl pu q
  rcases q with q | q
  · exact h pins s σ H x v vl vu lo hi sl Q I rx hs pl pu q
  · exact h' pins s σ H x v vl vu lo hi sl Q I rx hs pl pu q
def tSl (r : V → Option Int → Option Int → Hp → VK → Prop) (te : TE) (tl th : TO) : TE := fun σ H Q => te σ H fun x H1 => tl σ H1 fun l H2 => th σ H2 fun u H3 => r x l u H3 Q
/-- a[lo:hi], any a -/
theorem pe_slice {r : V → Option Int → Option Int → Hp → VK → Prop} (hr : SlR X r) (he : PE X e te) (hl : PO X lo tl) (hu : PO X hi th) : PE X (.Subscript e (.Slice lo hi none p2) pos) (tSl r te tl th) := by
  intro pins s σ H Q I h
  refine Subscript_ (thn (he pins s σ H _ I h) fun v s1 ⟨x, H1, I1, r1, q1⟩ => ?_)
  refine wpAny_Slice (thn (hl pins s1 σ H1 _ I1 q1) fun vl s2 ⟨l, H2, I2, pl, q2⟩ => thn (hu pins s2 σ H2 _ I2 q2) fun vu s3 ⟨u, H3, I3, pu, q3⟩ => ?_)
  rw [evalPart_none]
  refine wpAny_pure ?_
  have I4 : Inv X pins σ H3 { s3 with heap := s3.heap.push { cls := .type "slice", data := .fields #[vl, vu, .none] } } := I3.kept (t' := s3.toks) fun b ob q => Heap.get?_push_of_some _ q
  obtain ⟨T, id, hT, ht, hg⟩ := hr pins { s3 with heap := s3.heap.push { cls := .type "slice", data := .fields #[vl, vu, .none] } } σ H3 x v vl vu l u s3.heap.objs.size Q I4 r1 (Heap.IsSliceOf.new ..) pl pu q3
  show wpAny (model X.prog X.w) X.A (subscriptTail e (.Slice lo hi none p2) v (.ref s3.heap.objs.size)) (EP X pins σ Q) X.xe { s3 with heap := s3.heap.push { cls := .type "slice", data := .fields #[vl, vu, .none] } }
  exact tail_any (ops := [.ref s3.heap.objs.size, v]) ht hT hg (by with_unfolding_all rfl)

/-- the items of xs[lo:hi] -/
def cutV (xs : List V) (lo hi : Option Int) : List V := (xs.drop (HT.sIx xs.length 0 lo)).take (HT.sIx xs.length xs.length hi - HT.sIx xs.length 0 lo)
theorem cutV_length (xs : List V) (lo hi : Option Int) : (cutV xs lo hi).length ≤ xs.length := by
  unfold cutV
  rw [List.length_take, List.length_drop]
  omega

/-! ### t < u, t + u -/
end
end L2

namespace L2
open PySem PySem.Spec PyProof.Rows

/-! ### places -/
/-- the place that an index of any sign means -/
def ixN (n : Nat) (i : Int) : Option Nat := if 0 ≤ i then (if i < n then some i.toNat else none) else if -(n : Int) ≤ i then some (i + n).toNat else none
def atI {α : Type} (xs : List α) (i : Int) : Option α := (ixN xs.length i).bind fun j => xs[j]?
theorem ixN_seq {n : Nat} {i : Int} {j : Nat} (h : ixN n i = some j) : seqIndex? i n = some j ∧ j < n ∧ -(n : Int) ≤ i ∧ i < n := by
  unfold ixN at h
  by_cases h0 : 0 ≤ i
  · rw [if_pos h0] at h
    by_cases h1 : i < n
    · rw [if_pos h1] at h
      have e : i.toNat = j := Option.some.inj h
      exact ⟨by rw [seqIndex_of h0 h1, e], by omega, by omega, h1⟩
    · rw [if_neg h1] at h; cases h
  · rw [if_neg h0] at h
    by_cases h1 : -(n : Int) ≤ i
    · rw [if_pos h1] at h
      have e : (i + n).toNat = j := Option.some.inj h
      exact ⟨by rw [seqIndex_neg (by omega) h1, e], by omega, h1, by omega⟩
    · rw [if_neg h1] at h; cases h
theorem atI_get {α : Type} {xs : List α} {i : Int} {v : α} (h : atI xs i = some v) : ∃ j, seqIndex? i xs.length = some j ∧ xs[j]? = some v ∧ j < xs.length ∧ -(xs.length : Int) ≤ i ∧ i < xs.length := by
  unfold atI at h
  cases e : ixN xs.length i with
  | none => rw [e] at h; cases h
  | some j =>
    rw [e] at h
    obtain ⟨h1, h2, h3, h4⟩ := ixN_seq e
    exact ⟨j, h1, h, h2, h3, h4⟩
theorem atI_nat {α : Type} {xs : List α} {j : Nat} {v : α} (h : xs[j]? = some v) : atI xs (j : Int) = some v := by
  have hj : j < xs.length := (List.getElem?_eq_some_iff.mp h).1
  have e : ixN xs.length (j : Int) = some j := by
    unfold ixN
    rw [if_pos (by omega), if_pos (by omega)]; simp
  unfold atI; rw [e]; exact h

/-! ### what may be subscripted -/
/-- what stands as an index of a plain subscript -/
def PlainIx (b : Expr) : Prop := ∀ o i, subscripted b false o i = operate [o, i] (getItem o i)
/-- a subscript by values -/
def IxR (X : Cx) (r : R2) : Prop :=
  ∀ (value slice : Expr) (pins : List (Addr × Obj)) (s : Shared) (σ : St) (H : Hp) (x y : V) (v u : Value) (Q : VK), Inv X pins σ H s → RelV x v → RelV y u → r x y H Q →
    subscripted slice false v u = operate [v, u] (getItem v u) → wpAny (model X.prog X.w) X.A (subscriptTail value slice v u) (EP X pins σ Q) X.xe s
/-- a call of a builtin's method by values: the receiver, the arguments -/
def MtR (X : Cx) (id : String) (r : V → List V → Hp → VK → Prop) : Prop :=
  ∀ (pins : List (Addr × Obj)) (s : Shared) (σ : St) (H : Hp) (x : V) (xs : List V) (v : Value) (us : List Value) (Q : VK), Inv X pins σ H s → RelV x v → Vals xs us → r x xs H Q →
    wpAny (model X.prog X.w) X.A (call (.builtin id) (v :: us)) (EP X pins σ Q) X.xe s
section
variable {X : Cx} {a b : Expr} {ta tb : TE} {pos : Pos}
theorem IxR.or {r r' : R2} (h : IxR X r) (h' : IxR X r') : IxR X (fun x y H Q => r x y H Q ∨ r' x y H Q) := by
  intro value slice pins s σ H x y v u Q I rx ry q hs
  rcases q with q | q
  · exact h value slice pins s σ H x y v u Q I rx ry q hs
  · exact h' value slice pins s σ H x y v u Q I rx ry q hs
theorem MtR.or {id : String} {r r' : V → List V → Hp → VK → Prop} (h : MtR X id r) (h' : MtR X id r') : MtR X id (fun x xs H Q => r x xs H Q ∨ r' x xs H Q) := by
  intro pins s σ H x xs v us Q I rx rs q
  rcases q with q | q
  · exact h pins s σ H x xs v us Q I rx rs q
  · exact h' pins s σ H x xs v us Q I rx rs q
/-- a[b] -/
theorem pe_ix {r : R2} (hr : IxR X r) (ha : PE X a ta) (hb : PE X b tb) (hs : PlainIx b) : PE X (.Subscript a b pos) (tOp r ta tb) := by
  intro pins s σ H Q I h
  exact Subscript_ (binT ha hb I h fun v u s2 x y H2 I2 rx ry q => hr a b pins s2 σ H2 x y v u Q I2 rx ry q (hs _ _))

def rIxL (K : PySem.W.Frag) : R2 := fun x y H Q => ∃ p xs i v, x = .ref p ∧ y = .int i ∧ SqL K H p xs ∧ atI xs i = some v ∧ Q v H
def rIxT (K : PySem.W.Frag) : R2 := fun x y H Q => ∃ p xs i v, x = .ref p ∧ y = .int i ∧ SqT K H p xs ∧ atI xs i = some v ∧ Q v H
def rIxS : R2 := fun x y H Q => ∃ z i c, x = .str z ∧ y = .int i ∧ z.length ≤ sizeLine ∧ atI z.cps.toList i = some c ∧ Q (.str ⟨#[c]⟩) H
theorem ix_list : IxR X (rIxL X.K) := by
  intro value slice pins s σ H x y v u Q I rx ry h hs
  obtain ⟨p, xs, i, z, rfl, rfl, hq, he, q⟩ := h
  cases rx
  obtain ⟨t, rfl⟩ := ry
  obtain ⟨its, r, pl, hz⟩ := I.list hq
  obtain ⟨j, h1, h2, h3, h4, h5⟩ := atI_get he
  obtain ⟨w, ew, rw'⟩ := r.get h2
  have hl := r.length
  have hn := line63
  have fin : EP X pins σ Q w s := ⟨z, H, I, rw', q⟩
  by_cases h0 : 0 ≤ i
  · have hj : i.toNat = j := by
      rw [seqIndex_of h0 h5] at h1
      exact Option.some.inj h1
    exact item_listR pl.isList h0 (by omega) (by rw [hj]; simpa using ew) fin hs
  · have hj : (i + (its.toArray.size : Int)).toNat = j := by
      rw [seqIndex_neg (by omega) h4] at h1
      rw [List.size_toArray, ← hl]
      exact Option.some.inj h1
    exact subscriptTail_builtinR (x := w) pl.isList.typeIs slot_list_getitem.lookup
      (wpAny_getItem_list_neg (Q := fun r s' => r = w ∧ EP X pins σ Q r s') pl.isList (by omega) (by rw [List.size_toArray] <;> omega) (by omega) (by rw [hj]; simpa using ew) ⟨rfl, fin⟩) hs
theorem ix_tup : IxR X (rIxT X.K) := by
  intro value slice pins s σ H x y v u Q I rx ry h hs
  obtain ⟨p, xs, i, z, rfl, rfl, hq, he, q⟩ := h
  cases rx
  obtain ⟨t, rfl⟩ := ry
  obtain ⟨its, r, pl, hz⟩ := I.tuple hq
  obtain ⟨j, h1, h2, h3, h4, h5⟩ := atI_get he
  obtain ⟨w, ew, rw'⟩ := r.get h2
  have hl := r.length
  have hn := line63
  have fin : EP X pins σ Q w s := ⟨z, H, I, rw', q⟩
  exact subscriptTail_builtinR (x := w) pl.typeIs slot_tuple_getitem.lookup
    (getItem_tuple (j := j) (Q := fun r s' => r = w ∧ EP X pins σ Q r s') pl (by omega) (by omega) (by rw [List.size_toArray, ← hl]; exact h1) (by simpa using ew) ⟨rfl, fin⟩) hs
theorem ix_str : IxR X rIxS := by
  intro value slice pins s σ H x y v u Q I rx ry h hs
  obtain ⟨z, i, c, rfl, rfl, hz, he, q⟩ := h
  obtain ⟨t, rfl⟩ := rx
  obtain ⟨t', rfl⟩ := ry
  obtain ⟨j, h1, h2, h3, h4, h5⟩ := atI_get he
  have hl : z.cps.toList.length = z.length := by simp [Str.length]
  rw [hl] at h1 h4 h5
  have hn := line63
  exact tail_any (typeIs_str s z t) slot_str_getitem.lookup (getItem_str (c := c) (by
    have e1 : decide (i < -(2 ^ 63 : Int)) = false := decide_eq_false (by omega)
    have e2 : decide (i ≥ 2 ^ 63) = false := decide_eq_false (by omega)
    rw [e1, e2, Bool.or_false]) (by rw [h1]; simpa using h2) ⟨.str ⟨#[c]⟩, H, I.tok _, ⟨_, rfl⟩, q⟩) hs

/-! ### xs[i] = v, any sign -/
theorem Inv.lst {pins : List (Addr × Obj)} {σ : St} {H : Hp} {s : Shared} {p : Addr} {xs : List V} (I : Inv X pins σ H s) (h : H p = some (.lst xs)) :
    ∃ (its : List Value) (n : Nat), Vals xs its ∧ s.heap.get? p = some { cls := .type "list", data := .seq its.toArray n } ∧ xs.length ≤ sizeLine := by
  obtain ⟨z, its, n, r, e⟩ := I.hok p _ h
  exact ⟨its, n, r, e, z⟩

/-! ### slices -/
theorem slice_bounds (lo hi : Option Int) (n : Nat) : (sliceBounds lo hi none n).1 = ((HT.sIx n 0 lo : Nat) : Int) ∧ (sliceBounds lo hi none n).2.1 = ((HT.sIx n n hi : Nat) : Int) ∧ (sliceBounds lo hi none n).2.2 = 1 := by
  refine ⟨?_, ?_, rfl⟩
  · cases lo with
    | none => simp [sliceBounds, HT.sIx]
    | some i =>
      simp only [sliceBounds, HT.sIx, Option.getD_none, show (1 : Int) > 0 by decide, if_true]
      by_cases h : i < 0
      · simp only [h, if_true] <;> omega
      · simp only [h, if_false] <;> omega
  · cases hi with
    | none => simp [sliceBounds, HT.sIx]
    | some i =>
      simp only [sliceBounds, HT.sIx, Option.getD_none, show (1 : Int) > 0 by decide, if_true]
      by_cases h : i < 0
      · simp only [h, if_true] <;> omega
      · simp only [h, if_false] <;> omega
theorem slicePick_cut (its : List Value) (lo hi : Option Int) : slicePick its.toArray lo hi none = ((its.drop (HT.sIx its.length 0 lo)).take (HT.sIx its.length its.length hi - HT.sIx its.length 0 lo)).toArray := by
  obtain ⟨h1, h2, h3⟩ := slice_bounds lo hi its.toArray.size
  unfold slicePick
  rw [h1, h2, h3]
  simp only [sliceRange_one, pick_run, List.size_toArray] <;> rfl
/-- xs[lo:hi] of a list: a new list -/
def rSlL (K : PySem.W.Frag) : V → Option Int → Option Int → Hp → VK → Prop := fun x lo hi H Q => ∃ a xs, x = .ref a ∧ SqL K H a xs ∧ ∀ p, H p = none → Q (.ref p) (upd H p (.lst (cutV xs lo hi)))
theorem sl_list : SlR X (rSlL X.K) := by
  intro pins s σ H x v vl vu lo hi sl Q I rx hs pl pu h
  obtain ⟨a, xs, rfl, hx, q⟩ := h
  cases rx
  obtain ⟨its, r, ht, hz⟩ := I.list hx
  have hlen := r.length
  refine ⟨"list", _, slot_list_getitem.lookup, ht.isList.typeIs, ?_⟩
  refine wpAny_getItem_list_slice ht.isList hs pl pu .none (by simp) ?_ (by rw [List.size_toArray] <;> omega)
  rw [slicePick_cut, ← hlen]
  refine ⟨.ref s.heap.objs.size, _, I.laid (t' := s.toks) (o := .lst (cutV xs lo hi)) (fun b ob q => Heap.get?_push_of_some _ q) (Nat.le_refl _) ?_, rfl, q _ (I.hok.fresh (Nat.le_refl _))⟩
  exact ⟨Nat.le_trans (cutV_length xs lo hi) hz, _, 0, (r.drop (HT.sIx xs.length 0 lo)).take (HT.sIx xs.length xs.length hi - HT.sIx xs.length 0 lo), Heap.get?_push_size _ rfl⟩

/-! ### in, not in: flat items -/
def flatV : V → Bool
  | .non => true
  | .bl _ => true
  | .int _ => true
  | .str _ => true
  | _ => false
/-- == of flat values -/
def eqV : V → V → Bool
  | .non, .non => true
  | .bl a, .bl b => a == b
  | .bl a, .int b => (if a then 1 else 0) == b
  | .int a, .bl b => a == (if b then 1 else 0)
  | .int a, .int b => a == b
  | .str a, .str b => a == b
  | _, _ => false
theorem eqAt_V {A : Around} {s : Shared} {y x : V} {u v : Value} (ry : RelV y u) (rx : RelV x v) (fy : flatV y = true) (fx : flatV x = true) : SeqAt.EqAt A s u v (eqV y x) := by
  cases y with
  | non =>
    cases ry
    cases x with
    | non => cases rx; exact SeqAt.EqAt.same _
    | bl b => cases rx; exact SeqAt.EqAt.none_bool b
    | int b => obtain ⟨t, rfl⟩ := rx; exact SeqAt.EqAt.none_int b t
    | str b => obtain ⟨t, rfl⟩ := rx; exact SeqAt.EqAt.none_str b t
    | _ => exact absurd (show false = true from fx) Bool.false_ne_true
  | bl a =>
    cases ry
    cases x with
    | non => cases rx; exact SeqAt.EqAt.bool_none a
    | bl b => cases rx; exact SeqAt.EqAt.bool_bool a b
    | int b => obtain ⟨t, rfl⟩ := rx; exact SeqAt.EqAt.bool_int a b t
    | str b => obtain ⟨t, rfl⟩ := rx; exact SeqAt.EqAt.bool_str a b t
    | _ => exact absurd (show false = true from fx) Bool.false_ne_true
  | int a =>
    obtain ⟨t', rfl⟩ := ry
    cases x with
    | non => cases rx; exact SeqAt.EqAt.int_none a t'
    | bl b => cases rx; exact SeqAt.EqAt.int_bool a t' b
    | int b => obtain ⟨t, rfl⟩ := rx; exact SeqAt.EqAt.int_int a t' b t
    | str b => obtain ⟨t, rfl⟩ := rx; exact SeqAt.EqAt.int_str a t' b t
    | _ => exact absurd (show false = true from fx) Bool.false_ne_true
  | str a =>
    obtain ⟨t', rfl⟩ := ry
    cases x with
    | non => cases rx; exact SeqAt.EqAt.str_none a t'
    | bl b => cases rx; exact SeqAt.EqAt.str_bool a t' b
    | int b => obtain ⟨t, rfl⟩ := rx; exact SeqAt.EqAt.str_int a t' b t
    | str b => obtain ⟨t, rfl⟩ := rx; exact SeqAt.EqAt.str_str a t' b t
    | _ => exact absurd (show false = true from fx) Bool.false_ne_true
  | _ => exact absurd (show false = true from fy) Bool.false_ne_true
/-- the items' answers, read off the values (a value's own answer does not lean on its token) -/
def eqU (x : V) (u : Value) : Bool := match u with
  | .none => eqV .non x
  | .bool b => eqV (.bl b) x
  | .int i _ => eqV (.int i) x
  | .str z _ => eqV (.str z) x
  | _ => false
theorem eqU_of {x y : V} {u : Value} (r : RelV y u) (f : flatV y = true) : eqU x u = eqV y x := by
  cases y with
  | non => cases r; rfl
  | bl b => cases r; rfl
  | int i => obtain ⟨t, rfl⟩ := r; rfl
  | str z => obtain ⟨t, rfl⟩ := r; rfl
  | _ => exact absurd (show false = true from f) Bool.false_ne_true
theorem any_eqU {x : V} : ∀ {xs : List V} {us : List Value}, Vals xs us → xs.all flatV = true → us.any (eqU x) = xs.any fun y => eqV y x
  | _, _, .nil, _ => rfl
  | y :: xs, u :: us, .cons r t, f => by
    rw [List.all_cons, Bool.and_eq_true] at f
    rw [List.any_cons, List.any_cons, eqU_of r f.1, any_eqU t f.2]
theorem mem_eqAt {A : Around} {s : Shared} {x : V} {v : Value} (rx : RelV x v) (fx : flatV x = true) : ∀ {xs : List V} {us : List Value}, Vals xs us → xs.all flatV = true → ∀ u ∈ us, SeqAt.EqAt A s u v (eqU x u)
  | _, _, .nil, _ => fun u hu => by cases hu
  | y :: xs, u :: us, .cons r t, f => fun u' hu => by
    rw [List.all_cons, Bool.and_eq_true] at f
    rcases List.mem_cons.mp hu with rfl | hu
    · rw [eqU_of r f.1]; exact eqAt_V r rx f.1 fx
    · exact mem_eqAt rx fx t f.2 u' hu
def inV (x : V) (xs : List V) : Bool := xs.any fun y => eqV y x
/-- x in a list or tuple of flat items -/
def rIn (K : PySem.W.Frag) (neg : Bool) : R2 := fun x y H Q => ∃ p xs, y = .ref p ∧ (SqL K H p xs ∨ SqT K H p xs) ∧ flatV x = true ∧ xs.all flatV = true ∧ Q (.bl (if neg then !inV x xs else inV x xs)) H
theorem op_in_seq : OpR X (compareOp .In) (rIn X.K false) := by
  intro pins s σ H x y v u Q I rx ry h
  obtain ⟨p, xs, rfl, hq, fx, fs, q⟩ := h
  cases ry
  rcases hq with hq | hq
  · obtain ⟨its, r, pl, hz⟩ := I.list hq
    refine SeqAt.in_listAt (eqU x) pl.isList (fun w hw => mem_eqAt rx fx r fs w (by simpa using hw)) ⟨.bl _, H, I, rfl, ?_⟩
    rw [show its.toArray.any (eqU x) = its.any (eqU x) by simp, any_eqU r fs]
    exact q
  · obtain ⟨its, r, pl, hz⟩ := I.tuple hq
    refine SeqAt.in_tupleAt (eqU x) pl (fun w hw => mem_eqAt rx fx r fs w (by simpa using hw)) ⟨.bl _, H, I, rfl, ?_⟩
    rw [show its.toArray.any (eqU x) = its.any (eqU x) by simp, any_eqU r fs]
    exact q

/-! ### len, list(x), tuple(x) of any list or tuple that is read -/
theorem call_len_seq : CallR X (.builtin "len") (fun xs H Q => ∃ p ys, xs = [.ref p] ∧ (SqL X.K H p ys ∨ SqT X.K H p ys) ∧ Q (.int ys.length) H) := by
  intro pins s σ H xs us Q I r h
  obtain ⟨p, ys, rfl, hq, q⟩ := h
  obtain ⟨u, rfl, rx⟩ := vals1 r
  cases rx
  have hn := line63
  rcases hq with hq | hq
  · obtain ⟨its, r', pl, hz⟩ := I.list hq
    have hlen := r'.length
    exact Calls.call_len_list pl.isList (by simp only [List.size_toArray] <;> omega) ⟨.int ys.length, H, I.tok _, ⟨s.toks + 1, by rw [List.size_toArray, hlen]⟩, q⟩
  · obtain ⟨its, r', pl, hz⟩ := I.tuple hq
    have hlen := r'.length
    exact len_tuple pl (by simp only [List.size_toArray] <;> omega) ⟨.int ys.length, H, I.tok _, ⟨s.toks + 1, by rw [List.size_toArray, hlen]⟩, q⟩
theorem call_len_str : CallR X (.builtin "len") (fun xs H Q => ∃ z, xs = [.str z] ∧ z.length ≤ sizeLine ∧ Q (.int z.length) H) := by
  intro pins s σ H xs us Q I r h
  obtain ⟨z, rfl, hz, q⟩ := h
  obtain ⟨u, rfl, t, rfl⟩ := vals1 r
  have hn := line63
  exact len_str (by omega) ⟨.int z.length, H, I.tok _, ⟨_, rfl⟩, q⟩
theorem CallR.or {f : Value} {r r' : List V → Hp → VK → Prop} (h : CallR X f r) (h' : CallR X f r') : CallR X f (fun xs H Q => r xs H Q ∨ r' xs H Q) := by
  intro pins s σ H xs us Q I rs q
  rcases q with q | q
  · exact h pins s σ H xs us Q I rs q
  · exact h' pins s σ H xs us Q I rs q
theorem call_tuple_of : CallR X (.type "tuple") (fun xs H Q => ∃ p ys, xs = [.ref p] ∧ ((SqL X.K H p ys ∧ ∀ l, H l = none → Q (.ref l) (upd H l (.tup ys))) ∨ (SqT X.K H p ys ∧ Q (.ref p) H))) := by
  intro pins s σ H xs us Q I r h
  obtain ⟨p, ys, rfl, h⟩ := h
  obtain ⟨u, rfl, rx⟩ := vals1 r
  cases rx
  rcases h with ⟨hq, q⟩ | ⟨hq, q⟩
  · obtain ⟨its, r', pl, hz⟩ := I.list hq
    have hlen := r'.length
    refine call_tuple_list pl.isList (fun h' kp => ?_) (by simp only [List.size_toArray] <;> omega)
    have I1 : Inv X pins σ H { s with heap := h' } := I.kept (t' := s.toks) kp
    have I2 : Inv X pins σ (upd H h'.objs.size (.tup ys)) { s with heap := h'.push { cls := .type "tuple", data := .seq its.toArray } } :=
      I1.laid (t' := s.toks) (fun b o e => Heap.get?_push_of_some _ e) (Nat.le_refl _) (show ObjOk X.prog X.w _ _ _ (.tup ys) from ⟨hz, its, r', IsTup.new _ _⟩)
    exact ⟨.ref h'.objs.size, _, I2, rfl, q _ (I1.hok.fresh (Nat.le_refl _))⟩
  · obtain ⟨its, r', pl, hz⟩ := I.tuple hq
    exact call_tuple_same pl ⟨.ref p, H, I, rfl, q⟩

/-! ### the call of a builtin's method: o.m(..) -/
/-- the value is of that builtin type -/
def tyV (K : PySem.W.Frag) (T : String) (x : V) (H : Hp) : Prop := match x with
  | .str _ => T = "str"
  | .int _ => T = "int"
  | .ref p => (T = "list" ∧ ∃ xs, SqL K H p xs) ∨ (T = "tuple" ∧ ∃ o, K.lookup p = some o ∧ o.cls = .type "tuple" ∧ o.dict = none) ∨
      (T = "dict" ∧ ((∃ kvs, H p = some (.dK kvs)) ∨ ∃ kvs, H p = some (.dT kvs))) ∨ (T = "set" ∧ ∃ S n, H p = some (.set S n))
  | _ => False
theorem tyV_is {pins : List (Addr × Obj)} {σ : St} {H : Hp} {s : Shared} {T : String} {x : V} {v : Value} (I : Inv X pins σ H s) (r : RelV x v) (ty : tyV X.K T x H) :
    s.TypeIs v T ∧ ∀ a, v = .ref a → ∃ ob, s.heap.get? a = some ob ∧ ob.dict = none := by
  cases x with
  | str z =>
    obtain ⟨t, rfl⟩ := r
    cases (show T = "str" from ty)
    exact ⟨typeIs_str s z t, fun _ e => nomatch e⟩
  | int i =>
    obtain ⟨t, rfl⟩ := r
    cases (show T = "int" from ty)
    exact ⟨typeIs_int s i t, fun _ e => nomatch e⟩
  | ref p =>
    cases r
    rcases ty with ⟨rfl, xs, hq⟩ | ⟨rfl, o, hk, hc, hd⟩ | ⟨rfl, hk⟩ | ⟨rfl, S, n, hk⟩
    · obtain ⟨its, _, pl, _⟩ := I.list hq
      refine ⟨pl.isList.typeIs, fun a e => ?_⟩
      cases e
      obtain ⟨o, n, e, c, hd, _⟩ := pl
      exact ⟨o, e, hd⟩
    · refine ⟨⟨o, I.kIn p o hk, hc⟩, fun a e => ?_⟩
      cases e
      exact ⟨o, I.kIn _ o hk, hd⟩
    · have z : ∃ o, s.heap.get? p = some o ∧ o.ExactDict := by
        rcases hk with ⟨kvs, hk⟩ | ⟨kvs, hk⟩
        · obtain ⟨_, _, _, _, o, _, _, e, ex, _⟩ := I.hok p _ hk
          exact ⟨o, e, ex⟩
        · obtain ⟨_, _, _, _, o, _, _, e, ex, _⟩ := I.hok p _ hk
          exact ⟨o, e, ex⟩
      obtain ⟨o, e, ex⟩ := z
      refine ⟨⟨o, e, ex.1⟩, fun a e2 => ?_⟩
      cases e2
      exact ⟨o, e, ex.2.1⟩
    · obtain ⟨o, _, _, _, e, ex, _⟩ := I.hok p _ hk
      refine ⟨⟨o, e, ex.1⟩, fun a e2 => ?_⟩
      cases e2
      exact ⟨o, e, ex.2.1⟩
  | _ => exact False.elim ty
def tBM (K : PySem.W.Frag) (T : String) (r : V → List V → Hp → VK → Prop) (to : TE) (t : TA) : TE := fun σ H Q => to σ H fun x H1 => tyV K T x H1 ∧ t σ H1 fun xs H2 => r x xs H2 Q
variable {o e : Expr} {es : List Expr} {to : TE} {t : TA} {name : Str} {apos cpos : Pos} {T id : String} {r : V → List V → Hp → VK → Prop}
theorem pe_bm (pa : PlainAttrs T) (slot : Slot T name id) (hty : typeOf (.builtin id) = pure (.type "method_descriptor")) (hm : MtR X id r) (ho : PE X o to) (ha : PA X (e :: es) t)
    (hbase : attributeBase o name X.env (eval o X.env) = eval o X.env := by rfl)
    (hfew : ((backTo cpos (starEach (e :: es) X.env)).all (fun x => !x.1) && (backToKw cpos (keywordEach [] X.env)).all (fun x => x.1.isSome)
      && decide ((e :: es).length + ([] : List Keyword).length + (if ([] : List Keyword).isEmpty then 0 else 1) < 30)) = true := by rfl)
    (hline : (apos.endLine == cpos.line) = true := by rfl) (hs : starEach (e :: es) X.env = (false, eval e X.env) :: starEach es X.env := by rfl) (hplain : (backTo cpos (starEach es X.env)).any (·.1) = false := by rfl) :
    PE X (.Call (.Attribute o name apos) (e :: es) [] cpos) (tBM X.K T r to t) := by
  intro pins s σ H Q I h
  refine wpAny_Call_method_late hbase hfew hline rfl (thn (ho pins s σ H _ I h) fun v s1 ⟨x, H1, I1, r1, ty, q1⟩ => ?_)
  obtain ⟨h1, h2⟩ := tyV_is I1 r1 ty
  refine ⟨T, id, pa, slot, hty, h1, h2, ?_⟩
  have hA := ha cpos pins s1 σ H1 _ I1 q1
  rw [hs] at hA ⊢
  refine Calls.callWith_builtin (by show (false || (backTo cpos (starEach es X.env)).any (·.1)) = false; rw [hplain] <;> rfl) (Calls.evalArgs_plain ?_)
  exact thn hA fun us s2 ⟨vs, H2, I2, r2, q2⟩ => hm pins s2 σ H2 x vs v us Q I2 r1 r2 q2
/- xs.append(e), list.index on a module's tuple .. are MtR facts of 06m -/
end
end L2

namespace L2
open PySem PySem.Spec PyProof.Rows

def MtM (X : Cx) (id : String) (r : V → List V → Hp → VK → Prop) : Prop :=
  ∀ (pins : List (Addr × Obj)) (s : Shared) (σ : St) (H : Hp) (x : V) (xs : List V) (v : Value) (us : List Value) (Q : VK), Inv X pins σ H s → RelV x v → Vals xs us → r x xs H Q →
    wpAny (model X.prog X.w) X.A (call (.builtin id) (v :: us)) (EP X pins σ Q) X.xe s

/-! ### lists of values -/
theorem Vals.one : ∀ {x : V} {us : List Value}, Vals [x] us → ∃ u, us = [u] ∧ RelV x u
  | _, _, .cons r .nil => ⟨_, rfl, r⟩
theorem Vals.two : ∀ {x y : V} {us : List Value}, Vals [x, y] us → ∃ u v, us = [u, v] ∧ RelV x u ∧ RelV y v
  | _, _, _, .cons r (.cons q .nil) => ⟨_, _, rfl, r, q⟩
theorem Vals.zero : ∀ {us : List Value}, Vals [] us → us = []
  | _, .nil => rfl
theorem Vals.eraseIdx : ∀ {xs : List V} {us : List Value} (i : Nat), Vals xs us → Vals (xs.eraseIdx i) (us.eraseIdx i)
  | _, _, _, .nil => .nil
  | _, _, 0, .cons _ t => t
  | _, _, i + 1, .cons r t => .cons r (Vals.eraseIdx i t)
theorem Vals.reverse {xs : List V} {us : List Value} (h : Vals xs us) : Vals xs.reverse us.reverse := by
  induction h with
  | nil => exact .nil
  | cons r t ih => rw [List.reverse_cons, List.reverse_cons]; exact Vals.append ih (.cons r .nil)
theorem len_erase {α : Type} : ∀ (l : List α) (i : Nat), (l.eraseIdx i).length ≤ l.length
  | [], _ => Nat.le_refl _
  | _ :: _, 0 => Nat.le_succ _
  | _ :: r, i + 1 => Nat.succ_le_succ (len_erase r i)

section
variable {X : Cx} {pins : List (Addr × Obj)} {σ : St} {H : Hp} {s : Shared} {l b : Addr} {xs ys zs : List V}

/-! ### the two steps: a tracked list is rewritten, a new list is laid -/
theorem Inv.lset {its its' : List Value} {n : Nat} {f : Array Value → Array Value} {t' : Nat} (I : Inv X pins σ H s) (hH : H l = some (.lst xs))
    (e : s.heap.get? l = some { cls := .type "list", data := .seq its.toArray n }) (hf : f its.toArray = its'.toArray) (hv : Vals ys its') (hz : ys.length ≤ sizeLine) :
    Inv X pins σ (upd H l (.lst ys)) { s with heap := s.heap.update l (Obj.mapSeq f), toks := t' } := by
  have q := PySem.IsL.update e f
  rw [hf] at q
  refine I.write (x := l) (e := l) (by rw [hH]; exact trivial) (.inl rfl) (fun b' u hb hu => (Heap.get?_update_other s.heap (Obj.mapSeq f) (Ne.symm hb)).trans hu) ⟨_, q⟩ ?_
  exact ⟨hz, its', _, hv, q⟩
theorem Inv.lnew {its : List Value} {t' : Nat} (I : Inv X pins σ H s) (hv : Vals ys its) (hz : ys.length ≤ sizeLine) :
    Inv X pins σ (upd H s.heap.objs.size (.lst ys)) { s with heap := s.heap.push { cls := .type "list", data := .seq its.toArray }, toks := t' } :=
  I.laid (fun _ _ q => Heap.get?_push_of_some _ q) (Nat.le_refl _) ⟨hz, its, 0, hv, Heap.get?_push_size _ rfl⟩
theorem Inv.fresh (I : Inv X pins σ H s) : H s.heap.objs.size = none := I.hok.fresh (Nat.le_refl _)
theorem Inv.lstM (I : Inv X pins σ H s) (hH : H l = some (.lst xs)) : xs.length ≤ sizeLine ∧ ∃ (its : List Value) (n : Nat), Vals xs its ∧ xs.length = its.length ∧ s.heap.get? l = some { cls := .type "list", data := .seq its.toArray n } := by
  obtain ⟨z, its, n, r, e⟩ := I.hok l _ hH
  exact ⟨z, its, n, r, r.length, e⟩

end

section
variable {X : Cx}

/-! ### methods -/
def rAppend : V → List V → Hp → VK → Prop := fun x vs H Q => ∃ l xs y, x = .ref l ∧ vs = [y] ∧ H l = some (.lst xs) ∧ xs.length < sizeLine ∧ Q .non (upd H l (.lst (xs ++ [y])))
theorem mt_append : MtM X "list.append" rAppend := by
  intro pins s σ H x vs v us Q I rx rv h
  obtain ⟨l, xs, y, rfl, rfl, hH, hz, q⟩ := h
  cases rx
  obtain ⟨u, rfl, ru⟩ := rv.one
  obtain ⟨z, its, n, r, hl, e⟩ := I.lstM hH
  refine call_meets F.slot_list_append ⟨_, e, rfl⟩ F.entry_list_append (F.args_list_append_2 _ _) (PySem.list_append l its.toArray n u (by rw [List.size_toArray]; omega)) ⟨e, ?_⟩
  refine ⟨.non, _, I.lset (its' := its ++ [u]) hH e (by simp) (r.append (.cons ru .nil)) ?_, rfl, q⟩
  rw [List.length_append, List.length_singleton]
  omega



def rPopAt : V → List V → Hp → VK → Prop := fun x vs H Q => ∃ l xs i k y, x = .ref l ∧ vs = [.int i] ∧ H l = some (.lst xs) ∧ -(2 ^ 63) ≤ i ∧ i < 2 ^ 63 ∧ seqIndex? i xs.length = some k ∧ xs[k]? = some y ∧ Q y (upd H l (.lst (xs.eraseIdx k)))
theorem mt_popAt : MtM X "list.pop" rPopAt := by
  intro pins s σ H x vs v us Q I rx rv h
  obtain ⟨l, xs, i, k, y, rfl, rfl, hH, h1, h2, hk, hy, q⟩ := h
  cases rx
  obtain ⟨u, rfl, ru⟩ := rv.one
  obtain ⟨t, rfl⟩ := ru
  obtain ⟨z, its, n, r, hl, e⟩ := I.lstM hH
  obtain ⟨w, hw, rw'⟩ := r.get hy
  refine call_meets F.slot_list_pop ⟨_, e, rfl⟩ F.entry_list_pop (F.args_list_pop_2 _ _)
    (MeetsSeq.list_pop_at l its.toArray n i t k w (fitsIndex_both h1 h2) (by rw [List.size_toArray, ← hl]; exact hk) (by rw [← Array.getElem?_toList]; exact hw) (by rw [List.size_toArray]; omega)) ⟨e, ?_⟩
  refine ⟨y, _, I.lset (its' := its.eraseIdx k) hH e ?_ (r.eraseIdx k) ?_, rw', q⟩
  · show its.toArray.eraseIdxIfInBounds k = (its.eraseIdx k).toArray
    rw [List.eraseIdxIfInBounds_toArray]
  · have := len_erase xs k
    omega



/-! ### list + list, list += list, list * int -/

/-! ### del xs[i] -/
end

/-! ### xs[a:b] = ys -/
section
variable {prog : Program} {w : World} {A : Around} {E : Value → Shared → Prop} {s : Shared}
end

section
variable {X : Cx}
end
end L2

namespace L2
open PySem PySem.Spec PyProof.Rows

/-! ### lists of pairs as tables -/
section
variable {κ : Type} [DecidableEq κ]
def valV (kvs : List (κ × V)) (k : κ) : Option V := (kvs.find? fun kv => decide (kv.1 = k)).map (·.2)
/-- in its place, or at the end -/
def putK (kvs : List (κ × V)) (k : κ) (v : V) : List (κ × V) :=
  if (kvs.any fun kv => decide (kv.1 = k)) = true then kvs.map (fun kv => if kv.1 = k then (kv.1, v) else kv) else kvs ++ [(k, v)]
def dropK (kvs : List (κ × V)) (k : κ) : List (κ × V) := kvs.filter fun kv => decide (kv.1 ≠ k)

theorem valV_pos {p : κ × V} {r : List (κ × V)} {k : κ} (e : p.1 = k) : valV (p :: r) k = some p.2 := by simp [valV, List.find?_cons, e]
theorem valV_neg {p : κ × V} {r : List (κ × V)} {k : κ} (e : ¬ p.1 = k) : valV (p :: r) k = valV r k := by simp [valV, List.find?_cons, e]
theorem valV_any (k : κ) : ∀ kvs : List (κ × V), (kvs.any fun kv => decide (kv.1 = k)) = (valV kvs k).isSome
  | [] => rfl
  | p :: r => by
    rw [List.any_cons]
    by_cases e : p.1 = k
    · simp only [valV_pos e, decide_eq_true e, Bool.true_or, Option.isSome_some]
    · rw [valV_neg e, decide_eq_false e, Bool.false_or]; exact valV_any k r
theorem valV_map (k j : κ) (y : V) : ∀ kvs : List (κ × V), valV (kvs.map fun kv => if kv.1 = k then (kv.1, y) else kv) j = (valV kvs j).map fun x => if j = k then y else x
  | [] => rfl
  | p :: r => by
    have ih := valV_map k j y r
    rw [List.map_cons]
    by_cases h : p.1 = k
    · rw [if_pos h]
      by_cases e : p.1 = j
      · rw [valV_pos (p := (p.1, y)) e, valV_pos e, Option.map_some, if_pos (e.symm.trans h)]
      · rw [valV_neg (p := (p.1, y)) e, valV_neg e, ih]
    · rw [if_neg h]
      by_cases e : p.1 = j
      · rw [valV_pos (p := p) e, valV_pos e, Option.map_some, if_neg (fun z => h (e.trans z))]
      · rw [valV_neg (p := p) e, valV_neg e, ih]
theorem valV_snoc (k j : κ) (y : V) : ∀ kvs : List (κ × V), valV kvs k = none → valV (kvs ++ [(k, y)]) j = if j = k then some y else valV kvs j
  | [], _ => by
    by_cases e : k = j
    · rw [if_pos e.symm]; exact valV_pos (p := (k, y)) e
    · rw [if_neg (fun z => e z.symm)]; exact valV_neg (p := (k, y)) e
  | p :: r, hn => by
    rw [List.cons_append]
    have hk : ¬ p.1 = k := fun z => by rw [valV_pos z] at hn; cases hn
    rw [valV_neg hk] at hn
    have ih := valV_snoc k j y r hn
    by_cases e : p.1 = j
    · rw [valV_pos e, valV_pos e, if_neg (fun z => hk (e.trans z))]
    · rw [valV_neg e, valV_neg e, ih]
theorem valV_put (kvs : List (κ × V)) (k j : κ) (y : V) : valV (putK kvs k y) j = if j = k then some y else valV kvs j := by
  unfold putK
  by_cases a : (kvs.any fun kv => decide (kv.1 = k)) = true
  · rw [if_pos a, valV_map]
    rw [valV_any] at a
    by_cases e : j = k
    · obtain ⟨x, hx⟩ := Option.isSome_iff_exists.mp a
      rw [if_pos e, e, hx, Option.map_some, if_pos rfl]
    · rw [if_neg e]
      cases valV kvs j with
      | none => rfl
      | some x => rw [Option.map_some, if_neg e]
  · rw [if_neg a]
    refine valV_snoc k j y kvs ?_
    rw [valV_any] at a
    cases q : valV kvs k with
    | none => rfl
    | some x => rw [q] at a; exact (a rfl).elim
theorem length_putK (kvs : List (κ × V)) (k : κ) (v : V) : (putK kvs k v).length ≤ kvs.length + 1 := by
  unfold putK
  split
  · rw [List.length_map]; omega
  · rw [List.length_append, List.length_cons, List.length_nil]; omega

theorem RelO.isSome_eq {o : Option V} {u : Option Value} (r : RelO o u) : o.isSome = u.isSome := by
  cases o with
  | none => cases u with
    | none => rfl
    | some _ => exact (show False from r).elim
  | some _ => cases u with
    | none => exact (show False from r).elim
    | some _ => rfl
theorem RelO.getD {o : Option V} {u : Option Value} {d : V} {d' : Value} (r : RelO o u) (rd : RelV d d') : RelV (o.getD d) (u.getD d') := by
  cases o with
  | none => cases u with
    | none => exact rd
    | some _ => exact (show False from r).elim
  | some _ => cases u with
    | none => exact (show False from r).elim
    | some _ => exact r

/-- raw tables of the same keys -/
theorem KV.val {kvs : List (κ × V)} {vs : List (κ × Value)} (r : KV kvs vs) (k : κ) : RelO (valV kvs k) (valueAt vs k) := by
  unfold KV at r
  induction r with
  | nil => exact True.intro
  | @cons p q ps qs h t ih =>
    obtain ⟨h1, h2⟩ := h
    by_cases e : p.1 = k
    · have e' : q.1 = k := h1.symm.trans e
      have b : valueAt (q :: qs) k = some q.2 := by simp [valueAt, List.find?_cons, e']
      rw [valV_pos e, b]; exact h2
    · have e' : ¬ q.1 = k := fun z => e (h1.trans z)
      have b : valueAt (q :: qs) k = valueAt qs k := by simp [valueAt, List.find?_cons, e']
      rw [valV_neg e, b]; exact ih
theorem KV.any {kvs : List (κ × V)} {vs : List (κ × Value)} (r : KV kvs vs) (k : κ) : (kvs.any fun kv => decide (kv.1 = k)) = vs.any fun kv => decide (kv.1 = k) := by
  unfold KV at r
  induction r with
  | nil => rfl
  | cons h t ih => rw [List.any_cons, List.any_cons, ih, h.1]
theorem KV.repl {kvs : List (κ × V)} {vs : List (κ × Value)} (r : KV kvs vs) (k : κ) {y : V} {u : Value} (ry : RelV y u) :
    KV (kvs.map fun kv => if kv.1 = k then (kv.1, y) else kv) (vs.map fun kv => if kv.1 = k then (kv.1, u) else kv) := by
  unfold KV at r ⊢
  induction r with
  | nil => exact .nil
  | @cons p q ps qs h t ih =>
    rw [List.map_cons, List.map_cons]
    refine .cons ?_ ih
    obtain ⟨h1, h2⟩ := h
    by_cases e : p.1 = k
    · rw [if_pos e, if_pos (h1.symm.trans e)]; exact ⟨h1, ry⟩
    · rw [if_neg e, if_neg (fun z => e (h1.trans z))]; exact ⟨h1, h2⟩
theorem KV.put {kvs : List (κ × V)} {vs : List (κ × Value)} (r : KV kvs vs) (k : κ) {y : V} {u : Value} (ry : RelV y u) : KV (putK kvs k y) (stored vs k u) := by
  unfold putK stored
  rw [r.any k]
  by_cases e : (vs.any fun kv => decide (kv.1 = k)) = true
  · rw [if_pos e, if_pos e]; exact r.repl k ry
  · rw [if_neg e, if_neg e]; exact Paired.snoc r ⟨rfl, ry⟩
theorem KV.drop {kvs : List (κ × V)} {vs : List (κ × Value)} (r : KV kvs vs) (k : κ) : KV (dropK kvs k) (without vs k) := by
  unfold KV at r ⊢
  unfold dropK without
  induction r with
  | nil => exact .nil
  | @cons p q ps qs h t ih =>
    obtain ⟨h1, h2⟩ := h
    rw [List.filter_cons, List.filter_cons]
    by_cases e : p.1 = k
    · have a : ¬ decide (p.1 ≠ k) = true := by simp [e]
      have b : ¬ decide (q.1 ≠ k) = true := by simp [h1.symm.trans e]
      rw [if_neg a, if_neg b]; exact ih
    · have e' : ¬ q.1 = k := fun z => e (h1.trans z)
      have a : decide (p.1 ≠ k) = true := by simp [e]
      have b : decide (q.1 ≠ k) = true := by simp [e']
      rw [if_pos a, if_pos b]; exact .cons ⟨h1, h2⟩ ih
theorem KV.keys {kvs : List (κ × V)} {vs : List (κ × Value)} (r : KV kvs vs) : kvs.map (·.1) = vs.map (·.1) := by
  unfold KV at r
  induction r with
  | nil => rfl
  | cons h t ih => rw [List.map_cons, List.map_cons, ih, h.1]
theorem KV.length {kvs : List (κ × V)} {vs : List (κ × Value)} (r : KV kvs vs) : kvs.length = vs.length := Paired.length r
end


/-! ### a tracked dict, its keys ints and texts or tuples of these -/
theorem kV_is {P : Program} {w : World} {k : Key} {u : Value} (r : RelV (kV k) u) : (mixKind P w).is k u = true := by
  cases k with
  | inl i => obtain ⟨t, e⟩ := (show ∃ t, u = Value.int i t from r); subst e; exact mixKind_int P w i t
  | inr x => obtain ⟨t, e⟩ := (show ∃ t, u = Value.str x t from r); subst e; exact mixKind_str P w x t
theorem items_are {P : Program} {w : World} : ∀ {ks : List Key} {us : List Value}, Vals (ks.map kV) us → ItemsAre (mixKind P w) ks us
  | [], _, r => by rw [List.map_nil] at r; cases r; exact .nil
  | k :: ks, _, r => by
    rw [List.map_cons] at r
    cases r with
    | cons h t => exact .cons (kV_is h) (items_are t)

/-- raw entries of a dict with tuple keys -/
abbrev KT (H : Hp) : List (List Key × V) → List (List Key × Addr × Value) → Prop := Paired fun p q => p.1 = q.1 ∧ H q.2.1 = some (.tup (p.1.map kV)) ∧ RelV p.2 q.2.2
theorem KT.val {H : Hp} {kvs : List (List Key × V)} {xs : List (List Key × Addr × Value)} (r : KT H kvs xs) (k : List Key) : RelO (valV kvs k) ((atKey xs k).map (·.2)) := by
  induction r with
  | nil => exact True.intro
  | @cons p q ps qs h t ih =>
    obtain ⟨h1, _, h2⟩ := h
    by_cases e : p.1 = k
    · have e' : q.1 = k := h1.symm.trans e
      have b : atKey (q :: qs) k = some q.2 := by simp [atKey, List.find?_cons, e']
      rw [valV_pos e, b]; exact h2
    · have e' : ¬ q.1 = k := fun z => e (h1.trans z)
      have b : atKey (q :: qs) k = atKey qs k := by simp [atKey, List.find?_cons, e']
      rw [valV_neg e, b]; exact ih
theorem KT.repl {H : Hp} {kvs : List (List Key × V)} {xs : List (List Key × Addr × Value)} (r : KT H kvs xs) (k : List Key) {y : V} {u : Value} (ry : RelV y u) :
    KT H (kvs.map fun kv => if kv.1 = k then (kv.1, y) else kv) (xs.map (putAt k u)) := by
  induction r with
  | nil => exact .nil
  | @cons p q ps qs h t ih =>
    rw [List.map_cons, List.map_cons]
    refine .cons ?_ ih
    obtain ⟨h1, h2, h3⟩ := h
    unfold putAt
    by_cases e : p.1 = k
    · rw [if_pos e, if_pos (h1.symm.trans e)]; exact ⟨h1, h2, ry⟩
    · rw [if_neg e, if_neg (fun z => e (h1.trans z))]; exact ⟨h1, h2, h3⟩
theorem KT.put {H : Hp} {kvs : List (List Key × V)} {xs : List (List Key × Addr × Value)} (r : KT H kvs xs) (k : List Key) {b : Addr} {y : V} {u : Value} (hb : H b = some (.tup (k.map kV))) (ry : RelV y u) :
    KT H (putK kvs k y) (storedH xs k b u) := by
  have e : (kvs.any fun kv => decide (kv.1 = k)) = (atKey xs k).isSome := by
    rw [valV_any, (r.val k).isSome_eq, Option.isSome_map]
  unfold putK storedH
  rw [e]
  by_cases q : (atKey xs k).isSome = true
  · rw [if_pos q, if_pos q]; exact r.repl k ry
  · rw [if_neg q, if_neg q]; exact Paired.snoc r ⟨rfl, hb, ry⟩
theorem KT.keeps {H H' : Hp} {kvs : List (List Key × V)} {xs : List (List Key × Addr × Value)} (r : KT H kvs xs) (ht : ∀ b ys, H b = some (.tup ys) → H' b = some (.tup ys)) : KT H' kvs xs :=
  Paired.mapP r fun _ _ z => ⟨z.1, ht _ _ z.2.1, z.2.2⟩

section
variable {P : Program} {w : World} {H : Hp} {h : Heap} {a : Addr}
theorem rd_of {u : HO} (ok : HOk P w H h) (e : Rd H a u) : ObjOk P w H h a u := e.ok ok
theorem dk_rd {kvs : List (Key × V)} (ok : HOk P w H h) (e : Rd H a (.dK kvs)) : kvs.length ≤ sizeLine ∧ (a == sysModules) = false ∧ ∃ vs, KV kvs vs ∧ h.DictOf (mixKind P w) a vs :=
  show ObjOk P w H h a (.dK kvs) from rd_of ok e
theorem dk_of {kvs : List (Key × V)} (ok : HOk P w H h) (e : H a = some (.dK kvs)) : kvs.length ≤ sizeLine ∧ (a == sysModules) = false ∧ ∃ vs, KV kvs vs ∧ h.DictOf (mixKind P w) a vs := dk_rd ok (.inl e)
/-- a tracked tuple of ints and texts is a key -/
theorem key_of {ks : List Key} (ok : HOk P w H h) (e : H a = some (.tup (ks.map kV))) : (tupleKind (mixKind P w)).is h ks a := by
  obtain ⟨_, its, r, o, h1, h2, n, h3⟩ := (show ObjOk P w H h a (.tup (ks.map kV)) from ok a _ e)
  exact ⟨o, its.toArray, n, h1, h2, h3, by simpa using items_are r⟩
theorem dt_rd {kvs : List (List Key × V)} (ok : HOk P w H h) (e : Rd H a (.dT kvs)) : kvs.length ≤ sizeLine ∧ (a == sysModules) = false ∧
    ∃ xs, KT H kvs xs ∧ h.DictOfH (tupleKind (mixKind P w)) a xs := by
  obtain ⟨z, y, xs, r, o, es, ep, h1, h2, h3, h4, h5⟩ := (show ObjOk P w H h a (.dT kvs) from rd_of ok e)
  refine ⟨z, y, xs, r, o, es, ep, h1, h2, h3, h4, fun x hx => ?_, h5⟩
  have all : ∀ {l : List (List Key × V)} {m : List (List Key × Addr × Value)}, KT H l m → ∀ x ∈ m, (tupleKind (mixKind P w)).is h x.1 x.2.1 := by
    intro l m q
    induction q with
    | nil => intro x hx; exact nomatch hx
    | @cons p q ps qs hq t ih =>
      intro x hx
      rcases List.mem_cons.mp hx with e | hx
      · subst e
        exact key_of ok (by rw [← hq.1]; exact hq.2.1)
      · exact ih x hx
  exact all r x hx
theorem dt_of {kvs : List (List Key × V)} (ok : HOk P w H h) (e : H a = some (.dT kvs)) : kvs.length ≤ sizeLine ∧ (a == sysModules) = false ∧
    ∃ xs, KT H kvs xs ∧ h.DictOfH (tupleKind (mixKind P w)) a xs := dt_rd ok (.inl e)
end

/-- what the dict at a holds at the key y -/
def DGet (H : Hp) (a : Addr) (y : V) (r : Option V) : Prop :=
  (∃ kvs k, Rd H a (.dK kvs) ∧ y = kV k ∧ r = valV kvs k) ∨ ∃ kvs k b, Rd H a (.dT kvs) ∧ y = .ref b ∧ H b = some (.tup (k.map kV)) ∧ r = valV kvs k
/-- the heap behind a[y] = v -/
def DPut (H : Hp) (a : Addr) (y v : V) (H' : Hp) : Prop :=
  (∃ kvs k, H a = some (.dK kvs) ∧ y = kV k ∧ kvs.length < sizeLine ∧ H' = upd H a (.dK (putK kvs k v))) ∨
  ∃ kvs k b, H a = some (.dT kvs) ∧ y = .ref b ∧ H b = some (.tup (k.map kV)) ∧ kvs.length < sizeLine ∧ H' = upd H a (.dT (putK kvs k v))
theorem DGet.k {H : Hp} {a : Addr} {kvs : List (Key × V)} {k : Key} (e : H a = some (.dK kvs)) : DGet H a (kV k) (valV kvs k) := .inl ⟨kvs, k, .inl e, rfl, rfl⟩
theorem DGet.t {H : Hp} {a b : Addr} {kvs : List (List Key × V)} {k : List Key} (e : H a = some (.dT kvs)) (eb : H b = some (.tup (k.map kV))) : DGet H a (.ref b) (valV kvs k) := .inr ⟨kvs, k, b, .inl e, rfl, eb, rfl⟩
theorem DPut.k {H : Hp} {a : Addr} {kvs : List (Key × V)} {k : Key} {v : V} (e : H a = some (.dK kvs)) (hl : kvs.length < sizeLine) : DPut H a (kV k) v (upd H a (.dK (putK kvs k v))) := .inl ⟨kvs, k, e, rfl, hl, rfl⟩
theorem DPut.t {H : Hp} {a b : Addr} {kvs : List (List Key × V)} {k : List Key} {v : V} (e : H a = some (.dT kvs)) (eb : H b = some (.tup (k.map kV))) (hl : kvs.length < sizeLine) :
    DPut H a (.ref b) v (upd H a (.dT (putK kvs k v))) := .inr ⟨kvs, k, b, e, rfl, eb, hl, rfl⟩


section
variable {X : Cx} {pins : List (Addr × Obj)} {σ : St} {H : Hp} {s : Shared} {a : Addr} {y v : V} {u r : Value} {o : Option V} {A : Around} {E : Value → Shared → Prop}

theorem Inv.big (I : Inv X pins σ H s) : sysModules < s.heap.objs.size := by
  have h : mainGlobals < s.heap.objs.size := (I.mod.glob.keeps I.bk).lt
  exact Nat.lt_trans (by decide) h

/-- d[y], there -/
theorem d_getItem {Q : Value → Shared → Prop} (hu : A.units + 1 < cLine) (I : Inv X pins σ H s) (g : DGet H a y (some v)) (ry : RelV y u) (h : ∀ w' s', Inv X pins σ H s' → RelV v w' → Q w' s') :
    wpAny (model X.prog X.w) A (getItem (.ref a) u) Q E s := by
  rcases g with ⟨kvs, k, e, ey, l⟩ | ⟨kvs, k, b, e, ey, eb, l⟩
  · subst ey
    obtain ⟨z, hd, vs, rel, dd⟩ := dk_rd I.hok e
    obtain ⟨w', hw, rw'⟩ := RelO.some_of (v := v) (o := valueAt vs k) (by rw [l]; exact rel.val k)
    exact wpAny_getItem_of (kV_is ry) dd.mapOf hw (h w' _ (I.tok _) rw')
  · subst ey
    cases (show u = Value.ref b from ry)
    obtain ⟨z, hd, xs, rel, dd⟩ := dt_rd I.hok e
    obtain ⟨w', hw, rw'⟩ := RelO.some_of (v := v) (o := (atKey xs k).map (·.2)) (by rw [l]; exact rel.val k)
    obtain ⟨p, hp, hp2⟩ := Option.map_eq_some_iff.mp hw
    refine wpAny_getItem_heap (tupleKind_room_in1 hu) (key_of I.hok eb) dd hp ?_
    rw [hp2]
    exact h w' _ (I.tok _) rw'
theorem d_notIn {Q : Value → Shared → Prop} (hu : A.units + 1 < cLine) (I : Inv X pins σ H s) (g : DGet H a y o) (ry : RelV y u) (h : ∀ s', Inv X pins σ H s' → Q (.bool (!o.isSome)) s') :
    wpAny (model X.prog X.w) A (compareOp .NotIn u (.ref a)) Q E s := by
  rcases g with ⟨kvs, k, e, ey, l⟩ | ⟨kvs, k, b, e, ey, eb, l⟩
  · subst ey
    obtain ⟨z, hd, vs, rel, dd⟩ := dk_rd I.hok e
    refine wpAny_notIn_of (kV_is ry) hd dd.mapOf ?_
    rw [← (rel.val k).isSome_eq, ← l]
    exact h _ (I.tok _)
  · subst ey
    cases (show u = Value.ref b from ry)
    obtain ⟨z, hd, xs, rel, dd⟩ := dt_rd I.hok e
    refine wpAny_notIn_heap (tupleKind_room_in1 hu) (key_of I.hok eb) hd dd ?_
    have q := (rel.val k).isSome_eq
    rw [Option.isSome_map] at q
    rw [← q, ← l]
    exact h _ (I.tok _)
/-- a dict's object is replaced -/
theorem d_write {h' : Heap} {t' : Nat} {ob : HO} (I : Inv X pins σ H s) (mu : Mut (H a)) (hs : Heap.SameBut a s.heap h') (he : ∃ q, h'.get? a = some q) (new : ObjOk X.prog X.w (upd H a ob) h' a ob) :
    Inv X pins σ (upd H a ob) { s with heap := h', toks := t' } :=
  I.write (x := a) (e := a) mu (.inl rfl) (fun b q hb z => (hs.2 b hb).trans z) he new
theorem dk_new {P : Program} {w : World} {H' : Hp} {h' : Heap} {kvs : List (Key × V)} {vs : List (Key × Value)} (z : kvs.length ≤ sizeLine) (hd : (a == sysModules) = false) (rel : KV kvs vs) (dd : h'.DictOf (mixKind P w) a vs) :
    ObjOk P w H' h' a (.dK kvs) := ⟨z, hd, vs, rel, dd⟩
/-- d[y] = v -/
theorem d_setItem {H' : Hp} {Q : Unit → Shared → Prop} (hu : A.units + 1 < cLine) (I : Inv X pins σ H s) (g : DPut H a y v H') (ry : RelV y u) (rv : RelV v r) (h : ∀ s', Inv X pins σ H' s' → Q () s') :
    wpAny (model X.prog X.w) A (setItem (.ref a) u r) Q E s := by
  rcases g with ⟨kvs, k, e, ey, l, eH⟩ | ⟨kvs, k, b, e, ey, eb, l, eH⟩
  · subst ey eH
    obtain ⟨z, hd, vs, rel, dd⟩ := dk_of I.hok e
    have hz : vs.length ≤ sizeLine := by rw [← rel.length]; exact z
    have hl : (putK kvs k v).length ≤ sizeLine := by have := length_putK kvs k v; omega
    refine wpAny_setItem_pairs (hsz := hz) (kV_is ry) dd fun h' dd' hs => h _ ?_
    have he : ∃ q, h'.get? a = some q := let ⟨q, _, _, hq, _⟩ := dd'; ⟨q, hq⟩
    exact d_write I (by rw [e]; exact True.intro) hs he (dk_new hl hd (rel.put k rv) dd')
  · subst ey eH
    cases (show u = Value.ref b from ry)
    obtain ⟨z, hd, xs, rel, dd⟩ := dt_of I.hok e
    have hz : xs.length ≤ sizeLine := by rw [← Paired.length rel]; exact z
    have hl : (putK kvs k v).length ≤ sizeLine := by have := length_putK kvs k v; omega
    refine wpAny_setItem_heap (hsz := hz) (tupleKind_room_in1 hu) (key_of I.hok eb) dd fun h' dd' hs => h _ ?_
    obtain ⟨q, es, ep, hq, h2, h3, h4, _, h5⟩ := dd'
    refine d_write I (by rw [e]; exact True.intro) hs ⟨q, hq⟩ ⟨hl, hd, _, (rel.put k eb rv).keeps fun c ys ec => ?_, q, es, ep, hq, h2, h3, h4, h5⟩
    rw [upd_ne (ne_of ec e (fun z => nomatch z))]
    exact ec
end

section
variable {X : Cx} {pins : List (Addr × Obj)} {σ : St} {H : Hp} {s : Shared} {a : Addr} {kvs : List (Key × V)} {k : Key} {u : Value} {A : Around} {E : Value → Shared → Prop}
end


/-! ### readings and rules -/
/-- the element of a subscription, not a slice -/
def NoSl (i : Expr) : Prop := ∀ ov iv, subscripted i false ov iv = operate [ov, iv] (getItem ov iv)
theorem subD_of {prog : Program} {w : World} {A : Around} {E : Value → Shared → Prop} {s : Shared} {env : Env} {value slice : Expr} {pos : Pos} {T id : String} {Q : Value → Shared → Prop}
    (hl : typeLookup (.type T) "__getitem__" = pure (some (.builtin id))) (hs : NoSl slice)
    (h : wpAny (model prog w) A (eval value env) (fun o s₁ => wpAny (model prog w) A (eval slice env) (fun i s₂ => s₂.TypeIs o T ∧ wpAny (model prog w) A (getItem o i) Q E s₂) E s₁) E s) :
    wpAny (model prog w) A (eval (.Subscript value slice pos) env) Q E s := by
  refine Subscript_ (wpAny_mono h (fun o s₁ h₁ => wpAny_mono h₁ (fun i s₂ h₂ => ?_) fun _ _ x => x) fun _ _ x => x)
  obtain ⟨hT, h₂⟩ := h₂
  unfold subscriptTail
  refine wpAny_bind ?_
  rw [getitemInPython_of_ne hT.not_modules]
  refine wpAny_bind (wpAny_specialOf hT hl ?_)
  have fin : wpAny (model prog w) A (subscripted slice false o i) (fun r s₃ => wpAny (model prog w) A (letTemporaryGo value o r >>= fun _ => pure r) Q E s₃) E s₂ := by
    rw [hs o i]
    exact wpAny_operating (wpAny_mono h₂ (fun r s₃ h₃ => wpAny_bind (wpAny_letTemporaryGo (wpAny_pure h₃))) fun _ _ x => x)
  first
    | exact wpAny_pure (wpAny_bind fin)
    | exact wpAny_bind (wpAny_pure (wpAny_bind fin))
    | exact wpAny_bind fin

theorem dict_typeIs {X : Cx} {pins : List (Addr × Obj)} {σ : St} {H : Hp} {s : Shared} {a : Addr} {y : V} {o : Option V} (I : Inv X pins σ H s) (g : DGet H a y o) : s.TypeIs (.ref a) "dict" := by
  rcases g with ⟨kvs, k, e, _, _⟩ | ⟨kvs, k, b, e, _, _, _⟩
  · obtain ⟨_, _, vs, _, dd⟩ := dk_rd I.hok e
    exact dd.typeIs
  · obtain ⟨_, _, xs, _, dd⟩ := dt_rd I.hok e
    exact dd.typeIs

/-- d[y] -/
def tDGet (td ty : TE) : TE := fun σ H Q => td σ H fun x H1 => ty σ H1 fun y H2 => ∃ a v, x = .ref a ∧ DGet H2 a y (some v) ∧ Q v H2
def tDNotIn (ty td : TE) : TE := fun σ H Q => ty σ H fun y H1 => td σ H1 fun x H2 => ∃ a o, x = .ref a ∧ DGet H2 a y o ∧ Q (.bl (!o.isSome)) H2
/-- d[y] = v -/
def sDPut (td ty tv : TE) : TS := fun D σ H => tv σ H fun v H1 => td σ H1 fun x H2 => ty σ H2 fun y H3 => ∃ a H4, x = .ref a ∧ DPut H3 a y v H4 ∧ D.nx σ H4

section
variable {X : Cx} {o i e value : Expr} {pos pos' tpos : Pos} {td ty tv : TE}
theorem pe_dget (hu : X.A.units + 1 < cLine) (ho : PE X o td) (hi : PE X i ty) (hs : NoSl i) : PE X (.Subscript o i pos) (tDGet td ty) := by
  intro pins s σ H Q I h
  refine subD_of PySem.F.slot_dict_getitem.lookup hs (thn (ho pins s σ H _ I h) fun u s1 ⟨x, H1, I1, rx, q1⟩ => thn (hi pins s1 σ H1 _ I1 q1) fun iv s2 ⟨y, H2, I2, ry, a, v, ex, g, q2⟩ => ?_)
  subst ex
  obtain rfl : u = Value.ref a := rx
  exact ⟨dict_typeIs I2 g, d_getItem hu I2 g ry fun w' s3 I3 rw' => ⟨v, H2, I3, rw', q2⟩⟩
theorem pc_dnotin (hu : X.A.units + 1 < cLine) (hi : PE X i ty) (ho : PE X o td) : PC X .NotIn i o (tDNotIn ty td) := by
  intro pins s σ H Q I h
  refine thn (hi pins s σ H _ I h) fun iv s1 ⟨y, H1, I1, ry, q1⟩ => thn (ho pins s1 σ H1 _ I1 q1) fun u s2 ⟨x, H2, I2, rx, a, ov, ex, g, q2⟩ => ?_
  subst ex
  obtain rfl : u = Value.ref a := rx
  exact d_notIn hu I2 g ry fun s3 I3 => ⟨.bl (!ov.isSome), H2, I3, rfl, q2⟩
theorem ps_dput (hu : X.A.units + 1 < cLine) (ho : PE X o td) (hi : PE X i ty) (hv : PE X value tv) (hs : swapsWith value (some (.Subscript o i pos')) pos.line X.env = pure false) :
    PS X (.Assign [.Subscript o i pos'] value pos) (sDPut td ty tv) := by
  intro pins s σ H D I h
  refine wpAny_Assign_Subscript (thn (hv pins s σ H _ I h) fun r s1 ⟨v, H1, I1, rv, q1⟩ => thn (ho pins s1 σ H1 _ I1 q1) fun u s2 ⟨x, H2, I2, rx, q2⟩ => thn (hi pins s2 σ H2 _ I2 q2) fun iv s3 ⟨y, H3, I3, ry, a, H4, ex, g, q3⟩ => ?_) hs
  subst ex
  obtain rfl : u = Value.ref a := rx
  exact d_setItem hu I3 g ry rv fun s4 I4 => ⟨σ, H4, I4, q3⟩
end


/-! ### displays -/
theorem dk_empty {P : Program} {w : World} {H : Hp} (h : Heap) (hb : sysModules < h.objs.size) : ObjOk P w H (h.push { cls := .type "dict", data := .dict #[] }) h.objs.size (.dK []) :=
  ⟨Nat.zero_le _, beq_eq_false_iff_ne.mpr (Ne.symm (Nat.ne_of_lt hb)), [], .nil, Heap.DictOf.new h⟩
/-- {}, to be a dict of the kind that is wanted -/
def tDNewK : TE := fun _ H Q => ∀ p, H p = none → Q (.ref p) (upd H p (.dK []))
section
variable {X : Cx} {pos : Pos}
theorem pe_dnewK : PE X (.Dict [] [] pos) tDNewK := fun pins s σ H Q I h =>
  wpAny_Dict_empty ⟨.ref s.heap.objs.size, _, I.laid (a := s.heap.objs.size) (o := .dK []) (t' := s.toks) (fun _ _ q => Heap.get?_push_of_some _ q) (Nat.le_refl _) (dk_empty s.heap I.big), rfl, h _ (I.hok.fresh (Nat.le_refl _))⟩
end




/-! ### methods -/
/-- a method call o.m(e) of a built-in, with one argument: what must be seen of the text -/
structure M1 (X : Cx) (o : Expr) (m : Str) (apos : Pos) (e : Expr) (cpos : Pos) : Prop where
  base : attributeBase o m X.env (eval o X.env) = eval o X.env
  few : ((backTo cpos (starEach [e] X.env)).all (fun x => !x.1) && (backToKw cpos (keywordEach [] X.env)).all (fun x => x.1.isSome)
    && decide (([e] : List Expr).length + ([] : List Keyword).length + (if ([] : List Keyword).isEmpty then 0 else 1) < 30)) = true
  line : (apos.endLine == cpos.line) = true
  trees : backTo cpos (starEach [e] X.env) = [(false, eval e X.env)]
structure M2 (X : Cx) (o : Expr) (m : Str) (apos : Pos) (e f : Expr) (cpos : Pos) : Prop where
  base : attributeBase o m X.env (eval o X.env) = eval o X.env
  few : ((backTo cpos (starEach [e, f] X.env)).all (fun x => !x.1) && (backToKw cpos (keywordEach [] X.env)).all (fun x => x.1.isSome)
    && decide (([e, f] : List Expr).length + ([] : List Keyword).length + (if ([] : List Keyword).isEmpty then 0 else 1) < 30)) = true
  line : (apos.endLine == cpos.line) = true
  trees : backTo cpos (starEach [e, f] X.env) = [(false, eval e X.env), (false, eval f X.env)]


section
variable {X : Cx} {pins : List (Addr × Obj)} {σ : St} {H : Hp} {s : Shared} {a : Addr} {y d : V} {u r : Value} {o : Option V} {A : Around} {E : Value → Shared → Prop}
end

section
variable {X : Cx} {o e f : Expr} {apos cpos : Pos} {td ty tx : TE}
end

/-! ### dict(d): a copy -/
section
variable {X : Cx} {pins : List (Addr × Obj)} {σ : St} {H : Hp} {s : Shared} {a : Addr} {kvs : List (Key × V)} {A : Around} {E : Value → Shared → Prop}
end


section
variable {X : Cx} {pins : List (Addr × Obj)} {σ : St} {H : Hp} {s : Shared} {a : Addr} {y : V} {u : Value} {A : Around} {E : Value → Shared → Prop}
end
end L2

namespace Att
open PySem PySem.W PySem.Calls PyProof.Rows

/-! ### the script -/
theorem ints_of_wellAll {P : Params} {h : Heap} : ∀ (ns : List Int) (vs : List Value), WellAll P h vs (ns.map WData.int) → IntsAre vs ns := by
  intro ns
  induction ns with
  | nil =>
    intro vs w
    rw [List.map_nil] at w
    cases w
    exact .nil
  | cons n ns ih =>
    intro vs w
    rw [List.map_cons] at w
    cases w with
    | cons a b =>
      cases a
      exact .cons _ _ (ih _ b)

theorem script_of {l : OpenLaw} {n : Nat} (hn : l.most = some n) {P : Params} {h : Heap} {args : List WData} {vals : List Value}
    (hpre : l.row.toRowW.claim.pre args = true) (hwl : WellAll P h vals args) :
    ∃ a vs ns, vals = [Value.ref a] ∧ args = [WData.list (ns.map WData.int)] ∧ h.get? a = some { cls := .type "list", data := .seq vs.toArray } ∧ IntsAre vs ns ∧ ns.length ≤ n := by
  have hsh : WShape.hasAll [] args [.list .int] = true := (pre_splitW hpre).1
  have hc : l.pre.holds [] { args := args } = true := (pre_splitW hpre).2
  obtain ⟨d, r, rfl, h1, h2⟩ := hasAllW_cons hsh
  obtain rfl := hasAllW_nil h2
  obtain ⟨xs, rfl, h3⟩ := hasW_list h1
  obtain ⟨ns, rfl⟩ := items_int h3
  have hlen : ns.length ≤ n := by
    unfold OpenLaw.pre at hc
    have h4 : (WTm.not (.lt (.lit (.int (n : Int))) (.len (.arg 0)))).holds [] { args := [.list (ns.map .int)] } = true := by
      have h4 := (holds_andW hc).1
      rw [hn] at h4
      exact h4
    have h5 := condW_of h4 (w_not (w_lt w_lit (w_len_list (w_arg rfl))))
    rw [List.length_map] at h5
    refine Nat.le_of_not_lt fun q => ?_
    have q' : (n : Int) < ((ns.length : Nat) : Int) := by omega
    first
      | (rw [decide_eq_true q'] at h5; exact absurd h5 (by decide))
      | (simp at h5; omega)
  cases hwl with
  | cons w1 w2 =>
    cases w2
    cases w1 with
    | list ho hall => exact ⟨_, _, ns, rfl, rfl, ho, ints_of_wellAll ns _ hall, hlen⟩

theorem post_true (l : OpenLaw) (args : List WData) : l.row.toRowW.claim.post args (.bool true) args = true :=
  postW_of (r := l.row.toRowW) (X := (true == true))
    (show WShape.has [] (.bool true) .bool = true by first | rfl | decide | simp [WShape.has, WShape.arms, WShape.armsAll])
    (show (WTm.eq .res (.lit (.bool true))).value [] { args := args, res := some (.bool true), after := args } = some (.bool (true == true)) from w_eq_bool (w_res rfl) w_lit) rfl

/-! ### the attachment: holds_open's last premise (the goal 'hc' behind k_head) from a wpAny of the law's body -/



/-! ### rules over ANY heap (no ledger) from facts about the written part K: the library's own take a ledger (News) for what they write -/
section
variable {prog : Program} {w : World} {A : Around} {E : Value → Shared → Prop} {s : Shared} {K : Frag}





/-! the whole heap as the ledger: makes every rule that writes through a ledger a rule over any heap -/
def ledger (h : Heap) (L d : Addr) : List (Addr × Obj) := (List.range h.objs.size).filterMap fun a => if a = L ∨ a = d then none else (h.get? a).map fun o => (a, o)

end
end Att

namespace L2
open PySem PySem.Spec PyProof.Rows

theorem vals_ints : ∀ {vs : List Value} {ns : List Int}, IntsAre vs ns → Vals (ns.map V.int) vs
  | _, _, .nil => .nil
  | _, _, .cons n t h => .cons ⟨t, rfl⟩ (vals_ints h)

/-- nothing is tracked but the script, known to the object (or it is an object of the module) -/
def Only (H : Hp) : Prop := ∀ b, H b = none ∨ ∃ o xs, H b = some (.frz o (.lst xs))

/-- THE HEAD: the law's promise, at the heap behind the top. F, the promise of the law's def, may use that base is part of the heap (so K.In base, base.Ns mainGlobals mg stand in Mod) -/
theorem law_call {P : Program} {w : World} {K : PySem.W.Frag} {mg mb : Str → Option Value} {CX : CXT} {k : Nat} {fa a : Addr} {fd : FuncData} {x : Str} {sp : Sp} {s₁ : Shared} {vs : List Value} {ns : List Int}
    (KX : K.In s₁.heap) (hns : s₁.heap.Ns mainGlobals mg) (hb : s₁.heap.Ns builtinsNs mb) (hbb : ∀ x : Str, x ≠ "__name__" → mb x = bootBuiltins x) (hlim : s₁.heap.NoLimit) (hg : s₁.gens = #[])
    (ha : s₁.heap.get? a = some { cls := .type "list", data := .seq vs.toArray }) (hi : IntsAre vs ns) (hl : ns.length ≤ sizeLine) (hr : Room k callerA)
    (F : ∀ base : Heap, K.In base → base.Ns mainGlobals mg → FnOk P w K mg base CX k fa fd [x] sp) (hbind : ∀ (s : Shared) (u : Value), BindsTo s fd ⟨[u], []⟩ [(x, u)])
    (hsp : ∀ H : Hp, Only H → SqL K H a (ns.map V.int) → sp [.ref a] H (fun v _ => v = .bl true) fun _ _ _ => False)
    (hCX : ∀ H e s', CX [] H s₁ (fun _ _ _ => False) e s' → False) :
    codeAny (model P w) callerA (.call (.ref fa) ⟨[.ref a], []⟩) (fun r s' => r = .ok (.ret (.bool true)) ∧ OldK s₁.heap s'.heap ∧ s'.os = s₁.os ∧ AllBare s'.gens) s₁ := by
  have rv := vals_ints hi
  have lenV := hi.length
  -- from an abstract heap in which nothing but the script may be tracked
  have core : ∀ H : Hp, Only H → SqL K H a (ns.map V.int) → HOk P w H s₁.heap → (∀ b, H b ≠ none → b = a) → (H a ≠ none → K.lookup a = none) →
      codeAny (model P w) callerA (.call (.ref fa) ⟨[.ref a], []⟩) (fun r s' => r = .ok (.ret (.bool true)) ∧ OldK s₁.heap s'.heap ∧ s'.os = s₁.os ∧ AllBare s'.gens) s₁ := by
    intro H hO hS hok hA hK
    have base_of : ∀ {b : Addr} {o : Obj}, s₁.heap.get? b = some o → H b = none → (hidT s₁.heap H).get? b = some o := fun e n => hidT_get e n
    have noA : ∀ {b : Addr} {o : Obj} {es : Array DictEntry} {ep : Nat}, s₁.heap.get? b = some o → o.data = .dict es ep → H b = none := fun {b o es ep} e d => by
      cases q : H b with
      | none => rfl
      | some u =>
        have e' : b = a := hA b (by rw [q]; simp)
        subst e'
        rw [ha] at e; cases e
        have d' : Data.seq vs.toArray _ = Data.dict es ep := d
        cases d'
    have nsK : ∀ {b : Addr} {m : Str → Option Value}, s₁.heap.Ns b m → (hidT s₁.heap H).Ns b m := fun {b m} ⟨o, es, ep, e, d, r⟩ => ⟨o, es, ep, base_of e (noA e d), d, r⟩
    have hKb : K.In (hidT s₁.heap H) := fun b o e => base_of (KX b o e) (by
      cases q : H b with
      | none => rfl
      | some u =>
        have e' : b = a := hA b (by rw [q]; simp)
        subst e'
        rw [hK (by rw [q]; simp)] at e; cases e)
    have hM : Mod K mg (hidT s₁.heap H) := ⟨hKb, nsK hns, ⟨mb, nsK hb, hbb⟩, let ⟨mc, h1, h2⟩ := hlim; ⟨mc, nsK h1, h2⟩⟩
    have e0 : Env0 P w K mg (hidT s₁.heap H) callerA [] s₁ H := ⟨rfl, hM, fun b o e => of_hidT e, Nat.le_of_eq (hidT_size _ _), trivial, fun b hb => absurd (show b ∈ ([] : List Addr) from hb) (by simp), hok, .of_eq hg⟩
    refine codeAny_mono ((F _ hKb (nsK hns)).run callerA [] s₁ H ⟨[.ref a], []⟩ [.ref a] [.ref a] _ _ hr e0 (hbind s₁ (.ref a)) (.cons rfl .nil) (hsp H hO hS)) fun r s' h => ?_
    cases r with
    | error e => exact (hCX H e s' h).elim
    | ok fl =>
      cases fl with
      | next => exact False.elim h
      | brk => exact False.elim h
      | cont => exact False.elim h
      | ret u =>
        obtain ⟨v, H', os, bare, un, hok', r', q⟩ := h
        have q' : v = .bl true := q
        subst q'
        obtain rfl : u = Value.bool true := r'
        refine ⟨rfl, OldK.of_keep fun b o e => ?_, os, bare⟩
        cases q : H b with
        | none => exact un.keep b o e q (by intro z; exact absurd (show b ∈ ([] : List Addr) from z) (by simp)) (by simp)
        | some u =>
          rcases hO b with z | ⟨ob, xs, z⟩
          · rw [q] at z; cases z
          · have z2 := un.frzs b ob _ z
            obtain ⟨e1, _⟩ := hok b _ z
            obtain ⟨e2, _⟩ := hok' b _ z2
            rw [e] at e1; cases e1
            exact e2
  cases hk : K.lookup a with
  | some o =>
    -- the script is one of the module's own objects
    have e := KX a o hk
    rw [ha] at e
    cases e
    refine core (fun _ => none) (fun _ => .inl rfl) (.inr ⟨_, vs.toArray, _, hk, rfl, rfl, rfl, by rw [List.size_toArray, lenV]; exact hl, by simpa using rv⟩) (fun b u z => by have z' : (none : Option HO) = some u := z; cases z') (fun b z => absurd rfl z) fun z => absurd rfl z
  | none =>
    refine core (fun b => if b = a then some (.frz { cls := .type "list", data := .seq vs.toArray } (.lst (ns.map V.int))) else none) (fun b => ?_) (.inl (.inr ⟨{ cls := .type "list", data := .seq vs.toArray }, if_pos rfl⟩)) (fun b u z => ?_) (fun b z => ?_) fun _ => hk
    · by_cases hb : b = a
      · exact .inr ⟨_, _, if_pos hb⟩
      · exact .inl (if_neg hb)
    · by_cases hb : b = a
      · have z' := (if_pos hb).symm.trans z
        cases z'
        subst hb
        exact ⟨ha, by rw [List.length_map]; exact hl, vs, _, rv, ha⟩
      · have z' := (if_neg hb).symm.trans z
        cases z'
    · by_cases hb : b = a
      · exact hb
      · exact absurd (if_neg hb) z
end L2

namespace L2
open PySem PySem.Spec PyProof.Rows


end L2

/- THE LAST THEOREM (shape; LID, My.* are yours):
   My.Adr: a structure of the addresses that your layer names (classes, functions); My.Txt K t: a structure (Prop) of the equations over K;
   My.txt_mk : {K} {implicit addresses ..} (e1 : nsIn K mainGlobals "law" = some (some (.ref f))) (e2 : K.lookup f = some ⟨oc, od, .func (fnOf "law" "law" params body scope dV kV doc pm an cdv ct), sl⟩) (e3 : codeIn K cdv "law" = true) .. : ∃ t, My.Txt K t

(the tactic k_is has no namespace: write k_is) -/

/-! SHORT WORDS over the layer: a def of the text, its body, what a loop and a test want. -/
namespace L2
open PySem PySem.Spec PyProof.Rows

/-! ### the text by places -/
def defArgs (s : Stmt) : Arguments := match s with
  | .FunctionDef _ a _ _ _ _ _ _ _ _ => a
  | _ => { posonlyargs := [], args := [], vararg := none, kwonlyargs := [], kw_defaults := [], kwarg := none, defaults := [] }
def defBody (s : Stmt) : List Stmt := match s with
  | .FunctionDef _ _ b _ _ _ _ _ _ _ => b
  | _ => []
def defScope (s : Stmt) : Scope := match s with
  | .FunctionDef _ _ _ _ _ _ sc _ _ _ => sc
  | _ => { kind := .function, names := [], isGenerator := false, isCoroutine := false }

/-! ### no exception leaves a def -/
abbrev CX0 : CXT := fun _ _ _ _ _ _ => False
abbrev E0 : XK := fun _ _ _ => False
theorem pass0 {X : Cx} : Passes CX0 X E0 := fun _ _ _ _ _ _ _ h => h.elim

/-! ### a def (or method) of the text as it stands behind the top -/
structure Fun (K : PySem.W.Frag) (x qual : Str) (st : Stmt) (f : Addr) (fd : FuncData) : Prop where
  ex : ∃ (oc : Value) (od : Option Addr) (kV doc pm : Value) (an : Option Addr) (cdv ct : Value) (osl : Array (Option Value)),
    fd = PySem.W.fnOf x qual (defArgs st) (defBody st) (defScope st) .none kV doc pm an cdv ct ∧ K.lookup f = some ⟨oc, od, .func fd, osl⟩ ∧ PySem.W.codeIn K cdv qual = true
  kp : PySem.W.keepIn K (.ref f) = true
section
variable {P : Program} {w : World} {K : PySem.W.Frag} {mg : Str → Option Value} {base : Heap}
/-- THE RULE for a def: its body as a term of rules, and the reading of that term -/
theorem Fun.ok {x qual : Str} {st : Stmt} {f : Addr} {fd : FuncData} {N ps : List Str} {k : Nat} {sp : Sp} (F : Fun K x qual st f fd) (S : FnScope N ps (defScope st)) (len : ∀ vs H Q E, sp vs H Q E → vs.length = ps.length)
    (hbody : ∀ (cdv : Value) (A : Around) (outer : List Env) (s : Shared) (H : Hp) (vs : List V) (Q : VK) (E : XK), Room k (A.deeper (envOfC qual (defScope st) s.heap.objs.size f cdv)) → sp vs H Q E →
      ∃ t, PSs (cxOf CX0 P w K mg base N qual (defScope st) f cdv A outer s H E).nox (defBody st) t ∧ t { nx := fun _ H' => Q .non H', rt := Q } (start N vs) H) : FnOk P w K mg base CX0 (k + 1) f fd ps sp := by
  obtain ⟨oc, od, kV, doc, pm, an, cdv, ct, osl, rfl, lk, hcd⟩ := F.ex
  refine fn_of lk hcd S len fun A outer s H vs Q E hr hsp => ?_
  obtain ⟨t, h, q⟩ := hbody cdv A outer s H vs Q E hr hsp
  exact ⟨t, h.nox, q⟩
/-- how its arguments bind (no defaults): h is «fun _ _ _ _ _ _ us hl => match us, hl with | [_, _], _ => rfl», one _ a parameter -/
theorem Fun.binds {x qual : Str} {st : Stmt} {f : Addr} {fd : FuncData} {ps : List Str} (F : Fun K x qual st f fd)
    (h : ∀ (kV doc pm : Value) (an : Option Addr) (cdv ct : Value) (us : List Value), us.length = ps.length → bindArgs (PySem.W.fnOf x qual (defArgs st) (defBody st) (defScope st) .none kV doc pm an cdv ct) ⟨us, []⟩ = pure (ps.zip us)) : Binds K fd ps [] := by
  obtain ⟨oc, od, kV, doc, pm, an, cdv, ct, osl, rfl, lk, hcd⟩ := F.ex
  exact .all (h kV doc pm an cdv ct)
theorem fun_mk {x qual : Str} {st : Stmt} {f : Addr} {oc : Value} {od an : Option Addr} {osl : Array (Option Value)} {kV doc pm cdv ct : Value} (l : K.lookup f = some ⟨oc, od, .func (PySem.W.fnOf x qual (defArgs st) (defBody st) (defScope st) .none kV doc pm an cdv ct), osl⟩)
    (c : PySem.W.codeIn K cdv qual = true) (k : PySem.W.keepIn K (.ref f) = true) : Fun K x qual st f (PySem.W.fnOf x qual (defArgs st) (defBody st) (defScope st) .none kV doc pm an cdv ct) := ⟨⟨oc, od, kV, doc, pm, an, cdv, ct, osl, rfl, l, c⟩, k⟩
end
theorem hu_of {A : Around} {k : Nat} (hr : Room k A) : A.units + 1 < cLine := Nat.lt_of_le_of_lt (Nat.add_le_add_left (by decide : 1 ≤ 64) _) hr.units
theorem small1000 {n : Nat} (h : n ≤ 1000) : n < sizeLine := Nat.lt_of_le_of_lt h (by decide)

/-! ### expressions in short: the name that stands in the i-th slot -/
section
variable {X : Cx}
theorem pv (i : Nat) {x : Str} {pos : Pos} (hN : X.N[i]? = some x := by rfl) (hv : Vis X.env.scope x := by first | exact Or.inl rfl | exact Or.inr (Or.inl rfl) | exact Or.inr (Or.inr rfl)) (hd : (x == ("__debug__" : Str)) = false := by decide)
    (hcd : (x == ("__classdict__" : Str)) = false := by decide) : PE X (.Name x pos) (tVar i) := pe_var hN hv hd hcd
end

/-! ### tests -/
theorem iteF {A B : Prop} (h : B) : if false = true then A else B := by
  rw [if_neg Bool.false_ne_true]
  exact h
theorem iteT {A B : Prop} (h : A) : if true = true then A else B := by
  rw [if_pos rfl]
  exact h
theorem ite2 {c A B : Prop} [Decidable c] (h1 : c → A) (h2 : ¬ c → B) : if c then A else B := by
  by_cases h : c
  · rw [if_pos h]
    exact h1 h
  · rw [if_neg h]
    exact h2 h

/-! ### heaps -/
/-- all that was tracked is as it was -/
def Same (H H' : Hp) : Prop := ∀ b o, H b = some o → H' b = some o
theorem Same.refl (H : Hp) : Same H H := fun _ _ h => h
theorem Same.trans {H H1 H2 : Hp} (a : Same H H1) (b : Same H1 H2) : Same H H2 := fun c o h => b c o (a c o h)
theorem Same.free {H H' : Hp} (e : Same H H') {l : Addr} (h : H' l = Option.none) : H l = Option.none := by
  cases q : H l with
  | none => rfl
  | some o =>
    rw [e l o q] at h
    cases h
theorem Same.seq {K : PySem.W.Frag} {H H' : Hp} {a : Addr} {xs : List V} (e : Same H H') (h : SqL K H a xs) : SqL K H' a xs := by
  rcases h with (h | ⟨o, h⟩) | h
  · exact .inl (.inl (e _ _ h))
  · exact .inl (.inr ⟨o, e _ _ h⟩)
  · exact .inr h

section
variable {X : Cx}
end
/-! ### a dict's pairs: keys that differ -/
section
variable {κ : Type} [DecidableEq κ]
end
end L2

set_option Elab.async false
set_option linter.all false
set_option maxRecDepth 100000
set_option maxHeartbeats 4000000
/-! Rules of our own over the hand layer, part 1: the head with the script's bits, big products, list comprehensions. -/
namespace Att
open PySem PySem.W PySem.Calls PyProof.Rows
theorem bits_item {ns : List Int} {z : Int} (h : (WData.list (ns.map WData.int)).layable = true) (hz : z ∈ ns) : Builtin.Int.intBits z ≤ 2 ^ 20 := by
  have h1 := layableW_item h (WData.int z) (List.mem_map.mpr ⟨z, hz, rfl⟩)
  obtain ⟨_, _, h3⟩ := layableW_iff.mp h1
  simpa only [WData.weight, Builtin.Int.intBits] using h3
theorem attach_callB {l : OpenLaw} {n : Nat} {q : Program} {loose : List Str} {XP : (Str → Option Value) → Heap → Prop} {YP : World → Heap → Prop} {d : DefRec}
    (hn : l.most = some n) (hdf : d.params.defaults = [])
    (call : ∀ (w : World) (s₀ s₁ : Shared) (mg mb : Str → Option Value) (fa : Addr) (o : Obj) (pm cd doc : Value) (a : Addr) (vs : List Value) (ns : List Int),
      Ground q loose [] XP w s₀ mg mb s₁.heap → YP w s₁.heap →
      s₁.heap.get? fa = some o → o.data = .func (docDef d.name d.params d.body d.scope pm cd doc) → s₁.heap.CodeRec cd d.name → mg d.name = some (.ref fa) →
      s₁.heap.get? a = some { cls := .type "list", data := .seq vs.toArray } → IntsAre vs ns → ns.length ≤ n → (∀ z ∈ ns, Builtin.Int.intBits z ≤ 2 ^ 20) → s₁.gens = #[] →
      codeAny (model l.prog w) callerA (.call (.ref fa) ⟨[.ref a], []⟩) (fun r s' => r = .ok (.ret (.bool true)) ∧ OldK s₁.heap s'.heap ∧ s'.os = s₁.os ∧ AllBare s'.gens) s₁) :
    WalkO q loose XP YP l.row.toRowW d [] (fun f vs => PySem.call f vs) := by
  intro w s₀ s₁ mg mb G Y fa o pm cd doc dV kV ho hd hcd hD hmg hg args vals as hpre hlay hrd hwl hlo
  obtain rfl : dV = .none := Dflts.none hD hdf
  obtain rfl : kV = .none := Dflts.noKw hD
  obtain ⟨a, vs, ns, rfl, rfl, hobj, hints, hlen⟩ := script_of hn hpre hwl
  have hbits : ∀ z ∈ ns, Builtin.Int.intBits z ≤ 2 ^ 20 := fun z hz => bits_item (layableW_arg hlay _ List.mem_cons_self) hz
  refine enter_call (codeAny_mono (call w s₀ s₁ mg mb fa o pm cd doc a vs ns G Y ho (fd_plain hd) hcd hmg hobj hints hlen hbits hg) fun r s' hq => ?_)
  obtain ⟨rfl, h2, h3, h4⟩ := hq
  exact ⟨.inl ⟨.bool true, .bool true, [], rfl, fun _ => rfl, .bool true, post_true l _, fun _ => ⟨List.Pairwise.nil, fun _ hm => (nomatch hm)⟩⟩, h2, h3, h4⟩
end Att

namespace L2
open PySem PySem.Spec PyProof.Rows
/-- the goal that k_head leaves, from the law's promise; the script's ints are of at most 2^20 bits -/
theorem walk_ofB {l : PySem.W.OpenLaw} {n k : Nat} {q : Program} {loose : List Str} {XP : (Str → Option Value) → Heap → Prop} {YP : World → Heap → Prop} {d : DefRec} {K : Params → PySem.W.Frag} {CX : CXT} {sp : PySem.W.Frag → Sp} {x : Str}
    (hn : l.most = some n) (hn2 : n ≤ sizeLine) (hdf : d.params.defaults = []) (hr : Room k callerA)
    (hY : ∀ (w : World) (h : Heap), YP w h → (K w.params).In h)
    (F : ∀ (w : World) (mg : Str → Option Value) (fa : Addr) (h : Heap), (K w.params).In h → h.Ns mainGlobals mg → mg d.name = some (.ref fa) →
      ∃ fd : FuncData, (∀ (s : Shared) (u : Value), BindsTo s fd ⟨[u], []⟩ [(x, u)]) ∧
        ∀ base : Heap, (K w.params).In base → base.Ns mainGlobals mg → FnOk l.prog w (K w.params) mg base CX k fa fd [x] (sp (K w.params)))
    (hsp : ∀ (K : PySem.W.Frag) (H : Hp) (a : Addr) (ns : List Int), ns.length ≤ n → (∀ z ∈ ns, Builtin.Int.intBits z ≤ 2 ^ 20) → Only H → SqL K H a (ns.map V.int) → sp K [.ref a] H (fun v _ => v = .bl true) fun _ _ _ => False)
    (hCX : ∀ (H : Hp) (s : Shared) (e : Value) (s' : Shared), CX [] H s (fun _ _ _ => False) e s' → False) :
    PySem.W.WalkO q loose XP YP l.row.toRowW d [] (fun f vs => PySem.call f vs) := by
  refine Att.attach_callB hn hdf fun w s₀ s₁ mg mb fa o pm cd doc a vs ns G Y ho hd hcd hmg hobj hints hlen hbits hg => ?_
  have KX := hY w _ Y
  obtain ⟨fd, hb, hF⟩ := F w mg fa _ KX G.T.g hmg
  exact law_call KX G.T.g G.T.b G.T.builtins G.T.nolimit hg hobj hints (Nat.le_trans hlen hn2) hr hF hb (fun H hO hS => hsp (K w.params) H a ns hlen hbits hO hS) fun H e s' => hCX H s₁ e s'

/-! ### bits -/
theorem bits_lt {i : Int} {n : Nat} (h : i.natAbs < 2 ^ n) : Builtin.Int.intBits i ≤ n := by
  unfold Builtin.Int.intBits
  split
  · exact Nat.zero_le _
  · rename_i h0
    have hp : i.natAbs ≠ 0 := by
      intro z
      apply h0
      rw [Int.natAbs_eq_zero.mp z]
      rfl
    have := (Nat.log2_lt hp).mpr h
    omega
theorem lt_bits (i : Int) : i.natAbs < 2 ^ Builtin.Int.intBits i := by
  unfold Builtin.Int.intBits
  split
  · rename_i h0
    have e : i = 0 := by simpa using h0
    subst e
    decide
  · exact Nat.lt_log2_self
theorem bits_mono {i : Int} {n m : Nat} (h : i.natAbs < 2 ^ n) (hm : n ≤ m) : i.natAbs < 2 ^ m := Nat.lt_of_lt_of_le h (Nat.pow_le_pow_right (by decide) hm)
theorem mulOk_of {a b : Int} {n m : Nat} (ha : a.natAbs < 2 ^ n) (hb : b.natAbs < 2 ^ m) (h : n + m ≤ 2 ^ 22) : IntMulOk a b := by
  have h1 := bits_lt ha
  have h2 := bits_lt hb
  have e : (2 : Nat) ^ 22 = 4194304 := by decide
  have hz : Builtin.Int.intTooBig (Builtin.Int.intBits a + Builtin.Int.intBits b) = false := by
    unfold Builtin.Int.intTooBig bitsLine
    exact decide_eq_false (by omega)
  unfold IntMulOk
  rw [hz]
  simp
theorem natAbs_mul_lt {a b : Int} {n m : Nat} (ha : a.natAbs < 2 ^ n) (hb : b.natAbs < 2 ^ m) : (a * b).natAbs < 2 ^ (n + m) := by
  rw [Int.natAbs_mul, Nat.pow_add]
  exact Nat.mul_lt_mul'' ha hb
theorem natAbs_add_lt {a b : Int} {n : Nat} (ha : a.natAbs < 2 ^ n) (hb : b.natAbs < 2 ^ n) : (a + b).natAbs < 2 ^ (n + 1) := by
  rw [Nat.pow_succ]
  omega
section
variable {X : Cx}
/-- a * b of ints of any size that fits -/
theorem op_mulB : OpR X (binaryOp .Mult) (rI IntMulOk fun i j => .int (i * j)) := opI fun i j t u s Q E h q => mul_int q h
end

/-! ### list comprehensions -/
theorem forIn_run {α β : Type} {l : List α} {f : α → β → Sem (ForInStep β)} {g : β → α → β} : ∀ (c : β), (∀ x ∈ l, ∀ c, f x c = pure (.yield (g c x))) → forIn l c f = pure (l.foldl g c) := by
  induction l with
  | nil => intro c _; rfl
  | cons x l ih =>
    intro c h
    rw [List.forIn_cons, h x List.mem_cons_self, pure_bind]
    exact ih _ fun y hy => h y (List.mem_cons_of_mem _ hy)
def closStep (cells : List (Str × Addr)) (cs : List (Str × Addr)) (x : Str × NameKind) : List (Str × Addr) := if (x.2 == NameKind.free) = true then (x.1, (cells.lookup x.1).getD 0) :: cs else cs
def closL (cells : List (Str × Addr)) (names : List (Str × NameKind)) : List (Str × Addr) := names.foldl (closStep cells) []
theorem closureFor_run {scope : Scope} {env : Env} (h : ∀ y ∈ scope.names, y.2 = .free → ∃ c, env.cells.lookup y.1 = some c) : closureFor scope env = pure (closL env.cells scope.names) := by
  simp only [closureFor]
  rw [forIn_run (g := closStep env.cells) [] (fun x hx c => by
    obtain ⟨n, k⟩ := x
    by_cases hk : k = .free
    · subst hk
      obtain ⟨a, ha⟩ := h _ hx rfl
      have ha' : env.cells.lookup n = some a := ha
      simp only [closStep, beq_self_eq_true, if_true, cellOf, ha', Option.getD_some, pure_bind]
    · have hb : (k == NameKind.free) = false := by simpa using hk
      simp only [closStep, hb, Bool.false_eq_true, if_false])]
  rfl
theorem closL_sub {cells : List (Str × Addr)} : ∀ {names : List (Str × NameKind)} {cs : List (Str × Addr)}, (∀ y ∈ names, y.2 = .free → ∃ c, cells.lookup y.1 = some c) → (∀ x c, cs.lookup x = some c → cells.lookup x = some c) →
    ∀ x c, (names.foldl (closStep cells) cs).lookup x = some c → cells.lookup x = some c
  | [], cs, _, h, x, c, e => h x c e
  | (n, k) :: r, cs, hn, h, x, c, e => by
    refine closL_sub (names := r) (fun y hy => hn y (List.mem_cons_of_mem _ hy)) (fun x c e => ?_) x c e
    by_cases hk : k = .free
    · subst hk
      obtain ⟨a, ha⟩ := hn (n, .free) List.mem_cons_self rfl
      have ha' : cells.lookup n = some a := ha
      simp only [closStep, beq_self_eq_true, if_true, ha', Option.getD_some, List.lookup_cons] at e
      cases q : x == n with
      | true =>
        rw [q] at e
        have q' : x = n := by simpa using q
        rw [q', ha']
        exact e
      | false =>
        rw [q] at e
        exact h x c e
    · have hb : (k == NameKind.free) = false := by simpa using hk
      simp only [closStep, hb, Bool.false_eq_true, if_false] at e
      exact h x c e
theorem closL_has {cells : List (Str × Addr)} {x : Str} : ∀ {names : List (Str × NameKind)} {cs : List (Str × Addr)}, ((x, NameKind.free) ∈ names ∨ ∃ c, cs.lookup x = some c) → ∃ c, (names.foldl (closStep cells) cs).lookup x = some c
  | [], cs, h => by
    rcases h with h | h
    · cases h
    · exact h
  | (n, k) :: r, cs, h => by
    refine closL_has (names := r) (cs := closStep cells cs (n, k)) ?_
    rcases h with h | ⟨c, h⟩
    · rcases List.mem_cons.mp h with e | e
      · cases e
        right
        simp [closStep]
      · exact .inl e
    · right
      by_cases hk : k = .free
      · subst hk
        simp only [closStep, beq_self_eq_true, if_true, List.lookup_cons]
        cases x == n with
        | true => exact ⟨_, rfl⟩
        | false => exact ⟨c, h⟩
      · have hb : (k == NameKind.free) = false := by simpa using hk
        simp only [closStep, hb, Bool.false_eq_true, if_false]
        exact ⟨c, h⟩

/-- what a block's scope must be, seen from the scope around it -/
def compOk (sc osc : Scope) (fr : List Str) : Bool :=
  sc.kind == .function && (sc.names.all fun y => y.2 != .cell) && (sc.names.all fun y => y.2 != .local || sc.names.lookup y.1 == some .local) &&
  (sc.names.all fun y => y.2 != .free || (osc.names.lookup y.1 == some .cell || osc.names.lookup y.1 == some .free)) && (fr.all fun x => sc.names.lookup x == some .free)
structure CompOk (sc osc : Scope) (fr : List Str) : Prop where
  kind : sc.kind = .function
  cell : ∀ y ∈ sc.names, y.2 ≠ .cell
  loc : ∀ y ∈ sc.names, y.2 = .local → sc.names.lookup y.1 = some .local
  free : ∀ y ∈ sc.names, y.2 = .free → osc.names.lookup y.1 = some .cell ∨ osc.names.lookup y.1 = some .free
  fr : ∀ x ∈ fr, sc.names.lookup x = some .free
theorem compOk_of {sc osc : Scope} {fr : List Str} (h : compOk sc osc fr = true) : CompOk sc osc fr := by
  unfold compOk at h
  rw [Bool.and_eq_true, Bool.and_eq_true, Bool.and_eq_true, Bool.and_eq_true] at h
  obtain ⟨⟨⟨⟨h1, h2⟩, h3⟩, h4⟩, h5⟩ := h
  refine ⟨by simpa using h1, fun y hy => ?_, fun y hy e => ?_, fun y hy e => ?_, fun x hx => ?_⟩
  · simpa using List.all_eq_true.mp h2 y hy
  · have := List.all_eq_true.mp h3 y hy
    rw [e] at this
    simpa using this
  · have := List.all_eq_true.mp h4 y hy
    rw [e] at this
    simpa using this
  · simpa using List.all_eq_true.mp h5 x hx
theorem mem_of_lookup {x : Str} {k : NameKind} : ∀ {l : List (Str × NameKind)}, l.lookup x = some k → (x, k) ∈ l
  | [], h => by cases h
  | (n, j) :: r, h => by
    rw [List.lookup_cons] at h
    cases q : x == n with
    | true =>
      rw [q] at h
      have q' : x = n := by simpa using q
      cases h
      rw [q']
      exact List.mem_cons_self
    | false =>
      rw [q] at h
      exact List.mem_cons_of_mem _ (mem_of_lookup h)
/-- the names of the block, as the block sees them -/
theorem lookup_relabel_free {env : Env} : ∀ {names : List (Str × NameKind)} {x : Str}, names.lookup x = some .free →
    (names.map fun (n, k) => if (k == NameKind.free && env.scope.kind == .function && env.kindOf n == some .cell) then (n, NameKind.cell) else (n, k)).lookup x = some .cell ∨
    (names.map fun (n, k) => if (k == NameKind.free && env.scope.kind == .function && env.kindOf n == some .cell) then (n, NameKind.cell) else (n, k)).lookup x = some .free
  | [], _, h => by cases h
  | (n, k) :: r, x, h => by
    have ih := @lookup_relabel_free env r x
    show List.lookup x ((if (k == NameKind.free && env.scope.kind == .function && env.kindOf n == some .cell) = true then (n, NameKind.cell) else (n, k)) :: _) = _ ∨ List.lookup x ((if (k == NameKind.free && env.scope.kind == .function && env.kindOf n == some .cell) = true then (n, NameKind.cell) else (n, k)) :: _) = _
    rw [List.lookup_cons] at h
    by_cases hc : (k == NameKind.free && env.scope.kind == .function && env.kindOf n == some .cell) = true
    · rw [if_pos hc]
      simp only [List.lookup_cons]
      cases hx : x == n with
      | true => exact .inl rfl
      | false => rw [hx] at h; exact ih h
    · rw [if_neg hc]
      simp only [List.lookup_cons]
      cases hx : x == n with
      | true => rw [hx] at h; exact .inr h
      | false => rw [hx] at h; exact ih h

/-- the context of a comprehension's block -/
def cxComp (X : Cx) (N' : List Str) (scope : Scope) (C : Addr) (s₃ : Shared) (H₃ : Hp) (fp : List Addr) : Cx where
  prog := X.prog
  w := X.w
  K := X.K
  mg := X.mg
  base := X.base
  A := X.A
  N := N'
  s₀ := s₃
  H₀ := H₃
  env := compEnvC scope (closL X.env.cells scope.names) C X.env
  outer := X.stack
  stack := X.stack
  ex := fp
  fn := fun _ => false
  calm := X.calm
  pn := []
  xe := fun _ _ => False
/-- the block's names at its entry: own ones, then the free ones by their slots around -/
def stComp (own : Nat) (fr : List Nat) (σ : St) : St := List.replicate own none ++ fr.map fun j => (σ[j]?).getD none

section
variable {X : Cx} {pins : List (Addr × Obj)} {σ : St} {H : Hp} {s : Shared}
theorem inv_comp {N' : List Str} {own : Nat} {fr : List Nat} {scope : Scope} {fp : List Addr} {h₁ : Heap} {m : Str → Option Value} {t : Nat} {oD : Obj} (I : Inv X pins σ H s) (hf : ∀ b ∈ fp, FpOk X pins H b) (hob : ∀ b ∈ fp, ∃ o, s.heap.get? b = some o)
    (hok : CompOk scope X.env.scope (N'.drop own)) (hfr : fr.map (fun j => X.N[j]?) = (N'.drop own).map some) (hown : own ≤ N'.length)
    (hn : h₁.Ns s.heap.objs.size m) (hsb : Heap.SameBut s.heap.objs.size (s.heap.push oD) h₁) :
    Inv (cxComp X N' scope s.heap.objs.size s H fp) [] (stComp own fr σ) H { s with heap := h₁, toks := t } := by
  have cellsSub : ∀ x c, (closL X.env.cells scope.names).lookup x = some c → X.env.cells.lookup x = some c := fun x c e =>
    closL_sub (fun y hy hk => I.ok.has y.1 (hok.free y hy hk)) (fun x c e => by cases e) x c e
  have up : ∀ b o, s.heap.get? b = some o → h₁.get? b = some o := fun b o e => (hsb.2 b (Nat.ne_of_lt (Heap.lt_size e))).trans (Heap.get?_push_of_some _ e)
  have hlen : fr.length = (N'.drop own).length := by
    have := congrArg List.length hfr
    simpa using this
  have okX : (cxComp X N' scope s.heap.objs.size s H fp).Ok :=
    { mod := I.ok.mod
      kind := hok.kind
      glob := I.ok.glob
      blt := I.ok.blt
      above := Nat.le_refl _
      inj := fun x y c e1 e2 => I.ok.inj x y c (cellsSub x c e1) (cellsSub y c e2)
      has := fun x hk => by
        have hk' : (relabel scope X.env).names.lookup x = some .cell ∨ (relabel scope X.env).names.lookup x = some .free := hk
        have key : (x, NameKind.free) ∈ scope.names := by
          have all : ∀ (l : List (Str × NameKind)), (∀ y ∈ l, y.2 ≠ .cell) → ((l.map fun (n, k) => if (k == NameKind.free && X.env.scope.kind == .function && X.env.kindOf n == some .cell) then (n, NameKind.cell) else (n, k)).lookup x = some .cell ∨
              (l.map fun (n, k) => if (k == NameKind.free && X.env.scope.kind == .function && X.env.kindOf n == some .cell) then (n, NameKind.cell) else (n, k)).lookup x = some .free) → (x, NameKind.free) ∈ l := by
            intro l
            induction l with
            | nil => intro _ h; rcases h with h | h <;> cases h
            | cons p r ih =>
              obtain ⟨n, k⟩ := p
              intro hc h
              have hr : ∀ y ∈ r, y.2 ≠ .cell := fun y hy => hc y (List.mem_cons_of_mem _ hy)
              have hkc : k ≠ .cell := hc (n, k) List.mem_cons_self
              rw [List.map_cons] at h
              by_cases hx : (x == n) = true
              · have hx' : x = n := by simpa using hx
                subst hx'
                by_cases hk : k = .free
                · subst hk
                  exact List.mem_cons_self
                · exfalso
                  have hb : (k == NameKind.free) = false := by simpa using hk
                  simp [hb, List.lookup_cons] at h
                  rcases h with h | h
                  · exact hkc h
                  · exact hk h
              · have hx0 : (x == n) = false := by simpa using hx
                refine List.mem_cons_of_mem _ (ih hr ?_)
                by_cases hc : (k == NameKind.free && X.env.scope.kind == .function && X.env.kindOf n == some .cell) = true
                · simp only [hc, if_true, List.lookup_cons, hx0] at h
                  exact h
                · have hc' : (k == NameKind.free && X.env.scope.kind == .function && X.env.kindOf n == some .cell) = false := by simpa using hc
                  simp only [hc', Bool.false_eq_true, if_false, List.lookup_cons, hx0] at h
                  exact h
          exact all scope.names hok.cell hk'
        exact closL_has (.inl key)
      cab := fun x c e => by cases e
      hd := I.ok.hd
      frames := I.ok.frames
      stk := .inl rfl
      exf := fun b hb => ⟨fun e => by
          obtain ⟨o, ho⟩ := hob b hb
          exact absurd (Heap.lt_size ho) (by rw [e]; exact Nat.lt_irrefl _), fun x c e => (hf b hb).2.2.2.2.1 x c (cellsSub x c e)⟩
      bs := I.bs
      bsz := Nat.le_trans I.ok.bsz I.sz
      noex := fun b o e hb => by
        rcases (hf b hb).2.2.2.1 with z | z
        · exact I.ok.noex b o e z
        · exact absurd (Heap.lt_size (I.ok.bs b o e).1) (Nat.not_lt.mpr z)
      exfs := fun b hb z => by
        rcases List.mem_cons.mp (I.stkSub b z) with e | e
        · exact (hf b hb).2.1 e
        · exact (hf b hb).2.2.1 e
      funs := I.stack
      frf := I.stkFree }
  refine ⟨okX, rfl, I.bare, Un.kept up, ⟨m, hn, fun i x v e1 e2 e3 => ?_⟩, fun x c e => ?_, I.hok.fresh (Nat.le_refl _), fun x c e => I.freeC x c (cellsSub x c e), fun p hp => (by cases hp), I.hok.kept up, ?_⟩
  · have e2' : (List.replicate own none ++ fr.map fun j => (σ[j]?).getD none)[i]? = some (some v) := e2
    by_cases hi : i < own
    · rw [List.getElem?_append_left (by simpa using hi), List.getElem?_replicate] at e2'
      rw [if_pos hi] at e2'
      cases e2'
    · rw [List.getElem?_append_right (by simpa using Nat.le_of_not_lt hi), List.length_replicate, List.getElem?_map] at e2'
      cases hj : fr[i - own]? with
      | none => rw [hj] at e2'; cases e2'
      | some j =>
        rw [hj] at e2'
        have e4 : (σ[j]?).getD none = some v := by simpa using e2'
        have e5 : σ[j]? = some (some v) := by
          cases q : σ[j]? with
          | none => rw [q] at e4; cases e4
          | some z => rw [q] at e4; simpa using e4
        have e6 : N'[own + (i - own)]? = some x := by
          rw [show own + (i - own) = i by omega]
          exact e1
        have e7 : (N'.drop own)[i - own]? = some x := by rw [List.getElem?_drop]; exact e6
        have e8 : X.N[j]? = some x := by
          have q := congrArg (fun l => l[i - own]?) hfr
          simp only [List.getElem?_map, hj, e7, Option.map_some] at q
          simpa using q
        have hx := hok.fr x (List.mem_of_getElem? e7)
        have hmem := mem_of_lookup hx
        have hout := hok.free _ hmem rfl
        obtain ⟨mX, _, hl⟩ := I.loc
        obtain ⟨u, r, l⟩ := hl j x v e8 e5 (.inr hout)
        refine ⟨u, r, ?_⟩
        rcases l with ⟨k, _⟩ | ⟨_, c, ec, z⟩
        · have k' : X.env.scope.names.lookup x = some .local := k
          rcases hout with q | q <;> (have q' : X.env.scope.names.lookup x = _ := q; rw [k'] at q'; cases q')
        · obtain ⟨c', ec'⟩ := closL_has (cells := X.env.cells) (cs := []) (.inl hmem)
          have q := cellsSub x c' ec'
          rw [ec] at q
          cases q
          obtain ⟨o, ho, hd⟩ := z
          exact .inr ⟨lookup_relabel_free hx, c, ec', o, up c o ho, hd⟩
  · obtain ⟨v, o, ho, hd⟩ := I.cell x c (cellsSub x c e)
    exact ⟨v, o, up c o ho, hd⟩
  · show (List.replicate own none ++ fr.map fun j => (σ[j]?).getD none).length = N'.length
    rw [List.length_append, List.length_replicate, List.length_map, hlen, List.length_drop]
    omega
end

section
variable {prog : Program} {w : World} {A : Around} {s : Shared}
/-- the turns of a block, with whatever target -/
theorem codeAny_compLoop_gen {elt target iter : Expr} {scope : Scope} {pos : Pos} {it acc : Value} {env : Env} {R : Result → Shared → Prop} (I : Nat → Shared → Prop)
    (turn : ∀ n s, I n s → wpAny (model prog w) A (pyNext it) (fun r s₁ => match r with
      | none => R (.ok .next) s₁
      | some v => wpAny (model prog w) A (letOwnedTupleGo target it v) (fun _ s₁' => wpAny (model prog w) A (assign target env v) (fun _ s₂ => wpAny (model prog w) A (eval elt env) (fun x s₃ =>
          wpAny (model prog w) A (call (.builtin "list.append") [acc, x]) (fun _ s₄ => ∃ m, m < n ∧ I m s₄) (notedBy (model prog w) A env fun e s' => R (.error e) s') s₃)
          (notedBy (model prog w) A env fun e s' => R (.error e) s') s₂) (notedBy (model prog w) A env fun e s' => R (.error e) s') s₁') (notedBy (model prog w) A env fun e s' => R (.error e) s') s₁) (notedBy (model prog w) A env fun e s' => R (.error e) s') s)
    (n : Nat) (h : I n s) : codeAny (model prog w) A (.compLoop (.ListComp elt [⟨target, iter, [], 0⟩] scope pos) 0 it acc env) R s := by
  refine codeAny_loop rfl I (fun n s hI => ?_) n h
  show wpAny _ _ ((compTurn (.ListComp elt [⟨target, iter, [], 0⟩] scope pos) 0 it acc env).onRaise (fun x => do noteFrame x env; theTreesLotGoes x)) _ _ s
  refine wpAny_noted ?_
  rw [compTurn_list1]
  refine wpAny_bind (wpAny_standAt (wpAny_bind (wpAny_mono (turn n s hI) (fun r s₁ h₁ => ?_) fun _ _ h' => h')))
  cases r with
  | none => exact wpAny_pure h₁
  | some v =>
    refine wpAny_bind (wpAny_mono h₁ (fun _ s₁' h₁' => ?_) fun _ _ h' => h')
    exact wpAny_bind (wpAny_mono h₁' (fun _ s₂ h₂ => wpAny_bind (wpAny_bind (wpAny_mono h₂ (fun x s₃ h₃ => wpAny_bind (wpAny_mono h₃
      (fun _ s₄ h₄ => wpAny_pure (wpAny_pure ⟨rfl, h₄⟩)) fun _ _ h' => h')) fun _ _ h' => h'))) fun _ _ h' => h')
end

/-- the reading of a comprehension: D is the new list; W the invariant by turn and measure -/
abbrev CT (α : Type) := Addr → Shared → Hp → List Addr → α
def tCompK (own : Nat) (fr : List Nat) (wi : TI) (g : CT TG) (te : CT TE) (σ : St) (H : Hp) (Q : Addr → Hp → Prop) : Prop := wi σ H fun J H1 => ∀ D, H1 D = none →
  ∃ W : Nat → Nat → St → Hp → Prop, (∃ m, W 0 m (stComp own fr σ) (upd H1 D (.lst []))) ∧ ∀ i m σ' H', W i m σ' H' →
    (J.stop i H' ∧ Q D H') ∨ (J.go i H' ∧ ∀ x H2, J.yld i H' x H2 → ∀ C₀ s₀ H₀ fp, g C₀ s₀ H₀ fp x σ' H2 fun σ3 H3 => ∃ N : VK, te C₀ s₀ H₀ fp σ3 H3 N ∧ ∀ y H4, N y H4 →
      ∃ ys m', H4 D = some (.lst ys) ∧ ys.length < sizeLine ∧ m' < m ∧ W (i + 1) m' σ3 (upd H4 D (.lst (ys ++ [y]))))
def tComp (own : Nat) (fr : List Nat) (wi : TI) (g : CT TG) (te : CT TE) : TE := fun σ H Q => tCompK own fr wi g te σ H fun D H' => Q (.ref D) H'
/-- what is known of the block's own frame when the block is done -/
def Spare (X : Cx) (pins : List (Addr × Obj)) (H : Hp) (C : Addr) : Prop :=
  H C = none ∧ C ≠ X.env.locals ∧ X.s₀.heap.objs.size ≤ C ∧ (∀ x c, X.env.cells.lookup x = some c → c ≠ C) ∧ ∀ p ∈ X.pn ++ pins, p.1 ≠ C

section
variable {X : Cx} {own : Nat} {fr : List Nat} {N' : List Str} {tg iter elt : Expr} {scope : Scope} {pos : Pos} {wi : TI} {g : CT TG} {te : CT TE}
theorem comp_run {pins : List (Addr × Obj)} {s : Shared} {σ : St} {H : Hp} {Q : Addr → Hp → Prop} {use : Option (Value → Sem Unit)} {Q' : Value → Shared → Prop} {pos' : Pos} (hc : X.calm = true) (hi : PI X tg iter wi) (hg : ∀ C s₃ H₃ fp, PG (cxComp X N' scope C s₃ H₃ fp) tg (g C s₃ H₃ fp)) (he : ∀ C s₃ H₃ fp, PE (cxComp X N' scope C s₃ H₃ fp) elt (te C s₃ H₃ fp))
    (hok : CompOk scope X.env.scope (N'.drop own)) (hfr : fr.map (fun j => X.N[j]?) = (N'.drop own).map some) (hown : own ≤ N'.length) (hs : ∀ x, foldedSetIterable iter X.env x = pure x)
    (I : Inv X pins σ H s) (h : tCompK own fr wi g te σ H Q)
    (fin : ∀ D C m H' s', Inv X pins σ H' s' → s'.heap.Ns C m → Spare X pins H' C → Q D H' → compPost (model X.prog X.w) X.A X.xe use Q' (.ref D) C (.ok .next) s') :
    wpAny (model X.prog X.w) X.A (comprehension (.ListComp elt [⟨tg, iter, [], 0⟩] scope pos) scope X.env pos' (newList []) false (eval iter X.env) use) Q' X.xe s := by
  refine wpAny_comprehension_free rfl hs (closureFor_run fun y hy hk => I.ok.has y.1 (hok.free y hy hk)) hok.kind hok.loc (thn (hi pins s σ H _ I h) fun xv s1 h1 => thn h1 fun itv s2 h2 => ?_)
  obtain ⟨it, fp, tn, J, H2, e, I2, T, st2, f2, body⟩ := h2
  subst e
  refine wpAny_newList (items := []) ?_
  have hD : H2 s2.heap.objs.size = none := I2.hok.fresh (Nat.le_refl _)
  have I3 : Inv X pins σ (upd H2 s2.heap.objs.size (.lst [])) { s2 with heap := s2.heap.push { cls := .type "list", data := .seq ([] : List Value).toArray } } := I2.lnew (its := []) (t' := s2.toks) .nil (by decide)
  obtain ⟨W, ⟨m0, w0⟩, turn⟩ := body _ hD
  generalize hDD : s2.heap.objs.size = D at hD I3 w0 turn ⊢
  have up3 : ∀ b o, s2.heap.get? b = some o → (s2.heap.push { cls := .type "list", data := .seq ([] : List Value).toArray }).get? b = some o := fun b o e => Heap.get?_push_of_some _ e
  have st3 : tn 0 (s2.heap.push { cls := .type "list", data := .seq ([] : List Value).toArray }) := T.keep _ _ _ st2 fun b _ o e => up3 b o e
  have fpne : ∀ b ∈ fp, b ≠ D := fun b hb e => by
    obtain ⟨o, ho, _⟩ := T.obj _ _ st2 b hb
    rw [e, ← hDD] at ho
    exact absurd (Heap.lt_size ho) (Nat.lt_irrefl _)
  have f3 : ∀ b ∈ fp, FpOk X pins (upd H2 D (.lst [])) b := fun b hb => ⟨by rw [upd_ne (fpne b hb)]; exact (f2 b hb).1, (f2 b hb).2⟩
  generalize hs3 : ({ s2 with heap := s2.heap.push { cls := .type "list", data := .seq ([] : List Value).toArray } } : Shared) = s3 at I3 ⊢
  have st3' : tn 0 s3.heap := by rw [← hs3]; exact st3
  generalize upd H2 D (.lst []) = H3 at I3 f3 w0
  have hob : ∀ b ∈ fp, ∃ o, s3.heap.get? b = some o := fun b hb => let ⟨o, ho, _⟩ := T.obj _ _ st3' b hb; ⟨o, ho⟩
  refine wpAny_newFunctionEnv hok.cell (by intro y hy; simp at hy) (fun h₁ hns₁ hsb₁ => ?_) hok.kind
  have up4 : ∀ b o, s3.heap.get? b = some o → h₁.get? b = some o := fun b o e => (hsb₁.2 b (Nat.ne_of_lt (Heap.lt_size e))).trans (Heap.get?_push_of_some _ e)
  have I4 := inv_comp (N' := N') (own := own) (fr := fr) (scope := scope) (t := s3.toks + ([] : List (Str × Value)).length) I3 f3 hob hok hfr hown hns₁ hsb₁
  have st4 : tn 0 h₁ := T.keep _ _ _ st3' fun b _ o e => up4 b o e
  have stat : ∀ {H' : Hp} , (∀ b ∈ fp, H' b = none) → ∀ b ∈ fp, FpOk (cxComp X N' scope s3.heap.objs.size s3 H3 fp) [] H' b := fun hn b hb => by
    refine ⟨hn b hb, (I4.ok.exf b hb).1, I4.ok.exfs b hb, .inl hb, (I4.ok.exf b hb).2, fun p hp => by cases hp⟩
  have loop : codeAny (model X.prog X.w) X.A (.compLoop (.ListComp elt [⟨tg, iter, [], 0⟩] scope pos) 0 (.ref it) (.ref D) (cxComp X N' scope s3.heap.objs.size s3 H3 fp).env)
      (compPost (model X.prog X.w) X.A X.xe use Q' (.ref D) s3.heap.objs.size) { s3 with heap := h₁, toks := s3.toks + ([] : List (Str × Value)).length } := by
    refine codeAny_compLoop_gen (fun n s' => ∃ i σ' H', Inv (cxComp X N' scope s3.heap.objs.size s3 H3 fp) [] σ' H' s' ∧ tn i s'.heap ∧ (∀ b ∈ fp, H' b = none) ∧ W i n σ' H') ?_ m0 ⟨0, _, H3, I4, st4, fun b hb => (f3 b hb).1, w0⟩
    rintro n s5 ⟨i, σ5, H5, I5, st5, fr5, w5⟩
    rcases turn i n σ5 H5 w5 with ⟨stop, q⟩ | ⟨go, step⟩
    · refine thn (T.done (cxComp X N' scope s3.heap.objs.size s3 H3 fp) rfl rfl rfl hc i [] s5 σ5 H5 _ I5 (stat fr5) st5 stop) fun r s6 ⟨hr, I6⟩ => ?_
      subst hr
      obtain ⟨m6, hn6, _⟩ := I6.loc
      have I7 : Inv X pins σ H5 s6 := I3.call' (ch := fp) (by have := I6.os; exact this) I6.base I6.hok I6.bare fun b hb => ⟨(f3 b hb).2.2.2.1, (f3 b hb).2.1, (f3 b hb).2.2.2.2.1, (f3 b hb).2.2.2.2.2⟩
      refine fin D s3.heap.objs.size m6 H5 s6 I7 hn6 ⟨I6.free, Nat.ne_of_gt I3.lt, I3.sz, fun x c e z => ?_, fun p hp z => ?_⟩ q
      · obtain ⟨v, z1⟩ := I3.cell x c e
        exact absurd z1.lt (by rw [z]; exact Nat.lt_irrefl _)
      · exact absurd (Heap.lt_size (I3.pin p hp).1) (by rw [z]; exact Nat.lt_irrefl _)
    · refine thn (T.item (cxComp X N' scope s3.heap.objs.size s3 H3 fp) rfl rfl rfl hc i [] s5 σ5 H5 _ I5 (stat fr5) st5 go) fun r s6 ⟨u, hr, h6⟩ => ?_
      subst hr
      refine thn h6 fun _ s7 ⟨x, H7, I7, r7, y7, st7, fr7⟩ => ?_
      have I7' := I7.pinned (stat fr7) (T.obj _ _ st7)
      refine wpAny_mono (hg _ _ _ _ _ s7 σ5 H7 x u _ I7' r7 (step x H7 y7 _ _ _ _)) (fun _ s8 ⟨σ8, H8, I8, N, q8, hN⟩ => ?_) fun _ _ z => z.elim
      refine wpAny_mono (he _ _ _ _ _ s8 σ8 H8 N I8 q8) (fun yv s9 ⟨y, H9, I9, r9, n9⟩ => ?_) fun _ _ z => z.elim
      obtain ⟨ys, m', hD9, hlt, hm, w9⟩ := hN y H9 n9
      refine wpAny_mono (mt_append (X := cxComp X N' scope s3.heap.objs.size s3 H3 fp) _ s9 σ8 H9 (.ref D) [y] (.ref D) [yv] (fun _ H' => H' = upd H9 D (.lst (ys ++ [y]))) I9 rfl (.cons r9 .nil) ⟨D, ys, y, rfl, rfl, hD9, hlt, rfl⟩) (fun _ s10 ⟨_, H10, I10, _, q10⟩ => ?_) fun _ _ z => z.elim
      subst q10
      have pin := fun b hb o e => I10.pin (b, o) (List.mem_append_right _ (List.mem_append_right _ (mem_pinsAt (h := s7.heap) (fp := fp) hb e)))
      refine ⟨m', hm, i + 1, σ8, _, I10.unpinned, T.keep _ _ _ st7 fun b hb o e => (pin b hb o e).1, fun b hb => ?_, w9⟩
      obtain ⟨o, e, d⟩ := T.obj _ _ st7 b hb
      exact (pin b hb o e).2.1
  exact codeAny_compStart_list loop (T.self X.A 0 _ _ _ st4 loop)
/-- [elt for tg in iter] -/
theorem pe_comp (own : Nat) (fr : List Nat) (N' : List Str) (hc : X.calm = true) (hi : PI X tg iter wi) (hg : ∀ C s₃ H₃ fp, PG (cxComp X N' scope C s₃ H₃ fp) tg (g C s₃ H₃ fp)) (he : ∀ C s₃ H₃ fp, PE (cxComp X N' scope C s₃ H₃ fp) elt (te C s₃ H₃ fp))
    (hok : compOk scope X.env.scope (N'.drop own) = true := by rfl) (hfr : fr.map (fun j => X.N[j]?) = (N'.drop own).map some := by rfl) (hown : own ≤ N'.length := by decide) (hs : ∀ x, foldedSetIterable iter X.env x = pure x := by intro _; rfl) :
    PE X (.ListComp elt [⟨tg, iter, [], 0⟩] scope pos) (tComp own fr wi g te) := by
  intro pins s σ H Q I h
  rw [eval_ListComp]
  refine comp_run (use := none) hc hi hg he (compOk_of hok) hfr hown hs I h fun D C m H' s' I' hn sp q => ?_
  refine ⟨m, hn, fun h' sb => ⟨.ref D, H', ?_, rfl, q⟩⟩
  exact I'.turned (t' := s'.toks) (fun b o hb e => (sb.2 b hb).trans e) sp.1 sp.2.1 (.inr sp.2.2.1) sp.2.2.2.1 sp.2.2.2.2
/-- [elt for x in iter], x one name -/
theorem pe_comp1 {x : Str} {px : Pos} (fr : List Nat) (N' : List Str) (hc : X.calm = true) (hi : PI X (.Name x px) iter wi) (he : ∀ C s₃ H₃ fp, PE (cxComp X N' scope C s₃ H₃ fp) elt (te C s₃ H₃ fp)) (hN : N'.Nodup := by decide +kernel) (h0 : N'[0]? = some x := by rfl) (hx : scope.names.lookup x = some .local := by rfl)
    (hok : compOk scope X.env.scope (N'.drop 1) = true := by rfl) (hfr : fr.map (fun j => X.N[j]?) = (N'.drop 1).map some := by rfl) (hown : 1 ≤ N'.length := by decide) (hs : ∀ x, foldedSetIterable iter X.env x = pure x := by intro _; rfl) :
    PE X (.ListComp elt [⟨.Name x px, iter, [], 0⟩] scope pos) (tComp 1 fr wi (fun _ _ _ _ => gName 0) te) :=
  pe_comp 1 fr N' hc hi (fun _ _ _ _ => pg_name hN h0 (.inl (lookup_relabel_local hx)) (.inr (lookup_relabel_local hx))) he hok hfr hown hs
end
end L2

set_option Elab.async false
set_option linter.all false
set_option maxRecDepth 100000
set_option maxHeartbeats 4000000
/-! Rules of our own, part 2: ranges as values, list(range(..)), tuple(range(..)), range downwards, isinstance of built-in types, powers. -/
namespace PySem
open Sem (wp)
section
variable {prog : Program} {w : World} {A : Around} {E : Value → Shared → Prop} {s : Shared}
open AutoSeq1 (wpAny_loadPart')
end
end PySem

namespace L2
open PySem PySem.Spec PyProof.Rows
theorem vals_by_place : ∀ {xs : List V} {us : List Value}, xs.length = us.length → (∀ (i : Nat) x u, xs[i]? = some x → us[i]? = some u → RelV x u) → Vals xs us
  | [], [], _, _ => .nil
  | [], _ :: _, h, _ => by cases h
  | _ :: _, [], h, _ => by cases h
  | x :: xs, u :: us, h, r => .cons (r 0 x u rfl rfl) (vals_by_place (by simpa using h) fun i y w e1 e2 => r (i + 1) y w (by simpa using e1) (by simpa using e2))
/-- lo, lo + 1, .. (n of them) as values -/
def intsUp (lo : Int) (n : Nat) : List V := (List.range n).map fun i => V.int (lo + (i : Nat))
theorem intsUp_length (lo : Int) (n : Nat) : (intsUp lo n).length = n := by unfold intsUp; rw [List.length_map, List.length_range]
theorem vals_items {acc : Array Value} {lo : Int} {n : Nat} (h : ItemsOf (fun i v => ∃ t, v = .int (lo + i * 1) t) acc n) : Vals (intsUp lo n) acc.toList := by
  obtain ⟨h1, h2⟩ := h
  refine vals_by_place (by rw [intsUp_length, Array.length_toList, h1]) fun i x u e1 e2 => ?_
  have hi : i < n := by
    have := (List.getElem?_eq_some_iff.mp e1).1
    rwa [intsUp_length] at this
  obtain ⟨t, rfl⟩ := h2 i u (by simpa using e2)
  unfold intsUp at e1
  rw [List.getElem?_map, List.getElem?_range hi] at e1
  cases e1
  exact ⟨t, by rw [Int.mul_one]⟩
section
variable {X : Cx}
/-- range(n) as a value -/
theorem call_rng1 : CallR X (.type "range") (fun xs H Q => ∃ j, xs = [.int j] ∧ ∀ p, H p = none → Q (.ref p) (upd H p (.rng 0 j))) := by
  intro pins s σ H xs us Q I r h
  obtain ⟨j, rfl, q⟩ := h
  obtain ⟨u, rfl, t, rfl⟩ := vals1 r
  exact call_range_1 ⟨.ref s.heap.objs.size, _, I.laid (fun b o e => Heap.get?_push_of_some _ e) (Nat.le_refl _) (show ObjOk X.prog X.w _ _ _ (.rng 0 j) from ⟨_, _, _, Heap.get?_push_size _ rfl⟩), rfl, q _ (I.hok.fresh (Nat.le_refl _))⟩
def SmallR (lo hi : Int) : Prop := -(2 ^ 62) ≤ lo ∧ lo < 2 ^ 62 ∧ -(2 ^ 62) ≤ hi ∧ hi < 2 ^ 62 ∧ (hi - lo).toNat ≤ 1000000
theorem sizeLine_big : 1000000 ≤ sizeLine := by decide
/-- list(a range) -/
theorem call_list_rng (hc : X.calm = true) : CallR X (.type "list") (fun xs H Q => ∃ p lo hi, xs = [.ref p] ∧ H p = some (.rng lo hi) ∧ SmallR lo hi ∧ ∀ l, H l = none → Q (.ref l) (upd H l (.lst (intsUp lo (hi - lo).toNat)))) := by
  intro pins s σ H xs us Q I r h
  obtain ⟨p, lo, hi, rfl, hp, ⟨s1, s2, s3, s4, s5⟩, q⟩ := h
  obtain ⟨u, rfl, rx⟩ := vals1 r
  cases rx
  obtain ⟨t, u, v, hr⟩ := I.hok p _ hp
  have hz := sizeLine_big
  refine call_list_range (n := (hi - lo).toNat) (I.ok.hd hc) hr (small_one s1 s2 s3 s4) (by rw [rangeSize_one]; split <;> omega) (by omega) fun h' tk acc' c' kp hS hacc => ?_
  refine ⟨.ref s.heap.objs.size, _, I.laid (t' := tk) kp (Nat.le_refl _) (show ObjOk X.prog X.w _ h' _ (.lst (intsUp lo (hi - lo).toNat)) from ⟨by rw [intsUp_length]; omega, acc'.toList, c', vals_items hacc, by simpa using hS⟩), rfl, q _ (I.hok.fresh (Nat.le_refl _))⟩

/-! ### range(a, b, -1) walked -/
def Itd (lo : Int) (n : Nat) : It := ⟨fun i _ => i < n, fun i H x H' => H' = H ∧ x = .int (lo - i), fun i _ => n ≤ i⟩
theorem turn_rangeD {P : Program} {w : World} {K : PySem.W.Frag} {tg : Expr} (it : Addr) (lo : Int) (n : Nat) : Turn P w K tg (Itd lo n) [it] it (fun i h => IsRangeIter h it (lo + (i : Nat) * (-1)) ((n : Int) - (i : Nat)) (-1)) where
  mem := by simp
  obj := fun i h st b hb => by
    have e : b = it := by simpa using hb
    subst e
    exact ⟨_, st, fun v z => by
      have z' : Data.fields _ = Data.cell v := z
      cases z'⟩
  keep := fun i h h' st k => k it (by simp) _ st
  item := by
    intro X hP hw hK hc i pins s σ H E I hf st hg
    subst hP hw hK
    obtain ⟨f0, f1, f2, f3, f4, f5⟩ := hf it (by simp)
    have W := Walks.range (prog := X.prog) (w := X.w) (I.ok.hd hc) it lo (-1) n
    refine W.item i s _ _ hg st fun v h' tk hv st' kk => ?_
    obtain ⟨t, rfl⟩ := hv
    have I1 : Inv X pins σ H { s with heap := h', toks := tk } := I.turned (fun b o hb e => kk b o (by simpa using hb) e) f0 f1 f3 f4 f5
    refine ⟨_, rfl, go_of (s := { s with heap := h', toks := tk }) (n := "range_iterator") st' rfl rfl (by decide) ⟨.int (lo - i), H, I1, ⟨t, ?_⟩, ⟨rfl, rfl⟩, st', fun b hb => (hf b hb).1⟩⟩
    rw [show lo + (i : Int) * (-1) = lo - i by omega]
  done := by
    intro X hP hw hK hc i pins s σ H E I hf st hg
    subst hP hw hK
    obtain ⟨f0, f1, f2, f3, f4, f5⟩ := hf it (by simp)
    exact wpAny_pyNext_range_end (I.ok.hd hc) st (by have : n ≤ i := hg; omega) fun h' eb => ⟨rfl, I.turned (t' := s.toks) (fun b o hb e => eb b o hb e) f0 f1 f3 f4 f5⟩
  self := fun _ _ _ _ _ st h => wpAny_pyIter_rangeiter st h
theorem rangeSize_dn (a b : Int) : Builtin.Range.rangeSize a b (-1) = ((a - b).toNat : Int) := by
  unfold Builtin.Range.rangeSize
  simp only [show ¬ ((-1 : Int) > 0) by decide, if_false, show (-(-1) : Int) = 1 from rfl, Int.ediv_one]
  split <;> omega
theorem small_dn {a b : Int} (ha : -(2 ^ 62) ≤ a) (ha' : a < 2 ^ 62) (hb : -(2 ^ 62) ≤ b) (hb' : b < 2 ^ 62) : Builtin.Range.small a b (-1) = true := by
  unfold Builtin.Range.small
  rw [rangeSize_dn]
  simp only [Builtin.Range.rangeFitsLong, Bool.and_eq_true, Bool.or_eq_true, decide_eq_true_eq, beq_iff_eq, show ¬ ((-1 : Int) > 0) by decide, if_false]
  omega
def iRngD (ta : TA) : TI := fun σ H R => ta σ H fun vs H1 => ∃ i j : Int, vs = [.int i, .int j, .int (-1)] ∧ (-(2 ^ 62) ≤ i ∧ i < 2 ^ 62 ∧ -(2 ^ 62) ≤ j ∧ j < 2 ^ 62) ∧ R (Itd i (i - j).toNat) H1
theorem range_itD {tg : Expr} {pins : List (Addr × Obj)} {σ : St} {H : Hp} {s : Shared} {R : It → Hp → Prop} {E : Value → Shared → Prop} {lo hi : Int} {t u v : Tok} {tk : Nat} (I : Inv X pins σ H s) (h1 : -(2 ^ 62) ≤ lo) (h2 : lo < 2 ^ 62) (h3 : -(2 ^ 62) ≤ hi) (h4 : hi < 2 ^ 62)
    (q : R (Itd lo (lo - hi).toNat) H) : wpAny (model X.prog X.w) X.A (pyIter (.ref s.heap.objs.size)) (PIE X pins σ tg R) E { s with heap := s.heap.push { cls := .type "range", data := .fields #[.int lo t, .int hi u, .int (-1) v] }, toks := tk } := by
  refine wpAny_pyIter_range (IsRange.new ..) (small_dn h1 h2 h3 h4) ?_
  have I1 : Inv X pins σ H { s with heap := s.heap.push { cls := .type "range", data := .fields #[.int lo t, .int hi u, .int (-1) v] }, toks := tk } := I.kept fun b o e => Heap.get?_push_of_some _ e
  refine ⟨(s.heap.push { cls := .type "range", data := .fields #[.int lo t, .int hi u, .int (-1) v] }).objs.size, [(s.heap.push { cls := .type "range", data := .fields #[.int lo t, .int hi u, .int (-1) v] }).objs.size], _, _, H, rfl,
    I1.kept (t' := tk) fun b o e => Heap.get?_push_of_some _ e, turn_rangeD _ lo (lo - hi).toNat, ?_, fun b hb => ?_, q⟩
  · have e1 : lo + ((0 : Nat) : Int) * (-1) = lo := by simp
    have e2 : (((lo - hi).toNat : Nat) : Int) - ((0 : Nat) : Int) = Builtin.Range.rangeSize lo hi (-1) := by rw [rangeSize_dn]; omega
    show IsRangeIter _ _ (lo + ((0 : Nat) : Int) * (-1)) ((((lo - hi).toNat : Nat) : Int) - ((0 : Nat) : Int)) (-1)
    rw [e1, e2]
    exact Heap.get?_push_size _ rfl
  · have e : b = (s.heap.push { cls := .type "range", data := .fields #[.int lo t, .int hi u, .int (-1) v] }).objs.size := by simpa using hb
    subst e
    exact I1.fpOk (Nat.le_refl _) (I1.hok.fresh (Nat.le_refl _))
theorem pi_rangeD {tg a b c : Expr} {ta : TA} {p pos : Pos} (hg : Gl X "range") (hm : X.mg "range" = none) (ha : PA X [a, b, c] ta) (hs : starEach [a, b, c] X.env = [(false, eval a X.env), (false, eval b X.env), (false, eval c X.env)] := by rfl)
    (hs2 : starEach [b, c] X.env = [(false, eval b X.env), (false, eval c X.env)] := by rfl) : PI X tg (.Call (.Name "range" p) [a, b, c] [] pos) (iRngD ta) := by
  intro pins s σ H R I h
  refine Call_ (ld_blt I hg hm boot_range (PyProof.Rows.callWith_type1 (thn (ha pos pins s σ H _ I h) fun us s1 ⟨vs, H1, I1, r1, q1⟩ => ?_) (by rw [hs, hs2]) (by rw [hs2]; rfl)))
  obtain ⟨i, j, e, ⟨q1, q2, q3, q4⟩, q⟩ := q1
  subst e
  cases r1 with
  | cons r rr =>
    cases rr with
    | cons r' rr =>
      cases rr with
      | cons r'' rr =>
        cases rr
        obtain ⟨t, rfl⟩ := r
        obtain ⟨t', rfl⟩ := r'
        obtain ⟨t'', rfl⟩ := r''
        exact call_range_3 (by decide) (range_itD I1 q1 q2 q3 q4 q) (Or.inl (PyProof.noPylong_small (by omega)))
theorem for_rangeD {lo : Int} {n : Nat} {g : TG} {tb : TS} {D : Ends} {σ : St} {H : Hp} (Pv : Nat → St → Hp → Prop) (h0 : Pv 0 σ H)
    (hs : ∀ i σ H, i < n → Pv i σ H → g (.int (lo - i)) σ H fun σ2 H2 => tb { D with nx := Pv (i + 1), ct := Pv (i + 1), bk := D.nx } σ2 H2) (hd : ∀ σ H, Pv n σ H → D.nx σ H) :
    ∃ W : Nat → Nat → St → Hp → Prop, (∃ m, W 0 m σ H) ∧ ∀ i m σ H, W i m σ H →
      ((Itd lo n).stop i H ∧ D.nx σ H) ∨ ((Itd lo n).go i H ∧ ∃ N : St → Hp → Prop, (∀ σ' H', N σ' H' → ∃ m', m' < m ∧ W (i + 1) m' σ' H') ∧ ∀ x H', (Itd lo n).yld i H x H' → g x σ H' fun σ2 H2 => tb { D with nx := N, ct := N, bk := D.nx } σ2 H2) := by
  refine ⟨fun i m σ H => m = n - i ∧ i ≤ n ∧ Pv i σ H, ⟨n, by simp, Nat.zero_le _, h0⟩, ?_⟩
  rintro i m σ H ⟨rfl, hi, p⟩
  by_cases hlt : i < n
  · refine .inr ⟨hlt, Pv (i + 1), fun σ' H' p' => ⟨n - (i + 1), by omega, rfl, hlt, p'⟩, fun x H' y => ?_⟩
    obtain ⟨e, y⟩ := y
    subst e y
    exact hs i σ _ hlt p
  · have e : i = n := by omega
    subst e
    exact .inl ⟨Nat.le_refl _, hd σ H p⟩

/-! ### isinstance(x, T), T a built-in type's name -/
theorem call_isinst : CallR X (.builtin "isinstance") (fun xs H Q => ∃ x t c b, xs = [x, .ty c] ∧ TyOf X.K H x t ∧ PySem.W.kitOne X.K t (.type c) = some b ∧ Q (.bl b) H) := by
  intro pins s σ H xs us Q I r h
  obtain ⟨x, t, c, b, rfl, ty, e, q⟩ := h
  obtain ⟨u, w', rfl, rx, rc⟩ := vals2 r
  cases (show w' = Value.type c from rc)
  exact isinst_ok I rx ty e fun tk => ⟨.bl b, H, I.tok tk, rfl, q⟩

/-! ### a comprehension over one name whose turns leave all that stood as it was -/
theorem comp_name {J : It} {fr : List Nat} {te : CT TE} {σ : St} {H1 : Hp} {Q : Addr → Hp → Prop} {n : Nat} (ys : List V) (hn : ys.length = n) (hz : n ≤ sizeLine)
    (hstop : ∀ H, Same H1 H → J.stop n H) (hgo : ∀ i H, i < n → Same H1 H → J.go i H)
    (turn : ∀ i H x H2, i < n → Same H1 H → J.yld i H x H2 → H2 = H ∧ ∀ C₀ s₀ H₀ fp, te C₀ s₀ H₀ fp (some x :: fr.map fun j => (σ[j]?).getD none) H fun y H4 => Same H H4 ∧ ys[i]? = some y)
    (fin : ∀ D H, H1 D = none → Same H1 H → H D = some (.lst ys) → Q D H) :
    ∀ D, H1 D = none → ∃ W : Nat → Nat → St → Hp → Prop, (∃ m, W 0 m (stComp 1 fr σ) (upd H1 D (.lst []))) ∧ ∀ i m σ' H', W i m σ' H' →
    (J.stop i H' ∧ Q D H') ∨ (J.go i H' ∧ ∀ x H2, J.yld i H' x H2 → ∀ C₀ s₀ H₀ fp, gName 0 x σ' H2 fun σ3 H3 => ∃ N : VK, te C₀ s₀ H₀ fp σ3 H3 N ∧ ∀ y H4, N y H4 →
      ∃ ys m', H4 D = some (.lst ys) ∧ ys.length < sizeLine ∧ m' < m ∧ W (i + 1) m' σ3 (upd H4 D (.lst (ys ++ [y])))) := by
  intro D hD
  have s0 : ∀ o, Same H1 (upd H1 D o) := fun o b u e => by rw [upd_ne (ne_of_none e hD)]; exact e
  refine ⟨fun i m σ' H' => m = n - i ∧ i ≤ n ∧ Same H1 H' ∧ H' D = some (.lst (ys.take i)) ∧ ∃ z, σ' = z :: fr.map fun j => (σ[j]?).getD none, ⟨n, rfl, Nat.zero_le _, s0 _, by rw [upd_same]; rfl, none, rfl⟩, ?_⟩
  rintro i m σ' H' ⟨rfl, hi, sm, hl, z, rfl⟩
  by_cases hlt : i < n
  · refine .inr ⟨hgo i H' hlt sm, fun x H2 y C₀ s₀ H₀ fp => ?_⟩
    obtain ⟨e, q⟩ := turn i H' x H2 hlt sm y
    subst e
    refine ⟨_, q C₀ s₀ H₀ fp, fun y H4 ⟨s4, e4⟩ => ⟨ys.take i, n - (i + 1), s4 _ _ hl, ?_, by omega, rfl, hlt, ?_, ?_, _, rfl⟩⟩
    · rw [List.length_take]; omega
    · intro b u e
      rw [upd_ne (ne_of_none e hD)]
      exact s4 _ _ (sm _ _ e)
    · rw [upd_same, List.take_add_one, e4]
      rfl
  · have e : i = n := by omega
    subst e
    refine .inl ⟨hstop H' sm, fin D H' hD sm ?_⟩
    rw [hl, List.take_of_length_le (by omega)]
/-- [te for x in a list] -/
theorem comp_list {K : PySem.W.Frag} {a : Addr} {xs : List V} {fr : List Nat} {te : CT TE} {σ : St} {H1 : Hp} {Q : Addr → Hp → Prop} (hS : SqL K H1 a xs) (ys : List V) (hn : ys.length = xs.length) (hz : xs.length ≤ sizeLine)
    (turn : ∀ (i : Nat) H x, xs[i]? = some x → Same H1 H → ∀ C₀ s₀ H₀ fp, te C₀ s₀ H₀ fp (some x :: fr.map fun j => (σ[j]?).getD none) H fun y H4 => Same H H4 ∧ ys[i]? = some y)
    (fin : ∀ D H, H1 D = none → Same H1 H → H D = some (.lst ys) → Q D H) :
    ∀ D, H1 D = none → ∃ W : Nat → Nat → St → Hp → Prop, (∃ m, W 0 m (stComp 1 fr σ) (upd H1 D (.lst []))) ∧ ∀ i m σ' H', W i m σ' H' →
    ((Itl K a).stop i H' ∧ Q D H') ∨ ((Itl K a).go i H' ∧ ∀ x H2, (Itl K a).yld i H' x H2 → ∀ C₀ s₀ H₀ fp, gName 0 x σ' H2 fun σ3 H3 => ∃ N : VK, te C₀ s₀ H₀ fp σ3 H3 N ∧ ∀ y H4, N y H4 →
      ∃ ys m', H4 D = some (.lst ys) ∧ ys.length < sizeLine ∧ m' < m ∧ W (i + 1) m' σ3 (upd H4 D (.lst (ys ++ [y])))) :=
  comp_name ys hn hz (fun H s => ⟨xs, s.seq hS, Nat.le_refl _⟩) (fun i H hi s => ⟨xs, xs[i], s.seq hS, by simp [hi]⟩) (fun i H x H2 hi s y => ⟨y.1, turn i H x (y.2 xs (s.seq hS)) s⟩) fin
end
end L2

set_option Elab.async false
set_option linter.all false
set_option maxRecDepth 100000
set_option maxHeartbeats 4000000
/-! Rules of our own, part 3: for i, x in enumerate(a list or a tuple). -/
namespace PySem
open Sem (wp)
open AutoSeq1 (wpAny_loadPart')
section
variable {prog : Program} {w : World} {A : Around} {E : Value → Shared → Prop} {s : Shared}
theorem wpAny_nextOf_tuple_item {it t : Addr} {i : Nat} {items} {x : Value} {Q : Value → Shared → Prop} (hit : s.heap.IsTupleIter it t i) (ht : s.heap.IsTuple t items) (hx : items[i]? = some x)
    (hQ : ∀ h', h'.IsTupleIter it t (i + 1) → Heap.SameBut it s.heap h' → Q x { s with heap := h' }) : wpAny (model prog w) A (Builtin.SmallTypes.nextOf (.ref it)) Q E s := by
  obtain ⟨o, ho, hc, hd⟩ := id hit
  obtain ⟨ol, hol, _, nl, hdl⟩ := ht
  unfold Builtin.SmallTypes.nextOf
  refine wpAny_bind (wpAny_callSpecial?_slot (name := Str.ofString "__next__") hit.typeIs F.slot_tuple_iterator_next
    (wpAny_call_entry F.slot_tuple_iterator_next hit.typeIs F.entry_tuple_iterator_next ?_ (F.args_tuple_iterator_next_1 _)))
  show wpAny _ _ (field (.ref it) 0 >>= _) _ _ s
  refine wpAny_bind (wpAny_field ho hd (x := .ref t) rfl ?_)
  show wpAny _ _ (if (Value.ref t == Value.none) = true then _ else _) _ _ s
  rw [if_neg (show ¬ ((Value.ref t == Value.none) = true) from Bool.false_ne_true)]
  show wpAny _ _ (field (.ref it) 1 >>= _) _ _ s
  refine wpAny_bind (wpAny_field ho hd (x := .int i 0) rfl ?_)
  show wpAny _ _ (seqItems? (.ref t) >>= _) _ _ s
  refine wpAny_bind (wpAny_seqItems hol hdl ?_)
  simp only [Int.toNat_natCast, hx]
  refine wpAny_bind (wpAny_setField ho hd (by simp) (wpAny_pure ⟨x, rfl, wpAny_pure (hQ _ ?_ (Heap.SameBut.update ..))⟩))
  exact ⟨_, Heap.get?_update_self _ ho (Obj.isFreed_of_fields (Obj.data_mapFields hd _)), (Obj.cls_mapFields ..).trans hc, by
    rw [Obj.data_mapFields hd]; simp [rawInt]⟩
theorem wpAny_nextOf_tuple_end {it t : Addr} {i : Nat} {items} {Q : Value → Shared → Prop} (hh : A.handled = none)
    (hit : s.heap.IsTupleIter it t i) (ht : s.heap.IsTuple t items) (hx : items[i]? = none)
    (hE : ∀ h' e, Heap.ExtBut it s.heap h' → (∃ o, h'.get? e = some o ∧ o.cls = .type "StopIteration") → E (.ref e) { s with heap := h' }) :
    wpAny (model prog w) A (Builtin.SmallTypes.nextOf (.ref it)) Q E s := by
  obtain ⟨o, ho, hc, hd⟩ := id hit
  obtain ⟨ol, hol, _, nl, hdl⟩ := ht
  unfold Builtin.SmallTypes.nextOf
  refine wpAny_bind (wpAny_callSpecial?_slot (name := Str.ofString "__next__") hit.typeIs F.slot_tuple_iterator_next
    (wpAny_call_entry F.slot_tuple_iterator_next hit.typeIs F.entry_tuple_iterator_next ?_ (F.args_tuple_iterator_next_1 _)))
  show wpAny _ _ (field (.ref it) 0 >>= _) _ _ s
  refine wpAny_bind (wpAny_field ho hd (x := .ref t) rfl ?_)
  show wpAny _ _ (if (Value.ref t == Value.none) = true then _ else _) _ _ s
  rw [if_neg (show ¬ ((Value.ref t == Value.none) = true) from Bool.false_ne_true)]
  show wpAny _ _ (field (.ref it) 1 >>= _) _ _ s
  refine wpAny_bind (wpAny_field ho hd (x := .int i 0) rfl ?_)
  show wpAny _ _ (seqItems? (.ref t) >>= _) _ _ s
  refine wpAny_bind (wpAny_seqItems hol hdl ?_)
  simp only [Int.toNat_natCast, hx]
  refine wpAny_bind (wpAny_rule (wpAny_bind (wpAny_setField ho hd (by simp) ?_)))
  show wpAny _ _ (newExc (.type "StopIteration") [] >>= _) _ _ _
  refine wpAny_bind ?_
  simp only [newExc, newTuple]
  refine wpAny_bind (wpAny_newObj_type ?_ (by size_fits))
  refine wpAny_bind (m := firstArgMember _ _) (wpAny_of_eq (a := Value.none) (by first | rfl | (simp only [firstArgMember]; rfl)) ?_)
  refine wpAny_newObj_type ?_ (by size_fits)
  simp only [raiseNew]
  refine wpAny_bind (wpAny_handled ?_)
  first | rw [show A.in1.handled = none from hh] | rw [hh]
  refine wpAny_bind (wpAny_pure (wpAny_throw ?_))
  exact hE _ _ (((Heap.SameBut.update ..).extBut.push _).push _) ⟨_, Heap.get?_push_size _ rfl, rfl⟩
end
theorem Draws.tuple {prog : Program} {w : World} {A : Around} (hh : A.handled = none) (it l : Addr) (hne : l ≠ it) (items : Array Value) :
    Draws prog w A it [it, l] items.size (fun i v => items[i]? = some v) (fun i h => h.IsTupleIter it l i ∧ h.IsTuple l items) where
  live := fun _ _ st => let ⟨o, ho, _⟩ := st.1; ⟨o, ho⟩
  frame := fun _ _ _ st hk => ⟨st.1.at fun o e => hk it (by simp) o e, let ⟨o, ho, r⟩ := st.2; ⟨o, hk l (by simp) o ho, r⟩⟩
  item := fun i s Q E hi st hQ => by
    refine wpAny_nextOf_tuple_item st.1 st.2 (x := items[i]) (by simp [hi]) fun h' hit' hs' => ?_
    exact hQ _ h' s.toks (by simp [hi]) ⟨hit', st.2.extBut hs'.extBut hne⟩ hs'
  done := fun s Q E st hE => wpAny_nextOf_tuple_end hh st.1 st.2 (by simp) hE
section
variable {prog : Program} {w : World} {A : Around} {E : Value → Shared → Prop} {s : Shared}
end
end PySem

namespace L2
open PySem PySem.Spec PyProof.Rows
section
variable {X : Cx}
/-- two records of the iterator have turned, a new tuple is laid and tracked -/
theorem Inv.pair {pins : List (Addr × Obj)} {σ : St} {H : Hp} {s : Shared} {h' : Heap} {t' : Nat} {e it : Addr} {xs : List V} {its : List Value} (I : Inv X pins σ H s) (fe : FpOk X pins H e) (fi : FpOk X pins H it)
    (k : ∀ b o, b ≠ e → b ≠ it → s.heap.get? b = some o → h'.get? b = some o) (hT : IsTup h' s.heap.objs.size its.toArray) (hv : Vals xs its) (hz : xs.length ≤ sizeLine) :
    Inv X pins σ (upd H s.heap.objs.size (.tup xs)) { s with heap := h', toks := t' } := by
  have fT : FpOk X pins H s.heap.objs.size := I.fpOk (Nat.le_refl _) (I.hok.fresh (Nat.le_refl _))
  have nT : ∀ b o, H b = some o → b ≠ s.heap.objs.size := fun b o q z => by rw [z, fT.1] at q; cases q
  have ne : ∀ b o, H b = some o → b ≠ e := fun b o q z => by rw [z, fe.1] at q; cases q
  have ni : ∀ b o, H b = some o → b ≠ it := fun b o q z => by rw [z, fi.1] at q; cases q
  have ok : ∀ b ∈ [e, it, s.heap.objs.size], FpOk X pins H b := fun b hb => by
    simp only [List.mem_cons, List.mem_nil_iff, or_false] at hb
    rcases hb with rfl | rfl | rfl
    · exact fe
    · exact fi
    · exact fT
  have out : ∀ b, b ∉ [e, it, s.heap.objs.size] → b ≠ e ∧ b ≠ it ∧ b ≠ s.heap.objs.size := fun b hb => by
    simp only [List.mem_cons, List.mem_nil_iff, or_false, not_or] at hb
    exact hb
  refine I.step (g' := s.gens) (d' := s.drawn) (ch := [e, it, s.heap.objs.size]) (fun b hb => ⟨(ok b hb).2.2.2.1, (ok b hb).2.1, (ok b hb).2.2.2.2.1, (ok b hb).2.2.2.2.2⟩)
    (fun b o _ _ hc q _ => k b o (out b hc).1 (out b hc).2.1 q) (fun b o _ _ hc q _ => ⟨o.slots, k b o (out b hc).1 (out b hc).2.1 q⟩) (fun b o hc q n => by rw [upd_ne (out b hc).2.2]; exact n)
    (fun b o hc q => ⟨o, k b o (out b hc).1 (out b hc).2.1 q⟩) (fun b ys q => by rw [upd_ne (nT b _ q)]; exact q) (fun b o u q => by rw [upd_ne (nT b _ q)]; exact q) (fun b ps q => ⟨#[], by rw [upd_ne (nT b _ q), q]; simp⟩)
    (fun m hm => ?_) (fun b u q => ?_) I.bare
  · obtain ⟨o, es, ep, ho, r⟩ := hm
    exact ⟨o, es, ep, k _ o (Ne.symm fe.2.1) (Ne.symm fi.2.1) ho, r⟩
  · by_cases hb : b = s.heap.objs.size
    · subst hb
      rw [upd_same] at q
      cases q
      exact ⟨hz, its, hv, hT⟩
    · rw [upd_ne hb] at q
      refine (I.hok b u q).stay (fun c v hc z => k c v ?_ ?_ z) (fun c z => by rw [upd_ne (nT c _ z)]; exact z) fun c ys z => by rw [upd_ne (nT c _ z)]; exact z
      · rcases hc with z | z
        · rw [z]; exact ne b u q
        · exact ne c _ z
      · rcases hc with z | z
        · rw [z]; exact ni b u q
        · exact ni c _ z
end
end L2

set_option Elab.async false
set_option linter.all false
set_option maxRecDepth 100000
set_option maxHeartbeats 4000000
/-! Rules of our own, part 4: == and != of lists of ints, == of tuples of ints. -/
namespace L2
open PySem PySem.Spec PyProof.Rows
section
variable {X : Cx}
end
end L2

set_option Elab.async false
set_option linter.all false
set_option maxRecDepth 100000
set_option maxHeartbeats 4000000
/-! Rules of our own, part 5: sorted, sorted with reverse, sum. -/
namespace L2
open PySem PySem.Spec PyProof.Rows
section
variable {X : Cx}
end
end L2

set_option Elab.async false
set_option linter.all false
set_option maxRecDepth 100000
set_option maxHeartbeats 4000000
/-! Rules of our own, part 6: + of lists that are only read. -/
namespace L2
open PySem PySem.Spec PyProof.Rows
section
variable {X : Cx}
end
end L2

set_option Elab.async false
set_option linter.all false
set_option maxRecDepth 100000
set_option maxHeartbeats 4000000
/-! Rules of our own, part 7: texts: join, f-strings of three parts. -/
namespace L2
open PySem PySem.Spec PyProof.Rows
theorem strsAre_of : ∀ {ys : List Str} {us : List Value}, Vals (ys.map V.str) us → StrsAre us ys
  | [], _, r => by cases r; exact .nil
  | y :: ys, _, r => by
    cases r with
    | cons a b =>
      obtain ⟨t, rfl⟩ := a
      exact .cons y t (strsAre_of b)
section
variable {X : Cx}
def rJoin (K : PySem.W.Frag) : V → List V → Hp → VK → Prop := fun x vs H Q => ∃ (z : Str) (p : Addr) (ys : List Str), x = .str z ∧ vs = [.ref p] ∧ SqL K H p (ys.map V.str) ∧ (ys.map (·.length)).sum + ys.length * z.length ≤ 16777216 ∧ Q (.str (Str.join z ys)) H
theorem mt_join : MtR X "str.join" (rJoin X.K) := by
  intro pins s σ H x xs v us Q I rx rv h
  obtain ⟨z, p, ys, rfl, rfl, hq, hz, q⟩ := h
  obtain ⟨t, rfl⟩ := rx
  obtain ⟨u, rfl, ru⟩ := vals1 rv
  cases ru
  obtain ⟨its, r1, p1, _⟩ := I.list hq
  refine join_list p1.isList (by simpa using strsAre_of r1) hz fun t' k => ⟨.str (Str.join z ys), H, I.tok k, ⟨t', ?_⟩, q⟩
  show Value.str (Builtin.Str.glued z ys) t' = _
  rw [StrLaws.glued_eq_join]
end
end L2

set_option Elab.async false
set_option linter.all false
set_option maxRecDepth 100000
set_option maxHeartbeats 4000000
/-! Rules of our own, part 8: == and != of data of any depth, all of a list of truths. -/
namespace L2
open PySem PySem.Spec PyProof.Rows PyProof.Rows.LSm
mutual
/-- a value that is data: what a reader would write down of it -/
inductive RdD (K : PySem.W.Frag) (H : Hp) : V → PyData → Prop
  | non : RdD K H .non .none
  | bl (b : Bool) : RdD K H (.bl b) (.bool b)
  | int (i : Int) : RdD K H (.int i) (.int i)
  | str (x : Str) : RdD K H (.str x) (.str x)
  | lst {a : Addr} {xs : List V} {ds : List PyData} : SqL K H a xs → RdDs K H xs ds → RdD K H (.ref a) (.list ds)
  | tup {a : Addr} {xs : List V} {ds : List PyData} : SqT K H a xs → RdDs K H xs ds → RdD K H (.ref a) (.tuple ds)
inductive RdDs (K : PySem.W.Frag) (H : Hp) : List V → List PyData → Prop
  | nil : RdDs K H [] []
  | cons {x : V} {d : PyData} {xs : List V} {ds : List PyData} : RdD K H x d → RdDs K H xs ds → RdDs K H (x :: xs) (d :: ds)
end
theorem RdDs.ints {K : PySem.W.Frag} {H : Hp} : ∀ (ns : List Int), RdDs K H (ns.map V.int) (ns.map PyData.int)
  | [] => .nil
  | n :: r => .cons (.int n) (RdDs.ints r)
theorem RdDs.strs {K : PySem.W.Frag} {H : Hp} : ∀ (ns : List Str), RdDs K H (ns.map V.str) (ns.map PyData.str)
  | [] => .nil
  | n :: r => .cons (.str n) (RdDs.strs r)
section
variable {X : Cx} {pins : List (Addr × Obj)} {σ : St} {H : Hp} {s : Shared}
mutual
theorem RdD.reads (I : Inv X pins σ H s) : ∀ {x : V} {d : PyData}, RdD X.K H x d → ∀ u, RelV x u → ∃ as, Reads s.heap u d as
  | _, _, .non, u, r => by cases (show u = Value.none from r); exact ⟨_, .none⟩
  | _, _, .bl b, u, r => by cases (show u = Value.bool b from r); exact ⟨_, .bool b⟩
  | _, _, .int i, u, r => by obtain ⟨t, rfl⟩ := (show ∃ t, u = Value.int i t from r); exact ⟨_, .int i t⟩
  | _, _, .str x, u, r => by obtain ⟨t, rfl⟩ := (show ∃ t, u = Value.str x t from r); exact ⟨_, .str x t⟩
  | _, _, .lst h hs, u, r => by
    cases (show u = Value.ref _ from r)
    obtain ⟨its, rv, p, _⟩ := I.list h
    obtain ⟨o, ho, hc, n, hd⟩ := p.isList
    obtain ⟨as, ha⟩ := RdDs.reads I hs its rv
    exact ⟨_, .list ho hc hd (by simpa using ha)⟩
  | _, _, .tup h hs, u, r => by
    cases (show u = Value.ref _ from r)
    obtain ⟨its, rv, p, _⟩ := I.tuple h
    obtain ⟨o, ho, hc, n, hd⟩ := p
    obtain ⟨as, ha⟩ := RdDs.reads I hs its rv
    exact ⟨_, .tuple ho hc hd (by simpa using ha)⟩
theorem RdDs.reads (I : Inv X pins σ H s) : ∀ {xs : List V} {ds : List PyData}, RdDs X.K H xs ds → ∀ us, Vals xs us → ∃ as, ReadsAll s.heap us ds as
  | _, _, .nil, us, r => by cases r; exact ⟨_, .nil⟩
  | _, _, .cons h hs, us, r => by
    cases r with
    | cons r1 r2 =>
      obtain ⟨as, ha⟩ := RdD.reads I h _ r1
      obtain ⟨bs, hb⟩ := RdDs.reads I hs _ r2
      exact ⟨_, .cons ha hb⟩
end
end
section
variable {X : Cx}
theorem boolsAre_of : ∀ {bs : List Bool} {us : List Value}, Vals (bs.map V.bl) us → BoolsAre us bs
  | [], _, r => by cases r; exact .nil
  | b :: bs, _, r => by
    cases r with
    | cons a c =>
      cases (show _ = Value.bool b from a)
      exact .cons b (boolsAre_of c)
/-- all(list of truths) -/
theorem call_allL (hc : X.calm = true) : CallR X (.builtin "all") (fun xs H Q => ∃ (p : Addr) (bs : List Bool), xs = [.ref p] ∧ SqL X.K H p (bs.map V.bl) ∧ Q (.bl (bs.all id)) H) := by
  intro pins s σ H xs us Q I r h
  obtain ⟨p, bs, rfl, hq, q⟩ := h
  obtain ⟨u, rfl, rx⟩ := vals1 r
  cases rx
  obtain ⟨its, r1, p1, hz⟩ := I.list hq
  obtain ⟨m, F⟩ := I.fr
  have hb := boolsAre_of r1
  have hl := p1.isList
  have hlt : p < s.heap.objs.size := by obtain ⟨_, e, _⟩ := hl; exact Heap.lt_size e
  refine call_all_walk (wpAny_pyIter_list hl ?_)
  refine ⟨s.heap.objs.size, [s.heap.objs.size, p], [s.heap.objs.size], its.toArray.size, _, _, fun i => (bs[i]?).getD true, rfl, Walks.list (A := X.A.in1) (I.ok.hd hc) _ p (Nat.ne_of_lt hlt) its.toArray,
    ⟨⟨_, Heap.get?_push_size _ rfl, rfl, rfl⟩, hl.push _⟩, fun i v s' Q' E' hP hQ => ?_, fun h' tk hk => ?_⟩
  · obtain ⟨b, e, rfl⟩ := hb.get i v (by simpa using hP)
    simp only [e, Option.getD_some] at hQ
    exact wpAny_truthy_bool hQ
  · have e : ((List.range its.toArray.size).all fun i => (bs[i]?).getD true) = bs.all id := by
      rw [List.size_toArray, hb.length]; exact range_all bs
    rw [e]
    exact ⟨.bl _, H, I.kept (kept_iter hk), rfl, q⟩
end
end L2

set_option Elab.async false
set_option linter.all false
set_option maxRecDepth 100000
set_option maxHeartbeats 4000000
/-! Rules of our own, part 9: texts: walked sign by sign, split, begins, ends, slices, int of a text; sets of ints. -/
namespace L2
open PySem PySem.Spec PyProof.Rows
section
variable {X : Cx}
/-- the signs of x -/
def Its (x : Str) : It := ⟨fun i _ => i < x.length, fun i H v H' => H' = H ∧ ∃ c, x.cps.toList[i]? = some c ∧ v = .str ⟨#[c]⟩, fun i _ => x.length ≤ i⟩
theorem turn_strA {P : Program} {w : World} {K : PySem.W.Frag} {tg : Expr} (it : Addr) (x : Str) (t : Tok) : Turn P w K tg (Its x) [it] it (fun i h => h.IsStrIter it "str_ascii_iterator" x t i) where
  mem := by simp
  obj := fun i h st b hb => by
    have e : b = it := by simpa using hb
    subst e
    obtain ⟨o, ho, hc, hd⟩ := st
    exact ⟨o, ho, fun v z => by rw [hd] at z; cases z⟩
  keep := fun i h h' st k => by
    obtain ⟨o, ho, r⟩ := st
    exact ⟨o, k it (by simp) o ho, r⟩
  item := by
    intro X hP hw hK hc i pins s σ H E I hf st hg
    subst hP hw hK
    obtain ⟨f0, f1, f2, f3, f4, f5⟩ := hf it (by simp)
    have W := Walks.strAscii (prog := X.prog) (w := X.w) (I.ok.hd hc) it x t
    refine W.item i s _ _ hg st fun v h' tk hv st' kk => ?_
    obtain ⟨c, u, hx, rfl⟩ := hv
    have I1 : Inv X pins σ H { s with heap := h', toks := tk } := I.turned (fun b o hb e => kk b o (by simpa using hb) e) f0 f1 f3 f4 f5
    obtain ⟨o, ho, hoc, hod⟩ := id st'
    exact ⟨_, rfl, go_of (s := { s with heap := h', toks := tk }) (n := "str_ascii_iterator") ho hoc hod (by decide) ⟨.str ⟨#[c]⟩, H, I1, ⟨u, rfl⟩, ⟨rfl, c, by simpa using hx, rfl⟩, st', fun b hb => (hf b hb).1⟩⟩
  done := by
    intro X hP hw hK hc i pins s σ H E I hf st hg
    subst hP hw hK
    obtain ⟨f0, f1, f2, f3, f4, f5⟩ := hf it (by simp)
    have hg' : x.cps.size ≤ i := hg
    exact wpAny_pyNext_ascii_end (I.ok.hd hc) st (by simp; omega) fun h' eb => ⟨rfl, I.turned (t' := s.toks) (fun b o hb e => eb b o (by simpa using hb) e) f0 f1 f3 f4 f5⟩
  self := fun _ _ _ _ _ st h => wpAny_pyIter_striter_ascii st h
def iStr (tl : TE) : TI := fun σ H R => tl σ H fun v H1 => ∃ z : Str, v = .str z ∧ z.cps.all (· < 128) = true ∧ R (Its z) H1
theorem pi_str {tg l : Expr} {tl : TE} (hl : PE X l tl) : PI X tg l (iStr tl) := by
  intro pins s σ H R I h
  refine thn (hl pins s σ H _ I h) fun v s1 ⟨x, H1, I1, r1, z, hx, ha, q⟩ => ?_
  subst hx
  obtain ⟨t, rfl⟩ := r1
  refine wpAny_pyIter_ascii ha ?_
  have I2 : Inv X pins σ H1 { s1 with heap := s1.heap.push { cls := .type "str_ascii_iterator", data := .fields #[.str z t, .int 0 0] } } := I1.kept (t' := s1.toks) fun b o e => Heap.get?_push_of_some _ e
  refine ⟨s1.heap.objs.size, [s1.heap.objs.size], _, _, H1, rfl, I2, turn_strA _ z t, ⟨_, Heap.get?_push_size _ rfl, rfl, rfl⟩, fun b hb => ?_, q⟩
  have e : b = s1.heap.objs.size := by simpa using hb
  subst e
  exact I1.fpOk (Nat.le_refl _) (I1.hok.fresh (Nat.le_refl _))
/-- [te for sign in a text] -/
theorem comp_str {x : Str} {fr : List Nat} {te : CT TE} {σ : St} {H1 : Hp} {Q : Addr → Hp → Prop} (ys : List V) (hn : ys.length = x.length) (hz : x.length ≤ sizeLine)
    (turn : ∀ (i c : Nat) H, x.cps.toList[i]? = some c → Same H1 H → ∀ C₀ s₀ H₀ fp, te C₀ s₀ H₀ fp (some (.str ⟨#[c]⟩) :: fr.map fun j => (σ[j]?).getD none) H fun y H4 => Same H H4 ∧ ys[i]? = some y)
    (fin : ∀ D H, H1 D = none → Same H1 H → H D = some (.lst ys) → Q D H) :
    ∀ D, H1 D = none → ∃ W : Nat → Nat → St → Hp → Prop, (∃ m, W 0 m (stComp 1 fr σ) (upd H1 D (.lst []))) ∧ ∀ i m σ' H', W i m σ' H' →
    ((Its x).stop i H' ∧ Q D H') ∨ ((Its x).go i H' ∧ ∀ x' H2, (Its x).yld i H' x' H2 → ∀ C₀ s₀ H₀ fp, gName 0 x' σ' H2 fun σ3 H3 => ∃ N : VK, te C₀ s₀ H₀ fp σ3 H3 N ∧ ∀ y H4, N y H4 →
      ∃ ys m', H4 D = some (.lst ys) ∧ ys.length < sizeLine ∧ m' < m ∧ W (i + 1) m' σ3 (upd H4 D (.lst (ys ++ [y])))) :=
  comp_name ys hn hz (fun H s => Nat.le_refl _) (fun i H hi s => hi) (fun i H v H2 hi s y => by obtain ⟨e, c, hc, e2⟩ := y; subst e e2; exact ⟨rfl, turn i c _ hc s⟩) fin
/-! ### methods -/
theorem vals_strs : ∀ (l : List (Str × Tok)), Vals ((l.map (·.1)).map V.str) (strValues l)
  | [] => .nil
  | p :: r => .cons ⟨p.2, rfl⟩ (vals_strs r)
def rSplit : V → List V → Hp → VK → Prop := fun x vs H Q => ∃ z y : Str, x = .str z ∧ vs = [.str y] ∧ (y.length == 0) = false ∧ z.length ≤ 1000000 ∧ ∀ p, H p = none → Q (.ref p) (upd H p (.lst ((Txt.split z y).map V.str)))
theorem mt_split : MtR X "str.split" rSplit := by
  intro pins s σ H x xs v us Q I rx rv h
  obtain ⟨z, y, rfl, rfl, hy, hz, q⟩ := h
  obtain ⟨t, rfl⟩ := rx
  obtain ⟨u, rfl, ru⟩ := vals1 rv
  obtain ⟨t2, rfl⟩ := ru
  have hz0 : (sizeLine : Nat) = 16777216 := sizeLine_eq
  have hn : (Builtin.Str.partsBetween z (Builtin.Str.occurrences z y 0 z.length (z.length + 1)) y.length).length ≤ sizeLine := by
    have e1 := StrLaws.occ_length_le z y 0 z.length (z.length + 1)
    rw [length_partsBetween]; omega
  have fin : ∀ (l : List (Str × Tok)) (k : Nat), l.map (·.1) = Txt.split z y → EP X pins σ Q (.ref s.heap.objs.size) { s with heap := s.heap.push { cls := .type "list", data := .seq (strValues l).toArray }, toks := k } := fun l k hl => by
    have hle := split_le z y
    have e1 : l.length = (Txt.split z y).length := by rw [← hl, List.length_map]
    refine ⟨.ref s.heap.objs.size, _, I.lnew (t' := k) (vals_strs l) (by rw [List.length_map, List.length_map]; omega), rfl, ?_⟩
    rw [hl]
    exact q _ (I.hok.fresh (Nat.le_refl _))
  cases h1 : (decide (z.length < y.length) || decide (Builtin.Str.strKind z < Builtin.Str.strKind y))
  · cases hf : (Builtin.Str.occurrences z y 0 z.length (z.length + 1)).isEmpty
    · refine call_meets F.slot_str_split (typeIs_str _ _ _) F.entry_str_split (F.args_str_split_2 _ _) (meets_str_split_sep z y t t2 h1 hy hf (by omega) hn) ?_
      show wants _ _ _ { s with toks := _, heap := s.heap.push { cls := .type "list", data := .seq (strsFrom s.toks (Builtin.Str.partsBetween z (Builtin.Str.occurrences z y 0 z.length (z.length + 1)) y.length)).toArray } }
      rw [strsFrom_eq]
      exact fin (numbered s.toks _) _ ((numbered_texts _ _).trans ((if_neg (ne_true_of_eq_false h1)).trans (if_neg (ne_true_of_eq_false hf))).symm)
    · exact call_meets F.slot_str_split (typeIs_str _ _ _) F.entry_str_split (F.args_str_split_2 _ _) (meets_str_split_not_found z y t t2 h1 hy hf)
        (fin [(z, t)] s.toks ((if_neg (ne_true_of_eq_false h1)).trans (if_pos hf)).symm)
  · exact call_meets F.slot_str_split (typeIs_str _ _ _) F.entry_str_split (F.args_str_split_2 _ _) (meets_str_split_cannot_occur z y t t2 h1)
      (fin [(z, t)] s.toks (if_pos h1).symm)
/-- int(text) -/
theorem call_int_tx : CallR X (.type "int") (fun xs H Q => ∃ (z : Str) (n : Int), xs = [.str z] ∧ PySem.intText? z = some n ∧ z.length ≤ 640 ∧ Q (.int n) H) := by
  intro pins s σ H xs us Q I r h
  obtain ⟨z, n, rfl, hn, hl, q⟩ := h
  obtain ⟨u, rfl, t, rfl⟩ := vals1 r
  exact PySem.W.KIN.call_text hn hl ⟨.int n, H, I.tok _, ⟨_, rfl⟩, q⟩
/-- set(list of ints): how many differ -/
def difs (ns : List Int) : List Int := firstMet (fun i => ns.getD i 0) ns.length
theorem call_setL (hc : X.calm = true) : CallR X (.type "set") (fun xs H Q => ∃ (p : Addr) (ns : List Int), xs = [.ref p] ∧ SqL X.K H p (ns.map V.int) ∧ ns.length ≤ 1000 ∧ ∀ l, H l = none → Q (.ref l) (upd H l (.set (fun k => (difs ns).any (· == k)) (difs ns).length))) := by
  intro pins s σ H xs us Q I r h
  obtain ⟨p, ns, rfl, hq, hle, q⟩ := h
  obtain ⟨u, rfl, rx⟩ := vals1 r
  cases rx
  obtain ⟨its, r1, p1, hz⟩ := I.list hq
  have l1 : its.length = ns.length := by rw [← r1.length, List.length_map]
  have hsz : its.toArray.size = ns.length := by rw [List.size_toArray, l1]
  refine call_set_list (I.ok.hd hc) p1.isList (by simpa using intsAre_of r1) (by rw [hsz]; exact Nat.lt_of_le_of_lt (show ns.length + 1 ≤ 1001 by omega) (by decide)) fun h' tk hS kp => ?_
  rw [hsz] at hS
  exact ⟨.ref s.heap.objs.size, _, I.laid (t' := tk) (fun b o e => kp b o (Heap.lt_size e) e) (Nat.le_refl _) (show ObjOk X.prog X.w _ h' _ (.set _ _) from hS), rfl, q _ (I.hok.fresh (Nat.le_refl _))⟩
/-- len of a set of ints -/
theorem call_len_setI : CallR X (.builtin "len") (fun xs H Q => ∃ (p : Addr) (S : Int → Bool) (n : Nat), xs = [.ref p] ∧ H p = some (.set S n) ∧ n ≤ 1000000 ∧ Q (.int n) H) := by
  intro pins s σ H xs us Q I r h
  obtain ⟨p, S, n, rfl, hp, hn, q⟩ := h
  obtain ⟨u, rfl, rx⟩ := vals1 r
  cases rx
  obtain ⟨o, es, ep, t, ho, hex, hd, _, _, _, hf, hsz⟩ := I.hok p _ hp
  subst hsz
  exact call_len_set ho hex hd hf (by omega) ⟨.int es.size, H, (I.tok _).tok _, ⟨_, rfl⟩, q⟩
/-- a slice of a text -/
def rSlS : V → Option Int → Option Int → Hp → VK → Prop := fun x lo hi H Q => ∃ z : Str, x = .str z ∧ z.length ≤ 1000000 ∧ Q (.str (Txt.slice z lo hi)) H
theorem sl_str : SlR X rSlS := by
  intro pins s σ H x v vl vu lo hi sl Q I rx hs pl pu h
  obtain ⟨z, rfl, hz, q⟩ := h
  obtain ⟨t, rfl⟩ := rx
  have hz0 : (sizeLine : Nat) = 16777216 := sizeLine_eq
  have fin : ∀ t' k, EP X pins σ Q (.str (Txt.slice z lo hi) t') { s with toks := k } := fun t' k => ⟨.str _, H, I.tok k, ⟨t', rfl⟩, q⟩
  refine ⟨"str", _, F.slot_str_getitem.lookup, typeIs_str _ _ _, ?_⟩
  cases pl with
  | none =>
    cases pu with
    | none => exact wpAny_getItem_str_slice (l := none) (u := none) (st := none) hs rfl (post_val_or_str ⟨Nat.le_trans (Txt.slice_le z _ _) (by omega), fin⟩)
    | int j uj => exact wpAny_getItem_str_slice (l := none) (u := some (j, uj)) (st := none) hs rfl (post_val_or_str ⟨Nat.le_trans (Txt.slice_le z _ _) (by omega), fin⟩)
  | int i ui =>
    cases pu with
    | none => exact wpAny_getItem_str_slice (l := some (i, ui)) (u := none) (st := none) hs rfl (post_val_or_str ⟨Nat.le_trans (Txt.slice_le z _ _) (by omega), fin⟩)
    | int j uj => exact wpAny_getItem_str_slice (l := some (i, ui)) (u := some (j, uj)) (st := none) hs rfl (post_val_or_str ⟨Nat.le_trans (Txt.slice_le z _ _) (by omega), fin⟩)
end
theorem dedup_len : ∀ (l σ : List Int), ((l.foldl step_dedup σ).length = σ.length + l.length ↔ l.Nodup ∧ ∀ x ∈ l, x ∉ σ) ∧ (l.foldl step_dedup σ).length ≤ σ.length + l.length
  | [], σ => ⟨⟨fun _ => ⟨List.nodup_nil, fun x h => (by cases h)⟩, fun _ => rfl⟩, Nat.le_refl _⟩
  | a :: r, σ => by
    rw [List.foldl_cons]
    by_cases hm : a ∈ σ
    · have e : step_dedup σ a = σ := by
        unfold step_dedup
        rw [if_pos (by simpa using hm)]
      rw [e]
      have ih := dedup_len r σ
      refine ⟨⟨fun h => ?_, fun h => absurd hm (h.2 a List.mem_cons_self)⟩, by rw [List.length_cons]; omega⟩
      have := ih.2
      rw [List.length_cons] at h
      omega
    · have e : step_dedup σ a = σ ++ [a] := by
        unfold step_dedup
        rw [if_neg (by simpa using hm)]
      rw [e]
      have ih := dedup_len r (σ ++ [a])
      rw [List.length_append, List.length_cons, List.length_nil] at ih
      refine ⟨?_, by rw [List.length_cons]; omega⟩
      rw [List.length_cons, show σ.length + (r.length + 1) = σ.length + (0 + 1) + r.length by omega, ih.1, List.nodup_cons]
      constructor
      · rintro ⟨h1, h2⟩
        refine ⟨⟨fun z => h2 a z (by simp), h1⟩, fun x hx => ?_⟩
        rcases List.mem_cons.mp hx with z | z
        · rw [z]; exact hm
        · exact fun w => h2 x z (List.mem_append_left _ w)
      · rintro ⟨⟨h1, h2⟩, h3⟩
        refine ⟨h2, fun x hx w => ?_⟩
        rcases List.mem_append.mp w with z | z
        · exact h3 x (List.mem_cons_of_mem _ hx) z
        · have : x = a := by simpa using z
          exact h1 (this ▸ hx)
theorem difs_len {ns : List Int} : (difs ns).length = ns.length ↔ ns.Nodup := by
  have e : (List.range ns.length).map (fun i => ns.getD i 0) = ns := by
    apply List.ext_getElem?
    intro i
    rw [List.getElem?_map]
    by_cases hi : i < ns.length
    · rw [List.getElem?_range hi]
      simp [List.getElem?_eq_getElem hi]
    · rw [List.getElem?_eq_none (by rw [List.length_range]; omega), List.getElem?_eq_none (by omega)]
      rfl
  unfold difs firstMet
  rw [e]
  have := (dedup_len ns []).1
  rw [List.length_nil, Nat.zero_add] at this
  rw [this]
  exact ⟨fun h => h.1, fun h => ⟨h, fun x _ z => (by cases z)⟩⟩
end L2

set_option Elab.async false
set_option linter.all false
set_option maxRecDepth 100000
set_option maxHeartbeats 4000000
/-! for x in reversed(list) -/
namespace L2
open PySem PySem.Spec PyProof.Rows
theorem boot_reversed : bootBuiltins "reversed" = some (.type "reversed") := by decide +kernel
section
variable {X : Cx} {tg : Expr}
end
end L2

set_option Elab.async false
set_option linter.all false
set_option maxRecDepth 100000
set_option maxHeartbeats 4000000
/-! A comprehension over enumerate(list); a dict of the module, read. -/
namespace L2
open PySem PySem.Spec PyProof.Rows
section
variable {X : Cx}
end
end L2

set_option Elab.async false
set_option linter.all false
set_option maxRecDepth 100000
set_option maxHeartbeats 4000000
/-! An exception that leaves a def. -/
namespace L2
open PySem PySem.Spec PyProof.Rows
/-- how an exception of a class of the text lies behind a call -/
def CX1 (P : Program) (w : World) : CXT := fun outer H s E e s' => ∃ (ea C : Addr) (a0 : Value) (B : Heap) (H' : Hp), e = .ref ea ∧ s'.os = s.os ∧ AllBare s'.gens ∧ HOk P w H' B ∧ Heap.FlyingW B outer ea (.ref C) a0 s'.heap ∧
  (∀ b o, s.heap.get? b = some o → H b = none → b ∉ frs outer → B.get? b = some o) ∧
  (∀ b o, s.heap.get? b = some o → H b = none → b ∈ frs outer → ∃ sl, s'.heap.get? b = some { o with slots := sl }) ∧
  (∀ b o, s.heap.get? b = some o → H b = none → H' b = none) ∧
  (∀ b o, s.heap.get? b = some o → b ∈ frs outer ∨ ∃ o', B.get? b = some o') ∧
  (∀ b xs, H b = some (.tup xs) → H' b = some (.tup xs)) ∧ (∀ b o u, H b = some (.frz o u) → H' b = some (.frz o u)) ∧
  (∀ b ps, H b = some (.tbl ps) → ∃ more, H' b = some (.tbl (ps ++ more))) ∧ E (.ref C) none H'
theorem hok_hide {P : Program} {w : World} {H : Hp} {h : Heap} {fs : List Addr} (x : HOk P w H h) (hf : ∀ b ∈ fs, H b = none) : HOk P w H (PySem.W.hideAll h fs) := fun a o e =>
  (x a o e).stay (fun b u hb q => PySem.W.hideAll_get _ q fun hm => by
    have hn := hf b hm
    rcases hb with rfl | hb
    · rw [e] at hn; cases hn
    · rw [hb] at hn; cases hn) (fun _ q => q) fun _ _ q => q
section
variable {P : Program} {w : World} {K : PySem.W.Frag} {mg : Str → Option Value} {base : Heap} {N : List Str} {qual : Str} {scope : Scope} {f : Addr} {cd : Value} {A : Around} {outer : List Env} {s s1 : Shared} {H H1 : Hp} {E : XK} {pins : List (Addr × Obj)} {σ : St}
/-- raise C(..): the exception leaves the def -/
theorem leave_made {C e : Addr} {h' : Heap} {args : List Value} (I : Inv (cxOf (CX1 P w) P w K mg base N qual scope f cd A outer s H E) pins σ H1 s1) (hx : Heap.MadeExcOf s1.heap h' e (.ref C) args) (hE : E (.ref C) none H1) :
    (cxOf (CX1 P w) P w K mg base N qual scope f cd A outer s H E).xe (.ref e) { s1 with heap := h' } := by
  have hst := I.stack
  have hfree := I.stkFree
  refine wpAny_leaves_madeW (base := PySem.W.hideAll s1.heap (frs (envOfC qual scope s.heap.objs.size f cd :: outer))) (h := s1.heap) I.ok.frames rfl (fun b o q => PySem.W.of_hideAll _ q) (PySem.W.funFrames_hide hst fun env he a ha => List.mem_filterMap.mpr ⟨env, he, ha⟩) hx fun h'' t x1 x2 x3 x4 => ?_
  have notL : ∀ b o, s.heap.get? b = some o → b ∉ frs outer → b ∉ frs (envOfC qual scope s.heap.objs.size f cd :: outer) := fun b o hb hn hm => by
    obtain ⟨env, he, ha⟩ := List.mem_filterMap.mp hm
    rcases List.mem_cons.mp he with rfl | he
    · have e1 : s.heap.objs.size = b := Option.some.inj ha
      exact absurd (Heap.lt_size hb) (by rw [e1]; exact Nat.lt_irrefl _)
    · exact hn (List.mem_filterMap.mpr ⟨env, he, ha⟩)
  refine ⟨e, C, .ref t, _, H1, rfl, I.os, I.bare, hok_hide I.hok hfree, x1, fun b o hb hn hf => ?_, fun b o hb hn hf => ?_, fun b o hb hn => ?_, fun b o hb => ?_, I.base.tups, I.base.frzs, I.base.tbls, hE⟩
  · exact PySem.W.hideAll_get _ (I.base.keep b o hb hn hf (by intro z; cases z)) (notL b o hb hf)
  · obtain ⟨sl, q⟩ := I.base.slot b o hb hn hf (by intro z; cases z)
    obtain ⟨_, o2, ho2, hd⟩ := I.funs.mem hf
    have e2 : o2 = { o with slots := sl } := Option.some.inj (ho2.symm.trans q)
    subst e2
    obtain ⟨sl', q'⟩ := x4 b _ (hx.keeps _ _ q) hd
    exact ⟨sl', q'⟩
  · exact I.base.free b o hb hn (by intro z; cases z)
  · by_cases hf : b ∈ frs outer
    · exact .inl hf
    · obtain ⟨o', q⟩ := I.base.there b o hb (by intro z; cases z)
      exact .inr ⟨o', PySem.W.hideAll_get _ q (notL b o hb hf)⟩
/-- an exception of a callee goes on through this def -/
theorem leave_on {e : Value} {s2 : Shared} {E1 : XK} (I : Inv (cxOf (CX1 P w) P w K mg base N qual scope f cd A outer s H E) pins σ H1 s1) (hx : CX1 P w (cxOf (CX1 P w) P w K mg base N qual scope f cd A outer s H E).stack H1 s1 E1 e s2) (hE : ∀ C a H', E1 C a H' → E C a H') :
    (cxOf (CX1 P w) P w K mg base N qual scope f cd A outer s H E).xe e s2 := by
  obtain ⟨ea, C, a0, B, H', rfl, hos, hbare, hok, hfl, k1, k2, k3, k4, k5, k6, k7, hE1⟩ := hx
  refine wpAny_leaves_onW I.ok.frames rfl hfl fun h'' x1 x2 => ?_
  have inB : ∀ b o, s.heap.get? b = some o → H b = none → b ∉ frs outer → B.get? b = some o := fun b o hb hn hf => by
    have q := I.base.keep b o hb hn hf (by intro z; cases z)
    refine k1 b o q (I.base.free b o hb hn (by intro z; cases z)) fun hm => ?_
    obtain ⟨env, he, ha⟩ := List.mem_filterMap.mp hm
    rcases List.mem_cons.mp he with rfl | he
    · have e1 : s.heap.objs.size = b := Option.some.inj ha
      exact absurd (Heap.lt_size hb) (by rw [e1]; exact Nat.lt_irrefl _)
    · exact hf (List.mem_filterMap.mpr ⟨env, he, ha⟩)
  have sub : ∀ b, b ∈ frs outer → b ∈ frs (envOfC qual scope s.heap.objs.size f cd :: outer) := fun b hb => by
    obtain ⟨env, he, ha⟩ := List.mem_filterMap.mp hb
    exact List.mem_filterMap.mpr ⟨env, List.mem_cons_of_mem _ he, ha⟩
  refine ⟨ea, C, a0, B, H', rfl, hos.trans I.os, hbare, hok, x1, inB, fun b o hb hn hf => ?_, fun b o hb hn => ?_, fun b o hb => ?_, fun b xs q => k5 b xs (I.base.tups b xs q), fun b o u q => k6 b o u (I.base.frzs b o u q), fun b ps q => ?_, hE _ _ _ hE1⟩
  · obtain ⟨sl, q⟩ := I.base.slot b o hb hn hf (by intro z; cases z)
    have hn1 := I.base.free b o hb hn (by intro z; cases z)
    obtain ⟨sl2, q2⟩ := k2 b _ q hn1 (sub b hf)
    obtain ⟨_, o2, ho2, hd⟩ := I.funs.mem hf
    have e2 : o2 = { o with slots := sl } := Option.some.inj (ho2.symm.trans q)
    subst e2
    obtain ⟨sl', q'⟩ := x2 b _ q2 hd
    exact ⟨sl', q'⟩
  · obtain ⟨o', q⟩ := I.base.there b o hb (by intro z; cases z)
    exact k3 b o' q (I.base.free b o hb hn (by intro z; cases z))
  · by_cases hf : b ∈ frs outer
    · exact .inl hf
    · obtain ⟨o', q⟩ := I.base.there b o hb (by intro z; cases z)
      rcases k4 b o' q with hm | hm
      · obtain ⟨env, he, ha⟩ := List.mem_filterMap.mp hm
        rcases List.mem_cons.mp he with rfl | he
        · have e1 : s.heap.objs.size = b := Option.some.inj ha
          exact absurd (Heap.lt_size hb) (by rw [e1]; exact Nat.lt_irrefl _)
        · exact absurd (List.mem_filterMap.mpr ⟨env, he, ha⟩) hf
      · exact .inr hm
  · obtain ⟨m1, q1⟩ := I.base.tbls b ps q
    obtain ⟨m2, q2⟩ := k7 b _ q1
    exact ⟨m1 ++ m2, by rw [q2, Array.append_assoc]⟩
end
/-! ### behind a caught exception -/
end L2

set_option Elab.async false
set_option linter.all false
set_option maxRecDepth 100000
set_option maxHeartbeats 4000000
/-! A list comprehension with one test; d.setdefault; list(d.values()). -/
namespace L2
open PySem PySem.Spec PyProof.Rows
section
variable {prog : Program} {w : World} {A : Around} {s : Shared}
end
section
variable {X : Cx} {own : Nat} {fr : List Nat} {N' : List Str} {tg iter elt ce : Expr} {scope : Scope} {pos : Pos} {wi : TI} {g : CT TG} {te : CT TE} {tt : CT TT}
end
/-! ### d.setdefault(k, x), d.values(), list(d.values()) -/
section
variable {X : Cx}
end
end L2

set_option Elab.async false
set_option linter.all false
set_option maxRecDepth 100000
set_option maxHeartbeats 4000000
/-! Raising and catching exceptions of classes of the text. -/
namespace L2
open PySem PySem.Spec PyProof.Rows
/-! ### classes -/
abbrev bmV : List Value := [.type "ValueError", .type "Exception", .type "BaseException", .type "object"]
/-- a class of the text under ValueError: tl is the line of its bases -/
structure XCls (K : PySem.W.Frag) (C : Addr) (tl : List Value) (newId : String) : Prop where
  obj : ∃ nm qn N bs hdct sn sub ab col dd k0 k1 k2 k3 k5 oN, K.lookup C = some (excClassObj nm qn C N bs tl hdct sn sub ab col dd k0 k1 k2 k3 k5 newId) ∧ K.lookup N = some oN ∧ PySem.W.nsOkIn K N = true ∧ PySem.W.nsIn K N "__init__" = some none
  tail : PySem.W.tailIn K bmV tl = true
theorem XCls.mk' {K : PySem.W.Frag} {C : Addr} {tl : List Value} {newId : String} {nm qn : Str} {N : Addr} {bs : List Value} {hdct : Bool} {sn : List Str} {sub : List Value} {ab : Bool} {col : Option Bool} {dd : Option Addr} {k0 k1 k2 k3 k5 : Option Value} {oN : Obj}
    (l : K.lookup C = some (excClassObj nm qn C N bs tl hdct sn sub ab col dd k0 k1 k2 k3 k5 newId)) (n : K.lookup N = some oN) (o : PySem.W.nsOkIn K N = true) (i : PySem.W.nsIn K N "__init__" = some none) (t : PySem.W.tailIn K bmV tl = true) : XCls K C tl newId :=
  ⟨⟨nm, qn, N, bs, hdct, sn, sub, ab, col, dd, k0, k1, k2, k3, k5, oN, l, n, o, i⟩, t⟩
theorem xobj {K : PySem.W.Frag} {C : Addr} {tl : List Value} {newId : String} (x : XCls K C tl newId) : ∃ nm qn N bs hdct sn sub ab col dd k0 k1 k2 k3 k5 oN,
    K.lookup C = some (excClassObj nm qn C N bs tl hdct sn sub ab col dd k0 k1 k2 k3 k5 newId) ∧ K.lookup N = some oN ∧ ∀ h, K.In h → (∃ mN, h.Ns N mN ∧ mN "__init__" = none) ∧ OwnTail h bmV tl := by
  obtain ⟨⟨nm, qn, N, bs, hdct, sn, sub, ab, col, dd, k0, k1, k2, k3, k5, oN, l, n, o, i⟩, t⟩ := x
  exact ⟨nm, qn, N, bs, hdct, sn, sub, ab, col, dd, k0, k1, k2, k3, k5, oN, l, n, fun h X => ⟨⟨_, .of_isNs (PySem.W.isNs_of_in X o), PySem.W.nsMap_none_of_in X o i⟩, PySem.W.tail_of_in X t⟩⟩
theorem ns_same {h h' : Heap} {N : Addr} {o : Obj} {m : Str → Option Value} (e : h.get? N = some o) (e' : h'.get? N = some o) (n : h.Ns N m) : h'.Ns N m := by
  obtain ⟨o1, es, ep, ho, r⟩ := n
  rw [e] at ho
  cases ho
  exact ⟨o, es, ep, e', r⟩
theorem OwnTail.base_in {h : Heap} {tl : List Value} (T : OwnTail h bmV tl) : tl.contains (.type "BaseException") = true := T.hasType (by decide)
/-- an exception of the text, tracked -/
def ExcO (ea C : Addr) : HO := .ext fun h => ∃ o, h.get? ea = some o ∧ o.cls = .ref C
/-! ### raise -/
section
variable {P : Program} {w : World} {K : PySem.W.Frag} {mg : Str → Option Value} {base : Heap} {N : List Str} {qual : Str} {scope : Scope} {f : Addr} {cd : Value} {A : Around} {outer : List Env} {s0 : Shared} {H0 : Hp} {E : XK}
theorem ps_raise {x : Str} {C : Addr} {tl : List Value} {Bn newId inN : String} {bmN : List Value} {e : Expr} {es : List Expr} {t : TA} {np cpos pos : Pos} (hm : mg x = some (.ref C)) (hx : XCls K C tl newId) (Fn : ExcBaseFacts Bn newId inN bmN) (hBn : bmV.contains (.type Bn) = true)
    (hg : Gl (cxOf (CX1 P w) P w K mg base N qual scope f cd A outer s0 H0 E) x) (ha : PA (cxOf (CX1 P w) P w K mg base N qual scope f cd A outer s0 H0 E) (e :: es) t)
    (hd : (x == ("__debug__" : Str)) = false := by decide) (he : starEach (e :: es) (envOfC qual scope s0.heap.objs.size f cd) = (false, eval e (envOfC qual scope s0.heap.objs.size f cd)) :: starEach es (envOfC qual scope s0.heap.objs.size f cd) := by rfl)
    (hpl : (backTo cpos (starEach es (envOfC qual scope s0.heap.objs.size f cd))).any (·.1) = false := by rfl) :
    PS (cxOf (CX1 P w) P w K mg base N qual scope f cd A outer s0 H0 E) (.Raise (some (.Call (.Name x np) (e :: es) [] cpos)) none pos) (fun D σ H1 => t σ H1 fun vs H2 => vs.length ≤ 1000 ∧ E (.ref C) none H2) := by
  intro pins s σ H D I h
  obtain ⟨nm, qn, Na, bs, hdct, sn, sub, ab, col, dd, k0, k1, k2, k3, k5, oN, lC, lN, all⟩ := xobj hx
  obtain ⟨⟨mN, hN, hni⟩, T⟩ := all _ I.kIn
  refine wpAny_Raise_call_subU (C := C) (nm := nm) (q := qn) (N := Na) (bs := bs) (bm := tl) (hdct := hdct) (sn := sn) (sub := sub) (ab := ab) (col := col) (dd := dd) (k0 := k0) (k1 := k1) (k2 := k2) (k3 := k3) (k5 := k5)
    Fn hBn PySem.F.excBase_ValueError (mN := mN) (OwnTail.base_in T) (I.ok.hd rfl) ?_ hni (ld_glob I hg hm ⟨rfl, ?_⟩ hd)
  · show (backTo cpos (starEach (e :: es) (envOfC qual scope s0.heap.objs.size f cd))).any (·.1) = false
    rw [he]
    show (false || (backTo cpos (starEach es (envOfC qual scope s0.heap.objs.size f cd))).any (·.1)) = false
    rw [hpl]
    rfl
  have hA := ha cpos pins s σ H _ I h
  show wpAny _ _ (evalArgs (.ref C) true (backTo cpos (starEach (e :: es) (envOfC qual scope s0.heap.objs.size f cd))) []) _ _ s
  have hA' : wpAny (model P w) (cxOf (CX1 P w) P w K mg base N qual scope f cd A outer s0 H0 E).A (spliced (backTo cpos (starEach (e :: es) (envOfC qual scope s0.heap.objs.size f cd)))) _ _ s := hA
  rw [he] at hA' ⊢
  refine Calls.evalArgs_plain (thn hA' fun us s2 ⟨vs, H2, I2, r, q1, q2⟩ => ?_)
  refine ⟨rfl, ?_, I2.kIn _ _ lC, ns_same (I.kIn _ _ lN) (I2.kIn _ _ lN) hN, (all _ I2.kIn).2, fun h' ex hx => leave_made I2 hx q2⟩
  rw [← r.length]
  exact Nat.le_trans q1 (by decide)
/-- a def that raises -/
theorem Fun.okX {x qual : Str} {st : Stmt} {f : Addr} {fd : FuncData} {N ps : List Str} {k : Nat} {sp : Sp} (F : Fun K x qual st f fd) (S : FnScope N ps (defScope st)) (len : ∀ vs H Q E, sp vs H Q E → vs.length = ps.length)
    (hbody : ∀ (cdv : Value) (A : Around) (outer : List Env) (s : Shared) (H : Hp) (vs : List V) (Q : VK) (E : XK), Room k (A.deeper (envOfC qual (defScope st) s.heap.objs.size f cdv)) → sp vs H Q E →
      ∃ t, PSs (cxOf (CX1 P w) P w K mg base N qual (defScope st) f cdv A outer s H E) (defBody st) t ∧ t { nx := fun _ H' => Q .non H', rt := Q } (start N vs) H) : FnOk P w K mg base (CX1 P w) (k + 1) f fd ps sp := by
  obtain ⟨oc, od, kV, doc, pm, an, cdv, ct, osl, rfl, lk, hcd⟩ := F.ex
  refine fn_of lk hcd S len fun A outer s H vs Q E hr hsp => ?_
  obtain ⟨t, h, q⟩ := hbody cdv A outer s H vs Q E hr hsp
  exact ⟨t, h, q⟩
end
/-! ### behind a catch -/
theorem ObjOk.there {P : Program} {w : World} {H : Hp} {h : Heap} {a : Addr} {o : HO} (x : ObjOk P w H h a o) : ∃ ob, h.get? a = some ob := by
  cases o with
  | lst xs => obtain ⟨_, _, _, _, e⟩ := x; exact ⟨_, e⟩
  | tup xs => obtain ⟨_, _, _, o, e, _⟩ := x; exact ⟨_, e⟩
  | dK kvs => obtain ⟨_, _, _, _, o, _, _, e, _⟩ := x; exact ⟨_, e⟩
  | dT kvs => obtain ⟨_, _, _, _, o, _, _, e, _⟩ := x; exact ⟨_, e⟩
  | set S n => obtain ⟨o, _, _, _, e, _⟩ := x; exact ⟨_, e⟩
  | ins C dx fs => obtain ⟨_, _, _, e, _⟩ := x; exact ⟨_, e⟩
  | own y => obtain ⟨_, e⟩ := x; exact ⟨_, e⟩
  | xd fs => obtain ⟨_, ⟨_, _, _, e, _⟩, _⟩ := x; exact ⟨_, e⟩
  | rng lo hi => obtain ⟨_, _, _, e⟩ := x; exact ⟨_, e⟩
  | frz ob u => obtain ⟨e, _⟩ := x; exact ⟨_, e⟩
  | tbl ps => exact ⟨_, (show h.get? a = some _ from x)⟩
  | met f y => exact ⟨_, (show h.get? a = some _ from x)⟩
  | ext φ => obtain ⟨_, ⟨_, e⟩, _⟩ := x; exact ⟨_, e⟩
theorem HOk.track {P : Program} {w : World} {H : Hp} {h : Heap} {a : Addr} {o : HO} (x : HOk P w H h) (hn : H a = none) (new : ObjOk P w (upd H a o) h a o) : HOk P w (upd H a o) h := fun b u e => by
  by_cases hb : b = a
  · subst hb; rw [upd_same] at e; cases e; exact new
  · rw [upd_ne hb] at e
    exact (x b u e).stay (fun c v _ q => q) (fun c q => by rw [upd_ne (ne_of_none q hn)]; exact q) fun c xs q => by rw [upd_ne (ne_of_none q hn)]; exact q
theorem Flying.grow {B : Heap} {l : List Env} {e : Addr} {cls a0 : Value} {h h' : Heap} (x : Heap.FlyingW B l e cls a0 h) (k : ∀ b o, h.get? b = some o → h'.get? b = some o) : Heap.FlyingW B l e cls a0 h' := by
  obtain ⟨f1, f2, f3, oe, vs, T, oT, ts, he, hc, hd, h1, hn, ne, hT, hdT, h3⟩ := x
  exact ⟨fun b o q => k _ _ (f1 b o q), f2, f3.of_keeps fun b o q _ => ⟨o, k _ _ q, rfl⟩, oe, vs, T, oT, ts, k _ _ he, hc, hd, h1, hn, ne, k _ _ hT, hdT, h3⟩
/-- an exception is caught: it flies over the heap, and whatever heap it flies over is good for the catcher -/
def Cgt (X : Cx) (pins : List (Addr × Obj)) (σ : St) (H : Hp) (ea C : Addr) (s : Shared) : Prop :=
  ∃ (B : Heap) (a0 : Value), Heap.FlyingW B X.stack ea (.ref C) a0 s.heap ∧ H ea = some (ExcO ea C) ∧ ∀ (h : Heap) (tk : Nat), Heap.FlyingW B X.stack ea (.ref C) a0 h → s.heap.UpToSlots h → Inv X pins σ H { s with heap := h, toks := tk }
theorem Cgt.grow {X : Cx} {pins : List (Addr × Obj)} {σ : St} {H : Hp} {ea C : Addr} {s : Shared} (x : Cgt X pins σ H ea C s) {h' : Heap} (k : ∀ b o, s.heap.get? b = some o → h'.get? b = some o) (tk : Nat) : Cgt X pins σ H ea C { s with heap := h', toks := tk } := by
  obtain ⟨B, a0, f, e, all⟩ := x
  exact ⟨B, a0, Flying.grow f k, e, fun h tk' f' u => all h tk' f' ((Heap.UpToSlots.of_keeps k).trans u)⟩
theorem Cgt.inv {X : Cx} {pins : List (Addr × Obj)} {σ : St} {H : Hp} {ea C : Addr} {s : Shared} (x : Cgt X pins σ H ea C s) : Inv X pins σ H s := by
  obtain ⟨B, a0, f, e, all⟩ := x
  exact all s.heap s.toks f (Heap.UpToSlots.refl _)
/-- from the call's end to the handlers -/
theorem catch_ok {X : Cx} {pins : List (Addr × Obj)} {σ : St} {H : Hp} {s s' : Shared} {E : XK} {e : Value} {Q : Flow → Shared → Prop} {E' : Value → Shared → Prop} {hs : List ExceptHandler} (I : Inv X pins σ H s) (hst : X.stack = X.env :: X.outer) (hfr : X.env.frame = some X.env.locals)
    (hx : CX1 X.prog X.w X.stack H s E e s')
    (h : ∀ ea C H' s2, e = .ref ea → Cgt X pins σ (upd H' ea (ExcO ea C)) ea C s2 → H' ea = none → E (.ref C) none H' → wpAny (model X.prog X.w) X.A (handleBy (.ref ea) X.env hs) Q E' s2) :
    wpAny (model X.prog X.w) X.A (noteFrame e X.env) (fun _ s2 => wpAny (model X.prog X.w) X.A (setFlight e none) (fun _ s3 => wpAny (model X.prog X.w) X.A (handleBy e X.env hs) Q E' s3) E' s2) E' s' := by
  obtain ⟨ea, C, a0, B, H', rfl, hos, hbare, hok, hfl, k1, k2, k3, k4, k5, k6, k7, hE⟩ := hx
  have hen : H' ea = none := by
    cases q : H' ea with
    | none => rfl
    | some o =>
      obtain ⟨ob, z⟩ := ObjOk.there (hok ea o q)
      rw [hfl.2.1] at z
      cases z
  have hfl0 := hfl
  rw [hst] at hfl
  refine wpAny_looks_onW (hst ▸ I.ok.frames) hfr hfl fun h1 held u1 => ?_
  refine wpAny_landsW held fun h2 fl2 u2 => ?_
  have u12 : s'.heap.UpToSlots h2 := u1.trans u2
  rw [← hst] at fl2
  refine h ea C H' _ rfl ⟨B, a0, fl2, upd_same, fun hh tk flh uh => ?_⟩ hen hE
  have u3 : s'.heap.UpToSlots hh := u12.trans uh
  have nea : ∀ b o, s.heap.get? b = some o → b ≠ ea := fun b o hb z => by
    subst z
    rcases k4 b o hb with hm | ⟨o', q⟩
    · obtain ⟨_, o2, ho2, hd⟩ := hfl0.2.2.1.mem hm
      obtain ⟨oe, vs, he, _, hde, _⟩ := hfl0.first
      rw [he] at ho2
      cases ho2
      exact hd vs hde
    · rw [hfl0.2.1] at q
      cases q
  obtain ⟨oe, vs, he, hc, hde, _⟩ := flh.first
  have k2' : ∀ b o, s.heap.get? b = some o → H b = none → b ∈ frs X.stack → ∃ sl, hh.get? b = some { o with slots := sl } := fun b o q n hf => by
    obtain ⟨sl, q1⟩ := k2 b o q n hf
    obtain ⟨_, o2, ho2, hd⟩ := hfl0.2.2.1.mem hf
    have e2 : o2 = { o with slots := sl } := Option.some.inj (ho2.symm.trans q1)
    subst e2
    obtain ⟨sl', q'⟩ := u3 b _ q1 hd
    exact ⟨sl', q'⟩
  have Hok : HOk X.prog X.w (upd H' ea (ExcO ea C)) hh := HOk.track (hok.kept fun b u q => flh.1 _ _ q) hen ⟨⟨oe, he, hc⟩, ⟨oe, he⟩, fun h1 h2 ⟨o, ho, r⟩ k => ⟨o, k o ho, r⟩⟩
  refine I.call' (s' := { s' with heap := hh, toks := tk }) (ch := []) hos ⟨fun b o q n hf _ => flh.1 _ _ (k1 b o q n hf), fun b o q n hf _ => k2' b o q n hf, fun b o q n _ => by rw [upd_ne (nea b o q)]; exact k3 b o q n, fun b o q _ => ?_, fun b xs q => by rw [upd_ne (ne_of_none (k5 b xs q) hen)]; exact k5 b xs q, fun b o u q => by rw [upd_ne (ne_of_none (k6 b o u q) hen)]; exact k6 b o u q, fun b ps q => by
      obtain ⟨more, z⟩ := k7 b ps q
      exact ⟨more, by rw [upd_ne (ne_of_none z hen)]; exact z⟩⟩ Hok hbare (fun b z => absurd z (by simp))
  rcases k4 b o q with hm | ⟨o', q'⟩
  · obtain ⟨_, o2, ho2, _⟩ := I.stack.mem hm
    obtain ⟨sl, q2⟩ := k2' b o2 ho2 (I.stkFree b hm) hm
    exact ⟨_, q2⟩
  · exact ⟨o', flh.1 _ _ q'⟩
/-! ### which handler -/
section
variable {M : Model} {A : Around} {E : Value → Shared → Prop} {s : Shared}
theorem forIn_stay {α β : Type} {cs : List α} {b : β} {f : α → β → Sem (ForInStep β)} {Q : β → Shared → Prop} (hf : ∀ c ∈ cs, ∀ Q' : ForInStep β → Shared → Prop, Q' (.yield b) s → wpAny M A (f c b) Q' E s) (h : Q b s) : wpAny M A (forIn cs b f) Q E s := by
  induction cs with
  | nil => exact wpAny_pure h
  | cons c r ih =>
    rw [List.forIn_cons]
    exact wpAny_bind (hf c List.mem_cons_self _ (ih fun d hd => hf d (List.mem_cons_of_mem _ hd)))
/-- an own class, as a heap has it -/
def XAt (h : Heap) (D : Addr) (tl : List Value) : Prop := ∃ nm qn N bs hdct sn sub ab col dd k0 k1 k2 k3 k5 newId, h.get? D = some (excClassObj nm qn D N bs tl hdct sn sub ab col dd k0 k1 k2 k3 k5 newId)
theorem XCls.at {K : PySem.W.Frag} {C : Addr} {tl : List Value} {newId : String} (x : XCls K C tl newId) {h : Heap} (X : K.In h) : XAt h C tl ∧ tl.contains (.type "BaseException") = true := by
  obtain ⟨nm, qn, N, bs, hdct, sn, sub, ab, col, dd, k0, k1, k2, k3, k5, oN, l, n, all⟩ := xobj x
  exact ⟨⟨nm, qn, N, bs, hdct, sn, sub, ab, col, dd, k0, k1, k2, k3, k5, newId, X _ _ l⟩, OwnTail.base_in (all _ X).2⟩
theorem sub_at {D : Addr} {tl : List Value} {v : Value} {Q : Bool → Shared → Prop} (x : XAt s.heap D tl) (q : Q ((Value.ref D :: tl).contains v) s) : wpAny M A (isSubtype (.ref D) v) Q E s := by
  obtain ⟨nm, qn, N, bs, hdct, sn, sub, ab, col, dd, k0, k1, k2, k3, k5, newId, l⟩ := x
  obtain ⟨h, g, d, t, os⟩ := s
  exact wpAny_isSubtype_exc l q
theorem isExc_at {D : Addr} {tl : List Value} {Q : Bool → Shared → Prop} (x : XAt s.heap D tl) (b : tl.contains (.type "BaseException") = true) (q : Q true s) : wpAny M A (isExcClass (.ref D)) Q E s := by
  obtain ⟨nm, qn, N, bs, hdct, sn, sub, ab, col, dd, k0, k1, k2, k3, k5, newId, l⟩ := id x
  unfold isExcClass isType loadHead
  refine wpAny_bind (wpAny_bind (wpAny_loadPart l (wpAny_pure ?_)))
  dsimp only
  rw [if_pos rfl]
  refine sub_at x ?_
  rw [List.contains_cons, b, Bool.or_true]
  exact q
theorem typeOf_at {e : Addr} {oe : Obj} {C : Addr} {Q : Value → Shared → Prop} (he : s.heap.get? e = some oe) (hc : oe.cls = .ref C) (q : Q (.ref C) s) : wpAny M A (typeOf (.ref e)) Q E s := by
  obtain ⟨h, g, d, t, os⟩ := s
  unfold typeOf
  refine wpAny_bind (wpAny_loadPart he (wpAny_pure ?_))
  rw [hc]
  exact q
/-- one own class -/
theorem matches_one {e D C : Addr} {oe : Obj} {tl tlD : List Value} {Q : Bool → Shared → Prop} (he : s.heap.get? e = some oe) (hc : oe.cls = .ref C) (hC : XAt s.heap C tl) (hD : XAt s.heap D tlD) (hb : tlD.contains (.type "BaseException") = true)
    (hm : (Value.ref C :: tl).contains (.ref D) = true) (q : Q true s) : wpAny M A (excMatches (.ref e) (.ref D)) Q E s := by
  obtain ⟨nm, qn, N, bs, hdct, sn, sub, ab, col, dd, k0, k1, k2, k3, k5, newId, l⟩ := id hD
  unfold excMatches
  refine wpAny_bind (wpAny_isInstance (T := "type") (b := false) (show s.TypeIs (.ref D) "type" from ⟨_, l, rfl⟩) (by rw [isSubtype_type]; kernel_rfl) ?_)
  dsimp only
  rw [if_neg Bool.false_ne_true]
  try (refine wpAny_bind (wpAny_pure ?_))
  refine wpAny_bind (forIn_stay (fun c hcm Q' hq => ?_) ?_)
  · obtain rfl := List.mem_singleton.mp hcm
    refine wpAny_bind (isExc_at hD hb ?_)
    rw [if_neg (by decide)]
    exact wpAny_pure hq
  refine wpAny_bind (typeOf_at he hc ?_)
  rw [List.forIn_cons]
  refine wpAny_bind (wpAny_bind (wpAny_bind (sub_at hC ?_)))
  rw [hm, if_pos rfl]
  exact wpAny_pure (wpAny_pure (wpAny_pure q))
end
/-! ### handlers -/
/-- the context of an except suite -/
abbrev sxOf (X : Cx) (ea : Addr) : Cx := { X with A := X.A.mark (some (.ref ea)), calm := false, xe := fun _ _ => False }
theorem Inv.sx {X : Cx} {pins : List (Addr × Obj)} {σ : St} {H : Hp} {s : Shared} (I : Inv X pins σ H s) (ea : Addr) : Inv (sxOf X ea) pins σ H s :=
  ⟨⟨I.ok.mod, I.ok.kind, I.ok.glob, I.ok.blt, I.ok.above, I.ok.inj, I.ok.has, I.ok.cab, (fun z => by cases z), I.ok.frames, I.ok.stk, I.ok.exf, I.ok.bs, I.ok.bsz, I.ok.noex, I.ok.exfs, I.ok.funs, I.ok.frf⟩, I.os, I.bare, I.base, I.loc, I.cell, I.free, I.freeC, I.pin, I.hok, I.len⟩
theorem Inv.unsx {X : Cx} {pins : List (Addr × Obj)} {σ : St} {H : Hp} {s : Shared} {ea : Addr} (ok : X.Ok) (I : Inv (sxOf X ea) pins σ H s) : Inv X pins σ H s :=
  ⟨ok, I.os, I.bare, I.base, I.loc, I.cell, I.free, I.freeC, I.pin, I.hok, I.len⟩
/-- what is wanted of the handlers, for an exception at ea of the class C -/
def PH (X : Cx) (hs : List ExceptHandler) (t : Addr → Addr → TS) : Prop := ∀ (pins : List (Addr × Obj)) (σ : St) (H : Hp) (ea C : Addr) (s : Shared) (D : Ends), Cgt X pins σ H ea C s → t ea C D σ H →
  wpAny (model X.prog X.w) X.A (handleBy (.ref ea) X.env hs) (SP X pins D) X.xe s
/-- names of own classes -/
inductive Names (X : Cx) : List Expr → List Addr → Prop
  | nil : Names X [] []
  | cons {x : Str} {p : Pos} {c : Addr} {es : List Expr} {cs : List Addr} : Gl X x → X.mg x = some (.ref c) → (x == ("__debug__" : Str)) = false → Names X es cs → Names X (.Name x p :: es) (c :: cs)
theorem Names.len {X : Cx} {es : List Expr} {cs : List Addr} (n : Names X es cs) : es.length = cs.length := by
  induction n with
  | nil => rfl
  | cons _ _ _ _ ih => rw [List.length_cons, List.length_cons, ih]
section
variable {X : Cx}
end
/-- a name goes -/
theorem unbind_ok {X : Cx} {pins : List (Addr × Obj)} {σ : St} {H : Hp} {s : Shared} {M : Model} {A : Around} {E : Value → Shared → Prop} {i : Nat} {x : Str} {pos : Pos} {Q : Unit → Shared → Prop} (I : Inv X pins σ H s) (hN : X.N.Nodup) (hi : X.N[i]? = some x) (hk : X.env.scope.names.lookup x = some .local)
    (h : ∀ s', Inv X pins (σ.set i none) H s' → Q () s') : wpAny M A (do bindName X.env x .none; unbindBehindTheSuite X.env x pos) Q E s := by
  obtain ⟨m, hn, hl⟩ := id I.loc
  have hcls : (X.env.scope.kind == .class || (X.env.scope.kind == .module && X.env.locals != X.env.globals)) = false := by rw [I.ok.kind]; rfl
  obtain ⟨oL, _, _, hoL, _⟩ := id hn
  have hiσ : i < σ.length := by rw [I.len]; exact (List.getElem?_eq_some_iff.mp hi).1
  refine wpAny_nameGoes_keeps hk hn hcls fun h' v hn' sb => h _ ?_
  have old : ∀ b o, X.s₀.heap.get? b = some o → h'.get? b = s.heap.get? b := fun b o e => sb.2 b (Nat.ne_of_lt (Nat.lt_of_lt_of_le (Heap.lt_size e) I.ok.above))
  refine ⟨I.ok, I.os, I.bare, ⟨fun b o e n hb hx => (old b o e).trans (I.base.keep b o e n hb hx), fun b o e n hb hx => ?_, I.base.free, fun b o e hx => ?_, I.base.tups, I.base.frzs, I.base.tbls⟩, ⟨_, hn', fun j y v' e1 e2 e3 => ?_⟩, fun y c e => ?_, I.free, I.freeC, fun p hp => ?_, fun b ob e => ?_, by rw [List.length_set]; exact I.len⟩
  · obtain ⟨sl, q⟩ := I.base.slot b o e n hb hx
    exact ⟨sl, (old b o e).trans q⟩
  · obtain ⟨o', q⟩ := I.base.there b o e hx
    exact ⟨o', (old b o e).trans q⟩
  · have hj : j ≠ i := fun z => by
      subst z
      rw [List.getElem?_set_self hiσ] at e2
      cases e2
    rw [List.getElem?_set_ne (Ne.symm hj)] at e2
    obtain ⟨u', r', q⟩ := hl j y v' e1 e2 e3
    refine ⟨u', r', ?_⟩
    rcases q with ⟨k, e⟩ | ⟨k, c, e, z⟩
    · have ne : y ≠ x := fun e => hj (nodup_ix hN e1 (e ▸ hi))
      exact .inl ⟨k, by show (if y = x then v else m y) = some u'; rw [if_neg ne]; exact e⟩
    · exact .inr ⟨k, c, e, z.sameBut sb (I.cne y c e)⟩
  · obtain ⟨w', z⟩ := I.cell y c e
    exact ⟨w', z.sameBut sb (I.cne y c e)⟩
  · obtain ⟨e, n, ne, nf, d⟩ := I.pin p hp
    exact ⟨(sb.2 p.1 ne).trans e, n, ne, nf, d⟩
  · refine (I.hok b ob e).stay (fun c w' hc q => (sb.2 c ?_).trans q) (fun _ q => q) fun _ _ q => q
    rintro rfl
    have fr := I.free
    rcases hc with rfl | hc
    · rw [fr] at e; cases e
    · rw [fr] at hc; cases hc
section
variable {X : Cx}
/-- behind a suite that has a name of its own -/
abbrev dropEnds (i : Nat) (D : Ends) : Ends := { nx := fun σ H => D.nx (σ.set i none) H, rt := D.rt, bk := fun σ H => D.bk (σ.set i none) H, ct := fun σ H => D.ct (σ.set i none) H }
/-- except C as n: it is one -/
theorem ph_as {y n : Str} {i : Nat} {np pos : Pos} {b0 : Stmt} {suite : List Stmt} {rest : List ExceptHandler} {ts : Addr → TS} {C0 D0 : Addr} {tl0 tlD : List Value} {n0 nD : String} (h0 : XCls X.K C0 tl0 n0) (hD : XCls X.K D0 tlD nD) (hc : (Value.ref C0 :: tl0).contains (.ref D0) = true)
    (hg : Gl X y) (hm : X.mg y = some (.ref D0)) (hN : X.N.Nodup) (hi : X.N[i]? = some n) (hk : X.env.scope.names.lookup n = some .local) (hs : ∀ ea, PSs (sxOf X ea) (b0 :: suite) (ts ea)) (hdb : (y == ("__debug__" : Str)) = false := by decide) :
    PH X (.ExceptHandler (some (.Name y np)) (some n) (b0 :: suite) pos :: rest) (fun ea C D σ H => C = C0 ∧ ts ea (dropEnds i D) (σ.set i (some (.ref ea))) H) := by
  rintro pins σ H ea C s D G ⟨rfl, h⟩
  have I := G.inv
  have Is := I.sx ea
  obtain ⟨B, a0, fl, hH, all⟩ := id G
  obtain ⟨oe, vs, he, hcl, _, _⟩ := fl.first
  refine wpAny_handleBy_cons (codeAny_handlers_test (ld_glob Is hg hm ?_ hdb)) (by intro q; cases q)
  refine matches_one he hcl (h0.at I.kIn).1 (hD.at I.kIn).1 (hD.at I.kIn).2 hc ?_
  refine codeAny_handlers_suite_as ?_
  refine lands_againW fl fun h2 fl2 u2 => ?_
  have I2 : Inv X pins σ H { s with heap := h2, toks := s.toks } := all h2 s.toks fl2 u2
  refine store_ok2 (X := sxOf X ea) (v := .ref ea) (I2.sx ea) hN hi (.inl hk) rfl (fun s3 I3 _ => ?_) (.inr hk)
  refine wpAny_mono (hs ea pins s3 _ H (dropEnds i D) I3 h) (fun f s4 h4 => ?_) fun _ _ z => z.elim
  have fin : ∀ {σ' : St} {H' : Hp} {R : St → Hp → Prop} {Q : Unit → Shared → Prop} {E : Value → Shared → Prop}, Inv (sxOf X ea) pins σ' H' s4 → R (σ'.set i none) H' → (∀ s5, (∃ σ5 H5, Inv X pins σ5 H5 s5 ∧ R σ5 H5) → Q () s5) → wpAny (model X.prog X.w) X.A (do bindName X.env n .none; unbindBehindTheSuite X.env n pos) Q E s4 :=
    fun I4 r q => unbind_ok (I4.unsx I.ok) hN hi hk fun s5 I5 => q s5 ⟨_, _, I5, r⟩
  cases f with
  | next =>
    obtain ⟨σ', H', I4, q4⟩ := h4
    exact fin (R := D.nx) I4 q4 fun s5 z => z
  | brk =>
    obtain ⟨σ', H', I4, q4⟩ := h4
    exact fin (R := D.bk) I4 q4 fun s5 z => z
  | cont =>
    obtain ⟨σ', H', I4, q4⟩ := h4
    exact fin (R := D.ct) I4 q4 fun s5 z => z
  | ret u =>
    obtain ⟨v, σ', H', I4, r4, q4⟩ := h4
    refine fin (R := fun _ H => D.rt v H) I4 q4 fun s5 ⟨σ5, H5, I5, q5⟩ => ⟨v, σ5, H5, I5, r4, q5⟩
/-- a def of the text that raises, by its promise -/
def KnownX (P : Program) (w : World) (K : PySem.W.Frag) (mg : Str → Option Value) (base : Heap) (k : Nat) (x : Str) (ps : List Str) (sp : Sp) : Prop :=
  ∃ f fd, FnOk P w K mg base (CX1 P w) k f fd ps sp ∧ PySem.W.keepIn K (.ref f) = true ∧ mg x = some (.ref f) ∧ Binds K fd ps []
/-! ### isinstance of an exception: it is one -/
theorem call_isinstX : CallR X (.builtin "isinstance") (fun xs H Q => ∃ ea C D, xs = [.ref ea, .ref D] ∧ H ea = some (ExcO ea C) ∧ PySem.W.isIn X.K (.ref C) D = true ∧ Q (.bl true) H) := by
  intro pins s σ H xs us Q I r h
  obtain ⟨ea, C, D, rfl, hH, hi, q⟩ := h
  obtain ⟨u1, u2, rfl, r1, r2⟩ := vals2 r
  cases r1
  cases r2
  obtain ⟨⟨o, ho, hc⟩, _⟩ := I.hok ea _ hH
  refine PySem.W.isi_call I.kIn (fun M => ?_) hi (fun z => nomatch z) ⟨.bl true, H, I, rfl, q⟩
  exact hc ▸ (PySem.W.Looks.ld ho).andThen .now
end
/-! ### the errors of a text: one under ValueError, the others straight under it -/
structure ErrTop (K : PySem.W.Frag) (mg : Str → Option Value) (TE : Addr) : Prop where
  m : mg "TurnError" = some (.ref TE)
  c : XCls K TE bmV "ValueError.__new__"
  v : mg "ValueError" = none
structure ErrAt (K : PySem.W.Frag) (mg : Str → Option Value) (TE : Addr) (x : Str) (C : Addr) : Prop where
  m : mg x = some (.ref C)
  c : XCls K C (.ref TE :: bmV) "ValueError.__new__"
  i : PySem.W.isIn K (.ref C) TE = true
end L2

set_option Elab.async false
set_option linter.all false
set_option maxRecDepth 100000
set_option maxHeartbeats 4000000
/-! Rules of our own, part 15: things of any kind by the data that they hold; displays of such; `is` and `is not` of truth values. -/
namespace L2
open PySem PySem.Spec PyProof.Rows

mutual
/-- what a value holds, the empty dict among it -/
inductive Dt (H : Hp) : V → PyData → Prop
  | non : Dt H .non .none
  | bl (b : Bool) : Dt H (.bl b) (.bool b)
  | int (i : Int) : Dt H (.int i) (.int i)
  | str (x : Str) : Dt H (.str x) (.str x)
  | lst {a : Addr} {xs : List V} {ds : List PyData} : H a = some (.lst xs) → Dts H xs ds → Dt H (.ref a) (.list ds)
  | tup {a : Addr} {xs : List V} {ds : List PyData} : H a = some (.tup xs) → Dts H xs ds → Dt H (.ref a) (.tuple ds)
  | dct {a : Addr} : H a = some (.dK []) → Dt H (.ref a) (.dict [])
inductive Dts (H : Hp) : List V → List PyData → Prop
  | nil : Dts H [] []
  | cons {x : V} {d : PyData} {xs : List V} {ds : List PyData} : Dt H x d → Dts H xs ds → Dts H (x :: xs) (d :: ds)
end
mutual
theorem Dt.same {H H' : Hp} (s : Same H H') : ∀ {x : V} {d : PyData}, Dt H x d → Dt H' x d
  | _, _, .non => .non
  | _, _, .bl b => .bl b
  | _, _, .int i => .int i
  | _, _, .str x => .str x
  | _, _, .lst h r => .lst (s _ _ h) (Dts.same s r)
  | _, _, .tup h r => .tup (s _ _ h) (Dts.same s r)
  | _, _, .dct h => .dct (s _ _ h)
theorem Dts.same {H H' : Hp} (s : Same H H') : ∀ {xs : List V} {ds : List PyData}, Dts H xs ds → Dts H' xs ds
  | _, _, .nil => .nil
  | _, _, .cons h r => .cons (Dt.same s h) (Dts.same s r)
end
theorem Dts.length {H : Hp} : ∀ {xs : List V} {ds : List PyData}, Dts H xs ds → xs.length = ds.length
  | _, _, .nil => rfl
  | _, _, .cons _ r => by rw [List.length_cons, List.length_cons, Dts.length r]
theorem Dts.append {H : Hp} : ∀ {xs ys : List V} {ds es : List PyData}, Dts H xs ds → Dts H ys es → Dts H (xs ++ ys) (ds ++ es)
  | _, _, _, _, .nil, q => q
  | _, _, _, _, .cons h r, q => .cons h (Dts.append r q)
theorem Dts.get {H : Hp} : ∀ {xs : List V} {ds : List PyData} {i : Nat} {x : V}, Dts H xs ds → xs[i]? = some x → ∃ d, ds[i]? = some d ∧ Dt H x d
  | _, _, _, _, .nil, e => by simp at e
  | _, _, 0, _, .cons h _, e => by simp at e; subst e; exact ⟨_, rfl, h⟩
  | _, _, i + 1, x, .cons _ r, e => by
    obtain ⟨d, h1, h2⟩ := Dts.get (i := i) (x := x) r (by simpa using e)
    exact ⟨d, by simpa using h1, h2⟩
/-- the type's name -/
def tyD : PyData → String
  | .none => "NoneType"
  | .bool _ => "bool"
  | .int _ => "int"
  | .str _ => "str"
  | .list _ => "list"
  | .tuple _ => "tuple"
  | .dict _ => "dict"
theorem Dt.ty {K : PySem.W.Frag} {H : Hp} {x : V} {d : PyData} (h : Dt H x d) : TyOf K H x (.type (tyD d)) := by
  cases h with
  | non => exact .non
  | bl b => exact .bl b
  | int i => exact .int i
  | str x => exact .str x
  | lst h _ => exact .lst h
  | tup h _ => exact .tup h
  | dct h => exact .dK h

/-! ### displays -/
section
variable {X : Cx} {e : Expr} {es : List Expr} {pos : Pos} {C : St → Hp → Prop} {d : PyData} {ds : List PyData}
def tDt (C : St → Hp → Prop) (d : PyData) : TE := fun σ H Q => C σ H ∧ ∀ v H', Same H H' → Dt H' v d → Q v H'
def tDts (C : St → Hp → Prop) (ds : List PyData) : TA := fun σ H Q => C σ H ∧ ∀ vs H', Same H H' → Dts H' vs ds → Q vs H'
def Stays (C : St → Hp → Prop) : Prop := ∀ σ H H', Same H H' → C σ H → C σ H'
theorem PE.weak {t t' : TE} (h : PE X e t) (k : ∀ σ H Q, t' σ H Q → t σ H Q) : PE X e t' := fun pins s σ H Q I q => h pins s σ H Q I (k σ H Q q)
theorem PA.weak {t t' : TA} (h : PA X es t) (k : ∀ σ H Q, t' σ H Q → t σ H Q) : PA X es t' := fun pos pins s σ H Q I q => h pos pins s σ H Q I (k σ H Q q)
/-- sealed: what the elaborator shall not unfold in search of arguments -/
structure DE (X : Cx) (e : Expr) (t : TE) : Prop where
  h : PE X e t
structure DA (X : Cx) (es : List Expr) (t : TA) : Prop where
  h : PA X es t
structure DS (X : Cx) (st : Stmt) (t : TS) : Prop where
  h : PS X st t
structure DSs (X : Cx) (st : List Stmt) (t : TS) : Prop where
  h : PSs X st t
theorem dss_cons {st : Stmt} {rest : List Stmt} {t u : TS} (h1 : DS X st t) (h2 : DSs X rest u) : DSs X (st :: rest) (tSeq t u) := ⟨@pss_cons _ _ _ _ _ h1.h h2.h⟩
theorem pd_non {j pos} : DE X (.Constant .none j pos) (tDt C .none) := ⟨pe_non.weak fun _ H _ q => q.2 _ H (Same.refl _) .non⟩
theorem pd_bl {b j pos} : DE X (.Constant (.bool b) j pos) (tDt C (.bool b)) := ⟨pe_bl.weak fun _ H _ q => q.2 _ H (Same.refl _) (.bl b)⟩
theorem pd_int {i j pos} : DE X (.Constant (.int i) j pos) (tDt C (.int i)) := ⟨pe_int.weak fun _ H _ q => q.2 _ H (Same.refl _) (.int i)⟩
theorem pd_str {x j pos} : DE X (.Constant (.str x) j pos) (tDt C (.str x)) := ⟨pe_str.weak fun _ H _ q => q.2 _ H (Same.refl _) (.str x)⟩
theorem new_same {H : Hp} {p : Addr} (hp : H p = none) (u : HO) : Same H (upd H p u) := fun b o h => by
  have hne : b ≠ p := fun z => by rw [z, hp] at h; cases h
  show (if b = p then _ else _) = _
  rw [if_neg hne]; exact h
theorem new_at {H : Hp} {p : Addr} (u : HO) : upd H p u p = some u := by show (if p = p then _ else _) = _; rw [if_pos rfl]
theorem pds_nil : DA X [] (tDts C []) := ⟨pa_nil.weak fun _ H _ q => q.2 [] H (Same.refl _) .nil⟩
theorem pds_cons (hC : Stays C) (he : DE X e (tDt C d)) (hr : DA X es (tDts C ds)) (hs : starEach (e :: es) X.env = (false, eval e X.env) :: starEach es X.env := by rfl) : DA X (e :: es) (tDts C (d :: ds)) :=
  ⟨(pa_cons he.h hr.h hs).weak fun σ H Q q => ⟨q.1, fun v H1 s1 hv => ⟨hC σ H H1 s1 q.1, fun vs H2 s2 hvs => q.2 (v :: vs) H2 (s1.trans s2) (.cons (hv.same s2) hvs)⟩⟩⟩
theorem pd_tup {x1} (h : DA X es (tDts C ds)) (hz : ds.length ≤ sizeLine) : DE X (.Tuple es x1 pos) (tDt C (.tuple ds)) :=
  ⟨(pe_tup h.h).weak fun _ _ _ q => ⟨q.1, fun vs H1 s1 hvs => ⟨by rw [hvs.length]; exact hz, fun p hp => q.2 _ _ (s1.trans (new_same hp _)) (.tup (new_at _) (hvs.same (new_same hp _)))⟩⟩⟩
theorem pd_lst (h : DA X es (tDts C ds)) (hz : ds.length ≤ sizeLine) : DE X (.List es pos) (tDt C (.list ds)) :=
  ⟨(pe_lst h.h).weak fun _ _ _ q => ⟨q.1, fun vs H1 s1 hvs => ⟨by rw [hvs.length]; exact hz, fun p hp => q.2 _ _ (s1.trans (new_same hp _)) (.lst (new_at _) (hvs.same (new_same hp _)))⟩⟩⟩

/-! ### is, is not -/
end
end L2

set_option Elab.async false
set_option linter.all false
set_option maxRecDepth 100000
set_option maxHeartbeats 4000000
/-! Rules of our own, part 16: sorted of a tuple of ints. -/
namespace L2
open PySem PySem.Spec PyProof.Rows
section
variable {prog : Program} {w : World} {A : Around} {E : Value → Shared → Prop} {s : Shared}
/-- the heap behind the gathering of vs -/
def gat (h : Heap) (vs : List Value) : Heap := (h.push (seqObj "list" #[] 0)).update h.objs.size (Obj.mapSeq (· ++ vs.toArray))
theorem collect_tup {a : Addr} {vs : List Value} {R : List Value → Shared → Prop} (ht : IsTup s.heap a vs.toArray) (hz : vs.length ≤ sizeLine) (q : R vs { s with heap := gat s.heap vs }) : wpAny (model prog w) A (collect (.ref a)) R E s := by
  obtain ⟨o, ho, hc, n, hd⟩ := ht
  have ho1 : (s.heap.push (seqObj "list" #[] 0)).get? a = some o := Heap.get?_push_of_some _ ho
  have hn1 : (s.heap.push (seqObj "list" #[] 0)).get? s.heap.objs.size = some (seqObj "list" #[] 0) := Heap.get?_push_size _ rfl
  unfold collect
  refine wpAny_bind (wpAny_runValue (codeAny_builtin entry_proto_collect' (wpAny_bind (m := newList []) (wpAny_newList (wpAny_pure ⟨Code.quiet_builtin _ (by decide +kernel), codeAny_builtin entry_list_iadd' ?_⟩)))))
  show wpAny _ _ (Builtin.List.listExtendWith (.ref s.heap.objs.size) (.ref a) (.ref s.heap.objs.size)) _ _ { s with heap := s.heap.push (seqObj "list" #[] 0) }
  (unfold Builtin.List.listExtendWith; refine wpAny_bind (wpAny_typeOf (T := "tuple") ⟨o, ho1, hc⟩ ?_))
  have hty : (Value.type "tuple" == Value.type "tuple") = true := rfl
  rw [if_pos (show _ = true by rw [hty, Bool.or_true])]
  refine wpAny_bind (listItems_at ho1 hd (wpAny_bind (listItems_at (xs := #[]) (n := 0) hn1 rfl ?_)))
  rw [if_neg (show ¬ _ = true by simp)]
  refine wpAny_bind (listUpdate_at (xs := #[]) (n := 0) hn1 rfl (wpAny_pure ?_) (Nat.zero_le _) (by simp only [Array.size_append, List.size_toArray, List.length_nil]; show 0 + vs.length ≤ _; omega))
  show wpAny (model prog w) A (load s.heap.objs.size >>= _) R E { s with heap := gat s.heap vs }
  refine wpAny_bind (wpAny_load (get?_update_seq hn1 _) ?_)
  have e : ((#[] : Array Value) ++ vs.toArray).toList = vs := by simp
  exact wpAny_pure (e.symm ▸ q)
theorem gat_size (h : Heap) (vs : List Value) : (gat h vs).objs.size = h.objs.size + 1 := by unfold gat; rw [Heap.size_update, size_push']
theorem gat_old {h : Heap} {vs : List Value} {b : Addr} {o : Obj} (e : h.get? b = some o) : (gat h vs).get? b = some o := by
  have hlt := Heap.lt_size e
  unfold gat
  rw [Heap.get?_update_ne _ _ _ _ (Nat.ne_of_lt hlt), Heap.get?_push_ne _ _ _ (Nat.ne_of_lt hlt)]
  exact e
theorem sorted_tup {a : Addr} {vs : List Value} {ns : List Int} {R : Value → Shared → Prop} (ht : IsTup s.heap a vs.toArray) (hI : IntsAre vs ns) (h64 : vs.length < 64)
    (q : ∀ (out : Array Value) (ms : List Int), IntsAre out.toList ms → ms.Perm ns → ms.Pairwise (· ≤ ·) → R (.ref (gat s.heap vs).objs.size) { s with heap := sortedHeap ((gat s.heap vs).push (seqObj "list" vs.toArray 0)) (gat s.heap vs).objs.size vs out }) :
    wpAny (model prog w) A (call (.builtin "sorted") [.ref a]) R E s := by
  have hn : ((gat s.heap vs).push (seqObj "list" vs.toArray 0)).get? (gat s.heap vs).objs.size = some (seqObj "list" vs.toArray 0) := Heap.get?_push_size _ rfl
  refine Calls.call_function_entry kind_sorted plain_sorted entry_sorted (args_sorted1 (.ref a)) ?_
  unfold Builtin.«sorted»
  refine wpAny_bind (m := checkCount "sorted" 1 1 _) (wpAny_pure (wpAny_bind (collect_tup ht (by rw [sizeLine_eq]; omega) (wpAny_bind (wpAny_newList ?_)))))
  show wpAny _ _ _ _ _ { s with heap := (gat s.heap vs).push (seqObj "list" vs.toArray 0) }
  refine wpAny_bind (wpAny_holding (wpAny_call_entry slot_list_sort ⟨_, hn, rfl⟩ entry_list_sort (list_sort_tree hn hI h64 fun out ms a1 a2 a3 => ⟨_, rfl, wpAny_pure ⟨_, rfl, q out ms a1 a2 a3⟩⟩) (args_list_sort _)))
end
section
variable {X : Cx}
theorem call_sortedT : CallR X (.builtin "sorted") (fun xs H Q => ∃ (p : Addr) (ns : List Int), xs = [.ref p] ∧ SqT X.K H p (ns.map V.int) ∧ ns.length < 64 ∧ ∀ (l : Addr) (ms : List Int), H l = none → ms.Perm ns → ms.Pairwise (· ≤ ·) → Q (.ref l) (upd H l (.lst (ms.map V.int)))) := by
  intro pins s σ H xs us Q I r h
  obtain ⟨p, ns, rfl, hq, h64, q⟩ := h
  obtain ⟨u, rfl, rx⟩ := vals1 r
  cases rx
  obtain ⟨its, r1, p1, hz⟩ := I.tuple hq
  have l1 := r1.length
  rw [List.length_map] at l1 hz
  refine sorted_tup p1 (intsAre_of r1) (by omega) fun out ms a1 a2 a3 => ?_
  have hl := a2.length_eq
  have hsz := gat_size s.heap its
  obtain ⟨e, he⟩ := sortedHeap_at (vs := its) (out := out) (n := 0) (show ((gat s.heap its).push (seqObj "list" its.toArray 0)).get? (gat s.heap its).objs.size = some (seqObj "list" its.toArray 0) from Heap.get?_push_size _ rfl)
  have hold : ∀ b o, s.heap.get? b = some o → (sortedHeap ((gat s.heap its).push (seqObj "list" its.toArray 0)) (gat s.heap its).objs.size its out).get? b = some o := fun b o z => by
    have hlt := Heap.lt_size z
    have h1 : b < (gat s.heap its).objs.size := hsz.symm ▸ Nat.lt_succ_of_lt hlt
    rw [sortedHeap_old (Nat.ne_of_lt h1) (by rw [size_push']; exact Nat.lt_succ_of_lt h1), Heap.get?_push_ne _ _ _ (Nat.ne_of_lt h1)]
    exact gat_old z
  refine ⟨.ref (gat s.heap its).objs.size, _, I.laid (t' := s.toks) hold (by omega) (show ObjOk X.prog X.w _ _ _ (.lst (ms.map V.int)) from ⟨by rw [List.length_map]; omega, out.toList, e, vals_ints a1, by simpa using he⟩), rfl, q _ ms (I.hok.fresh (by omega)) a2 a3⟩
end
end L2

set_option Elab.async false
set_option linter.all false
set_option maxRecDepth 100000
set_option maxHeartbeats 4000000
/-! Rules of our own, part 17: list.insert; isinstance of a tuple of built-in types; walking a list or a tuple; `!=` of things by their data. -/
namespace L2
open PySem PySem.Spec PyProof.Rows
section
variable {X : Cx} {pins : List (Addr × Obj)} {σ : St} {H : Hp} {s : Shared}

/-! ### isinstance(x, (T, U)) -/

/-! ### walking a list or a tuple -/

/-! ### == and != by data -/
mutual
theorem Dt.reads (I : Inv X pins σ H s) : ∀ {x : V} {d : PyData}, Dt H x d → ∀ u, RelV x u → ∃ as, Reads s.heap u d as
  | _, _, .non, u, r => by cases (show u = Value.none from r); exact ⟨_, .none⟩
  | _, _, .bl b, u, r => by cases (show u = Value.bool b from r); exact ⟨_, .bool b⟩
  | _, _, .int i, u, r => by obtain ⟨t, rfl⟩ := (show ∃ t, u = Value.int i t from r); exact ⟨_, .int i t⟩
  | _, _, .str x, u, r => by obtain ⟨t, rfl⟩ := (show ∃ t, u = Value.str x t from r); exact ⟨_, .str x t⟩
  | _, _, .lst h hs, u, r => by
    cases (show u = Value.ref _ from r)
    obtain ⟨its, rv, p, _⟩ := I.list (SqL.of h)
    obtain ⟨o, ho, hc, n, hd⟩ := p.isList
    obtain ⟨as, ha⟩ := Dts.reads I hs its rv
    exact ⟨_, .list ho hc hd (by simpa using ha)⟩
  | _, _, .tup h hs, u, r => by
    cases (show u = Value.ref _ from r)
    obtain ⟨its, rv, p, _⟩ := I.tuple (SqT.of h)
    obtain ⟨o, ho, hc, n, hd⟩ := p
    obtain ⟨as, ha⟩ := Dts.reads I hs its rv
    exact ⟨_, .tuple ho hc hd (by simpa using ha)⟩
  | _, _, .dct h, u, r => by
    cases (show u = Value.ref _ from r)
    obtain ⟨_, _, vs, kv, o, es, ep, h1, h2, h3, _, h4, _⟩ := (show ObjOk X.prog X.w H s.heap _ (.dK []) from I.hok _ _ h)
    cases kv
    have h5 : es.toList = [] := List.eq_nil_of_length_eq_zero h4.length
    exact ⟨_, .dict (kvs := []) h1 h2.1 h3 (by rw [h5]; exact .nil) (by rw [h5]; exact .nil)⟩
theorem Dts.reads (I : Inv X pins σ H s) : ∀ {xs : List V} {ds : List PyData}, Dts H xs ds → ∀ us, Vals xs us → ∃ as, ReadsAll s.heap us ds as
  | _, _, .nil, us, r => by cases r; exact ⟨_, .nil⟩
  | _, _, .cons h hs, us, r => by
    cases r with
    | cons r1 r2 =>
      obtain ⟨as, ha⟩ := Dt.reads I h _ r1
      obtain ⟨bs, hb⟩ := Dts.reads I hs _ r2
      exact ⟨_, .cons ha hb⟩
end
theorem Dts.ints {G : Hp} : ∀ ns : List Int, Dts G (ns.map V.int) (ns.map PyData.int)
  | [] => .nil
  | n :: r => .cons (.int n) (Dts.ints r)
theorem Dts.set {G : Hp} {v : V} {d : PyData} (hv : Dt G v d) : ∀ {xs : List V} {ds : List PyData} (i : Nat), Dts G xs ds → Dts G (xs.set i v) (ds.set i d)
  | _, _, _, .nil => .nil
  | _, _, 0, .cons _ r => .cons hv r
  | _, _, i + 1, .cons h r => .cons h (Dts.set hv i r)
theorem Dts.mem {G : Hp} : ∀ {xs : List V} {ds : List PyData} {i : Nat} {d : PyData}, Dts G xs ds → ds[i]? = some d → ∃ x, xs[i]? = some x ∧ Dt G x d
  | _, _, _, _, .nil, e => by simp at e
  | _, _, 0, _, .cons h _, e => by simp at e; subst e; exact ⟨_, rfl, h⟩
  | _, _, i + 1, d, .cons _ r, e => by
    obtain ⟨x, h1, h2⟩ := Dts.mem (i := i) (d := d) r (by simpa using e)
    exact ⟨x, by simpa using h1, h2⟩

/-! ### displays whose things are new -/
section
variable {e : Expr} {es : List Expr} {pos : Pos} {C : St → Hp → Prop} {d : PyData} {ds : List PyData}
end

end
/-! ### a block whose items are told by data -/
section
end
end L2

set_option Elab.async false
set_option linter.all false
set_option maxRecDepth 100000
set_option maxHeartbeats 4000000
/-! Rules of our own, part 18: exceptions of callees in a def, through a comprehension, and in the body of a try. -/
namespace L2
open PySem PySem.Spec PyProof.Rows
/-- an exception that is noted at the frame L; cs: what the block had for itself -/
def CXH (P : Program) (w : World) (L : Addr) (cs : List Addr) : CXT := fun outer H s E e s' => ∃ (ea C : Addr) (a0 : Value) (B : Heap) (H' : Hp), e = .ref ea ∧ s'.os = s.os ∧ AllBare s'.gens ∧ HOk P w H' B ∧ Heap.HeldW B outer ea (.ref C) a0 L s'.heap ∧
  (∀ b o, s.heap.get? b = some o → H b = none → b ∉ frs outer → b ∉ cs → B.get? b = some o) ∧
  (∀ b o, s.heap.get? b = some o → H b = none → b ∈ frs outer → ∃ sl, s'.heap.get? b = some { o with slots := sl }) ∧
  (∀ b o, s.heap.get? b = some o → H b = none → H' b = none) ∧
  (∀ b o, s.heap.get? b = some o → b ∈ frs outer ∨ b ∈ cs ∨ ∃ o', B.get? b = some o') ∧
  (∀ b xs, H b = some (.tup xs) → H' b = some (.tup xs)) ∧ (∀ b o u, H b = some (.frz o u) → H' b = some (.frz o u)) ∧
  (∀ b ps, H b = some (.tbl ps) → ∃ more, H' b = some (.tbl (ps ++ more))) ∧ E (.ref C) none H'
section
variable {P : Program} {w : World} {K : PySem.W.Frag} {mg : Str → Option Value} {base : Heap} {N : List Str} {qual : Str} {scope : Scope} {f : Addr} {cd : Value} {A : Around} {outer : List Env} {s s1 : Shared} {H H1 : Hp} {E : XK} {pins : List (Addr × Obj)} {σ : St}
theorem passD : Passes (CX1 P w) (cxOf (CX1 P w) P w K mg base N qual scope f cd A outer s H E) E := fun _ _ _ _ _ _ I hx => leave_on I hx fun _ _ _ z => z
/-- an exception that was noted here leaves this def -/
theorem leave_held {e : Value} {s2 : Shared} {E1 : XK} {cs : List Addr} (I : Inv (cxOf (CX1 P w) P w K mg base N qual scope f cd A outer s H E) pins σ H1 s1) (hcs : ∀ b ∈ cs, s.heap.get? b = none) (hx : CXH P w s.heap.objs.size cs (cxOf (CX1 P w) P w K mg base N qual scope f cd A outer s H E).stack H1 s1 E1 e s2) (hE : ∀ C a H', E1 C a H' → E C a H') :
    (cxOf (CX1 P w) P w K mg base N qual scope f cd A outer s H E).xe e s2 := by
  obtain ⟨ea, C, a0, B, H', rfl, hos, hbare, hok, hh, k1, k2, k3, k4, k5, k6, k7, hE1⟩ := hx
  show wpAny _ _ (leaving (envOfC qual scope s.heap.objs.size f cd) (.ref ea)) _ _ _
  unfold leaving
  refine wpAny_bind (wpAny_noteFrame_againW rfl hh.2.2.2 (wpAny_landsW hh fun h'' x0 x2 => ?_))
  obtain ⟨f1, f2, ⟨_, _, f3⟩, f4⟩ := x0
  have x1 : Heap.FlyingW B outer ea (.ref C) a0 h'' := ⟨f1, f2, f3, f4⟩
  have ncs : ∀ b o, s.heap.get? b = some o → b ∉ cs := fun b o hb hm => by rw [hcs b hm] at hb; cases hb
  have inB : ∀ b o, s.heap.get? b = some o → H b = none → b ∉ frs outer → B.get? b = some o := fun b o hb hn hf => by
    have q := I.base.keep b o hb hn hf (by intro z; cases z)
    refine k1 b o q (I.base.free b o hb hn (by intro z; cases z)) (fun hm => ?_) (ncs b o hb)
    obtain ⟨env, he, ha⟩ := List.mem_filterMap.mp hm
    rcases List.mem_cons.mp he with rfl | he
    · have e1 : s.heap.objs.size = b := Option.some.inj ha
      exact absurd (Heap.lt_size hb) (by rw [e1]; exact Nat.lt_irrefl _)
    · exact hf (List.mem_filterMap.mpr ⟨env, he, ha⟩)
  have sub : ∀ b, b ∈ frs outer → b ∈ frs (envOfC qual scope s.heap.objs.size f cd :: outer) := fun b hb => by
    obtain ⟨env, he, ha⟩ := List.mem_filterMap.mp hb
    exact List.mem_filterMap.mpr ⟨env, List.mem_cons_of_mem _ he, ha⟩
  refine ⟨ea, C, a0, B, H', rfl, hos.trans I.os, hbare, hok, x1, inB, fun b o hb hn hf => ?_, fun b o hb hn => ?_, fun b o hb => ?_, fun b xs q => k5 b xs (I.base.tups b xs q), fun b o u q => k6 b o u (I.base.frzs b o u q), fun b ps q => ?_, hE _ _ _ hE1⟩
  · obtain ⟨sl, q⟩ := I.base.slot b o hb hn hf (by intro z; cases z)
    have hn1 := I.base.free b o hb hn (by intro z; cases z)
    obtain ⟨sl2, q2⟩ := k2 b _ q hn1 (sub b hf)
    obtain ⟨_, o2, ho2, hd⟩ := I.funs.mem hf
    have e2 : o2 = { o with slots := sl } := Option.some.inj (ho2.symm.trans q)
    subst e2
    obtain ⟨sl', q'⟩ := x2 b _ q2 hd
    exact ⟨sl', q'⟩
  · obtain ⟨o', q⟩ := I.base.there b o hb (by intro z; cases z)
    exact k3 b o' q (I.base.free b o hb hn (by intro z; cases z))
  · by_cases hf : b ∈ frs outer
    · exact .inl hf
    · obtain ⟨o', q⟩ := I.base.there b o hb (by intro z; cases z)
      rcases k4 b o' q with hm | hm | hm
      · obtain ⟨env, he, ha⟩ := List.mem_filterMap.mp hm
        rcases List.mem_cons.mp he with rfl | he
        · have e1 : s.heap.objs.size = b := Option.some.inj ha
          exact absurd (Heap.lt_size hb) (by rw [e1]; exact Nat.lt_irrefl _)
        · exact absurd (List.mem_filterMap.mpr ⟨env, he, ha⟩) hf
      · exact absurd hm (ncs b o hb)
      · exact .inr hm
  · obtain ⟨m1, q1⟩ := I.base.tbls b ps q
    obtain ⟨m2, q2⟩ := k7 b _ q1
    exact ⟨m1 ++ m2, by rw [q2, Array.append_assoc]⟩
end
/-! ### a call that may raise -/
section
variable {P : Program} {w : World} {K : PySem.W.Frag} {mg : Str → Option Value} {base : Heap} {N : List Str} {qual : Str} {scope : Scope} {f : Addr} {cd : Value} {A : Around} {outer : List Env} {s : Shared} {H : Hp} {E : XK}
theorem pe_knX {x : Str} {p pos : Pos} {e : Expr} {es : List Expr} {t : TA} {ps : List Str} {sp : Sp} {k j : Nat} (kn : KnownX P w K mg base k x ps sp) (hr : Room j (A.deeper (envOfC qual scope s.heap.objs.size f cd))) (hg : Gl (cxOf (CX1 P w) P w K mg base N qual scope f cd A outer s H E) x)
    (ha : PA (cxOf (CX1 P w) P w K mg base N qual scope f cd A outer s H E) (e :: es) t) (hj : k ≤ j := by decide) (hdb : (x == ("__debug__" : Str)) = false := by decide)
    (he : starEach (e :: es) (envOfC qual scope s.heap.objs.size f cd) = (false, eval e (envOfC qual scope s.heap.objs.size f cd)) :: starEach es (envOfC qual scope s.heap.objs.size f cd) := by rfl) (hpl : (backTo pos (starEach es (envOfC qual scope s.heap.objs.size f cd))).any (·.1) = false := by rfl) :
    PE (cxOf (CX1 P w) P w K mg base N qual scope f cd A outer s H E) (.Call (.Name x p) (e :: es) [] pos) (tCall sp [] E t) := by
  obtain ⟨g, gd, G, hk, hm, hb⟩ := kn
  exact pe_call (X := cxOf (CX1 P w) P w K mg base N qual scope f cd A outer s H E) G (hr.mono hj) hg hm hk hb .nil passD ha hdb he hpl
end
/-! ### through a comprehension -/
/-- what is wanted behind a block's end, the exception at this frame -/
def postX (M : Model) (A : Around) (E : Value → Shared → Prop) (env : Env) (use : Option (Value → Sem Unit)) (Q : Value → Shared → Prop) (acc : Value) (C : Addr) (r : Result) (s' : Shared) : Prop :=
  match r with
  | .ok fl => compPost M A E use Q acc C (.ok fl) s'
  | .error x => ∃ m, s'.heap.Ns C m ∧ ∀ h', Heap.SameBut C s'.heap h' → wpAny M A (PySem.passOn "comprehension.variables-let-go" x env : Sem Value) (fun _ _ => False) E { s' with heap := h' }
theorem passOn_frame {α : Type} {what : String} {x : Value} {a b : Env} (h : a.frame = b.frame) : (PySem.passOn what x a : Sem α) = PySem.passOn what x b := by
  unfold PySem.passOn
  rw [h]
theorem noteFrame_frame {x : Value} {a b : Env} (h : a.frame = b.frame) : noteFrame x a = noteFrame x b := by
  unfold noteFrame PySem.frameOf
  rw [h]
section
variable {M : Model} {A : Around} {E : Value → Shared → Prop} {s : Shared} {env : Env}
theorem wpAny_compX {ex : Expr} {sco : Scope} {pos : Pos} {newAcc first : Sem Value} {cg : Comprehension} {cgs : List Comprehension} {cls : List (Str × Addr)} {use : Option (Value → Sem Unit)} {Q : Value → Shared → Prop}
    (hcl : clausesOf ex = cg :: cgs) (hs : ∀ x, foldedSetIterable cg.iter env x = pure x) (hclos : closureFor sco env = pure cls) (hkd : sco.kind = .function) (hnm : ∀ x ∈ sco.names, x.2 = .local → sco.names.lookup x.1 = some .local)
    (h : wpAny M A first (fun x t1 => wpAny M A (pyIter x) (fun it t2 => wpAny M A newAcc (fun acc t3 => wpAny M A (newFunctionEnv sco env.globals cls [] env.qual none .none (some env)) (fun ce t4 => ce.frame = env.frame ∧
        codeAny M A (.compStart ex 0 it acc { ce with scope := relabel sco env }) (postX M A E env use Q acc ce.locals) t4) E t3) E t2) E t1) E s) : wpAny M A (comprehension ex sco env pos newAcc false first use) Q E s := by
  unfold comprehension
  rw [hclos, hcl]
  refine wpAny_bind (thn h fun x t1 h1 => wpAny_bind (wpAny_standAt (wpAny_bind (wpAny_of_eq (hs x) (wpAny_bind (wpAny_holding (thn h1 fun it t2 h2 => wpAny_standIf (wpAny_bind (thn h2 fun acc t3 h3 => wpAny_bind (wpAny_pure (wpAny_bind (thn h3 fun ce t4 h4 => ?_)))))))))))) 
  dsimp only
  obtain ⟨hfr, h4⟩ := h4
  have v1 : ∀ x ∈ (sco.names.filter fun x => (x.2 == .local || x.2 == .cell) && x.1 != (".0" : Str)).reverse, x.2 = .local → Env.kindOf { ce with scope := relabel sco env } x.1 = some .local := fun x hx hl => lookup_relabel_local (hnm x (List.mem_filter.mp (List.mem_reverse.mp hx)).1 hl)
  have v2 : ∀ x ∈ (sco.names.filter fun x => (x.2 == .local || x.2 == .cell) && x.1 != (".0" : Str)).reverse.drop 1 ++ (sco.names.filter fun x => (x.2 == .local || x.2 == .cell) && x.1 != (".0" : Str)).reverse.take 1, x.2 = .local → Env.kindOf { ce with scope := relabel sco env } x.1 = some .local := fun x hx hl =>
    (List.mem_append.mp hx).elim (fun z => v1 x (List.mem_of_mem_drop z) hl) fun z => v1 x (List.mem_of_mem_take z) hl
  refine wpAny_holding (wpAny_bind (wpAny_attempt (wpAny_holding (wpAny_run (codeAny_mono h4 fun rs t5 hr => ?_)))))
  cases rs with
  | ok fl =>
    cases use with
    | none =>
      obtain ⟨m, hn, hr⟩ := (show compPost M A E none Q acc ce.locals (.ok fl) t5 from hr)
      exact wpAny_bind (wpAny_holding (wpAny_comp_letGo (cenv := { ce with scope := relabel sco env }) hkd _ t5 m v1 hn fun h' m' _ hs' => wpAny_pure (hr h' hs')))
    | some u =>
      have hr0 : compPost M A E (some u) Q acc ce.locals (.ok fl) t5 := hr
      refine wpAny_bind (wpAny_rule (wpAny_bind (wpAny_holding (thn hr0 fun _ t6 hr' => ?_))))
      obtain ⟨m, hn, hr'⟩ := hr'
      exact wpAny_bind (wpAny_comp_letGo (cenv := { ce with scope := relabel sco env }) hkd _ t6 m v2 hn fun h' m' _ hs' => wpAny_pure (hr' h' hs'))
  | error x =>
    obtain ⟨m, hn, hr⟩ := hr
    refine wpAny_bind (wpAny_holding (wpAny_comp_letGo (cenv := { ce with scope := relabel sco env }) hkd _ t5 m v1 hn fun h' m' _ hs' => ?_))
    show wpAny M A (PySem.passOn "comprehension.variables-let-go" x { ce with scope := relabel sco env }) _ _ _
    rw [passOn_frame (a := { ce with scope := relabel sco env }) (b := env) hfr]
    exact wpAny_mono (hr h' hs') (fun _ _ (z : False) => z.elim) fun _ _ z => z
/-- it is noted at this frame once more -/
theorem setFlight_held {B : Heap} {l : List Env} {ea L : Addr} {cl a0 : Value} {Q : Unit → Shared → Prop} (hh : Heap.HeldW B l ea cl a0 L s.heap) (h : ∀ h', Heap.HeldW B l ea cl a0 L h' → s.heap.UpToSlots h' → Q () { s with heap := h' }) : wpAny M A (setFlight (.ref ea) (some L)) Q E s := by
  obtain ⟨g1, g2, g3, ox, vx, tb, ot, tx, x1, x2, x3, x4, x5, x6, x7, x8, x9⟩ := hh
  have z3 : 3 < tx.size := (Array.getElem?_eq_some_iff.mp x9).1
  have oth : ∀ b, b ≠ tb → (s.heap.update tb (Obj.mapFields (·.setIfInBounds 3 ((some L).elim Value.none fun f => rawInt f)))).get? b = s.heap.get? b := fun b hb => Heap.get?_update_other _ _ (Ne.symm hb)
  have nrec : ∀ b o, s.heap.get? b = some o → (∀ vs, o.data ≠ .fields vs) → b ≠ tb := fun b o hb hn z => by
    subst z
    rw [x7] at hb
    cases hb
    exact hn tx x8
  unfold setFlight
  refine wpAny_bind (wpAny_field x1 x3 x4 ?_)
  rw [if_pos (show (Value.ref tb != Value.none) = true by simp)]
  refine wpAny_setField x7 x8 z3 (h _ ⟨fun b o q => (oth b fun z => by subst z; rw [x5] at q; cases q).trans (g1 b o q), g2, g3.of_keeps fun b o q n => ⟨o, (oth b (nrec b o q n)).trans q, rfl⟩, ?_⟩ fun b o q n => ⟨o.slots, (oth b (nrec b o q n)).trans q⟩)
  exact ⟨ox, vx, tb, _, _, (oth ea (Ne.symm x6)).trans x1, x2, x3, x4, x5, x6, Heap.get?_update_self _ x7 (Obj.isFreed_of_fields (Obj.data_mapFields x8 _)), Obj.data_mapFields x8 _, by simp [z3]⟩
theorem passOn_held {α : Type} {what : String} {B : Heap} {l : List Env} {ea L : Addr} {cl a0 : Value} {Q : α → Shared → Prop} (hf : env.frame = some L) (hh : Heap.HeldW B l ea cl a0 L s.heap) (h : ∀ h', Heap.HeldW B l ea cl a0 L h' → s.heap.UpToSlots h' → E (.ref ea) { s with heap := h' }) : wpAny M A (PySem.passOn what (.ref ea) env : Sem α) Q E s := by
  have hh0 := hh
  obtain ⟨g1, g2, g3, ox, vx, tb, ot, tx, x1, x2, x3, x4, x5, x6, x7, x8, x9⟩ := hh
  unfold PySem.passOn
  refine wpAny_bind (wpAny_field x1 x3 x4 ?_)
  rw [if_neg (show ¬ (Value.ref tb == Value.none) = true by simp), hf]
  exact wpAny_bind (setFlight_held hh0 fun h' a b => wpAny_throw (h h' a b))
end
theorem frames_but {B h1 h2 : Heap} {C : Addr} {oC : Obj} (hC : B.get? C = some oC) (sb : Heap.SameBut C h1 h2) : ∀ {l : List Env}, h1.FunFrames B l → h2.FunFrames B l
  | [], _ => trivial
  | _ :: _, ⟨hk, ⟨L, o, hf, hn, ho, hd⟩, hr⟩ => ⟨hk, ⟨L, o, hf, hn, (sb.2 L fun z => by rw [z, hC] at hn; cases hn).trans ho, hd⟩, frames_but hC sb hr⟩
theorem held_but {B h1 h2 : Heap} {l : List Env} {ea L C : Addr} {cl a0 : Value} {oC : Obj} (hC : B.get? C = some oC) (sb : Heap.SameBut C h1 h2) (hh : Heap.HeldW B l ea cl a0 L h1) : Heap.HeldW (PySem.W.hideAll B [C]) l ea cl a0 L h2 := by
  obtain ⟨g1, g2, g3, ox, vx, tb, ot, tx, x1, x2, x3, x4, x5, x6, x7, x8, x9⟩ := hh
  have st : (PySem.W.hideAll B [C]).StaysIn B := fun b o q => PySem.W.of_hideAll _ q
  have none_of : ∀ b, B.get? b = none → (PySem.W.hideAll B [C]).get? b = none := fun b e => by
    cases q : (PySem.W.hideAll B [C]).get? b with
    | none => rfl
    | some o => rw [st b o q] at e; cases e
  refine ⟨fun b o q => ?_, none_of _ g2, PySem.W.funFrames_base st (frames_but hC sb g3), ox, vx, tb, ot, tx, (sb.2 ea fun z => by rw [z, hC] at g2; cases g2).trans x1, x2, x3, x4, none_of _ x5, x6, (sb.2 tb fun z => by rw [z, hC] at x5; cases x5).trans x7, x8, x9⟩
  have ne : b ≠ C := fun z => by
    subst z
    have q' : (B.hide b).get? b = some o := q
    rw [Heap.hide_self] at q'
    cases q'
  exact (sb.2 b ne).trans (g1 b o (st b o q))
/-- the context of a block whose element may raise -/
abbrev cxCompX (X : Cx) (E : XK) (N' : List Str) (scope : Scope) (C : Addr) (s₃ : Shared) (H₃ : Hp) (fp : List Addr) : Cx :=
  (cxComp X N' scope C s₃ H₃ fp).wish fun e s' => ∃ (pins : List (Addr × Obj)) (σ : St) (H : Hp) (s : Shared), Inv (cxComp X N' scope C s₃ H₃ fp) pins σ H s ∧ CX1 X.prog X.w X.stack H s E e s'
theorem passC {X : Cx} {E : XK} {N' : List Str} {scope : Scope} {C : Addr} {s₃ : Shared} {H₃ : Hp} {fp : List Addr} : Passes (CX1 X.prog X.w) (cxCompX X E N' scope C s₃ H₃ fp) E := fun pins σ H s _ _ I hx => ⟨pins, σ, H, s, I.unwish, hx⟩
/-- what is noted at this frame goes on -/
def PassH (X : Cx) (E : XK) : Prop := ∀ (pins : List (Addr × Obj)) (σ : St) (H1 : Hp) (s1 s2 : Shared) (cs : List Addr) (e : Value), Inv X pins σ H1 s1 → (∀ b ∈ cs, X.s₀.heap.get? b = none) → CXH X.prog X.w X.env.locals cs X.stack H1 s1 E e s2 → X.xe e s2
theorem passH {P : Program} {w : World} {K : PySem.W.Frag} {mg : Str → Option Value} {base : Heap} {N : List Str} {qual : Str} {scope : Scope} {f : Addr} {cd : Value} {A : Around} {outer : List Env} {s : Shared} {H : Hp} {E : XK} : PassH (cxOf (CX1 P w) P w K mg base N qual scope f cd A outer s H E) E :=
  fun _ _ _ _ _ _ _ I hcs hx => leave_held I hcs hx fun _ _ _ z => z
section
variable {X : Cx} {E : XK} {own : Nat} {fr : List Nat} {N' : List Str} {tg iter elt : Expr} {scope : Scope} {pos : Pos} {wi : TI} {g : CT TG} {te : CT TE}
theorem comp_runX {pins : List (Addr × Obj)} {s : Shared} {σ : St} {H : Hp} {Q : Addr → Hp → Prop} {use : Option (Value → Sem Unit)} {Q' : Value → Shared → Prop} {pos' : Pos} (hp : PassH X E) (hst : X.stack = X.env :: X.outer) (hfr0 : X.env.frame = some X.env.locals) (hc : X.calm = true) (hi : PI X tg iter wi) (hg : ∀ C s₃ H₃ fp, PG (cxComp X N' scope C s₃ H₃ fp) tg (g C s₃ H₃ fp)) (he : ∀ C s₃ H₃ fp, PE (cxCompX X E N' scope C s₃ H₃ fp) elt (te C s₃ H₃ fp))
    (hok : CompOk scope X.env.scope (N'.drop own)) (hfr : fr.map (fun j => X.N[j]?) = (N'.drop own).map some) (hown : own ≤ N'.length) (hs : ∀ x, foldedSetIterable iter X.env x = pure x)
    (I : Inv X pins σ H s) (h : tCompK own fr wi g te σ H Q)
    (fin : ∀ D C m H' s', Inv X pins σ H' s' → s'.heap.Ns C m → Spare X pins H' C → Q D H' → compPost (model X.prog X.w) X.A X.xe use Q' (.ref D) C (.ok .next) s') :
    wpAny (model X.prog X.w) X.A (comprehension (.ListComp elt [⟨tg, iter, [], 0⟩] scope pos) scope X.env pos' (newList []) false (eval iter X.env) use) Q' X.xe s := by
  refine wpAny_compX rfl hs (closureFor_run fun y hy hk => I.ok.has y.1 (hok.free y hy hk)) hok.kind hok.loc (thn (hi pins s σ H _ I h) fun xv s1 h1 => thn h1 fun itv s2 h2 => ?_)
  obtain ⟨it, fp, tn, J, H2, e, I2, T, st2, f2, body⟩ := h2
  subst e
  refine wpAny_newList (items := []) ?_
  have hD : H2 s2.heap.objs.size = none := I2.hok.fresh (Nat.le_refl _)
  have I3 : Inv X pins σ (upd H2 s2.heap.objs.size (.lst [])) { s2 with heap := s2.heap.push { cls := .type "list", data := .seq ([] : List Value).toArray } } := I2.lnew (its := []) (t' := s2.toks) .nil (by decide)
  obtain ⟨W, ⟨m0, w0⟩, turn⟩ := body _ hD
  generalize hDD : s2.heap.objs.size = D at hD I3 w0 turn ⊢
  have up3 : ∀ b o, s2.heap.get? b = some o → (s2.heap.push { cls := .type "list", data := .seq ([] : List Value).toArray }).get? b = some o := fun b o e => Heap.get?_push_of_some _ e
  have st3 : tn 0 (s2.heap.push { cls := .type "list", data := .seq ([] : List Value).toArray }) := T.keep _ _ _ st2 fun b _ o e => up3 b o e
  have fpne : ∀ b ∈ fp, b ≠ D := fun b hb e => by
    obtain ⟨o, ho, _⟩ := T.obj _ _ st2 b hb
    rw [e, ← hDD] at ho
    exact absurd (Heap.lt_size ho) (Nat.lt_irrefl _)
  have f3 : ∀ b ∈ fp, FpOk X pins (upd H2 D (.lst [])) b := fun b hb => ⟨by rw [upd_ne (fpne b hb)]; exact (f2 b hb).1, (f2 b hb).2⟩
  generalize hs3 : ({ s2 with heap := s2.heap.push { cls := .type "list", data := .seq ([] : List Value).toArray } } : Shared) = s3 at I3 ⊢
  have st3' : tn 0 s3.heap := by rw [← hs3]; exact st3
  generalize upd H2 D (.lst []) = H3 at I3 f3 w0
  have hob : ∀ b ∈ fp, ∃ o, s3.heap.get? b = some o := fun b hb => let ⟨o, ho, _⟩ := T.obj _ _ st3' b hb; ⟨o, ho⟩
  refine wpAny_newFunctionEnv hok.cell (by intro y hy; simp at hy) (fun h₁ hns₁ hsb₁ => ⟨rfl, ?_⟩) hok.kind
  have up4 : ∀ b o, s3.heap.get? b = some o → h₁.get? b = some o := fun b o e => (hsb₁.2 b (Nat.ne_of_lt (Heap.lt_size e))).trans (Heap.get?_push_of_some _ e)
  have I4 := inv_comp (N' := N') (own := own) (fr := fr) (scope := scope) (t := s3.toks + ([] : List (Str × Value)).length) I3 f3 hob hok hfr hown hns₁ hsb₁
  have st4 : tn 0 h₁ := T.keep _ _ _ st3' fun b _ o e => up4 b o e
  have stat : ∀ {H' : Hp} , (∀ b ∈ fp, H' b = none) → ∀ b ∈ fp, FpOk (cxComp X N' scope s3.heap.objs.size s3 H3 fp) [] H' b := fun hn b hb => by
    refine ⟨hn b hb, (I4.ok.exf b hb).1, I4.ok.exfs b hb, .inl hb, (I4.ok.exf b hb).2, fun p hp => by cases hp⟩
  -- the invariant of the def at a state of the block
  have back : ∀ {pins' : List (Addr × Obj)} {σ' : St} {H' : Hp} {s' : Shared}, Inv (cxComp X N' scope s3.heap.objs.size s3 H3 fp) pins' σ' H' s' → Inv X pins σ H' s' := fun I6 =>
    I3.call' (ch := fp) (by have := I6.os; exact this) I6.base I6.hok I6.bare fun b hb => ⟨(f3 b hb).2.2.2.1, (f3 b hb).2.1, (f3 b hb).2.2.2.2.1, (f3 b hb).2.2.2.2.2⟩
  have hC0 : X.s₀.heap.get? s3.heap.objs.size = none := by
    cases q : X.s₀.heap.get? s3.heap.objs.size with
    | none => rfl
    | some o => exact absurd (Heap.lt_size q) (Nat.not_lt.mpr I3.sz)
  have hCf : s3.heap.objs.size ∉ frs X.stack := fun hm => by
    rcases List.mem_cons.mp (I3.stkSub _ hm) with e | e
    · exact absurd I3.lt (by rw [← e]; exact Nat.lt_irrefl _)
    · exact I3.nofs (Nat.le_refl _) e
  -- an exception of the element
  have exc : ∀ (ex : Value) (s9 : Shared), (cxCompX X E N' scope s3.heap.objs.size s3 H3 fp).xe ex s9 → notedBy (model X.prog X.w) X.A (cxComp X N' scope s3.heap.objs.size s3 H3 fp).env (fun e s' => postX (model X.prog X.w) X.A X.xe X.env use Q' (.ref D) s3.heap.objs.size (.error e) s') ex s9 := by
    rintro ex s9 ⟨pins8, σ8, H8, s8, I8, hx⟩
    obtain ⟨ea, C0, a0, B, H', rfl, hos, hbare, hok', hfl, k1, k2, k3, k4, k5, k6, k7, hE⟩ := hx
    have I8o := back I8
    obtain ⟨m8, hn8, _⟩ := I8.loc
    obtain ⟨oC, esC, epC, hoC, hdC, rC⟩ := hn8
    have hBC : B.get? s3.heap.objs.size = some oC := k1 _ oC hoC I8.free hCf
    have hfl' := hfl
    rw [hst] at hfl'
    unfold notedBy
    rw [noteFrame_frame (a := (cxComp X N' scope s3.heap.objs.size s3 H3 fp).env) (b := X.env) rfl]
    refine wpAny_looks_onW (hst ▸ I8o.ok.frames) hfr0 hfl' fun h1 held u1 => ?_
    rw [← hst] at held
    refine ⟨m8, ⟨oC, esC, epC, held.1 _ _ hBC, hdC, rC⟩, fun h2 sb => ?_⟩
    refine passOn_held hfr0 (held_but hBC sb held) fun h3 held3 u3 => ?_
    refine hp pins σ H8 s8 _ [s3.heap.objs.size] _ I8o (fun b hb => by rw [List.mem_singleton.mp hb]; exact hC0) ⟨ea, C0, a0, _, H', rfl, hos, hbare, ?_, held3, fun b o q n hf hcs => ?_, fun b o q n hf => ?_, k3, fun b o q => ?_, k5, k6, k7, hE⟩
    · refine hok_hide hok' fun b hb => ?_
      rw [List.mem_singleton.mp hb]
      exact k3 _ oC hoC I8.free
    · exact PySem.W.hideAll_get _ (k1 b o q n hf) hcs
    · obtain ⟨sl, q1⟩ := k2 b o q n hf
      obtain ⟨_, o2, ho2, hd⟩ := hfl.2.2.1.mem hf
      have e2 : o2 = { o with slots := sl } := Option.some.inj (ho2.symm.trans q1)
      subst e2
      obtain ⟨sl2, q2⟩ := u1 b _ q1 hd
      have q3 : h2.get? b = some { o with slots := sl2 } := (sb.2 b fun z => hCf (z ▸ hf)).trans q2
      obtain ⟨sl3, q4⟩ := u3 b _ q3 (fun vs => hd vs)
      exact ⟨sl3, q4⟩
    · rcases k4 b o q with hm | ⟨o', q'⟩
      · exact .inl hm
      · by_cases hb : b = s3.heap.objs.size
        · exact .inr (.inl (by rw [hb]; exact List.mem_singleton.mpr rfl))
        · exact .inr (.inr ⟨o', PySem.W.hideAll_get _ q' fun z => hb (List.mem_singleton.mp z)⟩)
  have loop : codeAny (model X.prog X.w) X.A (.compLoop (.ListComp elt [⟨tg, iter, [], 0⟩] scope pos) 0 (.ref it) (.ref D) (cxComp X N' scope s3.heap.objs.size s3 H3 fp).env)
      (postX (model X.prog X.w) X.A X.xe X.env use Q' (.ref D) s3.heap.objs.size) { s3 with heap := h₁, toks := s3.toks + ([] : List (Str × Value)).length } := by
    refine codeAny_compLoop_gen (fun n s' => ∃ i σ' H', Inv (cxComp X N' scope s3.heap.objs.size s3 H3 fp) [] σ' H' s' ∧ tn i s'.heap ∧ (∀ b ∈ fp, H' b = none) ∧ W i n σ' H') ?_ m0 ⟨0, _, H3, I4, st4, fun b hb => (f3 b hb).1, w0⟩
    rintro n s5 ⟨i, σ5, H5, I5, st5, fr5, w5⟩
    rcases turn i n σ5 H5 w5 with ⟨stop, q⟩ | ⟨go, step⟩
    · refine wpAny_mono (T.done (cxComp X N' scope s3.heap.objs.size s3 H3 fp) rfl rfl rfl hc i [] s5 σ5 H5 (fun _ _ => False) I5 (stat fr5) st5 stop) (fun r s6 ⟨hr, I6⟩ => ?_) fun _ _ z => z.elim
      subst hr
      obtain ⟨m6, hn6, _⟩ := I6.loc
      refine fin D s3.heap.objs.size m6 H5 s6 (back I6) hn6 ⟨I6.free, Nat.ne_of_gt I3.lt, I3.sz, fun x c e z => ?_, fun p hp z => ?_⟩ q
      · obtain ⟨v, z1⟩ := I3.cell x c e
        exact absurd z1.lt (by rw [z]; exact Nat.lt_irrefl _)
      · exact absurd (Heap.lt_size (I3.pin p hp).1) (by rw [z]; exact Nat.lt_irrefl _)
    · refine wpAny_mono (T.item (cxComp X N' scope s3.heap.objs.size s3 H3 fp) rfl rfl rfl hc i [] s5 σ5 H5 (fun _ _ => False) I5 (stat fr5) st5 go) (fun r s6 ⟨u, hr, h6⟩ => ?_) fun _ _ z => z.elim
      subst hr
      refine wpAny_mono h6 (fun _ s7 ⟨x, H7, I7, r7, y7, st7, fr7⟩ => ?_) fun _ _ z => z.elim
      have I7' := I7.pinned (stat fr7) (T.obj _ _ st7)
      refine wpAny_mono (hg _ _ _ _ _ s7 σ5 H7 x u _ I7' r7 (step x H7 y7 _ _ _ _)) (fun _ s8 ⟨σ8, H8, I8, N, q8, hN⟩ => ?_) fun _ _ z => z.elim
      refine wpAny_mono (he _ _ _ _ _ s8 σ8 H8 N (I8.wish _) q8) (fun yv s9 ⟨y, H9, I9', r9, n9⟩ => ?_) exc
      have I9 := I9'.unwish
      obtain ⟨ys, m', hD9, hlt, hm, w9⟩ := hN y H9 n9
      refine wpAny_mono (mt_append (X := cxComp X N' scope s3.heap.objs.size s3 H3 fp) _ s9 σ8 H9 (.ref D) [y] (.ref D) [yv] (fun _ H' => H' = upd H9 D (.lst (ys ++ [y]))) I9 rfl (.cons r9 .nil) ⟨D, ys, y, rfl, rfl, hD9, hlt, rfl⟩) (fun _ s10 ⟨_, H10, I10, _, q10⟩ => ?_) fun _ _ z => z.elim
      subst q10
      have pin := fun b hb o e => I10.pin (b, o) (List.mem_append_right _ (List.mem_append_right _ (mem_pinsAt (h := s7.heap) (fp := fp) hb e)))
      refine ⟨m', hm, i + 1, σ8, _, I10.unpinned, T.keep _ _ _ st7 fun b hb o e => (pin b hb o e).1, fun b hb => ?_, w9⟩
      obtain ⟨o, e, d⟩ := T.obj _ _ st7 b hb
      exact (pin b hb o e).2.1
  exact codeAny_compStart_list loop (T.self X.A 0 _ _ _ st4 loop)
/-- y = [elt for x in iter], elt may raise -/
theorem ps_setCompX {i : Nat} {x y : Str} {px py spos : Pos} (hp : PassH X E) (hst : X.stack = X.env :: X.outer) (hfr0 : X.env.frame = some X.env.locals) (fr : List Nat) (N' : List Str) (hNd : X.N.Nodup) (hy : X.N[i]? = some y) (hl : X.env.scope.names.lookup y = some .local) (hc : X.calm = true) (hi : PI X (.Name x px) iter wi) (he : ∀ C s₃ H₃ fp, PE (cxCompX X E N' scope C s₃ H₃ fp) elt (te C s₃ H₃ fp))
    (hsw : swapsWith (.ListComp elt [⟨.Name x px, iter, [], 0⟩] scope pos) (some (.Name y py)) spos.line X.env = pure true := by rfl) (hN : N'.Nodup := by decide +kernel) (h0 : N'[0]? = some x := by rfl) (hx : scope.names.lookup x = some .local := by rfl)
    (hok : compOk scope X.env.scope (N'.drop 1) = true := by rfl) (hfr : fr.map (fun j => X.N[j]?) = (N'.drop 1).map some := by rfl) (hown : 1 ≤ N'.length := by decide) (hs : ∀ x, foldedSetIterable iter X.env x = pure x := by intro _; rfl) :
    PS X (.Assign [.Name y py] (.ListComp elt [⟨.Name x px, iter, [], 0⟩] scope pos) spos) (tAsg (tComp 1 fr wi (fun _ _ _ _ => gName 0) te) (gName i)) := by
  intro pins s σ H D I h
  rw [exec_Assign_Name_used _ _ _ _ hsw]
  refine wpAny_bind (wpAny_standAt (wpAny_bind ?_))
  show wpAny _ X.A (do let _ ← comprehension (.ListComp elt [⟨.Name x px, iter, [], 0⟩] scope pos) scope X.env _ (newList []) false (eval iter X.env) (some (assign (.Name y py) X.env))) _ _ s
  refine wpAny_bind (wpAny_mono (comp_runX (use := some (assign (.Name y py) X.env)) (Q' := fun _ s' => SP X pins D .next s') hp hst hfr0 hc hi (fun _ _ _ _ => pg_name hN h0 (.inl (lookup_relabel_local hx)) (.inr (lookup_relabel_local hx))) he (compOk_of hok) hfr hown hs I h fun Dl C m H' s' I' hn sp q => ?_) (fun _ s' hq => wpAny_pure (wpAny_pure hq)) fun _ _ e => e)
  show wpAny _ X.A (assign (.Name y py) X.env (.ref Dl)) _ _ _
  refine wpAny_assign_Name (store_ok2 (v := .ref Dl) I' hNd hy (.inl hl) rfl (fun s2 I2 ⟨a, sb, ha⟩ => ?_) (.inr hl))
  have hCa : C ≠ a := by
    rcases ha with e | e
    · rw [e]; exact sp.2.1
    · exact fun z => sp.2.2.2.1 y a e z.symm
  refine ⟨m, hn.sameBut sb hCa, fun h' sb' => ⟨_, H', ?_, q⟩⟩
  exact I2.turned (t' := s2.toks) (fun b o hb e => (sb'.2 b hb).trans e) sp.1 sp.2.1 (.inr sp.2.2.1) sp.2.2.2.1 sp.2.2.2.2
/-- a call that may raise, in a block -/
theorem pe_knC {C : Addr} {s₃ : Shared} {H₃ : Hp} {fp : List Addr} {x : Str} {p cpos : Pos} {e : Expr} {es : List Expr} {t : TA} {ps : List Str} {sp : Sp} {k j : Nat} (kn : KnownX X.prog X.w X.K X.mg X.base k x ps sp) (hr : Room j X.A) (hg : Gl (cxCompX X E N' scope C s₃ H₃ fp) x)
    (ha : PA (cxCompX X E N' scope C s₃ H₃ fp) (e :: es) t) (hj : k ≤ j := by decide) (hdb : (x == ("__debug__" : Str)) = false := by decide)
    (he : starEach (e :: es) (cxCompX X E N' scope C s₃ H₃ fp).env = (false, eval e (cxCompX X E N' scope C s₃ H₃ fp).env) :: starEach es (cxCompX X E N' scope C s₃ H₃ fp).env := by rfl) (hpl : (backTo cpos (starEach es (cxCompX X E N' scope C s₃ H₃ fp).env)).any (·.1) = false := by rfl) :
    PE (cxCompX X E N' scope C s₃ H₃ fp) (.Call (.Name x p) (e :: es) [] cpos) (tCall sp [] E t) := by
  obtain ⟨f, fd, G, hk, hm, hb⟩ := kn
  exact pe_call (X := cxCompX X E N' scope C s₃ H₃ fp) G (hr.mono hj) hg hm hk hb .nil passC ha hdb he hpl
end
/-! ### the body of a try -/
def XEp (X : Cx) (pins : List (Addr × Obj)) (EX : St → XK) : Value → Shared → Prop := fun e s' => ∃ (σ : St) (H : Hp) (s : Shared), Inv X pins σ H s ∧ CX1 X.prog X.w X.stack H s (EX σ) e s'
/-- a statement that may raise; the exception's wish by the names as they stand -/
def QS (X : Cx) (st : Stmt) (t : (St → XK) → TS) : Prop := ∀ (pins : List (Addr × Obj)) (s : Shared) (σ : St) (H : Hp) (D : Ends) (EX : St → XK), Inv X pins σ H s → t EX D σ H → wpAny (model X.prog X.w) X.A (exec st X.env) (SP X pins D) (XEp X pins EX) s
def QSs (X : Cx) (st : List Stmt) (t : (St → XK) → TS) : Prop := ∀ (pins : List (Addr × Obj)) (s : Shared) (σ : St) (H : Hp) (D : Ends) (EX : St → XK), Inv X pins σ H s → t EX D σ H → wpAny (model X.prog X.w) X.A (execs st X.env) (SP X pins D) (XEp X pins EX) s
section
variable {X : Cx}
theorem qss_nil : QSs X [] (fun _ D σ H => D.nx σ H) := fun _ _ σ H _ _ I h => wpAny_execs_nil ⟨σ, H, I, h⟩
theorem qss_cons {st : Stmt} {rest : List Stmt} {t u : (St → XK) → TS} (h1 : QS X st t) (h2 : QSs X rest u) : QSs X (st :: rest) (fun EX => tSeq (t EX) (u EX)) := by
  intro pins s σ H D EX I h
  refine wpAny_execs_cons (thn (h1 pins s σ H { D with nx := u EX D } EX I h) fun fl s1 q => ?_)
  cases fl with
  | next =>
    obtain ⟨σ', H', I', q⟩ := q
    exact h2 pins s1 σ' H' D EX I' q
  | ret v => exact q
  | brk => exact q
  | cont => exact q
theorem qs_if {c : Expr} {a b : List Stmt} {tc : TT} {t u : (St → XK) → TS} {pos : Pos} (hc : PT X.nox c tc) (ha : QSs X a t) (hb : QSs X b u) : QS X (.If c a b pos) (fun EX => tIfS tc (t EX) (u EX)) := by
  intro pins s σ H D EX I h
  refine wpAny_If (wpAny_mono (hc pins s σ H _ (I.wish _) h) (fun d s1 ⟨H1, I1, q1⟩ => ?_) fun _ _ z => z.elim)
  cases d with
  | true => exact ha pins s1 σ H1 D EX I1.unwish q1
  | false => exact hb pins s1 σ H1 D EX I1.unwish q1
/-- x = f(..), f may raise -/
theorem qs_set {i : Nat} {y x : Str} {p cpos pos pos' : Pos} {e : Expr} {es : List Expr} {t : TA} {ps : List Str} {sp : Sp} {k j : Nat} (kn : KnownX X.prog X.w X.K X.mg X.base k x ps sp) (hr : Room j X.A) (hg : Gl X x) (ha : PA X.nox (e :: es) t) (hN : X.N.Nodup) (hi : X.N[i]? = some y) (hx : Loc X.env.scope y)
    (hj : k ≤ j := by decide) (hdb : (x == ("__debug__" : Str)) = false := by decide)
    (he : starEach (e :: es) X.env = (false, eval e X.env) :: starEach es X.env := by rfl) (hpl : (backTo cpos (starEach es X.env)).any (·.1) = false := by rfl) (hs : swapsWith (.Call (.Name x p) (e :: es) [] cpos) (some (.Name y pos')) pos.line X.env = pure false := by rfl)
    (hf : X.fn y = true ∨ X.env.scope.names.lookup y = some .local := by first | exact .inl rfl | exact .inr rfl | assumption) :
    QS X (.Assign [.Name y pos'] (.Call (.Name x p) (e :: es) [] cpos) pos) (fun EX D σ H => t σ H fun vs H1 => sp vs H1 (fun v H2 => D.nx (σ.set i (some v)) H2) (EX σ)) := by
  intro pins s σ H D EX I h
  obtain ⟨f, fd, G, hk, hm, hb⟩ := kn
  refine wpAny_Assign_Name (wpAny_Call_Name_kw (ld_glob I hg hm ?_ hdb)) hs
  refine PySem.W.callWith_K (h₀ := X.base) I.ok.mod.kin hk (wpAny_mono (ha cpos pins s σ H _ (I.wish _) h) (fun us s1 ⟨vs, H1, I1, r, q⟩ => ⟨I1.kIn, ?_⟩) fun _ _ z => z.elim) he hpl
  have I1' : Inv X pins σ H1 s1 := I1.unwish
  have hl : (us ++ []).length = ps.length := by rw [List.append_nil, ← r.length]; exact G.len _ _ _ _ q
  have bb := hb s1 us I1'.kIn hl
  rw [List.append_nil] at bb
  refine wpAny_call (codeAny_mono (G.run X.A X.stack s1 H1 ⟨us, []⟩ us vs _ (EX σ) (hr.mono hj) I1'.env0 bb r q) fun rr s' hq => ?_)
  cases rr with
  | error ex => exact ⟨σ, H1, s1, I1', hq⟩
  | ok fl =>
    cases fl with
    | ret u =>
      obtain ⟨v, H', I2, r2, q2⟩ := I1'.after hq
      exact store_ok I2 hN hi hx r2 (fun s2 I3 => ⟨_, H', I3, q2⟩) hf
    | next => exact False.elim hq
    | brk => exact False.elim hq
    | cont => exact False.elim hq
/-- try: .., except .. -/
theorem ps_tryQ {body : List Stmt} {tb : (St → XK) → TS} {h0 : ExceptHandler} {hs : List ExceptHandler} {th : Addr → Addr → TS} {pos : Pos} (hb : QSs X body tb) (hh : PH X (h0 :: hs) th) (hst : X.stack = X.env :: X.outer) (hfr : X.env.frame = some X.env.locals) :
    PS X (.Try body (h0 :: hs) [] [] pos) (fun D σ H => ∃ EX : St → XK, tb EX D σ H ∧ ∀ (σ' : St) (ea C : Addr) (H' : Hp), EX σ' (.ref C) none H' → H' ea = none → th ea C D σ' (upd H' ea (ExcO ea C))) := by
  rintro pins s σ H D I ⟨EX, h1, h2⟩
  refine wpAny_Try_except (wpAny_mono (hb pins s σ H D EX I h1) (fun fl s1 q => ?_) fun ex s' ⟨σ', H', s2, I', hx⟩ => ?_)
  · cases fl with
    | next => exact wpAny_execs_nil q
    | ret u => exact q
    | brk => exact q
    | cont => exact q
  · exact catch_ok I' hst hfr hx fun ea C H2 s3 _ cg hn hE => hh pins σ' _ ea C s3 D cg (h2 σ' ea C H2 hE hn)
end
/-! ### a block that raises at the turn j -/
section
theorem comp_fail {K : PySem.W.Frag} {a : Addr} {xs : List V} {fr : List Nat} {te : CT TE} {σ : St} {H1 : Hp} {Q : Addr → Hp → Prop} (hS : SqL K H1 a xs) (j : Nat) (hj : j < xs.length) (hz : xs.length ≤ sizeLine)
    (turn : ∀ (i : Nat) H x, i ≤ j → xs[i]? = some x → Same H1 H → ∀ C₀ s₀ H₀ fp, te C₀ s₀ H₀ fp (some x :: fr.map fun j => (σ[j]?).getD none) H fun _ H4 => Same H H4 ∧ i < j) :
    ∀ D, H1 D = none → ∃ W : Nat → Nat → St → Hp → Prop, (∃ m, W 0 m (stComp 1 fr σ) (upd H1 D (.lst []))) ∧ ∀ i m σ' H', W i m σ' H' →
    ((Itl K a).stop i H' ∧ Q D H') ∨ ((Itl K a).go i H' ∧ ∀ x H2, (Itl K a).yld i H' x H2 → ∀ C₀ s₀ H₀ fp, gName 0 x σ' H2 fun σ3 H3 => ∃ N : VK, te C₀ s₀ H₀ fp σ3 H3 N ∧ ∀ y H4, N y H4 →
      ∃ ys m', H4 D = some (.lst ys) ∧ ys.length < sizeLine ∧ m' < m ∧ W (i + 1) m' σ3 (upd H4 D (.lst (ys ++ [y])))) := by
  intro D hD
  have s0 : ∀ o, Same H1 (upd H1 D o) := fun o b u e => by rw [upd_ne (ne_of_none e hD)]; exact e
  refine ⟨fun i m σ' H' => m = j + 1 - i ∧ i ≤ j ∧ Same H1 H' ∧ (∃ ys : List V, H' D = some (.lst ys) ∧ ys.length = i) ∧ ∃ z, σ' = z :: fr.map fun j => (σ[j]?).getD none, ⟨j + 1, rfl, Nat.zero_le _, s0 _, ⟨[], upd_same, rfl⟩, none, rfl⟩, ?_⟩
  rintro i m σ' H' ⟨rfl, hi, sm, ⟨ys, hl, hyl⟩, z, rfl⟩
  refine .inr ⟨⟨xs, xs[i], sm.seq hS, List.getElem?_eq_getElem (Nat.lt_of_le_of_lt hi hj)⟩, fun x H2 yl C₀ s₀ H₀ fp => ?_⟩
  obtain ⟨e, hx⟩ := yl
  subst e
  refine ⟨_, turn i _ x hi (hx xs (sm.seq hS)) sm C₀ s₀ H₀ fp, fun y H4 ⟨s4, hlt⟩ => ⟨ys, j + 1 - (i + 1), s4 _ _ hl, by omega, by omega, rfl, hlt, ?_, ⟨ys ++ [y], upd_same, by rw [List.length_append, hyl]; rfl⟩, _, rfl⟩⟩
  intro b u e
  rw [upd_ne (ne_of_none e hD)]
  exact s4 _ _ (sm _ _ e)
end
end L2

set_option Elab.async false
set_option linter.all false
set_option maxRecDepth 100000
set_option maxHeartbeats 4000000
/-! Rules of our own, part 19: str of a text, max of a list, a loop over a text, `in` by data, an exception held against None and against classes that it is not of, `except C:`. -/
namespace L2
open PySem PySem.Spec PyProof.Rows
section
variable {X : Cx}
theorem for_str {x : Str} {g : TG} {tb : TS} {D : Ends} {σ : St} {H : Hp} (Pv : Nat → St → Hp → Prop) (h0 : Pv 0 σ H)
    (hs : ∀ i c σ H, x.cps.toList[i]? = some c → Pv i σ H → g (.str ⟨#[c]⟩) σ H fun σ2 H2 => tb { D with nx := Pv (i + 1), ct := Pv (i + 1), bk := D.nx } σ2 H2) (hd : ∀ σ H, Pv x.length σ H → D.nx σ H) :
    ∃ W : Nat → Nat → St → Hp → Prop, (∃ m, W 0 m σ H) ∧ ∀ i m σ H, W i m σ H →
      ((Its x).stop i H ∧ D.nx σ H) ∨ ((Its x).go i H ∧ ∃ N : St → Hp → Prop, (∀ σ' H', N σ' H' → ∃ m', m' < m ∧ W (i + 1) m' σ' H') ∧ ∀ v H', (Its x).yld i H v H' → g v σ H' fun σ2 H2 => tb { D with nx := N, ct := N, bk := D.nx } σ2 H2) := by
  refine ⟨fun i m σ H => m = x.length - i ∧ i ≤ x.length ∧ Pv i σ H, ⟨x.length, by simp, Nat.zero_le _, h0⟩, ?_⟩
  rintro i m σ H ⟨rfl, hi, p⟩
  by_cases hlt : i < x.length
  · refine .inr ⟨hlt, Pv (i + 1), fun σ' H' p' => ⟨x.length - (i + 1), by omega, rfl, hlt, p'⟩, fun v H' y => ?_⟩
    obtain ⟨e, c, hc, e2⟩ := y
    subst e e2
    exact hs i c σ _ hc p
  · have e : i = x.length := by omega
    subst e
    exact .inl ⟨Nat.le_refl _, hd σ H p⟩
theorem op_inDt (hu : X.A.units + 65 < cLine) : OpR X (compareOp .In) (fun x y H Q => ∃ (a : Addr) (xs : List V) (ds : List PyData) (d : PyData), y = .ref a ∧ H a = some (.lst xs) ∧ Dts H xs ds ∧ Dt H x d ∧ PySem.SeqAt.shaped (.list ds) = true ∧ PySem.SeqAt.shaped d = true ∧ Q (.bl (ds.any fun e => PyData.eqv e d)) H) := by
  intro pins s σ H x y v u Q I rx ry h
  obtain ⟨a, xs, ds, d, rfl, ha, hs, hd, s1, s2, q⟩ := h
  obtain ⟨as, ra⟩ := (Dt.lst ha hs).reads I u ry
  obtain ⟨bs, rb⟩ := hd.reads I v rx
  exact PySem.SeqAt.in_list_reads ra rb (PySem.SeqAt.canLay_of_shaped s1) (PySem.SeqAt.canLay_of_shaped s2) (room_in_shaped s2 hu) ⟨.bl _, H, I, rfl, q⟩
end
end L2

set_option Elab.async false
set_option linter.all false
set_option maxRecDepth 100000
set_option maxHeartbeats 4000000
/-! Rules of our own, part 20: a loop whose iterable may raise; text.find(sign, from); an exception against classes that it is not of; an empty dict. -/
namespace L2
open PySem PySem.Spec PyProof.Rows
section
variable {X : Cx} {tg : Expr}
end
open PySem.W PySem.Builtin PySem.Builtin.ObjectAttr PySem.Builtin.Getset_descriptor
/-! ### sealed: an index of a display, returned -/
section
variable {X : Cx}
theorem de_ix {a b : Expr} {ta tb : TE} {r : R2} {pos : Pos} (hr : IxR X r) (ha : DE X a ta) (hb : PE X b tb) (hs : PlainIx b) : DE X (.Subscript a b pos) (tOp r ta tb) := ⟨pe_ix hr ha.h hb hs⟩
theorem ds_ret {e : Expr} {te : TE} {pos : Pos} (he : DE X e te) : DS X (.Return (some e) pos) (tRet te) := ⟨ps_ret he.h⟩
theorem ds_if {c : Expr} {a b : List Stmt} {tc : TT} {t u : TS} {pos : Pos} (hc : PT X c tc) (ha : DSs X a t) (hb : DSs X b u) : DS X (.If c a b pos) (tIfS tc t u) := ⟨ps_if hc ha.h hb.h⟩
theorem dss_one {st : Stmt} {t : TS} (h : DS X st t) : DSs X [st] t := ⟨pss_one h.h⟩
theorem dss_nil : DSs X [] tNext := ⟨pss_nil⟩
end
/-! ### isinstance of an exception: it is none of them -/
/-- what an exception's class says of `__class__` -/
structure XAsk (K : PySem.W.Frag) (C : Addr) : Prop where
  ga : PySem.W.findIn K (.ref C) "__getattribute__" = some (some (.builtin "BaseException.__getattribute__"))
  no : PySem.W.findIn K (.ref C) "__getattr__" = some none
  cl : PySem.W.findIn K (.ref C) "__class__" = some (some (.builtin "object.__class__"))
  be : PySem.W.mroIn K C (.type "BaseException") = some true
  ob : PySem.W.mroIn K C (.type "object") = some true
  gt : PySem.W.specialIn K (.builtin "object.__class__") "__get__" = some (some (.builtin "getset_descriptor.__get__"))
  tk : PySem.W.takesIn K (.builtin "object.__class__") = some true
section
variable {prog : Program} {w : World} {A : Around} {E : Value → Shared → Prop} {s : Shared} {K : PySem.W.Frag} {x C : Addr} {o : Obj}
end
section
variable {X : Cx}
end
end L2

set_option Elab.async false
set_option linter.all false
set_option maxRecDepth 100000
/-! The tables of sets: the road of a hash, the search for a slot, a slot taken. -/
namespace Tb.ST
open PySem PySem.SetTable
/-! ### the road -/
def adv (mask : Nat) (p : Probe) : Probe := if p.more > 0 then { p with j := p.j + 1, more := p.more - 1 } else
  { p with j := (leap mask p.i p.perturb).1, more := runEnd mask (leap mask p.i p.perturb).1 - (leap mask p.i p.perturb).1, i := (leap mask p.i p.perturb).1, perturb := (leap mask p.i p.perturb).2 }
def start (mask : Nat) (h : Int) : Probe := { j := bits h % (mask + 1), more := runEnd mask (bits h % (mask + 1)) - bits h % (mask + 1), i := bits h % (mask + 1), perturb := bits h, dummy := none }
def go (mask : Nat) : Nat → Probe → Probe
  | 0, p => p
  | q + 1, p => go mask q (adv mask p)
theorem go_add (mask : Nat) : ∀ (a b : Nat) (p : Probe), go mask (a + b) p = go mask b (go mask a p)
  | 0, b, p => by rw [Nat.zero_add]; rfl
  | a + 1, b, p => by rw [show a + 1 + b = (a + b) + 1 by omega]; exact go_add mask a b _
/-- the slot of the road of h at its step q -/
def pj (mask : Nat) (h : Int) (q : Nat) : Nat := (go mask q (start mask h)).j
structure Wf (mask : Nat) (p : Probe) : Prop where
  j : p.j + p.more ≤ mask
  m : p.more ≤ 9
  i : p.i ≤ mask
  b : p.perturb < 2 ^ 64
  d : p.dummy = none
theorem run_le (mask i : Nat) (h : i ≤ mask) : i + (runEnd mask i - i) ≤ mask ∧ runEnd mask i - i ≤ 9 ∧ i ≤ runEnd mask i := by
  unfold runEnd
  split <;> omega
theorem Wf.adv {mask : Nat} {p : Probe} (h : Wf mask p) : Wf mask (adv mask p) := by
  unfold ST.adv
  split
  · exact ⟨by have := h.j; show p.j + 1 + (p.more - 1) ≤ mask; omega, by have := h.m; show p.more - 1 ≤ 9; omega, h.i, h.b, h.d⟩
  · have hl : (leap mask p.i p.perturb).1 ≤ mask := Nat.le_of_lt_succ (Nat.mod_lt _ (Nat.succ_pos _))
    have := run_le mask _ hl
    exact ⟨this.1, this.2.1, hl, Nat.lt_of_le_of_lt (Nat.div_le_self _ _) h.b, h.d⟩
theorem Wf.start (mask : Nat) (h : Int) : Wf mask (start mask h) := by
  have hl : bits h % (mask + 1) ≤ mask := Nat.le_of_lt_succ (Nat.mod_lt _ (Nat.succ_pos _))
  have := run_le mask _ hl
  refine ⟨this.1, this.2.1, hl, ?_, rfl⟩
  show (h % (2 ^ 64 : Int)).toNat < 2 ^ 64
  have h1 := Int.emod_nonneg h (show (2 ^ 64 : Int) ≠ 0 by decide)
  have h2 := Int.emod_lt_of_pos h (show (0 : Int) < 2 ^ 64 by decide)
  have h3 : ((2 ^ 64 : Nat) : Int) = 2 ^ 64 := by decide
  omega
theorem Wf.go {mask : Nat} : ∀ (q : Nat) {p : Probe}, Wf mask p → Wf mask (go mask q p)
  | 0, _, h => h
  | q + 1, _, h => Wf.go q h.adv
theorem pj_le (mask : Nat) (h : Int) (q : Nat) : pj mask h q ≤ mask := by
  have := (Wf.go q (Wf.start mask h)).j
  unfold pj
  omega
/-! ### leaps -/
def lp (mask : Nat) (p : Probe) : Probe := { p with j := (leap mask p.i p.perturb).1, more := runEnd mask (leap mask p.i p.perturb).1 - (leap mask p.i p.perturb).1, i := (leap mask p.i p.perturb).1, perturb := (leap mask p.i p.perturb).2 }
theorem go_lp {mask : Nat} : ∀ (n : Nat) (p : Probe), p.more = n → go mask (n + 1) p = lp mask p
  | 0, p, h => by
    show adv mask p = lp mask p
    unfold adv
    rw [if_neg (by omega)]
    rfl
  | n + 1, p, h => by
    show go mask (n + 1) (adv mask p) = lp mask p
    have e : adv mask p = { p with j := p.j + 1, more := p.more - 1 } := by unfold adv; rw [if_pos (by omega)]
    rw [go_lp n (adv mask p) (by rw [e]; show p.more - 1 = n; omega), e]
    rfl
def lps (mask : Nat) : Nat → Probe → Probe
  | 0, p => p
  | k + 1, p => lps mask k (lp mask p)
theorem Wf.lp {mask : Nat} {p : Probe} (h : Wf mask p) : Wf mask (lp mask p) := by
  rw [← go_lp p.more p rfl]
  exact Wf.go _ h
theorem go_lps {mask : Nat} : ∀ (k : Nat) {p : Probe}, Wf mask p → ∃ q, q ≤ 10 * k ∧ go mask q p = lps mask k p
  | 0, p, _ => ⟨0, Nat.le_refl _, rfl⟩
  | k + 1, p, h => by
    obtain ⟨q, hq, e⟩ := go_lps k h.lp
    have hm := h.m
    refine ⟨p.more + 1 + q, by omega, ?_⟩
    rw [go_add, go_lp p.more p rfl, e]
    rfl
theorem lps_add (mask : Nat) : ∀ (a b : Nat) (p : Probe), lps mask (a + b) p = lps mask b (lps mask a p)
  | 0, b, p => by rw [Nat.zero_add]; rfl
  | a + 1, b, p => by rw [show a + 1 + b = (a + b) + 1 by omega]; exact lps_add mask a b _
theorem lps_perturb (mask : Nat) : ∀ (k : Nat) (p : Probe), (lps mask k p).perturb = p.perturb / 32 ^ k
  | 0, p => by show p.perturb = _; rw [Nat.pow_zero, Nat.div_one]
  | k + 1, p => by
    show (lps mask k (lp mask p)).perturb = _
    rw [lps_perturb mask k]
    show p.perturb / 32 / 32 ^ k = _
    rw [Nat.div_div_eq_div_mul, Nat.pow_succ, Nat.mul_comm]
def lc (M x : Nat) : Nat := (x * 5 + 1) % M
def lcs (M : Nat) : Nat → Nat → Nat
  | 0, x => x
  | k + 1, x => lcs M k (lc M x)
theorem lcs_add (M : Nat) : ∀ (a b x : Nat), lcs M (a + b) x = lcs M b (lcs M a x)
  | 0, b, x => by rw [Nat.zero_add]; rfl
  | a + 1, b, x => by rw [show a + 1 + b = (a + b) + 1 by omega]; exact lcs_add M a b _
theorem lps_lcs (mask : Nat) : ∀ (k : Nat) (p : Probe), p.perturb = 0 → 1 ≤ k → (lps mask k p).j = lcs (mask + 1) k p.i
  | 1, p, h, _ => by
    show (p.i * 5 + 1 + p.perturb / 32) % (mask + 1) = _
    rw [h]
    rfl
  | k + 2, p, h, _ => by
    have e : (lp mask p).perturb = 0 := by show p.perturb / 32 = 0; rw [h]
    have := lps_lcs mask (k + 1) (lp mask p) e (by omega)
    show (lps mask (k + 1) (lp mask p)).j = lcs (mask + 1) (k + 1) (lc (mask + 1) p.i)
    rw [this]
    show lcs (mask + 1) (k + 1) ((p.i * 5 + 1 + p.perturb / 32) % (mask + 1)) = _
    rw [h]
    rfl
def orbit (M : Nat) : Nat → Nat → List Nat
  | 0, _ => []
  | k + 1, x => lc M x :: orbit M k (lc M x)
theorem mem_orbit {M : Nat} : ∀ {k x e : Nat}, e ∈ orbit M k x → ∃ r, 1 ≤ r ∧ r ≤ k ∧ lcs M r x = e
  | 0, _, _, h => by cases h
  | k + 1, x, e, h => by
    rcases List.mem_cons.mp h with z | z
    · exact ⟨1, Nat.le_refl _, by omega, z.symm⟩
    · obtain ⟨r, h1, h2, h3⟩ := mem_orbit z
      exact ⟨r + 1, by omega, by omega, h3⟩
def full (M : Nat) : Bool := ((List.range M).all fun e => (orbit M M 0).contains e) && lcs M M 0 == 0
theorem full_8 : full 8 = true := by decide +kernel
theorem full_32 : full 32 = true := by decide +kernel
theorem full_128 : full 128 = true := by decide +kernel
theorem full_512 : full 512 = true := by decide +kernel
theorem full_reach {M : Nat} (hM : full M = true) {i e : Nat} (hi : i < M) (he : e < M) : ∃ r, 1 ≤ r ∧ r ≤ M ∧ lcs M r i = e := by
  unfold full at hM
  rw [Bool.and_eq_true, beq_iff_eq, List.all_eq_true] at hM
  have mem : ∀ x, x < M → ∃ r, 1 ≤ r ∧ r ≤ M ∧ lcs M r 0 = x := fun x hx => mem_orbit (by
    have := hM.1 x (List.mem_range.mpr hx)
    rw [List.contains_iff_mem] at this
    exact this)
  obtain ⟨a, a1, a2, a3⟩ := mem i hi
  obtain ⟨b, b1, b2, b3⟩ := mem e he
  by_cases h : a < b
  · refine ⟨b - a, by omega, by omega, ?_⟩
    rw [← a3, ← lcs_add, show a + (b - a) = b by omega]
    exact b3
  · refine ⟨(M - a) + b, by omega, by omega, ?_⟩
    have e2 : lcs M (M - a) i = 0 := by rw [← a3, ← lcs_add, show a + (M - a) = M by omega, hM.2]
    rw [lcs_add, e2]
    exact b3
/-- a size that tables have here -/
def Size (mask : Nat) : Prop := mask = 7 ∨ mask = 31 ∨ mask = 127 ∨ mask = 511
theorem Size.full {mask : Nat} (h : Size mask) : full (mask + 1) = true := by
  rcases h with rfl | rfl | rfl | rfl
  · exact full_8
  · exact full_32
  · exact full_128
  · exact full_512
/-- each slot is met -/
theorem cover {mask : Nat} (hM : Size mask) {p : Probe} (hp : Wf mask p) {e : Nat} (he : e ≤ mask) : ∃ q, q < 10 * turns mask ∧ (go mask q p).j = e := by
  have h13 : (lps mask 13 p).perturb = 0 := by
    rw [lps_perturb]
    exact Nat.div_eq_of_lt (Nat.lt_of_lt_of_le hp.b (by decide))
  have hw : Wf mask (lps mask 13 p) := by
    obtain ⟨q, _, e⟩ := go_lps 13 hp
    rw [← e]
    exact Wf.go q hp
  obtain ⟨r, r1, r2, r3⟩ := full_reach hM.full (i := (lps mask 13 p).i) (e := e) (Nat.lt_succ_of_le hw.i) (Nat.lt_succ_of_le he)
  obtain ⟨q, hq, e2⟩ := go_lps (13 + r) hp
  refine ⟨q, by unfold turns; omega, ?_⟩
  rw [e2, lps_add, lps_lcs mask r _ h13 r1, r3]
/-! ### rising rows -/
theorem below_go (xs : Array Nat) (j : Nat) (hr : ∀ (a b x y : Nat), xs[a]? = some x → xs[b]? = some y → a < b → x < y) : ∀ (fuel lo hi : Nat), hi - lo ≤ fuel → lo ≤ hi → hi ≤ xs.size → (∀ i x, i < lo → xs[i]? = some x → x < j) → (∀ i x, hi ≤ i → xs[i]? = some x → j ≤ x) →
    below.go xs j fuel lo hi ≤ xs.size ∧ (∀ i x, i < below.go xs j fuel lo hi → xs[i]? = some x → x < j) ∧ ∀ i x, below.go xs j fuel lo hi ≤ i → xs[i]? = some x → j ≤ x
  | 0, lo, hi, h1, h2, h3, h4, h5 => by
    have : lo = hi := by omega
    subst this
    exact ⟨h3, h4, h5⟩
  | fuel + 1, lo, hi, h1, h2, h3, h4, h5 => by
    unfold below.go
    by_cases hlt : lo < hi
    · rw [if_pos hlt]
      dsimp only
      have hmid : (lo + hi) / 2 < hi := by omega
      have hmid2 : lo ≤ (lo + hi) / 2 := by omega
      have hx : xs[(lo + hi) / 2]? = some (xs.getD ((lo + hi) / 2) j) := by
        have : (lo + hi) / 2 < xs.size := by omega
        rw [Array.getElem?_eq_getElem this]
        simp [Array.getD, this]
      by_cases hc : xs.getD ((lo + hi) / 2) j < j
      · rw [if_pos hc]
        refine below_go xs j hr fuel _ hi (by omega) (by omega) h3 (fun i x hi' hxi => ?_) h5
        by_cases hi2 : i = (lo + hi) / 2
        · subst hi2
          rw [hx] at hxi
          rw [← Option.some.inj hxi]
          exact hc
        · exact Nat.lt_trans (hr i _ _ _ hxi hx (by omega)) hc
      · rw [if_neg hc]
        refine below_go xs j hr fuel lo _ (by omega) hmid2 (by omega) h4 (fun i x hi' hxi => ?_)
        by_cases hi2 : i = (lo + hi) / 2
        · subst hi2
          rw [hx] at hxi
          rw [← Option.some.inj hxi]
          omega
        · have := hr _ i _ _ hx hxi (by omega)
          omega
    · rw [if_neg hlt]
      have : lo = hi := by omega
      subst this
      exact ⟨h3, h4, h5⟩
theorem below_spec (xs : Array Nat) (j : Nat) (hr : ∀ (a b x y : Nat), xs[a]? = some x → xs[b]? = some y → a < b → x < y) : below xs j ≤ xs.size ∧ (∀ i x, i < below xs j → xs[i]? = some x → x < j) ∧ ∀ i x, below xs j ≤ i → xs[i]? = some x → j ≤ x := by
  refine below_go xs j hr xs.size 0 xs.size (by omega) (Nat.zero_le _) (Nat.le_refl _) (fun i x h => absurd h (Nat.not_lt_zero _)) (fun i x h e => ?_)
  have := (Array.getElem?_eq_some_iff.mp e).1
  omega
theorem below_at {xs : Array Nat} {i j : Nat} (hr : ∀ (a b x y : Nat), xs[a]? = some x → xs[b]? = some y → a < b → x < y) (h : xs[i]? = some j) : below xs j = i := by
  obtain ⟨h1, h2, h3⟩ := below_spec xs j hr
  have a : ¬ i < below xs j := fun z => Nat.lt_irrefl _ (h2 i j z h)
  have b : ¬ below xs j < i := fun z => by
    have hi := (Array.getElem?_eq_some_iff.mp h).1
    have e := Array.getElem?_eq_getElem (xs := xs) (i := below xs j) (by omega)
    have := h3 _ _ (Nat.le_refl _) e
    have := hr _ _ _ _ e h z
    omega
  omega
theorem insertAt_toList {α : Type} (xs : Array α) (p : Nat) (x : α) (h : p ≤ xs.size) : (insertAt xs p x).toList = xs.toList.take p ++ x :: xs.toList.drop p := by
  unfold insertAt
  rw [Array.toList_append, Array.toList_push, Array.toList_extract, Array.toList_extract]
  simp [List.take_of_length_le]
end Tb.ST

set_option Elab.async false
set_option linter.all false
set_option maxRecDepth 100000
/-! The tables of sets, part 2: what holds of a table; a slot taken; a table laid anew. -/
namespace Tb.ST
open PySem PySem.SetTable
/-- the hashes of the entries stand where their roads lead -/
structure Tab (t : SetTable) (hs : List Int) : Prop where
  m : Size t.mask
  nod : t.dummies = #[]
  ris : ∀ (a b x y : Nat), t.place[a]? = some x → t.place[b]? = some y → a < b → x < y
  le : ∀ (i j : Nat), t.place[i]? = some j → j ≤ t.mask
  len : t.place.size = hs.length
  room : t.place.size * 5 < t.mask * 3
  path : ∀ (i j : Nat) (h : Int), t.place[i]? = some j → hs[i]? = some h → ∃ q, pj t.mask h q = j ∧ ∀ r, r < q → ∃ i : Nat, t.place[i]? = some (pj t.mask h r)
theorem Tab.fits {t : SetTable} {hs : List Int} (T : Tab t hs) : t.place.size = hs.length ∧ t.fill ≤ t.mask ∧ t.gaveWay = false := by
  have h1 := T.room
  refine ⟨T.len, ?_, ?_⟩
  · unfold fill
    rw [T.nod]
    show t.place.size + 0 ≤ t.mask
    omega
  · unfold gaveWay
    rcases T.m with h | h | h | h <;> rw [h] <;> rfl
theorem Tab.live {t : SetTable} {hs : List Int} (T : Tab t hs) {i j : Nat} (h : t.place[i]? = some j) : t.slot j = .live i := by
  unfold slot
  rw [below_at T.ris h]
  dsimp only
  rw [h, if_pos (by simp)]
theorem Tab.empty {t : SetTable} {hs : List Int} (T : Tab t hs) {j : Nat} (h : ∀ i : Nat, t.place[i]? ≠ some j) : t.slot j = .empty := by
  unfold slot
  dsimp only
  rw [if_neg (by rw [beq_iff_eq]; exact h _), T.nod]
  rfl
theorem nd_sub : ∀ {l m : List Nat}, l.Nodup → (∀ x ∈ l, x ∈ m) → l.length ≤ m.length
  | [], _, _, _ => Nat.zero_le _
  | x :: l, m, hn, hs => by
    obtain ⟨h1, h2⟩ := List.nodup_cons.mp hn
    have hx := hs x List.mem_cons_self
    have := nd_sub (l := l) (m := m.erase x) h2 fun y hy => (List.mem_erase_of_ne (fun (z : y = x) => h1 (by rw [← z]; exact hy))).mpr (hs y (List.mem_cons_of_mem _ hy))
    rw [List.length_erase_of_mem hx] at this
    have hp := List.length_pos_of_mem hx
    rw [List.length_cons]
    omega
/-- some slot is free -/
theorem Tab.free {t : SetTable} {hs : List Int} (T : Tab t hs) : ∃ e, e ≤ t.mask ∧ ∀ i : Nat, t.place[i]? ≠ some e := by
  have h := T.room
  by_cases hx : ∃ e, e ≤ t.mask ∧ ∀ i : Nat, t.place[i]? ≠ some e
  · exact hx
  · have := nd_sub (l := List.range (t.mask + 1)) (m := t.place.toList) List.nodup_range fun x hx' => by
      by_cases hm : ∃ i : Nat, t.place[i]? = some x
      · obtain ⟨i, hi⟩ := hm
        rw [← Array.getElem?_toList] at hi
        exact List.mem_of_getElem? hi
      · exact absurd ⟨x, Nat.le_of_lt_succ (List.mem_range.mp hx'), fun i hi => hm ⟨i, hi⟩⟩ hx
    rw [List.length_range, Array.length_toList] at this
    omega
/-- the first free slot of a road from its step q on -/
theorem Tab.first {t : SetTable} {hs : List Int} (T : Tab t hs) (h : Int) : ∃ Q, Q < 10 * turns t.mask ∧ (∀ i : Nat, t.place[i]? ≠ some (pj t.mask h Q)) ∧ ∀ r, r < Q → ∃ i : Nat, t.place[i]? = some (pj t.mask h r) := by
  obtain ⟨e, he, hno⟩ := T.free
  obtain ⟨q, hq, hj⟩ := cover T.m (Wf.start t.mask h) he
  have : ∀ n, n ≤ q → (∃ Q, Q < n ∧ (∀ i : Nat, t.place[i]? ≠ some (pj t.mask h Q)) ∧ ∀ r, r < Q → ∃ i : Nat, t.place[i]? = some (pj t.mask h r)) ∨ ∀ r, r < n → ∃ i : Nat, t.place[i]? = some (pj t.mask h r) := by
    intro n
    induction n with
    | zero => exact fun _ => .inr fun r hr => absurd hr (Nat.not_lt_zero _)
    | succ n ih =>
      intro hn
      rcases ih (by omega) with ⟨Q, a, b, c⟩ | all
      · exact .inl ⟨Q, by omega, b, c⟩
      · by_cases hm : ∃ i : Nat, t.place[i]? = some (pj t.mask h n)
        · refine .inr fun r hr => ?_
          by_cases e : r = n
          · rw [e]; exact hm
          · exact all r (by omega)
        · exact .inl ⟨n, by omega, fun i hi => hm ⟨i, hi⟩, all⟩
  rcases this q (Nat.le_refl _) with ⟨Q, a, b, c⟩ | all
  · exact ⟨Q, by omega, b, c⟩
  · exact ⟨q, hq, by rw [show pj t.mask h q = e from hj]; exact hno, all⟩
/-! ### the search -/
theorem probe_stop {t : SetTable} {hashAt : Nat → Int} {h : Int} {m : Met} : ∀ (r fuel : Nat) (p : Probe), r < fuel → (∀ r', r' < r → ∃ i, t.slot (go t.mask r' p).j = .live i ∧ (hashAt i == h) = false) →
    (t.slot (go t.mask r p).j = .empty ∧ m = .empty (go t.mask r p).j (go t.mask r p).dummy ∨ ∃ i, t.slot (go t.mask r p).j = .live i ∧ (hashAt i == h) = true ∧ m = .candidate (go t.mask r p).j i (go t.mask (r + 1) p)) → probe.go t hashAt h fuel p = some m
  | 0, fuel + 1, p, _, _, hm => by
    unfold probe.go
    rcases hm with ⟨e, rfl⟩ | ⟨i, e, e2, rfl⟩
    · rw [show t.slot p.j = .empty from e]; rfl
    · rw [show t.slot p.j = .live i from e]
      dsimp only
      rw [if_pos e2]
      rfl
  | r + 1, fuel + 1, p, hf, hb, hm => by
    unfold probe.go
    obtain ⟨i, e, e2⟩ := hb 0 (Nat.succ_pos _)
    rw [show t.slot p.j = .live i from e]
    dsimp only
    rw [if_neg (by rw [e2]; exact Bool.false_ne_true)]
    refine probe_stop r fuel (t.advance p) (by omega) (fun r' hr' => hb (r' + 1) (by omega)) hm
/-- what the hashes of a table's entries are -/
def HashAt (hs : List Int) (f : Nat → Int) : Prop := ∀ (i : Nat) (x : Int), hs[i]? = some x → f i = x
/-- the next stop of a search at the step q of a road: a candidate, or the first free slot -/
theorem Tab.next {t : SetTable} {hs : List Int} (T : Tab t hs) {h : Int} {q Q : Nat} (hq : q ≤ Q) (hQ : Q - q < 10 * turns t.mask) (hlive : ∀ r, r < Q → ∃ i : Nat, t.place[i]? = some (pj t.mask h r))
    (hstop : (∀ i : Nat, t.place[i]? ≠ some (pj t.mask h Q)) ∨ ∃ i : Nat, t.place[i]? = some (pj t.mask h Q) ∧ hs[i]? = some h) :
    ((∀ i : Nat, t.place[i]? ≠ some (pj t.mask h Q)) ∧ ∀ f, HashAt hs f → t.probe f h (go t.mask q (start t.mask h)) = some (.empty (pj t.mask h Q) none)) ∨
    ∃ (r i : Nat), q ≤ r ∧ r ≤ Q ∧ t.place[i]? = some (pj t.mask h r) ∧ hs[i]? = some h ∧ ∀ f, HashAt hs f → t.probe f h (go t.mask q (start t.mask h)) = some (.candidate (pj t.mask h r) i (go t.mask (r + 1) (start t.mask h))) := by
  have hsh : ∀ {i j : Nat}, t.place[i]? = some j → ∃ x, hs[i]? = some x := fun {i j} hi => by
    have := (Array.getElem?_eq_some_iff.mp hi).1
    rw [T.len] at this
    exact ⟨_, List.getElem?_eq_getElem this⟩
  have key : ∀ n, ∀ q, Q - q = n → q ≤ Q → (∃ r i : Nat, q ≤ r ∧ r ≤ Q ∧ t.place[i]? = some (pj t.mask h r) ∧ hs[i]? = some h ∧ ∀ r', q ≤ r' → r' < r → ∃ (i : Nat) (x : Int), t.slot (pj t.mask h r') = .live i ∧ hs[i]? = some x ∧ x ≠ h) ∨ ((∀ i : Nat, t.place[i]? ≠ some (pj t.mask h Q)) ∧ ∀ r', q ≤ r' → r' < Q → ∃ (i : Nat) (x : Int), t.slot (pj t.mask h r') = .live i ∧ hs[i]? = some x ∧ x ≠ h) := by
    intro n
    induction n with
    | zero =>
      intro q e hle
      have : q = Q := by omega
      subst this
      rcases hstop with z | ⟨i, h1, h2⟩
      · exact .inr ⟨z, fun r' a b => absurd b (by omega)⟩
      · exact .inl ⟨q, i, Nat.le_refl _, Nat.le_refl _, h1, h2, fun r' a b => absurd b (by omega)⟩
    | succ n ih =>
      intro q e hle
      obtain ⟨i, hi⟩ := hlive q (by omega)
      obtain ⟨x, hx⟩ := hsh hi
      by_cases hxh : x = h
      · exact .inl ⟨q, i, Nat.le_refl _, hle, hi, by rw [hx, hxh], fun r' a b => absurd b (by omega)⟩
      · rcases ih (q + 1) (by omega) (by omega) with ⟨r, i', a, b, c, d, f⟩ | ⟨a, f⟩
        · refine .inl ⟨r, i', by omega, b, c, d, fun r' u v => ?_⟩
          by_cases z : r' = q
          · rw [z]; exact ⟨i, x, T.live hi, hx, hxh⟩
          · exact f r' (by omega) v
        · refine .inr ⟨a, fun r' u v => ?_⟩
          by_cases z : r' = q
          · rw [z]; exact ⟨i, x, T.live hi, hx, hxh⟩
          · exact f r' (by omega) v
  have hgo : ∀ r', go t.mask r' (go t.mask q (start t.mask h)) = go t.mask (q + r') (start t.mask h) := fun r' => (go_add _ _ _ _).symm
  have no : ∀ {f : Nat → Int} (hf : HashAt hs f) {i : Nat} {x : Int}, hs[i]? = some x → x ≠ h → (f i == h) = false := fun {f} hf {i x} hx hxh => by rw [hf i x hx]; simpa using hxh
  rcases key _ q rfl hq with ⟨r, i, a, b, c, d, g⟩ | ⟨a, g⟩
  · refine .inr ⟨r, i, a, b, c, d, fun f hf => ?_⟩
    unfold probe
    refine probe_stop (r - q) _ _ (by omega) (fun r' hr' => ?_) (.inr ⟨i, ?_, ?_, ?_⟩)
    · rw [hgo]
      obtain ⟨i', x, u, v, z⟩ := g (q + r') (by omega) (by omega)
      exact ⟨i', u, no hf v z⟩
    · rw [hgo, show q + (r - q) = r by omega]
      exact T.live c
    · rw [hf i h d]; simp
    · rw [hgo, hgo, show q + (r - q) = r by omega, show q + (r - q + 1) = r + 1 by omega]
      rfl
  · refine .inl ⟨a, fun f hf => ?_⟩
    unfold probe
    refine probe_stop (Q - q) _ _ hQ (fun r' hr' => ?_) (.inl ⟨?_, ?_⟩)
    · rw [hgo]
      obtain ⟨i', x, u, v, z⟩ := g (q + r') (by omega) (by omega)
      exact ⟨i', u, no hf v z⟩
    · rw [hgo, show q + (Q - q) = Q by omega]
      exact T.empty a
    · rw [hgo, show q + (Q - q) = Q by omega, (Wf.go Q (Wf.start t.mask h)).d]
      rfl
/-- an entry stands near on its road -/
theorem Tab.near {t : SetTable} {hs : List Int} (T : Tab t hs) {i j : Nat} {h : Int} (hi : t.place[i]? = some j) (hh : hs[i]? = some h) : ∃ q, q < 10 * turns t.mask ∧ pj t.mask h q = j ∧ ∀ r, r < q → ∃ i : Nat, t.place[i]? = some (pj t.mask h r) := by
  obtain ⟨q0, e0, all⟩ := T.path i j h hi hh
  obtain ⟨q1, h1, e1⟩ := cover T.m (Wf.start t.mask h) (T.le i j hi)
  by_cases hle : q1 ≤ q0
  · exact ⟨q1, h1, e1, fun r hr => all r (by omega)⟩
  · exact ⟨q0, by omega, e0, all⟩
theorem Size.turns {mask : Nat} (h : Size mask) : 10 * SetTable.turns mask < 90000 := by
  unfold SetTable.turns
  rcases h with rfl | rfl | rfl | rfl <;> decide
/-! ### a slot is taken -/
theorem ins_get {α : Type} {l : List α} {p i : Nat} {x : α} (hp : p ≤ l.length) : (l.take p ++ x :: l.drop p)[i]? = if i < p then l[i]? else if i = p then some x else l[i - 1]? := by
  have ht : (l.take p).length = p := by rw [List.length_take]; omega
  by_cases h1 : i < p
  · rw [if_pos h1, List.getElem?_append_left (by omega), List.getElem?_take_of_lt h1]
  · rw [if_neg h1, List.getElem?_append_right (by omega), ht]
    by_cases h2 : i = p
    · rw [if_pos h2, h2, Nat.sub_self]; rfl
    · rw [if_neg h2, show i - p = (i - p - 1) + 1 by omega, List.getElem?_cons_succ, List.getElem?_drop, show p + (i - p - 1) = i - 1 by omega]
/-- what putting a slot does, room aside -/
structure Put (t t' : SetTable) (hs hs' : List Int) (p : Nat) (h : Int) : Prop where
  mask : t'.mask = t.mask
  size : t'.place.size = t.place.size + 1
  le : p ≤ hs.length
  eq : hs' = hs.take p ++ h :: hs.drop p
  tab : t'.place.size * 5 < t'.mask * 3 → Tab t' hs'
  nod' : t'.dummies = #[]
theorem Tab.put {t : SetTable} {hs : List Int} (T : Tab t hs) {h : Int} {Q : Nat} (hno : ∀ i : Nat, t.place[i]? ≠ some (pj t.mask h Q)) (hlive : ∀ r, r < Q → ∃ i : Nat, t.place[i]? = some (pj t.mask h r)) (b : Bool) :
    Put t (if b = true then (t.put (pj t.mask h Q)).1 else { (t.put (pj t.mask h Q)).1 with plain := false }) hs (hs.take (t.put (pj t.mask h Q)).2 ++ h :: hs.drop (t.put (pj t.mask h Q)).2) (t.put (pj t.mask h Q)).2 h := by
  obtain ⟨b1, b2, b3⟩ := below_spec t.place (pj t.mask h Q) T.ris
  have e2 : (t.put (pj t.mask h Q)).2 = below t.place (pj t.mask h Q) := rfl
  have el : (t.put (pj t.mask h Q)).1.place.toList = t.place.toList.take (below t.place (pj t.mask h Q)) ++ pj t.mask h Q :: t.place.toList.drop (below t.place (pj t.mask h Q)) := insertAt_toList _ _ _ b1
  have em : (t.put (pj t.mask h Q)).1.mask = t.mask := rfl
  have ed : (t.put (pj t.mask h Q)).1.dummies = #[] := by
    show (if has t.dummies _ = true then _ else t.dummies) = #[]
    rw [T.nod]
    rfl
  rw [e2]
  generalize (t.put (pj t.mask h Q)).1 = t1 at el em ed
  generalize hp : below t.place (pj t.mask h Q) = p at *
  have el' : ∀ i : Nat, t1.place[i]? = if i < p then t.place[i]? else if i = p then some (pj t.mask h Q) else t.place[i - 1]? := fun i => by
    rw [← Array.getElem?_toList, el, ins_get (by rw [Array.length_toList]; exact b1), Array.getElem?_toList, Array.getElem?_toList]
  have hsz : t1.place.size = t.place.size + 1 := by
    rw [← Array.length_toList, el, List.length_append, List.length_cons, List.length_take, List.length_drop, Array.length_toList]
    omega
  have sub : ∀ {i x : Nat}, t.place[i]? = some x → ∃ i' : Nat, t1.place[i']? = some x := fun {i x} hi => by
    by_cases hip : i < p
    · exact ⟨i, by rw [el', if_pos hip]; exact hi⟩
    · exact ⟨i + 1, by rw [el', if_neg (by omega), if_neg (by omega)]; exact hi⟩
  have main : ∀ t2 : SetTable, t2.mask = t1.mask → t2.place = t1.place → t2.dummies = t1.dummies → Put t t2 hs (hs.take p ++ h :: hs.drop p) p h := by
    intro t2 m2 p2 d2
    refine ⟨by rw [m2, em], by rw [p2, hsz], by rw [← T.len]; exact b1, rfl, fun hroom => ?_, by rw [d2, ed]⟩
    refine ⟨by rw [m2, em]; exact T.m, by rw [d2, ed], fun a c x y ha hc hac => ?_, fun i j hi => ?_, ?_, hroom, fun i j x hi hx => ?_⟩
    · rw [p2, el'] at ha hc
      by_cases a1 : a < p
      · rw [if_pos a1] at ha
        by_cases c1 : c < p
        · rw [if_pos c1] at hc
          exact T.ris a c x y ha hc hac
        · rw [if_neg c1] at hc
          have hx := b2 a x a1 ha
          by_cases c2 : c = p
          · rw [if_pos c2] at hc
            rw [← Option.some.inj hc]
            exact hx
          · rw [if_neg c2] at hc
            have := b3 (c - 1) y (by omega) hc
            omega
      · rw [if_neg a1] at ha
        rw [if_neg (by omega), if_neg (by omega)] at hc
        have hy := b3 (c - 1) y (by omega) hc
        by_cases a2 : a = p
        · rw [if_pos a2] at ha
          have : pj t.mask h Q ≠ y := fun z => hno (c - 1) (by rw [z]; exact hc)
          have e := Option.some.inj ha
          omega
        · rw [if_neg a2] at ha
          exact T.ris (a - 1) (c - 1) x y ha hc (by omega)
    · rw [p2, el'] at hi
      rw [m2, em]
      by_cases i1 : i < p
      · rw [if_pos i1] at hi; exact T.le i j hi
      · rw [if_neg i1] at hi
        by_cases i2 : i = p
        · rw [if_pos i2] at hi
          rw [← Option.some.inj hi]
          exact pj_le _ _ _
        · rw [if_neg i2] at hi; exact T.le (i - 1) j hi
    · rw [p2, hsz, List.length_append, List.length_cons, List.length_take, List.length_drop, T.len]
      have := T.len
      omega
    · have hple : p ≤ hs.length := by rw [← T.len]; exact b1
      rw [ins_get hple] at hx
      rw [p2, el'] at hi
      rw [m2, em, p2]
      have old : ∀ {i' : Nat}, t.place[i']? = some j → hs[i']? = some x → ∃ q, pj t.mask x q = j ∧ ∀ r, r < q → ∃ i : Nat, t1.place[i]? = some (pj t.mask x r) := fun {i'} u v => by
        obtain ⟨q, hq, hall⟩ := T.path i' j x u v
        exact ⟨q, hq, fun r hr => (hall r hr).elim fun i hi => sub hi⟩
      by_cases i1 : i < p
      · rw [if_pos i1] at hi hx; exact old hi hx
      · rw [if_neg i1] at hi hx
        by_cases i2 : i = p
        · rw [if_pos i2] at hi hx
          rw [← Option.some.inj hx, ← Option.some.inj hi]
          exact ⟨Q, rfl, fun r hr => (hlive r hr).elim fun i hi => sub hi⟩
        · rw [if_neg i2] at hi hx; exact old hi hx
  cases b with
  | true => exact main t1 rfl rfl rfl
  | false => exact main _ rfl rfl rfl
end Tb.ST

set_option Elab.async false
set_option linter.all false
set_option maxRecDepth 100000
/-! The tables of sets, part 3: a table laid anew. -/
namespace Tb.ST
open PySem PySem.SetTable
theorem lps_ji (mask : Nat) : ∀ (k : Nat) (p : Probe), 1 ≤ k → (lps mask k p).j = (lps mask k p).i
  | 1, _, _ => rfl
  | k + 2, p, _ => lps_ji mask (k + 1) (lp mask p) (by omega)
theorem Wf.lps {mask : Nat} : ∀ (k : Nat) {p : Probe}, Wf mask p → Wf mask (lps mask k p)
  | 0, _, h => h
  | k + 1, _, h => Wf.lps k h.lp
/-- a run begins here -/
structure Rs (mask : Nat) (p : Probe) : Prop where
  w : Wf mask p
  j : p.j = p.i
  m : p.more = runEnd mask p.i - p.i
theorem Rs.start (mask : Nat) (h : Int) : Rs mask (start mask h) := ⟨Wf.start mask h, rfl, rfl⟩
theorem Rs.lp {mask : Nat} {p : Probe} (h : Rs mask p) : Rs mask (lp mask p) := ⟨h.w.lp, rfl, rfl⟩
theorem cover_lp {mask : Nat} (hM : Size mask) {p : Probe} (hp : Wf mask p) {e : Nat} (he : e ≤ mask) : ∃ k, k < turns mask ∧ (lps mask k p).i = e := by
  have h13 : (lps mask 13 p).perturb = 0 := by
    rw [lps_perturb]
    exact Nat.div_eq_of_lt (Nat.lt_of_lt_of_le hp.b (by decide))
  obtain ⟨r, r1, r2, r3⟩ := full_reach hM.full (i := (lps mask 13 p).i) (e := e) (Nat.lt_succ_of_le (Wf.lps 13 hp).i) (Nat.lt_succ_of_le he)
  refine ⟨13 + r, by unfold turns; omega, ?_⟩
  rw [← lps_ji mask _ _ (by omega), lps_add, lps_lcs mask r _ h13 r1, r3]
theorem go_run {mask : Nat} : ∀ (d : Nat) (p : Probe), d ≤ p.more → (go mask d p).j = p.j + d
  | 0, _, _ => rfl
  | d + 1, p, h => by
    have e : adv mask p = { p with j := p.j + 1, more := p.more - 1 } := by unfold adv; rw [if_pos (by omega)]
    show (go mask d (adv mask p)).j = _
    rw [go_run d (adv mask p) (by rw [e]; show d ≤ p.more - 1; omega), e]
    show p.j + 1 + d = _
    omega
def Fr (owner : Array (Option Nat)) (j : Nat) : Prop := (owner.getD j (some 0)).isNone = true
theorem free_go {mask : Nat} {owner : Array (Option Nat)} : ∀ (k fuel : Nat) (p : Probe), Rs mask p → k < fuel → Fr owner (lps mask k p).i → ∃ Q, layClean.free mask owner fuel p.i p.perturb = some (go mask Q p).j ∧ Fr owner (go mask Q p).j ∧ ∀ r, r < Q → ¬ Fr owner (go mask r p).j
  | k, fuel + 1, p, hp, hk, hf => by
    have hrun := run_le mask p.i hp.w.i
    unfold layClean.free
    cases e : (List.range (runEnd mask p.i + 1 - p.i)).find? fun d => (owner.getD (p.i + d) (some 0)).isNone with
    | some d =>
      obtain ⟨hd, as, bs, hab, hno⟩ := List.find?_eq_some_iff_append.mp e
      have hdm : d ∈ List.range (runEnd mask p.i + 1 - p.i) := by rw [hab]; simp
      have hdl := List.mem_range.mp hdm
      have hdr : d ≤ p.more := by rw [hp.m]; omega
      refine ⟨d, ?_, ?_, fun r hr => ?_⟩
      · rw [go_run d p hdr, hp.j]
      · rw [go_run d p hdr, hp.j]; exact hd
      · rw [go_run r p (by omega), hp.j]
        have hra : r ∈ as := by
          have h1 : (List.range (runEnd mask p.i + 1 - p.i))[r]? = some r := List.getElem?_range (by omega)
          have h2 : (List.range (runEnd mask p.i + 1 - p.i))[as.length]? = some d := by rw [hab]; simp
          have h3 : as.length = d := by
            obtain ⟨_, h4⟩ := List.getElem?_eq_some_iff.mp h2
            rw [List.getElem_range] at h4
            exact h4
          rw [hab, List.getElem?_append_left (by omega)] at h1
          exact List.mem_of_getElem? h1
        have := hno r hra
        intro z
        unfold Fr at z
        rw [z] at this
        cases this
    | none =>
      have hall := List.find?_eq_none.mp e
      have occ : ∀ r, r ≤ p.more → ¬ Fr owner (go mask r p).j := fun r hr => by
        rw [go_run r p hr, hp.j]
        exact hall r (List.mem_range.mpr (by rw [hp.m] at hr; omega))
      match k, hf with
      | 0, hf =>
        exfalso
        refine occ 0 (Nat.zero_le _) ?_
        show Fr owner p.j
        rw [hp.j]
        exact hf
      | k + 1, hf =>
        obtain ⟨Q, h1, h2, h3⟩ := free_go k fuel (lp mask p) hp.lp (by omega) hf
        have hgo : ∀ r, go mask (p.more + 1 + r) p = go mask r (lp mask p) := fun r => by rw [go_add, go_lp p.more p rfl]
        refine ⟨p.more + 1 + Q, ?_, ?_, fun r hr => ?_⟩
        · rw [hgo]
          exact h1
        · rw [hgo]; exact h2
        · by_cases hr2 : r ≤ p.more
          · exact occ r hr2
          · have := h3 (r - (p.more + 1)) (by omega)
            rw [← hgo, show p.more + 1 + (r - (p.more + 1)) = r by omega] at this
            exact this
/-- the owners of the slots, for the hashes so far -/
structure Own (mask : Nat) (owner : Array (Option Nat)) (hs : List Int) : Prop where
  size : owner.size = mask + 1
  has : ∀ (i : Nat) (h : Int), hs[i]? = some h → ∃ q, owner[pj mask h q]? = some (some i) ∧ ∀ r, r < q → ∃ i' : Nat, owner[pj mask h r]? = some (some i')
  lt : ∀ (j i : Nat), owner[j]? = some (some i) → i < hs.length
  one : ∀ (j j' i : Nat), owner[j]? = some (some i) → owner[j']? = some (some i) → j = j'
theorem Own.nil (mask : Nat) : Own mask (Array.replicate (mask + 1) none) [] := by
  have no : ∀ (j i : Nat), (Array.replicate (mask + 1) (none : Option Nat))[j]? ≠ some (some i) := fun j i h => by
    rw [Array.getElem?_replicate] at h
    split at h
    · cases Option.some.inj h
    · cases h
  exact ⟨Array.size_replicate, fun i h e => (by cases e), fun j i h => absurd h (no j i), fun j j' i h => absurd h (no j i)⟩
theorem fr_iff {owner : Array (Option Nat)} {j : Nat} : Fr owner j ↔ owner[j]? = some none := by
  unfold Fr
  by_cases h : j < owner.size
  · rw [Array.getElem?_eq_getElem h]
    simp [Array.getD, h]
  · rw [Array.getElem?_eq_none (by omega)]
    simp [Array.getD, h]
theorem nfr {mask : Nat} {owner : Array (Option Nat)} (hs : owner.size = mask + 1) {j : Nat} (hj : j ≤ mask) (h : ¬ Fr owner j) : ∃ i : Nat, owner[j]? = some (some i) := by
  rw [fr_iff] at h
  rw [Array.getElem?_eq_getElem (by omega)] at h ⊢
  cases e : owner[j] with
  | none => rw [e] at h; exact absurd rfl h
  | some i => exact ⟨i, rfl⟩
theorem Own.free {mask : Nat} {owner : Array (Option Nat)} {hs : List Int} (O : Own mask owner hs) (hl : hs.length ≤ mask) : ∃ e, e ≤ mask ∧ Fr owner e := by
  by_cases hx : ∃ e, e ≤ mask ∧ Fr owner e
  · exact hx
  · exfalso
    have all : ∀ e, e ≤ mask → ∃ i : Nat, owner[e]? = some (some i) := fun e he => nfr O.size he fun z => hx ⟨e, he, z⟩
    have hget : ∀ e, e ≤ mask → owner[e]? = some (some ((owner.getD e none).getD 0)) := fun e he => by
      obtain ⟨i, hi⟩ := all e he
      have hlt : e < owner.size := by rw [O.size]; omega
      rw [hi]
      have : owner.getD e none = some i := by
        rw [Array.getElem?_eq_getElem hlt] at hi
        simp [Array.getD, hlt, Option.some.inj hi]
      rw [this]
      rfl
    have hnd : ((List.range (mask + 1)).map fun e => (owner.getD e none).getD 0).Nodup := by
      refine List.pairwise_map.mpr ?_
      refine List.Pairwise.imp_of_mem ?_ (List.nodup_range (n := mask + 1))
      intro a b ha hb hne z
      have ha' := hget a (Nat.le_of_lt_succ (List.mem_range.mp ha))
      have hb' := hget b (Nat.le_of_lt_succ (List.mem_range.mp hb))
      rw [z] at ha'
      exact hne (O.one a b _ ha' hb')
    have := nd_sub (m := List.range hs.length) hnd fun x hx' => by
      obtain ⟨e, he, rfl⟩ := List.mem_map.mp hx'
      exact List.mem_range.mpr (O.lt e _ (hget e (Nat.le_of_lt_succ (List.mem_range.mp he))))
    rw [List.length_map, List.length_range, List.length_range] at this
    omega
theorem Own.step {mask : Nat} {owner : Array (Option Nat)} {hs : List Int} (hM : Size mask) (O : Own mask owner hs) (hl : hs.length ≤ mask) (h : Int) :
    ∃ j, layClean.free mask owner (turns mask) (bits h % (mask + 1)) (bits h) = some j ∧ Own mask (owner.setIfInBounds j (some hs.length)) (hs ++ [h]) := by
  obtain ⟨e, he, hf⟩ := O.free hl
  obtain ⟨k, hk, e2⟩ := cover_lp hM (Wf.start mask h) he
  obtain ⟨Q, h1, h2, h3⟩ := free_go (owner := owner) k (turns mask) (start mask h) (Rs.start mask h) hk (by rw [e2]; exact hf)
  refine ⟨_, h1, ?_⟩
  have hj : pj mask h Q ≤ mask := pj_le _ _ _
  have hjs : pj mask h Q < owner.size := by rw [O.size]; omega
  have hfree : owner[pj mask h Q]? = some none := fr_iff.mp h2
  show Own mask (owner.setIfInBounds (pj mask h Q) (some hs.length)) (hs ++ [h])
  have get : ∀ j' : Nat, (owner.setIfInBounds (pj mask h Q) (some hs.length))[j']? = if j' = pj mask h Q then some (some hs.length) else owner[j']? := fun j' => by
    rw [Array.getElem?_setIfInBounds]
    by_cases z : pj mask h Q = j'
    · rw [if_pos z, if_pos z.symm, if_pos hjs]
    · rw [if_neg z, if_neg (Ne.symm z)]
  have keep : ∀ {j' i : Nat}, owner[j']? = some (some i) → (owner.setIfInBounds (pj mask h Q) (some hs.length))[j']? = some (some i) := fun {j' i} q => by
    rw [get, if_neg]
    · exact q
    · intro z
      rw [z, hfree] at q
      cases Option.some.inj q
  refine ⟨by rw [Array.size_setIfInBounds]; exact O.size, fun i x hx => ?_, fun j' i hi => ?_, fun j1 j2 i u v => ?_⟩
  · by_cases hi : i < hs.length
    · rw [List.getElem?_append_left hi] at hx
      obtain ⟨q, hq, hall⟩ := O.has i x hx
      exact ⟨q, keep hq, fun r hr => (hall r hr).elim fun i' hi' => ⟨i', keep hi'⟩⟩
    · have hi2 : i = hs.length := by
        have := (List.getElem?_eq_some_iff.mp hx).1
        rw [List.length_append, List.length_cons, List.length_nil] at this
        omega
      subst hi2
      rw [List.getElem?_append_right (Nat.le_refl _), Nat.sub_self] at hx
      have ex : h = x := Option.some.inj hx
      subst ex
      refine ⟨Q, by rw [get, if_pos rfl], fun r hr => ?_⟩
      obtain ⟨i', hi'⟩ := nfr O.size (pj_le mask h r) (h3 r hr)
      exact ⟨i', keep hi'⟩
  · rw [get] at hi
    rw [List.length_append, List.length_cons, List.length_nil]
    by_cases z : j' = pj mask h Q
    · rw [if_pos z] at hi
      have := Option.some.inj (Option.some.inj hi)
      omega
    · rw [if_neg z] at hi
      have := O.lt j' i hi
      omega
  · rw [get] at u v
    by_cases z1 : j1 = pj mask h Q
    · by_cases z2 : j2 = pj mask h Q
      · rw [z1, z2]
      · rw [if_pos z1] at u
        rw [if_neg z2] at v
        have := O.lt j2 i v
        have := Option.some.inj (Option.some.inj u)
        omega
    · rw [if_neg z1] at u
      by_cases z2 : j2 = pj mask h Q
      · rw [if_pos z2] at v
        have := O.lt j1 i u
        have := Option.some.inj (Option.some.inj v)
        omega
      · rw [if_neg z2] at v
        exact O.one j1 j2 i u v
theorem lay_fold {mask : Nat} (hM : Size mask) : ∀ (rest : List Int) (hs : List Int) (owner : Array (Option Nat)), Own mask owner hs → hs.length + rest.length ≤ mask →
    ∃ owner', rest.foldl (fun acc h => do
      let (owner, k) ← acc
      let j ← layClean.free mask owner (turns mask) (bits h % (mask + 1)) (bits h)
      pure (owner.setIfInBounds j (some k), k + 1)) (some (owner, hs.length)) = some (owner', (hs ++ rest).length) ∧ Own mask owner' (hs ++ rest)
  | [], hs, owner, O, _ => ⟨owner, by rw [List.append_nil]; rfl, by rw [List.append_nil]; exact O⟩
  | h :: rest, hs, owner, O, hl => by
    rw [List.length_cons] at hl
    obtain ⟨j, e, O'⟩ := O.step hM (by omega) h
    obtain ⟨owner', e2, O2⟩ := lay_fold hM rest (hs ++ [h]) _ O' (by rw [List.length_append, List.length_cons, List.length_nil]; omega)
    have ea : hs ++ [h] ++ rest = hs ++ h :: rest := by simp
    rw [ea] at e2 O2
    refine ⟨owner', ?_, O2⟩
    rw [List.foldl_cons, ← e2]
    congr 1
    show (do
      let j ← layClean.free mask owner (turns mask) (bits h % (mask + 1)) (bits h)
      pure (owner.setIfInBounds j (some hs.length), hs.length + 1)) = _
    rw [e, List.length_append]
    rfl
theorem lay_ok {mask : Nat} (hM : Size mask) (hs : Array Int) (hl : hs.size ≤ mask) : ∃ owner, layClean mask hs = some owner ∧ Own mask owner hs.toList := by
  obtain ⟨owner, e, O⟩ := lay_fold hM hs.toList [] _ (Own.nil mask) (by rw [List.length_nil, Array.length_toList]; omega)
  refine ⟨owner, ?_, O⟩
  unfold layClean
  rw [← Array.foldl_toList]
  have e' := congrArg (Option.map Prod.fst) e
  exact e'
/-- what a table laid anew has -/
structure Laid (hs : List Int) (t' : SetTable) (order : List Nat) : Prop where
  perm : order.Perm (List.range hs.length)
  tab : hs.length * 5 < t'.mask * 3 → Tab t' (order.map fun i => hs.getD i 0)
theorem laid_ok {mask finger moves : Nat} {led plain : Bool} (hM : Size mask) (hs : Array Int) (hl : hs.size ≤ mask) : ∃ (t' : SetTable) (order : Array Nat), laid mask finger moves led plain hs = some (t', order) ∧ t'.mask = mask ∧ t'.moves = moves ∧ t'.led = led ∧ Laid hs.toList t' order.toList := by
  obtain ⟨owner, e, O⟩ := lay_ok hM hs hl
  have hgd : ∀ (j i : Nat), owner.getD j none = some i ↔ owner[j]? = some (some i) := fun j i => by
    by_cases h : j < owner.size
    · rw [Array.getElem?_eq_getElem h]
      simp [Array.getD, h]
    · rw [Array.getElem?_eq_none (by omega)]
      simp [Array.getD, h]
  obtain ⟨live, hlive⟩ : ∃ live, live = (List.range (mask + 1)).filterMap fun j => (owner.getD j none).map (j, ·) := ⟨_, rfl⟩
  have mem : ∀ (j i : Nat), (j, i) ∈ live ↔ owner[j]? = some (some i) := fun j i => by
    rw [hlive, List.mem_filterMap, ← hgd]
    constructor
    · rintro ⟨a, _, ha⟩
      cases hq : owner.getD a none with
      | none => rw [hq] at ha; cases ha
      | some b =>
        rw [hq] at ha
        have := Option.some.inj ha
        cases this
        exact hq
    · intro hq
      refine ⟨j, List.mem_range.mpr ?_, by rw [hq]; rfl⟩
      have := (Array.getElem?_eq_some_iff.mp ((hgd j i).mp hq)).1
      rw [O.size] at this
      exact this
  have hpw : live.Pairwise fun a b => a.1 < b.1 := by
    rw [hlive]
    refine List.Pairwise.filterMap _ (R := fun a b => a < b) ?_ (List.pairwise_lt_range)
    intro a b hab x hx y hy
    cases qa : owner.getD a none with
    | none => rw [qa] at hx; cases hx
    | some u =>
      cases qb : owner.getD b none with
      | none => rw [qb] at hy; cases hy
      | some v =>
        rw [qa] at hx
        rw [qb] at hy
        have e1 := Option.some.inj (show some (a, u) = some x from hx)
        have e2 := Option.some.inj (show some (b, v) = some y from hy)
        rw [← e1, ← e2]
        exact hab
  have hnd : (live.map (·.2)).Nodup := by
    refine List.pairwise_map.mpr (List.Pairwise.imp_of_mem ?_ hpw)
    intro a b ha hb hlt z
    have h1 := (mem a.1 a.2).mp ha
    have h2 := (mem b.1 b.2).mp hb
    rw [z] at h1
    have := O.one _ _ _ h1 h2
    omega
  have hmem2 : ∀ i, i ∈ live.map (·.2) ↔ i < hs.toList.length := fun i => by
    constructor
    · intro h
      obtain ⟨⟨j, i'⟩, h1, rfl⟩ := List.mem_map.mp h
      exact O.lt j i' ((mem j i').mp h1)
    · intro h
      obtain ⟨q, hq, _⟩ := O.has i _ (List.getElem?_eq_getElem h)
      exact List.mem_map.mpr ⟨(_, i), (mem _ _).mpr hq, rfl⟩
  have hperm : (live.map (·.2)).Perm (List.range hs.toList.length) := by
    refine (List.perm_ext_iff_of_nodup hnd List.nodup_range).mpr fun i => ?_
    rw [hmem2, List.mem_range]
  refine ⟨{ mask, place := (live.map (·.1)).toArray, dummies := #[], finger, led, moves, plain }, (live.map (·.2)).toArray, ?_, rfl, rfl, rfl, ⟨hperm, fun hroom => ?_⟩⟩
  · unfold laid
    rw [e, hlive]
    rfl
  · have hpl : ∀ a : Nat, ((live.map (·.1)).toArray)[a]? = (live[a]?).map (·.1) := fun a => by
      rw [List.getElem?_toArray, List.getElem?_map]
    have hsz : ((live.map (·.1)).toArray).size = hs.toList.length := by
      rw [List.size_toArray, List.length_map]
      have := hperm.length_eq
      rw [List.length_map, List.length_range] at this
      exact this
    refine ⟨hM, rfl, fun a b x y ha hb hab => ?_, fun i j hi => ?_, ?_, ?_, fun i j x hi hx => ?_⟩
    · rw [hpl] at ha hb
      cases qa : live[a]? with
      | none => rw [qa] at ha; cases ha
      | some u =>
        cases qb : live[b]? with
        | none => rw [qb] at hb; cases hb
        | some v =>
          rw [qa] at ha
          rw [qb] at hb
          rw [← Option.some.inj ha, ← Option.some.inj hb]
          obtain ⟨ha1, ha2⟩ := List.getElem?_eq_some_iff.mp qa
          obtain ⟨hb1, hb2⟩ := List.getElem?_eq_some_iff.mp qb
          rw [← ha2, ← hb2]
          exact List.pairwise_iff_getElem.mp hpw a b ha1 hb1 hab
    · rw [hpl] at hi
      cases q : live[i]? with
      | none => rw [q] at hi; cases hi
      | some u =>
        rw [q] at hi
        rw [← Option.some.inj hi]
        have := (mem u.1 u.2).mp (List.mem_of_getElem? q)
        have := (Array.getElem?_eq_some_iff.mp this).1
        rw [O.size] at this
        show u.1 ≤ mask
        omega
    · rw [hsz, List.length_map, List.toList_toArray]
      exact (hperm.length_eq.trans List.length_range).symm
    · show ((live.map (·.1)).toArray).size * 5 < mask * 3
      rw [hsz]
      exact hroom
    · rw [hpl] at hi
      cases q : live[i]? with
      | none => rw [q] at hi; cases hi
      | some u =>
        rw [q] at hi
        have ej : u.1 = j := Option.some.inj hi
        rw [List.toList_toArray, List.getElem?_map, List.getElem?_map, q] at hx
        have ex : hs.toList.getD u.2 0 = x := Option.some.inj hx
        have hu := (mem u.1 u.2).mp (List.mem_of_getElem? q)
        have hlt := O.lt _ _ hu
        have hxx : hs.toList[u.2]? = some x := by
          rw [← ex, List.getElem?_eq_getElem hlt]
          simp [List.getD, List.getElem?_eq_getElem hlt]
        obtain ⟨q', hq', hall⟩ := O.has u.2 x hxx
        refine ⟨q', ?_, fun r hr => ?_⟩
        · rw [← ej]; exact O.one _ _ _ hq' hu
        · obtain ⟨i', hi'⟩ := hall r hr
          obtain ⟨a, ha⟩ := List.getElem?_of_mem ((mem _ _).mpr hi')
          exact ⟨a, by rw [hpl, ha]; rfl⟩
end Tb.ST

set_option Elab.async false
set_option linter.all false
set_option maxRecDepth 100000
set_option maxHeartbeats 4000000
/-! Rules of our own, part 21: sets of tuples. -/
namespace L2
open PySem PySem.Spec PyProof.Rows
section
variable {prog : Program} {w : World} {K : Type} [DecidableEq K] {knd : KeyKind prog w K} {A : Around} {E : Value → Shared → Prop} {s : Shared}
theorem cls_byValue {n : Nat} {v : Value} (h : carriedByValue v = true) : ofAClassStatement n v = pure false := by
  cases v with
  | ref a => cases h
  | _ => first | rfl | (unfold ofAClassStatement; rfl)
theorem ofClass_tuple {ks : List K} {a : Addr} {Q : Bool → Shared → Prop} (hk : IsTupleKey knd s.heap ks a) (h : Q false s) : wpAny (model prog w) A (ofAClassStatement 8 (.ref a)) Q E s := by
  have hT := hk.typeIs
  obtain ⟨o, items, n, ho, hc, hd, hi⟩ := hk
  unfold ofAClassStatement
  refine wpAny_bind (wpAny_typeOf hT ?_)
  dsimp only
  rw [if_pos (by decide)]
  refine wpAny_bind (wpAny_pure ?_)
  rw [if_neg (by decide)]
  refine wpAny_bind (wpAny_seqItems ho hd ?_)
  dsimp only
  refine wpAny_bind ?_
  rw [← Array.forIn_toList]
  refine wpAny_forIn_list _ (fun rest r s' => r.1 = none ∧ s' = s ∧ ∀ v ∈ rest, carriedByValue v = true) _ ?_ ?_ _ _ ⟨rfl, rfl, hi.byValue⟩
  · rintro v rest r s' ⟨hr, rfl, hall⟩
    rw [cls_byValue (hall v List.mem_cons_self)]
    refine wpAny_bind (wpAny_pure ?_)
    rw [if_neg (by decide)]
    exact wpAny_pure ⟨rfl, rfl, fun u hu' => hall u (List.mem_cons_of_mem _ hu')⟩
  · rintro ⟨r1, r2⟩ s' ⟨hr, rfl, _⟩
    simp only at hr
    subst hr
    exact wpAny_pure h
theorem hbv_byValue {n : Nat} {v : Value} (h : carriedByValue v = true) : ∃ b, hashByValue n v = pure b := by
  cases v with
  | ref a => cases h
  | none => exact ⟨true, by unfold hashByValue; rfl⟩
  | bool _ => exact ⟨true, by unfold hashByValue; rfl⟩
  | int _ _ => exact ⟨true, by unfold hashByValue; rfl⟩
  | float bits _ => exact ⟨(Float64.hash? bits).isSome, by unfold hashByValue; rfl⟩
  | _ => exact ⟨false, by unfold hashByValue; rfl⟩
theorem hashBy_tuple {ks : List K} {a : Addr} {Q : Bool → Shared → Prop} (hk : IsTupleKey knd s.heap ks a) (h : ∀ b, Q b s) : wpAny (model prog w) A (hashByValue 8 (.ref a)) Q E s := by
  have hT := hk.typeIs
  obtain ⟨o, items, n, ho, hc, hd, hi⟩ := hk
  unfold hashByValue
  refine wpAny_bind (wpAny_specialOf hT F.slot_tuple_hash.lookup ?_)
  dsimp only
  refine wpAny_bind (wpAny_seqItems ho hd ?_)
  rw [Option.getD_some]
  refine wpAny_bind ?_
  rw [← Array.forIn_toList]
  refine wpAny_forIn_list _ (fun rest r s' => r.1 = none ∧ s' = s ∧ ∀ v ∈ rest, carriedByValue v = true) _ ?_ ?_ _ _ ⟨rfl, rfl, hi.byValue⟩
  · rintro v rest r s' ⟨hr, rfl, hall⟩
    obtain ⟨b, e⟩ := hbv_byValue (n := 7) (hall v List.mem_cons_self)
    rw [e]
    refine wpAny_bind (wpAny_pure ?_)
    cases b with
    | true =>
      rw [if_neg (by decide)]
      exact wpAny_pure ⟨rfl, rfl, fun u hu' => hall u (List.mem_cons_of_mem _ hu')⟩
    | false =>
      rw [if_pos (by decide)]
      first | exact wpAny_pure (wpAny_pure (h _)) | exact wpAny_pure (h _)
  · rintro ⟨r1, r2⟩ s' ⟨hr, rfl, _⟩
    simp only at hr
    subst hr
    exact wpAny_pure (h _)
/-- no search among tuples can be seen -/
theorem unseen {k : List K} {b : Addr} (hk : IsTupleKey knd s.heap k b) : ∀ (ys : List Value) {Q : Bool → Shared → Prop}, (∀ y ∈ ys, ∃ (k' : List K) (c : Addr), y = .ref c ∧ IsTupleKey knd s.heap k' c) → Q false s → wpAny (model prog w) A (searchCouldBeSeen (.ref b) ys) Q E s := by
  intro ys Q hys h
  unfold searchCouldBeSeen
  refine wpAny_bind ?_
  refine wpAny_forIn_list _ (fun rest r s' => r.1 = none ∧ s' = s ∧ ∀ y ∈ rest, ∃ (k' : List K) (c : Addr), y = .ref c ∧ IsTupleKey knd s.heap k' c) _ ?_ ?_ _ _ ⟨rfl, rfl, hys⟩
  · rintro y rest r s' ⟨hr, rfl, hall⟩
    obtain ⟨k', c, rfl, hc⟩ := hall y List.mem_cons_self
    dsimp only
    split
    · exact wpAny_pure ⟨rfl, rfl, fun u hu' => hall u (List.mem_cons_of_mem _ hu')⟩
    · refine wpAny_bind (wpAny_eqIsQuiet_tuple hk ?_)
      rw [if_neg (by decide)]
      refine wpAny_bind (wpAny_eqIsQuiet_tuple hc ?_)
      rw [if_neg (by decide)]
      refine wpAny_bind (ofClass_tuple hk ?_)
      rw [if_neg (by decide)]
      refine wpAny_bind (ofClass_tuple hc ?_)
      rw [if_neg (by decide)]
      exact wpAny_pure ⟨rfl, rfl, fun u hu' => hall u (List.mem_cons_of_mem _ hu')⟩
  · rintro ⟨r1, r2⟩ s' ⟨hr, rfl, _⟩
    simp only at hr
    subst hr
    exact wpAny_pure h
/-- an entry of a set of tuples -/
def ent (knd : KeyKind prog w K) (x : List K × Addr) : Int × Value := (tupleKeyHash knd x.1, .ref x.2)
def hsOf (knd : KeyKind prog w K) (xs : List (List K × Addr)) : List Int := xs.map fun x => tupleKeyHash knd x.1
/-- a set of tuples, in a heap -/
structure TupSet (knd : KeyKind prog w K) (h : Heap) (a : Addr) (xs : List (List K × Addr)) (o : Obj) (es : Array (Int × Value)) (ep : Nat) (t : SetTable) : Prop where
  ho : h.get? a = some o
  hd : o.data = .set es ep t
  hx : o.ExactSet
  he : es.toList = xs.map (ent knd)
  tab : Tb.ST.Tab t (hsOf knd xs)
  ks : ∀ x ∈ xs, IsTupleKey knd h x.1 x.2
  nd : (xs.map (·.1)).Nodup
theorem TupSet.fits {h : Heap} {a : Addr} {xs : List (List K × Addr)} {o : Obj} {es : Array (Int × Value)} {ep : Nat} {t : SetTable} (T : TupSet knd h a xs o es ep t) : t.fits es.size = true := by
  have h1 := T.tab.fits
  have h2 : es.size = xs.length := by rw [← Array.length_toList, T.he, List.length_map]
  unfold SetTable.fits
  rw [Bool.and_eq_true, beq_iff_eq, decide_eq_true_eq]
  refine ⟨?_, h1.2.1⟩
  rw [h1.1, h2]
  unfold hsOf
  rw [List.length_map]
theorem hs_get {xs : List (List K × Addr)} {i : Nat} {h : Int} (e : (hsOf knd xs)[i]? = some h) : ∃ x, xs[i]? = some x ∧ tupleKeyHash knd x.1 = h := by
  unfold hsOf at e
  rw [List.getElem?_map] at e
  cases q : xs[i]? with
  | none => rw [q] at e; cases e
  | some x => rw [q] at e; exact ⟨x, rfl, Option.some.inj e⟩
theorem TupSet.get {h : Heap} {a : Addr} {xs : List (List K × Addr)} {o : Obj} {es : Array (Int × Value)} {ep : Nat} {t : SetTable} (T : TupSet knd h a xs o es ep t) {i : Nat} {x : List K × Addr} (e : xs[i]? = some x) : es[i]? = some (ent knd x) := by
  rw [← Array.getElem?_toList, T.he, List.getElem?_map, e]
  rfl
/-- one turn of a search -/
theorem search_step {a b : Addr} {xs : List (List K × Addr)} {o : Obj} {es : Array (Int × Value)} {ep : Nat} {t : SetTable} {k : List K} (T : TupSet knd s.heap a xs o es ep t) (hk : IsTupleKey knd s.heap k b) (hu : A.units < cLine) {fuel q r i : Nat} {x : List K × Addr} {Q : SetFound → Shared → Prop}
    (hx : xs[i]? = some x) (hp : t.place[i]? = some (Tb.ST.pj t.mask (tupleKeyHash knd k) r))
    (hpr : ∀ f, Tb.ST.HashAt (hsOf knd xs) f → t.probe f (tupleKeyHash knd k) (Tb.ST.go t.mask q (Tb.ST.start t.mask (tupleKeyHash knd k))) = some (.candidate (Tb.ST.pj t.mask (tupleKeyHash knd k) r) i (Tb.ST.go t.mask (r + 1) (Tb.ST.start t.mask (tupleKeyHash knd k)))))
    (h1 : x.1 = k → Q (.there none) s) (h2 : x.1 ≠ k → wpAny (model prog w) A (setSearchFrom a (.ref b) (tupleKeyHash knd k) true fuel (some (Tb.ST.go t.mask (r + 1) (Tb.ST.start t.mask (tupleKeyHash knd k))))) Q E s)
    {stand : Option SetTable.Probe} (hst : stand.getD (t.probeStart (tupleKeyHash knd k)) = Tb.ST.go t.mask q (Tb.ST.start t.mask (tupleKeyHash knd k))) :
    wpAny (model prog w) A (setSearchFrom a (.ref b) (tupleKeyHash knd k) true (fuel + 1) stand) Q E s := by
  have hf := T.fits
  have hxk := T.ks x (List.mem_of_getElem? hx)
  unfold setSearchFrom
  refine wpAny_bind (wpAny_setState_of T.ho T.hd hf ?_)
  dsimp only
  rw [T.tab.fits.2.2, if_neg Bool.false_ne_true, hst]
  rw [hpr]
  rotate_left
  · intro i' x' hx'
    obtain ⟨y, hy, e⟩ := hs_get hx'
    have := T.get hy
    show ((es[i']?.map (·.1)).getD 0) = x'
    rw [this]
    exact e
  dsimp only
  have hled : ∀ {tail : Sem SetFound} {bad : Sem SetFound}, wpAny (model prog w) A tail Q E s → wpAny (model prog w) A (if (!t.led) = true then do
      let seen ← searchCouldBeSeen (Value.ref b) (List.map (fun x => x.snd) (Array.filter (fun x => x.fst == tupleKeyHash knd k) es).toList)
      if seen = true then bad else tail
    else tail) Q E s := fun {tail bad} ht => by
    cases hl : t.led with
    | true => rw [if_neg (by decide)]; exact ht
    | false =>
      rw [if_pos (by decide)]
      refine wpAny_bind (unseen hk _ (fun y hy => ?_) ?_)
      · obtain ⟨e, he, rfl⟩ := List.mem_map.mp hy
        have he2 : e ∈ es.toList := by
          rw [Array.toList_filter] at he
          exact (List.mem_filter.mp he).1
        rw [T.he] at he2
        obtain ⟨z, hz, rfl⟩ := List.mem_map.mp he2
        exact ⟨z.1, z.2, rfl, T.ks z hz⟩
      · rw [if_neg (by decide)]; exact ht
  refine hled ?_
  rw [T.get hx]
  dsimp only [ent]
  refine wpAny_bind (wpAny_holding (wpAny_eqBool_tuple hu hxk hk ?_))
  refine wpAny_bind (wpAny_setState_of T.ho T.hd hf ?_)
  dsimp only
  by_cases e : x.1 = k
  · rw [decide_eq_true e, if_pos (by decide)]
    exact wpAny_pure (h1 e)
  · rw [decide_eq_false e, if_neg (by decide), show t.sameMemory t.moves t.mask = some true by unfold SetTable.sameMemory; rw [if_pos (by simp)]]
    dsimp only
    rw [if_pos rfl, T.tab.live hp]
    dsimp only
    rw [T.get hx]
    dsimp only [ent]
    have same : isSame (Value.ref x.2) (Value.ref x.2) = pure true := by
      unfold isSame
      dsimp only
      rw [if_pos (by simp)]
    rw [same]
    refine wpAny_bind (wpAny_pure (wpAny_bind (wpAny_pure ?_)))
    rw [if_pos rfl]
    dsimp only
    rw [if_neg (by decide)]
    exact h2 e
theorem search_there {a b : Addr} {xs : List (List K × Addr)} {o : Obj} {es : Array (Int × Value)} {ep : Nat} {t : SetTable} {k : List K} (T : TupSet knd s.heap a xs o es ep t) (hk : IsTupleKey knd s.heap k b) (hu : A.units < cLine) {Q : SetFound → Shared → Prop}
    (hm : k ∈ xs.map (·.1)) (h : Q (.there none) s) : wpAny (model prog w) A (setSearch a (.ref b) (tupleKeyHash knd k) true) Q E s := by
  obtain ⟨x0, hx0, rfl⟩ := List.mem_map.mp hm
  obtain ⟨i0, hi0⟩ := List.getElem?_of_mem hx0
  have hh0 : (hsOf knd xs)[i0]? = some (tupleKeyHash knd x0.1) := by unfold hsOf; rw [List.getElem?_map, hi0]; rfl
  obtain ⟨j0, hj0⟩ : ∃ j, t.place[i0]? = some j := ⟨_, Array.getElem?_eq_getElem (by rw [T.tab.len]; exact (List.getElem?_eq_some_iff.mp hh0).1)⟩
  obtain ⟨q0, hq0, ej, all⟩ := T.tab.near hj0 hh0
  have main : ∀ n q fuel stand, q0 - q = n → q ≤ q0 → n < fuel → stand.getD (t.probeStart (tupleKeyHash knd x0.1)) = Tb.ST.go t.mask q (Tb.ST.start t.mask (tupleKeyHash knd x0.1)) → wpAny (model prog w) A (setSearchFrom a (.ref b) (tupleKeyHash knd x0.1) true fuel stand) Q E s := by
    intro n
    induction n using Nat.strongRecOn with
    | _ n ih =>
      intro q fuel stand en hq hf hst
      obtain ⟨fuel, rfl⟩ : ∃ f, fuel = f + 1 := ⟨fuel - 1, by omega⟩
      rcases T.tab.next hq (by omega) all (.inr ⟨i0, by rw [ej]; exact hj0, hh0⟩) with ⟨no, _⟩ | ⟨r, i, hqr, hrQ, hp, hhi, hpr⟩
      · exact absurd (by rw [ej]; exact hj0) (no i0)
      · obtain ⟨x, hx, _⟩ := hs_get hhi
        refine search_step T hk hu hx hp hpr (fun _ => h) (fun hne => ?_) hst
        have hr : r ≠ q0 := fun z => by
          subst z
          rw [ej, ← hj0] at hp
          have e1 : i = i0 := by
            have h1 := Tb.ST.below_at T.tab.ris (hp.trans hj0)
            have h2 := Tb.ST.below_at T.tab.ris hj0
            omega
          rw [e1, hi0] at hx
          exact hne (by rw [← Option.some.inj hx])
        exact ih (q0 - (r + 1)) (by omega) (r + 1) fuel _ rfl (by omega) (by omega) rfl
  have ht := T.tab.m.turns
  exact main q0 0 100000 none rfl (Nat.zero_le _) (by omega) rfl
theorem search_free {a b : Addr} {xs : List (List K × Addr)} {o : Obj} {es : Array (Int × Value)} {ep : Nat} {t : SetTable} {k : List K} (T : TupSet knd s.heap a xs o es ep t) (hk : IsTupleKey knd s.heap k b) (hu : A.units < cLine) {Q : SetFound → Shared → Prop}
    (hm : k ∉ xs.map (·.1)) (h : ∀ Qn, (∀ i : Nat, t.place[i]? ≠ some (Tb.ST.pj t.mask (tupleKeyHash knd k) Qn)) → (∀ r, r < Qn → ∃ i : Nat, t.place[i]? = some (Tb.ST.pj t.mask (tupleKeyHash knd k) r)) → Q (.free (Tb.ST.pj t.mask (tupleKeyHash knd k) Qn) false) s) :
    wpAny (model prog w) A (setSearch a (.ref b) (tupleKeyHash knd k) true) Q E s := by
  obtain ⟨Qn, hQ, no, all⟩ := T.tab.first (tupleKeyHash knd k)
  have main : ∀ n q fuel stand, Qn - q = n → q ≤ Qn → n < fuel → stand.getD (t.probeStart (tupleKeyHash knd k)) = Tb.ST.go t.mask q (Tb.ST.start t.mask (tupleKeyHash knd k)) → wpAny (model prog w) A (setSearchFrom a (.ref b) (tupleKeyHash knd k) true fuel stand) Q E s := by
    intro n
    induction n using Nat.strongRecOn with
    | _ n ih =>
      intro q fuel stand en hq hf hst
      obtain ⟨fuel, rfl⟩ : ∃ f, fuel = f + 1 := ⟨fuel - 1, by omega⟩
      rcases T.tab.next hq (by omega) all (.inl no) with ⟨_, hpr⟩ | ⟨r, i, hqr, hrQ, hp, hhi, hpr⟩
      · unfold setSearchFrom
        refine wpAny_bind (wpAny_setState_of T.ho T.hd T.fits ?_)
        dsimp only
        rw [T.tab.fits.2.2, if_neg Bool.false_ne_true, hst]
        rw [hpr]
        rotate_left
        · intro i' x' hx'
          obtain ⟨y, hy, e⟩ := hs_get hx'
          have := T.get hy
          show ((es[i']?.map (·.1)).getD 0) = x'
          rw [this]
          exact e
        dsimp only
        exact wpAny_pure (h Qn no all)
      · obtain ⟨x, hx, _⟩ := hs_get hhi
        refine search_step T hk hu hx hp hpr (fun e => absurd (List.mem_map.mpr ⟨x, List.mem_of_getElem? hx, e⟩) hm) (fun hne => ?_) hst
        have hr : r ≠ Qn := fun z => by
          subst z
          exact no i hp
        exact ih (Qn - (r + 1)) (by omega) (r + 1) fuel _ rfl (by omega) (by omega) rfl
  have ht := T.tab.m.turns
  exact main Qn 0 100000 none rfl (Nat.zero_le _) (by omega) rfl
/-! ### a tuple is put into a set -/
theorem key_keeps {h h' : Heap} {a : Addr} {o : Obj} {es : Array (Int × Value)} {ep : Nat} {t : SetTable} (ho : h.get? a = some o) (hd : o.data = .set es ep t) (hs : Heap.SameBut a h h') {ks : List K} {b : Addr} (hk : IsTupleKey knd h ks b) : IsTupleKey knd h' ks b := by
  obtain ⟨o', items, n, ho', hc, hd', hi⟩ := hk
  have hne : b ≠ a := by
    rintro rfl
    obtain rfl : o' = o := Option.some.inj (ho'.symm.trans ho)
    rw [hd] at hd'
    exact nomatch hd'
  exact ⟨o', items, n, (hs.2 b hne).trans ho', hc, hd', hi⟩
theorem fm_map {α β : Type} (g : α → β) (l : List α) (order : List Nat) : order.filterMap (fun i => (l.map g)[i]?) = (order.filterMap (fun i => l[i]?)).map g := by
  rw [List.map_filterMap]
  congr 1
  funext i
  rw [List.getElem?_map]
theorem fm_range {α : Type} (l : List α) : ∀ n, (List.range n).filterMap (fun i => l[i]?) = l.take n
  | 0 => by simp
  | n + 1 => by
    rw [List.range_succ, List.filterMap_append, fm_range l n, List.take_add_one]
    congr 1
theorem fm_getD (l : List Int) : ∀ (order : List Nat), (∀ i ∈ order, i < l.length) → order.filterMap (fun i => l[i]?) = order.map fun i => l.getD i 0
  | [], _ => rfl
  | i :: r, h => by
    have hi := h i List.mem_cons_self
    rw [List.filterMap_cons, List.getElem?_eq_getElem hi, List.map_cons, fm_getD l r fun j hj => h j (List.mem_cons_of_mem _ hj)]
    try simp [List.getD, List.getElem?_eq_getElem hi]
theorem next_size {mask n : Nat} (hM : Tb.ST.Size mask) (h1 : n * 5 < mask * 3) (h2 : ¬ (n + 1) * 5 < mask * 3) (h3 : n ≤ 305) :
    Tb.ST.Size (SetTable.sizeAbove (SetTable.grown (n + 1)) - 1) ∧ n + 1 ≤ SetTable.sizeAbove (SetTable.grown (n + 1)) - 1 ∧ (n + 1) * 5 < (SetTable.sizeAbove (SetTable.grown (n + 1)) - 1) * 3 ∧ SetTable.sizeAbove (SetTable.grown (n + 1)) ≤ 1000 := by
  have : n = 4 ∨ n = 18 ∨ n = 76 := by rcases hM with rfl | rfl | rfl | rfl <;> omega
  rcases this with rfl | rfl | rfl
  · exact ⟨.inr (.inl (by decide)), by decide, by decide, by decide⟩
  · exact ⟨.inr (.inr (.inl (by decide))), by decide, by decide, by decide⟩
  · exact ⟨.inr (.inr (.inr (by decide))), by decide, by decide, by decide⟩
/-- a set of tuples, as it is handed on -/
def HasTup (knd : KeyKind prog w K) (h : Heap) (a : Addr) (xs : List (List K × Addr)) : Prop := ∃ o es ep t, TupSet knd h a xs o es ep t
theorem put_get {h : Heap} {a : Addr} {o : Obj} {es es' : Array (Int × Value)} {ep : Nat} {t t' : SetTable} (ho : h.get? a = some o) (hd : o.data = .set es ep t) : (h.update a (Obj.putSet es' t')).get? a = some { o with data := .set es' (ep + 1) t' } := by
  have := Heap.get?_update_self (Obj.putSet es' t') ho (by rw [putSet_of es' t' hd]; rfl)
  rw [putSet_of es' t' hd] at this
  exact this
/-- a table too full is laid anew -/
theorem relay_tup {a : Addr} {xs : List (List K × Addr)} {o : Obj} {es : Array (Int × Value)} {ep n : Nat} {t : SetTable} (ho : s.heap.get? a = some o) (hx : o.ExactSet) (hd : o.data = .set es ep t) (he : es.toList = xs.map (ent knd)) (hf : t.fits es.size = true) (hl : xs.length = n + 1)
    (hk : ∀ x ∈ xs, IsTupleKey knd s.heap x.1 x.2) (nd : (xs.map (·.1)).Nodup) (m1 : Tb.ST.Size (SetTable.sizeAbove (SetTable.grown (n + 1)) - 1)) (m2 : n + 1 ≤ SetTable.sizeAbove (SetTable.grown (n + 1)) - 1) (m3 : (n + 1) * 5 < (SetTable.sizeAbove (SetTable.grown (n + 1)) - 1) * 3) (m4 : SetTable.sizeAbove (SetTable.grown (n + 1)) ≤ 1000) {Q : Unit → Shared → Prop}
    (h : ∀ (h' : Heap) (xs' : List (List K × Addr)), Heap.SameBut a s.heap h' → HasTup knd h' a xs' → xs'.Perm xs → Q () { s with heap := h' }) :
    wpAny (model prog w) A (setRelay a (SetTable.grown (n + 1))) Q E s := by
  have hsz : es.size = n + 1 := by rw [← Array.length_toList, he, List.length_map, hl]
  have h16 := sizeLine_eq
  unfold setRelay
  refine wpAny_bind (wpAny_setState_of ho hd hf ?_)
  dsimp only
  rw [if_neg (by omega)]
  obtain ⟨t3, order, el, em, _, _, L⟩ := Tb.ST.laid_ok (finger := t.finger) (moves := t.movedTo (SetTable.sizeAbove (SetTable.grown (n + 1)) - 1)) (led := t.led) (plain := t.plain) m1 (es.map (·.1)) (by rw [Array.size_map, hsz]; exact m2)
  have er : t.relaid (es.map (·.1)) (SetTable.grown (n + 1)) = some (t3, order) := el
  rw [er]
  have hhs : (es.map (·.1)).toList = hsOf knd xs := by
    rw [Array.toList_map, he, List.map_map]
    rfl
  rw [hhs] at L
  have hln : (hsOf knd xs).length = n + 1 := by unfold hsOf; rw [List.length_map, hl]
  have hlt : ∀ i ∈ order.toList, i < (hsOf knd xs).length := fun i hi => List.mem_range.mp (L.perm.mem_iff.mp hi)
  obtain ⟨xs2, hxs2⟩ : ∃ xs2, xs2 = order.toList.filterMap (fun i => xs[i]?) := ⟨_, rfl⟩
  have hp2 : xs2.Perm xs := by
    rw [hxs2]
    have := L.perm.filterMap fun i => xs[i]?
    rw [fm_range, hln, ← hl, List.take_length] at this
    exact this
  obtain ⟨es2, hes2⟩ : ∃ es2, es2 = order.filterMap (es[·]?) := ⟨_, rfl⟩
  have he2 : es2.toList = xs2.map (ent knd) := by
    rw [hes2, Array.toList_filterMap, hxs2, ← fm_map]
    congr 1
    funext i
    rw [← he, Array.getElem?_toList]
  have hs2 : hsOf knd xs2 = order.toList.map fun i => (hsOf knd xs).getD i 0 := by
    rw [← fm_getD _ _ hlt, hxs2]
    unfold hsOf
    rw [fm_map]
  have hsz2 : es2.size = es.size := by rw [← Array.length_toList, he2, List.length_map, hp2.length_eq, hl, hsz]
  have key : ∀ {m : Sem (Array (Int × Value) × SetTable)} {Q' : Array (Int × Value) × SetTable → Shared → Prop}, m = (if (es2.size != es.size) = true then (unsupported "internal:set-table-lost-an-element" : Sem PUnit) >>= fun _ => pure (es2, t3) else pure (es2, t3)) → Q' (es2, t3) s → wpAny (model prog w) A m Q' E s := fun {m Q'} e q => by
    rw [e, if_neg (by rw [hsz2]; simp)]
    exact wpAny_pure q
  refine wpAny_bind (key ?_ ?_)
  · rw [hes2]
    rfl
  dsimp only
  refine wpAny_storeSet_of ho hd ?_ (by omega)
  refine h _ xs2 (Heap.SameBut.update _ _ _) ⟨_, es2, _, t3, put_get ho hd, rfl, hx, he2, ?_, fun x hx' => key_keeps ho hd (Heap.SameBut.update _ _ _) (hk x (hp2.mem_iff.mp hx')), (hp2.map _).nodup_iff.mpr nd⟩ hp2
  rw [hs2]
  exact L.tab (by rw [em, hln]; exact m3)
theorem add_tup {a b : Addr} {xs : List (List K × Addr)} {o : Obj} {es : Array (Int × Value)} {ep : Nat} {t : SetTable} {k : List K} (T : TupSet knd s.heap a xs o es ep t) (hk : IsTupleKey knd s.heap k b) (hu : A.units < cLine) (hn : xs.length ≤ 305) {Q : Bool → Shared → Prop}
    (h : ∀ (h' : Heap) (xs' : List (List K × Addr)) (r : Bool), Heap.SameBut a s.heap h' → HasTup knd h' a xs' → (k ∈ xs.map (·.1) ∧ xs' = xs ∨ k ∉ xs.map (·.1) ∧ xs'.Perm ((k, b) :: xs)) → Q r { s with heap := h' }) :
    wpAny (model prog w) A (setAddHashed a (.ref b) (tupleKeyHash knd k)) Q E s := by
  have hf := T.fits
  have h16 := sizeLine_eq
  have hes : es.size = xs.length := by rw [← Array.length_toList, T.he, List.length_map]
  unfold setAddHashed setAddHashedIn
  refine wpAny_holding (wpAny_bind (wpAny_setState_of T.ho T.hd hf ?_))
  dsimp only
  rw [show byScan (Value.ref b) es = false from rfl, if_neg Bool.false_ne_true]
  by_cases hm : k ∈ xs.map (·.1)
  · refine wpAny_bind (search_there T hk hu hm ?_)
    dsimp only
    exact wpAny_pure (h s.heap xs false (Heap.SameBut.refl _ _) ⟨o, es, ep, t, T⟩ (.inl ⟨hm, rfl⟩))
  · refine wpAny_bind (search_free T hk hu hm fun Qn no all => ?_)
    dsimp only
    refine wpAny_bind (wpAny_setState_of T.ho T.hd hf ?_)
    dsimp only
    have PA := T.tab.put no all
    generalize t.put (Tb.ST.pj t.mask (tupleKeyHash knd k) Qn) = tp at PA ⊢
    obtain ⟨t1, p⟩ := tp
    dsimp only at PA ⊢
    have key : ∀ F : Bool → Sem Bool, (∀ bv, wpAny (model prog w) A (F bv) Q E s) → wpAny (model prog w) A (if t1.plain = true then hashByValue 8 (.ref b) >>= F else pure true >>= F) Q E s := fun F hF => by
      split
      · exact wpAny_bind (hashBy_tuple hk fun bv => hF bv)
      · exact wpAny_bind (wpAny_pure (hF _))
    refine key _ fun bv => ?_
    clear key
    have PP := PA bv
    clear PA
    generalize (if bv = true then t1 else { t1 with plain := false }) = t2 at PP ⊢
    obtain ⟨xs1, hxs1⟩ : ∃ xs1, xs1 = xs.take p ++ (k, b) :: xs.drop p := ⟨_, rfl⟩
    have hp : p ≤ xs.length := by have := PP.le; unfold hsOf at this; rwa [List.length_map] at this
    have hes1 : (SetTable.insertAt es p (tupleKeyHash knd k, Value.ref b)).toList = xs1.map (ent knd) := by
      rw [Tb.ST.insertAt_toList _ _ _ (by rw [hes]; exact hp), T.he, ← List.map_take, ← List.map_drop, hxs1, List.map_append, List.map_cons]
      rfl
    have hhs1 : (hsOf knd xs).take p ++ tupleKeyHash knd k :: (hsOf knd xs).drop p = hsOf knd xs1 := by
      unfold hsOf
      rw [hxs1, List.map_append, List.map_cons, List.map_take, List.map_drop]
    have hpm : xs1.Perm ((k, b) :: xs) := by
      rw [hxs1]
      refine List.perm_middle.trans ?_
      rw [List.take_append_drop]
    have hnd1 : (xs1.map (·.1)).Nodup := (hpm.map (·.1)).nodup_iff.mpr (List.nodup_cons.mpr ⟨hm, T.nd⟩)
    have hl1 : xs1.length = xs.length + 1 := hpm.length_eq
    generalize SetTable.insertAt es p (tupleKeyHash knd k, Value.ref b) = es1 at hes1 ⊢
    have hsz : es1.size = xs.length + 1 := by rw [← Array.length_toList, hes1, List.length_map, hl1]
    have hpl : t.place.size = xs.length := by rw [T.tab.len]; unfold hsOf; rw [List.length_map]
    have hpl2 : t2.place.size = xs.length + 1 := by rw [PP.size, hpl]
    have hfill : t2.fill = xs.length + 1 := by
      unfold SetTable.fill
      rw [PP.nod', hpl2]
      rfl
    have hmem : ∀ x ∈ xs1, IsTupleKey knd s.heap x.1 x.2 := fun x hx => by
      rw [hxs1] at hx
      rcases List.mem_append.mp hx with z | z
      · exact T.ks x (List.mem_of_mem_take z)
      · rcases List.mem_cons.mp z with rfl | z
        · exact hk
        · exact T.ks x (List.mem_of_mem_drop z)
    refine wpAny_bind (wpAny_storeSet_of T.ho T.hd ?_ (by omega))
    have ho1 := put_get (es' := es1) (t' := t2) T.ho T.hd
    have sb := Heap.SameBut.update s.heap a (Obj.putSet es1 t2)
    generalize s.heap.update a (Obj.putSet es1 t2) = h1 at ho1 sb ⊢
    have hks1 : ∀ x ∈ xs1, IsTupleKey knd h1 x.1 x.2 := fun x hx => key_keeps T.ho T.hd sb (hmem x hx)
    by_cases hroom : (xs.length + 1) * 5 < t.mask * 3
    · rw [if_neg]
      rotate_left
      · unfold SetTable.tooFull
        rw [hfill, PP.mask]
        simp
        omega
      exact wpAny_pure (h h1 xs1 true sb ⟨_, es1, _, t2, ho1, rfl, T.hx, hes1, by rw [← hhs1]; exact PP.tab (by rw [hpl2, PP.mask]; exact hroom), hks1, hnd1⟩ (.inr ⟨hm, hpm⟩))
    · rw [if_pos]
      rotate_left
      · unfold SetTable.tooFull
        rw [hfill, PP.mask]
        simp
        omega
      obtain ⟨m1, m2, m3, m4⟩ := next_size T.tab.m (by have := T.tab.room; rw [hpl] at this; exact this) hroom hn
      have hmask : xs.length + 1 ≤ t2.mask := by
        rw [PP.mask]
        have := T.tab.room
        rw [hpl] at this
        rcases T.tab.m with e | e | e | e <;> rw [e] at this hroom ⊢ <;> omega
      have hf1 : t2.fits es1.size = true := by
        unfold SetTable.fits
        rw [Bool.and_eq_true, beq_iff_eq, decide_eq_true_eq, hpl2, hsz, hfill]
        exact ⟨rfl, hmask⟩
      rw [hes]
      refine wpAny_bind (relay_tup (s := { s with heap := h1 }) (knd := knd) (xs := xs1) (n := xs.length) ho1 T.hx rfl hes1 hf1 hl1 hks1 hnd1 m1 m2 m3 m4 fun h2 xs2 sb2 H2 hp2 => ?_)
      exact wpAny_pure (h h2 xs2 true (sb.trans sb2) H2 (.inr ⟨hm, hp2.trans hpm⟩))
/-! ### how many differ -/
structure Cnt {α : Type} (L X : List α) : Prop where
  mem : ∀ k, k ∈ X ↔ k ∈ L
  le : X.length ≤ L.length
  eq : X.length = L.length ↔ L.Nodup
theorem Cnt.nil {α : Type} : Cnt ([] : List α) [] := ⟨fun _ => Iff.rfl, Nat.le_refl _, ⟨fun _ => List.nodup_nil, fun _ => rfl⟩⟩
theorem nodup_snoc {α : Type} {L : List α} {k : α} : (L ++ [k]).Nodup ↔ L.Nodup ∧ k ∉ L := by
  rw [List.nodup_append]
  constructor
  · rintro ⟨a, _, c⟩
    exact ⟨a, fun z => c k z k (by simp) rfl⟩
  · rintro ⟨a, c⟩
    refine ⟨a, by simp, fun x hx y hy e => ?_⟩
    rw [List.mem_singleton.mp hy] at e
    exact c (e ▸ hx)
theorem Cnt.old {α : Type} {L X : List α} {k : α} (c : Cnt L X) (h : k ∈ X) : Cnt (L ++ [k]) X := by
  have h1 := c.le
  refine ⟨fun x => ?_, by rw [List.length_append]; omega, ?_⟩
  · rw [c.mem, List.mem_append, List.mem_singleton]
    exact ⟨.inl, fun z => z.elim id fun e => by rw [e]; exact (c.mem k).mp h⟩
  · rw [nodup_snoc]
    refine ⟨fun e => ?_, fun e => absurd ((c.mem k).mp h) e.2⟩
    rw [List.length_append, List.length_cons, List.length_nil] at e
    omega
theorem Cnt.new {α : Type} {L X X' : List α} {k : α} (c : Cnt L X) (h : k ∉ X) (p : X'.Perm (k :: X)) : Cnt (L ++ [k]) X' := by
  have h1 := c.le
  have h2 := p.length_eq
  rw [List.length_cons] at h2
  refine ⟨fun x => ?_, by rw [List.length_append, List.length_cons, List.length_nil]; omega, ?_⟩
  · rw [p.mem_iff, List.mem_cons, c.mem, List.mem_append, List.mem_singleton]
    exact Or.comm
  · rw [nodup_snoc, ← c.eq, h2, List.length_append, List.length_cons, List.length_nil]
    exact ⟨fun e => ⟨by omega, fun z => h ((c.mem k).mpr z)⟩, fun e => by omega⟩
theorem HasTup.at {h h' : Heap} {a : Addr} {xs : List (List K × Addr)} (x : HasTup knd h a xs) (ka : ∀ o, h.get? a = some o → h'.get? a = some o) (kk : ∀ y ∈ xs, IsTupleKey knd h' y.1 y.2) : HasTup knd h' a xs := by
  obtain ⟨o, es, ep, t, T⟩ := x
  exact ⟨o, es, ep, t, ka o T.ho, T.hd, T.hx, T.he, T.tab, kk, T.nd⟩
theorem key_at {h h' : Heap} {ks : List K} {b : Addr} (hk : IsTupleKey knd h ks b) (k : ∀ o, h.get? b = some o → h'.get? b = some o) : IsTupleKey knd h' ks b := by
  obtain ⟨o, items, n, ho, r⟩ := hk
  exact ⟨o, items, n, k o ho, r⟩
/-- the loop that fills a set, over tuples -/
theorem loop_tup {I Z : Addr} {fp wr : List Addr} {G : Array GenState → Array GenState → Prop} {n : Nat} {P : Nat → Value → Prop} {St : Nat → Shared → Prop} {R : Result → Shared → Prop} (W : WalksS prog w A.in1 I fp wr G n P St) (hZ : Z ∉ fp) (hu : A.units + 2 < cLine)
    (kb : List (List K × Addr)) (hval : ∀ i v, P i v → ∃ x, kb[i]? = some x ∧ v = .ref x.2) (hkn : kb.length = n) (hout : ∀ x ∈ kb, x.2 ∉ Z :: wr) (hn : n ≤ 306) :
    ∀ (m i : Nat) (s : Shared) (xs : List (List K × Addr)), n - i = m → i ≤ n → St i s → HasTup knd s.heap Z xs → (∀ x ∈ xs, x ∈ kb) → (∀ x ∈ kb, IsTupleKey knd s.heap x.1 x.2) → Cnt ((kb.take i).map (·.1)) (xs.map (·.1)) →
    (∀ s' xs', Moved (Z :: wr) G s s' → HasTup knd s'.heap Z xs' → Cnt (kb.map (·.1)) (xs'.map (·.1)) → R (.ok (.ret .none)) s') →
    codeAny (model prog w) A (.builtin "set.update.loop" ⟨[.ref Z, .ref I], []⟩) R s := by
  have hZw : Z ∉ wr := fun z => hZ (W.sub _ z)
  have hsub : ∀ b ∈ wr, b ∈ Z :: wr := fun b z => List.mem_cons_of_mem _ z
  intro m
  induction m with
  | zero =>
    intro i s xs hm hi st hT hin hks hc q
    have e : i = n := by omega
    subst e
    refine codeAny_builtin PyProof.Rows.F.entry_set_update_loop ?_
    rw [Around.under_plainId PyProof.Rows.F.plain_set_update_loop _]
    show wpAny _ A.in1 (pyNext (.ref I) >>= _) _ _ s
    refine wpAny_bind (W.done s _ _ st fun s1 mv => ?_)
    have hk1 : ∀ x ∈ kb, IsTupleKey knd s1.heap x.1 x.2 := fun x hx => key_at (hks x hx) fun o eo => mv.heap _ o (fun z => hout x hx (hsub _ z)) eo
    rw [← hkn, List.take_length] at hc
    exact wpAny_pure (q s1 xs (mv.mono hsub) (hT.at (fun o eo => mv.heap _ o hZw eo) fun y hy => hk1 y (hin y hy)) hc)
  | succ m ih =>
    intro i s xs hm hi st hT hin hks hc q
    have hlt : i < n := by omega
    refine codeAny_builtin PyProof.Rows.F.entry_set_update_loop ?_
    rw [Around.under_plainId PyProof.Rows.F.plain_set_update_loop _]
    show wpAny _ A.in1 (pyNext (.ref I) >>= _) _ _ s
    refine wpAny_bind (W.item i s _ _ hlt st fun v s1 hP st1 mv => ?_)
    obtain ⟨x, hx, rfl⟩ := hval i v hP
    have hxm := List.mem_of_getElem? hx
    have hk1 : ∀ y ∈ kb, IsTupleKey knd s1.heap y.1 y.2 := fun y hy => key_at (hks y hy) fun o eo => mv.heap _ o (fun z => hout y hy (hsub _ z)) eo
    have hT1 : HasTup knd s1.heap Z xs := hT.at (fun o eo => mv.heap _ o hZw eo) fun y hy => hk1 y (hin y hy)
    show wpAny _ A.in1 (holding [Value.ref x.2] (setAdd Z (.ref x.2)) >>= _) _ _ s1
    refine wpAny_bind (wpAny_holding ?_)
    unfold setAdd
    refine wpAny_holding (wpAny_bind (wpAny_pyHash_tuple (by show A.units + 1 < cLine; omega) (hk1 x hxm) ?_))
    obtain ⟨o, es, ep, t, T⟩ := hT1
    have hxl : xs.length ≤ 305 := by
      have h1 := hc.le
      rw [List.length_map, List.length_map, List.length_take] at h1
      omega
    refine add_tup (s := { s1 with toks := s1.toks + (x.1.length + 1) }) (xs := xs) (k := x.1) T (hk1 x hxm) (by show A.units + 1 < cLine; omega) hxl fun h2 xs2 r sb H2 hor => ?_
    have hk2 : ∀ y ∈ kb, IsTupleKey knd h2 y.1 y.2 := fun y hy => key_at (hk1 y hy) fun o eo => (sb.2 _ fun z => hout y hy (by rw [z]; exact List.mem_cons_self)).trans eo
    have etk : (kb.take (i + 1)).map (·.1) = (kb.take i).map (·.1) ++ [x.1] := by rw [List.take_add_one, hx, List.map_append]; rfl
    have hc2 : Cnt ((kb.take (i + 1)).map (·.1)) (xs2.map (·.1)) := by
      rw [etk]
      rcases hor with ⟨a, b⟩ | ⟨a, b⟩
      · rw [b]; exact hc.old a
      · exact hc.new a (b.map (·.1))
    have hin2 : ∀ y ∈ xs2, y ∈ kb := fun y hy => by
      rcases hor with ⟨_, b⟩ | ⟨_, b⟩
      · exact hin y (b ▸ hy)
      · rcases List.mem_cons.mp (b.mem_iff.mp hy) with z | z
        · rw [z]; exact hxm
        · exact hin y z
    refine wpAny_pure ⟨plainId_quiet PyProof.Rows.F.plain_set_update_loop _, ih (i + 1) _ xs2 (by omega) hlt (W.frame _ s1 _ _ st1 (Nat.le_add_right _ _) fun b hb o eo => ?_) H2 hin2 hk2 hc2 fun s4 xs4 mv4 H4 hc4 => ?_⟩
    · exact (sb.2 b fun z => hZ (z ▸ hb)).trans eo
    · refine q s4 xs4 (Moved.trans W.gtrans ((mv.mono hsub).then_heap (Nat.le_add_right _ _) fun b o hb eo => ?_) mv4) H4 hc4
      exact (sb.2 b fun z => hb (by rw [z]; exact List.mem_cons_self)).trans eo
/-! ### set(list of tuples) -/
theorem tab_fresh (led : Bool) : Tb.ST.Tab (SetTable.fresh 0 0 led) [] := by
  have no : ∀ (i j : Nat), (SetTable.fresh 0 0 led).place[i]? ≠ some j := fun i j h => by
    have e : (SetTable.fresh 0 0 led).place[i]? = none := Array.getElem?_eq_none (Nat.zero_le i)
    rw [e] at h
    cases h
  exact ⟨.inl rfl, rfl, fun a b x y h => absurd h (no a x), fun i j h => absurd h (no i j), rfl, by show 0 * 5 < 7 * 3; decide, fun i j h e => absurd e (no i j)⟩
abbrev setOb (led : Bool) : Obj := { cls := .type "set", dict := none, data := .set #[] 0 (.fresh 0 0 led) }
theorem tup_fresh {h : Heap} {a : Addr} {led : Bool} (e : h.get? a = some (setOb led)) : HasTup knd h a [] :=
  ⟨_, #[], 0, _, e, rfl, ⟨rfl, rfl, rfl⟩, rfl, tab_fresh led, fun _ z => (by cases z), List.nodup_nil⟩
/-- a set that has n entries -/
def SetN (h : Heap) (a : Addr) (n : Nat) : Prop := ∃ o es ep t, h.get? a = some o ∧ o.ExactSet ∧ o.data = .set es ep t ∧ t.fits es.size = true ∧ es.size = n
theorem HasTup.n {h : Heap} {a : Addr} {xs : List (List K × Addr)} (x : HasTup knd h a xs) : SetN h a xs.length := by
  obtain ⟨o, es, ep, t, T⟩ := x
  exact ⟨o, es, ep, t, T.ho, T.hx, T.hd, T.fits, by rw [← Array.length_toList, T.he, List.length_map]⟩
theorem call_set_tups {l : Addr} {items : Array Value} (kb : List (List K × Addr)) {Q : Value → Shared → Prop} (hh : A.handled = none) (hu : A.units + 16 < cLine) (hl : s.heap.IsList l items) (hkb : items.toList = kb.map fun x => Value.ref x.2)
    (hk : ∀ x ∈ kb, IsTupleKey knd s.heap x.1 x.2) (hn : kb.length ≤ 306)
    (h : ∀ (h' : Heap) (tk n : Nat), SetN h' s.heap.objs.size n → n ≤ kb.length → (n = kb.length ↔ (kb.map (·.1)).Nodup) → (∀ b o, s.heap.get? b = some o → h'.get? b = some o) → Q (.ref s.heap.objs.size) { s with heap := h', toks := tk }) :
    wpAny (model prog w) A (call (.type "set") [.ref l]) Q E s := by
  obtain ⟨cc, tt, m0⟩ := PySem.F.called_set.mro
  have m1 := PySem.F.called_set.made
  have m2 := PySem.F.called_set.sub
  have m3 := PySem.F.called_set.notType
  have m4 := PySem.F.called_set.canCreate
  have m5 := PySem.F.typeCall_set_1 (.ref l)
  refine wpAny_call (codeAny_of_tree ?_)
  show wpAny _ _ (callAny (.type "set") _) _ _ _
  refine wpAny_pure ⟨Code.quiet_builtin _ (by decide +kernel), codeAny_builtin PySem.F.entry_type_call ?_⟩
  rw [Around.under_plain (weight_type_call_type "set" [.ref l] []) rfl]
  repeat (any_goals (first | assumption | wp_step))
  refine codeAny_mono (code_set_new_1 (.ref l) (E := E) (Q₁ := fun z s1 => ∃ led : Bool, z = .ref s.heap.objs.size ∧ s1 = { s with heap := s.heap.push (setOb led) }) fun led => ⟨led, rfl, rfl⟩) fun r s1 hr => ?_
  cases r with
  | error e => exact hr
  | ok fl =>
    cases fl with
    | ret z =>
      obtain ⟨led, rfl, rfl⟩ := hr
      have hZ : (s.heap.push (setOb led)).get? s.heap.objs.size = some (setOb led) := Heap.get?_push_size _ rfl
      have hTy : Shared.TypeIs { s with heap := s.heap.push (setOb led) } (.ref s.heap.objs.size) "set" := ⟨_, hZ, rfl⟩
      have i1 := PySem.F.called_set.init.lookup
      have i2 := PySem.F.called_set.init.bind (.ref s.heap.objs.size)
      repeat (any_goals (first | assumption | wp_step))
      refine codeAny_mono (codeAny_call_builtin (R := wants (fun u s2 => u = .none ∧ ∃ h' tk n, s2 = { s with heap := h', toks := tk } ∧ SetN h' s.heap.objs.size n ∧ n ≤ kb.length ∧ (n = kb.length ↔ (kb.map (·.1)).Nodup) ∧ ∀ b o, s.heap.get? b = some o → h'.get? b = some o) E) PySem.F.called_set.init.plain PySem.F.entry_set_init (check_set_init_1 hTy ?_)) fun r2 s2 hr2 => ?_
      · obtain ⟨ol, hol, hcl, nl, hdl⟩ := hl
        obtain ⟨c0, d0, dt0, sl0⟩ := ol
        simp only at hcl hdl
        subst hcl
        subst hdl
        have ho1 : (s.heap.push (setOb led)).get? l = some { cls := .type "list", dict := d0, data := .seq items nl, slots := sl0 } := Heap.get?_push_of_some _ hol
        have t1 := PySem.F.sub_list_set
        have t2 := PySem.F.sub_list_frozenset
        have t3 : (Value.type "list" == Value.type "dict") = false := by decide
        have hl1 : (s.heap.push (setOb led)).IsList l items := ⟨_, ho1, rfl, nl, rfl⟩
        unfold Builtin.«set.__init__» noKeywords Builtin.Frozenset.updateFrom
        generalize hPI : pyIter = PI
        wp_walk
        subst hPI
        refine wpAny_pyIter_list hl1 ?_
        refine wpAny_bind (wpAny_runValue ?_)
        have hlS : l < s.heap.objs.size := Heap.lt_size hol
        have kl : ∀ x ∈ kb, x.2 < s.heap.objs.size := fun x hx => by
          obtain ⟨o, its, n, ho, _⟩ := hk x hx
          exact Heap.lt_size ho
        have n1 : l ≠ (s.heap.push (setOb led)).objs.size := by
          rw [Heap.size_push]
          exact Nat.ne_of_lt (Nat.lt_succ_of_lt hlS)
        have n2 : s.heap.objs.size ∉ [(s.heap.push (setOb led)).objs.size, l] := by
          rw [Heap.size_push]
          intro z
          rcases List.mem_cons.mp z with z | z
          · exact Nat.ne_of_lt (Nat.lt_succ_self _) z
          · exact Nat.ne_of_gt hlS (List.mem_singleton.mp z)
        have hsz : items.size = kb.length := by rw [← Array.length_toList, hkb, List.length_map]
        refine loop_tup (knd := knd) ((Walks.list (by simp [hh]) _ l n1 items).toS) n2 (by show A.units + 1 + 1 + 2 < cLine; omega) kb (fun i v hv => ?_) hsz.symm (fun x hx z => ?_) (by omega) (items.size - 0) 0 _ [] rfl (Nat.zero_le _)
          ⟨⟨_, Heap.get?_push_size _ rfl, rfl, rfl⟩, hl1.push _⟩ (tup_fresh (Heap.get?_push_of_some _ hZ)) (fun _ z => (by cases z)) (fun x hx => key_at (hk x hx) fun o e => Heap.get?_push_of_some _ (Heap.get?_push_of_some _ e)) Cnt.nil fun s4 xs4 mv H4 c4 => ?_
        · have hv' : items[i]? = some v := hv
          rw [← Array.getElem?_toList, hkb, List.getElem?_map] at hv'
          cases e : kb[i]? with
          | none => rw [e] at hv'; cases hv'
          | some x => rw [e] at hv'; exact ⟨x, rfl, (Option.some.inj hv').symm⟩
        · have hlt := kl x hx
          rcases List.mem_cons.mp z with z | z
          · exact Nat.ne_of_lt hlt z
          · rw [Heap.size_push] at z
            exact Nat.ne_of_lt (Nat.lt_succ_of_lt hlt) (List.mem_singleton.mp z)
        · obtain ⟨h4, g4, d4, k4, o4⟩ := s4
          have eg : g4 = s.gens := mv.gens
          have ed : d4 = s.drawn := mv.drawn
          have eo : o4 = s.os := mv.os
          subst eg
          subst ed
          subst eo
          show wpAny _ _ _ _ _ _
          refine wpAny_pure ?_
          show wpAny _ _ (ret Value.none) _ _ _
          have cl := c4.le
          have ce := c4.eq
          rw [List.length_map, List.length_map] at cl ce
          refine wpAny_pure ⟨rfl, h4, k4, xs4.length, rfl, H4.n, cl, ce, fun b o e => ?_⟩
          have hb := Heap.lt_size e
          refine mv.heap b o (fun z => ?_) (Heap.get?_push_of_some _ (Heap.get?_push_of_some _ e))
          rcases List.mem_cons.mp z with z | z
          · exact Nat.ne_of_lt hb z
          · rw [Heap.size_push] at z
            exact Nat.ne_of_lt (Nat.lt_succ_of_lt hb) (List.mem_singleton.mp z)
      · cases r2 with
        | error e => exact hr2
        | ok fl2 =>
          cases fl2 with
          | ret u =>
            obtain ⟨rfl, h4, k4, n, rfl, a1, a2, a3, a4⟩ := hr2
            repeat (any_goals (first | assumption | wp_step))
            exact h _ _ n a1 a2 a3 a4
          | _ => exact hr2.elim
    | _ => exact hr.elim
end
end L2

set_option Elab.async false
set_option linter.all false
set_option maxRecDepth 100000
set_option maxHeartbeats 4000000
/-! Rules of our own, part 22: sets of tuples and their size, list(reversed(list)), str.find. -/
namespace L2
open PySem PySem.Spec PyProof.Rows
section
variable {X : Cx}
/-- a set of n entries, tracked -/
def SetO (l : Addr) (n : Nat) : HO := .ext fun h => SetN h l n
theorem vals_refs : ∀ {as : List Addr} {us : List Value}, Vals (as.map V.ref) us → us = as.map Value.ref
  | [], _, r => by rw [List.map_nil] at r; cases r; rfl
  | a :: as, _, r => by
    rw [List.map_cons] at r
    cases r with
    | cons h t =>
      cases h
      rw [vals_refs t]
      rfl
theorem zip_fst {α β : Type} : ∀ {as : List α} {bs : List β}, as.length = bs.length → (as.zip bs).map (·.1) = as ∧ (as.zip bs).map (·.2) = bs
  | [], [], _ => ⟨rfl, rfl⟩
  | a :: as, b :: bs, h => by
    obtain ⟨h1, h2⟩ := zip_fst (as := as) (bs := bs) (by simpa using h)
    rw [List.zip_cons_cons, List.map_cons, List.map_cons, h1, h2]
    exact ⟨rfl, rfl⟩
theorem zip_all {α β : Type} {F : α → β → Prop} : ∀ {as : List α} {bs : List β}, Paired F as bs → ∀ x ∈ bs.zip as, F x.2 x.1
  | _, _, .nil, x, h => by cases h
  | _, _, .cons f r, x, h => by
    rw [List.zip_cons_cons] at h
    rcases List.mem_cons.mp h with z | z
    · rw [z]; exact f
    · exact zip_all r x z
theorem call_setT (hc : X.calm = true) (hu : X.A.units + 64 < cLine) : CallR X (.type "set") (fun xs H Q => ∃ (p : Addr) (as : List Addr) (kss : List (List Key)), xs = [.ref p] ∧ SqL X.K H p (as.map V.ref) ∧ Paired (fun a ks => H a = some (.tup (ks.map kV))) as kss ∧ kss.length ≤ 306 ∧
    ∀ (l : Addr) (n : Nat), H l = none → n ≤ 306 → (n = kss.length ↔ kss.Nodup) → Q (.ref l) (upd H l (SetO l n))) := by
  intro pins s σ H xs us Q I r h
  obtain ⟨p, as, kss, rfl, hq, hp, hle, q⟩ := h
  obtain ⟨u, rfl, rx⟩ := vals1 r
  cases rx
  obtain ⟨its, r1, p1, hz⟩ := I.list hq
  have hl : as.length = kss.length := Paired.length hp
  have hits := vals_refs r1
  obtain ⟨z1, z2⟩ := zip_fst (as := kss) (bs := as) hl.symm
  have hzl : (kss.zip as).length = kss.length := by
    have := congrArg List.length z1
    rwa [List.length_map] at this
  refine call_set_tups (knd := mixKind X.prog X.w) (kss.zip as) (I.ok.hd hc) (by omega) p1.isList ?_ (fun x hx => ?_) (by omega) fun h' tk n hS hn hnd kp => ?_
  · rw [List.toList_toArray, hits]
    conv => lhs; rw [← z2]
    rw [List.map_map]
    rfl
  · have e := zip_all hp x hx
    obtain ⟨_, it, rv, o, ho, hcl, n, hd⟩ := I.hok _ _ e
    exact ⟨o, it.toArray, n, ho, hcl, hd, by rw [List.toList_toArray]; exact items_are rv⟩
  · rw [z1, hzl] at hnd
    have hS' := hS
    obtain ⟨o, es, ep, t, ho, _⟩ := hS'
    refine ⟨.ref s.heap.objs.size, _, I.laid (t' := tk) kp (Nat.le_refl _) (show ObjOk X.prog X.w _ h' _ (SetO s.heap.objs.size n) from ⟨hS, ⟨o, ho⟩, fun h1 h2 ⟨o, es, ep, t, ho, rr⟩ k => ⟨o, es, ep, t, k o ho, rr⟩⟩), rfl, q _ n (I.hok.fresh (Nat.le_refl _)) (by omega) hnd⟩
theorem call_len_setN : CallR X (.builtin "len") (fun xs H Q => ∃ (p : Addr) (n : Nat), xs = [.ref p] ∧ H p = some (SetO p n) ∧ n ≤ 1000000 ∧ Q (.int n) H) := by
  intro pins s σ H xs us Q I r h
  obtain ⟨p, n, rfl, hp, hn, q⟩ := h
  obtain ⟨u, rfl, rx⟩ := vals1 r
  cases rx
  obtain ⟨⟨o, es, ep, t, ho, hex, hd, hf, hsz⟩, _⟩ := I.hok p _ hp
  subst hsz
  exact call_len_set ho hex hd hf (by omega) ⟨.int es.size, H, (I.tok _).tok _, ⟨_, rfl⟩, q⟩
theorem mt_find1 : MtR X "str.find" (fun x vs H Q => ∃ z y : Str, x = .str z ∧ vs = [.str y] ∧ Q (.int (Txt.find z y)) H) := by
  intro pins s σ H x xs v us Q I rx rv h
  obtain ⟨z, y, rfl, rfl, q⟩ := h
  obtain ⟨t, rfl⟩ := rx
  obtain ⟨u, rfl, ru⟩ := vals1 rv
  obtain ⟨t2, rfl⟩ := ru
  exact PySem.SC.find ⟨.int _, H, I.tok _, ⟨_, rfl⟩, q⟩
end
/-! ### list(reversed(list)) -/
theorem lri_no_len : typeLookup (.type "list_reverseiterator") "__len__" = pure none := by rw [typeLookup_type, builtinLookup_eq_fast]; kernel_rfl
theorem lri_hint : typeLookup (.type "list_reverseiterator") "__length_hint__" = pure (some (.builtin "list_reverseiterator.__length_hint__")) := by rw [typeLookup_type, builtinLookup_eq_fast]; kernel_rfl
section
variable {prog : Program} {w : World} {A : Around} {E : Value → Shared → Prop} {s : Shared}
theorem hint_lri {r : Addr} {Q : Bool → Shared → Prop} (hT : s.TypeIs (.ref r) "list_reverseiterator") (h : Q false s) : wpAny (model prog w) A (Builtin.List.listLengthHint (.ref r)) Q E s := by
  unfold Builtin.List.listLengthHint
  refine wpAny_bind (wpAny_specialOf hT lri_no_len ?_)
  show wpAny _ _ (specialOf (Value.ref r) (Str.ofString "__length_hint__") >>= _) _ _ s
  refine wpAny_bind (wpAny_specialOf hT lri_hint ?_)
  generalize hid : ("list_reverseiterator.__length_hint__" : String) = i0
  wp_delta
  rw [show splitId i0 = some ("list_reverseiterator", "__length_hint__") from by subst hid; decide +kernel]
  subst hid
  refine wpAny_bind (wpAny_isInstance (T := "list_reverseiterator") (b := true) hT (by rw [isSubtype_type]; kernel_rfl) ?_)
  refine wpAny_ite_split (fun z => absurd z (by decide)) (fun _ => ?_)
  refine wpAny_ite_split (fun _ => ?_) (fun z => absurd (by decide +kernel) z)
  refine wpAny_ite_split (fun z => absurd z (by decide +kernel)) (fun _ => ?_)
  exact wpAny_pure h
variable {I Z : Addr} {fp wr : List Addr} {G : Array GenState → Array GenState → Prop} {n : Nat} {P : Nat → Value → Prop} {St : Nat → Shared → Prop} {R : Result → Shared → Prop}
abbrev lstOb (acc : Array Value) (c : Nat) : Obj := { cls := .type "list", dict := none, data := .seq acc c, slots := #[] }
theorem ext_lri {c0 : Nat} {res : Value} (W : WalksS prog w A.in1 I fp wr G n P St) (hT : ∀ i s, St i s → s.TypeIs (.ref I) "list_reverseiterator") (st : St 0 s) (hZ : Z ∉ fp) (hI : I ∈ fp) (hS : s.heap.get? Z = some (lstOb #[] c0)) (hn : n ≤ sizeLine)
    (q : ∀ s' acc c, Moved (Z :: wr) G s s' → s'.heap.get? Z = some (lstOb acc c) → ItemsOf P acc n → R (.ok (.ret res)) s') :
    wpAny (model prog w) A.in1 (Builtin.List.listExtendWith (.ref Z) (.ref I) res) (fun fin s' => match fin with | .done f => R (.ok f) s' | .again c' => c'.quiet = true ∧ codeAny (model prog w) A c' R s') (fun e s' => R (.error e) s') s := by
  have nZI : Z ≠ I := fun e => hZ (e ▸ hI)
  unfold Builtin.List.listExtendWith
  refine wpAny_bind (wpAny_typeOf (hT 0 _ st) ?_)
  have e1 : Builtin.List.listSameRef (.ref Z) (.ref I) = false := by simp [Builtin.List.listSameRef, nZI]
  have e2 : (Value.type "list_reverseiterator" == Value.type "list") = false := by decide
  have e3 : (Value.type "list_reverseiterator" == Value.type "tuple") = false := by decide
  simp only [e1, e2, e3, Bool.or_false, Bool.false_eq_true, if_false]
  refine wpAny_bind (W.self 0 _ _ _ st ?_)
  refine wpAny_bind (wpAny_holding (hint_lri (hT 0 _ st) ?_))
  refine wpAny_ite_split (fun _ => ?_) (fun _ => wpAny_pure ⟨plainId_quiet PySem.F.plain_extend_loop _, codeAny_extend_loopS W hn Z hZ res n 0 _ _ _ rfl (Nat.zero_le _) st hS (ItemsOf.nil _) fun s2 acc c mv h2 hit => q s2 acc c mv h2 hit⟩)
  refine wpAny_bind (wpAny_rule ?_)
  refine wpAny_bind ?_
  show wpAny _ _ (updateSeq Z (·.push .none) >>= fun _ => updateSeq Z (·.pop)) _ _ _
  refine wpAny_bind (wpAny_updateSeq hS rfl ?_)
  have hS2 := Heap.get?_update_self (Obj.mapSeq (·.push Value.none)) hS rfl
  refine wpAny_updateSeq (hz := by seq_fits) hS2 rfl ?_
  have hS3 := Heap.get?_update_self (Obj.mapSeq (·.pop)) hS2 rfl
  have keep : ∀ b o, b ≠ Z → s.heap.get? b = some o → ((s.heap.update Z (Obj.mapSeq (·.push Value.none))).update Z (Obj.mapSeq (·.pop))).get? b = some o := fun b o nb e => by
    rw [Heap.get?_update_other _ _ (Ne.symm nb), Heap.get?_update_other _ _ (Ne.symm nb)]
    exact e
  refine wpAny_pure ⟨plainId_quiet PySem.F.plain_extend_loop _, codeAny_extend_loopS W hn Z hZ res n 0 _ _ _ rfl (Nat.zero_le _) (W.frame 0 s _ s.toks st (Nat.le_refl _) fun b hb o e => keep b o (fun z => hZ (z ▸ hb)) e) hS3 (ItemsOf.nil _) fun s2 acc c mv h2 hit => q s2 acc c ?_ h2 hit⟩
  exact Moved.trans W.gtrans ((Moved.refl W.grefl).then_heap (Nat.le_refl _) fun b o hb e => keep b o (fun z => hb (by rw [z]; exact List.mem_cons_self)) e) mv
theorem init_lri (W : WalksS prog w A.in1 I fp wr G n P St) (hT : ∀ i s, St i s → s.TypeIs (.ref I) "list_reverseiterator") (st : St 0 s) (hZ : Z ∉ fp) (hI : I ∈ fp) (hS : s.heap.get? Z = some (lstOb #[] 0)) (hn : n ≤ sizeLine)
    (q : ∀ s' acc c, Moved (Z :: wr) G s s' → s'.heap.get? Z = some (lstOb acc c) → ItemsOf P acc n → R (.ok (.ret .none)) s') :
    wpAny (model prog w) A.in1 (Builtin.«list.__init__» ⟨[.ref Z, .ref I], []⟩) (fun fin s' => match fin with | .done f => R (.ok f) s' | .again c' => c'.quiet = true ∧ codeAny (model prog w) A c' R s') (fun e s' => R (.error e) s') s := by
  show wpAny _ A.in1 (do
    let old ← Builtin.List.listItems (.ref Z)
    Builtin.List.listUpdate (.ref Z) (fun _ => #[])
    letGo old.toList.reverse
    Builtin.List.listExtendWith (.ref Z) (.ref I) .none) _ _ s
  refine wpAny_bind ?_
  unfold Builtin.List.listItems
  refine wpAny_bind (wpAny_seqItems hS rfl (wpAny_pure ?_))
  show wpAny _ A.in1 (updateSeq Z (fun _ => #[]) >>= fun _ => letGo (#[] : Array Value).toList.reverse >>= fun _ => Builtin.List.listExtendWith (.ref Z) (.ref I) .none) _ _ s
  refine wpAny_bind (wpAny_updateSeq hS rfl ?_)
  have hS2 := Heap.get?_update_self (Obj.mapSeq (fun _ => (#[] : Array Value))) hS rfl
  have keep : ∀ b o, b ≠ Z → s.heap.get? b = some o → (s.heap.update Z (Obj.mapSeq (fun _ => (#[] : Array Value)))).get? b = some o := fun b o nb e => by
    rw [Heap.get?_update_other _ _ (Ne.symm nb)]
    exact e
  refine wpAny_bind (wpAny_letGo ?_)
  refine ext_lri W hT (W.frame 0 s _ s.toks st (Nat.le_refl _) fun b hb o e => keep b o (fun z => hZ (z ▸ hb)) e) hZ hI hS2 hn fun s2 acc c mv h2 hit => q s2 acc c ?_ h2 hit
  exact Moved.trans W.gtrans ((Moved.refl W.grefl).then_heap (Nat.le_refl _) fun b o hb e => keep b o (fun z => hb (by rw [z]; exact List.mem_cons_self)) e) mv
theorem call_list_lri {Q : Value → Shared → Prop} (W : WalksS prog w A.in1.in1 I fp wr G n P St) (hT : ∀ i s, St i s → s.TypeIs (.ref I) "list_reverseiterator") (st : St 0 s) (hfp : ∀ b ∈ fp, b < s.heap.objs.size) (hI : I ∈ fp) (hn : n ≤ sizeLine)
    (q : ∀ s' acc c, Moved (s.heap.objs.size :: wr) G { s with heap := s.heap.push (lstOb #[] 0) } s' → s'.heap.get? s.heap.objs.size = some (lstOb acc c) → ItemsOf P acc n → Q (.ref s.heap.objs.size) s') :
    wpAny (model prog w) A (call (.type "list") [.ref I]) Q E s := by
  refine callType_codes (Q₁ := fun z s1 => z = .ref s.heap.objs.size ∧ s1 = { s with heap := s.heap.push (lstOb #[] 0) }) PySem.F.called_list (PySem.F.typeCall_list_1 _) PySem.F.entry_list_init (code_list_new _ ⟨rfl, rfl⟩) fun z s1 h1 => ?_
  obtain ⟨rfl, rfl⟩ := h1
  have hS : (s.heap.push (lstOb #[] 0)).get? s.heap.objs.size = some (lstOb #[] 0) := Heap.get?_push_size _ rfl
  refine ⟨⟨_, hS, rfl⟩, PySem.F.args_list_init_2 _ _, init_lri W hT (W.frame 0 s _ s.toks st (Nat.le_refl _) fun b _ o e => Heap.get?_push_of_some _ e) (fun z => Nat.lt_irrefl _ (hfp _ z)) hI hS hn fun s2 acc c mv h2 hit => ?_⟩
  exact ⟨rfl, q s2 acc c mv h2 hit⟩
end
section
variable {X : Cx}
def tListRev (K : PySem.W.Frag) (ta : TA) : TE := fun σ H Q => ta σ H fun vs H1 => ∃ a xs, vs = [.ref a] ∧ SqL K H1 a xs ∧ ∀ l, H1 l = none → Q (.ref l) (upd H1 l (.lst xs.reverse))
theorem rev_vals {xs : List V} {us acc : List Value} (r : Vals xs us) (hl : acc.length = us.length) (h : ∀ (i : Nat) v, acc[i]? = some v → us[us.length - 1 - i]? = some v) : Vals xs.reverse acc := by
  have e : acc = us.reverse := by
    apply List.ext_getElem?
    intro i
    by_cases hi : i < acc.length
    · rw [List.getElem?_reverse (by omega)]
      have := h i _ (List.getElem?_eq_getElem hi)
      rw [List.getElem?_eq_getElem hi, this]
    · rw [List.getElem?_eq_none (by omega), List.getElem?_eq_none (by rw [List.length_reverse]; omega)]
  rw [e]
  clear h hl e
  induction r with
  | nil => exact .nil
  | cons a _ ih =>
    rw [List.reverse_cons, List.reverse_cons]
    exact ih.append (.cons a .nil)
theorem pe_listRev {a : Expr} {ta : TA} {p p2 pos pos2 : Pos} (hc : X.calm = true) (hg : Gl X "list") (hm : X.mg "list" = none) (hv : bootBuiltins "list" = some (.type "list")) (hg2 : Gl X "reversed") (hm2 : X.mg "reversed" = none) (ha : PA X [a] ta)
    (hs : starEach [a] X.env = [(false, eval a X.env)] := by rfl) (he : starEach [Expr.Call (.Name "reversed" p2) [a] [] pos2] X.env = [(false, eval (Expr.Call (.Name "reversed" p2) [a] [] pos2) X.env)] := by rfl) :
    PE X (.Call (.Name "list" p) [.Call (.Name "reversed" p2) [a] [] pos2] [] pos) (tListRev X.K ta) := by
  intro pins s σ H Q I h
  refine wpAny_Call_Name_kw (ld_blt I hg hm hv ?_ (by decide) (by decide))
  refine PyProof.Rows.callWith_type1 ?_ he rfl
  rw [he]
  show wpAny _ _ (spliced [(false, eval (Expr.Call (.Name "reversed" p2) [a] [] pos2) X.env)]) _ _ s
  refine Calls.spliced_cons (Call_ (ld_blt I hg2 hm2 boot_reversed (PyProof.Rows.callWith_type1 (thn (ha pos2 pins s σ H _ I h) fun us s1 ⟨vs, H1, I1, r1, q1⟩ => ?_) hs rfl)))
  obtain ⟨b, xs, e, hq, q⟩ := q1
  subst e
  cases r1 with
  | cons r rr =>
    cases rr
    cases r
    obtain ⟨its, rv, pl, hz⟩ := I1.list hq
    refine call_reversed_list pl.isList ?_
    refine Calls.spliced_nil ?_
    have hlt : b < s1.heap.objs.size := by
      obtain ⟨o, n, e, _⟩ := pl
      exact Heap.lt_size e
    have hne : b ≠ s1.heap.objs.size := Nat.ne_of_lt hlt
    have hit : (s1.heap.push (revObj b ((its.toArray.size : Int) - 1))).IsRevIter s1.heap.objs.size b ((its.toArray.size : Int) - 1) := ⟨_, Heap.get?_push_size _ rfl, rfl, rfl⟩
    have hsz : its.toArray.size = xs.length := by rw [List.size_toArray, ← rv.length]
    refine call_list_lri (s := { s1 with heap := s1.heap.push (revObj b ((its.toArray.size : Int) - 1)) }) (Walks.listRev (by simp [I.ok.hd hc]) s1.heap.objs.size b hne its.toArray).toS (fun i s2 st => ?_) ⟨Nat.zero_le _, ?_, pl.isList.push _⟩ (fun c hc' => ?_) (by simp) (by rw [hsz]; exact hz) fun s3 acc c mv h3 hacc => ?_
    · exact st.2.1.typeIs
    · rw [show (its.toArray.size : Int) - 1 - ((0 : Nat) : Int) = (its.toArray.size : Int) - 1 by omega]
      exact hit
    · show c < (s1.heap.push _).objs.size
      rw [Heap.size_push]
      rcases List.mem_cons.mp hc' with z | z
      · rw [z]; exact Nat.lt_succ_self _
      · rw [List.mem_singleton.mp z]; exact Nat.lt_succ_of_lt hlt
    · obtain ⟨h4, g4, d4, k4, o4⟩ := s3
      have eg : g4 = s1.gens := mv.gens
      have ed : d4 = s1.drawn := mv.drawn
      have eo : o4 = s1.os := mv.os
      subst eg
      subst ed
      subst eo
      have hle : s1.heap.objs.size ≤ (s1.heap.push (revObj b ((its.toArray.size : Int) - 1))).objs.size := by rw [Heap.size_push]; exact Nat.le_succ _
      refine ⟨.ref _, _, I1.laid (h' := h4) (o := .lst xs.reverse) (t' := k4) (fun b' o' e' => ?_) hle ?_, rfl, q _ (I1.hok.fresh hle)⟩
      · have hb := Heap.lt_size e'
        refine mv.heap b' o' (fun z => ?_) (Heap.get?_push_of_some _ (Heap.get?_push_of_some _ e'))
        rcases List.mem_cons.mp z with z | z
        · rw [z] at hb
          exact Nat.lt_irrefl _ (Nat.lt_of_lt_of_le hb hle)
        · rw [List.mem_singleton.mp z] at hb
          exact Nat.lt_irrefl _ hb
      · refine ⟨by rw [List.length_reverse]; exact hz, acc.toList, c, rev_vals rv ?_ (fun i v hv => ?_), by simpa using h3⟩
        · rw [Array.length_toList, hacc.1, List.size_toArray]
        · have h5 := hacc.2 i v (by rw [← Array.getElem?_toList]; exact hv)
          simpa using h5
end
end L2

/-! Turnings as lists of naturals: the mathematics apart from the model. -/
namespace TM
/-- a row that has each place below n once -/
def IsT (n : Nat) (t : List Nat) : Prop := t.Perm (List.range n)
theorem IsT.length {n : Nat} {t : List Nat} (h : IsT n t) : t.length = n := by rw [List.Perm.length_eq h, List.length_range]
theorem IsT.lt {n : Nat} {t : List Nat} (h : IsT n t) {x : Nat} (hx : x ∈ t) : x < n := List.mem_range.mp ((List.Perm.mem_iff h).mp hx)
theorem IsT.mem {n : Nat} {t : List Nat} (h : IsT n t) {x : Nat} (hx : x < n) : x ∈ t := (List.Perm.mem_iff h).mpr (List.mem_range.mpr hx)
theorem IsT.nodup {n : Nat} {t : List Nat} (h : IsT n t) : t.Nodup := (List.Perm.nodup_iff h).mpr List.nodup_range
theorem IsT.range (n : Nat) : IsT n (List.range n) := List.Perm.refl _
theorem IsT.get_lt {n : Nat} {t : List Nat} (h : IsT n t) {i x : Nat} (hx : t[i]? = some x) : x < n := h.lt (List.mem_of_getElem? hx)
theorem IsT.at {n : Nat} {t : List Nat} (h : IsT n t) {i : Nat} (hi : i < n) : ∃ x, t[i]? = some x ∧ x < n := by
  have hi' : i < t.length := by rw [h.length]; exact hi
  exact ⟨t[i], List.getElem?_eq_getElem hi', h.lt (List.getElem_mem hi')⟩
theorem perm_of_sub : ∀ {t l : List Nat}, t.Nodup → (∀ x ∈ t, x ∈ l) → l.length ≤ t.length → t.Perm l
  | [], l, _, _, h => by
    have e : l = [] := List.length_eq_zero_iff.mp (Nat.le_zero.mp h)
    subst e
    exact List.Perm.refl _
  | a :: r, l, hn, hs, h => by
    obtain ⟨h1, h2⟩ := List.nodup_cons.mp hn
    have ha : a ∈ l := hs a List.mem_cons_self
    have p := List.perm_cons_erase ha
    have ih : r.Perm (l.erase a) := perm_of_sub h2 (fun x hx => by
      have hx' := hs x (List.mem_cons_of_mem _ hx)
      have ne : x ≠ a := fun e => h1 (e ▸ hx)
      rcases List.mem_cons.mp ((List.Perm.mem_iff p).mp hx') with e | e
      · exact absurd e ne
      · exact e) (by rw [List.length_erase_of_mem ha]; simp only [List.length_cons] at h; omega)
    exact (List.Perm.cons a ih).trans p.symm
/-- a row of n places that differ and lie below n has all of them -/
theorem isT_of {n : Nat} {t : List Nat} (hl : t.length = n) (hn : t.Nodup) (hlt : ∀ x ∈ t, x < n) : IsT n t :=
  perm_of_sub hn (fun x hx => List.mem_range.mpr (hlt x hx)) (by rw [hl, List.length_range]; exact Nat.le_refl _)

theorem erase_perm {α : Type} : ∀ (l : List α) (i : Nat) (x : α), l[i]? = some x → (x :: l.eraseIdx i).Perm l
  | [], _, _, h => by cases h
  | a :: r, 0, x, h => by
    cases h
    exact List.Perm.refl _
  | a :: r, i + 1, x, h => by
    have ih := erase_perm r i x (by simpa using h)
    rw [List.eraseIdx_cons_succ]
    exact (List.Perm.swap a x _).trans (List.Perm.cons a ih)
/-- one more drawn -/
theorem draw_perm {n : Nat} {row left : List Nat} {i x : Nat} (h : IsT n (row ++ left)) (hx : left[i]? = some x) : IsT n ((row ++ [x]) ++ left.eraseIdx i) := by
  refine List.Perm.trans ?_ h
  rw [List.append_assoc]
  exact List.Perm.append_left row (erase_perm left i x hx)
/-- a turned part: the places of a list, each taken to the next one -/
theorem turn_part {part row : List Nat} (hp : part ≠ []) (h : ∀ j, j < part.length → row[part.getD j 0]? = some (part.getD ((j + 1) % part.length) 0)) : (part.map fun x => row.getD x 0).Perm part := by
  have e : (part.map fun x => row.getD x 0) = part.drop 1 ++ part.take 1 := by
    apply List.ext_getElem?
    intro j
    have hL : 0 < part.length := List.length_pos_iff.mpr hp
    by_cases hj : j < part.length
    · rw [List.getElem?_map, List.getElem?_eq_getElem hj]
      have q := h j hj
      rw [List.getD_eq_getElem?_getD, List.getElem?_eq_getElem hj] at q
      simp only [Option.getD_some] at q
      simp only [Option.map_some, List.getD_eq_getElem?_getD, q, Option.getD_some]
      by_cases hj1 : j + 1 < part.length
      · rw [Nat.mod_eq_of_lt hj1, List.getElem?_append_left (by rw [List.length_drop]; omega), List.getElem?_drop, Nat.add_comm 1 j, List.getElem?_eq_getElem hj1]
        rfl
      · have hj2 : j + 1 = part.length := by omega
        rw [hj2, Nat.mod_self, List.getElem?_append_right (by rw [List.length_drop]; omega), List.length_drop]
        rw [show j - (part.length - 1) = 0 by omega, List.getElem?_take]
        simp [hL]
    · have h1 : part.length ≤ j := Nat.le_of_not_lt hj
      rw [List.getElem?_eq_none (by rw [List.length_map]; exact h1), List.getElem?_eq_none (by rw [List.length_append, List.length_drop, List.length_take]; omega)]
  rw [e]
  have q : (part.drop 1 ++ part.take 1).Perm (part.take 1 ++ part.drop 1) := List.perm_append_comm
  rwa [List.take_append_drop] at q
/-- between two parts of the knots: the first k of strewn are turned among themselves, the others stay -/
structure Knots (n : Nat) (strewn : List Nat) (k : Nat) (row : List Nat) : Prop where
  len : row.length = n
  stay : ∀ x ∈ strewn.drop k, row[x]? = some x
  turn : ((strewn.take k).map fun x => row.getD x 0).Perm (strewn.take k)
theorem Knots.start {n : Nat} {strewn : List Nat} (h : IsT n strewn) : Knots n strewn 0 (List.range n) := by
  refine ⟨List.length_range, fun x hx => ?_, List.Perm.refl _⟩
  have hx' : x < n := h.lt (by simpa using hx)
  rw [List.getElem?_range hx']
theorem Knots.done {n : Nat} {strewn row : List Nat} {k : Nat} (h : IsT n strewn) (kn : Knots n strewn k row) (hk : n ≤ k) : IsT n row := by
  have h1 := kn.turn
  rw [List.take_of_length_le (by rw [h.length]; exact hk)] at h1
  have e : row = (List.range n).map fun x => row.getD x 0 := by
    apply List.ext_getElem?
    intro i
    rw [List.getElem?_map]
    by_cases hi : i < n
    · rw [List.getElem?_range hi]
      have hi' : i < row.length := by rw [kn.len]; exact hi
      simp [List.getElem?_eq_getElem hi']
    · rw [List.getElem?_eq_none (by rw [kn.len]; omega), List.getElem?_eq_none (by rw [List.length_range]; omega)]
      rfl
  unfold IsT
  rw [e]
  exact ((List.Perm.map _ h.symm).trans h1).trans h
/-- amid a part: the first j of it have their new places -/
structure Amid (n : Nat) (part : List Nat) (row : List Nat) (j : Nat) (now : List Nat) : Prop where
  len : now.length = n
  out : ∀ x, x ∉ part.take j → now[x]? = row[x]?
  ins : ∀ i, i < j → now[part.getD i 0]? = some (part.getD ((i + 1) % part.length) 0)
theorem Amid.start {n : Nat} {part row : List Nat} (hl : row.length = n) : Amid n part row 0 row := ⟨hl, fun _ _ => rfl, fun i hi => absurd hi (Nat.not_lt_zero _)⟩
theorem Amid.step {n : Nat} {part row now : List Nat} {j x y : Nat} (a : Amid n part row j now) (hn : part.Nodup) (hlt : ∀ x ∈ part, x < n) (hx : part[j]? = some x) (hy : part[(j + 1) % part.length]? = some y) : Amid n part row (j + 1) (now.set x y) := by
  have hj : j < part.length := (List.getElem?_eq_some_iff.mp hx).1
  have hxn : x < now.length := by rw [a.len]; exact hlt x (List.mem_of_getElem? hx)
  refine ⟨by rw [List.length_set]; exact a.len, fun z hz => ?_, fun i hi => ?_⟩
  · have hz2 : z ∉ part.take j ∧ z ≠ x := by
      rw [List.take_add_one, hx] at hz
      simp only [Option.toList_some, List.mem_append, List.mem_singleton, not_or] at hz
      exact hz
    rw [List.getElem?_set_ne (Ne.symm hz2.2)]
    exact a.out z hz2.1
  · by_cases hij : i = j
    · subst hij
      rw [List.getD_eq_getElem?_getD, hx, List.getD_eq_getElem?_getD, hy]
      simp only [Option.getD_some]
      rw [List.getElem?_set_self hxn]
    · have hi' : i < j := by omega
      have hil : i < part.length := by omega
      have ne : part.getD i 0 ≠ x := by
        intro e
        rw [List.getD_eq_getElem?_getD, List.getElem?_eq_getElem hil, Option.getD_some] at e
        have e2 := (List.getElem?_eq_some_iff.mp hx).2
        exact hij ((List.getElem_inj hn).mp (e.trans e2.symm))
      rw [List.getElem?_set_ne (Ne.symm ne)]
      exact a.ins i hi'
theorem Amid.done {n : Nat} {strewn row now part : List Nat} {k : Nat} (h : IsT n strewn) (kn : Knots n strewn k row) (hp : part ≠ []) (he : part = (strewn.drop k).take part.length) (a : Amid n part row part.length now) :
    Knots n strewn (k + part.length) now := by
  have hsplit : strewn = strewn.take k ++ (part ++ strewn.drop (k + part.length)) := by
    have e1 : strewn.drop k = part ++ strewn.drop (k + part.length) := by
      have := List.take_append_drop part.length (strewn.drop k)
      rw [← he, List.drop_drop] at this
      exact this.symm
    rw [← e1, List.take_append_drop]
  have hnd := h.nodup
  rw [hsplit] at hnd
  have hd1 := (List.nodup_append.mp hnd)
  have hd2 := (List.nodup_append.mp hd1.2.1)
  have outTake : ∀ x ∈ strewn.take k, x ∉ part := fun x hx hq => hd1.2.2 x hx x (List.mem_append_left _ hq) rfl
  have outDrop : ∀ x ∈ strewn.drop (k + part.length), x ∉ part := fun x hx hq => hd2.2.2 x hq x hx rfl
  have allP : part.take part.length = part := List.take_of_length_le (Nat.le_refl _)
  refine ⟨a.len, fun x hx => ?_, ?_⟩
  · rw [a.out x (by rw [allP]; exact outDrop x hx)]
    refine kn.stay x ?_
    have e1 : strewn.drop k = part ++ strewn.drop (k + part.length) := by
      have := List.take_append_drop part.length (strewn.drop k)
      rw [← he, List.drop_drop] at this
      exact this.symm
    rw [e1]
    exact List.mem_append_right _ hx
  · have e2 : strewn.take (k + part.length) = strewn.take k ++ part := by
      rw [List.take_add, ← he]
    rw [e2, List.map_append]
    refine List.Perm.append ?_ (turn_part hp fun j hj => a.ins j hj)
    have e3 : ((strewn.take k).map fun x => now.getD x 0) = (strewn.take k).map fun x => row.getD x 0 := by
      apply List.map_congr_left
      intro x hx
      rw [List.getD_eq_getElem?_getD, List.getD_eq_getElem?_getD, a.out x (by rw [allP]; exact outTake x hx)]
    rw [e3]
    exact kn.turn
end TM

/-! Backs and one behind the other, on rows of naturals. -/
namespace TM
theorem IsT.map {n : Nat} {s t : List Nat} (hs : IsT n s) (ht : IsT n t) : IsT n (s.map fun x => t.getD x 0) := by
  have e : ((List.range n).map fun x => t.getD x 0) = t := by
    apply List.ext_getElem?
    intro i
    rw [List.getElem?_map]
    by_cases hi : i < n
    · rw [List.getElem?_range hi]
      have hi' : i < t.length := by rw [ht.length]; exact hi
      simp [List.getElem?_eq_getElem hi']
    · rw [List.getElem?_eq_none (by rw [List.length_range]; omega), List.getElem?_eq_none (by rw [ht.length]; omega)]
      rfl
  have h1 := List.Perm.map (fun x => t.getD x 0) hs
  rw [e] at h1
  exact h1.trans ht
theorem getD_of {t : List Nat} {i x : Nat} (h : t[i]? = some x) : t.getD i 0 = x := by rw [List.getD_eq_getElem?_getD, h]; rfl
theorem map_get {s t : List Nat} {i x y : Nat} (hs : s[i]? = some x) (ht : t[x]? = some y) : (s.map fun x => t.getD x 0)[i]? = some y := by
  rw [List.getElem?_map, hs]
  simp only [Option.map_some]
  rw [getD_of ht]
theorem IsT.hit {n : Nat} {t : List Nat} (h : IsT n t) {y : Nat} (hy : y < n) : ∃ x, t[x]? = some y ∧ x < n := by
  obtain ⟨x, hx⟩ := List.getElem?_of_mem (h.mem hy)
  exact ⟨x, hx, by have := (List.getElem?_eq_some_iff.mp hx).1; rwa [h.length] at this⟩
theorem IsT.inj {n : Nat} {t : List Nat} (h : IsT n t) {i j x : Nat} (hi : t[i]? = some x) (hj : t[j]? = some x) : i = j := by
  obtain ⟨h1, e1⟩ := List.getElem?_eq_some_iff.mp hi
  obtain ⟨h2, e2⟩ := List.getElem?_eq_some_iff.mp hj
  exact (List.getElem_inj h.nodup).mp (e1.trans e2.symm)
/-- b leads back from where t leads, so far for the first k places -/
structure Back (n : Nat) (t : List Nat) (k : Nat) (b : List Nat) : Prop where
  len : b.length = n
  ret : ∀ x y, x < k → t[x]? = some y → b[y]? = some x
theorem Back.start {n : Nat} {t b : List Nat} (h : b.length = n) : Back n t 0 b := ⟨h, fun _ _ h => absurd h (Nat.not_lt_zero _)⟩
theorem Back.step {n : Nat} {t b : List Nat} {k y : Nat} (hT : IsT n t) (h : Back n t k b) (hy : t[k]? = some y) : Back n t (k + 1) (b.set y k) := by
  have hyn : y < b.length := by rw [h.len]; exact hT.get_lt hy
  refine ⟨by rw [List.length_set]; exact h.len, fun x z hx hz => ?_⟩
  by_cases e : x = k
  · subst e
    rw [hy] at hz
    cases hz
    rw [List.getElem?_set_self hyn]
  · have ne : y ≠ z := fun q => e (hT.inj hz (q ▸ hy))
    rw [List.getElem?_set_ne ne]
    exact h.ret x z (by omega) hz
theorem Back.lt {n : Nat} {t b : List Nat} (hT : IsT n t) (h : Back n t n b) {y x : Nat} (hy : b[y]? = some x) : x < n ∧ t[x]? = some y := by
  have hyn : y < n := by have := (List.getElem?_eq_some_iff.mp hy).1; rwa [h.len] at this
  obtain ⟨z, hz, hzn⟩ := hT.hit hyn
  have := h.ret z y hzn hz
  rw [hy] at this
  cases this
  exact ⟨hzn, hz⟩
theorem Back.get {n : Nat} {t b : List Nat} (hT : IsT n t) (h : Back n t n b) {y : Nat} (hy : y < n) : ∃ x, b[y]? = some x ∧ x < n ∧ t[x]? = some y := by
  obtain ⟨x, hx, hxn⟩ := hT.hit hy
  exact ⟨x, h.ret x y hxn hx, hxn, hx⟩
theorem Back.mem_lt {n : Nat} {t b : List Nat} (hT : IsT n t) (h : Back n t n b) {x : Nat} (hx : x ∈ b) : x < n := by
  obtain ⟨y, hy⟩ := List.getElem?_of_mem hx
  exact (h.lt hT hy).1
theorem Back.isT {n : Nat} {t b : List Nat} (hT : IsT n t) (h : Back n t n b) : IsT n b := by
  refine isT_of h.len ?_ fun x hx => h.mem_lt hT hx
  refine List.pairwise_iff_getElem.mpr fun i j hi hj hij e => ?_
  have h1 := (h.lt hT (List.getElem?_eq_getElem hi)).2
  have h2 := (h.lt hT (List.getElem?_eq_getElem hj)).2
  rw [e, h2] at h1
  cases h1
  exact Nat.lt_irrefl _ hij
/-- the backs behind one another, the last one first -/
theorem Back.comp {n : Nat} {s t b c : List Nat} (hs : IsT n s) (ht : IsT n t) (h : Back n s n b) (h' : Back n t n c) : Back n (s.map fun x => t.getD x 0) n (c.map fun x => b.getD x 0) := by
  refine ⟨by rw [List.length_map]; exact h'.len, fun x z hx hz => ?_⟩
  obtain ⟨y, hy, hyn⟩ := hs.at hx
  obtain ⟨z', hz', _⟩ := ht.at hyn
  rw [map_get hy hz'] at hz
  cases hz
  exact map_get (h'.ret y z hyn hz') (h.ret x y hx hy)
theorem Back.range (n : Nat) : Back n (List.range n) n (List.range n) := ⟨List.length_range, fun x y hx hy => by
  rw [List.getElem?_range hx] at hy
  cases hy
  exact List.getElem?_range hx⟩
end TM

/-! Loops of a turning: steps along it, the period of a place, the loop from a place. -/
namespace TM
/-- k steps from x -/
def it (t : List Nat) : Nat → Nat → Nat
  | 0, x => x
  | k + 1, x => t.getD (it t k x) 0
theorem it_succ (t : List Nat) (k x : Nat) : it t (k + 1) x = t.getD (it t k x) 0 := rfl
theorem it_add (t : List Nat) (j : Nat) : ∀ (k x : Nat), it t (j + k) x = it t k (it t j x)
  | 0, _ => rfl
  | k + 1, x => by
    show t.getD (it t (j + k) x) 0 = t.getD (it t k (it t j x)) 0
    rw [it_add t j k x]
theorem it_one (t : List Nat) (x : Nat) : it t 1 x = t.getD x 0 := rfl
section
variable {n : Nat} {t : List Nat} (h : IsT n t)
include h
theorem IsT.step_lt {x : Nat} (hx : x < n) : t.getD x 0 < n := by
  obtain ⟨y, hy, hyn⟩ := h.at hx
  rw [getD_of hy]
  exact hyn
theorem IsT.get_step {x : Nat} (hx : x < n) : t[x]? = some (t.getD x 0) := by
  obtain ⟨y, hy, _⟩ := h.at hx
  rw [getD_of hy, hy]
theorem IsT.it_lt {x : Nat} (hx : x < n) : ∀ k, it t k x < n
  | 0 => hx
  | k + 1 => h.step_lt (IsT.it_lt hx k)
theorem IsT.step_inj {x y : Nat} (hx : x < n) (hy : y < n) (e : t.getD x 0 = t.getD y 0) : x = y := h.inj (h.get_step hx) (e ▸ h.get_step hy)
theorem IsT.it_inj {x y : Nat} (hx : x < n) (hy : y < n) : ∀ k, it t k x = it t k y → x = y
  | 0, e => e
  | k + 1, e => IsT.it_inj hx hy k (h.step_inj (h.it_lt hx k) (h.it_lt hy k) e)
end
theorem len_le_of {l : List Nat} {n : Nat} (hn : l.Nodup) (hlt : ∀ x ∈ l, x < n) : l.length ≤ n := by
  refine Nat.le_of_not_lt fun hc => ?_
  have p := perm_of_sub hn (fun x hx => List.mem_range.mpr (hlt x hx)) (by rw [List.length_range]; omega)
  have := p.length_eq
  rw [List.length_range] at this
  omega
/-- the least number of steps, from one on, that lead back to x -/
def per (t : List Nat) (x : Nat) : Nat := ((List.range t.length).find? fun j => it t (j + 1) x == x).getD 0 + 1
section
variable {n : Nat} {t : List Nat} (h : IsT n t)
include h
theorem IsT.back_some {x : Nat} (hx : x < n) : ∃ j, j < n ∧ it t (j + 1) x = x := by
  refine Classical.byContradiction fun hc => ?_
  have nd : ((List.range (n + 1)).map fun k => it t k x).Nodup := by
    refine List.pairwise_iff_getElem.mpr fun i j hi hj hij e => ?_
    simp only [List.length_map, List.length_range] at hi hj
    simp only [List.getElem_map, List.getElem_range] at e
    have e2 : it t (j - i) x = x := by
      have e3 : it t j x = it t i (it t (j - i) x) := by rw [← it_add]; congr 1; omega
      rw [e3] at e
      exact (h.it_inj hx (h.it_lt hx _) i e).symm
    exact hc ⟨j - i - 1, by omega, by rw [show j - i - 1 + 1 = j - i by omega]; exact e2⟩
  have := len_le_of nd fun y hy => by
    obtain ⟨k, _, rfl⟩ := List.mem_map.mp hy
    exact h.it_lt hx k
  simp only [List.length_map, List.length_range] at this
  omega
theorem IsT.per_spec {x : Nat} (hx : x < n) : 1 ≤ per t x ∧ per t x ≤ n ∧ it t (per t x) x = x ∧ ∀ j, 1 ≤ j → j < per t x → it t j x ≠ x := by
  obtain ⟨j, hj, ej⟩ := h.back_some hx
  have hsome : ((List.range t.length).find? fun j => it t (j + 1) x == x).isSome = true := by
    rw [List.find?_isSome]
    exact ⟨j, List.mem_range.mpr (by rw [h.length]; exact hj), by simpa using ej⟩
  obtain ⟨k, hk⟩ := Option.isSome_iff_exists.mp hsome
  have e : per t x = k + 1 := by unfold per; rw [hk]; rfl
  rw [e]
  rw [List.find?_range_eq_some] at hk
  obtain ⟨h1, h2, h3⟩ := hk
  refine ⟨by omega, by have := List.mem_range.mp h2; rw [h.length] at this; omega, by simpa using h1, fun i hi1 hi2 => ?_⟩
  have := h3 (i - 1) (by omega)
  rw [show i - 1 + 1 = i by omega] at this
  simpa using this
theorem IsT.per_pos {x : Nat} (hx : x < n) : 0 < per t x := (h.per_spec hx).1
theorem IsT.per_back {x : Nat} (hx : x < n) : it t (per t x) x = x := (h.per_spec hx).2.2.1
theorem IsT.it_mul {x : Nat} (hx : x < n) : ∀ q, it t (per t x * q) x = x
  | 0 => rfl
  | q + 1 => by rw [Nat.mul_succ, it_add, IsT.it_mul hx q, h.per_back hx]
theorem IsT.it_mod {x : Nat} (hx : x < n) (k : Nat) : it t (k % per t x) x = it t k x := by
  have e : k = per t x * (k / per t x) + k % per t x := (Nat.div_add_mod k (per t x)).symm
  conv => rhs; rw [e, it_add, h.it_mul hx]
theorem IsT.it_eq_iff {x : Nat} (hx : x < n) {i j : Nat} (hi : i < per t x) (hj : j < per t x) (e : it t i x = it t j x) : i = j := by
  have key : ∀ {i j : Nat}, i ≤ j → j < per t x → it t i x = it t j x → i = j := fun {i j} hij hj e => by
    by_cases hq : i = j
    · exact hq
    · exfalso
      have e3 : it t j x = it t i (it t (j - i) x) := by rw [← it_add]; congr 1; omega
      rw [e3] at e
      have e2 := (h.it_inj hx (h.it_lt hx _) i e).symm
      exact (h.per_spec hx).2.2.2 (j - i) (by omega) (by omega) e2
  rcases Nat.le_total i j with q | q
  · exact key q hj e
  · exact (key q hi e.symm).symm
end
/-- the loop from x on -/
def cyc (t : List Nat) (x : Nat) : List Nat := (List.range (per t x)).map fun j => it t j x
theorem mem_cyc {t : List Nat} {x y : Nat} : y ∈ cyc t x ↔ ∃ j, j < per t x ∧ y = it t j x := by
  unfold cyc
  rw [List.mem_map]
  constructor
  · rintro ⟨j, hj, rfl⟩
    exact ⟨j, List.mem_range.mp hj, rfl⟩
  · rintro ⟨j, hj, rfl⟩
    exact ⟨j, List.mem_range.mpr hj, rfl⟩
section
variable {n : Nat} {t : List Nat} (h : IsT n t)
include h
theorem IsT.mem_cyc_it {x : Nat} (hx : x < n) (k : Nat) : it t k x ∈ cyc t x := mem_cyc.mpr ⟨k % per t x, Nat.mod_lt _ (h.per_pos hx), (h.it_mod hx k).symm⟩
theorem IsT.self_mem {x : Nat} (hx : x < n) : x ∈ cyc t x := h.mem_cyc_it hx 0
theorem IsT.cyc_lt {x y : Nat} (hx : x < n) (hy : y ∈ cyc t x) : y < n := by
  obtain ⟨j, _, rfl⟩ := mem_cyc.mp hy
  exact h.it_lt hx j
theorem IsT.cyc_symm {x y : Nat} (hx : x < n) (hy : y ∈ cyc t x) : x ∈ cyc t y := by
  obtain ⟨j, hj, rfl⟩ := mem_cyc.mp hy
  have e : it t (per t x - j) (it t j x) = x := by
    rw [← it_add, show j + (per t x - j) = per t x by omega]
    exact h.per_back hx
  have := h.mem_cyc_it (h.it_lt hx j) (per t x - j)
  rwa [e] at this
theorem IsT.cyc_trans {x y z : Nat} (hx : x < n) (hy : y ∈ cyc t x) (hz : z ∈ cyc t y) : z ∈ cyc t x := by
  obtain ⟨j, _, rfl⟩ := mem_cyc.mp hy
  obtain ⟨k, _, rfl⟩ := mem_cyc.mp hz
  rw [← it_add]
  exact h.mem_cyc_it hx _
theorem IsT.per_it {x : Nat} (hx : x < n) (j : Nat) : per t (it t j x) = per t x := by
  have hy := h.it_lt hx j
  have le1 : ∀ {x : Nat} (hx : x < n) (j : Nat), per t (it t j x) ≤ per t x := fun {x} hx j => by
    have hy := h.it_lt hx j
    refine Nat.le_of_not_lt fun hc => ?_
    refine (h.per_spec hy).2.2.2 (per t x) (h.per_pos hx) hc ?_
    rw [← it_add, Nat.add_comm, it_add, h.per_back hx]
  refine Nat.le_antisymm (le1 hx j) ?_
  have e : it t (per t x * (j + 1) - j) (it t j x) = x := by
    have hle : j ≤ per t x * (j + 1) := Nat.le_trans (Nat.le_succ j) (by have := Nat.mul_le_mul_right (j + 1) (h.per_pos hx); omega)
    rw [← it_add, show j + (per t x * (j + 1) - j) = per t x * (j + 1) by omega]
    exact h.it_mul hx _
  have := le1 hy (per t x * (j + 1) - j)
  rwa [e] at this
end
/-! ### the loop as it is found, place by place -/
structure Chain (t : List Nat) (x k : Nat) (c : List Nat) : Prop where
  eq : c = (List.range k).map fun j => it t j x
  pos : 1 ≤ k
  no : ∀ j, 1 ≤ j → j < k → it t j x ≠ x
theorem Chain.start (t : List Nat) (x : Nat) : Chain t x 1 [x] := ⟨rfl, Nat.le_refl _, fun j h1 h2 => absurd h2 (by omega)⟩
theorem Chain.step {t : List Nat} {x k : Nat} {c : List Nat} (h : Chain t x k c) (hn : it t k x ≠ x) : Chain t x (k + 1) (c ++ [it t k x]) := by
  refine ⟨?_, by omega, fun j h1 h2 => ?_⟩
  · rw [h.eq, List.range_succ, List.map_append]
    rfl
  · by_cases e : j = k
    · rw [e]; exact hn
    · exact h.no j h1 (by omega)
theorem Chain.le {n : Nat} {t : List Nat} {x k : Nat} {c : List Nat} (hT : IsT n t) (hx : x < n) (h : Chain t x k c) : k ≤ per t x := by
  refine Nat.le_of_not_lt fun hc => ?_
  exact h.no (per t x) (hT.per_pos hx) hc (hT.per_back hx)
theorem Chain.done {n : Nat} {t : List Nat} {x k : Nat} {c : List Nat} (hT : IsT n t) (hx : x < n) (h : Chain t x k c) (e : it t k x = x) : c = cyc t x := by
  have h1 := h.le hT hx
  have h2 : k = per t x := by
    by_cases q : k = per t x
    · exact q
    · exact absurd e ((hT.per_spec hx).2.2.2 k h.pos (by omega))
  rw [h.eq, h2]
  rfl
/-! ### all loops -/
def isLeast (t : List Nat) (x : Nat) : Bool := (cyc t x).all fun y => decide (x ≤ y)
/-- x has been met: some place below k has it in its loop -/
def Met (t : List Nat) (k x : Nat) : Prop := ∃ y, y < k ∧ x ∈ cyc t y
/-! ### the power -/
def pw (t : List Nat) (m : Int) (x : Nat) : Nat := it t (m % (per t x : Int)).toNat x
def pwT (t : List Nat) (m : Int) : List Nat := (List.range t.length).map (pw t m)
end TM

/-! Powers along the loops. -/
namespace TM
theorem least_of : ∀ (l : List Nat), l ≠ [] → ∃ y ∈ l, ∀ z ∈ l, y ≤ z
  | [], h => absurd rfl h
  | [a], _ => ⟨a, List.mem_cons_self, fun z hz => by rw [List.mem_singleton.mp hz]; exact Nat.le_refl _⟩
  | a :: b :: r, _ => by
    obtain ⟨y, hy, hl⟩ := least_of (b :: r) (by simp)
    by_cases q : a ≤ y
    · exact ⟨a, List.mem_cons_self, fun z hz => by
        rcases List.mem_cons.mp hz with e | e
        · rw [e]; exact Nat.le_refl _
        · exact Nat.le_trans q (hl z e)⟩
    · exact ⟨y, List.mem_cons_of_mem _ hy, fun z hz => by
        rcases List.mem_cons.mp hz with e | e
        · rw [e]; omega
        · exact hl z e⟩
section
variable {n : Nat} {t : List Nat} (hT : IsT n t)
include hT
theorem IsT.per_mem {x y : Nat} (hx : x < n) (hy : y ∈ cyc t x) : per t y = per t x := by
  obtain ⟨j, _, rfl⟩ := mem_cyc.mp hy
  exact hT.per_it hx j
/-- the least place of a place's loop -/
theorem IsT.head {x : Nat} (hx : x < n) : ∃ h, h < n ∧ isLeast t h = true ∧ x ∈ cyc t h ∧ h ∈ cyc t x ∧ per t h = per t x := by
  obtain ⟨h, hh, hl⟩ := least_of (cyc t x) (fun e => by have := hT.self_mem hx; rw [e] at this; cases this)
  have hhn := hT.cyc_lt hx hh
  refine ⟨h, hhn, ?_, hT.cyc_symm hx hh, hh, hT.per_mem hx hh⟩
  unfold isLeast
  rw [List.all_eq_true]
  exact fun y hy => decide_eq_true (hl y (hT.cyc_trans hx hh hy))
theorem IsT.stay {x : Nat} (hx : x < n) (hp : ¬ 1 < per t x) : t[x]? = some x := by
  have h1 := hT.per_pos hx
  have h2 := hT.per_back hx
  rw [show per t x = 1 by omega, it_one] at h2
  have := hT.get_step hx
  rwa [h2] at this
theorem IsT.pwT_get (m : Int) {x : Nat} (hx : x < n) : (pwT t m)[x]? = some (pw t m x) := by
  unfold pwT
  rw [List.getElem?_map, List.getElem?_range (by rw [hT.length]; exact hx)]
  rfl
theorem IsT.pwT_len (m : Int) : (pwT t m).length = n := by unfold pwT; rw [List.length_map, List.length_range, hT.length]
theorem IsT.eq_pwT {g : List Nat} {m : Int} (hl : g.length = n) (h : ∀ x, x < n → g[x]? = some (pw t m x)) : g = pwT t m := by
  apply List.ext_getElem?
  intro x
  by_cases hx : x < n
  · rw [h x hx, hT.pwT_get m hx]
  · rw [List.getElem?_eq_none (by omega), List.getElem?_eq_none (by rw [hT.pwT_len]; omega)]
end
/-- amid the making of a power: the places in S have theirs, the others stay -/
structure Pow (n : Nat) (t : List Nat) (m : Int) (S : Nat → Prop) (g : List Nat) : Prop where
  len : g.length = n
  ins : ∀ x, x < n → S x → g[x]? = some (pw t m x)
  out : ∀ x, x < n → ¬ S x → g[x]? = t[x]?
theorem Pow.start {n : Nat} {t : List Nat} {m : Int} {S : Nat → Prop} (hT : IsT n t) (hS : ∀ x, ¬ S x) : Pow n t m S t := ⟨hT.length, fun x _ h => absurd h (hS x), fun _ _ _ => rfl⟩
theorem Pow.congr {n : Nat} {t g : List Nat} {m : Int} {S S' : Nat → Prop} (h : Pow n t m S g) (e : ∀ x, x < n → (S x ↔ S' x)) : Pow n t m S' g :=
  ⟨h.len, fun x hx q => h.ins x hx ((e x hx).mpr q), fun x hx q => h.out x hx fun z => q ((e x hx).mp z)⟩
theorem Pow.set {n : Nat} {t g : List Nat} {m : Int} {S : Nat → Prop} {p : Nat} (h : Pow n t m S g) (hp : p < n) : Pow n t m (fun x => S x ∨ x = p) (g.set p (pw t m p)) := by
  have hpl : p < g.length := by rw [h.len]; exact hp
  refine ⟨by rw [List.length_set]; exact h.len, fun x hx q => ?_, fun x hx q => ?_⟩
  · by_cases e : x = p
    · subst e
      rw [List.getElem?_set_self hpl]
    · rw [List.getElem?_set_ne (Ne.symm e)]
      exact h.ins x hx (q.resolve_right e)
  · have e : x ≠ p := fun z => q (.inr z)
    rw [List.getElem?_set_ne (Ne.symm e)]
    exact h.out x hx fun z => q (.inl z)
theorem Pow.done {n : Nat} {t g : List Nat} {m : Int} {S : Nat → Prop} (hT : IsT n t) (h : Pow n t m S g) (hS : ∀ x, x < n → 1 < per t x → S x) : g = pwT t m := hT.eq_pwT h.len fun x hx => by
  by_cases hp : 1 < per t x
  · exact h.ins x hx (hS x hx hp)
  · by_cases q : S x
    · exact h.ins x hx q
    · rw [h.out x hx q, hT.stay hx hp]
      have h1 := hT.per_pos hx
      unfold pw
      rw [show per t x = 1 by omega, show m % ((1 : Nat) : Int) = 0 from Int.emod_one m]
      rfl
end TM

/-! Heads and loops: order among them, lengths, least common multiples, sorted rows. -/
namespace TM
section
variable {n : Nat} {t : List Nat} (hT : IsT n t)
include hT
end
theorem lcm_pos {a b : Nat} (ha : 0 < a) (hb : 0 < b) : 0 < Nat.lcm a b := Nat.lcm_pos ha hb
theorem lcm_more {s L m j : Nat} (hm : Nat.lcm s L = s * m) (hjm : j ≤ m) (hd : (s * j) % L ≠ 0) : j + 1 ≤ m := by
  by_cases e : j = m
  · exfalso
    apply hd
    rw [e, ← hm]
    exact Nat.mod_eq_zero_of_dvd (Nat.dvd_lcm_right s L)
  · omega
theorem lcm_split (s L : Nat) : ∃ m, Nat.lcm s L = s * m := Nat.dvd_lcm_left s L
end TM

/-! Shapes: the lengths of the loops, falling, with a 1 for each place that stays; products in steps. -/
namespace TM
/-- ints of naturals -/
def iN (l : List Nat) : List Int := l.map fun (x : Nat) => (x : Int)
theorem iN_length (l : List Nat) : (iN l).length = l.length := List.length_map _
/-- where a search for the next common multiple stands: step * j, not yet beyond -/
structure Srch (s L : Nat) (c : Nat) (j : Nat) : Prop where
  eq : c = s * j
  pos : 1 ≤ j
  le : s * j ≤ Nat.lcm s L
theorem Srch.start {s L : Nat} (hs : 0 < s) (hL : 0 < L) : Srch s L s 1 := ⟨by rw [Nat.mul_one], Nat.le_refl _, by
  rw [Nat.mul_one]
  exact Nat.le_of_dvd (Nat.lcm_pos hs hL) (Nat.dvd_lcm_left s L)⟩
theorem Srch.done {s L c j : Nat} (hs : 0 < s) (h : Srch s L c j) (hd : c % L = 0) : c = Nat.lcm s L := by
  obtain ⟨rfl, h1, h2⟩ := h
  have h3 : Nat.lcm s L ∣ s * j := Nat.lcm_dvd (Nat.dvd_mul_right s j) (Nat.dvd_of_mod_eq_zero hd)
  exact Nat.le_antisymm h2 (Nat.le_of_dvd (Nat.mul_pos hs h1) h3)
theorem Srch.more {s L c j : Nat} (hs : 0 < s) (h : Srch s L c j) (hd : c % L ≠ 0) : Srch s L (c + s) (j + 1) := by
  obtain ⟨rfl, h1, h2⟩ := h
  refine ⟨by rw [Nat.mul_succ], by omega, ?_⟩
  obtain ⟨m, hm⟩ := lcm_split s L
  rw [hm] at h2 ⊢
  have hjm : j ≤ m := Nat.le_of_mul_le_mul_left h2 hs
  exact Nat.mul_le_mul_left s (lcm_more hm hjm hd)
end TM

/-! Turned about: conjugates have the same shape. -/
namespace TM
/-- the least of a row -/
def least (l : List Nat) : Nat := l.foldl min (l.headD 0)
section
variable {n : Nat} {t : List Nat} (hT : IsT n t)
include hT
theorem IsT.mem_iff {x y z : Nat} (hx : x < n) (hy : y ∈ cyc t x) : z ∈ cyc t y ↔ z ∈ cyc t x :=
  ⟨fun h => hT.cyc_trans hx hy h, fun h => hT.cyc_trans (hT.cyc_lt hx hy) (hT.cyc_symm hx hy) h⟩
end
/-- c is t turned about by b -/
structure Conj (n : Nat) (t b c : List Nat) : Prop where
  len : c.length = n
  go : ∀ x, x < n → c[b.getD x 0]? = some (b.getD (t.getD x 0) 0)
section
variable {n : Nat} {t b c : List Nat} (hT : IsT n t) (hB : IsT n b)
include hT hB
theorem Conj.isT (h : Conj n t b c) : IsT n c := by
  have hv : ∀ y z, c[y]? = some z → y < n → ∃ x, x < n ∧ b.getD x 0 = y ∧ z = b.getD (t.getD x 0) 0 := fun y z hz hy => by
    obtain ⟨x, hx, hxn⟩ := hB.hit hy
    have e := getD_of hx
    have := h.go x hxn
    rw [e, hz] at this
    exact ⟨x, hxn, e, Option.some.inj this⟩
  refine isT_of h.len ?_ fun z hz => ?_
  · refine List.pairwise_iff_getElem.mpr fun i j hi hj hij e => ?_
    obtain ⟨x, hx, ex, e1⟩ := hv i _ (List.getElem?_eq_getElem hi) (by rw [← h.len]; exact hi)
    obtain ⟨y, hy, ey, e2⟩ := hv j _ (List.getElem?_eq_getElem hj) (by rw [← h.len]; exact hj)
    rw [e1, e2] at e
    have q := hB.step_inj (hT.step_lt hx) (hT.step_lt hy) e
    have q2 := hT.step_inj hx hy q
    rw [← ex, ← ey, q2] at hij
    exact Nat.lt_irrefl _ hij
  · obtain ⟨y, hy⟩ := List.getElem?_of_mem hz
    have hyn : y < n := by have := (List.getElem?_eq_some_iff.mp hy).1; rwa [h.len] at this
    obtain ⟨x, hx, _, e⟩ := hv y z hy hyn
    rw [e]
    exact hB.step_lt (hT.step_lt hx)
theorem Conj.step (h : Conj n t b c) {x : Nat} (hx : x < n) : c.getD (b.getD x 0) 0 = b.getD (t.getD x 0) 0 := getD_of (h.go x hx)
theorem Conj.it (h : Conj n t b c) {x : Nat} (hx : x < n) : ∀ k, it c k (b.getD x 0) = b.getD (TM.it t k x) 0
  | 0 => rfl
  | k + 1 => by
    show c.getD (TM.it c k (b.getD x 0)) 0 = b.getD (t.getD (TM.it t k x) 0) 0
    rw [Conj.it h hx k, h.step hT hB (hT.it_lt hx k)]
theorem Conj.per (h : Conj n t b c) {x : Nat} (hx : x < n) : per c (b.getD x 0) = per t x := by
  have hC := h.isT hT hB
  have hbx := hB.step_lt hx
  refine Nat.le_antisymm (Nat.le_of_not_lt fun hc => ?_) (Nat.le_of_not_lt fun hc => ?_)
  · refine (hC.per_spec hbx).2.2.2 (TM.per t x) (hT.per_pos hx) hc ?_
    rw [h.it hT hB hx, hT.per_back hx]
  · refine (hT.per_spec hx).2.2.2 (TM.per c (b.getD x 0)) (hC.per_pos hbx) hc ?_
    have e := hC.per_back hbx
    rw [h.it hT hB hx] at e
    exact hB.step_inj (hT.it_lt hx _) hx e
theorem Conj.mem (h : Conj n t b c) {x y : Nat} (hx : x < n) (hy : y < n) (hm : b.getD y 0 ∈ cyc c (b.getD x 0)) : y ∈ cyc t x := by
  obtain ⟨j, _, e⟩ := mem_cyc.mp hm
  rw [h.it hT hB hx] at e
  rw [hB.step_inj hy (hT.it_lt hx j) e]
  exact hT.mem_cyc_it hx j
theorem Conj.back (h : Conj n t b c) {d : List Nat} (hd : Back n b n d) : Conj n c d t := by
  refine ⟨hT.length, fun y hy => ?_⟩
  obtain ⟨x, hx, hxn, hbx⟩ := hd.get hB hy
  have e := getD_of hbx
  have e1 : d.getD y 0 = x := getD_of hx
  have e2 : c.getD y 0 = b.getD (t.getD x 0) 0 := by rw [← e]; exact h.step hT hB hxn
  have htx := hT.step_lt hxn
  have e3 : d.getD (b.getD (t.getD x 0) 0) 0 = t.getD x 0 := getD_of (hd.ret _ _ htx (hB.get_step htx))
  rw [e1, e2, e3]
  exact hT.get_step hxn
end
/-- turned about by one and then by another -/
theorem Conj.comp {n : Nat} {t b c e d : List Nat} (hT : IsT n t) (hB : IsT n b) (h : Conj n t b c) (h' : Conj n c e d) : Conj n t (b.map fun x => e.getD x 0) d := by
  have hg : ∀ x, x < n → (b.map fun x => e.getD x 0).getD x 0 = e.getD (b.getD x 0) 0 := fun x hx => by
    rw [List.getD_eq_getElem?_getD, List.getElem?_map, hB.get_step hx]
    rfl
  refine ⟨h'.len, fun x hx => ?_⟩
  rw [hg x hx, hg _ (hT.step_lt hx), ← h.step hT hB hx]
  exact h'.go _ (hB.step_lt hx)
theorem Conj.range {n : Nat} {t : List Nat} (hT : IsT n t) : Conj n t (List.range n) t := by
  have hg : ∀ x, x < n → (List.range n).getD x 0 = x := fun x hx => by rw [List.getD_eq_getElem?_getD, List.getElem?_range hx]; rfl
  refine ⟨hT.length, fun x hx => ?_⟩
  rw [hg x hx, hg _ (hT.step_lt hx)]
  exact hT.get_step hx
/-- amid the making of a turned one: the first k places are led over -/
structure Led (n : Nat) (t b : List Nat) (k : Nat) (g : List Nat) : Prop where
  len : g.length = n
  go : ∀ x, x < k → g[b.getD x 0]? = some (b.getD (t.getD x 0) 0)
theorem Led.start {n : Nat} {t b g : List Nat} (h : g.length = n) : Led n t b 0 g := ⟨h, fun _ h => absurd h (Nat.not_lt_zero _)⟩
theorem Led.step {n : Nat} {t b g : List Nat} {k : Nat} (hB : IsT n b) (hk : k < n) (h : Led n t b k g) : Led n t b (k + 1) (g.set (b.getD k 0) (b.getD (t.getD k 0) 0)) := by
  have hkn : b.getD k 0 < g.length := by rw [h.len]; exact hB.step_lt hk
  refine ⟨by rw [List.length_set]; exact h.len, fun x hx => ?_⟩
  by_cases e : x = k
  · subst e
    rw [List.getElem?_set_self hkn]
  · have ne : b.getD k 0 ≠ b.getD x 0 := fun q => e (hB.step_inj (by omega) hk q.symm)
    rw [List.getElem?_set_ne ne]
    exact h.go x (by omega)
theorem Led.done {n : Nat} {t b g : List Nat} (h : Led n t b n g) : Conj n t b g := ⟨h.len, h.go⟩
end TM

/-! Even and odd: an exchange behind a turning makes one loop of two or two of one. -/
namespace TM
/-- the places that lead their loops, the staying ones too -/
def leads (t : List Nat) (n : Nat) : List Nat := (List.range n).filter fun x => isLeast t x
/-- u is t with the places a and b exchanged behind it -/
structure Swap (n : Nat) (t : List Nat) (a b : Nat) (u : List Nat) : Prop where
  len : u.length = n
  ha : a < n
  hb : b < n
  ne : a ≠ b
  atA : ∀ x, x < n → t.getD x 0 = a → u.getD x 0 = b
  atB : ∀ x, x < n → t.getD x 0 = b → u.getD x 0 = a
  els : ∀ x, x < n → t.getD x 0 ≠ a → t.getD x 0 ≠ b → u.getD x 0 = t.getD x 0
section
variable {n a b : Nat} {t u : List Nat} (hT : IsT n t) (hU : IsT n u)
include hT hU
theorem Swap.symm (h : Swap n t a b u) : Swap n u a b t := by
  have key : ∀ x, x < n → (t.getD x 0 = a ∧ u.getD x 0 = b) ∨ (t.getD x 0 = b ∧ u.getD x 0 = a) ∨ (t.getD x 0 ≠ a ∧ t.getD x 0 ≠ b ∧ u.getD x 0 = t.getD x 0) := fun x hx => by
    by_cases e1 : t.getD x 0 = a
    · exact .inl ⟨e1, h.atA x hx e1⟩
    · by_cases e2 : t.getD x 0 = b
      · exact .inr (.inl ⟨e2, h.atB x hx e2⟩)
      · exact .inr (.inr ⟨e1, e2, h.els x hx e1 e2⟩)
  have ne := h.ne
  refine ⟨hT.length, h.ha, h.hb, h.ne, fun x hx e => ?_, fun x hx e => ?_, fun x hx e1 e2 => ?_⟩
  all_goals rcases key x hx with ⟨k1, k2⟩ | ⟨k1, k2⟩ | ⟨k1, k2, k3⟩ <;> omega
/-- as long as the way of x under t meets neither a nor b it is that under u -/
theorem Swap.it_same (h : Swap n t a b u) {x : Nat} (hx : x < n) : ∀ k, (∀ j, 1 ≤ j → j ≤ k → it t j x ≠ a ∧ it t j x ≠ b) → it u k x = it t k x
  | 0, _ => rfl
  | k + 1, hk => by
    have ih := Swap.it_same h hx k fun j h1 h2 => hk j h1 (by omega)
    show u.getD (it u k x) 0 = t.getD (it t k x) 0
    rw [ih]
    obtain ⟨n1, n2⟩ := hk (k + 1) (by omega) (Nat.le_refl _)
    exact h.els _ (hT.it_lt hx k) n1 n2
/-- a loop with both is cut: the first part, from a on up to b, and the rest, from b on -/
theorem Swap.cut (h : Swap n t a b u) (hab : b ∈ cyc t a) : ∃ k, 0 < k ∧ k < per t a ∧ it t k a = b ∧ (∀ x, x ∈ cyc u a ↔ ∃ j, j < k ∧ x = it t j a) ∧ (∀ x, x ∈ cyc u b ↔ ∃ j, k ≤ j ∧ j < per t a ∧ x = it t j a) := by
  have ha := h.ha
  have hb := h.hb
  have hp := hT.per_pos ha
  obtain ⟨k, hk, ek⟩ := mem_cyc.mp hab
  have hk0 : 0 < k := by
    rcases Nat.eq_zero_or_pos k with z | z
    · rw [z] at ek
      exact absurd ek.symm h.ne
    · exact z
  have nb : ∀ j, j < per t a → j ≠ k → it t j a ≠ b := fun j hj hne z => hne (hT.it_eq_iff ha hj hk (z.trans ek))
  have e1 : ∀ j, j < k → it u j a = it t j a := fun j hj => h.it_same hT hU ha j fun i i1 i2 => ⟨(hT.per_spec ha).2.2.2 i i1 (by omega), nb i (by omega) (by omega)⟩
  have e2 : it u k a = a := by
    have e3 : k = (k - 1) + 1 := by omega
    rw [e3, it_succ, e1 (k - 1) (by omega)]
    refine h.atB _ (hT.it_lt ha _) ?_
    rw [← it_succ, ← e3, ek]
  have f0 : ∀ j, it t j b = it t (k + j) a := fun j => by rw [ek, ← it_add]
  have f1 : ∀ j, k + j < per t a → it u j b = it t (k + j) a := fun j hj => by
    rw [← f0]
    refine h.it_same hT hU hb j fun i i1 i2 => ?_
    rw [f0]
    exact ⟨(hT.per_spec ha).2.2.2 _ (by omega) (by omega), nb _ (by omega) (by omega)⟩
  have f2 : it u (per t a - k) b = b := by
    have e3 : per t a - k = (per t a - k - 1) + 1 := by omega
    rw [e3, it_succ, f1 (per t a - k - 1) (by omega)]
    refine h.atA _ (hT.it_lt ha _) ?_
    rw [← it_succ, show k + (per t a - k - 1) + 1 = per t a by omega]
    exact hT.per_back ha
  have pu : per u a ≤ k := Nat.le_of_not_lt fun hc => (hU.per_spec ha).2.2.2 k hk0 hc e2
  have pb : per u b ≤ per t a - k := Nat.le_of_not_lt fun hc => (hU.per_spec hb).2.2.2 _ (by omega) hc f2
  refine ⟨k, hk0, hk, ek.symm, fun x => ⟨fun hx => ?_, ?_⟩, fun x => ⟨fun hx => ?_, ?_⟩⟩
  · obtain ⟨j, hj, rfl⟩ := mem_cyc.mp hx
    exact ⟨j, by omega, e1 j (by omega)⟩
  · rintro ⟨j, hj, rfl⟩
    rw [← e1 j hj]
    exact hU.mem_cyc_it ha j
  · obtain ⟨j, hj, rfl⟩ := mem_cyc.mp hx
    exact ⟨k + j, by omega, by omega, f1 j (by omega)⟩
  · rintro ⟨j, h1, h2, rfl⟩
    have e4 := f1 (j - k) (by omega)
    rw [show k + (j - k) = j by omega] at e4
    rw [← e4]
    exact hU.mem_cyc_it hb _
end
section
variable {n : Nat} {t : List Nat} (hT : IsT n t)
include hT
end
end TM

/-! Recipes: lines, what a line needs, the lines that stay. -/
namespace TM
inductive Ln where
  | still | told (k : Nat) | behind (i j : Nat) | back (i : Nat)
  deriving DecidableEq
/-- the lines that a line names -/
def Ln.refs : Ln → List Nat
  | .still => []
  | .told _ => []
  | .behind i j => [i, j]
  | .back i => [i]
/-- a line at the place p, over c makers -/
def Ln.Ok (c p : Nat) : Ln → Prop
  | .still => True
  | .told k => k < c
  | .behind i j => i < p ∧ j < p
  | .back i => i < p
theorem Ln.Ok.lt {c p : Nat} {l : Ln} (h : l.Ok c p) {r : Nat} (hr : r ∈ l.refs) : r < p := by
  cases l with
  | still => cases hr
  | told k => cases hr
  | behind i j =>
    rcases List.mem_cons.mp hr with e | e
    · rw [e]; exact h.1
    · rw [List.mem_singleton.mp e]; exact h.2
  | back i => rw [List.mem_singleton.mp hr]; exact h
theorem Ln.Ok.mono {c p q : Nat} {l : Ln} (h : l.Ok c p) (hpq : p ≤ q) : l.Ok c q := by
  cases l with
  | still => trivial
  | told k => exact h
  | behind i j => exact ⟨Nat.lt_of_lt_of_le h.1 hpq, Nat.lt_of_lt_of_le h.2 hpq⟩
  | back i => exact Nat.lt_of_lt_of_le h hpq
def Rec (c : Nat) (ls : List Ln) : Prop := ∀ (p : Nat) (l : Ln), ls[p]? = some l → l.Ok c p
theorem Rec.snoc {c : Nat} {ls : List Ln} {l : Ln} (h : Rec c ls) (hl : l.Ok c ls.length) : Rec c (ls ++ [l]) := fun p m hm => by
  by_cases hp : p < ls.length
  · rw [List.getElem?_append_left hp] at hm
    exact h p m hm
  · have e : p = ls.length := by
      have := (List.getElem?_eq_some_iff.mp hm).1
      rw [List.length_append, List.length_cons, List.length_nil] at this
      omega
    subst e
    rw [List.getElem?_append_right (Nat.le_refl _), Nat.sub_self] at hm
    cases hm
    exact hl
theorem Rec.take {c : Nat} {ls : List Ln} (h : Rec c ls) (k : Nat) : Rec c (ls.take k) := fun p l hl => by
  by_cases hp : p < k
  · rw [List.getElem?_take_of_lt hp] at hl
    exact h p l hl
  · rw [List.getElem?_eq_none (by rw [List.length_take]; omega)] at hl
    cases hl
/-- q is needed by p -/
inductive Reach (ls : List Ln) : Nat → Nat → Prop
  | self (p : Nat) : Reach ls p p
  | by {p r q : Nat} {l : Ln} : ls[p]? = some l → r ∈ l.refs → Reach ls r q → Reach ls p q
theorem Reach.trans {ls : List Ln} {p r q : Nat} (h : Reach ls p r) (h' : Reach ls r q) : Reach ls p q := by
  induction h with
  | self p => exact h'
  | «by» hl hr _ ih => exact .by hl hr (ih h')
theorem Reach.le {c : Nat} {ls : List Ln} (hR : Rec c ls) {p q : Nat} (h : Reach ls p q) : q ≤ p := by
  induction h with
  | self p => exact Nat.le_refl _
  | «by» hl hr _ ih => exact Nat.le_trans ih (Nat.le_of_lt ((hR _ _ hl).lt hr))
open Classical in
/-- needed by the last line -/
noncomputable def nb (ls : List Ln) (q : Nat) : Bool := decide (Reach ls (ls.length - 1) q)
/-- how many needed ones stand below -/
def pos (b : Nat → Bool) (r : Nat) : Nat := ((List.range r).filter b).length
def Ln.ren (f : Nat → Nat) : Ln → Ln
  | .still => .still
  | .told k => .told k
  | .behind i j => .behind (f i) (f j)
  | .back i => .back (f i)
/-- the lines that stay of the first k, counted anew -/
def few (b : Nat → Bool) (ls : List Ln) (k : Nat) : List Ln := ((List.range k).filter b).map fun p => (ls.getD p .still).ren (pos b)
section
variable {c : Nat} {ls : List Ln} (hR : Rec c ls) (hne : ls ≠ [])
include hR hne
noncomputable def stay (ls : List Ln) : List Ln := few (nb ls) ls ls.length
end
/-! ### what the lines make -/
def bkT (n : Nat) (t : List Nat) : List Nat := (List.range n).map fun y => t.idxOf y
def comp (s t : List Nat) : List Nat := s.map fun x => t.getD x 0
/-- what a line makes of what is there -/
def Ln.mk (n : Nat) (ms : List (List Nat)) (made : List (List Nat)) : Ln → List Nat
  | .still => List.range n
  | .told k => ms.getD k []
  | .behind i j => comp (made.getD i []) (made.getD j [])
  | .back i => bkT n (made.getD i [])
end TM

/-! Letters of a recipe: how many, which, and where they lead. -/
namespace TM
section
variable {α : Type}
/-- what comes of a line hangs on what it names alone -/
def Loc (d : α) (g : Ln → List α → α) : Prop := ∀ (l : Ln) (m1 m2 : List α) (f : Nat → Nat), (∀ r ∈ l.refs, m1.getD r d = m2.getD (f r) d) → g l m1 = g (l.ren f) m2
end
/-! ### how many -/
/-! ### which -/
/-! ### where they lead -/
def step (n : Nat) (ms : List (List Nat)) (x : Int) : List Nat := if 0 ≤ x then ms.getD x.toNat [] else bkT n (ms.getD (-1 - x).toNat [])
section
variable {n : Nat}
variable {ms : List (List Nat)} (hms : ∀ t ∈ ms, IsT n t)
include hms
end
end TM

set_option linter.all false
/-! Texts split at a separator whose first sign the parts don't have. -/
namespace Tb
open PySem PySem.StrLaws PySem.Builtin PySem.Builtin.Str
theorem cps_app (a b : Str) : (a ++ b).cps.toList = a.cps.toList ++ b.cps.toList := by
  rw [Str.cps_append, Array.toList_append]
theorem len_cps (a : Str) : a.cps.toList.length = a.length := by simp [Str.length]
theorem ext_cps {a b : Str} (h : a.cps.toList = b.cps.toList) : a = b := Str.ext' (Array.toList_inj.mp h)
end Tb

set_option Elab.async false
set_option linter.all false
set_option maxRecDepth 100000
set_option maxHeartbeats 4000000
/-! Texts of turnings. -/
namespace Tb
open PySem
/-- a place in figures -/
def nS (x : Nat) : Str := toString ((x : Nat) : Int)
theorem nS_len : ∀ x : Nat, x < 100 → (nS x).length ≤ 2 := by decide +kernel
def sC : Str := ","
def sO : Str := "("
def sE : Str := ")"
/-- a loop's text -/
def loopTx (l : List Nat) : Str := sO ++ Str.join sC (l.map nS) ++ sE
/-- all loops side by side -/
def flat (ls : List (List Nat)) : Str := ls.foldl (fun a l => a ++ loopTx l) Str.empty
/-- text by text, with commas ahead -/
def grow (a : Str) (ys : List Str) : Str := ys.foldl (fun a y => a ++ sC ++ y) a
theorem sum_len_le {b : Nat} : ∀ (ys : List Str), (∀ y ∈ ys, y.length ≤ b) → (ys.map (·.length)).sum ≤ ys.length * b
  | [], _ => Nat.zero_le _
  | y :: r, h => by
    have h1 := sum_len_le r fun z hz => h z (List.mem_cons_of_mem _ hz)
    have h2 := h y List.mem_cons_self
    rw [List.map_cons, List.sum_cons, List.length_cons, Nat.succ_mul]
    omega
theorem join_len_le {b : Nat} (sep : Str) {ys : List Str} (h : ∀ y ∈ ys, y.length ≤ b) : (Str.join sep ys).length ≤ ys.length * b + ys.length * sep.length :=
  Nat.le_trans (StrLaws.join_length_le sep ys) (Nat.add_le_add_right (sum_len_le ys h) _)
theorem nS_all {l : List Nat} (h : ∀ x ∈ l, x < 100) : ∀ y ∈ l.map nS, y.length ≤ 2 := fun y hy => by
  obtain ⟨x, hx, rfl⟩ := List.mem_map.mp hy
  exact nS_len x (h x hx)
theorem nS_log {x : Nat} (h : x < 100) : ((x : Nat) : Int).natAbs.log2 < 1920 := by
  rw [Int.natAbs_natCast]
  rcases Nat.eq_zero_or_pos x with z | z
  · rw [z]; decide
  · have := (Nat.log2_lt (by omega)).mpr (show x < 2 ^ 7 by omega)
    omega
end Tb

set_option Elab.async false
set_option linter.all false
set_option maxRecDepth 100000
set_option maxHeartbeats 4000000
/-! Texts of turnings read back. -/
namespace Tb
open PySem PySem.StrLaws PySem.Builtin PySem.Builtin.Str
/-! ### a place in figures -/
def figOk (z : Str) : Bool := decide (1 ≤ z.length) && decide (z.length ≤ 2) && (z.cps.toList.all fun c => decide (48 ≤ c) && decide (c ≤ 57)) && (decide (z.length ≤ 1) || !decide (z.cps.toList.head? = some 48))
theorem nS_figs : ∀ x : Nat, x < 100 → figOk (nS x) = true := by decide +kernel
theorem nS_digit {x : Nat} (h : x < 100) : ∀ c ∈ (nS x).cps.toList, 48 ≤ c ∧ c ≤ 57 := fun c hc => by
  have := nS_figs x h
  unfold figOk at this
  rw [Bool.and_eq_true, Bool.and_eq_true, Bool.and_eq_true] at this
  have h2 := List.all_eq_true.mp this.1.2 c hc
  rw [Bool.and_eq_true] at h2
  exact ⟨of_decide_eq_true h2.1, of_decide_eq_true h2.2⟩
/-! ### the inside of a loop's text -/
theorem mem_join {y : Str} {c : Nat} : ∀ {ys : List Str}, c ∈ (Str.join y ys).cps.toList → c ∈ y.cps.toList ∨ ∃ z ∈ ys, c ∈ z.cps.toList
  | [], h => by
    have h' : c ∈ ([] : List Nat) := h
    cases h'
  | [z], h => .inr ⟨z, List.mem_cons_self, h⟩
  | z :: z2 :: r, h => by
    have h' : c ∈ (z ++ y ++ Str.join y (z2 :: r)).cps.toList := h
    rw [cps_app, cps_app, List.mem_append, List.mem_append] at h'
    rcases h' with (h' | h') | h'
    · exact .inr ⟨z, List.mem_cons_self, h'⟩
    · exact .inl h'
    · rcases mem_join h' with h2 | ⟨w, hw, h2⟩
      · exact .inl h2
      · exact .inr ⟨w, List.mem_cons_of_mem _ hw, h2⟩
/-! ### loops in any order, each begun at any of its places -/
end Tb

set_option Elab.async false
set_option linter.all false
set_option maxRecDepth 100000
/-! Figures of any number; what the parts of a split text are. -/
namespace Tb
open PySem PySem.StrLaws PySem.Builtin PySem.Builtin.Str
def isFig (c : Nat) : Bool := decide (48 ≤ c) && decide (c ≤ 57)
theorem isFig_iff {c : Nat} : isFig c = true ↔ 48 ≤ c ∧ c ≤ 57 := by
  unfold isFig
  rw [Bool.and_eq_true, decide_eq_true_eq, decide_eq_true_eq]
/-- a number's figures: 1 to most of them, no nought ahead -/
def figsOk (most : Nat) (w : Str) : Bool := (decide (1 ≤ w.length) && decide (w.length ≤ most)) && (w.cps.toList.all isFig && !(decide (1 < w.length) && decide (w.cps.toList.head? = some 48)))
def figVal (w : Str) : Nat := PySem.NumText.digitsVal w.cps.toList
theorem figsOk_int {most : Nat} {w : Str} (h : figsOk most w = true) (hm : most ≤ 4300) : PySem.intText? w = some ((figVal w : Nat) : Int) := by
  unfold figsOk at h
  rw [Bool.and_eq_true, Bool.and_eq_true, Bool.and_eq_true, decide_eq_true_eq, decide_eq_true_eq] at h
  refine PySem.intText_digits (fun c hc => isFig_iff.mp (List.all_eq_true.mp h.2.1 c hc)) (fun z => ?_) (by omega)
  have := h.1.1
  rw [← len_cps, z] at this
  cases this
theorem toDigits_step {m : Nat} (h : ¬ m < 10) : Nat.toDigits 10 m = Nat.toDigits 10 (m / 10) ++ Nat.toDigits 10 (m % 10) := by
  have hm : m % 10 < 10 := Nat.mod_lt m (by decide)
  have t : Nat.toDigits 10 (m / 10) ++ Nat.toDigits 10 (m % 10) = Nat.toDigits 10 (10 * (m / 10) + m % 10) := Nat.toDigits_append_toDigits (by decide) (by omega) hm
  rw [Nat.div_add_mod] at t
  exact t.symm
theorem toDigits_ne (m : Nat) : Nat.toDigits 10 m ≠ [] := fun z => by
  have h := PySem.toDigits_len_ge 10 m
  rw [z] at h
  cases h
theorem toDigits_head : ∀ m : Nat, (Nat.toDigits 10 m).head? = some '0' → m = 0 := by
  intro m
  induction m using Nat.strongRecOn with
  | _ m ih =>
    intro h
    by_cases hm : m < 10
    · rw [Nat.toDigits_of_lt_base hm] at h
      have key : ∀ d : Nat, d < 10 → [Nat.digitChar d].head? = some '0' → d = 0 := by decide
      exact key m hm h
    · rw [toDigits_step hm, List.head?_append] at h
      cases q : (Nat.toDigits 10 (m / 10)).head? with
      | none => exact absurd (List.head?_eq_none_iff.mp q) (toDigits_ne _)
      | some ch =>
      rw [q] at h
      have := ih (m / 10) (by omega) (q.trans h)
      omega
theorem nS_signs (m : Nat) : (nS m).cps.toList = (Nat.toDigits 10 m).map Char.toNat := PySem.W.KIN.signs_num m
theorem nS_figsOk {m most : Nat} (h : m < 10 ^ most) (hm : 0 < most) : figsOk most (nS m) = true := by
  have hl : (nS m).length ≤ most := PyProof.Rows.toString_length_le (v := (m : Int)) (by omega) hm (by
    have : ((m : Nat) : Int) < ((10 ^ most : Nat) : Int) := by omega
    rw [Int.natCast_pow] at this
    exact this)
  have h1 : 1 ≤ (nS m).length := by
    rw [← len_cps, nS_signs, List.length_map]
    exact PySem.toDigits_len_ge 10 m
  unfold figsOk
  rw [Bool.and_eq_true, Bool.and_eq_true, Bool.and_eq_true]
  refine ⟨⟨decide_eq_true h1, decide_eq_true hl⟩, List.all_eq_true.mpr fun c hc => ?_, ?_⟩
  · rw [nS_signs] at hc
    obtain ⟨ch, hch, e⟩ := List.mem_map.mp hc
    rw [← e]
    exact isFig_iff.mpr (PyProof.Rows.digit_range (Nat.isDigit_of_mem_toDigits (by decide) (by decide) hch))
  · rw [Bool.not_eq_true', Bool.and_eq_false_iff]
    by_cases e : (nS m).cps.toList.head? = some 48
    · left
      have e' : (Nat.toDigits 10 m).head? = some '0' := by
        rw [nS_signs, List.head?_map] at e
        cases q : (Nat.toDigits 10 m).head? with
        | none => rw [q] at e; cases e
        | some ch =>
          rw [q] at e
          have e2 : ch.toNat = 48 := Option.some.inj e
          have : ch = '0' := Char.toNat_inj.mp e2
          rw [this]
      have m0 := toDigits_head m e'
      subst m0
      decide
    · right
      exact decide_eq_false e
theorem nS_figVal (m : Nat) : figVal (nS m) = m := by
  unfold figVal
  rw [nS_signs]
  exact PySem.W.KIN.val_back m
/-- the parts of a split text -/
theorem parts_mem {x : Str} {w : Nat} : ∀ (cuts : List Nat) (a : Nat) (z : Str), z ∈ partsFrom x w a cuts → z.length ≤ x.length ∧ ∀ c ∈ z.cps.toList, c ∈ x.cps.toList := by
  have one : ∀ (a b : Nat), (strSub x a b).length ≤ x.length ∧ ∀ c ∈ (strSub x a b).cps.toList, c ∈ x.cps.toList := fun a b => by
    refine ⟨?_, fun c hc => ?_⟩
    · rw [← len_cps, ← len_cps, strSub_toList, List.length_take, List.length_drop]
      omega
    · rw [strSub_toList] at hc
      exact List.mem_of_mem_drop (List.mem_of_mem_take hc)
  intro cuts
  induction cuts with
  | nil =>
    intro a z h
    rw [List.mem_singleton.mp (show z ∈ [strSub x a x.length] from h)]
    exact one _ _
  | cons c r ih =>
    intro a z h
    rcases List.mem_cons.mp (show z ∈ strSub x a c :: partsFrom x w (c + w) r from h) with h | h
    · rw [h]; exact one _ _
    · exact ih _ z h
theorem parts_len {x : Str} {w : Nat} : ∀ (cuts : List Nat) (a : Nat), (partsFrom x w a cuts).length = cuts.length + 1
  | [], _ => rfl
  | _ :: r, _ => congrArg (· + 1) (parts_len r _)
theorem split_mem {x y z : Str} (h : z ∈ Txt.split x y) : z.length ≤ x.length ∧ ∀ c ∈ z.cps.toList, c ∈ x.cps.toList := by
  unfold Txt.split at h
  split at h
  · rw [List.mem_singleton.mp h]; exact ⟨Nat.le_refl _, fun _ h => h⟩
  · split at h
    · rw [List.mem_singleton.mp h]; exact ⟨Nat.le_refl _, fun _ h => h⟩
    · rw [partsBetween_eq] at h
      exact parts_mem _ _ z h
theorem split_len (x y : Str) : 1 ≤ (Txt.split x y).length ∧ (Txt.split x y).length ≤ x.length + 2 := by
  unfold Txt.split
  split
  · exact ⟨Nat.le_refl _, by show 1 ≤ _; omega⟩
  · split
    · exact ⟨Nat.le_refl _, by show 1 ≤ _; omega⟩
    · rw [partsBetween_eq, parts_len]
      have := occ_length_le x y 0 x.length (x.length + 1)
      omega
/-- a text of ASCII signs, of at most so many -/
def Asc (n : Nat) (x : Str) : Prop := x.length ≤ n ∧ ∀ c ∈ x.cps.toList, c < 128
theorem Asc.all {n : Nat} {x : Str} (h : Asc n x) : x.cps.all (· < 128) = true := by
  rw [← Array.all_toList, List.all_eq_true]
  exact fun c hc => decide_eq_true (h.2 c hc)
theorem Asc.split {n : Nat} {x y z : Str} (h : Asc n x) (hz : z ∈ Txt.split x y) : Asc n z :=
  ⟨Nat.le_trans (split_mem hz).1 h.1, fun c hc => h.2 c ((split_mem hz).2 c hc)⟩
theorem Asc.app {n m : Nat} {x y : Str} (h : Asc n x) (k : Asc m y) : Asc (n + m) (x ++ y) := by
  refine ⟨?_, fun c hc => ?_⟩
  · rw [← len_cps, cps_app, List.length_append, len_cps, len_cps]
    exact Nat.add_le_add h.1 k.1
  · rw [cps_app] at hc
    rcases List.mem_append.mp hc with z | z
    · exact h.2 c z
    · exact k.2 c z
theorem Asc.mono {n m : Nat} {x : Str} (h : Asc n x) (hm : n ≤ m) : Asc m x := ⟨Nat.le_trans h.1 hm, h.2⟩
theorem Asc.slice {n : Nat} {x : Str} (h : Asc n x) (lo hi : Option Int) : Asc n (Txt.slice x lo hi) := by
  refine ⟨Nat.le_trans (Txt.slice_le x lo hi) h.1, fun c hc => ?_⟩
  unfold Txt.slice at hc
  split at hc
  · exact h.2 c hc
  · obtain ⟨i, _, hi⟩ := List.mem_filterMap.mp (show c ∈ List.filterMap _ _ from hc)
    refine h.2 c ?_
    rw [← Array.getElem?_toList] at hi
    exact List.mem_of_getElem? hi
end Tb

set_option Elab.async false
set_option linter.all false
set_option maxRecDepth 100000
/-! Texts of loops, any texts. -/
namespace Tb
open PySem PySem.StrLaws PySem.Builtin PySem.Builtin.Str
/-- joined again -/
theorem join_split (x y : Str) : Str.join y (Txt.split x y) = x := by
  unfold Txt.split
  split
  · rfl
  · split
    · rfl
    · have h := glued_between_self x y (x.length + 1)
      rw [glued_eq_join] at h
      exact h
theorem figs_two : ((List.range 10).all fun i => (List.range 10).all fun j => (i == 0 || (nS (PySem.NumText.digitsVal [48 + i, 48 + j])).cps.toList == [48 + i, 48 + j]) && ((nS (PySem.NumText.digitsVal [48 + i])).cps.toList == [48 + i] && decide (PySem.NumText.digitsVal [48 + i, 48 + j] < 100) && decide (PySem.NumText.digitsVal [48 + i] < 100))) = true := by decide +kernel
theorem figs_two' {a b : Nat} (ha : 48 ≤ a ∧ a ≤ 57) (hb : 48 ≤ b ∧ b ≤ 57) : (a ≠ 48 → (nS (PySem.NumText.digitsVal [a, b])).cps.toList = [a, b]) ∧ (nS (PySem.NumText.digitsVal [a])).cps.toList = [a] ∧ PySem.NumText.digitsVal [a, b] < 100 ∧ PySem.NumText.digitsVal [a] < 100 := by
  have h := List.all_eq_true.mp (List.all_eq_true.mp figs_two (a - 48) (List.mem_range.mpr (by omega))) (b - 48) (List.mem_range.mpr (by omega))
  rw [show 48 + (a - 48) = a by omega, show 48 + (b - 48) = b by omega, Bool.and_eq_true, Bool.and_eq_true, Bool.and_eq_true, Bool.or_eq_true, beq_iff_eq, beq_iff_eq, beq_iff_eq, decide_eq_true_eq, decide_eq_true_eq] at h
  exact ⟨fun ne => h.1.resolve_left (by omega), h.2.1.1, h.2.1.2, h.2.2⟩
/-- figures of at most two signs are those of their number -/
theorem figsOk_back {w : Str} (h : figsOk 2 w = true) : w = nS (figVal w) ∧ figVal w < 100 := by
  unfold figsOk at h
  rw [Bool.and_eq_true, Bool.and_eq_true, Bool.and_eq_true, decide_eq_true_eq, decide_eq_true_eq, ← len_cps, List.all_eq_true] at h
  obtain ⟨⟨h1, h2⟩, h3, h4⟩ := h
  unfold figVal
  match e : w.cps.toList, h1, h2 with
  | [a], _, _ =>
    rw [e] at h3
    have ha := isFig_iff.mp (h3 a List.mem_cons_self)
    have := figs_two' (b := 48) ha (by decide)
    exact ⟨ext_cps (by rw [e]; exact this.2.1.symm), this.2.2.2⟩
  | [a, b], _, _ =>
    rw [e] at h3 h4
    have ha := isFig_iff.mp (h3 a List.mem_cons_self)
    have hb := isFig_iff.mp (h3 b (List.mem_cons_of_mem _ List.mem_cons_self))
    have := figs_two' ha hb
    have ne : a ≠ 48 := fun z => by
      subst z
      cases h4
    exact ⟨ext_cps (by rw [e]; exact (this.1 ne).symm), this.2.2.1⟩
  | a :: b :: c :: r, _, h2 => exact absurd h2 (by simp)
theorem nS_inj {a b : Nat} (h : nS a = nS b) : a = b := by
  have := congrArg figVal h
  rwa [nS_figVal, nS_figVal] at this
/-! ### loops of a text -/
structure LoopsGood (ls : List (List Nat)) (n : Nat) : Prop where
  lt : ∀ l ∈ ls, ∀ x ∈ l, x < n
  two : ∀ l ∈ ls, 2 ≤ l.length
  nd : ls.flatten.Nodup
  ne : ls ≠ []
/-! ### the row that loops make -/
def nxt : List (List Nat) → Nat → Nat
  | [], x => x
  | l :: r, x => if x ∈ l then (l[(l.idxOf x + 1) % l.length]?).getD x else nxt r x
def rowL (n : Nat) (ls : List (List Nat)) : List Nat := (List.range n).map (nxt ls)
theorem nxt_off : ∀ {ls : List (List Nat)} {x : Nat}, x ∉ ls.flatten → nxt ls x = x
  | [], _, _ => rfl
  | l :: r, x, h => by
    rw [List.flatten_cons, List.mem_append] at h
    unfold nxt
    rw [if_neg fun z => h (.inl z)]
    exact nxt_off fun z => h (.inr z)
theorem rowL_get {n : Nat} {ls : List (List Nat)} {x : Nat} (h : x < n) : (rowL n ls)[x]? = some (nxt ls x) := by
  unfold rowL
  rw [List.getElem?_map, List.getElem?_range h]
  rfl
theorem rowL_length (n : Nat) (ls : List (List Nat)) : (rowL n ls).length = n := by unfold rowL; rw [List.length_map, List.length_range]
/-- amid the reading: the places of S go where t leads them, the others stay -/
structure Rdg (n : Nat) (t : List Nat) (S : Nat → Prop) (g : List Nat) : Prop where
  len : g.length = n
  ins : ∀ x, x < n → S x → g[x]? = t[x]?
  out : ∀ x, x < n → ¬ S x → g[x]? = some x
theorem Rdg.start (n : Nat) (t : List Nat) {S : Nat → Prop} (hS : ∀ x, ¬ S x) : Rdg n t S (List.range n) := ⟨List.length_range, fun x _ h => absurd h (hS x), fun x hx _ => List.getElem?_range hx⟩
theorem Rdg.congr {n : Nat} {t g : List Nat} {S S' : Nat → Prop} (h : Rdg n t S g) (e : ∀ x, x < n → (S x ↔ S' x)) : Rdg n t S' g :=
  ⟨h.len, fun x hx q => h.ins x hx ((e x hx).mpr q), fun x hx q => h.out x hx fun z => q ((e x hx).mp z)⟩
theorem Rdg.set {n : Nat} {t g : List Nat} {S : Nat → Prop} {p y : Nat} (h : Rdg n t S g) (hp : p < n) (hy : t[p]? = some y) : Rdg n t (fun x => S x ∨ x = p) (g.set p y) := by
  have hpl : p < g.length := by rw [h.len]; exact hp
  refine ⟨by rw [List.length_set]; exact h.len, fun x hx q => ?_, fun x hx q => ?_⟩
  · by_cases e : x = p
    · subst e
      rw [List.getElem?_set_self hpl, hy]
    · rw [List.getElem?_set_ne (Ne.symm e)]
      exact h.ins x hx (q.resolve_right e)
  · have e : x ≠ p := fun z => q (.inr z)
    rw [List.getElem?_set_ne (Ne.symm e)]
    exact h.out x hx fun z => q (.inl z)
theorem Rdg.row {n : Nat} {g : List Nat} {S : Nat → Prop} {ls : List (List Nat)} (h : Rdg n (rowL n ls) S g) (hS : ∀ x, x < n → x ∈ ls.flatten → S x) : g = rowL n ls := by
  apply List.ext_getElem?
  intro x
  by_cases hx : x < n
  · by_cases q : S x
    · exact h.ins x hx q
    · rw [h.out x hx q, rowL_get hx, nxt_off fun z => q (hS x hx z)]
  · rw [List.getElem?_eq_none (by rw [h.len]; omega), List.getElem?_eq_none (by rw [rowL_length]; omega)]
/-! ### going along a text of loops -/
end Tb

set_option Elab.async false
set_option linter.all false
set_option maxRecDepth 100000
set_option maxHeartbeats 4000000
/-! What all laws of this program share: rows of places as values, defs that are known by their promise, the built-in names. -/
namespace Tb
open PySem L2
/-- a row of places as values -/
def tI (t : List Nat) : List V := t.map fun (x : Nat) => V.int (x : Int)
theorem tI_length (t : List Nat) : (tI t).length = t.length := List.length_map _
theorem tI_get (t : List Nat) (i : Nat) : (tI t)[i]? = (t[i]?).map fun (x : Nat) => V.int (x : Int) := List.getElem?_map ..
theorem tI_of {t : List Nat} {i p : Nat} (h : t[i]? = some p) : (tI t)[i]? = some (V.int (p : Int)) := by rw [tI_get, h]; rfl
theorem tI_append (s t : List Nat) : tI (s ++ t) = tI s ++ tI t := List.map_append
theorem tI_erase : ∀ (t : List Nat) (i : Nat), (tI t).eraseIdx i = tI (t.eraseIdx i)
  | [], _ => rfl
  | _ :: _, 0 => rfl
  | a :: r, i + 1 => by
    have ih := tI_erase r i
    show V.int (a : Int) :: (tI r).eraseIdx i = V.int (a : Int) :: tI (r.eraseIdx i)
    rw [ih]
theorem tI_range (n : Nat) : intsUp 0 n = tI (List.range n) := by
  unfold intsUp tI
  apply List.map_congr_left
  intro x _
  rw [Int.zero_add]
theorem small {n : Nat} (h : n ≤ 1000) : n ≤ sizeLine := Nat.le_of_lt (small1000 h)
theorem ixN_nat {n i : Nat} (h : i < n) : ixN n ((i : Nat) : Int) = some i := by
  unfold ixN
  rw [if_pos (Int.natCast_nonneg i), if_pos (by omega)]
  rfl
theorem seq_nat {n i : Nat} (h : i < n) : seqIndex? ((i : Nat) : Int) n = some i := (ixN_seq (ixN_nat h)).1
theorem same_new {H : Hp} {p : Addr} (h : H p = none) (o : HO) : Same H (upd H p o) := fun b u q => by rw [upd_ne (ne_of_none q h)]; exact q
theorem same_upd {H H' : Hp} {p : Addr} (s : Same H H') (h : H p = none) (o : HO) : Same H (upd H' p o) := fun b u q => by rw [upd_ne (ne_of_none q h)]; exact s b u q

/-! ### isinstance of built-in types -/
def kitTT (T U : String) : Option Bool := if (Value.type T == Value.type U) = true then some true else if PySem.W.kitMeta U = true then (PySem.fastBuiltinMro T).map (·.contains (Value.type U)) else none
theorem kit_tt {K : PySem.W.Frag} {T U : String} {b : Bool} (h : kitTT T U = some b) : PySem.W.kitOne K (.type T) (.type U) = some b := h
theorem kt_int_int : kitTT "int" "int" = some true := by decide +kernel
theorem kt_int_bool : kitTT "int" "bool" = some false := by decide +kernel
theorem kt_list_list : kitTT "list" "list" = some true := by decide +kernel
theorem dec_intD {i j : Int} : decide (V.int i = V.int j) = decide (i = j) := decide_eq_decide.mpr ⟨fun z => by injection z, fun z => by rw [z]⟩
theorem iI (l : List Nat) : tI l = (TM.iN l).map V.int := by
  unfold TM.iN tI
  rw [List.map_map]
  rfl
theorem kt_tuple_tuple : kitTT "tuple" "tuple" = some true := by decide +kernel

/-- the built-in names: nobody has taken them -/
structure Blt (mg : Str → Option Value) : Prop where
  len : mg "len" = none
  range : mg "range" = none
  list : mg "list" = none
  tuple : mg "tuple" = none
  isinstance : mg "isinstance" = none
  int : mg "int" = none
  bool : mg "bool" = none
  str : mg "str" = none
  enumerate : mg "enumerate" = none
  sorted : mg "sorted" = none
  sum : mg "sum" = none
  all : mg "all" = none
  set : mg "set" = none
  reversed : mg "reversed" = none
  divmod : mg "divmod" = none
  max : mg "max" = none
  min : mg "min" = none
theorem bt_len : bootBuiltins "len" = some (.builtin "len") := by decide +kernel
theorem bt_range : bootBuiltins "range" = some (.type "range") := by decide +kernel
theorem bt_list : bootBuiltins "list" = some (.type "list") := by decide +kernel
theorem bt_tuple : bootBuiltins "tuple" = some (.type "tuple") := by decide +kernel
theorem bt_isinstance : bootBuiltins "isinstance" = some (.builtin "isinstance") := by decide +kernel
theorem bt_int : bootBuiltins "int" = some (.type "int") := by decide +kernel
theorem bt_bool : bootBuiltins "bool" = some (.type "bool") := by decide +kernel
theorem bt_str : bootBuiltins "str" = some (.type "str") := by decide +kernel
theorem bt_sorted : bootBuiltins "sorted" = some (.builtin "sorted") := by decide +kernel
theorem bt_all : bootBuiltins "all" = some (.builtin "all") := by decide +kernel
theorem bt_set : bootBuiltins "set" = some (.type "set") := by decide +kernel
theorem bt_max : bootBuiltins "max" = some (.builtin "max") := by decide +kernel
/-- a constant of the text -/
def Glob (mg : Str → Option Value) (x : Str) (v : V) : Prop := ∃ u, mg x = some u ∧ RelV v u
theorem pe_gl {X : Cx} {x : Str} {v : V} {pos : Pos} (g : Glob X.mg x v) (hg : Gl X x) (hd : (x == ("__debug__" : Str)) = false := by decide) : PE X (.Name x pos) (tC v) := by
  obtain ⟨u, hm, r⟩ := g
  exact pe_glob hg hm r hd
/-- a def of the text by its promise -/
def Known (P : Program) (w : World) (K : PySem.W.Frag) (mg : Str → Option Value) (base : Heap) (k : Nat) (x : Str) (ps : List Str) (sp : Sp) : Prop :=
  ∃ f fd, FnOk P w K mg base CX0 k f fd ps sp ∧ PySem.W.keepIn K (.ref f) = true ∧ mg x = some (.ref f) ∧ Binds K fd ps []
/-- a def of the text as it stands -/
structure Def (K : PySem.W.Frag) (mg : Str → Option Value) (x : Str) (st : Stmt) (ps : List Str) (f : Addr) (fd : FuncData) : Prop where
  F : Fun K x x st f fd
  b : Binds K fd ps []
  m : mg x = some (.ref f)
theorem Def.known {P : Program} {w : World} {K : PySem.W.Frag} {mg : Str → Option Value} {base : Heap} {x : Str} {st : Stmt} {ps : List Str} {f : Addr} {fd : FuncData} {k : Nat} {sp : Sp} (D : Def K mg x st ps f fd) (G : FnOk P w K mg base CX0 k f fd ps sp) : Known P w K mg base k x ps sp :=
  ⟨f, fd, G, D.F.kp, D.m, D.b⟩
section
variable {X : Cx} {x : Str} {p pos : Pos} {e : Expr} {es : List Expr} {t : TA} {ps : List Str} {sp : Sp} {k j : Nat}
theorem pe_kn (kn : Known X.prog X.w X.K X.mg X.base k x ps sp) (hr : Room j X.A) (hg : Gl X x) (ha : PA X (e :: es) t) (hj : k ≤ j := by decide) (hdb : (x == ("__debug__" : Str)) = false := by decide)
    (he : starEach (e :: es) X.env = (false, eval e X.env) :: starEach es X.env := by rfl) (hpl : (backTo pos (starEach es X.env)).any (·.1) = false := by rfl) : PE X (.Call (.Name x p) (e :: es) [] pos) (tCall sp [] E0 t) := by
  obtain ⟨f, fd, G, hk, hm, hb⟩ := kn
  exact pe_call G (hr.mono hj) hg hm hk hb .nil pass0 ha hdb he hpl
end
def RowN (n : Nat) (t : List Nat) : Prop := t.length = n ∧ ∀ x ∈ t, x < n
theorem RowN.range (n : Nat) : RowN n (List.range n) := ⟨List.length_range, fun x h => List.mem_range.mp h⟩
theorem RowN.set {n : Nat} {t : List Nat} (h : RowN n t) (i : Nat) {x : Nat} (hx : x < n) : RowN n (t.set i x) := ⟨by rw [List.length_set, h.1], fun y hy => by
  rcases List.mem_or_eq_of_mem_set hy with hy | rfl
  · exact h.2 y hy
  · exact hx⟩
theorem RowN.at {n : Nat} {t : List Nat} (h : RowN n t) {i : Nat} (hi : i < n) : t[i]? = some (t.getD i 0) ∧ t.getD i 0 < n := by
  have hi' : i < t.length := by rw [h.1]; exact hi
  have e : t[i]? = some (t.getD i 0) := by rw [List.getD_eq_getElem?_getD, List.getElem?_eq_getElem hi']; rfl
  exact ⟨e, h.2 _ (List.mem_of_getElem? e)⟩
theorem mod_at {z : Int} {k : Nat} (h : 0 < k) : ∃ m : Nat, z % (k : Int) = (m : Int) ∧ m < k := by
  have h1 := Int.emod_nonneg z (show (k : Int) ≠ 0 by omega)
  have h2 := Int.emod_lt_of_pos z (show (0 : Int) < (k : Int) by omega)
  exact ⟨(z % (k : Int)).toNat, by omega, by omega⟩
theorem three_pow (k : Nat) (hk : k ≤ 100) : ((3 : Int) ^ k).natAbs < 2 ^ 200 := by
  rw [Int.natAbs_pow]
  calc (3 : Int).natAbs ^ k ≤ 3 ^ 100 := Nat.pow_le_pow_right (by decide) hk
    _ < 2 ^ 200 := by decide
theorem great_ok {c d : Int} (hc : c.natAbs < 2 ^ (2 ^ 20 + 4)) (hd : d.natAbs < 2 ^ (2 ^ 20 + 4)) : IntMulOk (c + d) (3 ^ 61) ∧ IntMulOk ((c + d) * 3 ^ 61) (3 ^ 59) ∧ IntMulOk ((c + d) * 3 ^ 61 * 3 ^ 59) (3 ^ 61) := by
  have h0 := natAbs_add_lt hc hd
  have h1 := natAbs_mul_lt h0 (three_pow 61 (by decide))
  have h2 := natAbs_mul_lt h1 (three_pow 59 (by decide))
  exact ⟨mulOk_of h0 (three_pow 61 (by decide)) (by decide), mulOk_of h1 (three_pow 59 (by decide)) (by decide), mulOk_of h2 (three_pow 61 (by decide)) (by decide)⟩
theorem small_bits {d : Int} (h : d.natAbs < 100000) : d.natAbs < 2 ^ (2 ^ 20 + 4) := Nat.lt_of_lt_of_le h (Nat.le_trans (by decide : 100000 ≤ 2 ^ 20) (Nat.pow_le_pow_right (by decide) (by decide)))
theorem many_of (z : Int) : ∃ n : Nat, 1 + z % 60 = (n : Int) ∧ 1 ≤ n ∧ n ≤ 60 := by
  have h1 := Int.emod_nonneg z (show (60 : Int) ≠ 0 by decide)
  have h2 := Int.emod_lt_of_pos z (show (0 : Int) < 60 by decide)
  exact ⟨(1 + z % 60).toNat, by omega, by omega, by omega⟩
/-- an item of the script -/
theorem cell_of {ns : List Int} {i : Nat} {y : V} (hi : (ns.map V.int)[i]? = some y) : ∃ z, z ∈ ns ∧ y = V.int z := by
  rw [List.getElem?_map] at hi
  cases e : ns[i]? with
  | none => rw [e] at hi; cases hi
  | some z => rw [e] at hi; exact ⟨z, List.mem_of_getElem? e, (Option.some.inj hi).symm⟩
/-- what law(script) promises: for a list of at most 63 ints of at most 2^20 bits the answer is True -/
def spLaw (K : PySem.W.Frag) : Sp := fun vs H Q _ => ∃ (a : Addr) (ns : List Int), vs = [.ref a] ∧ SqL K H a (ns.map V.int) ∧ ns.length ≤ 63 ∧ (∀ z ∈ ns, Builtin.Int.intBits z ≤ 2 ^ 20) ∧ ∀ H', Q (.bl true) H'
theorem walk {l : PySem.W.OpenLaw} {q : Program} {loose : List Str} {XP : (Str → Option Value) → Heap → Prop} {YP : World → Heap → Prop} {d : DefRec} {K : Params → PySem.W.Frag} {k : Nat} {x : Str} (hn : l.most = some 63) (hdf : d.params.defaults = []) (hr : Room k callerA)
    (hY : ∀ (w : World) (h : Heap), YP w h → (K w.params).In h)
    (F : ∀ (w : World) (mg : Str → Option Value) (fa : Addr) (h : Heap), (K w.params).In h → h.Ns mainGlobals mg → mg d.name = some (.ref fa) →
      ∃ fd : FuncData, (∀ (s : Shared) (u : Value), BindsTo s fd ⟨[u], []⟩ [(x, u)]) ∧ ∀ base : Heap, (K w.params).In base → base.Ns mainGlobals mg → FnOk l.prog w (K w.params) mg base CX0 k fa fd [x] (spLaw (K w.params))) :
    PySem.W.WalkO q loose XP YP l.row.toRowW d [] (fun f vs => PySem.call f vs) :=
  L2.walk_ofB (n := 63) (k := k) (x := x) (CX := CX0) (sp := spLaw) hn (by decide) hdf hr hY F (fun _ _ a ns hl hb _ hS => ⟨a, ns, rfl, hS, hl, hb, fun _ => rfl⟩) fun _ _ _ _ z => z
/-! ### recipes as values -/
def lnV : TM.Ln → List V
  | .still => [.str "still"]
  | .told k => [.str "told", .int (k : Int)]
  | .behind i j => [.str "behind", .int (i : Int), .int (j : Int)]
  | .back i => [.str "back", .int (i : Int)]
/-- the lines at their addresses -/
def LnsAt (H : Hp) (as : List Addr) (ls : List TM.Ln) : Prop := Paired (fun a l => H a = some (.tup (lnV l))) as ls
def TsAt (H : Hp) (as : List Addr) (ts : List (List Nat)) : Prop := Paired (fun a t => H a = some (.tup (tI t))) as ts
theorem LnsAt.same {H H' : Hp} {as : List Addr} {ls : List TM.Ln} (h : LnsAt H as ls) (s : Same H H') : LnsAt H' as ls := Paired.imp' (fun _ _ e => s _ _ e) h
theorem TsAt.same {H H' : Hp} {as : List Addr} {ls : List (List Nat)} (h : TsAt H as ls) (s : Same H H') : TsAt H' as ls := Paired.imp' (fun _ _ e => s _ _ e) h
end Tb

namespace Tb
open PySem L2
def top (i : Nat) : Stmt := PySem.Challenge.pw_turnbase_k14_numbers_and_rows.main.body.getD i (.Pass ⟨0, 0, 0, 0⟩)
abbrev s_is_each_once : Stmt := top 4
abbrev s_need_text : Stmt := top 9
abbrev s_need_each_once : Stmt := top 10
abbrev s_read_figures : Stmt := top 11
abbrev s_read_number : Stmt := top 12
abbrev s_read_place : Stmt := top 13
abbrev s_read_parted : Stmt := top 14
abbrev s_read_places : Stmt := top 15
abbrev s_read_pair : Stmt := top 16
abbrev s_read_pairs : Stmt := top 17
abbrev s__law_cell_at : Stmt := top 19
abbrev s__law_whole : Stmt := top 20
abbrev s__law_great : Stmt := top 21
abbrev s__law_free : Stmt := top 22
abbrev s__law_spoiled : Stmt := top 23
abbrev s__law_pairs_by : Stmt := top 24
abbrev s__law_names : Stmt := top 25
abbrev s__law_due_number : Stmt := top 26
abbrev s__law_due_places : Stmt := top 27
abbrev s__law_due_pairs : Stmt := top 28
abbrev s__law_alike : Stmt := top 29
abbrev s__law_asked : Stmt := top 30
abbrev s_law : Stmt := top 31
section
variable {P : Program} {w : World} {K : PySem.W.Frag} {mg : Str → Option Value} {base : Heap} {f : Addr} {fd : FuncData}

/-! ### is_each_once, of ints that differ -/
def spEachOnce (K : PySem.W.Frag) : Sp := fun vs H Q _ => ∃ (p : Addr) (ns : List Int), vs = [.ref p] ∧ SqL K H p (ns.map V.int) ∧ ns.length ≤ 1000 ∧ ∀ H', Same H H' → Q (.bl (decide ns.Nodup)) H'
theorem difs_le (ns : List Int) : (difs ns).length ≤ ns.length := by
  have e : (List.range ns.length).map (fun i => ns.getD i 0) = ns := by
    apply List.ext_getElem?
    intro i
    rw [List.getElem?_map]
    by_cases hi : i < ns.length
    · rw [List.getElem?_range hi]
      simp [List.getElem?_eq_getElem hi]
    · rw [List.getElem?_eq_none (by rw [List.length_range]; omega), List.getElem?_eq_none (by omega)]
      rfl
  unfold difs PyProof.Rows.firstMet
  rw [e]
  have := (dedup_len ns []).2
  rw [List.length_nil, Nat.zero_add] at this
  exact this
theorem sc_is_each_once : FnScope ["things"] ["things"] (defScope s_is_each_once) := ⟨rfl, rfl, rfl, by decide +kernel, rfl, by decide +kernel, by decide +kernel⟩
theorem ok_is_each_once (D : Def K mg "is_each_once" s_is_each_once ["things"] f fd) (B : Blt mg) : FnOk P w K mg base CX0 1 f fd ["things"] (spEachOnce K) := by
  refine D.F.ok sc_is_each_once (fun vs H Q E h => ?_) (fun cdv A outer s H vs Q E hr h => ?_)
  · obtain ⟨p, ns, rfl, _⟩ := h
    rfl
  obtain ⟨p, ns, rfl, hS, hle, q⟩ := h
  refine ⟨_, pss_one (ps_ret (pe_cmpR op_eq (pe_callB call_len_setI rfl B.len bt_len (pa_cons (pe_callTy (call_setL rfl) rfl B.set bt_set (pa_cons (pv 0) pa_nil)) pa_nil)) (pe_callB call_len_seq rfl B.len bt_len (pa_cons (pv 0) pa_nil)) (nomark _))), ?_⟩
  have hdl : (difs ns).length ≤ 1000 := Nat.le_trans (difs_le ns) hle
  refine ⟨_, rfl, p, ns, rfl, hS, hle, fun l hl => ⟨l, _, _, rfl, upd_same, by omega, _, rfl, p, _, rfl, .inl ((same_new hl _).seq hS), rfl, ?_⟩⟩
  rw [dec_intD, List.length_map]
  rw [show decide ((((difs ns).length : Nat) : Int) = ((ns.length : Nat) : Int)) = decide ns.Nodup from decide_eq_decide.mpr (by rw [← difs_len]; omega)]
  exact q _ (same_new hl _)

/-! ### is_each_once, of pairs -/
def pV (x : Nat × Nat) : List V := [.int (x.1 : Int), .int (x.2 : Int)]
def pK (x : Nat × Nat) : List Key := [Sum.inl (x.1 : Int), Sum.inl (x.2 : Int)]
theorem pK_inj {x y : Nat × Nat} (h : pK x = pK y) : x = y := by
  have h1 := Sum.inl.inj (List.cons.inj h).1
  have h2 := Sum.inl.inj (List.cons.inj (List.cons.inj h).2).1
  exact Prod.ext (by omega) (by omega)
/-- the objects of pairs -/
abbrev PrAt (H : Hp) (as : List Addr) (ps : List (Nat × Nat)) : Prop := Paired (fun a x => H a = some (.tup (pV x))) as ps
theorem PrAt.same {H H' : Hp} {as : List Addr} {ps : List (Nat × Nat)} (h : PrAt H as ps) (s : Same H H') : PrAt H' as ps := by
  induction h with
  | nil => exact .nil
  | cons a _ ih => exact .cons (s _ _ a) ih
theorem PrAt.len {H : Hp} {as : List Addr} {ps : List (Nat × Nat)} (h : PrAt H as ps) : as.length = ps.length := Paired.length h
theorem PrAt.keys {H : Hp} {as : List Addr} {ps : List (Nat × Nat)} (h : PrAt H as ps) : Paired (fun a (ks : List Key) => H a = some (.tup (ks.map kV))) as (ps.map pK) := by
  induction h with
  | nil => exact .nil
  | cons a _ ih => exact .cons a ih
theorem nodup_pK {ps : List (Nat × Nat)} : (ps.map pK).Nodup ↔ ps.Nodup :=
  ⟨fun h => (List.pairwise_map.mp h).imp fun hne z => hne (by rw [z]), fun h => List.pairwise_map.mpr (List.Pairwise.imp (fun hne z => hne (pK_inj z)) h)⟩
def spEachOnceP (K : PySem.W.Frag) : Sp := fun vs H Q _ => ∃ (p : Addr) (as : List Addr) (ps : List (Nat × Nat)), vs = [.ref p] ∧ SqL K H p (as.map V.ref) ∧ PrAt H as ps ∧ ps.length ≤ 306 ∧ ∀ H', Same H H' → Q (.bl (decide ps.Nodup)) H'
theorem ok_is_each_once_p (D : Def K mg "is_each_once" s_is_each_once ["things"] f fd) (B : Blt mg) : FnOk P w K mg base CX0 1 f fd ["things"] (spEachOnceP K) := by
  refine D.F.ok sc_is_each_once (fun vs H Q E h => ?_) (fun cdv A outer s H vs Q E hr h => ?_)
  · obtain ⟨p, as, ps, rfl, _⟩ := h
    rfl
  obtain ⟨p, as, ps, rfl, hS, hP, hle, q⟩ := h
  refine ⟨_, pss_one (ps_ret (pe_cmpR op_eq (pe_callB call_len_setN rfl B.len bt_len (pa_cons (pe_callTy (call_setT rfl hr.units) rfl B.set bt_set (pa_cons (pv 0) pa_nil)) pa_nil)) (pe_callB call_len_seq rfl B.len bt_len (pa_cons (pv 0) pa_nil)) (nomark _))), ?_⟩
  refine ⟨_, rfl, p, as, ps.map pK, rfl, hS, hP.keys, by rw [List.length_map]; exact hle, fun l n hl hn hnd => ⟨l, n, rfl, upd_same, by omega, _, rfl, p, _, rfl, .inl ((same_new hl _).seq hS), rfl, ?_⟩⟩
  rw [List.length_map, nodup_pK] at hnd
  rw [dec_intD, List.length_map, hP.len]
  rw [show decide ((n : Int) = ((ps.length : Nat) : Int)) = decide ps.Nodup from decide_eq_decide.mpr (by rw [← hnd]; omega)]
  exact q _ (same_new hl _)

/-! ### isinstance(x, str) by data -/
def isStrD : PyData → Bool
  | .str _ => true
  | _ => false
theorem kd_str : ∀ d : PyData, kitTT (tyD d) "str" = some (isStrD d)
  | .none => (by decide +kernel : kitTT "NoneType" "str" = some false)
  | .bool _ => (by decide +kernel : kitTT "bool" "str" = some false)
  | .int _ => (by decide +kernel : kitTT "int" "str" = some false)
  | .str _ => (by decide +kernel : kitTT "str" "str" = some true)
  | .list _ => (by decide +kernel : kitTT "list" "str" = some false)
  | .tuple _ => (by decide +kernel : kitTT "tuple" "str" = some false)
  | .dict _ => (by decide +kernel : kitTT "dict" "str" = some false)

/-! ### need_text, of anything -/
def spNeedTextT (C : Addr) : Sp := fun vs H Q E => ∃ (x : V) (d : PyData), vs = [x] ∧ Dt H x d ∧ (isStrD d = true → Q .non H) ∧ (isStrD d = false → E (.ref C) none H)
theorem sc_need_text : FnScope ["thing"] ["thing"] (defScope s_need_text) := ⟨rfl, rfl, rfl, by decide +kernel, rfl, by decide +kernel, by decide +kernel⟩
theorem ok_need_text (D : Def K mg "need_text" s_need_text ["thing"] f fd) (B : Blt mg) {TE C : Addr} (EA : ErrAt K mg TE "NoText" C) : KnownX P w K mg base 1 "need_text" ["thing"] (spNeedTextT C) := by
  refine ⟨f, fd, ?_, D.F.kp, D.m, D.b⟩
  refine D.F.okX sc_need_text (fun vs H Q E h => ?_) (fun cdv A outer s H vs Q E hr h => ?_)
  · obtain ⟨x, d, rfl, _⟩ := h
    rfl
  obtain ⟨x, d, rfl, hd, q1, q2⟩ := h
  refine ⟨_, pss_one (ps_if (pt_not (pt_val (pe_callB call_isinst rfl B.isinstance bt_isinstance (pa_cons (pv 0) (pa_cons (pe_bltn (v := .ty "str") rfl B.str bt_str rfl) pa_nil))))) (pss_one (ps_raise EA.m EA.c PySem.F.excBase_ValueError rfl rfl (pa_cons pe_str pa_nil))) pss_nil), ?_⟩
  refine ⟨_, rfl, _, _, _, _, rfl, hd.ty, kit_tt (kd_str d), _, rfl, ?_⟩
  cases hb : isStrD d with
  | true => exact iteF (q1 hb)
  | false => exact iteT ⟨by decide, q2 hb⟩

/-! ### need_each_once, of any ints -/
def spOnceT (K : PySem.W.Frag) (C : Addr) : Sp := fun vs H Q E => ∃ (p : Addr) (ns : List Int), vs = [.ref p] ∧ SqL K H p (ns.map V.int) ∧ ns.length ≤ 1000 ∧ (ns.Nodup → ∀ H' : Hp, Same H H' → Q .non H') ∧ (¬ ns.Nodup → ∀ H' : Hp, Same H H' → E (.ref C) none H')
theorem sc_need_each_once : FnScope ["things"] ["things"] (defScope s_need_each_once) := ⟨rfl, rfl, rfl, by decide +kernel, rfl, by decide +kernel, by decide +kernel⟩
theorem ok_need_each_once (D : Def K mg "need_each_once" s_need_each_once ["things"] f fd) (B : Blt mg) (KE : Known P w K mg base 1 "is_each_once" ["things"] (spEachOnce K)) {TE C : Addr} (EA : ErrAt K mg TE "NoText" C) : KnownX P w K mg base 2 "need_each_once" ["things"] (spOnceT K C) := by
  refine ⟨f, fd, ?_, D.F.kp, D.m, D.b⟩
  refine D.F.okX sc_need_each_once (fun vs H Q E h => ?_) (fun cdv A outer s H vs Q E hr h => ?_)
  · obtain ⟨p, ns, rfl, _⟩ := h
    rfl
  obtain ⟨p, ns, rfl, hS, hle, q1, q2⟩ := h
  refine ⟨_, pss_one (ps_if (pt_not (pt_val (pe_kn KE hr rfl (pa_cons (pv 0) pa_nil)))) (pss_one (ps_raise EA.m EA.c PySem.F.excBase_ValueError rfl rfl (pa_cons pe_str pa_nil))) pss_nil), ?_⟩
  refine ⟨_, rfl, p, ns, rfl, hS, hle, fun H' s' => ⟨_, rfl, ?_⟩⟩
  by_cases hnd : ns.Nodup
  · rw [decide_eq_true hnd]
    exact iteF (q1 hnd H' s')
  · rw [decide_eq_false hnd]
    exact iteT ⟨by decide, q2 hnd H' s'⟩

/-! ### need_each_once, of pairs -/
def spOnceP (K : PySem.W.Frag) (C : Addr) : Sp := fun vs H Q E => ∃ (p : Addr) (as : List Addr) (ps : List (Nat × Nat)), vs = [.ref p] ∧ SqL K H p (as.map V.ref) ∧ PrAt H as ps ∧ ps.length ≤ 306 ∧ (ps.Nodup → ∀ H' : Hp, Same H H' → Q .non H') ∧ (¬ ps.Nodup → ∀ H' : Hp, Same H H' → E (.ref C) none H')
theorem ok_need_each_once_p (D : Def K mg "need_each_once" s_need_each_once ["things"] f fd) (B : Blt mg) (KE : Known P w K mg base 1 "is_each_once" ["things"] (spEachOnceP K)) {TE C : Addr} (EA : ErrAt K mg TE "NoText" C) : KnownX P w K mg base 2 "need_each_once" ["things"] (spOnceP K C) := by
  refine ⟨f, fd, ?_, D.F.kp, D.m, D.b⟩
  refine D.F.okX sc_need_each_once (fun vs H Q E h => ?_) (fun cdv A outer s H vs Q E hr h => ?_)
  · obtain ⟨p, as, ps, rfl, _⟩ := h
    rfl
  obtain ⟨p, as, ps, rfl, hS, hP, hle, q1, q2⟩ := h
  refine ⟨_, pss_one (ps_if (pt_not (pt_val (pe_kn KE hr rfl (pa_cons (pv 0) pa_nil)))) (pss_one (ps_raise EA.m EA.c PySem.F.excBase_ValueError rfl rfl (pa_cons pe_str pa_nil))) pss_nil), ?_⟩
  refine ⟨_, rfl, p, as, ps, rfl, hS, hP, hle, fun H' s' => ⟨_, rfl, ?_⟩⟩
  by_cases hnd : ps.Nodup
  · rw [decide_eq_true hnd]
    exact iteF (q1 hnd H' s')
  · rw [decide_eq_false hnd]
    exact iteT ⟨by decide, q2 hnd H' s'⟩

/-! ### read_figures, of any text -/
def spFigsT (C : Addr) : Sp := fun vs H Q E => ∃ (t : Str) (most : Nat), vs = [.str t, .int (most : Int)] ∧ Asc 4000 t ∧ most ≤ 600 ∧ (figsOk most t = true → ∀ H' : Hp, Same H H' → Q (.int ((figVal t : Nat) : Int)) H') ∧ (figsOk most t = false → ∀ H' : Hp, Same H H' → E (.ref C) none H')
theorem sc_read_figures : FnScope ["text", "most"] ["text", "most"] (defScope s_read_figures) := ⟨rfl, rfl, rfl, by decide +kernel, rfl, by decide +kernel, by decide +kernel⟩
def sFig : Str := "0123456789"
theorem fig_in {c : Nat} : (!(Builtin.Str.occurrences sFig ⟨#[c]⟩ 0 sFig.length 1).isEmpty) = isFig c := by
  rw [StrLaws.found_one]
  have e : sFig.cps.toList = [48, 49, 50, 51, 52, 53, 54, 55, 56, 57] := by decide
  rw [e]
  unfold isFig
  rw [← Bool.decide_and, decide_eq_decide]
  simp only [List.mem_cons, List.mem_nil_iff, or_false]
  omega
theorem ok_read_figures (D : Def K mg "read_figures" s_read_figures ["text", "most"] f fd) (B : Blt mg) (GF : Glob mg "FIGURES" (.str sFig)) {TE C : Addr} (EA : ErrAt K mg TE "NoText" C) : KnownX P w K mg base 1 "read_figures" ["text", "most"] (spFigsT C) := by
  refine ⟨f, fd, ?_, D.F.kp, D.m, D.b⟩
  refine D.F.okX sc_read_figures (fun vs H Q E h => ?_) (fun cdv A outer s H vs Q E hr h => ?_)
  · obtain ⟨t, most, rfl, _⟩ := h
    rfl
  obtain ⟨t, most, rfl, ht, hm, q1, q2⟩ := h
  have hz := sizeLine_big
  have htl := ht.1
  refine ⟨_, pss_cons (ps_if (pt_not (pt_chain op_le op_le pe_int (pe_callB call_len_str rfl B.len bt_len (pa_cons (pv 0) pa_nil)) (pv 1))) (pss_one (ps_raise EA.m EA.c PySem.F.excBase_ValueError rfl rfl (pa_cons pe_str pa_nil))) pss_nil)
    (pss_cons (ps_if (pt_not (pt_val (pe_callB (call_allL rfl) rfl B.all bt_all (pa_cons (pe_comp1 [] ["sign"] rfl (pi_str (pv 0)) (fun _ _ _ _ => pe_cmpR op_in_str (pv 0) (pe_gl GF rfl) rfl)) pa_nil)))) (pss_one (ps_raise EA.m EA.c PySem.F.excBase_ValueError rfl rfl (pa_cons pe_str pa_nil))) pss_nil)
    (pss_cons (ps_if (PW.pt (pw_and (pt_cmpR op_gt (pe_callB call_len_str rfl B.len bt_len (pa_cons (pv 0) pa_nil)) pe_int (nomark _)) (pw_and1 (pt_cmpR op_eq (pe_ix ix_str (pv 0) pe_int (fun _ _ => rfl)) pe_str (nomark _))))) (pss_one (ps_raise EA.m EA.c PySem.F.excBase_ValueError rfl rfl (pa_cons pe_str pa_nil))) pss_nil)
    (pss_one (ps_ret (pe_callTy call_int_tx rfl B.int bt_int (pa_cons (pv 0) pa_nil)))))), ?_⟩
  refine ⟨_, rfl, t, rfl, by omega, _, _, rfl, rfl, _, rfl, ?_⟩
  by_cases h1 : 1 ≤ t.length
  case neg =>
    rw [decide_eq_false (show ¬ (1 : Int) ≤ ((t.length : Nat) : Int) by omega)]
    refine iteF ⟨_, rfl, iteT ⟨by decide, q2 ?_ H (Same.refl _)⟩⟩
    unfold figsOk
    rw [decide_eq_false h1]; rfl
  rw [decide_eq_true (show (1 : Int) ≤ ((t.length : Nat) : Int) by omega)]
  refine iteT ⟨_, rfl, _, _, rfl, rfl, _, rfl, ?_⟩
  by_cases h2 : t.length ≤ most
  case neg =>
    rw [decide_eq_false (show ¬ ((t.length : Nat) : Int) ≤ (most : Int) by omega)]
    refine iteT ⟨by decide, q2 ?_ H (Same.refl _)⟩
    unfold figsOk
    rw [decide_eq_false h2, Bool.and_false]; rfl
  rw [decide_eq_true (show ((t.length : Nat) : Int) ≤ (most : Int) by omega)]
  refine iteF ?_
  have hcl : t.cps.toList.length = t.length := len_cps _
  refine ⟨_, rfl, t, rfl, ht.all, comp_str ((t.cps.toList.map isFig).map V.bl) (by rw [List.length_map, List.length_map, hcl]) (by omega) ?_ ?_⟩
  · intro i c H' hc s' _ _ _ _
    refine ⟨_, rfl, _, _, rfl, rfl, Same.refl _, ?_⟩
    rw [fig_in, List.getElem?_map, List.getElem?_map, hc]
    rfl
  intro b H1 _ s1 hb
  refine ⟨b, _, rfl, SqL.of hb, _, rfl, ?_⟩
  rw [show (t.cps.toList.map isFig).all id = t.cps.toList.all isFig by rw [List.all_map]; rfl]
  cases hall : t.cps.toList.all isFig with
  | false =>
    refine iteT ⟨by decide, q2 ?_ H1 s1⟩
    unfold figsOk
    rw [hall, Bool.false_and, Bool.and_false]
  | true =>
  refine iteF ?_
  refine ⟨_, rfl, t, rfl, by omega, _, _, rfl, rfl, _, rfl, ?_⟩
  have last : figsOk most t = true → ∃ (z : Str) (n : Int), [V.str t] = [V.str z] ∧ PySem.intText? z = some n ∧ z.length ≤ 640 ∧ Q (.int n) H1 := fun ok => ⟨t, _, rfl, figsOk_int ok (by omega), by omega, q1 ok H1 s1⟩
  by_cases h3 : 1 < t.length
  · rw [decide_eq_true (show (1 : Int) < ((t.length : Nat) : Int) by omega)]
    refine iteT ?_
    obtain ⟨c, hc⟩ : ∃ c, t.cps.toList[0]? = some c := ⟨_, List.getElem?_eq_getElem (by rw [hcl]; omega)⟩
    refine ⟨_, rfl, t, 0, c, rfl, rfl, by omega, atI_nat (j := 0) hc, rfl, _, rfl, ?_⟩
    have hh : t.cps.toList.head? = some c := by rw [List.head?_eq_getElem?, hc]
    show if decide (V.str ⟨#[c]⟩ = V.str "0") = true then _ else _
    by_cases hc48 : c = 48
    · subst hc48
      rw [decide_eq_true (show V.str ⟨#[48]⟩ = V.str "0" from rfl)]
      refine iteT ⟨by decide, q2 ?_ H1 s1⟩
      unfold figsOk
      rw [hh, decide_eq_true h3, decide_eq_true rfl]
      simp
    · have ne : ¬ (V.str ⟨#[c]⟩ = V.str "0") := fun z => by
        injection z with z
        have h2 := congrArg (fun s : Str => s.cps.toList) z
        have h3 : [c] = [48] := h2
        exact hc48 (by simpa using h3)
      rw [decide_eq_false ne]
      refine iteF ⟨_, rfl, last ?_⟩
      unfold figsOk
      rw [hh, hall, decide_eq_true h1, decide_eq_true h2, decide_eq_false (show ¬ (some c = some 48) from fun z => hc48 (Option.some.inj z))]
      simp
  · rw [decide_eq_false (show ¬ (1 : Int) < ((t.length : Nat) : Int) by omega)]
    refine iteF ⟨_, rfl, last ?_⟩
    unfold figsOk
    rw [hall, decide_eq_true h1, decide_eq_true h2, decide_eq_false h3]
    rfl

/-! ### read_number, of anything -/
def rdNum : PyData → Option Nat
  | .str t => if figsOk 90 t = true then some (figVal t) else none
  | _ => none
theorem rdNum_str (t : Str) : rdNum (.str t) = if figsOk 90 t = true then some (figVal t) else none := rfl
def TxA (m : Nat) (d : PyData) : Prop := ∀ t, d = .str t → Asc m t
theorem str_of {H : Hp} {x : V} {d : PyData} (h : Dt H x d) (hs : isStrD d = true) : ∃ t, d = .str t ∧ x = .str t := by
  cases h with
  | str t => exact ⟨t, rfl, rfl⟩
  | _ => cases hs
theorem rdNum_not {d : PyData} (h : isStrD d = false) : rdNum d = none := by
  cases d with
  | str t => cases h
  | _ => rfl
def spNumberT (C : Addr) : Sp := fun vs H Q E => ∃ (x : V) (d : PyData), vs = [x] ∧ Dt H x d ∧ TxA 900 d ∧ (∀ v, rdNum d = some v → ∀ H' : Hp, Same H H' → Q (.int ((v : Nat) : Int)) H') ∧ (rdNum d = none → ∀ H' : Hp, Same H H' → E (.ref C) none H')
theorem sc_read_number : FnScope ["text"] ["text"] (defScope s_read_number) := ⟨rfl, rfl, rfl, by decide +kernel, rfl, by decide +kernel, by decide +kernel⟩
theorem ok_read_number (D : Def K mg "read_number" s_read_number ["text"] f fd) (B : Blt mg) {C : Addr} (KT : KnownX P w K mg base 1 "need_text" ["thing"] (spNeedTextT C)) (KF : KnownX P w K mg base 1 "read_figures" ["text", "most"] (spFigsT C)) (GN : Glob mg "NUMBER_FIGURES" (.int 90)) : KnownX P w K mg base 2 "read_number" ["text"] (spNumberT C) := by
  refine ⟨f, fd, ?_, D.F.kp, D.m, D.b⟩
  refine D.F.okX sc_read_number (fun vs H Q E h => ?_) (fun cdv A outer s H vs Q E hr h => ?_)
  · obtain ⟨x, d, rfl, _⟩ := h
    rfl
  obtain ⟨x, d, rfl, hd, ht, q1, q2⟩ := h
  refine ⟨_, pss_cons (ps_expr (pe_knX KT hr rfl (pa_cons (pv 0) pa_nil)))
    (pss_one (ps_ret (pe_knX KF hr rfl (pa_cons (pv 0) (pa_cons (pe_gl GN rfl) pa_nil))))), ?_⟩
  refine ⟨_, rfl, x, d, rfl, hd, fun hs => ?_, fun hs => q2 (rdNum_not hs) H (Same.refl _)⟩
  obtain ⟨t, rfl, rfl⟩ := str_of hd hs
  refine ⟨_, rfl, t, 90, rfl, (ht t rfl).mono (by decide), by decide, fun ok H1 s1 => q1 _ (by rw [rdNum_str, if_pos ok]) H1 s1, fun no H1 s1 => q2 (by rw [rdNum_str, if_neg (by rw [no]; decide)]) H1 s1⟩

/-! ### read_place, of any text -/
def plOk (n : Nat) (t : Str) : Bool := figsOk 2 t && decide (figVal t < n)
def spPlaceT (C : Addr) : Sp := fun vs H Q E => ∃ (t : Str) (n : Nat), vs = [.str t, .int (n : Int)] ∧ Asc 4000 t ∧ (plOk n t = true → ∀ H' : Hp, Same H H' → Q (.int ((figVal t : Nat) : Int)) H') ∧ (plOk n t = false → ∀ H' : Hp, Same H H' → E (.ref C) none H')
theorem sc_read_place : FnScope ["text", "many", "place"] ["text", "many"] (defScope s_read_place) := ⟨rfl, rfl, rfl, by decide +kernel, rfl, by decide +kernel, by decide +kernel⟩
theorem ok_read_place (D : Def K mg "read_place" s_read_place ["text", "many"] f fd) (B : Blt mg) {TE C : Addr} (EA : ErrAt K mg TE "NoText" C) (KF : KnownX P w K mg base 1 "read_figures" ["text", "most"] (spFigsT C)) (GP : Glob mg "PLACE_FIGURES" (.int 2)) : KnownX P w K mg base 2 "read_place" ["text", "many"] (spPlaceT C) := by
  refine ⟨f, fd, ?_, D.F.kp, D.m, D.b⟩
  refine D.F.okX sc_read_place (fun vs H Q E h => ?_) (fun cdv A outer s H vs Q E hr h => ?_)
  · obtain ⟨t, n, rfl, _⟩ := h
    rfl
  obtain ⟨t, n, rfl, ht, q1, q2⟩ := h
  refine ⟨_, pss_cons (ps_set (i := 2) sc_read_place.nd rfl (Or.inl rfl) (pe_knX KF hr rfl (pa_cons (pv 0) (pa_cons (pe_gl GP rfl) pa_nil))))
    (pss_cons (ps_if (pt_cmpR op_ge (pv 2) (pv 1) (nomark _)) (pss_one (ps_raise EA.m EA.c PySem.F.excBase_ValueError rfl rfl (pa_cons pe_str pa_nil))) pss_nil)
    (pss_one (ps_ret (pv 2)))), ?_⟩
  refine ⟨_, rfl, t, 2, rfl, ht, by decide, fun ok H1 s1 => ?_, fun no H1 s1 => q2 (by unfold plOk; rw [no]; rfl) H1 s1⟩
  refine ⟨_, rfl, _, rfl, _, _, rfl, rfl, _, rfl, ?_⟩
  show if decide ((n : Int) ≤ ((figVal t : Nat) : Int)) = true then _ else _
  by_cases hlt : figVal t < n
  · rw [decide_eq_false (by omega)]
    exact iteF ⟨_, rfl, q1 (by unfold plOk; rw [ok, decide_eq_true hlt]; rfl) H1 s1⟩
  · rw [decide_eq_true (by omega)]
    exact iteT ⟨by decide, q2 (by unfold plOk; rw [decide_eq_false hlt, Bool.and_false]) H1 s1⟩

/-! ### read_parted, of any text -/
def rdPt (n : Nat) (mark t : Str) : Option (List Nat) := if ((Txt.split t mark).all (plOk n) && decide ((Txt.split t mark).map figVal).Nodup) = true then some ((Txt.split t mark).map figVal) else none
def spPartedT (C : Addr) : Sp := fun vs H Q E => ∃ (t mark : Str) (n : Nat), vs = [.str t, .str mark, .int (n : Int)] ∧ Asc 900 t ∧ (mark.length == 0) = false ∧ (∀ l, rdPt n mark t = some l → ∀ (r : Addr) (H' : Hp), H r = none → Same H H' → H' r = some (.lst (tI l)) → Q (.ref r) H') ∧ (rdPt n mark t = none → ∀ H' : Hp, Same H H' → E (.ref C) none H')
theorem sc_read_parted : FnScope ["text", "mark", "many", "places"] ["text", "mark", "many"] (defScope s_read_parted) := ⟨rfl, rfl, rfl, by decide +kernel, rfl, by decide +kernel, by decide +kernel⟩
theorem nodup_iN {l : List Nat} : (TM.iN l).Nodup ↔ l.Nodup := by
  unfold TM.iN
  refine ⟨fun h => (List.pairwise_map.mp h).imp fun hne z => hne (by rw [z]), fun h => List.pairwise_map.mpr (List.Pairwise.imp (fun hne z => hne (by omega)) h)⟩
theorem ok_read_parted (D : Def K mg "read_parted" s_read_parted ["text", "mark", "many"] f fd) (B : Blt mg) {C : Addr} (KP : KnownX P w K mg base 2 "read_place" ["text", "many"] (spPlaceT C)) (KO : KnownX P w K mg base 2 "need_each_once" ["things"] (spOnceT K C)) : KnownX P w K mg base 3 "read_parted" ["text", "mark", "many"] (spPartedT C) := by
  refine ⟨f, fd, ?_, D.F.kp, D.m, D.b⟩
  refine D.F.okX sc_read_parted (fun vs H Q E h => ?_) (fun cdv A outer s H vs Q E hr h => ?_)
  · obtain ⟨t, mark, n, rfl, _⟩ := h
    rfl
  obtain ⟨t, mark, n, rfl, ht, hmk, q1, q2⟩ := h
  refine ⟨_, pss_cons (ps_setCompX (i := 3) passH rfl rfl [2] ["word", "many"] sc_read_parted.nd rfl rfl rfl (pi_list (pe_bm PySem.F.plainAttrs_str PySem.F.slot_str_split PySem.F.type_str_split mt_split (pv 0) (pa_cons (pv 1) pa_nil))) (fun _ _ _ _ => pe_knC KP hr rfl (pa_cons (pv 0) (pa_cons (pv 1) pa_nil))))
    (pss_cons (ps_expr (pe_knX KO hr rfl (pa_cons (pv 3) pa_nil)))
    (pss_one (ps_ret (pv 3)))), ?_⟩
  have hz := sizeLine_big
  have ht1 := ht.1
  have hps := split_len t mark
  have hasc : ∀ w ∈ Txt.split t mark, Asc 4000 w := fun w hw => (ht.split hw).mono (by decide)
  refine ⟨_, rfl, rfl, _, rfl, t, mark, rfl, rfl, hmk, by omega, fun p hp => ?_⟩
  have s1 := same_new hp (.lst ((Txt.split t mark).map V.str))
  have e1 : (upd H p (.lst ((Txt.split t mark).map V.str))) p = some (.lst ((Txt.split t mark).map V.str)) := upd_same
  generalize upd H p (.lst ((Txt.split t mark).map V.str)) = H1 at s1 e1 ⊢
  have word : ∀ {j : Nat} {x : V}, ((Txt.split t mark).map V.str)[j]? = some x → ∃ w, (Txt.split t mark)[j]? = some w ∧ x = V.str w := fun {j x} h => by
    rw [List.getElem?_map] at h
    cases e : (Txt.split t mark)[j]? with
    | none => rw [e] at h; cases h
    | some w => rw [e] at h; exact ⟨w, rfl, (Option.some.inj h).symm⟩
  cases hall : (Txt.split t mark).all (plOk n) with
  | false =>
    have hrd : rdPt n mark t = none := by unfold rdPt; rw [hall, Bool.false_and, if_neg Bool.false_ne_true]
    obtain ⟨w, hw, hno⟩ := List.all_eq_false.mp hall
    obtain ⟨j, hj⟩ := List.getElem?_of_mem hw
    have hjl : j < ((Txt.split t mark).map V.str).length := by rw [List.length_map]; exact (List.getElem?_eq_some_iff.mp hj).1
    refine ⟨p, rfl, ⟨_, SqL.of e1⟩, comp_fail (SqL.of e1) j hjl (by rw [List.length_map]; omega) ?_⟩
    intro i H4 x hi hx s4 _ _ _ _
    obtain ⟨w', hw', rfl⟩ := word hx
    refine ⟨_, rfl, _, rfl, w', n, rfl, hasc w' (List.mem_of_getElem? hw'), fun ok H5 s5 => ⟨s5, ?_⟩, fun no H5 s5 => q2 hrd H5 ((s1.trans s4).trans s5)⟩
    refine Nat.lt_of_le_of_ne hi fun z => ?_
    subst z
    rw [hj] at hw'
    cases hw'
    exact hno ok
  | true =>
    refine ⟨p, rfl, ⟨_, SqL.of e1⟩, comp_list (SqL.of e1) (tI ((Txt.split t mark).map figVal)) (by rw [tI_length, List.length_map, List.length_map]) (by rw [List.length_map]; omega) ?_ ?_⟩
    · intro i H4 x hx s4 _ _ _ _
      obtain ⟨w', hw', rfl⟩ := word hx
      refine ⟨_, rfl, _, rfl, w', n, rfl, hasc w' (List.mem_of_getElem? hw'), fun ok H5 s5 => ⟨s5, tI_of (by rw [List.getElem?_map, hw']; rfl)⟩, fun no H5 s5 => ?_⟩
      rw [List.all_eq_true.mp hall w' (List.mem_of_getElem? hw')] at no
      cases no
    intro r H2 hr2 s2 hrr
    refine ⟨_, rfl, r, TM.iN ((Txt.split t mark).map figVal), rfl, SqL.of (by rw [← iI]; exact hrr), by rw [TM.iN_length, List.length_map]; omega, fun hnd H3 s3 => ?_, fun hnd H3 s3 => ?_⟩
    · refine ⟨_, rfl, q1 _ ?_ r H3 (s1.free hr2) (s1.trans (s2.trans s3)) (s3 _ _ hrr)⟩
      unfold rdPt
      rw [hall, decide_eq_true (nodup_iN.mp hnd)]
      rfl
    · refine q2 ?_ H3 (s1.trans (s2.trans s3))
      unfold rdPt
      rw [hall, decide_eq_false fun z => hnd (nodup_iN.mpr z)]
      rfl

/-! ### read_places, of anything -/
def rdPls (n : Nat) : PyData → Option (List Nat)
  | .str t => rdPt n sC t
  | _ => none
theorem rdPls_not {n : Nat} {d : PyData} (h : isStrD d = false) : rdPls n d = none := by
  cases d with
  | str t => cases h
  | _ => rfl
def spPlacesT (C : Addr) : Sp := fun vs H Q E => ∃ (x : V) (d : PyData) (n : Nat), vs = [x, .int (n : Int)] ∧ Dt H x d ∧ TxA 900 d ∧ (∀ l, rdPls n d = some l → ∀ (r : Addr) (H' : Hp), H r = none → Same H H' → H' r = some (.lst (tI l)) → Q (.ref r) H') ∧ (rdPls n d = none → ∀ H' : Hp, Same H H' → E (.ref C) none H')
theorem sc_read_places : FnScope ["text", "many"] ["text", "many"] (defScope s_read_places) := ⟨rfl, rfl, rfl, by decide +kernel, rfl, by decide +kernel, by decide +kernel⟩
theorem ok_read_places (D : Def K mg "read_places" s_read_places ["text", "many"] f fd) (B : Blt mg) {C : Addr} (KT : KnownX P w K mg base 1 "need_text" ["thing"] (spNeedTextT C)) (KP : KnownX P w K mg base 3 "read_parted" ["text", "mark", "many"] (spPartedT C)) : KnownX P w K mg base 4 "read_places" ["text", "many"] (spPlacesT C) := by
  refine ⟨f, fd, ?_, D.F.kp, D.m, D.b⟩
  refine D.F.okX sc_read_places (fun vs H Q E h => ?_) (fun cdv A outer s H vs Q E hr h => ?_)
  · obtain ⟨x, d, n, rfl, _⟩ := h
    rfl
  obtain ⟨x, d, n, rfl, hd, ht, q1, q2⟩ := h
  refine ⟨_, pss_cons (ps_expr (pe_knX KT hr rfl (pa_cons (pv 0) pa_nil)))
    (pss_one (ps_ret (pe_knX KP hr rfl (pa_cons (pv 0) (pa_cons pe_str (pa_cons (pv 1) pa_nil)))))), ?_⟩
  refine ⟨_, rfl, x, d, rfl, hd, fun hs => ?_, fun hs => q2 (rdPls_not hs) H (Same.refl _)⟩
  obtain ⟨t, rfl, rfl⟩ := str_of hd hs
  exact ⟨_, rfl, _, rfl, t, sC, n, rfl, ht t rfl, by decide, q1, q2⟩

/-! ### read_pair, of any text -/
abbrev sD : Str := "-"
def rdPr (n : Nat) (t : Str) : Option (Nat × Nat) := match rdPt n sD t with
  | some [a, b] => some (a, b)
  | _ => none
theorem rdPr_len {n : Nat} {t : Str} {l : List Nat} (h : rdPt n sD t = some l) (hl : l.length ≠ 2) : rdPr n t = none := by
  unfold rdPr
  rw [h]
  match l, hl with
  | [], _ => rfl
  | [_], _ => rfl
  | [_, _], hl => exact absurd rfl hl
  | _ :: _ :: _ :: _, _ => rfl
def spPairT (C : Addr) : Sp := fun vs H Q E => ∃ (t : Str) (n : Nat), vs = [.str t, .int (n : Int)] ∧ Asc 900 t ∧ (∀ x, rdPr n t = some x → ∀ (r : Addr) (H' : Hp), H r = none → Same H H' → H' r = some (.tup (pV x)) → Q (.ref r) H') ∧ (rdPr n t = none → ∀ H' : Hp, Same H H' → E (.ref C) none H')
theorem sc_read_pair : FnScope ["text", "many", "places"] ["text", "many"] (defScope s_read_pair) := ⟨rfl, rfl, rfl, by decide +kernel, rfl, by decide +kernel, by decide +kernel⟩
theorem ok_read_pair (D : Def K mg "read_pair" s_read_pair ["text", "many"] f fd) (B : Blt mg) {TE C : Addr} (EA : ErrAt K mg TE "NoText" C) (KP : KnownX P w K mg base 3 "read_parted" ["text", "mark", "many"] (spPartedT C)) : KnownX P w K mg base 4 "read_pair" ["text", "many"] (spPairT C) := by
  refine ⟨f, fd, ?_, D.F.kp, D.m, D.b⟩
  refine D.F.okX sc_read_pair (fun vs H Q E h => ?_) (fun cdv A outer s H vs Q E hr h => ?_)
  · obtain ⟨t, n, rfl, _⟩ := h
    rfl
  obtain ⟨t, n, rfl, ht, q1, q2⟩ := h
  refine ⟨_, pss_cons (ps_set (i := 2) sc_read_pair.nd rfl (Or.inl rfl) (pe_knX KP hr rfl (pa_cons (pv 0) (pa_cons pe_str (pa_cons (pv 1) pa_nil)))))
    (pss_cons (ps_if (pt_cmpR op_ne (pe_callB call_len_seq rfl B.len bt_len (pa_cons (pv 2) pa_nil)) pe_int (nomark _)) (pss_one (ps_raise EA.m EA.c PySem.F.excBase_ValueError rfl rfl (pa_cons pe_str pa_nil))) pss_nil)
    (pss_one (ps_ret (pe_callTy call_tuple_of rfl B.tuple bt_tuple (pa_cons (pv 2) pa_nil))))), ?_⟩
  refine ⟨_, rfl, _, rfl, t, sD, n, rfl, ht, by decide, fun l hl r H1 hr1 s1 hrr => ?_, fun no H1 s1 => q2 (by unfold rdPr; rw [no]) H1 s1⟩
  refine ⟨_, rfl, r, _, rfl, .inl (SqL.of hrr), rfl, _, rfl, ?_⟩
  show if (!decide (V.int (((tI l).length : Nat) : Int) = V.int 2)) = true then _ else _
  rw [tI_length]
  by_cases h2 : l.length = 2
  · rw [h2, decide_eq_true (show V.int ((2 : Nat) : Int) = V.int 2 from rfl)]
    refine iteF ?_
    match l, h2, hl, hrr with
    | [a, b], _, hl, hrr =>
      refine ⟨_, rfl, r, _, rfl, .inl ⟨SqL.of hrr, fun l2 hl2 => q1 (a, b) (by unfold rdPr; rw [hl]) l2 _ (s1.free hl2) (s1.trans (same_new hl2 _)) upd_same⟩⟩
  · rw [decide_eq_false fun z => h2 (by injection z with z; omega)]
    exact iteT ⟨by decide, q2 (rdPr_len hl h2) H1 s1⟩

theorem paired_get {α β : Type} {F : α → β → Prop} : ∀ {as : List α} {bs : List β}, Paired F as bs → ∀ (i : Nat) (a : α), as[i]? = some a → ∃ b, bs[i]? = some b ∧ F a b
  | _, _, .nil, i, a, h => by cases i <;> cases h
  | _, _, .cons f _, 0, a, h => by
    cases h
    exact ⟨_, rfl, f⟩
  | _, _, .cons _ r, i + 1, a, h => by
    obtain ⟨b, hb, f⟩ := paired_get r i a (by simpa using h)
    exact ⟨b, by simpa using hb, f⟩
theorem pairedMem {α β : Type} {F G : α → β → Prop} : ∀ {as : List α} {bs : List β}, Paired F as bs → (∀ a ∈ as, ∀ b, F a b → G a b) → Paired G as bs
  | _, _, .nil, _ => .nil
  | _, _, .cons f r, h => .cons (h _ List.mem_cons_self _ f) (pairedMem r fun a ha b q => h a (List.mem_cons_of_mem _ ha) b q)

/-- a comprehension over a list whose turns make a new object each -/
theorem comp_objs {K : PySem.W.Frag} {a : Addr} {xs : List V} {fr : List Nat} {te : CT TE} {σ : St} {H1 : Hp} {Q : Addr → Hp → Prop} {α : Type} (g : α → HO) (ys : List α) (hS : SqL K H1 a xs) (hn : ys.length = xs.length) (hz : xs.length ≤ sizeLine)
    (turn : ∀ (i : Nat) H x y, xs[i]? = some x → ys[i]? = some y → Same H1 H → ∀ C₀ s₀ H₀ fp, te C₀ s₀ H₀ fp (some x :: fr.map fun j => (σ[j]?).getD none) H fun v H4 => Same H H4 ∧ ∃ b, v = .ref b ∧ H b = none ∧ H4 b = some (g y))
    (fin : ∀ D H as, H1 D = none → Same H1 H → H D = some (.lst (as.map V.ref)) → Paired (fun b y => H b = some (g y)) as ys → (∀ b ∈ as, H1 b = none) → Q D H) :
    ∀ D, H1 D = none → ∃ W : Nat → Nat → St → Hp → Prop, (∃ m, W 0 m (stComp 1 fr σ) (upd H1 D (.lst []))) ∧ ∀ i m σ' H', W i m σ' H' →
    ((Itl K a).stop i H' ∧ Q D H') ∨ ((Itl K a).go i H' ∧ ∀ x H2, (Itl K a).yld i H' x H2 → ∀ C₀ s₀ H₀ fp, gName 0 x σ' H2 fun σ3 H3 => ∃ N : VK, te C₀ s₀ H₀ fp σ3 H3 N ∧ ∀ y H4, N y H4 →
      ∃ ys m', H4 D = some (.lst ys) ∧ ys.length < sizeLine ∧ m' < m ∧ W (i + 1) m' σ3 (upd H4 D (.lst (ys ++ [y])))) := by
  intro D hD
  refine ⟨fun i m σ' H' => m = xs.length - i ∧ i ≤ xs.length ∧ Same H1 H' ∧ (∃ as : List Addr, H' D = some (.lst (as.map V.ref)) ∧ Paired (fun b y => H' b = some (g y)) as (ys.take i) ∧ (∀ b ∈ as, b ≠ D) ∧ ∀ b ∈ as, H1 b = none) ∧ ∃ z, σ' = z :: fr.map fun j => (σ[j]?).getD none,
    ⟨xs.length, rfl, Nat.zero_le _, same_new hD _, ⟨[], upd_same, .nil, fun _ h => (by cases h), fun _ h => (by cases h)⟩, none, rfl⟩, ?_⟩
  rintro i m σ' H' ⟨rfl, hi, sm, ⟨as, hl, hP, hne, hnw⟩, z, rfl⟩
  by_cases hlt : i < xs.length
  · refine .inr ⟨⟨xs, xs[i], sm.seq hS, by simp [hlt]⟩, fun x H2 yl C₀ s₀ H₀ fp => ?_⟩
    obtain ⟨e, hx⟩ := yl
    subst e
    have hxi := hx xs (sm.seq hS)
    have hyi : ys[i]? = some ys[i] := List.getElem?_eq_getElem (by omega)
    refine ⟨_, turn i _ x _ hxi hyi sm C₀ s₀ H₀ fp, fun v H4 ⟨s4, b, hv, hb0, hG⟩ => ?_⟩
    subst hv
    have hasl : as.length = i := by rw [Paired.length hP, List.length_take]; omega
    have hD4 := s4 _ _ hl
    have hbD : b ≠ D := Ne.symm (ne_of_none hl hb0)
    refine ⟨as.map V.ref, xs.length - (i + 1), hD4, by rw [List.length_map, hasl]; omega, by omega, rfl, hlt, fun c o e => ?_, ⟨as ++ [b], by rw [upd_same, List.map_append]; rfl, ?_, fun c hc => ?_, fun c hc => ?_⟩, _, rfl⟩
    · rw [upd_ne (ne_of_none e hD)]
      exact s4 _ _ (sm _ _ e)
    · rw [List.take_add_one, hyi]
      refine Paired.snoc (pairedMem hP fun c hc y e => by rw [upd_ne (hne c hc)]; exact s4 _ _ e) ?_
      rw [upd_ne hbD]
      exact hG
    · rcases List.mem_append.mp hc with w | w
      · exact hne c w
      · rw [List.mem_singleton.mp w]; exact hbD
    · rcases List.mem_append.mp hc with w | w
      · exact hnw c w
      · rw [List.mem_singleton.mp w]; exact sm.free hb0
  · have e : i = xs.length := by omega
    subst e
    refine .inl ⟨⟨xs, sm.seq hS, Nat.le_refl _⟩, fin D H' as hD sm hl ?_ hnw⟩
    rw [List.take_of_length_le (by omega)] at hP
    exact hP

/-! ### read_pairs, of anything -/
def srt (x : Nat × Nat) : Nat × Nat := (min x.1 x.2, max x.1 x.2)
def rdPrT (n : Nat) (t : Str) : Option (List (Nat × Nat)) := if ((Txt.split t sC).all (fun z => (rdPr n z).isSome) && decide (((Txt.split t sC).filterMap (rdPr n)).map srt).Nodup) = true then some ((Txt.split t sC).filterMap (rdPr n)) else none
def rdPrs (n : Nat) : PyData → Option (List (Nat × Nat))
  | .str t => rdPrT n t
  | _ => none
theorem rdPrs_not {n : Nat} {d : PyData} (h : isStrD d = false) : rdPrs n d = none := by
  cases d with
  | str t => cases h
  | _ => rfl
theorem fm_at {α β : Type} (f : α → Option β) : ∀ {l : List α}, l.all (fun z => (f z).isSome) = true → (l.filterMap f).length = l.length ∧ ∀ (i : Nat) z y, l[i]? = some z → (l.filterMap f)[i]? = some y → f z = some y
  | [], _ => ⟨rfl, fun i z y h => (by cases i <;> cases h)⟩
  | a :: r, h => by
    rw [List.all_cons, Bool.and_eq_true] at h
    obtain ⟨h1, h2⟩ := fm_at f h.2
    cases e : f a with
    | none => rw [e] at h; cases h.1
    | some b =>
      rw [List.filterMap_cons, e]
      refine ⟨by show (r.filterMap f).length + 1 = r.length + 1; rw [h1], fun i z y hz hy => ?_⟩
      cases i with
      | zero =>
        cases hz
        cases hy
        exact e
      | succ i => exact h2 i z y (by simpa using hz) (by simpa using hy)
theorem two_sorted {x : Nat × Nat} {ms : List Int} (hp : ms.Perm [(x.1 : Int), (x.2 : Int)]) (hs : ms.Pairwise (· ≤ ·)) : ms.map V.int = pV (srt x) := by
  have hl := hp.length_eq
  match ms, hl with
  | [a, b], _ =>
    have hab : a ≤ b := (List.pairwise_cons.mp hs).1 b List.mem_cons_self
    have ha : a = (x.1 : Int) ∨ a = (x.2 : Int) := by simpa using hp.mem_iff.mp (show a ∈ [a, b] by simp)
    have hb : b = (x.1 : Int) ∨ b = (x.2 : Int) := by simpa using hp.mem_iff.mp (show b ∈ [a, b] by simp)
    have hc : (x.1 : Int) = a ∨ (x.1 : Int) = b := by simpa using hp.mem_iff.mpr (show (x.1 : Int) ∈ [(x.1 : Int), (x.2 : Int)] by simp)
    have hd : (x.2 : Int) = a ∨ (x.2 : Int) = b := by simpa using hp.mem_iff.mpr (show (x.2 : Int) ∈ [(x.1 : Int), (x.2 : Int)] by simp)
    show [V.int a, V.int b] = [V.int ((min x.1 x.2 : Nat) : Int), V.int ((max x.1 x.2 : Nat) : Int)]
    rw [show a = ((min x.1 x.2 : Nat) : Int) by omega, show b = ((max x.1 x.2 : Nat) : Int) by omega]
def spPairsT (C : Addr) : Sp := fun vs H Q E => ∃ (x : V) (d : PyData) (n : Nat), vs = [x, .int (n : Int)] ∧ Dt H x d ∧ TxA 300 d ∧ (∀ ps, rdPrs n d = some ps → ∀ (r : Addr) (H' : Hp) (as : List Addr), H r = none → Same H H' → H' r = some (.lst (as.map V.ref)) → PrAt H' as ps → Q (.ref r) H') ∧ (rdPrs n d = none → ∀ H' : Hp, Same H H' → E (.ref C) none H')
theorem sc_read_pairs : FnScope ["text", "many", "pairs"] ["text", "many"] (defScope s_read_pairs) := ⟨rfl, rfl, rfl, by decide +kernel, rfl, by decide +kernel, by decide +kernel⟩
theorem ok_read_pairs (D : Def K mg "read_pairs" s_read_pairs ["text", "many"] f fd) (B : Blt mg) {C : Addr} (KT : KnownX P w K mg base 1 "need_text" ["thing"] (spNeedTextT C)) (KP : KnownX P w K mg base 4 "read_pair" ["text", "many"] (spPairT C)) (KO : KnownX P w K mg base 2 "need_each_once" ["things"] (spOnceP K C)) : KnownX P w K mg base 5 "read_pairs" ["text", "many"] (spPairsT C) := by
  refine ⟨f, fd, ?_, D.F.kp, D.m, D.b⟩
  refine D.F.okX sc_read_pairs (fun vs H Q E h => ?_) (fun cdv A outer s H vs Q E hr h => ?_)
  · obtain ⟨x, d, n, rfl, _⟩ := h
    rfl
  obtain ⟨x, d, n, rfl, hd, ht, q1, q2⟩ := h
  refine ⟨_, pss_cons (ps_expr (pe_knX KT hr rfl (pa_cons (pv 0) pa_nil)))
    (pss_cons (ps_setCompX (i := 2) passH rfl rfl [1] ["word", "many"] sc_read_pairs.nd rfl rfl rfl (pi_list (pe_bm PySem.F.plainAttrs_str PySem.F.slot_str_split PySem.F.type_str_split mt_split (pv 0) (pa_cons pe_str pa_nil))) (fun _ _ _ _ => pe_knC KP hr rfl (pa_cons (pv 0) (pa_cons (pv 1) pa_nil))))
    (pss_cons (ps_expr (pe_knX KO hr rfl (pa_cons (pe_comp1 [] ["pair"] rfl (pi_list (pv 2)) (fun _ _ _ _ => pe_callTy call_tuple_of rfl B.tuple bt_tuple (pa_cons (pe_callB call_sortedT rfl B.sorted bt_sorted (pa_cons (pv 0) pa_nil)) pa_nil))) pa_nil)))
    (pss_one (ps_ret (pv 2))))), ?_⟩
  refine ⟨_, rfl, x, d, rfl, hd, fun hs => ?_, fun hs => q2 (rdPrs_not hs) H (Same.refl _)⟩
  obtain ⟨t, rfl, rfl⟩ := str_of hd hs
  have hasc0 := ht t rfl
  have hz := sizeLine_big
  have ht1 := hasc0.1
  have hps := split_len t sC
  have hasc : ∀ w ∈ Txt.split t sC, Asc 900 w := fun w hw => (hasc0.split hw).mono (by decide)
  refine ⟨_, rfl, rfl, t, sC, rfl, rfl, by decide, by omega, fun p hp => ?_⟩
  have s1 := same_new hp (.lst ((Txt.split t sC).map V.str))
  have e1 : (upd H p (.lst ((Txt.split t sC).map V.str))) p = some (.lst ((Txt.split t sC).map V.str)) := upd_same
  generalize upd H p (.lst ((Txt.split t sC).map V.str)) = H1 at s1 e1 ⊢
  have word : ∀ {j : Nat} {x : V}, ((Txt.split t sC).map V.str)[j]? = some x → ∃ w, (Txt.split t sC)[j]? = some w ∧ x = V.str w := fun {j x} h => by
    rw [List.getElem?_map] at h
    cases e : (Txt.split t sC)[j]? with
    | none => rw [e] at h; cases h
    | some w => rw [e] at h; exact ⟨w, rfl, (Option.some.inj h).symm⟩
  cases hall : (Txt.split t sC).all (fun z => (rdPr n z).isSome) with
  | false =>
    have hrd : rdPrs n (.str t) = none := by show rdPrT n t = none; unfold rdPrT; rw [hall, Bool.false_and, if_neg Bool.false_ne_true]
    obtain ⟨w, hw, hno⟩ := List.all_eq_false.mp hall
    obtain ⟨j, hj⟩ := List.getElem?_of_mem hw
    have hjl : j < ((Txt.split t sC).map V.str).length := by rw [List.length_map]; exact (List.getElem?_eq_some_iff.mp hj).1
    refine ⟨p, rfl, ⟨_, SqL.of e1⟩, comp_fail (SqL.of e1) j hjl (by rw [List.length_map]; omega) ?_⟩
    intro i H4 x hi hx s4 _ _ _ _
    obtain ⟨w', hw', rfl⟩ := word hx
    refine ⟨_, rfl, _, rfl, w', n, rfl, hasc w' (List.mem_of_getElem? hw'), fun y hy r H5 hr0 s5 hrr => ⟨s5, ?_⟩, fun no H5 s5 => q2 hrd H5 ((s1.trans s4).trans s5)⟩
    refine Nat.lt_of_le_of_ne hi fun z => ?_
    subst z
    rw [hj] at hw'
    cases hw'
    rw [hy] at hno
    exact hno rfl
  | true =>
    obtain ⟨hfl, hfa⟩ := fm_at (rdPr n) hall
    obtain ⟨ps, hpse⟩ : ∃ ps, ps = (Txt.split t sC).filterMap (rdPr n) := ⟨_, rfl⟩
    rw [← hpse] at hfl hfa
    refine ⟨p, rfl, ⟨_, SqL.of e1⟩, comp_objs (fun y => HO.tup (pV y)) ps (SqL.of e1) (by rw [List.length_map, hfl]) (by rw [List.length_map]; omega) ?_ ?_⟩
    · intro i H4 z y hz' hy s4 _ _ _ _
      obtain ⟨w', hw', rfl⟩ := word hz'
      have e := hfa i w' y hw' hy
      refine ⟨_, rfl, _, rfl, w', n, rfl, hasc w' (List.mem_of_getElem? hw'), fun y' hy' r H5 hr0 s5 hrr => ⟨s5, r, rfl, hr0, ?_⟩, fun no H5 s5 => ?_⟩
      · rw [e] at hy'
        cases hy'
        exact hrr
      · rw [e] at no
        cases no
    intro r H2 as hr2 s2 hrr hP _
    have hP : PrAt H2 as ps := hP
    have hasl : as.length = ps.length := hP.len
    refine ⟨_, rfl, r, rfl, ⟨_, SqL.of hrr⟩, comp_objs (fun y => HO.tup (pV y)) (ps.map srt) (SqL.of hrr) (by rw [List.length_map, List.length_map, hasl]) (by rw [List.length_map]; omega) ?_ ?_⟩
    · intro i H4 z y hz' hy s4 _ _ _ _
      rw [List.getElem?_map] at hz' hy
      cases ea : as[i]? with
      | none => rw [ea] at hz'; cases hz'
      | some a =>
        rw [ea] at hz'
        cases hz'
        obtain ⟨x0, hx0, ha⟩ := paired_get hP i a ea
        rw [hx0] at hy
        cases hy
        have hT : SqT K H4 a ([(x0.1 : Int), (x0.2 : Int)].map V.int) := SqT.of (s4 _ _ ha)
        refine ⟨_, rfl, a, [(x0.1 : Int), (x0.2 : Int)], rfl, hT, by show 2 < 64; decide, fun l ms hl hpm hso => ?_⟩
        rw [two_sorted hpm hso]
        refine ⟨l, _, rfl, .inl ⟨SqL.of upd_same, fun r3 hr3 => ⟨(same_new hl _).trans (same_new hr3 _), r3, rfl, (same_new hl _).free hr3, upd_same⟩⟩⟩
    intro r2 H3 as2 hr3 s3 hrr2 hP2 _
    refine ⟨r2, as2, ps.map srt, rfl, SqL.of hrr2, hP2, by rw [List.length_map]; omega, fun hnd H4 s4 => ?_, fun hnd H4 s4 => ?_⟩
    · refine ⟨_, rfl, q1 ps ?_ r H4 as (s1.free hr2) (s1.trans (s2.trans (s3.trans s4))) (s4 _ _ (s3 _ _ hrr)) (hP.same (s3.trans s4))⟩
      show rdPrT n t = some ps
      unfold rdPrT
      rw [hall, ← hpse, decide_eq_true hnd]
      rfl
    · refine q2 ?_ H4 (s1.trans (s2.trans (s3.trans s4)))
      show rdPrT n t = none
      unfold rdPrT
      rw [hall, ← hpse, decide_eq_false hnd]
      rfl

/-! ### _law_cell_at -/
def spCellAt (K : PySem.W.Frag) : Sp := fun vs H Q _ => ∃ (a : Addr) (ns : List Int) (k : Nat), vs = [.ref a, .int (k : Int)] ∧ SqL K H a (ns.map V.int) ∧ Q (.int (ns.getD k 0)) H
theorem sc__law_cell_at : FnScope ["_law_script", "_law_k"] ["_law_script", "_law_k"] (defScope s__law_cell_at) := ⟨rfl, rfl, rfl, by decide +kernel, rfl, by decide +kernel, by decide +kernel⟩
theorem ok__law_cell_at (D : Def K mg "_law_cell_at" s__law_cell_at ["_law_script", "_law_k"] f fd) (B : Blt mg) : FnOk P w K mg base CX0 1 f fd ["_law_script", "_law_k"] (spCellAt K) := by
  refine D.F.ok sc__law_cell_at (fun vs H Q E h => ?_) (fun cdv A outer s H vs Q E hr h => ?_)
  · obtain ⟨a, ns, k, rfl, _⟩ := h
    rfl
  obtain ⟨a, ns, k, rfl, hS, q⟩ := h
  refine ⟨_, pss_cons (ps_if (pt_cmpR op_lt (pv 1) (pe_callB call_len_seq rfl B.len bt_len (pa_cons (pv 0) pa_nil)) (nomark _)) (pss_one (ps_ret (pe_ix ix_list (pv 0) (pv 1) (fun _ _ => rfl)))) pss_nil) (pss_one (ps_ret pe_int)), ?_⟩
  refine ⟨_, rfl, _, rfl, a, _, rfl, .inl hS, _, _, rfl, rfl, _, rfl, ?_⟩
  refine ite2 (fun c => ?_) (fun c => ?_)
  · have c' : (k : Int) < (((ns.map V.int).length : Nat) : Int) := of_decide_eq_true c
    rw [List.length_map] at c'
    have hk : k < ns.length := by omega
    have e : ns.getD k 0 = ns[k] := by rw [List.getD_eq_getElem?_getD, List.getElem?_eq_getElem hk]; rfl
    rw [e] at q
    exact ⟨_, rfl, _, rfl, a, _, _, _, rfl, rfl, hS, atI_nat (by rw [List.getElem?_map, List.getElem?_eq_getElem hk]; rfl), q⟩
  · have c' : ¬ (k : Int) < (((ns.map V.int).length : Nat) : Int) := of_decide_eq_false (Bool.eq_false_iff.mpr c)
    rw [List.length_map] at c'
    have e : ns.getD k 0 = 0 := by rw [List.getD_eq_getElem?_getD, List.getElem?_eq_none (by omega)]; rfl
    rw [e] at q
    exact q

/-! ### _law_whole, of ints -/
def spWholeI : Sp := fun vs H Q _ => ∃ i : Int, vs = [.int i] ∧ Q (.bl true) H
theorem sc__law_whole : FnScope ["_law_thing"] ["_law_thing"] (defScope s__law_whole) := ⟨rfl, rfl, rfl, by decide +kernel, rfl, by decide +kernel, by decide +kernel⟩
theorem ok__law_whole (D : Def K mg "_law_whole" s__law_whole ["_law_thing"] f fd) (B : Blt mg) : FnOk P w K mg base CX0 1 f fd ["_law_thing"] spWholeI := by
  refine D.F.ok sc__law_whole (fun vs H Q E h => ?_) (fun cdv A outer s H vs Q E hr h => ?_)
  · obtain ⟨i, rfl, _⟩ := h
    rfl
  obtain ⟨i, rfl, q⟩ := h
  refine ⟨_, pss_one (ps_ret (pe_and (pe_callB call_isinst rfl B.isinstance bt_isinstance (pa_cons (pv 0) (pa_cons (pe_bltn (v := .ty "int") rfl B.int bt_int rfl) pa_nil)))
    (pe_one (pe_not (pe_callB call_isinst rfl B.isinstance bt_isinstance (pa_cons (pv 0) (pa_cons (pe_bltn (v := .ty "bool") rfl B.bool bt_bool rfl) pa_nil))))))), ?_⟩
  refine ⟨_, rfl, _, _, _, _, rfl, TyOf.int i, kit_tt kt_int_int, _, rfl, iteT ?_⟩
  exact ⟨_, rfl, _, _, _, _, rfl, TyOf.int i, kit_tt kt_int_bool, _, rfl, q⟩

/-! ### _law_great: a number from 0 on, less than 10 ** 91 -/
def spGreat14 : Sp := fun vs H Q _ => ∃ c : Int, vs = [.int c] ∧ c.natAbs < 2 ^ (2 ^ 20 + 4) ∧ ∀ g : Nat, g < 10 ^ 91 → Q (.int (g : Int)) H
theorem sc__law_great : FnScope ["_law_cell"] ["_law_cell"] (defScope s__law_great) := ⟨rfl, rfl, rfl, by decide +kernel, rfl, by decide +kernel, by decide +kernel⟩
theorem q_nat {Q : VK} {H : Hp} {a b : Int} (hb : b = ((10 ^ 91 : Nat) : Int)) (q : ∀ g : Nat, g < 10 ^ 91 → Q (.int (g : Int)) H) : Q (.int (a % b)) H := by
  subst hb
  have h0 : 0 < (10 : Nat) ^ 91 := Nat.pow_pos (by decide)
  generalize (10 ^ 91 : Nat) = n at q h0 ⊢
  have h1 := Int.emod_nonneg a (show ((n : Nat) : Int) ≠ 0 by omega)
  have h2 := Int.emod_lt_of_pos a (show (0 : Int) < ((n : Nat) : Int) by omega)
  rw [← Int.toNat_of_nonneg h1]
  exact q _ (by omega)
theorem ok__law_great (D : Def K mg "_law_great" s__law_great ["_law_cell"] f fd) (B : Blt mg) : FnOk P w K mg base CX0 1 f fd ["_law_cell"] spGreat14 := by
  refine D.F.ok sc__law_great (fun vs H Q E h => ?_) (fun cdv A outer s H vs Q E hr h => ?_)
  · obtain ⟨c, rfl, _⟩ := h
    rfl
  obtain ⟨c, rfl, hc, q⟩ := h
  refine ⟨_, pss_one (ps_ret (pe_op op_mod (pe_op op_mulB (pe_op op_mulB (pe_op op_mulB (pe_op op_add (pv 0) pe_int) (pe_op op_pow pe_int pe_int)) (pe_op op_pow pe_int pe_int)) (pe_op op_pow pe_int pe_int)) (pe_op op_mulB (pe_op op_pow pe_int pe_int) (pe_op op_pow pe_int pe_int)))), ?_⟩
  obtain ⟨g1, g2, g3⟩ := great_ok (c := c) hc (small_bits (d := 67) (by decide))
  have p61 : CPow 3 61 := ⟨by decide, by decide, by decide⟩
  have p59 : CPow 3 59 := ⟨by decide, by decide, by decide⟩
  have p60 : CPow 10 60 := ⟨by decide, by decide, by decide⟩
  have p31 : CPow 10 31 := ⟨by decide, by decide, by decide⟩
  have hm : (0 : Int) < 10 ^ Int.toNat 60 * 10 ^ Int.toNat 31 := by decide
  have he : (10 : Int) ^ Int.toNat 60 * 10 ^ Int.toNat 31 = ((10 ^ 91 : Nat) : Int) := by decide +kernel
  exact ⟨_, rfl, _, _, rfl, rfl, _, _, rfl, rfl, p61, _, _, rfl, rfl, g1, _, _, rfl, rfl, p59, _, _, rfl, rfl, g2, _, _, rfl, rfl, p61, _, _, rfl, rfl, g3, _, _, rfl, rfl, p60, _, _, rfl, rfl, p31, _, _, rfl, rfl, mulOk_of (n := 210) (m := 110) (by decide) (by decide) (by decide), _, _, rfl, rfl, hm, q_nat he q⟩

/-! ### _law_free: a row that has each place once -/
def spFree : Sp := fun vs H Q _ => ∃ (num : Int) (n : Nat), vs = [.int num, .int (n : Int)] ∧ n ≤ 100 ∧ ∀ (r : Addr) (H' : Hp) (row : List Nat), H r = none → Same H H' → TM.IsT n row → H' r = some (.lst (tI row)) → Q (.ref r) H'
theorem sc__law_free : FnScope ["_law_number", "_law_many", "_law_left", "_law_row", "_law_size"] ["_law_number", "_law_many"] (defScope s__law_free) := ⟨rfl, rfl, rfl, by decide +kernel, rfl, by decide +kernel, by decide +kernel⟩
theorem ok__law_free (D : Def K mg "_law_free" s__law_free ["_law_number", "_law_many"] f fd) (B : Blt mg) : FnOk P w K mg base CX0 1 f fd ["_law_number", "_law_many"] spFree := by
  refine D.F.ok sc__law_free (fun vs H Q E h => ?_) (fun cdv A outer s H vs Q E hr h => ?_)
  · obtain ⟨num, n, rfl, _⟩ := h
    rfl
  obtain ⟨num, n, rfl, hn, q⟩ := h
  refine ⟨_, pss_cons (ps_set (i := 2) sc__law_free.nd rfl (Or.inl rfl) (pe_callTy (call_list_rng rfl) rfl B.list bt_list (pa_cons (pe_callTy call_rng1 rfl B.range bt_range (pa_cons (pv 1) pa_nil)) pa_nil)))
    (pss_cons (ps_set (i := 3) sc__law_free.nd rfl (Or.inl rfl) (pe_lst pa_nil))
    (pss_cons (ps_for PassesOwn.never rfl (pi_rangeD rfl B.range (pa_cons (pv 1) (pa_cons pe_int (pa_cons (pe_un un_neg pe_int) pa_nil)))) (pg_name (i := 4) sc__law_free.nd rfl (Or.inl rfl))
      (pss_cons (ps_expr (pe_bm PySem.F.plainAttrs_list PySem.F.slot_list_append PySem.F.type_list_append mt_append (pv 3)
          (pa_cons (pe_bm PySem.F.plainAttrs_list PySem.F.slot_list_pop PySem.F.type_list_pop mt_popAt (pv 2) (pa_cons (pe_op op_mod (pv 0) (pv 4)) pa_nil)) pa_nil)))
        (pss_one (ps_set (i := 0) sc__law_free.nd rfl (Or.inl rfl) (pe_op op_fdiv (pv 0) (pv 4))))))
    (pss_one (ps_ret (pv 3))))), ?_⟩
  refine ⟨_, rfl, _, rfl, fun p hp => ⟨p, 0, (n : Int), rfl, upd_same, ⟨by omega, by omega, by omega, by omega, by omega⟩, fun l hl => ?_⟩⟩
  rw [show ((n : Int) - 0).toNat = n by omega, tI_range]
  refine ⟨(by show 0 ≤ sizeLine; decide), fun r hr' => ?_⟩
  have pl : p ≠ l := ne_of_none upd_same hl
  have lr : l ≠ r := ne_of_none upd_same hr'
  have hl0 : H l = none := by
    have := hl
    rwa [upd_ne (Ne.symm pl)] at this
  have hr0 : H r = none := by
    have h1 := hr'
    have pr : p ≠ r := by
      intro e
      subst e
      rw [upd_ne pl, upd_same] at h1
      cases h1
    rwa [upd_ne (Ne.symm lr), upd_ne (Ne.symm pr)] at h1
  have s0 : Same H (upd (upd (upd H p (.rng 0 (n : Int))) l (.lst (tI (List.range n)))) r (.lst [])) := same_upd (same_upd (same_new hp _) hl0 _) hr0 _
  refine ⟨_, rfl, _, rfl, (n : Int), 0, rfl, ⟨by omega, by omega, by omega, by omega⟩, for_rangeD (lo := (n : Int)) (n := ((n : Int) - 0).toNat) (fun i σ H2 => ∃ (nu : Int) (row left : List Nat) (v : Option V), σ = [some (.int nu), some (.int (n : Int)), some (.ref l), some (.ref r), v] ∧ Same H H2 ∧ H2 l = some (.lst (tI left)) ∧ H2 r = some (.lst (tI row)) ∧ TM.IsT n (row ++ left) ∧ left.length + i = n)
    ⟨num, [], List.range n, none, rfl, s0, by rw [upd_ne lr, upd_same], upd_same, TM.IsT.range n, by rw [List.length_range]; rfl⟩ ?_ ?_⟩
  · rintro i σ H2 hi ⟨nu, row, left, v, rfl, s2, hl2, hr2, hT, hlen⟩
    have hi' : i < n := by omega
    have hsz : (0 : Int) < (n : Int) - (i : Int) := by omega
    have e1 : ∃ k : Nat, nu % ((n : Int) - (i : Int)) = (k : Int) ∧ k < left.length := by
      have h1 := Int.emod_nonneg nu (show (n : Int) - (i : Int) ≠ 0 by omega)
      have h2 := Int.emod_lt_of_pos nu hsz
      exact ⟨(nu % ((n : Int) - (i : Int))).toNat, by omega, by omega⟩
    obtain ⟨k, ek, hk⟩ := e1
    have hx : left[k]? = some left[k] := List.getElem?_eq_getElem hk
    have hrl : row.length ≤ n := by
      have := hT.length
      rw [List.length_append] at this
      omega
    refine ⟨_, rfl, .inl ⟨rfl, _, SqL.of hr2⟩, _, rfl, .inl ⟨rfl, _, SqL.of hl2⟩, _, rfl, _, rfl, _, _, rfl, rfl, hsz, l, _, _, k, V.int (left[k] : Int), rfl, rfl, hl2, ?_, ?_, ?_, tI_of hx, r, tI row, _, rfl, rfl, ?_, ?_, ?_⟩
    · show -(2 ^ 63) ≤ nu % ((n : Int) - (i : Int))
      rw [ek]; omega
    · show nu % ((n : Int) - (i : Int)) < 2 ^ 63
      rw [ek]; omega
    · show seqIndex? (nu % ((n : Int) - (i : Int))) (tI left).length = some k
      rw [ek, tI_length]
      exact seq_nat hk
    · rw [upd_ne (Ne.symm lr)]
      exact hr2
    · rw [tI_length]
      exact small1000 (by omega)
    · refine ⟨_, rfl, _, rfl, _, _, rfl, rfl, ⟨hsz, by omega⟩, ?_⟩
      refine ⟨_, row ++ [left[k]], left.eraseIdx k, _, rfl, same_upd (same_upd s2 hl0 _) hr0 _, ?_, ?_, TM.draw_perm hT hx, ?_⟩
      · rw [upd_ne lr, upd_same, tI_erase]
      · rw [upd_same, tI_append]
        rfl
      · rw [List.length_eraseIdx_of_lt hk]
        omega
  · rintro σ H2 ⟨nu, row, left, v, rfl, s2, hl2, hr2, hT, hlen⟩
    have e : left = [] := List.length_eq_zero_iff.mp (by omega)
    subst e
    rw [List.append_nil] at hT
    exact ⟨_, rfl, q r H2 row hr0 s2 hT hr2⟩

/-! ### _law_spoiled -/
def oddT14 : List PyData := [.none, .int 7, .bool true, .list [.int 0], .tuple [.int 0, .int 1], .list [.str "0"]]
theorem oddT14_no : (oddT14.all fun d => !isStrD d) = true := by decide +kernel
theorem len_ok {ds : List PyData} (h : Nat.ble ds.length 1000 = true := by rfl) : ds.length ≤ sizeLine := small (Nat.le_of_ble_eq_true h)
theorem dt_list {G : Hp} {v : V} {ds : List PyData} (h : Dt G v (.list ds)) : ∃ a xs, v = .ref a ∧ G a = some (.lst xs) ∧ Dts G xs ds := by
  cases h with
  | lst h r => exact ⟨_, _, rfl, h, r⟩
def CTrue : St → Hp → Prop := fun _ _ => True
theorem hCTrue : Stays CTrue := fun _ _ _ _ _ => trivial
def spSpoiled14 : Sp := fun vs H Q _ => ∃ (t : Str) (num : Int) (m : Nat), vs = [.str t, .int num] ∧ Asc m t ∧ m ≤ 400 ∧ ∀ (x : V) (d : PyData) (H' : Hp), Same H H' → Dt H' x d → TxA (2 * m + 1) d → Q x H'
theorem sc__law_spoiled : FnScope ["_law_text", "_law_number", "_law_some", "_law_way", "_law_sign", "_law_at", "_law_parts", "_law_part"] ["_law_text", "_law_number"] (defScope s__law_spoiled) := ⟨rfl, rfl, rfl, by decide +kernel, rfl, by decide +kernel, by decide +kernel⟩
theorem sign_at {z : Str} {k : Nat} {i : Int} (hl : z.length = k) (hk : 0 < k) (ha : (z.cps.toList.all fun c => decide (c < 128)) = true) : ∃ c, atI z.cps.toList (i % (k : Int)) = some c ∧ Asc 1 ⟨#[c]⟩ := by
  obtain ⟨m, em, hm⟩ := mod_at (z := i) hk
  have hm' : m < z.cps.toList.length := by rw [len_cps, hl]; exact hm
  refine ⟨z.cps.toList[m], ?_, Nat.le_refl _, fun c hc => ?_⟩
  · rw [em]; exact atI_nat (List.getElem?_eq_getElem hm')
  · rw [List.mem_singleton.mp (show c ∈ [z.cps.toList[m]] from hc)]
    exact of_decide_eq_true (List.all_eq_true.mp ha _ (List.getElem_mem hm'))
theorem join_len (y : Str) : ∀ ys : List Str, ys ≠ [] → (Str.join y ys).length + y.length = (ys.map (·.length)).sum + ys.length * y.length
  | [], h => absurd rfl h
  | [a], _ => by
    show a.length + y.length = a.length + 0 + 1 * y.length
    omega
  | a :: b :: r, _ => by
    have ih := join_len y (b :: r) (by simp)
    show (a ++ y ++ Str.join y (b :: r)).length + y.length = a.length + ((b :: r).map (·.length)).sum + ((b :: r).length + 1) * y.length
    rw [Str.length_append, Str.length_append, Nat.add_mul]
    omega
theorem asc_rev {m : Nat} {p y : Str} (h : Asc m p) (hy : ∀ c ∈ y.cps.toList, c < 128) : Asc m (Str.join y (Txt.split p y).reverse) := by
  have hne : Txt.split p y ≠ [] := fun z => by
    have := (split_len p y).1
    rw [z] at this
    cases this
  refine ⟨?_, fun c hc => ?_⟩
  · have h1 := join_len y (Txt.split p y) hne
    have h2 := join_len y (Txt.split p y).reverse (by simpa using hne)
    rw [join_split] at h1
    rw [List.map_reverse, List.sum_reverse, List.length_reverse] at h2
    have := h.1
    omega
  · rcases mem_join hc with z | ⟨z, hz, hc'⟩
    · exact hy c z
    · exact h.2 c ((split_mem (List.mem_reverse.mp hz)).2 c hc')
theorem sum_split {p y : Str} (hy : 1 ≤ y.length) : ((Txt.split p y).map (·.length)).sum + (Txt.split p y).length * y.length ≤ p.length + y.length := by
  have hne : Txt.split p y ≠ [] := fun z => by
    have := (split_len p y).1
    rw [z] at this
    cases this
  have h1 := join_len y (Txt.split p y) hne
  rw [join_split] at h1
  omega
theorem ok__law_spoiled (D : Def K mg "_law_spoiled" s__law_spoiled ["_law_text", "_law_number"] f fd) (B : Blt mg) : FnOk P w K mg base CX0 1 f fd ["_law_text", "_law_number"] spSpoiled14 := by
  refine D.F.ok sc__law_spoiled (fun vs H Q E h => ?_) (fun cdv A outer s H vs Q E hr h => ?_)
  · obtain ⟨t, num, m, rfl, _⟩ := h
    rfl
  obtain ⟨t, num, m, rfl, ha, hm, q⟩ := h
  have hz := sizeLine_big
  have hal := ha.1
  refine ⟨_, @DSs.h _ _ _ (dss_cons ⟨ps_set (i := 2) sc__law_spoiled.nd rfl (Or.inl rfl) pe_str⟩
    (dss_cons ⟨ps_set (i := 3) sc__law_spoiled.nd rfl (Or.inl rfl) (pe_op op_mod (pv 1) pe_int)⟩
    (dss_cons ⟨ps_set (i := 1) sc__law_spoiled.nd rfl (Or.inl rfl) (pe_op op_fdiv (pv 1) pe_int)⟩
    (dss_cons ⟨ps_set (i := 4) sc__law_spoiled.nd rfl (Or.inl rfl) (pe_ix ix_str (pv 2) (pe_op op_mod (pv 1) pe_int) (fun _ _ => rfl))⟩
    (dss_cons ⟨ps_set (i := 5) sc__law_spoiled.nd rfl (Or.inl rfl) (pe_op op_mod (pe_op op_fdiv (pv 1) pe_int) (pe_callB (call_max2 rfl) rfl B.max bt_max (pa_cons pe_int (pa_cons (pe_callB call_len_str rfl B.len bt_len (pa_cons (pv 0) pa_nil)) pa_nil))))⟩
    (dss_cons (ds_if (pt_cmpR op_eq (pv 3) pe_int (nomark _)) (dss_one (ds_ret (de_ix ix_list (pd_lst (C := CTrue) (ds := oddT14) (pds_cons hCTrue pd_non (pds_cons hCTrue pd_int (pds_cons hCTrue pd_bl (pds_cons hCTrue (pd_lst (pds_cons hCTrue pd_int pds_nil) len_ok) (pds_cons hCTrue (pd_tup (pds_cons hCTrue pd_int (pds_cons hCTrue pd_int pds_nil)) len_ok) (pds_cons hCTrue (pd_lst (pds_cons hCTrue pd_str pds_nil) len_ok) pds_nil)))))) len_ok) (pe_op op_mod (pv 1) pe_int) (fun _ _ => rfl)))) dss_nil)
    ⟨pss_cons (ps_if (PW.pt (pw_or (pt_cmpR op_eq (pv 3) pe_int (nomark _)) (pw_or1 (pt_cmpR op_eq (pv 3) pe_int (nomark _))))) (pss_one (ps_ret (pe_op op_add_str (pe_op op_add_str (pe_slice sl_str (pv 0) po_none (po_some (pv 5))) (pv 4)) (pe_slice sl_str (pv 0) (po_some (pv 5)) po_none)))) pss_nil)
    (pss_cons (ps_if (pt_cmpR op_eq (pv 3) pe_int (nomark _)) (pss_one (ps_ret (pe_op op_add_str (pe_slice sl_str (pv 0) po_none (po_some (pv 5))) (pe_slice sl_str (pv 0) (po_some (pe_op op_add (pv 5) pe_int)) po_none)))) pss_nil)
    (pss_cons (ps_if (pt_cmpR op_eq (pv 3) pe_int (nomark _)) (pss_one (ps_ret (pe_op op_add_str (pe_op op_add_str (pe_slice sl_str (pv 0) po_none (po_some (pv 5))) (pv 4)) (pe_slice sl_str (pv 0) (po_some (pe_op op_add (pv 5) pe_int)) po_none)))) pss_nil)
    (pss_cons (ps_if (pt_cmpR op_eq (pv 3) pe_int (nomark _)) (pss_cons (ps_set (i := 6) sc__law_spoiled.nd rfl (Or.inl rfl) (pe_bm PySem.F.plainAttrs_str PySem.F.slot_str_split PySem.F.type_str_split mt_split (pv 0) (pa_cons pe_str pa_nil)))
        (pss_cons (ps_set (i := 7) sc__law_spoiled.nd rfl (Or.inl rfl) (pe_ix ix_list (pv 6) (pe_op op_mod (pv 1) (pe_callB call_len_seq rfl B.len bt_len (pa_cons (pv 6) pa_nil))) (fun _ _ => rfl)))
        (pss_cons (ps_if (pt_cmpR op_eq (pe_op op_mod (pe_op op_fdiv (pv 1) pe_int) pe_int) pe_int (nomark _)) (pss_one (ps_set (i := 7) sc__law_spoiled.nd rfl (Or.inl rfl) (pe_bm PySem.F.plainAttrs_str PySem.F.slot_str_join PySem.F.type_str_join mt_join pe_str (pa_cons (pe_listRev rfl rfl B.list bt_list rfl B.reversed (pa_cons (pe_bm PySem.F.plainAttrs_str PySem.F.slot_str_split PySem.F.type_str_split mt_split (pv 7) (pa_cons pe_str pa_nil)) pa_nil)) pa_nil)))) pss_nil)
        (pss_one (ps_ret (pe_op op_add_str (pe_op op_add_str (pv 0) pe_str) (pv 7))))))) pss_nil)
    (pss_cons (ps_if (pt_cmpR op_eq (pv 3) pe_int (nomark _)) (pss_one (ps_ret (pe_op op_add_str pe_str (pv 0)))) pss_nil)
    (pss_one (ps_ret (pv 0)))))))⟩)))))), ?_⟩
  refine ⟨_, rfl, _, _, rfl, rfl, (by show (0 : Int) < 12; decide), _, rfl, _, _, rfl, rfl, ⟨by decide, by decide⟩, ?_⟩
  dsimp only
  generalize num % 12 = way
  generalize num / 12 = nu
  obtain ⟨x, hx, ax⟩ := sign_at (z := "0123456789,,--00 _+a.()/\n\t") (k := 26) (i := nu) (by decide +kernel) (by decide) (by decide +kernel)
  refine ⟨_, rfl, _, rfl, _, _, rfl, rfl, (by show (0 : Int) < 26; decide), _, _, x, rfl, rfl, Nat.le_trans (by decide +kernel) (Nat.le_of_lt (small1000 (show 100 ≤ 1000 by decide))), hx, ?_⟩
  generalize (⟨#[x]⟩ : Str) = sg at ax ⊢
  have sg1 := ax
  have hsl := ax.1
  refine ⟨_, rfl, _, _, rfl, rfl, ⟨by decide, by decide⟩, _, rfl, t, rfl, by omega, _, _, rfl, _, _, rfl, rfl, (by split <;> omega), ?_⟩
  dsimp only
  generalize nu / 24 % _ = at'
  have out : ∀ z : Str, Asc (2 * m + 1) z → Q (.str z) H := fun z hz' => q _ (.str z) H (Same.refl _) (.str z) fun t' e => by cases e; exact hz'
  have cut : ∀ lo hi, Asc m (Txt.slice t lo hi) := fun lo hi => ha.slice lo hi
  have a2 : ∀ lo hi lo' hi', Asc (2 * m + 1) (Txt.slice t lo hi ++ Txt.slice t lo' hi') := fun lo hi lo' hi' => ((cut lo hi).app (cut lo' hi')).mono (by omega)
  have a3 : ∀ lo hi lo' hi', Asc (2 * m + 1) (Txt.slice t lo hi ++ sg ++ Txt.slice t lo' hi') := fun lo hi lo' hi' => (((cut lo hi).app sg1).app (cut lo' hi')).mono (by omega)
  have b1 : ∀ lo hi, (Txt.slice t lo hi).length + sg.length ≤ sizeLine := fun lo hi => by have := (cut lo hi).1; omega
  have b2 : ∀ lo hi lo' hi', (Txt.slice t lo hi).length + (Txt.slice t lo' hi').length ≤ sizeLine := fun lo hi lo' hi' => by have := (cut lo hi).1; have := (cut lo' hi').1; omega
  have b3 : ∀ lo hi lo' hi', (Txt.slice t lo hi ++ sg).length + (Txt.slice t lo' hi').length ≤ sizeLine := fun lo hi lo' hi' => by have := (cut lo hi).1; have := (cut lo' hi').1; rw [Str.length_append]; omega
  have tl : t.length ≤ 1000000 := by omega
  refine ⟨_, rfl, rfl, _, rfl, ite2 (fun _ => ?_) (fun _ => ?_)⟩
  · refine ⟨trivial, fun v0 H0 s0 hv0 => ?_⟩
    obtain ⟨a0, xs0, e0, h0, r0⟩ := dt_list hv0
    subst e0
    obtain ⟨j, ej, hj⟩ := mod_at (z := nu) (k := 6) (by decide)
    have hl : xs0.length = 6 := r0.length
    obtain ⟨y, hy⟩ : ∃ y, xs0[j]? = some y := ⟨_, List.getElem?_eq_getElem (by omega)⟩
    obtain ⟨d, hd, hyd⟩ := r0.get hy
    refine ⟨_, rfl, _, _, rfl, rfl, (by show (0 : Int) < 6; decide), a0, _, _, y, rfl, rfl, SqL.of h0, ?_, ?_⟩
    · rw [show nu % 6 = (j : Int) from ej]
      exact atI_nat hy
    · refine q y d H0 s0 hyd fun t' e => ?_
      have h3 := List.all_eq_true.mp oddT14_no d (List.mem_of_getElem? hd)
      rw [e] at h3
      cases h3
  refine ⟨_, rfl, rfl, _, rfl, ite2 (fun _ => ?_) (fun _ => ⟨_, rfl, rfl, _, rfl, ite2 (fun _ => ?_) (fun _ => ?_)⟩)⟩
  · exact ⟨_, rfl, _, rfl, _, rfl, t, rfl, tl, _, rfl, _, _, rfl, rfl, b1 _ _, _, rfl, _, rfl, _, rfl, t, rfl, tl, _, _, rfl, rfl, b3 _ _ _ _, out _ (a3 _ _ _ _)⟩
  · exact ⟨_, rfl, _, rfl, _, rfl, t, rfl, tl, _, rfl, _, _, rfl, rfl, b1 _ _, _, rfl, _, rfl, _, rfl, t, rfl, tl, _, _, rfl, rfl, b3 _ _ _ _, out _ (a3 _ _ _ _)⟩
  refine ⟨_, rfl, rfl, _, rfl, ite2 (fun _ => ?_) (fun _ => ?_)⟩
  · exact ⟨_, rfl, _, rfl, _, rfl, t, rfl, tl, _, rfl, _, rfl, _, _, rfl, rfl, _, rfl, t, rfl, tl, _, _, rfl, rfl, b2 _ _ _ _, out _ (a2 _ _ _ _)⟩
  refine ⟨_, rfl, rfl, _, rfl, ite2 (fun _ => ?_) (fun _ => ?_)⟩
  · exact ⟨_, rfl, _, rfl, _, rfl, t, rfl, tl, _, rfl, _, _, rfl, rfl, b1 _ _, _, rfl, _, rfl, _, _, rfl, rfl, _, rfl, t, rfl, tl, _, _, rfl, rfl, b3 _ _ _ _, out _ (a3 _ _ _ _)⟩
  refine ⟨_, rfl, rfl, _, rfl, ite2 (fun _ => ?_) (fun _ => ?_)⟩
  · have hps := split_len t sC
    refine ⟨_, rfl, rfl, t, sC, rfl, rfl, by decide, by omega, fun pa hpa => ?_⟩
    have s1 := same_new hpa (.lst ((Txt.split t sC).map V.str))
    have e1 : (upd H pa (.lst ((Txt.split t sC).map V.str))) pa = some (.lst ((Txt.split t sC).map V.str)) := upd_same
    generalize upd H pa (.lst ((Txt.split t sC).map V.str)) = H1 at s1 e1 ⊢
    obtain ⟨j, ej, hj⟩ := mod_at (z := nu) (k := ((Txt.split t sC).map V.str).length) (by rw [List.length_map]; omega)
    have hj2 : j < (Txt.split t sC).length := by rw [List.length_map] at hj; exact hj
    obtain ⟨p, hp⟩ : ∃ p, (Txt.split t sC)[j]? = some p := ⟨_, List.getElem?_eq_getElem hj2⟩
    have hap := ha.split (List.mem_of_getElem? hp)
    have hap1 := hap.1
    refine ⟨_, rfl, _, rfl, _, rfl, pa, _, rfl, .inl (SqL.of e1), _, _, rfl, rfl, (by omega), pa, _, _, V.str p, rfl, rfl, SqL.of e1, ?_, ?_⟩
    · rw [ej]
      exact atI_nat (by rw [List.getElem?_map, hp]; rfl)
    have fin : ∀ (z : Str) (H' : Hp), Same H H' → Asc m z → Q (.str (t ++ sC ++ z)) H' := fun z H' s' hz' => q _ (.str (t ++ sC ++ z)) H' s' (.str _) fun t' e => by
      cases e
      exact ((ha.app (show Asc 1 sC from ⟨by decide, by decide⟩)).app hz').mono (by omega)
    refine ⟨_, rfl, _, _, rfl, rfl, ⟨by decide, by decide⟩, _, _, rfl, rfl, (by show (0 : Int) < 2; decide), rfl, _, rfl, ite2 (fun _ => ?_) (fun _ => ?_)⟩
    · have hpl := split_len p sD
      refine ⟨rfl, _, rfl, rfl, p, sD, rfl, rfl, by decide, by omega, fun pb hpb => ?_⟩
      have s2 := same_new hpb (.lst ((Txt.split p sD).map V.str))
      have e2 : (upd H1 pb (.lst ((Txt.split p sD).map V.str))) pb = some (.lst ((Txt.split p sD).map V.str)) := upd_same
      generalize upd H1 pb (.lst ((Txt.split p sD).map V.str)) = H2 at s2 e2 ⊢
      refine ⟨pb, _, rfl, SqL.of e2, fun pc hpc => ?_⟩
      have s3 := same_new hpc (.lst ((Txt.split p sD).map V.str).reverse)
      have e3 : (upd H2 pc (.lst ((Txt.split p sD).map V.str).reverse)) pc = some (.lst ((Txt.split p sD).reverse.map V.str)) := by rw [upd_same, List.map_reverse]
      generalize upd H2 pc (.lst ((Txt.split p sD).map V.str).reverse) = H3 at s3 e3 ⊢
      have hsum := sum_split (p := p) (y := sD) (by decide)
      refine ⟨sD, pc, (Txt.split p sD).reverse, rfl, rfl, SqL.of e3, ?_, ?_⟩
      · rw [List.map_reverse, List.sum_reverse, List.length_reverse]
        have : sD.length = 1 := by decide
        omega
      · have hjz := asc_rev (y := sD) hap (by decide)
        have hjl := hjz.1
        refine ⟨_, rfl, _, _, rfl, rfl, ?_, _, rfl, _, _, rfl, rfl, ?_, fin _ H3 (s1.trans (s2.trans s3)) hjz⟩
        · show t.length + 1 ≤ sizeLine
          omega
        · show (t ++ sC).length + (Str.join sD (Txt.split p sD).reverse).length ≤ sizeLine
          rw [Str.length_append, show sC.length = 1 by decide]
          omega
    · refine ⟨_, rfl, _, _, rfl, rfl, ?_, _, rfl, _, _, rfl, rfl, ?_, fin p H1 s1 hap⟩
      · show t.length + 1 ≤ sizeLine
        omega
      · show (t ++ sC).length + p.length ≤ sizeLine
        rw [Str.length_append, show sC.length = 1 by decide]
        omega
  refine ⟨_, rfl, rfl, _, rfl, ite2 (fun _ => ?_) (fun _ => ?_)⟩
  · refine ⟨_, rfl, _, _, rfl, rfl, ?_, out _ (((show Asc 1 "0" from ⟨by decide, by decide⟩).app ha).mono (by omega))⟩
    show 1 + t.length ≤ sizeLine
    omega
  · exact ⟨_, rfl, out t (ha.mono (by omega))⟩

/-! ### _law_pairs_by: a row of pairs -/
def spPairsBy14 : Sp := fun vs H Q _ => ∃ (num : Int) (n : Nat), vs = [.int num, .int (n : Int)] ∧ 2 ≤ n ∧ n ≤ 60 ∧ ∀ (t : Str) (H' : Hp), Same H H' → Asc 60 t → Q (.str t) H'
theorem sc__law_pairs_by : FnScope ["_law_number", "_law_many", "_law_parts", "_law_k", "_law_one", "_law_other"] ["_law_number", "_law_many"] (defScope s__law_pairs_by) := ⟨rfl, rfl, rfl, by decide +kernel, rfl, by decide +kernel, by decide +kernel⟩
theorem asc_nS {x : Nat} (h : x < 100) : Asc 2 (nS x) := ⟨nS_len x h, fun c hc => by have := nS_digit h c hc; omega⟩
theorem asc_join {b : Nat} {ys : List Str} (h : ∀ y ∈ ys, Asc b y) : Asc (ys.length * b + ys.length) (Str.join sC ys) := by
  refine ⟨?_, fun c hc => ?_⟩
  · have := join_len_le (b := b) sC (ys := ys) fun y hy => (h y hy).1
    rw [show sC.length = 1 by decide] at this
    omega
  · rcases mem_join hc with z | ⟨y, hy, hc'⟩
    · exact (show ∀ c ∈ sC.cps.toList, c < 128 by decide) c z
    · exact (h y hy).2 c hc'
theorem ok__law_pairs_by (D : Def K mg "_law_pairs_by" s__law_pairs_by ["_law_number", "_law_many"] f fd) (B : Blt mg) : FnOk P w K mg base CX0 1 f fd ["_law_number", "_law_many"] spPairsBy14 := by
  refine D.F.ok sc__law_pairs_by (fun vs H Q E h => ?_) (fun cdv A outer s H vs Q E hr h => ?_)
  · obtain ⟨num, n, rfl, _⟩ := h
    rfl
  obtain ⟨num, n, rfl, hn2, hn, q⟩ := h
  have hz := sizeLine_big
  refine ⟨_, pss_cons (ps_set (i := 2) sc__law_pairs_by.nd rfl (Or.inl rfl) (pe_lst pa_nil))
    (pss_cons (ps_for PassesOwn.never rfl (pi_range1 rfl B.range (pa_cons (pe_op op_add pe_int (pe_op op_mod (pv 0) pe_int)) pa_nil)) (pg_name (i := 3) sc__law_pairs_by.nd rfl (Or.inl rfl))
      (pss_cons (ps_set (i := 0) sc__law_pairs_by.nd rfl (Or.inl rfl) (pe_op op_fdiv (pv 0) pe_int))
      (pss_cons (ps_set (i := 4) sc__law_pairs_by.nd rfl (Or.inl rfl) (pe_op op_mod (pv 0) (pv 1)))
      (pss_cons (ps_set (i := 5) sc__law_pairs_by.nd rfl (Or.inl rfl) (pe_op op_mod (pe_op op_add (pe_op op_add (pv 4) pe_int) (pe_op op_mod (pe_op op_fdiv (pv 0) pe_int) (pe_op op_sub (pv 1) pe_int))) (pv 1)))
      (pss_cons (ps_set (i := 0) sc__law_pairs_by.nd rfl (Or.inl rfl) (pe_op op_fdiv (pv 0) pe_int))
      (pss_one (ps_expr (pe_bm PySem.F.plainAttrs_list PySem.F.slot_list_append PySem.F.type_list_append mt_append (pv 2) (pa_cons (pe_op op_add_str (pe_op op_add_str (pe_callTy call_str_int rfl B.str bt_str (pa_cons (pv 4) pa_nil)) pe_str) (pe_callTy call_str_int rfl B.str bt_str (pa_cons (pv 5) pa_nil))) pa_nil)))))))))
    (pss_one (ps_ret (pe_bm PySem.F.plainAttrs_str PySem.F.slot_str_join PySem.F.type_str_join mt_join pe_str (pa_cons (pv 2) pa_nil))))), ?_⟩
  refine ⟨(by show 0 ≤ sizeLine; decide), fun ra hra => ?_⟩
  have s1 := same_new hra (.lst [])
  have e1 : (upd H ra (.lst [])) ra = some (.lst (([] : List Str).map V.str)) := upd_same
  generalize upd H ra (.lst []) = H1 at s1 e1 ⊢
  obtain ⟨c, ec, hc⟩ := mod_at (z := num) (k := 9) (by decide)
  refine ⟨_, rfl, _, _, rfl, rfl, (by show (0 : Int) < 9; decide), _, _, rfl, rfl, ((1 + c : Nat) : Int), (by show [V.int ((1 : Int) + num % 9)] = _; rw [show (1 : Int) + num % 9 = ((1 + c : Nat) : Int) by omega]), (by omega), (by omega), for_range (n := ((1 + c : Nat) : Int).toNat) (fun j σ H2 => ∃ (nu : Int) (v3 v4 v5 : Option V) (ys : List Str), σ = [some (.int nu), some (.int (n : Int)), some (.ref ra), v3, v4, v5] ∧ (∀ b o, H1 b = some o → b ≠ ra → H2 b = some o) ∧ H2 ra = some (.lst (ys.map V.str)) ∧ (∀ y ∈ ys, Asc 5 y) ∧ ys.length = j)
    ⟨num, none, none, none, [], rfl, fun b o e _ => e, e1, fun _ h => (by cases h), rfl⟩ ?_ ?_⟩
  · rintro j σ H2 hj ⟨nu, v3, v4, v5, ys, rfl, k2, hra2, hys, hyl⟩
    rw [Int.toNat_natCast] at hj
    refine ⟨_, rfl, _, _, rfl, rfl, ⟨by decide, by decide⟩, ?_⟩
    dsimp only
    generalize nu / 9 = n1
    obtain ⟨a, ea, ha⟩ := mod_at (z := n1) (k := n) (by omega)
    refine ⟨_, rfl, _, rfl, _, _, rfl, rfl, (by omega), ?_⟩
    dsimp only
    rw [ea]
    refine ⟨_, rfl, _, _, rfl, rfl, _, rfl, _, _, rfl, rfl, ⟨by decide, by decide⟩, _, rfl, _, _, rfl, rfl, _, _, rfl, rfl, (by show (0 : Int) < (n : Int) - 1; omega), _, _, rfl, rfl, _, rfl, _, _, rfl, rfl, (by omega), ?_⟩
    dsimp only
    obtain ⟨b, eb, hb⟩ := mod_at (z := (a : Int) + 1 + n1 / 60 % ((n : Int) - 1)) (k := n) (by omega)
    rw [eb]
    refine ⟨_, rfl, _, _, rfl, rfl, ⟨by decide, by decide⟩, ?_⟩
    have hA : Asc 5 (nS a ++ sD ++ nS b) := (((asc_nS (x := a) (by omega)).app (show Asc 1 sD from ⟨by decide, by decide⟩)).app (asc_nS (x := b) (by omega))).mono (by decide)
    have la := (asc_nS (x := a) (by omega)).1
    have lb := (asc_nS (x := b) (by omega)).1
    refine ⟨_, rfl, .inl ⟨rfl, _, SqL.of hra2⟩, _, rfl, _, rfl, nS_log (by omega), _, _, rfl, rfl, ?_, _, rfl, _, rfl, nS_log (by omega), _, _, rfl, rfl, ?_, ra, _, _, rfl, rfl, hra2, by rw [List.length_map]; omega, ?_⟩
    · show (nS a).length + 1 ≤ sizeLine
      omega
    · show (nS a ++ sD).length + (nS b).length ≤ sizeLine
      rw [Str.length_append, show sD.length = 1 by decide]
      omega
    · refine ⟨_, _, _, _, ys ++ [nS a ++ sD ++ nS b], rfl, fun b o e n1 => by rw [upd_ne n1]; exact k2 b o e n1, by rw [upd_same, List.map_append]; rfl, fun y hy => ?_, by rw [List.length_append, hyl]; rfl⟩
      rcases List.mem_append.mp hy with z | z
      · exact hys y z
      · rw [List.mem_singleton.mp z]; exact hA
  · rintro σ H2 ⟨nu, v3, v4, v5, ys, rfl, k2, hra2, hys, hyl⟩
    rw [Int.toNat_natCast] at hyl
    have hsum := sum_len_le (b := 5) ys fun y hy => (hys y hy).1
    refine ⟨rfl, _, rfl, sC, ra, ys, rfl, rfl, SqL.of hra2, ?_, q _ H2 (fun b o e => k2 _ _ (s1 _ _ e) (ne_of_none e hra)) ((asc_join hys).mono (by omega))⟩
    rw [show sC.length = 1 by decide]
    omega

/-! ### _law_names -/
/-- the names of the places -/
structure NmAt (n : Nat) (kvs : List (Key × V)) : Prop where
  get : ∀ x, x < n → valV kvs (Sum.inr (nS x) : Key) = some (.int (x : Int))
  out : ∀ p : Str, (∀ x, x < n → p ≠ nS x) → valV kvs (Sum.inr p : Key) = none
theorem NmAt.put {j : Nat} {kvs : List (Key × V)} (h : NmAt j kvs) : NmAt (j + 1) (putK kvs (Sum.inr (nS j)) (.int (j : Int))) := by
  refine ⟨fun x hx => ?_, fun p hp => ?_⟩
  · rw [valV_put]
    by_cases e : x = j
    · subst e; rw [if_pos rfl]
    · rw [if_neg fun z => e (nS_inj (Sum.inr.inj z))]
      exact h.get x (by omega)
  · rw [valV_put, if_neg fun z => hp j (by omega) (Sum.inr.inj z)]
    exact h.out p fun x hx => hp x (by omega)
/-- a name is known just where it is the text of a place -/
theorem NmAt.ask {n : Nat} {kvs : List (Key × V)} (h : NmAt n kvs) (hn : n ≤ 100) (p : Str) : valV kvs (Sum.inr p : Key) = if plOk n p = true then some (.int ((figVal p : Nat) : Int)) else none := by
  cases hp : plOk n p with
  | true =>
    unfold plOk at hp
    rw [Bool.and_eq_true, decide_eq_true_eq] at hp
    have e := (figsOk_back hp.1).1
    have := h.get (figVal p) hp.2
    rw [← e] at this
    rw [if_pos rfl]
    exact this
  | false =>
    rw [if_neg Bool.false_ne_true]
    refine h.out p fun x hx e => ?_
    unfold plOk at hp
    rw [e, nS_figsOk (show x < 10 ^ 2 by omega) (by decide), nS_figVal, decide_eq_true hx] at hp
    cases hp
def spNames14 : Sp := fun vs H Q _ => ∃ n : Nat, vs = [.int (n : Int)] ∧ n ≤ 100 ∧ ∀ (r : Addr) (H' : Hp) (nk : List (Key × V)), H r = none → Same H H' → H' r = some (.dK nk) → NmAt n nk → Q (.ref r) H'
theorem sc__law_names : FnScope ["_law_many", "_law_names_here", "_law_k"] ["_law_many"] (defScope s__law_names) := ⟨rfl, rfl, rfl, by decide +kernel, rfl, by decide +kernel, by decide +kernel⟩
theorem ok__law_names (D : Def K mg "_law_names" s__law_names ["_law_many"] f fd) (B : Blt mg) : FnOk P w K mg base CX0 1 f fd ["_law_many"] spNames14 := by
  refine D.F.ok sc__law_names (fun vs H Q E h => ?_) (fun cdv A outer s H vs Q E hr h => ?_)
  · obtain ⟨n, rfl, _⟩ := h
    rfl
  obtain ⟨n, rfl, hn, q⟩ := h
  have hu := hu_of hr
  have hz := sizeLine_big
  refine ⟨_, pss_cons (ps_set (i := 1) sc__law_names.nd rfl (Or.inl rfl) pe_dnewK)
    (pss_cons (ps_for PassesOwn.never rfl (pi_range1 rfl B.range (pa_cons (pv 0) pa_nil)) (pg_name (i := 2) sc__law_names.nd rfl (Or.inl rfl))
      (pss_one (ps_dput hu (pv 1) (pe_callTy call_str_int rfl B.str bt_str (pa_cons (pv 2) pa_nil)) (pv 2) rfl)))
    (pss_one (ps_ret (pv 1)))), ?_⟩
  refine fun na hna => ?_
  have s2 := same_new hna (.dK [])
  have e2 : (upd H na (.dK [])) na = some (.dK []) := upd_same
  generalize upd H na (.dK []) = H2 at s2 e2 ⊢
  refine ⟨_, rfl, _, rfl, (by omega), (by omega), for_range (n := (n : Int).toNat) (fun j σ H3 => ∃ (nk : List (Key × V)) (v2 : Option V), σ = [some (.int (n : Int)), some (.ref na), v2] ∧ (∀ b o, H2 b = some o → b ≠ na → H3 b = some o) ∧ H3 na = some (.dK nk) ∧ NmAt j nk ∧ nk.length ≤ j)
    ⟨[], none, rfl, fun b o e _ => e, e2, ⟨fun x hx => absurd hx (Nat.not_lt_zero _), fun _ _ => rfl⟩, Nat.le_refl _⟩ ?_ ?_⟩
  · rintro j σ H3 hj ⟨nk, v2, rfl, k3, hna3, hnm, hnl⟩
    rw [Int.toNat_natCast] at hj
    have e0 : (0 : Int) + (j : Int) = ((j : Nat) : Int) := by omega
    rw [e0]
    refine ⟨_, rfl, _, rfl, _, rfl, _, rfl, nS_log (by omega), na, _, rfl, DPut.k (k := Sum.inr (nS j)) hna3 (by omega), ?_⟩
    exact ⟨_, _, rfl, fun b o e n1 => by rw [upd_ne n1]; exact k3 b o e n1, upd_same, hnm.put, Nat.le_trans (length_putK _ _ _) (by omega)⟩
  rintro σ H3 ⟨nk, v2, rfl, k3, hna3, hnm, hnl⟩
  rw [Int.toNat_natCast] at hnm
  exact ⟨_, rfl, q na H3 nk hna (fun b o e => k3 _ _ (s2 _ _ e) (ne_of_none e hna)) hna3 hnm⟩

/-! ### _law_due_number -/
theorem figs_find : ((List.range 10).all fun i => Txt.find sFig ⟨#[48 + i]⟩ == (i : Int)) = true := by decide +kernel
theorem find_fig {c : Nat} : Txt.find sFig ⟨#[c]⟩ = if isFig c = true then ((c - 48 : Nat) : Int) else -1 := by
  cases hf : isFig c with
  | true =>
    have h := isFig_iff.mp hf
    have h2 := List.all_eq_true.mp figs_find (c - 48) (List.mem_range.mpr (by omega))
    rw [beq_iff_eq, show 48 + (c - 48) = c by omega] at h2
    rw [if_pos rfl]
    exact h2
  | false =>
    have h := fig_in (c := c)
    rw [hf] at h
    unfold Txt.find
    cases e : Builtin.Str.occurrences sFig ⟨#[c]⟩ 0 sFig.length 1 with
    | nil => rfl
    | cons a r => rw [e] at h; cases h
theorem dval_snoc (l : List Nat) (c : Nat) : PySem.NumText.digitsVal (l ++ [c]) = PySem.NumText.digitsVal l * 10 + (c - 48) := by
  unfold PySem.NumText.digitsVal
  rw [List.foldl_append]
  rfl
def spDueNum14 : Sp := fun vs H Q _ => ∃ (x : V) (d : PyData), vs = [x] ∧ Dt H x d ∧ TxA 900 d ∧ (∀ v, rdNum d = some v → ∀ H' : Hp, Same H H' → Q (.int ((v : Nat) : Int)) H') ∧ (rdNum d = none → ∀ H' : Hp, Same H H' → Q .non H')
theorem sc__law_due_number : FnScope ["_law_text", "_law_value", "_law_sign", "_law_at"] ["_law_text"] (defScope s__law_due_number) := ⟨rfl, rfl, rfl, by decide +kernel, rfl, by decide +kernel, by decide +kernel⟩
theorem ok__law_due_number (D : Def K mg "_law_due_number" s__law_due_number ["_law_text"] f fd) (B : Blt mg) : FnOk P w K mg base CX0 1 f fd ["_law_text"] spDueNum14 := by
  refine D.F.ok sc__law_due_number (fun vs H Q E h => ?_) (fun cdv A outer s H vs Q E hr h => ?_)
  · obtain ⟨x, d, rfl, _⟩ := h
    rfl
  obtain ⟨x, d, rfl, hd, hta, q1, q2⟩ := h
  have hz := sizeLine_big
  refine ⟨_, pss_cons (ps_if (PW.pt (pw_or (pt_not (pt_val (pe_callB call_isinst rfl B.isinstance bt_isinstance (pa_cons (pv 0) (pa_cons (pe_bltn (v := .ty "str") rfl B.str bt_str rfl) pa_nil))))) (pw_or (pt_cmpR op_eq (pv 0) pe_str (nomark _)) (pw_or1 (pt_cmpR op_gt (pe_callB call_len_str rfl B.len bt_len (pa_cons (pv 0) pa_nil)) pe_int (nomark _)))))) (pss_one (ps_ret pe_non)) pss_nil)
    (pss_cons (ps_set (i := 1) sc__law_due_number.nd rfl (Or.inl rfl) pe_int)
    (pss_cons (ps_for PassesOwn.never rfl (pi_str (pv 0)) (pg_name (i := 2) sc__law_due_number.nd rfl (Or.inl rfl))
      (pss_cons (ps_set (i := 3) sc__law_due_number.nd rfl (Or.inl rfl) (pe_bm PySem.F.plainAttrs_str PySem.F.slot_str_find PySem.F.type_str_find mt_find1 pe_str (pa_cons (pv 2) pa_nil)))
      (pss_cons (ps_if (pt_cmpR op_lt (pv 3) pe_int (nomark _)) (pss_one (ps_ret pe_non)) pss_nil)
      (pss_one (ps_set (i := 1) sc__law_due_number.nd rfl (Or.inl rfl) (pe_op op_add (pe_op op_mul (pv 1) pe_int) (pv 3)))))))
    (pss_cons (ps_if (PW.pt (pw_and (pt_cmpR op_eq (pe_ix ix_str (pv 0) pe_int (fun _ _ => rfl)) pe_str (nomark _)) (pw_and1 (pt_cmpR op_gt (pe_callB call_len_str rfl B.len bt_len (pa_cons (pv 0) pa_nil)) pe_int (nomark _))))) (pss_one (ps_ret pe_non)) pss_nil)
    (pss_one (ps_ret (pv 1)))))), ?_⟩
  refine ⟨_, rfl, _, _, _, _, rfl, hd.ty, kit_tt (kd_str d), _, rfl, ?_⟩
  cases hs : isStrD d with
  | false => exact iteT (q2 (rdNum_not hs) H (Same.refl _))
  | true =>
  refine iteF ?_
  obtain ⟨t, rfl, rfl⟩ := str_of hd hs
  have ht := hta t rfl
  have htl := ht.1
  have hcl : t.cps.toList.length = t.length := len_cps _
  have no : figsOk 90 t = false → rdNum (.str t) = none := fun h => by rw [rdNum_str, if_neg (by rw [h]; decide)]
  refine ⟨_, rfl, rfl, _, rfl, ?_⟩
  show if decide (V.str t = V.str "") = true then _ else _
  by_cases h1 : 1 ≤ t.length
  case neg =>
    have e0 : t = "" := ext_cps (by
      have : t.cps.toList = [] := List.eq_nil_of_length_eq_zero (by omega)
      rw [this]; rfl)
    rw [decide_eq_true (by rw [e0])]
    refine iteT (q2 (no ?_) H (Same.refl _))
    unfold figsOk
    rw [decide_eq_false h1]; rfl
  rw [decide_eq_false (fun z => by injection z with z; rw [z] at h1; exact absurd h1 (by decide))]
  refine iteF ⟨_, rfl, t, rfl, by omega, _, _, rfl, rfl, _, rfl, ?_⟩
  show if decide ((90 : Int) < ((t.length : Nat) : Int)) = true then _ else _
  by_cases h2 : t.length ≤ 90
  case neg =>
    rw [decide_eq_true (show (90 : Int) < ((t.length : Nat) : Int) by omega)]
    refine iteT (q2 (no ?_) H (Same.refl _))
    unfold figsOk
    rw [decide_eq_false h2, Bool.and_false]; rfl
  rw [decide_eq_false (show ¬ (90 : Int) < ((t.length : Nat) : Int) by omega)]
  refine iteF ?_
  refine ⟨_, rfl, t, rfl, ht.all, for_str (x := t) (fun i σ H' => ∃ v2 v3, σ = [some (.str t), some (.int ((PySem.NumText.digitsVal (t.cps.toList.take i) : Nat) : Int)), v2, v3] ∧ H' = H ∧ (t.cps.toList.take i).all isFig = true) ⟨none, none, rfl, rfl, rfl⟩ ?_ ?_⟩
  · rintro i c σ H' hc ⟨v2, v3, rfl, rfl, hall⟩
    refine ⟨rfl, _, rfl, sFig, ⟨#[c]⟩, rfl, rfl, ?_⟩
    rw [find_fig]
    cases hf : isFig c with
    | false =>
      rw [if_neg Bool.false_ne_true]
      refine ⟨_, rfl, _, _, rfl, rfl, _, rfl, iteT (q2 (no ?_) _ (Same.refl _))⟩
      unfold figsOk
      rw [show t.cps.toList.all isFig = false from List.all_eq_false.mpr ⟨c, List.mem_of_getElem? hc, by rw [hf]; exact Bool.false_ne_true⟩, Bool.false_and, Bool.and_false]
    | true =>
      rw [if_pos rfl]
      refine ⟨_, rfl, _, _, rfl, rfl, _, rfl, ?_⟩
      show if decide (((c - 48 : Nat) : Int) < 0) = true then _ else _
      rw [decide_eq_false (by omega)]
      refine iteF ⟨_, rfl, _, _, rfl, rfl, .inr ⟨by decide, by decide⟩, _, rfl, _, _, rfl, rfl, ?_⟩
      have ev : ((PySem.NumText.digitsVal (t.cps.toList.take (i + 1)) : Nat) : Int) = ((PySem.NumText.digitsVal (t.cps.toList.take i) : Nat) : Int) * 10 + ((c - 48 : Nat) : Int) := by
        rw [List.take_add_one, hc, Option.toList_some, dval_snoc]
        omega
      refine ⟨some (.str ⟨#[c]⟩), some (.int ((c - 48 : Nat) : Int)), by rw [ev]; rfl, rfl, ?_⟩
      · rw [List.take_add_one, hc, List.all_append, hall]
        show (true && (isFig c && true)) = true
        rw [hf]; rfl
  rintro σ H' ⟨v2, v3, rfl, rfl, hall⟩
  rw [← hcl, List.take_length] at hall ⊢
  obtain ⟨c, hc⟩ : ∃ c, t.cps.toList[0]? = some c := ⟨_, List.getElem?_eq_getElem (by rw [hcl]; omega)⟩
  have hh : t.cps.toList.head? = some c := by rw [List.head?_eq_getElem?, hc]
  refine ⟨_, rfl, t, 0, c, rfl, rfl, by omega, atI_nat (j := 0) hc, rfl, _, rfl, ?_⟩
  have last : figsOk 90 t = true → Q (.int ((figVal t : Nat) : Int)) H' := fun ok => q1 _ (by rw [rdNum_str, if_pos ok]) _ (Same.refl _)
  show if decide (V.str ⟨#[c]⟩ = V.str "0") = true then _ else _
  by_cases hc48 : c = 48
  · subst hc48
    rw [decide_eq_true (show V.str ⟨#[48]⟩ = V.str "0" from rfl)]
    refine iteT ⟨_, rfl, t, rfl, by omega, _, _, rfl, rfl, _, rfl, ?_⟩
    show if decide ((1 : Int) < ((t.length : Nat) : Int)) = true then _ else _
    by_cases h3 : 1 < t.length
    · rw [decide_eq_true (show (1 : Int) < ((t.length : Nat) : Int) by omega)]
      refine iteT (q2 (no ?_) _ (Same.refl _))
      unfold figsOk
      rw [hh, decide_eq_true h3, decide_eq_true rfl]
      simp
    · rw [decide_eq_false (show ¬ (1 : Int) < ((t.length : Nat) : Int) by omega)]
      refine iteF ⟨_, rfl, last ?_⟩
      unfold figsOk
      rw [hall, decide_eq_true h1, decide_eq_true h2, decide_eq_false h3]
      rfl
  · have ne : ¬ (V.str ⟨#[c]⟩ = V.str "0") := fun z => by
      injection z with z
      have h2 := congrArg (fun s : Str => s.cps.toList) z
      have h3 : [c] = [48] := h2
      exact hc48 (by simpa using h3)
    rw [decide_eq_false ne]
    refine iteF ⟨_, rfl, last ?_⟩
    unfold figsOk
    rw [hh, hall, decide_eq_true h1, decide_eq_true h2, decide_eq_false (show ¬ (some c = some 48) from fun z => hc48 (Option.some.inj z))]
    simp

/-! ### _law_due_places -/
def spDuePls14 : Sp := fun vs H Q _ => ∃ (x : V) (d : PyData) (n : Nat), vs = [x, .int (n : Int)] ∧ Dt H x d ∧ TxA 900 d ∧ n ≤ 100 ∧ (∀ l, rdPls n d = some l → ∀ (r : Addr) (H' : Hp), H r = none → Same H H' → H' r = some (.lst (tI l)) → Q (.ref r) H') ∧ (rdPls n d = none → ∀ H' : Hp, Same H H' → Q .non H')
theorem sc__law_due_places : FnScope ["_law_text", "_law_many", "_law_names_here", "_law_row", "_law_part"] ["_law_text", "_law_many"] (defScope s__law_due_places) := ⟨rfl, rfl, rfl, by decide +kernel, rfl, by decide +kernel, by decide +kernel⟩
theorem flat_tI (l : List Nat) : (tI l).all flatV = true := by
  unfold tI
  rw [List.all_map]
  exact List.all_eq_true.mpr fun _ _ => rfl
theorem inV_tI {x : Nat} (l : List Nat) : inV (.int (x : Int)) (tI l) = decide (x ∈ l) := by
  unfold inV tI
  rw [List.any_map]
  cases h : decide (x ∈ l) with
  | true =>
    refine List.any_eq_true.mpr ⟨x, of_decide_eq_true h, ?_⟩
    show eqV (.int (x : Int)) (.int (x : Int)) = true
    simp [eqV]
  | false =>
    refine List.any_eq_false.mpr fun y hy z => ?_
    have e : (y : Int) = (x : Int) := by simpa [eqV] using z
    exact of_decide_eq_false h (by rw [← show y = x by omega]; exact hy)
theorem ok__law_due_places (D : Def K mg "_law_due_places" s__law_due_places ["_law_text", "_law_many"] f fd) (B : Blt mg) (KN : Known P w K mg base 1 "_law_names" ["_law_many"] spNames14) : FnOk P w K mg base CX0 2 f fd ["_law_text", "_law_many"] spDuePls14 := by
  refine D.F.ok sc__law_due_places (fun vs H Q E h => ?_) (fun cdv A outer s H vs Q E hr h => ?_)
  · obtain ⟨x, d, n, rfl, _⟩ := h
    rfl
  obtain ⟨x, d, n, rfl, hd, hta, hn, q1, q2⟩ := h
  have hu := hu_of hr
  have hz := sizeLine_big
  refine ⟨_, pss_cons (ps_if (pt_not (pt_val (pe_callB call_isinst rfl B.isinstance bt_isinstance (pa_cons (pv 0) (pa_cons (pe_bltn (v := .ty "str") rfl B.str bt_str rfl) pa_nil))))) (pss_one (ps_ret pe_non)) pss_nil)
    (pss_cons (ps_set (i := 2) sc__law_due_places.nd rfl (Or.inl rfl) (pe_kn KN hr rfl (pa_cons (pv 1) pa_nil)))
    (pss_cons (ps_set (i := 3) sc__law_due_places.nd rfl (Or.inl rfl) (pe_lst pa_nil))
    (pss_cons (ps_for PassesOwn.never rfl (pi_list (pe_bm PySem.F.plainAttrs_str PySem.F.slot_str_split PySem.F.type_str_split mt_split (pv 0) (pa_cons pe_str pa_nil))) (pg_name (i := 4) sc__law_due_places.nd rfl (Or.inl rfl))
      (pss_cons (ps_if (PW.pt (pw_or (pt_cmp (pc_dnotin hu (pv 4) (pv 2))) (pw_or1 (pt_cmpR op_in_seq (pe_dget hu (pv 2) (pv 4) (fun _ _ => rfl)) (pv 3) rfl)))) (pss_one (ps_ret pe_non)) pss_nil)
      (pss_one (ps_expr (pe_bm PySem.F.plainAttrs_list PySem.F.slot_list_append PySem.F.type_list_append mt_append (pv 3) (pa_cons (pe_dget hu (pv 2) (pv 4) (fun _ _ => rfl)) pa_nil))))))
    (pss_one (ps_ret (pv 3)))))), ?_⟩
  refine ⟨_, rfl, _, _, _, _, rfl, hd.ty, kit_tt (kd_str d), _, rfl, ?_⟩
  cases hs : isStrD d with
  | false => exact iteT (q2 (rdPls_not hs) H (Same.refl _))
  | true =>
  refine iteF ?_
  obtain ⟨t, rfl, rfl⟩ := str_of hd hs
  have ht := hta t rfl
  have htl := ht.1
  have hps := split_len t sC
  refine ⟨_, rfl, n, rfl, hn, fun na H1 nk hna0 s1 hna hnm => ?_⟩
  refine ⟨(by show 0 ≤ sizeLine; decide), fun ra hra => ?_⟩
  have s2 := same_new hra (.lst [])
  have e2 : (upd H1 ra (.lst [])) ra = some (.lst (tI [])) := upd_same
  have hna2 := s2 _ _ hna
  generalize upd H1 ra (.lst []) = H2 at s2 e2 hna2 ⊢
  have hra0 : H ra = none := s1.free hra
  have nr : na ≠ ra := ne_of_none hna hra
  refine ⟨_, rfl, rfl, t, sC, rfl, rfl, by decide, by omega, fun pa hpa => ?_⟩
  have s3 := same_new hpa (.lst ((Txt.split t sC).map V.str))
  have e3 : (upd H2 pa (.lst ((Txt.split t sC).map V.str))) pa = some (.lst ((Txt.split t sC).map V.str)) := upd_same
  have hna3 := s3 _ _ hna2
  have hra3 := s3 _ _ e2
  have npr : pa ≠ ra := Ne.symm (ne_of_none e2 hpa)
  have s03 : Same H (upd H2 pa (.lst ((Txt.split t sC).map V.str))) := s1.trans (s2.trans s3)
  generalize upd H2 pa (.lst ((Txt.split t sC).map V.str)) = H3 at s3 e3 hna3 hra3 s03 ⊢
  refine ⟨pa, rfl, ⟨_, SqL.of e3⟩, for_list (K := K) (a := pa) (xs := (Txt.split t sC).map V.str) (fun i σ H4 => ∃ v4 : Option V, σ = [some (.str t), some (.int (n : Int)), some (.ref na), some (.ref ra), v4] ∧ (∀ b o, H3 b = some o → b ≠ ra → H4 b = some o) ∧ H4 ra = some (.lst (tI (((Txt.split t sC).take i).map figVal))) ∧ ((Txt.split t sC).take i).all (plOk n) = true ∧ (((Txt.split t sC).take i).map figVal).Nodup)
    ⟨none, rfl, fun b o e _ => e, hra3, rfl, List.nodup_nil⟩ (fun i σ H4 _ ⟨_, _, k4, _⟩ => SqL.of (k4 _ _ e3 npr)) ?_ ?_⟩
  · rintro i y σ H4 hi ⟨v4, rfl, k4, hra4, hall, hnd⟩
    rw [List.getElem?_map] at hi
    cases ep : (Txt.split t sC)[i]? with
    | none => rw [ep] at hi; cases hi
    | some p =>
      rw [ep] at hi
      cases hi
      have hi2 : i < (Txt.split t sC).length := (List.getElem?_eq_some_iff.mp ep).1
      have hna4 := k4 _ _ hna3 nr
      have fr : Same H H4 := fun b o e => k4 _ _ (s03 _ _ e) (ne_of_none e hra0)
      have bad : (∀ l, rdPls n (.str t) = some l → False) → rdPls n (.str t) = none := fun h => by
        cases e : rdPls n (.str t) with
        | none => rfl
        | some l => exact (h l e).elim
      have rd : ∀ l, rdPls n (.str t) = some l → (Txt.split t sC).all (plOk n) = true ∧ ((Txt.split t sC).map figVal).Nodup := fun l h => by
        have h' : rdPt n sC t = some l := h
        unfold rdPt at h'
        split at h'
        · rename_i hc
          rw [Bool.and_eq_true, decide_eq_true_eq] at hc
          exact hc
        · cases h'
      have g := DGet.k (k := Sum.inr p) hna4
      have ga := hnm.ask hn p
      cases hp : plOk n p with
      | false =>
        rw [hp, if_neg Bool.false_ne_true] at ga
        rw [ga] at g
        refine ⟨_, rfl, _, rfl, na, _, rfl, g, _, rfl, iteT (q2 (bad fun l hl => ?_) H4 fr)⟩
        have := List.all_eq_true.mp (rd l hl).1 p (List.mem_of_getElem? ep)
        rw [hp] at this
        cases this
      | true =>
        rw [hp, if_pos rfl] at ga
        rw [ga] at g
        refine ⟨_, rfl, _, rfl, na, _, rfl, g, _, rfl, iteF ?_⟩
        refine ⟨_, rfl, _, rfl, na, _, rfl, g, _, rfl, ra, _, rfl, .inl (SqL.of hra4), rfl, flat_tI _, _, rfl, ?_⟩
        show if inV (.int ((figVal p : Nat) : Int)) (tI (((Txt.split t sC).take i).map figVal)) = true then _ else _
        rw [inV_tI]
        have etk : (Txt.split t sC).take (i + 1) = (Txt.split t sC).take i ++ [p] := by rw [List.take_add_one, ep]; rfl
        by_cases hm : figVal p ∈ ((Txt.split t sC).take i).map figVal
        · rw [decide_eq_true hm]
          refine iteT (q2 (bad fun l hl => ?_) H4 fr)
          have h5 := (rd l hl).2
          rw [← List.take_append_drop (i + 1) (Txt.split t sC), etk, List.map_append, List.map_append] at h5
          have h6 := (List.nodup_append.mp h5).1
          exact (List.nodup_append.mp h6).2.2 _ hm _ (by simp) rfl
        · rw [decide_eq_false hm]
          refine iteF ?_
          refine ⟨_, rfl, .inl ⟨rfl, _, SqL.of hra4⟩, _, rfl, _, rfl, na, _, rfl, g, ra, _, _, rfl, rfl, hra4, by rw [tI_length, List.length_map, List.length_take]; omega, ?_⟩
          refine ⟨_, rfl, fun b o e n1 => by rw [upd_ne n1]; exact k4 b o e n1, ?_, ?_, ?_⟩
          · rw [upd_same, etk, List.map_append, tI_append]; rfl
          · rw [etk, List.all_append, hall]
            show (true && (plOk n p && true)) = true
            rw [hp]; rfl
          · rw [etk, List.map_append]
            exact List.nodup_append.mpr ⟨hnd, by simp, fun a ha b hb e => by
              have eb : b = figVal p := by simpa using hb
              rw [eb] at e
              exact hm (e ▸ ha)⟩
  · rintro σ H4 ⟨v4, rfl, k4, hra4, hall, hnd⟩
    rw [List.length_map, List.take_length] at hra4 hall hnd
    refine ⟨_, rfl, q1 _ ?_ ra H4 hra0 (fun b o e => k4 _ _ (s03 _ _ e) (ne_of_none e hra0)) hra4⟩
    show rdPt n sC t = _
    unfold rdPt
    rw [hall, decide_eq_true hnd]
    rfl

/-! ### _law_due_pairs -/
def pD (x : Nat × Nat) : PyData := .tuple [.int (x.1 : Int), .int (x.2 : Int)]
theorem pD_eqv (a b : Nat × Nat) : PyData.eqv (pD a) (pD b) = decide (a = b) := by
  show ((((a.1 : Nat) : Int) == ((b.1 : Nat) : Int)) && ((((a.2 : Nat) : Int) == ((b.2 : Nat) : Int)) && true)) = decide (a = b)
  rw [Bool.eq_iff_iff]
  simp [Prod.ext_iff]
  omega
theorem pD_any (rows : List (Nat × Nat)) (x : Nat × Nat) : ((rows.map pD).any fun e => PyData.eqv e (pD x)) = decide (x ∈ rows) := by
  rw [List.any_map]
  cases h : decide (x ∈ rows) with
  | true => exact List.any_eq_true.mpr ⟨x, of_decide_eq_true h, by show PyData.eqv (pD x) (pD x) = true; rw [pD_eqv, decide_eq_true rfl]⟩
  | false =>
    refine List.any_eq_false.mpr fun y hy z => ?_
    have z' : PyData.eqv (pD y) (pD x) = true := z
    rw [pD_eqv] at z'
    exact of_decide_eq_false h (by rw [← of_decide_eq_true z']; exact hy)
theorem pD_shaped (x : Nat × Nat) : PySem.SeqAt.shaped (pD x) = true := by
  unfold PySem.SeqAt.shaped pD
  rw [Bool.and_eq_true]
  exact ⟨by simp [PyData.canLay0, PyData.canLayAll0], by simp [PyData.depth, PyData.depthAll]⟩
theorem pDs_shaped (rows : List (Nat × Nat)) : PySem.SeqAt.shaped (.list (rows.map pD)) = true := by
  have h : PyData.canLayAll0 (rows.map pD) = true ∧ PyData.depthAll (rows.map pD) ≤ 2 := by
    induction rows with
    | nil => exact ⟨by simp [PyData.canLayAll0], by simp [PyData.depthAll]⟩
    | cons x r ih =>
      rw [List.map_cons]
      refine ⟨?_, ?_⟩
      · rw [PyData.canLayAll0, ih.1]
        simp [pD, PyData.canLay0, PyData.canLayAll0]
      · rw [PyData.depthAll]
        have : (pD x).depth ≤ 2 := by simp [pD, PyData.depth, PyData.depthAll]
        omega
  unfold PySem.SeqAt.shaped
  rw [Bool.and_eq_true, decide_eq_true_eq]
  refine ⟨by rw [PyData.canLay0]; exact h.1, ?_⟩
  rw [PyData.depth]
  omega
theorem PrAt.dts {H : Hp} {as : List Addr} {ps : List (Nat × Nat)} (h : PrAt H as ps) : Dts H (as.map V.ref) (ps.map pD) := by
  induction h with
  | nil => exact .nil
  | cons a _ ih => exact .cons (.tup a (.cons (.int _) (.cons (.int _) .nil))) ih
theorem rdPr_two {n : Nat} {p w1 w2 : Str} (h : Txt.split p sD = [w1, w2]) : rdPr n p = if plOk n w1 = true ∧ plOk n w2 = true ∧ figVal w1 ≠ figVal w2 then some (figVal w1, figVal w2) else none := by
  unfold rdPr rdPt
  rw [h]
  cases h1 : plOk n w1 <;> cases h2 : plOk n w2 <;> by_cases h3 : figVal w1 = figVal w2 <;> simp [h1, h2, h3]
theorem rdPr_not2 {n : Nat} {p : Str} (h : (Txt.split p sD).length ≠ 2) : rdPr n p = none := by
  cases e : rdPt n sD p with
  | none => unfold rdPr; rw [e]
  | some l =>
    refine rdPr_len e ?_
    unfold rdPt at e
    split at e
    · rw [← Option.some.inj e, List.length_map]; exact h
    · cases e
theorem srt_eq {a b : Nat × Nat} : srt a = srt b ↔ a = b ∨ (a.2, a.1) = b := by
  obtain ⟨a1, a2⟩ := a
  obtain ⟨b1, b2⟩ := b
  simp only [srt, Prod.mk.injEq]
  omega
theorem srt_mem {rows : List (Nat × Nat)} {x : Nat × Nat} : srt x ∈ rows.map srt ↔ x ∈ rows ∨ (x.2, x.1) ∈ rows := by
  rw [List.mem_map]
  constructor
  · rintro ⟨y, hy, e⟩
    rcases srt_eq.mp e.symm with z | z
    · exact .inl (by rw [z]; exact hy)
    · exact .inr (by rw [z]; exact hy)
  · rintro (z | z)
    · exact ⟨x, z, rfl⟩
    · exact ⟨_, z, (srt_eq.mpr (.inr rfl)).symm⟩
def spDuePrs14 : Sp := fun vs H Q _ => ∃ (x : V) (d : PyData) (n : Nat), vs = [x, .int (n : Int)] ∧ Dt H x d ∧ TxA 900 d ∧ n ≤ 100 ∧ (∀ ps, rdPrs n d = some ps → ∀ (r : Addr) (H' : Hp) (as : List Addr), H r = none → Same H H' → H' r = some (.lst (as.map V.ref)) → PrAt H' as ps → Q (.ref r) H') ∧ (rdPrs n d = none → ∀ H' : Hp, Same H H' → Q .non H')
theorem sc__law_due_pairs : FnScope ["_law_text", "_law_many", "_law_names_here", "_law_row", "_law_part", "_law_ends", "_law_pair"] ["_law_text", "_law_many"] (defScope s__law_due_pairs) := ⟨rfl, rfl, rfl, by decide +kernel, rfl, by decide +kernel, by decide +kernel⟩
theorem ok__law_due_pairs (D : Def K mg "_law_due_pairs" s__law_due_pairs ["_law_text", "_law_many"] f fd) (B : Blt mg) (KN : Known P w K mg base 1 "_law_names" ["_law_many"] spNames14) : FnOk P w K mg base CX0 2 f fd ["_law_text", "_law_many"] spDuePrs14 := by
  refine D.F.ok sc__law_due_pairs (fun vs H Q E h => ?_) (fun cdv A outer s H vs Q E hr h => ?_)
  · obtain ⟨x, d, n, rfl, _⟩ := h
    rfl
  obtain ⟨x, d, n, rfl, hd, hta, hn, q1, q2⟩ := h
  have hu := hu_of hr
  have hu5 : (A.deeper (PyProof.Rows.envOfC "_law_due_pairs" (defScope s__law_due_pairs) s.heap.objs.size f cdv)).units + 65 < cLine := by have := hr.un; omega
  have hz := sizeLine_big
  refine ⟨_, pss_cons (ps_if (pt_not (pt_val (pe_callB call_isinst rfl B.isinstance bt_isinstance (pa_cons (pv 0) (pa_cons (pe_bltn (v := .ty "str") rfl B.str bt_str rfl) pa_nil))))) (pss_one (ps_ret pe_non)) pss_nil)
    (pss_cons (ps_set (i := 2) sc__law_due_pairs.nd rfl (Or.inl rfl) (pe_kn KN hr rfl (pa_cons (pv 1) pa_nil)))
    (pss_cons (ps_set (i := 3) sc__law_due_pairs.nd rfl (Or.inl rfl) (pe_lst pa_nil))
    (pss_cons (ps_for PassesOwn.never rfl (pi_list (pe_bm PySem.F.plainAttrs_str PySem.F.slot_str_split PySem.F.type_str_split mt_split (pv 0) (pa_cons pe_str pa_nil))) (pg_name (i := 4) sc__law_due_pairs.nd rfl (Or.inl rfl))
      (pss_cons (ps_set (i := 5) sc__law_due_pairs.nd rfl (Or.inl rfl) (pe_bm PySem.F.plainAttrs_str PySem.F.slot_str_split PySem.F.type_str_split mt_split (pv 4) (pa_cons pe_str pa_nil)))
      (pss_cons (ps_if (PW.pt (pw_or (pt_cmpR op_ne (pe_callB call_len_seq rfl B.len bt_len (pa_cons (pv 5) pa_nil)) pe_int (nomark _)) (pw_or (pt_cmp (pc_dnotin hu (pe_ix ix_list (pv 5) pe_int (fun _ _ => rfl)) (pv 2))) (pw_or1 (pt_cmp (pc_dnotin hu (pe_ix ix_list (pv 5) pe_int (fun _ _ => rfl)) (pv 2))))))) (pss_one (ps_ret pe_non)) pss_nil)
      (pss_cons (ps_set (i := 6) sc__law_due_pairs.nd rfl (Or.inl rfl) (pe_tup (pa_cons (pe_dget hu (pv 2) (pe_ix ix_list (pv 5) pe_int (fun _ _ => rfl)) (fun _ _ => rfl)) (pa_cons (pe_dget hu (pv 2) (pe_ix ix_list (pv 5) pe_int (fun _ _ => rfl)) (fun _ _ => rfl)) pa_nil))))
      (pss_cons (ps_if (PW.pt (pw_or (pt_cmpR op_eq (pe_ix ix_tup (pv 6) pe_int (fun _ _ => rfl)) (pe_ix ix_tup (pv 6) pe_int (fun _ _ => rfl)) (nomark _)) (pw_or (pt_cmpR (op_inDt hu5) (pv 6) (pv 3) rfl) (pw_or1 (pt_cmpR (op_inDt hu5) (pe_tup (pa_cons (pe_ix ix_tup (pv 6) pe_int (fun _ _ => rfl)) (pa_cons (pe_ix ix_tup (pv 6) pe_int (fun _ _ => rfl)) pa_nil))) (pv 3) rfl))))) (pss_one (ps_ret pe_non)) pss_nil)
      (pss_one (ps_expr (pe_bm PySem.F.plainAttrs_list PySem.F.slot_list_append PySem.F.type_list_append mt_append (pv 3) (pa_cons (pv 6) pa_nil)))))))))
    (pss_one (ps_ret (pv 3)))))), ?_⟩
  refine ⟨_, rfl, _, _, _, _, rfl, hd.ty, kit_tt (kd_str d), _, rfl, ?_⟩
  cases hs : isStrD d with
  | false => exact iteT (q2 (rdPrs_not hs) H (Same.refl _))
  | true =>
  refine iteF ?_
  obtain ⟨t, rfl, rfl⟩ := str_of hd hs
  have ht := hta t rfl
  have htl := ht.1
  have hps := split_len t sC
  refine ⟨_, rfl, n, rfl, hn, fun na H1 nk hna0 s1 hna hnm => ?_⟩
  refine ⟨(by show 0 ≤ sizeLine; decide), fun ra hra => ?_⟩
  have s2 := same_new hra (.lst [])
  have e2 : (upd H1 ra (.lst [])) ra = some (.lst (([] : List Addr).map V.ref)) := upd_same
  have hna2 := s2 _ _ hna
  generalize upd H1 ra (.lst []) = H2 at s2 e2 hna2 ⊢
  have hra0 : H ra = none := s1.free hra
  have nr : na ≠ ra := ne_of_none hna hra
  refine ⟨_, rfl, rfl, t, sC, rfl, rfl, by decide, by omega, fun pa hpa => ?_⟩
  have s3 := same_new hpa (.lst ((Txt.split t sC).map V.str))
  have e3 : (upd H2 pa (.lst ((Txt.split t sC).map V.str))) pa = some (.lst ((Txt.split t sC).map V.str)) := upd_same
  have hna3 := s3 _ _ hna2
  have hra3 := s3 _ _ e2
  have npr : pa ≠ ra := Ne.symm (ne_of_none e2 hpa)
  have s03 : Same H (upd H2 pa (.lst ((Txt.split t sC).map V.str))) := s1.trans (s2.trans s3)
  generalize upd H2 pa (.lst ((Txt.split t sC).map V.str)) = H3 at s3 e3 hna3 hra3 s03 ⊢
  have bad : (∀ l, rdPrT n t = some l → False) → rdPrs n (.str t) = none := fun h => by
    show rdPrT n t = none
    cases e : rdPrT n t with
    | none => rfl
    | some l => exact (h l e).elim
  have rd : ∀ l, rdPrT n t = some l → (Txt.split t sC).all (fun z => (rdPr n z).isSome) = true ∧ (((Txt.split t sC).filterMap (rdPr n)).map srt).Nodup := fun l h => by
    unfold rdPrT at h
    split at h
    · rename_i hc
      rw [Bool.and_eq_true, decide_eq_true_eq] at hc
      exact hc
    · cases h
  refine ⟨pa, rfl, ⟨_, SqL.of e3⟩, for_list (K := K) (a := pa) (xs := (Txt.split t sC).map V.str) (fun i σ H4 => ∃ (as : List Addr) (v4 v5 v6 : Option V), σ = [some (.str t), some (.int (n : Int)), some (.ref na), some (.ref ra), v4, v5, v6] ∧ (∀ b o, H3 b = some o → b ≠ ra → H4 b = some o) ∧ H4 ra = some (.lst (as.map V.ref)) ∧ PrAt H4 as (((Txt.split t sC).take i).filterMap (rdPr n)) ∧ ((Txt.split t sC).take i).all (fun z => (rdPr n z).isSome) = true ∧ ((((Txt.split t sC).take i).filterMap (rdPr n)).map srt).Nodup)
    ⟨[], none, none, none, rfl, fun b o e _ => e, hra3, .nil, rfl, List.nodup_nil⟩ (fun i σ H4 _ ⟨_, _, _, _, _, k4, _⟩ => SqL.of (k4 _ _ e3 npr)) ?_ ?_⟩
  · rintro i y σ H4 hi ⟨as, v4, v5, v6, rfl, k4, hra4, hP, hall, hnd⟩
    rw [List.getElem?_map] at hi
    cases ep : (Txt.split t sC)[i]? with
    | none => rw [ep] at hi; cases hi
    | some p =>
      rw [ep] at hi
      cases hi
      have hi2 : i < (Txt.split t sC).length := (List.getElem?_eq_some_iff.mp ep).1
      have hpm := List.mem_of_getElem? ep
      have hp1 := (ht.split hpm).1
      have hna4 := k4 _ _ hna3 nr
      have fr : Same H H4 := fun b o e => k4 _ _ (s03 _ _ e) (ne_of_none e hra0)
      have etk : (Txt.split t sC).take (i + 1) = (Txt.split t sC).take i ++ [p] := by rw [List.take_add_one, ep]; rfl
      have none' : rdPr n p = none → rdPrs n (.str t) = none := fun h => bad fun l hl => by
        have := List.all_eq_true.mp (rd l hl).1 p hpm
        rw [h] at this
        cases this
      have hsl := split_len p sD
      refine ⟨_, rfl, rfl, p, sD, rfl, rfl, by decide, by omega, fun ea hea => ?_⟩
      have s5 := same_new hea (.lst ((Txt.split p sD).map V.str))
      have e5 : (upd H4 ea (.lst ((Txt.split p sD).map V.str))) ea = some (.lst ((Txt.split p sD).map V.str)) := upd_same
      have hna5 := s5 _ _ hna4
      have hra5 := s5 _ _ hra4
      have hP5 := hP.same s5
      have k5 : ∀ b o, H3 b = some o → b ≠ ra → (upd H4 ea (.lst ((Txt.split p sD).map V.str))) b = some o := fun b o e n1 => s5 _ _ (k4 b o e n1)
      have fr5 := fr.trans s5
      generalize upd H4 ea (.lst ((Txt.split p sD).map V.str)) = H5 at s5 e5 hna5 hra5 hP5 k5 fr5 ⊢
      refine ⟨_, rfl, ea, _, rfl, .inl (SqL.of e5), rfl, _, rfl, ?_⟩
      show if (!decide (V.int ((((Txt.split p sD).map V.str).length : Nat) : Int) = V.int 2)) = true then _ else _
      rw [List.length_map]
      by_cases h2 : (Txt.split p sD).length = 2
      case neg =>
        rw [decide_eq_false fun z => h2 (by injection z with z; omega)]
        exact iteT (q2 (none' (rdPr_not2 h2)) H5 fr5)
      rw [h2, decide_eq_true (show V.int ((2 : Nat) : Int) = V.int 2 from rfl)]
      refine iteF ?_
      match hsp : Txt.split p sD, h2 with
      | [w1, w2], _ =>
      rw [hsp] at e5
      have hrp := rdPr_two (n := n) hsp
      have g1 := DGet.k (k := Sum.inr w1) hna5
      have g2 := DGet.k (k := Sum.inr w2) hna5
      rw [hnm.ask hn w1] at g1
      rw [hnm.ask hn w2] at g2
      have a1 : atI ([w1, w2].map V.str) 0 = some (V.str w1) := atI_nat (j := 0) rfl
      have a2 : atI ([w1, w2].map V.str) 1 = some (V.str w2) := atI_nat (j := 1) rfl
      refine ⟨_, rfl, ea, _, _, _, rfl, rfl, SqL.of e5, a1, _, rfl, na, _, rfl, g1, _, rfl, ?_⟩
      cases hw1 : plOk n w1 with
      | false =>
        rw [if_neg Bool.false_ne_true]
        exact iteT (q2 (none' (by rw [hrp, if_neg fun z => by rw [hw1] at z; cases z.1])) H5 fr5)
      | true =>
      rw [hw1, if_pos rfl] at g1
      rw [if_pos rfl]
      refine iteF ⟨_, rfl, ea, _, _, _, rfl, rfl, SqL.of e5, a2, _, rfl, na, _, rfl, g2, _, rfl, ?_⟩
      cases hw2 : plOk n w2 with
      | false =>
        rw [if_neg Bool.false_ne_true]
        exact iteT (q2 (none' (by rw [hrp, if_neg fun z => by rw [hw2] at z; cases z.2.1])) H5 fr5)
      | true =>
      rw [hw2, if_pos rfl] at g2
      rw [if_pos rfl]
      refine iteF ?_
      refine ⟨_, rfl, _, rfl, ea, _, _, _, rfl, rfl, SqL.of e5, a1, na, _, rfl, g1, _, rfl, _, rfl, ea, _, _, _, rfl, rfl, SqL.of e5, a2, na, _, rfl, g2, ?_⟩
      refine ⟨(by show 2 ≤ sizeLine; omega), fun ta hta' => ?_⟩
      obtain ⟨x0, hx0⟩ : ∃ x0 : Nat × Nat, x0 = (figVal w1, figVal w2) := ⟨_, rfl⟩
      have epv : [V.int ((figVal w1 : Nat) : Int), V.int ((figVal w2 : Nat) : Int)] = pV x0 := by rw [hx0]; rfl
      rw [epv]
      have s6 := same_new hta' (.tup (pV x0))
      have e6 : (upd H5 ta (.tup (pV x0))) ta = some (.tup (pV x0)) := upd_same
      have hra6 := s6 _ _ hra5
      have hP6 := hP5.same s6
      have k6 : ∀ b o, H3 b = some o → b ≠ ra → (upd H5 ta (.tup (pV x0))) b = some o := fun b o e n1 => s6 _ _ (k5 b o e n1)
      have fr6 := fr5.trans s6
      have hta4 : ta ≠ ra := Ne.symm (ne_of_none hra5 hta')
      generalize upd H5 ta (.tup (pV x0)) = H6 at s6 e6 hra6 hP6 k6 fr6 ⊢
      have b1 : atI (pV x0) 0 = some (V.int ((x0.1 : Nat) : Int)) := atI_nat (j := 0) rfl
      have b2 : atI (pV x0) 1 = some (V.int ((x0.2 : Nat) : Int)) := atI_nat (j := 1) rfl
      refine ⟨_, rfl, ta, _, _, _, rfl, rfl, SqT.of e6, b1, _, rfl, ta, _, _, _, rfl, rfl, SqT.of e6, b2, rfl, _, rfl, ?_⟩
      show if decide (V.int ((x0.1 : Nat) : Int) = V.int ((x0.2 : Nat) : Int)) = true then _ else _
      by_cases h3 : x0.1 = x0.2
      · rw [decide_eq_true (by rw [h3])]
        exact iteT (q2 (none' (by rw [hrp, if_neg fun z => z.2.2 (by rw [hx0] at h3; exact h3)])) H6 fr6)
      rw [decide_eq_false fun z => h3 (by injection z with z; omega)]
      have hsome : rdPr n p = some x0 := by rw [hrp, if_pos ⟨hw1, hw2, by rw [hx0] at h3; exact h3⟩, hx0]
      have efm : ((Txt.split t sC).take (i + 1)).filterMap (rdPr n) = ((Txt.split t sC).take i).filterMap (rdPr n) ++ [x0] := by
        rw [etk, List.filterMap_append, List.filterMap_cons, hsome]
        rfl
      have twice : srt x0 ∈ (((Txt.split t sC).take i).filterMap (rdPr n)).map srt → rdPrs n (.str t) = none := fun hm => bad fun l hl => by
        have h5 := (rd l hl).2
        rw [← List.take_append_drop (i + 1) (Txt.split t sC), List.filterMap_append, efm, List.map_append, List.map_append] at h5
        have h6 := (List.nodup_append.mp h5).1
        exact (List.nodup_append.mp h6).2.2 _ hm _ (by simp) rfl
      have d6 : Dt H6 (.ref ta) (pD x0) := .tup e6 (.cons (.int _) (.cons (.int _) .nil))
      refine iteF ⟨_, rfl, _, rfl, ra, _, _, pD x0, rfl, hra6, hP6.dts, d6, pDs_shaped _, pD_shaped _, _, rfl, ?_⟩
      rw [pD_any]
      by_cases hm : x0 ∈ ((Txt.split t sC).take i).filterMap (rdPr n)
      · rw [decide_eq_true hm]
        exact iteT (q2 (twice (srt_mem.mpr (.inl hm))) H6 fr6)
      rw [decide_eq_false hm]
      refine iteF ⟨_, rfl, ta, _, _, _, rfl, rfl, SqT.of e6, b2, _, rfl, ta, _, _, _, rfl, rfl, SqT.of e6, b1, ?_⟩
      refine ⟨(by show 2 ≤ sizeLine; omega), fun tb htb => ?_⟩
      have s7 := same_new htb (.tup (pV (x0.2, x0.1)))
      have e7 : (upd H6 tb (.tup [V.int ((x0.2 : Nat) : Int), V.int ((x0.1 : Nat) : Int)])) tb = some (.tup (pV (x0.2, x0.1))) := upd_same
      have hra7 := s7 _ _ hra6
      have hP7 := hP6.same s7
      have e67 := s7 _ _ e6
      have k7 : ∀ b o, H3 b = some o → b ≠ ra → (upd H6 tb (.tup (pV (x0.2, x0.1)))) b = some o := fun b o e n1 => s7 _ _ (k6 b o e n1)
      have fr7 := fr6.trans s7
      have eH7 : upd H6 tb (.tup [V.int ((x0.2 : Nat) : Int), V.int ((x0.1 : Nat) : Int)]) = upd H6 tb (.tup (pV (x0.2, x0.1))) := rfl
      rw [eH7] at e7 ⊢
      generalize upd H6 tb (.tup (pV (x0.2, x0.1))) = H7 at s7 e7 hra7 hP7 e67 k7 fr7 ⊢
      have d7 : Dt H7 (.ref tb) (pD (x0.2, x0.1)) := .tup e7 (.cons (.int _) (.cons (.int _) .nil))
      refine ⟨_, rfl, ra, _, _, pD (x0.2, x0.1), rfl, hra7, hP7.dts, d7, pDs_shaped _, pD_shaped _, _, rfl, ?_⟩
      rw [pD_any]
      by_cases hm2 : (x0.2, x0.1) ∈ ((Txt.split t sC).take i).filterMap (rdPr n)
      · rw [decide_eq_true hm2]
        exact iteT (q2 (twice (srt_mem.mpr (.inr hm2))) H7 fr7)
      rw [decide_eq_false hm2]
      refine iteF ?_
      have hal : as.length ≤ 1000 := by
        rw [hP7.len]
        exact Nat.le_trans (List.length_filterMap_le _ _) (by rw [List.length_take]; omega)
      refine ⟨_, rfl, .inl ⟨rfl, _, SqL.of hra7⟩, _, rfl, ra, _, _, rfl, rfl, hra7, by rw [List.length_map]; omega, ?_⟩
      refine ⟨as ++ [ta], _, _, _, rfl, fun b o e n1 => by rw [upd_ne n1]; exact k7 b o e n1, by rw [upd_same, List.map_append]; rfl, ?_, ?_, ?_⟩
      · rw [efm]
        refine Paired.snoc (pairedMem hP7 fun c hc y e => ?_) ?_
        · rw [upd_ne fun z => by rw [z, hra7] at e; cases e]
          exact e
        · rw [upd_ne hta4]
          exact e67
      · rw [etk, List.all_append, hall]
        show (true && ((rdPr n p).isSome && true)) = true
        rw [hsome]; rfl
      · rw [efm, List.map_append]
        refine List.nodup_append.mpr ⟨hnd, by simp, fun a ha b hb e => ?_⟩
        have eb : b = srt x0 := by simpa using hb
        rw [eb] at e
        rcases srt_mem.mp (e ▸ ha) with z | z
        · exact hm z
        · exact hm2 z
  · rintro σ H4 ⟨as, v4, v5, v6, rfl, k4, hra4, hP, hall, hnd⟩
    rw [List.length_map, List.take_length] at hP hall hnd
    refine ⟨_, rfl, q1 _ ?_ ra H4 as hra0 (fun b o e => k4 _ _ (s03 _ _ e) (ne_of_none e hra0)) hra4 hP⟩
    show rdPrT n t = _
    unfold rdPrT
    rw [hall, decide_eq_true hnd]
    rfl

/-! ### _law_alike: what is alike, whatever its depth -/
def spNo : Sp := fun _ _ _ _ => False
def spAl (spR : Sp) : Sp := fun vs H Q _ => (∃ i : Int, vs = [.int i, .int i] ∧ Q (.bl true) H) ∨
  ∃ (p r : Addr) (xs ys : List V), vs = [.ref p, .ref r] ∧ ((H p = some (.lst xs) ∧ H r = some (.lst ys)) ∨ (H p = some (.tup xs) ∧ H r = some (.tup ys))) ∧ xs.length = ys.length ∧ ys.length ≤ 1000 ∧
    (∀ (i : Nat) x y, xs[i]? = some x → ys[i]? = some y → ∀ (Q' : VK) (E' : XK), Q' (.bl true) H → spR [x, y] H Q' E') ∧ Q (.bl true) H
theorem sc__law_alike : FnScope ["_law_found", "_law_due", "_law_k"] ["_law_found", "_law_due"] (defScope s__law_alike) := ⟨rfl, rfl, rfl, by decide +kernel, rfl, by decide +kernel, by decide +kernel⟩
theorem no_ok : FnOk P w K mg base CX0 1 f fd ["_law_found", "_law_due"] spNo := ⟨fun _ _ _ _ h => h.elim, fun _ _ _ _ _ _ _ _ _ _ _ _ _ h => h.elim⟩
theorem ix_any {X : Cx} : IxR X (fun x y H Q => rIxL X.K x y H Q ∨ rIxT X.K x y H Q) := by
  intro value slice pins s σ H x y v u Q I rx ry h hs
  rcases h with h | h
  · exact ix_list value slice pins s σ H x y v u Q I rx ry h hs
  · exact ix_tup value slice pins s σ H x y v u Q I rx ry h hs
theorem kt_list_int : kitTT "list" "int" = some false := by decide +kernel
theorem kt_tuple_int : kitTT "tuple" "int" = some false := by decide +kernel
theorem kt_list_tuple : kitTT "list" "tuple" = some false := by decide +kernel
theorem kt_tuple_list : kitTT "tuple" "list" = some false := by decide +kernel
theorem alike_step {k : Nat} {spR : Sp} (D : Def K mg "_law_alike" s__law_alike ["_law_found", "_law_due"] f fd) (B : Blt mg) (KW : Known P w K mg base 1 "_law_whole" ["_law_thing"] spWholeI) (hk : 1 ≤ k) (KR : Known P w K mg base k "_law_alike" ["_law_found", "_law_due"] spR) : FnOk P w K mg base CX0 (k + 1) f fd ["_law_found", "_law_due"] (spAl spR) := by
  refine D.F.ok sc__law_alike (fun vs H Q E h => ?_) (fun cdv A outer s H vs Q E hr h => ?_)
  · rcases h with ⟨i, rfl, _⟩ | ⟨p, r, xs, ys, rfl, _⟩
    · rfl
    · rfl
  refine ⟨_, pss_cons (ps_if (pt_val (pe_callB call_isinst rfl B.isinstance bt_isinstance (pa_cons (pv 1) (pa_cons (pe_bltn (v := .ty "int") rfl B.int bt_int rfl) pa_nil)))) (pss_one (ps_ret (pe_and (pe_kn KW hr rfl (pa_cons (pv 0) pa_nil) hk) (pe_one (pe_cmpR op_eq (pv 0) (pv 1) (nomark _)))))) pss_nil)
    (pss_cons (ps_if (PW.pt (pw_and (pt_val (pe_callB call_isinst rfl B.isinstance bt_isinstance (pa_cons (pv 1) (pa_cons (pe_bltn (v := .ty "tuple") rfl B.tuple bt_tuple rfl) pa_nil)))) (pw_and1 (pt_not (pt_val (pe_callB call_isinst rfl B.isinstance bt_isinstance (pa_cons (pv 0) (pa_cons (pe_bltn (v := .ty "tuple") rfl B.tuple bt_tuple rfl) pa_nil)))))))) (pss_one (ps_ret pe_bl)) pss_nil)
    (pss_cons (ps_if (PW.pt (pw_and (pt_val (pe_callB call_isinst rfl B.isinstance bt_isinstance (pa_cons (pv 1) (pa_cons (pe_bltn (v := .ty "list") rfl B.list bt_list rfl) pa_nil)))) (pw_and1 (pt_not (pt_val (pe_callB call_isinst rfl B.isinstance bt_isinstance (pa_cons (pv 0) (pa_cons (pe_bltn (v := .ty "list") rfl B.list bt_list rfl) pa_nil)))))))) (pss_one (ps_ret pe_bl)) pss_nil)
    (pss_cons (ps_if (pt_cmpR op_ne (pe_callB call_len_seq rfl B.len bt_len (pa_cons (pv 0) pa_nil)) (pe_callB call_len_seq rfl B.len bt_len (pa_cons (pv 1) pa_nil)) (nomark _)) (pss_one (ps_ret pe_bl)) pss_nil)
    (pss_cons (ps_for PassesOwn.never rfl (pi_range1 rfl B.range (pa_cons (pe_callB call_len_seq rfl B.len bt_len (pa_cons (pv 1) pa_nil)) pa_nil)) (pg_name (i := 2) sc__law_alike.nd rfl (Or.inl rfl))
      (pss_one (ps_if (pt_not (pt_val (pe_kn KR hr rfl (pa_cons (pe_ix ix_any (pv 0) (pv 2) (fun _ _ => rfl)) (pa_cons (pe_ix ix_any (pv 1) (pv 2) (fun _ _ => rfl)) pa_nil)) (Nat.le_refl _)))) (pss_one (ps_ret pe_bl)) pss_nil)))
    (pss_one (ps_ret pe_bl)))))), ?_⟩
  rcases h with ⟨i, rfl, q⟩ | ⟨p, r, xs, ys, rfl, hpr, hl, hle, hel, q⟩
  · refine ⟨_, rfl, _, _, _, _, rfl, TyOf.int i, kit_tt kt_int_int, _, rfl, iteT ?_⟩
    refine ⟨_, rfl, i, rfl, _, rfl, iteT ⟨_, rfl, _, rfl, rfl, ?_⟩⟩
    rw [dec_intD, decide_eq_true rfl]
    exact q
  have hp' : SqL K H p xs ∨ SqT K H p xs := by
    rcases hpr with h | h
    · exact .inl (SqL.of h.1)
    · exact .inr (SqT.of h.1)
  have hr' : SqL K H r ys ∨ SqT K H r ys := by
    rcases hpr with h | h
    · exact .inl (SqL.of h.2)
    · exact .inr (SqT.of h.2)
  have at' : ∀ {a : Addr} {zs : List V} {i : Nat} {z : V} {Q' : VK}, (SqL K H a zs ∨ SqT K H a zs) → zs[i]? = some z → Q' z H → rIxL K (.ref a) (.int (i : Int)) H Q' ∨ rIxT K (.ref a) (.int (i : Int)) H Q' := fun {a zs i z Q'} h hz q' => by
    rcases h with h | h
    · exact .inl ⟨a, zs, _, z, rfl, rfl, h, atI_nat hz, q'⟩
    · exact .inr ⟨a, zs, _, z, rfl, rfl, h, atI_nat hz, q'⟩
  rcases hpr with ⟨h1, h2⟩ | ⟨h1, h2⟩
  refine ⟨_, rfl, _, _, _, _, rfl, TyOf.lst h2, kit_tt kt_list_int, _, rfl, iteF ?_⟩
  refine ⟨_, rfl, _, _, _, _, rfl, TyOf.lst h2, kit_tt kt_list_tuple, _, rfl, iteF ?_⟩
  refine ⟨_, rfl, _, _, _, _, rfl, TyOf.lst h2, kit_tt kt_list_list, _, rfl, iteT ⟨_, rfl, _, _, _, _, rfl, TyOf.lst h1, kit_tt kt_list_list, _, rfl, iteF ?_⟩⟩
  rotate_left
  refine ⟨_, rfl, _, _, _, _, rfl, TyOf.tup h2, kit_tt kt_tuple_int, _, rfl, iteF ?_⟩
  refine ⟨_, rfl, _, _, _, _, rfl, TyOf.tup h2, kit_tt kt_tuple_tuple, _, rfl, iteT ⟨_, rfl, _, _, _, _, rfl, TyOf.tup h1, kit_tt kt_tuple_tuple, _, rfl, iteF ?_⟩⟩
  refine ⟨_, rfl, _, _, _, _, rfl, TyOf.tup h2, kit_tt kt_tuple_list, _, rfl, iteF ?_⟩
  all_goals
    refine ⟨_, rfl, p, _, rfl, hp', _, rfl, r, _, rfl, hr', rfl, _, rfl, ?_⟩
    show if (!decide (V.int ((xs.length : Nat) : Int) = V.int ((ys.length : Nat) : Int))) = true then _ else _
    rw [hl, decide_eq_true rfl]
    refine iteF ?_
    refine ⟨_, rfl, r, _, rfl, hr', _, rfl, (by omega), (by omega), for_range (n := ((ys.length : Nat) : Int).toNat) (fun i σ H3 => ∃ v2, σ = [some (.ref p), some (.ref r), v2] ∧ H3 = H) ⟨none, rfl, rfl⟩ ?_ ?_⟩
    · rintro i σ H3 hi ⟨v2, rfl, rfl⟩
      rw [Int.toNat_natCast] at hi
      have e0 : (0 : Int) + (i : Int) = ((i : Nat) : Int) := by omega
      rw [e0]
      obtain ⟨x, hx⟩ : ∃ x, xs[i]? = some x := ⟨_, List.getElem?_eq_getElem (by omega)⟩
      obtain ⟨y, hy⟩ : ∃ y, ys[i]? = some y := ⟨_, List.getElem?_eq_getElem (by omega)⟩
      refine ⟨_, rfl, _, rfl, at' hp' hx ⟨_, rfl, _, rfl, at' hr' hy ?_⟩⟩
      refine hel i x y hx hy _ _ ⟨_, rfl, iteF ⟨_, rfl, rfl⟩⟩
    · rintro σ H3 ⟨v2, rfl, rfl⟩
      exact q
theorem ok__law_alike (D : Def K mg "_law_alike" s__law_alike ["_law_found", "_law_due"] f fd) (B : Blt mg) (KW : Known P w K mg base 1 "_law_whole" ["_law_thing"] spWholeI) : FnOk P w K mg base CX0 4 f fd ["_law_found", "_law_due"] (spAl (spAl (spAl spNo))) :=
  alike_step D B KW (by decide) (D.known (alike_step D B KW (by decide) (D.known (alike_step D B KW (by decide) (D.known no_ok)))))
theorem al_row {spR : Sp} {H : Hp} {Q : VK} {E : XK} {p r : Addr} {l : List Nat} (h1 : H p = some (.lst (tI l))) (h2 : H r = some (.lst (tI l))) (hl : l.length ≤ 1000) (q : Q (.bl true) H) : spAl (spAl spR) [.ref p, .ref r] H Q E := by
  refine .inr ⟨p, r, _, _, rfl, .inl ⟨h1, h2⟩, rfl, by rw [tI_length]; exact hl, fun i x y hx hy Q' E' q' => ?_, q⟩
  rw [hx] at hy
  cases hy
  obtain ⟨z, hz, rfl⟩ : ∃ z : Nat, l[i]? = some z ∧ x = .int (z : Int) := by
    unfold tI at hx
    rw [List.getElem?_map] at hx
    cases e : l[i]? with
    | none => rw [e] at hx; cases hx
    | some z => rw [e] at hx; exact ⟨z, rfl, (Option.some.inj hx).symm⟩
  exact .inl ⟨_, rfl, q'⟩
theorem al_pairs {spR : Sp} {H : Hp} {Q : VK} {E : XK} {p r : Addr} {as bs : List Addr} {ps : List (Nat × Nat)} (h1 : H p = some (.lst (as.map V.ref))) (h2 : H r = some (.lst (bs.map V.ref))) (ha : PrAt H as ps) (hb : PrAt H bs ps) (hl : ps.length ≤ 1000) (q : Q (.bl true) H) : spAl (spAl (spAl spR)) [.ref p, .ref r] H Q E := by
  refine .inr ⟨p, r, _, _, rfl, .inl ⟨h1, h2⟩, by rw [List.length_map, List.length_map, ha.len, hb.len], by rw [List.length_map, hb.len]; exact hl, fun i x y hx hy Q' E' q' => ?_, q⟩
  rw [List.getElem?_map] at hx hy
  cases ea : as[i]? with
  | none => rw [ea] at hx; cases hx
  | some a =>
    cases eb : bs[i]? with
    | none => rw [eb] at hy; cases hy
    | some b =>
      rw [ea] at hx
      rw [eb] at hy
      cases hx
      cases hy
      obtain ⟨z, hz, e1⟩ := paired_get ha i a ea
      obtain ⟨z', hz', e2⟩ := paired_get hb i b eb
      rw [hz] at hz'
      cases hz'
      refine .inr ⟨a, b, _, _, rfl, .inr ⟨e1, e2⟩, rfl, by show 2 ≤ 1000; decide, fun j u v hu hv Q2 E2 q2 => ?_, q'⟩
      rw [hu] at hv
      cases hv
      match j, hu with
      | 0, hu => cases hu; exact .inl ⟨_, rfl, q2⟩
      | 1, hu => cases hu; exact .inl ⟨_, rfl, q2⟩

/-! ### _law_asked -/
def spAsked14 : Sp := fun vs H Q _ => ∃ (k : Nat) (x : V) (d : PyData) (n : Nat), vs = [.int (k : Int), x, .int (n : Int)] ∧ k < 3 ∧ Dt H x d ∧ TxA 900 d ∧ (k = 2 → TxA 300 d) ∧ n ≤ 60 ∧ ∀ H' : Hp, Same H H' → Q (.bl true) H'
theorem sc__law_asked : FnScope ["_law_which", "_law_text", "_law_many", "_law_error", "_law_found", "e", "_law_due"] ["_law_which", "_law_text", "_law_many"] (defScope s__law_asked) := ⟨rfl, rfl, rfl, by decide +kernel, rfl, by decide +kernel, by decide +kernel⟩
theorem len_pls {n : Nat} {d : PyData} {l : List Nat} (ht : TxA 900 d) (h : rdPls n d = some l) : l.length ≤ 1000 := by
  cases d with
  | str t =>
    have h' : rdPt n sC t = some l := h
    unfold rdPt at h'
    split at h'
    · have e := Option.some.inj h'
      have h1 := (split_len t sC).2
      have h2 := (ht t rfl).1
      rw [← e, List.length_map]
      omega
    · cases h'
  | _ => cases h
theorem len_prs {n : Nat} {d : PyData} {ps : List (Nat × Nat)} (ht : TxA 900 d) (h : rdPrs n d = some ps) : ps.length ≤ 1000 := by
  cases d with
  | str t =>
    have h' : rdPrT n t = some ps := h
    unfold rdPrT at h'
    split at h'
    · have e := Option.some.inj h'
      have h1 := (split_len t sC).2
      have h2 := (ht t rfl).1
      rw [← e]
      exact Nat.le_trans (List.length_filterMap_le _ _) (by omega)
    · cases h'
  | _ => cases h
theorem ok__law_asked (D : Def K mg "_law_asked" s__law_asked ["_law_which", "_law_text", "_law_many"] f fd) (B : Blt mg) {TE C : Addr} (KN : KnownX P w K mg base 2 "read_number" ["text"] (spNumberT C)) (KP : KnownX P w K mg base 4 "read_places" ["text", "many"] (spPlacesT C)) (KQ : KnownX P w K mg base 5 "read_pairs" ["text", "many"] (spPairsT C))
    (DN : Known P w K mg base 1 "_law_due_number" ["_law_text"] spDueNum14) (DP : Known P w K mg base 2 "_law_due_places" ["_law_text", "_law_many"] spDuePls14) (DQ : Known P w K mg base 2 "_law_due_pairs" ["_law_text", "_law_many"] spDuePrs14) (KA : Known P w K mg base 4 "_law_alike" ["_law_found", "_law_due"] (spAl (spAl (spAl spNo))))
    (ET : ErrTop K mg TE) (EA : ErrAt K mg TE "NoText" C) : FnOk P w K mg base CX0 6 f fd ["_law_which", "_law_text", "_law_many"] spAsked14 := by
  refine D.F.ok sc__law_asked (fun vs H Q E h => ?_) (fun cdv A outer s H vs Q E hr h => ?_)
  · obtain ⟨k, x, d, n, rfl, _⟩ := h
    rfl
  obtain ⟨k, x, d, n, rfl, hk, hd, ht, ht3, hn, q⟩ := h
  have hn2 : n ≤ 100 := by omega
  refine ⟨_, pss_cons (ps_set (i := 3) sc__law_asked.nd rfl (Or.inl rfl) pe_non)
    (pss_cons (ps_set (i := 4) sc__law_asked.nd rfl (Or.inl rfl) pe_non)
    (pss_cons (ps_tryQ (qss_cons (qs_if (pt_cmpR op_eq (pv 0) pe_int (nomark _)) (qss_cons (qs_set (i := 4) KN hr rfl (pa_cons (pv 1) pa_nil) sc__law_asked.nd rfl (Or.inl rfl)) qss_nil) qss_nil)
          (qss_cons (qs_if (pt_cmpR op_eq (pv 0) pe_int (nomark _)) (qss_cons (qs_set (i := 4) KP hr rfl (pa_cons (pv 1) (pa_cons (pv 2) pa_nil)) sc__law_asked.nd rfl (Or.inl rfl)) qss_nil) qss_nil)
          (qss_cons (qs_if (pt_cmpR op_eq (pv 0) pe_int (nomark _)) (qss_cons (qs_set (i := 4) KQ hr rfl (pa_cons (pv 1) (pa_cons (pv 2) pa_nil)) sc__law_asked.nd rfl (Or.inl rfl)) qss_nil) qss_nil) qss_nil)))
        (ph_as (i := 5) EA.c ET.c (by simp) rfl ET.m sc__law_asked.nd rfl rfl (fun ea => pss_one (ps_set (i := 3) sc__law_asked.nd rfl (Or.inl rfl) (pv 5)))) rfl rfl)
    (pss_cons (ps_set (i := 6) sc__law_asked.nd rfl (Or.inl rfl) (pe_kn DN hr rfl (pa_cons (pv 1) pa_nil)))
    (pss_cons (ps_if (pt_cmpR op_eq (pv 0) pe_int (nomark _)) (pss_one (ps_set (i := 6) sc__law_asked.nd rfl (Or.inl rfl) (pe_kn DP hr rfl (pa_cons (pv 1) (pa_cons (pv 2) pa_nil))))) pss_nil)
    (pss_cons (ps_if (pt_cmpR op_eq (pv 0) pe_int (nomark _)) (pss_one (ps_set (i := 6) sc__law_asked.nd rfl (Or.inl rfl) (pe_kn DQ hr rfl (pa_cons (pv 1) (pa_cons (pv 2) pa_nil))))) pss_nil)
    (pss_cons (ps_if (pt_cmp (pc_isN (pv 6))) (pss_one (ps_ret (pe_callB call_isinstX rfl B.isinstance bt_isinstance (pa_cons (pv 3) (pa_cons (pe_glob (v := .ref C) rfl EA.m rfl) pa_nil))))) pss_nil)
    (pss_one (ps_ret (pe_and (pe_cmp (pc_isN (pv 3))) (pe_one (pe_kn KA hr rfl (pa_cons (pv 4) (pa_cons (pv 6) pa_nil))))))))))))), ?_⟩
  have hcc : PySem.W.isIn K (.ref C) C = true := by unfold PySem.W.isIn; simp
  rcases show k = 0 ∨ k = 1 ∨ k = 2 by omega with rfl | rfl | rfl
  · -- a number
    refine ⟨fun σ' C' a' H' => σ' = [some (.int 0), some x, some (.int (n : Int)), some .non, some .non, none, none] ∧ C' = .ref C ∧ Same H H' ∧ rdNum d = none, ⟨_, rfl, rfl, _, rfl, iteT ⟨_, rfl, x, d, rfl, hd, ht, fun v hv H1 s1 => ?_, fun no H1 s1 => ⟨rfl, rfl, s1, no⟩⟩⟩, ?_⟩
    · refine ⟨_, rfl, rfl, _, rfl, iteF ⟨_, rfl, rfl, _, rfl, iteF ?_⟩⟩
      refine ⟨_, rfl, x, d, rfl, hd.same s1, ht, fun v' hv' H2 s2 => ?_, fun no H2 s2 => ?_⟩
      · rw [hv] at hv'
        cases hv'
        refine ⟨_, rfl, rfl, _, rfl, iteF ⟨_, rfl, rfl, _, rfl, iteF ⟨_, rfl, _, rfl, iteF ?_⟩⟩⟩
        exact ⟨_, rfl, _, rfl, iteT ⟨_, rfl, _, rfl, .inl ⟨_, rfl, q H2 (s1.trans s2)⟩⟩⟩
      · rw [hv] at no
        cases no
    · rintro σ' ea C' H' ⟨rfl, eC, s', no⟩ hne
      cases eC
      refine ⟨rfl, _, rfl, ?_⟩
      have s2 := same_upd s' (s'.free hne) (ExcO ea C)
      have e2 : (upd H' ea (ExcO ea C)) ea = some (ExcO ea C) := upd_same
      generalize upd H' ea (ExcO ea C) = H2 at s2 e2 ⊢
      refine ⟨_, rfl, x, d, rfl, hd.same s2, ht, fun v hv => (by rw [no] at hv; cases hv), fun _ H3 s3 => ?_⟩
      refine ⟨_, rfl, rfl, _, rfl, iteF ⟨_, rfl, rfl, _, rfl, iteF ⟨_, rfl, _, rfl, iteT ?_⟩⟩⟩
      exact ⟨_, rfl, ea, C, C, rfl, s3 _ _ e2, hcc, q H3 (s2.trans s3)⟩
  · -- places
    refine ⟨fun σ' C' a' H' => σ' = [some (.int 1), some x, some (.int (n : Int)), some .non, some .non, none, none] ∧ C' = .ref C ∧ Same H H' ∧ rdPls n d = none, ⟨_, rfl, rfl, _, rfl, iteF ⟨_, rfl, rfl, _, rfl, iteT ⟨_, rfl, _, rfl, x, d, n, rfl, hd, ht, fun l hl r H1 hr1 s1 hrr => ?_, fun no H1 s1 => ⟨rfl, rfl, s1, no⟩⟩⟩⟩, ?_⟩
    · refine ⟨_, rfl, rfl, _, rfl, iteF ?_⟩
      refine ⟨_, rfl, x, d, rfl, hd.same s1, ht, fun _ _ H2 s2 => ?_, fun _ H2 s2 => ?_⟩
      all_goals
        refine ⟨_, rfl, rfl, _, rfl, iteT ⟨_, rfl, _, rfl, x, d, n, rfl, hd.same (s1.trans s2), ht, hn2, fun l' hl' r2 H3 hr3 s3 hrr3 => ?_, fun no H3 s3 => ?_⟩⟩
        · rw [hl] at hl'
          cases hl'
          refine ⟨_, rfl, rfl, _, rfl, iteF ⟨_, rfl, _, rfl, iteF ?_⟩⟩
          exact ⟨_, rfl, _, rfl, iteT ⟨_, rfl, _, rfl, al_row (E := E0) (s3 _ _ (s2 _ _ hrr)) hrr3 (len_pls ht hl) (q H3 (s1.trans (s2.trans s3)))⟩⟩
        · rw [hl] at no
          cases no
    · rintro σ' ea C' H' ⟨rfl, eC, s', no⟩ hne
      cases eC
      refine ⟨rfl, _, rfl, ?_⟩
      have s2 := same_upd s' (s'.free hne) (ExcO ea C)
      have e2 : (upd H' ea (ExcO ea C)) ea = some (ExcO ea C) := upd_same
      generalize upd H' ea (ExcO ea C) = H2 at s2 e2 ⊢
      refine ⟨_, rfl, x, d, rfl, hd.same s2, ht, fun _ _ H3 s3 => ?_, fun _ H3 s3 => ?_⟩
      all_goals
        refine ⟨_, rfl, rfl, _, rfl, iteT ⟨_, rfl, _, rfl, x, d, n, rfl, hd.same (s2.trans s3), ht, hn2, fun l hl => (by rw [no] at hl; cases hl), fun _ H4 s4 => ?_⟩⟩
        refine ⟨_, rfl, rfl, _, rfl, iteF ⟨_, rfl, _, rfl, iteT ?_⟩⟩
        exact ⟨_, rfl, ea, C, C, rfl, s4 _ _ (s3 _ _ e2), hcc, q H4 (s2.trans (s3.trans s4))⟩
  · -- pairs
    refine ⟨fun σ' C' a' H' => σ' = [some (.int 2), some x, some (.int (n : Int)), some .non, some .non, none, none] ∧ C' = .ref C ∧ Same H H' ∧ rdPrs n d = none, ⟨_, rfl, rfl, _, rfl, iteF ⟨_, rfl, rfl, _, rfl, iteF ⟨_, rfl, rfl, _, rfl, iteT ⟨_, rfl, _, rfl, x, d, n, rfl, hd, ht3 rfl, fun l hl r H1 as hr1 s1 hrr hP => ?_, fun no H1 s1 => ⟨rfl, rfl, s1, no⟩⟩⟩⟩⟩, ?_⟩
    · refine ⟨_, rfl, x, d, rfl, hd.same s1, ht, fun _ _ H2 s2 => ?_, fun _ H2 s2 => ?_⟩
      all_goals
        refine ⟨_, rfl, rfl, _, rfl, iteF ⟨_, rfl, rfl, _, rfl, iteT ⟨_, rfl, _, rfl, x, d, n, rfl, hd.same (s1.trans s2), ht, hn2, fun l' hl' r2 H3 bs hr3 s3 hrr3 hP3 => ?_, fun no H3 s3 => ?_⟩⟩⟩
        · rw [hl] at hl'
          cases hl'
          refine ⟨_, rfl, _, rfl, iteF ?_⟩
          exact ⟨_, rfl, _, rfl, iteT ⟨_, rfl, _, rfl, al_pairs (E := E0) (s3 _ _ (s2 _ _ hrr)) hrr3 (hP.same (s2.trans s3)) hP3 (len_prs ht hl) (q H3 (s1.trans (s2.trans s3)))⟩⟩
        · rw [hl] at no
          cases no
    · rintro σ' ea C' H' ⟨rfl, eC, s', no⟩ hne
      cases eC
      refine ⟨rfl, _, rfl, ?_⟩
      have s2 := same_upd s' (s'.free hne) (ExcO ea C)
      have e2 : (upd H' ea (ExcO ea C)) ea = some (ExcO ea C) := upd_same
      generalize upd H' ea (ExcO ea C) = H2 at s2 e2 ⊢
      refine ⟨_, rfl, x, d, rfl, hd.same s2, ht, fun _ _ H3 s3 => ?_, fun _ H3 s3 => ?_⟩
      all_goals
        refine ⟨_, rfl, rfl, _, rfl, iteF ⟨_, rfl, rfl, _, rfl, iteT ⟨_, rfl, _, rfl, x, d, n, rfl, hd.same (s2.trans s3), ht, hn2, fun l hl => (by rw [no] at hl; cases hl), fun _ H4 s4 => ?_⟩⟩⟩
        refine ⟨_, rfl, _, rfl, iteT ?_⟩
        exact ⟨_, rfl, ea, C, C, rfl, s4 _ _ (s3 _ _ e2), hcc, q H4 (s2.trans (s3.trans s4))⟩

/-! ### the law -/
theorem sc_law : FnScope ["_law_script", "_law_many", "_law_cell", "_law_number", "_law_figures", "_law_row", "_law_places", "_law_pairs", "_law_text", "_law_which"] ["_law_script"] (defScope s_law) := ⟨rfl, rfl, rfl, by decide +kernel, rfl, by decide +kernel, by decide +kernel⟩
def tx14 : List PyData := [.str "", .str ",", .str "0", .str "00", .str "-1", .str "0-0", .str "0-1,1-0", .str "1,0", .str "0,0", .str " 0", .str "0-1", .str "0-1-0"]
def ascB : PyData → Bool
  | .str z => decide (z.length ≤ 300) && z.cps.toList.all fun c => decide (c < 128)
  | _ => false
theorem ascB_of {d : PyData} (h : ascB d = true) : TxA 300 d := by
  cases d with
  | str z =>
    have h' : (decide (z.length ≤ 300) && z.cps.toList.all fun c => decide (c < 128)) = true := h
    rw [Bool.and_eq_true] at h'
    intro t e
    cases e
    exact ⟨of_decide_eq_true h'.1, fun c hc => of_decide_eq_true (List.all_eq_true.mp h'.2 c hc)⟩
  | _ => cases h
theorem tx14_all : (tx14.all ascB) = true := by decide +kernel
theorem TxA.mono {m m' : Nat} {d : PyData} (h : TxA m d) (hm : m ≤ m') : TxA m' d := fun t e => (h t e).mono hm
theorem asc_great {g : Nat} (h : g < 10 ^ 91) : Asc 91 (nS g) := by
  have h1 := nS_figsOk (m := g) (most := 91) h (by decide)
  unfold figsOk at h1
  rw [Bool.and_eq_true, Bool.and_eq_true, Bool.and_eq_true, decide_eq_true_eq, decide_eq_true_eq] at h1
  refine ⟨h1.1.2, fun c hc => ?_⟩
  have := isFig_iff.mp (List.all_eq_true.mp h1.2.1 c hc)
  omega
theorem great_log {g : Nat} (h : g < 10 ^ 91) : ((g : Nat) : Int).natAbs.log2 < 1920 := by
  rw [Int.natAbs_natCast]
  rcases Nat.eq_zero_or_pos g with z | z
  · rw [z]; decide
  · exact (Nat.log2_lt (by omega)).mpr (Nat.lt_of_lt_of_le h (Nat.le_of_lt (by decide +kernel)))
theorem bits_add {c : Int} {d : Int} (hc : c.natAbs < 2 ^ (2 ^ 20 + 3)) (hd : d.natAbs < 2 ^ (2 ^ 20 + 3)) : (c + d).natAbs < 2 ^ (2 ^ 20 + 4) := by
  have h1 : (2 : Nat) ^ (2 ^ 20 + 4) = 2 ^ (2 ^ 20 + 3) + 2 ^ (2 ^ 20 + 3) := by rw [show 2 ^ 20 + 4 = 2 ^ 20 + 3 + 1 by rfl, Nat.pow_succ]; omega
  have h2 := Int.natAbs_add_le c d
  omega
theorem cut_tI {l : List Nat} {lo hi : Option Int} : ∃ l' : List Nat, cutV (tI l) lo hi = tI l' ∧ l'.length ≤ l.length ∧ ∀ x ∈ l', x ∈ l := by
  refine ⟨(l.drop (HT.sIx (tI l).length 0 lo)).take (HT.sIx (tI l).length (tI l).length hi - HT.sIx (tI l).length 0 lo), ?_, ?_, fun x hx => List.mem_of_mem_drop (List.mem_of_mem_take hx)⟩
  · unfold cutV tI
    rw [List.map_take, List.map_drop]
  · rw [List.length_take, List.length_drop]
    omega
theorem nS_get {l : List Nat} {i x : Nat} (h : l[i]? = some x) : ((l.map nS).map V.str)[i]? = some (V.str (nS x)) := by
  rw [List.getElem?_map, List.getElem?_map, h]
  rfl
section
variable {X : Cx} {tg it : Expr} {body : List Stmt} {g : TG} {tb : TS} {pos : Pos}
theorem ds_forI {wi : TI} (hp : PassesOwn (model X.prog X.w) X.A X.env X.xe) (hc : X.calm = true) (hi : PI X tg it wi) (hg : PG X tg g) (hb : DSs X body tb) (hs : ∀ x, foldedSetIterable it X.env x = pure x := by intro _; rfl) : DS X (.For tg it body [] pos) (tFor wi g tb) := ⟨ps_for hp hc hi hg hb.h hs⟩
theorem ds_forL {tl : TE} (hp : PassesOwn (model X.prog X.w) X.A X.env X.xe) (hc : X.calm = true) (hl : DE X it tl) (hg : PG X tg g) (hb : DSs X body tb) (hs : ∀ x, foldedSetIterable it X.env x = pure x := by intro _; rfl) : DS X (.For tg it body [] pos) (tFor (iList X.K tl) g tb) := ⟨ps_for hp hc (pi_list hl.h) hg hb.h hs⟩
end
theorem ok_law (D : Def K mg "law" s_law ["_law_script"] f fd) (B : Blt mg) (KC : Known P w K mg base 1 "_law_cell_at" ["_law_script", "_law_k"] (spCellAt K)) (KG : Known P w K mg base 1 "_law_great" ["_law_cell"] spGreat14) (KF : Known P w K mg base 1 "_law_free" ["_law_number", "_law_many"] spFree) (KS : Known P w K mg base 1 "_law_spoiled" ["_law_text", "_law_number"] spSpoiled14)
    (KB : Known P w K mg base 1 "_law_pairs_by" ["_law_number", "_law_many"] spPairsBy14) (KA : Known P w K mg base 6 "_law_asked" ["_law_which", "_law_text", "_law_many"] spAsked14) : FnOk P w K mg base CX0 8 f fd ["_law_script"] (spLaw K) := by
  refine D.F.ok sc_law (fun vs H Q E h => ?_) (fun cdv A outer s H vs Q E hr h => ?_)
  · obtain ⟨a, ns, rfl, _⟩ := h
    rfl
  obtain ⟨a, ns, rfl, hS, h63, hbits, q⟩ := h
  have hz := sizeLine_big
  refine ⟨_, @DSs.h _ _ _ (dss_cons ⟨ps_set (i := 1) sc_law.nd rfl (Or.inl rfl) (pe_op op_add pe_int (pe_op op_mod (pe_kn KC hr rfl (pa_cons (pv 0) (pa_cons pe_int pa_nil))) pe_int))⟩
    (dss_cons (ds_forI PassesOwn.never rfl (pi_list (pv 0)) (pg_name (i := 2) sc_law.nd rfl (Or.inl rfl))
      (dss_cons ⟨ps_set (i := 3) sc_law.nd rfl (Or.inl rfl) (pe_kn KG hr rfl (pa_cons (pv 2) pa_nil))⟩
      (dss_cons ⟨ps_set (i := 4) sc_law.nd rfl (Or.inl rfl) (pe_callTy call_str_int rfl B.str bt_str (pa_cons (pv 3) pa_nil))⟩
      (dss_cons ⟨ps_set (i := 4) sc_law.nd rfl (Or.inl rfl) (pe_slice sl_str (pv 4) po_none (po_some (pe_op op_add pe_int (pe_op op_mod (pe_op op_fdiv (pv 3) pe_int) pe_int))))⟩
      (dss_cons ⟨ps_set (i := 5) sc_law.nd rfl (Or.inl rfl) (pe_slice sl_list (pe_kn KF hr rfl (pa_cons (pe_op op_fdiv (pv 3) pe_int) (pa_cons (pv 1) pa_nil))) po_none (po_some (pe_op op_add pe_int (pe_op op_mod (pv 3) (pv 1)))))⟩
      (dss_cons ⟨ps_set (i := 6) sc_law.nd rfl (Or.inl rfl) (pe_bm PySem.F.plainAttrs_str PySem.F.slot_str_join PySem.F.type_str_join mt_join pe_str (pa_cons (pe_comp1 [] ["_law_place"] rfl (pi_list (pv 5)) (fun _ _ _ _ => pe_callTy call_str_int rfl B.str bt_str (pa_cons (pv 0) pa_nil))) pa_nil))⟩
      (dss_cons ⟨ps_if (pt_not (pt_val (pe_kn KA hr rfl (pa_cons pe_int (pa_cons (pe_kn KS hr rfl (pa_cons (pv 4) (pa_cons (pe_kn KG hr rfl (pa_cons (pe_op op_add (pv 2) pe_int) pa_nil)) pa_nil))) (pa_cons (pv 1) pa_nil)))))) (pss_one (ps_ret pe_bl)) pss_nil⟩
      (dss_cons ⟨ps_if (pt_not (pt_val (pe_kn KA hr rfl (pa_cons pe_int (pa_cons (pe_kn KS hr rfl (pa_cons (pv 6) (pa_cons (pe_kn KG hr rfl (pa_cons (pe_op op_add (pv 2) pe_int) pa_nil)) pa_nil))) (pa_cons (pv 1) pa_nil)))))) (pss_one (ps_ret pe_bl)) pss_nil⟩
      (dss_one (ds_if (pt_cmpR op_gt (pv 1) pe_int (nomark _)) (dss_cons ⟨ps_set (i := 7) sc_law.nd rfl (Or.inl rfl) (pe_kn KB hr rfl (pa_cons (pv 3) (pa_cons (pv 1) pa_nil)))⟩
        (dss_one ⟨ps_if (pt_not (pt_val (pe_kn KA hr rfl (pa_cons pe_int (pa_cons (pe_kn KS hr rfl (pa_cons (pv 7) (pa_cons (pe_kn KG hr rfl (pa_cons (pe_op op_add (pv 2) pe_int) pa_nil)) pa_nil))) (pa_cons (pv 1) pa_nil)))))) (pss_one (ps_ret pe_bl)) pss_nil⟩)) dss_nil))))))))))
    (dss_cons (ds_forL PassesOwn.never rfl (pd_lst (C := CTrue) (ds := tx14) (pds_cons hCTrue pd_str (pds_cons hCTrue pd_str (pds_cons hCTrue pd_str (pds_cons hCTrue pd_str (pds_cons hCTrue pd_str (pds_cons hCTrue pd_str (pds_cons hCTrue pd_str (pds_cons hCTrue pd_str (pds_cons hCTrue pd_str (pds_cons hCTrue pd_str (pds_cons hCTrue pd_str (pds_cons hCTrue pd_str pds_nil)))))))))))) len_ok) (pg_name (i := 8) sc_law.nd rfl (Or.inl rfl))
      (dss_one (ds_forI PassesOwn.never rfl (pi_range1 rfl B.range (pa_cons pe_int pa_nil)) (pg_name (i := 9) sc_law.nd rfl (Or.inl rfl))
        (dss_one ⟨ps_if (PW.pt (pw_or (pt_not (pt_val (pe_kn KA hr rfl (pa_cons (pv 9) (pa_cons (pv 8) (pa_cons (pv 1) pa_nil)))))) (pw_or1 (pt_not (pt_val (pe_kn KA hr rfl (pa_cons (pv 9) (pa_cons (pv 8) (pa_cons pe_int pa_nil))))))))) (pss_one (ps_ret pe_bl)) pss_nil⟩))))
    (dss_one ⟨ps_ret pe_bl⟩)))), ?_⟩
  refine ⟨_, rfl, a, ns, 0, rfl, hS, _, _, rfl, rfl, (by show (0 : Int) < 60; decide), _, _, rfl, rfl, ?_⟩
  obtain ⟨n, en, hn1, hn⟩ := many_of (ns.getD 0 0)
  dsimp only
  rw [en]
  have bits : ∀ z ∈ ns, z.natAbs < 2 ^ (2 ^ 20 + 3) := fun z hz => bits_mono (lt_bits z) (Nat.le_trans (hbits z hz) (by decide))
  have bits1 : ∀ z ∈ ns, ∀ d : Int, d.natAbs < 2 ^ 4 → (z + d).natAbs < 2 ^ (2 ^ 20 + 4) := fun z hz d hd => bits_add (bits z hz) (Nat.lt_of_lt_of_le hd (Nat.pow_le_pow_right (by decide) (by decide)))
  refine ⟨_, rfl, a, rfl, ⟨_, hS⟩, for_list (K := K) (a := a) (xs := ns.map V.int) (fun i σ H2 => ∃ v2 v3 v4 v5 v6 v7 : Option V, σ = [some (.ref a), some (.int (n : Int)), v2, v3, v4, v5, v6, v7, none, none] ∧ Same H H2) ⟨none, none, none, none, none, none, rfl, Same.refl _⟩ (fun i σ H2 _ ⟨_, _, _, _, _, _, _, s2⟩ => s2.seq hS) ?_ ?_⟩
  · rintro i y σ H2 hi ⟨v2, v3, v4, v5, v6, v7, rfl, s2⟩
    obtain ⟨z, hz', rfl⟩ := cell_of hi
    refine ⟨_, rfl, z, rfl, Nat.lt_of_lt_of_le (bits z hz') (Nat.pow_le_pow_right (by decide) (Nat.le_succ _)), fun g hg => ?_⟩
    refine ⟨_, rfl, _, rfl, great_log hg, ?_⟩
    have hA := asc_great hg
    have hAl := hA.1
    refine ⟨_, rfl, _, rfl, _, _, rfl, rfl, ⟨by decide, by decide⟩, _, _, rfl, rfl, (by show (0 : Int) < 110; decide), _, _, rfl, rfl, _, rfl, nS g, rfl, by omega, ?_⟩
    dsimp only
    generalize hfg : Txt.slice (nS g) none _ = fg
    have hF : Asc 91 fg := by rw [← hfg]; exact hA.slice _ _
    refine ⟨_, rfl, _, _, rfl, rfl, ⟨by decide, by decide⟩, _, rfl, _, n, rfl, by omega, fun fr H3 row hfr s3 hT hfrr => ?_⟩
    refine ⟨_, rfl, _, rfl, _, _, rfl, rfl, (by omega), _, _, rfl, rfl, _, rfl, fr, _, rfl, SqL.of hfrr, fun rr hrr => ?_⟩
    obtain ⟨l, el, hll, hlm⟩ := cut_tI (l := row) (lo := none) (hi := some ((1 : Int) + (g : Int) % (n : Int)))
    have hrow := hT.length
    have hlt : ∀ x ∈ l, x < 100 := fun x hx => by have := hT.lt (hlm x hx); omega
    have s4 := same_new hrr (.lst (tI l))
    have e4 : (upd H3 rr (.lst (tI l))) rr = some (.lst (tI l)) := upd_same
    rw [show cutV (tI row) none (some ((1 : Int) + (g : Int) % (n : Int))) = tI l from el]
    generalize upd H3 rr (.lst (tI l)) = H4 at s4 e4 ⊢
    refine ⟨rfl, _, rfl, rr, rfl, ⟨_, SqL.of e4⟩, comp_list (SqL.of e4) ((l.map nS).map V.str) (by rw [List.length_map, List.length_map, tI_length]) (by rw [tI_length]; omega) ?_ ?_⟩
    · intro i' H5 x hx s5 _ _ _ _
      obtain ⟨u, hu, rfl⟩ : ∃ u : Nat, l[i']? = some u ∧ x = .int (u : Int) := by
        unfold tI at hx
        rw [List.getElem?_map] at hx
        cases e : l[i']? with
        | none => rw [e] at hx; cases hx
        | some u => rw [e] at hx; exact ⟨u, rfl, (Option.some.inj hx).symm⟩
      exact ⟨_, rfl, _, rfl, nS_log (hlt u (List.mem_of_getElem? hu)), Same.refl _, nS_get hu⟩
    intro jo H5 _ s5 hjo
    have hsum := sum_len_le (b := 2) (l.map nS) (nS_all hlt)
    rw [List.length_map] at hsum
    refine ⟨sC, jo, l.map nS, rfl, rfl, SqL.of hjo, by rw [List.length_map, show sC.length = 1 by decide]; omega, ?_⟩
    have hPl : Asc 180 (Str.join sC (l.map nS)) := (asc_join fun y hy => by
      obtain ⟨x, hx, rfl⟩ := List.mem_map.mp hy
      exact asc_nS (hlt x hx)).mono (by rw [List.length_map]; omega)
    generalize Str.join sC (l.map nS) = pt at hPl ⊢
    have S5 : Same H H5 := s2.trans (s3.trans (s4.trans s5))
    -- a number
    refine ⟨_, rfl, _, rfl, _, _, rfl, rfl, z + 1, rfl, bits1 z hz' 1 (by decide), fun g1 _ => ?_⟩
    refine ⟨fg, _, 91, rfl, hF, by decide, fun x1 d1 H6 s6 hx1 ht1 => ?_⟩
    refine ⟨_, rfl, 0, x1, d1, n, rfl, by decide, hx1, ht1.mono (by decide), fun z0 => (by cases z0), hn, fun H7 s7 => ⟨_, rfl, iteF ?_⟩⟩
    -- places
    refine ⟨_, rfl, _, rfl, _, _, rfl, rfl, z + 2, rfl, bits1 z hz' 2 (by decide), fun g2 _ => ?_⟩
    refine ⟨pt, _, 180, rfl, hPl, by decide, fun x2 d2 H8 s8 hx2 ht2 => ?_⟩
    refine ⟨_, rfl, 1, x2, d2, n, rfl, by decide, hx2, ht2.mono (by decide), fun z0 => (by cases z0), hn, fun H9 s9 => ⟨_, rfl, iteF ?_⟩⟩
    have S9 : Same H H9 := S5.trans (s6.trans (s7.trans (s8.trans s9)))
    -- pairs
    refine ⟨_, rfl, _, _, rfl, rfl, _, rfl, ?_⟩
    show if decide ((1 : Int) < (n : Int)) = true then _ else _
    by_cases h1 : 1 < n
    · rw [decide_eq_true (by omega)]
      refine iteT ⟨_, rfl, _, rfl, _, n, rfl, h1, hn, fun pp H10 s10 hpp => ?_⟩
      refine ⟨_, rfl, _, rfl, _, _, rfl, rfl, z + 3, rfl, bits1 z hz' 3 (by decide), fun g3 _ => ?_⟩
      refine ⟨pp, _, 60, rfl, hpp, by decide, fun x3 d3 H11 s11 hx3 ht3 => ?_⟩
      refine ⟨_, rfl, 2, x3, d3, n, rfl, by decide, hx3, ht3.mono (by decide), fun _ => ht3.mono (by decide), hn, fun H12 s12 => ⟨_, rfl, iteF ?_⟩⟩
      exact ⟨_, _, _, _, _, _, rfl, S9.trans (s10.trans (s11.trans s12))⟩
    · rw [decide_eq_false (by omega)]
      exact iteF ⟨_, _, _, _, _, _, rfl, S9⟩
  rintro σ H2 ⟨v2, v3, v4, v5, v6, v7, rfl, s2⟩
  -- the short texts
  refine ⟨trivial, fun w3 H3 s3 hw3 => ?_⟩
  obtain ⟨b3, xs3, e3, k3, r3⟩ := dt_list hw3
  subst e3
  refine ⟨b3, rfl, ⟨_, SqL.of k3⟩, for_list (K := K) (a := b3) (xs := xs3) (fun i σ H6 => ∃ v8 v9 : Option V, σ = [some (.ref a), some (.int (n : Int)), v2, v3, v4, v5, v6, v7, v8, v9] ∧ Same H3 H6) ⟨none, none, rfl, Same.refl _⟩ (fun i σ H6 _ ⟨_, _, _, s6⟩ => SqL.of (s6 _ _ k3)) ?_ ?_⟩
  · rintro i y σ H6 hi ⟨v8, v9, rfl, s6⟩
    obtain ⟨d, hd, hyd⟩ := r3.get hi
    have hasc := ascB_of (List.all_eq_true.mp tx14_all d (List.mem_of_getElem? hd))
    refine ⟨_, rfl, (by decide), (by decide), for_range (n := (3 : Int).toNat) (fun j σ H7 => ∃ v9 : Option V, σ = [some (.ref a), some (.int (n : Int)), v2, v3, v4, v5, v6, v7, some y, v9] ∧ Same H3 H7) ⟨v9, rfl, s6⟩ ?_ ?_⟩
    · rintro j σ H7 hj ⟨v9, rfl, s7⟩
      have hj3 : j < 3 := hj
      have e0 : (0 : Int) + (j : Int) = ((j : Nat) : Int) := by omega
      rw [e0]
      refine ⟨_, rfl, _, rfl, _, rfl, j, y, d, n, rfl, hj3, hyd.same s7, hasc.mono (by decide), fun _ => hasc, hn, fun H8 s8 => ⟨_, rfl, iteF ?_⟩⟩
      refine ⟨_, rfl, _, rfl, j, y, d, 60, rfl, hj3, hyd.same (s7.trans s8), hasc.mono (by decide), fun _ => hasc, by decide, fun H9 s9 => ⟨_, rfl, iteF ?_⟩⟩
      exact ⟨_, rfl, s7.trans (s8.trans s9)⟩
    · rintro σ H7 ⟨v9, rfl, s7⟩
      exact ⟨_, _, rfl, s7⟩
  · rintro σ H6 ⟨v8, v9, rfl, s6⟩
    exact q _

end
theorem all_mk {l : PySem.W.OpenLaw} {w : World} {K : PySem.W.Frag} {h : Heap} {mg : Str → Option Value} {fa f0 f1 f2 f3 f4 f5 f6 f7 f8 f9 f10 f11 f12 f13 f14 f15 f16 f17 f18 f19 f20 f21 f22 : Addr} (X : K.In h) (G : h.Ns mainGlobals mg) (hfa : mg "law" = some (.ref fa))
    {od0 an0 od1 an1 od2 an2 od3 an3 od4 an4 od5 an5 od6 an6 od7 an7 od8 an8 od9 an9 od10 an10 od11 an11 od12 an12 od13 an13 od14 an14 od15 an15 od16 an16 od17 an17 od18 an18 od19 an19 od20 an20 od21 an21 od22 an22 : Option Addr} {sl0 sl1 sl2 sl3 sl4 sl5 sl6 sl7 sl8 sl9 sl10 sl11 sl12 sl13 sl14 sl15 sl16 sl17 sl18 sl19 sl20 sl21 sl22 : Array (Option Value)} {oc0 kV0 dc0 pm0 cd0 ct0 oc1 kV1 dc1 pm1 cd1 ct1 oc2 kV2 dc2 pm2 cd2 ct2 oc3 kV3 dc3 pm3 cd3 ct3 oc4 kV4 dc4 pm4 cd4 ct4 oc5 kV5 dc5 pm5 cd5 ct5 oc6 kV6 dc6 pm6 cd6 ct6 oc7 kV7 dc7 pm7 cd7 ct7 oc8 kV8 dc8 pm8 cd8 ct8 oc9 kV9 dc9 pm9 cd9 ct9 oc10 kV10 dc10 pm10 cd10 ct10 oc11 kV11 dc11 pm11 cd11 ct11 oc12 kV12 dc12 pm12 cd12 ct12 oc13 kV13 dc13 pm13 cd13 ct13 oc14 kV14 dc14 pm14 cd14 ct14 oc15 kV15 dc15 pm15 cd15 ct15 oc16 kV16 dc16 pm16 cd16 ct16 oc17 kV17 dc17 pm17 cd17 ct17 oc18 kV18 dc18 pm18 cd18 ct18 oc19 kV19 dc19 pm19 cd19 ct19 oc20 kV20 dc20 pm20 cd20 ct20 oc21 kV21 dc21 pm21 cd21 ct21 oc22 kV22 dc22 pm22 cd22 ct22 : Value}
    (a0 : PySem.W.nsIn K mainGlobals "is_each_once" = some (some (.ref f0))) (l0 : K.lookup f0 = some ⟨oc0, od0, .func (PySem.W.fnOf "is_each_once" "is_each_once" (defArgs s_is_each_once) (defBody s_is_each_once) (defScope s_is_each_once) .none kV0 dc0 pm0 an0 cd0 ct0), sl0⟩) (c0 : PySem.W.codeIn K cd0 "is_each_once" = true) (k0 : PySem.W.keepIn K (.ref f0) = true)
    (a1 : PySem.W.nsIn K mainGlobals "need_text" = some (some (.ref f1))) (l1 : K.lookup f1 = some ⟨oc1, od1, .func (PySem.W.fnOf "need_text" "need_text" (defArgs s_need_text) (defBody s_need_text) (defScope s_need_text) .none kV1 dc1 pm1 an1 cd1 ct1), sl1⟩) (c1 : PySem.W.codeIn K cd1 "need_text" = true) (k1 : PySem.W.keepIn K (.ref f1) = true)
    (a2 : PySem.W.nsIn K mainGlobals "need_each_once" = some (some (.ref f2))) (l2 : K.lookup f2 = some ⟨oc2, od2, .func (PySem.W.fnOf "need_each_once" "need_each_once" (defArgs s_need_each_once) (defBody s_need_each_once) (defScope s_need_each_once) .none kV2 dc2 pm2 an2 cd2 ct2), sl2⟩) (c2 : PySem.W.codeIn K cd2 "need_each_once" = true) (k2 : PySem.W.keepIn K (.ref f2) = true)
    (a3 : PySem.W.nsIn K mainGlobals "read_figures" = some (some (.ref f3))) (l3 : K.lookup f3 = some ⟨oc3, od3, .func (PySem.W.fnOf "read_figures" "read_figures" (defArgs s_read_figures) (defBody s_read_figures) (defScope s_read_figures) .none kV3 dc3 pm3 an3 cd3 ct3), sl3⟩) (c3 : PySem.W.codeIn K cd3 "read_figures" = true) (k3 : PySem.W.keepIn K (.ref f3) = true)
    (a4 : PySem.W.nsIn K mainGlobals "read_number" = some (some (.ref f4))) (l4 : K.lookup f4 = some ⟨oc4, od4, .func (PySem.W.fnOf "read_number" "read_number" (defArgs s_read_number) (defBody s_read_number) (defScope s_read_number) .none kV4 dc4 pm4 an4 cd4 ct4), sl4⟩) (c4 : PySem.W.codeIn K cd4 "read_number" = true) (k4 : PySem.W.keepIn K (.ref f4) = true)
    (a5 : PySem.W.nsIn K mainGlobals "read_place" = some (some (.ref f5))) (l5 : K.lookup f5 = some ⟨oc5, od5, .func (PySem.W.fnOf "read_place" "read_place" (defArgs s_read_place) (defBody s_read_place) (defScope s_read_place) .none kV5 dc5 pm5 an5 cd5 ct5), sl5⟩) (c5 : PySem.W.codeIn K cd5 "read_place" = true) (k5 : PySem.W.keepIn K (.ref f5) = true)
    (a6 : PySem.W.nsIn K mainGlobals "read_parted" = some (some (.ref f6))) (l6 : K.lookup f6 = some ⟨oc6, od6, .func (PySem.W.fnOf "read_parted" "read_parted" (defArgs s_read_parted) (defBody s_read_parted) (defScope s_read_parted) .none kV6 dc6 pm6 an6 cd6 ct6), sl6⟩) (c6 : PySem.W.codeIn K cd6 "read_parted" = true) (k6 : PySem.W.keepIn K (.ref f6) = true)
    (a7 : PySem.W.nsIn K mainGlobals "read_places" = some (some (.ref f7))) (l7 : K.lookup f7 = some ⟨oc7, od7, .func (PySem.W.fnOf "read_places" "read_places" (defArgs s_read_places) (defBody s_read_places) (defScope s_read_places) .none kV7 dc7 pm7 an7 cd7 ct7), sl7⟩) (c7 : PySem.W.codeIn K cd7 "read_places" = true) (k7 : PySem.W.keepIn K (.ref f7) = true)
    (a8 : PySem.W.nsIn K mainGlobals "read_pair" = some (some (.ref f8))) (l8 : K.lookup f8 = some ⟨oc8, od8, .func (PySem.W.fnOf "read_pair" "read_pair" (defArgs s_read_pair) (defBody s_read_pair) (defScope s_read_pair) .none kV8 dc8 pm8 an8 cd8 ct8), sl8⟩) (c8 : PySem.W.codeIn K cd8 "read_pair" = true) (k8 : PySem.W.keepIn K (.ref f8) = true)
    (a9 : PySem.W.nsIn K mainGlobals "read_pairs" = some (some (.ref f9))) (l9 : K.lookup f9 = some ⟨oc9, od9, .func (PySem.W.fnOf "read_pairs" "read_pairs" (defArgs s_read_pairs) (defBody s_read_pairs) (defScope s_read_pairs) .none kV9 dc9 pm9 an9 cd9 ct9), sl9⟩) (c9 : PySem.W.codeIn K cd9 "read_pairs" = true) (k9 : PySem.W.keepIn K (.ref f9) = true)
    (a10 : PySem.W.nsIn K mainGlobals "_law_cell_at" = some (some (.ref f10))) (l10 : K.lookup f10 = some ⟨oc10, od10, .func (PySem.W.fnOf "_law_cell_at" "_law_cell_at" (defArgs s__law_cell_at) (defBody s__law_cell_at) (defScope s__law_cell_at) .none kV10 dc10 pm10 an10 cd10 ct10), sl10⟩) (c10 : PySem.W.codeIn K cd10 "_law_cell_at" = true) (k10 : PySem.W.keepIn K (.ref f10) = true)
    (a11 : PySem.W.nsIn K mainGlobals "_law_whole" = some (some (.ref f11))) (l11 : K.lookup f11 = some ⟨oc11, od11, .func (PySem.W.fnOf "_law_whole" "_law_whole" (defArgs s__law_whole) (defBody s__law_whole) (defScope s__law_whole) .none kV11 dc11 pm11 an11 cd11 ct11), sl11⟩) (c11 : PySem.W.codeIn K cd11 "_law_whole" = true) (k11 : PySem.W.keepIn K (.ref f11) = true)
    (a12 : PySem.W.nsIn K mainGlobals "_law_great" = some (some (.ref f12))) (l12 : K.lookup f12 = some ⟨oc12, od12, .func (PySem.W.fnOf "_law_great" "_law_great" (defArgs s__law_great) (defBody s__law_great) (defScope s__law_great) .none kV12 dc12 pm12 an12 cd12 ct12), sl12⟩) (c12 : PySem.W.codeIn K cd12 "_law_great" = true) (k12 : PySem.W.keepIn K (.ref f12) = true)
    (a13 : PySem.W.nsIn K mainGlobals "_law_free" = some (some (.ref f13))) (l13 : K.lookup f13 = some ⟨oc13, od13, .func (PySem.W.fnOf "_law_free" "_law_free" (defArgs s__law_free) (defBody s__law_free) (defScope s__law_free) .none kV13 dc13 pm13 an13 cd13 ct13), sl13⟩) (c13 : PySem.W.codeIn K cd13 "_law_free" = true) (k13 : PySem.W.keepIn K (.ref f13) = true)
    (a14 : PySem.W.nsIn K mainGlobals "_law_spoiled" = some (some (.ref f14))) (l14 : K.lookup f14 = some ⟨oc14, od14, .func (PySem.W.fnOf "_law_spoiled" "_law_spoiled" (defArgs s__law_spoiled) (defBody s__law_spoiled) (defScope s__law_spoiled) .none kV14 dc14 pm14 an14 cd14 ct14), sl14⟩) (c14 : PySem.W.codeIn K cd14 "_law_spoiled" = true) (k14 : PySem.W.keepIn K (.ref f14) = true)
    (a15 : PySem.W.nsIn K mainGlobals "_law_pairs_by" = some (some (.ref f15))) (l15 : K.lookup f15 = some ⟨oc15, od15, .func (PySem.W.fnOf "_law_pairs_by" "_law_pairs_by" (defArgs s__law_pairs_by) (defBody s__law_pairs_by) (defScope s__law_pairs_by) .none kV15 dc15 pm15 an15 cd15 ct15), sl15⟩) (c15 : PySem.W.codeIn K cd15 "_law_pairs_by" = true) (k15 : PySem.W.keepIn K (.ref f15) = true)
    (a16 : PySem.W.nsIn K mainGlobals "_law_names" = some (some (.ref f16))) (l16 : K.lookup f16 = some ⟨oc16, od16, .func (PySem.W.fnOf "_law_names" "_law_names" (defArgs s__law_names) (defBody s__law_names) (defScope s__law_names) .none kV16 dc16 pm16 an16 cd16 ct16), sl16⟩) (c16 : PySem.W.codeIn K cd16 "_law_names" = true) (k16 : PySem.W.keepIn K (.ref f16) = true)
    (a17 : PySem.W.nsIn K mainGlobals "_law_due_number" = some (some (.ref f17))) (l17 : K.lookup f17 = some ⟨oc17, od17, .func (PySem.W.fnOf "_law_due_number" "_law_due_number" (defArgs s__law_due_number) (defBody s__law_due_number) (defScope s__law_due_number) .none kV17 dc17 pm17 an17 cd17 ct17), sl17⟩) (c17 : PySem.W.codeIn K cd17 "_law_due_number" = true) (k17 : PySem.W.keepIn K (.ref f17) = true)
    (a18 : PySem.W.nsIn K mainGlobals "_law_due_places" = some (some (.ref f18))) (l18 : K.lookup f18 = some ⟨oc18, od18, .func (PySem.W.fnOf "_law_due_places" "_law_due_places" (defArgs s__law_due_places) (defBody s__law_due_places) (defScope s__law_due_places) .none kV18 dc18 pm18 an18 cd18 ct18), sl18⟩) (c18 : PySem.W.codeIn K cd18 "_law_due_places" = true) (k18 : PySem.W.keepIn K (.ref f18) = true)
    (a19 : PySem.W.nsIn K mainGlobals "_law_due_pairs" = some (some (.ref f19))) (l19 : K.lookup f19 = some ⟨oc19, od19, .func (PySem.W.fnOf "_law_due_pairs" "_law_due_pairs" (defArgs s__law_due_pairs) (defBody s__law_due_pairs) (defScope s__law_due_pairs) .none kV19 dc19 pm19 an19 cd19 ct19), sl19⟩) (c19 : PySem.W.codeIn K cd19 "_law_due_pairs" = true) (k19 : PySem.W.keepIn K (.ref f19) = true)
    (a20 : PySem.W.nsIn K mainGlobals "_law_alike" = some (some (.ref f20))) (l20 : K.lookup f20 = some ⟨oc20, od20, .func (PySem.W.fnOf "_law_alike" "_law_alike" (defArgs s__law_alike) (defBody s__law_alike) (defScope s__law_alike) .none kV20 dc20 pm20 an20 cd20 ct20), sl20⟩) (c20 : PySem.W.codeIn K cd20 "_law_alike" = true) (k20 : PySem.W.keepIn K (.ref f20) = true)
    (a21 : PySem.W.nsIn K mainGlobals "_law_asked" = some (some (.ref f21))) (l21 : K.lookup f21 = some ⟨oc21, od21, .func (PySem.W.fnOf "_law_asked" "_law_asked" (defArgs s__law_asked) (defBody s__law_asked) (defScope s__law_asked) .none kV21 dc21 pm21 an21 cd21 ct21), sl21⟩) (c21 : PySem.W.codeIn K cd21 "_law_asked" = true) (k21 : PySem.W.keepIn K (.ref f21) = true)
    (a22 : PySem.W.nsIn K mainGlobals "law" = some (some (.ref f22))) (l22 : K.lookup f22 = some ⟨oc22, od22, .func (PySem.W.fnOf "law" "law" (defArgs s_law) (defBody s_law) (defScope s_law) .none kV22 dc22 pm22 an22 cd22 ct22), sl22⟩) (c22 : PySem.W.codeIn K cd22 "law" = true) (k22 : PySem.W.keepIn K (.ref f22) = true)
    {tk0 tk1 tk2 : Tok} (gc0 : PySem.W.nsIn K mainGlobals "FIGURES" = some (some (.str "0123456789" tk0))) (gc1 : PySem.W.nsIn K mainGlobals "NUMBER_FIGURES" = some (some (.int 90 tk1))) (gc2 : PySem.W.nsIn K mainGlobals "PLACE_FIGURES" = some (some (.int 2 tk2)))
    {xC0 xN0 : Addr} {xnm0 xqn0 : Str} {xbs0 xsub0 : List Value} {xhd0 xab0 : Bool} {xsn0 : List Str} {xco0 : Option Bool} {xdd0 : Option Addr} {xka0 xkb0 xkc0 xkd0 xkf0 : Option Value} {xoN0 : Obj} (xg0 : PySem.W.nsIn K mainGlobals "TurnError" = some (some (.ref xC0))) (xl0 : K.lookup xC0 = some (excClassObj xnm0 xqn0 xC0 xN0 xbs0 L2.bmV xhd0 xsn0 xsub0 xab0 xco0 xdd0 xka0 xkb0 xkc0 xkd0 xkf0 "ValueError.__new__")) (xm0 : K.lookup xN0 = some xoN0) (xo0 : PySem.W.nsOkIn K xN0 = true) (xi0 : PySem.W.nsIn K xN0 "__init__" = some none) (xt0 : PySem.W.tailIn K L2.bmV L2.bmV = true) {xC1 xN1 : Addr} {xnm1 xqn1 : Str} {xbs1 xsub1 : List Value} {xhd1 xab1 : Bool} {xsn1 : List Str} {xco1 : Option Bool} {xdd1 : Option Addr} {xka1 xkb1 xkc1 xkd1 xkf1 : Option Value} {xoN1 : Obj} (xg1 : PySem.W.nsIn K mainGlobals "NoText" = some (some (.ref xC1))) (xl1 : K.lookup xC1 = some (excClassObj xnm1 xqn1 xC1 xN1 xbs1 (Value.ref xC0 :: L2.bmV) xhd1 xsn1 xsub1 xab1 xco1 xdd1 xka1 xkb1 xkc1 xkd1 xkf1 "ValueError.__new__")) (xm1 : K.lookup xN1 = some xoN1) (xo1 : PySem.W.nsOkIn K xN1 = true) (xi1 : PySem.W.nsIn K xN1 "__init__" = some none) (xt1 : PySem.W.tailIn K L2.bmV (Value.ref xC0 :: L2.bmV) = true) (xj1 : PySem.W.isIn K (.ref xC1) xC0 = true) (xv : PySem.W.nsIn K mainGlobals "ValueError" = some none)
    (z0 : PySem.W.nsIn K mainGlobals "len" = some none) (z1 : PySem.W.nsIn K mainGlobals "range" = some none) (z2 : PySem.W.nsIn K mainGlobals "list" = some none) (z3 : PySem.W.nsIn K mainGlobals "tuple" = some none) (z4 : PySem.W.nsIn K mainGlobals "isinstance" = some none) (z5 : PySem.W.nsIn K mainGlobals "int" = some none) (z6 : PySem.W.nsIn K mainGlobals "bool" = some none) (z7 : PySem.W.nsIn K mainGlobals "str" = some none) (z8 : PySem.W.nsIn K mainGlobals "enumerate" = some none) (z9 : PySem.W.nsIn K mainGlobals "sorted" = some none) (z10 : PySem.W.nsIn K mainGlobals "sum" = some none) (z11 : PySem.W.nsIn K mainGlobals "all" = some none) (z12 : PySem.W.nsIn K mainGlobals "set" = some none) (z13 : PySem.W.nsIn K mainGlobals "reversed" = some none) (z14 : PySem.W.nsIn K mainGlobals "divmod" = some none) (z15 : PySem.W.nsIn K mainGlobals "max" = some none) (z16 : PySem.W.nsIn K mainGlobals "min" = some none) :
    ∃ fd : FuncData, (∀ (s : Shared) (v : Value), BindsTo s fd ⟨[v], []⟩ [("_law_script", v)]) ∧ ∀ base : Heap, K.In base → base.Ns mainGlobals mg → FnOk l.prog w K mg base CX0 8 fa fd ["_law_script"] (spLaw K) := by
  have e := hfa.symm.trans (PySem.W.mg_of X G a22)
  cases e
  have B : Blt mg := ⟨PySem.W.mg_none_of X G z0, PySem.W.mg_none_of X G z1, PySem.W.mg_none_of X G z2, PySem.W.mg_none_of X G z3, PySem.W.mg_none_of X G z4, PySem.W.mg_none_of X G z5, PySem.W.mg_none_of X G z6, PySem.W.mg_none_of X G z7, PySem.W.mg_none_of X G z8, PySem.W.mg_none_of X G z9, PySem.W.mg_none_of X G z10, PySem.W.mg_none_of X G z11, PySem.W.mg_none_of X G z12, PySem.W.mg_none_of X G z13, PySem.W.mg_none_of X G z14, PySem.W.mg_none_of X G z15, PySem.W.mg_none_of X G z16⟩
  have KFIGURES : Glob mg "FIGURES" (.str sFig) := ⟨_, PySem.W.mg_of X G gc0, ⟨_, rfl⟩⟩
  have KNUMBER_FIGURES : Glob mg "NUMBER_FIGURES" (.int 90) := ⟨_, PySem.W.mg_of X G gc1, ⟨_, rfl⟩⟩
  have KPLACE_FIGURES : Glob mg "PLACE_FIGURES" (.int 2) := ⟨_, PySem.W.mg_of X G gc2, ⟨_, rfl⟩⟩
  have KERT : ErrTop K mg xC0 := ⟨PySem.W.mg_of X G xg0, XCls.mk' xl0 xm0 xo0 xi0 xt0, PySem.W.mg_none_of X G xv⟩
  have KERA : ErrAt K mg xC0 "NoText" xC1 := ⟨PySem.W.mg_of X G xg1, XCls.mk' xl1 xm1 xo1 xi1 xt1, xj1⟩
  have D0 : Def K mg "is_each_once" s_is_each_once ["things"] _ _ := ⟨fun_mk (st := s_is_each_once) l0 c0 k0, (fun_mk (st := s_is_each_once) l0 c0 k0).binds (ps := ["things"]) fun _ _ _ _ _ _ us hl => match us, hl with | [_], _ => rfl, PySem.W.mg_of X G a0⟩
  have D1 : Def K mg "need_text" s_need_text ["thing"] _ _ := ⟨fun_mk (st := s_need_text) l1 c1 k1, (fun_mk (st := s_need_text) l1 c1 k1).binds (ps := ["thing"]) fun _ _ _ _ _ _ us hl => match us, hl with | [_], _ => rfl, PySem.W.mg_of X G a1⟩
  have D2 : Def K mg "need_each_once" s_need_each_once ["things"] _ _ := ⟨fun_mk (st := s_need_each_once) l2 c2 k2, (fun_mk (st := s_need_each_once) l2 c2 k2).binds (ps := ["things"]) fun _ _ _ _ _ _ us hl => match us, hl with | [_], _ => rfl, PySem.W.mg_of X G a2⟩
  have D3 : Def K mg "read_figures" s_read_figures ["text", "most"] _ _ := ⟨fun_mk (st := s_read_figures) l3 c3 k3, (fun_mk (st := s_read_figures) l3 c3 k3).binds (ps := ["text", "most"]) fun _ _ _ _ _ _ us hl => match us, hl with | [_, _], _ => rfl, PySem.W.mg_of X G a3⟩
  have D4 : Def K mg "read_number" s_read_number ["text"] _ _ := ⟨fun_mk (st := s_read_number) l4 c4 k4, (fun_mk (st := s_read_number) l4 c4 k4).binds (ps := ["text"]) fun _ _ _ _ _ _ us hl => match us, hl with | [_], _ => rfl, PySem.W.mg_of X G a4⟩
  have D5 : Def K mg "read_place" s_read_place ["text", "many"] _ _ := ⟨fun_mk (st := s_read_place) l5 c5 k5, (fun_mk (st := s_read_place) l5 c5 k5).binds (ps := ["text", "many"]) fun _ _ _ _ _ _ us hl => match us, hl with | [_, _], _ => rfl, PySem.W.mg_of X G a5⟩
  have D6 : Def K mg "read_parted" s_read_parted ["text", "mark", "many"] _ _ := ⟨fun_mk (st := s_read_parted) l6 c6 k6, (fun_mk (st := s_read_parted) l6 c6 k6).binds (ps := ["text", "mark", "many"]) fun _ _ _ _ _ _ us hl => match us, hl with | [_, _, _], _ => rfl, PySem.W.mg_of X G a6⟩
  have D7 : Def K mg "read_places" s_read_places ["text", "many"] _ _ := ⟨fun_mk (st := s_read_places) l7 c7 k7, (fun_mk (st := s_read_places) l7 c7 k7).binds (ps := ["text", "many"]) fun _ _ _ _ _ _ us hl => match us, hl with | [_, _], _ => rfl, PySem.W.mg_of X G a7⟩
  have D8 : Def K mg "read_pair" s_read_pair ["text", "many"] _ _ := ⟨fun_mk (st := s_read_pair) l8 c8 k8, (fun_mk (st := s_read_pair) l8 c8 k8).binds (ps := ["text", "many"]) fun _ _ _ _ _ _ us hl => match us, hl with | [_, _], _ => rfl, PySem.W.mg_of X G a8⟩
  have D9 : Def K mg "read_pairs" s_read_pairs ["text", "many"] _ _ := ⟨fun_mk (st := s_read_pairs) l9 c9 k9, (fun_mk (st := s_read_pairs) l9 c9 k9).binds (ps := ["text", "many"]) fun _ _ _ _ _ _ us hl => match us, hl with | [_, _], _ => rfl, PySem.W.mg_of X G a9⟩
  have D10 : Def K mg "_law_cell_at" s__law_cell_at ["_law_script", "_law_k"] _ _ := ⟨fun_mk (st := s__law_cell_at) l10 c10 k10, (fun_mk (st := s__law_cell_at) l10 c10 k10).binds (ps := ["_law_script", "_law_k"]) fun _ _ _ _ _ _ us hl => match us, hl with | [_, _], _ => rfl, PySem.W.mg_of X G a10⟩
  have D11 : Def K mg "_law_whole" s__law_whole ["_law_thing"] _ _ := ⟨fun_mk (st := s__law_whole) l11 c11 k11, (fun_mk (st := s__law_whole) l11 c11 k11).binds (ps := ["_law_thing"]) fun _ _ _ _ _ _ us hl => match us, hl with | [_], _ => rfl, PySem.W.mg_of X G a11⟩
  have D12 : Def K mg "_law_great" s__law_great ["_law_cell"] _ _ := ⟨fun_mk (st := s__law_great) l12 c12 k12, (fun_mk (st := s__law_great) l12 c12 k12).binds (ps := ["_law_cell"]) fun _ _ _ _ _ _ us hl => match us, hl with | [_], _ => rfl, PySem.W.mg_of X G a12⟩
  have D13 : Def K mg "_law_free" s__law_free ["_law_number", "_law_many"] _ _ := ⟨fun_mk (st := s__law_free) l13 c13 k13, (fun_mk (st := s__law_free) l13 c13 k13).binds (ps := ["_law_number", "_law_many"]) fun _ _ _ _ _ _ us hl => match us, hl with | [_, _], _ => rfl, PySem.W.mg_of X G a13⟩
  have D14 : Def K mg "_law_spoiled" s__law_spoiled ["_law_text", "_law_number"] _ _ := ⟨fun_mk (st := s__law_spoiled) l14 c14 k14, (fun_mk (st := s__law_spoiled) l14 c14 k14).binds (ps := ["_law_text", "_law_number"]) fun _ _ _ _ _ _ us hl => match us, hl with | [_, _], _ => rfl, PySem.W.mg_of X G a14⟩
  have D15 : Def K mg "_law_pairs_by" s__law_pairs_by ["_law_number", "_law_many"] _ _ := ⟨fun_mk (st := s__law_pairs_by) l15 c15 k15, (fun_mk (st := s__law_pairs_by) l15 c15 k15).binds (ps := ["_law_number", "_law_many"]) fun _ _ _ _ _ _ us hl => match us, hl with | [_, _], _ => rfl, PySem.W.mg_of X G a15⟩
  have D16 : Def K mg "_law_names" s__law_names ["_law_many"] _ _ := ⟨fun_mk (st := s__law_names) l16 c16 k16, (fun_mk (st := s__law_names) l16 c16 k16).binds (ps := ["_law_many"]) fun _ _ _ _ _ _ us hl => match us, hl with | [_], _ => rfl, PySem.W.mg_of X G a16⟩
  have D17 : Def K mg "_law_due_number" s__law_due_number ["_law_text"] _ _ := ⟨fun_mk (st := s__law_due_number) l17 c17 k17, (fun_mk (st := s__law_due_number) l17 c17 k17).binds (ps := ["_law_text"]) fun _ _ _ _ _ _ us hl => match us, hl with | [_], _ => rfl, PySem.W.mg_of X G a17⟩
  have D18 : Def K mg "_law_due_places" s__law_due_places ["_law_text", "_law_many"] _ _ := ⟨fun_mk (st := s__law_due_places) l18 c18 k18, (fun_mk (st := s__law_due_places) l18 c18 k18).binds (ps := ["_law_text", "_law_many"]) fun _ _ _ _ _ _ us hl => match us, hl with | [_, _], _ => rfl, PySem.W.mg_of X G a18⟩
  have D19 : Def K mg "_law_due_pairs" s__law_due_pairs ["_law_text", "_law_many"] _ _ := ⟨fun_mk (st := s__law_due_pairs) l19 c19 k19, (fun_mk (st := s__law_due_pairs) l19 c19 k19).binds (ps := ["_law_text", "_law_many"]) fun _ _ _ _ _ _ us hl => match us, hl with | [_, _], _ => rfl, PySem.W.mg_of X G a19⟩
  have D20 : Def K mg "_law_alike" s__law_alike ["_law_found", "_law_due"] _ _ := ⟨fun_mk (st := s__law_alike) l20 c20 k20, (fun_mk (st := s__law_alike) l20 c20 k20).binds (ps := ["_law_found", "_law_due"]) fun _ _ _ _ _ _ us hl => match us, hl with | [_, _], _ => rfl, PySem.W.mg_of X G a20⟩
  have D21 : Def K mg "_law_asked" s__law_asked ["_law_which", "_law_text", "_law_many"] _ _ := ⟨fun_mk (st := s__law_asked) l21 c21 k21, (fun_mk (st := s__law_asked) l21 c21 k21).binds (ps := ["_law_which", "_law_text", "_law_many"]) fun _ _ _ _ _ _ us hl => match us, hl with | [_, _, _], _ => rfl, PySem.W.mg_of X G a21⟩
  have D22 : Def K mg "law" s_law ["_law_script"] _ _ := ⟨fun_mk (st := s_law) l22 c22 k22, (fun_mk (st := s_law) l22 c22 k22).binds (ps := ["_law_script"]) fun _ _ _ _ _ _ us hl => match us, hl with | [_], _ => rfl, PySem.W.mg_of X G a22⟩
  refine ⟨PySem.W.fnOf "law" "law" (defArgs s_law) (defBody s_law) (defScope s_law) .none kV22 dc22 pm22 an22 cd22 ct22, fun s v => .of_eq rfl, fun base _ _ => ?_⟩
  have Kis_each_once : Known l.prog w K mg base 1 "is_each_once" ["things"] (spEachOnce K) := D0.known (ok_is_each_once D0 B)
  have KEOP : Known l.prog w K mg base 1 "is_each_once" ["things"] (spEachOnceP K) := D0.known (ok_is_each_once_p D0 B)
  have Kneed_text : KnownX l.prog w K mg base 1 "need_text" ["thing"] (spNeedTextT xC1) := ok_need_text D1 B KERA
  have Kneed_each_once : KnownX l.prog w K mg base 2 "need_each_once" ["things"] (spOnceT K xC1) := ok_need_each_once D2 B Kis_each_once KERA
  have KNOP : KnownX l.prog w K mg base 2 "need_each_once" ["things"] (spOnceP K xC1) := ok_need_each_once_p D2 B KEOP KERA
  have Kread_figures : KnownX l.prog w K mg base 1 "read_figures" ["text", "most"] (spFigsT xC1) := ok_read_figures D3 B KFIGURES KERA
  have Kread_number : KnownX l.prog w K mg base 2 "read_number" ["text"] (spNumberT xC1) := ok_read_number D4 B Kneed_text Kread_figures KNUMBER_FIGURES
  have Kread_place : KnownX l.prog w K mg base 2 "read_place" ["text", "many"] (spPlaceT xC1) := ok_read_place D5 B KERA Kread_figures KPLACE_FIGURES
  have Kread_parted : KnownX l.prog w K mg base 3 "read_parted" ["text", "mark", "many"] (spPartedT xC1) := ok_read_parted D6 B Kread_place Kneed_each_once
  have Kread_places : KnownX l.prog w K mg base 4 "read_places" ["text", "many"] (spPlacesT xC1) := ok_read_places D7 B Kneed_text Kread_parted
  have Kread_pair : KnownX l.prog w K mg base 4 "read_pair" ["text", "many"] (spPairT xC1) := ok_read_pair D8 B KERA Kread_parted
  have Kread_pairs : KnownX l.prog w K mg base 5 "read_pairs" ["text", "many"] (spPairsT xC1) := ok_read_pairs D9 B Kneed_text Kread_pair KNOP
  have K_law_cell_at : Known l.prog w K mg base 1 "_law_cell_at" ["_law_script", "_law_k"] (spCellAt K) := D10.known (ok__law_cell_at D10 B)
  have K_law_whole : Known l.prog w K mg base 1 "_law_whole" ["_law_thing"] (spWholeI) := D11.known (ok__law_whole D11 B)
  have K_law_great : Known l.prog w K mg base 1 "_law_great" ["_law_cell"] (spGreat14) := D12.known (ok__law_great D12 B)
  have K_law_free : Known l.prog w K mg base 1 "_law_free" ["_law_number", "_law_many"] (spFree) := D13.known (ok__law_free D13 B)
  have K_law_spoiled : Known l.prog w K mg base 1 "_law_spoiled" ["_law_text", "_law_number"] (spSpoiled14) := D14.known (ok__law_spoiled D14 B)
  have K_law_pairs_by : Known l.prog w K mg base 1 "_law_pairs_by" ["_law_number", "_law_many"] (spPairsBy14) := D15.known (ok__law_pairs_by D15 B)
  have K_law_names : Known l.prog w K mg base 1 "_law_names" ["_law_many"] (spNames14) := D16.known (ok__law_names D16 B)
  have K_law_due_number : Known l.prog w K mg base 1 "_law_due_number" ["_law_text"] (spDueNum14) := D17.known (ok__law_due_number D17 B)
  have K_law_due_places : Known l.prog w K mg base 2 "_law_due_places" ["_law_text", "_law_many"] (spDuePls14) := D18.known (ok__law_due_places D18 B K_law_names)
  have K_law_due_pairs : Known l.prog w K mg base 2 "_law_due_pairs" ["_law_text", "_law_many"] (spDuePrs14) := D19.known (ok__law_due_pairs D19 B K_law_names)
  have K_law_alike : Known l.prog w K mg base 4 "_law_alike" ["_law_found", "_law_due"] (spAl (spAl (spAl spNo))) := D20.known (ok__law_alike D20 B K_law_whole)
  have K_law_asked : Known l.prog w K mg base 6 "_law_asked" ["_law_which", "_law_text", "_law_many"] (spAsked14) := D21.known (ok__law_asked D21 B Kread_number Kread_places Kread_pairs K_law_due_number K_law_due_places K_law_due_pairs K_law_alike KERT KERA)
  exact ok_law D22 B K_law_cell_at K_law_great K_law_free K_law_spoiled K_law_pairs_by K_law_asked
end Tb
open PySem PySem.W PyProof.Rows
set_option maxRecDepth 100000 in
set_option maxHeartbeats 0 in
theorem PySem.Challenge.cw_turnbase_k14_numbers_and_rows_holds : PySem.Challenge.rw_turnbase_k14_numbers_and_rows.Holds := by
  w_on; o_law; k_head; (case hw => w_witness2)
  k_fill
  refine Tb.walk (l := PySem.Challenge.rw_turnbase_k14_numbers_and_rows) (k := 8) (x := "_law_script") rfl rfl ⟨rfl, by decide, by decide⟩ (fun w h Y => PySem.W.kIn_of Y) ?F
  case F =>
    intro w mg fa h KX G hmg
    refine' Tb.all_mk KX G hmg ?a0 ?l0 ?c0 ?k0 ?a1 ?l1 ?c1 ?k1 ?a2 ?l2 ?c2 ?k2 ?a3 ?l3 ?c3 ?k3 ?a4 ?l4 ?c4 ?k4 ?a5 ?l5 ?c5 ?k5 ?a6 ?l6 ?c6 ?k6 ?a7 ?l7 ?c7 ?k7 ?a8 ?l8 ?c8 ?k8 ?a9 ?l9 ?c9 ?k9 ?a10 ?l10 ?c10 ?k10 ?a11 ?l11 ?c11 ?k11 ?a12 ?l12 ?c12 ?k12 ?a13 ?l13 ?c13 ?k13 ?a14 ?l14 ?c14 ?k14 ?a15 ?l15 ?c15 ?k15 ?a16 ?l16 ?c16 ?k16 ?a17 ?l17 ?c17 ?k17 ?a18 ?l18 ?c18 ?k18 ?a19 ?l19 ?c19 ?k19 ?a20 ?l20 ?c20 ?k20 ?a21 ?l21 ?c21 ?k21 ?a22 ?l22 ?c22 ?k22 ?gc0 ?gc1 ?gc2 ?xg0 ?xl0 ?xm0 ?xo0 ?xi0 ?xt0 ?xg1 ?xl1 ?xm1 ?xo1 ?xi1 ?xt1 ?xj1 ?xv ?z0 ?z1 ?z2 ?z3 ?z4 ?z5 ?z6 ?z7 ?z8 ?z9 ?z10 ?z11 ?z12 ?z13 ?z14 ?z15 ?z16
    (case a0 => k_is)
    (case l0 => k_is)
    (case c0 => k_is)
    (case k0 => k_is)
    (case a1 => k_is)
    (case l1 => k_is)
    (case c1 => k_is)
    (case k1 => k_is)
    (case a2 => k_is)
    (case l2 => k_is)
    (case c2 => k_is)
    (case k2 => k_is)
    (case a3 => k_is)
    (case l3 => k_is)
    (case c3 => k_is)
    (case k3 => k_is)
    (case a4 => k_is)
    (case l4 => k_is)
    (case c4 => k_is)
    (case k4 => k_is)
    (case a5 => k_is)
    (case l5 => k_is)
    (case c5 => k_is)
    (case k5 => k_is)
    (case a6 => k_is)
    (case l6 => k_is)
    (case c6 => k_is)
    (case k6 => k_is)
    (case a7 => k_is)
    (case l7 => k_is)
    (case c7 => k_is)
    (case k7 => k_is)
    (case a8 => k_is)
    (case l8 => k_is)
    (case c8 => k_is)
    (case k8 => k_is)
    (case a9 => k_is)
    (case l9 => k_is)
    (case c9 => k_is)
    (case k9 => k_is)
    (case a10 => k_is)
    (case l10 => k_is)
    (case c10 => k_is)
    (case k10 => k_is)
    (case a11 => k_is)
    (case l11 => k_is)
    (case c11 => k_is)
    (case k11 => k_is)
    (case a12 => k_is)
    (case l12 => k_is)
    (case c12 => k_is)
    (case k12 => k_is)
    (case a13 => k_is)
    (case l13 => k_is)
    (case c13 => k_is)
    (case k13 => k_is)
    (case a14 => k_is)
    (case l14 => k_is)
    (case c14 => k_is)
    (case k14 => k_is)
    (case a15 => k_is)
    (case l15 => k_is)
    (case c15 => k_is)
    (case k15 => k_is)
    (case a16 => k_is)
    (case l16 => k_is)
    (case c16 => k_is)
    (case k16 => k_is)
    (case a17 => k_is)
    (case l17 => k_is)
    (case c17 => k_is)
    (case k17 => k_is)
    (case a18 => k_is)
    (case l18 => k_is)
    (case c18 => k_is)
    (case k18 => k_is)
    (case a19 => k_is)
    (case l19 => k_is)
    (case c19 => k_is)
    (case k19 => k_is)
    (case a20 => k_is)
    (case l20 => k_is)
    (case c20 => k_is)
    (case k20 => k_is)
    (case a21 => k_is)
    (case l21 => k_is)
    (case c21 => k_is)
    (case k21 => k_is)
    (case a22 => k_is)
    (case l22 => k_is)
    (case c22 => k_is)
    (case k22 => k_is)
    (case gc0 => k_is)
    (case gc1 => k_is)
    (case gc2 => k_is)
    (case xg0 => k_is)
    (case xl0 => k_is)
    (case xm0 => k_is)
    (case xo0 => kernel_rfl)
    (case xi0 => k_is)
    (case xt0 => kernel_rfl)
    (case xg1 => k_is)
    (case xl1 => k_is)
    (case xm1 => k_is)
    (case xo1 => kernel_rfl)
    (case xi1 => k_is)
    (case xt1 => kernel_rfl)
    (case xj1 => k_is)
    (case xv => k_is)
    (case z0 => k_is)
    (case z1 => k_is)
    (case z2 => k_is)
    (case z3 => k_is)
    (case z4 => k_is)
    (case z5 => k_is)
    (case z6 => k_is)
    (case z7 => k_is)
    (case z8 => k_is)
    (case z9 => k_is)
    (case z10 => k_is)
    (case z11 => k_is)
    (case z12 => k_is)
    (case z13 => k_is)
    (case z14 => k_is)
    (case z15 => k_is)
    (case z16 => k_is)
