import PyProof.Rows.All
import Wide.All
import OpenK.AllK
import Wide.FinOn
import Lean
import PyProof.EqAt
import PyProof.EqKinds
import PyProof.TupleCall
import PySem.Challenge.RW_turnbase_k26_recipes_shown_and_read
-- CHANGE: your row's module here, as the last of these rows
set_option Elab.async false
set_option linter.all false
set_option maxRecDepth 100000
/-! THE HAND LAYER, for ints, bools, texts, own classes, LISTS and tuples (index, slices, in, append, pop ..), calls, loops. Paste it whole ahead of your own text; what your proof does not reach may be deleted. -/
namespace L2
open PySem PySem.Spec PyProof.Rows

/-- a key: an int or a str -/
abbrev Key := Sum Int Str
def keyIs : Key → Value → Bool
  | .inl k, v => Value.isInt k v
  | .inr x, v => Value.isStrOf x v
def keyH (w : World) : Key → Int
  | .inl k => hashInt k
  | .inr x => hashStr w x
theorem keyIs_shape : ∀ {k : Key} {v : Value}, keyIs k v = true → (∃ i t, k = Sum.inl i ∧ v = Value.int i t) ∨ (∃ x t, k = Sum.inr x ∧ v = Value.str x t)
  | .inl i, v, h => by
    obtain ⟨t, e⟩ := Value.isInt_shape (k := i) (v := v) h
    exact .inl ⟨i, t, rfl, e⟩
  | .inr x, v, h => by
    obtain ⟨t, e⟩ := Value.isStrOf_shape (x := x) (v := v) h
    exact .inr ⟨x, t, rfl, e⟩
theorem key_ll (a b : Int) : decide ((Sum.inl a : Key) = Sum.inl b) = (a == b) := by
  by_cases e : a = b
  · subst e; simp
  · have h : ¬ (Sum.inl a : Key) = Sum.inl b := fun q => e (Sum.inl.inj q)
    rw [decide_eq_false h]
    exact (beq_eq_false_iff_ne.mpr e).symm
theorem key_rr (a b : Str) : decide ((Sum.inr a : Key) = Sum.inr b) = decide (a = b) := by
  by_cases e : a = b
  · subst e; simp
  · have h : ¬ (Sum.inr a : Key) = Sum.inr b := fun q => e (Sum.inr.inj q)
    rw [decide_eq_false h, decide_eq_false e]
theorem key_lr (a : Int) (b : Str) : decide ((Sum.inl a : Key) = Sum.inr b) = false := decide_eq_false (fun q => nomatch q)
theorem key_rl (a : Str) (b : Int) : decide ((Sum.inr a : Key) = Sum.inl b) = false := decide_eq_false (fun q => nomatch q)

def mixKind (prog : Program) (w : World) : PySem.KeyKind prog w Key where
  is := keyIs
  hash := keyH w
  inj := fun v a b ha hb => by
    rcases keyIs_shape ha with ⟨i, t, rfl, rfl⟩ | ⟨x, t, rfl, rfl⟩
    · rcases keyIs_shape hb with ⟨j, u, rfl, e⟩ | ⟨y, u, rfl, e⟩
      · injection e with e1 _; rw [e1]
      · exact nomatch e
    · rcases keyIs_shape hb with ⟨j, u, rfl, e⟩ | ⟨y, u, rfl, e⟩
      · exact nomatch e
      · injection e with e1 _; rw [e1]
  byValue := fun k v h => by
    rcases keyIs_shape h with ⟨i, t, rfl, rfl⟩ | ⟨x, t, rfl, rfl⟩ <;> rfl
  pyHash := fun hv h => by
    rcases keyIs_shape hv with ⟨i, t, rfl, rfl⟩ | ⟨x, t, rfl, rfl⟩
    · exact wpAny_pyHash_int h
    · exact wpAny_pyHash_str h
  eqBool := fun hu hv h => by
    rcases keyIs_shape hu with ⟨i, t, rfl, rfl⟩ | ⟨x, t, rfl, rfl⟩
    · rcases keyIs_shape hv with ⟨j, u, rfl, rfl⟩ | ⟨y, u, rfl, rfl⟩
      · rw [key_ll] at h; exact wpAny_eqBool_int h
      · rw [key_lr] at h; exact SeqAt.EqAt.int_str i t y u _ _ _ _ h
    · rcases keyIs_shape hv with ⟨j, u, rfl, rfl⟩ | ⟨y, u, rfl, rfl⟩
      · rw [key_rl] at h; exact SeqAt.EqAt.str_int x t j u _ _ _ _ h
      · rw [key_rr] at h; exact wpAny_eqBool_str h
  «strs» := fun k x t v h => by
    rcases keyIs_shape h with ⟨i, u, rfl, e⟩ | ⟨y, u, rfl, e⟩
    · exact nomatch e
    · injection e with e1 _
      subst e1
      cases v <;> rfl

end L2

namespace L2
open PySem PySem.Spec PyProof.Rows

/-- a value, without the heap -/
inductive V where
  | non | bl (b : Bool) | int (i : Int) | str (x : Str) | byt (b : Array UInt8) | flt (b : UInt64) | ref (a : Addr) | ty (n : String)
  deriving DecidableEq

def RelV : V → Value → Prop
  | .non, u => u = Value.none
  | .bl b, u => u = Value.bool b
  | .int i, u => ∃ t, u = Value.int i t
  | .str x, u => ∃ t, u = Value.str x t
  | .byt b, u => ∃ t, u = Value.bytes b t
  | .flt b, u => ∃ t, u = Value.float b t
  | .ref a, u => u = Value.ref a
  | .ty n, u => u = Value.type n

abbrev Vals : List V → List Value → Prop := Paired RelV
theorem Vals.length {xs : List V} {us : List Value} (r : Vals xs us) : xs.length = us.length := Paired.length r
theorem Vals.get : ∀ {xs : List V} {us : List Value} {i : Nat} {x : V}, Vals xs us → xs[i]? = some x → ∃ u, us[i]? = some u ∧ RelV x u
  | _, _, _, _, .nil, e => by simp at e
  | _, _, 0, _, .cons r _, e => by simp at e; subst e; exact ⟨_, rfl, r⟩
  | _, _, i + 1, x, .cons _ t, e => by
    obtain ⟨u, h1, h2⟩ := Vals.get (i := i) (x := x) t (by simpa using e)
    exact ⟨u, by simpa using h1, h2⟩
theorem Vals.set {x : V} {u : Value} (r : RelV x u) : ∀ {xs : List V} {us : List Value} (i : Nat), Vals xs us → Vals (xs.set i x) (us.set i u)
  | _, _, _, .nil => .nil
  | _, _, 0, .cons _ t => .cons r t
  | _, _, i + 1, .cons q t => .cons q (Vals.set r i t)
theorem Vals.append : ∀ {xs ys : List V} {us ws : List Value}, Vals xs us → Vals ys ws → Vals (xs ++ ys) (us ++ ws)
  | _, _, _, _, .nil, s => s
  | _, _, _, _, .cons r t, s => .cons r (Vals.append t s)
theorem Vals.take : ∀ {xs : List V} {us : List Value} (n : Nat), Vals xs us → Vals (xs.take n) (us.take n)
  | _, _, 0, _ => .nil
  | _, _, _ + 1, .nil => .nil
  | _, _, n + 1, .cons r t => .cons r (Vals.take n t)
theorem Vals.drop : ∀ {xs : List V} {us : List Value} (n : Nat), Vals xs us → Vals (xs.drop n) (us.drop n)
  | _, _, 0, r => r
  | _, _, _ + 1, .nil => .nil
  | _, _, n + 1, .cons _ t => Vals.drop n t
theorem Vals.none_of : ∀ {xs : List V} {us : List Value} {i : Nat}, Vals xs us → xs[i]? = none → us[i]? = none := fun {xs us i} r e => by
  have h1 := r.length
  have h2 : xs.length ≤ i := List.getElem?_eq_none_iff.mp e
  exact List.getElem?_eq_none_iff.mpr (by omega)

def RelO : Option V → Option Value → Prop
  | some v, some u => RelV v u
  | none, none => True
  | _, _ => False
def KV {κ : Type} : List (κ × V) → List (κ × Value) → Prop := Paired fun (p : κ × V) (q : κ × Value) => p.1 = q.1 ∧ RelV p.2 q.2

/-- a key of a dict (00_mix): an int or a text -/
def kV : Key → V
  | .inl i => .int i
  | .inr x => .str x

/-- what stands at a tracked address -/
inductive HO where
  /-- a list -/
  | lst (xs : List V)
  /-- a tuple (never changes) -/
  | tup (xs : List V)
  /-- a dict whose keys are ints and texts; one whose keys are tuples of ints and texts (the empty one is both) -/
  | dK (kvs : List (Key × V)) | dT (kvs : List (List Key × V))
  /-- a set of ints: its members, its size -/
  | set (S : Int → Bool) (n : Nat)
  /-- an instance of the class at C, its dict at dx, its attributes -/
  | ins (C dx : Addr) (fs : List (Str × V))
  /-- the dict of the instance at x -/
  | own (x : Addr)
  /-- the dict of an exception -/
  | xd (fs : List (Str × V))
  /-- a bound method, f of x -/
  | met (f x : Addr)
  /-- a range object lo, lo + 1, .. below hi -/
  | rng (lo hi : Int)
  /-- a thing that is known to the object (the script; a dict while a loop walks it): read, never written while it is so -/
  | frz (o : Obj) (u : HO)
  /-- a code object's table -/
  | tbl (ps : Array Value)
  /-- any other thing, by what is true of its one object (a def of one's own: SetO a S n := HO.ext fun h => ..) -/
  | ext (φ : Heap → Prop)

abbrev Hp := Addr → Option HO
def upd (H : Hp) (a : Addr) (o : HO) : Hp := fun b => if b = a then some o else H b
theorem upd_same {H : Hp} {a : Addr} {o : HO} : upd H a o a = some o := by unfold upd; rw [if_pos rfl]
theorem upd_ne {H : Hp} {a b : Addr} {o : HO} (h : b ≠ a) : upd H a o b = H b := by unfold upd; rw [if_neg h]
/-- two objects of different content stand apart -/
theorem ne_of {H : Hp} {a b : Addr} {o u : HO} (h : H a = some o) (h' : H b = some u) (d : o ≠ u) : a ≠ b := by
  intro e; subst e; rw [h] at h'; exact d (Option.some.inj h')
theorem ne_of_none {H : Hp} {a b : Addr} {o : HO} (h : H a = some o) (h' : H b = none) : a ≠ b := by
  intro e; subst e; rw [h] at h'; cases h'

section
variable (P : Program) (w : World)
def ObjOk (H : Hp) (h : Heap) (a : Addr) : HO → Prop
  | .lst xs => xs.length ≤ sizeLine ∧ ∃ (its : List Value) (n : Nat), Vals xs its ∧ h.get? a = some { cls := .type "list", data := .seq its.toArray n }
  | .tup xs => xs.length ≤ sizeLine ∧ ∃ its : List Value, Vals xs its ∧ IsTup h a its.toArray
  | .dK kvs => kvs.length ≤ sizeLine ∧ (a == sysModules) = false ∧ ∃ vs, KV kvs vs ∧ h.DictOf (mixKind P w) a vs
  | .dT kvs => kvs.length ≤ sizeLine ∧ (a == sysModules) = false ∧ ∃ xs : List (List Key × Addr × Value),
      Paired (fun (p : List Key × V) (q : List Key × Addr × Value) => p.1 = q.1 ∧ H q.2.1 = some (.tup (p.1.map kV)) ∧ RelV p.2 q.2.2) kvs xs ∧
      ∃ o es ep, h.get? a = some o ∧ o.ExactDict ∧ o.data = .dict es ep ∧ es.toList = xs.map (entryOfKey (tupleKind (mixKind P w))) ∧ (xs.map (·.1)).Nodup
  | .set S n => h.SetOf (intKind P w) a S n
  | .ins C dx fs => H dx = some (.own a) ∧ fs.length ≤ 1000 ∧ dx ≠ a ∧ h.get? a = some (PySem.W.instObj C dx) ∧
      ∃ mA, h.Ns1 dx mA ∧ (∀ f, RelO (fs.lookup f) (mA f)) ∧ PySem.Within mA (fs.map (·.1))
  | .own _ => ∃ o, h.get? a = some o
  | .xd fs => ∃ mA, h.Ns1 a mA ∧ ∀ f, RelO (fs.lookup f) (mA f)
  | .rng lo hi => ∃ t u v, h.get? a = some { cls := .type "range", data := .fields #[.int lo t, .int hi u, .int 1 v] }
  | .frz o u => h.get? a = some o ∧ ObjOk H h a u
  | .tbl ps => h.get? a = some { cls := .none, data := .fields ps }
  | .met f x => h.get? a = some (PySem.W.methodObj (.ref f) (.ref x))
  | .ext φ => φ h ∧ (∃ o, h.get? a = some o) ∧ ∀ h1 h2 : Heap, φ h1 → (∀ o, h1.get? a = some o → h2.get? a = some o) → φ h2
/-- the abstract heap is held -/
def HOk (H : Hp) (h : Heap) : Prop := ∀ a o, H a = some o → ObjOk P w H h a o
end

section
variable {P : Program} {w : World} {H H' : Hp} {h h' : Heap} {a : Addr} {o : HO}
theorem ObjOk.lt (x : ObjOk P w H h a o) : a < h.objs.size := by
  cases o with
  | lst xs => obtain ⟨_, _, _, _, e⟩ := x; exact Heap.lt_size e
  | tup xs => obtain ⟨_, _, _, p⟩ := x; exact p.lt
  | dK kvs => obtain ⟨_, _, _, _, o, _, _, e, _⟩ := x; exact Heap.lt_size e
  | dT kvs => obtain ⟨_, _, _, _, o, _, _, e, _⟩ := x; exact Heap.lt_size e
  | set S n => obtain ⟨o, _, _, _, e, _⟩ := x; exact Heap.lt_size e
  | ins C dx fs => obtain ⟨_, _, _, e, _⟩ := x; exact Heap.lt_size e
  | own y => obtain ⟨_, e⟩ := x; exact Heap.lt_size e
  | xd fs => obtain ⟨_, ⟨_, _, _, e, _⟩, _⟩ := x; exact Heap.lt_size e
  | rng lo hi => obtain ⟨_, _, _, e⟩ := x; exact Heap.lt_size e
  | frz ob u => obtain ⟨e, _⟩ := x; exact Heap.lt_size e
  | tbl ps => exact Heap.lt_size (show h.get? a = some _ from x)
  | met f y => exact Heap.lt_size (show h.get? a = some _ from x)
  | ext φ => obtain ⟨_, ⟨_, e⟩, _⟩ := x; exact Heap.lt_size e
theorem Paired.mapP {α β : Type} {F G : α → β → Prop} : ∀ {l₁ : List α} {l₂ : List β}, Paired F l₁ l₂ → (∀ a b, F a b → G a b) → Paired G l₁ l₂
  | _, _, .nil, _ => .nil
  | _, _, .cons r t, f => .cons (f _ _ r) (Paired.mapP t f)
theorem Paired.imp' {α β : Type} {F G : α → β → Prop} (f : ∀ a b, F a b → G a b) {l₁ : List α} {l₂ : List β} (r : Paired F l₁ l₂) : Paired G l₁ l₂ := Paired.mapP r f
/-- what an object's description leans on: its own object, its own dict, the tuples -/
theorem ObjOk.stay (x : ObjOk P w H h a o) (k : ∀ b u, (b = a ∨ H b = some (.own a)) → h.get? b = some u → h'.get? b = some u)
    (ho : ∀ b, H b = some (.own a) → H' b = some (.own a)) (ht : ∀ b xs, H b = some (.tup xs) → H' b = some (.tup xs)) : ObjOk P w H' h' a o := by
  induction o with
  | lst xs => obtain ⟨z, its, n, r, e⟩ := x; exact ⟨z, its, n, r, k _ _ (.inl rfl) e⟩
  | tup xs => obtain ⟨z, its, r, ob, e, c⟩ := x; exact ⟨z, its, r, ob, k _ _ (.inl rfl) e, c⟩
  | dK kvs => obtain ⟨z, y, vs, r, ob, es, ep, e, c⟩ := x; exact ⟨z, y, vs, r, ob, es, ep, k _ _ (.inl rfl) e, c⟩
  | dT kvs =>
    obtain ⟨z, y, xs, r, ob, es, ep, e, c⟩ := x
    exact ⟨z, y, xs, Paired.mapP r fun p q z => ⟨z.1, ht _ _ z.2.1, z.2.2⟩, ob, es, ep, k _ _ (.inl rfl) e, c⟩
  | set S n => obtain ⟨ob, es, ep, t, e, c⟩ := x; exact ⟨ob, es, ep, t, k _ _ (.inl rfl) e, c⟩
  | ins C dx fs =>
    obtain ⟨d, z, ne, e, mA, ⟨od, es, ep, e2, c⟩, r⟩ := x
    exact ⟨ho _ d, z, ne, k _ _ (.inl rfl) e, mA, ⟨od, es, ep, k _ _ (.inr d) e2, c⟩, r⟩
  | own y => obtain ⟨ob, e⟩ := x; exact ⟨ob, k _ _ (.inl rfl) e⟩
  | xd fs => obtain ⟨mA, ⟨od, es, ep, e, c⟩, r⟩ := x; exact ⟨mA, ⟨od, es, ep, k _ _ (.inl rfl) e, c⟩, r⟩
  | rng lo hi => obtain ⟨t, u, v, e⟩ := x; exact ⟨t, u, v, k _ _ (.inl rfl) e⟩
  | frz ob u ih => obtain ⟨e, q⟩ := x; exact ⟨k _ _ (.inl rfl) e, ih q⟩
  | tbl ps =>
    have e : h.get? a = some { cls := .none, data := .fields ps } := x
    show h'.get? a = some { cls := .none, data := .fields ps }
    exact k a _ (.inl rfl) e
  | met f y =>
    have e : h.get? a = some (PySem.W.methodObj (.ref f) (.ref y)) := x
    show h'.get? a = some (PySem.W.methodObj (.ref f) (.ref y))
    exact k a _ (.inl rfl) e
  | ext φ => obtain ⟨p, ⟨o, e⟩, st⟩ := x; exact ⟨st _ _ p fun o q => k _ _ (.inl rfl) q, ⟨o, k _ _ (.inl rfl) e⟩, st⟩
theorem HOk.lt (x : HOk P w H h) (e : H a = some o) : a < h.objs.size := (x a o e).lt
theorem HOk.fresh (x : HOk P w H h) (e : h.objs.size ≤ a) : H a = none := by
  cases q : H a with
  | none => rfl
  | some u => exact absurd (Nat.lt_of_lt_of_le (x.lt q) e) (Nat.lt_irrefl _)
/-- every object of the heap is kept -/
theorem HOk.kept (x : HOk P w H h) (k : ∀ b u, h.get? b = some u → h'.get? b = some u) : HOk P w H h' := fun a o e =>
  (x a o e).stay (fun b u _ q => k b u q) (fun _ q => q) fun _ _ q => q
/-- a new object is laid and tracked -/
theorem HOk.laid (x : HOk P w H h) (k : ∀ b u, h.get? b = some u → h'.get? b = some u) (hp : h.objs.size ≤ a) (new : ObjOk P w (upd H a o) h' a o) : HOk P w (upd H a o) h' := fun b u e => by
  have hn := x.fresh hp
  by_cases hb : b = a
  · subst hb; rw [upd_same] at e; cases e; exact new
  · rw [upd_ne hb] at e
    exact (x b u e).stay (fun c v _ q => k c v q) (fun c q => by rw [upd_ne (ne_of_none q hn)]; exact q) fun c xs q => by rw [upd_ne (ne_of_none q hn)]; exact q
end

/-- what may be read as u: it is u, or a known u -/
def Rd (H : Hp) (a : Addr) (u : HO) : Prop := H a = some u ∨ ∃ o, H a = some (.frz o u)
theorem Rd.of {H : Hp} {a : Addr} {u : HO} (h : H a = some u) : Rd H a u := .inl h
theorem Rd.ok {P : Program} {w : World} {H : Hp} {h : Heap} {a : Addr} {u : HO} (r : Rd H a u) (x : HOk P w H h) : ObjOk P w H h a u := by
  rcases r with r | ⟨o, r⟩
  · exact x a u r
  · obtain ⟨_, q⟩ := x a _ r
    exact q
/-- what may be written -/
def Mut : Option HO → Prop
  | some (.lst _) => True
  | some (.dK _) => True
  | some (.dT _) => True
  | some (.set _ _) => True
  | some (.ins _ _ _) => True
  | some (.ext _) => True
  | _ => False
section
variable {P : Program} {w : World} {H : Hp} {h h' : Heap} {x e : Addr} {o' : HO}
/-- the object at e is changed: x itself, or the dict of the instance x -/
theorem HOk.write (ok : HOk P w H h) (mu : Mut (H x)) (he : e = x ∨ H e = some (.own x)) (k : ∀ b u, b ≠ e → h.get? b = some u → h'.get? b = some u) (heo : ∃ u, h'.get? e = some u)
    (new : ObjOk P w (upd H x o') h' x o') : HOk P w (upd H x o') h' := fun b u q => by
  have nown : ∀ c y, H c = some (.own y) → c ≠ x := fun c y r z => by subst z; rw [r] at mu; exact mu
  have ntup : ∀ c xs, H c = some (.tup xs) → c ≠ x := fun c xs r z => by subst z; rw [r] at mu; exact mu
  by_cases hb : b = x
  · subst hb; rw [upd_same] at q; cases q; exact new
  · rw [upd_ne hb] at q
    by_cases hbe : b = e
    · have q' : H b = some (.own x) := by
        rcases he with z | z
        · exact absurd (hbe.trans z) hb
        · rw [hbe]; exact z
      rw [q] at q'; cases q'
      obtain ⟨v, hv⟩ := heo
      exact ⟨v, by rw [hbe]; exact hv⟩
    · refine (ok b u q).stay (fun c v hc r => k c v ?_ r) (fun c r => by rw [upd_ne (nown c b r)]; exact r) fun c xs r => by rw [upd_ne (ntup c xs r)]; exact r
      rcases hc with rfl | hc
      · exact hbe
      · rintro rfl
        rcases he with z | z
        · exact nown c b hc z
        · rw [hc] at z; cases z; exact hb rfl
end

/-! ### kept unless tracked; of the frames at fs (the callers') the slots may change (an exception that passes writes there); of the records at ex (iterators) nothing is said -/
structure Un (fs ex : List Addr) (H H' : Hp) (h h' : Heap) : Prop where
  keep : ∀ b o, h.get? b = some o → H b = none → b ∉ fs → b ∉ ex → h'.get? b = some o
  slot : ∀ b o, h.get? b = some o → H b = none → b ∈ fs → b ∉ ex → ∃ sl, h'.get? b = some { o with slots := sl }
  free : ∀ b o, h.get? b = some o → H b = none → b ∉ ex → H' b = none
  there : ∀ b o, h.get? b = some o → b ∉ ex → ∃ o', h'.get? b = some o'
  tups : ∀ b xs, H b = some (.tup xs) → H' b = some (.tup xs)
  frzs : ∀ b o u, H b = some (.frz o u) → H' b = some (.frz o u)
  tbls : ∀ b ps, H b = some (.tbl ps) → ∃ more, H' b = some (.tbl (ps ++ more))
section
variable {fs fs' ex ex' : List Addr} {H H1 H2 : Hp} {h h1 h2 h' : Heap} {a x e : Addr} {o : HO}
theorem Un.any (u : Un fs ex H H1 h h1) {b : Addr} {ob : Obj} (q : h.get? b = some ob) (n : H b = none) (hx : b ∉ ex) : ∃ sl, h1.get? b = some { ob with slots := sl } := by
  by_cases hb : b ∈ fs
  · exact u.slot b ob q n hb hx
  · exact ⟨ob.slots, u.keep b ob q n hb hx⟩
theorem Un.trans (a : Un fs ex H H1 h h1) (b : Un fs ex H1 H2 h1 h2) : Un fs ex H H2 h h2 where
  keep := fun c ob q n hc hx => b.keep c ob (a.keep c ob q n hc hx) (a.free c ob q n hx) hc hx
  slot := fun c ob q n hc hx => by
    obtain ⟨sl, e1⟩ := a.slot c ob q n hc hx
    obtain ⟨sl', e2⟩ := b.slot c _ e1 (a.free c ob q n hx) hc hx
    exact ⟨sl', e2⟩
  free := fun c ob q n hx => by
    obtain ⟨o', e1⟩ := a.there c ob q hx
    exact b.free c o' e1 (a.free c ob q n hx) hx
  there := fun c ob q hx => by
    obtain ⟨o', e1⟩ := a.there c ob q hx
    exact b.there c o' e1 hx
  tups := fun c xs q => b.tups c xs (a.tups c xs q)
  frzs := fun c ob xs q => b.frzs c ob xs (a.frzs c ob xs q)
  tbls := fun c ps q => by
    obtain ⟨m1, e1⟩ := a.tbls c ps q
    obtain ⟨m2, e2⟩ := b.tbls c _ e1
    exact ⟨m1 ++ m2, by rw [e2, Array.append_assoc]⟩
theorem Un.kept (k : ∀ b u, h.get? b = some u → h'.get? b = some u) : Un fs ex H H h h' :=
  ⟨fun b ob q _ _ _ => k b ob q, fun b ob q _ _ _ => ⟨ob.slots, k b ob q⟩, fun _ _ _ n _ => n, fun b ob q _ => ⟨ob, k b ob q⟩, fun _ _ q => q, fun _ _ _ q => q, fun _ ps q => ⟨#[], by rw [q]; simp⟩⟩
theorem Un.refl : Un fs ex H H h h := Un.kept fun _ _ q => q
theorem Un.laid (k : ∀ b u, h.get? b = some u → h'.get? b = some u) (hp : h.objs.size ≤ a) (hn : H a = none) : Un fs ex H (upd H a o) h h' where
  keep := fun b u q _ _ _ => k b u q
  slot := fun b u q _ _ _ => ⟨u.slots, k b u q⟩
  free := fun b u q n _ => by rw [upd_ne (Nat.ne_of_lt (Nat.lt_of_lt_of_le (Heap.lt_size q) hp))]; exact n
  there := fun b u q _ => ⟨u, k b u q⟩
  tups := fun b xs q => by rw [upd_ne (ne_of_none q hn)]; exact q
  frzs := fun b u xs q => by rw [upd_ne (ne_of_none q hn)]; exact q
  tbls := fun b ps q => ⟨#[], by rw [upd_ne (ne_of_none q hn), q]; simp⟩
theorem Un.write (mu : Mut (H x)) (he : e = x ∨ H e = some (.own x)) (k : ∀ b u, b ≠ e → h.get? b = some u → h'.get? b = some u) (heo : ∃ u, h'.get? e = some u) : Un fs ex H (upd H x o) h h' := by
  have hx : ∀ b, H b = none → b ≠ x := fun b n z => by subst z; rw [n] at mu; exact mu
  have hb : ∀ b, H b = none → b ≠ e := fun b n z => by
    subst z
    rcases he with r | r
    · exact hx b n r
    · rw [n] at r; cases r
  have hm : ∀ b u, H b = some u → ¬ Mut (some u) → b ≠ x := fun b u q nm z => by subst z; rw [q] at mu; exact nm mu
  refine ⟨fun b u q n _ _ => k b u (hb b n) q, fun b u q n _ _ => ⟨u.slots, k b u (hb b n) q⟩, fun b u q n _ => by rw [upd_ne (hx b n)]; exact n, fun b u q _ => ?_,
    fun b xs q => by rw [upd_ne (hm b _ q fun z => z)]; exact q, fun b u xs q => by rw [upd_ne (hm b _ q fun z => z)]; exact q, fun b ps q => ⟨#[], by rw [upd_ne (hm b _ q fun z => z), q]; simp⟩⟩
  by_cases hbe : b = e
  · subst hbe; exact heo
  · exact ⟨u, k b u hbe q⟩
theorem Un.mono (u : Un fs ex H H1 h h1) (hs : ∀ b ∈ fs, b ∈ fs') (hx : ∀ b ∈ ex, b ∈ ex') : Un fs' ex' H H1 h h1 :=
  ⟨fun b ob q n hb he => u.keep b ob q n (fun z => hb (hs b z)) fun z => he (hx b z), fun _ _ q n _ he => u.any q n fun z => he (hx _ z), fun b ob q n he => u.free b ob q n fun z => he (hx b z), fun b ob q he => u.there b ob q fun z => he (hx b z), u.tups, u.frzs, u.tbls⟩
end

/-! ### the heap without what is tracked -/
def trk (h : Heap) (H : Hp) : List Addr := (List.range h.objs.size).filter fun a => (H a).isSome
def hidT (h : Heap) (H : Hp) : Heap := PySem.W.hideAll h (trk h H)
theorem hidT_size (h : Heap) (H : Hp) : (hidT h H).objs.size = h.objs.size := PySem.W.hideAll_size _ _
theorem hidT_get {h : Heap} {H : Hp} {b : Addr} {o : Obj} (e : h.get? b = some o) (n : H b = none) : (hidT h H).get? b = some o :=
  PySem.W.hideAll_get _ e fun hm => by
    have q : (H b).isSome = true := (List.mem_filter.mp hm).2
    rw [n] at q; simp at q
theorem of_hidT {h : Heap} {H : Hp} {b : Addr} {o : Obj} (e : (hidT h H).get? b = some o) : h.get? b = some o ∧ H b = none := by
  have e' : h.get? b = some o := PySem.W.of_hideAll (trk h H) e
  refine ⟨e', ?_⟩
  cases q : H b with
  | none => rfl
  | some x =>
    have hm : b ∈ trk h H := List.mem_filter.mpr ⟨List.mem_range.mpr (Heap.lt_size e'), by simp [q]⟩
    have z : (hidT h H).get? b = none := PySem.W.hideAll_none (trk h H) hm
    rw [z] at e; cases e

/-! ### OpenK's ledger, filled with every new object but one -/
def allNews (g h : Heap) (L : Addr) : List (Addr × Obj) := (List.range h.objs.size).filterMap fun a => if a = L ∨ (g.get? a).isSome = true then none else (h.get? a).map fun o => (a, o)
def rest (g h : Heap) (L d : Addr) : List (Addr × Obj) := (allNews g h L).filter fun p => decide (p.1 ≠ d)
end L2

namespace L2
open PySem PySem.Spec PyProof.Rows

/-- the module's facts, over the base: the heap at the law's entry without what is tracked there -/
structure Mod (K : PySem.W.Frag) (mg : Str → Option Value) (base : Heap) : Prop where
  kin : K.In base
  glob : base.Ns mainGlobals mg
  blt : ∃ mb, base.Ns builtinsNs mb ∧ ∀ x : Str, x ≠ "__name__" → mb x = bootBuiltins x
  nolimit : base.NoLimit

/-- the context: a def's body (or a comprehension's block) running. base: fixed through the whole law; s₀, H₀: the entry; outer: the frames whose slots others may change (a def's callers); stack: all frames that run;
   ex: iterators that were made ahead of the entry and are walked here (a comprehension's); fn: the names whose cells were made at the entry (a def: all; a comprehension's block: its own); calm: not within an except suite; pn: pins that every state bears; xe: what is wanted of an exception that leaves the code -/
structure Cx where
  prog : Program
  w : World
  K : PySem.W.Frag
  mg : Str → Option Value
  base : Heap
  A : Around
  N : List Str
  s₀ : Shared
  H₀ : Hp
  env : Env
  outer : List Env
  stack : List Env
  ex : List Addr
  fn : Str → Bool
  calm : Bool
  pn : List (Addr × Obj)
  xe : Value → Shared → Prop
/-- the callers' frames -/
def frs (l : List Env) : List Addr := l.filterMap (·.frame)
abbrev Cx.fs (X : Cx) : List Addr := frs X.outer

def Vis (sc : Scope) (x : Str) : Prop := sc.names.lookup x = some .local ∨ sc.names.lookup x = some .cell ∨ sc.names.lookup x = some .free
def Loc (sc : Scope) (x : Str) : Prop := sc.names.lookup x = some .local ∨ sc.names.lookup x = some .cell
def Look (env : Env) (h : Heap) (m : Str → Option Value) (x : Str) (u : Value) : Prop :=
  (env.kindOf x = some .local ∧ m x = some u) ∨ ((env.kindOf x = some .cell ∨ env.kindOf x = some .free) ∧ ∃ c, env.cells.lookup x = some c ∧ h.IsCell c (some u))

structure Cx.Ok (X : Cx) : Prop where
  mod : Mod X.K X.mg X.base
  kind : X.env.scope.kind = .function
  glob : X.env.globals = mainGlobals
  blt : X.env.builtins = builtinsNs
  above : X.s₀.heap.objs.size ≤ X.env.locals
  inj : ∀ x y c, X.env.cells.lookup x = some c → X.env.cells.lookup y = some c → x = y
  has : ∀ x, (X.env.kindOf x = some .cell ∨ X.env.kindOf x = some .free) → ∃ c, X.env.cells.lookup x = some c
  cab : ∀ x c, X.fn x = true → X.env.cells.lookup x = some c → X.s₀.heap.objs.size ≤ c
  hd : X.calm = true → X.A.handled = none
  frames : X.A.frames = some X.stack
  stk : X.stack = X.outer ∨ (X.stack = X.env :: X.outer ∧ X.env.frame = some X.env.locals)
  exf : ∀ b ∈ X.ex, b ≠ X.env.locals ∧ ∀ x c, X.env.cells.lookup x = some c → c ≠ b
  bs : ∀ b o, X.base.get? b = some o → X.s₀.heap.get? b = some o ∧ X.H₀ b = none
  bsz : X.base.objs.size ≤ X.s₀.heap.objs.size
  noex : ∀ b o, X.base.get? b = some o → b ∉ X.ex
  exfs : ∀ b ∈ X.ex, b ∉ X.fs
  funs : X.s₀.heap.FunFrames X.base X.outer
  frf : ∀ b ∈ X.fs, X.H₀ b = none

structure Inv (X : Cx) (pins : List (Addr × Obj)) (σ : List (Option V)) (H : Hp) (s : Shared) : Prop where
  ok : X.Ok
  os : s.os = X.s₀.os
  bare : AllBare s.gens
  base : Un X.fs X.ex X.H₀ H X.s₀.heap s.heap
  loc : ∃ m, s.heap.Ns X.env.locals m ∧ ∀ (i : Nat) (x : Str) (v : V), X.N[i]? = some x → σ[i]? = some (some v) → Vis X.env.scope x → ∃ u, RelV v u ∧ Look X.env s.heap m x u
  cell : ∀ x c, X.env.cells.lookup x = some c → ∃ v, s.heap.IsCell c v
  free : H X.env.locals = none
  freeC : ∀ x c, X.env.cells.lookup x = some c → H c = none
  pin : ∀ p ∈ X.pn ++ pins, s.heap.get? p.1 = some p.2 ∧ H p.1 = none ∧ p.1 ≠ X.env.locals ∧ p.1 ∉ X.fs ∧ ∀ v, p.2.data ≠ .cell v
  hok : HOk X.prog X.w H s.heap
  len : σ.length = X.N.length

section
variable {X : Cx} {pins : List (Addr × Obj)} {σ : List (Option V)} {H H' : Hp} {s : Shared} {h' : Heap}

theorem Cx.Ok.nofr (ok : X.Ok) {b : Addr} {o : Obj} (e : X.base.get? b = some o) : b ∉ X.fs := fun hb => by
  have := (ok.funs.mem hb).1
  rw [e] at this; cases this
theorem Inv.bs (I : Inv X pins σ H s) : ∀ b o, X.base.get? b = some o → s.heap.get? b = some o ∧ H b = none := fun b o e =>
  ⟨I.base.keep b o (I.ok.bs b o e).1 (I.ok.bs b o e).2 (I.ok.nofr e) (I.ok.noex b o e), I.base.free b o (I.ok.bs b o e).1 (I.ok.bs b o e).2 (I.ok.noex b o e)⟩
theorem Inv.bk (I : Inv X pins σ H s) : ∀ b o, X.base.get? b = some o → s.heap.get? b = some o := fun b o e => (I.bs b o e).1
theorem Inv.mod (I : Inv X pins σ H s) : Mod X.K X.mg X.base := I.ok.mod
theorem Inv.kIn (I : Inv X pins σ H s) : X.K.In s.heap := I.ok.mod.kin.keeps I.bk
theorem Inv.nolimit (I : Inv X pins σ H s) : s.heap.NoLimit := I.ok.mod.nolimit.keeps I.bk
/-- the frame over the base: for OpenK's rules (K.In X.base is I.mod.kin) -/
theorem Inv.fr (I : Inv X pins σ H s) : ∃ m, Fr X.base X.env.locals s.heap m :=
  let ⟨m, hn, _⟩ := I.loc
  ⟨m, hn, I.bk, Nat.le_trans I.ok.bsz I.ok.above⟩
theorem Inv.lt (I : Inv X pins σ H s) : X.env.locals < s.heap.objs.size := let ⟨_, hn, _⟩ := I.loc; hn.lt
theorem Inv.sz (I : Inv X pins σ H s) : X.s₀.heap.objs.size ≤ s.heap.objs.size := Nat.le_trans I.ok.above (Nat.le_of_lt I.lt)
theorem Inv.nofs (I : Inv X pins σ H s) {a : Addr} (h : s.heap.objs.size ≤ a) : a ∉ X.fs := fun hb => by
  obtain ⟨_, o, ho, _⟩ := I.ok.funs.mem hb
  exact absurd (Nat.lt_of_lt_of_le (Heap.lt_size ho) (Nat.le_trans I.sz h)) (Nat.lt_irrefl _)
theorem Inv.cne (I : Inv X pins σ H s) : ∀ x c, X.env.cells.lookup x = some c → c ≠ X.env.locals := fun x c e z => by
  obtain ⟨v, o, ho, hd⟩ := I.cell x c e
  obtain ⟨m, ⟨o', es, ep, ho', hd', _⟩, _⟩ := I.loc
  rw [z, ho'] at ho; cases ho; rw [hd'] at hd; cases hd
theorem Inv.funs (I : Inv X pins σ H s) : s.heap.FunFrames X.base X.outer := by
  have all : ∀ (l : List Env), (∀ b ∈ frs l, b ∈ X.fs) → X.s₀.heap.FunFrames X.base l → s.heap.FunFrames X.base l := by
    intro l
    induction l with
    | nil => intro _ _; trivial
    | cons env r ih =>
      intro hs hl
      obtain ⟨hk, ⟨L, o, hf, hn, ho, hd⟩, hr⟩ := hl
      have hL : L ∈ X.fs := hs L (by unfold frs; rw [List.filterMap_cons, hf]; exact List.mem_cons_self)
      obtain ⟨sl, e⟩ := I.base.slot L o ho (I.ok.frf L hL) hL fun z => I.ok.exfs L z hL
      exact ⟨hk, ⟨L, _, hf, hn, e, hd⟩, ih (fun b hb => hs b (by unfold frs; rw [List.filterMap_cons, hf]; exact List.mem_cons_of_mem _ hb)) hr⟩
  exact all X.outer (fun _ hb => hb) I.ok.funs

/-- the frames that run, for a call -/
theorem Inv.stack (I : Inv X pins σ H s) : s.heap.FunFrames X.base X.stack := by
  rcases I.ok.stk with e | ⟨e, hf⟩
  · rw [e]; exact I.funs
  · rw [e]
    obtain ⟨m, hn, _⟩ := I.loc
    refine .cons (by rw [I.ok.kind]; decide) hf hn ?_ I.funs
    exact Heap.get?_none_of_le (Nat.le_trans I.ok.bsz I.ok.above)
theorem Inv.stkSub (I : Inv X pins σ H s) : ∀ b ∈ frs X.stack, b ∈ X.env.locals :: X.fs := fun b hb => by
  rcases I.ok.stk with e | ⟨e, hf⟩
  · rw [e] at hb; exact List.mem_cons_of_mem _ hb
  · rw [e] at hb
    unfold frs at hb
    rw [List.filterMap_cons, hf] at hb
    exact hb
theorem Inv.stkFree (I : Inv X pins σ H s) : ∀ b ∈ frs X.stack, H b = none := fun b hb => by
  rcases List.mem_cons.mp (I.stkSub b hb) with e | hb
  · rw [e]; exact I.free
  · obtain ⟨_, o, ho, _⟩ := I.ok.funs.mem hb
    exact I.base.free b o ho (I.ok.frf b hb) fun z => I.ok.exfs b z hb

/-- THE STEP: the untracked objects but the frame and the records at ch are kept (the callers' frames up to slots), the frame's map is kept, the new abstract heap is held -/
theorem Inv.step {g' : Array GenState} {t' : Nat} {d' : Drawn} {ch : List Addr} (I : Inv X pins σ H s)
    (hch : ∀ b ∈ ch, (b ∈ X.ex ∨ X.s₀.heap.objs.size ≤ b) ∧ b ≠ X.env.locals ∧ (∀ x c, X.env.cells.lookup x = some c → c ≠ b) ∧ ∀ p ∈ X.pn ++ pins, p.1 ≠ b)
    (keep : ∀ b o, b ≠ X.env.locals → b ∉ X.fs → b ∉ ch → s.heap.get? b = some o → H b = none → h'.get? b = some o)
    (slot : ∀ b o, b ≠ X.env.locals → b ∈ X.fs → b ∉ ch → s.heap.get? b = some o → H b = none → ∃ sl, h'.get? b = some { o with slots := sl }) (free : ∀ b o, b ∉ ch → s.heap.get? b = some o → H b = none → H' b = none)
    (there : ∀ b o, b ∉ ch → s.heap.get? b = some o → ∃ o', h'.get? b = some o')
    (tups : ∀ b xs, H b = some (.tup xs) → H' b = some (.tup xs)) (frzs : ∀ b o u, H b = some (.frz o u) → H' b = some (.frz o u)) (tbls : ∀ b ps, H b = some (.tbl ps) → ∃ more, H' b = some (.tbl (ps ++ more)))
    (ns : ∀ m, s.heap.Ns X.env.locals m → h'.Ns X.env.locals m) (hok : HOk X.prog X.w H' h') (hg : AllBare g') :
    Inv X pins σ H' { s with heap := h', gens := g', drawn := d', toks := t' } := by
  have neL : ∀ b o, X.s₀.heap.get? b = some o → b ≠ X.env.locals := fun b o e => Nat.ne_of_lt (Nat.lt_of_lt_of_le (Heap.lt_size e) I.ok.above)
  have neC : ∀ b o, X.s₀.heap.get? b = some o → b ∉ X.ex → b ∉ ch := fun b o e hx hb => by
    rcases (hch b hb).1 with z | z
    · exact hx z
    · exact absurd (Nat.lt_of_lt_of_le (Heap.lt_size e) z) (Nat.lt_irrefl _)
  have cellK : ∀ x c, X.env.cells.lookup x = some c → ∀ v, s.heap.IsCell c v → h'.IsCell c v := fun x c e v ⟨o, ho, hd⟩ => by
    have nch : c ∉ ch := fun z => (hch c z).2.2.1 x c e rfl
    by_cases hc : c ∈ X.fs
    · obtain ⟨sl, q⟩ := slot c o (I.cne x c e) hc nch ho (I.freeC x c e)
      exact ⟨_, q, hd⟩
    · exact ⟨o, keep c o (I.cne x c e) hc nch ho (I.freeC x c e), hd⟩
  refine ⟨I.ok, I.os, hg, ⟨fun b o e n hb hx => ?_, fun b o e n hb hx => ?_, fun b o e n hx => ?_, fun b o e hx => ?_, fun b xs e => tups b xs (I.base.tups b xs e), fun b o xs e => frzs b o xs (I.base.frzs b o xs e), fun b ps e => ?_⟩, ?_, fun x c e => ?_, ?_, fun x c e => ?_, fun p hp => ?_, hok, I.len⟩
  · exact keep b o (neL b o e) hb (neC b o e hx) (I.base.keep b o e n hb hx) (I.base.free b o e n hx)
  · obtain ⟨sl, e1⟩ := I.base.slot b o e n hb hx
    obtain ⟨sl', e2⟩ := slot b _ (neL b o e) hb (neC b o e hx) e1 (I.base.free b o e n hx)
    exact ⟨sl', e2⟩
  · obtain ⟨o', e1⟩ := I.base.there b o e hx
    exact free b o' (neC b o e hx) e1 (I.base.free b o e n hx)
  · obtain ⟨o', e1⟩ := I.base.there b o e hx
    exact there b o' (neC b o e hx) e1
  · obtain ⟨m1, e1⟩ := I.base.tbls b ps e
    obtain ⟨m2, e2⟩ := tbls b _ e1
    exact ⟨m1 ++ m2, by rw [e2, Array.append_assoc]⟩
  · obtain ⟨m, hn, hl⟩ := I.loc
    refine ⟨m, ns m hn, fun i x v e1 e2 e3 => ?_⟩
    obtain ⟨u, r, l⟩ := hl i x v e1 e2 e3
    refine ⟨u, r, ?_⟩
    rcases l with l | ⟨k, c, e, z⟩
    · exact .inl l
    · exact .inr ⟨k, c, e, cellK x c e _ z⟩
  · obtain ⟨v, z⟩ := I.cell x c e
    exact ⟨v, cellK x c e v z⟩
  · obtain ⟨m, ⟨o, _, _, ho, _⟩, _⟩ := I.loc
    exact free _ o (fun z => (hch _ z).2.1 rfl) ho I.free
  · obtain ⟨v, o, ho, hd⟩ := I.cell x c e
    exact free c o (fun z => (hch c z).2.2.1 x c e rfl) ho (I.freeC x c e)
  · obtain ⟨e, n, ne, nf, d⟩ := I.pin p hp
    have nch : p.1 ∉ ch := fun z => (hch p.1 z).2.2.2 p hp rfl
    exact ⟨keep p.1 p.2 ne nf nch e n, free p.1 p.2 nch e n, ne, nf, d⟩
/-- .. where the frame's own object is kept too -/
theorem Inv.un {t' : Nat} (I : Inv X pins σ H s) (u : Un X.fs [] H H' s.heap h') (hok : HOk X.prog X.w H' h') : Inv X pins σ H' { s with heap := h', toks := t' } := by
  obtain ⟨m, ⟨o, es, ep, ho, r⟩, _⟩ := id I.loc
  obtain ⟨sl, hL⟩ := u.any ho I.free (by simp)
  exact I.step (g' := s.gens) (d' := s.drawn) (ch := []) (fun _ z => nomatch z) (fun b o _ hb _ e n => u.keep b o e n hb (by simp)) (fun b o _ hb _ e n => u.slot b o e n hb (by simp)) (fun b o _ e n => u.free b o e n (by simp)) (fun b o _ e => u.there b o e (by simp)) u.tups u.frzs u.tbls (fun m' hm => by
    obtain ⟨o', es', ep', ho', r'⟩ := hm
    rw [ho] at ho'; cases ho'
    exact ⟨_, es', ep', hL, r'⟩) hok I.bare
/-- behind a call (or a comprehension's block): the slots of this frame may have changed too, the records at ch may have turned -/
theorem Inv.call {g' : Array GenState} {t' : Nat} {d' : Drawn} {ch : List Addr} (I : Inv X pins σ H s) (u : Un (frs X.stack) ch H H' s.heap h') (hok : HOk X.prog X.w H' h') (hg : AllBare g')
    (hch : ∀ b ∈ ch, (b ∈ X.ex ∨ X.s₀.heap.objs.size ≤ b) ∧ b ≠ X.env.locals ∧ (∀ x c, X.env.cells.lookup x = some c → c ≠ b) ∧ ∀ p ∈ X.pn ++ pins, p.1 ≠ b) :
    Inv X pins σ H' { s with heap := h', gens := g', drawn := d', toks := t' } := by
  obtain ⟨m, ⟨o, es, ep, ho, r⟩, _⟩ := id I.loc
  obtain ⟨sl, hL⟩ := u.any ho I.free fun z => (hch _ z).2.1 rfl
  exact I.step (ch := ch) hch (fun b o hL hb hc e n => u.keep b o e n (fun z => (List.mem_cons.mp (I.stkSub b z)).elim hL hb) hc) (fun b o _ _ hc e n => u.any e n hc) (fun b o hc e n => u.free b o e n hc) (fun b o hc e => u.there b o e hc) u.tups u.frzs u.tbls (fun m' hm => by
    obtain ⟨o', es', ep', ho', r'⟩ := hm
    rw [ho] at ho'; cases ho'
    exact ⟨_, es', ep', hL, r'⟩) hok hg
/-- an untracked record of ours (an iterator) has turned -/
theorem Inv.turned {t' : Nat} {it : Addr} (I : Inv X pins σ H s) (k : ∀ b o, b ≠ it → s.heap.get? b = some o → h'.get? b = some o) (hn : H it = none) (hL : it ≠ X.env.locals)
    (h1 : it ∈ X.ex ∨ X.s₀.heap.objs.size ≤ it) (h2 : ∀ x c, X.env.cells.lookup x = some c → c ≠ it) (h3 : ∀ p ∈ X.pn ++ pins, p.1 ≠ it) : Inv X pins σ H { s with heap := h', toks := t' } := by
  have nit : ∀ b u, H b = some u → b ≠ it := fun b u e z => by rw [z, hn] at e; cases e
  refine I.step (g' := s.gens) (d' := s.drawn) (ch := [it]) (fun b hb => ?_) (fun b o _ _ hc e _ => k b o (fun z => hc (by simp [z])) e) (fun b o _ _ hc e _ => ⟨o.slots, k b o (fun z => hc (by simp [z])) e⟩) (fun _ _ _ _ n => n)
    (fun b o hc e => ⟨o, k b o (fun z => hc (by simp [z])) e⟩) (fun _ _ e => e) (fun _ _ _ e => e) (fun b ps e => ⟨#[], by rw [e]; simp⟩) (fun m hm => ?_) (fun b u e => ?_) I.bare
  · have e : b = it := by simpa using hb
    subst e
    exact ⟨h1, hL, h2, h3⟩
  · obtain ⟨o, es, ep, ho, r⟩ := hm
    exact ⟨o, es, ep, k _ o (Ne.symm hL) ho, r⟩
  · refine (I.hok b u e).stay (fun c v hc q => k c v ?_ q) (fun _ q => q) fun _ _ q => q
    rcases hc with z | z
    · rw [z]; exact nit b u e
    · exact nit c _ z
theorem Inv.tok (I : Inv X pins σ H s) (t : Nat) : Inv X pins σ H { s with toks := t } := I.un (h' := s.heap) (t' := t) Un.refl I.hok
/-- all objects kept -/
theorem Inv.kept {t' : Nat} (I : Inv X pins σ H s) (k : ∀ b u, s.heap.get? b = some u → h'.get? b = some u) : Inv X pins σ H { s with heap := h', toks := t' } := I.un (Un.kept k) (I.hok.kept k)
/-- a new object laid and tracked -/
theorem Inv.laid {a : Addr} {o : HO} {t' : Nat} (I : Inv X pins σ H s) (k : ∀ b u, s.heap.get? b = some u → h'.get? b = some u) (hp : s.heap.objs.size ≤ a) (new : ObjOk X.prog X.w (upd H a o) h' a o) :
    Inv X pins σ (upd H a o) { s with heap := h', toks := t' } := I.un (Un.laid k hp (I.hok.fresh hp)) (I.hok.laid k hp new)
/-- an object written -/
theorem Inv.write {x e : Addr} {o : HO} {t' : Nat} (I : Inv X pins σ H s) (mu : Mut (H x)) (he : e = x ∨ H e = some (.own x)) (k : ∀ b u, b ≠ e → s.heap.get? b = some u → h'.get? b = some u) (heo : ∃ u, h'.get? e = some u)
    (new : ObjOk X.prog X.w (upd H x o) h' x o) : Inv X pins σ (upd H x o) { s with heap := h', toks := t' } := I.un (Un.write mu he k heo) (I.hok.write mu he k heo new)
/-- forgetting slots, pins -/
theorem Inv.weak {σ' : List (Option V)} (I : Inv X pins σ H s) (hl : σ'.length = σ.length) (w : ∀ (i : Nat) v, σ'[i]? = some (some v) → σ[i]? = some (some v)) : Inv X pins σ' H s :=
  ⟨I.ok, I.os, I.bare, I.base, let ⟨m, hn, hl'⟩ := I.loc; ⟨m, hn, fun i x v e1 e2 e3 => hl' i x v e1 (w i v e2) e3⟩, I.cell, I.free, I.freeC, I.pin, I.hok, hl.trans I.len⟩
theorem Inv.pins_of {pins' : List (Addr × Obj)} (I : Inv X pins σ H s) (h : ∀ p ∈ pins', s.heap.get? p.1 = some p.2 ∧ H p.1 = none ∧ p.1 ≠ X.env.locals ∧ p.1 ∉ X.fs ∧ ∀ v, p.2.data ≠ .cell v) : Inv X pins' σ H s :=
  ⟨I.ok, I.os, I.bare, I.base, I.loc, I.cell, I.free, I.freeC, fun p hp => (List.mem_append.mp hp).elim (fun z => I.pin p (List.mem_append_left _ z)) (h p), I.hok, I.len⟩

theorem nodup_ix {N : List Str} (hN : N.Nodup) {i j : Nat} {x : Str} (a : N[i]? = some x) (b : N[j]? = some x) : i = j := by
  obtain ⟨h1, e1⟩ := List.getElem?_eq_some_iff.mp a
  obtain ⟨h2, e2⟩ := List.getElem?_eq_some_iff.mp b
  exact (List.getElem_inj hN).mp (e1.trans e2.symm)

/-- a name is stored; what changed -/
theorem store_ok2 {M : Model} {A : Around} {E : Value → Shared → Prop} {i : Nat} {x : Str} {v : V} {u : Value} {Q : Unit → Shared → Prop} (I : Inv X pins σ H s) (hN : X.N.Nodup) (hi : X.N[i]? = some x) (hx : Loc X.env.scope x) (r : RelV v u)
    (h : ∀ s', Inv X pins (σ.set i (some v)) H s' → (∃ a, Heap.SameBut a s.heap s'.heap ∧ (a = X.env.locals ∨ X.env.cells.lookup x = some a)) → Q () s') (hf : X.fn x = true ∨ X.env.scope.names.lookup x = some .local := by first | exact .inl rfl | exact .inr rfl | assumption) : wpAny M A (storeName X.env x u) Q E s := by
  obtain ⟨m, hn, hl⟩ := id I.loc
  have hcls : (X.env.scope.kind == .class || (X.env.scope.kind == .module && X.env.locals != X.env.globals)) = false := by rw [I.ok.kind]; rfl
  have hiσ : i < σ.length := by rw [I.len]; exact (List.getElem?_eq_some_iff.mp hi).1
  have cne := I.cne
  have tracked : ∀ {a : Addr} {h' : Heap}, (∃ o, s.heap.get? a = some o ∧ H a = none) → Heap.SameBut a s.heap h' → HOk X.prog X.w H h' := fun {a h'} ha hs b ob e => by
    obtain ⟨_, _, hfree⟩ := ha
    refine (I.hok b ob e).stay (fun c w' hc q => (hs.2 c ?_).trans q) (fun _ q => q) fun _ _ q => q
    rintro rfl
    rcases hc with rfl | hc
    · rw [hfree] at e; cases e
    · rw [hfree] at hc; cases hc
  rcases hx with hk | hk
  · refine wpAny_storeName_local hk hn (fun h' hn' hs => ?_) hcls
    obtain ⟨oL, _, _, hoL, _⟩ := id hn
    refine h _ ⟨I.ok, I.os, I.bare, ⟨fun b o e n hb hx => ?_, fun b o e n hb hx => ?_, I.base.free, fun b o e hx => ?_, I.base.tups, I.base.frzs, I.base.tbls⟩, ⟨_, hn', fun j y v' e1 e2 e3 => ?_⟩, fun y c e => ?_, I.free, I.freeC, fun p hp => ?_, tracked ⟨oL, hoL, I.free⟩ hs, by simpa using I.len⟩ ⟨_, hs, .inl rfl⟩
    · exact (hs.2 b (Nat.ne_of_lt (Nat.lt_of_lt_of_le (Heap.lt_size e) I.ok.above))).trans (I.base.keep b o e n hb hx)
    · obtain ⟨sl, e1⟩ := I.base.slot b o e n hb hx
      exact ⟨sl, (hs.2 b (Nat.ne_of_lt (Nat.lt_of_lt_of_le (Heap.lt_size e) I.ok.above))).trans e1⟩
    · obtain ⟨o', e1⟩ := I.base.there b o e hx
      exact ⟨o', (hs.2 b (Nat.ne_of_lt (Nat.lt_of_lt_of_le (Heap.lt_size e) I.ok.above))).trans e1⟩
    · by_cases hj : j = i
      · subst hj
        rw [hi] at e1; cases e1
        rw [List.getElem?_set_self hiσ] at e2
        cases e2
        exact ⟨u, r, .inl ⟨hk, by simp⟩⟩
      · rw [List.getElem?_set_ne (Ne.symm hj)] at e2
        obtain ⟨u', r', q⟩ := hl j y v' e1 e2 e3
        refine ⟨u', r', ?_⟩
        rcases q with ⟨k, e⟩ | ⟨k, c, e, z⟩
        · refine .inl ⟨k, ?_⟩
          have : y ≠ x := fun e => hj (nodup_ix hN e1 (e ▸ hi))
          simp [this, e]
        · exact .inr ⟨k, c, e, z.sameBut hs (cne y c e)⟩
    · obtain ⟨w', z⟩ := I.cell y c e
      exact ⟨w', z.sameBut hs (cne y c e)⟩
    · obtain ⟨e, n, ne, nf, d⟩ := I.pin p hp
      exact ⟨(hs.2 p.1 ne).trans e, n, ne, nf, d⟩
  · have hfn : X.fn x = true := by
      rcases hf with z | z
      · exact z
      · rw [z] at hk; cases hk
    obtain ⟨c, hc⟩ := I.ok.has x (.inl hk)
    obtain ⟨w', z⟩ := I.cell x c hc
    refine wpAny_storeName_cell I.ok.kind hk hc z (fun h' hc' hs => ?_)
    obtain ⟨oc, hoc, hocd⟩ := id z
    refine h { s with heap := h' } ⟨I.ok, I.os, I.bare, ⟨fun b o e n hb hx => ?_, fun b o e n hb hx => ?_, I.base.free, fun b o e hx => ?_, I.base.tups, I.base.frzs, I.base.tbls⟩, ⟨m, hn.sameBut hs (Ne.symm (cne x c hc)), fun j y v' e1 e2 e3 => ?_⟩, fun y c' e => ?_, I.free, I.freeC, fun p hp => ?_, tracked ⟨oc, hoc, I.freeC x c hc⟩ hs, by simpa using I.len⟩ ⟨c, hs, .inr hc⟩
    · exact (hs.2 b (Nat.ne_of_lt (Nat.lt_of_lt_of_le (Heap.lt_size e) (I.ok.cab x c hfn hc)))).trans (I.base.keep b o e n hb hx)
    · obtain ⟨sl, e1⟩ := I.base.slot b o e n hb hx
      exact ⟨sl, (hs.2 b (Nat.ne_of_lt (Nat.lt_of_lt_of_le (Heap.lt_size e) (I.ok.cab x c hfn hc)))).trans e1⟩
    · obtain ⟨o', e1⟩ := I.base.there b o e hx
      exact ⟨o', (hs.2 b (Nat.ne_of_lt (Nat.lt_of_lt_of_le (Heap.lt_size e) (I.ok.cab x c hfn hc)))).trans e1⟩
    · by_cases hj : j = i
      · subst hj
        rw [hi] at e1; cases e1
        rw [List.getElem?_set_self hiσ] at e2
        cases e2
        exact ⟨u, r, .inr ⟨.inl hk, c, hc, hc'⟩⟩
      · rw [List.getElem?_set_ne (Ne.symm hj)] at e2
        obtain ⟨u', r', q⟩ := hl j y v' e1 e2 e3
        refine ⟨u', r', ?_⟩
        rcases q with q | ⟨k, c', e, z'⟩
        · exact .inl q
        · refine .inr ⟨k, c', e, z'.sameBut hs ?_⟩
          rintro rfl
          exact hj (nodup_ix hN e1 (I.ok.inj _ _ _ e hc ▸ hi))
    · by_cases hcc : c' = c
      · subst hcc; exact ⟨_, hc'⟩
      · obtain ⟨w2, z2⟩ := I.cell y c' e
        exact ⟨w2, z2.sameBut hs hcc⟩
    · obtain ⟨e, n, ne, nf, d⟩ := I.pin p hp
      refine ⟨(hs.2 p.1 ?_).trans e, n, ne, nf, d⟩
      intro q
      rw [q, hoc] at e
      have q' : oc = p.2 := Option.some.inj e
      exact d w' (by rw [← q']; exact hocd)
theorem store_ok {M : Model} {A : Around} {E : Value → Shared → Prop} {i : Nat} {x : Str} {v : V} {u : Value} {Q : Unit → Shared → Prop} (I : Inv X pins σ H s) (hN : X.N.Nodup) (hi : X.N[i]? = some x) (hx : Loc X.env.scope x) (r : RelV v u)
    (h : ∀ s', Inv X pins (σ.set i (some v)) H s' → Q () s') (hf : X.fn x = true ∨ X.env.scope.names.lookup x = some .local := by first | exact .inl rfl | exact .inr rfl | assumption) : wpAny M A (storeName X.env x u) Q E s :=
  store_ok2 I hN hi hx r (fun s' I' _ => h s' I') hf
/-- behind a call or a block, the state as it is -/
theorem Inv.call' {s' : Shared} {ch : List Addr} (I : Inv X pins σ H s) (ho : s'.os = s.os) (u : Un (frs X.stack) ch H H' s.heap s'.heap) (hok : HOk X.prog X.w H' s'.heap) (hg : AllBare s'.gens)
    (hch : ∀ b ∈ ch, (b ∈ X.ex ∨ X.s₀.heap.objs.size ≤ b) ∧ b ≠ X.env.locals ∧ (∀ x c, X.env.cells.lookup x = some c → c ≠ b) ∧ ∀ p ∈ X.pn ++ pins, p.1 ≠ b) : Inv X pins σ H' s' := by
  obtain ⟨h', g', d', t', o'⟩ := s'
  have e : o' = s.os := ho
  subst e
  exact I.call (g' := g') (t' := t') (d' := d') u hok hg hch
end

/-! ### the judgements -/
/-- an exception: its class, its own dict's address (where it has one), the abstract heap behind it -/
abbrev XK := Value → Option Addr → Hp → Prop
abbrev St := List (Option V)
abbrev VK := V → Hp → Prop
/-- an expression's reading; a test's; an argument list's -/
abbrev TE := St → Hp → VK → Prop
abbrev TT := St → Hp → (Bool → Hp → Prop) → Prop
abbrev TA := St → Hp → (List V → Hp → Prop) → Prop
/-- what is wanted behind a statement -/
structure Ends where
  nx : St → Hp → Prop
  rt : VK
  bk : St → Hp → Prop := fun _ _ => False
  ct : St → Hp → Prop := fun _ _ => False
abbrev TS := Ends → St → Hp → Prop

def EP (X : Cx) (pins : List (Addr × Obj)) (σ : St) (Q : VK) (u : Value) (s' : Shared) : Prop := ∃ v H', Inv X pins σ H' s' ∧ RelV v u ∧ Q v H'
def TP (X : Cx) (pins : List (Addr × Obj)) (σ : St) (Q : Bool → Hp → Prop) (b : Bool) (s' : Shared) : Prop := ∃ H', Inv X pins σ H' s' ∧ Q b H'
def AP (X : Cx) (pins : List (Addr × Obj)) (σ : St) (Q : List V → Hp → Prop) (us : List Value) (s' : Shared) : Prop := ∃ vs H', Inv X pins σ H' s' ∧ Vals vs us ∧ Q vs H'
def SP (X : Cx) (pins : List (Addr × Obj)) (D : Ends) (f : Flow) (s' : Shared) : Prop :=
  match f with
  | .next => ∃ σ' H', Inv X pins σ' H' s' ∧ D.nx σ' H'
  | .brk => ∃ σ' H', Inv X pins σ' H' s' ∧ D.bk σ' H'
  | .cont => ∃ σ' H', Inv X pins σ' H' s' ∧ D.ct σ' H'
  | .ret u => ∃ v σ' H', Inv X pins σ' H' s' ∧ RelV v u ∧ D.rt v H'

def PE (X : Cx) (e : Expr) (t : TE) : Prop :=
  ∀ (pins : List (Addr × Obj)) (s : Shared) (σ : St) (H : Hp) (Q : VK), Inv X pins σ H s → t σ H Q → wpAny (model X.prog X.w) X.A (eval e X.env) (EP X pins σ Q) X.xe s
def PT (X : Cx) (e : Expr) (t : TT) : Prop :=
  ∀ (pins : List (Addr × Obj)) (s : Shared) (σ : St) (H : Hp) (Q : Bool → Hp → Prop), Inv X pins σ H s → t σ H Q → wpAny (model X.prog X.w) X.A (isTrue e X.env (eval e X.env)) (TP X pins σ Q) X.xe s
/-- a test whatever its 'whole' is (and, or) -/
def PW (X : Cx) (e : Expr) (t : TT) : Prop :=
  ∀ (whole : Sem Value) (pins : List (Addr × Obj)) (s : Shared) (σ : St) (H : Hp) (Q : Bool → Hp → Prop), Inv X pins σ H s → t σ H Q → wpAny (model X.prog X.w) X.A (isTrue e X.env whole) (TP X pins σ Q) X.xe s
theorem PW.pt {X : Cx} {e : Expr} {t : TT} (h : PW X e t) : PT X e t := h _
/-- an argument list (no star), from the left -/
def PA (X : Cx) (es : List Expr) (t : TA) : Prop :=
  ∀ (pos : Pos) (pins : List (Addr × Obj)) (s : Shared) (σ : St) (H : Hp) (Q : List V → Hp → Prop), Inv X pins σ H s → t σ H Q → wpAny (model X.prog X.w) X.A (spliced (backTo pos (starEach es X.env))) (AP X pins σ Q) X.xe s
def PS (X : Cx) (st : Stmt) (t : TS) : Prop :=
  ∀ (pins : List (Addr × Obj)) (s : Shared) (σ : St) (H : Hp) (D : Ends), Inv X pins σ H s → t D σ H → wpAny (model X.prog X.w) X.A (exec st X.env) (SP X pins D) X.xe s
def PSs (X : Cx) (st : List Stmt) (t : TS) : Prop :=
  ∀ (pins : List (Addr × Obj)) (s : Shared) (σ : St) (H : Hp) (D : Ends), Inv X pins σ H s → t D σ H → wpAny (model X.prog X.w) X.A (execs st X.env) (SP X pins D) X.xe s
/-- weaken the end -/
theorem thn {α : Type} {t : Sem α} {Q Q' : α → Shared → Prop} {M : Model} {A : Around} {E : Value → Shared → Prop} {s : Shared} (h : wpAny M A t Q E s) (hQ : ∀ a s, Q a s → Q' a s) : wpAny M A t Q' E s := wpAny_mono h hQ fun _ _ x => x
end L2

namespace L2
open PySem PySem.Spec PyProof.Rows
section
variable {X : Cx}


/-! ### names and constants -/
def tVar (i : Nat) : TE := fun σ H Q => ∃ v, σ[i]? = some (some v) ∧ Q v H
def tC (v : V) : TE := fun _ H Q => Q v H
theorem pe_var {i : Nat} {x : Str} {pos : Pos} (hN : X.N[i]? = some x) (hv : Vis X.env.scope x) (hd : (x == ("__debug__" : Str)) = false := by decide) (hcd : (x == ("__classdict__" : Str)) = false := by decide) : PE X (.Name x pos) (tVar i) := by
  intro pins s σ H Q I h
  obtain ⟨v, e, h⟩ := h
  obtain ⟨m, hn, hl⟩ := I.loc
  obtain ⟨u, r, l⟩ := hl i x v hN e hv
  have fin : EP X pins σ Q u s := ⟨v, H, I, r, h⟩
  rcases l with ⟨hk, hm⟩ | ⟨hk, c, hc, hcell⟩
  · exact wpAny_Name (wpAny_loadName_local I.ok.kind hk hn hm fin) hd
  · rcases hk with hk | hk
    · exact wpAny_Name (wpAny_loadName_cell I.ok.kind hk hc hcell fin) hd
    · exact wpAny_Name (wpAny_loadName_free I.ok.kind hk hc hcell fin hcd) hd
theorem pe_int {i j pos} : PE X (.Constant (.int i) j pos) (tC (.int i)) := fun _ _ _ H _ I h => wpAny_Constant_int ⟨.int i, H, I.tok _, ⟨_, rfl⟩, h⟩
theorem pe_bl {b j pos} : PE X (.Constant (.bool b) j pos) (tC (.bl b)) := fun _ _ _ H _ I h => Constant_bool ⟨.bl b, H, I, rfl, h⟩
theorem pe_non {j pos} : PE X (.Constant .none j pos) (tC .non) := fun _ _ _ H _ I h => Constant_none ⟨.non, H, I, rfl, h⟩
theorem pe_str {x j pos} : PE X (.Constant (.str x) j pos) (tC (.str x)) := fun _ _ _ H _ I h => Calls.Constant_str ⟨.str x, H, I.tok _, ⟨_, rfl⟩, h⟩

/-- a global name of the def -/
def Gl (X : Cx) (x : Str) : Prop := X.env.kindOf x = some .globalImplicit
theorem ld_glob {E : Value → Shared → Prop} {pins : List (Addr × Obj)} {s : Shared} {σ : St} {H : Hp} {x : Str} {u : Value} {pos : Pos} {Q : Value → Shared → Prop} (I : Inv X pins σ H s) (hg : Gl X x) (hm : X.mg x = some u) (h : Q u s)
    (hd : (x == ("__debug__" : Str)) = false := by decide) : wpAny (model X.prog X.w) X.A (eval (.Name x pos) X.env) Q E s :=
  Calls.Name_function_global I.ok.kind hg (Calls.loadGlobal_global (by rw [I.ok.glob]; exact I.mod.glob.keeps I.bk) hm h) hd
theorem ld_blt {E : Value → Shared → Prop} {pins : List (Addr × Obj)} {s : Shared} {σ : St} {H : Hp} {x : Str} {u : Value} {pos : Pos} {Q : Value → Shared → Prop} (I : Inv X pins σ H s) (hg : Gl X x) (hm : X.mg x = none) (hv : bootBuiltins x = some u) (h : Q u s)
    (hn : x ≠ "__name__" := by decide) (hd : (x == ("__debug__" : Str)) = false := by decide) : wpAny (model X.prog X.w) X.A (eval (.Name x pos) X.env) Q E s := by
  obtain ⟨mb, h1, h2⟩ := I.mod.blt
  exact Calls.Name_function_global I.ok.kind hg (Calls.loadGlobal_builtin (by rw [I.ok.glob]; exact I.mod.glob.keeps I.bk) hm (by rw [I.ok.blt]; exact h1.keeps I.bk) ((h2 x hn).trans hv) h) hd
/-- a module's constant, a class, a function, as a value -/
theorem pe_glob {x : Str} {v : V} {u : Value} {pos : Pos} (hg : Gl X x) (hm : X.mg x = some u) (r : RelV v u) (hd : (x == ("__debug__" : Str)) = false := by decide) : PE X (.Name x pos) (tC v) :=
  fun _ _ _ H _ I h => ld_glob I hg hm ⟨v, H, I, r, h⟩ hd
theorem pe_bltn {x : Str} {v : V} {u : Value} {pos : Pos} (hg : Gl X x) (hm : X.mg x = none) (hv : bootBuiltins x = some u) (r : RelV v u) (hn : x ≠ "__name__" := by decide) (hd : (x == ("__debug__" : Str)) = false := by decide) : PE X (.Name x pos) (tC v) :=
  fun _ _ _ H _ I h => ld_blt I hg hm hv ⟨v, H, I, r, h⟩ hn hd

/-! ### arithmetic -/
variable {a b : Expr} {ta tb : TE} {pos : Pos}

/-! ### comparisons -/
/-- a comparison as a value, as a test -/
def tB (t : TE) : TT := fun σ H Q => t σ H fun x H1 => ∃ c, x = .bl c ∧ Q c H1
/-- an expression whose value is a bool, as a test -/
theorem pt_val {e : Expr} {t : TE} (h : PE X e t) (he : ∀ whole, isTrue e X.env whole = (do let v ← whole; standAt e.pos; holding [v] (truthy v)) := by intro _; rfl) : PT X e (tB t) := by
  intro pins s σ H Q I hw
  refine isTrue_plain (thn (h pins s σ H _ I hw) fun v s1 ⟨x, H1, I1, r1, q1⟩ => ?_) (he _)
  obtain ⟨d, rfl, q⟩ := q1
  cases r1
  exact wpAny_truthy_bool ⟨H1, I1, q⟩

/-! ### and, or, not -/
variable {tA tB' : TT} {rest : List Expr}
def tAnd (t u : TT) : TT := fun σ H Q => t σ H fun c H1 => if c = true then u σ H1 Q else Q false H1
def tOr (t u : TT) : TT := fun σ H Q => t σ H fun c H1 => if c = true then Q true H1 else u σ H1 Q
def tNot (t : TT) : TT := fun σ H Q => t σ H fun c H1 => Q (!c) H1
theorem pw_and1 (ha : PT X a tA) : PW X (.BoolOp .And [a] pos) tA := by
  intro wh pins s σ H Q I h
  refine isTrue_and (thn (ha pins s σ H Q I h) fun c s1 e => ?_)
  cases c with
  | true => exact isTrue_and_nil e
  | false => exact e
theorem pw_or1 (ha : PT X a tA) : PW X (.BoolOp .Or [a] pos) tA := by
  intro wh pins s σ H Q I h
  refine isTrue_or (thn (ha pins s σ H Q I h) fun c s1 e => ?_)
  cases c with
  | false => exact isTrue_or_nil e
  | true => exact e
theorem pw_and (ha : PT X a tA) (hb : PW X (.BoolOp .And (b :: rest) pos) tB') : PW X (.BoolOp .And (a :: b :: rest) pos) (tAnd tA tB') := by
  intro wh pins s σ H Q I h
  refine isTrue_and (thn (ha pins s σ H _ I h) fun c s1 ⟨H1, I1, q1⟩ => ?_)
  cases c with
  | true => exact hb wh pins s1 σ H1 Q I1 q1
  | false => exact ⟨H1, I1, q1⟩
theorem pw_or (ha : PT X a tA) (hb : PW X (.BoolOp .Or (b :: rest) pos) tB') : PW X (.BoolOp .Or (a :: b :: rest) pos) (tOr tA tB') := by
  intro wh pins s σ H Q I h
  refine isTrue_or (thn (ha pins s σ H _ I h) fun c s1 ⟨H1, I1, q1⟩ => ?_)
  cases c with
  | true => exact ⟨H1, I1, q1⟩
  | false => exact hb wh pins s1 σ H1 Q I1 q1
theorem pt_not (ha : PT X a tA) : PT X (.UnaryOp .Not a pos) (tNot tA) := by
  intro pins s σ H Q I h
  exact isTrue_not (ha pins s σ H (fun c H1 => Q (!c) H1) I h)
/-- .. as values (bools) -/
def tAndV (ta tb : TE) : TE := fun σ H Q => ta σ H fun x H1 => ∃ c, x = .bl c ∧ if c = true then tb σ H1 Q else Q (.bl false) H1
def tNotV (ta : TE) : TE := fun σ H Q => ta σ H fun x H1 => ∃ c, x = .bl c ∧ Q (.bl (!c)) H1
theorem pe_one {op} {t : TE} (h : PE X a t) : PE X (.BoolOp op [a] pos) t := fun pins s σ H Q I hw => BoolOp_one (h pins s σ H Q I hw)
theorem pe_and (ha : PE X a ta) (hb : PE X (.BoolOp .And (b :: rest) pos) tb) : PE X (.BoolOp .And (a :: b :: rest) pos) (tAndV ta tb) := by
  intro pins s σ H Q I h
  refine BoolOp_and (thn (ha pins s σ H _ I h) fun v s1 ⟨x, H1, I1, r1, q1⟩ => ?_)
  obtain ⟨c, rfl, q1⟩ := q1
  cases r1
  refine wpAny_truthy_bool ?_
  cases c with
  | true => exact hb pins s1 σ H1 Q I1 q1
  | false => exact ⟨.bl false, H1, I1, rfl, q1⟩
theorem pe_not (ha : PE X a ta) : PE X (.UnaryOp .Not a pos) (tNotV ta) := by
  intro pins s σ H Q I h
  refine UnaryOp_ (thn (ha pins s σ H _ I h) fun v s1 ⟨x, H1, I1, r1, q1⟩ => ?_)
  obtain ⟨c, rfl, q1⟩ := q1
  cases r1
  exact not_of (wpAny_truthy_bool ⟨.bl (!c), H1, I1, rfl, q1⟩)
/-- a if t else b -/
def tIf (t : TT) (ta tb : TE) : TE := fun σ H Q => t σ H fun c H1 => if c = true then ta σ H1 Q else tb σ H1 Q
theorem pe_ifExp {c : Expr} (hc : PT X c tA) (ha : PE X a ta) (hb : PE X b tb) : PE X (.IfExp c a b pos) (tIf tA ta tb) := by
  intro pins s σ H Q I h
  refine wpAny_IfExp (thn (hc pins s σ H _ I h) fun d s1 ⟨H1, I1, q1⟩ => ?_)
  cases d with
  | true => exact ha pins s1 σ H1 Q I1 q1
  | false => exact hb pins s1 σ H1 Q I1 q1
end
end L2

namespace L2
open PySem PySem.Spec PyProof.Rows

/-! ### a list, a tuple that is read: tracked, frozen, or an object of the module -/
def SqL (K : PySem.W.Frag) (H : Hp) (a : Addr) (xs : List V) : Prop :=
  Rd H a (.lst xs) ∨
    ∃ (o : Obj) (its : Array Value) (n : Nat), K.lookup a = some o ∧ o.cls = .type "list" ∧ o.dict = none ∧ o.data = .seq its n ∧ its.size ≤ sizeLine ∧ Vals xs its.toList
def SqT (K : PySem.W.Frag) (H : Hp) (a : Addr) (xs : List V) : Prop :=
  Rd H a (.tup xs) ∨
    ∃ (o : Obj) (its : Array Value) (n : Nat), K.lookup a = some o ∧ o.cls = .type "tuple" ∧ o.data = .seq its n ∧ its.size ≤ sizeLine ∧ Vals xs its.toList
def absV : Value → Option V
  | .none => some .non
  | .bool b => some (.bl b)
  | .int i _ => some (.int i)
  | .str x _ => some (.str x)
  | .bytes b _ => some (.byt b)
  | .float b _ => some (.flt b)
  | .ref a => some (.ref a)
  | .type n => some (.ty n)
  | _ => none
theorem RelV.abs {x : V} {u : Value} (r : RelV x u) : absV u = some x := by
  cases x with
  | non => cases r; rfl
  | bl _ => cases r; rfl
  | int _ => obtain ⟨t, rfl⟩ := r; rfl
  | str _ => obtain ⟨t, rfl⟩ := r; rfl
  | byt _ => obtain ⟨t, rfl⟩ := r; rfl
  | flt _ => obtain ⟨t, rfl⟩ := r; rfl
  | ref _ => cases r; rfl
  | ty _ => cases r; rfl
theorem RelV.inj {x y : V} {u : Value} (r : RelV x u) (q : RelV y u) : x = y := Option.some.inj (r.abs.symm.trans q.abs)
theorem Vals.inj : ∀ {xs ys : List V} {us : List Value}, Vals xs us → Vals ys us → xs = ys
  | _, _, _, .nil, .nil => rfl
  | _, _, _, .cons r t, .cons r' t' => by rw [r.inj r', Vals.inj t t']
section
variable {X : Cx} {pins : List (Addr × Obj)} {σ : St} {H : Hp} {s : Shared} {a : Addr} {xs ys : List V}
theorem SqL.of {K : PySem.W.Frag} (h : H a = some (.lst xs)) : SqL K H a xs := .inl (.inl h)
theorem SqT.of {K : PySem.W.Frag} (h : H a = some (.tup xs)) : SqT K H a xs := .inl (.inl h)
theorem Inv.list (I : Inv X pins σ H s) (h : SqL X.K H a xs) : ∃ its : List Value, Vals xs its ∧ PlainL s.heap a its.toArray ∧ xs.length ≤ sizeLine := by
  rcases h with h | ⟨o, its, n, hk, hc, hd, hs, hz, r⟩
  · obtain ⟨z, its, n, r, e⟩ := h.ok I.hok
    exact ⟨its, r, ⟨_, n, e, rfl, rfl, rfl⟩, z⟩
  · refine ⟨its.toList, r, ⟨o, n, I.kIn a o hk, hc, hd, by simpa using hs⟩, ?_⟩
    have e := r.length
    simp only [Array.length_toList] at e
    omega
theorem Inv.tuple (I : Inv X pins σ H s) (h : SqT X.K H a xs) : ∃ its : List Value, Vals xs its ∧ IsTup s.heap a its.toArray ∧ xs.length ≤ sizeLine := by
  rcases h with h | ⟨o, its, n, hk, hc, hs, hz, r⟩
  · obtain ⟨z, its, r, p⟩ := h.ok I.hok
    exact ⟨its, r, p, z⟩
  · refine ⟨its.toList, r, ⟨o, I.kIn a o hk, hc, n, by simpa using hs⟩, ?_⟩
    have e := r.length
    simp only [Array.length_toList] at e
    omega
theorem Inv.list_inj (I : Inv X pins σ H s) (h : SqL X.K H a xs) (h' : SqL X.K H a ys) : xs = ys := by
  obtain ⟨its, r, ⟨o, n, e, _, _, d⟩, _⟩ := I.list h
  obtain ⟨its', r', ⟨o', n', e', _, _, d'⟩, _⟩ := I.list h'
  rw [e] at e'; cases e'
  rw [d] at d'
  injection d' with d1 _
  have : its = its' := by simpa using congrArg Array.toList d1
  subst this
  exact r.inj r'
theorem Inv.tuple_inj (I : Inv X pins σ H s) (h : SqT X.K H a xs) (h' : SqT X.K H a ys) : xs = ys := by
  obtain ⟨its, r, ⟨o, e, _, n, d⟩, _⟩ := I.tuple h
  obtain ⟨its', r', ⟨o', e', _, n', d'⟩, _⟩ := I.tuple h'
  rw [e] at e'; cases e'
  rw [d] at d'
  injection d' with d1 _
  have : its = its' := by simpa using congrArg Array.toList d1
  subst this
  exact r.inj r'
end

/-! ### another wish about exceptions -/
abbrev Cx.wish (X : Cx) (E : Value → Shared → Prop) : Cx := { X with xe := E }
/-- no exception leaves -/
abbrev Cx.nox (X : Cx) : Cx := X.wish fun _ _ => False
theorem Cx.Ok.wish {X : Cx} (ok : X.Ok) (E : Value → Shared → Prop) : (X.wish E).Ok :=
  ⟨ok.mod, ok.kind, ok.glob, ok.blt, ok.above, ok.inj, ok.has, ok.cab, ok.hd, ok.frames, ok.stk, ok.exf, ok.bs, ok.bsz, ok.noex, ok.exfs, ok.funs, ok.frf⟩
theorem Cx.Ok.unwish {X : Cx} {E : Value → Shared → Prop} (ok : (X.wish E).Ok) : X.Ok :=
  ⟨ok.mod, ok.kind, ok.glob, ok.blt, ok.above, ok.inj, ok.has, ok.cab, ok.hd, ok.frames, ok.stk, ok.exf, ok.bs, ok.bsz, ok.noex, ok.exfs, ok.funs, ok.frf⟩
section
variable {X : Cx} {pins : List (Addr × Obj)} {σ : St} {H : Hp} {s : Shared} {E : Value → Shared → Prop}
theorem Inv.wish (I : Inv X pins σ H s) (E : Value → Shared → Prop) : Inv (X.wish E) pins σ H s := ⟨I.ok.wish E, I.os, I.bare, I.base, I.loc, I.cell, I.free, I.freeC, I.pin, I.hok, I.len⟩
theorem Inv.unwish (I : Inv (X.wish E) pins σ H s) : Inv X pins σ H s := ⟨I.ok.unwish, I.os, I.bare, I.base, I.loc, I.cell, I.free, I.freeC, I.pin, I.hok, I.len⟩
theorem SP.unwish {D : Ends} {f : Flow} {s' : Shared} (h : SP (X.wish E) pins D f s') : SP X pins D f s' := by
  cases f with
  | next => obtain ⟨σ', H', I, q⟩ := h; exact ⟨σ', H', I.unwish, q⟩
  | brk => obtain ⟨σ', H', I, q⟩ := h; exact ⟨σ', H', I.unwish, q⟩
  | cont => obtain ⟨σ', H', I, q⟩ := h; exact ⟨σ', H', I.unwish, q⟩
  | ret u => obtain ⟨v, σ', H', I, r, q⟩ := h; exact ⟨v, σ', H', I.unwish, r, q⟩
theorem PE.nox {e : Expr} {t : TE} (h : PE X.nox e t) : PE X e t := fun pins s σ H Q I hw =>
  wpAny_mono (h pins s σ H Q (I.wish _) hw) (fun _ _ ⟨v, H', I', r, q⟩ => ⟨v, H', I'.unwish, r, q⟩) fun _ _ z => False.elim z
theorem PT.nox {e : Expr} {t : TT} (h : PT X.nox e t) : PT X e t := fun pins s σ H Q I hw =>
  wpAny_mono (h pins s σ H Q (I.wish _) hw) (fun _ _ ⟨H', I', q⟩ => ⟨H', I'.unwish, q⟩) fun _ _ z => False.elim z
theorem PSs.nox {st : List Stmt} {t : TS} (h : PSs X.nox st t) : PSs X st t := fun pins s σ H D I hw =>
  wpAny_mono (h pins s σ H D (I.wish _) hw) (fun _ _ q => q.unwish) fun _ _ z => False.elim z
end

/-! ### blocks and small statements -/
section
variable {X : Cx} {st : Stmt} {rest : List Stmt} {t u : TS} {e : Expr} {te : TE} {pos : Pos}
def tNext : TS := fun D σ H => D.nx σ H
def tSeq (t u : TS) : TS := fun D σ H => t { D with nx := u D } σ H
theorem pss_nil : PSs X [] tNext := fun _ _ σ H _ I h => wpAny_execs_nil ⟨σ, H, I, h⟩
theorem pss_cons (h1 : PS X st t) (h2 : PSs X rest u) : PSs X (st :: rest) (tSeq t u) := by
  intro pins s σ H D I h
  refine wpAny_execs_cons (thn (h1 pins s σ H { D with nx := u D } I h) fun f s1 q => ?_)
  cases f with
  | next =>
    obtain ⟨σ', H', I', q⟩ := q
    exact h2 pins s1 σ' H' D I' q
  | ret v => exact q
  | brk => exact q
  | cont => exact q
theorem pss_one (h1 : PS X st t) : PSs X [st] t := by
  intro pins s σ H D I h
  refine wpAny_execs_cons (thn (h1 pins s σ H D I h) fun f s1 q => ?_)
  cases f with
  | next => exact wpAny_execs_nil q
  | ret v => exact q
  | brk => exact q
  | cont => exact q
/-- in a def's body nothing is shown -/
theorem Inv.quiet {pins : List (Addr × Obj)} {σ : St} {H : Hp} {s : Shared} (I : Inv X pins σ H s) : interactive X.env = false := by simp [interactive, I.ok.kind]
/-- an expression whose value is dropped -/
def tDrop (te : TE) : TS := fun D σ H => te σ H fun _ H1 => D.nx σ H1
theorem ps_expr (he : PE X e te) (hs : swapsWith e none pos.line X.env = pure false := by rfl) : PS X (.Expr e pos) (tDrop te) := by
  intro pins s σ H D I h
  exact wpAny_Expr_any (thn (he pins s σ H _ I h) fun v s1 ⟨x, H1, I1, r1, q1⟩ => ⟨σ, H1, I1, q1⟩) I.quiet hs
def tRet (te : TE) : TS := fun D σ H => te σ H D.rt
theorem ps_ret (he : PE X e te) : PS X (.Return (some e) pos) (tRet te) := by
  intro pins s σ H D I h
  exact wpAny_Return_some (thn (he pins s σ H _ I h) fun v s1 ⟨x, H1, I1, r1, q1⟩ => ⟨x, σ, H1, I1, r1, q1⟩)
def tIfS (c : TT) (t u : TS) : TS := fun D σ H => c σ H fun b H1 => if b = true then t D σ H1 else u D σ H1
theorem ps_if {c : Expr} {a b : List Stmt} {tc : TT} (hc : PT X c tc) (ha : PSs X a t) (hb : PSs X b u) : PS X (.If c a b pos) (tIfS tc t u) := by
  intro pins s σ H D I h
  refine wpAny_If (thn (hc pins s σ H _ I h) fun d s1 ⟨H1, I1, q1⟩ => ?_)
  cases d with
  | true => exact ha pins s1 σ H1 D I1 q1
  | false => exact hb pins s1 σ H1 D I1 q1
end

/-! ### targets -/
abbrev TG := V → St → Hp → (St → Hp → Prop) → Prop
abbrev TGs := List V → St → Hp → (St → Hp → Prop) → Prop
def PG (X : Cx) (target : Expr) (t : TG) : Prop :=
  ∀ (pins : List (Addr × Obj)) (s : Shared) (σ : St) (H : Hp) (v : V) (u : Value) (Q : St → Hp → Prop), Inv X pins σ H s → RelV v u → t v σ H Q →
    wpAny (model X.prog X.w) X.A (assign target X.env u) (fun _ s' => ∃ σ' H', Inv X pins σ' H' s' ∧ Q σ' H') X.xe s
/-- several targets, one after another -/
def PGs (X : Cx) (ts : List Expr) (t : TGs) : Prop :=
  ∀ (pins : List (Addr × Obj)) (s : Shared) (σ : St) (H : Hp) (vs : List V) (us : List Value) (Q : St → Hp → Prop), Inv X pins σ H s → Vals vs us → t vs σ H Q →
    wpAny (model X.prog X.w) X.A (assignInOrder ((assignEach ts X.env).map (·.2)) us) (fun _ s' => ∃ σ' H', Inv X pins σ' H' s' ∧ Q σ' H') X.xe s
section
variable {X : Cx} {pos : Pos}
def gName (i : Nat) : TG := fun v σ H Q => Q (σ.set i (some v)) H
theorem pg_name {i : Nat} {x : Str} (hN : X.N.Nodup) (hi : X.N[i]? = some x) (hx : Loc X.env.scope x) (hf : X.fn x = true ∨ X.env.scope.names.lookup x = some .local := by first | exact .inl rfl | exact .inr rfl | assumption) : PG X (.Name x pos) (gName i) := by
  intro pins s σ H v u Q I r h
  exact wpAny_assign_Name (store_ok I hN hi hx r (fun s' I' => ⟨_, H, I', h⟩) hf)
def gNil : TGs := fun vs σ H Q => vs = [] ∧ Q σ H
def gCons (t : TG) (u : TGs) : TGs := fun vs σ H Q => ∃ v r, vs = v :: r ∧ t v σ H fun σ' H' => u r σ' H' Q
theorem pgs_nil : PGs X [] gNil := by
  intro pins s σ H vs us Q I r h
  obtain ⟨e, h⟩ := h
  subst e
  cases r
  exact assignInOrder_nil ⟨σ, H, I, h⟩
theorem pgs_cons {e : Expr} {es : List Expr} {t : TG} {u : TGs} (h1 : PG X e t) (h2 : PGs X es u)
    (hs : (assignEach (e :: es) X.env).map (·.2) = assign e X.env :: (assignEach es X.env).map (·.2) := by rfl) : PGs X (e :: es) (gCons t u) := by
  intro pins s σ H vs us Q I r h
  obtain ⟨v, vr, e1, h⟩ := h
  subst e1
  cases r with
  | cons r rr =>
    rw [hs]
    refine assignInOrder_cons (thn (h1 pins s σ H _ _ _ I r h) fun _ s1 ⟨σ1, H1, I1, q1⟩ => ?_)
    exact h2 pins s1 σ1 H1 _ _ Q I1 rr q1
/-- (a, b, ..) = a tuple of that length -/
def gTup (K : PySem.W.Frag) (n : Nat) (t : TGs) : TG := fun v σ H Q => ∃ a xs, v = .ref a ∧ SqT K H a xs ∧ xs.length = n ∧ t xs σ H Q
theorem pg_tup {es : List Expr} {k : Nat} {t : TGs} {n : Nat} (hc : X.calm = true) (h : PGs X es t)
    (hn : (assignEach es X.env).length = n := by rfl) (hst : (assignEach es X.env).findIdx? (·.1) = none := by rfl) : PG X (.Tuple es k pos) (gTup X.K n t) := by
  intro pins s σ H v u Q I r hw
  obtain ⟨a, xs, e1, hq, hl, hw⟩ := hw
  subst e1
  cases r
  obtain ⟨its, rv, ht, hz⟩ := I.tuple hq
  refine assign_Tuple_tuple (I.ok.hd hc) ht (by simp [hn, ← hl, rv.length]) hst fun h' hx => ?_
  have I1 : Inv X pins σ H { s with heap := h' } := I.kept (t' := s.toks) fun b o e => hx b o (Nat.ne_of_lt (Heap.lt_size e)) e
  exact h pins _ σ H xs _ Q I1 (by simpa using rv) hw
/-- target = value -/
def tAsg (te : TE) (g : TG) : TS := fun D σ H => te σ H fun x H1 => g x σ H1 D.nx
/-- name = value -/
theorem ps_set {i : Nat} {x : Str} {e : Expr} {te : TE} {pos' : Pos} (hN : X.N.Nodup) (hi : X.N[i]? = some x) (hx : Loc X.env.scope x) (he : PE X e te) (hs : swapsWith e (some (.Name x pos')) pos.line X.env = pure false := by rfl) (hf : X.fn x = true ∨ X.env.scope.names.lookup x = some .local := by first | exact .inl rfl | exact .inr rfl | assumption) :
    PS X (.Assign [.Name x pos'] e pos) (tAsg te (gName i)) := by
  intro pins s σ H D I h
  refine wpAny_Assign_Name (thn (he pins s σ H _ I h) fun v s1 ⟨y, H1, I1, r1, q1⟩ => ?_) hs
  exact store_ok I1 hN hi hx r1 (fun s2 I2 => ⟨_, H1, I2, q1⟩) hf
end

/-! ### while -/
section
variable {X : Cx} {pos : Pos}
end

/-! ### what a loop or a comprehension walks -/
/-- at turn i: it yields x (the heap may grow), or it stops -/
structure It where
  go : Nat → Hp → Prop
  yld : Nat → Hp → V → Hp → Prop
  stop : Nat → Hp → Prop
/-- the iterator's own objects may turn: they are not the frame's, not pinned, younger than the entry (or a comprehension's own) -/
def FpOk (X : Cx) (pins : List (Addr × Obj)) (H : Hp) (b : Addr) : Prop :=
  H b = none ∧ b ≠ X.env.locals ∧ b ∉ X.fs ∧ (b ∈ X.ex ∨ X.s₀.heap.objs.size ≤ b) ∧ (∀ x c, X.env.cells.lookup x = some c → c ≠ b) ∧ ∀ p ∈ X.pn ++ pins, p.1 ≠ b
theorem Inv.fpOk {X : Cx} {pins : List (Addr × Obj)} {σ : St} {H H' : Hp} {s : Shared} {b : Addr} (I : Inv X pins σ H s) (hb : s.heap.objs.size ≤ b) (hn : H' b = none) : FpOk X pins H' b := by
  refine ⟨hn, Nat.ne_of_gt (Nat.lt_of_lt_of_le I.lt hb), I.nofs hb, .inr (Nat.le_trans I.sz hb), fun x c e z => ?_, fun p hp z => ?_⟩
  · obtain ⟨v, q⟩ := I.cell x c e
    exact absurd (Nat.lt_of_lt_of_le q.lt (by rw [z]; exact hb)) (Nat.lt_irrefl _)
  · exact absurd (Nat.lt_of_lt_of_le (Heap.lt_size (I.pin p hp).1) (by rw [z]; exact hb)) (Nat.lt_irrefl _)
structure Turn (P : Program) (w : World) (K : PySem.W.Frag) (tg : Expr) (J : It) (fp : List Addr) (it : Addr) (tn : Nat → Heap → Prop) : Prop where
  mem : it ∈ fp
  obj : ∀ i h, tn i h → ∀ b ∈ fp, ∃ o, h.get? b = some o ∧ ∀ v, o.data ≠ .cell v
  keep : ∀ i h h', tn i h → (∀ b ∈ fp, ∀ o, h.get? b = some o → h'.get? b = some o) → tn i h'
  item : ∀ (X : Cx), X.prog = P → X.w = w → X.K = K → X.calm = true → ∀ (i : Nat) (pins : List (Addr × Obj)) (s : Shared) (σ : St) (H : Hp) (E : Value → Shared → Prop), Inv X pins σ H s → (∀ b ∈ fp, FpOk X pins H b) → tn i s.heap → J.go i H →
    wpAny (model P w) X.A (pyNext (.ref it)) (fun r s1 => ∃ u, r = some u ∧
      wpAny (model P w) X.A (letOwnedTupleGo tg (.ref it) u) (fun _ s2 => ∃ x H', Inv X pins σ H' s2 ∧ RelV x u ∧ J.yld i H x H' ∧ tn (i + 1) s2.heap ∧ ∀ b ∈ fp, H' b = none) E s1) E s
  done : ∀ (X : Cx), X.prog = P → X.w = w → X.K = K → X.calm = true → ∀ (i : Nat) (pins : List (Addr × Obj)) (s : Shared) (σ : St) (H : Hp) (E : Value → Shared → Prop), Inv X pins σ H s → (∀ b ∈ fp, FpOk X pins H b) → tn i s.heap → J.stop i H →
    wpAny (model P w) X.A (pyNext (.ref it)) (fun r s1 => r = none ∧ Inv X pins σ H s1) E s
  self : ∀ (A : Around) (i : Nat) (s : Shared) (Q : Value → Shared → Prop) (E : Value → Shared → Prop), tn i s.heap → Q (.ref it) s → wpAny (model P w) A (pyIter (.ref it)) Q E s
abbrev TI := St → Hp → (It → Hp → Prop) → Prop
/-- an iterator has come -/
def PIE (X : Cx) (pins : List (Addr × Obj)) (σ : St) (tg : Expr) (R : It → Hp → Prop) (itv : Value) (s2 : Shared) : Prop :=
  ∃ (it : Addr) (fp : List Addr) (tn : Nat → Heap → Prop) (J : It) (H' : Hp), itv = .ref it ∧ Inv X pins σ H' s2 ∧ Turn X.prog X.w X.K tg J fp it tn ∧ tn 0 s2.heap ∧ (∀ b ∈ fp, FpOk X pins H' b) ∧ R J H'
def PI (X : Cx) (tg iter : Expr) (wi : TI) : Prop :=
  ∀ (pins : List (Addr × Obj)) (s : Shared) (σ : St) (H : Hp) (R : It → Hp → Prop), Inv X pins σ H s → wi σ H R →
    wpAny (model X.prog X.w) X.A (eval iter X.env) (fun v s1 => wpAny (model X.prog X.w) X.A (pyIter v) (PIE X pins σ tg R) X.xe s1) X.xe s

/-- the step ahead of the store is nothing for an iterator that keeps no tuple -/
theorem go_of {M : Model} {A : Around} {E : Value → Shared → Prop} {s : Shared} {tg : Expr} {it : Addr} {u : Value} {o : Obj} {n : String} {vs : Array Value} {Q : Unit → Shared → Prop} (ho : s.heap.get? it = some o) (hc : o.cls = .type n) (hd : o.data = .fields vs)
    (hn : ["enumerate", "zip", "dict_itemiterator", "dict_reverseitemiterator", "odict_iterator", "itertools.zip_longest", "itertools.pairwise"].contains n = false) (hQ : Q () s) : wpAny M A (letOwnedTupleGo tg (.ref it) u) Q E s := by
  unfold letOwnedTupleGo
  cases tg <;> first
    | exact wpAny_pure hQ
    | (cases u <;> first
        | exact wpAny_pure hQ
        | (refine wpAny_bind (wpAny_load ho ?_)
           rw [hc, hd]
           show wpAny M A (if (["enumerate", "zip", "dict_itemiterator", "dict_reverseitemiterator", "odict_iterator", "itertools.zip_longest", "itertools.pairwise"].contains n && vs[0]? == some (rawInt _)) = true then _ else _) Q E s
           rw [if_neg (by intro h; rw [hn, Bool.false_and] at h; cases h)]
           exact wpAny_pure hQ))

/-- the list at a, as it stands at each turn (a loop may append to it) -/
def Itl (K : PySem.W.Frag) (a : Addr) : It :=
  ⟨fun i H => ∃ xs x, SqL K H a xs ∧ xs[i]? = some x, fun i H x H' => H' = H ∧ ∀ xs, SqL K H a xs → xs[i]? = some x, fun i H => ∃ xs, SqL K H a xs ∧ xs.length ≤ i⟩
def Itt (K : PySem.W.Frag) (a : Addr) : It :=
  ⟨fun i H => ∃ xs x, SqT K H a xs ∧ xs[i]? = some x, fun i H x H' => H' = H ∧ ∀ xs, SqT K H a xs → xs[i]? = some x, fun i H => ∃ xs, SqT K H a xs ∧ xs.length ≤ i⟩
theorem turn_list {P : Program} {w : World} {K : PySem.W.Frag} {tg : Expr} (a it : Addr) : Turn P w K tg (Itl K a) [it] it (fun i h => h.IsListIter it a i) where
  mem := by simp
  obj := fun i h st b hb => by
    have e : b = it := by simpa using hb
    subst e
    obtain ⟨o, e, c, d⟩ := st
    exact ⟨o, e, fun v z => by rw [d] at z; cases z⟩
  keep := fun i h h' st k => st.at fun o e => k it (by simp) o e
  item := by
    intro X hP hw hK hc i pins s σ H E I hf st hg
    subst hP hw hK
    obtain ⟨xs, x, hq, hx⟩ := hg
    obtain ⟨its, rv, p, hz⟩ := I.list hq
    obtain ⟨u, hu, ru⟩ := rv.get hx
    obtain ⟨f0, f1, f2, f3, f4, f5⟩ := hf it (by simp)
    refine wpAny_pyNext_list_item st p.isList (x := u) (by simpa using hu) fun h' st' sb => ?_
    have I1 : Inv X pins σ H { s with heap := h' } := I.turned (t' := s.toks) (fun b o hb e => (sb.2 b hb).trans e) f0 f1 f3 f4 f5
    obtain ⟨o, e, c, d⟩ := id st'
    exact ⟨u, rfl, go_of (s := { s with heap := h' }) e c d (by decide) ⟨x, H, I1, ru, ⟨rfl, fun ys hy => by rw [I.list_inj hy hq]; exact hx⟩, st', fun b hb => (hf b hb).1⟩⟩
  done := by
    intro X hP hw hK hc i pins s σ H E I hf st hg
    subst hP hw hK
    obtain ⟨xs, hq, hx⟩ := hg
    obtain ⟨its, rv, p, hz⟩ := I.list hq
    obtain ⟨f0, f1, f2, f3, f4, f5⟩ := hf it (by simp)
    have hl := rv.length
    exact wpAny_pyNext_list_end (I.ok.hd hc) st p.isList (by simp; omega) fun h' eb => ⟨rfl, I.turned (t' := s.toks) (fun b o hb e => eb b o hb e) f0 f1 f3 f4 f5⟩
  self := fun _ _ _ _ _ st h => wpAny_pyIter_listiter st h
theorem turn_tuple {P : Program} {w : World} {K : PySem.W.Frag} {tg : Expr} (a it : Addr) : Turn P w K tg (Itt K a) [it] it (fun i h => h.IsTupleIter it a i) where
  mem := by simp
  obj := fun i h st b hb => by
    have e : b = it := by simpa using hb
    subst e
    obtain ⟨o, e, c, d⟩ := st
    exact ⟨o, e, fun v z => by rw [d] at z; cases z⟩
  keep := fun i h h' st k => st.at fun o e => k it (by simp) o e
  item := by
    intro X hP hw hK hc i pins s σ H E I hf st hg
    subst hP hw hK
    obtain ⟨xs, x, hq, hx⟩ := hg
    obtain ⟨its, rv, p, hz⟩ := I.tuple hq
    obtain ⟨u, hu, ru⟩ := rv.get hx
    obtain ⟨f0, f1, f2, f3, f4, f5⟩ := hf it (by simp)
    refine wpAny_pyNext_tuple_item st (show s.heap.IsTuple a its.toArray from p) (x := u) (by simpa using hu) fun h' st' sb => ?_
    have I1 : Inv X pins σ H { s with heap := h' } := I.turned (t' := s.toks) (fun b o hb e => (sb.2 b hb).trans e) f0 f1 f3 f4 f5
    obtain ⟨o, e, c, d⟩ := id st'
    exact ⟨u, rfl, go_of (s := { s with heap := h' }) e c d (by decide) ⟨x, H, I1, ru, ⟨rfl, fun ys hy => by rw [I.tuple_inj hy hq]; exact hx⟩, st', fun b hb => (hf b hb).1⟩⟩
  done := by
    intro X hP hw hK hc i pins s σ H E I hf st hg
    subst hP hw hK
    obtain ⟨xs, hq, hx⟩ := hg
    obtain ⟨its, rv, p, hz⟩ := I.tuple hq
    obtain ⟨f0, f1, f2, f3, f4, f5⟩ := hf it (by simp)
    have hl := rv.length
    exact wpAny_pyNext_tuple_end (I.ok.hd hc) st (show s.heap.IsTuple a its.toArray from p) (by simp; omega) fun h' eb => ⟨rfl, I.turned (t' := s.toks) (fun b o hb e => eb b o hb e) f0 f1 f3 f4 f5⟩
  self := fun _ _ _ _ _ st h => wpAny_pyIter_tupleiter st h
end L2

namespace L2
open PySem PySem.Spec PyProof.Rows
section
variable {X : Cx} {tg : Expr}
def iList (K : PySem.W.Frag) (tl : TE) : TI := fun σ H R => tl σ H fun x H1 => ∃ a, x = .ref a ∧ (∃ xs, SqL K H1 a xs) ∧ R (Itl K a) H1
def iTup (K : PySem.W.Frag) (tl : TE) : TI := fun σ H R => tl σ H fun x H1 => ∃ a, x = .ref a ∧ (∃ xs, SqT K H1 a xs) ∧ R (Itt K a) H1
theorem pi_list {l : Expr} {tl : TE} (hl : PE X l tl) : PI X tg l (iList X.K tl) := by
  intro pins s σ H R I h
  refine thn (hl pins s σ H _ I h) fun v s1 ⟨x, H1, I1, r1, q1⟩ => ?_
  obtain ⟨a, e, ⟨xs, hq⟩, q⟩ := q1
  subst e
  cases r1
  obtain ⟨its, rv, p, hz⟩ := I1.list hq
  refine wpAny_pyIter_list p.isList ?_
  refine ⟨s1.heap.objs.size, [s1.heap.objs.size], _, _, H1, rfl, I1.kept (t' := s1.toks) fun b o e => Heap.get?_push_of_some _ e, turn_list a _, ⟨_, Heap.get?_push_size _ rfl, rfl, rfl⟩, fun b hb => ?_, q⟩
  have e : b = s1.heap.objs.size := by simpa using hb
  subst e
  exact I1.fpOk (Nat.le_refl _) (I1.hok.fresh (Nat.le_refl _))
theorem pi_tup {l : Expr} {tl : TE} (hl : PE X l tl) : PI X tg l (iTup X.K tl) := by
  intro pins s σ H R I h
  refine thn (hl pins s σ H _ I h) fun v s1 ⟨x, H1, I1, r1, q1⟩ => ?_
  obtain ⟨a, e, ⟨xs, hq⟩, q⟩ := q1
  subst e
  cases r1
  obtain ⟨its, rv, p, hz⟩ := I1.tuple hq
  refine wpAny_pyIter_tuple (show s1.heap.IsTuple a its.toArray from p) ?_
  refine ⟨s1.heap.objs.size, [s1.heap.objs.size], _, _, H1, rfl, I1.kept (t' := s1.toks) fun b o e => Heap.get?_push_of_some _ e, turn_tuple a _, ⟨_, Heap.get?_push_size _ rfl, rfl, rfl⟩, fun b hb => ?_, q⟩
  have e : b = s1.heap.objs.size := by simpa using hb
  subst e
  exact I1.fpOk (Nat.le_refl _) (I1.hok.fresh (Nat.le_refl _))

/-! ### for -/
/-- W: the invariant by the turn and a measure; N: what the body is to reach -/
def tFor (wi : TI) (g : TG) (tb : TS) : TS := fun D σ H => wi σ H fun J H1 => ∃ W : Nat → Nat → St → Hp → Prop, (∃ m, W 0 m σ H1) ∧ ∀ i m σ H, W i m σ H →
  (J.stop i H ∧ D.nx σ H) ∨ (J.go i H ∧ ∃ N : St → Hp → Prop, (∀ σ' H', N σ' H' → ∃ m', m' < m ∧ W (i + 1) m' σ' H') ∧ ∀ x H', J.yld i H x H' → g x σ H' fun σ2 H2 => tb { D with nx := N, ct := N, bk := D.nx } σ2 H2)
/-- the records at fp as they stand -/
def pinsAt (fp : List Addr) (h : Heap) : List (Addr × Obj) := fp.filterMap fun b => (h.get? b).map fun o => (b, o)
theorem mem_pinsAt {fp : List Addr} {h : Heap} {b : Addr} {o : Obj} (hb : b ∈ fp) (e : h.get? b = some o) : (b, o) ∈ pinsAt fp h := List.mem_filterMap.mpr ⟨b, hb, by rw [e]; rfl⟩
theorem of_pinsAt {fp : List Addr} {h : Heap} {p : Addr × Obj} (hp : p ∈ pinsAt fp h) : p.1 ∈ fp ∧ h.get? p.1 = some p.2 := by
  obtain ⟨b, hb, e⟩ := List.mem_filterMap.mp hp
  cases q : h.get? b with
  | none => rw [q] at e; cases e
  | some o =>
    rw [q] at e
    have e' : (b, o) = p := Option.some.inj e
    subst e'
    exact ⟨hb, q⟩
theorem Inv.pinned {pins : List (Addr × Obj)} {σ : St} {H : Hp} {s : Shared} {fp : List Addr} (I : Inv X pins σ H s) (hf : ∀ b ∈ fp, FpOk X pins H b) (ho : ∀ b ∈ fp, ∃ o, s.heap.get? b = some o ∧ ∀ v, o.data ≠ .cell v) : Inv X (pins ++ pinsAt fp s.heap) σ H s :=
  I.pins_of fun p hp => (List.mem_append.mp hp).elim (fun z => I.pin p (List.mem_append_right _ z)) fun z => by
    obtain ⟨hb, e⟩ := of_pinsAt z
    obtain ⟨f0, f1, f2, _⟩ := hf p.1 hb
    obtain ⟨o, e', d⟩ := ho p.1 hb
    rw [e] at e'; cases e'
    exact ⟨e, f0, f1, f2, d⟩
theorem Inv.unpinned {pins pl : List (Addr × Obj)} {σ : St} {H : Hp} {s : Shared} (I : Inv X (pins ++ pl) σ H s) : Inv X pins σ H s := I.pins_of fun p hp => I.pin p (List.mem_append_right _ (List.mem_append_left _ hp))
theorem ps_for {iter : Expr} {body : List Stmt} {wi : TI} {g : TG} {tb : TS} {pos : Pos} (hp : PassesOwn (model X.prog X.w) X.A X.env X.xe) (hc : X.calm = true) (hi : PI X tg iter wi) (hg : PG X tg g) (hb : PSs X body tb)
    (hs : ∀ x, foldedSetIterable iter X.env x = pure x := by intro _; rfl) : PS X (.For tg iter body [] pos) (tFor wi g tb) := by
  intro pins s σ H D I h
  refine wpAny_For (thn (hi pins s σ H _ I h) fun v s1 h1 => thn h1 fun itv s2 h2 => ?_) hs
  obtain ⟨it, fp, tn, J, H2, e, I2, T, st2, f2, W, ⟨m0, w0⟩, turn⟩ := h2
  subst e
  -- what stays true of the iterator's objects through the loop
  have stat : ∀ {H' : Hp}, (∀ b ∈ fp, H' b = none) → ∀ b ∈ fp, FpOk X pins H' b := fun hn b hb => ⟨hn b hb, (f2 b hb).2⟩
  refine codeAny_forLoop_any (fun n s' => ∃ i σ' H', Inv X pins σ' H' s' ∧ tn i s'.heap ∧ (∀ b ∈ fp, H' b = none) ∧ W i n σ' H') ?_ m0 ⟨0, σ, H2, I2, st2, fun b hb => (f2 b hb).1, w0⟩
  rintro n s3 ⟨i, σ3, H3, I3, st3, fr3, w3⟩
  rcases turn i n σ3 H3 w3 with ⟨stop, qn⟩ | ⟨go, N, hN, step⟩
  · refine wpAny_passesOwn hp (thn (T.done X rfl rfl rfl hc i pins s3 σ3 H3 X.xe I3 (stat fr3) st3 stop) fun r s4 ⟨hr, I4⟩ => ?_)
    subst hr
    exact wpAny_execs_nil ⟨σ3, H3, I4, qn⟩
  · refine wpAny_passesOwn hp (thn (T.item X rfl rfl rfl hc i pins s3 σ3 H3 X.xe I3 (stat fr3) st3 go) fun r s4 ⟨u, hr, h4⟩ => ?_)
    subst hr
    refine wpAny_passesOwn hp (thn h4 fun _ s5 ⟨x, H5, I5, r5, y5, st5, fr5⟩ => ?_)
    have I5' := I5.pinned (stat fr5) (T.obj _ _ st5)
    refine wpAny_passesOwn hp (thn (hg _ s5 σ3 H5 x u _ I5' r5 (step x H5 y5)) fun _ s6 ⟨σ6, H6, I6, q6⟩ => ?_)
    refine wpAny_passesOwn hp (thn (hb _ s6 σ6 H6 _ I6 q6) fun f s7 q7 => ?_)
    have again : ∀ {σ7 : St} {H7 : Hp}, Inv X (pins ++ pinsAt fp s5.heap) σ7 H7 s7 → N σ7 H7 → ∃ m, m < n ∧ ∃ i σ' H', Inv X pins σ' H' s7 ∧ tn i s7.heap ∧ (∀ b ∈ fp, H' b = none) ∧ W i m σ' H' := fun {σ7 H7} I7 n7 => by
      obtain ⟨m', hm, w7⟩ := hN σ7 H7 n7
      refine ⟨m', hm, i + 1, σ7, H7, I7.unpinned, T.keep _ _ _ st5 fun b hb o e => (I7.pin (b, o) (List.mem_append_right _ (List.mem_append_right _ (mem_pinsAt hb e)))).1, fun b hb => ?_, w7⟩
      obtain ⟨o, e, d⟩ := T.obj _ _ st5 b hb
      exact (I7.pin (b, o) (List.mem_append_right _ (List.mem_append_right _ (mem_pinsAt hb e)))).2.1
    cases f with
    | next => obtain ⟨σ7, H7, I7, n7⟩ := q7; exact again I7 n7
    | cont => obtain ⟨σ7, H7, I7, n7⟩ := q7; exact again I7 n7
    | brk => obtain ⟨σ7, H7, I7, q7⟩ := q7; exact ⟨σ7, H7, I7.unpinned, q7⟩
    | ret v => obtain ⟨x7, σ7, H7, I7, r7, q7⟩ := q7; exact ⟨x7, σ7, H7, I7.unpinned, r7, q7⟩
end

/-! ### the forms one uses -/
/-- over a list that the body leaves as it is -/
theorem for_list {K : PySem.W.Frag} {a : Addr} {xs : List V} {g : TG} {tb : TS} {D : Ends} {σ : St} {H : Hp} (Pv : Nat → St → Hp → Prop) (h0 : Pv 0 σ H) (hl : ∀ i σ H, i ≤ xs.length → Pv i σ H → SqL K H a xs)
    (hs : ∀ i x σ H, xs[i]? = some x → Pv i σ H → g x σ H fun σ2 H2 => tb { D with nx := Pv (i + 1), ct := Pv (i + 1), bk := D.nx } σ2 H2) (hd : ∀ σ H, Pv xs.length σ H → D.nx σ H) :
    ∃ W : Nat → Nat → St → Hp → Prop, (∃ m, W 0 m σ H) ∧ ∀ i m σ H, W i m σ H →
      ((Itl K a).stop i H ∧ D.nx σ H) ∨ ((Itl K a).go i H ∧ ∃ N : St → Hp → Prop, (∀ σ' H', N σ' H' → ∃ m', m' < m ∧ W (i + 1) m' σ' H') ∧ ∀ x H', (Itl K a).yld i H x H' → g x σ H' fun σ2 H2 => tb { D with nx := N, ct := N, bk := D.nx } σ2 H2) := by
  refine ⟨fun i m σ H => m = xs.length - i ∧ i ≤ xs.length ∧ Pv i σ H, ⟨xs.length, by simp, Nat.zero_le _, h0⟩, ?_⟩
  rintro i m σ H ⟨rfl, hi, p⟩
  have q := hl i σ H hi p
  by_cases hlt : i < xs.length
  · refine .inr ⟨⟨xs, xs[i], q, by simp [hlt]⟩, Pv (i + 1), fun σ' H' p' => ⟨xs.length - (i + 1), by omega, rfl, hlt, p'⟩, fun x H' y => ?_⟩
    obtain ⟨e, y⟩ := y
    subst e
    exact hs i x σ _ (y xs q) p
  · have e : i = xs.length := by omega
    subst e
    exact .inl ⟨⟨xs, q, Nat.le_refl _⟩, hd σ H p⟩
theorem for_tup {K : PySem.W.Frag} {a : Addr} {xs : List V} {g : TG} {tb : TS} {D : Ends} {σ : St} {H : Hp} (Pv : Nat → St → Hp → Prop) (h0 : Pv 0 σ H) (hl : ∀ i σ H, i ≤ xs.length → Pv i σ H → SqT K H a xs)
    (hs : ∀ i x σ H, xs[i]? = some x → Pv i σ H → g x σ H fun σ2 H2 => tb { D with nx := Pv (i + 1), ct := Pv (i + 1), bk := D.nx } σ2 H2) (hd : ∀ σ H, Pv xs.length σ H → D.nx σ H) :
    ∃ W : Nat → Nat → St → Hp → Prop, (∃ m, W 0 m σ H) ∧ ∀ i m σ H, W i m σ H →
      ((Itt K a).stop i H ∧ D.nx σ H) ∨ ((Itt K a).go i H ∧ ∃ N : St → Hp → Prop, (∀ σ' H', N σ' H' → ∃ m', m' < m ∧ W (i + 1) m' σ' H') ∧ ∀ x H', (Itt K a).yld i H x H' → g x σ H' fun σ2 H2 => tb { D with nx := N, ct := N, bk := D.nx } σ2 H2) := by
  refine ⟨fun i m σ H => m = xs.length - i ∧ i ≤ xs.length ∧ Pv i σ H, ⟨xs.length, by simp, Nat.zero_le _, h0⟩, ?_⟩
  rintro i m σ H ⟨rfl, hi, p⟩
  have q := hl i σ H hi p
  by_cases hlt : i < xs.length
  · refine .inr ⟨⟨xs, xs[i], q, by simp [hlt]⟩, Pv (i + 1), fun σ' H' p' => ⟨xs.length - (i + 1), by omega, rfl, hlt, p'⟩, fun x H' y => ?_⟩
    obtain ⟨e, y⟩ := y
    subst e
    exact hs i x σ _ (y xs q) p
  · have e : i = xs.length := by omega
    subst e
    exact .inl ⟨⟨xs, q, Nat.le_refl _⟩, hd σ H p⟩
end L2

namespace L2
open PySem PySem.Spec PyProof.Rows

abbrev R2 := V → V → Hp → VK → Prop
/-- a two-place operation on values: f is binaryOp op, inplaceOp op or compareOp op -/
def OpR (X : Cx) (f : Value → Value → Sem Value) (r : R2) : Prop :=
  ∀ (pins : List (Addr × Obj)) (s : Shared) (σ : St) (H : Hp) (x y : V) (v u : Value) (Q : VK), Inv X pins σ H s → RelV x v → RelV y u → r x y H Q →
    wpAny (model X.prog X.w) X.A (f v u) (EP X pins σ Q) X.xe s
/-- a one-place operation -/
def UnR (X : Cx) (f : Value → Sem Value) (r : V → Hp → VK → Prop) : Prop :=
  ∀ (pins : List (Addr × Obj)) (s : Shared) (σ : St) (H : Hp) (x : V) (v : Value) (Q : VK), Inv X pins σ H s → RelV x v → r x H Q →
    wpAny (model X.prog X.w) X.A (f v) (EP X pins σ Q) X.xe s
/-- a call of a value that is known (a builtin, a type) with values -/
def CallR (X : Cx) (f : Value) (r : List V → Hp → VK → Prop) : Prop :=
  ∀ (pins : List (Addr × Obj)) (s : Shared) (σ : St) (H : Hp) (xs : List V) (us : List Value) (Q : VK), Inv X pins σ H s → Vals xs us → r xs H Q →
    wpAny (model X.prog X.w) X.A (call f us) (EP X pins σ Q) X.xe s

def tOp (r : R2) (ta tb : TE) : TE := fun σ H Q => ta σ H fun x H1 => tb σ H1 fun y H2 => r x y H2 Q
def tUn (r : V → Hp → VK → Prop) (ta : TE) : TE := fun σ H Q => ta σ H fun x H1 => r x H1 Q
/-- ints in, under C, and a value out -/
def rI (C : Int → Int → Prop) (g : Int → Int → V) : R2 := fun x y H Q => ∃ i j, x = .int i ∧ y = .int j ∧ C i j ∧ Q (g i j) H
def rI0 (g : Int → Int → V) : R2 := fun x y H Q => ∃ i j, x = .int i ∧ y = .int j ∧ Q (g i j) H
def rU (g : Int → V) : V → Hp → VK → Prop := fun x H Q => ∃ i, x = .int i ∧ Q (g i) H

section
variable {X : Cx} {a b c : Expr} {ta tb tc : TE} {pos : Pos}

theorem binT (ha : PE X a ta) (hb : PE X b tb) {pins : List (Addr × Obj)} {s : Shared} {σ : St} {H : Hp} {R : V → V → Hp → Prop} (I : Inv X pins σ H s)
    (h : ta σ H fun x H1 => tb σ H1 fun y H2 => R x y H2) {Q : Value → Shared → Prop} {f : Value → Value → Sem Value}
    (hf : ∀ v u s2 x y H2, Inv X pins σ H2 s2 → RelV x v → RelV y u → R x y H2 → wpAny (model X.prog X.w) X.A (f v u) Q X.xe s2) :
    wpAny (model X.prog X.w) X.A (eval a X.env) (fun v s₁ => wpAny (model X.prog X.w) X.A (eval b X.env) (fun u s₂ => wpAny (model X.prog X.w) X.A (f v u) Q X.xe s₂) X.xe s₁) X.xe s := by
  refine thn (ha pins s σ H _ I h) fun v s1 ⟨x, H1, I1, r1, q1⟩ => ?_
  refine thn (hb pins s1 σ H1 _ I1 q1) fun u s2 ⟨y, H2, I2, r2, q2⟩ => ?_
  exact hf v u s2 x y H2 I2 r1 r2 q2

theorem pe_op {op : Operator} {r : R2} (ho : OpR X (binaryOp op) r) (ha : PE X a ta) (hb : PE X b tb) : PE X (.BinOp a op b pos) (tOp r ta tb) := by
  intro pins s σ H Q I h
  exact wpAny_BinOp (binT ha hb I h fun v u s2 x y H2 I2 rx ry q => ho pins s2 σ H2 x y v u Q I2 rx ry q)
theorem pe_un {op : UnaryOp} {r : V → Hp → VK → Prop} (ho : UnR X (unaryOp op) r) (ha : PE X a ta) : PE X (.UnaryOp op a pos) (tUn r ta) := by
  intro pins s σ H Q I h
  exact UnaryOp_ (thn (ha pins s σ H _ I h) fun v s1 ⟨x, H1, I1, r1, q1⟩ => ho pins s1 σ H1 x v Q I1 r1 q1)

/-! ### ints -/
theorem opI {f : Value → Value → Sem Value} {C : Int → Int → Prop} {g : Int → Int → Int}
    (rule : ∀ (i j : Int) (t u : Tok) (s : Shared) (Q : Value → Shared → Prop) (E : Value → Shared → Prop), C i j → Q (.int (g i j) s.toks) { s with toks := s.toks + 1 } → wpAny (model X.prog X.w) X.A (f (.int i t) (.int j u)) Q E s) :
    OpR X f (rI C fun i j => .int (g i j)) := by
  intro pins s σ H x y v u Q I rx ry h
  obtain ⟨i, j, rfl, rfl, hc, q⟩ := h
  obtain ⟨t, rfl⟩ := rx
  obtain ⟨t', rfl⟩ := ry
  exact rule i j t t' s _ _ hc ⟨.int (g i j), H, I.tok _, ⟨_, rfl⟩, q⟩
theorem opI0 {f : Value → Value → Sem Value} {g : Int → Int → Int}
    (rule : ∀ (i j : Int) (t u : Tok) (s : Shared) (Q : Value → Shared → Prop) (E : Value → Shared → Prop), Q (.int (g i j) s.toks) { s with toks := s.toks + 1 } → wpAny (model X.prog X.w) X.A (f (.int i t) (.int j u)) Q E s) :
    OpR X f (rI0 fun i j => .int (g i j)) := by
  intro pins s σ H x y v u Q I rx ry h
  obtain ⟨i, j, rfl, rfl, q⟩ := h
  obtain ⟨t, rfl⟩ := rx
  obtain ⟨t', rfl⟩ := ry
  exact rule i j t t' s _ _ ⟨.int (g i j), H, I.tok _, ⟨_, rfl⟩, q⟩
theorem opB0 {f : Value → Value → Sem Value} {g : Int → Int → Bool}
    (rule : ∀ (i j : Int) (t u : Tok) (s : Shared) (Q : Value → Shared → Prop) (E : Value → Shared → Prop), Q (.bool (g i j)) s → wpAny (model X.prog X.w) X.A (f (.int i t) (.int j u)) Q E s) :
    OpR X f (rI0 fun i j => .bl (g i j)) := by
  intro pins s σ H x y v u Q I rx ry h
  obtain ⟨i, j, rfl, rfl, q⟩ := h
  obtain ⟨t, rfl⟩ := rx
  obtain ⟨t', rfl⟩ := ry
  exact rule i j t t' s _ _ ⟨.bl (g i j), H, I, rfl, q⟩

def CDiv (i j : Int) : Prop := 0 < j ∧ j < 1073741824
def CPow (i j : Int) : Prop := 0 ≤ j ∧ j ≤ 1000000 ∧ i.natAbs < 2 ^ 64
def CMul (i j : Int) : Prop := (-(2 ^ 64) < i ∧ i < 2 ^ 64) ∨ (-(2 ^ 64) < j ∧ j < 2 ^ 64)
theorem CMul.ok {i j : Int} (h : CMul i j) : IntMulOk i j := by
  rcases h with ⟨h1, h2⟩ | ⟨h1, h2⟩
  · exact .of_left (intBits_le_64 h1 h2)
  · exact .of_right (intBits_le_64 h1 h2)

theorem op_add : OpR X (binaryOp .Add) (rI0 fun i j => .int (i + j)) := opI0 fun _ _ _ _ _ _ _ q => add_int q
/-- // by a positive divisor -/
theorem op_fdiv : OpR X (binaryOp .FloorDiv) (rI CDiv fun i j => .int (i / j)) := opI fun i j _ _ _ _ _ hc q => by
  have h1 : (0 : Int) < j := hc.1
  have h2 : j < 1073741824 := hc.2
  exact floordiv_int (by omega) (by rw [Int.fdiv_eq_ediv_of_nonneg i (by omega)]; exact q) (.inl (PyProof.noPylong_small (by omega)))
/-- % by a positive divisor of any size -/
theorem op_mod : OpR X (binaryOp .Mod) (rI (fun _ j => 0 < j) fun i j => .int (i % j)) := opI fun i j _ _ _ _ _ hc q => by
  have h1 : (0 : Int) < j := hc
  exact mod_int' (by omega) (by rw [Int.fmod_eq_emod_of_nonneg i (by omega)]; exact q)
theorem op_pow : OpR X (binaryOp .Pow) (rI CPow fun i j => .int (i ^ j.toNat)) := opI fun _ _ _ _ _ _ _ hc q => pow_int_small hc.1 hc.2.1 hc.2.2 q


theorem unI {f : Value → Sem Value} {g : Int → Int}
    (rule : ∀ (i : Int) (t : Tok) (s : Shared) (Q : Value → Shared → Prop) (E : Value → Shared → Prop), Q (.int (g i) s.toks) { s with toks := s.toks + 1 } → wpAny (model X.prog X.w) X.A (f (.int i t)) Q E s) :
    UnR X f (rU fun i => .int (g i)) := by
  intro pins s σ H x v Q I rx h
  obtain ⟨i, rfl, q⟩ := h
  obtain ⟨t, rfl⟩ := rx
  exact rule i t s _ _ ⟨.int (g i), H, I.tok _, ⟨_, rfl⟩, q⟩
theorem un_neg : UnR X (unaryOp .USub) (rU fun i => .int (-i)) := unI fun _ _ _ _ _ q => neg_int q

/-! ### bools among ints: n += (a < b) -/
end

/-! ### comparisons -/
/-- the scalars that == tells apart as data does -/
def scal : V → V → Bool
  | .non, .non => true | .non, .int _ => true | .int _, .non => true | .non, .bl _ => true | .bl _, .non => true | .non, .str _ => true | .str _, .non => true
  | .int _, .int _ => true | .bl _, .bl _ => true | .str _, .str _ => true | .byt _, .byt _ => true
  | .int _, .str _ => true | .str _, .int _ => true | .bl _, .str _ => true | .str _, .bl _ => true
  | _, _ => false
def rEq : R2 := fun x y H Q => scal x y = true ∧ Q (.bl (decide (x = y))) H
def rNe : R2 := fun x y H Q => scal x y = true ∧ Q (.bl (!decide (x = y))) H

theorem dec_int {i j : Int} : decide (V.int i = V.int j) = (i == j) := by
  rw [Bool.eq_iff_iff]
  simp
theorem dec_bl {i j : Bool} : decide (V.bl i = V.bl j) = (i == j) := by
  rw [Bool.eq_iff_iff]
  simp
theorem dec_str {i j : Str} : decide (V.str i = V.str j) = (i == j) := by
  rw [Bool.eq_iff_iff]
  simp
theorem dec_byt {i j : Array UInt8} : decide (V.byt i = V.byt j) = (i.toList == j.toList) := by
  rw [Bool.eq_iff_iff]
  cases i
  cases j
  simp

section
variable {X : Cx} {a b c : Expr} {ta tb tc : TE} {pos : Pos}
theorem fin_bl {pins : List (Addr × Obj)} {σ : St} {H : Hp} {s : Shared} {Q : VK} {k k' : Bool} (I : Inv X pins σ H s) (q : Q (.bl k) H) (e : k = k') : EP X pins σ Q (.bool k') s := by
  subst e
  exact ⟨.bl k, H, I, rfl, q⟩
theorem op_eq : OpR X (compareOp .Eq) rEq := by
  intro pins s σ H x y v u Q I rx ry h
  obtain ⟨hs, q⟩ := h
  cases x with
  | non =>
    cases rx
    cases y with
    | non => cases ry; exact PySem.EqNone.eq_none_none (fin_bl I q (by simp))
    | bl j => cases ry; exact PySem.EqNone.eq_none_bool (fin_bl I q (by simp))
    | int j => obtain ⟨t', rfl⟩ := ry; exact PySem.EqNone.eq_none_int (fin_bl I q (by simp))
    | str j => obtain ⟨t', rfl⟩ := ry; exact PySem.EqNone.eq_none_str (fin_bl I q (by simp))
    | _ => exact absurd (show false = true from hs) Bool.false_ne_true
  | bl i =>
    cases rx
    cases y with
    | non => cases ry; exact PySem.EqNone.eq_bool_none (fin_bl I q (by simp))
    | bl j => cases ry; exact eq_bool (fin_bl I q dec_bl)
    | str j => obtain ⟨t', rfl⟩ := ry; exact PySem.EqMixed.eq_bool_str (fin_bl I q (by simp))
    | _ => exact absurd (show false = true from hs) Bool.false_ne_true
  | int i =>
    obtain ⟨t, rfl⟩ := rx
    cases y with
    | non => cases ry; exact PySem.EqNone.eq_int_none (fin_bl I q (by simp))
    | int j => obtain ⟨t', rfl⟩ := ry; exact eq_int (fin_bl I q dec_int)
    | str j => obtain ⟨t', rfl⟩ := ry; exact PySem.EqMixed.eq_int_str (fin_bl I q (by simp))
    | _ => exact absurd (show false = true from hs) Bool.false_ne_true
  | str i =>
    obtain ⟨t, rfl⟩ := rx
    cases y with
    | non => cases ry; exact PySem.EqNone.eq_str_none (fin_bl I q (by simp))
    | bl j => cases ry; exact PySem.EqMixed.eq_str_bool (fin_bl I q (by simp))
    | int j => obtain ⟨t', rfl⟩ := ry; exact PySem.EqMixed.eq_str_int (fin_bl I q (by simp))
    | str j => obtain ⟨t', rfl⟩ := ry; exact eq_str (fin_bl I q dec_str)
    | _ => exact absurd (show false = true from hs) Bool.false_ne_true
  | byt i =>
    obtain ⟨t, rfl⟩ := rx
    cases y with
    | byt j => obtain ⟨t', rfl⟩ := ry; exact PySem.W.eq_bytes (fin_bl I q dec_byt)
    | _ => exact absurd (show false = true from hs) Bool.false_ne_true
  | _ => cases y <;> exact absurd (show false = true from hs) Bool.false_ne_true
theorem op_ne : OpR X (compareOp .NotEq) rNe := by
  intro pins s σ H x y v u Q I rx ry h
  obtain ⟨hs, q⟩ := h
  cases x with
  | non =>
    cases rx
    cases y with
    | non => cases ry; exact PySem.EqNone.ne_none_none (fin_bl I q (by simp))
    | bl j => cases ry; exact PySem.EqNone.ne_none_bool (fin_bl I q (by simp))
    | int j => obtain ⟨t', rfl⟩ := ry; exact PySem.EqNone.ne_none_int (fin_bl I q (by simp))
    | str j => obtain ⟨t', rfl⟩ := ry; exact PySem.EqNone.ne_none_str (fin_bl I q (by simp))
    | _ => exact absurd (show false = true from hs) Bool.false_ne_true
  | bl i =>
    cases rx
    cases y with
    | non => cases ry; exact PySem.EqNone.ne_bool_none (fin_bl I q (by simp))
    | bl j => cases ry; exact ne_bool (fin_bl I q (congrArg not dec_bl))
    | str j => obtain ⟨t', rfl⟩ := ry; exact PySem.EqMixed.ne_bool_str (fin_bl I q (by simp))
    | _ => exact absurd (show false = true from hs) Bool.false_ne_true
  | int i =>
    obtain ⟨t, rfl⟩ := rx
    cases y with
    | non => cases ry; exact PySem.EqNone.ne_int_none (fin_bl I q (by simp))
    | int j => obtain ⟨t', rfl⟩ := ry; exact ne_int (fin_bl I q (congrArg not dec_int))
    | str j => obtain ⟨t', rfl⟩ := ry; exact PySem.EqMixed.ne_int_str (fin_bl I q (by simp))
    | _ => exact absurd (show false = true from hs) Bool.false_ne_true
  | str i =>
    obtain ⟨t, rfl⟩ := rx
    cases y with
    | non => cases ry; exact PySem.EqNone.ne_str_none (fin_bl I q (by simp))
    | bl j => cases ry; exact PySem.EqMixed.ne_str_bool (fin_bl I q (by simp))
    | int j => obtain ⟨t', rfl⟩ := ry; exact PySem.EqMixed.ne_str_int (fin_bl I q (by simp))
    | str j => obtain ⟨t', rfl⟩ := ry; exact ne_str (fin_bl I q (congrArg not dec_str))
    | _ => exact absurd (show false = true from hs) Bool.false_ne_true
  | byt i =>
    obtain ⟨t, rfl⟩ := rx
    cases y with
    | byt j => obtain ⟨t', rfl⟩ := ry; exact PySem.W.ne_bytes (fin_bl I q (congrArg not dec_byt))
    | _ => exact absurd (show false = true from hs) Bool.false_ne_true
  | _ => cases y <;> exact absurd (show false = true from hs) Bool.false_ne_true

theorem op_lt : OpR X (compareOp .Lt) (rI0 fun i j => .bl (decide (i < j))) := opB0 fun _ _ _ _ _ _ _ q => lt_int q
theorem op_le : OpR X (compareOp .LtE) (rI0 fun i j => .bl (decide (i ≤ j))) := opB0 fun _ _ _ _ _ _ _ q => le_int q
theorem op_gt : OpR X (compareOp .Gt) (rI0 fun i j => .bl (decide (j < i))) := opB0 fun _ _ _ _ _ _ _ q => gt_int q
/-- the one string within the other -/
theorem op_in_str : OpR X (compareOp .In) (fun x y H Q => ∃ i j, x = .str i ∧ y = .str j ∧ Q (.bl (!(Builtin.Str.occurrences j i 0 j.length 1).isEmpty)) H) := by
  intro pins s σ H x y v u Q I rx ry h
  obtain ⟨i, j, rfl, rfl, q⟩ := h
  obtain ⟨t, rfl⟩ := rx
  obtain ⟨t', rfl⟩ := ry
  exact in_str (fin_bl I q rfl)


theorem op_notin_str : OpR X (compareOp .NotIn) (fun x y H Q => ∃ i j, x = .str i ∧ y = .str j ∧ Q (.bl (!(!(Builtin.Str.occurrences j i 0 j.length 1).isEmpty))) H) := by
  intro pins s σ H x y v u Q I rx ry h
  obtain ⟨i, j, rfl, rfl, q⟩ := h
  obtain ⟨t, rfl⟩ := rx
  obtain ⟨t', rfl⟩ := ry
  exact notIn_str (fin_bl I q rfl)

/-- two rules for one operation: by cases -/
theorem OpR.or {f : Value → Value → Sem Value} {r r' : R2} (h : OpR X f r) (h' : OpR X f r') : OpR X f (fun x y H Q => r x y H Q ∨ r' x y H Q) := by
  intro pins s σ H x y v u Q I rx ry q
  rcases q with q | q
  · exact h pins s σ H x y v u Q I rx ry q
  · exact h' pins s σ H x y v u Q I rx ry q

theorem nomark (b : Expr) {op : CmpOp} (h : op ≠ .In := by decide) (h2 : op ≠ .NotIn := by decide) : behindInMarks op b = false := by
  have e1 : (op == CmpOp.In) = false := by cases op <;> first | rfl | exact absurd rfl h
  have e2 : (op == CmpOp.NotIn) = false := by cases op <;> first | rfl | exact absurd rfl h2
  cases b <;> simp [behindInMarks, e1, e2]
/-- a comparison as a value; hm: nomark b, or (for in, not in) by with_unfolding_all rfl -/
theorem pe_cmpR {op : CmpOp} {r : R2} (ho : OpR X (compareOp op) r) (ha : PE X a ta) (hb : PE X b tb) (hm : behindInMarks op b = false) : PE X (.Compare a [op] [b] pos) (tOp r ta tb) := by
  intro pins s σ H Q I h
  exact wpAny_Compare1 (binT ha hb I h fun v u s2 x y H2 I2 rx ry q => ho pins s2 σ H2 x y v u Q I2 rx ry q) hm
/-- a reading of a value as a test -/
def tTest (t : TE) : TT := fun σ H Q => t σ H fun x H' => ∃ k, x = .bl k ∧ Q k H'
theorem pt_cmpR {op : CmpOp} {r : R2} (ho : OpR X (compareOp op) r) (ha : PE X a ta) (hb : PE X b tb) (hm : behindInMarks op b = false) : PT X (.Compare a [op] [b] pos) (tTest (tOp r ta tb)) := by
  intro pins s σ H Q I h
  refine wpAny_isTrue_Compare1 (thn (ha pins s σ H _ I h) fun v s1 ⟨x, H1, I1, r1, q1⟩ => thn (hb pins s1 σ H1 _ I1 q1) fun u s2 ⟨y, H2, I2, r2, q2⟩ =>
    thn (ho pins s2 σ H2 x y v u _ I2 r1 r2 q2) fun c s3 ⟨z, H3, I3, r3, k, e, q3⟩ => ?_) hm
  subst e
  cases r3
  exact wpAny_truthy_bool ⟨H3, I3, q3⟩
/-- a op1 b op2 c -/
def tChain (r r' : R2) (ta tb tc : TE) : TE := fun σ H Q => ta σ H fun x H1 => tb σ H1 fun y H2 => r x y H2 fun z H3 => ∃ k, z = .bl k ∧
  (if k = true then tc σ H3 fun w' H4 => r' y w' H4 Q else Q (.bl false) H3)
theorem pe_chain {op op' : CmpOp} {r r' : R2} (ho : OpR X (compareOp op) r) (ho' : OpR X (compareOp op') r') (ha : PE X a ta) (hb : PE X b tb) (hc : PE X c tc)
    (hm : lastMarks [op, op'] [b, c] = false := by with_unfolding_all rfl) : PE X (.Compare a [op, op'] [b, c] pos) (tChain r r' ta tb tc) := by
  intro pins s σ H Q I h
  refine Compare_chain (thn (ha pins s σ H _ I h) fun v s1 ⟨x, H1, I1, r1, q1⟩ => chain_link (thn (hb pins s1 σ H1 _ I1 q1) fun u s2 ⟨y, H2, I2, r2, q2⟩ =>
    thn (ho pins s2 σ H2 x y v u _ I2 r1 r2 q2) fun d s3 ⟨z, H3, I3, r3, k, e, q3⟩ => ?_)) hm
  subst e
  cases r3
  refine wpAny_truthy_bool ?_
  cases k with
  | false => exact ite_ff ⟨.bl false, H3, I3, rfl, q3⟩
  | true => exact ite_tt (chain_last (thn (hc pins s3 σ H3 _ I3 q3) fun w' s4 ⟨z', H4, I4, r4, q4⟩ => ho' pins s4 σ H4 y z' u w' Q I4 r2 r4 q4))
theorem pt_chain {op op' : CmpOp} {r r' : R2} (ho : OpR X (compareOp op) r) (ho' : OpR X (compareOp op') r') (ha : PE X a ta) (hb : PE X b tb) (hc : PE X c tc)
    (hm : lastMarks [op, op'] [b, c] = false := by with_unfolding_all rfl) : PT X (.Compare a [op, op'] [b, c] pos) (tTest (tChain r r' ta tb tc)) := by
  intro pins s σ H Q I h
  refine isTrue_chain (thn (ha pins s σ H _ I h) fun v s1 ⟨x, H1, I1, r1, q1⟩ => test_link (thn (hb pins s1 σ H1 _ I1 q1) fun u s2 ⟨y, H2, I2, r2, q2⟩ =>
    thn (ho pins s2 σ H2 x y v u _ I2 r1 r2 q2) fun d s3 ⟨z, H3, I3, r3, k, e, q3⟩ => ?_)) hm
  subst e
  cases r3
  refine wpAny_truthy_bool ?_
  cases k with
  | false =>
    obtain ⟨k', e', q'⟩ := q3
    cases e'
    exact ite_ff ⟨H3, I3, q'⟩
  | true =>
    refine ite_tt (test_last (thn (hc pins s3 σ H3 _ I3 q3) fun w' s4 ⟨z', H4, I4, r4, q4⟩ => thn (ho' pins s4 σ H4 y z' u w' _ I4 r2 r4 q4) fun d' s5 ⟨z2, H5, I5, r5, k2, e2, q5⟩ => ?_))
    subst e2
    cases r5
    exact wpAny_truthy_bool ⟨H5, I5, q5⟩

/-! ### truth -/
theorem line63 : (sizeLine : Nat) < 2 ^ 63 := by rw [sizeLine_eq]; decide

/-! ### strs and bytes -/
theorem op_add_str : OpR X (binaryOp .Add) (fun x y H Q => ∃ i j, x = .str i ∧ y = .str j ∧ i.length + j.length ≤ sizeLine ∧ Q (.str (i ++ j)) H) := by
  intro pins s σ H x y v u Q I rx ry h
  obtain ⟨i, j, rfl, rfl, hz, q⟩ := h
  obtain ⟨t, rfl⟩ := rx
  obtain ⟨t', rfl⟩ := ry
  exact add_str (fun t' tk => ⟨.str (i ++ j), H, I.tok _, ⟨_, rfl⟩, q⟩) hz


/-! ### scalar builtins, by CallR -/
theorem vals1 {x : V} {us : List Value} (r : Vals [x] us) : ∃ u, us = [u] ∧ RelV x u := by
  cases r with
  | cons r1 r2 => cases r2; exact ⟨_, rfl, r1⟩
theorem vals2 {x y : V} {us : List Value} (r : Vals [x, y] us) : ∃ u w', us = [u, w'] ∧ RelV x u ∧ RelV y w' := by
  cases r with
  | cons r1 r2 =>
    cases r2 with
    | cons r3 r4 => cases r4; exact ⟨_, _, rfl, r1, r3⟩
theorem call_int1 : CallR X (.type "int") (fun xs H Q => (∃ i, xs = [.int i] ∧ Q (.int i) H) ∨ ∃ k, xs = [.bl k] ∧ Q (.int (if k then 1 else 0)) H) := by
  intro pins s σ H xs us Q I r h
  rcases h with ⟨i, rfl, q⟩ | ⟨k, rfl, q⟩
  · obtain ⟨u, rfl, t, rfl⟩ := vals1 r
    exact call_int_int ⟨.int i, H, I, ⟨_, rfl⟩, q⟩
  · obtain ⟨u, rfl, r1⟩ := vals1 r
    cases r1
    exact call_int_bool ⟨.int (if k then 1 else 0), H, I.tok _, ⟨_, rfl⟩, q⟩
theorem call_str_int : CallR X (.type "str") (fun xs H Q => ∃ i, xs = [.int i] ∧ i.natAbs.log2 < 1920 ∧ Q (.str (toString i)) H) := by
  intro pins s σ H xs us Q I r h
  obtain ⟨i, rfl, hz, q⟩ := h
  obtain ⟨u, rfl, t, rfl⟩ := vals1 r
  exact PySem.P.str_of_int hz ⟨.str _, H, I.tok _, ⟨_, rfl⟩, q⟩
end
end L2

namespace L2
open PySem PySem.Spec PyProof.Rows

/-! ### an instance, its attributes a map -/
structure ObjM (h : Heap) (x dx C : Addr) (mA : Str → Option Value) : Prop where
  obj : h.get? x = some (PySem.W.instObj C dx)
  ns : h.Ns1 dx mA
  ne : dx ≠ x

theorem lookIn_ns {h : Heap} {dx : Addr} {mA : Str → Option Value} (n : h.Ns1 dx mA) : ∃ od, h.get? dx = some od ∧ ∀ name, PySem.W.lookIn name od = some (mA name) := by
  obtain ⟨o, es, ep, ho, hd, hk, _, hm⟩ := n
  refine ⟨o, ho, fun name => ?_⟩
  have e := hm name
  unfold nsFind findBy at e
  rw [← Array.find?_toList] at e
  unfold PySem.W.lookIn
  rw [hd]
  dsimp only
  split
  · rename_i y q
    rw [q] at e
    exact congrArg some e
  · rename_i q
    rw [q] at e
    have a : es.toList.any (·.refKey) = false := by
      rw [List.any_eq_false]
      intro y hy
      obtain ⟨z, t, hkey⟩ := hk y (Array.mem_toList_iff.mp hy)
      simp [DictEntry.refKey, hkey]
    have a' : ¬ es.toList.any (·.refKey) = true := by rw [a]; exact Bool.false_ne_true
    rw [if_neg a']
    exact congrArg some e

theorem ObjM.look {h : Heap} {x dx C : Addr} {mA : Str → Option Value} (I : ObjM h x dx C mA) : ∃ od, PySem.W.InstAt h x (PySem.W.instObj C dx) C (some od) ∧ ∀ name, PySem.W.lookIn name od = some (mA name) :=
  let ⟨od, ho, hl⟩ := lookIn_ns I.ns
  ⟨od, ⟨I.obj, rfl, rfl, ho⟩, hl⟩

section
variable {prog : Program} {w : World} {A : Around} {E : Value → Shared → Prop} {s : Shared} {K : PySem.W.Frag} {x dx C f : Addr} {mA : Str → Option Value} {name : Str} {v : Value}





end

/-! ### the attributes as a list of pairs -/

theorem RelO.none_of {o : Option Value} (r : RelO none o) : o = none := by
  cases o with
  | none => rfl
  | some u => exact (show False from r).elim

section
variable {P : Program} {w : World} {H H' : Hp} {h h' : Heap} {a C dx : Addr} {fs fs' : List (Str × V)}
theorem ins_get (hok : HOk P w H h) (e : H a = some (.ins C dx fs)) : ∃ mA, ObjM h a dx C mA ∧ (∀ f, RelO (fs.lookup f) (mA f)) ∧ PySem.Within mA (fs.map (·.1)) ∧ fs.length ≤ 1000 ∧ H dx = some (.own a) := by
  obtain ⟨d, z, ne, ob, mA, n, r, q⟩ := (show ObjOk P w H h a (.ins C dx fs) from hok a _ e)
  exact ⟨mA, ⟨ob, n, ne⟩, r, q, z, d⟩
end

/-! ### what of the text a class must have -/
structure Cls (K : PySem.W.Frag) (C : Addr) : Prop where
  pg : PySem.W.plainGet K C Str.empty = true
  hd : PySem.W.hasDictIn K C = true
  po : PySem.W.plainOver K C = true
  sa : PySem.W.findIn K (.ref C) "__setattr__" = some (some (.builtin "object.__setattr__"))
theorem Cls.get {K : PySem.W.Frag} {C : Addr} (c : Cls K C) (f : Str) : PySem.W.plainGet K C f = true := c.pg
/-- a constant of the class -/
structure Con (K : PySem.W.Frag) (C : Addr) (f : Str) (v : V) (u : Value) : Prop where
  at_ : PySem.W.findIn K (.ref C) f = some (some u)
  rel : RelV v u
  get : PySem.W.specialIn K u "__get__" = some none
  cp : PySem.W.copiedNames.contains f = false
/-- a method: a plain def of the class or of one above it -/
structure Meth (K : PySem.W.Frag) (C : Addr) (m : Str) (f : Addr) : Prop where
  at_ : PySem.W.findIn K (.ref C) m = some (some (.ref f))
  fn : PySem.W.isFn K (.ref f) = true
  kp : PySem.W.keepIn K (.ref f) = true

section
variable {X : Cx} {pins : List (Addr × Obj)} {σ : St} {H : Hp} {s : Shared} {a C dx : Addr} {fs : List (Str × V)} {f : Str} {v : V} {A : Around} {E : Value → Shared → Prop}





/-- a new instance, tracked, without attributes -/
theorem Inv.made (I : Inv X pins σ H s) : Inv X pins σ (upd (upd H s.heap.objs.size (.own (s.heap.objs.size + 1))) (s.heap.objs.size + 1) (.ins C s.heap.objs.size []))
    { s with heap := (s.heap.push PySem.W.emptyDict).push (PySem.W.instObj C s.heap.objs.size) } := by
  have e1 : (s.heap.push PySem.W.emptyDict).get? s.heap.objs.size = some PySem.W.emptyDict := Heap.get?_push_size s.heap rfl
  have e2 : ((s.heap.push PySem.W.emptyDict).push (PySem.W.instObj C s.heap.objs.size)).get? (s.heap.objs.size + 1) = some (PySem.W.instObj C s.heap.objs.size) := by
    have := Heap.get?_push_size (s.heap.push PySem.W.emptyDict) (o := PySem.W.instObj C s.heap.objs.size) rfl
    rwa [Heap.size_push] at this
  have e3 : (s.heap.push PySem.W.emptyDict).Ns s.heap.objs.size (fun _ => none) := ⟨PySem.W.emptyDict, #[], _, e1, rfl, (fun e he => absurd he (by simp)), fun _ => rfl⟩
  have I1 := I.laid (a := s.heap.objs.size) (o := .own (s.heap.objs.size + 1)) (h' := s.heap.push PySem.W.emptyDict) (t' := s.toks) (fun b u q => Heap.get?_push_of_some _ q) (Nat.le_refl _) ⟨_, e1⟩
  refine I1.laid (a := s.heap.objs.size + 1) (o := .ins C s.heap.objs.size []) (t' := s.toks) (fun b u q => Heap.get?_push_of_some _ q) (Nat.le_of_eq (Heap.size_push _ _)) ?_
  have ne : s.heap.objs.size ≠ s.heap.objs.size + 1 := Nat.ne_of_lt (Nat.lt_succ_self _)
  refine ⟨by rw [upd_ne ne, upd_same], Nat.zero_le _, ne, e2, fun _ => none, (Heap.Ns1.of_empty e3).at fun o q => Heap.get?_push_of_some _ q, fun _ => True.intro, fun y hy => absurd rfl hy⟩

end

/-! ### readings and rules -/

section
variable {X : Cx} {o e value : Expr} {f : Str} {pos pos' tpos : Pos} {ta tv : TE}

end

/-! ### isinstance -/
section
variable {X : Cx} {pins : List (Addr × Obj)} {σ : St} {H : Hp} {s : Shared} {A : Around} {E : Value → Shared → Prop} {Q : Value → Shared → Prop} {c : Value} {b : Bool}
/-- the type of a value, as the fragment's deciders take it; for an instance its class -/
inductive TyOf (K : PySem.W.Frag) (H : Hp) : V → Value → Prop where
  | non : TyOf K H .non (.type "NoneType")
  | bl (x : Bool) : TyOf K H (.bl x) (.type "bool")
  | int (i : Int) : TyOf K H (.int i) (.type "int")
  | str (x : Str) : TyOf K H (.str x) (.type "str")
  | flt (x : UInt64) : TyOf K H (.flt x) (.type "float")
  | lst {a : Addr} {xs : List V} (e : H a = some (.lst xs)) : TyOf K H (.ref a) (.type "list")
  | frz {a : Addr} {o : Obj} {xs : List V} (e : H a = some (.frz o (.lst xs))) : TyOf K H (.ref a) (.type "list")
  | tup {a : Addr} {xs : List V} (e : H a = some (.tup xs)) : TyOf K H (.ref a) (.type "tuple")
  | dK {a : Addr} {kvs : List (Key × V)} (e : H a = some (.dK kvs)) : TyOf K H (.ref a) (.type "dict")
  | dT {a : Addr} {kvs : List (List Key × V)} (e : H a = some (.dT kvs)) : TyOf K H (.ref a) (.type "dict")
  | ins {a C dx : Addr} {fs : List (Str × V)} (e : H a = some (.ins C dx fs)) (cl : Cls K C) (ha : PySem.W.findIn K (.ref C) "__class__" = some (some (.builtin "object.__class__")))
      (hn : PySem.W.specialIn K (.builtin "object.__class__") "__get__" = some (some (.builtin "getset_descriptor.__get__"))) (htk : PySem.W.takesIn K (.builtin "object.__class__") = some true)
      (hm : PySem.W.mroIn K C (.type "object") = some true) : TyOf K H (.ref a) (.ref C)
/-- isinstance(x, c) for one class c, a built-in or an own one: kitOne's answer -/
theorem isinst_ok {x : V} {u t : Value} (I : Inv X pins σ H s) (rx : RelV x u) (ty : TyOf X.K H x t) (e : PySem.W.kitOne X.K t c = some b) (h : ∀ tk, Q (.bool b) { s with toks := tk }) :
    wpAny (model X.prog X.w) A (call (.builtin "isinstance") [u, c]) Q E s := by
  cases ty with
  | non => cases (show u = Value.none from rx); exact PySem.W.kia_one PySem.W.kitx_none I.kIn True.intro e (fun z => nomatch z) h
  | bl y => cases (show u = Value.bool y from rx); exact PySem.W.kia_one PySem.W.kitx_bool I.kIn True.intro e (fun z => nomatch z) h
  | int i => obtain ⟨t, q⟩ := (show ∃ t, u = Value.int i t from rx); cases q; exact PySem.W.kia_one PySem.W.kitx_int I.kIn True.intro e (fun z => nomatch z) h
  | str y => obtain ⟨t, q⟩ := (show ∃ t, u = Value.str y t from rx); cases q; exact PySem.W.kia_one PySem.W.kitx_str I.kIn True.intro e (fun z => nomatch z) h
  | flt y => obtain ⟨t, q⟩ := (show ∃ t, u = Value.float y t from rx); cases q; exact PySem.W.kia_one PySem.W.kitx_float I.kIn True.intro e (fun z => nomatch z) h
  | @lst a xs ea =>
    cases (show u = Value.ref a from rx)
    obtain ⟨_, _, n, _, h1⟩ := (show ObjOk X.prog X.w H s.heap a (.lst xs) from I.hok a _ ea)
    exact PySem.W.kia_one PySem.W.kitx_list I.kIn ⟨_, h1, rfl⟩ e (fun z => nomatch z) h
  | @frz a ob xs ea =>
    cases (show u = Value.ref a from rx)
    obtain ⟨_, _, _, n, _, h1⟩ := (show ObjOk X.prog X.w H s.heap a (.frz ob (.lst xs)) from I.hok a _ ea)
    exact PySem.W.kia_one PySem.W.kitx_list I.kIn ⟨_, h1, rfl⟩ e (fun z => nomatch z) h
  | @tup a xs ea =>
    cases (show u = Value.ref a from rx)
    obtain ⟨_, _, _, p⟩ := (show ObjOk X.prog X.w H s.heap a (.tup xs) from I.hok a _ ea)
    obtain ⟨o, h1, h2, _⟩ := p
    exact PySem.W.kia_one PySem.W.kitx_tuple I.kIn ⟨o, h1, h2⟩ e (fun z => nomatch z) h
  | @dK a kvs ea =>
    cases (show u = Value.ref a from rx)
    obtain ⟨_, _, vs, _, p⟩ := (show ObjOk X.prog X.w H s.heap a (.dK kvs) from I.hok a _ ea)
    obtain ⟨o, es, ep, h1, h2, _⟩ := p
    exact PySem.W.kia_one PySem.W.kitx_dict I.kIn ⟨o, h1, h2.1⟩ e (fun z => nomatch z) h
  | @dT a kvs ea =>
    cases (show u = Value.ref a from rx)
    obtain ⟨_, _, xs, _, o, es, ep, h1, h2, _⟩ := (show ObjOk X.prog X.w H s.heap a (.dT kvs) from I.hok a _ ea)
    exact PySem.W.kia_one PySem.W.kitx_dict I.kIn ⟨o, h1, h2.1⟩ e (fun z => nomatch z) h
  | @ins a C dx fs ea cl ha hn htk hm =>
    cases (show u = Value.ref a from rx)
    obtain ⟨mA, O, _⟩ := ins_get I.hok ea
    obtain ⟨od, J, _⟩ := O.look
    exact PySem.W.kia_one (PySem.W.kitx_own (cl.get _) cl.hd ha hn htk hm) I.kIn J e (fun z => nomatch z) h
end
end L2

namespace L2
open PySem PySem.Spec PyProof.Rows

/-! ### room -/
structure Room (k : Nat) (A : Around) : Prop where
  hd : A.handled = none
  dp : A.depth + 3 * k + 5 < recursionLimit
  un : A.units + 16 * k + 200 < cLine
theorem Room.mono {j k : Nat} {A : Around} (r : Room k A) (h : j ≤ k) : Room j A := ⟨r.hd, by have := r.dp; omega, by have := r.un; omega⟩
theorem Room.deeper {k : Nat} {A : Around} (r : Room (k + 1) A) (env : Env) : Room k (A.deeper env) :=
  ⟨r.hd, by have := r.dp; show A.depth + 1 + 3 * k + 5 < _; omega, by have := r.un; show A.units + 3 + 16 * k + 200 < _; omega⟩
theorem Room.in1 {k : Nat} {A : Around} (r : Room (k + 1) A) : Room k A.in1 :=
  ⟨r.hd, by have := r.dp; show A.depth + 3 * k + 5 < _; omega, by have := r.un; show A.units + 1 + 16 * k + 200 < _; omega⟩
theorem make_depth {A : Around} {C : Addr} {us : List Value} {kw : List (Str × Value)} : (A.under (.builtin "type.__call__" ⟨.ref C :: us, kw⟩)).depth = A.depth + 1 := by
  first | rfl | simp [Around.under, Code.weight, Code.isCreation, Code.isGuard, Code.isCaller, Code.frames, Code.isFrame, guardIds]
theorem make_units {A : Around} {C : Addr} {us : List Value} {kw : List (Str × Value)} : (A.under (.builtin "type.__call__" ⟨.ref C :: us, kw⟩)).units = A.units + 1 := by
  first | rfl | simp [Around.under, Code.cUnits, Code.frames, Code.isFrame]
theorem Room.make {k : Nat} {A : Around} (r : Room (k + 1) A) (C : Addr) (us : List Value) (kw : List (Str × Value)) : Room k (A.under (.builtin "type.__call__" ⟨.ref C :: us, kw⟩)) :=
  ⟨r.hd, by have := r.dp; rw [make_depth]; omega, by have := r.un; rw [make_units]; omega⟩
theorem Room.depth {k : Nat} {A : Around} (r : Room k A) : A.depth < recursionLimit := by have := r.dp; omega
theorem Room.units {k : Nat} {A : Around} (r : Room k A) : A.units + 64 < cLine := by have := r.un; omega

/-! ### argument lists and displays -/
def tNil : TA := fun _ H Q => Q [] H
def tCons (ta : TE) (tr : TA) : TA := fun σ H Q => ta σ H fun x H1 => tr σ H1 fun xs H2 => Q (x :: xs) H2
section
variable {X : Cx} {e : Expr} {es : List Expr} {te : TE} {t : TA} {pos : Pos}
theorem pa_nil : PA X [] tNil := fun _ _ _ _ H Q I h => Calls.spliced_nil ⟨[], H, I, .nil, h⟩
theorem pa_cons (ha : PE X e te) (hr : PA X es t) (hs : starEach (e :: es) X.env = (false, eval e X.env) :: starEach es X.env := by rfl) : PA X (e :: es) (tCons te t) := by
  intro pos pins s σ H Q I h
  rw [hs]
  show wpAny _ _ (spliced ((false, eval e X.env) :: backTo pos (starEach es X.env))) _ _ s
  refine Calls.spliced_cons (thn (ha pins s σ H _ I h) fun u s1 ⟨x, H1, I1, r1, q1⟩ => ?_)
  exact thn (hr pos pins s1 σ H1 _ I1 q1) fun us s2 ⟨xs, H2, I2, r2, q2⟩ => ⟨x :: xs, H2, I2, .cons r1 r2, q2⟩

/-- a tuple, a list of written items -/
def tTup (t : TA) : TE := fun σ H Q => t σ H fun xs H1 => xs.length ≤ sizeLine ∧ ∀ p, H1 p = none → Q (.ref p) (upd H1 p (.tup xs))
def tLst (t : TA) : TE := fun σ H Q => t σ H fun xs H1 => xs.length ≤ sizeLine ∧ ∀ p, H1 p = none → Q (.ref p) (upd H1 p (.lst xs))
theorem pe_tup {x1} (h : PA X es t) : PE X (.Tuple es x1 pos) (tTup t) := by
  intro pins s σ H Q I hq
  refine wpAny_Tuple_spliced (thn (h pos pins s σ H _ I hq) fun us s1 ⟨xs, H1, I1, r, z, q⟩ => ⟨by rw [← r.length]; exact z, ?_⟩)
  have hf : H1 s1.heap.objs.size = none := I1.hok.fresh (Nat.le_refl _)
  refine ⟨.ref s1.heap.objs.size, upd H1 s1.heap.objs.size (.tup xs), I1.laid (t' := s1.toks) (fun b u e => Heap.get?_push_of_some _ e) (Nat.le_refl _) ?_, rfl, q _ hf⟩
  exact ⟨z, us, r, ⟨_, Heap.get?_push_size _ rfl, rfl, _, rfl⟩⟩
theorem pe_lst (h : PA X es t) : PE X (.List es pos) (tLst t) := by
  intro pins s σ H Q I hq
  refine wpAny_List_spliced (thn (h pos pins s σ H _ I hq) fun us s1 ⟨xs, H1, I1, r, z, q⟩ => ⟨by rw [← r.length]; exact z, ?_⟩)
  have hf : H1 s1.heap.objs.size = none := I1.hok.fresh (Nat.le_refl _)
  refine ⟨.ref s1.heap.objs.size, upd H1 s1.heap.objs.size (.lst xs), I1.laid (t' := s1.toks) (fun b u e => Heap.get?_push_of_some _ e) (Nat.le_refl _) ?_, rfl, q _ hf⟩
  exact ⟨z, us, 0, r, Heap.get?_push_size _ rfl⟩
end

/-! ### what a def promises -/
/-- a def's promise: the bound arguments in the parameters' order, the heap, the wanted end, the wanted exception -/
abbrev Sp := List V → Hp → VK → XK → Prop
/-- how an exception lies behind a call (file 08 gives it): the callers' frames, abstract heap and state ahead of the call, the wish, the exception, the state -/
abbrev CXT := List Env → Hp → Shared → XK → Value → Shared → Prop

/-- the state at a call -/
structure Env0 (P : Program) (w : World) (K : PySem.W.Frag) (mg : Str → Option Value) (base : Heap) (A : Around) (outer : List Env) (s : Shared) (H : Hp) : Prop where
  frames : A.frames = some outer
  mod : Mod K mg base
  bs : ∀ b o, base.get? b = some o → s.heap.get? b = some o ∧ H b = none
  bsz : base.objs.size ≤ s.heap.objs.size
  funs : s.heap.FunFrames base outer
  frf : ∀ b ∈ frs outer, H b = none
  hok : HOk P w H s.heap
  bare : AllBare s.gens
/-- a call's end -/
def CE (outer : List Env) (P : Program) (w : World) (H : Hp) (s : Shared) (Q : VK) (u : Value) (s' : Shared) : Prop :=
  ∃ v H', s'.os = s.os ∧ AllBare s'.gens ∧ Un (frs outer) [] H H' s.heap s'.heap ∧ HOk P w H' s'.heap ∧ RelV v u ∧ Q v H'
def CR (CX : CXT) (outer : List Env) (P : Program) (w : World) (H : Hp) (s : Shared) (Q : VK) (E : XK) (r : Result) (s' : Shared) : Prop :=
  match r with
  | .ok (.ret u) => CE outer P w H s Q u s'
  | .ok _ => False
  | .error e => CX outer H s E e s'
structure FnOk (P : Program) (w : World) (K : PySem.W.Frag) (mg : Str → Option Value) (base : Heap) (CX : CXT) (k : Nat) (f : Addr) (fd : FuncData) (ps : List Str) (sp : Sp) : Prop where
  len : ∀ vs H Q E, sp vs H Q E → vs.length = ps.length
  run : ∀ (A : Around) (outer : List Env) (s : Shared) (H : Hp) (args : Args) (us : List Value) (vs : List V) (Q : VK) (E : XK), Room k A → Env0 P w K mg base A outer s H → BindsTo s fd args (ps.zip us) → Vals vs us → sp vs H Q E →
    codeAny (model P w) A (.call (.ref f) args) (CR CX outer P w H s Q E) s
theorem FnOk.mono {P : Program} {w : World} {K : PySem.W.Frag} {mg : Str → Option Value} {base : Heap} {CX : CXT} {j k : Nat} {f : Addr} {fd : FuncData} {ps : List Str} {sp : Sp} (F : FnOk P w K mg base CX j f fd ps sp) (h : j ≤ k) :
    FnOk P w K mg base CX k f fd ps sp := ⟨F.len, fun A outer s H args us vs Q E hr => F.run A outer s H args us vs Q E (hr.mono h)⟩

theorem Env0.make {P : Program} {w : World} {K : PySem.W.Frag} {mg : Str → Option Value} {base : Heap} {A : Around} {outer : List Env} {s : Shared} {H : Hp} (e : Env0 P w K mg base A outer s H) (C : Addr) (us : List Value) (kw : List (Str × Value)) :
    Env0 P w K mg base (A.under (.builtin "type.__call__" ⟨.ref C :: us, kw⟩)) outer s H := ⟨by first | exact e.frames | (simpa [Around.under, Code.envs, Code.isFrame, pushEnvs] using e.frames), e.mod, e.bs, e.bsz, e.funs, e.frf, e.hok, e.bare⟩
theorem Env0.in1 {P : Program} {w : World} {K : PySem.W.Frag} {mg : Str → Option Value} {base : Heap} {A : Around} {outer : List Env} {s : Shared} {H : Hp} (e : Env0 P w K mg base A outer s H) :
    Env0 P w K mg base A.in1 outer s H := ⟨e.frames, e.mod, e.bs, e.bsz, e.funs, e.frf, e.hok, e.bare⟩

section
variable {X : Cx} {pins : List (Addr × Obj)} {σ : St} {H : Hp} {s s' : Shared}
/-- from a body: what a callee wants -/
theorem Inv.env0 (I : Inv X pins σ H s) : Env0 X.prog X.w X.K X.mg X.base X.A X.stack s H :=
  ⟨I.ok.frames, I.ok.mod, I.bs, Nat.le_trans I.ok.bsz I.sz, I.stack, I.stkFree, I.hok, I.bare⟩
/-- behind a call -/
theorem Inv.after {Q : VK} {u : Value} (I : Inv X pins σ H s) (h : CE X.stack X.prog X.w H s Q u s') : EP X pins σ Q u s' := by
  obtain ⟨v, H', os, bare, un, hok, r, q⟩ := h
  obtain ⟨hh, g, d, t, os'⟩ := s'
  obtain rfl : os' = s.os := os
  exact ⟨v, H', I.call (h' := hh) (g' := g) (d' := d) (t' := t) (ch := []) un hok bare (fun b z => absurd z (by simp)), r, q⟩
end

/-! ### calls -/
/-- f(..): the written arguments, then the defaults dvs; E: what is wanted of an exception -/
def tCall (sp : Sp) (dvs : List V) (E : XK) (t : TA) : TE := fun σ H Q => t σ H fun vs H1 => sp (vs ++ dvs) H1 Q E

/-- how the parameters are bound: us the positional arguments, kw the keywords' values by name, ds the defaults that fill up -/
def Binds (K : PySem.W.Frag) (fd : FuncData) (ps : List Str) (ds : List Value) : Prop :=
  ∀ (s : Shared) (us : List Value), K.In s.heap → (us ++ ds).length = ps.length → BindsTo s fd ⟨us, []⟩ (ps.zip (us ++ ds))
/-- every parameter is given -/
theorem Binds.all {K : PySem.W.Frag} {fd : FuncData} {ps : List Str} (h : ∀ us : List Value, us.length = ps.length → bindArgs fd ⟨us, []⟩ = pure (ps.zip us)) : Binds K fd ps [] := fun s us _ hl => by
  rw [List.append_nil] at hl ⊢
  exact .of_eq (h us hl)

/-- an exception of a callee reaches what this body wants of exceptions -/
def Passes (CX : CXT) (X : Cx) (E : XK) : Prop := ∀ (pins : List (Addr × Obj)) (σ : St) (H : Hp) (s : Shared) (e : Value) (s' : Shared), Inv X pins σ H s → CX X.stack H s E e s' → X.xe e s'

section
variable {X : Cx} {CX : CXT} {k : Nat} {f C : Addr} {fd : FuncData} {ps : List Str} {sp : Sp} {dvs : List V} {ds : List Value} {E : XK} {x m : Str} {p pos apos : Pos} {e o : Expr} {es : List Expr} {ta : TE} {t : TA}

/-- the callee runs -/
theorem run_fn {pins : List (Addr × Obj)} {σ : St} {H : Hp} {s : Shared} {Q : VK} {us : List Value} {vs : List V} (F : FnOk X.prog X.w X.K X.mg X.base CX k f fd ps sp) (hr : Room k X.A) (hb : Binds X.K fd ps ds) (hd : Vals dvs ds) (hx : Passes CX X E)
    (I : Inv X pins σ H s) (r : Vals vs us) (h : sp (vs ++ dvs) H Q E) : wpAny (model X.prog X.w) X.A (call (.ref f) us) (EP X pins σ Q) X.xe s := by
  have r2 : Vals (vs ++ dvs) (us ++ ds) := r.append hd
  have hl : (us ++ ds).length = ps.length := by rw [← r2.length]; exact F.len _ _ _ _ h
  refine wpAny_call (codeAny_mono (F.run X.A X.stack s H ⟨us, []⟩ (us ++ ds) (vs ++ dvs) Q E hr I.env0 (hb s us I.kIn hl) r2 h) fun r s' hq => ?_)
  cases r with
  | error e => exact hx pins σ H s e s' I hq
  | ok fl =>
    cases fl with
    | ret u => exact I.after hq
    | next => exact False.elim hq
    | brk => exact False.elim hq
    | cont => exact False.elim hq

theorem pe_call (F : FnOk X.prog X.w X.K X.mg X.base CX k f fd ps sp) (hr : Room k X.A) (hg : Gl X x) (hm : X.mg x = some (.ref f)) (hk : PySem.W.keepIn X.K (.ref f) = true) (hb : Binds X.K fd ps ds) (hd : Vals dvs ds) (hx : Passes CX X E)
    (ha : PA X (e :: es) t) (hdb : (x == ("__debug__" : Str)) = false := by decide) (he : starEach (e :: es) X.env = (false, eval e X.env) :: starEach es X.env := by rfl) (hpl : (backTo pos (starEach es X.env)).any (·.1) = false := by rfl) :
    PE X (.Call (.Name x p) (e :: es) [] pos) (tCall sp dvs E t) := by
  intro pins s σ H Q I h
  refine wpAny_Call_Name_kw (ld_glob I hg hm ?_ hdb)
  refine PySem.W.callWith_K (h₀ := X.base) I.ok.mod.kin hk (thn (ha pos pins s σ H _ I h) fun us s1 ⟨vs, H1, I1, r, q⟩ => ⟨I1.kIn, ?_⟩) he hpl
  exact run_fn F hr hb hd hx I1 r q


/-- what a class must have to be made -/
structure Mk (K : PySem.W.Frag) (C f : Addr) : Prop where
  makes : PySem.W.makesIn K C = true
  init : PySem.W.findIn K (.ref C) "__init__" = some (some (.ref f))
  fn : PySem.W.isFn K (.ref f) = true
  kp : PySem.W.keepIn K (.ref C) = true

end

/-! ### keywords -/
section
variable {X : Cx} {CX : CXT} {k : Nat} {f C : Addr} {fd : FuncData} {ps ks : List Str} {sp : Sp} {E : XK} {x m : Str} {p pos apos kpos : Pos} {e o : Expr} {es : List Expr} {kws : List Keyword} {te ta : TE} {t tk : TA} {nm : Option Str}

/-- how a call with keywords binds: g puts the positional values us and the keywords' values ws (names ks) in the parameters' order, defaults among them -/
structure KBinds (K : PySem.W.Frag) (fd : FuncData) (ps ks : List Str) (g : List Value → List Value → List Value) (gV : List V → List V → List V) : Prop where
  to : ∀ (s : Shared) (us ws : List Value), K.In s.heap → (g us ws).length = ps.length → BindsTo s fd ⟨us, ks.zip ws⟩ (ps.zip (g us ws))
  rel : ∀ {vs : List V} {us : List Value} {zs : List V} {ws : List Value}, Vals vs us → Vals zs ws → Vals (gV vs zs) (g us ws)
variable {g : List Value → List Value → List Value} {gV : List V → List V → List V}
end

/-! ### a def's body keeps its promise -/
/-- names: the parameters first -/
structure FnScope (N P : List Str) (sc : Scope) : Prop where
  kind : sc.kind = .function
  co : sc.isCoroutine = false
  gen : sc.isGenerator = false
  nd : N.Nodup
  pre : N.take P.length = P
  par : ∀ x ∈ P, sc.names.lookup x = some .local ∨ sc.names.lookup x = some .cell
  nofree : ∀ y ∈ sc.names, y.2 ≠ .free

theorem bindL_out {kindOf : Str → Option NameKind} {x : Str} : ∀ {binds : List (Str × Value)} {m : Str → Option Value}, (∀ v, (x, v) ∉ binds) → bindL kindOf binds m x = m x
  | [], _, _ => rfl
  | (n, v) :: r, m, h => by
    unfold bindL
    rw [bindL_out fun w hw => h w (List.mem_cons_of_mem _ hw)]
    split
    · have : x ≠ n := by rintro rfl; exact h v List.mem_cons_self
      simp [this]
    · rfl
theorem bindC_out {kindOf : Str → Option NameKind} {x : Str} : ∀ {binds : List (Str × Value)} {m : Str → Option Value}, (∀ v, (x, v) ∉ binds) → bindC kindOf binds m x = m x
  | [], _, _ => rfl
  | (n, v) :: r, m, h => by
    unfold bindC
    rw [bindC_out fun w hw => h w (List.mem_cons_of_mem _ hw)]
    split
    · rfl
    · have : x ≠ n := by rintro rfl; exact h v List.mem_cons_self
      simp [this]
theorem bindL_get {kindOf : Str → Option NameKind} {x : Str} {v : Value} : ∀ {P : List Str} {vs : List Value} {i : Nat} {m : Str → Option Value}, P.Nodup → P[i]? = some x → vs[i]? = some v → kindOf x = some .local →
    bindL kindOf (P.zip vs) m x = some v
  | [], _, _, _, _, h, _, _ => by simp at h
  | _ :: _, [], _, _, _, _, h, _ => by simp at h
  | p :: P, w :: vs, 0, m, nd, h1, h2, hk => by
    simp at h1 h2; subst h1; subst h2
    show bindL kindOf ((p, w) :: P.zip vs) m p = _
    unfold bindL
    rw [bindL_out fun v hv => (List.nodup_cons.mp nd).1 (List.of_mem_zip hv).1, if_pos hk]
    simp
  | p :: P, w :: vs, i + 1, m, nd, h1, h2, hk => by
    show bindL kindOf ((p, w) :: P.zip vs) m x = _
    unfold bindL
    exact bindL_get (i := i) (List.nodup_cons.mp nd).2 (by simpa using h1) (by simpa using h2) hk
theorem bindC_get {kindOf : Str → Option NameKind} {x : Str} {v : Value} : ∀ {P : List Str} {vs : List Value} {i : Nat} {m : Str → Option Value}, P.Nodup → P[i]? = some x → vs[i]? = some v → kindOf x ≠ some .local →
    bindC kindOf (P.zip vs) m x = some v
  | [], _, _, _, _, h, _, _ => by simp at h
  | _ :: _, [], _, _, _, _, h, _ => by simp at h
  | p :: P, w :: vs, 0, m, nd, h1, h2, hk => by
    simp at h1 h2; subst h1; subst h2
    show bindC kindOf ((p, w) :: P.zip vs) m p = _
    unfold bindC
    rw [bindC_out fun v hv => (List.nodup_cons.mp nd).1 (List.of_mem_zip hv).1, if_neg hk]
    simp
  | p :: P, w :: vs, i + 1, m, nd, h1, h2, hk => by
    show bindC kindOf ((p, w) :: P.zip vs) m x = _
    unfold bindC
    exact bindC_get (i := i) (List.nodup_cons.mp nd).2 (by simpa using h1) (by simpa using h2) hk

/-- the names' values at the entry -/
def start (N : List Str) (vs : List V) : St := vs.map some ++ List.replicate (N.length - vs.length) none

/-- the context of a def's body, at its entry; an exception leaves the frame, then lies as CX says -/
def cxOf (CX : CXT) (P : Program) (w : World) (K : PySem.W.Frag) (mg : Str → Option Value) (base : Heap) (N : List Str) (qual : Str) (scope : Scope) (f : Addr) (cd : Value) (A : Around) (outer : List Env) (s : Shared) (H : Hp) (E : XK) : Cx where
  prog := P
  w := w
  K := K
  mg := mg
  base := base
  A := A.deeper (envOfC qual scope s.heap.objs.size f cd)
  N := N
  s₀ := s
  H₀ := H
  env := envOfC qual scope s.heap.objs.size f cd
  outer := outer
  stack := envOfC qual scope s.heap.objs.size f cd :: outer
  ex := []
  calm := true
  fn := fun _ => true
  pn := []
  xe := fun e s' => wpAny (model P w) (A.deeper (envOfC qual scope s.heap.objs.size f cd)) (leaving (envOfC qual scope s.heap.objs.size f cd) e) (fun _ s'' => CX outer H s E e s'') (fun e' s'' => CX outer H s E e' s'') s'

theorem cell_has {sc : Scope} {n : Nat} {x : Str} (h : sc.names.lookup x = some .cell) : ∃ c, (cellsFrom n sc.names []).lookup x = some c := by
  have q := PySem.W.cellsFrom_some sc.names n [] (.inl h)
  exact Option.isSome_iff_exists.mp q

theorem inv_start {CX : CXT} {P : Program} {w : World} {K : PySem.W.Frag} {mg : Str → Option Value} {base : Heap} {N ps : List Str} {qual : Str} {scope : Scope} {f : Addr} {cd : Value} {A : Around} {outer : List Env} {s s1 : Shared} {H : Hp} {E : XK} {us : List Value} {vs : List V}
    (S : FnScope N ps scope) (hd : A.handled = none) (e0 : Env0 P w K mg base A outer s H) (hl : vs.length = ps.length) (r : Vals vs us)
    (x : InCallC s s.heap.objs.size (bindL (envOfC qual scope s.heap.objs.size f cd).kindOf (ps.zip us) fun _ => none) (cellsFrom (s.heap.objs.size + 1) scope.names []) (bindC (envOfC qual scope s.heap.objs.size f cd).kindOf (ps.zip us) fun _ => none) s1) :
    Inv (cxOf CX P w K mg base N qual scope f cd A outer s H E) [] (start N vs) H s1 := by
  have hpl : ps.length ≤ N.length := by have := congrArg List.length S.pre; rw [List.length_take] at this; omega
  obtain ⟨h1, tk, rfl, hk⟩ := x.done
  have noA : ∀ b : Addr, b ∉ (cxOf CX P w K mg base N qual scope f cd A outer s H E).ex := fun b z => absurd (show b ∈ ([] : List Addr) from z) (by simp)
  refine ⟨⟨e0.mod, S.kind, rfl, rfl, Nat.le_refl _, fun y z c h1 h2 => ?_, fun y hy => ?_, fun y c _ h => ?_, fun _ => hd, Around.frames_deeper e0.frames, .inr ⟨rfl, rfl⟩, fun b z => absurd z (noA b), e0.bs, e0.bsz, fun b _ _ => noA b, fun b z => absurd z (noA b), e0.funs, e0.frf⟩,
    rfl, e0.bare, Un.kept hk, ⟨_, x.toInCall.ns, fun i y v h1 h2 h3 => ?_⟩, fun y c h => ⟨_, x.cell y c h⟩, e0.hok.fresh (Nat.le_refl _), fun y c h => ?_, fun p hp => absurd (show p ∈ ([] : List (Addr × Obj)) from hp) (by simp), e0.hok.kept hk, ?_⟩
  · exact name_of_addr x.apart (PySem.mem_of_lookup h1) (PySem.mem_of_lookup h2)
  · have hy : scope.names.lookup y = some .cell ∨ scope.names.lookup y = some .free := hy
    rcases hy with hy | hy
    · exact cell_has hy
    · exact absurd rfl (S.nofree _ (PySem.mem_of_lookup hy))
  · exact Nat.le_of_lt (x.above y c (PySem.mem_of_lookup h))
  · have hi : i < vs.length := by
      unfold start at h2
      by_cases hi : i < vs.length
      · exact hi
      · rw [List.getElem?_append_right (by simpa using hi)] at h2
        rw [List.getElem?_replicate] at h2
        split at h2 <;> cases h2
    have ha : vs[i]? = some v := by
      unfold start at h2
      rw [List.getElem?_append_left (by simpa using hi), List.getElem?_map] at h2
      cases e : vs[i]? with
      | none => rw [e] at h2; cases h2
      | some a => rw [e] at h2; cases h2; rfl
    obtain ⟨u, hu, rv⟩ := r.get ha
    have hp : ps[i]? = some y := by
      rw [← S.pre, List.getElem?_take_of_lt (by omega)]; exact h1
    have ndP : ps.Nodup := by rw [← S.pre]; exact S.nd.sublist (List.take_sublist _ _)
    refine ⟨u, rv, ?_⟩
    rcases S.par y (List.mem_of_getElem? hp) with k | k
    · exact .inl ⟨k, bindL_get ndP hp hu k⟩
    · obtain ⟨c, e⟩ := cell_has (n := s.heap.objs.size + 1) k
      refine .inr ⟨.inl k, c, e, ?_⟩
      have q := x.cell y c e
      rw [bindC_get ndP hp hu (by show scope.names.lookup y ≠ _; rw [k]; decide)] at q
      exact q
  · exact e0.hok.fresh (Nat.le_of_lt (x.above y c (PySem.mem_of_lookup h)))
  · unfold start
    show _ = N.length
    rw [List.length_append, List.length_map, List.length_replicate]
    omega

/-- THE RULE: a def (or a method) of the text, by its body. The body's reading t is chosen for each entry; it is run at the parameters' values -/
theorem fn_of {CX : CXT} {P : Program} {w : World} {K : PySem.W.Frag} {mg : Str → Option Value} {base : Heap} {k : Nat} {f : Addr} {name qual : Str} {params : Arguments} {body : List Stmt} {scope : Scope} {dV kV doc pm cdv ct oc : Value} {an od : Option Addr}
    {osl : Array (Option Value)} {N ps : List Str} {sp : Sp} (lk : K.lookup f = some ⟨oc, od, .func (PySem.W.fnOf name qual params body scope dV kV doc pm an cdv ct), osl⟩) (hcd : PySem.W.codeIn K cdv qual = true) (S : FnScope N ps scope)
    (len : ∀ vs H Q E, sp vs H Q E → vs.length = ps.length)
    (hbody : ∀ (A : Around) (outer : List Env) (s : Shared) (H : Hp) (vs : List V) (Q : VK) (E : XK), Room k (A.deeper (envOfC qual scope s.heap.objs.size f cdv)) → sp vs H Q E →
      ∃ t, PSs (cxOf CX P w K mg base N qual scope f cdv A outer s H E) body t ∧ t { nx := fun _ H' => Q .non H', rt := Q } (start N vs) H) :
    FnOk P w K mg base CX (k + 1) f (PySem.W.fnOf name qual params body scope dV kV doc pm an cdv ct) ps sp := by
  refine ⟨len, fun A outer s H args us vs Q E hr e0 hb r hsp => ?_⟩
  have hl := len _ _ _ _ hsp
  have KX : K.In s.heap := e0.mod.kin.keeps fun b o e => (e0.bs b o e).1
  have lim : s.heap.NoLimit := e0.mod.nolimit.keeps fun b o e => (e0.bs b o e).1
  have hkind : ∀ y ∈ ps.zip us, scope.names.lookup y.1 = some .local ∨ (scope.names.lookup y.1 = some .cell ∧ ((cellsFrom (s.heap.objs.size + 1) scope.names []).lookup y.1).isSome = true) := fun ⟨n, v⟩ hy => by
    rcases S.par n (List.of_mem_zip hy).1 with q | q
    · exact .inl q
    · exact .inr ⟨q, PySem.W.cellsFrom_some _ _ _ (.inl q)⟩
  refine codeAny_call_function hr.depth (KX _ _ lk) rfl S.co S.gen rfl (PySem.W.codeRec_of KX hcd) (hb _ _ _ _ ?_)
  refine wpAny_newFunctionEnv_cells S.kind hkind fun env he s1 x => ?_
  subst he
  refine ⟨lim.keeps x.toInCall.keep, codeAny_func ?_⟩
  obtain ⟨t, ht, hq⟩ := hbody A outer s H vs Q E (hr.deeper _) hsp
  have I : Inv (cxOf CX P w K mg base N qual scope f cdv A outer s H E) [] (start N vs) H s1 := inv_start S hr.hd e0 hl r x
  refine wpAny_mono (ht [] s1 (start N vs) H _ I hq) (fun fl s' hs => ?_) fun e s' hs => hs
  have fin : ∀ {σ' : St} {H' : Hp} {v : V} {u : Value}, Inv (cxOf CX P w K mg base N qual scope f cdv A outer s H E) [] σ' H' s' → RelV v u → Q v H' → CE outer P w H s Q u s' :=
    fun {σ' H' v u} J rv q => ⟨v, H', J.os, J.bare, J.base, J.hok, rv, q⟩
  cases fl with
  | ret u =>
    obtain ⟨v, σ', H', J, rv, q⟩ := hs
    exact fin J rv q
  | next =>
    obtain ⟨σ', H', J, q⟩ := hs
    exact fin (v := V.non) (u := Value.none) J rfl q
  | brk =>
    obtain ⟨_, _, _, q⟩ := hs
    exact False.elim q
  | cont =>
    obtain ⟨_, _, _, q⟩ := hs
    exact False.elim q
end L2

namespace L2
open PySem PySem.Spec PyProof.Rows
section
variable {X : Cx} {x : Str} {p pos : Pos} {e : Expr} {es : List Expr} {t : TA} {id T : String} {r : List V → Hp → VK → Prop}

def tCB (r : List V → Hp → VK → Prop) (t : TA) : TE := fun σ H Q => t σ H fun vs H1 => r vs H1 Q
/-- f(e, ..), f a built-in function -/
theorem pe_callB (hc : CallR X (.builtin id) r) (hg : Gl X x) (hm : X.mg x = none) (hv : bootBuiltins x = some (.builtin id)) (ha : PA X (e :: es) t) (hn : x ≠ "__name__" := by decide) (hdb : (x == ("__debug__" : Str)) = false := by decide)
    (he : starEach (e :: es) X.env = (false, eval e X.env) :: starEach es X.env := by rfl) (hpl : (backTo pos (starEach es X.env)).any (·.1) = false := by rfl) : PE X (.Call (.Name x p) (e :: es) [] pos) (tCB r t) := by
  intro pins s σ H Q I h
  refine wpAny_Call_Name_kw (ld_blt I hg hm hv ?_ hn hdb)
  exact PyProof.Rows.callWith_builtin1 (thn (ha pos pins s σ H _ I h) fun us s1 ⟨vs, H1, I1, r1, q1⟩ => hc pins s1 σ H1 vs us Q I1 r1 q1) he hpl
/-- T(e, ..), T a built-in type -/
theorem pe_callTy (hc : CallR X (.type T) r) (hg : Gl X x) (hm : X.mg x = none) (hv : bootBuiltins x = some (.type T)) (ha : PA X (e :: es) t) (hn : x ≠ "__name__" := by decide) (hdb : (x == ("__debug__" : Str)) = false := by decide)
    (he : starEach (e :: es) X.env = (false, eval e X.env) :: starEach es X.env := by rfl) (hpl : (backTo pos (starEach es X.env)).any (·.1) = false := by rfl) : PE X (.Call (.Name x p) (e :: es) [] pos) (tCB r t) := by
  intro pins s σ H Q I h
  refine wpAny_Call_Name_kw (ld_blt I hg hm hv ?_ hn hdb)
  exact PyProof.Rows.callWith_type1 (thn (ha pos pins s σ H _ I h) fun us s1 ⟨vs, H1, I1, r1, q1⟩ => hc pins s1 σ H1 vs us Q I1 r1 q1) he hpl
end
end L2

namespace HT
open PySem PyProof.Rows



section
open PySem.SeqAt
open PySem.AutoSeq1 (wpAny_loadPart')
open PySem.MeetsSeq PySem.MeetsSeq2 PySem.MeetsSeq3

end

section
variable {prog : Program} {w : World} {A : Around} {E : Value → Shared → Prop} {s : Shared}



/-! ### t[a:b], not the whole -/
/-- a slice's bound as a place among n (d where it is left out) -/
def sIx (n d : Nat) : Option Int → Nat
  | none => d
  | some v => if v < 0 then (v + (n : Int)).toNat else min v.toNat n
theorem sIx_none (n d : Nat) : sIx n d none = d := rfl
theorem sIx_nat (n d k : Nat) : sIx n d (some (k : Int)) = min k n := by
  show (if (k : Int) < 0 then ((k : Int) + (n : Int)).toNat else min (k : Int).toNat n) = min k n
  rw [if_neg (by omega), Int.toNat_natCast]
theorem sIx_le (n d : Nat) (hd : d ≤ n) (o : Option Int) : sIx n d o ≤ n := by
  cases o with
  | none => exact hd
  | some v =>
    show (if v < 0 then (v + (n : Int)).toNat else min v.toNat n) ≤ n
    by_cases hv : v < 0
    · rw [if_pos hv]; omega
    · rw [if_neg hv]; exact Nat.min_le_right _ _
theorem clip_eq (v : Int) (n d : Nat) : (if v < 0 then max (v + (n : Int)) 0 else min v (n : Int)) = ((sIx n d (some v) : Nat) : Int) := by
  show (if v < 0 then max (v + (n : Int)) 0 else min v (n : Int)) = (((if v < 0 then (v + (n : Int)).toNat else min v.toNat n) : Nat) : Int)
  by_cases hv : v < 0
  · simp only [if_pos hv]; omega
  · simp only [if_neg hv]; omega
theorem adjust_gen (lo hi : Option Int) (n : Nat) : Builtin.Slice.sliceAdjust lo hi 1 (n : Int) = (((sIx n 0 lo : Nat) : Int), ((sIx n n hi : Nat) : Int)) := by
  have h1 : ¬ ((1 : Int) < 0) := by omega
  unfold Builtin.Slice.sliceAdjust
  simp only [h1, if_false]
  refine Prod.ext ?_ ?_
  · cases lo with
    | none => rfl
    | some v => exact clip_eq v n 0
  · cases hi with
    | none => rfl
    | some v => exact clip_eq v n n
theorem places_gen (i j : Nat) : Builtin.Slice.slicePlaces (i : Int) (j : Int) 1 = j - i := by
  unfold Builtin.Slice.slicePlaces
  have h1 : (1 : Int) > 0 := by omega
  simp only [h1, if_true, Int.ediv_one]
  split <;> omega
theorem slicePart_ {v : Value} {o : Option Int} {Q : Option Int → Shared → Prop} (p : IsPart v o) (h : Q o s) : wpAny (model prog w) A (Builtin.Slice.slicePartIndex v) Q E s := by
  cases p with
  | none => exact slicePart_none h
  | int i t => exact slicePart_int h
theorem sliceApplied_gen {sl : Addr} {vl vu : Value} {lo hi : Option Int} {n : Nat} {Q : Int × Int × Nat → Shared → Prop} (hs : s.heap.IsSliceOf sl vl vu .none) (pl : IsPart vl lo) (pu : IsPart vu hi)
    (h : Q (((sIx n 0 lo : Nat) : Int), 1, sIx n n hi - sIx n 0 lo) s) : wpAny (model prog w) A (Builtin.Slice.sliceApplied (.ref sl) (pure (n : Int))) Q E s := by
  obtain ⟨os, hos, hcs, hds⟩ := id hs
  unfold Builtin.Slice.sliceApplied Builtin.Slice.sliceFields
  refine wpAny_bind (wpAny_bind (wpAny_field hos hds (x := vl) rfl (wpAny_bind (wpAny_field hos hds (x := vu) rfl (wpAny_bind (wpAny_field hos hds (x := .none) rfl (wpAny_pure ?_)))))))
  refine wpAny_bind (slicePart_none ?_)
  show wpAny _ _ (if ((1 : Int) == 0) = true then _ else _) _ _ s
  rw [if_neg (by decide)]
  refine wpAny_bind (slicePart_ pl (wpAny_bind (slicePart_ pu (wpAny_bind (wpAny_pure ?_)))))
  show wpAny _ _ (match Builtin.Slice.sliceAdjust lo hi 1 (n : Int) with | (lo, hi) => pure (lo, (1 : Int), Builtin.Slice.slicePlaces lo hi 1)) _ _ s
  rw [adjust_gen lo hi n]
  show wpAny _ _ (pure (((sIx n 0 lo : Nat) : Int), (1 : Int), Builtin.Slice.slicePlaces ((sIx n 0 lo : Nat) : Int) ((sIx n n hi : Nat) : Int) 1)) _ _ s
  rw [places_gen]
  exact wpAny_pure h
theorem pick_gen (xs : Array Value) (i k : Nat) : ((List.range k).filterMap fun (m : Nat) => xs[((i : Int) + (m : Int) * 1).toNat]?).toArray = ((xs.toList.drop i).take k).toArray := by
  have e : (fun (m : Nat) => xs[((i : Int) + (m : Int) * 1).toNat]?) = fun m => xs[i + m]? := by
    funext m
    have : ((i : Int) + (m : Int) * 1).toNat = i + m := by omega
    rw [this]
  rw [e]
  have := pick_run xs i k
  rw [List.filterMap_map] at this
  have e2 : ((fun x => xs[x]?) ∘ fun x => i + x) = fun m => xs[i + m]? := rfl
  rw [e2] at this
  rw [this]

theorem getItem_tuple_cut {t sl : Addr} {items : Array Value} {vl vu : Value} {lo hi : Option Int} {Q : Value → Shared → Prop} (ht : IsTup s.heap t items) (hs : s.heap.IsSliceOf sl vl vu .none) (pl : IsPart vl lo) (pu : IsPart vu hi)
    (hw : ¬ (sIx items.size 0 lo = 0 ∧ sIx items.size items.size hi = items.size))
    (h : Q (.ref s.heap.objs.size) { s with heap := s.heap.push { cls := .type "tuple", data := .seq ((items.toList.drop (sIx items.size 0 lo)).take (sIx items.size items.size hi - sIx items.size 0 lo)).toArray } })
    (hsz : items.size ≤ sizeLine) : wpAny (model prog w) A (getItem (.ref t) (.ref sl)) Q E s := by
  have htake : sizeOk (.seq ((items.toList.drop (sIx items.size 0 lo)).take (sIx items.size items.size hi - sIx items.size 0 lo)).toArray) := by
    show ((items.toList.drop (sIx items.size 0 lo)).take (sIx items.size items.size hi - sIx items.size 0 lo)).toArray.size ≤ sizeLine
    rw [List.size_toArray, List.length_take, List.length_drop, Array.length_toList]
    omega
  have hj : sIx items.size items.size hi ≤ items.size := sIx_le _ _ (Nat.le_refl _) hi
  obtain ⟨os, hos, hcs, hds⟩ := id hs
  have hTs : s.TypeIs (.ref sl) "slice" := ⟨os, hos, hcs⟩
  unfold getItem
  try with_reducible refine wpAny_holding ?_
  first | refine wpAny_bind (wpAny_pure ?_) | skip
  refine wpAny_bind (wpAny_sequenceKey ht.typeIs (by decide) ?_)
  refine wpAny_bind (wpAny_callSpecial?_slot (name := Str.ofString "__getitem__") ht.typeIs PyProof.Rows.slot_tuple_getitem
    (wpAny_call_entry PyProof.Rows.slot_tuple_getitem ht.typeIs entry_tuple_getitem ?_ (args_tuple_getitem _ _)))
  show wpAny _ _ (Builtin.Tuple.tupleItemsOf (.ref t) >>= _) _ _ s
  refine wpAny_bind (tupleItemsOf_ ht ?_)
  refine wpAny_bind (wpAny_typeOf hTs ?_)
  rw [if_pos (by decide)]
  refine wpAny_bind (sliceApplied_gen hs pl pu ?_)
  have hno : ¬ ((((sIx items.size 0 lo : Nat) : Int) == 0 && (1 : Int) == 1 && (sIx items.size items.size hi - sIx items.size 0 lo) == items.size) = true) := by
    intro q
    rw [Bool.and_eq_true, Bool.and_eq_true] at q
    have q1 : ((sIx items.size 0 lo : Nat) : Int) = 0 := eq_of_beq q.1.1
    have q2 : sIx items.size items.size hi - sIx items.size 0 lo = items.size := eq_of_beq q.2
    exact hw ⟨by omega, by omega⟩
  show wpAny _ _ (if (((sIx items.size 0 lo : Nat) : Int) == 0 && (1 : Int) == 1 && (sIx items.size items.size hi - sIx items.size 0 lo) == items.size) = true then _ else _) _ _ s
  rw [if_neg hno, pick_gen]
  first
    | exact wpAny_bind (m := Builtin.Tuple.tupleExact _) (wpAny_newObj_type (wpAny_pure ⟨_, rfl, wpAny_pure h⟩) htake)
    | exact wpAny_bind (m := Builtin.Tuple.tupleExact _) (wpAny_newObj_type (wpAny_bind (wpAny_pure (wpAny_pure ⟨_, rfl, wpAny_pure h⟩))) htake)
    | exact wpAny_bind (wpAny_bind (m := Builtin.Tuple.tupleExact _) (wpAny_newObj_type (wpAny_pure (wpAny_pure ⟨_, rfl, wpAny_pure h⟩)) htake))
    | exact wpAny_bind (wpAny_bind (m := Builtin.Tuple.tupleExact _) (wpAny_newObj_type (wpAny_pure ⟨_, rfl, wpAny_pure h⟩) htake))
end
end HT

namespace L2
open PySem PySem.Spec PyProof.Rows

/-! ### the parts of a slice -/
abbrev TO := St → Hp → (Option Int → Hp → Prop) → Prop
/-- a slice's part (left out, or an int) -/
def PO (X : Cx) (e : Option Expr) (t : TO) : Prop :=
  ∀ (pins : List (Addr × Obj)) (s : Shared) (σ : St) (H : Hp) (Q : Option Int → Hp → Prop), Inv X pins σ H s → t σ H Q →
    wpAny (model X.prog X.w) X.A (evalPart e X.env) (fun u s' => ∃ o H', Inv X pins σ H' s' ∧ IsPart u o ∧ Q o H') X.xe s
def tNoPart : TO := fun _ H Q => Q none H
def tPart (t : TE) : TO := fun σ H Q => t σ H fun x H1 => ∃ i, x = .int i ∧ Q (some i) H1

theorem intsAre_of {ns : List Int} : ∀ {us : List Value}, Vals (ns.map V.int) us → IntsAre us ns := by
  induction ns with
  | nil => intro us r; rw [List.map_nil] at r; cases r; exact .nil
  | cons n ns ih =>
    intro us r
    rw [List.map_cons] at r
    cases r with
    | cons r1 r2 =>
      obtain ⟨t, e⟩ := r1
      subst e
      exact .cons n t (ih r2)

section
variable {X : Cx} {e : Expr} {te : TE} {lo hi : Option Expr} {tl th : TO} {pos p2 : Pos}

theorem po_none : PO X none tNoPart := by
  intro pins s σ H Q I h
  rw [evalPart_none]
  exact wpAny_pure ⟨none, H, I, .none, h⟩
theorem po_some (h : PE X e te) : PO X (some e) (tPart te) := by
  intro pins s σ H Q I hw
  rw [evalPart_some]
  refine thn (h pins s σ H _ I hw) fun u s1 ⟨x, H1, I1, r1, q1⟩ => ?_
  obtain ⟨i, rfl, q⟩ := q1
  obtain ⟨t, rfl⟩ := r1
  exact ⟨some i, H1, I1, .int i t, q⟩

/-- what a slice of a value is, by values: the slice object stands at sl -/
def SlR (X : Cx) (r : V → Option Int → Option Int → Hp → VK → Prop) : Prop :=
  ∀ (pins : List (Addr × Obj)) (s : Shared) (σ : St) (H : Hp) (x : V) (v vl vu : Value) (lo hi : Option Int) (sl : Addr) (Q : VK), Inv X pins σ H s → RelV x v → s.heap.IsSliceOf sl vl vu .none → IsPart vl lo → IsPart vu hi → r x lo hi H Q →
    ∃ T id, typeLookup (.type T) "__getitem__" = pure (some (.builtin id)) ∧ s.TypeIs v T ∧ wpAny (model X.prog X.w) X.A (getItem v (.ref sl)) (EP X pins σ Q) X.xe s
theorem SlR.or {r r' : V → Option Int → Option Int → Hp → VK → Prop} (h : SlR X r) (h' : SlR X r') : SlR X (fun x lo hi H Q => r x lo hi H Q ∨ r' x lo hi H Q) := by
  intro pins s σ H x v vl vu lo hi sl Q I rx hs pl pu q
  rcases q with q | q
  · exact h pins s σ H x v vl vu lo hi sl Q I rx hs pl pu q
  · exact h' pins s σ H x v vl vu lo hi sl Q I rx hs pl pu q
def tSl (r : V → Option Int → Option Int → Hp → VK → Prop) (te : TE) (tl th : TO) : TE := fun σ H Q => te σ H fun x H1 => tl σ H1 fun l H2 => th σ H2 fun u H3 => r x l u H3 Q
/-- a[lo:hi], any a -/
theorem pe_slice {r : V → Option Int → Option Int → Hp → VK → Prop} (hr : SlR X r) (he : PE X e te) (hl : PO X lo tl) (hu : PO X hi th) : PE X (.Subscript e (.Slice lo hi none p2) pos) (tSl r te tl th) := by
  intro pins s σ H Q I h
  refine Subscript_ (thn (he pins s σ H _ I h) fun v s1 ⟨x, H1, I1, r1, q1⟩ => ?_)
  refine wpAny_Slice (thn (hl pins s1 σ H1 _ I1 q1) fun vl s2 ⟨l, H2, I2, pl, q2⟩ => thn (hu pins s2 σ H2 _ I2 q2) fun vu s3 ⟨u, H3, I3, pu, q3⟩ => ?_)
  rw [evalPart_none]
  refine wpAny_pure ?_
  have I4 : Inv X pins σ H3 { s3 with heap := s3.heap.push { cls := .type "slice", data := .fields #[vl, vu, .none] } } := I3.kept (t' := s3.toks) fun b ob q => Heap.get?_push_of_some _ q
  obtain ⟨T, id, hT, ht, hg⟩ := hr pins { s3 with heap := s3.heap.push { cls := .type "slice", data := .fields #[vl, vu, .none] } } σ H3 x v vl vu l u s3.heap.objs.size Q I4 r1 (Heap.IsSliceOf.new ..) pl pu q3
  show wpAny (model X.prog X.w) X.A (subscriptTail e (.Slice lo hi none p2) v (.ref s3.heap.objs.size)) (EP X pins σ Q) X.xe { s3 with heap := s3.heap.push { cls := .type "slice", data := .fields #[vl, vu, .none] } }
  exact tail_any (ops := [.ref s3.heap.objs.size, v]) ht hT hg (by with_unfolding_all rfl)

/-- the items of xs[lo:hi] -/
def cutV (xs : List V) (lo hi : Option Int) : List V := (xs.drop (HT.sIx xs.length 0 lo)).take (HT.sIx xs.length xs.length hi - HT.sIx xs.length 0 lo)
theorem cutV_length (xs : List V) (lo hi : Option Int) : (cutV xs lo hi).length ≤ xs.length := by
  unfold cutV
  rw [List.length_take, List.length_drop]
  omega
/-- t[lo:hi], not the whole of it (the whole would be t itself) -/
def rSlT (K : PySem.W.Frag) : V → Option Int → Option Int → Hp → VK → Prop := fun x lo hi H Q => ∃ a xs, x = .ref a ∧ SqT K H a xs ∧
  ¬ (HT.sIx xs.length 0 lo = 0 ∧ HT.sIx xs.length xs.length hi = xs.length) ∧ ∀ p, H p = none → Q (.ref p) (upd H p (.tup (cutV xs lo hi)))
theorem sl_tup : SlR X (rSlT X.K) := by
  intro pins s σ H x v vl vu lo hi sl Q I rx hs pl pu h
  obtain ⟨a, xs, rfl, hx, hw, q⟩ := h
  cases rx
  obtain ⟨its, r, ht, hz⟩ := I.tuple hx
  have hlen : its.toArray.size = xs.length := by rw [List.size_toArray]; exact r.length.symm
  refine ⟨"tuple", _, PyProof.Rows.slot_tuple_getitem.lookup, ht.typeIs, ?_⟩
  refine HT.getItem_tuple_cut ht hs pl pu (by rw [hlen]; exact hw) ?_ (by rw [hlen]; exact hz)
  rw [hlen]
  refine ⟨.ref s.heap.objs.size, _, I.laid (t' := s.toks) (o := .tup (cutV xs lo hi)) (fun b ob q => Heap.get?_push_of_some _ q) (Nat.le_refl _) ?_, rfl, q _ (I.hok.fresh (Nat.le_refl _))⟩
  exact ⟨Nat.le_trans (cutV_length xs lo hi) hz, _, (r.drop (HT.sIx xs.length 0 lo)).take (HT.sIx xs.length xs.length hi - HT.sIx xs.length 0 lo), IsTup.new _ _⟩

/-! ### t < u, t + u -/
end
end L2

namespace L2
open PySem PySem.Spec PyProof.Rows

/-! ### places -/
/-- the place that an index of any sign means -/
def ixN (n : Nat) (i : Int) : Option Nat := if 0 ≤ i then (if i < n then some i.toNat else none) else if -(n : Int) ≤ i then some (i + n).toNat else none
def atI {α : Type} (xs : List α) (i : Int) : Option α := (ixN xs.length i).bind fun j => xs[j]?
theorem ixN_seq {n : Nat} {i : Int} {j : Nat} (h : ixN n i = some j) : seqIndex? i n = some j ∧ j < n ∧ -(n : Int) ≤ i ∧ i < n := by
  unfold ixN at h
  by_cases h0 : 0 ≤ i
  · rw [if_pos h0] at h
    by_cases h1 : i < n
    · rw [if_pos h1] at h
      have e : i.toNat = j := Option.some.inj h
      exact ⟨by rw [seqIndex_of h0 h1, e], by omega, by omega, h1⟩
    · rw [if_neg h1] at h; cases h
  · rw [if_neg h0] at h
    by_cases h1 : -(n : Int) ≤ i
    · rw [if_pos h1] at h
      have e : (i + n).toNat = j := Option.some.inj h
      exact ⟨by rw [seqIndex_neg (by omega) h1, e], by omega, h1, by omega⟩
    · rw [if_neg h1] at h; cases h
theorem atI_get {α : Type} {xs : List α} {i : Int} {v : α} (h : atI xs i = some v) : ∃ j, seqIndex? i xs.length = some j ∧ xs[j]? = some v ∧ j < xs.length ∧ -(xs.length : Int) ≤ i ∧ i < xs.length := by
  unfold atI at h
  cases e : ixN xs.length i with
  | none => rw [e] at h; cases h
  | some j =>
    rw [e] at h
    obtain ⟨h1, h2, h3, h4⟩ := ixN_seq e
    exact ⟨j, h1, h, h2, h3, h4⟩
theorem atI_nat {α : Type} {xs : List α} {j : Nat} {v : α} (h : xs[j]? = some v) : atI xs (j : Int) = some v := by
  have hj : j < xs.length := (List.getElem?_eq_some_iff.mp h).1
  have e : ixN xs.length (j : Int) = some j := by
    unfold ixN
    rw [if_pos (by omega), if_pos (by omega)]; simp
  unfold atI; rw [e]; exact h

/-! ### what may be subscripted -/
/-- what stands as an index of a plain subscript -/
def PlainIx (b : Expr) : Prop := ∀ o i, subscripted b false o i = operate [o, i] (getItem o i)
/-- a subscript by values -/
def IxR (X : Cx) (r : R2) : Prop :=
  ∀ (value slice : Expr) (pins : List (Addr × Obj)) (s : Shared) (σ : St) (H : Hp) (x y : V) (v u : Value) (Q : VK), Inv X pins σ H s → RelV x v → RelV y u → r x y H Q →
    subscripted slice false v u = operate [v, u] (getItem v u) → wpAny (model X.prog X.w) X.A (subscriptTail value slice v u) (EP X pins σ Q) X.xe s
/-- a call of a builtin's method by values: the receiver, the arguments -/
def MtR (X : Cx) (id : String) (r : V → List V → Hp → VK → Prop) : Prop :=
  ∀ (pins : List (Addr × Obj)) (s : Shared) (σ : St) (H : Hp) (x : V) (xs : List V) (v : Value) (us : List Value) (Q : VK), Inv X pins σ H s → RelV x v → Vals xs us → r x xs H Q →
    wpAny (model X.prog X.w) X.A (call (.builtin id) (v :: us)) (EP X pins σ Q) X.xe s
section
variable {X : Cx} {a b : Expr} {ta tb : TE} {pos : Pos}
theorem IxR.or {r r' : R2} (h : IxR X r) (h' : IxR X r') : IxR X (fun x y H Q => r x y H Q ∨ r' x y H Q) := by
  intro value slice pins s σ H x y v u Q I rx ry q hs
  rcases q with q | q
  · exact h value slice pins s σ H x y v u Q I rx ry q hs
  · exact h' value slice pins s σ H x y v u Q I rx ry q hs
theorem MtR.or {id : String} {r r' : V → List V → Hp → VK → Prop} (h : MtR X id r) (h' : MtR X id r') : MtR X id (fun x xs H Q => r x xs H Q ∨ r' x xs H Q) := by
  intro pins s σ H x xs v us Q I rx rs q
  rcases q with q | q
  · exact h pins s σ H x xs v us Q I rx rs q
  · exact h' pins s σ H x xs v us Q I rx rs q
/-- a[b] -/
theorem pe_ix {r : R2} (hr : IxR X r) (ha : PE X a ta) (hb : PE X b tb) (hs : PlainIx b) : PE X (.Subscript a b pos) (tOp r ta tb) := by
  intro pins s σ H Q I h
  exact Subscript_ (binT ha hb I h fun v u s2 x y H2 I2 rx ry q => hr a b pins s2 σ H2 x y v u Q I2 rx ry q (hs _ _))

def rIxL (K : PySem.W.Frag) : R2 := fun x y H Q => ∃ p xs i v, x = .ref p ∧ y = .int i ∧ SqL K H p xs ∧ atI xs i = some v ∧ Q v H
def rIxT (K : PySem.W.Frag) : R2 := fun x y H Q => ∃ p xs i v, x = .ref p ∧ y = .int i ∧ SqT K H p xs ∧ atI xs i = some v ∧ Q v H
def rIxS : R2 := fun x y H Q => ∃ z i c, x = .str z ∧ y = .int i ∧ z.length ≤ sizeLine ∧ atI z.cps.toList i = some c ∧ Q (.str ⟨#[c]⟩) H
theorem ix_list : IxR X (rIxL X.K) := by
  intro value slice pins s σ H x y v u Q I rx ry h hs
  obtain ⟨p, xs, i, z, rfl, rfl, hq, he, q⟩ := h
  cases rx
  obtain ⟨t, rfl⟩ := ry
  obtain ⟨its, r, pl, hz⟩ := I.list hq
  obtain ⟨j, h1, h2, h3, h4, h5⟩ := atI_get he
  obtain ⟨w, ew, rw'⟩ := r.get h2
  have hl := r.length
  have hn := line63
  have fin : EP X pins σ Q w s := ⟨z, H, I, rw', q⟩
  by_cases h0 : 0 ≤ i
  · have hj : i.toNat = j := by
      rw [seqIndex_of h0 h5] at h1
      exact Option.some.inj h1
    exact item_listR pl.isList h0 (by omega) (by rw [hj]; simpa using ew) fin hs
  · have hj : (i + (its.toArray.size : Int)).toNat = j := by
      rw [seqIndex_neg (by omega) h4] at h1
      rw [List.size_toArray, ← hl]
      exact Option.some.inj h1
    exact subscriptTail_builtinR (x := w) pl.isList.typeIs slot_list_getitem.lookup
      (wpAny_getItem_list_neg (Q := fun r s' => r = w ∧ EP X pins σ Q r s') pl.isList (by omega) (by rw [List.size_toArray] <;> omega) (by omega) (by rw [hj]; simpa using ew) ⟨rfl, fin⟩) hs
theorem ix_tup : IxR X (rIxT X.K) := by
  intro value slice pins s σ H x y v u Q I rx ry h hs
  obtain ⟨p, xs, i, z, rfl, rfl, hq, he, q⟩ := h
  cases rx
  obtain ⟨t, rfl⟩ := ry
  obtain ⟨its, r, pl, hz⟩ := I.tuple hq
  obtain ⟨j, h1, h2, h3, h4, h5⟩ := atI_get he
  obtain ⟨w, ew, rw'⟩ := r.get h2
  have hl := r.length
  have hn := line63
  have fin : EP X pins σ Q w s := ⟨z, H, I, rw', q⟩
  exact subscriptTail_builtinR (x := w) pl.typeIs slot_tuple_getitem.lookup
    (getItem_tuple (j := j) (Q := fun r s' => r = w ∧ EP X pins σ Q r s') pl (by omega) (by omega) (by rw [List.size_toArray, ← hl]; exact h1) (by simpa using ew) ⟨rfl, fin⟩) hs
theorem ix_str : IxR X rIxS := by
  intro value slice pins s σ H x y v u Q I rx ry h hs
  obtain ⟨z, i, c, rfl, rfl, hz, he, q⟩ := h
  obtain ⟨t, rfl⟩ := rx
  obtain ⟨t', rfl⟩ := ry
  obtain ⟨j, h1, h2, h3, h4, h5⟩ := atI_get he
  have hl : z.cps.toList.length = z.length := by simp [Str.length]
  rw [hl] at h1 h4 h5
  have hn := line63
  exact tail_any (typeIs_str s z t) slot_str_getitem.lookup (getItem_str (c := c) (by
    have e1 : decide (i < -(2 ^ 63 : Int)) = false := decide_eq_false (by omega)
    have e2 : decide (i ≥ 2 ^ 63) = false := decide_eq_false (by omega)
    rw [e1, e2, Bool.or_false]) (by rw [h1]; simpa using h2) ⟨.str ⟨#[c]⟩, H, I.tok _, ⟨_, rfl⟩, q⟩) hs

/-! ### xs[i] = v, any sign -/
theorem Inv.lst {pins : List (Addr × Obj)} {σ : St} {H : Hp} {s : Shared} {p : Addr} {xs : List V} (I : Inv X pins σ H s) (h : H p = some (.lst xs)) :
    ∃ (its : List Value) (n : Nat), Vals xs its ∧ s.heap.get? p = some { cls := .type "list", data := .seq its.toArray n } ∧ xs.length ≤ sizeLine := by
  obtain ⟨z, its, n, r, e⟩ := I.hok p _ h
  exact ⟨its, n, r, e, z⟩

/-! ### slices -/
theorem slice_bounds (lo hi : Option Int) (n : Nat) : (sliceBounds lo hi none n).1 = ((HT.sIx n 0 lo : Nat) : Int) ∧ (sliceBounds lo hi none n).2.1 = ((HT.sIx n n hi : Nat) : Int) ∧ (sliceBounds lo hi none n).2.2 = 1 := by
  refine ⟨?_, ?_, rfl⟩
  · cases lo with
    | none => simp [sliceBounds, HT.sIx]
    | some i =>
      simp only [sliceBounds, HT.sIx, Option.getD_none, show (1 : Int) > 0 by decide, if_true]
      by_cases h : i < 0
      · simp only [h, if_true] <;> omega
      · simp only [h, if_false] <;> omega
  · cases hi with
    | none => simp [sliceBounds, HT.sIx]
    | some i =>
      simp only [sliceBounds, HT.sIx, Option.getD_none, show (1 : Int) > 0 by decide, if_true]
      by_cases h : i < 0
      · simp only [h, if_true] <;> omega
      · simp only [h, if_false] <;> omega
theorem slicePick_cut (its : List Value) (lo hi : Option Int) : slicePick its.toArray lo hi none = ((its.drop (HT.sIx its.length 0 lo)).take (HT.sIx its.length its.length hi - HT.sIx its.length 0 lo)).toArray := by
  obtain ⟨h1, h2, h3⟩ := slice_bounds lo hi its.toArray.size
  unfold slicePick
  rw [h1, h2, h3]
  simp only [sliceRange_one, pick_run, List.size_toArray] <;> rfl
/-- xs[lo:hi] of a list: a new list -/
def rSlL (K : PySem.W.Frag) : V → Option Int → Option Int → Hp → VK → Prop := fun x lo hi H Q => ∃ a xs, x = .ref a ∧ SqL K H a xs ∧ ∀ p, H p = none → Q (.ref p) (upd H p (.lst (cutV xs lo hi)))
theorem sl_list : SlR X (rSlL X.K) := by
  intro pins s σ H x v vl vu lo hi sl Q I rx hs pl pu h
  obtain ⟨a, xs, rfl, hx, q⟩ := h
  cases rx
  obtain ⟨its, r, ht, hz⟩ := I.list hx
  have hlen := r.length
  refine ⟨"list", _, slot_list_getitem.lookup, ht.isList.typeIs, ?_⟩
  refine wpAny_getItem_list_slice ht.isList hs pl pu .none (by simp) ?_ (by rw [List.size_toArray] <;> omega)
  rw [slicePick_cut, ← hlen]
  refine ⟨.ref s.heap.objs.size, _, I.laid (t' := s.toks) (o := .lst (cutV xs lo hi)) (fun b ob q => Heap.get?_push_of_some _ q) (Nat.le_refl _) ?_, rfl, q _ (I.hok.fresh (Nat.le_refl _))⟩
  exact ⟨Nat.le_trans (cutV_length xs lo hi) hz, _, 0, (r.drop (HT.sIx xs.length 0 lo)).take (HT.sIx xs.length xs.length hi - HT.sIx xs.length 0 lo), Heap.get?_push_size _ rfl⟩

/-! ### in, not in: flat items -/
def flatV : V → Bool
  | .non => true
  | .bl _ => true
  | .int _ => true
  | .str _ => true
  | _ => false
/-- == of flat values -/
def eqV : V → V → Bool
  | .non, .non => true
  | .bl a, .bl b => a == b
  | .bl a, .int b => (if a then 1 else 0) == b
  | .int a, .bl b => a == (if b then 1 else 0)
  | .int a, .int b => a == b
  | .str a, .str b => a == b
  | _, _ => false
theorem eqAt_V {A : Around} {s : Shared} {y x : V} {u v : Value} (ry : RelV y u) (rx : RelV x v) (fy : flatV y = true) (fx : flatV x = true) : SeqAt.EqAt A s u v (eqV y x) := by
  cases y with
  | non =>
    cases ry
    cases x with
    | non => cases rx; exact SeqAt.EqAt.same _
    | bl b => cases rx; exact SeqAt.EqAt.none_bool b
    | int b => obtain ⟨t, rfl⟩ := rx; exact SeqAt.EqAt.none_int b t
    | str b => obtain ⟨t, rfl⟩ := rx; exact SeqAt.EqAt.none_str b t
    | _ => exact absurd (show false = true from fx) Bool.false_ne_true
  | bl a =>
    cases ry
    cases x with
    | non => cases rx; exact SeqAt.EqAt.bool_none a
    | bl b => cases rx; exact SeqAt.EqAt.bool_bool a b
    | int b => obtain ⟨t, rfl⟩ := rx; exact SeqAt.EqAt.bool_int a b t
    | str b => obtain ⟨t, rfl⟩ := rx; exact SeqAt.EqAt.bool_str a b t
    | _ => exact absurd (show false = true from fx) Bool.false_ne_true
  | int a =>
    obtain ⟨t', rfl⟩ := ry
    cases x with
    | non => cases rx; exact SeqAt.EqAt.int_none a t'
    | bl b => cases rx; exact SeqAt.EqAt.int_bool a t' b
    | int b => obtain ⟨t, rfl⟩ := rx; exact SeqAt.EqAt.int_int a t' b t
    | str b => obtain ⟨t, rfl⟩ := rx; exact SeqAt.EqAt.int_str a t' b t
    | _ => exact absurd (show false = true from fx) Bool.false_ne_true
  | str a =>
    obtain ⟨t', rfl⟩ := ry
    cases x with
    | non => cases rx; exact SeqAt.EqAt.str_none a t'
    | bl b => cases rx; exact SeqAt.EqAt.str_bool a t' b
    | int b => obtain ⟨t, rfl⟩ := rx; exact SeqAt.EqAt.str_int a t' b t
    | str b => obtain ⟨t, rfl⟩ := rx; exact SeqAt.EqAt.str_str a t' b t
    | _ => exact absurd (show false = true from fx) Bool.false_ne_true
  | _ => exact absurd (show false = true from fy) Bool.false_ne_true
/-- the items' answers, read off the values (a value's own answer does not lean on its token) -/
def eqU (x : V) (u : Value) : Bool := match u with
  | .none => eqV .non x
  | .bool b => eqV (.bl b) x
  | .int i _ => eqV (.int i) x
  | .str z _ => eqV (.str z) x
  | _ => false
theorem eqU_of {x y : V} {u : Value} (r : RelV y u) (f : flatV y = true) : eqU x u = eqV y x := by
  cases y with
  | non => cases r; rfl
  | bl b => cases r; rfl
  | int i => obtain ⟨t, rfl⟩ := r; rfl
  | str z => obtain ⟨t, rfl⟩ := r; rfl
  | _ => exact absurd (show false = true from f) Bool.false_ne_true
theorem any_eqU {x : V} : ∀ {xs : List V} {us : List Value}, Vals xs us → xs.all flatV = true → us.any (eqU x) = xs.any fun y => eqV y x
  | _, _, .nil, _ => rfl
  | y :: xs, u :: us, .cons r t, f => by
    rw [List.all_cons, Bool.and_eq_true] at f
    rw [List.any_cons, List.any_cons, eqU_of r f.1, any_eqU t f.2]
theorem mem_eqAt {A : Around} {s : Shared} {x : V} {v : Value} (rx : RelV x v) (fx : flatV x = true) : ∀ {xs : List V} {us : List Value}, Vals xs us → xs.all flatV = true → ∀ u ∈ us, SeqAt.EqAt A s u v (eqU x u)
  | _, _, .nil, _ => fun u hu => by cases hu
  | y :: xs, u :: us, .cons r t, f => fun u' hu => by
    rw [List.all_cons, Bool.and_eq_true] at f
    rcases List.mem_cons.mp hu with rfl | hu
    · rw [eqU_of r f.1]; exact eqAt_V r rx f.1 fx
    · exact mem_eqAt rx fx t f.2 u' hu
def inV (x : V) (xs : List V) : Bool := xs.any fun y => eqV y x
/-- x in a list or tuple of flat items -/
def rIn (K : PySem.W.Frag) (neg : Bool) : R2 := fun x y H Q => ∃ p xs, y = .ref p ∧ (SqL K H p xs ∨ SqT K H p xs) ∧ flatV x = true ∧ xs.all flatV = true ∧ Q (.bl (if neg then !inV x xs else inV x xs)) H
theorem op_in_seq : OpR X (compareOp .In) (rIn X.K false) := by
  intro pins s σ H x y v u Q I rx ry h
  obtain ⟨p, xs, rfl, hq, fx, fs, q⟩ := h
  cases ry
  rcases hq with hq | hq
  · obtain ⟨its, r, pl, hz⟩ := I.list hq
    refine SeqAt.in_listAt (eqU x) pl.isList (fun w hw => mem_eqAt rx fx r fs w (by simpa using hw)) ⟨.bl _, H, I, rfl, ?_⟩
    rw [show its.toArray.any (eqU x) = its.any (eqU x) by simp, any_eqU r fs]
    exact q
  · obtain ⟨its, r, pl, hz⟩ := I.tuple hq
    refine SeqAt.in_tupleAt (eqU x) pl (fun w hw => mem_eqAt rx fx r fs w (by simpa using hw)) ⟨.bl _, H, I, rfl, ?_⟩
    rw [show its.toArray.any (eqU x) = its.any (eqU x) by simp, any_eqU r fs]
    exact q
theorem op_notIn_seq : OpR X (compareOp .NotIn) (rIn X.K true) := by
  intro pins s σ H x y v u Q I rx ry h
  obtain ⟨p, xs, rfl, hq, fx, fs, q⟩ := h
  cases ry
  rcases hq with hq | hq
  · obtain ⟨its, r, pl, hz⟩ := I.list hq
    refine SeqAt.notIn_listAt (eqU x) pl.isList (fun w hw => mem_eqAt rx fx r fs w (by simpa using hw)) ⟨.bl _, H, I, rfl, ?_⟩
    rw [show its.toArray.any (eqU x) = its.any (eqU x) by simp, any_eqU r fs]
    exact q
  · obtain ⟨its, r, pl, hz⟩ := I.tuple hq
    refine SeqAt.notIn_tupleAt (eqU x) pl (fun w hw => mem_eqAt rx fx r fs w (by simpa using hw)) ⟨.bl _, H, I, rfl, ?_⟩
    rw [show its.toArray.any (eqU x) = its.any (eqU x) by simp, any_eqU r fs]
    exact q

/-! ### len, list(x), tuple(x) of any list or tuple that is read -/
theorem call_len_seq : CallR X (.builtin "len") (fun xs H Q => ∃ p ys, xs = [.ref p] ∧ (SqL X.K H p ys ∨ SqT X.K H p ys) ∧ Q (.int ys.length) H) := by
  intro pins s σ H xs us Q I r h
  obtain ⟨p, ys, rfl, hq, q⟩ := h
  obtain ⟨u, rfl, rx⟩ := vals1 r
  cases rx
  have hn := line63
  rcases hq with hq | hq
  · obtain ⟨its, r', pl, hz⟩ := I.list hq
    have hlen := r'.length
    exact Calls.call_len_list pl.isList (by simp only [List.size_toArray] <;> omega) ⟨.int ys.length, H, I.tok _, ⟨s.toks + 1, by rw [List.size_toArray, hlen]⟩, q⟩
  · obtain ⟨its, r', pl, hz⟩ := I.tuple hq
    have hlen := r'.length
    exact len_tuple pl (by simp only [List.size_toArray] <;> omega) ⟨.int ys.length, H, I.tok _, ⟨s.toks + 1, by rw [List.size_toArray, hlen]⟩, q⟩
theorem call_len_str : CallR X (.builtin "len") (fun xs H Q => ∃ z, xs = [.str z] ∧ z.length ≤ sizeLine ∧ Q (.int z.length) H) := by
  intro pins s σ H xs us Q I r h
  obtain ⟨z, rfl, hz, q⟩ := h
  obtain ⟨u, rfl, t, rfl⟩ := vals1 r
  have hn := line63
  exact len_str (by omega) ⟨.int z.length, H, I.tok _, ⟨_, rfl⟩, q⟩
theorem CallR.or {f : Value} {r r' : List V → Hp → VK → Prop} (h : CallR X f r) (h' : CallR X f r') : CallR X f (fun xs H Q => r xs H Q ∨ r' xs H Q) := by
  intro pins s σ H xs us Q I rs q
  rcases q with q | q
  · exact h pins s σ H xs us Q I rs q
  · exact h' pins s σ H xs us Q I rs q
theorem call_list_of : CallR X (.type "list") (fun xs H Q => ∃ p ys, xs = [.ref p] ∧ (SqL X.K H p ys ∨ SqT X.K H p ys) ∧ ∀ l, H l = none → Q (.ref l) (upd H l (.lst ys))) := by
  intro pins s σ H xs us Q I r h
  obtain ⟨p, ys, rfl, hq, q⟩ := h
  obtain ⟨u, rfl, rx⟩ := vals1 r
  cases rx
  have fin : ∀ (its : List Value), Vals ys its → ys.length ≤ sizeLine → ∀ (h' : Heap) (c' : Nat), (∀ b o', s.heap.get? b = some o' → h'.get? b = some o') →
      h'.get? s.heap.objs.size = some { cls := .type "list", dict := none, data := .seq its.toArray c', slots := #[] } → EP X pins σ Q (.ref s.heap.objs.size) { s with heap := h' } := fun its r' hz h' c' kp e =>
    ⟨.ref s.heap.objs.size, _, I.laid (t' := s.toks) kp (Nat.le_refl _) (show ObjOk X.prog X.w _ h' _ (.lst ys) from ⟨hz, its, c', r', e⟩), rfl, q _ (I.hok.fresh (Nat.le_refl _))⟩
  rcases hq with hq | hq
  · obtain ⟨its, r', pl, hz⟩ := I.list hq
    have hlen := r'.length
    obtain ⟨o, ho, hc, n, hd⟩ := pl.isList
    exact call_list_seq p (.inl rfl) ho hc hd (fun h' c' kp e => fin its r' hz h' c' kp e) (by simp only [List.size_toArray] <;> omega)
  · obtain ⟨its, r', pl, hz⟩ := I.tuple hq
    have hlen := r'.length
    obtain ⟨o, ho, hc, n, hd⟩ := pl
    exact call_list_seq p (.inr rfl) ho hc hd (fun h' c' kp e => fin its r' hz h' c' kp e) (by simp only [List.size_toArray] <;> omega)
theorem call_tuple_of : CallR X (.type "tuple") (fun xs H Q => ∃ p ys, xs = [.ref p] ∧ ((SqL X.K H p ys ∧ ∀ l, H l = none → Q (.ref l) (upd H l (.tup ys))) ∨ (SqT X.K H p ys ∧ Q (.ref p) H))) := by
  intro pins s σ H xs us Q I r h
  obtain ⟨p, ys, rfl, h⟩ := h
  obtain ⟨u, rfl, rx⟩ := vals1 r
  cases rx
  rcases h with ⟨hq, q⟩ | ⟨hq, q⟩
  · obtain ⟨its, r', pl, hz⟩ := I.list hq
    have hlen := r'.length
    refine call_tuple_list pl.isList (fun h' kp => ?_) (by simp only [List.size_toArray] <;> omega)
    have I1 : Inv X pins σ H { s with heap := h' } := I.kept (t' := s.toks) kp
    have I2 : Inv X pins σ (upd H h'.objs.size (.tup ys)) { s with heap := h'.push { cls := .type "tuple", data := .seq its.toArray } } :=
      I1.laid (t' := s.toks) (fun b o e => Heap.get?_push_of_some _ e) (Nat.le_refl _) (show ObjOk X.prog X.w _ _ _ (.tup ys) from ⟨hz, its, r', IsTup.new _ _⟩)
    exact ⟨.ref h'.objs.size, _, I2, rfl, q _ (I1.hok.fresh (Nat.le_refl _))⟩
  · obtain ⟨its, r', pl, hz⟩ := I.tuple hq
    exact call_tuple_same pl ⟨.ref p, H, I, rfl, q⟩

/-! ### the call of a builtin's method: o.m(..) -/
/-- the value is of that builtin type -/
def tyV (K : PySem.W.Frag) (T : String) (x : V) (H : Hp) : Prop := match x with
  | .str _ => T = "str"
  | .int _ => T = "int"
  | .ref p => (T = "list" ∧ ∃ xs, SqL K H p xs) ∨ (T = "tuple" ∧ ∃ o, K.lookup p = some o ∧ o.cls = .type "tuple" ∧ o.dict = none) ∨
      (T = "dict" ∧ ((∃ kvs, H p = some (.dK kvs)) ∨ ∃ kvs, H p = some (.dT kvs))) ∨ (T = "set" ∧ ∃ S n, H p = some (.set S n))
  | _ => False
theorem tyV_is {pins : List (Addr × Obj)} {σ : St} {H : Hp} {s : Shared} {T : String} {x : V} {v : Value} (I : Inv X pins σ H s) (r : RelV x v) (ty : tyV X.K T x H) :
    s.TypeIs v T ∧ ∀ a, v = .ref a → ∃ ob, s.heap.get? a = some ob ∧ ob.dict = none := by
  cases x with
  | str z =>
    obtain ⟨t, rfl⟩ := r
    cases (show T = "str" from ty)
    exact ⟨typeIs_str s z t, fun _ e => nomatch e⟩
  | int i =>
    obtain ⟨t, rfl⟩ := r
    cases (show T = "int" from ty)
    exact ⟨typeIs_int s i t, fun _ e => nomatch e⟩
  | ref p =>
    cases r
    rcases ty with ⟨rfl, xs, hq⟩ | ⟨rfl, o, hk, hc, hd⟩ | ⟨rfl, hk⟩ | ⟨rfl, S, n, hk⟩
    · obtain ⟨its, _, pl, _⟩ := I.list hq
      refine ⟨pl.isList.typeIs, fun a e => ?_⟩
      cases e
      obtain ⟨o, n, e, c, hd, _⟩ := pl
      exact ⟨o, e, hd⟩
    · refine ⟨⟨o, I.kIn p o hk, hc⟩, fun a e => ?_⟩
      cases e
      exact ⟨o, I.kIn _ o hk, hd⟩
    · have z : ∃ o, s.heap.get? p = some o ∧ o.ExactDict := by
        rcases hk with ⟨kvs, hk⟩ | ⟨kvs, hk⟩
        · obtain ⟨_, _, _, _, o, _, _, e, ex, _⟩ := I.hok p _ hk
          exact ⟨o, e, ex⟩
        · obtain ⟨_, _, _, _, o, _, _, e, ex, _⟩ := I.hok p _ hk
          exact ⟨o, e, ex⟩
      obtain ⟨o, e, ex⟩ := z
      refine ⟨⟨o, e, ex.1⟩, fun a e2 => ?_⟩
      cases e2
      exact ⟨o, e, ex.2.1⟩
    · obtain ⟨o, _, _, _, e, ex, _⟩ := I.hok p _ hk
      refine ⟨⟨o, e, ex.1⟩, fun a e2 => ?_⟩
      cases e2
      exact ⟨o, e, ex.2.1⟩
  | _ => exact False.elim ty
def tBM (K : PySem.W.Frag) (T : String) (r : V → List V → Hp → VK → Prop) (to : TE) (t : TA) : TE := fun σ H Q => to σ H fun x H1 => tyV K T x H1 ∧ t σ H1 fun xs H2 => r x xs H2 Q
variable {o e : Expr} {es : List Expr} {to : TE} {t : TA} {name : Str} {apos cpos : Pos} {T id : String} {r : V → List V → Hp → VK → Prop}
theorem pe_bm (pa : PlainAttrs T) (slot : Slot T name id) (hty : typeOf (.builtin id) = pure (.type "method_descriptor")) (hm : MtR X id r) (ho : PE X o to) (ha : PA X (e :: es) t)
    (hbase : attributeBase o name X.env (eval o X.env) = eval o X.env := by rfl)
    (hfew : ((backTo cpos (starEach (e :: es) X.env)).all (fun x => !x.1) && (backToKw cpos (keywordEach [] X.env)).all (fun x => x.1.isSome)
      && decide ((e :: es).length + ([] : List Keyword).length + (if ([] : List Keyword).isEmpty then 0 else 1) < 30)) = true := by rfl)
    (hline : (apos.endLine == cpos.line) = true := by rfl) (hs : starEach (e :: es) X.env = (false, eval e X.env) :: starEach es X.env := by rfl) (hplain : (backTo cpos (starEach es X.env)).any (·.1) = false := by rfl) :
    PE X (.Call (.Attribute o name apos) (e :: es) [] cpos) (tBM X.K T r to t) := by
  intro pins s σ H Q I h
  refine wpAny_Call_method_late hbase hfew hline rfl (thn (ho pins s σ H _ I h) fun v s1 ⟨x, H1, I1, r1, ty, q1⟩ => ?_)
  obtain ⟨h1, h2⟩ := tyV_is I1 r1 ty
  refine ⟨T, id, pa, slot, hty, h1, h2, ?_⟩
  have hA := ha cpos pins s1 σ H1 _ I1 q1
  rw [hs] at hA ⊢
  refine Calls.callWith_builtin (by show (false || (backTo cpos (starEach es X.env)).any (·.1)) = false; rw [hplain] <;> rfl) (Calls.evalArgs_plain ?_)
  exact thn hA fun us s2 ⟨vs, H2, I2, r2, q2⟩ => hm pins s2 σ H2 x vs v us Q I2 r1 r2 q2
/- xs.append(e), list.index on a module's tuple .. are MtR facts of 06m -/
end
end L2

namespace L2
open PySem PySem.Spec PyProof.Rows

def MtM (X : Cx) (id : String) (r : V → List V → Hp → VK → Prop) : Prop :=
  ∀ (pins : List (Addr × Obj)) (s : Shared) (σ : St) (H : Hp) (x : V) (xs : List V) (v : Value) (us : List Value) (Q : VK), Inv X pins σ H s → RelV x v → Vals xs us → r x xs H Q →
    wpAny (model X.prog X.w) X.A (call (.builtin id) (v :: us)) (EP X pins σ Q) X.xe s

/-! ### lists of values -/
theorem Vals.one : ∀ {x : V} {us : List Value}, Vals [x] us → ∃ u, us = [u] ∧ RelV x u
  | _, _, .cons r .nil => ⟨_, rfl, r⟩
theorem Vals.two : ∀ {x y : V} {us : List Value}, Vals [x, y] us → ∃ u v, us = [u, v] ∧ RelV x u ∧ RelV y v
  | _, _, _, .cons r (.cons q .nil) => ⟨_, _, rfl, r, q⟩
theorem Vals.zero : ∀ {us : List Value}, Vals [] us → us = []
  | _, .nil => rfl
theorem Vals.reverse {xs : List V} {us : List Value} (h : Vals xs us) : Vals xs.reverse us.reverse := by
  induction h with
  | nil => exact .nil
  | cons r t ih => rw [List.reverse_cons, List.reverse_cons]; exact Vals.append ih (.cons r .nil)

section
variable {X : Cx} {pins : List (Addr × Obj)} {σ : St} {H : Hp} {s : Shared} {l b : Addr} {xs ys zs : List V}

/-! ### the two steps: a tracked list is rewritten, a new list is laid -/
theorem Inv.lset {its its' : List Value} {n : Nat} {f : Array Value → Array Value} {t' : Nat} (I : Inv X pins σ H s) (hH : H l = some (.lst xs))
    (e : s.heap.get? l = some { cls := .type "list", data := .seq its.toArray n }) (hf : f its.toArray = its'.toArray) (hv : Vals ys its') (hz : ys.length ≤ sizeLine) :
    Inv X pins σ (upd H l (.lst ys)) { s with heap := s.heap.update l (Obj.mapSeq f), toks := t' } := by
  have q := PySem.IsL.update e f
  rw [hf] at q
  refine I.write (x := l) (e := l) (by rw [hH]; exact trivial) (.inl rfl) (fun b' u hb hu => (Heap.get?_update_other s.heap (Obj.mapSeq f) (Ne.symm hb)).trans hu) ⟨_, q⟩ ?_
  exact ⟨hz, its', _, hv, q⟩
theorem Inv.lnew {its : List Value} {t' : Nat} (I : Inv X pins σ H s) (hv : Vals ys its) (hz : ys.length ≤ sizeLine) :
    Inv X pins σ (upd H s.heap.objs.size (.lst ys)) { s with heap := s.heap.push { cls := .type "list", data := .seq its.toArray }, toks := t' } :=
  I.laid (fun _ _ q => Heap.get?_push_of_some _ q) (Nat.le_refl _) ⟨hz, its, 0, hv, Heap.get?_push_size _ rfl⟩
theorem Inv.fresh (I : Inv X pins σ H s) : H s.heap.objs.size = none := I.hok.fresh (Nat.le_refl _)
theorem Inv.lstM (I : Inv X pins σ H s) (hH : H l = some (.lst xs)) : xs.length ≤ sizeLine ∧ ∃ (its : List Value) (n : Nat), Vals xs its ∧ xs.length = its.length ∧ s.heap.get? l = some { cls := .type "list", data := .seq its.toArray n } := by
  obtain ⟨z, its, n, r, e⟩ := I.hok l _ hH
  exact ⟨z, its, n, r, r.length, e⟩

end

section
variable {X : Cx}

/-! ### methods -/
def rAppend : V → List V → Hp → VK → Prop := fun x vs H Q => ∃ l xs y, x = .ref l ∧ vs = [y] ∧ H l = some (.lst xs) ∧ xs.length < sizeLine ∧ Q .non (upd H l (.lst (xs ++ [y])))
theorem mt_append : MtM X "list.append" rAppend := by
  intro pins s σ H x vs v us Q I rx rv h
  obtain ⟨l, xs, y, rfl, rfl, hH, hz, q⟩ := h
  cases rx
  obtain ⟨u, rfl, ru⟩ := rv.one
  obtain ⟨z, its, n, r, hl, e⟩ := I.lstM hH
  refine call_meets F.slot_list_append ⟨_, e, rfl⟩ F.entry_list_append (F.args_list_append_2 _ _) (PySem.list_append l its.toArray n u (by rw [List.size_toArray]; omega)) ⟨e, ?_⟩
  refine ⟨.non, _, I.lset (its' := its ++ [u]) hH e (by simp) (r.append (.cons ru .nil)) ?_, rfl, q⟩
  rw [List.length_append, List.length_singleton]
  omega






/-! ### list + list, list += list, list * int -/
def rCat : R2 := fun x y H Q => ∃ l b xs zs, x = .ref l ∧ y = .ref b ∧ H l = some (.lst xs) ∧ H b = some (.lst zs) ∧ xs.length + zs.length ≤ sizeLine ∧ ∀ p, H p = none → Q (.ref p) (upd H p (.lst (xs ++ zs)))
theorem op_cat : OpR X (binaryOp .Add) rCat := by
  intro pins s σ H x y v u Q I rx ry h
  obtain ⟨l, b, xs, zs, rfl, rfl, hH, hB, hz, q⟩ := h
  cases rx
  cases ry
  obtain ⟨z, its, n, r, hl, e⟩ := I.lstM hH
  obtain ⟨z2, its2, n2, r2, hl2, e2⟩ := I.lstM hB
  refine PySem.P.add_list e e2 ?_ (by rw [List.size_toArray, List.size_toArray]; omega)
  have ea : its.toArray ++ its2.toArray = (its ++ its2).toArray := by simp
  rw [ea]
  exact ⟨.ref _, _, I.lnew (t' := s.toks) (r.append r2) (by rw [List.length_append]; omega), rfl, q _ I.fresh⟩

/-! ### del xs[i] -/
end

/-! ### xs[a:b] = ys -/
section
variable {prog : Program} {w : World} {A : Around} {E : Value → Shared → Prop} {s : Shared}
end

section
variable {X : Cx}
end
end L2

namespace L2
open PySem PySem.Spec PyProof.Rows

/-! ### lists of pairs as tables -/
section
variable {κ : Type} [DecidableEq κ]
def valV (kvs : List (κ × V)) (k : κ) : Option V := (kvs.find? fun kv => decide (kv.1 = k)).map (·.2)
/-- in its place, or at the end -/
def putK (kvs : List (κ × V)) (k : κ) (v : V) : List (κ × V) :=
  if (kvs.any fun kv => decide (kv.1 = k)) = true then kvs.map (fun kv => if kv.1 = k then (kv.1, v) else kv) else kvs ++ [(k, v)]
def dropK (kvs : List (κ × V)) (k : κ) : List (κ × V) := kvs.filter fun kv => decide (kv.1 ≠ k)

theorem valV_pos {p : κ × V} {r : List (κ × V)} {k : κ} (e : p.1 = k) : valV (p :: r) k = some p.2 := by simp [valV, List.find?_cons, e]
theorem valV_neg {p : κ × V} {r : List (κ × V)} {k : κ} (e : ¬ p.1 = k) : valV (p :: r) k = valV r k := by simp [valV, List.find?_cons, e]

theorem RelO.getD {o : Option V} {u : Option Value} {d : V} {d' : Value} (r : RelO o u) (rd : RelV d d') : RelV (o.getD d) (u.getD d') := by
  cases o with
  | none => cases u with
    | none => exact rd
    | some _ => exact (show False from r).elim
  | some _ => cases u with
    | none => exact (show False from r).elim
    | some _ => exact r

/-- raw tables of the same keys -/
theorem KV.val {kvs : List (κ × V)} {vs : List (κ × Value)} (r : KV kvs vs) (k : κ) : RelO (valV kvs k) (valueAt vs k) := by
  unfold KV at r
  induction r with
  | nil => exact True.intro
  | @cons p q ps qs h t ih =>
    obtain ⟨h1, h2⟩ := h
    by_cases e : p.1 = k
    · have e' : q.1 = k := h1.symm.trans e
      have b : valueAt (q :: qs) k = some q.2 := by simp [valueAt, List.find?_cons, e']
      rw [valV_pos e, b]; exact h2
    · have e' : ¬ q.1 = k := fun z => e (h1.trans z)
      have b : valueAt (q :: qs) k = valueAt qs k := by simp [valueAt, List.find?_cons, e']
      rw [valV_neg e, b]; exact ih
theorem KV.any {kvs : List (κ × V)} {vs : List (κ × Value)} (r : KV kvs vs) (k : κ) : (kvs.any fun kv => decide (kv.1 = k)) = vs.any fun kv => decide (kv.1 = k) := by
  unfold KV at r
  induction r with
  | nil => rfl
  | cons h t ih => rw [List.any_cons, List.any_cons, ih, h.1]
theorem KV.drop {kvs : List (κ × V)} {vs : List (κ × Value)} (r : KV kvs vs) (k : κ) : KV (dropK kvs k) (without vs k) := by
  unfold KV at r ⊢
  unfold dropK without
  induction r with
  | nil => exact .nil
  | @cons p q ps qs h t ih =>
    obtain ⟨h1, h2⟩ := h
    rw [List.filter_cons, List.filter_cons]
    by_cases e : p.1 = k
    · have a : ¬ decide (p.1 ≠ k) = true := by simp [e]
      have b : ¬ decide (q.1 ≠ k) = true := by simp [h1.symm.trans e]
      rw [if_neg a, if_neg b]; exact ih
    · have e' : ¬ q.1 = k := fun z => e (h1.trans z)
      have a : decide (p.1 ≠ k) = true := by simp [e]
      have b : decide (q.1 ≠ k) = true := by simp [e']
      rw [if_pos a, if_pos b]; exact .cons ⟨h1, h2⟩ ih
theorem KV.keys {kvs : List (κ × V)} {vs : List (κ × Value)} (r : KV kvs vs) : kvs.map (·.1) = vs.map (·.1) := by
  unfold KV at r
  induction r with
  | nil => rfl
  | cons h t ih => rw [List.map_cons, List.map_cons, ih, h.1]
theorem KV.length {kvs : List (κ × V)} {vs : List (κ × Value)} (r : KV kvs vs) : kvs.length = vs.length := Paired.length r
end


/-! ### a tracked dict, its keys ints and texts or tuples of these -/

/-- raw entries of a dict with tuple keys -/
abbrev KT (H : Hp) : List (List Key × V) → List (List Key × Addr × Value) → Prop := Paired fun p q => p.1 = q.1 ∧ H q.2.1 = some (.tup (p.1.map kV)) ∧ RelV p.2 q.2.2
theorem KT.val {H : Hp} {kvs : List (List Key × V)} {xs : List (List Key × Addr × Value)} (r : KT H kvs xs) (k : List Key) : RelO (valV kvs k) ((atKey xs k).map (·.2)) := by
  induction r with
  | nil => exact True.intro
  | @cons p q ps qs h t ih =>
    obtain ⟨h1, _, h2⟩ := h
    by_cases e : p.1 = k
    · have e' : q.1 = k := h1.symm.trans e
      have b : atKey (q :: qs) k = some q.2 := by simp [atKey, List.find?_cons, e']
      rw [valV_pos e, b]; exact h2
    · have e' : ¬ q.1 = k := fun z => e (h1.trans z)
      have b : atKey (q :: qs) k = atKey qs k := by simp [atKey, List.find?_cons, e']
      rw [valV_neg e, b]; exact ih
theorem KT.keeps {H H' : Hp} {kvs : List (List Key × V)} {xs : List (List Key × Addr × Value)} (r : KT H kvs xs) (ht : ∀ b ys, H b = some (.tup ys) → H' b = some (.tup ys)) : KT H' kvs xs :=
  Paired.mapP r fun _ _ z => ⟨z.1, ht _ _ z.2.1, z.2.2⟩

section
variable {P : Program} {w : World} {H : Hp} {h : Heap} {a : Addr}
end

/-- what the dict at a holds at the key y -/
def DGet (H : Hp) (a : Addr) (y : V) (r : Option V) : Prop :=
  (∃ kvs k, Rd H a (.dK kvs) ∧ y = kV k ∧ r = valV kvs k) ∨ ∃ kvs k b, Rd H a (.dT kvs) ∧ y = .ref b ∧ H b = some (.tup (k.map kV)) ∧ r = valV kvs k
/-- the heap behind a[y] = v -/
def DPut (H : Hp) (a : Addr) (y v : V) (H' : Hp) : Prop :=
  (∃ kvs k, H a = some (.dK kvs) ∧ y = kV k ∧ kvs.length < sizeLine ∧ H' = upd H a (.dK (putK kvs k v))) ∨
  ∃ kvs k b, H a = some (.dT kvs) ∧ y = .ref b ∧ H b = some (.tup (k.map kV)) ∧ kvs.length < sizeLine ∧ H' = upd H a (.dT (putK kvs k v))
theorem DGet.k {H : Hp} {a : Addr} {kvs : List (Key × V)} {k : Key} (e : H a = some (.dK kvs)) : DGet H a (kV k) (valV kvs k) := .inl ⟨kvs, k, .inl e, rfl, rfl⟩
theorem DGet.t {H : Hp} {a b : Addr} {kvs : List (List Key × V)} {k : List Key} (e : H a = some (.dT kvs)) (eb : H b = some (.tup (k.map kV))) : DGet H a (.ref b) (valV kvs k) := .inr ⟨kvs, k, b, .inl e, rfl, eb, rfl⟩
theorem DPut.k {H : Hp} {a : Addr} {kvs : List (Key × V)} {k : Key} {v : V} (e : H a = some (.dK kvs)) (hl : kvs.length < sizeLine) : DPut H a (kV k) v (upd H a (.dK (putK kvs k v))) := .inl ⟨kvs, k, e, rfl, hl, rfl⟩
theorem DPut.t {H : Hp} {a b : Addr} {kvs : List (List Key × V)} {k : List Key} {v : V} (e : H a = some (.dT kvs)) (eb : H b = some (.tup (k.map kV))) (hl : kvs.length < sizeLine) :
    DPut H a (.ref b) v (upd H a (.dT (putK kvs k v))) := .inr ⟨kvs, k, b, e, rfl, eb, hl, rfl⟩


section
variable {X : Cx} {pins : List (Addr × Obj)} {σ : St} {H : Hp} {s : Shared} {a : Addr} {y v : V} {u r : Value} {o : Option V} {A : Around} {E : Value → Shared → Prop}

theorem Inv.big (I : Inv X pins σ H s) : sysModules < s.heap.objs.size := by
  have h : mainGlobals < s.heap.objs.size := (I.mod.glob.keeps I.bk).lt
  exact Nat.lt_trans (by decide) h

end

section
variable {X : Cx} {pins : List (Addr × Obj)} {σ : St} {H : Hp} {s : Shared} {a : Addr} {kvs : List (Key × V)} {k : Key} {u : Value} {A : Around} {E : Value → Shared → Prop}
end


/-! ### readings and rules -/
/-- the element of a subscription, not a slice -/
def NoSl (i : Expr) : Prop := ∀ ov iv, subscripted i false ov iv = operate [ov, iv] (getItem ov iv)
theorem subD_of {prog : Program} {w : World} {A : Around} {E : Value → Shared → Prop} {s : Shared} {env : Env} {value slice : Expr} {pos : Pos} {T id : String} {Q : Value → Shared → Prop}
    (hl : typeLookup (.type T) "__getitem__" = pure (some (.builtin id))) (hs : NoSl slice)
    (h : wpAny (model prog w) A (eval value env) (fun o s₁ => wpAny (model prog w) A (eval slice env) (fun i s₂ => s₂.TypeIs o T ∧ wpAny (model prog w) A (getItem o i) Q E s₂) E s₁) E s) :
    wpAny (model prog w) A (eval (.Subscript value slice pos) env) Q E s := by
  refine Subscript_ (wpAny_mono h (fun o s₁ h₁ => wpAny_mono h₁ (fun i s₂ h₂ => ?_) fun _ _ x => x) fun _ _ x => x)
  obtain ⟨hT, h₂⟩ := h₂
  unfold subscriptTail
  refine wpAny_bind ?_
  rw [getitemInPython_of_ne hT.not_modules]
  refine wpAny_bind (wpAny_specialOf hT hl ?_)
  have fin : wpAny (model prog w) A (subscripted slice false o i) (fun r s₃ => wpAny (model prog w) A (letTemporaryGo value o r >>= fun _ => pure r) Q E s₃) E s₂ := by
    rw [hs o i]
    exact wpAny_operating (wpAny_mono h₂ (fun r s₃ h₃ => wpAny_bind (wpAny_letTemporaryGo (wpAny_pure h₃))) fun _ _ x => x)
  first
    | exact wpAny_pure (wpAny_bind fin)
    | exact wpAny_bind (wpAny_pure (wpAny_bind fin))
    | exact wpAny_bind fin



section
variable {X : Cx} {o i e value : Expr} {pos pos' tpos : Pos} {td ty tv : TE}
end


/-! ### displays -/
theorem dk_empty {P : Program} {w : World} {H : Hp} (h : Heap) (hb : sysModules < h.objs.size) : ObjOk P w H (h.push { cls := .type "dict", data := .dict #[] }) h.objs.size (.dK []) :=
  ⟨Nat.zero_le _, beq_eq_false_iff_ne.mpr (Ne.symm (Nat.ne_of_lt hb)), [], .nil, Heap.DictOf.new h⟩
/-- {}, to be a dict of the kind that is wanted -/
def tDNewK : TE := fun _ H Q => ∀ p, H p = none → Q (.ref p) (upd H p (.dK []))
section
variable {X : Cx} {pos : Pos}
theorem pe_dnewK : PE X (.Dict [] [] pos) tDNewK := fun pins s σ H Q I h =>
  wpAny_Dict_empty ⟨.ref s.heap.objs.size, _, I.laid (a := s.heap.objs.size) (o := .dK []) (t' := s.toks) (fun _ _ q => Heap.get?_push_of_some _ q) (Nat.le_refl _) (dk_empty s.heap I.big), rfl, h _ (I.hok.fresh (Nat.le_refl _))⟩
end




/-! ### methods -/
/-- a method call o.m(e) of a built-in, with one argument: what must be seen of the text -/
structure M1 (X : Cx) (o : Expr) (m : Str) (apos : Pos) (e : Expr) (cpos : Pos) : Prop where
  base : attributeBase o m X.env (eval o X.env) = eval o X.env
  few : ((backTo cpos (starEach [e] X.env)).all (fun x => !x.1) && (backToKw cpos (keywordEach [] X.env)).all (fun x => x.1.isSome)
    && decide (([e] : List Expr).length + ([] : List Keyword).length + (if ([] : List Keyword).isEmpty then 0 else 1) < 30)) = true
  line : (apos.endLine == cpos.line) = true
  trees : backTo cpos (starEach [e] X.env) = [(false, eval e X.env)]
structure M2 (X : Cx) (o : Expr) (m : Str) (apos : Pos) (e f : Expr) (cpos : Pos) : Prop where
  base : attributeBase o m X.env (eval o X.env) = eval o X.env
  few : ((backTo cpos (starEach [e, f] X.env)).all (fun x => !x.1) && (backToKw cpos (keywordEach [] X.env)).all (fun x => x.1.isSome)
    && decide (([e, f] : List Expr).length + ([] : List Keyword).length + (if ([] : List Keyword).isEmpty then 0 else 1) < 30)) = true
  line : (apos.endLine == cpos.line) = true
  trees : backTo cpos (starEach [e, f] X.env) = [(false, eval e X.env), (false, eval f X.env)]


section
variable {X : Cx} {pins : List (Addr × Obj)} {σ : St} {H : Hp} {s : Shared} {a : Addr} {y d : V} {u r : Value} {o : Option V} {A : Around} {E : Value → Shared → Prop}
end

section
variable {X : Cx} {o e f : Expr} {apos cpos : Pos} {td ty tx : TE}
end

/-! ### dict(d): a copy -/
section
variable {X : Cx} {pins : List (Addr × Obj)} {σ : St} {H : Hp} {s : Shared} {a : Addr} {kvs : List (Key × V)} {A : Around} {E : Value → Shared → Prop}
end


section
variable {X : Cx} {pins : List (Addr × Obj)} {σ : St} {H : Hp} {s : Shared} {a : Addr} {y : V} {u : Value} {A : Around} {E : Value → Shared → Prop}
end
end L2

namespace Att
open PySem PySem.W PySem.Calls PyProof.Rows

/-! ### the script -/
theorem ints_of_wellAll {P : Params} {h : Heap} : ∀ (ns : List Int) (vs : List Value), WellAll P h vs (ns.map WData.int) → IntsAre vs ns := by
  intro ns
  induction ns with
  | nil =>
    intro vs w
    rw [List.map_nil] at w
    cases w
    exact .nil
  | cons n ns ih =>
    intro vs w
    rw [List.map_cons] at w
    cases w with
    | cons a b =>
      cases a
      exact .cons _ _ (ih _ b)

theorem script_of {l : OpenLaw} {n : Nat} (hn : l.most = some n) {P : Params} {h : Heap} {args : List WData} {vals : List Value}
    (hpre : l.row.toRowW.claim.pre args = true) (hwl : WellAll P h vals args) :
    ∃ a vs ns, vals = [Value.ref a] ∧ args = [WData.list (ns.map WData.int)] ∧ h.get? a = some { cls := .type "list", data := .seq vs.toArray } ∧ IntsAre vs ns ∧ ns.length ≤ n := by
  have hsh : WShape.hasAll [] args [.list .int] = true := (pre_splitW hpre).1
  have hc : l.pre.holds [] { args := args } = true := (pre_splitW hpre).2
  obtain ⟨d, r, rfl, h1, h2⟩ := hasAllW_cons hsh
  obtain rfl := hasAllW_nil h2
  obtain ⟨xs, rfl, h3⟩ := hasW_list h1
  obtain ⟨ns, rfl⟩ := items_int h3
  have hlen : ns.length ≤ n := by
    unfold OpenLaw.pre at hc
    have h4 : (WTm.not (.lt (.lit (.int (n : Int))) (.len (.arg 0)))).holds [] { args := [.list (ns.map .int)] } = true := by
      have h4 := (holds_andW hc).1
      rw [hn] at h4
      exact h4
    have h5 := condW_of h4 (w_not (w_lt w_lit (w_len_list (w_arg rfl))))
    rw [List.length_map] at h5
    refine Nat.le_of_not_lt fun q => ?_
    have q' : (n : Int) < ((ns.length : Nat) : Int) := by omega
    first
      | (rw [decide_eq_true q'] at h5; exact absurd h5 (by decide))
      | (simp at h5; omega)
  cases hwl with
  | cons w1 w2 =>
    cases w2
    cases w1 with
    | list ho hall => exact ⟨_, _, ns, rfl, rfl, ho, ints_of_wellAll ns _ hall, hlen⟩

theorem post_true (l : OpenLaw) (args : List WData) : l.row.toRowW.claim.post args (.bool true) args = true :=
  postW_of (r := l.row.toRowW) (X := (true == true))
    (show WShape.has [] (.bool true) .bool = true by first | rfl | decide | simp [WShape.has, WShape.arms, WShape.armsAll])
    (show (WTm.eq .res (.lit (.bool true))).value [] { args := args, res := some (.bool true), after := args } = some (.bool (true == true)) from w_eq_bool (w_res rfl) w_lit) rfl

/-! ### the attachment: holds_open's last premise (the goal 'hc' behind k_head) from a wpAny of the law's body -/



/-! ### rules over ANY heap (no ledger) from facts about the written part K: the library's own take a ledger (News) for what they write -/
section
variable {prog : Program} {w : World} {A : Around} {E : Value → Shared → Prop} {s : Shared} {K : Frag}





/-! the whole heap as the ledger: makes every rule that writes through a ledger a rule over any heap -/
def ledger (h : Heap) (L d : Addr) : List (Addr × Obj) := (List.range h.objs.size).filterMap fun a => if a = L ∨ a = d then none else (h.get? a).map fun o => (a, o)

end
end Att

namespace L2
open PySem PySem.Spec PyProof.Rows

theorem vals_ints : ∀ {vs : List Value} {ns : List Int}, IntsAre vs ns → Vals (ns.map V.int) vs
  | _, _, .nil => .nil
  | _, _, .cons n t h => .cons ⟨t, rfl⟩ (vals_ints h)

/-- nothing is tracked but the script, known to the object (or it is an object of the module) -/
def Only (H : Hp) : Prop := ∀ b, H b = none ∨ ∃ o xs, H b = some (.frz o (.lst xs))

/-- THE HEAD: the law's promise, at the heap behind the top. F, the promise of the law's def, may use that base is part of the heap (so K.In base, base.Ns mainGlobals mg stand in Mod) -/
theorem law_call {P : Program} {w : World} {K : PySem.W.Frag} {mg mb : Str → Option Value} {CX : CXT} {k : Nat} {fa a : Addr} {fd : FuncData} {x : Str} {sp : Sp} {s₁ : Shared} {vs : List Value} {ns : List Int}
    (KX : K.In s₁.heap) (hns : s₁.heap.Ns mainGlobals mg) (hb : s₁.heap.Ns builtinsNs mb) (hbb : ∀ x : Str, x ≠ "__name__" → mb x = bootBuiltins x) (hlim : s₁.heap.NoLimit) (hg : s₁.gens = #[])
    (ha : s₁.heap.get? a = some { cls := .type "list", data := .seq vs.toArray }) (hi : IntsAre vs ns) (hl : ns.length ≤ sizeLine) (hr : Room k callerA)
    (F : ∀ base : Heap, K.In base → base.Ns mainGlobals mg → FnOk P w K mg base CX k fa fd [x] sp) (hbind : ∀ (s : Shared) (u : Value), BindsTo s fd ⟨[u], []⟩ [(x, u)])
    (hsp : ∀ H : Hp, Only H → SqL K H a (ns.map V.int) → sp [.ref a] H (fun v _ => v = .bl true) fun _ _ _ => False)
    (hCX : ∀ H e s', CX [] H s₁ (fun _ _ _ => False) e s' → False) :
    codeAny (model P w) callerA (.call (.ref fa) ⟨[.ref a], []⟩) (fun r s' => r = .ok (.ret (.bool true)) ∧ OldK s₁.heap s'.heap ∧ s'.os = s₁.os ∧ AllBare s'.gens) s₁ := by
  have rv := vals_ints hi
  have lenV := hi.length
  -- from an abstract heap in which nothing but the script may be tracked
  have core : ∀ H : Hp, Only H → SqL K H a (ns.map V.int) → HOk P w H s₁.heap → (∀ b, H b ≠ none → b = a) → (H a ≠ none → K.lookup a = none) →
      codeAny (model P w) callerA (.call (.ref fa) ⟨[.ref a], []⟩) (fun r s' => r = .ok (.ret (.bool true)) ∧ OldK s₁.heap s'.heap ∧ s'.os = s₁.os ∧ AllBare s'.gens) s₁ := by
    intro H hO hS hok hA hK
    have base_of : ∀ {b : Addr} {o : Obj}, s₁.heap.get? b = some o → H b = none → (hidT s₁.heap H).get? b = some o := fun e n => hidT_get e n
    have noA : ∀ {b : Addr} {o : Obj} {es : Array DictEntry} {ep : Nat}, s₁.heap.get? b = some o → o.data = .dict es ep → H b = none := fun {b o es ep} e d => by
      cases q : H b with
      | none => rfl
      | some u =>
        have e' : b = a := hA b (by rw [q]; simp)
        subst e'
        rw [ha] at e; cases e
        have d' : Data.seq vs.toArray _ = Data.dict es ep := d
        cases d'
    have nsK : ∀ {b : Addr} {m : Str → Option Value}, s₁.heap.Ns b m → (hidT s₁.heap H).Ns b m := fun {b m} ⟨o, es, ep, e, d, r⟩ => ⟨o, es, ep, base_of e (noA e d), d, r⟩
    have hKb : K.In (hidT s₁.heap H) := fun b o e => base_of (KX b o e) (by
      cases q : H b with
      | none => rfl
      | some u =>
        have e' : b = a := hA b (by rw [q]; simp)
        subst e'
        rw [hK (by rw [q]; simp)] at e; cases e)
    have hM : Mod K mg (hidT s₁.heap H) := ⟨hKb, nsK hns, ⟨mb, nsK hb, hbb⟩, let ⟨mc, h1, h2⟩ := hlim; ⟨mc, nsK h1, h2⟩⟩
    have e0 : Env0 P w K mg (hidT s₁.heap H) callerA [] s₁ H := ⟨rfl, hM, fun b o e => of_hidT e, Nat.le_of_eq (hidT_size _ _), trivial, fun b hb => absurd (show b ∈ ([] : List Addr) from hb) (by simp), hok, .of_eq hg⟩
    refine codeAny_mono ((F _ hKb (nsK hns)).run callerA [] s₁ H ⟨[.ref a], []⟩ [.ref a] [.ref a] _ _ hr e0 (hbind s₁ (.ref a)) (.cons rfl .nil) (hsp H hO hS)) fun r s' h => ?_
    cases r with
    | error e => exact (hCX H e s' h).elim
    | ok fl =>
      cases fl with
      | next => exact False.elim h
      | brk => exact False.elim h
      | cont => exact False.elim h
      | ret u =>
        obtain ⟨v, H', os, bare, un, hok', r', q⟩ := h
        have q' : v = .bl true := q
        subst q'
        obtain rfl : u = Value.bool true := r'
        refine ⟨rfl, OldK.of_keep fun b o e => ?_, os, bare⟩
        cases q : H b with
        | none => exact un.keep b o e q (by intro z; exact absurd (show b ∈ ([] : List Addr) from z) (by simp)) (by simp)
        | some u =>
          rcases hO b with z | ⟨ob, xs, z⟩
          · rw [q] at z; cases z
          · have z2 := un.frzs b ob _ z
            obtain ⟨e1, _⟩ := hok b _ z
            obtain ⟨e2, _⟩ := hok' b _ z2
            rw [e] at e1; cases e1
            exact e2
  cases hk : K.lookup a with
  | some o =>
    -- the script is one of the module's own objects
    have e := KX a o hk
    rw [ha] at e
    cases e
    refine core (fun _ => none) (fun _ => .inl rfl) (.inr ⟨_, vs.toArray, _, hk, rfl, rfl, rfl, by rw [List.size_toArray, lenV]; exact hl, by simpa using rv⟩) (fun b u z => by have z' : (none : Option HO) = some u := z; cases z') (fun b z => absurd rfl z) fun z => absurd rfl z
  | none =>
    refine core (fun b => if b = a then some (.frz { cls := .type "list", data := .seq vs.toArray } (.lst (ns.map V.int))) else none) (fun b => ?_) (.inl (.inr ⟨{ cls := .type "list", data := .seq vs.toArray }, if_pos rfl⟩)) (fun b u z => ?_) (fun b z => ?_) fun _ => hk
    · by_cases hb : b = a
      · exact .inr ⟨_, _, if_pos hb⟩
      · exact .inl (if_neg hb)
    · by_cases hb : b = a
      · have z' := (if_pos hb).symm.trans z
        cases z'
        subst hb
        exact ⟨ha, by rw [List.length_map]; exact hl, vs, _, rv, ha⟩
      · have z' := (if_neg hb).symm.trans z
        cases z'
    · by_cases hb : b = a
      · exact hb
      · exact absurd (if_neg hb) z
end L2

namespace L2
open PySem PySem.Spec PyProof.Rows


end L2

/- THE LAST THEOREM (shape; LID, My.* are yours):
   My.Adr: a structure of the addresses that your layer names (classes, functions); My.Txt K t: a structure (Prop) of the equations over K;
   My.txt_mk : {K} {implicit addresses ..} (e1 : nsIn K mainGlobals "law" = some (some (.ref f))) (e2 : K.lookup f = some ⟨oc, od, .func (fnOf "law" "law" params body scope dV kV doc pm an cdv ct), sl⟩) (e3 : codeIn K cdv "law" = true) .. : ∃ t, My.Txt K t

(the tactic k_is has no namespace: write k_is) -/

/-! SHORT WORDS over the layer: a def of the text, its body, what a loop and a test want. -/
namespace L2
open PySem PySem.Spec PyProof.Rows

/-! ### the text by places -/
def defArgs (s : Stmt) : Arguments := match s with
  | .FunctionDef _ a _ _ _ _ _ _ _ _ => a
  | _ => { posonlyargs := [], args := [], vararg := none, kwonlyargs := [], kw_defaults := [], kwarg := none, defaults := [] }
def defBody (s : Stmt) : List Stmt := match s with
  | .FunctionDef _ _ b _ _ _ _ _ _ _ => b
  | _ => []
def defScope (s : Stmt) : Scope := match s with
  | .FunctionDef _ _ _ _ _ _ sc _ _ _ => sc
  | _ => { kind := .function, names := [], isGenerator := false, isCoroutine := false }

/-! ### no exception leaves a def -/
abbrev CX0 : CXT := fun _ _ _ _ _ _ => False
abbrev E0 : XK := fun _ _ _ => False
theorem pass0 {X : Cx} : Passes CX0 X E0 := fun _ _ _ _ _ _ _ h => h.elim

/-! ### a def (or method) of the text as it stands behind the top -/
structure Fun (K : PySem.W.Frag) (x qual : Str) (st : Stmt) (f : Addr) (fd : FuncData) : Prop where
  ex : ∃ (oc : Value) (od : Option Addr) (kV doc pm : Value) (an : Option Addr) (cdv ct : Value) (osl : Array (Option Value)),
    fd = PySem.W.fnOf x qual (defArgs st) (defBody st) (defScope st) .none kV doc pm an cdv ct ∧ K.lookup f = some ⟨oc, od, .func fd, osl⟩ ∧ PySem.W.codeIn K cdv qual = true
  kp : PySem.W.keepIn K (.ref f) = true
section
variable {P : Program} {w : World} {K : PySem.W.Frag} {mg : Str → Option Value} {base : Heap}
/-- THE RULE for a def: its body as a term of rules, and the reading of that term -/
theorem Fun.ok {x qual : Str} {st : Stmt} {f : Addr} {fd : FuncData} {N ps : List Str} {k : Nat} {sp : Sp} (F : Fun K x qual st f fd) (S : FnScope N ps (defScope st)) (len : ∀ vs H Q E, sp vs H Q E → vs.length = ps.length)
    (hbody : ∀ (cdv : Value) (A : Around) (outer : List Env) (s : Shared) (H : Hp) (vs : List V) (Q : VK) (E : XK), Room k (A.deeper (envOfC qual (defScope st) s.heap.objs.size f cdv)) → sp vs H Q E →
      ∃ t, PSs (cxOf CX0 P w K mg base N qual (defScope st) f cdv A outer s H E).nox (defBody st) t ∧ t { nx := fun _ H' => Q .non H', rt := Q } (start N vs) H) : FnOk P w K mg base CX0 (k + 1) f fd ps sp := by
  obtain ⟨oc, od, kV, doc, pm, an, cdv, ct, osl, rfl, lk, hcd⟩ := F.ex
  refine fn_of lk hcd S len fun A outer s H vs Q E hr hsp => ?_
  obtain ⟨t, h, q⟩ := hbody cdv A outer s H vs Q E hr hsp
  exact ⟨t, h.nox, q⟩
/-- how its arguments bind (no defaults): h is «fun _ _ _ _ _ _ us hl => match us, hl with | [_, _], _ => rfl», one _ a parameter -/
theorem Fun.binds {x qual : Str} {st : Stmt} {f : Addr} {fd : FuncData} {ps : List Str} (F : Fun K x qual st f fd)
    (h : ∀ (kV doc pm : Value) (an : Option Addr) (cdv ct : Value) (us : List Value), us.length = ps.length → bindArgs (PySem.W.fnOf x qual (defArgs st) (defBody st) (defScope st) .none kV doc pm an cdv ct) ⟨us, []⟩ = pure (ps.zip us)) : Binds K fd ps [] := by
  obtain ⟨oc, od, kV, doc, pm, an, cdv, ct, osl, rfl, lk, hcd⟩ := F.ex
  exact .all (h kV doc pm an cdv ct)
theorem fun_mk {x qual : Str} {st : Stmt} {f : Addr} {oc : Value} {od an : Option Addr} {osl : Array (Option Value)} {kV doc pm cdv ct : Value} (l : K.lookup f = some ⟨oc, od, .func (PySem.W.fnOf x qual (defArgs st) (defBody st) (defScope st) .none kV doc pm an cdv ct), osl⟩)
    (c : PySem.W.codeIn K cdv qual = true) (k : PySem.W.keepIn K (.ref f) = true) : Fun K x qual st f (PySem.W.fnOf x qual (defArgs st) (defBody st) (defScope st) .none kV doc pm an cdv ct) := ⟨⟨oc, od, kV, doc, pm, an, cdv, ct, osl, rfl, l, c⟩, k⟩
end
theorem small1000 {n : Nat} (h : n ≤ 1000) : n < sizeLine := Nat.lt_of_le_of_lt h (by decide)

/-! ### expressions in short: the name that stands in the i-th slot -/
section
variable {X : Cx}
theorem pv (i : Nat) {x : Str} {pos : Pos} (hN : X.N[i]? = some x := by rfl) (hv : Vis X.env.scope x := by first | exact Or.inl rfl | exact Or.inr (Or.inl rfl) | exact Or.inr (Or.inr rfl)) (hd : (x == ("__debug__" : Str)) = false := by decide)
    (hcd : (x == ("__classdict__" : Str)) = false := by decide) : PE X (.Name x pos) (tVar i) := pe_var hN hv hd hcd
end

/-! ### tests -/
theorem iteF {A B : Prop} (h : B) : if false = true then A else B := by
  rw [if_neg Bool.false_ne_true]
  exact h
theorem iteT {A B : Prop} (h : A) : if true = true then A else B := by
  rw [if_pos rfl]
  exact h
theorem ite2 {c A B : Prop} [Decidable c] (h1 : c → A) (h2 : ¬ c → B) : if c then A else B := by
  by_cases h : c
  · rw [if_pos h]
    exact h1 h
  · rw [if_neg h]
    exact h2 h

/-! ### heaps -/
/-- all that was tracked is as it was -/
def Same (H H' : Hp) : Prop := ∀ b o, H b = some o → H' b = some o
theorem Same.refl (H : Hp) : Same H H := fun _ _ h => h
theorem Same.trans {H H1 H2 : Hp} (a : Same H H1) (b : Same H1 H2) : Same H H2 := fun c o h => b c o (a c o h)
theorem Same.free {H H' : Hp} (e : Same H H') {l : Addr} (h : H' l = Option.none) : H l = Option.none := by
  cases q : H l with
  | none => rfl
  | some o =>
    rw [e l o q] at h
    cases h
theorem Same.seq {K : PySem.W.Frag} {H H' : Hp} {a : Addr} {xs : List V} (e : Same H H') (h : SqL K H a xs) : SqL K H' a xs := by
  rcases h with (h | ⟨o, h⟩) | h
  · exact .inl (.inl (e _ _ h))
  · exact .inl (.inr ⟨o, e _ _ h⟩)
  · exact .inr h

section
variable {X : Cx}
end
/-! ### a dict's pairs: keys that differ -/
section
variable {κ : Type} [DecidableEq κ]
end
end L2

set_option Elab.async false
set_option linter.all false
set_option maxRecDepth 100000
set_option maxHeartbeats 4000000
/-! Rules of our own over the hand layer, part 1: the head with the script's bits, big products, list comprehensions. -/
namespace Att
open PySem PySem.W PySem.Calls PyProof.Rows
theorem bits_item {ns : List Int} {z : Int} (h : (WData.list (ns.map WData.int)).layable = true) (hz : z ∈ ns) : Builtin.Int.intBits z ≤ 2 ^ 20 := by
  have h1 := layableW_item h (WData.int z) (List.mem_map.mpr ⟨z, hz, rfl⟩)
  obtain ⟨_, _, h3⟩ := layableW_iff.mp h1
  simpa only [WData.weight, Builtin.Int.intBits] using h3
theorem attach_callB {l : OpenLaw} {n : Nat} {q : Program} {loose : List Str} {XP : (Str → Option Value) → Heap → Prop} {YP : World → Heap → Prop} {d : DefRec}
    (hn : l.most = some n) (hdf : d.params.defaults = [])
    (call : ∀ (w : World) (s₀ s₁ : Shared) (mg mb : Str → Option Value) (fa : Addr) (o : Obj) (pm cd doc : Value) (a : Addr) (vs : List Value) (ns : List Int),
      Ground q loose [] XP w s₀ mg mb s₁.heap → YP w s₁.heap →
      s₁.heap.get? fa = some o → o.data = .func (docDef d.name d.params d.body d.scope pm cd doc) → s₁.heap.CodeRec cd d.name → mg d.name = some (.ref fa) →
      s₁.heap.get? a = some { cls := .type "list", data := .seq vs.toArray } → IntsAre vs ns → ns.length ≤ n → (∀ z ∈ ns, Builtin.Int.intBits z ≤ 2 ^ 20) → s₁.gens = #[] →
      codeAny (model l.prog w) callerA (.call (.ref fa) ⟨[.ref a], []⟩) (fun r s' => r = .ok (.ret (.bool true)) ∧ OldK s₁.heap s'.heap ∧ s'.os = s₁.os ∧ AllBare s'.gens) s₁) :
    WalkO q loose XP YP l.row.toRowW d [] (fun f vs => PySem.call f vs) := by
  intro w s₀ s₁ mg mb G Y fa o pm cd doc dV kV ho hd hcd hD hmg hg args vals as hpre hlay hrd hwl hlo
  obtain rfl : dV = .none := Dflts.none hD hdf
  obtain rfl : kV = .none := Dflts.noKw hD
  obtain ⟨a, vs, ns, rfl, rfl, hobj, hints, hlen⟩ := script_of hn hpre hwl
  have hbits : ∀ z ∈ ns, Builtin.Int.intBits z ≤ 2 ^ 20 := fun z hz => bits_item (layableW_arg hlay _ List.mem_cons_self) hz
  refine enter_call (codeAny_mono (call w s₀ s₁ mg mb fa o pm cd doc a vs ns G Y ho (fd_plain hd) hcd hmg hobj hints hlen hbits hg) fun r s' hq => ?_)
  obtain ⟨rfl, h2, h3, h4⟩ := hq
  exact ⟨.inl ⟨.bool true, .bool true, [], rfl, fun _ => rfl, .bool true, post_true l _, fun _ => ⟨List.Pairwise.nil, fun _ hm => (nomatch hm)⟩⟩, h2, h3, h4⟩
end Att

namespace L2
open PySem PySem.Spec PyProof.Rows
/-- the goal that k_head leaves, from the law's promise; the script's ints are of at most 2^20 bits -/
theorem walk_ofB {l : PySem.W.OpenLaw} {n k : Nat} {q : Program} {loose : List Str} {XP : (Str → Option Value) → Heap → Prop} {YP : World → Heap → Prop} {d : DefRec} {K : Params → PySem.W.Frag} {CX : CXT} {sp : PySem.W.Frag → Sp} {x : Str}
    (hn : l.most = some n) (hn2 : n ≤ sizeLine) (hdf : d.params.defaults = []) (hr : Room k callerA)
    (hY : ∀ (w : World) (h : Heap), YP w h → (K w.params).In h)
    (F : ∀ (w : World) (mg : Str → Option Value) (fa : Addr) (h : Heap), (K w.params).In h → h.Ns mainGlobals mg → mg d.name = some (.ref fa) →
      ∃ fd : FuncData, (∀ (s : Shared) (u : Value), BindsTo s fd ⟨[u], []⟩ [(x, u)]) ∧
        ∀ base : Heap, (K w.params).In base → base.Ns mainGlobals mg → FnOk l.prog w (K w.params) mg base CX k fa fd [x] (sp (K w.params)))
    (hsp : ∀ (K : PySem.W.Frag) (H : Hp) (a : Addr) (ns : List Int), ns.length ≤ n → (∀ z ∈ ns, Builtin.Int.intBits z ≤ 2 ^ 20) → Only H → SqL K H a (ns.map V.int) → sp K [.ref a] H (fun v _ => v = .bl true) fun _ _ _ => False)
    (hCX : ∀ (H : Hp) (s : Shared) (e : Value) (s' : Shared), CX [] H s (fun _ _ _ => False) e s' → False) :
    PySem.W.WalkO q loose XP YP l.row.toRowW d [] (fun f vs => PySem.call f vs) := by
  refine Att.attach_callB hn hdf fun w s₀ s₁ mg mb fa o pm cd doc a vs ns G Y ho hd hcd hmg hobj hints hlen hbits hg => ?_
  have KX := hY w _ Y
  obtain ⟨fd, hb, hF⟩ := F w mg fa _ KX G.T.g hmg
  exact law_call KX G.T.g G.T.b G.T.builtins G.T.nolimit hg hobj hints (Nat.le_trans hlen hn2) hr hF hb (fun H hO hS => hsp (K w.params) H a ns hlen hbits hO hS) fun H e s' => hCX H s₁ e s'

/-! ### bits -/
theorem bits_lt {i : Int} {n : Nat} (h : i.natAbs < 2 ^ n) : Builtin.Int.intBits i ≤ n := by
  unfold Builtin.Int.intBits
  split
  · exact Nat.zero_le _
  · rename_i h0
    have hp : i.natAbs ≠ 0 := by
      intro z
      apply h0
      rw [Int.natAbs_eq_zero.mp z]
      rfl
    have := (Nat.log2_lt hp).mpr h
    omega
theorem mulOk_of {a b : Int} {n m : Nat} (ha : a.natAbs < 2 ^ n) (hb : b.natAbs < 2 ^ m) (h : n + m ≤ 2 ^ 22) : IntMulOk a b := by
  have h1 := bits_lt ha
  have h2 := bits_lt hb
  have e : (2 : Nat) ^ 22 = 4194304 := by decide
  have hz : Builtin.Int.intTooBig (Builtin.Int.intBits a + Builtin.Int.intBits b) = false := by
    unfold Builtin.Int.intTooBig bitsLine
    exact decide_eq_false (by omega)
  unfold IntMulOk
  rw [hz]
  simp
section
variable {X : Cx}
/-- a * b of ints of any size that fits -/
theorem op_mulB : OpR X (binaryOp .Mult) (rI IntMulOk fun i j => .int (i * j)) := opI fun i j t u s Q E h q => mul_int q h
end

/-! ### list comprehensions -/
theorem forIn_run {α β : Type} {l : List α} {f : α → β → Sem (ForInStep β)} {g : β → α → β} : ∀ (c : β), (∀ x ∈ l, ∀ c, f x c = pure (.yield (g c x))) → forIn l c f = pure (l.foldl g c) := by
  induction l with
  | nil => intro c _; rfl
  | cons x l ih =>
    intro c h
    rw [List.forIn_cons, h x List.mem_cons_self, pure_bind]
    exact ih _ fun y hy => h y (List.mem_cons_of_mem _ hy)
def closStep (cells : List (Str × Addr)) (cs : List (Str × Addr)) (x : Str × NameKind) : List (Str × Addr) := if (x.2 == NameKind.free) = true then (x.1, (cells.lookup x.1).getD 0) :: cs else cs
def closL (cells : List (Str × Addr)) (names : List (Str × NameKind)) : List (Str × Addr) := names.foldl (closStep cells) []
theorem closureFor_run {scope : Scope} {env : Env} (h : ∀ y ∈ scope.names, y.2 = .free → ∃ c, env.cells.lookup y.1 = some c) : closureFor scope env = pure (closL env.cells scope.names) := by
  simp only [closureFor]
  rw [forIn_run (g := closStep env.cells) [] (fun x hx c => by
    obtain ⟨n, k⟩ := x
    by_cases hk : k = .free
    · subst hk
      obtain ⟨a, ha⟩ := h _ hx rfl
      have ha' : env.cells.lookup n = some a := ha
      simp only [closStep, beq_self_eq_true, if_true, cellOf, ha', Option.getD_some, pure_bind]
    · have hb : (k == NameKind.free) = false := by simpa using hk
      simp only [closStep, hb, Bool.false_eq_true, if_false])]
  rfl
theorem closL_sub {cells : List (Str × Addr)} : ∀ {names : List (Str × NameKind)} {cs : List (Str × Addr)}, (∀ y ∈ names, y.2 = .free → ∃ c, cells.lookup y.1 = some c) → (∀ x c, cs.lookup x = some c → cells.lookup x = some c) →
    ∀ x c, (names.foldl (closStep cells) cs).lookup x = some c → cells.lookup x = some c
  | [], cs, _, h, x, c, e => h x c e
  | (n, k) :: r, cs, hn, h, x, c, e => by
    refine closL_sub (names := r) (fun y hy => hn y (List.mem_cons_of_mem _ hy)) (fun x c e => ?_) x c e
    by_cases hk : k = .free
    · subst hk
      obtain ⟨a, ha⟩ := hn (n, .free) List.mem_cons_self rfl
      have ha' : cells.lookup n = some a := ha
      simp only [closStep, beq_self_eq_true, if_true, ha', Option.getD_some, List.lookup_cons] at e
      cases q : x == n with
      | true =>
        rw [q] at e
        have q' : x = n := by simpa using q
        rw [q', ha']
        exact e
      | false =>
        rw [q] at e
        exact h x c e
    · have hb : (k == NameKind.free) = false := by simpa using hk
      simp only [closStep, hb, Bool.false_eq_true, if_false] at e
      exact h x c e
theorem closL_has {cells : List (Str × Addr)} {x : Str} : ∀ {names : List (Str × NameKind)} {cs : List (Str × Addr)}, ((x, NameKind.free) ∈ names ∨ ∃ c, cs.lookup x = some c) → ∃ c, (names.foldl (closStep cells) cs).lookup x = some c
  | [], cs, h => by
    rcases h with h | h
    · cases h
    · exact h
  | (n, k) :: r, cs, h => by
    refine closL_has (names := r) (cs := closStep cells cs (n, k)) ?_
    rcases h with h | ⟨c, h⟩
    · rcases List.mem_cons.mp h with e | e
      · cases e
        right
        simp [closStep]
      · exact .inl e
    · right
      by_cases hk : k = .free
      · subst hk
        simp only [closStep, beq_self_eq_true, if_true, List.lookup_cons]
        cases x == n with
        | true => exact ⟨_, rfl⟩
        | false => exact ⟨c, h⟩
      · have hb : (k == NameKind.free) = false := by simpa using hk
        simp only [closStep, hb, Bool.false_eq_true, if_false]
        exact ⟨c, h⟩

/-- what a block's scope must be, seen from the scope around it -/
def compOk (sc osc : Scope) (fr : List Str) : Bool :=
  sc.kind == .function && (sc.names.all fun y => y.2 != .cell) && (sc.names.all fun y => y.2 != .local || sc.names.lookup y.1 == some .local) &&
  (sc.names.all fun y => y.2 != .free || (osc.names.lookup y.1 == some .cell || osc.names.lookup y.1 == some .free)) && (fr.all fun x => sc.names.lookup x == some .free)
structure CompOk (sc osc : Scope) (fr : List Str) : Prop where
  kind : sc.kind = .function
  cell : ∀ y ∈ sc.names, y.2 ≠ .cell
  loc : ∀ y ∈ sc.names, y.2 = .local → sc.names.lookup y.1 = some .local
  free : ∀ y ∈ sc.names, y.2 = .free → osc.names.lookup y.1 = some .cell ∨ osc.names.lookup y.1 = some .free
  fr : ∀ x ∈ fr, sc.names.lookup x = some .free
theorem compOk_of {sc osc : Scope} {fr : List Str} (h : compOk sc osc fr = true) : CompOk sc osc fr := by
  unfold compOk at h
  rw [Bool.and_eq_true, Bool.and_eq_true, Bool.and_eq_true, Bool.and_eq_true] at h
  obtain ⟨⟨⟨⟨h1, h2⟩, h3⟩, h4⟩, h5⟩ := h
  refine ⟨by simpa using h1, fun y hy => ?_, fun y hy e => ?_, fun y hy e => ?_, fun x hx => ?_⟩
  · simpa using List.all_eq_true.mp h2 y hy
  · have := List.all_eq_true.mp h3 y hy
    rw [e] at this
    simpa using this
  · have := List.all_eq_true.mp h4 y hy
    rw [e] at this
    simpa using this
  · simpa using List.all_eq_true.mp h5 x hx
theorem mem_of_lookup {x : Str} {k : NameKind} : ∀ {l : List (Str × NameKind)}, l.lookup x = some k → (x, k) ∈ l
  | [], h => by cases h
  | (n, j) :: r, h => by
    rw [List.lookup_cons] at h
    cases q : x == n with
    | true =>
      rw [q] at h
      have q' : x = n := by simpa using q
      cases h
      rw [q']
      exact List.mem_cons_self
    | false =>
      rw [q] at h
      exact List.mem_cons_of_mem _ (mem_of_lookup h)
/-- the names of the block, as the block sees them -/
theorem lookup_relabel_free {env : Env} : ∀ {names : List (Str × NameKind)} {x : Str}, names.lookup x = some .free →
    (names.map fun (n, k) => if (k == NameKind.free && env.scope.kind == .function && env.kindOf n == some .cell) then (n, NameKind.cell) else (n, k)).lookup x = some .cell ∨
    (names.map fun (n, k) => if (k == NameKind.free && env.scope.kind == .function && env.kindOf n == some .cell) then (n, NameKind.cell) else (n, k)).lookup x = some .free
  | [], _, h => by cases h
  | (n, k) :: r, x, h => by
    have ih := @lookup_relabel_free env r x
    show List.lookup x ((if (k == NameKind.free && env.scope.kind == .function && env.kindOf n == some .cell) = true then (n, NameKind.cell) else (n, k)) :: _) = _ ∨ List.lookup x ((if (k == NameKind.free && env.scope.kind == .function && env.kindOf n == some .cell) = true then (n, NameKind.cell) else (n, k)) :: _) = _
    rw [List.lookup_cons] at h
    by_cases hc : (k == NameKind.free && env.scope.kind == .function && env.kindOf n == some .cell) = true
    · rw [if_pos hc]
      simp only [List.lookup_cons]
      cases hx : x == n with
      | true => exact .inl rfl
      | false => rw [hx] at h; exact ih h
    · rw [if_neg hc]
      simp only [List.lookup_cons]
      cases hx : x == n with
      | true => rw [hx] at h; exact .inr h
      | false => rw [hx] at h; exact ih h

/-- the context of a comprehension's block -/
def cxComp (X : Cx) (N' : List Str) (scope : Scope) (C : Addr) (s₃ : Shared) (H₃ : Hp) (fp : List Addr) : Cx where
  prog := X.prog
  w := X.w
  K := X.K
  mg := X.mg
  base := X.base
  A := X.A
  N := N'
  s₀ := s₃
  H₀ := H₃
  env := compEnvC scope (closL X.env.cells scope.names) C X.env
  outer := X.stack
  stack := X.stack
  ex := fp
  fn := fun _ => false
  calm := X.calm
  pn := []
  xe := fun _ _ => False
/-- the block's names at its entry: own ones, then the free ones by their slots around -/
def stComp (own : Nat) (fr : List Nat) (σ : St) : St := List.replicate own none ++ fr.map fun j => (σ[j]?).getD none

section
variable {X : Cx} {pins : List (Addr × Obj)} {σ : St} {H : Hp} {s : Shared}
theorem inv_comp {N' : List Str} {own : Nat} {fr : List Nat} {scope : Scope} {fp : List Addr} {h₁ : Heap} {m : Str → Option Value} {t : Nat} {oD : Obj} (I : Inv X pins σ H s) (hf : ∀ b ∈ fp, FpOk X pins H b) (hob : ∀ b ∈ fp, ∃ o, s.heap.get? b = some o)
    (hok : CompOk scope X.env.scope (N'.drop own)) (hfr : fr.map (fun j => X.N[j]?) = (N'.drop own).map some) (hown : own ≤ N'.length)
    (hn : h₁.Ns s.heap.objs.size m) (hsb : Heap.SameBut s.heap.objs.size (s.heap.push oD) h₁) :
    Inv (cxComp X N' scope s.heap.objs.size s H fp) [] (stComp own fr σ) H { s with heap := h₁, toks := t } := by
  have cellsSub : ∀ x c, (closL X.env.cells scope.names).lookup x = some c → X.env.cells.lookup x = some c := fun x c e =>
    closL_sub (fun y hy hk => I.ok.has y.1 (hok.free y hy hk)) (fun x c e => by cases e) x c e
  have up : ∀ b o, s.heap.get? b = some o → h₁.get? b = some o := fun b o e => (hsb.2 b (Nat.ne_of_lt (Heap.lt_size e))).trans (Heap.get?_push_of_some _ e)
  have hlen : fr.length = (N'.drop own).length := by
    have := congrArg List.length hfr
    simpa using this
  have okX : (cxComp X N' scope s.heap.objs.size s H fp).Ok :=
    { mod := I.ok.mod
      kind := hok.kind
      glob := I.ok.glob
      blt := I.ok.blt
      above := Nat.le_refl _
      inj := fun x y c e1 e2 => I.ok.inj x y c (cellsSub x c e1) (cellsSub y c e2)
      has := fun x hk => by
        have hk' : (relabel scope X.env).names.lookup x = some .cell ∨ (relabel scope X.env).names.lookup x = some .free := hk
        have key : (x, NameKind.free) ∈ scope.names := by
          have all : ∀ (l : List (Str × NameKind)), (∀ y ∈ l, y.2 ≠ .cell) → ((l.map fun (n, k) => if (k == NameKind.free && X.env.scope.kind == .function && X.env.kindOf n == some .cell) then (n, NameKind.cell) else (n, k)).lookup x = some .cell ∨
              (l.map fun (n, k) => if (k == NameKind.free && X.env.scope.kind == .function && X.env.kindOf n == some .cell) then (n, NameKind.cell) else (n, k)).lookup x = some .free) → (x, NameKind.free) ∈ l := by
            intro l
            induction l with
            | nil => intro _ h; rcases h with h | h <;> cases h
            | cons p r ih =>
              obtain ⟨n, k⟩ := p
              intro hc h
              have hr : ∀ y ∈ r, y.2 ≠ .cell := fun y hy => hc y (List.mem_cons_of_mem _ hy)
              have hkc : k ≠ .cell := hc (n, k) List.mem_cons_self
              rw [List.map_cons] at h
              by_cases hx : (x == n) = true
              · have hx' : x = n := by simpa using hx
                subst hx'
                by_cases hk : k = .free
                · subst hk
                  exact List.mem_cons_self
                · exfalso
                  have hb : (k == NameKind.free) = false := by simpa using hk
                  simp [hb, List.lookup_cons] at h
                  rcases h with h | h
                  · exact hkc h
                  · exact hk h
              · have hx0 : (x == n) = false := by simpa using hx
                refine List.mem_cons_of_mem _ (ih hr ?_)
                by_cases hc : (k == NameKind.free && X.env.scope.kind == .function && X.env.kindOf n == some .cell) = true
                · simp only [hc, if_true, List.lookup_cons, hx0] at h
                  exact h
                · have hc' : (k == NameKind.free && X.env.scope.kind == .function && X.env.kindOf n == some .cell) = false := by simpa using hc
                  simp only [hc', Bool.false_eq_true, if_false, List.lookup_cons, hx0] at h
                  exact h
          exact all scope.names hok.cell hk'
        exact closL_has (.inl key)
      cab := fun x c e => by cases e
      hd := I.ok.hd
      frames := I.ok.frames
      stk := .inl rfl
      exf := fun b hb => ⟨fun e => by
          obtain ⟨o, ho⟩ := hob b hb
          exact absurd (Heap.lt_size ho) (by rw [e]; exact Nat.lt_irrefl _), fun x c e => (hf b hb).2.2.2.2.1 x c (cellsSub x c e)⟩
      bs := I.bs
      bsz := Nat.le_trans I.ok.bsz I.sz
      noex := fun b o e hb => by
        rcases (hf b hb).2.2.2.1 with z | z
        · exact I.ok.noex b o e z
        · exact absurd (Heap.lt_size (I.ok.bs b o e).1) (Nat.not_lt.mpr z)
      exfs := fun b hb z => by
        rcases List.mem_cons.mp (I.stkSub b z) with e | e
        · exact (hf b hb).2.1 e
        · exact (hf b hb).2.2.1 e
      funs := I.stack
      frf := I.stkFree }
  refine ⟨okX, rfl, I.bare, Un.kept up, ⟨m, hn, fun i x v e1 e2 e3 => ?_⟩, fun x c e => ?_, I.hok.fresh (Nat.le_refl _), fun x c e => I.freeC x c (cellsSub x c e), fun p hp => (by cases hp), I.hok.kept up, ?_⟩
  · have e2' : (List.replicate own none ++ fr.map fun j => (σ[j]?).getD none)[i]? = some (some v) := e2
    by_cases hi : i < own
    · rw [List.getElem?_append_left (by simpa using hi), List.getElem?_replicate] at e2'
      rw [if_pos hi] at e2'
      cases e2'
    · rw [List.getElem?_append_right (by simpa using Nat.le_of_not_lt hi), List.length_replicate, List.getElem?_map] at e2'
      cases hj : fr[i - own]? with
      | none => rw [hj] at e2'; cases e2'
      | some j =>
        rw [hj] at e2'
        have e4 : (σ[j]?).getD none = some v := by simpa using e2'
        have e5 : σ[j]? = some (some v) := by
          cases q : σ[j]? with
          | none => rw [q] at e4; cases e4
          | some z => rw [q] at e4; simpa using e4
        have e6 : N'[own + (i - own)]? = some x := by
          rw [show own + (i - own) = i by omega]
          exact e1
        have e7 : (N'.drop own)[i - own]? = some x := by rw [List.getElem?_drop]; exact e6
        have e8 : X.N[j]? = some x := by
          have q := congrArg (fun l => l[i - own]?) hfr
          simp only [List.getElem?_map, hj, e7, Option.map_some] at q
          simpa using q
        have hx := hok.fr x (List.mem_of_getElem? e7)
        have hmem := mem_of_lookup hx
        have hout := hok.free _ hmem rfl
        obtain ⟨mX, _, hl⟩ := I.loc
        obtain ⟨u, r, l⟩ := hl j x v e8 e5 (.inr hout)
        refine ⟨u, r, ?_⟩
        rcases l with ⟨k, _⟩ | ⟨_, c, ec, z⟩
        · have k' : X.env.scope.names.lookup x = some .local := k
          rcases hout with q | q <;> (have q' : X.env.scope.names.lookup x = _ := q; rw [k'] at q'; cases q')
        · obtain ⟨c', ec'⟩ := closL_has (cells := X.env.cells) (cs := []) (.inl hmem)
          have q := cellsSub x c' ec'
          rw [ec] at q
          cases q
          obtain ⟨o, ho, hd⟩ := z
          exact .inr ⟨lookup_relabel_free hx, c, ec', o, up c o ho, hd⟩
  · obtain ⟨v, o, ho, hd⟩ := I.cell x c (cellsSub x c e)
    exact ⟨v, o, up c o ho, hd⟩
  · show (List.replicate own none ++ fr.map fun j => (σ[j]?).getD none).length = N'.length
    rw [List.length_append, List.length_replicate, List.length_map, hlen, List.length_drop]
    omega
end

section
variable {prog : Program} {w : World} {A : Around} {s : Shared}
/-- the turns of a block, with whatever target -/
theorem codeAny_compLoop_gen {elt target iter : Expr} {scope : Scope} {pos : Pos} {it acc : Value} {env : Env} {R : Result → Shared → Prop} (I : Nat → Shared → Prop)
    (turn : ∀ n s, I n s → wpAny (model prog w) A (pyNext it) (fun r s₁ => match r with
      | none => R (.ok .next) s₁
      | some v => wpAny (model prog w) A (letOwnedTupleGo target it v) (fun _ s₁' => wpAny (model prog w) A (assign target env v) (fun _ s₂ => wpAny (model prog w) A (eval elt env) (fun x s₃ =>
          wpAny (model prog w) A (call (.builtin "list.append") [acc, x]) (fun _ s₄ => ∃ m, m < n ∧ I m s₄) (notedBy (model prog w) A env fun e s' => R (.error e) s') s₃)
          (notedBy (model prog w) A env fun e s' => R (.error e) s') s₂) (notedBy (model prog w) A env fun e s' => R (.error e) s') s₁') (notedBy (model prog w) A env fun e s' => R (.error e) s') s₁) (notedBy (model prog w) A env fun e s' => R (.error e) s') s)
    (n : Nat) (h : I n s) : codeAny (model prog w) A (.compLoop (.ListComp elt [⟨target, iter, [], 0⟩] scope pos) 0 it acc env) R s := by
  refine codeAny_loop rfl I (fun n s hI => ?_) n h
  show wpAny _ _ ((compTurn (.ListComp elt [⟨target, iter, [], 0⟩] scope pos) 0 it acc env).onRaise (fun x => do noteFrame x env; theTreesLotGoes x)) _ _ s
  refine wpAny_noted ?_
  rw [compTurn_list1]
  refine wpAny_bind (wpAny_standAt (wpAny_bind (wpAny_mono (turn n s hI) (fun r s₁ h₁ => ?_) fun _ _ h' => h')))
  cases r with
  | none => exact wpAny_pure h₁
  | some v =>
    refine wpAny_bind (wpAny_mono h₁ (fun _ s₁' h₁' => ?_) fun _ _ h' => h')
    exact wpAny_bind (wpAny_mono h₁' (fun _ s₂ h₂ => wpAny_bind (wpAny_bind (wpAny_mono h₂ (fun x s₃ h₃ => wpAny_bind (wpAny_mono h₃
      (fun _ s₄ h₄ => wpAny_pure (wpAny_pure ⟨rfl, h₄⟩)) fun _ _ h' => h')) fun _ _ h' => h'))) fun _ _ h' => h')
end

/-- the reading of a comprehension: D is the new list; W the invariant by turn and measure -/
abbrev CT (α : Type) := Addr → Shared → Hp → List Addr → α
def tCompK (own : Nat) (fr : List Nat) (wi : TI) (g : CT TG) (te : CT TE) (σ : St) (H : Hp) (Q : Addr → Hp → Prop) : Prop := wi σ H fun J H1 => ∀ D, H1 D = none →
  ∃ W : Nat → Nat → St → Hp → Prop, (∃ m, W 0 m (stComp own fr σ) (upd H1 D (.lst []))) ∧ ∀ i m σ' H', W i m σ' H' →
    (J.stop i H' ∧ Q D H') ∨ (J.go i H' ∧ ∀ x H2, J.yld i H' x H2 → ∀ C₀ s₀ H₀ fp, g C₀ s₀ H₀ fp x σ' H2 fun σ3 H3 => ∃ N : VK, te C₀ s₀ H₀ fp σ3 H3 N ∧ ∀ y H4, N y H4 →
      ∃ ys m', H4 D = some (.lst ys) ∧ ys.length < sizeLine ∧ m' < m ∧ W (i + 1) m' σ3 (upd H4 D (.lst (ys ++ [y]))))
def tComp (own : Nat) (fr : List Nat) (wi : TI) (g : CT TG) (te : CT TE) : TE := fun σ H Q => tCompK own fr wi g te σ H fun D H' => Q (.ref D) H'
/-- what is known of the block's own frame when the block is done -/
def Spare (X : Cx) (pins : List (Addr × Obj)) (H : Hp) (C : Addr) : Prop :=
  H C = none ∧ C ≠ X.env.locals ∧ X.s₀.heap.objs.size ≤ C ∧ (∀ x c, X.env.cells.lookup x = some c → c ≠ C) ∧ ∀ p ∈ X.pn ++ pins, p.1 ≠ C

section
variable {X : Cx} {own : Nat} {fr : List Nat} {N' : List Str} {tg iter elt : Expr} {scope : Scope} {pos : Pos} {wi : TI} {g : CT TG} {te : CT TE}
theorem comp_run {pins : List (Addr × Obj)} {s : Shared} {σ : St} {H : Hp} {Q : Addr → Hp → Prop} {use : Option (Value → Sem Unit)} {Q' : Value → Shared → Prop} {pos' : Pos} (hc : X.calm = true) (hi : PI X tg iter wi) (hg : ∀ C s₃ H₃ fp, PG (cxComp X N' scope C s₃ H₃ fp) tg (g C s₃ H₃ fp)) (he : ∀ C s₃ H₃ fp, PE (cxComp X N' scope C s₃ H₃ fp) elt (te C s₃ H₃ fp))
    (hok : CompOk scope X.env.scope (N'.drop own)) (hfr : fr.map (fun j => X.N[j]?) = (N'.drop own).map some) (hown : own ≤ N'.length) (hs : ∀ x, foldedSetIterable iter X.env x = pure x)
    (I : Inv X pins σ H s) (h : tCompK own fr wi g te σ H Q)
    (fin : ∀ D C m H' s', Inv X pins σ H' s' → s'.heap.Ns C m → Spare X pins H' C → Q D H' → compPost (model X.prog X.w) X.A X.xe use Q' (.ref D) C (.ok .next) s') :
    wpAny (model X.prog X.w) X.A (comprehension (.ListComp elt [⟨tg, iter, [], 0⟩] scope pos) scope X.env pos' (newList []) false (eval iter X.env) use) Q' X.xe s := by
  refine wpAny_comprehension_free rfl hs (closureFor_run fun y hy hk => I.ok.has y.1 (hok.free y hy hk)) hok.kind hok.loc (thn (hi pins s σ H _ I h) fun xv s1 h1 => thn h1 fun itv s2 h2 => ?_)
  obtain ⟨it, fp, tn, J, H2, e, I2, T, st2, f2, body⟩ := h2
  subst e
  refine wpAny_newList (items := []) ?_
  have hD : H2 s2.heap.objs.size = none := I2.hok.fresh (Nat.le_refl _)
  have I3 : Inv X pins σ (upd H2 s2.heap.objs.size (.lst [])) { s2 with heap := s2.heap.push { cls := .type "list", data := .seq ([] : List Value).toArray } } := I2.lnew (its := []) (t' := s2.toks) .nil (by decide)
  obtain ⟨W, ⟨m0, w0⟩, turn⟩ := body _ hD
  generalize hDD : s2.heap.objs.size = D at hD I3 w0 turn ⊢
  have up3 : ∀ b o, s2.heap.get? b = some o → (s2.heap.push { cls := .type "list", data := .seq ([] : List Value).toArray }).get? b = some o := fun b o e => Heap.get?_push_of_some _ e
  have st3 : tn 0 (s2.heap.push { cls := .type "list", data := .seq ([] : List Value).toArray }) := T.keep _ _ _ st2 fun b _ o e => up3 b o e
  have fpne : ∀ b ∈ fp, b ≠ D := fun b hb e => by
    obtain ⟨o, ho, _⟩ := T.obj _ _ st2 b hb
    rw [e, ← hDD] at ho
    exact absurd (Heap.lt_size ho) (Nat.lt_irrefl _)
  have f3 : ∀ b ∈ fp, FpOk X pins (upd H2 D (.lst [])) b := fun b hb => ⟨by rw [upd_ne (fpne b hb)]; exact (f2 b hb).1, (f2 b hb).2⟩
  generalize hs3 : ({ s2 with heap := s2.heap.push { cls := .type "list", data := .seq ([] : List Value).toArray } } : Shared) = s3 at I3 ⊢
  have st3' : tn 0 s3.heap := by rw [← hs3]; exact st3
  generalize upd H2 D (.lst []) = H3 at I3 f3 w0
  have hob : ∀ b ∈ fp, ∃ o, s3.heap.get? b = some o := fun b hb => let ⟨o, ho, _⟩ := T.obj _ _ st3' b hb; ⟨o, ho⟩
  refine wpAny_newFunctionEnv hok.cell (by intro y hy; simp at hy) (fun h₁ hns₁ hsb₁ => ?_) hok.kind
  have up4 : ∀ b o, s3.heap.get? b = some o → h₁.get? b = some o := fun b o e => (hsb₁.2 b (Nat.ne_of_lt (Heap.lt_size e))).trans (Heap.get?_push_of_some _ e)
  have I4 := inv_comp (N' := N') (own := own) (fr := fr) (scope := scope) (t := s3.toks + ([] : List (Str × Value)).length) I3 f3 hob hok hfr hown hns₁ hsb₁
  have st4 : tn 0 h₁ := T.keep _ _ _ st3' fun b _ o e => up4 b o e
  have stat : ∀ {H' : Hp} , (∀ b ∈ fp, H' b = none) → ∀ b ∈ fp, FpOk (cxComp X N' scope s3.heap.objs.size s3 H3 fp) [] H' b := fun hn b hb => by
    refine ⟨hn b hb, (I4.ok.exf b hb).1, I4.ok.exfs b hb, .inl hb, (I4.ok.exf b hb).2, fun p hp => by cases hp⟩
  have loop : codeAny (model X.prog X.w) X.A (.compLoop (.ListComp elt [⟨tg, iter, [], 0⟩] scope pos) 0 (.ref it) (.ref D) (cxComp X N' scope s3.heap.objs.size s3 H3 fp).env)
      (compPost (model X.prog X.w) X.A X.xe use Q' (.ref D) s3.heap.objs.size) { s3 with heap := h₁, toks := s3.toks + ([] : List (Str × Value)).length } := by
    refine codeAny_compLoop_gen (fun n s' => ∃ i σ' H', Inv (cxComp X N' scope s3.heap.objs.size s3 H3 fp) [] σ' H' s' ∧ tn i s'.heap ∧ (∀ b ∈ fp, H' b = none) ∧ W i n σ' H') ?_ m0 ⟨0, _, H3, I4, st4, fun b hb => (f3 b hb).1, w0⟩
    rintro n s5 ⟨i, σ5, H5, I5, st5, fr5, w5⟩
    rcases turn i n σ5 H5 w5 with ⟨stop, q⟩ | ⟨go, step⟩
    · refine thn (T.done (cxComp X N' scope s3.heap.objs.size s3 H3 fp) rfl rfl rfl hc i [] s5 σ5 H5 _ I5 (stat fr5) st5 stop) fun r s6 ⟨hr, I6⟩ => ?_
      subst hr
      obtain ⟨m6, hn6, _⟩ := I6.loc
      have I7 : Inv X pins σ H5 s6 := I3.call' (ch := fp) (by have := I6.os; exact this) I6.base I6.hok I6.bare fun b hb => ⟨(f3 b hb).2.2.2.1, (f3 b hb).2.1, (f3 b hb).2.2.2.2.1, (f3 b hb).2.2.2.2.2⟩
      refine fin D s3.heap.objs.size m6 H5 s6 I7 hn6 ⟨I6.free, Nat.ne_of_gt I3.lt, I3.sz, fun x c e z => ?_, fun p hp z => ?_⟩ q
      · obtain ⟨v, z1⟩ := I3.cell x c e
        exact absurd z1.lt (by rw [z]; exact Nat.lt_irrefl _)
      · exact absurd (Heap.lt_size (I3.pin p hp).1) (by rw [z]; exact Nat.lt_irrefl _)
    · refine thn (T.item (cxComp X N' scope s3.heap.objs.size s3 H3 fp) rfl rfl rfl hc i [] s5 σ5 H5 _ I5 (stat fr5) st5 go) fun r s6 ⟨u, hr, h6⟩ => ?_
      subst hr
      refine thn h6 fun _ s7 ⟨x, H7, I7, r7, y7, st7, fr7⟩ => ?_
      have I7' := I7.pinned (stat fr7) (T.obj _ _ st7)
      refine wpAny_mono (hg _ _ _ _ _ s7 σ5 H7 x u _ I7' r7 (step x H7 y7 _ _ _ _)) (fun _ s8 ⟨σ8, H8, I8, N, q8, hN⟩ => ?_) fun _ _ z => z.elim
      refine wpAny_mono (he _ _ _ _ _ s8 σ8 H8 N I8 q8) (fun yv s9 ⟨y, H9, I9, r9, n9⟩ => ?_) fun _ _ z => z.elim
      obtain ⟨ys, m', hD9, hlt, hm, w9⟩ := hN y H9 n9
      refine wpAny_mono (mt_append (X := cxComp X N' scope s3.heap.objs.size s3 H3 fp) _ s9 σ8 H9 (.ref D) [y] (.ref D) [yv] (fun _ H' => H' = upd H9 D (.lst (ys ++ [y]))) I9 rfl (.cons r9 .nil) ⟨D, ys, y, rfl, rfl, hD9, hlt, rfl⟩) (fun _ s10 ⟨_, H10, I10, _, q10⟩ => ?_) fun _ _ z => z.elim
      subst q10
      have pin := fun b hb o e => I10.pin (b, o) (List.mem_append_right _ (List.mem_append_right _ (mem_pinsAt (h := s7.heap) (fp := fp) hb e)))
      refine ⟨m', hm, i + 1, σ8, _, I10.unpinned, T.keep _ _ _ st7 fun b hb o e => (pin b hb o e).1, fun b hb => ?_, w9⟩
      obtain ⟨o, e, d⟩ := T.obj _ _ st7 b hb
      exact (pin b hb o e).2.1
  exact codeAny_compStart_list loop (T.self X.A 0 _ _ _ st4 loop)
/-- [elt for tg in iter] -/
theorem pe_comp (own : Nat) (fr : List Nat) (N' : List Str) (hc : X.calm = true) (hi : PI X tg iter wi) (hg : ∀ C s₃ H₃ fp, PG (cxComp X N' scope C s₃ H₃ fp) tg (g C s₃ H₃ fp)) (he : ∀ C s₃ H₃ fp, PE (cxComp X N' scope C s₃ H₃ fp) elt (te C s₃ H₃ fp))
    (hok : compOk scope X.env.scope (N'.drop own) = true := by rfl) (hfr : fr.map (fun j => X.N[j]?) = (N'.drop own).map some := by rfl) (hown : own ≤ N'.length := by decide) (hs : ∀ x, foldedSetIterable iter X.env x = pure x := by intro _; rfl) :
    PE X (.ListComp elt [⟨tg, iter, [], 0⟩] scope pos) (tComp own fr wi g te) := by
  intro pins s σ H Q I h
  rw [eval_ListComp]
  refine comp_run (use := none) hc hi hg he (compOk_of hok) hfr hown hs I h fun D C m H' s' I' hn sp q => ?_
  refine ⟨m, hn, fun h' sb => ⟨.ref D, H', ?_, rfl, q⟩⟩
  exact I'.turned (t' := s'.toks) (fun b o hb e => (sb.2 b hb).trans e) sp.1 sp.2.1 (.inr sp.2.2.1) sp.2.2.2.1 sp.2.2.2.2
/-- y = [elt for tg in iter], the store amid -/
theorem ps_setComp {i : Nat} {y : Str} {py spos : Pos} (own : Nat) (fr : List Nat) (N' : List Str) (hN : X.N.Nodup) (hy : X.N[i]? = some y) (hl : X.env.scope.names.lookup y = some .local) (hc : X.calm = true) (hi : PI X tg iter wi) (hg : ∀ C s₃ H₃ fp, PG (cxComp X N' scope C s₃ H₃ fp) tg (g C s₃ H₃ fp)) (he : ∀ C s₃ H₃ fp, PE (cxComp X N' scope C s₃ H₃ fp) elt (te C s₃ H₃ fp))
    (hsw : swapsWith (.ListComp elt [⟨tg, iter, [], 0⟩] scope pos) (some (.Name y py)) spos.line X.env = pure true := by rfl)
    (hok : compOk scope X.env.scope (N'.drop own) = true := by rfl) (hfr : fr.map (fun j => X.N[j]?) = (N'.drop own).map some := by rfl) (hown : own ≤ N'.length := by decide) (hs : ∀ x, foldedSetIterable iter X.env x = pure x := by intro _; rfl) :
    PS X (.Assign [.Name y py] (.ListComp elt [⟨tg, iter, [], 0⟩] scope pos) spos) (tAsg (tComp own fr wi g te) (gName i)) := by
  intro pins s σ H D I h
  rw [exec_Assign_Name_used _ _ _ _ hsw]
  refine wpAny_bind (wpAny_standAt (wpAny_bind ?_))
  show wpAny _ X.A (do let _ ← comprehension (.ListComp elt [⟨tg, iter, [], 0⟩] scope pos) scope X.env _ (newList []) false (eval iter X.env) (some (assign (.Name y py) X.env))) _ _ s
  refine wpAny_bind (wpAny_mono (comp_run (use := some (assign (.Name y py) X.env)) (Q' := fun _ s' => SP X pins D .next s') hc hi hg he (compOk_of hok) hfr hown hs I h fun Dl C m H' s' I' hn sp q => ?_) (fun _ s' hq => wpAny_pure (wpAny_pure hq)) fun _ _ e => e)
  show wpAny _ X.A (assign (.Name y py) X.env (.ref Dl)) _ _ _
  refine wpAny_assign_Name (store_ok2 (v := .ref Dl) I' hN hy (.inl hl) rfl (fun s2 I2 ⟨a, sb, ha⟩ => ?_) (.inr hl))
  have hCa : C ≠ a := by
    rcases ha with e | e
    · rw [e]; exact sp.2.1
    · exact fun z => sp.2.2.2.1 y a e z.symm
  refine ⟨m, hn.sameBut sb hCa, fun h' sb' => ⟨_, H', ?_, q⟩⟩
  exact I2.turned (t' := s2.toks) (fun b o hb e => (sb'.2 b hb).trans e) sp.1 sp.2.1 (.inr sp.2.2.1) sp.2.2.2.1 sp.2.2.2.2
/-- [elt for x in iter], x one name -/
theorem pe_comp1 {x : Str} {px : Pos} (fr : List Nat) (N' : List Str) (hc : X.calm = true) (hi : PI X (.Name x px) iter wi) (he : ∀ C s₃ H₃ fp, PE (cxComp X N' scope C s₃ H₃ fp) elt (te C s₃ H₃ fp)) (hN : N'.Nodup := by decide +kernel) (h0 : N'[0]? = some x := by rfl) (hx : scope.names.lookup x = some .local := by rfl)
    (hok : compOk scope X.env.scope (N'.drop 1) = true := by rfl) (hfr : fr.map (fun j => X.N[j]?) = (N'.drop 1).map some := by rfl) (hown : 1 ≤ N'.length := by decide) (hs : ∀ x, foldedSetIterable iter X.env x = pure x := by intro _; rfl) :
    PE X (.ListComp elt [⟨.Name x px, iter, [], 0⟩] scope pos) (tComp 1 fr wi (fun _ _ _ _ => gName 0) te) :=
  pe_comp 1 fr N' hc hi (fun _ _ _ _ => pg_name hN h0 (.inl (lookup_relabel_local hx)) (.inr (lookup_relabel_local hx))) he hok hfr hown hs
theorem ps_setComp1 {i : Nat} {x y : Str} {px py spos : Pos} (fr : List Nat) (N' : List Str) (hNd : X.N.Nodup) (hy : X.N[i]? = some y) (hl : X.env.scope.names.lookup y = some .local) (hc : X.calm = true) (hi : PI X (.Name x px) iter wi) (he : ∀ C s₃ H₃ fp, PE (cxComp X N' scope C s₃ H₃ fp) elt (te C s₃ H₃ fp))
    (hsw : swapsWith (.ListComp elt [⟨.Name x px, iter, [], 0⟩] scope pos) (some (.Name y py)) spos.line X.env = pure true := by rfl) (hN : N'.Nodup := by decide +kernel) (h0 : N'[0]? = some x := by rfl) (hx : scope.names.lookup x = some .local := by rfl)
    (hok : compOk scope X.env.scope (N'.drop 1) = true := by rfl) (hfr : fr.map (fun j => X.N[j]?) = (N'.drop 1).map some := by rfl) (hown : 1 ≤ N'.length := by decide) (hs : ∀ x, foldedSetIterable iter X.env x = pure x := by intro _; rfl) :
    PS X (.Assign [.Name y py] (.ListComp elt [⟨.Name x px, iter, [], 0⟩] scope pos) spos) (tAsg (tComp 1 fr wi (fun _ _ _ _ => gName 0) te) (gName i)) :=
  ps_setComp 1 fr N' hNd hy hl hc hi (fun _ _ _ _ => pg_name hN h0 (.inl (lookup_relabel_local hx)) (.inr (lookup_relabel_local hx))) he hsw hok hfr hown hs
end
end L2

set_option Elab.async false
set_option linter.all false
set_option maxRecDepth 100000
set_option maxHeartbeats 4000000
/-! Rules of our own, part 2: ranges as values, list(range(..)), tuple(range(..)), range downwards, isinstance of built-in types, powers. -/
namespace PySem
open Sem (wp)
section
variable {prog : Program} {w : World} {A : Around} {E : Value → Shared → Prop} {s : Shared}
open AutoSeq1 (wpAny_loadPart')
end
end PySem

namespace L2
open PySem PySem.Spec PyProof.Rows
section
variable {X : Cx}
theorem sizeLine_big : 1000000 ≤ sizeLine := by decide

/-! ### range(a, b, -1) walked -/

/-! ### isinstance(x, T), T a built-in type's name -/
theorem call_isinst : CallR X (.builtin "isinstance") (fun xs H Q => ∃ x t c b, xs = [x, .ty c] ∧ TyOf X.K H x t ∧ PySem.W.kitOne X.K t (.type c) = some b ∧ Q (.bl b) H) := by
  intro pins s σ H xs us Q I r h
  obtain ⟨x, t, c, b, rfl, ty, e, q⟩ := h
  obtain ⟨u, w', rfl, rx, rc⟩ := vals2 r
  cases (show w' = Value.type c from rc)
  exact isinst_ok I rx ty e fun tk => ⟨.bl b, H, I.tok tk, rfl, q⟩

/-! ### a comprehension over one name whose turns leave all that stood as it was -/
theorem comp_name {J : It} {fr : List Nat} {te : CT TE} {σ : St} {H1 : Hp} {Q : Addr → Hp → Prop} {n : Nat} (ys : List V) (hn : ys.length = n) (hz : n ≤ sizeLine)
    (hstop : ∀ H, Same H1 H → J.stop n H) (hgo : ∀ i H, i < n → Same H1 H → J.go i H)
    (turn : ∀ i H x H2, i < n → Same H1 H → J.yld i H x H2 → H2 = H ∧ ∀ C₀ s₀ H₀ fp, te C₀ s₀ H₀ fp (some x :: fr.map fun j => (σ[j]?).getD none) H fun y H4 => Same H H4 ∧ ys[i]? = some y)
    (fin : ∀ D H, H1 D = none → Same H1 H → H D = some (.lst ys) → Q D H) :
    ∀ D, H1 D = none → ∃ W : Nat → Nat → St → Hp → Prop, (∃ m, W 0 m (stComp 1 fr σ) (upd H1 D (.lst []))) ∧ ∀ i m σ' H', W i m σ' H' →
    (J.stop i H' ∧ Q D H') ∨ (J.go i H' ∧ ∀ x H2, J.yld i H' x H2 → ∀ C₀ s₀ H₀ fp, gName 0 x σ' H2 fun σ3 H3 => ∃ N : VK, te C₀ s₀ H₀ fp σ3 H3 N ∧ ∀ y H4, N y H4 →
      ∃ ys m', H4 D = some (.lst ys) ∧ ys.length < sizeLine ∧ m' < m ∧ W (i + 1) m' σ3 (upd H4 D (.lst (ys ++ [y])))) := by
  intro D hD
  have s0 : ∀ o, Same H1 (upd H1 D o) := fun o b u e => by rw [upd_ne (ne_of_none e hD)]; exact e
  refine ⟨fun i m σ' H' => m = n - i ∧ i ≤ n ∧ Same H1 H' ∧ H' D = some (.lst (ys.take i)) ∧ ∃ z, σ' = z :: fr.map fun j => (σ[j]?).getD none, ⟨n, rfl, Nat.zero_le _, s0 _, by rw [upd_same]; rfl, none, rfl⟩, ?_⟩
  rintro i m σ' H' ⟨rfl, hi, sm, hl, z, rfl⟩
  by_cases hlt : i < n
  · refine .inr ⟨hgo i H' hlt sm, fun x H2 y C₀ s₀ H₀ fp => ?_⟩
    obtain ⟨e, q⟩ := turn i H' x H2 hlt sm y
    subst e
    refine ⟨_, q C₀ s₀ H₀ fp, fun y H4 ⟨s4, e4⟩ => ⟨ys.take i, n - (i + 1), s4 _ _ hl, ?_, by omega, rfl, hlt, ?_, ?_, _, rfl⟩⟩
    · rw [List.length_take]; omega
    · intro b u e
      rw [upd_ne (ne_of_none e hD)]
      exact s4 _ _ (sm _ _ e)
    · rw [upd_same, List.take_add_one, e4]
      rfl
  · have e : i = n := by omega
    subst e
    refine .inl ⟨hstop H' sm, fin D H' hD sm ?_⟩
    rw [hl, List.take_of_length_le (by omega)]
theorem Same.seqT {K : PySem.W.Frag} {H H' : Hp} {a : Addr} {xs : List V} (e : Same H H') (h : SqT K H a xs) : SqT K H' a xs := by
  rcases h with (h | ⟨o, h⟩) | h
  · exact .inl (.inl (e _ _ h))
  · exact .inl (.inr ⟨o, e _ _ h⟩)
  · exact .inr h
/-- [te for x in a tuple] -/
theorem comp_tup {K : PySem.W.Frag} {a : Addr} {xs : List V} {fr : List Nat} {te : CT TE} {σ : St} {H1 : Hp} {Q : Addr → Hp → Prop} (hS : SqT K H1 a xs) (ys : List V) (hn : ys.length = xs.length) (hz : xs.length ≤ sizeLine)
    (turn : ∀ (i : Nat) H x, xs[i]? = some x → Same H1 H → ∀ C₀ s₀ H₀ fp, te C₀ s₀ H₀ fp (some x :: fr.map fun j => (σ[j]?).getD none) H fun y H4 => Same H H4 ∧ ys[i]? = some y)
    (fin : ∀ D H, H1 D = none → Same H1 H → H D = some (.lst ys) → Q D H) :
    ∀ D, H1 D = none → ∃ W : Nat → Nat → St → Hp → Prop, (∃ m, W 0 m (stComp 1 fr σ) (upd H1 D (.lst []))) ∧ ∀ i m σ' H', W i m σ' H' →
    ((Itt K a).stop i H' ∧ Q D H') ∨ ((Itt K a).go i H' ∧ ∀ x H2, (Itt K a).yld i H' x H2 → ∀ C₀ s₀ H₀ fp, gName 0 x σ' H2 fun σ3 H3 => ∃ N : VK, te C₀ s₀ H₀ fp σ3 H3 N ∧ ∀ y H4, N y H4 →
      ∃ ys m', H4 D = some (.lst ys) ∧ ys.length < sizeLine ∧ m' < m ∧ W (i + 1) m' σ3 (upd H4 D (.lst (ys ++ [y])))) :=
  comp_name ys hn hz (fun H s => ⟨xs, s.seqT hS, Nat.le_refl _⟩) (fun i H hi s => ⟨xs, xs[i], s.seqT hS, by simp [hi]⟩) (fun i H x H2 hi s y => ⟨y.1, turn i H x (y.2 xs (s.seqT hS)) s⟩) fin
/-- [te for x in a list] -/
theorem comp_list {K : PySem.W.Frag} {a : Addr} {xs : List V} {fr : List Nat} {te : CT TE} {σ : St} {H1 : Hp} {Q : Addr → Hp → Prop} (hS : SqL K H1 a xs) (ys : List V) (hn : ys.length = xs.length) (hz : xs.length ≤ sizeLine)
    (turn : ∀ (i : Nat) H x, xs[i]? = some x → Same H1 H → ∀ C₀ s₀ H₀ fp, te C₀ s₀ H₀ fp (some x :: fr.map fun j => (σ[j]?).getD none) H fun y H4 => Same H H4 ∧ ys[i]? = some y)
    (fin : ∀ D H, H1 D = none → Same H1 H → H D = some (.lst ys) → Q D H) :
    ∀ D, H1 D = none → ∃ W : Nat → Nat → St → Hp → Prop, (∃ m, W 0 m (stComp 1 fr σ) (upd H1 D (.lst []))) ∧ ∀ i m σ' H', W i m σ' H' →
    ((Itl K a).stop i H' ∧ Q D H') ∨ ((Itl K a).go i H' ∧ ∀ x H2, (Itl K a).yld i H' x H2 → ∀ C₀ s₀ H₀ fp, gName 0 x σ' H2 fun σ3 H3 => ∃ N : VK, te C₀ s₀ H₀ fp σ3 H3 N ∧ ∀ y H4, N y H4 →
      ∃ ys m', H4 D = some (.lst ys) ∧ ys.length < sizeLine ∧ m' < m ∧ W (i + 1) m' σ3 (upd H4 D (.lst (ys ++ [y])))) :=
  comp_name ys hn hz (fun H s => ⟨xs, s.seq hS, Nat.le_refl _⟩) (fun i H hi s => ⟨xs, xs[i], s.seq hS, by simp [hi]⟩) (fun i H x H2 hi s y => ⟨y.1, turn i H x (y.2 xs (s.seq hS)) s⟩) fin
end
end L2

set_option Elab.async false
set_option linter.all false
set_option maxRecDepth 100000
set_option maxHeartbeats 4000000
/-! Rules of our own, part 3: for i, x in enumerate(a list or a tuple). -/
namespace PySem
open Sem (wp)
open AutoSeq1 (wpAny_loadPart')
section
variable {prog : Program} {w : World} {A : Around} {E : Value → Shared → Prop} {s : Shared}
theorem wpAny_nextOf_tuple_item {it t : Addr} {i : Nat} {items} {x : Value} {Q : Value → Shared → Prop} (hit : s.heap.IsTupleIter it t i) (ht : s.heap.IsTuple t items) (hx : items[i]? = some x)
    (hQ : ∀ h', h'.IsTupleIter it t (i + 1) → Heap.SameBut it s.heap h' → Q x { s with heap := h' }) : wpAny (model prog w) A (Builtin.SmallTypes.nextOf (.ref it)) Q E s := by
  obtain ⟨o, ho, hc, hd⟩ := id hit
  obtain ⟨ol, hol, _, nl, hdl⟩ := ht
  unfold Builtin.SmallTypes.nextOf
  refine wpAny_bind (wpAny_callSpecial?_slot (name := Str.ofString "__next__") hit.typeIs F.slot_tuple_iterator_next
    (wpAny_call_entry F.slot_tuple_iterator_next hit.typeIs F.entry_tuple_iterator_next ?_ (F.args_tuple_iterator_next_1 _)))
  show wpAny _ _ (field (.ref it) 0 >>= _) _ _ s
  refine wpAny_bind (wpAny_field ho hd (x := .ref t) rfl ?_)
  show wpAny _ _ (if (Value.ref t == Value.none) = true then _ else _) _ _ s
  rw [if_neg (show ¬ ((Value.ref t == Value.none) = true) from Bool.false_ne_true)]
  show wpAny _ _ (field (.ref it) 1 >>= _) _ _ s
  refine wpAny_bind (wpAny_field ho hd (x := .int i 0) rfl ?_)
  show wpAny _ _ (seqItems? (.ref t) >>= _) _ _ s
  refine wpAny_bind (wpAny_seqItems hol hdl ?_)
  simp only [Int.toNat_natCast, hx]
  refine wpAny_bind (wpAny_setField ho hd (by simp) (wpAny_pure ⟨x, rfl, wpAny_pure (hQ _ ?_ (Heap.SameBut.update ..))⟩))
  exact ⟨_, Heap.get?_update_self _ ho (Obj.isFreed_of_fields (Obj.data_mapFields hd _)), (Obj.cls_mapFields ..).trans hc, by
    rw [Obj.data_mapFields hd]; simp [rawInt]⟩
theorem wpAny_nextOf_tuple_end {it t : Addr} {i : Nat} {items} {Q : Value → Shared → Prop} (hh : A.handled = none)
    (hit : s.heap.IsTupleIter it t i) (ht : s.heap.IsTuple t items) (hx : items[i]? = none)
    (hE : ∀ h' e, Heap.ExtBut it s.heap h' → (∃ o, h'.get? e = some o ∧ o.cls = .type "StopIteration") → E (.ref e) { s with heap := h' }) :
    wpAny (model prog w) A (Builtin.SmallTypes.nextOf (.ref it)) Q E s := by
  obtain ⟨o, ho, hc, hd⟩ := id hit
  obtain ⟨ol, hol, _, nl, hdl⟩ := ht
  unfold Builtin.SmallTypes.nextOf
  refine wpAny_bind (wpAny_callSpecial?_slot (name := Str.ofString "__next__") hit.typeIs F.slot_tuple_iterator_next
    (wpAny_call_entry F.slot_tuple_iterator_next hit.typeIs F.entry_tuple_iterator_next ?_ (F.args_tuple_iterator_next_1 _)))
  show wpAny _ _ (field (.ref it) 0 >>= _) _ _ s
  refine wpAny_bind (wpAny_field ho hd (x := .ref t) rfl ?_)
  show wpAny _ _ (if (Value.ref t == Value.none) = true then _ else _) _ _ s
  rw [if_neg (show ¬ ((Value.ref t == Value.none) = true) from Bool.false_ne_true)]
  show wpAny _ _ (field (.ref it) 1 >>= _) _ _ s
  refine wpAny_bind (wpAny_field ho hd (x := .int i 0) rfl ?_)
  show wpAny _ _ (seqItems? (.ref t) >>= _) _ _ s
  refine wpAny_bind (wpAny_seqItems hol hdl ?_)
  simp only [Int.toNat_natCast, hx]
  refine wpAny_bind (wpAny_rule (wpAny_bind (wpAny_setField ho hd (by simp) ?_)))
  show wpAny _ _ (newExc (.type "StopIteration") [] >>= _) _ _ _
  refine wpAny_bind ?_
  simp only [newExc, newTuple]
  refine wpAny_bind (wpAny_newObj_type ?_ (by size_fits))
  refine wpAny_bind (m := firstArgMember _ _) (wpAny_of_eq (a := Value.none) (by first | rfl | (simp only [firstArgMember]; rfl)) ?_)
  refine wpAny_newObj_type ?_ (by size_fits)
  simp only [raiseNew]
  refine wpAny_bind (wpAny_handled ?_)
  first | rw [show A.in1.handled = none from hh] | rw [hh]
  refine wpAny_bind (wpAny_pure (wpAny_throw ?_))
  exact hE _ _ (((Heap.SameBut.update ..).extBut.push _).push _) ⟨_, Heap.get?_push_size _ rfl, rfl⟩
end
theorem Draws.tuple {prog : Program} {w : World} {A : Around} (hh : A.handled = none) (it l : Addr) (hne : l ≠ it) (items : Array Value) :
    Draws prog w A it [it, l] items.size (fun i v => items[i]? = some v) (fun i h => h.IsTupleIter it l i ∧ h.IsTuple l items) where
  live := fun _ _ st => let ⟨o, ho, _⟩ := st.1; ⟨o, ho⟩
  frame := fun _ _ _ st hk => ⟨st.1.at fun o e => hk it (by simp) o e, let ⟨o, ho, r⟩ := st.2; ⟨o, hk l (by simp) o ho, r⟩⟩
  item := fun i s Q E hi st hQ => by
    refine wpAny_nextOf_tuple_item st.1 st.2 (x := items[i]) (by simp [hi]) fun h' hit' hs' => ?_
    exact hQ _ h' s.toks (by simp [hi]) ⟨hit', st.2.extBut hs'.extBut hne⟩ hs'
  done := fun s Q E st hE => wpAny_nextOf_tuple_end hh st.1 st.2 (by simp) hE
section
variable {prog : Program} {w : World} {A : Around} {E : Value → Shared → Prop} {s : Shared}
end
end PySem

namespace L2
open PySem PySem.Spec PyProof.Rows
section
variable {X : Cx}
/-- two records of the iterator have turned, a new tuple is laid and tracked -/
theorem Inv.pair {pins : List (Addr × Obj)} {σ : St} {H : Hp} {s : Shared} {h' : Heap} {t' : Nat} {e it : Addr} {xs : List V} {its : List Value} (I : Inv X pins σ H s) (fe : FpOk X pins H e) (fi : FpOk X pins H it)
    (k : ∀ b o, b ≠ e → b ≠ it → s.heap.get? b = some o → h'.get? b = some o) (hT : IsTup h' s.heap.objs.size its.toArray) (hv : Vals xs its) (hz : xs.length ≤ sizeLine) :
    Inv X pins σ (upd H s.heap.objs.size (.tup xs)) { s with heap := h', toks := t' } := by
  have fT : FpOk X pins H s.heap.objs.size := I.fpOk (Nat.le_refl _) (I.hok.fresh (Nat.le_refl _))
  have nT : ∀ b o, H b = some o → b ≠ s.heap.objs.size := fun b o q z => by rw [z, fT.1] at q; cases q
  have ne : ∀ b o, H b = some o → b ≠ e := fun b o q z => by rw [z, fe.1] at q; cases q
  have ni : ∀ b o, H b = some o → b ≠ it := fun b o q z => by rw [z, fi.1] at q; cases q
  have ok : ∀ b ∈ [e, it, s.heap.objs.size], FpOk X pins H b := fun b hb => by
    simp only [List.mem_cons, List.mem_nil_iff, or_false] at hb
    rcases hb with rfl | rfl | rfl
    · exact fe
    · exact fi
    · exact fT
  have out : ∀ b, b ∉ [e, it, s.heap.objs.size] → b ≠ e ∧ b ≠ it ∧ b ≠ s.heap.objs.size := fun b hb => by
    simp only [List.mem_cons, List.mem_nil_iff, or_false, not_or] at hb
    exact hb
  refine I.step (g' := s.gens) (d' := s.drawn) (ch := [e, it, s.heap.objs.size]) (fun b hb => ⟨(ok b hb).2.2.2.1, (ok b hb).2.1, (ok b hb).2.2.2.2.1, (ok b hb).2.2.2.2.2⟩)
    (fun b o _ _ hc q _ => k b o (out b hc).1 (out b hc).2.1 q) (fun b o _ _ hc q _ => ⟨o.slots, k b o (out b hc).1 (out b hc).2.1 q⟩) (fun b o hc q n => by rw [upd_ne (out b hc).2.2]; exact n)
    (fun b o hc q => ⟨o, k b o (out b hc).1 (out b hc).2.1 q⟩) (fun b ys q => by rw [upd_ne (nT b _ q)]; exact q) (fun b o u q => by rw [upd_ne (nT b _ q)]; exact q) (fun b ps q => ⟨#[], by rw [upd_ne (nT b _ q), q]; simp⟩)
    (fun m hm => ?_) (fun b u q => ?_) I.bare
  · obtain ⟨o, es, ep, ho, r⟩ := hm
    exact ⟨o, es, ep, k _ o (Ne.symm fe.2.1) (Ne.symm fi.2.1) ho, r⟩
  · by_cases hb : b = s.heap.objs.size
    · subst hb
      rw [upd_same] at q
      cases q
      exact ⟨hz, its, hv, hT⟩
    · rw [upd_ne hb] at q
      refine (I.hok b u q).stay (fun c v hc z => k c v ?_ ?_ z) (fun c z => by rw [upd_ne (nT c _ z)]; exact z) fun c ys z => by rw [upd_ne (nT c _ z)]; exact z
      · rcases hc with z | z
        · rw [z]; exact ne b u q
        · exact ne c _ z
      · rcases hc with z | z
        · rw [z]; exact ni b u q
        · exact ni c _ z
/-- (i, the i-th item) of the tuple or list at a -/
def Ite (Sq : Hp → List V → Prop) : It :=
  ⟨fun i H => ∃ xs x, Sq H xs ∧ xs[i]? = some x, fun i H x H' => ∃ T v, H T = none ∧ x = .ref T ∧ H' = upd H T (.tup [.int (i : Nat), v]) ∧ ∀ xs, Sq H xs → xs[i]? = some v, fun i H => ∃ xs, Sq H xs ∧ xs.length ≤ i⟩
theorem turn_enumL {P : Program} {w : World} {K : PySem.W.Frag} {elts : List Expr} {x1 : Nat} {tp : Pos} (a e it : Addr) (hei : e ≠ it) : Turn P w K (.Tuple elts x1 tp) (Ite fun H xs => SqL K H a xs) [e, it] e (fun i h => (∃ old, IsEnum h e it i old) ∧ h.IsListIter it a i) where
  mem := by simp
  obj := fun i h st b hb => by
    obtain ⟨⟨old, he⟩, o, ho, c, d⟩ := st
    rcases List.mem_cons.mp hb with z | z
    · subst z
      exact ⟨_, he, fun v q => by have q' : Data.fields _ = Data.cell v := q; cases q'⟩
    · have z' : b = it := by simpa using z
      subst z'
      exact ⟨o, ho, fun v q => by rw [d] at q; cases q⟩
  keep := fun i h h' st k => ⟨let ⟨old, he⟩ := st.1; ⟨old, k e (by simp) _ he⟩, st.2.at fun o q => k it (by simp) o q⟩
  item := by
    intro X hP hw hK hc i pins s σ H E I hf st hg
    subst hP hw hK
    obtain ⟨xs, x, hq, hx⟩ := hg
    obtain ⟨its, rv, p, hz⟩ := I.list hq
    obtain ⟨u, hu, ru⟩ := rv.get hx
    obtain ⟨⟨old, he⟩, hit⟩ := st
    have fe := hf e (by simp)
    have fi := hf it (by simp)
    have hlt : i < its.toArray.size := by
      have := (List.getElem?_eq_some_iff.mp hu).1
      simpa using this
    obtain ⟨oa, hoa, hca, na, hda⟩ := id p.isList
    have hai : a ≠ it := fun z => by
      obtain ⟨o, ho, c, d⟩ := id hit
      rw [z, ho] at hoa
      cases hoa
      rw [c] at hca
      exact absurd hca (by decide)
    have hae : e ∉ [it, a] := by
      intro z
      simp only [List.mem_cons, List.mem_nil_iff, or_false] at z
      rcases z with z | z
      · exact hei z
      · rw [← z, he] at hoa
        cases hoa
        exact absurd (show Value.type "enumerate" = Value.type "list" from hca) (by decide)
    refine wpAny_pyNext_enum_itemD (Draws.list (A := X.A.in1) (I.ok.hd hc) it a hai its.toArray) he ⟨hit, p.isList⟩ hlt hei hae fun y h' tk hP ho hst hT hsz kk => ?_
    obtain rfl : y = u := by
      have : its.toArray[i]? = some u := by simpa using hu
      rw [this] at hP
      exact (Option.some.inj hP).symm
    have I1 : Inv X pins σ (upd H s.heap.objs.size (.tup [.int (i : Nat), x])) { s with heap := h', toks := tk + 1 } := I.pair (its := [.int i tk, y]) fe fi kk ⟨_, hT, rfl, _, rfl⟩ (.cons ⟨tk, rfl⟩ (.cons ru .nil)) (by show 2 ≤ sizeLine; decide)
    have neT : ∀ b ∈ [e, it], b ≠ s.heap.objs.size := fun b hb z => by
      rcases List.mem_cons.mp hb with q | q
      · rw [← q, z] at he
        exact absurd (Heap.lt_size he) (Nat.lt_irrefl _)
      · have q' : b = it := by simpa using q
        obtain ⟨o, hi2, _⟩ := hit
        rw [← q', z] at hi2
        exact absurd (Heap.lt_size hi2) (Nat.lt_irrefl _)
    have fr : ∀ b ∈ [e, it], (upd H s.heap.objs.size (.tup [.int (i : Nat), x])) b = none := fun b hb => by rw [upd_ne (neT b hb)]; exact (hf b hb).1
    refine ⟨_, rfl, wpAny_letOwnedTupleGo_enum (s := { s with heap := h', toks := tk + 1 }) ho fun h'' he'' hs'' => ?_⟩
    have I2 : Inv X pins σ (upd H s.heap.objs.size (.tup [.int (i : Nat), x])) { s with heap := h'', toks := tk + 1 } := I1.turned (t' := tk + 1) (fun b o hb q => (hs''.2 b hb).trans q) (fr e (by simp)) fe.2.1 fe.2.2.2.1 fe.2.2.2.2.1 fe.2.2.2.2.2
    refine ⟨.ref s.heap.objs.size, _, I2, rfl, ⟨s.heap.objs.size, x, I.hok.fresh (Nat.le_refl _), rfl, rfl, fun ys hy => by rw [I.list_inj hy hq]; exact hx⟩, ⟨⟨y, by simpa using he''⟩, hst.1.at fun o q => (hs''.2 it (Ne.symm hei)).trans q⟩, fr⟩
  done := by
    intro X hP hw hK hc i pins s σ H E I hf st hg
    subst hP hw hK
    obtain ⟨xs, hq, hx⟩ := hg
    obtain ⟨its, rv, p, hz⟩ := I.list hq
    obtain ⟨⟨old, he⟩, hit⟩ := st
    have fi := hf it (by simp)
    have hT : s.TypeIs (.ref e) "enumerate" := ⟨_, he, rfl⟩
    unfold pyNext
    refine wpAny_bind (wpAny_attempt (wpAny_callSpecial?_slot (name := Str.ofString "__next__") hT F.slot_enumerate_next
      (wpAny_call_entry F.slot_enumerate_next hT F.entry_enumerate_next ?_ (F.args_enumerate_next_1 _))))
    show wpAny _ _ (field (.ref e) 2 >>= _) _ _ _
    refine wpAny_bind (wpAny_field he rfl (x := .ref it) rfl ?_)
    have hl := rv.length
    refine wpAny_bind (wpAny_nextOf_list_end (A := _) (I.ok.hd hc) hit p.isList (by simp; omega) fun h' x he' hx' => ?_)
    obtain ⟨o, ho, hcl⟩ := hx'
    refine wpAny_bind (wpAny_isInstance (T := "StopIteration") (b := true) ⟨o, ho, hcl⟩ isSubtype_stop ?_)
    exact wpAny_pure ⟨rfl, I.turned (t' := s.toks) (fun b o hb q => he' b o hb q) fi.1 fi.2.1 fi.2.2.2.1 fi.2.2.2.2.1 fi.2.2.2.2.2⟩
  self := fun _ _ _ _ _ st h => let ⟨_, he⟩ := st.1; wpAny_pyIter_enum he h
def iEnumL (K : PySem.W.Frag) (ta : TA) : TI := fun σ H R => ta σ H fun vs H1 => ∃ a, vs = [.ref a] ∧ (∃ xs, SqL K H1 a xs) ∧ R (Ite fun H xs => SqL K H a xs) H1
theorem pi_enumL {elts : List Expr} {x1 : Nat} {tp : Pos} {a : Expr} {ta : TA} {p pos : Pos} (hg : Gl X "enumerate") (hm : X.mg "enumerate" = none) (ha : PA X [a] ta) (hs : starEach [a] X.env = [(false, eval a X.env)] := by rfl) : PI X (.Tuple elts x1 tp) (.Call (.Name "enumerate" p) [a] [] pos) (iEnumL X.K ta) := by
  intro pins s σ H R I h
  refine Call_ (ld_blt I hg hm boot_enumerate (PyProof.Rows.callWith_type1 (thn (ha pos pins s σ H _ I h) fun us s1 ⟨vs, H1, I1, r1, q1⟩ => ?_) hs rfl))
  obtain ⟨b, e, ⟨xs, hq⟩, q⟩ := q1
  subst e
  cases r1 with
  | cons r rr =>
    cases rr
    cases r
    obtain ⟨its, rv, pl, hz⟩ := I1.list hq
    refine call_enumerate_list pl.isList fun h' he hit hsz kk => ?_
    have I2 : Inv X pins σ H1 { s1 with heap := h' } := I1.kept (t' := s1.toks) kk
    refine wpAny_pyIter_enum he ⟨s1.heap.objs.size + 1, [s1.heap.objs.size + 1, s1.heap.objs.size], _, _, H1, rfl, I2, turn_enumL b _ _ (Nat.ne_of_gt (Nat.lt_succ_self _)), ⟨⟨.none, by simpa using he⟩, hit⟩, fun c hc => ?_, q⟩
    have hle : s1.heap.objs.size ≤ c := by
      simp only [List.mem_cons, List.mem_nil_iff, or_false] at hc
      rcases hc with rfl | rfl
      · exact Nat.le_succ _
      · exact Nat.le_refl _
    exact I1.fpOk hle (I1.hok.fresh hle)
end
end L2

set_option Elab.async false
set_option linter.all false
set_option maxRecDepth 100000
set_option maxHeartbeats 4000000
/-! Rules of our own, part 4: == and != of lists of ints, == of tuples of ints. -/
namespace L2
open PySem PySem.Spec PyProof.Rows
section
variable {X : Cx}
end
end L2

set_option Elab.async false
set_option linter.all false
set_option maxRecDepth 100000
set_option maxHeartbeats 4000000
/-! Rules of our own, part 5: sorted, sorted with reverse, sum. -/
namespace L2
open PySem PySem.Spec PyProof.Rows
section
variable {X : Cx}
end
end L2

set_option Elab.async false
set_option linter.all false
set_option maxRecDepth 100000
set_option maxHeartbeats 4000000
/-! Rules of our own, part 6: + of lists that are only read. -/
namespace L2
open PySem PySem.Spec PyProof.Rows
section
variable {X : Cx}
theorem op_catR : OpR X (binaryOp .Add) (fun x y H Q => ∃ (l b : Addr) (xs zs : List V), x = .ref l ∧ y = .ref b ∧ SqL X.K H l xs ∧ SqL X.K H b zs ∧ xs.length + zs.length ≤ sizeLine ∧ ∀ p, H p = none → Q (.ref p) (upd H p (.lst (xs ++ zs)))) := by
  intro pins s σ H x y v u Q I rx ry h
  obtain ⟨l, b, xs, zs, rfl, rfl, hH, hB, hz, q⟩ := h
  cases rx
  cases ry
  obtain ⟨its, r, p1, _⟩ := I.list hH
  obtain ⟨its2, r2, p2, _⟩ := I.list hB
  obtain ⟨⟨cls, dd, data, sl⟩, n, ho, hc, _, hd⟩ := p1
  obtain ⟨⟨cls2, dd2, data2, sl2⟩, n2, ho2, hc2, _, hd2⟩ := p2
  simp only at hc hd hc2 hd2
  subst hc hd hc2 hd2
  have l1 := r.length
  have l2 := r2.length
  have e : its.toArray ++ its2.toArray = (its ++ its2).toArray := by simp
  refine concat_meets ⟨_, ho, rfl⟩ ⟨_, ho2, rfl⟩ noFill_list_add seq_list_add PySem.F.slot_list_add PySem.F.entry_list_add (PySem.F.args_list_add_2 _ _) (list_addW l b its.toArray its2.toArray n n2 dd dd2 sl sl2 (by simp only [List.size_toArray]; omega)) ⟨ho, ho2, ?_⟩
  rw [e]
  exact ⟨.ref _, _, I.lnew (t' := s.toks) (r.append r2) (by rw [List.length_append]; omega), rfl, q _ I.fresh⟩
end
end L2

set_option Elab.async false
set_option linter.all false
set_option maxRecDepth 100000
set_option maxHeartbeats 4000000
/-! Rules of our own, part 7: texts: join, f-strings of three parts. -/
namespace L2
open PySem PySem.Spec PyProof.Rows
theorem strsAre_of : ∀ {ys : List Str} {us : List Value}, Vals (ys.map V.str) us → StrsAre us ys
  | [], _, r => by cases r; exact .nil
  | y :: ys, _, r => by
    cases r with
    | cons a b =>
      obtain ⟨t, rfl⟩ := a
      exact .cons y t (strsAre_of b)
section
variable {X : Cx}
def rJoin (K : PySem.W.Frag) : V → List V → Hp → VK → Prop := fun x vs H Q => ∃ (z : Str) (p : Addr) (ys : List Str), x = .str z ∧ vs = [.ref p] ∧ SqL K H p (ys.map V.str) ∧ (ys.map (·.length)).sum + ys.length * z.length ≤ 16777216 ∧ Q (.str (Str.join z ys)) H
theorem mt_join : MtR X "str.join" (rJoin X.K) := by
  intro pins s σ H x xs v us Q I rx rv h
  obtain ⟨z, p, ys, rfl, rfl, hq, hz, q⟩ := h
  obtain ⟨t, rfl⟩ := rx
  obtain ⟨u, rfl, ru⟩ := vals1 rv
  cases ru
  obtain ⟨its, r1, p1, _⟩ := I.list hq
  refine join_list p1.isList (by simpa using strsAre_of r1) hz fun t' k => ⟨.str (Str.join z ys), H, I.tok k, ⟨t', ?_⟩, q⟩
  show Value.str (Builtin.Str.glued z ys) t' = _
  rw [StrLaws.glued_eq_join]
end
end L2

set_option Elab.async false
set_option linter.all false
set_option maxRecDepth 100000
set_option maxHeartbeats 4000000
/-! Rules of our own, part 8: == and != of data of any depth, all of a list of truths. -/
namespace L2
open PySem PySem.Spec PyProof.Rows PyProof.Rows.LSm
mutual
/-- a value that is data: what a reader would write down of it -/
inductive RdD (K : PySem.W.Frag) (H : Hp) : V → PyData → Prop
  | non : RdD K H .non .none
  | bl (b : Bool) : RdD K H (.bl b) (.bool b)
  | int (i : Int) : RdD K H (.int i) (.int i)
  | str (x : Str) : RdD K H (.str x) (.str x)
  | lst {a : Addr} {xs : List V} {ds : List PyData} : SqL K H a xs → RdDs K H xs ds → RdD K H (.ref a) (.list ds)
  | tup {a : Addr} {xs : List V} {ds : List PyData} : SqT K H a xs → RdDs K H xs ds → RdD K H (.ref a) (.tuple ds)
inductive RdDs (K : PySem.W.Frag) (H : Hp) : List V → List PyData → Prop
  | nil : RdDs K H [] []
  | cons {x : V} {d : PyData} {xs : List V} {ds : List PyData} : RdD K H x d → RdDs K H xs ds → RdDs K H (x :: xs) (d :: ds)
end
theorem RdDs.ints {K : PySem.W.Frag} {H : Hp} : ∀ (ns : List Int), RdDs K H (ns.map V.int) (ns.map PyData.int)
  | [] => .nil
  | n :: r => .cons (.int n) (RdDs.ints r)
theorem RdDs.strs {K : PySem.W.Frag} {H : Hp} : ∀ (ns : List Str), RdDs K H (ns.map V.str) (ns.map PyData.str)
  | [] => .nil
  | n :: r => .cons (.str n) (RdDs.strs r)
section
variable {X : Cx} {pins : List (Addr × Obj)} {σ : St} {H : Hp} {s : Shared}
mutual
theorem RdD.reads (I : Inv X pins σ H s) : ∀ {x : V} {d : PyData}, RdD X.K H x d → ∀ u, RelV x u → ∃ as, Reads s.heap u d as
  | _, _, .non, u, r => by cases (show u = Value.none from r); exact ⟨_, .none⟩
  | _, _, .bl b, u, r => by cases (show u = Value.bool b from r); exact ⟨_, .bool b⟩
  | _, _, .int i, u, r => by obtain ⟨t, rfl⟩ := (show ∃ t, u = Value.int i t from r); exact ⟨_, .int i t⟩
  | _, _, .str x, u, r => by obtain ⟨t, rfl⟩ := (show ∃ t, u = Value.str x t from r); exact ⟨_, .str x t⟩
  | _, _, .lst h hs, u, r => by
    cases (show u = Value.ref _ from r)
    obtain ⟨its, rv, p, _⟩ := I.list h
    obtain ⟨o, ho, hc, n, hd⟩ := p.isList
    obtain ⟨as, ha⟩ := RdDs.reads I hs its rv
    exact ⟨_, .list ho hc hd (by simpa using ha)⟩
  | _, _, .tup h hs, u, r => by
    cases (show u = Value.ref _ from r)
    obtain ⟨its, rv, p, _⟩ := I.tuple h
    obtain ⟨o, ho, hc, n, hd⟩ := p
    obtain ⟨as, ha⟩ := RdDs.reads I hs its rv
    exact ⟨_, .tuple ho hc hd (by simpa using ha)⟩
theorem RdDs.reads (I : Inv X pins σ H s) : ∀ {xs : List V} {ds : List PyData}, RdDs X.K H xs ds → ∀ us, Vals xs us → ∃ as, ReadsAll s.heap us ds as
  | _, _, .nil, us, r => by cases r; exact ⟨_, .nil⟩
  | _, _, .cons h hs, us, r => by
    cases r with
    | cons r1 r2 =>
      obtain ⟨as, ha⟩ := RdD.reads I h _ r1
      obtain ⟨bs, hb⟩ := RdDs.reads I hs _ r2
      exact ⟨_, .cons ha hb⟩
end
end
section
variable {X : Cx}
theorem op_eqD (hu : X.A.units + 64 < cLine) : OpR X (compareOp .Eq) (fun x y H Q => ∃ d e, RdD X.K H x d ∧ RdD X.K H y e ∧ PySem.SeqAt.shaped d = true ∧ PySem.SeqAt.shaped e = true ∧ Q (.bl (PyData.eqv d e)) H) := by
  intro pins s σ H x y v u Q I rx ry h
  obtain ⟨d, e, hd, he, s1, s2, q⟩ := h
  obtain ⟨as, ra⟩ := hd.reads I v rx
  obtain ⟨bs, rb⟩ := he.reads I u ry
  exact eq_dataH ra rb s1 s2 hu ⟨.bl _, H, I, rfl, q⟩
theorem boolsAre_of : ∀ {bs : List Bool} {us : List Value}, Vals (bs.map V.bl) us → BoolsAre us bs
  | [], _, r => by cases r; exact .nil
  | b :: bs, _, r => by
    cases r with
    | cons a c =>
      cases (show _ = Value.bool b from a)
      exact .cons b (boolsAre_of c)
/-- all(list of truths) -/
theorem call_allL (hc : X.calm = true) : CallR X (.builtin "all") (fun xs H Q => ∃ (p : Addr) (bs : List Bool), xs = [.ref p] ∧ SqL X.K H p (bs.map V.bl) ∧ Q (.bl (bs.all id)) H) := by
  intro pins s σ H xs us Q I r h
  obtain ⟨p, bs, rfl, hq, q⟩ := h
  obtain ⟨u, rfl, rx⟩ := vals1 r
  cases rx
  obtain ⟨its, r1, p1, hz⟩ := I.list hq
  obtain ⟨m, F⟩ := I.fr
  have hb := boolsAre_of r1
  have hl := p1.isList
  have hlt : p < s.heap.objs.size := by obtain ⟨_, e, _⟩ := hl; exact Heap.lt_size e
  refine call_all_walk (wpAny_pyIter_list hl ?_)
  refine ⟨s.heap.objs.size, [s.heap.objs.size, p], [s.heap.objs.size], its.toArray.size, _, _, fun i => (bs[i]?).getD true, rfl, Walks.list (A := X.A.in1) (I.ok.hd hc) _ p (Nat.ne_of_lt hlt) its.toArray,
    ⟨⟨_, Heap.get?_push_size _ rfl, rfl, rfl⟩, hl.push _⟩, fun i v s' Q' E' hP hQ => ?_, fun h' tk hk => ?_⟩
  · obtain ⟨b, e, rfl⟩ := hb.get i v (by simpa using hP)
    simp only [e, Option.getD_some] at hQ
    exact wpAny_truthy_bool hQ
  · have e : ((List.range its.toArray.size).all fun i => (bs[i]?).getD true) = bs.all id := by
      rw [List.size_toArray, hb.length]; exact range_all bs
    rw [e]
    exact ⟨.bl _, H, I.kept (kept_iter hk), rfl, q⟩
end
end L2

set_option Elab.async false
set_option linter.all false
set_option maxRecDepth 100000
set_option maxHeartbeats 4000000
/-! Rules of our own, part 9: texts: walked sign by sign, split, begins, ends, slices, int of a text; sets of ints. -/
namespace L2
open PySem PySem.Spec PyProof.Rows
section
variable {X : Cx}
/-- the signs of x -/
def Its (x : Str) : It := ⟨fun i _ => i < x.length, fun i H v H' => H' = H ∧ ∃ c, x.cps.toList[i]? = some c ∧ v = .str ⟨#[c]⟩, fun i _ => x.length ≤ i⟩
theorem turn_strA {P : Program} {w : World} {K : PySem.W.Frag} {tg : Expr} (it : Addr) (x : Str) (t : Tok) : Turn P w K tg (Its x) [it] it (fun i h => h.IsStrIter it "str_ascii_iterator" x t i) where
  mem := by simp
  obj := fun i h st b hb => by
    have e : b = it := by simpa using hb
    subst e
    obtain ⟨o, ho, hc, hd⟩ := st
    exact ⟨o, ho, fun v z => by rw [hd] at z; cases z⟩
  keep := fun i h h' st k => by
    obtain ⟨o, ho, r⟩ := st
    exact ⟨o, k it (by simp) o ho, r⟩
  item := by
    intro X hP hw hK hc i pins s σ H E I hf st hg
    subst hP hw hK
    obtain ⟨f0, f1, f2, f3, f4, f5⟩ := hf it (by simp)
    have W := Walks.strAscii (prog := X.prog) (w := X.w) (I.ok.hd hc) it x t
    refine W.item i s _ _ hg st fun v h' tk hv st' kk => ?_
    obtain ⟨c, u, hx, rfl⟩ := hv
    have I1 : Inv X pins σ H { s with heap := h', toks := tk } := I.turned (fun b o hb e => kk b o (by simpa using hb) e) f0 f1 f3 f4 f5
    obtain ⟨o, ho, hoc, hod⟩ := id st'
    exact ⟨_, rfl, go_of (s := { s with heap := h', toks := tk }) (n := "str_ascii_iterator") ho hoc hod (by decide) ⟨.str ⟨#[c]⟩, H, I1, ⟨u, rfl⟩, ⟨rfl, c, by simpa using hx, rfl⟩, st', fun b hb => (hf b hb).1⟩⟩
  done := by
    intro X hP hw hK hc i pins s σ H E I hf st hg
    subst hP hw hK
    obtain ⟨f0, f1, f2, f3, f4, f5⟩ := hf it (by simp)
    have hg' : x.cps.size ≤ i := hg
    exact wpAny_pyNext_ascii_end (I.ok.hd hc) st (by simp; omega) fun h' eb => ⟨rfl, I.turned (t' := s.toks) (fun b o hb e => eb b o (by simpa using hb) e) f0 f1 f3 f4 f5⟩
  self := fun _ _ _ _ _ st h => wpAny_pyIter_striter_ascii st h
def iStr (tl : TE) : TI := fun σ H R => tl σ H fun v H1 => ∃ z : Str, v = .str z ∧ z.cps.all (· < 128) = true ∧ R (Its z) H1
theorem pi_str {tg l : Expr} {tl : TE} (hl : PE X l tl) : PI X tg l (iStr tl) := by
  intro pins s σ H R I h
  refine thn (hl pins s σ H _ I h) fun v s1 ⟨x, H1, I1, r1, z, hx, ha, q⟩ => ?_
  subst hx
  obtain ⟨t, rfl⟩ := r1
  refine wpAny_pyIter_ascii ha ?_
  have I2 : Inv X pins σ H1 { s1 with heap := s1.heap.push { cls := .type "str_ascii_iterator", data := .fields #[.str z t, .int 0 0] } } := I1.kept (t' := s1.toks) fun b o e => Heap.get?_push_of_some _ e
  refine ⟨s1.heap.objs.size, [s1.heap.objs.size], _, _, H1, rfl, I2, turn_strA _ z t, ⟨_, Heap.get?_push_size _ rfl, rfl, rfl⟩, fun b hb => ?_, q⟩
  have e : b = s1.heap.objs.size := by simpa using hb
  subst e
  exact I1.fpOk (Nat.le_refl _) (I1.hok.fresh (Nat.le_refl _))
/-- [te for sign in a text] -/
theorem comp_str {x : Str} {fr : List Nat} {te : CT TE} {σ : St} {H1 : Hp} {Q : Addr → Hp → Prop} (ys : List V) (hn : ys.length = x.length) (hz : x.length ≤ sizeLine)
    (turn : ∀ (i c : Nat) H, x.cps.toList[i]? = some c → Same H1 H → ∀ C₀ s₀ H₀ fp, te C₀ s₀ H₀ fp (some (.str ⟨#[c]⟩) :: fr.map fun j => (σ[j]?).getD none) H fun y H4 => Same H H4 ∧ ys[i]? = some y)
    (fin : ∀ D H, H1 D = none → Same H1 H → H D = some (.lst ys) → Q D H) :
    ∀ D, H1 D = none → ∃ W : Nat → Nat → St → Hp → Prop, (∃ m, W 0 m (stComp 1 fr σ) (upd H1 D (.lst []))) ∧ ∀ i m σ' H', W i m σ' H' →
    ((Its x).stop i H' ∧ Q D H') ∨ ((Its x).go i H' ∧ ∀ x' H2, (Its x).yld i H' x' H2 → ∀ C₀ s₀ H₀ fp, gName 0 x' σ' H2 fun σ3 H3 => ∃ N : VK, te C₀ s₀ H₀ fp σ3 H3 N ∧ ∀ y H4, N y H4 →
      ∃ ys m', H4 D = some (.lst ys) ∧ ys.length < sizeLine ∧ m' < m ∧ W (i + 1) m' σ3 (upd H4 D (.lst (ys ++ [y])))) :=
  comp_name ys hn hz (fun H s => Nat.le_refl _) (fun i H hi s => hi) (fun i H v H2 hi s y => by obtain ⟨e, c, hc, e2⟩ := y; subst e e2; exact ⟨rfl, turn i c _ hc s⟩) fin
/-! ### methods -/
theorem vals_strs : ∀ (l : List (Str × Tok)), Vals ((l.map (·.1)).map V.str) (strValues l)
  | [] => .nil
  | p :: r => .cons ⟨p.2, rfl⟩ (vals_strs r)
def rSplit : V → List V → Hp → VK → Prop := fun x vs H Q => ∃ z y : Str, x = .str z ∧ vs = [.str y] ∧ (y.length == 0) = false ∧ z.length ≤ 1000000 ∧ ∀ p, H p = none → Q (.ref p) (upd H p (.lst ((Txt.split z y).map V.str)))
theorem mt_split : MtR X "str.split" rSplit := by
  intro pins s σ H x xs v us Q I rx rv h
  obtain ⟨z, y, rfl, rfl, hy, hz, q⟩ := h
  obtain ⟨t, rfl⟩ := rx
  obtain ⟨u, rfl, ru⟩ := vals1 rv
  obtain ⟨t2, rfl⟩ := ru
  have hz0 : (sizeLine : Nat) = 16777216 := sizeLine_eq
  have hn : (Builtin.Str.partsBetween z (Builtin.Str.occurrences z y 0 z.length (z.length + 1)) y.length).length ≤ sizeLine := by
    have e1 := StrLaws.occ_length_le z y 0 z.length (z.length + 1)
    rw [length_partsBetween]; omega
  have fin : ∀ (l : List (Str × Tok)) (k : Nat), l.map (·.1) = Txt.split z y → EP X pins σ Q (.ref s.heap.objs.size) { s with heap := s.heap.push { cls := .type "list", data := .seq (strValues l).toArray }, toks := k } := fun l k hl => by
    have hle := split_le z y
    have e1 : l.length = (Txt.split z y).length := by rw [← hl, List.length_map]
    refine ⟨.ref s.heap.objs.size, _, I.lnew (t' := k) (vals_strs l) (by rw [List.length_map, List.length_map]; omega), rfl, ?_⟩
    rw [hl]
    exact q _ (I.hok.fresh (Nat.le_refl _))
  cases h1 : (decide (z.length < y.length) || decide (Builtin.Str.strKind z < Builtin.Str.strKind y))
  · cases hf : (Builtin.Str.occurrences z y 0 z.length (z.length + 1)).isEmpty
    · refine call_meets F.slot_str_split (typeIs_str _ _ _) F.entry_str_split (F.args_str_split_2 _ _) (meets_str_split_sep z y t t2 h1 hy hf (by omega) hn) ?_
      show wants _ _ _ { s with toks := _, heap := s.heap.push { cls := .type "list", data := .seq (strsFrom s.toks (Builtin.Str.partsBetween z (Builtin.Str.occurrences z y 0 z.length (z.length + 1)) y.length)).toArray } }
      rw [strsFrom_eq]
      exact fin (numbered s.toks _) _ ((numbered_texts _ _).trans ((if_neg (ne_true_of_eq_false h1)).trans (if_neg (ne_true_of_eq_false hf))).symm)
    · exact call_meets F.slot_str_split (typeIs_str _ _ _) F.entry_str_split (F.args_str_split_2 _ _) (meets_str_split_not_found z y t t2 h1 hy hf)
        (fin [(z, t)] s.toks ((if_neg (ne_true_of_eq_false h1)).trans (if_pos hf)).symm)
  · exact call_meets F.slot_str_split (typeIs_str _ _ _) F.entry_str_split (F.args_str_split_2 _ _) (meets_str_split_cannot_occur z y t t2 h1)
      (fin [(z, t)] s.toks (if_pos h1).symm)
/-- int(text) -/
theorem call_int_tx : CallR X (.type "int") (fun xs H Q => ∃ (z : Str) (n : Int), xs = [.str z] ∧ PySem.intText? z = some n ∧ z.length ≤ 640 ∧ Q (.int n) H) := by
  intro pins s σ H xs us Q I r h
  obtain ⟨z, n, rfl, hn, hl, q⟩ := h
  obtain ⟨u, rfl, t, rfl⟩ := vals1 r
  exact PySem.W.KIN.call_text hn hl ⟨.int n, H, I.tok _, ⟨_, rfl⟩, q⟩
/-- a slice of a text -/
def rSlS : V → Option Int → Option Int → Hp → VK → Prop := fun x lo hi H Q => ∃ z : Str, x = .str z ∧ z.length ≤ 1000000 ∧ Q (.str (Txt.slice z lo hi)) H
theorem sl_str : SlR X rSlS := by
  intro pins s σ H x v vl vu lo hi sl Q I rx hs pl pu h
  obtain ⟨z, rfl, hz, q⟩ := h
  obtain ⟨t, rfl⟩ := rx
  have hz0 : (sizeLine : Nat) = 16777216 := sizeLine_eq
  have fin : ∀ t' k, EP X pins σ Q (.str (Txt.slice z lo hi) t') { s with toks := k } := fun t' k => ⟨.str _, H, I.tok k, ⟨t', rfl⟩, q⟩
  refine ⟨"str", _, F.slot_str_getitem.lookup, typeIs_str _ _ _, ?_⟩
  cases pl with
  | none =>
    cases pu with
    | none => exact wpAny_getItem_str_slice (l := none) (u := none) (st := none) hs rfl (post_val_or_str ⟨Nat.le_trans (Txt.slice_le z _ _) (by omega), fin⟩)
    | int j uj => exact wpAny_getItem_str_slice (l := none) (u := some (j, uj)) (st := none) hs rfl (post_val_or_str ⟨Nat.le_trans (Txt.slice_le z _ _) (by omega), fin⟩)
  | int i ui =>
    cases pu with
    | none => exact wpAny_getItem_str_slice (l := some (i, ui)) (u := none) (st := none) hs rfl (post_val_or_str ⟨Nat.le_trans (Txt.slice_le z _ _) (by omega), fin⟩)
    | int j uj => exact wpAny_getItem_str_slice (l := some (i, ui)) (u := some (j, uj)) (st := none) hs rfl (post_val_or_str ⟨Nat.le_trans (Txt.slice_le z _ _) (by omega), fin⟩)
end
end L2

set_option Elab.async false
set_option linter.all false
set_option maxRecDepth 100000
set_option maxHeartbeats 4000000
/-! for x in reversed(list) -/
namespace L2
open PySem PySem.Spec PyProof.Rows
section
variable {X : Cx} {tg : Expr}
end
end L2

set_option Elab.async false
set_option linter.all false
set_option maxRecDepth 100000
set_option maxHeartbeats 4000000
/-! A comprehension over enumerate(list); a dict of the module, read. -/
namespace L2
open PySem PySem.Spec PyProof.Rows
/-- [te for k, x in enumerate(list)] -/
theorem comp_enum {K : PySem.W.Frag} {a : Addr} {xs : List V} {fr : List Nat} {te : CT TE} {σ : St} {H1 : Hp} {Q : Addr → Hp → Prop} (hS : SqL K H1 a xs) (ys : List V) (hn : ys.length = xs.length) (hz : xs.length ≤ sizeLine)
    (turn : ∀ (i : Nat) H x, xs[i]? = some x → Same H1 H → ∀ C₀ s₀ H₀ fp, te C₀ s₀ H₀ fp (some (V.int (i : Nat)) :: some x :: fr.map fun j => (σ[j]?).getD none) H fun y H4 => Same H H4 ∧ ys[i]? = some y)
    (fin : ∀ D H, H1 D = none → Same H1 H → H D = some (.lst ys) → Q D H) :
    ∀ D, H1 D = none → ∃ W : Nat → Nat → St → Hp → Prop, (∃ m, W 0 m (stComp 2 fr σ) (upd H1 D (.lst []))) ∧ ∀ i m σ' H', W i m σ' H' →
    ((Ite fun H xs => SqL K H a xs).stop i H' ∧ Q D H') ∨ ((Ite fun H xs => SqL K H a xs).go i H' ∧ ∀ x H2, (Ite fun H xs => SqL K H a xs).yld i H' x H2 → ∀ C₀ s₀ H₀ fp, gTup K 2 (gCons (gName 0) (gCons (gName 1) gNil)) x σ' H2 fun σ3 H3 => ∃ N : VK, te C₀ s₀ H₀ fp σ3 H3 N ∧ ∀ y H4, N y H4 →
      ∃ ys m', H4 D = some (.lst ys) ∧ ys.length < sizeLine ∧ m' < m ∧ W (i + 1) m' σ3 (upd H4 D (.lst (ys ++ [y])))) := by
  intro D hD
  refine ⟨fun i m σ' H' => m = xs.length - i ∧ i ≤ xs.length ∧ Same H1 H' ∧ H' D = some (.lst (ys.take i)) ∧ ∃ z1 z2, σ' = z1 :: z2 :: fr.map fun j => (σ[j]?).getD none, ⟨xs.length, rfl, Nat.zero_le _, (fun b u e => by rw [upd_ne (ne_of_none e hD)]; exact e), by rw [upd_same]; rfl, none, none, rfl⟩, ?_⟩
  rintro i m σ' H' ⟨rfl, hi, sm, hl, z1, z2, rfl⟩
  by_cases hlt : i < xs.length
  · refine .inr ⟨⟨xs, xs[i], sm.seq hS, by simp [hlt]⟩, fun x H2 y C₀ s₀ H₀ fp => ?_⟩
    obtain ⟨T, v, hT, rfl, rfl, hv⟩ := y
    have hvi := hv xs (sm.seq hS)
    have sT : Same H' (upd H' T (.tup [V.int (i : Nat), v])) := fun b u e => by rw [upd_ne (ne_of_none e hT)]; exact e
    refine ⟨T, _, rfl, SqT.of upd_same, rfl, _, _, rfl, _, _, rfl, rfl, ?_⟩
    refine ⟨_, turn i _ v hvi (sm.trans sT) C₀ s₀ H₀ fp, fun y H4 ⟨s4, e4⟩ => ⟨ys.take i, xs.length - (i + 1), s4 _ _ (sT _ _ hl), by rw [List.length_take]; omega, by omega, rfl, hlt, fun b u e => ?_, ?_, _, _, rfl⟩⟩
    · rw [upd_ne (ne_of_none e hD)]
      exact s4 _ _ (sT _ _ (sm _ _ e))
    · rw [upd_same, List.take_add_one, e4]
      rfl
  · have e : i = xs.length := by omega
    subst e
    refine .inl ⟨⟨xs, sm.seq hS, Nat.le_refl _⟩, fin D H' hD sm ?_⟩
    rw [hl, List.take_of_length_le (by omega)]
/-- the dict at a stands in the module, its keys are texts -/
def KDict (K : PySem.W.Frag) (w : World) (a : Addr) : Prop := (∃ es n, K.lookup a = some ⟨.type "dict", none, .dict es n, #[]⟩ ∧ PySem.W.KeysLit w.params es.toList) ∧ (a == sysModules) = false
section
variable {X : Cx}
def tDGetK (K : PySem.W.Frag) (w : World) (td ty : TE) : TE := fun σ H Q => td σ H fun x H1 => ty σ H1 fun y H2 => ∃ a z v u, x = .ref a ∧ y = .str z ∧ KDict K w a ∧ PySem.W.nsIn K a z = some (some u) ∧ RelV v u ∧ Q v H2
theorem pe_dgetK {o i : Expr} {pos : Pos} {td ty : TE} (ho : PE X o td) (hi : PE X i ty) (hs : NoSl i) : PE X (.Subscript o i pos) (tDGetK X.K X.w td ty) := by
  intro pins s σ H Q I h
  refine subD_of PySem.F.slot_dict_getitem.lookup hs (thn (ho pins s σ H _ I h) fun u s1 ⟨x, H1, I1, rx, q1⟩ => thn (hi pins s1 σ H1 _ I1 q1) fun iv s2 ⟨y, H2, I2, ry, a, z, v, v', ex, ey, ⟨⟨es, n, hl, hk⟩, hne⟩, hn, rv, q2⟩ => ?_)
  subst ex ey
  obtain rfl : u = Value.ref a := rx
  obtain ⟨t, rfl⟩ := ry
  have hm := PySem.W.mapOf_K (prog := X.prog) (w := X.w) I2.kIn hl hk
  exact ⟨hm.typeIs, wpAny_getItem_of (strKind_is X.prog X.w z t) hm (PySem.W.find_K hl hn) ⟨v, H2, I2.tok _, rv, q2⟩⟩
theorem op_notinK : OpR X (compareOp .NotIn) (fun y x H Q => ∃ a z r, x = .ref a ∧ y = .str z ∧ KDict X.K X.w a ∧ PySem.W.nsIn X.K a z = some r ∧ Q (.bl (!r.isSome)) H) := by
  intro pins s σ H y x v u Q I ry rx h
  obtain ⟨a, z, r, rfl, rfl, ⟨⟨es, n, hl, hk⟩, hne⟩, hn, q⟩ := h
  obtain rfl : u = Value.ref a := rx
  obtain ⟨t, rfl⟩ := ry
  have hm := PySem.W.mapOf_K (prog := X.prog) (w := X.w) I.kIn hl hk
  refine wpAny_notIn_of (strKind_is X.prog X.w z t) hne hm ?_
  rw [PySem.W.find_K hl hn]
  exact ⟨.bl (!r.isSome), H, I.tok _, rfl, q⟩
end
end L2

set_option Elab.async false
set_option linter.all false
set_option maxRecDepth 100000
set_option maxHeartbeats 4000000
/-! An exception that leaves a def. -/
namespace L2
open PySem PySem.Spec PyProof.Rows
/-- how an exception of a class of the text lies behind a call -/
def CX1 (P : Program) (w : World) : CXT := fun outer H s E e s' => ∃ (ea C : Addr) (a0 : Value) (B : Heap) (H' : Hp), e = .ref ea ∧ s'.os = s.os ∧ AllBare s'.gens ∧ HOk P w H' B ∧ Heap.FlyingW B outer ea (.ref C) a0 s'.heap ∧
  (∀ b o, s.heap.get? b = some o → H b = none → b ∉ frs outer → B.get? b = some o) ∧
  (∀ b o, s.heap.get? b = some o → H b = none → b ∈ frs outer → ∃ sl, s'.heap.get? b = some { o with slots := sl }) ∧
  (∀ b o, s.heap.get? b = some o → H b = none → H' b = none) ∧
  (∀ b o, s.heap.get? b = some o → b ∈ frs outer ∨ ∃ o', B.get? b = some o') ∧
  (∀ b xs, H b = some (.tup xs) → H' b = some (.tup xs)) ∧ (∀ b o u, H b = some (.frz o u) → H' b = some (.frz o u)) ∧
  (∀ b ps, H b = some (.tbl ps) → ∃ more, H' b = some (.tbl (ps ++ more))) ∧ E (.ref C) none H'
theorem hok_hide {P : Program} {w : World} {H : Hp} {h : Heap} {fs : List Addr} (x : HOk P w H h) (hf : ∀ b ∈ fs, H b = none) : HOk P w H (PySem.W.hideAll h fs) := fun a o e =>
  (x a o e).stay (fun b u hb q => PySem.W.hideAll_get _ q fun hm => by
    have hn := hf b hm
    rcases hb with rfl | hb
    · rw [e] at hn; cases hn
    · rw [hb] at hn; cases hn) (fun _ q => q) fun _ _ q => q
section
variable {P : Program} {w : World} {K : PySem.W.Frag} {mg : Str → Option Value} {base : Heap} {N : List Str} {qual : Str} {scope : Scope} {f : Addr} {cd : Value} {A : Around} {outer : List Env} {s s1 : Shared} {H H1 : Hp} {E : XK} {pins : List (Addr × Obj)} {σ : St}
/-- raise C(..): the exception leaves the def -/
theorem leave_made {C e : Addr} {h' : Heap} {args : List Value} (I : Inv (cxOf (CX1 P w) P w K mg base N qual scope f cd A outer s H E) pins σ H1 s1) (hx : Heap.MadeExcOf s1.heap h' e (.ref C) args) (hE : E (.ref C) none H1) :
    (cxOf (CX1 P w) P w K mg base N qual scope f cd A outer s H E).xe (.ref e) { s1 with heap := h' } := by
  have hst := I.stack
  have hfree := I.stkFree
  refine wpAny_leaves_madeW (base := PySem.W.hideAll s1.heap (frs (envOfC qual scope s.heap.objs.size f cd :: outer))) (h := s1.heap) I.ok.frames rfl (fun b o q => PySem.W.of_hideAll _ q) (PySem.W.funFrames_hide hst fun env he a ha => List.mem_filterMap.mpr ⟨env, he, ha⟩) hx fun h'' t x1 x2 x3 x4 => ?_
  have notL : ∀ b o, s.heap.get? b = some o → b ∉ frs outer → b ∉ frs (envOfC qual scope s.heap.objs.size f cd :: outer) := fun b o hb hn hm => by
    obtain ⟨env, he, ha⟩ := List.mem_filterMap.mp hm
    rcases List.mem_cons.mp he with rfl | he
    · have e1 : s.heap.objs.size = b := Option.some.inj ha
      exact absurd (Heap.lt_size hb) (by rw [e1]; exact Nat.lt_irrefl _)
    · exact hn (List.mem_filterMap.mpr ⟨env, he, ha⟩)
  refine ⟨e, C, .ref t, _, H1, rfl, I.os, I.bare, hok_hide I.hok hfree, x1, fun b o hb hn hf => ?_, fun b o hb hn hf => ?_, fun b o hb hn => ?_, fun b o hb => ?_, I.base.tups, I.base.frzs, I.base.tbls, hE⟩
  · exact PySem.W.hideAll_get _ (I.base.keep b o hb hn hf (by intro z; cases z)) (notL b o hb hf)
  · obtain ⟨sl, q⟩ := I.base.slot b o hb hn hf (by intro z; cases z)
    obtain ⟨_, o2, ho2, hd⟩ := I.funs.mem hf
    have e2 : o2 = { o with slots := sl } := Option.some.inj (ho2.symm.trans q)
    subst e2
    obtain ⟨sl', q'⟩ := x4 b _ (hx.keeps _ _ q) hd
    exact ⟨sl', q'⟩
  · exact I.base.free b o hb hn (by intro z; cases z)
  · by_cases hf : b ∈ frs outer
    · exact .inl hf
    · obtain ⟨o', q⟩ := I.base.there b o hb (by intro z; cases z)
      exact .inr ⟨o', PySem.W.hideAll_get _ q (notL b o hb hf)⟩
/-- an exception of a callee goes on through this def -/
theorem leave_on {e : Value} {s2 : Shared} {E1 : XK} (I : Inv (cxOf (CX1 P w) P w K mg base N qual scope f cd A outer s H E) pins σ H1 s1) (hx : CX1 P w (cxOf (CX1 P w) P w K mg base N qual scope f cd A outer s H E).stack H1 s1 E1 e s2) (hE : ∀ C a H', E1 C a H' → E C a H') :
    (cxOf (CX1 P w) P w K mg base N qual scope f cd A outer s H E).xe e s2 := by
  obtain ⟨ea, C, a0, B, H', rfl, hos, hbare, hok, hfl, k1, k2, k3, k4, k5, k6, k7, hE1⟩ := hx
  refine wpAny_leaves_onW I.ok.frames rfl hfl fun h'' x1 x2 => ?_
  have inB : ∀ b o, s.heap.get? b = some o → H b = none → b ∉ frs outer → B.get? b = some o := fun b o hb hn hf => by
    have q := I.base.keep b o hb hn hf (by intro z; cases z)
    refine k1 b o q (I.base.free b o hb hn (by intro z; cases z)) fun hm => ?_
    obtain ⟨env, he, ha⟩ := List.mem_filterMap.mp hm
    rcases List.mem_cons.mp he with rfl | he
    · have e1 : s.heap.objs.size = b := Option.some.inj ha
      exact absurd (Heap.lt_size hb) (by rw [e1]; exact Nat.lt_irrefl _)
    · exact hf (List.mem_filterMap.mpr ⟨env, he, ha⟩)
  have sub : ∀ b, b ∈ frs outer → b ∈ frs (envOfC qual scope s.heap.objs.size f cd :: outer) := fun b hb => by
    obtain ⟨env, he, ha⟩ := List.mem_filterMap.mp hb
    exact List.mem_filterMap.mpr ⟨env, List.mem_cons_of_mem _ he, ha⟩
  refine ⟨ea, C, a0, B, H', rfl, hos.trans I.os, hbare, hok, x1, inB, fun b o hb hn hf => ?_, fun b o hb hn => ?_, fun b o hb => ?_, fun b xs q => k5 b xs (I.base.tups b xs q), fun b o u q => k6 b o u (I.base.frzs b o u q), fun b ps q => ?_, hE _ _ _ hE1⟩
  · obtain ⟨sl, q⟩ := I.base.slot b o hb hn hf (by intro z; cases z)
    have hn1 := I.base.free b o hb hn (by intro z; cases z)
    obtain ⟨sl2, q2⟩ := k2 b _ q hn1 (sub b hf)
    obtain ⟨_, o2, ho2, hd⟩ := I.funs.mem hf
    have e2 : o2 = { o with slots := sl } := Option.some.inj (ho2.symm.trans q)
    subst e2
    obtain ⟨sl', q'⟩ := x2 b _ q2 hd
    exact ⟨sl', q'⟩
  · obtain ⟨o', q⟩ := I.base.there b o hb (by intro z; cases z)
    exact k3 b o' q (I.base.free b o hb hn (by intro z; cases z))
  · by_cases hf : b ∈ frs outer
    · exact .inl hf
    · obtain ⟨o', q⟩ := I.base.there b o hb (by intro z; cases z)
      rcases k4 b o' q with hm | hm
      · obtain ⟨env, he, ha⟩ := List.mem_filterMap.mp hm
        rcases List.mem_cons.mp he with rfl | he
        · have e1 : s.heap.objs.size = b := Option.some.inj ha
          exact absurd (Heap.lt_size hb) (by rw [e1]; exact Nat.lt_irrefl _)
        · exact absurd (List.mem_filterMap.mpr ⟨env, he, ha⟩) hf
      · exact .inr hm
  · obtain ⟨m1, q1⟩ := I.base.tbls b ps q
    obtain ⟨m2, q2⟩ := k7 b _ q1
    exact ⟨m1 ++ m2, by rw [q2, Array.append_assoc]⟩
end
/-! ### behind a caught exception -/
end L2

set_option Elab.async false
set_option linter.all false
set_option maxRecDepth 100000
set_option maxHeartbeats 4000000
/-! A list comprehension with one test; d.setdefault; list(d.values()). -/
namespace L2
open PySem PySem.Spec PyProof.Rows
section
variable {prog : Program} {w : World} {A : Around} {s : Shared}
end
section
variable {X : Cx} {own : Nat} {fr : List Nat} {N' : List Str} {tg iter elt ce : Expr} {scope : Scope} {pos : Pos} {wi : TI} {g : CT TG} {te : CT TE} {tt : CT TT}
end
/-! ### d.setdefault(k, x), d.values(), list(d.values()) -/
section
variable {X : Cx}
end
end L2

set_option Elab.async false
set_option linter.all false
set_option maxRecDepth 100000
set_option maxHeartbeats 4000000
/-! Raising and catching exceptions of classes of the text. -/
namespace L2
open PySem PySem.Spec PyProof.Rows
/-! ### classes -/
abbrev bmV : List Value := [.type "ValueError", .type "Exception", .type "BaseException", .type "object"]
/-- a class of the text under ValueError: tl is the line of its bases -/
structure XCls (K : PySem.W.Frag) (C : Addr) (tl : List Value) (newId : String) : Prop where
  obj : ∃ nm qn N bs hdct sn sub ab col dd k0 k1 k2 k3 k5 oN, K.lookup C = some (excClassObj nm qn C N bs tl hdct sn sub ab col dd k0 k1 k2 k3 k5 newId) ∧ K.lookup N = some oN ∧ PySem.W.nsOkIn K N = true ∧ PySem.W.nsIn K N "__init__" = some none
  tail : PySem.W.tailIn K bmV tl = true
theorem XCls.mk' {K : PySem.W.Frag} {C : Addr} {tl : List Value} {newId : String} {nm qn : Str} {N : Addr} {bs : List Value} {hdct : Bool} {sn : List Str} {sub : List Value} {ab : Bool} {col : Option Bool} {dd : Option Addr} {k0 k1 k2 k3 k5 : Option Value} {oN : Obj}
    (l : K.lookup C = some (excClassObj nm qn C N bs tl hdct sn sub ab col dd k0 k1 k2 k3 k5 newId)) (n : K.lookup N = some oN) (o : PySem.W.nsOkIn K N = true) (i : PySem.W.nsIn K N "__init__" = some none) (t : PySem.W.tailIn K bmV tl = true) : XCls K C tl newId :=
  ⟨⟨nm, qn, N, bs, hdct, sn, sub, ab, col, dd, k0, k1, k2, k3, k5, oN, l, n, o, i⟩, t⟩
theorem xobj {K : PySem.W.Frag} {C : Addr} {tl : List Value} {newId : String} (x : XCls K C tl newId) : ∃ nm qn N bs hdct sn sub ab col dd k0 k1 k2 k3 k5 oN,
    K.lookup C = some (excClassObj nm qn C N bs tl hdct sn sub ab col dd k0 k1 k2 k3 k5 newId) ∧ K.lookup N = some oN ∧ ∀ h, K.In h → (∃ mN, h.Ns N mN ∧ mN "__init__" = none) ∧ OwnTail h bmV tl := by
  obtain ⟨⟨nm, qn, N, bs, hdct, sn, sub, ab, col, dd, k0, k1, k2, k3, k5, oN, l, n, o, i⟩, t⟩ := x
  exact ⟨nm, qn, N, bs, hdct, sn, sub, ab, col, dd, k0, k1, k2, k3, k5, oN, l, n, fun h X => ⟨⟨_, .of_isNs (PySem.W.isNs_of_in X o), PySem.W.nsMap_none_of_in X o i⟩, PySem.W.tail_of_in X t⟩⟩
theorem ns_same {h h' : Heap} {N : Addr} {o : Obj} {m : Str → Option Value} (e : h.get? N = some o) (e' : h'.get? N = some o) (n : h.Ns N m) : h'.Ns N m := by
  obtain ⟨o1, es, ep, ho, r⟩ := n
  rw [e] at ho
  cases ho
  exact ⟨o, es, ep, e', r⟩
theorem OwnTail.base_in {h : Heap} {tl : List Value} (T : OwnTail h bmV tl) : tl.contains (.type "BaseException") = true := T.hasType (by decide)
/-- an exception of the text, tracked -/
def ExcO (ea C : Addr) : HO := .ext fun h => ∃ o, h.get? ea = some o ∧ o.cls = .ref C
/-! ### raise -/
section
variable {P : Program} {w : World} {K : PySem.W.Frag} {mg : Str → Option Value} {base : Heap} {N : List Str} {qual : Str} {scope : Scope} {f : Addr} {cd : Value} {A : Around} {outer : List Env} {s0 : Shared} {H0 : Hp} {E : XK}
theorem ps_raise {x : Str} {C : Addr} {tl : List Value} {Bn newId inN : String} {bmN : List Value} {e : Expr} {es : List Expr} {t : TA} {np cpos pos : Pos} (hm : mg x = some (.ref C)) (hx : XCls K C tl newId) (Fn : ExcBaseFacts Bn newId inN bmN) (hBn : bmV.contains (.type Bn) = true)
    (hg : Gl (cxOf (CX1 P w) P w K mg base N qual scope f cd A outer s0 H0 E) x) (ha : PA (cxOf (CX1 P w) P w K mg base N qual scope f cd A outer s0 H0 E) (e :: es) t)
    (hd : (x == ("__debug__" : Str)) = false := by decide) (he : starEach (e :: es) (envOfC qual scope s0.heap.objs.size f cd) = (false, eval e (envOfC qual scope s0.heap.objs.size f cd)) :: starEach es (envOfC qual scope s0.heap.objs.size f cd) := by rfl)
    (hpl : (backTo cpos (starEach es (envOfC qual scope s0.heap.objs.size f cd))).any (·.1) = false := by rfl) :
    PS (cxOf (CX1 P w) P w K mg base N qual scope f cd A outer s0 H0 E) (.Raise (some (.Call (.Name x np) (e :: es) [] cpos)) none pos) (fun D σ H1 => t σ H1 fun vs H2 => vs.length ≤ 1000 ∧ E (.ref C) none H2) := by
  intro pins s σ H D I h
  obtain ⟨nm, qn, Na, bs, hdct, sn, sub, ab, col, dd, k0, k1, k2, k3, k5, oN, lC, lN, all⟩ := xobj hx
  obtain ⟨⟨mN, hN, hni⟩, T⟩ := all _ I.kIn
  refine wpAny_Raise_call_subU (C := C) (nm := nm) (q := qn) (N := Na) (bs := bs) (bm := tl) (hdct := hdct) (sn := sn) (sub := sub) (ab := ab) (col := col) (dd := dd) (k0 := k0) (k1 := k1) (k2 := k2) (k3 := k3) (k5 := k5)
    Fn hBn PySem.F.excBase_ValueError (mN := mN) (OwnTail.base_in T) (I.ok.hd rfl) ?_ hni (ld_glob I hg hm ⟨rfl, ?_⟩ hd)
  · show (backTo cpos (starEach (e :: es) (envOfC qual scope s0.heap.objs.size f cd))).any (·.1) = false
    rw [he]
    show (false || (backTo cpos (starEach es (envOfC qual scope s0.heap.objs.size f cd))).any (·.1)) = false
    rw [hpl]
    rfl
  have hA := ha cpos pins s σ H _ I h
  show wpAny _ _ (evalArgs (.ref C) true (backTo cpos (starEach (e :: es) (envOfC qual scope s0.heap.objs.size f cd))) []) _ _ s
  have hA' : wpAny (model P w) (cxOf (CX1 P w) P w K mg base N qual scope f cd A outer s0 H0 E).A (spliced (backTo cpos (starEach (e :: es) (envOfC qual scope s0.heap.objs.size f cd)))) _ _ s := hA
  rw [he] at hA' ⊢
  refine Calls.evalArgs_plain (thn hA' fun us s2 ⟨vs, H2, I2, r, q1, q2⟩ => ?_)
  refine ⟨rfl, ?_, I2.kIn _ _ lC, ns_same (I.kIn _ _ lN) (I2.kIn _ _ lN) hN, (all _ I2.kIn).2, fun h' ex hx => leave_made I2 hx q2⟩
  rw [← r.length]
  exact Nat.le_trans q1 (by decide)
/-- a def that raises -/
theorem Fun.okX {x qual : Str} {st : Stmt} {f : Addr} {fd : FuncData} {N ps : List Str} {k : Nat} {sp : Sp} (F : Fun K x qual st f fd) (S : FnScope N ps (defScope st)) (len : ∀ vs H Q E, sp vs H Q E → vs.length = ps.length)
    (hbody : ∀ (cdv : Value) (A : Around) (outer : List Env) (s : Shared) (H : Hp) (vs : List V) (Q : VK) (E : XK), Room k (A.deeper (envOfC qual (defScope st) s.heap.objs.size f cdv)) → sp vs H Q E →
      ∃ t, PSs (cxOf (CX1 P w) P w K mg base N qual (defScope st) f cdv A outer s H E) (defBody st) t ∧ t { nx := fun _ H' => Q .non H', rt := Q } (start N vs) H) : FnOk P w K mg base (CX1 P w) (k + 1) f fd ps sp := by
  obtain ⟨oc, od, kV, doc, pm, an, cdv, ct, osl, rfl, lk, hcd⟩ := F.ex
  refine fn_of lk hcd S len fun A outer s H vs Q E hr hsp => ?_
  obtain ⟨t, h, q⟩ := hbody cdv A outer s H vs Q E hr hsp
  exact ⟨t, h, q⟩
end
/-! ### behind a catch -/
theorem ObjOk.there {P : Program} {w : World} {H : Hp} {h : Heap} {a : Addr} {o : HO} (x : ObjOk P w H h a o) : ∃ ob, h.get? a = some ob := by
  cases o with
  | lst xs => obtain ⟨_, _, _, _, e⟩ := x; exact ⟨_, e⟩
  | tup xs => obtain ⟨_, _, _, o, e, _⟩ := x; exact ⟨_, e⟩
  | dK kvs => obtain ⟨_, _, _, _, o, _, _, e, _⟩ := x; exact ⟨_, e⟩
  | dT kvs => obtain ⟨_, _, _, _, o, _, _, e, _⟩ := x; exact ⟨_, e⟩
  | set S n => obtain ⟨o, _, _, _, e, _⟩ := x; exact ⟨_, e⟩
  | ins C dx fs => obtain ⟨_, _, _, e, _⟩ := x; exact ⟨_, e⟩
  | own y => obtain ⟨_, e⟩ := x; exact ⟨_, e⟩
  | xd fs => obtain ⟨_, ⟨_, _, _, e, _⟩, _⟩ := x; exact ⟨_, e⟩
  | rng lo hi => obtain ⟨_, _, _, e⟩ := x; exact ⟨_, e⟩
  | frz ob u => obtain ⟨e, _⟩ := x; exact ⟨_, e⟩
  | tbl ps => exact ⟨_, (show h.get? a = some _ from x)⟩
  | met f y => exact ⟨_, (show h.get? a = some _ from x)⟩
  | ext φ => obtain ⟨_, ⟨_, e⟩, _⟩ := x; exact ⟨_, e⟩
theorem HOk.track {P : Program} {w : World} {H : Hp} {h : Heap} {a : Addr} {o : HO} (x : HOk P w H h) (hn : H a = none) (new : ObjOk P w (upd H a o) h a o) : HOk P w (upd H a o) h := fun b u e => by
  by_cases hb : b = a
  · subst hb; rw [upd_same] at e; cases e; exact new
  · rw [upd_ne hb] at e
    exact (x b u e).stay (fun c v _ q => q) (fun c q => by rw [upd_ne (ne_of_none q hn)]; exact q) fun c xs q => by rw [upd_ne (ne_of_none q hn)]; exact q
theorem Flying.grow {B : Heap} {l : List Env} {e : Addr} {cls a0 : Value} {h h' : Heap} (x : Heap.FlyingW B l e cls a0 h) (k : ∀ b o, h.get? b = some o → h'.get? b = some o) : Heap.FlyingW B l e cls a0 h' := by
  obtain ⟨f1, f2, f3, oe, vs, T, oT, ts, he, hc, hd, h1, hn, ne, hT, hdT, h3⟩ := x
  exact ⟨fun b o q => k _ _ (f1 b o q), f2, f3.of_keeps fun b o q _ => ⟨o, k _ _ q, rfl⟩, oe, vs, T, oT, ts, k _ _ he, hc, hd, h1, hn, ne, k _ _ hT, hdT, h3⟩
/-- an exception is caught: it flies over the heap, and whatever heap it flies over is good for the catcher -/
def Cgt (X : Cx) (pins : List (Addr × Obj)) (σ : St) (H : Hp) (ea C : Addr) (s : Shared) : Prop :=
  ∃ (B : Heap) (a0 : Value), Heap.FlyingW B X.stack ea (.ref C) a0 s.heap ∧ H ea = some (ExcO ea C) ∧ ∀ (h : Heap) (tk : Nat), Heap.FlyingW B X.stack ea (.ref C) a0 h → s.heap.UpToSlots h → Inv X pins σ H { s with heap := h, toks := tk }
theorem Cgt.grow {X : Cx} {pins : List (Addr × Obj)} {σ : St} {H : Hp} {ea C : Addr} {s : Shared} (x : Cgt X pins σ H ea C s) {h' : Heap} (k : ∀ b o, s.heap.get? b = some o → h'.get? b = some o) (tk : Nat) : Cgt X pins σ H ea C { s with heap := h', toks := tk } := by
  obtain ⟨B, a0, f, e, all⟩ := x
  exact ⟨B, a0, Flying.grow f k, e, fun h tk' f' u => all h tk' f' ((Heap.UpToSlots.of_keeps k).trans u)⟩
theorem Cgt.inv {X : Cx} {pins : List (Addr × Obj)} {σ : St} {H : Hp} {ea C : Addr} {s : Shared} (x : Cgt X pins σ H ea C s) : Inv X pins σ H s := by
  obtain ⟨B, a0, f, e, all⟩ := x
  exact all s.heap s.toks f (Heap.UpToSlots.refl _)
/-- from the call's end to the handlers -/
theorem catch_ok {X : Cx} {pins : List (Addr × Obj)} {σ : St} {H : Hp} {s s' : Shared} {E : XK} {e : Value} {Q : Flow → Shared → Prop} {E' : Value → Shared → Prop} {hs : List ExceptHandler} (I : Inv X pins σ H s) (hst : X.stack = X.env :: X.outer) (hfr : X.env.frame = some X.env.locals)
    (hx : CX1 X.prog X.w X.stack H s E e s')
    (h : ∀ ea C H' s2, e = .ref ea → Cgt X pins σ (upd H' ea (ExcO ea C)) ea C s2 → H' ea = none → E (.ref C) none H' → wpAny (model X.prog X.w) X.A (handleBy (.ref ea) X.env hs) Q E' s2) :
    wpAny (model X.prog X.w) X.A (noteFrame e X.env) (fun _ s2 => wpAny (model X.prog X.w) X.A (setFlight e none) (fun _ s3 => wpAny (model X.prog X.w) X.A (handleBy e X.env hs) Q E' s3) E' s2) E' s' := by
  obtain ⟨ea, C, a0, B, H', rfl, hos, hbare, hok, hfl, k1, k2, k3, k4, k5, k6, k7, hE⟩ := hx
  have hen : H' ea = none := by
    cases q : H' ea with
    | none => rfl
    | some o =>
      obtain ⟨ob, z⟩ := ObjOk.there (hok ea o q)
      rw [hfl.2.1] at z
      cases z
  have hfl0 := hfl
  rw [hst] at hfl
  refine wpAny_looks_onW (hst ▸ I.ok.frames) hfr hfl fun h1 held u1 => ?_
  refine wpAny_landsW held fun h2 fl2 u2 => ?_
  have u12 : s'.heap.UpToSlots h2 := u1.trans u2
  rw [← hst] at fl2
  refine h ea C H' _ rfl ⟨B, a0, fl2, upd_same, fun hh tk flh uh => ?_⟩ hen hE
  have u3 : s'.heap.UpToSlots hh := u12.trans uh
  have nea : ∀ b o, s.heap.get? b = some o → b ≠ ea := fun b o hb z => by
    subst z
    rcases k4 b o hb with hm | ⟨o', q⟩
    · obtain ⟨_, o2, ho2, hd⟩ := hfl0.2.2.1.mem hm
      obtain ⟨oe, vs, he, _, hde, _⟩ := hfl0.first
      rw [he] at ho2
      cases ho2
      exact hd vs hde
    · rw [hfl0.2.1] at q
      cases q
  obtain ⟨oe, vs, he, hc, hde, _⟩ := flh.first
  have k2' : ∀ b o, s.heap.get? b = some o → H b = none → b ∈ frs X.stack → ∃ sl, hh.get? b = some { o with slots := sl } := fun b o q n hf => by
    obtain ⟨sl, q1⟩ := k2 b o q n hf
    obtain ⟨_, o2, ho2, hd⟩ := hfl0.2.2.1.mem hf
    have e2 : o2 = { o with slots := sl } := Option.some.inj (ho2.symm.trans q1)
    subst e2
    obtain ⟨sl', q'⟩ := u3 b _ q1 hd
    exact ⟨sl', q'⟩
  have Hok : HOk X.prog X.w (upd H' ea (ExcO ea C)) hh := HOk.track (hok.kept fun b u q => flh.1 _ _ q) hen ⟨⟨oe, he, hc⟩, ⟨oe, he⟩, fun h1 h2 ⟨o, ho, r⟩ k => ⟨o, k o ho, r⟩⟩
  refine I.call' (s' := { s' with heap := hh, toks := tk }) (ch := []) hos ⟨fun b o q n hf _ => flh.1 _ _ (k1 b o q n hf), fun b o q n hf _ => k2' b o q n hf, fun b o q n _ => by rw [upd_ne (nea b o q)]; exact k3 b o q n, fun b o q _ => ?_, fun b xs q => by rw [upd_ne (ne_of_none (k5 b xs q) hen)]; exact k5 b xs q, fun b o u q => by rw [upd_ne (ne_of_none (k6 b o u q) hen)]; exact k6 b o u q, fun b ps q => by
      obtain ⟨more, z⟩ := k7 b ps q
      exact ⟨more, by rw [upd_ne (ne_of_none z hen)]; exact z⟩⟩ Hok hbare (fun b z => absurd z (by simp))
  rcases k4 b o q with hm | ⟨o', q'⟩
  · obtain ⟨_, o2, ho2, _⟩ := I.stack.mem hm
    obtain ⟨sl, q2⟩ := k2' b o2 ho2 (I.stkFree b hm) hm
    exact ⟨_, q2⟩
  · exact ⟨o', flh.1 _ _ q'⟩
/-! ### which handler -/
section
variable {M : Model} {A : Around} {E : Value → Shared → Prop} {s : Shared}
theorem forIn_stay {α β : Type} {cs : List α} {b : β} {f : α → β → Sem (ForInStep β)} {Q : β → Shared → Prop} (hf : ∀ c ∈ cs, ∀ Q' : ForInStep β → Shared → Prop, Q' (.yield b) s → wpAny M A (f c b) Q' E s) (h : Q b s) : wpAny M A (forIn cs b f) Q E s := by
  induction cs with
  | nil => exact wpAny_pure h
  | cons c r ih =>
    rw [List.forIn_cons]
    exact wpAny_bind (hf c List.mem_cons_self _ (ih fun d hd => hf d (List.mem_cons_of_mem _ hd)))
/-- an own class, as a heap has it -/
def XAt (h : Heap) (D : Addr) (tl : List Value) : Prop := ∃ nm qn N bs hdct sn sub ab col dd k0 k1 k2 k3 k5 newId, h.get? D = some (excClassObj nm qn D N bs tl hdct sn sub ab col dd k0 k1 k2 k3 k5 newId)
theorem XCls.at {K : PySem.W.Frag} {C : Addr} {tl : List Value} {newId : String} (x : XCls K C tl newId) {h : Heap} (X : K.In h) : XAt h C tl ∧ tl.contains (.type "BaseException") = true := by
  obtain ⟨nm, qn, N, bs, hdct, sn, sub, ab, col, dd, k0, k1, k2, k3, k5, oN, l, n, all⟩ := xobj x
  exact ⟨⟨nm, qn, N, bs, hdct, sn, sub, ab, col, dd, k0, k1, k2, k3, k5, newId, X _ _ l⟩, OwnTail.base_in (all _ X).2⟩
theorem sub_at {D : Addr} {tl : List Value} {v : Value} {Q : Bool → Shared → Prop} (x : XAt s.heap D tl) (q : Q ((Value.ref D :: tl).contains v) s) : wpAny M A (isSubtype (.ref D) v) Q E s := by
  obtain ⟨nm, qn, N, bs, hdct, sn, sub, ab, col, dd, k0, k1, k2, k3, k5, newId, l⟩ := x
  obtain ⟨h, g, d, t, os⟩ := s
  exact wpAny_isSubtype_exc l q
theorem isExc_at {D : Addr} {tl : List Value} {Q : Bool → Shared → Prop} (x : XAt s.heap D tl) (b : tl.contains (.type "BaseException") = true) (q : Q true s) : wpAny M A (isExcClass (.ref D)) Q E s := by
  obtain ⟨nm, qn, N, bs, hdct, sn, sub, ab, col, dd, k0, k1, k2, k3, k5, newId, l⟩ := id x
  unfold isExcClass isType loadHead
  refine wpAny_bind (wpAny_bind (wpAny_loadPart l (wpAny_pure ?_)))
  dsimp only
  rw [if_pos rfl]
  refine sub_at x ?_
  rw [List.contains_cons, b, Bool.or_true]
  exact q
theorem typeOf_at {e : Addr} {oe : Obj} {C : Addr} {Q : Value → Shared → Prop} (he : s.heap.get? e = some oe) (hc : oe.cls = .ref C) (q : Q (.ref C) s) : wpAny M A (typeOf (.ref e)) Q E s := by
  obtain ⟨h, g, d, t, os⟩ := s
  unfold typeOf
  refine wpAny_bind (wpAny_loadPart he (wpAny_pure ?_))
  rw [hc]
  exact q
/-- none of a tuple of own classes -/
theorem matches_none {e tp C : Addr} {oe : Obj} {tl : List Value} {cs : List Addr} {Q : Bool → Shared → Prop} (ht : IsTup s.heap tp (cs.map Value.ref).toArray) (he : s.heap.get? e = some oe) (hc : oe.cls = .ref C) (hC : XAt s.heap C tl)
    (hcs : ∀ c ∈ cs, (∃ tl', XAt s.heap c tl' ∧ tl'.contains (.type "BaseException") = true) ∧ (Value.ref C :: tl).contains (.ref c) = false) (q : Q false s) : wpAny M A (excMatches (.ref e) (.ref tp)) Q E s := by
  obtain ⟨ot, hot, hct, n, hdt⟩ := ht
  unfold excMatches
  refine wpAny_bind (wpAny_isInstance (T := "tuple") (show s.TypeIs (.ref tp) "tuple" from ⟨ot, hot, hct⟩) isSubtype_tuple_tuple ?_)
  dsimp only
  rw [if_pos rfl]
  refine wpAny_bind (wpAny_seqItems hot hdt ?_)
  dsimp only [Option.getD_some, pure_bind]
  try (refine wpAny_bind (wpAny_pure ?_))
  refine wpAny_bind (forIn_stay (fun c hm Q' hq => ?_) ?_)
  · obtain ⟨D, hD, rfl⟩ := List.mem_map.mp hm
    obtain ⟨⟨tl', x, b⟩, _⟩ := hcs D hD
    refine wpAny_bind (isExc_at x b ?_)
    rw [if_neg (by decide)]
    exact wpAny_pure hq
  refine wpAny_bind (typeOf_at he hc ?_)
  refine wpAny_bind (forIn_stay (fun c hm Q' hq => ?_) (wpAny_pure q))
  obtain ⟨D, hD, rfl⟩ := List.mem_map.mp hm
  refine wpAny_bind (sub_at hC ?_)
  rw [(hcs D hD).2, if_neg Bool.false_ne_true]
  exact wpAny_pure hq
/-- one own class -/
theorem matches_one {e D C : Addr} {oe : Obj} {tl tlD : List Value} {Q : Bool → Shared → Prop} (he : s.heap.get? e = some oe) (hc : oe.cls = .ref C) (hC : XAt s.heap C tl) (hD : XAt s.heap D tlD) (hb : tlD.contains (.type "BaseException") = true)
    (hm : (Value.ref C :: tl).contains (.ref D) = true) (q : Q true s) : wpAny M A (excMatches (.ref e) (.ref D)) Q E s := by
  obtain ⟨nm, qn, N, bs, hdct, sn, sub, ab, col, dd, k0, k1, k2, k3, k5, newId, l⟩ := id hD
  unfold excMatches
  refine wpAny_bind (wpAny_isInstance (T := "type") (b := false) (show s.TypeIs (.ref D) "type" from ⟨_, l, rfl⟩) (by rw [isSubtype_type]; kernel_rfl) ?_)
  dsimp only
  rw [if_neg Bool.false_ne_true]
  try (refine wpAny_bind (wpAny_pure ?_))
  refine wpAny_bind (forIn_stay (fun c hcm Q' hq => ?_) ?_)
  · obtain rfl := List.mem_singleton.mp hcm
    refine wpAny_bind (isExc_at hD hb ?_)
    rw [if_neg (by decide)]
    exact wpAny_pure hq
  refine wpAny_bind (typeOf_at he hc ?_)
  rw [List.forIn_cons]
  refine wpAny_bind (wpAny_bind (wpAny_bind (sub_at hC ?_)))
  rw [hm, if_pos rfl]
  exact wpAny_pure (wpAny_pure (wpAny_pure q))
end
/-! ### handlers -/
/-- the context of an except suite -/
abbrev sxOf (X : Cx) (ea : Addr) : Cx := { X with A := X.A.mark (some (.ref ea)), calm := false, xe := fun _ _ => False }
theorem Inv.sx {X : Cx} {pins : List (Addr × Obj)} {σ : St} {H : Hp} {s : Shared} (I : Inv X pins σ H s) (ea : Addr) : Inv (sxOf X ea) pins σ H s :=
  ⟨⟨I.ok.mod, I.ok.kind, I.ok.glob, I.ok.blt, I.ok.above, I.ok.inj, I.ok.has, I.ok.cab, (fun z => by cases z), I.ok.frames, I.ok.stk, I.ok.exf, I.ok.bs, I.ok.bsz, I.ok.noex, I.ok.exfs, I.ok.funs, I.ok.frf⟩, I.os, I.bare, I.base, I.loc, I.cell, I.free, I.freeC, I.pin, I.hok, I.len⟩
theorem Inv.unsx {X : Cx} {pins : List (Addr × Obj)} {σ : St} {H : Hp} {s : Shared} {ea : Addr} (ok : X.Ok) (I : Inv (sxOf X ea) pins σ H s) : Inv X pins σ H s :=
  ⟨ok, I.os, I.bare, I.base, I.loc, I.cell, I.free, I.freeC, I.pin, I.hok, I.len⟩
/-- what is wanted of the handlers, for an exception at ea of the class C -/
def PH (X : Cx) (hs : List ExceptHandler) (t : Addr → Addr → TS) : Prop := ∀ (pins : List (Addr × Obj)) (σ : St) (H : Hp) (ea C : Addr) (s : Shared) (D : Ends), Cgt X pins σ H ea C s → t ea C D σ H →
  wpAny (model X.prog X.w) X.A (handleBy (.ref ea) X.env hs) (SP X pins D) X.xe s
/-- names of own classes -/
inductive Names (X : Cx) : List Expr → List Addr → Prop
  | nil : Names X [] []
  | cons {x : Str} {p : Pos} {c : Addr} {es : List Expr} {cs : List Addr} : Gl X x → X.mg x = some (.ref c) → (x == ("__debug__" : Str)) = false → Names X es cs → Names X (.Name x p :: es) (c :: cs)
theorem Names.len {X : Cx} {es : List Expr} {cs : List Addr} (n : Names X es cs) : es.length = cs.length := by
  induction n with
  | nil => rfl
  | cons _ _ _ _ ih => rw [List.length_cons, List.length_cons, ih]
theorem Names.spl {X : Cx} {es : List Expr} {cs : List Addr} (n : Names X es cs) {pins : List (Addr × Obj)} {σ : St} {H : Hp} {s : Shared} (I : Inv X pins σ H s) {pos : Pos} {E : Value → Shared → Prop} {Q : List Value → Shared → Prop} (q : Q (cs.map Value.ref) s) :
    wpAny (model X.prog X.w) X.A (spliced (backTo pos (starEach es X.env))) Q E s := by
  induction n generalizing Q with
  | nil => exact Calls.spliced_nil q
  | cons hg hm hd _ ih => exact Calls.spliced_cons (ld_glob I hg hm (ih (Q := fun us s' => Q (_ :: us) s') q) hd)
section
variable {X : Cx}
/-- except (A, .., B): none of them -/
theorem ph_skip {es : List Expr} {cs : List Addr} {C0 : Addr} {tl0 : List Value} {n0 : String} {x1 : Nat} {tpos pos : Pos} {nm : Option Str} {body : List Stmt} {rest : List ExceptHandler} {tr : Addr → Addr → TS} (h0 : XCls X.K C0 tl0 n0) (hes : Names X es cs)
    (hcs : ∀ c ∈ cs, (∃ tl n, XCls X.K c tl n) ∧ (Value.ref C0 :: tl0).contains (.ref c) = false) (hl : es.length ≤ 1000) (hr : PH X rest tr) :
    PH X (.ExceptHandler (some (.Tuple es x1 tpos)) nm body pos :: rest) (fun ea C D σ H => C = C0 ∧ tr ea C D σ H) := by
  rintro pins σ H ea C s D G ⟨rfl, h⟩
  have I := G.inv
  have Is := I.sx ea
  have hes' : Names (sxOf X ea) es cs := by
    clear hcs hl
    induction hes with
    | nil => exact .nil
    | cons a b c _ ih => exact .cons a b c ih
  refine wpAny_handleBy_cons (codeAny_handlers_test (wpAny_Tuple_spliced (hes'.spl Is ⟨?_, ?_⟩))) (by intro q; cases q)
  · rw [List.length_map, ← hes.len]
    exact Nat.le_trans hl (by decide)
  have k : ∀ b o, s.heap.get? b = some o → (s.heap.push { cls := .type "tuple", data := .seq (cs.map Value.ref).toArray }).get? b = some o := fun b o e => Heap.get?_push_of_some _ e
  obtain ⟨B, a0, fl, _, _⟩ := id G
  obtain ⟨oe, vs, he, hc, _, _⟩ := fl.first
  have kin := I.kIn.keeps k
  refine matches_none (s := { s with heap := s.heap.push { cls := .type "tuple", data := .seq (cs.map Value.ref).toArray } }) ⟨_, Heap.get?_push_size _ rfl, rfl, _, rfl⟩ (k _ _ he) hc (h0.at kin).1 (fun c hm => ?_) ?_
  · obtain ⟨⟨tl, n, x⟩, b⟩ := hcs c hm
    exact ⟨⟨tl, x.at kin⟩, b⟩
  · exact hr pins σ H ea C _ D (G.grow k s.toks) h
end
/-- a name goes -/
theorem unbind_ok {X : Cx} {pins : List (Addr × Obj)} {σ : St} {H : Hp} {s : Shared} {M : Model} {A : Around} {E : Value → Shared → Prop} {i : Nat} {x : Str} {pos : Pos} {Q : Unit → Shared → Prop} (I : Inv X pins σ H s) (hN : X.N.Nodup) (hi : X.N[i]? = some x) (hk : X.env.scope.names.lookup x = some .local)
    (h : ∀ s', Inv X pins (σ.set i none) H s' → Q () s') : wpAny M A (do bindName X.env x .none; unbindBehindTheSuite X.env x pos) Q E s := by
  obtain ⟨m, hn, hl⟩ := id I.loc
  have hcls : (X.env.scope.kind == .class || (X.env.scope.kind == .module && X.env.locals != X.env.globals)) = false := by rw [I.ok.kind]; rfl
  obtain ⟨oL, _, _, hoL, _⟩ := id hn
  have hiσ : i < σ.length := by rw [I.len]; exact (List.getElem?_eq_some_iff.mp hi).1
  refine wpAny_nameGoes_keeps hk hn hcls fun h' v hn' sb => h _ ?_
  have old : ∀ b o, X.s₀.heap.get? b = some o → h'.get? b = s.heap.get? b := fun b o e => sb.2 b (Nat.ne_of_lt (Nat.lt_of_lt_of_le (Heap.lt_size e) I.ok.above))
  refine ⟨I.ok, I.os, I.bare, ⟨fun b o e n hb hx => (old b o e).trans (I.base.keep b o e n hb hx), fun b o e n hb hx => ?_, I.base.free, fun b o e hx => ?_, I.base.tups, I.base.frzs, I.base.tbls⟩, ⟨_, hn', fun j y v' e1 e2 e3 => ?_⟩, fun y c e => ?_, I.free, I.freeC, fun p hp => ?_, fun b ob e => ?_, by rw [List.length_set]; exact I.len⟩
  · obtain ⟨sl, q⟩ := I.base.slot b o e n hb hx
    exact ⟨sl, (old b o e).trans q⟩
  · obtain ⟨o', q⟩ := I.base.there b o e hx
    exact ⟨o', (old b o e).trans q⟩
  · have hj : j ≠ i := fun z => by
      subst z
      rw [List.getElem?_set_self hiσ] at e2
      cases e2
    rw [List.getElem?_set_ne (Ne.symm hj)] at e2
    obtain ⟨u', r', q⟩ := hl j y v' e1 e2 e3
    refine ⟨u', r', ?_⟩
    rcases q with ⟨k, e⟩ | ⟨k, c, e, z⟩
    · have ne : y ≠ x := fun e => hj (nodup_ix hN e1 (e ▸ hi))
      exact .inl ⟨k, by show (if y = x then v else m y) = some u'; rw [if_neg ne]; exact e⟩
    · exact .inr ⟨k, c, e, z.sameBut sb (I.cne y c e)⟩
  · obtain ⟨w', z⟩ := I.cell y c e
    exact ⟨w', z.sameBut sb (I.cne y c e)⟩
  · obtain ⟨e, n, ne, nf, d⟩ := I.pin p hp
    exact ⟨(sb.2 p.1 ne).trans e, n, ne, nf, d⟩
  · refine (I.hok b ob e).stay (fun c w' hc q => (sb.2 c ?_).trans q) (fun _ q => q) fun _ _ q => q
    rintro rfl
    have fr := I.free
    rcases hc with rfl | hc
    · rw [fr] at e; cases e
    · rw [fr] at hc; cases hc
section
variable {X : Cx}
/-- behind a suite that has a name of its own -/
abbrev dropEnds (i : Nat) (D : Ends) : Ends := { nx := fun σ H => D.nx (σ.set i none) H, rt := D.rt, bk := fun σ H => D.bk (σ.set i none) H, ct := fun σ H => D.ct (σ.set i none) H }
/-- except C as n: it is one -/
theorem ph_as {y n : Str} {i : Nat} {np pos : Pos} {b0 : Stmt} {suite : List Stmt} {rest : List ExceptHandler} {ts : Addr → TS} {C0 D0 : Addr} {tl0 tlD : List Value} {n0 nD : String} (h0 : XCls X.K C0 tl0 n0) (hD : XCls X.K D0 tlD nD) (hc : (Value.ref C0 :: tl0).contains (.ref D0) = true)
    (hg : Gl X y) (hm : X.mg y = some (.ref D0)) (hN : X.N.Nodup) (hi : X.N[i]? = some n) (hk : X.env.scope.names.lookup n = some .local) (hs : ∀ ea, PSs (sxOf X ea) (b0 :: suite) (ts ea)) (hdb : (y == ("__debug__" : Str)) = false := by decide) :
    PH X (.ExceptHandler (some (.Name y np)) (some n) (b0 :: suite) pos :: rest) (fun ea C D σ H => C = C0 ∧ ts ea (dropEnds i D) (σ.set i (some (.ref ea))) H) := by
  rintro pins σ H ea C s D G ⟨rfl, h⟩
  have I := G.inv
  have Is := I.sx ea
  obtain ⟨B, a0, fl, hH, all⟩ := id G
  obtain ⟨oe, vs, he, hcl, _, _⟩ := fl.first
  refine wpAny_handleBy_cons (codeAny_handlers_test (ld_glob Is hg hm ?_ hdb)) (by intro q; cases q)
  refine matches_one he hcl (h0.at I.kIn).1 (hD.at I.kIn).1 (hD.at I.kIn).2 hc ?_
  refine codeAny_handlers_suite_as ?_
  refine lands_againW fl fun h2 fl2 u2 => ?_
  have I2 : Inv X pins σ H { s with heap := h2, toks := s.toks } := all h2 s.toks fl2 u2
  refine store_ok2 (X := sxOf X ea) (v := .ref ea) (I2.sx ea) hN hi (.inl hk) rfl (fun s3 I3 _ => ?_) (.inr hk)
  refine wpAny_mono (hs ea pins s3 _ H (dropEnds i D) I3 h) (fun f s4 h4 => ?_) fun _ _ z => z.elim
  have fin : ∀ {σ' : St} {H' : Hp} {R : St → Hp → Prop} {Q : Unit → Shared → Prop} {E : Value → Shared → Prop}, Inv (sxOf X ea) pins σ' H' s4 → R (σ'.set i none) H' → (∀ s5, (∃ σ5 H5, Inv X pins σ5 H5 s5 ∧ R σ5 H5) → Q () s5) → wpAny (model X.prog X.w) X.A (do bindName X.env n .none; unbindBehindTheSuite X.env n pos) Q E s4 :=
    fun I4 r q => unbind_ok (I4.unsx I.ok) hN hi hk fun s5 I5 => q s5 ⟨_, _, I5, r⟩
  cases f with
  | next =>
    obtain ⟨σ', H', I4, q4⟩ := h4
    exact fin (R := D.nx) I4 q4 fun s5 z => z
  | brk =>
    obtain ⟨σ', H', I4, q4⟩ := h4
    exact fin (R := D.bk) I4 q4 fun s5 z => z
  | cont =>
    obtain ⟨σ', H', I4, q4⟩ := h4
    exact fin (R := D.ct) I4 q4 fun s5 z => z
  | ret u =>
    obtain ⟨v, σ', H', I4, r4, q4⟩ := h4
    refine fin (R := fun _ H => D.rt v H) I4 q4 fun s5 ⟨σ5, H5, I5, q5⟩ => ⟨v, σ5, H5, I5, r4, q5⟩
/-- a def of the text that raises, by its promise -/
def KnownX (P : Program) (w : World) (K : PySem.W.Frag) (mg : Str → Option Value) (base : Heap) (k : Nat) (x : Str) (ps : List Str) (sp : Sp) : Prop :=
  ∃ f fd, FnOk P w K mg base (CX1 P w) k f fd ps sp ∧ PySem.W.keepIn K (.ref f) = true ∧ mg x = some (.ref f) ∧ Binds K fd ps []
/-! ### isinstance of an exception: it is one -/
theorem call_isinstX : CallR X (.builtin "isinstance") (fun xs H Q => ∃ ea C D, xs = [.ref ea, .ref D] ∧ H ea = some (ExcO ea C) ∧ PySem.W.isIn X.K (.ref C) D = true ∧ Q (.bl true) H) := by
  intro pins s σ H xs us Q I r h
  obtain ⟨ea, C, D, rfl, hH, hi, q⟩ := h
  obtain ⟨u1, u2, rfl, r1, r2⟩ := vals2 r
  cases r1
  cases r2
  obtain ⟨⟨o, ho, hc⟩, _⟩ := I.hok ea _ hH
  refine PySem.W.isi_call I.kIn (fun M => ?_) hi (fun z => nomatch z) ⟨.bl true, H, I, rfl, q⟩
  exact hc ▸ (PySem.W.Looks.ld ho).andThen .now
theorem isi_base {M : Model} {A : Around} {E : Value → Shared → Prop} {s : Shared} {ea C : Addr} {oe : Obj} {tl : List Value} {T : String} {dep : Int} {tk : Tok} {Q : Fin → Shared → Prop} (he : s.heap.get? ea = some oe) (hc : oe.cls = .ref C) (hC : XAt s.heap C tl) (hT : typeOf (.type T) = pure (.type "type")) (hb : tl.contains (.type T) = true)
    (q : Q (.done (.ret (.bool true))) s) : wpAny M A (Builtin.«isinstance.nested» ⟨[.ref ea, .type T, .int dep tk], []⟩) Q E s := by
  unfold Builtin.«isinstance.nested»
  refine wpAny_bind (typeOf_at he hc ?_)
  rw [if_neg (fun z => by cases z)]
  refine wpAny_bind (wpAny_of_eq hT ?_)
  rw [if_pos (by decide)]
  k_delta "plainIsInstance"
  refine wpAny_bind (wpAny_bind (wpAny_of_eq (a := true) rfl ?_))
  rw [if_neg (by decide)]
  unfold isInstance
  refine wpAny_bind (wpAny_bind (typeOf_at he hc (sub_at hC ?_)))
  rw [List.contains_cons, hb, Bool.or_true, if_pos rfl]
  exact wpAny_pure (wpAny_pure q)
theorem call_isinstV {T : String} (hT : typeOf (.type T) = pure (.type "type")) : CallR X (.builtin "isinstance") (fun xs H Q => ∃ ea C tl n, xs = [.ref ea, .ty T] ∧ H ea = some (ExcO ea C) ∧ XCls X.K C tl n ∧ tl.contains (.type T) = true ∧ Q (.bl true) H) := by
  intro pins s σ H xs us Q I r h
  obtain ⟨ea, C, tl, n, rfl, hH, hx, hi, q⟩ := h
  obtain ⟨u1, u2, rfl, r1, r2⟩ := vals2 r
  cases r1
  cases r2
  obtain ⟨⟨o, ho, hc⟩, _⟩ := I.hok ea _ hH
  exact call_isinstance (S := fun _ R s' => (s'.heap.get? ea = some o ∧ XAt s'.heap C tl) ∧ R (.ok (.ret (.bool true))) s') (fun _ _ _ _ _ hs => isinstance_outer (isi_base hs.1.1 hc hs.1.2 hT hi hs.2) (fun z => nomatch z)) ⟨⟨ho, (hx.at I.kIn).1⟩, ⟨.bl true, H, I, rfl, q⟩⟩
end
/-! ### the errors of a text: one under ValueError, the others straight under it -/
structure ErrTop (K : PySem.W.Frag) (mg : Str → Option Value) (TE : Addr) : Prop where
  m : mg "TurnError" = some (.ref TE)
  c : XCls K TE bmV "ValueError.__new__"
  v : mg "ValueError" = none
structure ErrAt (K : PySem.W.Frag) (mg : Str → Option Value) (TE : Addr) (x : Str) (C : Addr) : Prop where
  m : mg x = some (.ref C)
  c : XCls K C (.ref TE :: bmV) "ValueError.__new__"
  i : PySem.W.isIn K (.ref C) TE = true
theorem bt_ValueError : bootBuiltins "ValueError" = some (.type "ValueError") := by decide +kernel
theorem ty_ValueError : typeOf (.type "ValueError") = pure (.type "type") := by kernel_rfl
theorem err_ne {TE C D : Addr} (h : (C == D) = false) (h' : (TE == D) = false) : (Value.ref C :: Value.ref TE :: bmV).contains (.ref D) = false := by
  have a : (Value.ref D == Value.ref C) = false := by
    rw [beq_eq_false_iff_ne] at h ⊢
    exact fun z => h (Value.ref.inj z).symm
  have b : (Value.ref D == Value.ref TE) = false := by
    rw [beq_eq_false_iff_ne] at h' ⊢
    exact fun z => h' (Value.ref.inj z).symm
  rw [List.contains_cons, List.contains_cons, a, b]
  rfl
end L2

set_option Elab.async false
set_option linter.all false
set_option maxRecDepth 100000
set_option maxHeartbeats 4000000
/-! Rules of our own, part 15: things of any kind by the data that they hold; displays of such; `is` and `is not` of truth values. -/
namespace L2
open PySem PySem.Spec PyProof.Rows

mutual
/-- what a value holds, the empty dict among it -/
inductive Dt (H : Hp) : V → PyData → Prop
  | non : Dt H .non .none
  | bl (b : Bool) : Dt H (.bl b) (.bool b)
  | int (i : Int) : Dt H (.int i) (.int i)
  | str (x : Str) : Dt H (.str x) (.str x)
  | lst {a : Addr} {xs : List V} {ds : List PyData} : H a = some (.lst xs) → Dts H xs ds → Dt H (.ref a) (.list ds)
  | tup {a : Addr} {xs : List V} {ds : List PyData} : H a = some (.tup xs) → Dts H xs ds → Dt H (.ref a) (.tuple ds)
  | dct {a : Addr} : H a = some (.dK []) → Dt H (.ref a) (.dict [])
inductive Dts (H : Hp) : List V → List PyData → Prop
  | nil : Dts H [] []
  | cons {x : V} {d : PyData} {xs : List V} {ds : List PyData} : Dt H x d → Dts H xs ds → Dts H (x :: xs) (d :: ds)
end
mutual
theorem Dt.same {H H' : Hp} (s : Same H H') : ∀ {x : V} {d : PyData}, Dt H x d → Dt H' x d
  | _, _, .non => .non
  | _, _, .bl b => .bl b
  | _, _, .int i => .int i
  | _, _, .str x => .str x
  | _, _, .lst h r => .lst (s _ _ h) (Dts.same s r)
  | _, _, .tup h r => .tup (s _ _ h) (Dts.same s r)
  | _, _, .dct h => .dct (s _ _ h)
theorem Dts.same {H H' : Hp} (s : Same H H') : ∀ {xs : List V} {ds : List PyData}, Dts H xs ds → Dts H' xs ds
  | _, _, .nil => .nil
  | _, _, .cons h r => .cons (Dt.same s h) (Dts.same s r)
end
theorem Dts.length {H : Hp} : ∀ {xs : List V} {ds : List PyData}, Dts H xs ds → xs.length = ds.length
  | _, _, .nil => rfl
  | _, _, .cons _ r => by rw [List.length_cons, List.length_cons, Dts.length r]
theorem Dts.append {H : Hp} : ∀ {xs ys : List V} {ds es : List PyData}, Dts H xs ds → Dts H ys es → Dts H (xs ++ ys) (ds ++ es)
  | _, _, _, _, .nil, q => q
  | _, _, _, _, .cons h r, q => .cons h (Dts.append r q)
theorem Dts.get {H : Hp} : ∀ {xs : List V} {ds : List PyData} {i : Nat} {x : V}, Dts H xs ds → xs[i]? = some x → ∃ d, ds[i]? = some d ∧ Dt H x d
  | _, _, _, _, .nil, e => by simp at e
  | _, _, 0, _, .cons h _, e => by simp at e; subst e; exact ⟨_, rfl, h⟩
  | _, _, i + 1, x, .cons _ r, e => by
    obtain ⟨d, h1, h2⟩ := Dts.get (i := i) (x := x) r (by simpa using e)
    exact ⟨d, by simpa using h1, h2⟩
/-- the type's name -/
def tyD : PyData → String
  | .none => "NoneType"
  | .bool _ => "bool"
  | .int _ => "int"
  | .str _ => "str"
  | .list _ => "list"
  | .tuple _ => "tuple"
  | .dict _ => "dict"
theorem Dt.ty {K : PySem.W.Frag} {H : Hp} {x : V} {d : PyData} (h : Dt H x d) : TyOf K H x (.type (tyD d)) := by
  cases h with
  | non => exact .non
  | bl b => exact .bl b
  | int i => exact .int i
  | str x => exact .str x
  | lst h _ => exact .lst h
  | tup h _ => exact .tup h
  | dct h => exact .dK h

/-! ### displays -/
section
variable {X : Cx} {e : Expr} {es : List Expr} {pos : Pos} {C : St → Hp → Prop} {d : PyData} {ds : List PyData}
def tDt (C : St → Hp → Prop) (d : PyData) : TE := fun σ H Q => C σ H ∧ ∀ v H', Same H H' → Dt H' v d → Q v H'
def tDts (C : St → Hp → Prop) (ds : List PyData) : TA := fun σ H Q => C σ H ∧ ∀ vs H', Same H H' → Dts H' vs ds → Q vs H'
def Stays (C : St → Hp → Prop) : Prop := ∀ σ H H', Same H H' → C σ H → C σ H'
theorem PE.weak {t t' : TE} (h : PE X e t) (k : ∀ σ H Q, t' σ H Q → t σ H Q) : PE X e t' := fun pins s σ H Q I q => h pins s σ H Q I (k σ H Q q)
theorem PA.weak {t t' : TA} (h : PA X es t) (k : ∀ σ H Q, t' σ H Q → t σ H Q) : PA X es t' := fun pos pins s σ H Q I q => h pos pins s σ H Q I (k σ H Q q)
/-- sealed: what the elaborator shall not unfold in search of arguments -/
structure DE (X : Cx) (e : Expr) (t : TE) : Prop where
  h : PE X e t
structure DA (X : Cx) (es : List Expr) (t : TA) : Prop where
  h : PA X es t
structure DS (X : Cx) (st : Stmt) (t : TS) : Prop where
  h : PS X st t
structure DSs (X : Cx) (st : List Stmt) (t : TS) : Prop where
  h : PSs X st t
theorem dss_cons {st : Stmt} {rest : List Stmt} {t u : TS} (h1 : DS X st t) (h2 : DSs X rest u) : DSs X (st :: rest) (tSeq t u) := ⟨@pss_cons _ _ _ _ _ h1.h h2.h⟩
theorem ds_set {i : Nat} {x : Str} {te : TE} {pos' : Pos} (hN : X.N.Nodup) (hi : X.N[i]? = some x) (hx : Loc X.env.scope x) (he : DE X e te) (hs : swapsWith e (some (.Name x pos')) pos.line X.env = pure false := by rfl) (hf : X.fn x = true ∨ X.env.scope.names.lookup x = some .local := by first | exact .inl rfl | exact .inr rfl | assumption) :
    DS X (.Assign [.Name x pos'] e pos) (tAsg te (gName i)) := ⟨ps_set hN hi hx he.h hs hf⟩
theorem de_op {a b : Expr} {ta tb : TE} {op : Operator} {r : R2} (ho : OpR X (binaryOp op) r) (ha : PE X a ta) (hb : DE X b tb) : DE X (.BinOp a op b pos) (tOp r ta tb) := ⟨pe_op ho ha hb.h⟩
theorem pd_str {x j pos} : DE X (.Constant (.str x) j pos) (tDt C (.str x)) := ⟨pe_str.weak fun _ H _ q => q.2 _ H (Same.refl _) (.str x)⟩
theorem new_same {H : Hp} {p : Addr} (hp : H p = none) (u : HO) : Same H (upd H p u) := fun b o h => by
  have hne : b ≠ p := fun z => by rw [z, hp] at h; cases h
  show (if b = p then _ else _) = _
  rw [if_neg hne]; exact h
theorem new_at {H : Hp} {p : Addr} (u : HO) : upd H p u p = some u := by show (if p = p then _ else _) = _; rw [if_pos rfl]
theorem pds_nil : DA X [] (tDts C []) := ⟨pa_nil.weak fun _ H _ q => q.2 [] H (Same.refl _) .nil⟩
theorem pds_cons (hC : Stays C) (he : DE X e (tDt C d)) (hr : DA X es (tDts C ds)) (hs : starEach (e :: es) X.env = (false, eval e X.env) :: starEach es X.env := by rfl) : DA X (e :: es) (tDts C (d :: ds)) :=
  ⟨(pa_cons he.h hr.h hs).weak fun σ H Q q => ⟨q.1, fun v H1 s1 hv => ⟨hC σ H H1 s1 q.1, fun vs H2 s2 hvs => q.2 (v :: vs) H2 (s1.trans s2) (.cons (hv.same s2) hvs)⟩⟩⟩
theorem pd_lst (h : DA X es (tDts C ds)) (hz : ds.length ≤ sizeLine) : DE X (.List es pos) (tDt C (.list ds)) :=
  ⟨(pe_lst h.h).weak fun _ _ _ q => ⟨q.1, fun vs H1 s1 hvs => ⟨by rw [hvs.length]; exact hz, fun p hp => q.2 _ _ (s1.trans (new_same hp _)) (.lst (new_at _) (hvs.same (new_same hp _)))⟩⟩⟩

/-! ### is, is not -/
end
end L2

set_option Elab.async false
set_option linter.all false
set_option maxRecDepth 100000
set_option maxHeartbeats 4000000
/-! Rules of our own, part 16: sorted of a tuple of ints. -/
namespace L2
open PySem PySem.Spec PyProof.Rows
section
variable {prog : Program} {w : World} {A : Around} {E : Value → Shared → Prop} {s : Shared}
end
section
variable {X : Cx}
end
end L2

set_option Elab.async false
set_option linter.all false
set_option maxRecDepth 100000
set_option maxHeartbeats 4000000
/-! Rules of our own, part 17: list.insert; isinstance of a tuple of built-in types; walking a list or a tuple; `!=` of things by their data. -/
namespace L2
open PySem PySem.Spec PyProof.Rows
section
variable {X : Cx} {pins : List (Addr × Obj)} {σ : St} {H : Hp} {s : Shared}

/-! ### isinstance(x, (T, U)) -/

/-! ### walking a list or a tuple -/

/-! ### == and != by data -/
mutual
theorem Dt.reads (I : Inv X pins σ H s) : ∀ {x : V} {d : PyData}, Dt H x d → ∀ u, RelV x u → ∃ as, Reads s.heap u d as
  | _, _, .non, u, r => by cases (show u = Value.none from r); exact ⟨_, .none⟩
  | _, _, .bl b, u, r => by cases (show u = Value.bool b from r); exact ⟨_, .bool b⟩
  | _, _, .int i, u, r => by obtain ⟨t, rfl⟩ := (show ∃ t, u = Value.int i t from r); exact ⟨_, .int i t⟩
  | _, _, .str x, u, r => by obtain ⟨t, rfl⟩ := (show ∃ t, u = Value.str x t from r); exact ⟨_, .str x t⟩
  | _, _, .lst h hs, u, r => by
    cases (show u = Value.ref _ from r)
    obtain ⟨its, rv, p, _⟩ := I.list (SqL.of h)
    obtain ⟨o, ho, hc, n, hd⟩ := p.isList
    obtain ⟨as, ha⟩ := Dts.reads I hs its rv
    exact ⟨_, .list ho hc hd (by simpa using ha)⟩
  | _, _, .tup h hs, u, r => by
    cases (show u = Value.ref _ from r)
    obtain ⟨its, rv, p, _⟩ := I.tuple (SqT.of h)
    obtain ⟨o, ho, hc, n, hd⟩ := p
    obtain ⟨as, ha⟩ := Dts.reads I hs its rv
    exact ⟨_, .tuple ho hc hd (by simpa using ha)⟩
  | _, _, .dct h, u, r => by
    cases (show u = Value.ref _ from r)
    obtain ⟨_, _, vs, kv, o, es, ep, h1, h2, h3, _, h4, _⟩ := (show ObjOk X.prog X.w H s.heap _ (.dK []) from I.hok _ _ h)
    cases kv
    have h5 : es.toList = [] := List.eq_nil_of_length_eq_zero h4.length
    exact ⟨_, .dict (kvs := []) h1 h2.1 h3 (by rw [h5]; exact .nil) (by rw [h5]; exact .nil)⟩
theorem Dts.reads (I : Inv X pins σ H s) : ∀ {xs : List V} {ds : List PyData}, Dts H xs ds → ∀ us, Vals xs us → ∃ as, ReadsAll s.heap us ds as
  | _, _, .nil, us, r => by cases r; exact ⟨_, .nil⟩
  | _, _, .cons h hs, us, r => by
    cases r with
    | cons r1 r2 =>
      obtain ⟨as, ha⟩ := Dt.reads I h _ r1
      obtain ⟨bs, hb⟩ := Dts.reads I hs _ r2
      exact ⟨_, .cons ha hb⟩
end
/-- what is new since H -/
def nw (H H' : Hp) : Hp := fun b => match H b with
  | none => H' b
  | some _ => none
/-- all but what is at r -/
def rm (H : Hp) (r : Addr) : Hp := fun b => if b = r then none else H b
theorem nw_at {H H' : Hp} {b : Addr} (h : H b = none) : nw H H' b = H' b := by unfold nw; rw [h]
theorem nw_off {H H' : Hp} {b : Addr} {o : HO} (h : nw H H' b = some o) : H b = none ∧ H' b = some o := by
  unfold nw at h
  cases e : H b with
  | none => rw [e] at h; exact ⟨rfl, h⟩
  | some u => rw [e] at h; cases h
theorem nw_same {H H' : Hp} : Same (nw H H') H' := fun b o h => (nw_off h).2
theorem rm_of {H : Hp} {r b : Addr} (h : b ≠ r) : rm H r b = H b := if_neg h
theorem rm_same {H : Hp} {r : Addr} : Same (rm H r) H := fun b o h => by
  unfold rm at h
  by_cases e : b = r
  · rw [if_pos e] at h; cases h
  · rwa [if_neg e] at h
theorem same_rm {G H : Hp} {r : Addr} (s : Same G H) (h : G r = none) : Same G (rm H r) := fun b o e => by
  have hne : b ≠ r := fun z => by rw [z, h] at e; cases e
  rw [rm_of hne]
  exact s _ _ e
theorem rm_upd {H : Hp} {r : Addr} {o : HO} : Same (rm H r) (upd H r o) := fun b u h => by
  unfold rm at h
  by_cases e : b = r
  · rw [if_pos e] at h; cases h
  · rw [if_neg e] at h
    show (if b = r then _ else _) = _
    rw [if_neg e]; exact h
theorem Dts.ints {G : Hp} : ∀ ns : List Int, Dts G (ns.map V.int) (ns.map PyData.int)
  | [] => .nil
  | n :: r => .cons (.int n) (Dts.ints r)
theorem Dts.set {G : Hp} {v : V} {d : PyData} (hv : Dt G v d) : ∀ {xs : List V} {ds : List PyData} (i : Nat), Dts G xs ds → Dts G (xs.set i v) (ds.set i d)
  | _, _, _, .nil => .nil
  | _, _, 0, .cons _ r => .cons hv r
  | _, _, i + 1, .cons h r => .cons h (Dts.set hv i r)
theorem Dts.mem {G : Hp} : ∀ {xs : List V} {ds : List PyData} {i : Nat} {d : PyData}, Dts G xs ds → ds[i]? = some d → ∃ x, xs[i]? = some x ∧ Dt G x d
  | _, _, _, _, .nil, e => by simp at e
  | _, _, 0, _, .cons h _, e => by simp at e; subst e; exact ⟨_, rfl, h⟩
  | _, _, i + 1, d, .cons _ r, e => by
    obtain ⟨x, h1, h2⟩ := Dts.mem (i := i) (d := d) r (by simpa using e)
    exact ⟨x, by simpa using h1, h2⟩

/-! ### displays whose things are new -/
section
variable {e : Expr} {es : List Expr} {pos : Pos} {C : St → Hp → Prop} {d : PyData} {ds : List PyData}
theorem nw_new {H H1 : Hp} {p : Addr} (s : Same H H1) (hp : H1 p = none) (u : HO) : nw H (upd H1 p u) p = some u := by
  have h0 : H p = none := by
    cases e : H p with
    | none => rfl
    | some o => rw [s _ _ e] at hp; cases hp
  rw [nw_at h0]; exact new_at u
end

end
/-! ### a block whose items are told by data -/
section
theorem rm_at {H : Hp} {r : Addr} : rm H r r = none := by unfold rm; rw [if_pos rfl]
theorem comp_dat {K : PySem.W.Frag} {a : Addr} {xs : List V} {fr : List Nat} {te : CT TE} {σ : St} {H1 : Hp} {Q : Addr → Hp → Prop} (hS : SqL K H1 a xs) (ds : List PyData) (hn : ds.length = xs.length) (hz : xs.length ≤ sizeLine)
    (turn : ∀ (i : Nat) H x, xs[i]? = some x → Same H1 H → ∀ C₀ s₀ H₀ fp, te C₀ s₀ H₀ fp (some x :: fr.map fun j => (σ[j]?).getD none) H fun v H4 => Same H H4 ∧ ∃ d, ds[i]? = some d ∧ Dt (nw H H4) v d)
    (fin : ∀ D H ys, H1 D = none → Same H1 H → H D = some (.lst ys) → Dts (rm H D) ys ds → Q D H) :
    ∀ D, H1 D = none → ∃ W : Nat → Nat → St → Hp → Prop, (∃ m, W 0 m (stComp 1 fr σ) (upd H1 D (.lst []))) ∧ ∀ i m σ' H', W i m σ' H' →
    ((Itl K a).stop i H' ∧ Q D H') ∨ ((Itl K a).go i H' ∧ ∀ x H2, (Itl K a).yld i H' x H2 → ∀ C₀ s₀ H₀ fp, gName 0 x σ' H2 fun σ3 H3 => ∃ N : VK, te C₀ s₀ H₀ fp σ3 H3 N ∧ ∀ y H4, N y H4 →
      ∃ ys m', H4 D = some (.lst ys) ∧ ys.length < sizeLine ∧ m' < m ∧ W (i + 1) m' σ3 (upd H4 D (.lst (ys ++ [y])))) := by
  intro D hD
  have s0 : ∀ o, Same H1 (upd H1 D o) := fun o b u e => by rw [upd_ne (ne_of_none e hD)]; exact e
  refine ⟨fun i k σ' H' => k = xs.length - i ∧ i ≤ xs.length ∧ Same H1 H' ∧ (∃ ys : List V, H' D = some (.lst ys) ∧ Dts (rm H' D) ys (ds.take i)) ∧ ∃ z, σ' = z :: fr.map fun j => (σ[j]?).getD none,
    ⟨xs.length, rfl, Nat.zero_le _, s0 _, ⟨[], upd_same, .nil⟩, none, rfl⟩, ?_⟩
  rintro i k σ' H' ⟨rfl, hi, sm, ⟨ys, hl, hP⟩, z, rfl⟩
  by_cases hlt : i < xs.length
  · refine .inr ⟨⟨xs, xs[i], sm.seq hS, List.getElem?_eq_getElem hlt⟩, fun x H2 yl C₀ s₀ H₀ fp => ?_⟩
    obtain ⟨e, hx⟩ := yl
    subst e
    refine ⟨_, turn i _ x (hx xs (sm.seq hS)) sm C₀ s₀ H₀ fp, fun v H4 ⟨s4, d, hd, hv⟩ => ?_⟩
    have hD4 := s4 _ _ hl
    have hyl := hP.length
    rw [List.length_take] at hyl
    have off : nw H2 H4 D = none := by
      cases e : nw H2 H4 D with
      | none => rfl
      | some o => rw [(nw_off e).1] at hl; cases hl
    have s5 : Same (rm H2 D) (rm H4 D) := same_rm (rm_same.trans s4) rm_at
    have s6 : Same (rm H4 D) (rm (upd H4 D (.lst (ys ++ [v]))) D) := same_rm rm_upd rm_at
    refine ⟨ys, xs.length - (i + 1), hD4, by omega, by omega, rfl, hlt, fun c o e => ?_, ⟨ys ++ [v], upd_same, ?_⟩, _, rfl⟩
    · rw [upd_ne (ne_of_none e hD)]
      exact s4 _ _ (sm _ _ e)
    · rw [List.take_add_one, hd]
      exact Dts.append (hP.same (s5.trans s6)) (.cons (hv.same ((same_rm nw_same off).trans s6)) .nil)
  · have e : i = xs.length := by omega
    subst e
    rw [← hn, List.take_length] at hP
    exact .inl ⟨⟨xs, sm.seq hS, Nat.le_refl _⟩, fin D H' ys hD sm hl hP⟩
end
end L2

set_option Elab.async false
set_option linter.all false
set_option maxRecDepth 100000
set_option maxHeartbeats 4000000
/-! Rules of our own, part 18: exceptions of callees in a def, through a comprehension, and in the body of a try. -/
namespace L2
open PySem PySem.Spec PyProof.Rows
/-- an exception that is noted at the frame L; cs: what the block had for itself -/
def CXH (P : Program) (w : World) (L : Addr) (cs : List Addr) : CXT := fun outer H s E e s' => ∃ (ea C : Addr) (a0 : Value) (B : Heap) (H' : Hp), e = .ref ea ∧ s'.os = s.os ∧ AllBare s'.gens ∧ HOk P w H' B ∧ Heap.HeldW B outer ea (.ref C) a0 L s'.heap ∧
  (∀ b o, s.heap.get? b = some o → H b = none → b ∉ frs outer → b ∉ cs → B.get? b = some o) ∧
  (∀ b o, s.heap.get? b = some o → H b = none → b ∈ frs outer → ∃ sl, s'.heap.get? b = some { o with slots := sl }) ∧
  (∀ b o, s.heap.get? b = some o → H b = none → H' b = none) ∧
  (∀ b o, s.heap.get? b = some o → b ∈ frs outer ∨ b ∈ cs ∨ ∃ o', B.get? b = some o') ∧
  (∀ b xs, H b = some (.tup xs) → H' b = some (.tup xs)) ∧ (∀ b o u, H b = some (.frz o u) → H' b = some (.frz o u)) ∧
  (∀ b ps, H b = some (.tbl ps) → ∃ more, H' b = some (.tbl (ps ++ more))) ∧ E (.ref C) none H'
section
variable {P : Program} {w : World} {K : PySem.W.Frag} {mg : Str → Option Value} {base : Heap} {N : List Str} {qual : Str} {scope : Scope} {f : Addr} {cd : Value} {A : Around} {outer : List Env} {s s1 : Shared} {H H1 : Hp} {E : XK} {pins : List (Addr × Obj)} {σ : St}
theorem passD : Passes (CX1 P w) (cxOf (CX1 P w) P w K mg base N qual scope f cd A outer s H E) E := fun _ _ _ _ _ _ I hx => leave_on I hx fun _ _ _ z => z
/-- an exception that was noted here leaves this def -/
theorem leave_held {e : Value} {s2 : Shared} {E1 : XK} {cs : List Addr} (I : Inv (cxOf (CX1 P w) P w K mg base N qual scope f cd A outer s H E) pins σ H1 s1) (hcs : ∀ b ∈ cs, s.heap.get? b = none) (hx : CXH P w s.heap.objs.size cs (cxOf (CX1 P w) P w K mg base N qual scope f cd A outer s H E).stack H1 s1 E1 e s2) (hE : ∀ C a H', E1 C a H' → E C a H') :
    (cxOf (CX1 P w) P w K mg base N qual scope f cd A outer s H E).xe e s2 := by
  obtain ⟨ea, C, a0, B, H', rfl, hos, hbare, hok, hh, k1, k2, k3, k4, k5, k6, k7, hE1⟩ := hx
  show wpAny _ _ (leaving (envOfC qual scope s.heap.objs.size f cd) (.ref ea)) _ _ _
  unfold leaving
  refine wpAny_bind (wpAny_noteFrame_againW rfl hh.2.2.2 (wpAny_landsW hh fun h'' x0 x2 => ?_))
  obtain ⟨f1, f2, ⟨_, _, f3⟩, f4⟩ := x0
  have x1 : Heap.FlyingW B outer ea (.ref C) a0 h'' := ⟨f1, f2, f3, f4⟩
  have ncs : ∀ b o, s.heap.get? b = some o → b ∉ cs := fun b o hb hm => by rw [hcs b hm] at hb; cases hb
  have inB : ∀ b o, s.heap.get? b = some o → H b = none → b ∉ frs outer → B.get? b = some o := fun b o hb hn hf => by
    have q := I.base.keep b o hb hn hf (by intro z; cases z)
    refine k1 b o q (I.base.free b o hb hn (by intro z; cases z)) (fun hm => ?_) (ncs b o hb)
    obtain ⟨env, he, ha⟩ := List.mem_filterMap.mp hm
    rcases List.mem_cons.mp he with rfl | he
    · have e1 : s.heap.objs.size = b := Option.some.inj ha
      exact absurd (Heap.lt_size hb) (by rw [e1]; exact Nat.lt_irrefl _)
    · exact hf (List.mem_filterMap.mpr ⟨env, he, ha⟩)
  have sub : ∀ b, b ∈ frs outer → b ∈ frs (envOfC qual scope s.heap.objs.size f cd :: outer) := fun b hb => by
    obtain ⟨env, he, ha⟩ := List.mem_filterMap.mp hb
    exact List.mem_filterMap.mpr ⟨env, List.mem_cons_of_mem _ he, ha⟩
  refine ⟨ea, C, a0, B, H', rfl, hos.trans I.os, hbare, hok, x1, inB, fun b o hb hn hf => ?_, fun b o hb hn => ?_, fun b o hb => ?_, fun b xs q => k5 b xs (I.base.tups b xs q), fun b o u q => k6 b o u (I.base.frzs b o u q), fun b ps q => ?_, hE _ _ _ hE1⟩
  · obtain ⟨sl, q⟩ := I.base.slot b o hb hn hf (by intro z; cases z)
    have hn1 := I.base.free b o hb hn (by intro z; cases z)
    obtain ⟨sl2, q2⟩ := k2 b _ q hn1 (sub b hf)
    obtain ⟨_, o2, ho2, hd⟩ := I.funs.mem hf
    have e2 : o2 = { o with slots := sl } := Option.some.inj (ho2.symm.trans q)
    subst e2
    obtain ⟨sl', q'⟩ := x2 b _ q2 hd
    exact ⟨sl', q'⟩
  · obtain ⟨o', q⟩ := I.base.there b o hb (by intro z; cases z)
    exact k3 b o' q (I.base.free b o hb hn (by intro z; cases z))
  · by_cases hf : b ∈ frs outer
    · exact .inl hf
    · obtain ⟨o', q⟩ := I.base.there b o hb (by intro z; cases z)
      rcases k4 b o' q with hm | hm | hm
      · obtain ⟨env, he, ha⟩ := List.mem_filterMap.mp hm
        rcases List.mem_cons.mp he with rfl | he
        · have e1 : s.heap.objs.size = b := Option.some.inj ha
          exact absurd (Heap.lt_size hb) (by rw [e1]; exact Nat.lt_irrefl _)
        · exact absurd (List.mem_filterMap.mpr ⟨env, he, ha⟩) hf
      · exact absurd hm (ncs b o hb)
      · exact .inr hm
  · obtain ⟨m1, q1⟩ := I.base.tbls b ps q
    obtain ⟨m2, q2⟩ := k7 b _ q1
    exact ⟨m1 ++ m2, by rw [q2, Array.append_assoc]⟩
end
/-! ### a call that may raise -/
section
variable {P : Program} {w : World} {K : PySem.W.Frag} {mg : Str → Option Value} {base : Heap} {N : List Str} {qual : Str} {scope : Scope} {f : Addr} {cd : Value} {A : Around} {outer : List Env} {s : Shared} {H : Hp} {E : XK}
theorem pe_knX {x : Str} {p pos : Pos} {e : Expr} {es : List Expr} {t : TA} {ps : List Str} {sp : Sp} {k j : Nat} (kn : KnownX P w K mg base k x ps sp) (hr : Room j (A.deeper (envOfC qual scope s.heap.objs.size f cd))) (hg : Gl (cxOf (CX1 P w) P w K mg base N qual scope f cd A outer s H E) x)
    (ha : PA (cxOf (CX1 P w) P w K mg base N qual scope f cd A outer s H E) (e :: es) t) (hj : k ≤ j := by decide) (hdb : (x == ("__debug__" : Str)) = false := by decide)
    (he : starEach (e :: es) (envOfC qual scope s.heap.objs.size f cd) = (false, eval e (envOfC qual scope s.heap.objs.size f cd)) :: starEach es (envOfC qual scope s.heap.objs.size f cd) := by rfl) (hpl : (backTo pos (starEach es (envOfC qual scope s.heap.objs.size f cd))).any (·.1) = false := by rfl) :
    PE (cxOf (CX1 P w) P w K mg base N qual scope f cd A outer s H E) (.Call (.Name x p) (e :: es) [] pos) (tCall sp [] E t) := by
  obtain ⟨g, gd, G, hk, hm, hb⟩ := kn
  exact pe_call (X := cxOf (CX1 P w) P w K mg base N qual scope f cd A outer s H E) G (hr.mono hj) hg hm hk hb .nil passD ha hdb he hpl
end
/-! ### through a comprehension -/
/-- what is wanted behind a block's end, the exception at this frame -/
def postX (M : Model) (A : Around) (E : Value → Shared → Prop) (env : Env) (use : Option (Value → Sem Unit)) (Q : Value → Shared → Prop) (acc : Value) (C : Addr) (r : Result) (s' : Shared) : Prop :=
  match r with
  | .ok fl => compPost M A E use Q acc C (.ok fl) s'
  | .error x => ∃ m, s'.heap.Ns C m ∧ ∀ h', Heap.SameBut C s'.heap h' → wpAny M A (PySem.passOn "comprehension.variables-let-go" x env : Sem Value) (fun _ _ => False) E { s' with heap := h' }
theorem passOn_frame {α : Type} {what : String} {x : Value} {a b : Env} (h : a.frame = b.frame) : (PySem.passOn what x a : Sem α) = PySem.passOn what x b := by
  unfold PySem.passOn
  rw [h]
theorem noteFrame_frame {x : Value} {a b : Env} (h : a.frame = b.frame) : noteFrame x a = noteFrame x b := by
  unfold noteFrame PySem.frameOf
  rw [h]
section
variable {M : Model} {A : Around} {E : Value → Shared → Prop} {s : Shared} {env : Env}
theorem wpAny_compX {ex : Expr} {sco : Scope} {pos : Pos} {newAcc first : Sem Value} {cg : Comprehension} {cgs : List Comprehension} {cls : List (Str × Addr)} {use : Option (Value → Sem Unit)} {Q : Value → Shared → Prop}
    (hcl : clausesOf ex = cg :: cgs) (hs : ∀ x, foldedSetIterable cg.iter env x = pure x) (hclos : closureFor sco env = pure cls) (hkd : sco.kind = .function) (hnm : ∀ x ∈ sco.names, x.2 = .local → sco.names.lookup x.1 = some .local)
    (h : wpAny M A first (fun x t1 => wpAny M A (pyIter x) (fun it t2 => wpAny M A newAcc (fun acc t3 => wpAny M A (newFunctionEnv sco env.globals cls [] env.qual none .none (some env)) (fun ce t4 => ce.frame = env.frame ∧
        codeAny M A (.compStart ex 0 it acc { ce with scope := relabel sco env }) (postX M A E env use Q acc ce.locals) t4) E t3) E t2) E t1) E s) : wpAny M A (comprehension ex sco env pos newAcc false first use) Q E s := by
  unfold comprehension
  rw [hclos, hcl]
  refine wpAny_bind (thn h fun x t1 h1 => wpAny_bind (wpAny_standAt (wpAny_bind (wpAny_of_eq (hs x) (wpAny_bind (wpAny_holding (thn h1 fun it t2 h2 => wpAny_standIf (wpAny_bind (thn h2 fun acc t3 h3 => wpAny_bind (wpAny_pure (wpAny_bind (thn h3 fun ce t4 h4 => ?_)))))))))))) 
  dsimp only
  obtain ⟨hfr, h4⟩ := h4
  have v1 : ∀ x ∈ (sco.names.filter fun x => (x.2 == .local || x.2 == .cell) && x.1 != (".0" : Str)).reverse, x.2 = .local → Env.kindOf { ce with scope := relabel sco env } x.1 = some .local := fun x hx hl => lookup_relabel_local (hnm x (List.mem_filter.mp (List.mem_reverse.mp hx)).1 hl)
  have v2 : ∀ x ∈ (sco.names.filter fun x => (x.2 == .local || x.2 == .cell) && x.1 != (".0" : Str)).reverse.drop 1 ++ (sco.names.filter fun x => (x.2 == .local || x.2 == .cell) && x.1 != (".0" : Str)).reverse.take 1, x.2 = .local → Env.kindOf { ce with scope := relabel sco env } x.1 = some .local := fun x hx hl =>
    (List.mem_append.mp hx).elim (fun z => v1 x (List.mem_of_mem_drop z) hl) fun z => v1 x (List.mem_of_mem_take z) hl
  refine wpAny_holding (wpAny_bind (wpAny_attempt (wpAny_holding (wpAny_run (codeAny_mono h4 fun rs t5 hr => ?_)))))
  cases rs with
  | ok fl =>
    cases use with
    | none =>
      obtain ⟨m, hn, hr⟩ := (show compPost M A E none Q acc ce.locals (.ok fl) t5 from hr)
      exact wpAny_bind (wpAny_holding (wpAny_comp_letGo (cenv := { ce with scope := relabel sco env }) hkd _ t5 m v1 hn fun h' m' _ hs' => wpAny_pure (hr h' hs')))
    | some u =>
      have hr0 : compPost M A E (some u) Q acc ce.locals (.ok fl) t5 := hr
      refine wpAny_bind (wpAny_rule (wpAny_bind (wpAny_holding (thn hr0 fun _ t6 hr' => ?_))))
      obtain ⟨m, hn, hr'⟩ := hr'
      exact wpAny_bind (wpAny_comp_letGo (cenv := { ce with scope := relabel sco env }) hkd _ t6 m v2 hn fun h' m' _ hs' => wpAny_pure (hr' h' hs'))
  | error x =>
    obtain ⟨m, hn, hr⟩ := hr
    refine wpAny_bind (wpAny_holding (wpAny_comp_letGo (cenv := { ce with scope := relabel sco env }) hkd _ t5 m v1 hn fun h' m' _ hs' => ?_))
    show wpAny M A (PySem.passOn "comprehension.variables-let-go" x { ce with scope := relabel sco env }) _ _ _
    rw [passOn_frame (a := { ce with scope := relabel sco env }) (b := env) hfr]
    exact wpAny_mono (hr h' hs') (fun _ _ (z : False) => z.elim) fun _ _ z => z
/-- it is noted at this frame once more -/
theorem setFlight_held {B : Heap} {l : List Env} {ea L : Addr} {cl a0 : Value} {Q : Unit → Shared → Prop} (hh : Heap.HeldW B l ea cl a0 L s.heap) (h : ∀ h', Heap.HeldW B l ea cl a0 L h' → s.heap.UpToSlots h' → Q () { s with heap := h' }) : wpAny M A (setFlight (.ref ea) (some L)) Q E s := by
  obtain ⟨g1, g2, g3, ox, vx, tb, ot, tx, x1, x2, x3, x4, x5, x6, x7, x8, x9⟩ := hh
  have z3 : 3 < tx.size := (Array.getElem?_eq_some_iff.mp x9).1
  have oth : ∀ b, b ≠ tb → (s.heap.update tb (Obj.mapFields (·.setIfInBounds 3 ((some L).elim Value.none fun f => rawInt f)))).get? b = s.heap.get? b := fun b hb => Heap.get?_update_other _ _ (Ne.symm hb)
  have nrec : ∀ b o, s.heap.get? b = some o → (∀ vs, o.data ≠ .fields vs) → b ≠ tb := fun b o hb hn z => by
    subst z
    rw [x7] at hb
    cases hb
    exact hn tx x8
  unfold setFlight
  refine wpAny_bind (wpAny_field x1 x3 x4 ?_)
  rw [if_pos (show (Value.ref tb != Value.none) = true by simp)]
  refine wpAny_setField x7 x8 z3 (h _ ⟨fun b o q => (oth b fun z => by subst z; rw [x5] at q; cases q).trans (g1 b o q), g2, g3.of_keeps fun b o q n => ⟨o, (oth b (nrec b o q n)).trans q, rfl⟩, ?_⟩ fun b o q n => ⟨o.slots, (oth b (nrec b o q n)).trans q⟩)
  exact ⟨ox, vx, tb, _, _, (oth ea (Ne.symm x6)).trans x1, x2, x3, x4, x5, x6, Heap.get?_update_self _ x7 (Obj.isFreed_of_fields (Obj.data_mapFields x8 _)), Obj.data_mapFields x8 _, by simp [z3]⟩
theorem passOn_held {α : Type} {what : String} {B : Heap} {l : List Env} {ea L : Addr} {cl a0 : Value} {Q : α → Shared → Prop} (hf : env.frame = some L) (hh : Heap.HeldW B l ea cl a0 L s.heap) (h : ∀ h', Heap.HeldW B l ea cl a0 L h' → s.heap.UpToSlots h' → E (.ref ea) { s with heap := h' }) : wpAny M A (PySem.passOn what (.ref ea) env : Sem α) Q E s := by
  have hh0 := hh
  obtain ⟨g1, g2, g3, ox, vx, tb, ot, tx, x1, x2, x3, x4, x5, x6, x7, x8, x9⟩ := hh
  unfold PySem.passOn
  refine wpAny_bind (wpAny_field x1 x3 x4 ?_)
  rw [if_neg (show ¬ (Value.ref tb == Value.none) = true by simp), hf]
  exact wpAny_bind (setFlight_held hh0 fun h' a b => wpAny_throw (h h' a b))
end
theorem frames_but {B h1 h2 : Heap} {C : Addr} {oC : Obj} (hC : B.get? C = some oC) (sb : Heap.SameBut C h1 h2) : ∀ {l : List Env}, h1.FunFrames B l → h2.FunFrames B l
  | [], _ => trivial
  | _ :: _, ⟨hk, ⟨L, o, hf, hn, ho, hd⟩, hr⟩ => ⟨hk, ⟨L, o, hf, hn, (sb.2 L fun z => by rw [z, hC] at hn; cases hn).trans ho, hd⟩, frames_but hC sb hr⟩
theorem held_but {B h1 h2 : Heap} {l : List Env} {ea L C : Addr} {cl a0 : Value} {oC : Obj} (hC : B.get? C = some oC) (sb : Heap.SameBut C h1 h2) (hh : Heap.HeldW B l ea cl a0 L h1) : Heap.HeldW (PySem.W.hideAll B [C]) l ea cl a0 L h2 := by
  obtain ⟨g1, g2, g3, ox, vx, tb, ot, tx, x1, x2, x3, x4, x5, x6, x7, x8, x9⟩ := hh
  have st : (PySem.W.hideAll B [C]).StaysIn B := fun b o q => PySem.W.of_hideAll _ q
  have none_of : ∀ b, B.get? b = none → (PySem.W.hideAll B [C]).get? b = none := fun b e => by
    cases q : (PySem.W.hideAll B [C]).get? b with
    | none => rfl
    | some o => rw [st b o q] at e; cases e
  refine ⟨fun b o q => ?_, none_of _ g2, PySem.W.funFrames_base st (frames_but hC sb g3), ox, vx, tb, ot, tx, (sb.2 ea fun z => by rw [z, hC] at g2; cases g2).trans x1, x2, x3, x4, none_of _ x5, x6, (sb.2 tb fun z => by rw [z, hC] at x5; cases x5).trans x7, x8, x9⟩
  have ne : b ≠ C := fun z => by
    subst z
    have q' : (B.hide b).get? b = some o := q
    rw [Heap.hide_self] at q'
    cases q'
  exact (sb.2 b ne).trans (g1 b o (st b o q))
/-- the context of a block whose element may raise -/
abbrev cxCompX (X : Cx) (E : XK) (N' : List Str) (scope : Scope) (C : Addr) (s₃ : Shared) (H₃ : Hp) (fp : List Addr) : Cx :=
  (cxComp X N' scope C s₃ H₃ fp).wish fun e s' => ∃ (pins : List (Addr × Obj)) (σ : St) (H : Hp) (s : Shared), Inv (cxComp X N' scope C s₃ H₃ fp) pins σ H s ∧ CX1 X.prog X.w X.stack H s E e s'
theorem passC {X : Cx} {E : XK} {N' : List Str} {scope : Scope} {C : Addr} {s₃ : Shared} {H₃ : Hp} {fp : List Addr} : Passes (CX1 X.prog X.w) (cxCompX X E N' scope C s₃ H₃ fp) E := fun pins σ H s _ _ I hx => ⟨pins, σ, H, s, I.unwish, hx⟩
/-- what is noted at this frame goes on -/
def PassH (X : Cx) (E : XK) : Prop := ∀ (pins : List (Addr × Obj)) (σ : St) (H1 : Hp) (s1 s2 : Shared) (cs : List Addr) (e : Value), Inv X pins σ H1 s1 → (∀ b ∈ cs, X.s₀.heap.get? b = none) → CXH X.prog X.w X.env.locals cs X.stack H1 s1 E e s2 → X.xe e s2
theorem passH {P : Program} {w : World} {K : PySem.W.Frag} {mg : Str → Option Value} {base : Heap} {N : List Str} {qual : Str} {scope : Scope} {f : Addr} {cd : Value} {A : Around} {outer : List Env} {s : Shared} {H : Hp} {E : XK} : PassH (cxOf (CX1 P w) P w K mg base N qual scope f cd A outer s H E) E :=
  fun _ _ _ _ _ _ _ I hcs hx => leave_held I hcs hx fun _ _ _ z => z
section
variable {X : Cx} {E : XK} {own : Nat} {fr : List Nat} {N' : List Str} {tg iter elt : Expr} {scope : Scope} {pos : Pos} {wi : TI} {g : CT TG} {te : CT TE}
theorem comp_runX {pins : List (Addr × Obj)} {s : Shared} {σ : St} {H : Hp} {Q : Addr → Hp → Prop} {use : Option (Value → Sem Unit)} {Q' : Value → Shared → Prop} {pos' : Pos} (hp : PassH X E) (hst : X.stack = X.env :: X.outer) (hfr0 : X.env.frame = some X.env.locals) (hc : X.calm = true) (hi : PI X tg iter wi) (hg : ∀ C s₃ H₃ fp, PG (cxComp X N' scope C s₃ H₃ fp) tg (g C s₃ H₃ fp)) (he : ∀ C s₃ H₃ fp, PE (cxCompX X E N' scope C s₃ H₃ fp) elt (te C s₃ H₃ fp))
    (hok : CompOk scope X.env.scope (N'.drop own)) (hfr : fr.map (fun j => X.N[j]?) = (N'.drop own).map some) (hown : own ≤ N'.length) (hs : ∀ x, foldedSetIterable iter X.env x = pure x)
    (I : Inv X pins σ H s) (h : tCompK own fr wi g te σ H Q)
    (fin : ∀ D C m H' s', Inv X pins σ H' s' → s'.heap.Ns C m → Spare X pins H' C → Q D H' → compPost (model X.prog X.w) X.A X.xe use Q' (.ref D) C (.ok .next) s') :
    wpAny (model X.prog X.w) X.A (comprehension (.ListComp elt [⟨tg, iter, [], 0⟩] scope pos) scope X.env pos' (newList []) false (eval iter X.env) use) Q' X.xe s := by
  refine wpAny_compX rfl hs (closureFor_run fun y hy hk => I.ok.has y.1 (hok.free y hy hk)) hok.kind hok.loc (thn (hi pins s σ H _ I h) fun xv s1 h1 => thn h1 fun itv s2 h2 => ?_)
  obtain ⟨it, fp, tn, J, H2, e, I2, T, st2, f2, body⟩ := h2
  subst e
  refine wpAny_newList (items := []) ?_
  have hD : H2 s2.heap.objs.size = none := I2.hok.fresh (Nat.le_refl _)
  have I3 : Inv X pins σ (upd H2 s2.heap.objs.size (.lst [])) { s2 with heap := s2.heap.push { cls := .type "list", data := .seq ([] : List Value).toArray } } := I2.lnew (its := []) (t' := s2.toks) .nil (by decide)
  obtain ⟨W, ⟨m0, w0⟩, turn⟩ := body _ hD
  generalize hDD : s2.heap.objs.size = D at hD I3 w0 turn ⊢
  have up3 : ∀ b o, s2.heap.get? b = some o → (s2.heap.push { cls := .type "list", data := .seq ([] : List Value).toArray }).get? b = some o := fun b o e => Heap.get?_push_of_some _ e
  have st3 : tn 0 (s2.heap.push { cls := .type "list", data := .seq ([] : List Value).toArray }) := T.keep _ _ _ st2 fun b _ o e => up3 b o e
  have fpne : ∀ b ∈ fp, b ≠ D := fun b hb e => by
    obtain ⟨o, ho, _⟩ := T.obj _ _ st2 b hb
    rw [e, ← hDD] at ho
    exact absurd (Heap.lt_size ho) (Nat.lt_irrefl _)
  have f3 : ∀ b ∈ fp, FpOk X pins (upd H2 D (.lst [])) b := fun b hb => ⟨by rw [upd_ne (fpne b hb)]; exact (f2 b hb).1, (f2 b hb).2⟩
  generalize hs3 : ({ s2 with heap := s2.heap.push { cls := .type "list", data := .seq ([] : List Value).toArray } } : Shared) = s3 at I3 ⊢
  have st3' : tn 0 s3.heap := by rw [← hs3]; exact st3
  generalize upd H2 D (.lst []) = H3 at I3 f3 w0
  have hob : ∀ b ∈ fp, ∃ o, s3.heap.get? b = some o := fun b hb => let ⟨o, ho, _⟩ := T.obj _ _ st3' b hb; ⟨o, ho⟩
  refine wpAny_newFunctionEnv hok.cell (by intro y hy; simp at hy) (fun h₁ hns₁ hsb₁ => ⟨rfl, ?_⟩) hok.kind
  have up4 : ∀ b o, s3.heap.get? b = some o → h₁.get? b = some o := fun b o e => (hsb₁.2 b (Nat.ne_of_lt (Heap.lt_size e))).trans (Heap.get?_push_of_some _ e)
  have I4 := inv_comp (N' := N') (own := own) (fr := fr) (scope := scope) (t := s3.toks + ([] : List (Str × Value)).length) I3 f3 hob hok hfr hown hns₁ hsb₁
  have st4 : tn 0 h₁ := T.keep _ _ _ st3' fun b _ o e => up4 b o e
  have stat : ∀ {H' : Hp} , (∀ b ∈ fp, H' b = none) → ∀ b ∈ fp, FpOk (cxComp X N' scope s3.heap.objs.size s3 H3 fp) [] H' b := fun hn b hb => by
    refine ⟨hn b hb, (I4.ok.exf b hb).1, I4.ok.exfs b hb, .inl hb, (I4.ok.exf b hb).2, fun p hp => by cases hp⟩
  -- the invariant of the def at a state of the block
  have back : ∀ {pins' : List (Addr × Obj)} {σ' : St} {H' : Hp} {s' : Shared}, Inv (cxComp X N' scope s3.heap.objs.size s3 H3 fp) pins' σ' H' s' → Inv X pins σ H' s' := fun I6 =>
    I3.call' (ch := fp) (by have := I6.os; exact this) I6.base I6.hok I6.bare fun b hb => ⟨(f3 b hb).2.2.2.1, (f3 b hb).2.1, (f3 b hb).2.2.2.2.1, (f3 b hb).2.2.2.2.2⟩
  have hC0 : X.s₀.heap.get? s3.heap.objs.size = none := by
    cases q : X.s₀.heap.get? s3.heap.objs.size with
    | none => rfl
    | some o => exact absurd (Heap.lt_size q) (Nat.not_lt.mpr I3.sz)
  have hCf : s3.heap.objs.size ∉ frs X.stack := fun hm => by
    rcases List.mem_cons.mp (I3.stkSub _ hm) with e | e
    · exact absurd I3.lt (by rw [← e]; exact Nat.lt_irrefl _)
    · exact I3.nofs (Nat.le_refl _) e
  -- an exception of the element
  have exc : ∀ (ex : Value) (s9 : Shared), (cxCompX X E N' scope s3.heap.objs.size s3 H3 fp).xe ex s9 → notedBy (model X.prog X.w) X.A (cxComp X N' scope s3.heap.objs.size s3 H3 fp).env (fun e s' => postX (model X.prog X.w) X.A X.xe X.env use Q' (.ref D) s3.heap.objs.size (.error e) s') ex s9 := by
    rintro ex s9 ⟨pins8, σ8, H8, s8, I8, hx⟩
    obtain ⟨ea, C0, a0, B, H', rfl, hos, hbare, hok', hfl, k1, k2, k3, k4, k5, k6, k7, hE⟩ := hx
    have I8o := back I8
    obtain ⟨m8, hn8, _⟩ := I8.loc
    obtain ⟨oC, esC, epC, hoC, hdC, rC⟩ := hn8
    have hBC : B.get? s3.heap.objs.size = some oC := k1 _ oC hoC I8.free hCf
    have hfl' := hfl
    rw [hst] at hfl'
    unfold notedBy
    rw [noteFrame_frame (a := (cxComp X N' scope s3.heap.objs.size s3 H3 fp).env) (b := X.env) rfl]
    refine wpAny_looks_onW (hst ▸ I8o.ok.frames) hfr0 hfl' fun h1 held u1 => ?_
    rw [← hst] at held
    refine ⟨m8, ⟨oC, esC, epC, held.1 _ _ hBC, hdC, rC⟩, fun h2 sb => ?_⟩
    refine passOn_held hfr0 (held_but hBC sb held) fun h3 held3 u3 => ?_
    refine hp pins σ H8 s8 _ [s3.heap.objs.size] _ I8o (fun b hb => by rw [List.mem_singleton.mp hb]; exact hC0) ⟨ea, C0, a0, _, H', rfl, hos, hbare, ?_, held3, fun b o q n hf hcs => ?_, fun b o q n hf => ?_, k3, fun b o q => ?_, k5, k6, k7, hE⟩
    · refine hok_hide hok' fun b hb => ?_
      rw [List.mem_singleton.mp hb]
      exact k3 _ oC hoC I8.free
    · exact PySem.W.hideAll_get _ (k1 b o q n hf) hcs
    · obtain ⟨sl, q1⟩ := k2 b o q n hf
      obtain ⟨_, o2, ho2, hd⟩ := hfl.2.2.1.mem hf
      have e2 : o2 = { o with slots := sl } := Option.some.inj (ho2.symm.trans q1)
      subst e2
      obtain ⟨sl2, q2⟩ := u1 b _ q1 hd
      have q3 : h2.get? b = some { o with slots := sl2 } := (sb.2 b fun z => hCf (z ▸ hf)).trans q2
      obtain ⟨sl3, q4⟩ := u3 b _ q3 (fun vs => hd vs)
      exact ⟨sl3, q4⟩
    · rcases k4 b o q with hm | ⟨o', q'⟩
      · exact .inl hm
      · by_cases hb : b = s3.heap.objs.size
        · exact .inr (.inl (by rw [hb]; exact List.mem_singleton.mpr rfl))
        · exact .inr (.inr ⟨o', PySem.W.hideAll_get _ q' fun z => hb (List.mem_singleton.mp z)⟩)
  have loop : codeAny (model X.prog X.w) X.A (.compLoop (.ListComp elt [⟨tg, iter, [], 0⟩] scope pos) 0 (.ref it) (.ref D) (cxComp X N' scope s3.heap.objs.size s3 H3 fp).env)
      (postX (model X.prog X.w) X.A X.xe X.env use Q' (.ref D) s3.heap.objs.size) { s3 with heap := h₁, toks := s3.toks + ([] : List (Str × Value)).length } := by
    refine codeAny_compLoop_gen (fun n s' => ∃ i σ' H', Inv (cxComp X N' scope s3.heap.objs.size s3 H3 fp) [] σ' H' s' ∧ tn i s'.heap ∧ (∀ b ∈ fp, H' b = none) ∧ W i n σ' H') ?_ m0 ⟨0, _, H3, I4, st4, fun b hb => (f3 b hb).1, w0⟩
    rintro n s5 ⟨i, σ5, H5, I5, st5, fr5, w5⟩
    rcases turn i n σ5 H5 w5 with ⟨stop, q⟩ | ⟨go, step⟩
    · refine wpAny_mono (T.done (cxComp X N' scope s3.heap.objs.size s3 H3 fp) rfl rfl rfl hc i [] s5 σ5 H5 (fun _ _ => False) I5 (stat fr5) st5 stop) (fun r s6 ⟨hr, I6⟩ => ?_) fun _ _ z => z.elim
      subst hr
      obtain ⟨m6, hn6, _⟩ := I6.loc
      refine fin D s3.heap.objs.size m6 H5 s6 (back I6) hn6 ⟨I6.free, Nat.ne_of_gt I3.lt, I3.sz, fun x c e z => ?_, fun p hp z => ?_⟩ q
      · obtain ⟨v, z1⟩ := I3.cell x c e
        exact absurd z1.lt (by rw [z]; exact Nat.lt_irrefl _)
      · exact absurd (Heap.lt_size (I3.pin p hp).1) (by rw [z]; exact Nat.lt_irrefl _)
    · refine wpAny_mono (T.item (cxComp X N' scope s3.heap.objs.size s3 H3 fp) rfl rfl rfl hc i [] s5 σ5 H5 (fun _ _ => False) I5 (stat fr5) st5 go) (fun r s6 ⟨u, hr, h6⟩ => ?_) fun _ _ z => z.elim
      subst hr
      refine wpAny_mono h6 (fun _ s7 ⟨x, H7, I7, r7, y7, st7, fr7⟩ => ?_) fun _ _ z => z.elim
      have I7' := I7.pinned (stat fr7) (T.obj _ _ st7)
      refine wpAny_mono (hg _ _ _ _ _ s7 σ5 H7 x u _ I7' r7 (step x H7 y7 _ _ _ _)) (fun _ s8 ⟨σ8, H8, I8, N, q8, hN⟩ => ?_) fun _ _ z => z.elim
      refine wpAny_mono (he _ _ _ _ _ s8 σ8 H8 N (I8.wish _) q8) (fun yv s9 ⟨y, H9, I9', r9, n9⟩ => ?_) exc
      have I9 := I9'.unwish
      obtain ⟨ys, m', hD9, hlt, hm, w9⟩ := hN y H9 n9
      refine wpAny_mono (mt_append (X := cxComp X N' scope s3.heap.objs.size s3 H3 fp) _ s9 σ8 H9 (.ref D) [y] (.ref D) [yv] (fun _ H' => H' = upd H9 D (.lst (ys ++ [y]))) I9 rfl (.cons r9 .nil) ⟨D, ys, y, rfl, rfl, hD9, hlt, rfl⟩) (fun _ s10 ⟨_, H10, I10, _, q10⟩ => ?_) fun _ _ z => z.elim
      subst q10
      have pin := fun b hb o e => I10.pin (b, o) (List.mem_append_right _ (List.mem_append_right _ (mem_pinsAt (h := s7.heap) (fp := fp) hb e)))
      refine ⟨m', hm, i + 1, σ8, _, I10.unpinned, T.keep _ _ _ st7 fun b hb o e => (pin b hb o e).1, fun b hb => ?_, w9⟩
      obtain ⟨o, e, d⟩ := T.obj _ _ st7 b hb
      exact (pin b hb o e).2.1
  exact codeAny_compStart_list loop (T.self X.A 0 _ _ _ st4 loop)
/-- [elt for x in iter], elt may raise -/
theorem pe_compX {x : Str} {px : Pos} (hp : PassH X E) (hst : X.stack = X.env :: X.outer) (hfr0 : X.env.frame = some X.env.locals) (fr : List Nat) (N' : List Str) (hc : X.calm = true) (hi : PI X (.Name x px) iter wi) (he : ∀ C s₃ H₃ fp, PE (cxCompX X E N' scope C s₃ H₃ fp) elt (te C s₃ H₃ fp)) (hN : N'.Nodup := by decide +kernel) (h0 : N'[0]? = some x := by rfl) (hx : scope.names.lookup x = some .local := by rfl)
    (hok : compOk scope X.env.scope (N'.drop 1) = true := by rfl) (hfr : fr.map (fun j => X.N[j]?) = (N'.drop 1).map some := by rfl) (hown : 1 ≤ N'.length := by decide) (hs : ∀ x, foldedSetIterable iter X.env x = pure x := by intro _; rfl) :
    PE X (.ListComp elt [⟨.Name x px, iter, [], 0⟩] scope pos) (tComp 1 fr wi (fun _ _ _ _ => gName 0) te) := by
  intro pins s σ H Q I h
  rw [eval_ListComp]
  refine comp_runX (use := none) hp hst hfr0 hc hi (fun _ _ _ _ => pg_name hN h0 (.inl (lookup_relabel_local hx)) (.inr (lookup_relabel_local hx))) he (compOk_of hok) hfr hown hs I h fun D C m H' s' I' hn sp q => ?_
  refine ⟨m, hn, fun h' sb => ⟨.ref D, H', ?_, rfl, q⟩⟩
  exact I'.turned (t' := s'.toks) (fun b o hb e => (sb.2 b hb).trans e) sp.1 sp.2.1 (.inr sp.2.2.1) sp.2.2.2.1 sp.2.2.2.2
/-- y = [elt for x in iter], elt may raise -/
theorem ps_setCompX {i : Nat} {x y : Str} {px py spos : Pos} (hp : PassH X E) (hst : X.stack = X.env :: X.outer) (hfr0 : X.env.frame = some X.env.locals) (fr : List Nat) (N' : List Str) (hNd : X.N.Nodup) (hy : X.N[i]? = some y) (hl : X.env.scope.names.lookup y = some .local) (hc : X.calm = true) (hi : PI X (.Name x px) iter wi) (he : ∀ C s₃ H₃ fp, PE (cxCompX X E N' scope C s₃ H₃ fp) elt (te C s₃ H₃ fp))
    (hsw : swapsWith (.ListComp elt [⟨.Name x px, iter, [], 0⟩] scope pos) (some (.Name y py)) spos.line X.env = pure true := by rfl) (hN : N'.Nodup := by decide +kernel) (h0 : N'[0]? = some x := by rfl) (hx : scope.names.lookup x = some .local := by rfl)
    (hok : compOk scope X.env.scope (N'.drop 1) = true := by rfl) (hfr : fr.map (fun j => X.N[j]?) = (N'.drop 1).map some := by rfl) (hown : 1 ≤ N'.length := by decide) (hs : ∀ x, foldedSetIterable iter X.env x = pure x := by intro _; rfl) :
    PS X (.Assign [.Name y py] (.ListComp elt [⟨.Name x px, iter, [], 0⟩] scope pos) spos) (tAsg (tComp 1 fr wi (fun _ _ _ _ => gName 0) te) (gName i)) := by
  intro pins s σ H D I h
  rw [exec_Assign_Name_used _ _ _ _ hsw]
  refine wpAny_bind (wpAny_standAt (wpAny_bind ?_))
  show wpAny _ X.A (do let _ ← comprehension (.ListComp elt [⟨.Name x px, iter, [], 0⟩] scope pos) scope X.env _ (newList []) false (eval iter X.env) (some (assign (.Name y py) X.env))) _ _ s
  refine wpAny_bind (wpAny_mono (comp_runX (use := some (assign (.Name y py) X.env)) (Q' := fun _ s' => SP X pins D .next s') hp hst hfr0 hc hi (fun _ _ _ _ => pg_name hN h0 (.inl (lookup_relabel_local hx)) (.inr (lookup_relabel_local hx))) he (compOk_of hok) hfr hown hs I h fun Dl C m H' s' I' hn sp q => ?_) (fun _ s' hq => wpAny_pure (wpAny_pure hq)) fun _ _ e => e)
  show wpAny _ X.A (assign (.Name y py) X.env (.ref Dl)) _ _ _
  refine wpAny_assign_Name (store_ok2 (v := .ref Dl) I' hNd hy (.inl hl) rfl (fun s2 I2 ⟨a, sb, ha⟩ => ?_) (.inr hl))
  have hCa : C ≠ a := by
    rcases ha with e | e
    · rw [e]; exact sp.2.1
    · exact fun z => sp.2.2.2.1 y a e z.symm
  refine ⟨m, hn.sameBut sb hCa, fun h' sb' => ⟨_, H', ?_, q⟩⟩
  exact I2.turned (t' := s2.toks) (fun b o hb e => (sb'.2 b hb).trans e) sp.1 sp.2.1 (.inr sp.2.2.1) sp.2.2.2.1 sp.2.2.2.2
/-- a call that may raise, in a block -/
theorem pe_knC {C : Addr} {s₃ : Shared} {H₃ : Hp} {fp : List Addr} {x : Str} {p cpos : Pos} {e : Expr} {es : List Expr} {t : TA} {ps : List Str} {sp : Sp} {k j : Nat} (kn : KnownX X.prog X.w X.K X.mg X.base k x ps sp) (hr : Room j X.A) (hg : Gl (cxCompX X E N' scope C s₃ H₃ fp) x)
    (ha : PA (cxCompX X E N' scope C s₃ H₃ fp) (e :: es) t) (hj : k ≤ j := by decide) (hdb : (x == ("__debug__" : Str)) = false := by decide)
    (he : starEach (e :: es) (cxCompX X E N' scope C s₃ H₃ fp).env = (false, eval e (cxCompX X E N' scope C s₃ H₃ fp).env) :: starEach es (cxCompX X E N' scope C s₃ H₃ fp).env := by rfl) (hpl : (backTo cpos (starEach es (cxCompX X E N' scope C s₃ H₃ fp).env)).any (·.1) = false := by rfl) :
    PE (cxCompX X E N' scope C s₃ H₃ fp) (.Call (.Name x p) (e :: es) [] cpos) (tCall sp [] E t) := by
  obtain ⟨f, fd, G, hk, hm, hb⟩ := kn
  exact pe_call (X := cxCompX X E N' scope C s₃ H₃ fp) G (hr.mono hj) hg hm hk hb .nil passC ha hdb he hpl
end
/-! ### the body of a try -/
def XEp (X : Cx) (pins : List (Addr × Obj)) (EX : St → XK) : Value → Shared → Prop := fun e s' => ∃ (σ : St) (H : Hp) (s : Shared), Inv X pins σ H s ∧ CX1 X.prog X.w X.stack H s (EX σ) e s'
/-- a statement that may raise; the exception's wish by the names as they stand -/
def QS (X : Cx) (st : Stmt) (t : (St → XK) → TS) : Prop := ∀ (pins : List (Addr × Obj)) (s : Shared) (σ : St) (H : Hp) (D : Ends) (EX : St → XK), Inv X pins σ H s → t EX D σ H → wpAny (model X.prog X.w) X.A (exec st X.env) (SP X pins D) (XEp X pins EX) s
def QSs (X : Cx) (st : List Stmt) (t : (St → XK) → TS) : Prop := ∀ (pins : List (Addr × Obj)) (s : Shared) (σ : St) (H : Hp) (D : Ends) (EX : St → XK), Inv X pins σ H s → t EX D σ H → wpAny (model X.prog X.w) X.A (execs st X.env) (SP X pins D) (XEp X pins EX) s
section
variable {X : Cx}
theorem qss_nil : QSs X [] (fun _ D σ H => D.nx σ H) := fun _ _ σ H _ _ I h => wpAny_execs_nil ⟨σ, H, I, h⟩
theorem qss_cons {st : Stmt} {rest : List Stmt} {t u : (St → XK) → TS} (h1 : QS X st t) (h2 : QSs X rest u) : QSs X (st :: rest) (fun EX => tSeq (t EX) (u EX)) := by
  intro pins s σ H D EX I h
  refine wpAny_execs_cons (thn (h1 pins s σ H { D with nx := u EX D } EX I h) fun fl s1 q => ?_)
  cases fl with
  | next =>
    obtain ⟨σ', H', I', q⟩ := q
    exact h2 pins s1 σ' H' D EX I' q
  | ret v => exact q
  | brk => exact q
  | cont => exact q
/-- x = f(..), f may raise -/
theorem qs_set {i : Nat} {y x : Str} {p cpos pos pos' : Pos} {e : Expr} {es : List Expr} {t : TA} {ps : List Str} {sp : Sp} {k j : Nat} (kn : KnownX X.prog X.w X.K X.mg X.base k x ps sp) (hr : Room j X.A) (hg : Gl X x) (ha : PA X.nox (e :: es) t) (hN : X.N.Nodup) (hi : X.N[i]? = some y) (hx : Loc X.env.scope y)
    (hj : k ≤ j := by decide) (hdb : (x == ("__debug__" : Str)) = false := by decide)
    (he : starEach (e :: es) X.env = (false, eval e X.env) :: starEach es X.env := by rfl) (hpl : (backTo cpos (starEach es X.env)).any (·.1) = false := by rfl) (hs : swapsWith (.Call (.Name x p) (e :: es) [] cpos) (some (.Name y pos')) pos.line X.env = pure false := by rfl)
    (hf : X.fn y = true ∨ X.env.scope.names.lookup y = some .local := by first | exact .inl rfl | exact .inr rfl | assumption) :
    QS X (.Assign [.Name y pos'] (.Call (.Name x p) (e :: es) [] cpos) pos) (fun EX D σ H => t σ H fun vs H1 => sp vs H1 (fun v H2 => D.nx (σ.set i (some v)) H2) (EX σ)) := by
  intro pins s σ H D EX I h
  obtain ⟨f, fd, G, hk, hm, hb⟩ := kn
  refine wpAny_Assign_Name (wpAny_Call_Name_kw (ld_glob I hg hm ?_ hdb)) hs
  refine PySem.W.callWith_K (h₀ := X.base) I.ok.mod.kin hk (wpAny_mono (ha cpos pins s σ H _ (I.wish _) h) (fun us s1 ⟨vs, H1, I1, r, q⟩ => ⟨I1.kIn, ?_⟩) fun _ _ z => z.elim) he hpl
  have I1' : Inv X pins σ H1 s1 := I1.unwish
  have hl : (us ++ []).length = ps.length := by rw [List.append_nil, ← r.length]; exact G.len _ _ _ _ q
  have bb := hb s1 us I1'.kIn hl
  rw [List.append_nil] at bb
  refine wpAny_call (codeAny_mono (G.run X.A X.stack s1 H1 ⟨us, []⟩ us vs _ (EX σ) (hr.mono hj) I1'.env0 bb r q) fun rr s' hq => ?_)
  cases rr with
  | error ex => exact ⟨σ, H1, s1, I1', hq⟩
  | ok fl =>
    cases fl with
    | ret u =>
      obtain ⟨v, H', I2, r2, q2⟩ := I1'.after hq
      exact store_ok I2 hN hi hx r2 (fun s2 I3 => ⟨_, H', I3, q2⟩) hf
    | next => exact False.elim hq
    | brk => exact False.elim hq
    | cont => exact False.elim hq
/-- try: .., except .. -/
theorem ps_tryQ {body : List Stmt} {tb : (St → XK) → TS} {h0 : ExceptHandler} {hs : List ExceptHandler} {th : Addr → Addr → TS} {pos : Pos} (hb : QSs X body tb) (hh : PH X (h0 :: hs) th) (hst : X.stack = X.env :: X.outer) (hfr : X.env.frame = some X.env.locals) :
    PS X (.Try body (h0 :: hs) [] [] pos) (fun D σ H => ∃ EX : St → XK, tb EX D σ H ∧ ∀ (σ' : St) (ea C : Addr) (H' : Hp), EX σ' (.ref C) none H' → H' ea = none → th ea C D σ' (upd H' ea (ExcO ea C))) := by
  rintro pins s σ H D I ⟨EX, h1, h2⟩
  refine wpAny_Try_except (wpAny_mono (hb pins s σ H D EX I h1) (fun fl s1 q => ?_) fun ex s' ⟨σ', H', s2, I', hx⟩ => ?_)
  · cases fl with
    | next => exact wpAny_execs_nil q
    | ret u => exact q
    | brk => exact q
    | cont => exact q
  · exact catch_ok I' hst hfr hx fun ea C H2 s3 _ cg hn hE => hh pins σ' _ ea C s3 D cg (h2 σ' ea C H2 hE hn)
end
/-! ### a block that raises at the turn j -/
section
theorem comp_fail {K : PySem.W.Frag} {a : Addr} {xs : List V} {fr : List Nat} {te : CT TE} {σ : St} {H1 : Hp} {Q : Addr → Hp → Prop} (hS : SqL K H1 a xs) (j : Nat) (hj : j < xs.length) (hz : xs.length ≤ sizeLine)
    (turn : ∀ (i : Nat) H x, i ≤ j → xs[i]? = some x → Same H1 H → ∀ C₀ s₀ H₀ fp, te C₀ s₀ H₀ fp (some x :: fr.map fun j => (σ[j]?).getD none) H fun _ H4 => Same H H4 ∧ i < j) :
    ∀ D, H1 D = none → ∃ W : Nat → Nat → St → Hp → Prop, (∃ m, W 0 m (stComp 1 fr σ) (upd H1 D (.lst []))) ∧ ∀ i m σ' H', W i m σ' H' →
    ((Itl K a).stop i H' ∧ Q D H') ∨ ((Itl K a).go i H' ∧ ∀ x H2, (Itl K a).yld i H' x H2 → ∀ C₀ s₀ H₀ fp, gName 0 x σ' H2 fun σ3 H3 => ∃ N : VK, te C₀ s₀ H₀ fp σ3 H3 N ∧ ∀ y H4, N y H4 →
      ∃ ys m', H4 D = some (.lst ys) ∧ ys.length < sizeLine ∧ m' < m ∧ W (i + 1) m' σ3 (upd H4 D (.lst (ys ++ [y])))) := by
  intro D hD
  have s0 : ∀ o, Same H1 (upd H1 D o) := fun o b u e => by rw [upd_ne (ne_of_none e hD)]; exact e
  refine ⟨fun i m σ' H' => m = j + 1 - i ∧ i ≤ j ∧ Same H1 H' ∧ (∃ ys : List V, H' D = some (.lst ys) ∧ ys.length = i) ∧ ∃ z, σ' = z :: fr.map fun j => (σ[j]?).getD none, ⟨j + 1, rfl, Nat.zero_le _, s0 _, ⟨[], upd_same, rfl⟩, none, rfl⟩, ?_⟩
  rintro i m σ' H' ⟨rfl, hi, sm, ⟨ys, hl, hyl⟩, z, rfl⟩
  refine .inr ⟨⟨xs, xs[i], sm.seq hS, List.getElem?_eq_getElem (Nat.lt_of_le_of_lt hi hj)⟩, fun x H2 yl C₀ s₀ H₀ fp => ?_⟩
  obtain ⟨e, hx⟩ := yl
  subst e
  refine ⟨_, turn i _ x hi (hx xs (sm.seq hS)) sm C₀ s₀ H₀ fp, fun y H4 ⟨s4, hlt⟩ => ⟨ys, j + 1 - (i + 1), s4 _ _ hl, by omega, by omega, rfl, hlt, ?_, ⟨ys ++ [y], upd_same, by rw [List.length_append, hyl]; rfl⟩, _, rfl⟩⟩
  intro b u e
  rw [upd_ne (ne_of_none e hD)]
  exact s4 _ _ (sm _ _ e)
end
end L2

set_option Elab.async false
set_option linter.all false
set_option maxRecDepth 100000
set_option maxHeartbeats 4000000
/-! Rules of our own, part 19: str of a text, max of a list, a loop over a text, `in` by data, an exception held against None and against classes that it is not of, `except C:`. -/
namespace L2
open PySem PySem.Spec PyProof.Rows
section
variable {X : Cx}
theorem call_str_any : CallR X (.type "str") (fun xs H Q => (∃ i, xs = [.int i] ∧ i.natAbs.log2 < 1920 ∧ Q (.str (toString i)) H) ∨ ∃ z, xs = [.str z] ∧ Q (.str z) H) := by
  intro pins s σ H xs us Q I r h
  rcases h with ⟨i, rfl, hz, q⟩ | ⟨z, rfl, q⟩
  · obtain ⟨u, rfl, t, rfl⟩ := vals1 r
    exact PySem.P.str_of_int hz ⟨.str _, H, I.tok _, ⟨_, rfl⟩, q⟩
  · obtain ⟨u, rfl, t, rfl⟩ := vals1 r
    exact PySem.P.str_of_str ⟨.str _, H, I, ⟨_, rfl⟩, q⟩
theorem call_maxL (hc : X.calm = true) : CallR X (.builtin "max") (fun xs H Q => ∃ (p : Addr) (ns : List Int), xs = [.ref p] ∧ SqL X.K H p (ns.map V.int) ∧ 0 < ns.length ∧ ∀ M : Int, M ∈ ns → (∀ a ∈ ns, a ≤ M) → Q (.int M) H) := by
  intro pins s σ H xs us Q I r h
  obtain ⟨p, ns, rfl, hq, hne, q⟩ := h
  obtain ⟨u, rfl, rx⟩ := vals1 r
  cases rx
  obtain ⟨its, r1, p1, hz⟩ := I.list hq
  have hi := intsAre_of r1
  obtain ⟨ys, ey⟩ := hi.allInts.items
  have eN : ns = ys.toList.map (·.1) := by rw [← hi.numsOf, ← nums_intItems, ← ey]
  have hsz : 0 < ys.size := by
    rw [eN, List.length_map, Array.length_toList] at hne
    exact hne
  have p2 := p1.isList
  rw [ey] at p2
  refine max_intList (I.ok.hd hc) p2 hsz fun v h' tk hv hk => ?_
  obtain ⟨t, rfl⟩ := intItems_at hv
  obtain ⟨_, b2⟩ := argBest_gt (numAt ys) (ys.size - 1)
  refine ⟨.int _, H, I.kept hk, ⟨_, rfl⟩, q _ ?_ fun a ha => ?_⟩
  · rw [eN, numAt_eq]
    exact getD_mem (by rw [List.length_map, Array.length_toList]; omega)
  · rw [eN] at ha
    obtain ⟨j, hj, rfl⟩ := mem_getD ha
    rw [List.length_map, Array.length_toList] at hj
    rw [← numAt_eq]
    exact b2 j (by omega)
theorem for_str {x : Str} {g : TG} {tb : TS} {D : Ends} {σ : St} {H : Hp} (Pv : Nat → St → Hp → Prop) (h0 : Pv 0 σ H)
    (hs : ∀ i c σ H, x.cps.toList[i]? = some c → Pv i σ H → g (.str ⟨#[c]⟩) σ H fun σ2 H2 => tb { D with nx := Pv (i + 1), ct := Pv (i + 1), bk := D.nx } σ2 H2) (hd : ∀ σ H, Pv x.length σ H → D.nx σ H) :
    ∃ W : Nat → Nat → St → Hp → Prop, (∃ m, W 0 m σ H) ∧ ∀ i m σ H, W i m σ H →
      ((Its x).stop i H ∧ D.nx σ H) ∨ ((Its x).go i H ∧ ∃ N : St → Hp → Prop, (∀ σ' H', N σ' H' → ∃ m', m' < m ∧ W (i + 1) m' σ' H') ∧ ∀ v H', (Its x).yld i H v H' → g v σ H' fun σ2 H2 => tb { D with nx := N, ct := N, bk := D.nx } σ2 H2) := by
  refine ⟨fun i m σ H => m = x.length - i ∧ i ≤ x.length ∧ Pv i σ H, ⟨x.length, by simp, Nat.zero_le _, h0⟩, ?_⟩
  rintro i m σ H ⟨rfl, hi, p⟩
  by_cases hlt : i < x.length
  · refine .inr ⟨hlt, Pv (i + 1), fun σ' H' p' => ⟨x.length - (i + 1), by omega, rfl, hlt, p'⟩, fun v H' y => ?_⟩
    obtain ⟨e, c, hc, e2⟩ := y
    subst e e2
    exact hs i c σ _ hc p
  · have e : i = x.length := by omega
    subst e
    exact .inl ⟨Nat.le_refl _, hd σ H p⟩
theorem op_eqDt (hu : X.A.units + 64 < cLine) : OpR X (compareOp .Eq) (fun x y H Q => ∃ d e, Dt H x d ∧ Dt H y e ∧ PySem.SeqAt.shaped d = true ∧ PySem.SeqAt.shaped e = true ∧ Q (.bl (PyData.eqv d e)) H) := by
  intro pins s σ H x y v u Q I rx ry h
  obtain ⟨d, e, hd, he, s1, s2, q⟩ := h
  obtain ⟨as, ra⟩ := hd.reads I v rx
  obtain ⟨bs, rb⟩ := he.reads I u ry
  exact eq_dataH ra rb s1 s2 hu ⟨.bl _, H, I, rfl, q⟩
theorem op_neDt (hu : X.A.units + 64 < cLine) : OpR X (compareOp .NotEq) (fun x y H Q => ∃ d e, Dt H x d ∧ Dt H y e ∧ PySem.SeqAt.shaped d = true ∧ PySem.SeqAt.shaped e = true ∧ Q (.bl (!PyData.eqv d e)) H) := by
  intro pins s σ H x y v u Q I rx ry h
  obtain ⟨d, e, hd, he, s1, s2, q⟩ := h
  obtain ⟨as, ra⟩ := hd.reads I v rx
  obtain ⟨bs, rb⟩ := he.reads I u ry
  exact ne_dataH ra rb s1 s2 hu ⟨.bl _, H, I, rfl, q⟩
theorem op_inDt (hu : X.A.units + 65 < cLine) : OpR X (compareOp .In) (fun x y H Q => ∃ (a : Addr) (xs : List V) (ds : List PyData) (d : PyData), y = .ref a ∧ H a = some (.lst xs) ∧ Dts H xs ds ∧ Dt H x d ∧ PySem.SeqAt.shaped (.list ds) = true ∧ PySem.SeqAt.shaped d = true ∧ Q (.bl (ds.any fun e => PyData.eqv e d)) H) := by
  intro pins s σ H x y v u Q I rx ry h
  obtain ⟨a, xs, ds, d, rfl, ha, hs, hd, s1, s2, q⟩ := h
  obtain ⟨as, ra⟩ := (Dt.lst ha hs).reads I u ry
  obtain ⟨bs, rb⟩ := hd.reads I v rx
  exact PySem.SeqAt.in_list_reads ra rb (PySem.SeqAt.canLay_of_shaped s1) (PySem.SeqAt.canLay_of_shaped s2) (room_in_shaped s2 hu) ⟨.bl _, H, I, rfl, q⟩
end
end L2

/-! Turnings as lists of naturals: the mathematics apart from the model. -/
namespace TM
/-- a row that has each place below n once -/
def IsT (n : Nat) (t : List Nat) : Prop := t.Perm (List.range n)
theorem IsT.length {n : Nat} {t : List Nat} (h : IsT n t) : t.length = n := by rw [List.Perm.length_eq h, List.length_range]
theorem IsT.lt {n : Nat} {t : List Nat} (h : IsT n t) {x : Nat} (hx : x ∈ t) : x < n := List.mem_range.mp ((List.Perm.mem_iff h).mp hx)
theorem IsT.mem {n : Nat} {t : List Nat} (h : IsT n t) {x : Nat} (hx : x < n) : x ∈ t := (List.Perm.mem_iff h).mpr (List.mem_range.mpr hx)
theorem IsT.nodup {n : Nat} {t : List Nat} (h : IsT n t) : t.Nodup := (List.Perm.nodup_iff h).mpr List.nodup_range
theorem IsT.range (n : Nat) : IsT n (List.range n) := List.Perm.refl _
theorem IsT.get_lt {n : Nat} {t : List Nat} (h : IsT n t) {i x : Nat} (hx : t[i]? = some x) : x < n := h.lt (List.mem_of_getElem? hx)
theorem IsT.at {n : Nat} {t : List Nat} (h : IsT n t) {i : Nat} (hi : i < n) : ∃ x, t[i]? = some x ∧ x < n := by
  have hi' : i < t.length := by rw [h.length]; exact hi
  exact ⟨t[i], List.getElem?_eq_getElem hi', h.lt (List.getElem_mem hi')⟩
theorem perm_of_sub : ∀ {t l : List Nat}, t.Nodup → (∀ x ∈ t, x ∈ l) → l.length ≤ t.length → t.Perm l
  | [], l, _, _, h => by
    have e : l = [] := List.length_eq_zero_iff.mp (Nat.le_zero.mp h)
    subst e
    exact List.Perm.refl _
  | a :: r, l, hn, hs, h => by
    obtain ⟨h1, h2⟩ := List.nodup_cons.mp hn
    have ha : a ∈ l := hs a List.mem_cons_self
    have p := List.perm_cons_erase ha
    have ih : r.Perm (l.erase a) := perm_of_sub h2 (fun x hx => by
      have hx' := hs x (List.mem_cons_of_mem _ hx)
      have ne : x ≠ a := fun e => h1 (e ▸ hx)
      rcases List.mem_cons.mp ((List.Perm.mem_iff p).mp hx') with e | e
      · exact absurd e ne
      · exact e) (by rw [List.length_erase_of_mem ha]; simp only [List.length_cons] at h; omega)
    exact (List.Perm.cons a ih).trans p.symm
/-- a row of n places that differ and lie below n has all of them -/
theorem isT_of {n : Nat} {t : List Nat} (hl : t.length = n) (hn : t.Nodup) (hlt : ∀ x ∈ t, x < n) : IsT n t :=
  perm_of_sub hn (fun x hx => List.mem_range.mpr (hlt x hx)) (by rw [hl, List.length_range]; exact Nat.le_refl _)

/-- a turned part: the places of a list, each taken to the next one -/
theorem turn_part {part row : List Nat} (hp : part ≠ []) (h : ∀ j, j < part.length → row[part.getD j 0]? = some (part.getD ((j + 1) % part.length) 0)) : (part.map fun x => row.getD x 0).Perm part := by
  have e : (part.map fun x => row.getD x 0) = part.drop 1 ++ part.take 1 := by
    apply List.ext_getElem?
    intro j
    have hL : 0 < part.length := List.length_pos_iff.mpr hp
    by_cases hj : j < part.length
    · rw [List.getElem?_map, List.getElem?_eq_getElem hj]
      have q := h j hj
      rw [List.getD_eq_getElem?_getD, List.getElem?_eq_getElem hj] at q
      simp only [Option.getD_some] at q
      simp only [Option.map_some, List.getD_eq_getElem?_getD, q, Option.getD_some]
      by_cases hj1 : j + 1 < part.length
      · rw [Nat.mod_eq_of_lt hj1, List.getElem?_append_left (by rw [List.length_drop]; omega), List.getElem?_drop, Nat.add_comm 1 j, List.getElem?_eq_getElem hj1]
        rfl
      · have hj2 : j + 1 = part.length := by omega
        rw [hj2, Nat.mod_self, List.getElem?_append_right (by rw [List.length_drop]; omega), List.length_drop]
        rw [show j - (part.length - 1) = 0 by omega, List.getElem?_take]
        simp [hL]
    · have h1 : part.length ≤ j := Nat.le_of_not_lt hj
      rw [List.getElem?_eq_none (by rw [List.length_map]; exact h1), List.getElem?_eq_none (by rw [List.length_append, List.length_drop, List.length_take]; omega)]
  rw [e]
  have q : (part.drop 1 ++ part.take 1).Perm (part.take 1 ++ part.drop 1) := List.perm_append_comm
  rwa [List.take_append_drop] at q
/-- between two parts of the knots: the first k of strewn are turned among themselves, the others stay -/
structure Knots (n : Nat) (strewn : List Nat) (k : Nat) (row : List Nat) : Prop where
  len : row.length = n
  stay : ∀ x ∈ strewn.drop k, row[x]? = some x
  turn : ((strewn.take k).map fun x => row.getD x 0).Perm (strewn.take k)
theorem Knots.start {n : Nat} {strewn : List Nat} (h : IsT n strewn) : Knots n strewn 0 (List.range n) := by
  refine ⟨List.length_range, fun x hx => ?_, List.Perm.refl _⟩
  have hx' : x < n := h.lt (by simpa using hx)
  rw [List.getElem?_range hx']
theorem Knots.done {n : Nat} {strewn row : List Nat} {k : Nat} (h : IsT n strewn) (kn : Knots n strewn k row) (hk : n ≤ k) : IsT n row := by
  have h1 := kn.turn
  rw [List.take_of_length_le (by rw [h.length]; exact hk)] at h1
  have e : row = (List.range n).map fun x => row.getD x 0 := by
    apply List.ext_getElem?
    intro i
    rw [List.getElem?_map]
    by_cases hi : i < n
    · rw [List.getElem?_range hi]
      have hi' : i < row.length := by rw [kn.len]; exact hi
      simp [List.getElem?_eq_getElem hi']
    · rw [List.getElem?_eq_none (by rw [kn.len]; omega), List.getElem?_eq_none (by rw [List.length_range]; omega)]
      rfl
  unfold IsT
  rw [e]
  exact ((List.Perm.map _ h.symm).trans h1).trans h
/-- amid a part: the first j of it have their new places -/
structure Amid (n : Nat) (part : List Nat) (row : List Nat) (j : Nat) (now : List Nat) : Prop where
  len : now.length = n
  out : ∀ x, x ∉ part.take j → now[x]? = row[x]?
  ins : ∀ i, i < j → now[part.getD i 0]? = some (part.getD ((i + 1) % part.length) 0)
theorem Amid.start {n : Nat} {part row : List Nat} (hl : row.length = n) : Amid n part row 0 row := ⟨hl, fun _ _ => rfl, fun i hi => absurd hi (Nat.not_lt_zero _)⟩
theorem Amid.step {n : Nat} {part row now : List Nat} {j x y : Nat} (a : Amid n part row j now) (hn : part.Nodup) (hlt : ∀ x ∈ part, x < n) (hx : part[j]? = some x) (hy : part[(j + 1) % part.length]? = some y) : Amid n part row (j + 1) (now.set x y) := by
  have hj : j < part.length := (List.getElem?_eq_some_iff.mp hx).1
  have hxn : x < now.length := by rw [a.len]; exact hlt x (List.mem_of_getElem? hx)
  refine ⟨by rw [List.length_set]; exact a.len, fun z hz => ?_, fun i hi => ?_⟩
  · have hz2 : z ∉ part.take j ∧ z ≠ x := by
      rw [List.take_add_one, hx] at hz
      simp only [Option.toList_some, List.mem_append, List.mem_singleton, not_or] at hz
      exact hz
    rw [List.getElem?_set_ne (Ne.symm hz2.2)]
    exact a.out z hz2.1
  · by_cases hij : i = j
    · subst hij
      rw [List.getD_eq_getElem?_getD, hx, List.getD_eq_getElem?_getD, hy]
      simp only [Option.getD_some]
      rw [List.getElem?_set_self hxn]
    · have hi' : i < j := by omega
      have hil : i < part.length := by omega
      have ne : part.getD i 0 ≠ x := by
        intro e
        rw [List.getD_eq_getElem?_getD, List.getElem?_eq_getElem hil, Option.getD_some] at e
        have e2 := (List.getElem?_eq_some_iff.mp hx).2
        exact hij ((List.getElem_inj hn).mp (e.trans e2.symm))
      rw [List.getElem?_set_ne (Ne.symm ne)]
      exact a.ins i hi'
theorem Amid.done {n : Nat} {strewn row now part : List Nat} {k : Nat} (h : IsT n strewn) (kn : Knots n strewn k row) (hp : part ≠ []) (he : part = (strewn.drop k).take part.length) (a : Amid n part row part.length now) :
    Knots n strewn (k + part.length) now := by
  have hsplit : strewn = strewn.take k ++ (part ++ strewn.drop (k + part.length)) := by
    have e1 : strewn.drop k = part ++ strewn.drop (k + part.length) := by
      have := List.take_append_drop part.length (strewn.drop k)
      rw [← he, List.drop_drop] at this
      exact this.symm
    rw [← e1, List.take_append_drop]
  have hnd := h.nodup
  rw [hsplit] at hnd
  have hd1 := (List.nodup_append.mp hnd)
  have hd2 := (List.nodup_append.mp hd1.2.1)
  have outTake : ∀ x ∈ strewn.take k, x ∉ part := fun x hx hq => hd1.2.2 x hx x (List.mem_append_left _ hq) rfl
  have outDrop : ∀ x ∈ strewn.drop (k + part.length), x ∉ part := fun x hx hq => hd2.2.2 x hq x hx rfl
  have allP : part.take part.length = part := List.take_of_length_le (Nat.le_refl _)
  refine ⟨a.len, fun x hx => ?_, ?_⟩
  · rw [a.out x (by rw [allP]; exact outDrop x hx)]
    refine kn.stay x ?_
    have e1 : strewn.drop k = part ++ strewn.drop (k + part.length) := by
      have := List.take_append_drop part.length (strewn.drop k)
      rw [← he, List.drop_drop] at this
      exact this.symm
    rw [e1]
    exact List.mem_append_right _ hx
  · have e2 : strewn.take (k + part.length) = strewn.take k ++ part := by
      rw [List.take_add, ← he]
    rw [e2, List.map_append]
    refine List.Perm.append ?_ (turn_part hp fun j hj => a.ins j hj)
    have e3 : ((strewn.take k).map fun x => now.getD x 0) = (strewn.take k).map fun x => row.getD x 0 := by
      apply List.map_congr_left
      intro x hx
      rw [List.getD_eq_getElem?_getD, List.getD_eq_getElem?_getD, a.out x (by rw [allP]; exact outTake x hx)]
    rw [e3]
    exact kn.turn
end TM

/-! Backs and one behind the other, on rows of naturals. -/
namespace TM
theorem IsT.map {n : Nat} {s t : List Nat} (hs : IsT n s) (ht : IsT n t) : IsT n (s.map fun x => t.getD x 0) := by
  have e : ((List.range n).map fun x => t.getD x 0) = t := by
    apply List.ext_getElem?
    intro i
    rw [List.getElem?_map]
    by_cases hi : i < n
    · rw [List.getElem?_range hi]
      have hi' : i < t.length := by rw [ht.length]; exact hi
      simp [List.getElem?_eq_getElem hi']
    · rw [List.getElem?_eq_none (by rw [List.length_range]; omega), List.getElem?_eq_none (by rw [ht.length]; omega)]
      rfl
  have h1 := List.Perm.map (fun x => t.getD x 0) hs
  rw [e] at h1
  exact h1.trans ht
theorem getD_of {t : List Nat} {i x : Nat} (h : t[i]? = some x) : t.getD i 0 = x := by rw [List.getD_eq_getElem?_getD, h]; rfl
theorem IsT.hit {n : Nat} {t : List Nat} (h : IsT n t) {y : Nat} (hy : y < n) : ∃ x, t[x]? = some y ∧ x < n := by
  obtain ⟨x, hx⟩ := List.getElem?_of_mem (h.mem hy)
  exact ⟨x, hx, by have := (List.getElem?_eq_some_iff.mp hx).1; rwa [h.length] at this⟩
theorem IsT.inj {n : Nat} {t : List Nat} (h : IsT n t) {i j x : Nat} (hi : t[i]? = some x) (hj : t[j]? = some x) : i = j := by
  obtain ⟨h1, e1⟩ := List.getElem?_eq_some_iff.mp hi
  obtain ⟨h2, e2⟩ := List.getElem?_eq_some_iff.mp hj
  exact (List.getElem_inj h.nodup).mp (e1.trans e2.symm)
/-- b leads back from where t leads, so far for the first k places -/
structure Back (n : Nat) (t : List Nat) (k : Nat) (b : List Nat) : Prop where
  len : b.length = n
  ret : ∀ x y, x < k → t[x]? = some y → b[y]? = some x
theorem Back.start {n : Nat} {t b : List Nat} (h : b.length = n) : Back n t 0 b := ⟨h, fun _ _ h => absurd h (Nat.not_lt_zero _)⟩
theorem Back.step {n : Nat} {t b : List Nat} {k y : Nat} (hT : IsT n t) (h : Back n t k b) (hy : t[k]? = some y) : Back n t (k + 1) (b.set y k) := by
  have hyn : y < b.length := by rw [h.len]; exact hT.get_lt hy
  refine ⟨by rw [List.length_set]; exact h.len, fun x z hx hz => ?_⟩
  by_cases e : x = k
  · subst e
    rw [hy] at hz
    cases hz
    rw [List.getElem?_set_self hyn]
  · have ne : y ≠ z := fun q => e (hT.inj hz (q ▸ hy))
    rw [List.getElem?_set_ne ne]
    exact h.ret x z (by omega) hz
theorem Back.lt {n : Nat} {t b : List Nat} (hT : IsT n t) (h : Back n t n b) {y x : Nat} (hy : b[y]? = some x) : x < n ∧ t[x]? = some y := by
  have hyn : y < n := by have := (List.getElem?_eq_some_iff.mp hy).1; rwa [h.len] at this
  obtain ⟨z, hz, hzn⟩ := hT.hit hyn
  have := h.ret z y hzn hz
  rw [hy] at this
  cases this
  exact ⟨hzn, hz⟩
theorem Back.get {n : Nat} {t b : List Nat} (hT : IsT n t) (h : Back n t n b) {y : Nat} (hy : y < n) : ∃ x, b[y]? = some x ∧ x < n ∧ t[x]? = some y := by
  obtain ⟨x, hx, hxn⟩ := hT.hit hy
  exact ⟨x, h.ret x y hxn hx, hxn, hx⟩
theorem Back.mem_lt {n : Nat} {t b : List Nat} (hT : IsT n t) (h : Back n t n b) {x : Nat} (hx : x ∈ b) : x < n := by
  obtain ⟨y, hy⟩ := List.getElem?_of_mem hx
  exact (h.lt hT hy).1
theorem Back.isT {n : Nat} {t b : List Nat} (hT : IsT n t) (h : Back n t n b) : IsT n b := by
  refine isT_of h.len ?_ fun x hx => h.mem_lt hT hx
  refine List.pairwise_iff_getElem.mpr fun i j hi hj hij e => ?_
  have h1 := (h.lt hT (List.getElem?_eq_getElem hi)).2
  have h2 := (h.lt hT (List.getElem?_eq_getElem hj)).2
  rw [e, h2] at h1
  cases h1
  exact Nat.lt_irrefl _ hij
theorem Back.range (n : Nat) : Back n (List.range n) n (List.range n) := ⟨List.length_range, fun x y hx hy => by
  rw [List.getElem?_range hx] at hy
  cases hy
  exact List.getElem?_range hx⟩
end TM

/-! Loops of a turning: steps along it, the period of a place, the loop from a place. -/
namespace TM
/-- k steps from x -/
def it (t : List Nat) : Nat → Nat → Nat
  | 0, x => x
  | k + 1, x => t.getD (it t k x) 0
theorem it_succ (t : List Nat) (k x : Nat) : it t (k + 1) x = t.getD (it t k x) 0 := rfl
theorem it_add (t : List Nat) (j : Nat) : ∀ (k x : Nat), it t (j + k) x = it t k (it t j x)
  | 0, _ => rfl
  | k + 1, x => by
    show t.getD (it t (j + k) x) 0 = t.getD (it t k (it t j x)) 0
    rw [it_add t j k x]
theorem it_one (t : List Nat) (x : Nat) : it t 1 x = t.getD x 0 := rfl
section
variable {n : Nat} {t : List Nat} (h : IsT n t)
include h
theorem IsT.step_lt {x : Nat} (hx : x < n) : t.getD x 0 < n := by
  obtain ⟨y, hy, hyn⟩ := h.at hx
  rw [getD_of hy]
  exact hyn
theorem IsT.get_step {x : Nat} (hx : x < n) : t[x]? = some (t.getD x 0) := by
  obtain ⟨y, hy, _⟩ := h.at hx
  rw [getD_of hy, hy]
theorem IsT.it_lt {x : Nat} (hx : x < n) : ∀ k, it t k x < n
  | 0 => hx
  | k + 1 => h.step_lt (IsT.it_lt hx k)
theorem IsT.step_inj {x y : Nat} (hx : x < n) (hy : y < n) (e : t.getD x 0 = t.getD y 0) : x = y := h.inj (h.get_step hx) (e ▸ h.get_step hy)
theorem IsT.it_inj {x y : Nat} (hx : x < n) (hy : y < n) : ∀ k, it t k x = it t k y → x = y
  | 0, e => e
  | k + 1, e => IsT.it_inj hx hy k (h.step_inj (h.it_lt hx k) (h.it_lt hy k) e)
end
theorem len_le_of {l : List Nat} {n : Nat} (hn : l.Nodup) (hlt : ∀ x ∈ l, x < n) : l.length ≤ n := by
  refine Nat.le_of_not_lt fun hc => ?_
  have p := perm_of_sub hn (fun x hx => List.mem_range.mpr (hlt x hx)) (by rw [List.length_range]; omega)
  have := p.length_eq
  rw [List.length_range] at this
  omega
/-- the least number of steps, from one on, that lead back to x -/
def per (t : List Nat) (x : Nat) : Nat := ((List.range t.length).find? fun j => it t (j + 1) x == x).getD 0 + 1
section
variable {n : Nat} {t : List Nat} (h : IsT n t)
include h
theorem IsT.back_some {x : Nat} (hx : x < n) : ∃ j, j < n ∧ it t (j + 1) x = x := by
  refine Classical.byContradiction fun hc => ?_
  have nd : ((List.range (n + 1)).map fun k => it t k x).Nodup := by
    refine List.pairwise_iff_getElem.mpr fun i j hi hj hij e => ?_
    simp only [List.length_map, List.length_range] at hi hj
    simp only [List.getElem_map, List.getElem_range] at e
    have e2 : it t (j - i) x = x := by
      have e3 : it t j x = it t i (it t (j - i) x) := by rw [← it_add]; congr 1; omega
      rw [e3] at e
      exact (h.it_inj hx (h.it_lt hx _) i e).symm
    exact hc ⟨j - i - 1, by omega, by rw [show j - i - 1 + 1 = j - i by omega]; exact e2⟩
  have := len_le_of nd fun y hy => by
    obtain ⟨k, _, rfl⟩ := List.mem_map.mp hy
    exact h.it_lt hx k
  simp only [List.length_map, List.length_range] at this
  omega
theorem IsT.per_spec {x : Nat} (hx : x < n) : 1 ≤ per t x ∧ per t x ≤ n ∧ it t (per t x) x = x ∧ ∀ j, 1 ≤ j → j < per t x → it t j x ≠ x := by
  obtain ⟨j, hj, ej⟩ := h.back_some hx
  have hsome : ((List.range t.length).find? fun j => it t (j + 1) x == x).isSome = true := by
    rw [List.find?_isSome]
    exact ⟨j, List.mem_range.mpr (by rw [h.length]; exact hj), by simpa using ej⟩
  obtain ⟨k, hk⟩ := Option.isSome_iff_exists.mp hsome
  have e : per t x = k + 1 := by unfold per; rw [hk]; rfl
  rw [e]
  rw [List.find?_range_eq_some] at hk
  obtain ⟨h1, h2, h3⟩ := hk
  refine ⟨by omega, by have := List.mem_range.mp h2; rw [h.length] at this; omega, by simpa using h1, fun i hi1 hi2 => ?_⟩
  have := h3 (i - 1) (by omega)
  rw [show i - 1 + 1 = i by omega] at this
  simpa using this
theorem IsT.per_pos {x : Nat} (hx : x < n) : 0 < per t x := (h.per_spec hx).1
theorem IsT.per_back {x : Nat} (hx : x < n) : it t (per t x) x = x := (h.per_spec hx).2.2.1
theorem IsT.it_mul {x : Nat} (hx : x < n) : ∀ q, it t (per t x * q) x = x
  | 0 => rfl
  | q + 1 => by rw [Nat.mul_succ, it_add, IsT.it_mul hx q, h.per_back hx]
theorem IsT.it_mod {x : Nat} (hx : x < n) (k : Nat) : it t (k % per t x) x = it t k x := by
  have e : k = per t x * (k / per t x) + k % per t x := (Nat.div_add_mod k (per t x)).symm
  conv => rhs; rw [e, it_add, h.it_mul hx]
theorem IsT.it_eq_iff {x : Nat} (hx : x < n) {i j : Nat} (hi : i < per t x) (hj : j < per t x) (e : it t i x = it t j x) : i = j := by
  have key : ∀ {i j : Nat}, i ≤ j → j < per t x → it t i x = it t j x → i = j := fun {i j} hij hj e => by
    by_cases hq : i = j
    · exact hq
    · exfalso
      have e3 : it t j x = it t i (it t (j - i) x) := by rw [← it_add]; congr 1; omega
      rw [e3] at e
      have e2 := (h.it_inj hx (h.it_lt hx _) i e).symm
      exact (h.per_spec hx).2.2.2 (j - i) (by omega) (by omega) e2
  rcases Nat.le_total i j with q | q
  · exact key q hj e
  · exact (key q hi e.symm).symm
end
/-- the loop from x on -/
def cyc (t : List Nat) (x : Nat) : List Nat := (List.range (per t x)).map fun j => it t j x
theorem mem_cyc {t : List Nat} {x y : Nat} : y ∈ cyc t x ↔ ∃ j, j < per t x ∧ y = it t j x := by
  unfold cyc
  rw [List.mem_map]
  constructor
  · rintro ⟨j, hj, rfl⟩
    exact ⟨j, List.mem_range.mp hj, rfl⟩
  · rintro ⟨j, hj, rfl⟩
    exact ⟨j, List.mem_range.mpr hj, rfl⟩
section
variable {n : Nat} {t : List Nat} (h : IsT n t)
include h
theorem IsT.mem_cyc_it {x : Nat} (hx : x < n) (k : Nat) : it t k x ∈ cyc t x := mem_cyc.mpr ⟨k % per t x, Nat.mod_lt _ (h.per_pos hx), (h.it_mod hx k).symm⟩
theorem IsT.self_mem {x : Nat} (hx : x < n) : x ∈ cyc t x := h.mem_cyc_it hx 0
theorem IsT.cyc_lt {x y : Nat} (hx : x < n) (hy : y ∈ cyc t x) : y < n := by
  obtain ⟨j, _, rfl⟩ := mem_cyc.mp hy
  exact h.it_lt hx j
theorem IsT.cyc_symm {x y : Nat} (hx : x < n) (hy : y ∈ cyc t x) : x ∈ cyc t y := by
  obtain ⟨j, hj, rfl⟩ := mem_cyc.mp hy
  have e : it t (per t x - j) (it t j x) = x := by
    rw [← it_add, show j + (per t x - j) = per t x by omega]
    exact h.per_back hx
  have := h.mem_cyc_it (h.it_lt hx j) (per t x - j)
  rwa [e] at this
theorem IsT.cyc_trans {x y z : Nat} (hx : x < n) (hy : y ∈ cyc t x) (hz : z ∈ cyc t y) : z ∈ cyc t x := by
  obtain ⟨j, _, rfl⟩ := mem_cyc.mp hy
  obtain ⟨k, _, rfl⟩ := mem_cyc.mp hz
  rw [← it_add]
  exact h.mem_cyc_it hx _
theorem IsT.per_it {x : Nat} (hx : x < n) (j : Nat) : per t (it t j x) = per t x := by
  have hy := h.it_lt hx j
  have le1 : ∀ {x : Nat} (hx : x < n) (j : Nat), per t (it t j x) ≤ per t x := fun {x} hx j => by
    have hy := h.it_lt hx j
    refine Nat.le_of_not_lt fun hc => ?_
    refine (h.per_spec hy).2.2.2 (per t x) (h.per_pos hx) hc ?_
    rw [← it_add, Nat.add_comm, it_add, h.per_back hx]
  refine Nat.le_antisymm (le1 hx j) ?_
  have e : it t (per t x * (j + 1) - j) (it t j x) = x := by
    have hle : j ≤ per t x * (j + 1) := Nat.le_trans (Nat.le_succ j) (by have := Nat.mul_le_mul_right (j + 1) (h.per_pos hx); omega)
    rw [← it_add, show j + (per t x * (j + 1) - j) = per t x * (j + 1) by omega]
    exact h.it_mul hx _
  have := le1 hy (per t x * (j + 1) - j)
  rwa [e] at this
end
/-! ### the loop as it is found, place by place -/
structure Chain (t : List Nat) (x k : Nat) (c : List Nat) : Prop where
  eq : c = (List.range k).map fun j => it t j x
  pos : 1 ≤ k
  no : ∀ j, 1 ≤ j → j < k → it t j x ≠ x
theorem Chain.start (t : List Nat) (x : Nat) : Chain t x 1 [x] := ⟨rfl, Nat.le_refl _, fun j h1 h2 => absurd h2 (by omega)⟩
theorem Chain.step {t : List Nat} {x k : Nat} {c : List Nat} (h : Chain t x k c) (hn : it t k x ≠ x) : Chain t x (k + 1) (c ++ [it t k x]) := by
  refine ⟨?_, by omega, fun j h1 h2 => ?_⟩
  · rw [h.eq, List.range_succ, List.map_append]
    rfl
  · by_cases e : j = k
    · rw [e]; exact hn
    · exact h.no j h1 (by omega)
theorem Chain.le {n : Nat} {t : List Nat} {x k : Nat} {c : List Nat} (hT : IsT n t) (hx : x < n) (h : Chain t x k c) : k ≤ per t x := by
  refine Nat.le_of_not_lt fun hc => ?_
  exact h.no (per t x) (hT.per_pos hx) hc (hT.per_back hx)
theorem Chain.done {n : Nat} {t : List Nat} {x k : Nat} {c : List Nat} (hT : IsT n t) (hx : x < n) (h : Chain t x k c) (e : it t k x = x) : c = cyc t x := by
  have h1 := h.le hT hx
  have h2 : k = per t x := by
    by_cases q : k = per t x
    · exact q
    · exact absurd e ((hT.per_spec hx).2.2.2 k h.pos (by omega))
  rw [h.eq, h2]
  rfl
/-! ### all loops -/
def isLeast (t : List Nat) (x : Nat) : Bool := (cyc t x).all fun y => decide (x ≤ y)
/-! ### the power -/
def pw (t : List Nat) (m : Int) (x : Nat) : Nat := it t (m % (per t x : Int)).toNat x
def pwT (t : List Nat) (m : Int) : List Nat := (List.range t.length).map (pw t m)
end TM

/-! Powers along the loops. -/
namespace TM
theorem least_of : ∀ (l : List Nat), l ≠ [] → ∃ y ∈ l, ∀ z ∈ l, y ≤ z
  | [], h => absurd rfl h
  | [a], _ => ⟨a, List.mem_cons_self, fun z hz => by rw [List.mem_singleton.mp hz]; exact Nat.le_refl _⟩
  | a :: b :: r, _ => by
    obtain ⟨y, hy, hl⟩ := least_of (b :: r) (by simp)
    by_cases q : a ≤ y
    · exact ⟨a, List.mem_cons_self, fun z hz => by
        rcases List.mem_cons.mp hz with e | e
        · rw [e]; exact Nat.le_refl _
        · exact Nat.le_trans q (hl z e)⟩
    · exact ⟨y, List.mem_cons_of_mem _ hy, fun z hz => by
        rcases List.mem_cons.mp hz with e | e
        · rw [e]; omega
        · exact hl z e⟩
section
variable {n : Nat} {t : List Nat} (hT : IsT n t)
include hT
theorem IsT.per_mem {x y : Nat} (hx : x < n) (hy : y ∈ cyc t x) : per t y = per t x := by
  obtain ⟨j, _, rfl⟩ := mem_cyc.mp hy
  exact hT.per_it hx j
/-- the least place of a place's loop -/
theorem IsT.head {x : Nat} (hx : x < n) : ∃ h, h < n ∧ isLeast t h = true ∧ x ∈ cyc t h ∧ h ∈ cyc t x ∧ per t h = per t x := by
  obtain ⟨h, hh, hl⟩ := least_of (cyc t x) (fun e => by have := hT.self_mem hx; rw [e] at this; cases this)
  have hhn := hT.cyc_lt hx hh
  refine ⟨h, hhn, ?_, hT.cyc_symm hx hh, hh, hT.per_mem hx hh⟩
  unfold isLeast
  rw [List.all_eq_true]
  exact fun y hy => decide_eq_true (hl y (hT.cyc_trans hx hh hy))
theorem IsT.stay {x : Nat} (hx : x < n) (hp : ¬ 1 < per t x) : t[x]? = some x := by
  have h1 := hT.per_pos hx
  have h2 := hT.per_back hx
  rw [show per t x = 1 by omega, it_one] at h2
  have := hT.get_step hx
  rwa [h2] at this
theorem IsT.pwT_get (m : Int) {x : Nat} (hx : x < n) : (pwT t m)[x]? = some (pw t m x) := by
  unfold pwT
  rw [List.getElem?_map, List.getElem?_range (by rw [hT.length]; exact hx)]
  rfl
theorem IsT.pwT_len (m : Int) : (pwT t m).length = n := by unfold pwT; rw [List.length_map, List.length_range, hT.length]
theorem IsT.eq_pwT {g : List Nat} {m : Int} (hl : g.length = n) (h : ∀ x, x < n → g[x]? = some (pw t m x)) : g = pwT t m := by
  apply List.ext_getElem?
  intro x
  by_cases hx : x < n
  · rw [h x hx, hT.pwT_get m hx]
  · rw [List.getElem?_eq_none (by omega), List.getElem?_eq_none (by rw [hT.pwT_len]; omega)]
end
/-- amid the making of a power: the places in S have theirs, the others stay -/
structure Pow (n : Nat) (t : List Nat) (m : Int) (S : Nat → Prop) (g : List Nat) : Prop where
  len : g.length = n
  ins : ∀ x, x < n → S x → g[x]? = some (pw t m x)
  out : ∀ x, x < n → ¬ S x → g[x]? = t[x]?
theorem Pow.start {n : Nat} {t : List Nat} {m : Int} {S : Nat → Prop} (hT : IsT n t) (hS : ∀ x, ¬ S x) : Pow n t m S t := ⟨hT.length, fun x _ h => absurd h (hS x), fun _ _ _ => rfl⟩
theorem Pow.congr {n : Nat} {t g : List Nat} {m : Int} {S S' : Nat → Prop} (h : Pow n t m S g) (e : ∀ x, x < n → (S x ↔ S' x)) : Pow n t m S' g :=
  ⟨h.len, fun x hx q => h.ins x hx ((e x hx).mpr q), fun x hx q => h.out x hx fun z => q ((e x hx).mp z)⟩
theorem Pow.set {n : Nat} {t g : List Nat} {m : Int} {S : Nat → Prop} {p : Nat} (h : Pow n t m S g) (hp : p < n) : Pow n t m (fun x => S x ∨ x = p) (g.set p (pw t m p)) := by
  have hpl : p < g.length := by rw [h.len]; exact hp
  refine ⟨by rw [List.length_set]; exact h.len, fun x hx q => ?_, fun x hx q => ?_⟩
  · by_cases e : x = p
    · subst e
      rw [List.getElem?_set_self hpl]
    · rw [List.getElem?_set_ne (Ne.symm e)]
      exact h.ins x hx (q.resolve_right e)
  · have e : x ≠ p := fun z => q (.inr z)
    rw [List.getElem?_set_ne (Ne.symm e)]
    exact h.out x hx fun z => q (.inl z)
theorem Pow.done {n : Nat} {t g : List Nat} {m : Int} {S : Nat → Prop} (hT : IsT n t) (h : Pow n t m S g) (hS : ∀ x, x < n → 1 < per t x → S x) : g = pwT t m := hT.eq_pwT h.len fun x hx => by
  by_cases hp : 1 < per t x
  · exact h.ins x hx (hS x hx hp)
  · by_cases q : S x
    · exact h.ins x hx q
    · rw [h.out x hx q, hT.stay hx hp]
      have h1 := hT.per_pos hx
      unfold pw
      rw [show per t x = 1 by omega, show m % ((1 : Nat) : Int) = 0 from Int.emod_one m]
      rfl
end TM

/-! Heads and loops: order among them, lengths, least common multiples, sorted rows. -/
namespace TM
theorem least_le {t : List Nat} {h y : Nat} (hl : isLeast t h = true) (hy : y ∈ cyc t h) : h ≤ y := by
  unfold isLeast at hl
  rw [List.all_eq_true] at hl
  simpa using hl y hy
section
variable {n : Nat} {t : List Nat} (hT : IsT n t)
include hT
end
theorem lcm_pos {a b : Nat} (ha : 0 < a) (hb : 0 < b) : 0 < Nat.lcm a b := Nat.lcm_pos ha hb
theorem lcm_more {s L m j : Nat} (hm : Nat.lcm s L = s * m) (hjm : j ≤ m) (hd : (s * j) % L ≠ 0) : j + 1 ≤ m := by
  by_cases e : j = m
  · exfalso
    apply hd
    rw [e, ← hm]
    exact Nat.mod_eq_zero_of_dvd (Nat.dvd_lcm_right s L)
  · omega
theorem lcm_split (s L : Nat) : ∃ m, Nat.lcm s L = s * m := Nat.dvd_lcm_left s L
end TM

/-! Shapes: the lengths of the loops, falling, with a 1 for each place that stays; products in steps. -/
namespace TM
/-- where a search for the next common multiple stands: step * j, not yet beyond -/
structure Srch (s L : Nat) (c : Nat) (j : Nat) : Prop where
  eq : c = s * j
  pos : 1 ≤ j
  le : s * j ≤ Nat.lcm s L
theorem Srch.start {s L : Nat} (hs : 0 < s) (hL : 0 < L) : Srch s L s 1 := ⟨by rw [Nat.mul_one], Nat.le_refl _, by
  rw [Nat.mul_one]
  exact Nat.le_of_dvd (Nat.lcm_pos hs hL) (Nat.dvd_lcm_left s L)⟩
theorem Srch.done {s L c j : Nat} (hs : 0 < s) (h : Srch s L c j) (hd : c % L = 0) : c = Nat.lcm s L := by
  obtain ⟨rfl, h1, h2⟩ := h
  have h3 : Nat.lcm s L ∣ s * j := Nat.lcm_dvd (Nat.dvd_mul_right s j) (Nat.dvd_of_mod_eq_zero hd)
  exact Nat.le_antisymm h2 (Nat.le_of_dvd (Nat.mul_pos hs h1) h3)
theorem Srch.more {s L c j : Nat} (hs : 0 < s) (h : Srch s L c j) (hd : c % L ≠ 0) : Srch s L (c + s) (j + 1) := by
  obtain ⟨rfl, h1, h2⟩ := h
  refine ⟨by rw [Nat.mul_succ], by omega, ?_⟩
  obtain ⟨m, hm⟩ := lcm_split s L
  rw [hm] at h2 ⊢
  have hjm : j ≤ m := Nat.le_of_mul_le_mul_left h2 hs
  exact Nat.mul_le_mul_left s (lcm_more hm hjm hd)
end TM

/-! Turned about: conjugates have the same shape. -/
namespace TM
/-- the least of a row -/
def least (l : List Nat) : Nat := l.foldl min (l.headD 0)
section
variable {n : Nat} {t : List Nat} (hT : IsT n t)
include hT
theorem IsT.mem_iff {x y z : Nat} (hx : x < n) (hy : y ∈ cyc t x) : z ∈ cyc t y ↔ z ∈ cyc t x :=
  ⟨fun h => hT.cyc_trans hx hy h, fun h => hT.cyc_trans (hT.cyc_lt hx hy) (hT.cyc_symm hx hy) h⟩
end
/-- c is t turned about by b -/
structure Conj (n : Nat) (t b c : List Nat) : Prop where
  len : c.length = n
  go : ∀ x, x < n → c[b.getD x 0]? = some (b.getD (t.getD x 0) 0)
section
variable {n : Nat} {t b c : List Nat} (hT : IsT n t) (hB : IsT n b)
include hT hB
theorem Conj.isT (h : Conj n t b c) : IsT n c := by
  have hv : ∀ y z, c[y]? = some z → y < n → ∃ x, x < n ∧ b.getD x 0 = y ∧ z = b.getD (t.getD x 0) 0 := fun y z hz hy => by
    obtain ⟨x, hx, hxn⟩ := hB.hit hy
    have e := getD_of hx
    have := h.go x hxn
    rw [e, hz] at this
    exact ⟨x, hxn, e, Option.some.inj this⟩
  refine isT_of h.len ?_ fun z hz => ?_
  · refine List.pairwise_iff_getElem.mpr fun i j hi hj hij e => ?_
    obtain ⟨x, hx, ex, e1⟩ := hv i _ (List.getElem?_eq_getElem hi) (by rw [← h.len]; exact hi)
    obtain ⟨y, hy, ey, e2⟩ := hv j _ (List.getElem?_eq_getElem hj) (by rw [← h.len]; exact hj)
    rw [e1, e2] at e
    have q := hB.step_inj (hT.step_lt hx) (hT.step_lt hy) e
    have q2 := hT.step_inj hx hy q
    rw [← ex, ← ey, q2] at hij
    exact Nat.lt_irrefl _ hij
  · obtain ⟨y, hy⟩ := List.getElem?_of_mem hz
    have hyn : y < n := by have := (List.getElem?_eq_some_iff.mp hy).1; rwa [h.len] at this
    obtain ⟨x, hx, _, e⟩ := hv y z hy hyn
    rw [e]
    exact hB.step_lt (hT.step_lt hx)
theorem Conj.step (h : Conj n t b c) {x : Nat} (hx : x < n) : c.getD (b.getD x 0) 0 = b.getD (t.getD x 0) 0 := getD_of (h.go x hx)
theorem Conj.it (h : Conj n t b c) {x : Nat} (hx : x < n) : ∀ k, it c k (b.getD x 0) = b.getD (TM.it t k x) 0
  | 0 => rfl
  | k + 1 => by
    show c.getD (TM.it c k (b.getD x 0)) 0 = b.getD (t.getD (TM.it t k x) 0) 0
    rw [Conj.it h hx k, h.step hT hB (hT.it_lt hx k)]
theorem Conj.per (h : Conj n t b c) {x : Nat} (hx : x < n) : per c (b.getD x 0) = per t x := by
  have hC := h.isT hT hB
  have hbx := hB.step_lt hx
  refine Nat.le_antisymm (Nat.le_of_not_lt fun hc => ?_) (Nat.le_of_not_lt fun hc => ?_)
  · refine (hC.per_spec hbx).2.2.2 (TM.per t x) (hT.per_pos hx) hc ?_
    rw [h.it hT hB hx, hT.per_back hx]
  · refine (hT.per_spec hx).2.2.2 (TM.per c (b.getD x 0)) (hC.per_pos hbx) hc ?_
    have e := hC.per_back hbx
    rw [h.it hT hB hx] at e
    exact hB.step_inj (hT.it_lt hx _) hx e
theorem Conj.mem (h : Conj n t b c) {x y : Nat} (hx : x < n) (hy : y < n) (hm : b.getD y 0 ∈ cyc c (b.getD x 0)) : y ∈ cyc t x := by
  obtain ⟨j, _, e⟩ := mem_cyc.mp hm
  rw [h.it hT hB hx] at e
  rw [hB.step_inj hy (hT.it_lt hx j) e]
  exact hT.mem_cyc_it hx j
theorem Conj.back (h : Conj n t b c) {d : List Nat} (hd : Back n b n d) : Conj n c d t := by
  refine ⟨hT.length, fun y hy => ?_⟩
  obtain ⟨x, hx, hxn, hbx⟩ := hd.get hB hy
  have e := getD_of hbx
  have e1 : d.getD y 0 = x := getD_of hx
  have e2 : c.getD y 0 = b.getD (t.getD x 0) 0 := by rw [← e]; exact h.step hT hB hxn
  have htx := hT.step_lt hxn
  have e3 : d.getD (b.getD (t.getD x 0) 0) 0 = t.getD x 0 := getD_of (hd.ret _ _ htx (hB.get_step htx))
  rw [e1, e2, e3]
  exact hT.get_step hxn
end
theorem Conj.range {n : Nat} {t : List Nat} (hT : IsT n t) : Conj n t (List.range n) t := by
  have hg : ∀ x, x < n → (List.range n).getD x 0 = x := fun x hx => by rw [List.getD_eq_getElem?_getD, List.getElem?_range hx]; rfl
  refine ⟨hT.length, fun x hx => ?_⟩
  rw [hg x hx, hg _ (hT.step_lt hx)]
  exact hT.get_step hx
/-- amid the making of a turned one: the first k places are led over -/
structure Led (n : Nat) (t b : List Nat) (k : Nat) (g : List Nat) : Prop where
  len : g.length = n
  go : ∀ x, x < k → g[b.getD x 0]? = some (b.getD (t.getD x 0) 0)
theorem Led.start {n : Nat} {t b g : List Nat} (h : g.length = n) : Led n t b 0 g := ⟨h, fun _ h => absurd h (Nat.not_lt_zero _)⟩
theorem Led.step {n : Nat} {t b g : List Nat} {k : Nat} (hB : IsT n b) (hk : k < n) (h : Led n t b k g) : Led n t b (k + 1) (g.set (b.getD k 0) (b.getD (t.getD k 0) 0)) := by
  have hkn : b.getD k 0 < g.length := by rw [h.len]; exact hB.step_lt hk
  refine ⟨by rw [List.length_set]; exact h.len, fun x hx => ?_⟩
  by_cases e : x = k
  · subst e
    rw [List.getElem?_set_self hkn]
  · have ne : b.getD k 0 ≠ b.getD x 0 := fun q => e (hB.step_inj (by omega) hk q.symm)
    rw [List.getElem?_set_ne ne]
    exact h.go x (by omega)
theorem Led.done {n : Nat} {t b g : List Nat} (h : Led n t b n g) : Conj n t b g := ⟨h.len, h.go⟩
end TM

/-! Even and odd: an exchange behind a turning makes one loop of two or two of one. -/
namespace TM
/-- the places that lead their loops, the staying ones too -/
def leads (t : List Nat) (n : Nat) : List Nat := (List.range n).filter fun x => isLeast t x
/-- u is t with the places a and b exchanged behind it -/
structure Swap (n : Nat) (t : List Nat) (a b : Nat) (u : List Nat) : Prop where
  len : u.length = n
  ha : a < n
  hb : b < n
  ne : a ≠ b
  atA : ∀ x, x < n → t.getD x 0 = a → u.getD x 0 = b
  atB : ∀ x, x < n → t.getD x 0 = b → u.getD x 0 = a
  els : ∀ x, x < n → t.getD x 0 ≠ a → t.getD x 0 ≠ b → u.getD x 0 = t.getD x 0
section
variable {n a b : Nat} {t u : List Nat} (hT : IsT n t) (hU : IsT n u)
include hT hU
theorem Swap.symm (h : Swap n t a b u) : Swap n u a b t := by
  have key : ∀ x, x < n → (t.getD x 0 = a ∧ u.getD x 0 = b) ∨ (t.getD x 0 = b ∧ u.getD x 0 = a) ∨ (t.getD x 0 ≠ a ∧ t.getD x 0 ≠ b ∧ u.getD x 0 = t.getD x 0) := fun x hx => by
    by_cases e1 : t.getD x 0 = a
    · exact .inl ⟨e1, h.atA x hx e1⟩
    · by_cases e2 : t.getD x 0 = b
      · exact .inr (.inl ⟨e2, h.atB x hx e2⟩)
      · exact .inr (.inr ⟨e1, e2, h.els x hx e1 e2⟩)
  have ne := h.ne
  refine ⟨hT.length, h.ha, h.hb, h.ne, fun x hx e => ?_, fun x hx e => ?_, fun x hx e1 e2 => ?_⟩
  all_goals rcases key x hx with ⟨k1, k2⟩ | ⟨k1, k2⟩ | ⟨k1, k2, k3⟩ <;> omega
/-- as long as the way of x under t meets neither a nor b it is that under u -/
theorem Swap.it_same (h : Swap n t a b u) {x : Nat} (hx : x < n) : ∀ k, (∀ j, 1 ≤ j → j ≤ k → it t j x ≠ a ∧ it t j x ≠ b) → it u k x = it t k x
  | 0, _ => rfl
  | k + 1, hk => by
    have ih := Swap.it_same h hx k fun j h1 h2 => hk j h1 (by omega)
    show u.getD (it u k x) 0 = t.getD (it t k x) 0
    rw [ih]
    obtain ⟨n1, n2⟩ := hk (k + 1) (by omega) (Nat.le_refl _)
    exact h.els _ (hT.it_lt hx k) n1 n2
/-- a loop with both is cut: the first part, from a on up to b, and the rest, from b on -/
theorem Swap.cut (h : Swap n t a b u) (hab : b ∈ cyc t a) : ∃ k, 0 < k ∧ k < per t a ∧ it t k a = b ∧ (∀ x, x ∈ cyc u a ↔ ∃ j, j < k ∧ x = it t j a) ∧ (∀ x, x ∈ cyc u b ↔ ∃ j, k ≤ j ∧ j < per t a ∧ x = it t j a) := by
  have ha := h.ha
  have hb := h.hb
  have hp := hT.per_pos ha
  obtain ⟨k, hk, ek⟩ := mem_cyc.mp hab
  have hk0 : 0 < k := by
    rcases Nat.eq_zero_or_pos k with z | z
    · rw [z] at ek
      exact absurd ek.symm h.ne
    · exact z
  have nb : ∀ j, j < per t a → j ≠ k → it t j a ≠ b := fun j hj hne z => hne (hT.it_eq_iff ha hj hk (z.trans ek))
  have e1 : ∀ j, j < k → it u j a = it t j a := fun j hj => h.it_same hT hU ha j fun i i1 i2 => ⟨(hT.per_spec ha).2.2.2 i i1 (by omega), nb i (by omega) (by omega)⟩
  have e2 : it u k a = a := by
    have e3 : k = (k - 1) + 1 := by omega
    rw [e3, it_succ, e1 (k - 1) (by omega)]
    refine h.atB _ (hT.it_lt ha _) ?_
    rw [← it_succ, ← e3, ek]
  have f0 : ∀ j, it t j b = it t (k + j) a := fun j => by rw [ek, ← it_add]
  have f1 : ∀ j, k + j < per t a → it u j b = it t (k + j) a := fun j hj => by
    rw [← f0]
    refine h.it_same hT hU hb j fun i i1 i2 => ?_
    rw [f0]
    exact ⟨(hT.per_spec ha).2.2.2 _ (by omega) (by omega), nb _ (by omega) (by omega)⟩
  have f2 : it u (per t a - k) b = b := by
    have e3 : per t a - k = (per t a - k - 1) + 1 := by omega
    rw [e3, it_succ, f1 (per t a - k - 1) (by omega)]
    refine h.atA _ (hT.it_lt ha _) ?_
    rw [← it_succ, show k + (per t a - k - 1) + 1 = per t a by omega]
    exact hT.per_back ha
  have pu : per u a ≤ k := Nat.le_of_not_lt fun hc => (hU.per_spec ha).2.2.2 k hk0 hc e2
  have pb : per u b ≤ per t a - k := Nat.le_of_not_lt fun hc => (hU.per_spec hb).2.2.2 _ (by omega) hc f2
  refine ⟨k, hk0, hk, ek.symm, fun x => ⟨fun hx => ?_, ?_⟩, fun x => ⟨fun hx => ?_, ?_⟩⟩
  · obtain ⟨j, hj, rfl⟩ := mem_cyc.mp hx
    exact ⟨j, by omega, e1 j (by omega)⟩
  · rintro ⟨j, hj, rfl⟩
    rw [← e1 j hj]
    exact hU.mem_cyc_it ha j
  · obtain ⟨j, hj, rfl⟩ := mem_cyc.mp hx
    exact ⟨k + j, by omega, by omega, f1 j (by omega)⟩
  · rintro ⟨j, h1, h2, rfl⟩
    have e4 := f1 (j - k) (by omega)
    rw [show k + (j - k) = j by omega] at e4
    rw [← e4]
    exact hU.mem_cyc_it hb _
end
section
variable {n : Nat} {t : List Nat} (hT : IsT n t)
include hT
end
end TM

/-! Recipes: lines, what a line needs, the lines that stay. -/
namespace TM
inductive Ln where
  | still | told (k : Nat) | behind (i j : Nat) | back (i : Nat)
  deriving DecidableEq
/-- the lines that a line names -/
def Ln.refs : Ln → List Nat
  | .still => []
  | .told _ => []
  | .behind i j => [i, j]
  | .back i => [i]
/-- a line at the place p, over c makers -/
def Ln.Ok (c p : Nat) : Ln → Prop
  | .still => True
  | .told k => k < c
  | .behind i j => i < p ∧ j < p
  | .back i => i < p
theorem Ln.Ok.lt {c p : Nat} {l : Ln} (h : l.Ok c p) {r : Nat} (hr : r ∈ l.refs) : r < p := by
  cases l with
  | still => cases hr
  | told k => cases hr
  | behind i j =>
    rcases List.mem_cons.mp hr with e | e
    · rw [e]; exact h.1
    · rw [List.mem_singleton.mp e]; exact h.2
  | back i => rw [List.mem_singleton.mp hr]; exact h
theorem Ln.Ok.mono {c p q : Nat} {l : Ln} (h : l.Ok c p) (hpq : p ≤ q) : l.Ok c q := by
  cases l with
  | still => trivial
  | told k => exact h
  | behind i j => exact ⟨Nat.lt_of_lt_of_le h.1 hpq, Nat.lt_of_lt_of_le h.2 hpq⟩
  | back i => exact Nat.lt_of_lt_of_le h hpq
def Rec (c : Nat) (ls : List Ln) : Prop := ∀ (p : Nat) (l : Ln), ls[p]? = some l → l.Ok c p
theorem Rec.snoc {c : Nat} {ls : List Ln} {l : Ln} (h : Rec c ls) (hl : l.Ok c ls.length) : Rec c (ls ++ [l]) := fun p m hm => by
  by_cases hp : p < ls.length
  · rw [List.getElem?_append_left hp] at hm
    exact h p m hm
  · have e : p = ls.length := by
      have := (List.getElem?_eq_some_iff.mp hm).1
      rw [List.length_append, List.length_cons, List.length_nil] at this
      omega
    subst e
    rw [List.getElem?_append_right (Nat.le_refl _), Nat.sub_self] at hm
    cases hm
    exact hl
theorem Rec.take {c : Nat} {ls : List Ln} (h : Rec c ls) (k : Nat) : Rec c (ls.take k) := fun p l hl => by
  by_cases hp : p < k
  · rw [List.getElem?_take_of_lt hp] at hl
    exact h p l hl
  · rw [List.getElem?_eq_none (by rw [List.length_take]; omega)] at hl
    cases hl
/-- q is needed by p -/
inductive Reach (ls : List Ln) : Nat → Nat → Prop
  | self (p : Nat) : Reach ls p p
  | by {p r q : Nat} {l : Ln} : ls[p]? = some l → r ∈ l.refs → Reach ls r q → Reach ls p q
theorem Reach.trans {ls : List Ln} {p r q : Nat} (h : Reach ls p r) (h' : Reach ls r q) : Reach ls p q := by
  induction h with
  | self p => exact h'
  | «by» hl hr _ ih => exact .by hl hr (ih h')
theorem Reach.le {c : Nat} {ls : List Ln} (hR : Rec c ls) {p q : Nat} (h : Reach ls p q) : q ≤ p := by
  induction h with
  | self p => exact Nat.le_refl _
  | «by» hl hr _ ih => exact Nat.le_trans ih (Nat.le_of_lt ((hR _ _ hl).lt hr))
open Classical in
/-- needed by the last line -/
noncomputable def nb (ls : List Ln) (q : Nat) : Bool := decide (Reach ls (ls.length - 1) q)
/-- how many needed ones stand below -/
def pos (b : Nat → Bool) (r : Nat) : Nat := ((List.range r).filter b).length
def Ln.ren (f : Nat → Nat) : Ln → Ln
  | .still => .still
  | .told k => .told k
  | .behind i j => .behind (f i) (f j)
  | .back i => .back (f i)
/-- the lines that stay of the first k, counted anew -/
def few (b : Nat → Bool) (ls : List Ln) (k : Nat) : List Ln := ((List.range k).filter b).map fun p => (ls.getD p .still).ren (pos b)
section
variable {c : Nat} {ls : List Ln} (hR : Rec c ls) (hne : ls ≠ [])
include hR hne
noncomputable def stay (ls : List Ln) : List Ln := few (nb ls) ls ls.length
end
/-! ### what the lines make -/
def bkT (n : Nat) (t : List Nat) : List Nat := (List.range n).map fun y => t.idxOf y
end TM

/-! Letters of a recipe: how many, which, and where they lead. -/
namespace TM
section
variable {α : Type}
/-- what comes of a line hangs on what it names alone -/
def Loc (d : α) (g : Ln → List α → α) : Prop := ∀ (l : Ln) (m1 m2 : List α) (f : Nat → Nat), (∀ r ∈ l.refs, m1.getD r d = m2.getD (f r) d) → g l m1 = g (l.ren f) m2
end
/-! ### how many -/
/-! ### which -/
/-! ### where they lead -/
def step (n : Nat) (ms : List (List Nat)) (x : Int) : List Nat := if 0 ≤ x then ms.getD x.toNat [] else bkT n (ms.getD (-1 - x).toNat [])
section
variable {n : Nat}
variable {ms : List (List Nat)} (hms : ∀ t ∈ ms, IsT n t)
include hms
end
end TM

set_option linter.all false
/-! Texts split at a separator whose first sign the parts don't have. -/
namespace Tb
open PySem PySem.StrLaws PySem.Builtin PySem.Builtin.Str
theorem cps_app (a b : Str) : (a ++ b).cps.toList = a.cps.toList ++ b.cps.toList := by
  rw [Str.cps_append, Array.toList_append]
theorem len_cps (a : Str) : a.cps.toList.length = a.length := by simp [Str.length]
theorem ext_cps {a b : Str} (h : a.cps.toList = b.cps.toList) : a = b := Str.ext' (Array.toList_inj.mp h)
/-- the sign at a place -/
theorem at_first {x y : Str} {hi k c : Nat} (hy : y.cps.toList.head? = some c) (h : At x y hi k) : x.cps.toList[k]? = some c := by
  have h2 := h.2
  rw [subAt_eq] at h2
  have e : (x.cps.toList.drop k).take y.length = y.cps.toList := by simpa using h2
  have : ((x.cps.toList.drop k).take y.length).head? = some c := by rw [e]; exact hy
  cases hd : x.cps.toList.drop k with
  | nil => rw [hd] at this; simp at this
  | cons a r =>
    rw [hd] at this
    cases hl : y.length with
    | zero => rw [hl] at this; simp at this
    | succ m =>
      rw [hl] at this
      have ea : a = c := by simpa using this
      have g : (x.cps.toList.drop k)[0]? = some a := by rw [hd]; rfl
      rw [List.getElem?_drop, Nat.add_zero, ea] at g
      exact g
theorem at_of {x y : Str} {a : Nat} {u v : List Nat} (hx : x.cps.toList.drop a = u ++ y.cps.toList ++ v) (ha : a ≤ x.length) : At x y x.length (a + u.length) := by
  have hl := congrArg List.length hx
  rw [List.length_drop, List.length_append, List.length_append, len_cps, len_cps] at hl
  refine ⟨by omega, ?_⟩
  rw [subAt_eq]
  have e : x.cps.toList.drop (a + u.length) = y.cps.toList ++ v := by
    rw [← List.drop_drop, hx, List.append_assoc, List.drop_left]
  rw [e, ← len_cps y, List.take_left]
  simp
theorem parts_eq {x y : Str} {c : Nat} (hy : y.cps.toList.head? = some c) : ∀ (ys : List Str) (a : Nat) (cuts : List Nat) (f : Nat), ys ≠ [] → (∀ z ∈ ys, c ∉ z.cps.toList) → x.cps.toList.drop a = (Str.join y ys).cps.toList → a ≤ x.length →
    ChainG x y x.length a cuts f → (∀ k, f ≤ k → ¬ At x y x.length k) → partsFrom x y.length a cuts = ys
  | [], _, _, _, h, _, _, _, _, _ => absurd rfl h
  | [z], a, cuts, f, _, hf, hx, ha, hG, hn => by
    have hxz : x.cps.toList.drop a = z.cps.toList := hx
    have no : ∀ k, a ≤ k → ¬ At x y x.length k := fun k hk hA => by
      have h1 := at_first hy hA
      have h2 : (x.cps.toList.drop a)[k - a]? = some c := by rw [List.getElem?_drop, show a + (k - a) = k by omega]; exact h1
      rw [hxz] at h2
      exact hf z List.mem_cons_self (List.mem_of_getElem? h2)
    cases cuts with
    | nil =>
      show [strSub x a x.length] = [z]
      congr 1
      apply ext_cps
      rw [strSub_toList, hxz, List.take_of_length_le]
      have := congrArg List.length hxz
      rw [List.length_drop, len_cps] at this
      omega
    | cons i r => exact absurd hG.2.1 (no i hG.1)
  | z :: z2 :: r, a, cuts, f, _, hf, hx, ha, hG, hn => by
    have hxz : x.cps.toList.drop a = z.cps.toList ++ y.cps.toList ++ (Str.join y (z2 :: r)).cps.toList := by
      rw [hx]
      show (z ++ y ++ Str.join y (z2 :: r)).cps.toList = _
      rw [cps_app, cps_app]
    have hA := at_of hxz ha
    have no : ∀ k, a ≤ k → k < a + z.cps.toList.length → ¬ At x y x.length k := fun k hk hk2 hA2 => by
      have h1 := at_first hy hA2
      have h2 : (x.cps.toList.drop a)[k - a]? = some c := by rw [List.getElem?_drop, show a + (k - a) = k by omega]; exact h1
      rw [hxz, List.append_assoc, List.getElem?_append_left (by omega)] at h2
      exact hf z List.mem_cons_self (List.mem_of_getElem? h2)
    cases cuts with
    | nil =>
      have ef : f = a := hG
      exact absurd hA (hn _ (by omega))
    | cons i cs =>
      obtain ⟨g1, g2, g3, g4⟩ := hG
      have ei : i = a + z.cps.toList.length := by
        refine Nat.le_antisymm (Nat.le_of_not_lt fun hc => g3 _ (by omega) hc hA) (Nat.le_of_not_lt fun hc => no i g1 hc g2)
      show strSub x a i :: partsFrom x y.length (i + y.length) cs = z :: z2 :: r
      have e1 : strSub x a i = z := by
        apply ext_cps
        rw [strSub_toList, hxz, ei, List.append_assoc, show a + z.cps.toList.length - a = z.cps.toList.length by omega, List.take_left]
      have hd : x.cps.toList.drop (i + y.length) = (Str.join y (z2 :: r)).cps.toList := by
        rw [ei, Nat.add_assoc, ← List.drop_drop, hxz, ← len_cps y, ← List.length_append, List.drop_left]
      have hle : i + y.length ≤ x.length := g2.1
      rw [e1, parts_eq hy (z2 :: r) (i + y.length) cs f (by simp) (fun w hw => hf w (List.mem_cons_of_mem _ hw)) hd hle g4 hn]
theorem split_join {y : Str} {c : Nat} (hy : y.cps.toList.head? = some c) (hk : ∀ x : Str, ¬ strKind x < strKind y) {ys : List Str} (hne : ys ≠ []) (hf : ∀ z ∈ ys, c ∉ z.cps.toList) : Txt.split (Str.join y ys) y = ys := by
  have hw : 1 ≤ y.length := by
    rw [← len_cps]
    cases e : y.cps.toList with
    | nil => rw [e] at hy; cases hy
    | cons a r => exact Nat.succ_le_succ (Nat.zero_le _)
  generalize hx : Str.join y ys = x
  obtain ⟨f, hG, hn⟩ := occ_tight x y hw
  have key := parts_eq hy ys 0 (occurrences x y 0 x.length (x.length + 1)) f hne hf (by rw [List.drop_zero, hx]) (Nat.zero_le _) hG hn
  have one : occurrences x y 0 x.length (x.length + 1) = [] → ys = [x] := fun e => by
    rw [e] at key
    rw [← key]
    show [strSub x 0 x.length] = [x]
    rw [sub_whole]
  unfold Txt.split
  split
  · rename_i hc
    rw [Bool.or_eq_true, decide_eq_true_eq, decide_eq_true_eq] at hc
    rcases hc with h | h
    · refine (one ?_).symm
      cases e : occurrences x y 0 x.length (x.length + 1) with
      | nil => rfl
      | cons i r =>
        rw [e] at hG
        have := hG.2.1.1
        omega
    · exact absurd h (hk x)
  · split
    · rename_i he
      exact (one (List.isEmpty_iff.mp he)).symm
    · rw [partsBetween_eq]
      exact key
end Tb

set_option Elab.async false
set_option linter.all false
set_option maxRecDepth 100000
set_option maxHeartbeats 4000000
/-! Texts of turnings. -/
namespace Tb
open PySem
/-- a place in figures -/
def nS (x : Nat) : Str := toString ((x : Nat) : Int)
def sC : Str := ","
def sO : Str := "("
def sE : Str := ")"
/-- a loop's text -/
def loopTx (l : List Nat) : Str := sO ++ Str.join sC (l.map nS) ++ sE
/-- all loops side by side -/
def flat (ls : List (List Nat)) : Str := ls.foldl (fun a l => a ++ loopTx l) Str.empty
/-- text by text, with commas ahead -/
def grow (a : Str) (ys : List Str) : Str := ys.foldl (fun a y => a ++ sC ++ y) a
theorem sum_len_le {b : Nat} : ∀ (ys : List Str), (∀ y ∈ ys, y.length ≤ b) → (ys.map (·.length)).sum ≤ ys.length * b
  | [], _ => Nat.zero_le _
  | y :: r, h => by
    have h1 := sum_len_le r fun z hz => h z (List.mem_cons_of_mem _ hz)
    have h2 := h y List.mem_cons_self
    rw [List.map_cons, List.sum_cons, List.length_cons, Nat.succ_mul]
    omega
theorem join_len_le {b : Nat} (sep : Str) {ys : List Str} (h : ∀ y ∈ ys, y.length ≤ b) : (Str.join sep ys).length ≤ ys.length * b + ys.length * sep.length :=
  Nat.le_trans (StrLaws.join_length_le sep ys) (Nat.add_le_add_right (sum_len_le ys h) _)
end Tb

set_option Elab.async false
set_option linter.all false
set_option maxRecDepth 100000
set_option maxHeartbeats 4000000
/-! Texts of turnings read back. -/
namespace Tb
open PySem PySem.StrLaws PySem.Builtin PySem.Builtin.Str
/-! ### a place in figures -/
/-! ### the inside of a loop's text -/
theorem mem_join {y : Str} {c : Nat} : ∀ {ys : List Str}, c ∈ (Str.join y ys).cps.toList → c ∈ y.cps.toList ∨ ∃ z ∈ ys, c ∈ z.cps.toList
  | [], h => by
    have h' : c ∈ ([] : List Nat) := h
    cases h'
  | [z], h => .inr ⟨z, List.mem_cons_self, h⟩
  | z :: z2 :: r, h => by
    have h' : c ∈ (z ++ y ++ Str.join y (z2 :: r)).cps.toList := h
    rw [cps_app, cps_app, List.mem_append, List.mem_append] at h'
    rcases h' with (h' | h') | h'
    · exact .inr ⟨z, List.mem_cons_self, h'⟩
    · exact .inl h'
    · rcases mem_join h' with h2 | ⟨w, hw, h2⟩
      · exact .inl h2
      · exact .inr ⟨w, List.mem_cons_of_mem _ hw, h2⟩
theorem kind_one (y : Str) (h : y.cps.all (· < 256) = true) : ∀ x : Str, ¬ Str.strKind x < Str.strKind y := fun x => by
  have e : Str.strKind y = 1 := by unfold Str.strKind; rw [if_pos h]
  rw [e]
  unfold Str.strKind
  split
  · omega
  · split <;> omega
/-! ### loops in any order, each begun at any of its places -/
end Tb

set_option Elab.async false
set_option linter.all false
set_option maxRecDepth 100000
/-! Figures of any number; what the parts of a split text are. -/
namespace Tb
open PySem PySem.StrLaws PySem.Builtin PySem.Builtin.Str
def isFig (c : Nat) : Bool := decide (48 ≤ c) && decide (c ≤ 57)
theorem isFig_iff {c : Nat} : isFig c = true ↔ 48 ≤ c ∧ c ≤ 57 := by
  unfold isFig
  rw [Bool.and_eq_true, decide_eq_true_eq, decide_eq_true_eq]
/-- a number's figures: 1 to most of them, no nought ahead -/
def figsOk (most : Nat) (w : Str) : Bool := (decide (1 ≤ w.length) && decide (w.length ≤ most)) && (w.cps.toList.all isFig && !(decide (1 < w.length) && decide (w.cps.toList.head? = some 48)))
def figVal (w : Str) : Nat := PySem.NumText.digitsVal w.cps.toList
theorem figsOk_int {most : Nat} {w : Str} (h : figsOk most w = true) (hm : most ≤ 4300) : PySem.intText? w = some ((figVal w : Nat) : Int) := by
  unfold figsOk at h
  rw [Bool.and_eq_true, Bool.and_eq_true, Bool.and_eq_true, decide_eq_true_eq, decide_eq_true_eq] at h
  refine PySem.intText_digits (fun c hc => isFig_iff.mp (List.all_eq_true.mp h.2.1 c hc)) (fun z => ?_) (by omega)
  have := h.1.1
  rw [← len_cps, z] at this
  cases this
theorem toDigits_step {m : Nat} (h : ¬ m < 10) : Nat.toDigits 10 m = Nat.toDigits 10 (m / 10) ++ Nat.toDigits 10 (m % 10) := by
  have hm : m % 10 < 10 := Nat.mod_lt m (by decide)
  have t : Nat.toDigits 10 (m / 10) ++ Nat.toDigits 10 (m % 10) = Nat.toDigits 10 (10 * (m / 10) + m % 10) := Nat.toDigits_append_toDigits (by decide) (by omega) hm
  rw [Nat.div_add_mod] at t
  exact t.symm
theorem toDigits_ne (m : Nat) : Nat.toDigits 10 m ≠ [] := fun z => by
  have h := PySem.toDigits_len_ge 10 m
  rw [z] at h
  cases h
theorem toDigits_head : ∀ m : Nat, (Nat.toDigits 10 m).head? = some '0' → m = 0 := by
  intro m
  induction m using Nat.strongRecOn with
  | _ m ih =>
    intro h
    by_cases hm : m < 10
    · rw [Nat.toDigits_of_lt_base hm] at h
      have key : ∀ d : Nat, d < 10 → [Nat.digitChar d].head? = some '0' → d = 0 := by decide
      exact key m hm h
    · rw [toDigits_step hm, List.head?_append] at h
      cases q : (Nat.toDigits 10 (m / 10)).head? with
      | none => exact absurd (List.head?_eq_none_iff.mp q) (toDigits_ne _)
      | some ch =>
      rw [q] at h
      have := ih (m / 10) (by omega) (q.trans h)
      omega
theorem nS_signs (m : Nat) : (nS m).cps.toList = (Nat.toDigits 10 m).map Char.toNat := PySem.W.KIN.signs_num m
theorem nS_figsOk {m most : Nat} (h : m < 10 ^ most) (hm : 0 < most) : figsOk most (nS m) = true := by
  have hl : (nS m).length ≤ most := PyProof.Rows.toString_length_le (v := (m : Int)) (by omega) hm (by
    have : ((m : Nat) : Int) < ((10 ^ most : Nat) : Int) := by omega
    rw [Int.natCast_pow] at this
    exact this)
  have h1 : 1 ≤ (nS m).length := by
    rw [← len_cps, nS_signs, List.length_map]
    exact PySem.toDigits_len_ge 10 m
  unfold figsOk
  rw [Bool.and_eq_true, Bool.and_eq_true, Bool.and_eq_true]
  refine ⟨⟨decide_eq_true h1, decide_eq_true hl⟩, List.all_eq_true.mpr fun c hc => ?_, ?_⟩
  · rw [nS_signs] at hc
    obtain ⟨ch, hch, e⟩ := List.mem_map.mp hc
    rw [← e]
    exact isFig_iff.mpr (PyProof.Rows.digit_range (Nat.isDigit_of_mem_toDigits (by decide) (by decide) hch))
  · rw [Bool.not_eq_true', Bool.and_eq_false_iff]
    by_cases e : (nS m).cps.toList.head? = some 48
    · left
      have e' : (Nat.toDigits 10 m).head? = some '0' := by
        rw [nS_signs, List.head?_map] at e
        cases q : (Nat.toDigits 10 m).head? with
        | none => rw [q] at e; cases e
        | some ch =>
          rw [q] at e
          have e2 : ch.toNat = 48 := Option.some.inj e
          have : ch = '0' := Char.toNat_inj.mp e2
          rw [this]
      have m0 := toDigits_head m e'
      subst m0
      decide
    · right
      exact decide_eq_false e
theorem nS_figVal (m : Nat) : figVal (nS m) = m := by
  unfold figVal
  rw [nS_signs]
  exact PySem.W.KIN.val_back m
/-- the parts of a split text -/
theorem parts_mem {x : Str} {w : Nat} : ∀ (cuts : List Nat) (a : Nat) (z : Str), z ∈ partsFrom x w a cuts → z.length ≤ x.length ∧ ∀ c ∈ z.cps.toList, c ∈ x.cps.toList := by
  have one : ∀ (a b : Nat), (strSub x a b).length ≤ x.length ∧ ∀ c ∈ (strSub x a b).cps.toList, c ∈ x.cps.toList := fun a b => by
    refine ⟨?_, fun c hc => ?_⟩
    · rw [← len_cps, ← len_cps, strSub_toList, List.length_take, List.length_drop]
      omega
    · rw [strSub_toList] at hc
      exact List.mem_of_mem_drop (List.mem_of_mem_take hc)
  intro cuts
  induction cuts with
  | nil =>
    intro a z h
    rw [List.mem_singleton.mp (show z ∈ [strSub x a x.length] from h)]
    exact one _ _
  | cons c r ih =>
    intro a z h
    rcases List.mem_cons.mp (show z ∈ strSub x a c :: partsFrom x w (c + w) r from h) with h | h
    · rw [h]; exact one _ _
    · exact ih _ z h
theorem parts_len {x : Str} {w : Nat} : ∀ (cuts : List Nat) (a : Nat), (partsFrom x w a cuts).length = cuts.length + 1
  | [], _ => rfl
  | _ :: r, _ => congrArg (· + 1) (parts_len r _)
theorem split_mem {x y z : Str} (h : z ∈ Txt.split x y) : z.length ≤ x.length ∧ ∀ c ∈ z.cps.toList, c ∈ x.cps.toList := by
  unfold Txt.split at h
  split at h
  · rw [List.mem_singleton.mp h]; exact ⟨Nat.le_refl _, fun _ h => h⟩
  · split at h
    · rw [List.mem_singleton.mp h]; exact ⟨Nat.le_refl _, fun _ h => h⟩
    · rw [partsBetween_eq] at h
      exact parts_mem _ _ z h
theorem split_len (x y : Str) : 1 ≤ (Txt.split x y).length ∧ (Txt.split x y).length ≤ x.length + 2 := by
  unfold Txt.split
  split
  · exact ⟨Nat.le_refl _, by show 1 ≤ _; omega⟩
  · split
    · exact ⟨Nat.le_refl _, by show 1 ≤ _; omega⟩
    · rw [partsBetween_eq, parts_len]
      have := occ_length_le x y 0 x.length (x.length + 1)
      omega
/-- a text of ASCII signs, of at most so many -/
def Asc (n : Nat) (x : Str) : Prop := x.length ≤ n ∧ ∀ c ∈ x.cps.toList, c < 128
theorem Asc.all {n : Nat} {x : Str} (h : Asc n x) : x.cps.all (· < 128) = true := by
  rw [← Array.all_toList, List.all_eq_true]
  exact fun c hc => decide_eq_true (h.2 c hc)
theorem Asc.split {n : Nat} {x y z : Str} (h : Asc n x) (hz : z ∈ Txt.split x y) : Asc n z :=
  ⟨Nat.le_trans (split_mem hz).1 h.1, fun c hc => h.2 c ((split_mem hz).2 c hc)⟩
theorem Asc.app {n m : Nat} {x y : Str} (h : Asc n x) (k : Asc m y) : Asc (n + m) (x ++ y) := by
  refine ⟨?_, fun c hc => ?_⟩
  · rw [← len_cps, cps_app, List.length_append, len_cps, len_cps]
    exact Nat.add_le_add h.1 k.1
  · rw [cps_app] at hc
    rcases List.mem_append.mp hc with z | z
    · exact h.2 c z
    · exact k.2 c z
theorem Asc.mono {n m : Nat} {x : Str} (h : Asc n x) (hm : n ≤ m) : Asc m x := ⟨Nat.le_trans h.1 hm, h.2⟩
theorem Asc.slice {n : Nat} {x : Str} (h : Asc n x) (lo hi : Option Int) : Asc n (Txt.slice x lo hi) := by
  refine ⟨Nat.le_trans (Txt.slice_le x lo hi) h.1, fun c hc => ?_⟩
  unfold Txt.slice at hc
  split at hc
  · exact h.2 c hc
  · obtain ⟨i, _, hi⟩ := List.mem_filterMap.mp (show c ∈ List.filterMap _ _ from hc)
    refine h.2 c ?_
    rw [← Array.getElem?_toList] at hi
    exact List.mem_of_getElem? hi
end Tb

set_option Elab.async false
set_option linter.all false
set_option maxRecDepth 100000
set_option maxHeartbeats 4000000
/-! What all laws of this program share: rows of places as values, defs that are known by their promise, the built-in names. -/
namespace Tb
open PySem L2
/-- a row of places as values -/
def tI (t : List Nat) : List V := t.map fun (x : Nat) => V.int (x : Int)
theorem tI_length (t : List Nat) : (tI t).length = t.length := List.length_map _
theorem tI_get (t : List Nat) (i : Nat) : (tI t)[i]? = (t[i]?).map fun (x : Nat) => V.int (x : Int) := List.getElem?_map ..
theorem tI_some {t : List Nat} {i : Nat} {x : V} (h : (tI t)[i]? = some x) : ∃ p, t[i]? = some p ∧ x = V.int (p : Int) := by
  rw [tI_get] at h
  cases q : t[i]? with
  | none => rw [q] at h; cases h
  | some p => rw [q] at h; exact ⟨p, rfl, (Option.some.inj h).symm⟩
theorem tI_of {t : List Nat} {i p : Nat} (h : t[i]? = some p) : (tI t)[i]? = some (V.int (p : Int)) := by rw [tI_get, h]; rfl
theorem small {n : Nat} (h : n ≤ 1000) : n ≤ sizeLine := Nat.le_of_lt (small1000 h)
theorem same_new {H : Hp} {p : Addr} (h : H p = none) (o : HO) : Same H (upd H p o) := fun b u q => by rw [upd_ne (ne_of_none q h)]; exact q
theorem same_upd {H H' : Hp} {p : Addr} (s : Same H H') (h : H p = none) (o : HO) : Same H (upd H' p o) := fun b u q => by rw [upd_ne (ne_of_none q h)]; exact s b u q

/-! ### isinstance of built-in types -/
def kitTT (T U : String) : Option Bool := if (Value.type T == Value.type U) = true then some true else if PySem.W.kitMeta U = true then (PySem.fastBuiltinMro T).map (·.contains (Value.type U)) else none
theorem kit_tt {K : PySem.W.Frag} {T U : String} {b : Bool} (h : kitTT T U = some b) : PySem.W.kitOne K (.type T) (.type U) = some b := h
theorem kt_int_int : kitTT "int" "int" = some true := by decide +kernel
theorem kt_int_bool : kitTT "int" "bool" = some false := by decide +kernel
theorem kt_str_str : kitTT "str" "str" = some true := by decide +kernel
theorem dec_intD {i j : Int} : decide (V.int i = V.int j) = decide (i = j) := decide_eq_decide.mpr ⟨fun z => by injection z, fun z => by rw [z]⟩

/-- the built-in names: nobody has taken them -/
structure Blt (mg : Str → Option Value) : Prop where
  len : mg "len" = none
  range : mg "range" = none
  list : mg "list" = none
  tuple : mg "tuple" = none
  isinstance : mg "isinstance" = none
  int : mg "int" = none
  bool : mg "bool" = none
  str : mg "str" = none
  enumerate : mg "enumerate" = none
  sorted : mg "sorted" = none
  sum : mg "sum" = none
  all : mg "all" = none
  set : mg "set" = none
  reversed : mg "reversed" = none
  divmod : mg "divmod" = none
  max : mg "max" = none
  min : mg "min" = none
theorem bt_len : bootBuiltins "len" = some (.builtin "len") := by decide +kernel
theorem bt_list : bootBuiltins "list" = some (.type "list") := by decide +kernel
theorem bt_tuple : bootBuiltins "tuple" = some (.type "tuple") := by decide +kernel
theorem bt_isinstance : bootBuiltins "isinstance" = some (.builtin "isinstance") := by decide +kernel
theorem bt_int : bootBuiltins "int" = some (.type "int") := by decide +kernel
theorem bt_bool : bootBuiltins "bool" = some (.type "bool") := by decide +kernel
theorem bt_str : bootBuiltins "str" = some (.type "str") := by decide +kernel
theorem bt_all : bootBuiltins "all" = some (.builtin "all") := by decide +kernel
theorem bt_max : bootBuiltins "max" = some (.builtin "max") := by decide +kernel
/-- a constant of the text -/
def Glob (mg : Str → Option Value) (x : Str) (v : V) : Prop := ∃ u, mg x = some u ∧ RelV v u
theorem pe_gl {X : Cx} {x : Str} {v : V} {pos : Pos} (g : Glob X.mg x v) (hg : Gl X x) (hd : (x == ("__debug__" : Str)) = false := by decide) : PE X (.Name x pos) (tC v) := by
  obtain ⟨u, hm, r⟩ := g
  exact pe_glob hg hm r hd
/-- a def of the text by its promise -/
def Known (P : Program) (w : World) (K : PySem.W.Frag) (mg : Str → Option Value) (base : Heap) (k : Nat) (x : Str) (ps : List Str) (sp : Sp) : Prop :=
  ∃ f fd, FnOk P w K mg base CX0 k f fd ps sp ∧ PySem.W.keepIn K (.ref f) = true ∧ mg x = some (.ref f) ∧ Binds K fd ps []
/-- a def of the text as it stands -/
structure Def (K : PySem.W.Frag) (mg : Str → Option Value) (x : Str) (st : Stmt) (ps : List Str) (f : Addr) (fd : FuncData) : Prop where
  F : Fun K x x st f fd
  b : Binds K fd ps []
  m : mg x = some (.ref f)
theorem Def.known {P : Program} {w : World} {K : PySem.W.Frag} {mg : Str → Option Value} {base : Heap} {x : Str} {st : Stmt} {ps : List Str} {f : Addr} {fd : FuncData} {k : Nat} {sp : Sp} (D : Def K mg x st ps f fd) (G : FnOk P w K mg base CX0 k f fd ps sp) : Known P w K mg base k x ps sp :=
  ⟨f, fd, G, D.F.kp, D.m, D.b⟩
section
variable {X : Cx} {x : Str} {p pos : Pos} {e : Expr} {es : List Expr} {t : TA} {ps : List Str} {sp : Sp} {k j : Nat}
theorem pe_kn (kn : Known X.prog X.w X.K X.mg X.base k x ps sp) (hr : Room j X.A) (hg : Gl X x) (ha : PA X (e :: es) t) (hj : k ≤ j := by decide) (hdb : (x == ("__debug__" : Str)) = false := by decide)
    (he : starEach (e :: es) X.env = (false, eval e X.env) :: starEach es X.env := by rfl) (hpl : (backTo pos (starEach es X.env)).any (·.1) = false := by rfl) : PE X (.Call (.Name x p) (e :: es) [] pos) (tCall sp [] E0 t) := by
  obtain ⟨f, fd, G, hk, hm, hb⟩ := kn
  exact pe_call G (hr.mono hj) hg hm hk hb .nil pass0 ha hdb he hpl
end
def RowN (n : Nat) (t : List Nat) : Prop := t.length = n ∧ ∀ x ∈ t, x < n
theorem RowN.range (n : Nat) : RowN n (List.range n) := ⟨List.length_range, fun x h => List.mem_range.mp h⟩
theorem RowN.set {n : Nat} {t : List Nat} (h : RowN n t) (i : Nat) {x : Nat} (hx : x < n) : RowN n (t.set i x) := ⟨by rw [List.length_set, h.1], fun y hy => by
  rcases List.mem_or_eq_of_mem_set hy with hy | rfl
  · exact h.2 y hy
  · exact hx⟩
theorem RowN.at {n : Nat} {t : List Nat} (h : RowN n t) {i : Nat} (hi : i < n) : t[i]? = some (t.getD i 0) ∧ t.getD i 0 < n := by
  have hi' : i < t.length := by rw [h.1]; exact hi
  have e : t[i]? = some (t.getD i 0) := by rw [List.getD_eq_getElem?_getD, List.getElem?_eq_getElem hi']; rfl
  exact ⟨e, h.2 _ (List.mem_of_getElem? e)⟩
theorem mod_at {z : Int} {k : Nat} (h : 0 < k) : ∃ m : Nat, z % (k : Int) = (m : Int) ∧ m < k := by
  have h1 := Int.emod_nonneg z (show (k : Int) ≠ 0 by omega)
  have h2 := Int.emod_lt_of_pos z (show (0 : Int) < (k : Int) by omega)
  exact ⟨(z % (k : Int)).toNat, by omega, by omega⟩
theorem tI_ints (t : List Nat) : tI t = (t.map fun (x : Nat) => (x : Int)).map V.int := by
  unfold tI
  rw [List.map_map]
  rfl
/-- an item of the script -/
theorem cell_of {ns : List Int} {i : Nat} {y : V} (hi : (ns.map V.int)[i]? = some y) : ∃ z, z ∈ ns ∧ y = V.int z := by
  rw [List.getElem?_map] at hi
  cases e : ns[i]? with
  | none => rw [e] at hi; cases hi
  | some z => rw [e] at hi; exact ⟨z, List.mem_of_getElem? e, (Option.some.inj hi).symm⟩
/-- what law(script) promises: for a list of at most 63 ints of at most 2^20 bits the answer is True -/
def spLaw (K : PySem.W.Frag) : Sp := fun vs H Q _ => ∃ (a : Addr) (ns : List Int), vs = [.ref a] ∧ SqL K H a (ns.map V.int) ∧ ns.length ≤ 63 ∧ (∀ z ∈ ns, Builtin.Int.intBits z ≤ 2 ^ 20) ∧ ∀ H', Q (.bl true) H'
theorem walk {l : PySem.W.OpenLaw} {q : Program} {loose : List Str} {XP : (Str → Option Value) → Heap → Prop} {YP : World → Heap → Prop} {d : DefRec} {K : Params → PySem.W.Frag} {k : Nat} {x : Str} (hn : l.most = some 63) (hdf : d.params.defaults = []) (hr : Room k callerA)
    (hY : ∀ (w : World) (h : Heap), YP w h → (K w.params).In h)
    (F : ∀ (w : World) (mg : Str → Option Value) (fa : Addr) (h : Heap), (K w.params).In h → h.Ns mainGlobals mg → mg d.name = some (.ref fa) →
      ∃ fd : FuncData, (∀ (s : Shared) (u : Value), BindsTo s fd ⟨[u], []⟩ [(x, u)]) ∧ ∀ base : Heap, (K w.params).In base → base.Ns mainGlobals mg → FnOk l.prog w (K w.params) mg base CX0 k fa fd [x] (spLaw (K w.params))) :
    PySem.W.WalkO q loose XP YP l.row.toRowW d [] (fun f vs => PySem.call f vs) :=
  L2.walk_ofB (n := 63) (k := k) (x := x) (CX := CX0) (sp := spLaw) hn (by decide) hdf hr hY F (fun _ _ a ns hl hb _ hS => ⟨a, ns, rfl, hS, hl, hb, fun _ => rfl⟩) fun _ _ _ _ z => z
/-! ### recipes as values -/
def lnV : TM.Ln → List V
  | .still => [.str "still"]
  | .told k => [.str "told", .int (k : Int)]
  | .behind i j => [.str "behind", .int (i : Int), .int (j : Int)]
  | .back i => [.str "back", .int (i : Int)]
def lnW : TM.Ln → Str
  | .still => "still"
  | .told _ => "told"
  | .behind _ _ => "behind"
  | .back _ => "back"
def lnN : TM.Ln → List Nat
  | .still => []
  | .told k => [k]
  | .behind i j => [i, j]
  | .back i => [i]
theorem lnV_eq (l : TM.Ln) : lnV l = V.str (lnW l) :: tI (lnN l) := by cases l <;> rfl
/-- the lines at their addresses -/
def LnsAt (H : Hp) (as : List Addr) (ls : List TM.Ln) : Prop := Paired (fun a l => H a = some (.tup (lnV l))) as ls
def TsAt (H : Hp) (as : List Addr) (ts : List (List Nat)) : Prop := Paired (fun a t => H a = some (.tup (tI t))) as ts
theorem LnsAt.same {H H' : Hp} {as : List Addr} {ls : List TM.Ln} (h : LnsAt H as ls) (s : Same H H') : LnsAt H' as ls := Paired.imp' (fun _ _ e => s _ _ e) h
theorem TsAt.same {H H' : Hp} {as : List Addr} {ls : List (List Nat)} (h : TsAt H as ls) (s : Same H H') : TsAt H' as ls := Paired.imp' (fun _ _ e => s _ _ e) h
theorem paired_at {α β : Type} {F : α → β → Prop} : ∀ {as : List α} {bs : List β}, Paired F as bs → ∀ (i : Nat) (b : β), bs[i]? = some b → ∃ a, as[i]? = some a ∧ F a b
  | _, _, .nil, i, b, h => by cases i <;> cases h
  | _, _, .cons f _, 0, b, h => by
    cases h
    exact ⟨_, rfl, f⟩
  | _, _, .cons _ r, i + 1, b, h => by
    obtain ⟨a, ha, f⟩ := paired_at r i b (by simpa using h)
    exact ⟨a, by simpa using ha, f⟩
theorem paired_at2 {α β : Type} {F : α → β → Prop} : ∀ {as : List α} {bs : List β}, Paired F as bs → ∀ (i : Nat) (a : α), as[i]? = some a → ∃ b, bs[i]? = some b ∧ F a b
  | _, _, .nil, i, a, h => by cases i <;> cases h
  | _, _, .cons f _, 0, a, h => by
    cases h
    exact ⟨_, rfl, f⟩
  | _, _, .cons _ r, i + 1, a, h => by
    obtain ⟨b, hb, f⟩ := paired_at2 r i a (by simpa using h)
    exact ⟨b, by simpa using hb, f⟩
theorem ref_some {as : List Addr} {i : Nat} {y : V} (h : (as.map V.ref)[i]? = some y) : ∃ b, as[i]? = some b ∧ y = V.ref b := by
  rw [List.getElem?_map] at h
  cases e : as[i]? with
  | none => rw [e] at h; cases h
  | some b => rw [e] at h; exact ⟨b, rfl, (Option.some.inj h).symm⟩
theorem cut1 (xs : List V) (x : V) : cutV (x :: xs) (some 1) none = xs := by
  unfold cutV
  have e : HT.sIx (x :: xs).length 0 (some (1 : Int)) = 1 := by
    show (if (1 : Int) < 0 then ((1 : Int) + ((x :: xs).length : Int)).toNat else min (1 : Int).toNat (x :: xs).length) = 1
    rw [if_neg (by decide)]
    show min 1 (xs.length + 1) = 1
    omega
  rw [e, HT.sIx_none, List.drop_one, List.tail_cons, List.take_of_length_le (by simp)]
theorem not_whole (xs : List V) (x : V) : ¬ (HT.sIx (x :: xs).length 0 (some (1 : Int)) = 0 ∧ HT.sIx (x :: xs).length (x :: xs).length none = (x :: xs).length) := by
  rintro ⟨h, _⟩
  have e : HT.sIx (x :: xs).length 0 (some (1 : Int)) = 1 := by
    show (if (1 : Int) < 0 then ((1 : Int) + ((x :: xs).length : Int)).toNat else min (1 : Int).toNat (x :: xs).length) = 1
    rw [if_neg (by decide)]
    show min 1 (xs.length + 1) = 1
    omega
  rw [e] at h
  cases h
end Tb

namespace Tb
open PySem L2
def top (i : Nat) : Stmt := PySem.Challenge.pw_turnbase_k26_recipes_shown_and_read.main.body.getD i (.Pass ⟨0, 0, 0, 0⟩)
abbrev s_is_whole : Stmt := top 14
abbrev s_need_text : Stmt := top 17
abbrev s_read_figures : Stmt := top 18
abbrev s_is_line : Stmt := top 22
abbrev s_is_recipe : Stmt := top 23
abbrev s_read_line : Stmt := top 26
abbrev s_read_recipe : Stmt := top 27
abbrev s_shown_line : Stmt := top 24
abbrev s_shown_recipe : Stmt := top 25
abbrev s__law_cell_at : Stmt := top 29
abbrev s__law_line : Stmt := top 30
abbrev s__law_lines : Stmt := top 31
abbrev s__law_shown : Stmt := top 32
abbrev s__law_number : Stmt := top 33
abbrev s__law_kinds : Stmt := top 39
abbrev s__law_line_of : Stmt := top 34
abbrev s__law_recipe_of : Stmt := top 35
abbrev s__law_sign : Stmt := top 36
abbrev s__law_other : Stmt := top 37
abbrev s__law_read : Stmt := top 38
abbrev s_law : Stmt := top 40
section
variable {P : Program} {w : World} {K : PySem.W.Frag} {mg : Str → Option Value} {base : Heap} {f : Addr} {fd : FuncData}

/-! ### is_whole, of things of any kind -/
def isIntD : PyData → Bool
  | .int _ => true
  | .bool _ => true
  | _ => false
def isBoolD : PyData → Bool
  | .bool _ => true
  | _ => false
def isStrD : PyData → Bool
  | .str _ => true
  | _ => false
def isTupD : PyData → Bool
  | .tuple _ => true
  | _ => false
def isLstD : PyData → Bool
  | .list _ => true
  | _ => false
def isW : PyData → Bool
  | .int _ => true
  | _ => false
theorem kd_int : ∀ d : PyData, kitTT (tyD d) "int" = some (isIntD d)
  | .none => (by decide +kernel : kitTT "NoneType" "int" = some false)
  | .bool _ => (by decide +kernel : kitTT "bool" "int" = some true)
  | .int _ => (by decide +kernel : kitTT "int" "int" = some true)
  | .str _ => (by decide +kernel : kitTT "str" "int" = some false)
  | .list _ => (by decide +kernel : kitTT "list" "int" = some false)
  | .tuple _ => (by decide +kernel : kitTT "tuple" "int" = some false)
  | .dict _ => (by decide +kernel : kitTT "dict" "int" = some false)
theorem kd_bool : ∀ d : PyData, kitTT (tyD d) "bool" = some (isBoolD d)
  | .none => (by decide +kernel : kitTT "NoneType" "bool" = some false)
  | .bool _ => (by decide +kernel : kitTT "bool" "bool" = some true)
  | .int _ => (by decide +kernel : kitTT "int" "bool" = some false)
  | .str _ => (by decide +kernel : kitTT "str" "bool" = some false)
  | .list _ => (by decide +kernel : kitTT "list" "bool" = some false)
  | .tuple _ => (by decide +kernel : kitTT "tuple" "bool" = some false)
  | .dict _ => (by decide +kernel : kitTT "dict" "bool" = some false)
theorem kd_str : ∀ d : PyData, kitTT (tyD d) "str" = some (isStrD d)
  | .none => (by decide +kernel : kitTT "NoneType" "str" = some false)
  | .bool _ => (by decide +kernel : kitTT "bool" "str" = some false)
  | .int _ => (by decide +kernel : kitTT "int" "str" = some false)
  | .str _ => (by decide +kernel : kitTT "str" "str" = some true)
  | .list _ => (by decide +kernel : kitTT "list" "str" = some false)
  | .tuple _ => (by decide +kernel : kitTT "tuple" "str" = some false)
  | .dict _ => (by decide +kernel : kitTT "dict" "str" = some false)
theorem kd_tup : ∀ d : PyData, kitTT (tyD d) "tuple" = some (isTupD d)
  | .none => (by decide +kernel : kitTT "NoneType" "tuple" = some false)
  | .bool _ => (by decide +kernel : kitTT "bool" "tuple" = some false)
  | .int _ => (by decide +kernel : kitTT "int" "tuple" = some false)
  | .str _ => (by decide +kernel : kitTT "str" "tuple" = some false)
  | .list _ => (by decide +kernel : kitTT "list" "tuple" = some false)
  | .tuple _ => (by decide +kernel : kitTT "tuple" "tuple" = some true)
  | .dict _ => (by decide +kernel : kitTT "dict" "tuple" = some false)
theorem kd_lst : ∀ d : PyData, kitTT (tyD d) "list" = some (isLstD d)
  | .none => (by decide +kernel : kitTT "NoneType" "list" = some false)
  | .bool _ => (by decide +kernel : kitTT "bool" "list" = some false)
  | .int _ => (by decide +kernel : kitTT "int" "list" = some false)
  | .str _ => (by decide +kernel : kitTT "str" "list" = some false)
  | .list _ => (by decide +kernel : kitTT "list" "list" = some true)
  | .tuple _ => (by decide +kernel : kitTT "tuple" "list" = some false)
  | .dict _ => (by decide +kernel : kitTT "dict" "list" = some false)
theorem sc_is_whole : FnScope ["thing"] ["thing"] (defScope s_is_whole) := ⟨rfl, rfl, rfl, by decide +kernel, rfl, by decide +kernel, by decide +kernel⟩
def spWholeD : Sp := fun vs H Q _ => ∃ (x : V) (d : PyData), vs = [x] ∧ Dt H x d ∧ Q (.bl (isW d)) H
theorem ok_is_whole (D : Def K mg "is_whole" s_is_whole ["thing"] f fd) (B : Blt mg) : FnOk P w K mg base CX0 1 f fd ["thing"] spWholeD := by
  refine D.F.ok sc_is_whole (fun vs H Q E h => ?_) (fun cdv A outer s H vs Q E hr h => ?_)
  · obtain ⟨x, d, rfl, _⟩ := h
    rfl
  obtain ⟨x, d, rfl, hd, q⟩ := h
  refine ⟨_, pss_one (ps_ret (pe_and (pe_callB call_isinst rfl B.isinstance bt_isinstance (pa_cons (pv 0) (pa_cons (pe_bltn (v := .ty "int") rfl B.int bt_int rfl) pa_nil)))
    (pe_one (pe_not (pe_callB call_isinst rfl B.isinstance bt_isinstance (pa_cons (pv 0) (pa_cons (pe_bltn (v := .ty "bool") rfl B.bool bt_bool rfl) pa_nil))))))), ?_⟩
  refine ⟨_, rfl, _, _, _, _, rfl, hd.ty, kit_tt (kd_int d), _, rfl, ?_⟩
  cases d with
  | int i => exact iteT ⟨_, rfl, _, _, _, _, rfl, hd.ty, kit_tt (kd_bool _), _, rfl, q⟩
  | bool b => exact iteT ⟨_, rfl, _, _, _, _, rfl, hd.ty, kit_tt (kd_bool _), _, rfl, q⟩
  | none => exact iteF q
  | str _ => exact iteF q
  | list _ => exact iteF q
  | tuple _ => exact iteF q
  | dict _ => exact iteF q

/-! ### need_text, of anything -/
def spNeedTextT (C : Addr) : Sp := fun vs H Q E => ∃ (x : V) (d : PyData), vs = [x] ∧ Dt H x d ∧ (isStrD d = true → Q .non H) ∧ (isStrD d = false → E (.ref C) none H)
theorem sc_need_text : FnScope ["thing"] ["thing"] (defScope s_need_text) := ⟨rfl, rfl, rfl, by decide +kernel, rfl, by decide +kernel, by decide +kernel⟩
theorem ok_need_text (D : Def K mg "need_text" s_need_text ["thing"] f fd) (B : Blt mg) {TE C : Addr} (EA : ErrAt K mg TE "NoText" C) : KnownX P w K mg base 1 "need_text" ["thing"] (spNeedTextT C) := by
  refine ⟨f, fd, ?_, D.F.kp, D.m, D.b⟩
  refine D.F.okX sc_need_text (fun vs H Q E h => ?_) (fun cdv A outer s H vs Q E hr h => ?_)
  · obtain ⟨x, d, rfl, _⟩ := h
    rfl
  obtain ⟨x, d, rfl, hd, q1, q2⟩ := h
  refine ⟨_, pss_one (ps_if (pt_not (pt_val (pe_callB call_isinst rfl B.isinstance bt_isinstance (pa_cons (pv 0) (pa_cons (pe_bltn (v := .ty "str") rfl B.str bt_str rfl) pa_nil))))) (pss_one (ps_raise EA.m EA.c PySem.F.excBase_ValueError rfl rfl (pa_cons pe_str pa_nil))) pss_nil), ?_⟩
  refine ⟨_, rfl, _, _, _, _, rfl, hd.ty, kit_tt (kd_str d), _, rfl, ?_⟩
  cases hb : isStrD d with
  | true => exact iteF (q1 hb)
  | false => exact iteT ⟨by decide, q2 hb⟩

/-! ### read_figures, of any text -/
def spFigsT (C : Addr) : Sp := fun vs H Q E => ∃ (t : Str) (most : Nat), vs = [.str t, .int (most : Int)] ∧ Asc 4000 t ∧ most ≤ 600 ∧ (figsOk most t = true → ∀ H' : Hp, Same H H' → Q (.int ((figVal t : Nat) : Int)) H') ∧ (figsOk most t = false → ∀ H' : Hp, Same H H' → E (.ref C) none H')
theorem sc_read_figures : FnScope ["text", "most"] ["text", "most"] (defScope s_read_figures) := ⟨rfl, rfl, rfl, by decide +kernel, rfl, by decide +kernel, by decide +kernel⟩
def sFig : Str := "0123456789"
theorem fig_in {c : Nat} : (!(Builtin.Str.occurrences sFig ⟨#[c]⟩ 0 sFig.length 1).isEmpty) = isFig c := by
  rw [StrLaws.found_one]
  have e : sFig.cps.toList = [48, 49, 50, 51, 52, 53, 54, 55, 56, 57] := by decide
  rw [e]
  unfold isFig
  rw [← Bool.decide_and, decide_eq_decide]
  simp only [List.mem_cons, List.mem_nil_iff, or_false]
  omega
theorem ok_read_figures (D : Def K mg "read_figures" s_read_figures ["text", "most"] f fd) (B : Blt mg) (GF : Glob mg "FIGURES" (.str sFig)) {TE C : Addr} (EA : ErrAt K mg TE "NoText" C) : KnownX P w K mg base 1 "read_figures" ["text", "most"] (spFigsT C) := by
  refine ⟨f, fd, ?_, D.F.kp, D.m, D.b⟩
  refine D.F.okX sc_read_figures (fun vs H Q E h => ?_) (fun cdv A outer s H vs Q E hr h => ?_)
  · obtain ⟨t, most, rfl, _⟩ := h
    rfl
  obtain ⟨t, most, rfl, ht, hm, q1, q2⟩ := h
  have hz := sizeLine_big
  have htl := ht.1
  refine ⟨_, pss_cons (ps_if (pt_not (pt_chain op_le op_le pe_int (pe_callB call_len_str rfl B.len bt_len (pa_cons (pv 0) pa_nil)) (pv 1))) (pss_one (ps_raise EA.m EA.c PySem.F.excBase_ValueError rfl rfl (pa_cons pe_str pa_nil))) pss_nil)
    (pss_cons (ps_if (pt_not (pt_val (pe_callB (call_allL rfl) rfl B.all bt_all (pa_cons (pe_comp1 [] ["sign"] rfl (pi_str (pv 0)) (fun _ _ _ _ => pe_cmpR op_in_str (pv 0) (pe_gl GF rfl) rfl)) pa_nil)))) (pss_one (ps_raise EA.m EA.c PySem.F.excBase_ValueError rfl rfl (pa_cons pe_str pa_nil))) pss_nil)
    (pss_cons (ps_if (PW.pt (pw_and (pt_cmpR op_gt (pe_callB call_len_str rfl B.len bt_len (pa_cons (pv 0) pa_nil)) pe_int (nomark _)) (pw_and1 (pt_cmpR op_eq (pe_ix ix_str (pv 0) pe_int (fun _ _ => rfl)) pe_str (nomark _))))) (pss_one (ps_raise EA.m EA.c PySem.F.excBase_ValueError rfl rfl (pa_cons pe_str pa_nil))) pss_nil)
    (pss_one (ps_ret (pe_callTy call_int_tx rfl B.int bt_int (pa_cons (pv 0) pa_nil)))))), ?_⟩
  refine ⟨_, rfl, t, rfl, by omega, _, _, rfl, rfl, _, rfl, ?_⟩
  by_cases h1 : 1 ≤ t.length
  case neg =>
    rw [decide_eq_false (show ¬ (1 : Int) ≤ ((t.length : Nat) : Int) by omega)]
    refine iteF ⟨_, rfl, iteT ⟨by decide, q2 ?_ H (Same.refl _)⟩⟩
    unfold figsOk
    rw [decide_eq_false h1]; rfl
  rw [decide_eq_true (show (1 : Int) ≤ ((t.length : Nat) : Int) by omega)]
  refine iteT ⟨_, rfl, _, _, rfl, rfl, _, rfl, ?_⟩
  by_cases h2 : t.length ≤ most
  case neg =>
    rw [decide_eq_false (show ¬ ((t.length : Nat) : Int) ≤ (most : Int) by omega)]
    refine iteT ⟨by decide, q2 ?_ H (Same.refl _)⟩
    unfold figsOk
    rw [decide_eq_false h2, Bool.and_false]; rfl
  rw [decide_eq_true (show ((t.length : Nat) : Int) ≤ (most : Int) by omega)]
  refine iteF ?_
  have hcl : t.cps.toList.length = t.length := len_cps _
  refine ⟨_, rfl, t, rfl, ht.all, comp_str ((t.cps.toList.map isFig).map V.bl) (by rw [List.length_map, List.length_map, hcl]) (by omega) ?_ ?_⟩
  · intro i c H' hc s' _ _ _ _
    refine ⟨_, rfl, _, _, rfl, rfl, Same.refl _, ?_⟩
    rw [fig_in, List.getElem?_map, List.getElem?_map, hc]
    rfl
  intro b H1 _ s1 hb
  refine ⟨b, _, rfl, SqL.of hb, _, rfl, ?_⟩
  rw [show (t.cps.toList.map isFig).all id = t.cps.toList.all isFig by rw [List.all_map]; rfl]
  cases hall : t.cps.toList.all isFig with
  | false =>
    refine iteT ⟨by decide, q2 ?_ H1 s1⟩
    unfold figsOk
    rw [hall, Bool.false_and, Bool.and_false]
  | true =>
  refine iteF ?_
  refine ⟨_, rfl, t, rfl, by omega, _, _, rfl, rfl, _, rfl, ?_⟩
  have last : figsOk most t = true → ∃ (z : Str) (n : Int), [V.str t] = [V.str z] ∧ PySem.intText? z = some n ∧ z.length ≤ 640 ∧ Q (.int n) H1 := fun ok => ⟨t, _, rfl, figsOk_int ok (by omega), by omega, q1 ok H1 s1⟩
  by_cases h3 : 1 < t.length
  · rw [decide_eq_true (show (1 : Int) < ((t.length : Nat) : Int) by omega)]
    refine iteT ?_
    obtain ⟨c, hc⟩ : ∃ c, t.cps.toList[0]? = some c := ⟨_, List.getElem?_eq_getElem (by rw [hcl]; omega)⟩
    refine ⟨_, rfl, t, 0, c, rfl, rfl, by omega, atI_nat (j := 0) hc, rfl, _, rfl, ?_⟩
    have hh : t.cps.toList.head? = some c := by rw [List.head?_eq_getElem?, hc]
    show if decide (V.str ⟨#[c]⟩ = V.str "0") = true then _ else _
    by_cases hc48 : c = 48
    · subst hc48
      rw [decide_eq_true (show V.str ⟨#[48]⟩ = V.str "0" from rfl)]
      refine iteT ⟨by decide, q2 ?_ H1 s1⟩
      unfold figsOk
      rw [hh, decide_eq_true h3, decide_eq_true rfl]
      simp
    · have ne : ¬ (V.str ⟨#[c]⟩ = V.str "0") := fun z => by
        injection z with z
        have h2 := congrArg (fun s : Str => s.cps.toList) z
        have h3 : [c] = [48] := h2
        exact hc48 (by simpa using h3)
      rw [decide_eq_false ne]
      refine iteF ⟨_, rfl, last ?_⟩
      unfold figsOk
      rw [hh, hall, decide_eq_true h1, decide_eq_true h2, decide_eq_false (show ¬ (some c = some 48) from fun z => hc48 (Option.some.inj z))]
      simp
  · rw [decide_eq_false (show ¬ (1 : Int) < ((t.length : Nat) : Int) by omega)]
    refine iteF ⟨_, rfl, last ?_⟩
    unfold figsOk
    rw [hall, decide_eq_true h1, decide_eq_true h2, decide_eq_false h3]
    rfl

/-! ### is_line, of things of any kind -/
structure NumOf (K : PySem.W.Frag) (w : World) (mg : Str → Option Value) (d : Addr) : Prop where
  gl : Glob mg "NUMBERS_OF" (.ref d)
  kd : KDict K w d
  val : ∀ l : TM.Ln, ∃ t, PySem.W.nsIn K d (lnW l) = some (some (.int ((lnN l).length : Int) t))
theorem sc_is_line : FnScope ["thing", "ahead", "count", "word", "numbers", "bound"] ["thing", "ahead", "count"] (defScope s_is_line) := ⟨rfl, rfl, rfl, by decide +kernel, rfl, by decide +kernel, by decide +kernel⟩
def nL (w : Str) : Option Nat := if w = "still" then some 0 else if w = "told" then some 1 else if w = "behind" then some 2 else if w = "back" then some 1 else none
def isNumD (bd : Int) : PyData → Bool
  | .int i => decide (0 ≤ i) && decide (i < bd)
  | _ => false
def bdD (w : Str) (p c : Int) : Int := if w = "told" then c else p
def isLineD (p c : Int) : PyData → Bool
  | .tuple (.str w :: ns) => decide (nL w = some ns.length) && ns.all (isNumD (bdD w p c))
  | _ => false
def WordOk (K : PySem.W.Frag) (dN : Addr) (d : PyData) : Prop := ∀ (w : Str) (ns : List PyData), d = .tuple (.str w :: ns) → (nL w = none ∧ PySem.W.nsIn K dN w = some none) ∨ ∃ (n : Nat) (tk : Tok), nL w = some n ∧ PySem.W.nsIn K dN w = some (some (.int (n : Int) tk))
theorem nL_le {w : Str} {n : Nat} (h : nL w = some n) : n ≤ 2 := by
  unfold nL at h
  split at h <;> try (cases h; decide)
  split at h <;> try (cases h; decide)
  split at h <;> try (cases h; decide)
  split at h <;> cases h
  decide
def spIsLineD (K : PySem.W.Frag) (dN : Addr) : Sp := fun vs H Q _ => ∃ (x : V) (d : PyData) (p c : Int), vs = [x, .int p, .int c] ∧ Dt H x d ∧ WordOk K dN d ∧ ∀ H' : Hp, Same H H' → Q (.bl (isLineD p c d)) H'
theorem if_name {b : Bool} {x y z : V} {F : V → Prop} (e : z = if b = true then x else y) (h : F z) : if b = true then (∃ v, some (some x) = some (some v) ∧ F v) else (∃ v, some (some y) = some (some v) ∧ F v) := by
  subst e
  cases b
  · exact iteF ⟨_, rfl, h⟩
  · exact iteT ⟨_, rfl, h⟩
theorem ok_is_line {dN : Addr} (D : Def K mg "is_line" s_is_line ["thing", "ahead", "count"] f fd) (B : Blt mg) (KW : Known P w K mg base 1 "is_whole" ["thing"] spWholeD) (NM : NumOf K w mg dN) : FnOk P w K mg base CX0 2 f fd ["thing", "ahead", "count"] (spIsLineD K dN) := by
  refine D.F.ok sc_is_line (fun vs H Q E h => ?_) (fun cdv A outer s H vs Q E hr h => ?_)
  · obtain ⟨x, d, p, c, rfl, _⟩ := h
    rfl
  obtain ⟨x, d, p, c, rfl, hd, hw, q⟩ := h
  refine ⟨_, pss_cons (ps_if (PW.pt (pw_or (pt_not (pt_val (pe_callB call_isinst rfl B.isinstance bt_isinstance (pa_cons (pv 0) (pa_cons (pe_bltn (v := .ty "tuple") rfl B.tuple bt_tuple rfl) pa_nil))))) (pw_or1 (pt_cmpR op_eq (pe_callB call_len_seq rfl B.len bt_len (pa_cons (pv 0) pa_nil)) pe_int (nomark _))))) (pss_one (ps_ret pe_bl)) pss_nil)
    (pss_cons (ps_set (i := 3) sc_is_line.nd rfl (Or.inl rfl) (pe_ix ix_tup (pv 0) pe_int (fun _ _ => rfl)))
    (pss_cons (ps_if (PW.pt (pw_or (pt_not (pt_val (pe_callB call_isinst rfl B.isinstance bt_isinstance (pa_cons (pv 3) (pa_cons (pe_bltn (v := .ty "str") rfl B.str bt_str rfl) pa_nil))))) (pw_or1 (pt_cmpR op_notinK (pv 3) (pe_gl NM.gl rfl) rfl)))) (pss_one (ps_ret pe_bl)) pss_nil)
    (pss_cons (ps_set (i := 4) sc_is_line.nd rfl (Or.inl rfl) (pe_slice sl_tup (pv 0) (po_some pe_int) po_none))
    (pss_cons (ps_if (pt_cmpR op_ne (pe_callB call_len_seq rfl B.len bt_len (pa_cons (pv 4) pa_nil)) (pe_dgetK (pe_gl NM.gl rfl) (pv 3) (fun _ _ => rfl)) (nomark _)) (pss_one (ps_ret pe_bl)) pss_nil)
    (pss_cons (ps_set (i := 5) sc_is_line.nd rfl (Or.inr rfl) (pe_ifExp (pt_cmpR op_eq (pv 3) pe_str (nomark _)) (pv 2) (pv 1)))
    (pss_one (ps_ret (pe_callB (call_allL rfl) rfl B.all bt_all (pa_cons (pe_comp1 [5] ["number", "bound"] rfl (pi_tup (pv 4)) (fun _ _ _ _ => (pe_and (pe_kn KW hr rfl (pa_cons (pv 0) pa_nil)) (pe_one (pe_chain op_le op_lt pe_int (pv 0) (pv 1)))))) pa_nil))))))))), ?_⟩
  refine ⟨_, rfl, _, _, _, _, rfl, hd.ty, kit_tt (kd_tup d), _, rfl, ?_⟩
  cases hd with
  | non => exact iteT (q H (Same.refl _))
  | bl b => exact iteT (q H (Same.refl _))
  | int i => exact iteT (q H (Same.refl _))
  | str t => exact iteT (q H (Same.refl _))
  | lst _ _ => exact iteT (q H (Same.refl _))
  | dct _ => exact iteT (q H (Same.refl _))
  | @tup b xs ds hb hs =>
  refine iteF ⟨_, rfl, b, _, rfl, .inr (SqT.of hb), rfl, _, rfl, ?_⟩
  cases hs with
  | nil => exact iteT (q H (Same.refl _))
  | @cons y dy ys ns hy hys =>
  show if decide (V.int (((y :: ys).length : Nat) : Int) = V.int 0) = true then _ else _
  rw [decide_eq_false (fun z => by injection z with z; rw [List.length_cons] at z; omega)]
  refine iteF ⟨_, rfl, b, _, _, _, rfl, rfl, SqT.of hb, atI_nat (j := 0) rfl, ?_⟩
  refine ⟨_, rfl, _, _, _, _, rfl, hy.ty, kit_tt (kd_str dy), _, rfl, ?_⟩
  cases hy with
  | non => exact iteT (q H (Same.refl _))
  | bl b => exact iteT (q H (Same.refl _))
  | int i => exact iteT (q H (Same.refl _))
  | lst _ _ => exact iteT (q H (Same.refl _))
  | dct _ => exact iteT (q H (Same.refl _))
  | tup _ _ => exact iteT (q H (Same.refl _))
  | str wd =>
  refine iteF ?_
  rcases hw wd ns rfl with ⟨hn, hl⟩ | ⟨n, tk, hn, hl⟩
  · refine ⟨_, rfl, dN, _, _, rfl, rfl, NM.kd, hl, _, rfl, iteT ?_⟩
    have e : isLineD p c (.tuple (.str wd :: ns)) = false := by simp [isLineD, hn]
    exact e ▸ q H (Same.refl _)
  refine ⟨_, rfl, dN, _, _, rfl, rfl, NM.kd, hl, _, rfl, iteF ?_⟩
  have ecut : cutV (V.str wd :: ys) (some 1) none = ys := cut1 _ _
  refine ⟨_, rfl, _, rfl, b, _, rfl, SqT.of hb, not_whole _ _, fun tp htp => ?_⟩
  have s3 := same_new htp (.tup (cutV (V.str wd :: ys) (some 1) none))
  have e3 : (upd H tp (.tup (cutV (V.str wd :: ys) (some 1) none))) tp = some (.tup ys) := by rw [upd_same, ecut]
  generalize upd H tp (.tup (cutV (V.str wd :: ys) (some 1) none)) = H3 at s3 e3 ⊢
  refine ⟨_, rfl, tp, _, rfl, .inr (SqT.of e3), _, rfl, dN, _, V.int (n : Int), _, rfl, rfl, NM.kd, hl, ⟨_, rfl⟩, rfl, _, rfl, ?_⟩
  show if (!decide (V.int ((ys.length : Nat) : Int) = V.int (n : Int))) = true then _ else _
  have hyl := hys.length
  by_cases hlen : ¬ ns.length = n
  · rw [decide_eq_false (fun z => by injection z with z; omega)]
    have e : isLineD p c (.tuple (.str wd :: ns)) = false := by
      simp only [isLineD, hn]
      rw [decide_eq_false (fun z => by injection z with z; omega)]
      rfl
    exact iteT (e ▸ q H3 s3)
  have hlen := Decidable.not_not.mp hlen
  rw [decide_eq_true (by rw [hyl, hlen])]
  refine iteF ⟨_, rfl, rfl, _, rfl, ?_⟩
  obtain ⟨bd, hbd⟩ : ∃ bd, bd = bdD wd p c := ⟨_, rfl⟩
  refine if_name (z := .int bd) (by
    rw [hbd]
    unfold bdD
    by_cases ht : wd = "told"
    · rw [if_pos ht, if_pos (decide_eq_true (by rw [ht]))]
    · rw [if_neg ht, if_neg (by rw [decide_eq_true_eq]; exact fun z => ht (V.str.inj z))]) ?_
  have hn2 := nL_le hn
  have efin : isLineD p c (.tuple (.str wd :: ns)) = ((ns.map (isNumD bd)).all id) := by
    simp only [isLineD, hn, hlen, ← hbd]
    rw [List.all_map]
    simp
  refine ⟨_, rfl, tp, rfl, ⟨_, SqT.of e3⟩, comp_tup (SqT.of e3) ((ns.map (isNumD bd)).map V.bl) (by rw [List.length_map, List.length_map, hyl]) (by rw [hyl, hlen]; exact small (by omega)) ?_ ?_⟩
  · intro j H' x hx s' _ _ _ _
    obtain ⟨dj, hdj, hxj⟩ := hys.get hx
    have hat : ((ns.map (isNumD bd)).map V.bl)[j]? = some (V.bl (isNumD bd dj)) := by rw [List.getElem?_map, List.getElem?_map, hdj]; rfl
    have hxj' := (hxj.same s3).same s'
    refine ⟨_, rfl, _, dj, rfl, hxj', _, rfl, ?_⟩
    cases hxj' with
    | int z =>
      refine iteT ⟨_, rfl, _, _, rfl, rfl, _, rfl, ?_⟩
      show if decide ((0 : Int) ≤ z) = true then _ else _
      by_cases h0 : 0 ≤ z
      · rw [decide_eq_true h0]
        refine iteT ⟨_, rfl, _, _, rfl, rfl, Same.refl _, ?_⟩
        rw [hat]
        simp [isNumD, h0]
      · rw [decide_eq_false h0]
        refine iteF ⟨Same.refl _, ?_⟩
        rw [hat]
        simp [isNumD, h0]
    | non => exact iteF ⟨Same.refl _, hat⟩
    | bl b => exact iteF ⟨Same.refl _, hat⟩
    | str t => exact iteF ⟨Same.refl _, hat⟩
    | lst _ _ => exact iteF ⟨Same.refl _, hat⟩
    | tup _ _ => exact iteF ⟨Same.refl _, hat⟩
    | dct _ => exact iteF ⟨Same.refl _, hat⟩
  intro nm H4 _ s4 hnm
  refine ⟨nm, _, rfl, SqL.of hnm, ?_⟩
  rw [← efin]
  exact q H4 (s3.trans s4)

/-! ### is_recipe, of things of any kind -/
theorem sc_is_recipe : FnScope ["thing", "count"] ["thing", "count"] (defScope s_is_recipe) := ⟨rfl, rfl, rfl, by decide +kernel, rfl, by decide +kernel, by decide +kernel⟩
def recL (c : Int) : Nat → List PyData → List Bool
  | _, [] => []
  | i, d :: r => isLineD (i : Int) c d :: recL c (i + 1) r
theorem recL_len (c : Int) : ∀ (i : Nat) (ds : List PyData), (recL c i ds).length = ds.length
  | _, [] => rfl
  | i, d :: r => by rw [recL, List.length_cons, List.length_cons, recL_len c (i + 1) r]
theorem recL_get (c : Int) : ∀ (i : Nat) (ds : List PyData) (j : Nat) (d : PyData), ds[j]? = some d → (recL c i ds)[j]? = some (isLineD ((i + j : Nat) : Int) c d)
  | _, [], j, d, h => by cases j <;> cases h
  | i, e :: r, 0, d, h => by cases h; rfl
  | i, e :: r, j + 1, d, h => by
    have := recL_get c (i + 1) r j d (by simpa using h)
    rw [recL, List.getElem?_cons_succ, this, show i + 1 + j = i + (j + 1) by omega]
def isRecD (c : Int) : PyData → Bool
  | .list ds => !ds.isEmpty && (recL c 0 ds).all id
  | _ => false
def RecPre (K : PySem.W.Frag) (dN : Addr) (d : PyData) : Prop := ∀ ds, d = .list ds → ds.length ≤ 1000 ∧ ∀ e ∈ ds, WordOk K dN e
def spIsRecipeD (K : PySem.W.Frag) (dN : Addr) : Sp := fun vs H Q _ => ∃ (x : V) (d : PyData) (c : Int), vs = [x, .int c] ∧ Dt H x d ∧ RecPre K dN d ∧ ∀ H' : Hp, Same H H' → Q (.bl (isRecD c d)) H'
theorem ok_is_recipe {dN : Addr} (D : Def K mg "is_recipe" s_is_recipe ["thing", "count"] f fd) (B : Blt mg) (KL : Known P w K mg base 2 "is_line" ["thing", "ahead", "count"] (spIsLineD K dN)) : FnOk P w K mg base CX0 3 f fd ["thing", "count"] (spIsRecipeD K dN) := by
  refine D.F.ok sc_is_recipe (fun vs H Q E h => ?_) (fun cdv A outer s H vs Q E hr h => ?_)
  · obtain ⟨x, d, c, rfl, _⟩ := h
    rfl
  obtain ⟨x, d, c, rfl, hd, hw, q⟩ := h
  refine ⟨_, pss_cons (ps_if (PW.pt (pw_or (pt_not (pt_val (pe_callB call_isinst rfl B.isinstance bt_isinstance (pa_cons (pv 0) (pa_cons (pe_bltn (v := .ty "list") rfl B.list bt_list rfl) pa_nil))))) (pw_or1 (pt_cmpR op_eq (pe_callB call_len_seq rfl B.len bt_len (pa_cons (pv 0) pa_nil)) pe_int (nomark _))))) (pss_one (ps_ret pe_bl)) pss_nil)
    (pss_one (ps_ret (pe_callB (call_allL rfl) rfl B.all bt_all (pa_cons (pe_comp 2 [1] ["ahead", "line", "count"] rfl (pi_enumL rfl B.enumerate (pa_cons (pv 0) pa_nil)) (fun _ _ _ _ => pg_tup rfl (pgs_cons (pg_name (i := 0) (show (["ahead", "line", "count"] : List Str).Nodup by decide +kernel) rfl (.inl (lookup_relabel_local rfl)) (.inr (lookup_relabel_local rfl))) (pgs_cons (pg_name (i := 1) (show (["ahead", "line", "count"] : List Str).Nodup by decide +kernel) rfl (.inl (lookup_relabel_local rfl)) (.inr (lookup_relabel_local rfl))) pgs_nil))) (fun _ _ _ _ => pe_kn KL hr rfl (pa_cons (pv 1) (pa_cons (pv 0) (pa_cons (pv 2) pa_nil))))) pa_nil)))), ?_⟩
  refine ⟨_, rfl, _, _, _, _, rfl, hd.ty, kit_tt (kd_lst d), _, rfl, ?_⟩
  cases hd with
  | non => exact iteT (q H (Same.refl _))
  | bl b => exact iteT (q H (Same.refl _))
  | int i => exact iteT (q H (Same.refl _))
  | str t => exact iteT (q H (Same.refl _))
  | tup _ _ => exact iteT (q H (Same.refl _))
  | dct _ => exact iteT (q H (Same.refl _))
  | @lst a xs ds ha hs =>
  obtain ⟨hll, hwd⟩ := hw ds rfl
  refine iteF ⟨_, rfl, a, _, rfl, .inl (SqL.of ha), rfl, _, rfl, ?_⟩
  have hal := hs.length
  show if decide (V.int ((xs.length : Nat) : Int) = V.int 0) = true then _ else _
  by_cases h0 : ds = []
  · subst h0
    rw [decide_eq_true (by rw [hal]; rfl)]
    exact iteT (q H (Same.refl _))
  have hl0 : 0 < ds.length := List.length_pos_iff.mpr h0
  rw [decide_eq_false (fun z => by injection z with z; omega)]
  refine iteF ⟨_, rfl, a, rfl, ⟨_, SqL.of ha⟩, comp_enum (SqL.of ha) ((recL c 0 ds).map V.bl) (by rw [List.length_map, recL_len, hal]) (by rw [hal]; exact small hll) ?_ ?_⟩
  · intro i H' x hx s' _ _ _ _
    obtain ⟨dj, hdj, hxj⟩ := hs.get hx
    refine ⟨_, rfl, _, rfl, _, rfl, _, dj, (i : Int), c, rfl, hxj.same s', hwd dj (List.mem_of_getElem? hdj), fun H4 s4 => ⟨s4, ?_⟩⟩
    rw [List.getElem?_map, recL_get c 0 ds i dj hdj, Nat.zero_add]
    rfl
  intro nm H4 _ s4 hnm
  refine ⟨nm, _, rfl, SqL.of hnm, ?_⟩
  have e : isRecD c (.list ds) = (recL c 0 ds).all id := by
    show (!ds.isEmpty && (recL c 0 ds).all id) = _
    cases ds with
    | nil => exact absurd rfl h0
    | cons d r => rfl
  rw [← e]
  exact q H4 s4
/-- a line as data -/
def dL (l : TM.Ln) : PyData := .tuple (.str (lnW l) :: (lnN l).map fun (n : Nat) => PyData.int (n : Int))
def tl : TM.Ln → Nat
  | .told k => k + 1
  | _ => 0
def leastL : List TM.Ln → Nat
  | [] => 0
  | l :: r => max (tl l) (leastL r)
theorem nL_ln (l : TM.Ln) : nL (lnW l) = some (lnN l).length := by
  cases l with
  | still => show nL "still" = some 0; decide +kernel
  | told k => show nL "told" = some 1; decide +kernel
  | behind i j => show nL "behind" = some 2; decide +kernel
  | back i => show nL "back" = some 1; decide +kernel
theorem ne_bt : ¬ (("behind" : Str) = "told") := by decide +kernel
theorem ne_kt : ¬ (("back" : Str) = "told") := by decide +kernel
theorem lineD_eq {l : TM.Ln} {c p c' : Nat} (h : l.Ok c p) : isLineD (p : Int) (c' : Int) (dL l) = decide (tl l ≤ c') := by
  show (decide (nL (lnW l) = some ((lnN l).map fun (n : Nat) => PyData.int (n : Int)).length) && ((lnN l).map fun (n : Nat) => PyData.int (n : Int)).all (isNumD (bdD (lnW l) p c'))) = _
  rw [nL_ln, List.length_map, decide_eq_true rfl, Bool.true_and]
  cases l with
  | still => rfl
  | told k =>
    have e : bdD (lnW (.told k)) (p : Int) (c' : Int) = (c' : Int) := if_pos rfl
    rw [e]
    show ((decide ((0 : Int) ≤ (k : Int)) && decide ((k : Int) < (c' : Int))) && true) = decide (k + 1 ≤ c')
    rw [decide_eq_true (show (0 : Int) ≤ (k : Int) by omega), Bool.true_and, Bool.and_true, decide_eq_decide]
    omega
  | behind i j =>
    have e : bdD (lnW (.behind i j)) (p : Int) (c' : Int) = (p : Int) := if_neg ne_bt
    obtain ⟨h1, h2⟩ : i < p ∧ j < p := h
    rw [e]
    simp [lnN, isNumD, tl]
    omega
  | back i =>
    have e : bdD (lnW (.back i)) (p : Int) (c' : Int) = (p : Int) := if_neg ne_kt
    have h1 : i < p := h
    rw [e]
    simp [lnN, isNumD, tl]
    omega
theorem recs_eq {c c' : Nat} : ∀ (ls : List TM.Ln) (k : Nat), (∀ (i : Nat) (l : TM.Ln), ls[i]? = some l → l.Ok c (k + i)) → (recL (c' : Int) k (ls.map dL)).all id = decide (leastL ls ≤ c')
  | [], k, _ => by simp [recL, leastL]
  | l :: r, k, h => by
    have h0 : l.Ok c k := h 0 l rfl
    have ih := recs_eq (c' := c') r (k + 1) (fun i l hl => by have := h (i + 1) l (by simpa using hl); rwa [show k + 1 + i = k + (i + 1) by omega])
    rw [List.map_cons, recL, List.all_cons, ih, lineD_eq h0, leastL]
    simp only [id_eq, ← Bool.decide_and]
    rw [decide_eq_decide]
    omega
theorem rec_eq {c c' : Nat} {ls : List TM.Ln} (h : TM.Rec c ls) (hne : ls ≠ []) : isRecD (c' : Int) (.list (ls.map dL)) = decide (leastL ls ≤ c') := by
  show (!(ls.map dL).isEmpty && (recL (c' : Int) 0 (ls.map dL)).all id) = _
  rw [recs_eq ls 0 (fun i l hl => by rw [Nat.zero_add]; exact h i l hl)]
  cases ls with
  | nil => exact absurd rfl hne
  | cons l r => rfl
theorem tl_le {l : TM.Ln} {c p : Nat} (h : l.Ok c p) : tl l ≤ c := by
  cases l with
  | told k => exact h
  | _ => exact Nat.zero_le _
theorem least_le {c : Nat} : ∀ (ls : List TM.Ln) (k : Nat), (∀ (i : Nat) (l : TM.Ln), ls[i]? = some l → l.Ok c (k + i)) → leastL ls ≤ c
  | [], _, _ => Nat.zero_le _
  | l :: r, k, h => by
    have h0 := tl_le (h 0 l rfl)
    have ih := least_le r (k + 1) (fun i l hl => by have := h (i + 1) l (by simpa using hl); rwa [show k + 1 + i = k + (i + 1) by omega])
    rw [leastL]
    omega
theorem rec_least {c : Nat} {ls : List TM.Ln} (h : TM.Rec c ls) : leastL ls ≤ c := least_le ls 0 (fun i l hl => by rw [Nat.zero_add]; exact h i l hl)
theorem dt_list {H : Hp} {v : V} {ds : List PyData} (h : Dt H v (.list ds)) : ∃ (a : Addr) (xs : List V), v = .ref a ∧ H a = some (.lst xs) ∧ Dts H xs ds := by
  cases h with
  | lst h r => exact ⟨_, _, rfl, h, r⟩
theorem dts_ints {H : Hp} : ∀ (ns : List Nat), Dts H (tI ns) (ns.map fun (n : Nat) => PyData.int (n : Int))
  | [] => .nil
  | n :: r => .cons (.int _) (dts_ints r)
theorem dt_ln {H : Hp} {a : Addr} {l : TM.Ln} (h : H a = some (.tup (lnV l))) : Dt H (.ref a) (dL l) := by
  rw [lnV_eq] at h
  exact .tup h (.cons (.str _) (dts_ints _))
theorem dts_lns {H : Hp} {as : List Addr} {ls : List TM.Ln} (h : LnsAt H as ls) : Dts H (as.map V.ref) (ls.map dL) := by
  unfold LnsAt at h
  induction h with
  | nil => exact .nil
  | cons f _ ih => exact .cons (dt_ln f) ih

/-! ### read_line, of any text -/
def sBl : Str := " "
def rdLine (t : Str) : Option (Str × List Nat) := match Txt.split t sBl with
  | [] => none
  | w0 :: ws => if ws.all (figsOk 6) = true then some (w0, ws.map figVal) else none
def spLineT (C : Addr) : Sp := fun vs H Q E => ∃ t : Str, vs = [.str t] ∧ Asc 4000 t ∧ (∀ w0 ns, rdLine t = some (w0, ns) → ∀ (a : Addr) (H' : Hp), Same H H' → H a = none → H' a = some (.tup (.str w0 :: tI ns)) → Q (.ref a) H') ∧ (rdLine t = none → ∀ H' : Hp, Same H H' → E (.ref C) none H')
theorem sc_read_line : FnScope ["text", "words"] ["text"] (defScope s_read_line) := ⟨rfl, rfl, rfl, by decide +kernel, rfl, by decide +kernel, by decide +kernel⟩
theorem ok_read_line (D : Def K mg "read_line" s_read_line ["text"] f fd) (B : Blt mg) (GL : Glob mg "LINE_FIGURES" (.int 6)) {C : Addr} (KF : KnownX P w K mg base 1 "read_figures" ["text", "most"] (spFigsT C)) : KnownX P w K mg base 2 "read_line" ["text"] (spLineT C) := by
  refine ⟨f, fd, ?_, D.F.kp, D.m, D.b⟩
  refine D.F.okX sc_read_line (fun vs H Q E h => ?_) (fun cdv A outer s H vs Q E hr h => ?_)
  · obtain ⟨t, rfl, _⟩ := h
    rfl
  obtain ⟨t, rfl, ht, q1, q2⟩ := h
  refine ⟨_, pss_cons (ps_set (i := 1) sc_read_line.nd rfl (Or.inl rfl) (pe_bm PySem.F.plainAttrs_str PySem.F.slot_str_split PySem.F.type_str_split mt_split (pv 0) (pa_cons pe_str pa_nil)))
    (pss_one (ps_ret (pe_callTy call_tuple_of rfl B.tuple bt_tuple (pa_cons (pe_op op_cat (pe_slice sl_list (pv 1) po_none (po_some pe_int)) (pe_compX passH rfl rfl [] ["word"] rfl (pi_list (pe_slice sl_list (pv 1) (po_some pe_int) po_none)) (fun _ _ _ _ => pe_knC KF hr rfl (pa_cons (pv 0) (pa_cons (pe_gl GL rfl) pa_nil))))) pa_nil)))), ?_⟩
  refine ⟨_, rfl, rfl, t, sBl, rfl, rfl, by decide, by have := ht.1; omega, fun p hp => ?_⟩
  obtain ⟨w0, ws, hsp⟩ : ∃ w0 ws, Txt.split t sBl = w0 :: ws := by
    cases e : Txt.split t sBl with
    | nil => have := (split_len t sBl).1; rw [e] at this; cases this
    | cons a b => exact ⟨a, b, rfl⟩
  have hasc : ∀ w ∈ ws, Asc 4000 w := fun w hw => ht.split (y := sBl) (by rw [hsp]; exact List.mem_cons_of_mem _ hw)
  have hwl : ws.length ≤ 4001 := by
    have := (split_len t sBl).2
    have h1 := ht.1
    rw [hsp, List.length_cons] at this
    omega
  have hz := sizeLine_big
  rw [hsp]
  have s1 := same_new hp (.lst ((w0 :: ws).map V.str))
  have e1 : (upd H p (.lst ((w0 :: ws).map V.str))) p = some (.lst (V.str w0 :: ws.map V.str)) := upd_same
  generalize upd H p (.lst ((w0 :: ws).map V.str)) = H1 at s1 e1 ⊢
  refine ⟨_, rfl, _, rfl, p, _, rfl, SqL.of e1, fun c hc => ?_⟩
  have ec : cutV (V.str w0 :: ws.map V.str) none (some 1) = [V.str w0] := by
    unfold cutV
    have e : HT.sIx (V.str w0 :: ws.map V.str).length (V.str w0 :: ws.map V.str).length (some (1 : Int)) = min 1 (V.str w0 :: ws.map V.str).length := HT.sIx_nat _ _ 1
    rw [HT.sIx_none, e, Nat.min_eq_left (by simp), List.drop_zero]
    rfl
  have s2 := same_new hc (.lst (cutV (V.str w0 :: ws.map V.str) none (some 1)))
  have e2 : (upd H1 c (.lst (cutV (V.str w0 :: ws.map V.str) none (some 1)))) c = some (.lst [V.str w0]) := by rw [upd_same, ec]
  generalize upd H1 c (.lst (cutV (V.str w0 :: ws.map V.str) none (some 1))) = H2 at s2 e2 ⊢
  refine ⟨_, rfl, _, rfl, p, _, rfl, SqL.of (s2 _ _ e1), fun c2 hc2 => ?_⟩
  have s3 := same_new hc2 (.lst (cutV (V.str w0 :: ws.map V.str) (some 1) none))
  have e3 : (upd H2 c2 (.lst (cutV (V.str w0 :: ws.map V.str) (some 1) none))) c2 = some (.lst (ws.map V.str)) := by rw [upd_same, cut1]
  generalize upd H2 c2 (.lst (cutV (V.str w0 :: ws.map V.str) (some 1) none)) = H3 at s3 e3 ⊢
  have S3 := (s1.trans s2).trans s3
  have word : ∀ {j : Nat} {x : V}, (ws.map V.str)[j]? = some x → ∃ w, ws[j]? = some w ∧ x = V.str w := fun {j x} h => by
    rw [List.getElem?_map] at h
    cases e : ws[j]? with
    | none => rw [e] at h; cases h
    | some w => rw [e] at h; exact ⟨w, rfl, (Option.some.inj h).symm⟩
  cases hall : ws.all (figsOk 6) with
  | false =>
    have hrd : rdLine t = none := by unfold rdLine; rw [hsp]; dsimp only; rw [hall, if_neg Bool.false_ne_true]
    obtain ⟨w, hw, hno⟩ := List.all_eq_false.mp hall
    obtain ⟨j, hj⟩ := List.getElem?_of_mem hw
    have hjl : j < (ws.map V.str).length := by rw [List.length_map]; exact (List.getElem?_eq_some_iff.mp hj).1
    refine ⟨c2, rfl, ⟨_, SqL.of e3⟩, comp_fail (SqL.of e3) j hjl (by rw [List.length_map]; omega) ?_⟩
    intro i H4 x hi hx s4 _ _ _ _
    obtain ⟨w', hw', rfl⟩ := word hx
    refine ⟨_, rfl, w', 6, rfl, hasc w' (List.mem_of_getElem? hw'), by decide, fun ok H5 s5 => ⟨s5, ?_⟩, fun no H5 s5 => q2 hrd H5 ((S3.trans s4).trans s5)⟩
    refine Nat.lt_of_le_of_ne hi fun z => ?_
    subst z
    rw [hj] at hw'
    cases hw'
    exact hno ok
  | true =>
    have hrd : rdLine t = some (w0, ws.map figVal) := by unfold rdLine; rw [hsp]; dsimp only; rw [hall, if_pos rfl]
    refine ⟨c2, rfl, ⟨_, SqL.of e3⟩, comp_list (SqL.of e3) (tI (ws.map figVal)) (by rw [tI_length, List.length_map, List.length_map]) (by rw [List.length_map]; omega) ?_ ?_⟩
    · intro i H4 x hx s4 _ _ _ _
      obtain ⟨w', hw', rfl⟩ := word hx
      refine ⟨_, rfl, w', 6, rfl, hasc w' (List.mem_of_getElem? hw'), by decide, fun ok H5 s5 => ⟨s5, tI_of (by rw [List.getElem?_map, hw']; rfl)⟩, fun no H5 s5 => ?_⟩
      rw [List.all_eq_true.mp hall w' (List.mem_of_getElem? hw')] at no
      cases no
    intro D2 H4 hD2 s4 e4
    refine ⟨c, D2, _, _, rfl, rfl, s4 _ _ (s3 _ _ e2), e4, by rw [tI_length, List.length_map]; show 1 + ws.length ≤ _; omega, fun r hr' => ?_⟩
    refine ⟨r, _, rfl, .inl ⟨SqL.of upd_same, fun l hl => ?_⟩⟩
    have S5 := (S3.trans s4).trans ((same_new hr' (.lst ([V.str w0] ++ tI (ws.map figVal)))).trans (same_new hl (.tup ([V.str w0] ++ tI (ws.map figVal)))))
    exact q1 w0 _ hrd l _ S5 ((S3.trans s4).free ((same_new hr' _).free hl)) upd_same

/-! ### read_recipe, of anything -/
def sSc : Str := "; "
def lnD (l : Str × List Nat) : PyData := .tuple (.str l.1 :: l.2.map fun (n : Nat) => PyData.int (n : Int))
def rdLines (t : Str) : Option (List (Str × List Nat)) := if (Txt.split t sSc).all (fun p => (rdLine p).isSome) = true then some ((Txt.split t sSc).filterMap rdLine) else none
def rdRec (c : Int) (t : Str) : Option (List PyData) := match rdLines t with
  | none => none
  | some ls => if isRecD c (.list (ls.map lnD)) = true then some (ls.map lnD) else none
/-- the words of the module's dict, and no others -/
def WordsAll (K : PySem.W.Frag) (dN : Addr) : Prop := ∀ w : Str, (nL w = none ∧ PySem.W.nsIn K dN w = some none) ∨ ∃ (n : Nat) (tk : Tok), nL w = some n ∧ PySem.W.nsIn K dN w = some (some (.int (n : Int) tk))
theorem WordsAll.ok {K : PySem.W.Frag} {dN : Addr} (h : WordsAll K dN) (d : PyData) : WordOk K dN d := fun w _ _ => h w
theorem words_all {K : PySem.W.Frag} {dN : Addr} {esN : Array DictEntry} {nN : Nat} {kA kB kC kD tA tB tC tD : Tok} (lN : K.lookup dN = some ⟨.type "dict", none, .dict esN nN, #[]⟩) (eN : esN.toList.map (fun e => e.key) = [Value.str "still" kA, Value.str "told" kB, Value.str "behind" kC, Value.str "back" kD]) (rN : esN.toList.any (fun e => e.refKey) = false)
    (vA : PySem.W.nsIn K dN "still" = some (some (.int 0 tA))) (vB : PySem.W.nsIn K dN "told" = some (some (.int 1 tB))) (vC : PySem.W.nsIn K dN "behind" = some (some (.int 2 tC))) (vD : PySem.W.nsIn K dN "back" = some (some (.int 1 tD))) : WordsAll K dN := fun w => by
  by_cases h1 : w = "still"
  · subst h1; exact .inr ⟨0, tA, by decide +kernel, vA⟩
  by_cases h2 : w = "told"
  · subst h2; exact .inr ⟨1, tB, by decide +kernel, vB⟩
  by_cases h3 : w = "behind"
  · subst h3; exact .inr ⟨2, tC, by decide +kernel, vC⟩
  by_cases h4 : w = "back"
  · subst h4; exact .inr ⟨1, tD, by decide +kernel, vD⟩
  refine .inl ⟨by unfold nL; rw [if_neg h1, if_neg h2, if_neg h3, if_neg h4], ?_⟩
  have hf : esN.toList.find? (fun e => e.key.isStr w) = none := List.find?_eq_none.mpr fun e he hs => by
    have hm : e.key ∈ esN.toList.map (fun e => e.key) := List.mem_map.mpr ⟨e, he, rfl⟩
    rw [eN] at hm
    simp only [List.mem_cons, List.not_mem_nil, or_false] at hm
    rcases hm with z | z | z | z
    · rw [z] at hs; exact h1 (eq_of_beq (show (("still" : Str) == w) = true from hs)).symm
    · rw [z] at hs; exact h2 (eq_of_beq (show (("told" : Str) == w) = true from hs)).symm
    · rw [z] at hs; exact h3 (eq_of_beq (show (("behind" : Str) == w) = true from hs)).symm
    · rw [z] at hs; exact h4 (eq_of_beq (show (("back" : Str) == w) = true from hs)).symm
  unfold PySem.W.nsIn
  rw [lN]
  dsimp only
  rw [hf]
  dsimp only
  rw [rN]
  rfl
def spRecT (C : Addr) : Sp := fun vs H Q E => ∃ (x : V) (d : PyData) (c : Int), vs = [x, .int c] ∧ Dt H x d ∧ (∀ t, d = .str t → Asc 980 t) ∧
  (∀ t ds, d = .str t → rdRec c t = some ds → ∀ (a : Addr) (H' : Hp) (xs : List V), Same H H' → H a = none → H' a = some (.lst xs) → Dts H' xs ds → Q (.ref a) H') ∧
  ((∀ t, d = .str t → rdRec c t = none) → ∀ H' : Hp, Same H H' → E (.ref C) none H')
theorem fm_get {α β : Type} {g : α → Option β} : ∀ {l : List α}, (∀ x ∈ l, (g x).isSome = true) → ∀ (i : Nat) (x : α), l[i]? = some x → ∃ y, g x = some y ∧ (l.filterMap g)[i]? = some y
  | [], _, i, x, h => by cases i <;> cases h
  | a :: r, hs, 0, x, h => by
    cases h
    obtain ⟨y, hy⟩ := Option.isSome_iff_exists.mp (hs a List.mem_cons_self)
    exact ⟨y, hy, by rw [List.filterMap_cons, hy]; rfl⟩
  | a :: r, hs, i + 1, x, h => by
    obtain ⟨y, hy⟩ := Option.isSome_iff_exists.mp (hs a List.mem_cons_self)
    obtain ⟨z, h1, h2⟩ := fm_get (l := r) (fun x hx => hs x (List.mem_cons_of_mem _ hx)) i x (by simpa using h)
    exact ⟨z, h1, by rw [List.filterMap_cons, hy]; simpa using h2⟩
theorem fm_len {α β : Type} {g : α → Option β} : ∀ {l : List α}, (∀ x ∈ l, (g x).isSome = true) → (l.filterMap g).length = l.length
  | [], _ => rfl
  | a :: r, hs => by
    obtain ⟨y, hy⟩ := Option.isSome_iff_exists.mp (hs a List.mem_cons_self)
    rw [List.filterMap_cons, hy]
    show (y :: r.filterMap g).length = _
    rw [List.length_cons, List.length_cons, fm_len fun x hx => hs x (List.mem_cons_of_mem _ hx)]
theorem sc_read_recipe : FnScope ["text", "count", "lines"] ["text", "count"] (defScope s_read_recipe) := ⟨rfl, rfl, rfl, by decide +kernel, rfl, by decide +kernel, by decide +kernel⟩
theorem ok_read_recipe {dN : Addr} (D : Def K mg "read_recipe" s_read_recipe ["text", "count"] f fd) (B : Blt mg) {TE C : Addr} (EA : ErrAt K mg TE "NoText" C) (KN : KnownX P w K mg base 1 "need_text" ["thing"] (spNeedTextT C)) (KL : KnownX P w K mg base 2 "read_line" ["text"] (spLineT C)) (KR : Known P w K mg base 3 "is_recipe" ["thing", "count"] (spIsRecipeD K dN)) (WA : WordsAll K dN) : KnownX P w K mg base 4 "read_recipe" ["text", "count"] (spRecT C) := by
  refine ⟨f, fd, ?_, D.F.kp, D.m, D.b⟩
  refine D.F.okX sc_read_recipe (fun vs H Q E h => ?_) (fun cdv A outer s H vs Q E hr h => ?_)
  · obtain ⟨x, d, c, rfl, _⟩ := h
    rfl
  obtain ⟨x, d, c, rfl, hd, ha, q1, q2⟩ := h
  refine ⟨_, pss_cons (ps_expr (pe_knX KN hr rfl (pa_cons (pv 0) pa_nil)))
    (pss_cons (ps_setCompX (i := 2) passH rfl rfl [] ["part"] sc_read_recipe.nd rfl rfl rfl (pi_list (pe_bm PySem.F.plainAttrs_str PySem.F.slot_str_split PySem.F.type_str_split mt_split (pv 0) (pa_cons pe_str pa_nil))) (fun _ _ _ _ => pe_knC KL hr rfl (pa_cons (pv 0) pa_nil)))
    (pss_cons (ps_if (pt_not (pt_val (pe_kn KR hr rfl (pa_cons (pv 2) (pa_cons (pv 1) pa_nil))))) (pss_one (ps_raise EA.m EA.c PySem.F.excBase_ValueError rfl rfl (pa_cons pe_str pa_nil))) pss_nil)
    (pss_one (ps_ret (pv 2))))), ?_⟩
  refine ⟨_, rfl, x, d, rfl, hd, fun hs => ?_, fun hs => q2 (fun t e => by rw [e] at hs; cases hs) H (Same.refl _)⟩
  cases hd with
  | non => cases hs
  | bl _ => cases hs
  | int _ => cases hs
  | lst _ _ => cases hs
  | tup _ _ => cases hs
  | dct _ => cases hs
  | str t =>
  have ht := ha t rfl
  refine ⟨_, rfl, rfl, t, sSc, rfl, rfl, by decide, by have := ht.1; omega, fun p hp => ?_⟩
  have hps := split_len t sSc
  have hasc : ∀ w ∈ Txt.split t sSc, Asc 4000 w := fun w hw => (ht.split hw).mono (by decide)
  have hz := sizeLine_big
  have ht1 := ht.1
  have s1 := same_new hp (.lst ((Txt.split t sSc).map V.str))
  have e1 : (upd H p (.lst ((Txt.split t sSc).map V.str))) p = some (.lst ((Txt.split t sSc).map V.str)) := upd_same
  generalize upd H p (.lst ((Txt.split t sSc).map V.str)) = H1 at s1 e1 ⊢
  have word : ∀ {j : Nat} {x : V}, ((Txt.split t sSc).map V.str)[j]? = some x → ∃ w, (Txt.split t sSc)[j]? = some w ∧ x = V.str w := fun {j x} h => by
    rw [List.getElem?_map] at h
    cases e : (Txt.split t sSc)[j]? with
    | none => rw [e] at h; cases h
    | some w => rw [e] at h; exact ⟨w, rfl, (Option.some.inj h).symm⟩
  cases hall : (Txt.split t sSc).all (fun p => (rdLine p).isSome) with
  | false =>
    have hrd : rdRec c t = none := by unfold rdRec rdLines; rw [hall, if_neg Bool.false_ne_true]
    have q2' := q2 fun t' e => by cases e; exact hrd
    obtain ⟨w, hw, hno⟩ := List.all_eq_false.mp hall
    obtain ⟨j, hj⟩ := List.getElem?_of_mem hw
    have hjl : j < ((Txt.split t sSc).map V.str).length := by rw [List.length_map]; exact (List.getElem?_eq_some_iff.mp hj).1
    refine ⟨p, rfl, ⟨_, SqL.of e1⟩, comp_fail (SqL.of e1) j hjl (by rw [List.length_map]; omega) ?_⟩
    intro i H4 x hi hx s4 _ _ _ _
    obtain ⟨w', hw', rfl⟩ := word hx
    refine ⟨_, rfl, w', rfl, hasc w' (List.mem_of_getElem? hw'), fun w0 ns ok a H5 s5 _ _ => ⟨s5, ?_⟩, fun no H5 s5 => q2' H5 ((s1.trans s4).trans s5)⟩
    refine Nat.lt_of_le_of_ne hi fun z => ?_
    subst z
    rw [hj] at hw'
    cases hw'
    exact hno (by rw [ok]; rfl)
  | true =>
    have hsome : ∀ x ∈ Txt.split t sSc, (rdLine x).isSome = true := fun x hx => List.all_eq_true.mp hall x hx
    have hrl : rdLines t = some ((Txt.split t sSc).filterMap rdLine) := by unfold rdLines; rw [hall, if_pos rfl]
    have hll : ((Txt.split t sSc).filterMap rdLine).length = (Txt.split t sSc).length := fm_len hsome
    refine ⟨p, rfl, ⟨_, SqL.of e1⟩, comp_dat (SqL.of e1) (((Txt.split t sSc).filterMap rdLine).map lnD) (by rw [List.length_map, List.length_map, hll]) (by rw [List.length_map]; omega) ?_ ?_⟩
    · intro i H4 x hx s4 _ _ _ _
      obtain ⟨w', hw', rfl⟩ := word hx
      obtain ⟨y, hy, hyi⟩ := fm_get hsome i w' hw'
      refine ⟨_, rfl, w', rfl, hasc w' (List.mem_of_getElem? hw'), fun w0 ns ok a H5 s5 ha0 hae => ⟨s5, lnD (w0, ns), ?_, ?_⟩, fun no H5 s5 => ?_⟩
      · rw [hy] at ok
        rw [List.getElem?_map, hyi, Option.some.inj ok]
        rfl
      · exact .tup (by rw [nw_at ha0]; exact hae) (.cons (.str _) (by rw [tI_ints]; exact (List.map_map (f := fun (n : Nat) => (n : Int)) (g := PyData.int) (l := ns)) ▸ Dts.ints _))
      · rw [hy] at no
        cases no
    intro D2 H4 ys hD2 s4 e4 r4
    have r4' := r4.same rm_same
    refine ⟨_, rfl, _, rfl, .ref D2, .list (((Txt.split t sSc).filterMap rdLine).map lnD), c, rfl, .lst e4 r4', fun ds e => ⟨?_, fun e' _ => WA.ok e'⟩, fun H5 s5 => ⟨_, rfl, ?_⟩⟩
    · cases e
      rw [List.length_map, hll]
      omega
    cases hrec : isRecD c (.list (((Txt.split t sSc).filterMap rdLine).map lnD)) with
    | false =>
      have hrd : rdRec c t = none := by unfold rdRec; rw [hrl]; dsimp only; rw [hrec, if_neg Bool.false_ne_true]
      exact iteT ⟨by decide, q2 (fun t' e => by cases e; exact hrd) H5 ((s1.trans s4).trans s5)⟩
    | true =>
      have hrd : rdRec c t = some (((Txt.split t sSc).filterMap rdLine).map lnD) := by unfold rdRec; rw [hrl]; dsimp only; rw [hrec, if_pos rfl]
      exact iteF ⟨_, rfl, q1 t _ rfl hrd D2 H5 ys ((s1.trans s4).trans s5) (s1.free hD2) (s5 _ _ e4) (r4'.same s5)⟩

/-! ### shown_line -/
def lnTx (l : TM.Ln) : List Str := lnW l :: (lnN l).map nS
def lineTx (l : TM.Ln) : Str := Str.join sBl (lnTx l)
/-- its numbers have at most six figures -/
def Ln6 (l : TM.Ln) : Prop := ∀ n ∈ lnN l, n < 10 ^ 6
theorem nS_len6 {n : Nat} (h : n < 10 ^ 6) : (nS n).length ≤ 6 := by
  have := nS_figsOk h (by decide)
  unfold figsOk at this
  rw [Bool.and_eq_true, Bool.and_eq_true, decide_eq_true_eq, decide_eq_true_eq] at this
  exact this.1.2
theorem lnW_len (l : TM.Ln) : (lnW l).length ≤ 6 := by
  cases l with
  | still => decide
  | told k => show ("told" : Str).length ≤ 6; decide
  | behind i j => show ("behind" : Str).length ≤ 6; decide
  | back i => show ("back" : Str).length ≤ 6; decide
theorem lnN_len (l : TM.Ln) : (lnN l).length ≤ 2 := by cases l <;> simp [lnN]
theorem lnTx_len {l : TM.Ln} (h : Ln6 l) : (∀ y ∈ lnTx l, y.length ≤ 6) ∧ (lnTx l).length ≤ 3 := by
  refine ⟨fun y hy => ?_, by unfold lnTx; rw [List.length_cons, List.length_map]; have := lnN_len l; omega⟩
  rcases List.mem_cons.mp hy with rfl | hy
  · exact lnW_len l
  · obtain ⟨n, hn, rfl⟩ := List.mem_map.mp hy
    exact nS_len6 (h n hn)
theorem lineTx_len {l : TM.Ln} (h : Ln6 l) : (lineTx l).length ≤ 21 := by
  obtain ⟨h1, h2⟩ := lnTx_len h
  have := join_len_le sBl h1
  rw [show sBl.length = 1 by decide] at this
  unfold lineTx
  omega
theorem nS_log6 {x : Nat} (h : x < 10 ^ 6) : ((x : Nat) : Int).natAbs.log2 < 1920 := by
  rw [Int.natAbs_natCast]
  by_cases h0 : x = 0
  · subst h0; decide
  · exact Nat.lt_trans ((Nat.log2_lt h0).mpr (show x < 2 ^ 20 by omega)) (by decide)
def spShownLine (K : PySem.W.Frag) : Sp := fun vs H Q _ => ∃ (a : Addr) (l : TM.Ln), vs = [.ref a] ∧ H a = some (.tup (lnV l)) ∧ Ln6 l ∧ ∀ H' : Hp, Same H H' → Q (.str (lineTx l)) H'
theorem sc_shown_line : FnScope ["line"] ["line"] (defScope s_shown_line) := ⟨rfl, rfl, rfl, by decide +kernel, rfl, by decide +kernel, by decide +kernel⟩
theorem ok_shown_line (D : Def K mg "shown_line" s_shown_line ["line"] f fd) (B : Blt mg) : FnOk P w K mg base CX0 1 f fd ["line"] (spShownLine K) := by
  refine D.F.ok sc_shown_line (fun vs H Q E h => ?_) (fun cdv A outer s H vs Q E hr h => ?_)
  · obtain ⟨a, l, rfl, _⟩ := h
    rfl
  obtain ⟨a, l, rfl, ha, h6, q⟩ := h
  refine ⟨_, pss_one (ps_ret (pe_bm PySem.F.plainAttrs_str PySem.F.slot_str_join PySem.F.type_str_join mt_join pe_str (pa_cons (pe_comp1 [] ["part"] rfl (pi_tup (pv 0)) (fun _ _ _ _ => pe_callTy call_str_any rfl B.str bt_str (pa_cons (pv 0) pa_nil))) pa_nil))), ?_⟩
  have hvl : (lnV l).length = (lnTx l).length := by rw [lnV_eq]; unfold lnTx; rw [List.length_cons, List.length_cons, tI_length, List.length_map]
  obtain ⟨h1, h2⟩ := lnTx_len h6
  refine ⟨rfl, _, rfl, a, rfl, ⟨_, SqT.of ha⟩, comp_tup (SqT.of ha) ((lnTx l).map V.str) (by rw [List.length_map, hvl]) (by rw [hvl]; exact small (by omega)) ?_ ?_⟩
  · intro i H' x hx s' _ _ _ _
    rw [lnV_eq] at hx
    cases i with
    | zero =>
      cases hx
      exact ⟨_, rfl, .inr ⟨_, rfl, Same.refl _, rfl⟩⟩
    | succ j =>
      have hx' : (tI (lnN l))[j]? = some x := by simpa using hx
      obtain ⟨n, hn, rfl⟩ := tI_some hx'
      refine ⟨_, rfl, .inl ⟨_, rfl, nS_log6 (h6 n (List.mem_of_getElem? hn)), Same.refl _, ?_⟩⟩
      show ((lnTx l).map V.str)[j + 1]? = some (V.str (nS n))
      unfold lnTx
      rw [List.map_cons, List.getElem?_cons_succ, List.getElem?_map, List.getElem?_map, hn]
      rfl
  intro b H1 _ s1 hb
  refine ⟨sBl, b, lnTx l, rfl, rfl, SqL.of hb, ?_, q _ s1⟩
  have := sum_len_le (lnTx l) h1
  rw [show sBl.length = 1 by decide]
  omega

/-! ### shown_recipe -/
def recTx (ls : List TM.Ln) : Str := Str.join sSc (ls.map lineTx)
def spShownRec (K : PySem.W.Frag) : Sp := fun vs H Q _ => ∃ (a : Addr) (as : List Addr) (ls : List TM.Ln), vs = [.ref a] ∧ H a = some (.lst (as.map V.ref)) ∧ LnsAt H as ls ∧ ls.length ≤ 21 ∧ (∀ l ∈ ls, Ln6 l) ∧ ∀ H' : Hp, Same H H' → Q (.str (recTx ls)) H'
theorem sc_shown_recipe : FnScope ["lines"] ["lines"] (defScope s_shown_recipe) := ⟨rfl, rfl, rfl, by decide +kernel, rfl, by decide +kernel, by decide +kernel⟩
theorem recTx_ok {ls : List TM.Ln} (h : ls.length ≤ 21) (h6 : ∀ l ∈ ls, Ln6 l) : ((ls.map lineTx).map (·.length)).sum + (ls.map lineTx).length * sSc.length ≤ 483 := by
  have h1 : ∀ y ∈ ls.map lineTx, y.length ≤ 21 := fun y hy => by
    obtain ⟨l, hl, rfl⟩ := List.mem_map.mp hy
    exact lineTx_len (h6 l hl)
  have h2 := sum_len_le (ls.map lineTx) h1
  rw [List.length_map] at h2 ⊢
  rw [show sSc.length = 2 by decide]
  omega
theorem ok_shown_recipe (D : Def K mg "shown_recipe" s_shown_recipe ["lines"] f fd) (B : Blt mg) (KS : Known P w K mg base 1 "shown_line" ["line"] (spShownLine K)) : FnOk P w K mg base CX0 2 f fd ["lines"] (spShownRec K) := by
  refine D.F.ok sc_shown_recipe (fun vs H Q E h => ?_) (fun cdv A outer s H vs Q E hr h => ?_)
  · obtain ⟨a, as, ls, rfl, _⟩ := h
    rfl
  obtain ⟨a, as, ls, rfl, ha, hP, hl, h6, q⟩ := h
  refine ⟨_, pss_one (ps_ret (pe_bm PySem.F.plainAttrs_str PySem.F.slot_str_join PySem.F.type_str_join mt_join pe_str (pa_cons (pe_comp1 [] ["line"] rfl (pi_list (pv 0)) (fun _ _ _ _ => pe_kn KS hr rfl (pa_cons (pv 0) pa_nil))) pa_nil))), ?_⟩
  have hal : as.length = ls.length := Paired.length hP
  refine ⟨rfl, _, rfl, a, rfl, ⟨_, SqL.of ha⟩, comp_list (SqL.of ha) ((ls.map lineTx).map V.str) (by rw [List.length_map, List.length_map, List.length_map, hal]) (by rw [List.length_map, hal]; exact small (by omega)) ?_ ?_⟩
  · intro i H' x hx s' _ _ _ _
    obtain ⟨b, hb, rfl⟩ := ref_some hx
    obtain ⟨l, hl', hbl⟩ := paired_at2 hP i b hb
    refine ⟨_, rfl, b, l, rfl, s' _ _ hbl, h6 l (List.mem_of_getElem? hl'), fun H4 s4 => ⟨s4, ?_⟩⟩
    rw [List.getElem?_map, List.getElem?_map, hl']
    rfl
  intro b H1 _ s1 hb
  refine ⟨sSc, b, ls.map lineTx, rfl, rfl, SqL.of hb, Nat.le_trans (recTx_ok hl h6) (by decide), q _ s1⟩

/-! ### _law_cell_at -/
def spCellAt (K : PySem.W.Frag) : Sp := fun vs H Q _ => ∃ (a : Addr) (ns : List Int) (k : Nat), vs = [.ref a, .int (k : Int)] ∧ SqL K H a (ns.map V.int) ∧ Q (.int (ns.getD k 0)) H
theorem sc__law_cell_at : FnScope ["_law_script", "_law_k"] ["_law_script", "_law_k"] (defScope s__law_cell_at) := ⟨rfl, rfl, rfl, by decide +kernel, rfl, by decide +kernel, by decide +kernel⟩
theorem ok__law_cell_at (D : Def K mg "_law_cell_at" s__law_cell_at ["_law_script", "_law_k"] f fd) (B : Blt mg) : FnOk P w K mg base CX0 1 f fd ["_law_script", "_law_k"] (spCellAt K) := by
  refine D.F.ok sc__law_cell_at (fun vs H Q E h => ?_) (fun cdv A outer s H vs Q E hr h => ?_)
  · obtain ⟨a, ns, k, rfl, _⟩ := h
    rfl
  obtain ⟨a, ns, k, rfl, hS, q⟩ := h
  refine ⟨_, pss_cons (ps_if (pt_cmpR op_lt (pv 1) (pe_callB call_len_seq rfl B.len bt_len (pa_cons (pv 0) pa_nil)) (nomark _)) (pss_one (ps_ret (pe_ix ix_list (pv 0) (pv 1) (fun _ _ => rfl)))) pss_nil) (pss_one (ps_ret pe_int)), ?_⟩
  refine ⟨_, rfl, _, rfl, a, _, rfl, .inl hS, _, _, rfl, rfl, _, rfl, ?_⟩
  refine ite2 (fun c => ?_) (fun c => ?_)
  · have c' : (k : Int) < (((ns.map V.int).length : Nat) : Int) := of_decide_eq_true c
    rw [List.length_map] at c'
    have hk : k < ns.length := by omega
    have e : ns.getD k 0 = ns[k] := by rw [List.getD_eq_getElem?_getD, List.getElem?_eq_getElem hk]; rfl
    rw [e] at q
    exact ⟨_, rfl, _, rfl, a, _, _, _, rfl, rfl, hS, atI_nat (by rw [List.getElem?_map, List.getElem?_eq_getElem hk]; rfl), q⟩
  · have c' : ¬ (k : Int) < (((ns.map V.int).length : Nat) : Int) := of_decide_eq_false (Bool.eq_false_iff.mpr c)
    rw [List.length_map] at c'
    have e : ns.getD k 0 = 0 := by rw [List.getD_eq_getElem?_getD, List.getElem?_eq_none (by omega)]; rfl
    rw [e] at q
    exact q

/-! ### _law_line: a line -/
def spLine : Sp := fun vs H Q _ => ∃ (z : Int) (p c : Nat), vs = [.int z, .int (p : Int), .int (c : Int)] ∧ p ≤ 1000 ∧ c ≤ 1000000 ∧ ∀ (r : Addr) (H' : Hp) (l : TM.Ln), H r = none → Same H H' → l.Ok c p → H' r = some (.tup (lnV l)) → Q (.ref r) H'
theorem sc__law_line : FnScope ["_law_cell", "_law_at", "_law_count", "_law_number_here", "_law_kind"] ["_law_cell", "_law_at", "_law_count"] (defScope s__law_line) := ⟨rfl, rfl, rfl, by decide +kernel, rfl, by decide +kernel, by decide +kernel⟩
theorem mod_lt_of {z : Int} {k : Nat} (h : 0 < k) : ∃ m : Nat, z % (k : Int) = (m : Int) ∧ m < k := by
  have h1 := Int.emod_nonneg z (show (k : Int) ≠ 0 by omega)
  have h2 := Int.emod_lt_of_pos z (show (0 : Int) < (k : Int) by omega)
  exact ⟨(z % (k : Int)).toNat, by omega, by omega⟩
theorem ok__law_line (D : Def K mg "_law_line" s__law_line ["_law_cell", "_law_at", "_law_count"] f fd) (B : Blt mg) : FnOk P w K mg base CX0 1 f fd ["_law_cell", "_law_at", "_law_count"] spLine := by
  refine D.F.ok sc__law_line (fun vs H Q E h => ?_) (fun cdv A outer s H vs Q E hr h => ?_)
  · obtain ⟨z, p, c, rfl, _⟩ := h
    rfl
  obtain ⟨z, p, c, rfl, hp, hc, q⟩ := h
  refine ⟨_, pss_cons (ps_set (i := 3) sc__law_line.nd rfl (Or.inl rfl) (pe_op op_mod (pe_op op_mulB (pe_op op_mod (pv 0) (pe_op op_pow pe_int pe_int)) pe_int) pe_int))
    (pss_cons (ps_set (i := 4) sc__law_line.nd rfl (Or.inl rfl) (pe_op op_mod (pv 3) pe_int))
    (pss_cons (ps_set (i := 3) sc__law_line.nd rfl (Or.inl rfl) (pe_op op_fdiv (pv 3) pe_int))
    (pss_cons (ps_if (PW.pt (pw_and (pt_cmpR op_gt (pv 2) pe_int (nomark _)) (pw_and1 (PW.pt (pw_or (pt_cmpR op_lt (pv 4) pe_int (nomark _)) (pw_or1 (PW.pt (pw_and (pt_cmpR op_eq (pv 1) pe_int (nomark _)) (pw_and1 (pt_cmpR op_lt (pv 4) pe_int (nomark _))))))))))) (pss_one (ps_ret (pe_tup (pa_cons pe_str (pa_cons (pe_op op_mod (pv 3) (pv 2)) pa_nil))))) pss_nil)
    (pss_cons (ps_if (PW.pt (pw_and (pt_cmpR op_gt (pv 1) pe_int (nomark _)) (pw_and1 (pt_chain op_lt op_lt pe_int (pv 4) pe_int)))) (pss_one (ps_ret (pe_tup (pa_cons pe_str (pa_cons (pe_op op_mod (pv 3) (pv 1)) (pa_cons (pe_op op_mod (pe_op op_fdiv (pv 3) (pv 1)) (pv 1)) pa_nil)))))) pss_nil)
    (pss_cons (ps_if (PW.pt (pw_and (pt_cmpR op_gt (pv 1) pe_int (nomark _)) (pw_and1 (pt_cmpR op_eq (pv 4) pe_int (nomark _))))) (pss_one (ps_ret (pe_tup (pa_cons pe_str (pa_cons (pe_op op_mod (pv 3) (pv 1)) pa_nil))))) pss_nil)
    (pss_one (ps_ret (pe_tup (pa_cons pe_str pa_nil))))))))), ?_⟩
  have p60 : CPow 10 60 := ⟨by decide, by decide, by decide⟩
  have hb : (0 : Int) < 10 ^ Int.toNat 60 := by decide
  have hm : IntMulOk (z % (10 ^ Int.toNat 60)) 48271 := by
    have h1 := Int.emod_nonneg z (Int.ne_of_gt hb)
    have h2 := Int.emod_lt_of_pos z hb
    refine mulOk_of (n := 300) (m := 300) ?_ (by decide) (by decide)
    have h3 : (10 ^ Int.toNat 60 : Int) ≤ 2 ^ 300 := by decide
    have h4 : ((2 : Int) ^ 300) = ((2 ^ 300 : Nat) : Int) := by decide
    omega
  refine ⟨_, rfl, _, _, rfl, rfl, p60, _, _, rfl, rfl, hb, _, _, rfl, rfl, hm, _, _, rfl, rfl, (by show (0 : Int) < 2147483647; decide), ?_⟩
  refine ⟨_, rfl, _, _, rfl, rfl, (by show (0 : Int) < 7; decide), ?_⟩
  refine ⟨_, rfl, _, _, rfl, rfl, ⟨by decide, by decide⟩, ?_⟩
  obtain ⟨kind, hkind⟩ : ∃ k, k = z % (10 ^ Int.toNat 60) * 48271 % 2147483647 % 7 := ⟨_, rfl⟩
  obtain ⟨nu, hnu⟩ : ∃ k, k = z % (10 ^ Int.toNat 60) * 48271 % 2147483647 / 7 := ⟨_, rfl⟩
  -- the four answers
  have a1 : 0 < c → ∀ {σ : St} {D : Ends}, D.rt = Q → σ = [some (.int z), some (.int (p : Int)), some (.int (c : Int)), some (.int nu), some (.int kind)] → tRet (tTup (tCons (tC (.str "told")) (tCons (tOp (rI (fun _ j => 0 < j) fun i j => .int (i % j)) (tVar 3) (tVar 2)) tNil))) D σ H := by
    rintro hc0 σ D hD rfl
    refine ⟨_, rfl, _, rfl, _, _, rfl, rfl, by omega, (by show 2 ≤ sizeLine; decide), fun r hr' => ?_⟩
    rw [hD]
    obtain ⟨m, em, hm2⟩ := mod_lt_of (z := nu) hc0
    refine q r _ (.told m) hr' (same_new hr' _) hm2 ?_
    rw [upd_same]
    show some (HO.tup [V.str "told", V.int (nu % (c : Int))]) = _
    rw [em]
    rfl
  have a2 : 0 < p → ∀ {σ : St} {D : Ends}, D.rt = Q → σ = [some (.int z), some (.int (p : Int)), some (.int (c : Int)), some (.int nu), some (.int kind)] → tRet (tTup (tCons (tC (.str "behind")) (tCons (tOp (rI (fun _ j => 0 < j) fun i j => .int (i % j)) (tVar 3) (tVar 1)) (tCons (tOp (rI (fun _ j => 0 < j) fun i j => .int (i % j)) (tOp (rI CDiv fun i j => .int (i / j)) (tVar 3) (tVar 1)) (tVar 1)) tNil)))) D σ H := by
    rintro hp0 σ D hD rfl
    refine ⟨_, rfl, _, rfl, _, _, rfl, rfl, by omega, _, rfl, _, rfl, _, _, rfl, rfl, ⟨by omega, by omega⟩, _, rfl, _, _, rfl, rfl, by omega, (by show 3 ≤ sizeLine; decide), fun r hr' => ?_⟩
    rw [hD]
    obtain ⟨m, em, hm2⟩ := mod_lt_of (z := nu) hp0
    obtain ⟨m', em', hm'⟩ := mod_lt_of (z := nu / (p : Int)) hp0
    refine q r _ (.behind m m') hr' (same_new hr' _) ⟨hm2, hm'⟩ ?_
    rw [upd_same]
    show some (HO.tup [V.str "behind", V.int (nu % (p : Int)), V.int (nu / (p : Int) % (p : Int))]) = _
    rw [em, em']
    rfl
  have a3 : 0 < p → ∀ {σ : St} {D : Ends}, D.rt = Q → σ = [some (.int z), some (.int (p : Int)), some (.int (c : Int)), some (.int nu), some (.int kind)] → tRet (tTup (tCons (tC (.str "back")) (tCons (tOp (rI (fun _ j => 0 < j) fun i j => .int (i % j)) (tVar 3) (tVar 1)) tNil))) D σ H := by
    rintro hp0 σ D hD rfl
    refine ⟨_, rfl, _, rfl, _, _, rfl, rfl, by omega, (by show 2 ≤ sizeLine; decide), fun r hr' => ?_⟩
    rw [hD]
    obtain ⟨m, em, hm2⟩ := mod_lt_of (z := nu) hp0
    refine q r _ (.back m) hr' (same_new hr' _) hm2 ?_
    rw [upd_same]
    show some (HO.tup [V.str "back", V.int (nu % (p : Int))]) = _
    rw [em]
    rfl
  have a4 : ∀ {σ : St} {D : Ends}, D.rt = Q → σ = [some (.int z), some (.int (p : Int)), some (.int (c : Int)), some (.int nu), some (.int kind)] → tRet (tTup (tCons (tC (.str "still")) tNil)) D σ H := by
    rintro σ D hD rfl
    refine ⟨(by show 1 ≤ sizeLine; decide), fun r hr' => ?_⟩
    rw [hD]
    exact q r _ .still hr' (same_new hr' _) trivial upd_same
  -- behind the first test
  have b2 : ∀ {σ : St} {D : Ends}, D.rt = Q → σ = [some (.int z), some (.int (p : Int)), some (.int (c : Int)), some (.int nu), some (.int kind)] → tSeq (tIfS (tAnd (tTest (tOp (rI0 fun i j => .bl (decide (j < i))) (tVar 1) (tC (.int 0)))) (tTest (tChain (rI0 fun i j => .bl (decide (i < j))) (rI0 fun i j => .bl (decide (i < j))) (tC (.int 1)) (tVar 4) (tC (.int 5)))))
      (tRet (tTup (tCons (tC (.str "behind")) (tCons (tOp (rI (fun _ j => 0 < j) fun i j => .int (i % j)) (tVar 3) (tVar 1)) (tCons (tOp (rI (fun _ j => 0 < j) fun i j => .int (i % j)) (tOp (rI CDiv fun i j => .int (i / j)) (tVar 3) (tVar 1)) (tVar 1)) tNil))))) tNext)
      (tSeq (tIfS (tAnd (tTest (tOp (rI0 fun i j => .bl (decide (j < i))) (tVar 1) (tC (.int 0)))) (tTest (tOp rEq (tVar 4) (tC (.int 5)))))
        (tRet (tTup (tCons (tC (.str "back")) (tCons (tOp (rI (fun _ j => 0 < j) fun i j => .int (i % j)) (tVar 3) (tVar 1)) tNil)))) tNext) (tRet (tTup (tCons (tC (.str "still")) tNil)))) D σ H := by
    rintro σ D hD rfl
    have b3 : tSeq (tIfS (tAnd (tTest (tOp (rI0 fun i j => .bl (decide (j < i))) (tVar 1) (tC (.int 0)))) (tTest (tOp rEq (tVar 4) (tC (.int 5)))))
        (tRet (tTup (tCons (tC (.str "back")) (tCons (tOp (rI (fun _ j => 0 < j) fun i j => .int (i % j)) (tVar 3) (tVar 1)) tNil)))) tNext) (tRet (tTup (tCons (tC (.str "still")) tNil))) D [some (.int z), some (.int (p : Int)), some (.int (c : Int)), some (.int nu), some (.int kind)] H := by
      refine ⟨_, rfl, _, _, rfl, rfl, _, rfl, ite2 (fun h0 => ⟨_, rfl, rfl, _, rfl, ite2 (fun _ => a3 (by have := of_decide_eq_true h0; omega) hD rfl) (fun _ => a4 hD rfl)⟩) (fun _ => iteF (a4 hD rfl))⟩
    refine ⟨_, rfl, _, _, rfl, rfl, _, rfl, ite2 (fun h0 => ?_) (fun _ => iteF b3)⟩
    refine ⟨_, rfl, _, _, rfl, rfl, _, rfl, ite2 (fun _ => ⟨_, _, rfl, rfl, _, rfl, ite2 (fun _ => a2 (by have := of_decide_eq_true h0; omega) hD rfl) (fun _ => b3)⟩) (fun _ => ⟨_, rfl, iteF b3⟩)⟩
  refine ⟨_, rfl, _, _, rfl, rfl, _, rfl, ite2 (fun h0 => ?_) (fun _ => iteF (b2 rfl (by rw [hkind, hnu]; rfl)))⟩
  have hc0 : 0 < c := by have := of_decide_eq_true h0; omega
  refine ⟨_, rfl, _, _, rfl, rfl, _, rfl, ite2 (fun _ => iteT (a1 hc0 rfl (by rw [hkind, hnu]; rfl))) (fun _ => ?_)⟩
  refine ⟨_, rfl, rfl, _, rfl, ite2 (fun _ => ⟨_, rfl, _, _, rfl, rfl, _, rfl, ite2 (fun _ => a1 hc0 rfl (by rw [hkind, hnu]; rfl)) (fun _ => b2 rfl (by rw [hkind, hnu]; rfl))⟩) (fun _ => iteF (b2 rfl (by rw [hkind, hnu]; rfl)))⟩

/-! ### _law_lines: a recipe -/
def spLines (K : PySem.W.Frag) : Sp := fun vs H Q _ => ∃ (a : Addr) (ns : List Int) (c : Nat), vs = [.ref a, .int (c : Int)] ∧ SqL K H a (ns.map V.int) ∧ ns.length ≤ 500 ∧ c ≤ 1000000 ∧ ∀ (r : Addr) (H' : Hp) (as : List Addr) (ls : List TM.Ln), H r = none → Same H H' → H' r = some (.lst (as.map V.ref)) → LnsAt H' as ls → TM.Rec c ls → ls ≠ [] → ls.length ≤ ns.length + 1 → Q (.ref r) H'
theorem sc__law_lines : FnScope ["_law_cells", "_law_count", "_law_lines_here", "_law_cell"] ["_law_cells", "_law_count"] (defScope s__law_lines) := ⟨rfl, rfl, rfl, by decide +kernel, rfl, by decide +kernel, by decide +kernel⟩
/-- a line as data -/
def dLn : TM.Ln → PyData
  | .still => .tuple [.str "still"]
  | .told k => .tuple [.str "told", .int (k : Int)]
  | .behind i j => .tuple [.str "behind", .int (i : Int), .int (j : Int)]
  | .back i => .tuple [.str "back", .int (i : Int)]
theorem rdd_ln {K : PySem.W.Frag} {H : Hp} {a : Addr} {l : TM.Ln} (h : H a = some (.tup (lnV l))) : RdD K H (.ref a) (dLn l) := by
  cases l with
  | still => exact .tup (SqT.of h) (.cons (.str _) .nil)
  | told k => exact .tup (SqT.of h) (.cons (.str _) (.cons (.int _) .nil))
  | behind i j => exact .tup (SqT.of h) (.cons (.str _) (.cons (.int _) (.cons (.int _) .nil)))
  | back i => exact .tup (SqT.of h) (.cons (.str _) (.cons (.int _) .nil))
theorem rdd_lns {K : PySem.W.Frag} {H : Hp} {as : List Addr} {ls : List TM.Ln} (h : LnsAt H as ls) : RdDs K H (as.map V.ref) (ls.map dLn) := by
  unfold LnsAt at h
  induction h with
  | nil => exact .nil
  | cons f _ ih => exact .cons (rdd_ln f) ih
theorem dLn_lay (l : TM.Ln) : (dLn l).canLay0 = true ∧ (dLn l).depth ≤ 1 := by
  have s1 : PyData.strOk "still" = true := by decide +kernel
  have s2 : PyData.strOk "told" = true := by decide +kernel
  have s3 : PyData.strOk "behind" = true := by decide +kernel
  have s4 : PyData.strOk "back" = true := by decide +kernel
  cases l <;> (constructor <;> simp [dLn, PyData.canLay0, PyData.canLayAll0, PyData.depth, PyData.depthAll, s1, s2, s3, s4])
theorem dLns_lay : ∀ (ls : List TM.Ln), PyData.canLayAll0 (ls.map dLn) = true ∧ PyData.depthAll (ls.map dLn) ≤ 1
  | [] => by simp [PyData.canLayAll0, PyData.depthAll]
  | l :: r => by
    obtain ⟨h1, h2⟩ := dLn_lay l
    obtain ⟨h3, h4⟩ := dLns_lay r
    refine ⟨by simp [PyData.canLayAll0, h1, h3], ?_⟩
    simp only [List.map_cons, PyData.depthAll]
    omega
theorem shaped_lns (ls : List TM.Ln) : PySem.SeqAt.shaped (.list (ls.map dLn)) = true := by
  obtain ⟨h1, h2⟩ := dLns_lay ls
  unfold PySem.SeqAt.shaped
  rw [Bool.and_eq_true]
  refine ⟨by simp only [PyData.canLay0]; exact h1, decide_eq_true ?_⟩
  simp only [PyData.depth]
  omega
theorem eqv_nilD (ds : List PyData) : PyData.eqv (.list ds) (.list []) = ds.isEmpty := by
  cases ds with
  | nil => simp [PyData.eqv, PyData.eqvAll]
  | cons d r => simp [PyData.eqv, PyData.eqvAll]
theorem LnsAt.updL {H : Hp} {as : List Addr} {ls : List TM.Ln} (h : LnsAt H as ls) {r : Addr} {o : HO} (hr : ∃ xs, H r = some (.lst xs)) : LnsAt (L2.upd H r o) as ls := Paired.imp' (fun b l e => by
  obtain ⟨xs, hx⟩ := hr
  rw [upd_ne (ne_of e hx (by intro z; cases z))]
  exact e) h
theorem ok__law_lines (D : Def K mg "_law_lines" s__law_lines ["_law_cells", "_law_count"] f fd) (B : Blt mg) (KL : Known P w K mg base 1 "_law_line" ["_law_cell", "_law_at", "_law_count"] spLine) : FnOk P w K mg base CX0 2 f fd ["_law_cells", "_law_count"] (spLines K) := by
  refine D.F.ok sc__law_lines (fun vs H Q E h => ?_) (fun cdv A outer s H vs Q E hr h => ?_)
  · obtain ⟨a, ns, c, rfl, _⟩ := h
    rfl
  obtain ⟨a, ns, c, rfl, ha, hns, hc, q⟩ := h
  refine ⟨_, pss_cons (ps_set (i := 2) sc__law_lines.nd rfl (Or.inl rfl) (pe_lst pa_nil))
    (pss_cons (ps_for PassesOwn.never rfl (pi_list (pv 0)) (pg_name (i := 3) sc__law_lines.nd rfl (Or.inl rfl))
      (pss_one (ps_expr (pe_bm PySem.F.plainAttrs_list PySem.F.slot_list_append PySem.F.type_list_append mt_append (pv 2) (pa_cons (pe_kn KL hr rfl (pa_cons (pv 3) (pa_cons (pe_callB call_len_seq rfl B.len bt_len (pa_cons (pv 2) pa_nil)) (pa_cons (pv 1) pa_nil)))) pa_nil)))))
    (pss_cons (ps_if (pt_cmpR (op_eqD hr.units) (pv 2) (pe_lst pa_nil) (nomark _)) (pss_one (ps_expr (pe_bm PySem.F.plainAttrs_list PySem.F.slot_list_append PySem.F.type_list_append mt_append (pv 2) (pa_cons (pe_tup (pa_cons pe_str pa_nil)) pa_nil)))) pss_nil)
    (pss_one (ps_ret (pv 2))))), ?_⟩
  refine ⟨(by show 0 ≤ sizeLine; decide), fun r hr' => ?_⟩
  refine ⟨_, rfl, a, rfl, ⟨_, (same_new hr' _).seq ha⟩, for_list (K := K) (a := a) (xs := ns.map V.int) (fun i σ H2 => ∃ (as : List Addr) (ls : List TM.Ln) (v3 : Option V), σ = [some (.ref a), some (.int (c : Int)), some (.ref r), v3] ∧ Same H H2 ∧ H2 r = some (.lst (as.map V.ref)) ∧ LnsAt H2 as ls ∧ TM.Rec c ls ∧ ls.length = i)
    ⟨[], [], none, rfl, same_new hr' _, upd_same, .nil, fun p l h => (by cases h), rfl⟩ (fun i σ H2 _ ⟨_, _, _, _, s, _⟩ => s.seq ha) ?_ ?_⟩
  · rintro i y σ H2 hi ⟨as, ls, v3, rfl, s2, h2, hP, hR, hl⟩
    obtain ⟨z, hz, rfl⟩ := cell_of hi
    have hil : i < ns.length := by have := (List.getElem?_eq_some_iff.mp hi).1; rwa [List.length_map] at this
    have hal : (as.map V.ref).length = ls.length := by rw [List.length_map]; exact Paired.length hP
    refine ⟨_, rfl, .inl ⟨rfl, _, SqL.of h2⟩, _, rfl, _, rfl, r, _, rfl, .inl (SqL.of h2), _, rfl, z, ls.length, c, by rw [hal]; rfl, by omega, hc, fun b H3 l hb s3 hok hbl => ?_⟩
    have h3 := s3 _ _ h2
    refine ⟨r, _, _, rfl, rfl, h3, by rw [hal]; exact small1000 (by omega), ?_⟩
    have hbr : b ≠ r := ne_of hbl h3 (by intro z; cases z)
    refine ⟨as ++ [b], ls ++ [l], _, rfl, same_upd (s2.trans s3) hr' _, by rw [upd_same, List.map_append]; rfl, Paired.snoc ((hP.same s3).updL ⟨_, h3⟩) (by rw [upd_ne hbr]; exact hbl), hR.snoc hok, by rw [List.length_append, hl]; rfl⟩
  · rintro σ H2 ⟨as, ls, v3, rfl, s2, h2, hP, hR, hl⟩
    rw [List.length_map] at hl
    refine ⟨_, rfl, (by show 0 ≤ sizeLine; decide), fun e0 he0 => ?_⟩
    have s3 := same_new he0 (.lst [])
    have ee0 : (upd H2 e0 (.lst [])) e0 = some (.lst (([] : List Int).map V.int)) := upd_same
    generalize upd H2 e0 (.lst []) = H3 at s3 ee0 ⊢
    have h3 := s3 _ _ h2
    have hP3 := hP.same s3
    refine ⟨.list (ls.map dLn), .list [], .lst (SqL.of h3) (rdd_lns hP3), .lst (SqL.of ee0) .nil, shaped_lns ls, shaped_lns [], _, rfl, ?_⟩
    rw [eqv_nilD]
    cases ls with
    | nil =>
      refine iteT ?_
      have has : as = [] := by cases hP3; rfl
      subst has
      refine ⟨_, rfl, .inl ⟨rfl, _, SqL.of h3⟩, (by show 1 ≤ sizeLine; decide), fun tp htp => ?_⟩
      have hrt : r ≠ tp := ne_of_none h3 htp
      refine ⟨r, _, _, rfl, rfl, by rw [upd_ne hrt]; exact h3, (by show 0 < sizeLine; decide), ?_⟩
      refine ⟨_, rfl, q r _ [tp] [.still] hr' (same_upd ((s2.trans s3).trans (same_new htp _)) hr' _) upd_same (.cons (by rw [upd_ne (Ne.symm hrt), upd_same]; rfl) .nil) ?_ (by simp) (by simp)⟩
      intro p l hl2
      cases p with
      | zero => cases hl2; trivial
      | succ p => cases hl2
    | cons l0 lr => exact iteF ⟨_, rfl, q r H3 as (l0 :: lr) hr' (s2.trans s3) h3 hP3 hR (by simp) (by omega)⟩

/-! ### _law_shown -/
theorem sc__law_shown : FnScope ["_law_lines_here", "_law_texts", "_law_line_here", "_law_text", "_law_x"] ["_law_lines_here"] (defScope s__law_shown) := ⟨rfl, rfl, rfl, by decide +kernel, rfl, by decide +kernel, by decide +kernel⟩
def growB (a : Str) (ys : List Str) : Str := ys.foldl (fun a y => a ++ sBl ++ y) a
theorem growB_snoc (a : Str) (ys : List Str) (y : Str) : growB a (ys ++ [y]) = growB a ys ++ sBl ++ y := by
  unfold growB
  rw [List.foldl_append]
  rfl
theorem growB_join : ∀ (ys : List Str) (a : Str), growB a ys = Str.join sBl (a :: ys)
  | [], a => rfl
  | y :: r, a => by
    show growB (a ++ sBl ++ y) r = a ++ sBl ++ Str.join sBl (y :: r)
    rw [growB_join r]
    cases r with
    | nil => rfl
    | cons z r =>
      show (a ++ sBl ++ y) ++ sBl ++ Str.join sBl (z :: r) = a ++ sBl ++ (y ++ sBl ++ Str.join sBl (z :: r))
      apply ext_cps
      simp only [cps_app, List.append_assoc]
theorem growB_len : ∀ (ys : List Str) (a : Str), (∀ y ∈ ys, y.length ≤ 6) → (growB a ys).length ≤ a.length + ys.length * 7
  | [], a, _ => by show a.length ≤ _; omega
  | y :: r, a, h => by
    have h1 := growB_len r (a ++ sBl ++ y) fun z hz => h z (List.mem_cons_of_mem _ hz)
    have h2 := h y List.mem_cons_self
    rw [Str.length_append, Str.length_append, show sBl.length = 1 by decide] at h1
    show (growB (a ++ sBl ++ y) r).length ≤ _
    rw [List.length_cons]
    omega
theorem ok__law_shown (D : Def K mg "_law_shown" s__law_shown ["_law_lines_here"] f fd) (B : Blt mg) : FnOk P w K mg base CX0 1 f fd ["_law_lines_here"] (spShownRec K) := by
  refine D.F.ok sc__law_shown (fun vs H Q E h => ?_) (fun cdv A outer s H vs Q E hr h => ?_)
  · obtain ⟨a, as, ls, rfl, _⟩ := h
    rfl
  obtain ⟨a, as, ls, rfl, ha, hP, hl, h6, q⟩ := h
  have hz := sizeLine_big
  refine ⟨_, pss_cons (ps_set (i := 1) sc__law_shown.nd rfl (Or.inl rfl) (pe_lst pa_nil))
    (pss_cons (ps_for PassesOwn.never rfl (pi_list (pv 0)) (pg_name (i := 2) sc__law_shown.nd rfl (Or.inl rfl))
      (pss_cons (ps_set (i := 3) sc__law_shown.nd rfl (Or.inl rfl) (pe_ix ix_tup (pv 2) pe_int (fun _ _ => rfl)))
      (pss_cons (ps_for PassesOwn.never rfl (pi_tup (pe_slice sl_tup (pv 2) (po_some pe_int) po_none)) (pg_name (i := 4) sc__law_shown.nd rfl (Or.inl rfl))
        (pss_one (ps_set (i := 3) sc__law_shown.nd rfl (Or.inl rfl) (pe_op op_add_str (pe_op op_add_str (pv 3) pe_str) (pe_callTy call_str_int rfl B.str bt_str (pa_cons (pv 4) pa_nil))))))
      (pss_one (ps_expr (pe_bm PySem.F.plainAttrs_list PySem.F.slot_list_append PySem.F.type_list_append mt_append (pv 1) (pa_cons (pv 3) pa_nil)))))))
    (pss_one (ps_ret (pe_bm PySem.F.plainAttrs_str PySem.F.slot_str_join PySem.F.type_str_join mt_join pe_str (pa_cons (pv 1) pa_nil))))), ?_⟩
  have hal : as.length = ls.length := Paired.length hP
  refine ⟨Nat.zero_le _, fun t ht => ?_⟩
  refine ⟨_, rfl, a, rfl, ⟨_, SqL.of ((same_new ht _) _ _ ha)⟩, for_list (xs := as.map V.ref) (fun i σ H' => ∃ v2 v3 v4, σ = [some (.ref a), some (.ref t), v2, v3, v4] ∧ Same H H' ∧ H' t = some (.lst (((ls.take i).map lineTx).map V.str))) ⟨_, _, _, rfl, same_new ht _, upd_same⟩ (fun i σ H' _ ⟨_, _, _, _, s', _⟩ => SqL.of (s' _ _ ha)) ?_ ?_⟩
  · rintro i x σ H1 hx ⟨v2, v3, v4, rfl, s1, e1⟩
    obtain ⟨b, hb, rfl⟩ := ref_some hx
    obtain ⟨l, hl', hbl⟩ := paired_at2 hP i b hb
    have hbl1 := s1 _ _ hbl
    have hl6 := h6 l (List.mem_of_getElem? hl')
    rw [lnV_eq] at hbl1
    refine ⟨_, rfl, b, _, _, _, rfl, rfl, SqT.of hbl1, atI_nat (j := 0) rfl, ?_⟩
    refine ⟨_, rfl, _, rfl, b, _, rfl, SqT.of hbl1, not_whole _ _, fun tp htp => ?_⟩
    have s2 := same_new htp (.tup (cutV (V.str (lnW l) :: tI (lnN l)) (some 1) none))
    have e2 : (upd H1 tp (.tup (cutV (V.str (lnW l) :: tI (lnN l)) (some 1) none))) tp = some (.tup (tI (lnN l))) := by rw [upd_same, cut1]
    generalize upd H1 tp (.tup (cutV (V.str (lnW l) :: tI (lnN l)) (some 1) none)) = H2 at s2 e2 ⊢
    refine ⟨tp, rfl, ⟨_, SqT.of e2⟩, for_tup (xs := tI (lnN l)) (fun j σ H' => ∃ v4, σ = [some (.ref a), some (.ref t), some (.ref b), some (.str (growB (lnW l) (((lnN l).take j).map nS))), v4] ∧ H' = H2) ⟨_, rfl, rfl⟩ (fun j σ H' _ ⟨_, _, e⟩ => by rw [e]; exact SqT.of e2) ?_ ?_⟩
    · rintro j x σ H' hx ⟨v4, rfl, rfl⟩
      obtain ⟨n, hn, rfl⟩ := tI_some hx
      have hg := growB_len (((lnN l).take j).map nS) (lnW l) (fun y hy => by
        obtain ⟨n, hn, rfl⟩ := List.mem_map.mp hy
        exact nS_len6 (hl6 n (List.mem_of_mem_take hn)))
      have hnl := lnN_len l
      have hwl := lnW_len l
      rw [List.length_map, List.length_take] at hg
      have hn6 := nS_len6 (hl6 n (List.mem_of_getElem? hn))
      refine ⟨_, rfl, _, _, rfl, rfl, ?_, _, rfl, _, rfl, nS_log6 (hl6 n (List.mem_of_getElem? hn)), _, _, rfl, rfl, ?_, ?_⟩
      · show (growB (lnW l) (((lnN l).take j).map nS)).length + 1 ≤ _
        omega
      · show (growB (lnW l) (((lnN l).take j).map nS) ++ sBl).length + (nS n).length ≤ _
        rw [Str.length_append, show sBl.length = 1 by decide]
        omega
      · refine ⟨some (V.int (n : Int)), ?_, rfl⟩
        rw [List.take_add_one, hn, List.map_append]
        show _ = [_, _, _, some (V.str (growB (lnW l) (((lnN l).take j).map nS ++ [nS n]))), _]
        rw [growB_snoc]
        rfl
    · rintro σ H' ⟨v4, rfl, rfl⟩
      rw [tI_length, List.take_length, growB_join]
      have et := s2 _ _ e1
      refine ⟨_, rfl, .inl ⟨rfl, _, SqL.of et⟩, _, rfl, t, _, _, rfl, rfl, et, ?_, ?_⟩
      · rw [List.length_map, List.length_map, List.length_take]
        exact small1000 (by omega)
      · refine ⟨_, _, _, rfl, same_upd (s1.trans s2) ht _, ?_⟩
        rw [upd_same, List.take_add_one, hl', List.map_append, List.map_append]
        rfl
  · rintro σ H' ⟨v2, v3, v4, rfl, s', e'⟩
    rw [List.length_map, hal, List.take_length] at e'
    exact ⟨rfl, _, rfl, sSc, t, ls.map lineTx, rfl, rfl, SqL.of e', Nat.le_trans (recTx_ok hl h6) (by decide), q _ s'⟩

/-! ### _law_number -/
def numI (w : Str) : Int := if figsOk 6 w = true then ((figVal w : Nat) : Int) else -1
def spNumI : Sp := fun vs H Q _ => ∃ w : Str, vs = [.str w] ∧ Asc 4000 w ∧ Q (.int (numI w)) H
theorem sc__law_number : FnScope ["_law_word", "_law_sign_here"] ["_law_word"] (defScope s__law_number) := ⟨rfl, rfl, rfl, by decide +kernel, rfl, by decide +kernel, by decide +kernel⟩
theorem numI_no {w : Str} (h : figsOk 6 w = false) : numI w = -1 := by unfold numI; rw [h]; rfl
theorem ok__law_number (D : Def K mg "_law_number" s__law_number ["_law_word"] f fd) (B : Blt mg) : FnOk P w K mg base CX0 1 f fd ["_law_word"] spNumI := by
  refine D.F.ok sc__law_number (fun vs H Q E h => ?_) (fun cdv A outer s H vs Q E hr h => ?_)
  · obtain ⟨w, rfl, _⟩ := h
    rfl
  obtain ⟨w, rfl, ha, q⟩ := h
  have hz := sizeLine_big
  have hal := ha.1
  refine ⟨_, pss_cons (ps_if (PW.pt (pw_or (pt_cmpR op_eq (pv 0) pe_str (nomark _)) (pw_or (pt_cmpR op_gt (pe_callB call_len_str rfl B.len bt_len (pa_cons (pv 0) pa_nil)) pe_int (nomark _)) (pw_or1 (PW.pt (pw_and (pt_cmpR op_eq (pe_ix ix_str (pv 0) pe_int (fun _ _ => rfl)) pe_str (nomark _)) (pw_and1 (pt_cmpR op_gt (pe_callB call_len_str rfl B.len bt_len (pa_cons (pv 0) pa_nil)) pe_int (nomark _))))))))) (pss_one (ps_ret (pe_un un_neg pe_int))) pss_nil)
    (pss_cons (ps_for PassesOwn.never rfl (pi_str (pv 0)) (pg_name (i := 1) sc__law_number.nd rfl (Or.inl rfl))
      (pss_one (ps_if (pt_cmpR op_notin_str (pv 1) pe_str rfl) (pss_one (ps_ret (pe_un un_neg pe_int))) pss_nil)))
    (pss_one (ps_ret (pe_callTy call_int_tx rfl B.int bt_int (pa_cons (pv 0) pa_nil))))), ?_⟩
  have qno : figsOk 6 w = false → Q (V.int (-1)) H := fun h => by rw [numI_no h] at q; exact q
  have hcl : w.cps.toList.length = w.length := len_cps _
  refine ⟨_, rfl, rfl, _, rfl, ?_⟩
  show if decide (V.str w = V.str "") = true then _ else _
  by_cases h1 : 1 ≤ w.length
  case neg =>
    have e0 : w = "" := ext_cps (by
      have : w.cps.toList = [] := List.eq_nil_of_length_eq_zero (by omega)
      rw [this]; rfl)
    rw [decide_eq_true (by rw [e0])]
    refine iteT ⟨_, rfl, qno ?_⟩
    unfold figsOk
    rw [decide_eq_false h1]; rfl
  rw [decide_eq_false (fun z => by injection z with z; rw [z] at h1; exact absurd h1 (by decide))]
  refine iteF ⟨_, rfl, w, rfl, by omega, _, _, rfl, rfl, _, rfl, ?_⟩
  by_cases h2 : w.length ≤ 6
  case neg =>
    rw [decide_eq_true (show (6 : Int) < ((w.length : Nat) : Int) by omega)]
    refine iteT ⟨_, rfl, qno ?_⟩
    unfold figsOk
    rw [decide_eq_false h2, Bool.and_false]; rfl
  rw [decide_eq_false (show ¬ (6 : Int) < ((w.length : Nat) : Int) by omega)]
  obtain ⟨c, hc⟩ : ∃ c, w.cps.toList[0]? = some c := ⟨_, List.getElem?_eq_getElem (by rw [hcl]; omega)⟩
  have hh : w.cps.toList.head? = some c := by rw [List.head?_eq_getElem?, hc]
  refine iteF ⟨_, rfl, w, 0, c, rfl, rfl, by omega, atI_nat (j := 0) hc, rfl, _, rfl, ?_⟩
  have loop : (w.cps.toList.all isFig = false → figsOk 6 w = false) → (w.cps.toList.all isFig = true → figsOk 6 w = true) → tSeq (tFor (iStr (tVar 0)) (gName 1) (tIfS (tTest (tOp (fun x y H Q => ∃ i j, x = V.str i ∧ y = V.str j ∧ Q (V.bl !!(Builtin.Str.occurrences j i 0 j.length 1).isEmpty) H) (tVar 1) (tC (V.str sFig)))) (tRet (tUn (fun x H Q => ∃ i, x = V.int i ∧ Q (V.int (-i)) H) (tC (V.int 1)))) tNext)) (tRet (tCB (fun xs H Q => ∃ z n, xs = [V.str z] ∧ PySem.intText? z = some n ∧ z.length ≤ 640 ∧ Q (V.int n) H) (tCons (tVar 0) tNil))) { nx := fun _ H' => Q .non H', rt := Q } [some (.str w), none] H := by
    intro h5 h6
    refine ⟨_, rfl, w, rfl, ha.all, for_str (x := w) (fun i σ H' => ∃ v, σ = [some (.str w), v] ∧ H' = H ∧ (w.cps.toList.take i).all isFig = true) ⟨none, rfl, rfl, rfl⟩ ?_ ?_⟩
    · rintro i c σ H' hc ⟨v, rfl, rfl, hall⟩
      refine ⟨_, rfl, _, _, rfl, rfl, _, rfl, ?_⟩
      rw [fig_in]
      cases hf : isFig c with
      | true =>
        refine iteF ⟨_, rfl, rfl, ?_⟩
        rw [List.take_add_one, hc, List.all_append, hall]
        show (true && (isFig c && true)) = true
        rw [hf]; rfl
      | false =>
        refine iteT ⟨_, rfl, qno (h5 ?_)⟩
        rw [List.all_eq_false]
        exact ⟨c, List.mem_of_getElem? hc, by rw [hf]; exact Bool.false_ne_true⟩
    · rintro σ H' ⟨v, rfl, rfl, hall⟩
      rw [← hcl, List.take_length] at hall
      have ok := h6 hall
      have eq : numI w = ((figVal w : Nat) : Int) := by unfold numI; rw [if_pos ok]
      exact ⟨_, rfl, w, _, rfl, figsOk_int ok (by decide), by omega, eq ▸ q⟩
  have h5 : w.cps.toList.all isFig = false → figsOk 6 w = false := fun h => by
    unfold figsOk
    rw [h, Bool.false_and, Bool.and_false]
  show if decide (V.str ⟨#[c]⟩ = V.str "0") = true then _ else _
  by_cases hc48 : c = 48
  · subst hc48
    rw [decide_eq_true (show V.str ⟨#[48]⟩ = V.str "0" from rfl)]
    refine iteT ⟨_, rfl, w, rfl, by omega, _, _, rfl, rfl, _, rfl, ?_⟩
    by_cases h3 : 1 < w.length
    · rw [decide_eq_true (show (1 : Int) < ((w.length : Nat) : Int) by omega)]
      refine iteT ⟨_, rfl, qno ?_⟩
      unfold figsOk
      rw [hh, decide_eq_true h3, decide_eq_true rfl]
      simp
    · rw [decide_eq_false (show ¬ (1 : Int) < ((w.length : Nat) : Int) by omega)]
      refine iteF (loop h5 fun h => ?_)
      unfold figsOk
      rw [h, decide_eq_true h1, decide_eq_true h2, decide_eq_false h3]
      rfl
  · have ne : ¬ (V.str ⟨#[c]⟩ = V.str "0") := fun z => by
      injection z with z
      have h2 := congrArg (fun s : Str => s.cps.toList) z
      have h3 : [c] = [48] := h2
      exact hc48 (by simpa using h3)
    rw [decide_eq_false ne]
    refine iteF (iteF (loop h5 fun h => ?_))
    unfold figsOk
    rw [hh, h, decide_eq_true h1, decide_eq_true h2, decide_eq_false (show ¬ (some c = some 48) from fun z => hc48 (Option.some.inj z))]
    simp

/-! ### _law_kinds -/
theorem strOk_asc {n : Nat} {x : Str} (h : Asc n x) : PyData.strOk x = true := by
  unfold PyData.strOk
  rw [← Array.all_toList, List.all_eq_true]
  exact fun c hc => decide_eq_true (Nat.lt_trans (h.2 c hc) (by decide))
theorem lay_nats : ∀ ns : List Nat, PyData.canLayAll0 (ns.map fun (n : Nat) => PyData.int (n : Int)) = true ∧ PyData.depthAll (ns.map fun (n : Nat) => PyData.int (n : Int)) = 0
  | [] => ⟨by simp [PyData.canLayAll0], by simp [PyData.depthAll]⟩
  | n :: r => by
    obtain ⟨h1, h2⟩ := lay_nats r
    exact ⟨by simp [PyData.canLayAll0, PyData.canLay0, h1], by simp [PyData.depthAll, PyData.depth, h2]⟩
theorem lay_lines : ∀ ls : List (Str × List Nat), (∀ l ∈ ls, ∃ n, Asc n l.1) → PyData.canLayAll0 (ls.map lnD) = true ∧ PyData.depthAll (ls.map lnD) ≤ 1
  | [], _ => ⟨by simp [PyData.canLayAll0], by simp [PyData.depthAll]⟩
  | l :: r, h => by
    obtain ⟨h1, h2⟩ := lay_lines r fun x hx => h x (List.mem_cons_of_mem _ hx)
    obtain ⟨n, ha⟩ := h l List.mem_cons_self
    obtain ⟨g1, g2⟩ := lay_nats l.2
    refine ⟨?_, ?_⟩
    · simp only [List.map_cons, PyData.canLayAll0, lnD, PyData.canLay0, strOk_asc ha, g1, h1]
      rfl
    · simp only [List.map_cons, PyData.depthAll, lnD, PyData.depth, g2]
      omega
theorem shaped_lines {ls : List (Str × List Nat)} (h : ∀ l ∈ ls, ∃ n, Asc n l.1) : PySem.SeqAt.shaped (.list (ls.map lnD)) = true := by
  obtain ⟨h1, h2⟩ := lay_lines ls h
  unfold PySem.SeqAt.shaped
  rw [Bool.and_eq_true]
  refine ⟨by simp only [PyData.canLay0]; exact h1, decide_eq_true ?_⟩
  simp only [PyData.depth]
  omega
def spKinds26 : Sp := fun vs H Q _ => ∃ (a : Addr) (xs : List V) (ls : List (Str × List Nat)), vs = [.ref a] ∧ H a = some (.lst xs) ∧ Dts H xs (ls.map lnD) ∧ ls ≠ [] ∧ (∀ l ∈ ls, ∃ n, Asc n l.1) ∧ (∀ l ∈ ls, l.2.length ≤ 2) ∧ ∀ H' : Hp, Same H H' → Q (.bl true) H'
theorem sc__law_kinds : FnScope ["_law_found", "_law_line_here"] ["_law_found"] (defScope s__law_kinds) := ⟨rfl, rfl, rfl, by decide +kernel, rfl, by decide +kernel, by decide +kernel⟩
theorem lnD_at {H : Hp} {v : V} {l : Str × List Nat} (h : Dt H v (lnD l)) : ∃ a ys, v = .ref a ∧ H a = some (.tup (V.str l.1 :: ys)) ∧ Dts H ys (l.2.map fun (n : Nat) => PyData.int (n : Int)) := by
  cases h with
  | tup h r =>
    cases r with
    | cons h1 r1 =>
      cases h1
      exact ⟨_, _, rfl, h, r1⟩
theorem eqv_nil_cons (l : Str × List Nat) : PyData.eqv (lnD l) (.tuple []) = false := by
  simp [lnD, PyData.eqv, PyData.eqvAll]
theorem shaped_line {l : Str × List Nat} (h : ∃ n, Asc n l.1) : PySem.SeqAt.shaped (lnD l) = true := by
  obtain ⟨n, ha⟩ := h
  obtain ⟨g1, g2⟩ := lay_nats l.2
  unfold PySem.SeqAt.shaped
  rw [Bool.and_eq_true]
  refine ⟨?_, decide_eq_true ?_⟩
  · simp only [lnD, PyData.canLay0, PyData.canLayAll0, strOk_asc ha, g1]
    rfl
  · simp only [lnD, PyData.depth, PyData.depthAll, g2]
    omega
theorem ok__law_kinds (D : Def K mg "_law_kinds" s__law_kinds ["_law_found"] f fd) (B : Blt mg) : FnOk P w K mg base CX0 1 f fd ["_law_found"] spKinds26 := by
  refine D.F.ok sc__law_kinds (fun vs H Q E h => ?_) (fun cdv A outer s H vs Q E hr h => ?_)
  · obtain ⟨a, xs, ls, rfl, _⟩ := h
    rfl
  obtain ⟨a, xs, ls, rfl, ha, hs, hne, hasc, h2, q⟩ := h
  refine ⟨_, pss_cons (ps_if (PW.pt (pw_or (pt_not (pt_val (pe_callB call_isinst rfl B.isinstance bt_isinstance (pa_cons (pv 0) (pa_cons (pe_bltn (v := .ty "list") rfl B.list bt_list rfl) pa_nil))))) (pw_or1 (pt_cmpR (op_eqDt hr.units) (pv 0) (pe_lst pa_nil) (nomark _))))) (pss_one (ps_ret pe_bl)) pss_nil)
    (pss_cons (ps_for PassesOwn.never rfl (pi_list (pv 0)) (pg_name (i := 1) sc__law_kinds.nd rfl (Or.inl rfl))
      (pss_cons (ps_if (PW.pt (pw_or (pt_not (pt_val (pe_callB call_isinst rfl B.isinstance bt_isinstance (pa_cons (pv 1) (pa_cons (pe_bltn (v := .ty "tuple") rfl B.tuple bt_tuple rfl) pa_nil))))) (pw_or (pt_cmpR (op_eqDt hr.units) (pv 1) (pe_tup pa_nil) (nomark _)) (pw_or1 (pt_not (pt_val (pe_callB call_isinst rfl B.isinstance bt_isinstance (pa_cons (pe_ix ix_tup (pv 1) pe_int (fun _ _ => rfl)) (pa_cons (pe_bltn (v := .ty "str") rfl B.str bt_str rfl) pa_nil))))))))) (pss_one (ps_ret pe_bl)) pss_nil)
      (pss_one (ps_if (pt_not (pt_val (pe_callB (call_allL rfl) rfl B.all bt_all (pa_cons (pe_comp1 [] ["_law_x"] rfl (pi_tup (pe_slice sl_tup (pv 1) (po_some pe_int) po_none)) (fun _ _ _ _ => (pe_and (pe_callB call_isinst rfl B.isinstance bt_isinstance (pa_cons (pv 0) (pa_cons (pe_bltn (v := .ty "int") rfl B.int bt_int rfl) pa_nil))) (pe_one (pe_not (pe_callB call_isinst rfl B.isinstance bt_isinstance (pa_cons (pv 0) (pa_cons (pe_bltn (v := .ty "bool") rfl B.bool bt_bool rfl) pa_nil)))))))) pa_nil)))) (pss_one (ps_ret pe_bl)) pss_nil))))
    (pss_one (ps_ret pe_bl))), ?_⟩
  have hshl := shaped_lines hasc
  refine ⟨_, rfl, _, _, _, _, rfl, (Dt.lst ha hs).ty, kit_tt (kd_lst _), _, rfl, iteF ?_⟩
  refine ⟨_, rfl, Nat.zero_le _, fun p hp => ?_⟩
  have s1 := same_new hp (.lst [])
  have e1 : (upd H p (.lst [])) p = some (.lst []) := upd_same
  generalize upd H p (.lst []) = H1 at s1 e1 ⊢
  refine ⟨.list (ls.map lnD), .list [], .lst (s1 _ _ ha) (hs.same s1), .lst e1 .nil, hshl, by decide +kernel, _, rfl, ?_⟩
  have en : PyData.eqv (.list (ls.map lnD)) (.list []) = false := by
    cases ls with
    | nil => exact absurd rfl hne
    | cons l r => simp [PyData.eqv, PyData.eqvAll]
  rw [en]
  refine iteF ⟨_, rfl, a, rfl, ⟨_, SqL.of (s1 _ _ ha)⟩, for_list (xs := xs) (fun i σ H' => ∃ v, σ = [some (.ref a), v] ∧ Same H1 H') ⟨_, rfl, Same.refl _⟩ (fun i σ H' _ ⟨_, _, s'⟩ => SqL.of (s' _ _ (s1 _ _ ha))) ?_ ?_⟩
  · rintro i x σ H2 hx ⟨v, rfl, s2⟩
    obtain ⟨d, hd, hxd⟩ := hs.get hx
    rw [List.getElem?_map] at hd
    cases el : ls[i]? with
    | none => rw [el] at hd; cases hd
    | some l =>
    rw [el] at hd
    cases hd
    have hlm := List.mem_of_getElem? el
    have hx2 := hxd.same (s1.trans s2)
    refine ⟨_, rfl, _, _, _, _, rfl, hx2.ty, kit_tt (kd_tup _), _, rfl, iteF ?_⟩
    refine ⟨_, rfl, Nat.zero_le _, fun p2 hp2 => ?_⟩
    have s3 := same_new hp2 (.tup [])
    have e3 : (upd H2 p2 (.tup [])) p2 = some (.tup []) := upd_same
    generalize upd H2 p2 (.tup []) = H3 at s3 e3 ⊢
    refine ⟨lnD l, .tuple [], hx2.same s3, .tup e3 .nil, shaped_line (hasc l hlm), by decide +kernel, _, rfl, ?_⟩
    rw [eqv_nil_cons]
    obtain ⟨b, ys, rfl, hb, hys⟩ := lnD_at (hx2.same s3)
    refine iteF ⟨_, rfl, b, _, _, _, rfl, rfl, SqT.of hb, atI_nat (j := 0) rfl, _, _, _, _, rfl, TyOf.str _, kit_tt kt_str_str, _, rfl, iteF ?_⟩
    refine ⟨_, rfl, _, rfl, b, _, rfl, SqT.of hb, not_whole _ _, fun tp htp => ?_⟩
    have s4 := same_new htp (.tup (cutV (V.str l.1 :: ys) (some 1) none))
    have e4 : (upd H3 tp (.tup (cutV (V.str l.1 :: ys) (some 1) none))) tp = some (.tup ys) := by rw [upd_same, cut1]
    generalize upd H3 tp (.tup (cutV (V.str l.1 :: ys) (some 1) none)) = H4 at s4 e4 ⊢
    have hyl := hys.length
    rw [List.length_map] at hyl
    have hl2 := h2 l hlm
    refine ⟨tp, rfl, ⟨_, SqT.of e4⟩, comp_tup (SqT.of e4) ((List.replicate ys.length true).map V.bl) (by rw [List.length_map, List.length_replicate]) (by rw [hyl]; exact small (by omega)) ?_ ?_⟩
    · intro j H5 y hy s5 _ _ _ _
      obtain ⟨dy, hdy, hyd⟩ := hys.get hy
      rw [List.getElem?_map] at hdy
      cases en : l.2[j]? with
      | none => rw [en] at hdy; cases hdy
      | some n =>
      rw [en] at hdy
      cases hdy
      cases hyd
      refine ⟨_, rfl, _, _, _, _, rfl, TyOf.int _, kit_tt kt_int_int, _, rfl, iteT ⟨_, rfl, _, _, _, _, rfl, TyOf.int _, kit_tt kt_int_bool, _, rfl, Same.refl _, ?_⟩⟩
      rw [List.getElem?_map, List.getElem?_replicate, if_pos (List.getElem?_eq_some_iff.mp hy).1]
      rfl
    intro nm H5 _ s5 e5
    refine ⟨nm, _, rfl, SqL.of e5, _, rfl, ?_⟩
    rw [show (List.replicate ys.length true).all id = true by rw [List.all_eq_true]; intro y hy; exact List.eq_of_mem_replicate hy]
    exact iteF ⟨_, rfl, (((s2.trans s3).trans s4).trans s5)⟩
  · rintro σ H' ⟨v, rfl, s'⟩
    exact q H' (s1.trans s')

/-! ### _law_line_of -/
def lineOfD (p c : Int) (t : Str) : PyData := match rdLine t with
  | some l => if isLineD p c (lnD l) = true then lnD l else .tuple []
  | none => .tuple []
def spLineOf : Sp := fun vs H Q _ => ∃ (t : Str) (p c : Int), vs = [.str t, .int p, .int c] ∧ Asc 4000 t ∧ 0 ≤ p ∧ ∀ (v : V) (H' : Hp), Same H H' → Dt (nw H H') v (lineOfD p c t) → Q v H'
theorem sc__law_line_of : FnScope ["_law_text", "_law_at", "_law_count", "_law_words", "_law_numbers", "_law_most"] ["_law_text", "_law_at", "_law_count"] (defScope s__law_line_of) := ⟨rfl, rfl, rfl, by decide +kernel, rfl, by decide +kernel, by decide +kernel⟩
theorem in_num : ∀ ws : List Str, inV (V.int (-1)) ((ws.map numI).map V.int) = !(ws.all (figsOk 6))
  | [] => rfl
  | w :: r => by
    have ih := in_num r
    show (eqV (V.int (numI w)) (V.int (-1)) || inV (V.int (-1)) ((r.map numI).map V.int)) = !(figsOk 6 w && r.all (figsOk 6))
    rw [ih]
    have e : eqV (V.int (numI w)) (V.int (-1)) = !figsOk 6 w := by
      show (numI w == -1) = _
      unfold numI
      cases h : figsOk 6 w with
      | true =>
        rw [if_pos rfl]
        rw [beq_eq_false_iff_ne.mpr (by omega)]
        rfl
      | false => rw [if_neg Bool.false_ne_true]; rfl
    rw [e]
    cases figsOk 6 w <;> cases r.all (figsOk 6) <;> rfl
theorem nums_all {ws : List Str} (h : ws.all (figsOk 6) = true) : (ws.map numI).map V.int = tI (ws.map figVal) := by
  unfold tI
  rw [List.map_map, List.map_map]
  refine List.map_congr_left fun w hw => ?_
  show V.int (numI w) = V.int ((figVal w : Nat) : Int)
  unfold numI
  rw [if_pos (List.all_eq_true.mp h w hw)]
theorem flat_ints (ns : List Int) : (ns.map V.int).all flatV = true := by
  rw [List.all_map, List.all_eq_true]
  exact fun _ _ => rfl
theorem in4 (w : Str) : inV (V.str w) [V.str "still", V.str "told", V.str "behind", V.str "back"] = (nL w).isSome := by
  show ((("still" : Str) == w) || ((("told" : Str) == w) || ((("behind" : Str) == w) || ((("back" : Str) == w) || false)))) = _
  unfold nL
  by_cases h1 : w = "still"
  · subst h1; decide +kernel
  by_cases h2 : w = "told"
  · subst h2; decide +kernel
  by_cases h3 : w = "behind"
  · subst h3; decide +kernel
  by_cases h4 : w = "back"
  · subst h4; decide +kernel
  rw [if_neg h1, if_neg h2, if_neg h3, if_neg h4, beq_eq_false_iff_ne.mpr (Ne.symm h1), beq_eq_false_iff_ne.mpr (Ne.symm h2), beq_eq_false_iff_ne.mpr (Ne.symm h3), beq_eq_false_iff_ne.mpr (Ne.symm h4)]
  rfl
theorem num_all (bd : Int) : ∀ ms : List Nat, (ms.map fun (n : Nat) => PyData.int (n : Int)).all (isNumD bd) = ms.all fun n => decide ((n : Int) < bd)
  | [] => rfl
  | n :: r => by
    have ih := num_all bd r
    show ((decide (0 ≤ (n : Int)) && decide ((n : Int) < bd)) && (r.map fun (n : Nat) => PyData.int (n : Int)).all (isNumD bd)) = (decide ((n : Int) < bd) && r.all fun n => decide ((n : Int) < bd))
    rw [ih, decide_eq_true (show 0 ≤ (n : Int) by omega), Bool.true_and]
theorem nL_cases {w : Str} {k : Nat} (h : nL w = some k) : (w = "still" ∧ k = 0) ∨ (w = "told" ∧ k = 1) ∨ (w = "behind" ∧ k = 2) ∨ (w = "back" ∧ k = 1) := by
  unfold nL at h
  by_cases h1 : w = "still"
  · rw [if_pos h1] at h; cases h; exact .inl ⟨h1, rfl⟩
  rw [if_neg h1] at h
  by_cases h2 : w = "told"
  · rw [if_pos h2] at h; cases h; exact .inr (.inl ⟨h2, rfl⟩)
  rw [if_neg h2] at h
  by_cases h3 : w = "behind"
  · rw [if_pos h3] at h; cases h; exact .inr (.inr (.inl ⟨h3, rfl⟩))
  rw [if_neg h3] at h
  by_cases h4 : w = "back"
  · rw [if_pos h4] at h; cases h; exact .inr (.inr (.inr ⟨h4, rfl⟩))
  rw [if_neg h4] at h
  cases h
theorem w_no {w k : Str} (h : w ≠ k) : decide (V.str w = V.str k) = false := decide_eq_false fun z => h (V.str.inj z)
theorem w_yes (k : Str) : decide (V.str k = V.str k) = true := decide_eq_true rfl
theorem shaped_nats (ms : List Nat) : PySem.SeqAt.shaped (.list (ms.map fun (n : Nat) => PyData.int (n : Int))) = true := by
  obtain ⟨h1, h2⟩ := lay_nats ms
  unfold PySem.SeqAt.shaped
  rw [Bool.and_eq_true]
  refine ⟨by simp only [PyData.canLay0]; exact h1, decide_eq_true ?_⟩
  simp only [PyData.depth]
  omega
theorem eqv_nats_nil (ms : List Nat) : PyData.eqv (.list (ms.map fun (n : Nat) => PyData.int (n : Int))) (.list []) = decide (ms = []) := by
  cases ms with
  | nil => simp [PyData.eqv, PyData.eqvAll]
  | cons a r => simp [PyData.eqv, PyData.eqvAll]
theorem len_dec {ms : List Nat} {k : Nat} : decide (V.int (((tI ms).length : Nat) : Int) = V.int ((k : Nat) : Int)) = decide (ms.length = k) := by
  rw [tI_length, dec_intD, decide_eq_decide]
  omega
theorem lineD_is (p c : Int) (w : Str) (ms : List Nat) : isLineD p c (lnD (w, ms)) = (decide (nL w = some ms.length) && ms.all fun n => decide ((n : Int) < bdD w p c)) := by
  show (decide (nL w = some (ms.map fun (n : Nat) => PyData.int (n : Int)).length) && (ms.map fun (n : Nat) => PyData.int (n : Int)).all (isNumD (bdD w p c))) = _
  rw [num_all, List.length_map]
theorem ok__law_line_of (D : Def K mg "_law_line_of" s__law_line_of ["_law_text", "_law_at", "_law_count"] f fd) (B : Blt mg) (KN : Known P w K mg base 1 "_law_number" ["_law_word"] spNumI) : FnOk P w K mg base CX0 2 f fd ["_law_text", "_law_at", "_law_count"] spLineOf := by
  refine D.F.ok sc__law_line_of (fun vs H Q E h => ?_) (fun cdv A outer s H vs Q E hr h => ?_)
  · obtain ⟨t, p, c, rfl, _⟩ := h
    rfl
  obtain ⟨t, p, c, rfl, ht, hp0, q⟩ := h
  have hz := sizeLine_big
  have ht1 := ht.1
  refine ⟨_, pss_cons (ps_set (i := 3) sc__law_line_of.nd rfl (Or.inl rfl) (pe_bm PySem.F.plainAttrs_str PySem.F.slot_str_split PySem.F.type_str_split mt_split (pv 0) (pa_cons pe_str pa_nil)))
    (pss_cons (ps_setComp1 (i := 4) [] ["_law_word"] sc__law_line_of.nd rfl rfl rfl (pi_list (pe_slice sl_list (pv 3) (po_some pe_int) po_none)) (fun _ _ _ _ => pe_kn KN hr rfl (pa_cons (pv 0) pa_nil)))
    (pss_cons (ps_set (i := 5) sc__law_line_of.nd rfl (Or.inl rfl) (pe_op op_cat (pe_lst (pa_cons (pe_un un_neg pe_int) pa_nil)) (pv 4)))
    (pss_cons (ps_if (PW.pt (pw_or (pt_cmpR op_in_seq (pe_un un_neg pe_int) (pv 4) rfl) (pw_or1 (pt_cmpR op_notIn_seq (pe_ix ix_list (pv 3) pe_int (fun _ _ => rfl)) (pe_lst (pa_cons pe_str (pa_cons pe_str (pa_cons pe_str (pa_cons pe_str pa_nil))))) rfl)))) (pss_one (ps_ret (pe_tup pa_nil))) pss_nil)
    (pss_cons (ps_if (PW.pt (pw_or (PW.pt (pw_and (pt_cmpR op_eq (pe_ix ix_list (pv 3) pe_int (fun _ _ => rfl)) pe_str (nomark _)) (pw_and1 (pt_cmpR (op_eqDt hr.units) (pv 4) (pe_lst pa_nil) (nomark _))))) (pw_or1 (PW.pt (pw_and (pt_cmpR op_eq (pe_ix ix_list (pv 3) pe_int (fun _ _ => rfl)) pe_str (nomark _)) (pw_and (pt_cmpR op_eq (pe_callB call_len_seq rfl B.len bt_len (pa_cons (pv 4) pa_nil)) pe_int (nomark _)) (pw_and1 (pt_cmpR op_lt (pe_ix ix_list (pv 4) pe_int (fun _ _ => rfl)) (pv 2) (nomark _))))))))) (pss_one (ps_ret (pe_callTy call_tuple_of rfl B.tuple bt_tuple (pa_cons (pe_op op_cat (pe_lst (pa_cons (pe_ix ix_list (pv 3) pe_int (fun _ _ => rfl)) pa_nil)) (pv 4)) pa_nil)))) pss_nil)
    (pss_cons (ps_if (PW.pt (pw_and (pt_cmpR op_eq (pe_ix ix_list (pv 3) pe_int (fun _ _ => rfl)) pe_str (nomark _)) (pw_and (pt_cmpR op_eq (pe_callB call_len_seq rfl B.len bt_len (pa_cons (pv 4) pa_nil)) pe_int (nomark _)) (pw_and1 (pt_cmpR op_lt (pe_callB (call_maxL rfl) rfl B.max bt_max (pa_cons (pv 5) pa_nil)) (pv 1) (nomark _)))))) (pss_one (ps_ret (pe_tup (pa_cons pe_str (pa_cons (pe_ix ix_list (pv 4) pe_int (fun _ _ => rfl)) (pa_cons (pe_ix ix_list (pv 4) pe_int (fun _ _ => rfl)) pa_nil)))))) pss_nil)
    (pss_cons (ps_if (PW.pt (pw_and (pt_cmpR op_eq (pe_ix ix_list (pv 3) pe_int (fun _ _ => rfl)) pe_str (nomark _)) (pw_and (pt_cmpR op_eq (pe_callB call_len_seq rfl B.len bt_len (pa_cons (pv 4) pa_nil)) pe_int (nomark _)) (pw_and1 (pt_cmpR op_lt (pe_callB (call_maxL rfl) rfl B.max bt_max (pa_cons (pv 5) pa_nil)) (pv 1) (nomark _)))))) (pss_one (ps_ret (pe_tup (pa_cons pe_str (pa_cons (pe_ix ix_list (pv 4) pe_int (fun _ _ => rfl)) pa_nil))))) pss_nil)
    (pss_one (ps_ret (pe_tup pa_nil))))))))), ?_⟩
  refine ⟨_, rfl, rfl, t, sBl, rfl, rfl, by decide, by omega, fun pw hpw => ?_⟩
  obtain ⟨w0, ws, hsp⟩ : ∃ w0 ws, Txt.split t sBl = w0 :: ws := by
    cases e : Txt.split t sBl with
    | nil => have := (split_len t sBl).1; rw [e] at this; cases this
    | cons a b => exact ⟨a, b, rfl⟩
  have hasc : ∀ w ∈ ws, Asc 4000 w := fun w hw => ht.split (y := sBl) (by rw [hsp]; exact List.mem_cons_of_mem _ hw)
  have hwl : ws.length ≤ 4001 := by
    have := (split_len t sBl).2
    rw [hsp, List.length_cons] at this
    omega
  rw [hsp]
  have s1 := same_new hpw (.lst ((w0 :: ws).map V.str))
  have e1 : (upd H pw (.lst ((w0 :: ws).map V.str))) pw = some (.lst (V.str w0 :: ws.map V.str)) := upd_same
  generalize upd H pw (.lst ((w0 :: ws).map V.str)) = H1 at s1 e1 ⊢
  refine ⟨_, rfl, _, rfl, pw, _, rfl, SqL.of e1, fun c2 hc2 => ?_⟩
  have s2 := same_new hc2 (.lst (cutV (V.str w0 :: ws.map V.str) (some 1) none))
  have e2 : (upd H1 c2 (.lst (cutV (V.str w0 :: ws.map V.str) (some 1) none))) c2 = some (.lst (ws.map V.str)) := by rw [upd_same, cut1]
  generalize upd H1 c2 (.lst (cutV (V.str w0 :: ws.map V.str) (some 1) none)) = H2 at s2 e2 ⊢
  refine ⟨c2, rfl, ⟨_, SqL.of e2⟩, comp_list (SqL.of e2) ((ws.map numI).map V.int) (by rw [List.length_map, List.length_map, List.length_map]) (by rw [List.length_map]; omega) ?_ ?_⟩
  · intro i H4 x hx s4 _ _ _ _
    rw [List.getElem?_map] at hx
    cases e : ws[i]? with
    | none => rw [e] at hx; cases hx
    | some w' =>
    rw [e] at hx
    cases hx
    refine ⟨_, rfl, w', rfl, hasc w' (List.mem_of_getElem? e), Same.refl _, ?_⟩
    rw [List.getElem?_map, List.getElem?_map, e]
    rfl
  intro dn H3 _ s3 e3
  refine ⟨_, rfl, small (by decide), fun m1 hm1 => ⟨_, rfl, m1, dn, _, _, rfl, rfl, upd_same, (same_new hm1 _) _ _ e3, ?_, fun m2 hm2 => ?_⟩⟩
  · rw [List.length_map, List.length_map]
    show 1 + ws.length ≤ _
    omega
  have s4 := (same_new hm1 (.lst [V.int (-1)])).trans (same_new hm2 (.lst ([V.int (-1)] ++ (ws.map numI).map V.int)))
  have e4 : (upd (upd H3 m1 (.lst [V.int (-1)])) m2 (.lst ([V.int (-1)] ++ (ws.map numI).map V.int))) m2 = some (.lst ((-1 :: ws.map numI).map V.int)) := upd_same
  have S4 := ((s1.trans s2).trans s3).trans s4
  have ew := s4 _ _ (s3 _ _ (s2 _ _ e1))
  have en := s4 _ _ e3
  dsimp only
  generalize upd (upd H3 m1 (.lst [V.int (-1)])) m2 (.lst ([V.int (-1)] ++ (ws.map numI).map V.int)) = H4 at s4 e4 S4 ew en ⊢
  have fin : isLineD p c (lnD (w0, ws.map figVal)) = true → ws.all (figsOk 6) = true → ∀ H' : Hp, Same H H' → ∀ l, H' l = none → Q (.ref l) (upd H' l (.tup (V.str w0 :: tI (ws.map figVal)))) := fun hl hall H' s' l hn => by
    refine q _ _ (s'.trans (same_new hn _)) ?_
    have e : lineOfD p c t = lnD (w0, ws.map figVal) := by unfold lineOfD rdLine; rw [hsp]; dsimp only; rw [if_pos hall]; dsimp only; rw [if_pos hl]
    rw [e]
    exact .tup (nw_new s' hn _) (.cons (.str _) (dts_ints _))
  have ret0 : lineOfD p c t = .tuple [] → ∀ H' : Hp, Same H H' → ∀ l, H' l = none → Q (.ref l) (upd H' l (.tup [])) := fun e H' s' l hn => by
    refine q _ _ (s'.trans (same_new hn _)) ?_
    rw [e]
    exact .tup (nw_new s' hn _) .nil
  refine ⟨_, rfl, _, rfl, dn, _, rfl, .inl (SqL.of en), rfl, flat_ints _, _, rfl, ?_⟩
  show if (inV (V.int (-1)) ((ws.map numI).map V.int)) = true then _ else _
  rw [in_num]
  cases hall : ws.all (figsOk 6) with
  | false =>
    have e : lineOfD p c t = .tuple [] := by unfold lineOfD rdLine; rw [hsp]; dsimp only; rw [if_neg (by rw [hall]; exact Bool.false_ne_true)]
    exact iteT ⟨Nat.zero_le _, fun l hl => ret0 e H4 S4 l hl⟩
  | true =>
  rw [nums_all hall] at en
  have eno : isLineD p c (lnD (w0, ws.map figVal)) = false → lineOfD p c t = .tuple [] := fun h => by
    unfold lineOfD rdLine; rw [hsp]; dsimp only; rw [if_pos hall]; dsimp only; rw [if_neg (by rw [h]; exact Bool.false_ne_true)]
  refine iteF ⟨_, rfl, pw, _, _, _, rfl, rfl, SqL.of ew, atI_nat (j := 0) rfl, small (by decide), fun q4 hq4 => ⟨q4, _, rfl, .inl (SqL.of upd_same), rfl, rfl, _, rfl, ?_⟩⟩
  show if (!inV (V.str w0) [V.str "still", V.str "told", V.str "behind", V.str "back"]) = true then _ else _
  rw [in4]
  have s5 := same_new hq4 (.lst [V.str "still", V.str "told", V.str "behind", V.str "back"])
  have S5 := S4.trans s5
  have ew5 := s5 _ _ ew
  have en5 := s5 _ _ en
  have em5 := s5 _ _ e4
  dsimp only
  generalize upd H4 q4 (.lst [V.str "still", V.str "told", V.str "behind", V.str "back"]) = H5 at s5 S5 ew5 en5 em5 ⊢
  have hli := lineD_is p c w0 (ws.map figVal)
  cases hn : nL w0 with
  | none => exact iteT ⟨Nat.zero_le _, fun l hl => ret0 (eno (by rw [hli, hn]; rfl)) H5 S5 l hl⟩
  | some k =>
  refine iteF ?_
  have maxs : -1 :: ws.map numI = -1 :: (ws.map figVal).map fun (n : Nat) => (n : Int) := by
    congr 1
    rw [List.map_map]
    refine List.map_congr_left fun w hw => ?_
    unfold numI
    rw [if_pos (List.all_eq_true.mp hall w hw)]
    rfl
  rw [maxs] at em5
  generalize ws.map figVal = ms at fin eno en5 hli em5
  rcases nL_cases hn with ⟨rfl, rfl⟩ | ⟨rfl, rfl⟩ | ⟨rfl, rfl⟩ | ⟨rfl, rfl⟩
  · refine ⟨_, rfl, pw, _, _, _, rfl, rfl, SqL.of ew5, atI_nat (j := 0) rfl, rfl, _, rfl, ?_⟩
    rw [w_yes]
    refine iteT ⟨_, rfl, Nat.zero_le _, fun e6 he6 => ?_⟩
    have s6 := same_new he6 (.lst [])
    have S6 := S5.trans s6
    have ew6 := s6 _ _ ew5
    have en6 := s6 _ _ en5
    have ee : (upd H5 e6 (.lst [])) e6 = some (.lst []) := upd_same
    dsimp only
    generalize upd H5 e6 (.lst []) = H6 at s6 S6 ew6 en6 ee ⊢
    refine ⟨_, _, .lst en6 (dts_ints ms), .lst ee .nil, shaped_nats ms, by decide +kernel, _, rfl, ?_⟩
    rw [eqv_nats_nil]
    by_cases hm : ms = []
    · rw [decide_eq_true hm]
      refine iteT (iteT ?_)
      exact ⟨_, rfl, pw, _, _, _, rfl, rfl, SqL.of ew6, atI_nat (j := 0) rfl, small (by decide), fun a1 h1 => ⟨_, rfl, a1, dn, _, _, rfl, rfl, upd_same, (same_new h1 _) _ _ en6, (by rw [tI_length, hm]; exact small (show 1 + 0 ≤ 1000 by decide)), fun a2 h2 => ⟨a2, _, rfl, .inl ⟨SqL.of upd_same, fun l hl => fin (by rw [hli, hm]; show (decide (nL "still" = some 0) && true) = true; rw [Bool.and_true]; decide +kernel) hall _ ((S6.trans (same_new h1 _)).trans (same_new h2 _)) l hl⟩⟩⟩⟩
    · rw [decide_eq_false hm]
      have hb : isLineD p c (lnD ("still", ms)) = false := by
        rw [hli, decide_eq_false (fun z => hm (List.eq_nil_of_length_eq_zero (Option.some.inj ((show nL "still" = some 0 by decide +kernel).symm.trans z)).symm)), Bool.false_and]
      refine iteF ?_
      refine ⟨_, rfl, pw, _, _, _, rfl, rfl, SqL.of ew6, atI_nat (j := 0) rfl, rfl, _, rfl, ?_⟩
      rw [w_no (by decide)]
      refine iteF (iteF ?_)
      refine ⟨_, rfl, pw, _, _, _, rfl, rfl, SqL.of ew6, atI_nat (j := 0) rfl, rfl, _, rfl, ?_⟩
      rw [w_no (by decide)]
      refine iteF (iteF ?_)
      refine ⟨_, rfl, pw, _, _, _, rfl, rfl, SqL.of ew6, atI_nat (j := 0) rfl, rfl, _, rfl, ?_⟩
      rw [w_no (by decide)]
      refine iteF (iteF ?_)
      exact ⟨Nat.zero_le _, fun l hl => ret0 (eno (hb)) H6 S6 l hl⟩
  · refine ⟨_, rfl, pw, _, _, _, rfl, rfl, SqL.of ew5, atI_nat (j := 0) rfl, rfl, _, rfl, ?_⟩
    rw [w_no (by decide)]
    refine iteF (iteF ?_)
    refine ⟨_, rfl, pw, _, _, _, rfl, rfl, SqL.of ew5, atI_nat (j := 0) rfl, rfl, _, rfl, ?_⟩
    rw [w_yes]
    refine iteT ⟨_, rfl, dn, _, rfl, .inl (SqL.of en5), rfl, _, rfl, ?_⟩
    show if decide (V.int (((tI ms).length : Nat) : Int) = V.int ((1 : Nat) : Int)) = true then _ else _
    rw [len_dec]
    by_cases hm : ms.length = 1
    · rw [decide_eq_true hm]
      obtain ⟨m, rfl⟩ : ∃ m, ms = [m] := by
        match ms, hm with
        | [m], _ => exact ⟨m, rfl⟩
      refine iteT ⟨_, rfl, dn, _, _, _, rfl, rfl, SqL.of en5, atI_nat (j := 0) rfl, _, rfl, _, _, rfl, rfl, _, rfl, ?_⟩
      have hv : isLineD p c (lnD ("told", [m])) = decide ((m : Int) < c) := by
        rw [hli, decide_eq_true (show nL "told" = some [m].length by show nL "told" = some 1; decide +kernel), Bool.true_and]
        show (decide ((m : Int) < bdD "told" p c) && true) = _
        rw [Bool.and_true]
        rfl
      show if decide ((m : Int) < c) = true then _ else _
      cases hd : decide ((m : Int) < c) with
      | true =>
        refine iteT ?_
        exact ⟨_, rfl, pw, _, _, _, rfl, rfl, SqL.of ew5, atI_nat (j := 0) rfl, small (by decide), fun a1 h1 => ⟨_, rfl, a1, dn, _, _, rfl, rfl, upd_same, (same_new h1 _) _ _ en5, (by rw [tI_length]; exact small (show 1 + 1 ≤ 1000 by decide)), fun a2 h2 => ⟨a2, _, rfl, .inl ⟨SqL.of upd_same, fun l hl => fin (hv.trans hd) hall _ ((S5.trans (same_new h1 _)).trans (same_new h2 _)) l hl⟩⟩⟩⟩
      | false =>
        refine iteF ?_
        refine ⟨_, rfl, pw, _, _, _, rfl, rfl, SqL.of ew5, atI_nat (j := 0) rfl, rfl, _, rfl, ?_⟩
        rw [w_no (by decide)]
        refine iteF (iteF ?_)
        refine ⟨_, rfl, pw, _, _, _, rfl, rfl, SqL.of ew5, atI_nat (j := 0) rfl, rfl, _, rfl, ?_⟩
        rw [w_no (by decide)]
        refine iteF (iteF ?_)
        exact ⟨Nat.zero_le _, fun l hl => ret0 (eno (hv.trans hd)) H5 S5 l hl⟩
    · rw [decide_eq_false hm]
      have hb : isLineD p c (lnD ("told", ms)) = false := by
        rw [hli, decide_eq_false (fun z => hm (Option.some.inj ((show nL "told" = some 1 by decide +kernel).symm.trans z)).symm), Bool.false_and]
      refine iteF (iteF ?_)
      refine ⟨_, rfl, pw, _, _, _, rfl, rfl, SqL.of ew5, atI_nat (j := 0) rfl, rfl, _, rfl, ?_⟩
      rw [w_no (by decide)]
      refine iteF (iteF ?_)
      refine ⟨_, rfl, pw, _, _, _, rfl, rfl, SqL.of ew5, atI_nat (j := 0) rfl, rfl, _, rfl, ?_⟩
      rw [w_no (by decide)]
      refine iteF (iteF ?_)
      exact ⟨Nat.zero_le _, fun l hl => ret0 (eno (hb)) H5 S5 l hl⟩
  · refine ⟨_, rfl, pw, _, _, _, rfl, rfl, SqL.of ew5, atI_nat (j := 0) rfl, rfl, _, rfl, ?_⟩
    rw [w_no (by decide)]
    refine iteF (iteF ?_)
    refine ⟨_, rfl, pw, _, _, _, rfl, rfl, SqL.of ew5, atI_nat (j := 0) rfl, rfl, _, rfl, ?_⟩
    rw [w_no (by decide)]
    refine iteF (iteF ?_)
    refine ⟨_, rfl, pw, _, _, _, rfl, rfl, SqL.of ew5, atI_nat (j := 0) rfl, rfl, _, rfl, ?_⟩
    rw [w_yes]
    refine iteT ⟨_, rfl, dn, _, rfl, .inl (SqL.of en5), rfl, _, rfl, ?_⟩
    show if decide (V.int (((tI ms).length : Nat) : Int) = V.int ((2 : Nat) : Int)) = true then _ else _
    rw [len_dec]
    by_cases hm : ms.length = 2
    · rw [decide_eq_true hm]
      obtain ⟨m, m', rfl⟩ : ∃ m m', ms = [m, m'] := by
        match ms, hm with
        | [m, m'], _ => exact ⟨m, m', rfl⟩
      refine iteT ⟨_, rfl, _, _, rfl, SqL.of em5, by show 0 < 3; decide, fun M hM1 hM2 => ⟨_, rfl, _, _, rfl, rfl, _, rfl, ?_⟩⟩
      have i1 := hM2 (m : Int) (by simp)
      have i2 := hM2 (m' : Int) (by simp)
      have hMv : decide (M < p) = (decide ((m : Int) < p) && (decide ((m' : Int) < p) && true)) := by
        rw [Bool.and_true, ← Bool.decide_and, decide_eq_decide]
        have hM : M = -1 ∨ M = (m : Int) ∨ M = (m' : Int) := by simpa using hM1
        omega
      have hv : isLineD p c (lnD ("behind", [m, m'])) = decide (M < p) := by
        rw [hli, decide_eq_true (show nL "behind" = some [m, m'].length by show nL "behind" = some 2; decide +kernel), Bool.true_and, hMv]
        rfl
      show if decide (M < p) = true then _ else _
      cases hd : decide (M < p) with
      | true =>
        refine iteT ⟨_, rfl, dn, _, _, _, rfl, rfl, SqL.of en5, atI_nat (j := 0) rfl, _, rfl, dn, _, _, _, rfl, rfl, SqL.of en5, atI_nat (j := 1) rfl, small (show 3 ≤ 1000 by decide), fun l hl => ?_⟩
        exact fin (hv.trans hd) hall H5 S5 l hl
      | false =>
        refine iteF ?_
        refine ⟨_, rfl, pw, _, _, _, rfl, rfl, SqL.of ew5, atI_nat (j := 0) rfl, rfl, _, rfl, ?_⟩
        rw [w_no (by decide)]
        refine iteF (iteF ?_)
        exact ⟨Nat.zero_le _, fun l hl => ret0 (eno (hv.trans hd)) H5 S5 l hl⟩
    · rw [decide_eq_false hm]
      have hb : isLineD p c (lnD ("behind", ms)) = false := by
        rw [hli, decide_eq_false (fun z => hm (Option.some.inj ((show nL "behind" = some 2 by decide +kernel).symm.trans z)).symm), Bool.false_and]
      refine iteF (iteF ?_)
      refine ⟨_, rfl, pw, _, _, _, rfl, rfl, SqL.of ew5, atI_nat (j := 0) rfl, rfl, _, rfl, ?_⟩
      rw [w_no (by decide)]
      refine iteF (iteF ?_)
      exact ⟨Nat.zero_le _, fun l hl => ret0 (eno (hb)) H5 S5 l hl⟩
  · refine ⟨_, rfl, pw, _, _, _, rfl, rfl, SqL.of ew5, atI_nat (j := 0) rfl, rfl, _, rfl, ?_⟩
    rw [w_no (by decide)]
    refine iteF (iteF ?_)
    refine ⟨_, rfl, pw, _, _, _, rfl, rfl, SqL.of ew5, atI_nat (j := 0) rfl, rfl, _, rfl, ?_⟩
    rw [w_no (by decide)]
    refine iteF (iteF ?_)
    refine ⟨_, rfl, pw, _, _, _, rfl, rfl, SqL.of ew5, atI_nat (j := 0) rfl, rfl, _, rfl, ?_⟩
    rw [w_no (by decide)]
    refine iteF (iteF ?_)
    refine ⟨_, rfl, pw, _, _, _, rfl, rfl, SqL.of ew5, atI_nat (j := 0) rfl, rfl, _, rfl, ?_⟩
    rw [w_yes]
    refine iteT ⟨_, rfl, dn, _, rfl, .inl (SqL.of en5), rfl, _, rfl, ?_⟩
    show if decide (V.int (((tI ms).length : Nat) : Int) = V.int ((1 : Nat) : Int)) = true then _ else _
    rw [len_dec]
    by_cases hm : ms.length = 1
    · rw [decide_eq_true hm]
      obtain ⟨m, rfl⟩ : ∃ m, ms = [m] := by
        match ms, hm with
        | [m], _ => exact ⟨m, rfl⟩
      refine iteT ⟨_, rfl, _, _, rfl, SqL.of em5, by show 0 < 2; decide, fun M hM1 hM2 => ⟨_, rfl, _, _, rfl, rfl, _, rfl, ?_⟩⟩
      have i1 := hM2 (m : Int) (by simp)
      have hMv : decide (M < p) = (decide ((m : Int) < p) && true) := by
        rw [Bool.and_true, decide_eq_decide]
        have hM : M = -1 ∨ M = (m : Int) := by simpa using hM1
        omega
      have hv : isLineD p c (lnD ("back", [m])) = decide (M < p) := by
        rw [hli, decide_eq_true (show nL "back" = some [m].length by show nL "back" = some 1; decide +kernel), Bool.true_and, hMv]
        rfl
      show if decide (M < p) = true then _ else _
      cases hd : decide (M < p) with
      | true =>
        refine iteT ⟨_, rfl, dn, _, _, _, rfl, rfl, SqL.of en5, atI_nat (j := 0) rfl, small (show 2 ≤ 1000 by decide), fun l hl => ?_⟩
        exact fin (hv.trans hd) hall H5 S5 l hl
      | false =>
        refine iteF ?_
        exact ⟨Nat.zero_le _, fun l hl => ret0 (eno (hv.trans hd)) H5 S5 l hl⟩
    · rw [decide_eq_false hm]
      have hb : isLineD p c (lnD ("back", ms)) = false := by
        rw [hli, decide_eq_false (fun z => hm (Option.some.inj ((show nL "back" = some 1 by decide +kernel).symm.trans z)).symm), Bool.false_and]
      refine iteF (iteF ?_)
      exact ⟨Nat.zero_le _, fun l hl => ret0 (eno (hb)) H5 S5 l hl⟩

/-! ### _law_recipe_of -/
def lofs (c : Int) : Nat → List Str → List PyData
  | _, [] => []
  | i, p :: r => lineOfD (i : Int) c p :: lofs c (i + 1) r
def isNo (d : PyData) : Bool := PyData.eqv d (.tuple [])
def recOfD (c : Int) (t : Str) : List PyData := if (lofs c 0 (Txt.split t sSc)).any isNo = true then [] else lofs c 0 (Txt.split t sSc)
theorem lofs_len (c : Int) : ∀ (ps : List Str) (i : Nat), (lofs c i ps).length = ps.length
  | [], _ => rfl
  | _ :: r, i => congrArg (· + 1) (lofs_len c r (i + 1))
theorem lofs_get (c : Int) : ∀ (ps : List Str) (i j : Nat) (p : Str), ps[j]? = some p → (lofs c i ps)[j]? = some (lineOfD ((i + j : Nat) : Int) c p)
  | [], _, j, p, h => by cases j <;> cases h
  | a :: r, i, 0, p, h => by cases h; rfl
  | a :: r, i, j + 1, p, h => by
    have := lofs_get c r (i + 1) j p (by simpa using h)
    rw [lofs, List.getElem?_cons_succ, this, show i + 1 + j = i + (j + 1) by omega]
theorem isNo_nil : isNo (.tuple []) = true := by unfold isNo; simp [PyData.eqv, PyData.eqvAll]
theorem lofs_any (c : Int) : ∀ (ps : List Str) (i : Nat), (lofs c i ps).any isNo = !((ps.all fun p => (rdLine p).isSome) && (recL c i ((ps.filterMap rdLine).map lnD)).all id) ∧
    ((lofs c i ps).any isNo = false → lofs c i ps = (ps.filterMap rdLine).map lnD)
  | [], _ => ⟨rfl, fun _ => rfl⟩
  | p :: r, i => by
    obtain ⟨h1, h2⟩ := lofs_any c r (i + 1)
    cases hl : rdLine p with
    | none =>
      have e : lineOfD (i : Int) c p = .tuple [] := by unfold lineOfD; rw [hl]
      rw [lofs, e, List.any_cons, isNo_nil, List.all_cons, hl]
      exact ⟨rfl, fun z => by cases z⟩
    | some l =>
      rw [List.filterMap_cons, hl, List.all_cons, hl]
      show (isNo (lineOfD (i : Int) c p) || (lofs c (i + 1) r).any isNo) = !((true && _) && (isLineD (i : Int) c (lnD l) && (recL c (i + 1) ((r.filterMap rdLine).map lnD)).all id)) ∧ ((isNo (lineOfD (i : Int) c p) || (lofs c (i + 1) r).any isNo) = false → lineOfD (i : Int) c p :: lofs c (i + 1) r = lnD l :: (r.filterMap rdLine).map lnD)
      cases hv : isLineD (i : Int) c (lnD l) with
      | true =>
        have e : lineOfD (i : Int) c p = lnD l := by unfold lineOfD; rw [hl]; dsimp only; rw [if_pos hv]
        rw [e, show isNo (lnD l) = false from eqv_nil_cons l, Bool.false_or, h1, Bool.true_and, Bool.true_and]
        exact ⟨rfl, fun z => by rw [h2 (h1.trans z)]⟩
      | false =>
        have e : lineOfD (i : Int) c p = .tuple [] := by unfold lineOfD; rw [hl]; dsimp only; rw [if_neg (by rw [hv]; exact Bool.false_ne_true)]
        rw [e, isNo_nil, Bool.false_and, Bool.and_false]
        exact ⟨rfl, fun z => by cases z⟩
theorem recOfD_eq (c : Int) (t : Str) : recOfD c t = (rdRec c t).getD [] := by
  obtain ⟨h1, h2⟩ := lofs_any c (Txt.split t sSc) 0
  have hne : (Txt.split t sSc) ≠ [] := fun z => by
    have := (split_len t sSc).1
    rw [z] at this
    cases this
  unfold recOfD rdRec rdLines
  cases hall : (Txt.split t sSc).all (fun p => (rdLine p).isSome) with
  | false =>
    rw [hall] at h1
    rw [if_pos (by rw [h1]; rfl), if_neg Bool.false_ne_true]
    rfl
  | true =>
    rw [hall, Bool.true_and] at h1
    rw [if_pos rfl]
    dsimp only
    have hl : ((Txt.split t sSc).filterMap rdLine).map lnD ≠ [] := fun z => by
      have := congrArg List.length z
      rw [List.length_map, fm_len (fun x hx => List.all_eq_true.mp hall x hx)] at this
      exact hne (List.eq_nil_of_length_eq_zero this)
    have er : isRecD c (.list (((Txt.split t sSc).filterMap rdLine).map lnD)) = (recL c 0 (((Txt.split t sSc).filterMap rdLine).map lnD)).all id := by
      show (!(((Txt.split t sSc).filterMap rdLine).map lnD).isEmpty && _) = _
      rw [show (((Txt.split t sSc).filterMap rdLine).map lnD).isEmpty = false from by rw [List.isEmpty_eq_false_iff]; exact hl]
      rfl
    rw [er]
    cases hr : (recL c 0 (((Txt.split t sSc).filterMap rdLine).map lnD)).all id with
    | false =>
      rw [hr] at h1
      rw [if_pos (by rw [h1]; rfl), if_neg Bool.false_ne_true]
      rfl
    | true =>
      rw [hr] at h1
      rw [if_neg (by rw [h1]; exact Bool.false_ne_true), if_pos rfl, h2 h1]
      rfl
theorem lay_lofs {n : Nat} (c : Int) : ∀ (ps : List Str) (i : Nat), (∀ p ∈ ps, Asc n p) → PyData.canLayAll0 (lofs c i ps) = true ∧ PyData.depthAll (lofs c i ps) ≤ 1
  | [], _, _ => ⟨by simp [lofs, PyData.canLayAll0], by simp [lofs, PyData.depthAll]⟩
  | p :: r, i, h => by
    obtain ⟨h1, h2⟩ := lay_lofs (n := n) c r (i + 1) fun x hx => h x (List.mem_cons_of_mem _ hx)
    have key : PyData.canLay0 (lineOfD (i : Int) c p) = true ∧ PyData.depth (lineOfD (i : Int) c p) ≤ 1 := by
      have nil : PyData.canLay0 (.tuple []) = true ∧ PyData.depth (.tuple []) ≤ 1 := ⟨by simp [PyData.canLay0, PyData.canLayAll0], by simp [PyData.depth, PyData.depthAll]⟩
      unfold lineOfD
      cases hl : rdLine p with
      | none => exact nil
      | some l =>
        dsimp only
        by_cases hv : isLineD (i : Int) c (lnD l) = true
        · rw [if_pos hv]
          have ha : Asc n l.1 := by
            unfold rdLine at hl
            cases hs : Txt.split p sBl with
            | nil => rw [hs] at hl; cases hl
            | cons w0 ws =>
              rw [hs] at hl
              dsimp only at hl
              split at hl
              · cases hl
                exact (h p List.mem_cons_self).split (y := sBl) (by rw [hs]; exact List.mem_cons_self)
              · cases hl
          obtain ⟨g1, g2⟩ := lay_nats l.2
          refine ⟨?_, ?_⟩
          · simp only [lnD, PyData.canLay0, PyData.canLayAll0, strOk_asc ha, g1]
            rfl
          · simp only [lnD, PyData.depth, PyData.depthAll, g2]
            omega
        · rw [if_neg hv]
          exact nil
    refine ⟨?_, ?_⟩
    · simp only [lofs, PyData.canLayAll0, key.1, h1]
      rfl
    · simp only [lofs, PyData.depthAll]
      have := key.2
      omega
theorem shaped_lofs {n : Nat} {c : Int} {ps : List Str} {i : Nat} (h : ∀ p ∈ ps, Asc n p) : PySem.SeqAt.shaped (.list (lofs c i ps)) = true := by
  obtain ⟨h1, h2⟩ := lay_lofs c ps i h
  unfold PySem.SeqAt.shaped
  rw [Bool.and_eq_true]
  refine ⟨by simp only [PyData.canLay0]; exact h1, decide_eq_true ?_⟩
  simp only [PyData.depth]
  omega
def spRecOf : Sp := fun vs H Q _ => ∃ (t : Str) (c : Int), vs = [.str t, .int c] ∧ Asc 980 t ∧ ∀ (v : V) (H' : Hp), Same H H' → Dt H' v (.list (recOfD c t)) → Q v H'
theorem sc__law_recipe_of : FnScope ["_law_text", "_law_count", "_law_lines_here", "_law_part"] ["_law_text", "_law_count"] (defScope s__law_recipe_of) := ⟨rfl, rfl, rfl, by decide +kernel, rfl, by decide +kernel, by decide +kernel⟩
theorem ok__law_recipe_of (D : Def K mg "_law_recipe_of" s__law_recipe_of ["_law_text", "_law_count"] f fd) (B : Blt mg) (KL : Known P w K mg base 2 "_law_line_of" ["_law_text", "_law_at", "_law_count"] spLineOf) : FnOk P w K mg base CX0 3 f fd ["_law_text", "_law_count"] spRecOf := by
  refine D.F.ok sc__law_recipe_of (fun vs H Q E h => ?_) (fun cdv A outer s H vs Q E hr h => ?_)
  · obtain ⟨t, c, rfl, _⟩ := h
    rfl
  obtain ⟨t, c, rfl, ht, q⟩ := h
  have hz := sizeLine_big
  have ht1 := ht.1
  have hu : (A.deeper (PyProof.Rows.envOfC "_law_recipe_of" (defScope s__law_recipe_of) s.heap.objs.size f cdv)).units + 65 < cLine := by have := hr.un; omega
  refine ⟨_, pss_cons (ps_set (i := 2) sc__law_recipe_of.nd rfl (Or.inl rfl) (pe_lst pa_nil))
    (pss_cons (ps_for PassesOwn.never rfl (pi_list (pe_bm PySem.F.plainAttrs_str PySem.F.slot_str_split PySem.F.type_str_split mt_split (pv 0) (pa_cons pe_str pa_nil))) (pg_name (i := 3) sc__law_recipe_of.nd rfl (Or.inl rfl))
      (pss_one (ps_expr (pe_bm PySem.F.plainAttrs_list PySem.F.slot_list_append PySem.F.type_list_append mt_append (pv 2) (pa_cons (pe_kn KL hr rfl (pa_cons (pv 3) (pa_cons (pe_callB call_len_seq rfl B.len bt_len (pa_cons (pv 2) pa_nil)) (pa_cons (pv 1) pa_nil)))) pa_nil)))))
    (pss_cons (ps_if (pt_cmpR (op_inDt hu) (pe_tup pa_nil) (pv 2) rfl) (pss_one (ps_ret (pe_lst pa_nil))) pss_nil)
    (pss_one (ps_ret (pv 2))))), ?_⟩
  refine ⟨Nat.zero_le _, fun r hr0 => ?_⟩
  have s1 := same_new hr0 (.lst [])
  have e1 : (upd H r (.lst [])) r = some (.lst []) := upd_same
  generalize upd H r (.lst []) = H1 at s1 e1 ⊢
  refine ⟨_, rfl, rfl, t, sSc, rfl, rfl, by decide, by omega, fun p hp => ?_⟩
  have s2 := same_new hp (.lst ((Txt.split t sSc).map V.str))
  have e2 : (upd H1 p (.lst ((Txt.split t sSc).map V.str))) p = some (.lst ((Txt.split t sSc).map V.str)) := upd_same
  have er2 := s2 _ _ e1
  have hpn : H p = none := s1.free hp
  have hpr : p ≠ r := Ne.symm (ne_of_none e1 hp)
  generalize upd H1 p (.lst ((Txt.split t sSc).map V.str)) = H2 at s2 e2 er2 ⊢
  have hps := split_len t sSc
  have hasc : ∀ w ∈ Txt.split t sSc, Asc 4000 w := fun w hw => (ht.split hw).mono (by decide)
  refine ⟨p, rfl, ⟨_, SqL.of e2⟩, for_list (xs := (Txt.split t sSc).map V.str) (fun i σ H' => ∃ (v : Option V) (xs : List V), σ = [some (.str t), some (.int c), some (.ref r), v] ∧ Same H H' ∧ H' p = some (.lst ((Txt.split t sSc).map V.str)) ∧ H' r = some (.lst xs) ∧ Dts (rm H' r) xs ((lofs c 0 (Txt.split t sSc)).take i)) ⟨none, [], rfl, s1.trans s2, e2, er2, .nil⟩ (fun i σ H' _ ⟨_, _, _, _, e, _⟩ => SqL.of e) ?_ ?_⟩
  · rintro i x σ H3 hx ⟨v, xs, rfl, s3, ep3, er3, d3⟩
    rw [List.getElem?_map] at hx
    cases e : (Txt.split t sSc)[i]? with
    | none => rw [e] at hx; cases hx
    | some w =>
    rw [e] at hx
    cases hx
    have hil : i < (Txt.split t sSc).length := (List.getElem?_eq_some_iff.mp e).1
    have hxl : xs.length = i := by
      rw [d3.length, List.length_take, lofs_len]
      omega
    refine ⟨_, rfl, .inl ⟨rfl, _, SqL.of er3⟩, _, rfl, _, rfl, r, xs, rfl, .inl (SqL.of er3), _, rfl, w, ((xs.length : Nat) : Int), c, rfl, hasc w (List.mem_of_getElem? e), by omega, fun y H4 s4 hy => ?_⟩
    have er4 := s4 _ _ er3
    refine ⟨r, xs, y, rfl, rfl, er4, small1000 (by omega), ?_⟩
    have off : nw H3 H4 r = none := by
      cases e : nw H3 H4 r with
      | none => rfl
      | some o => rw [(nw_off e).1] at er3; cases er3
    have s5 : Same (rm H3 r) (rm H4 r) := same_rm (rm_same.trans s4) rm_at
    have s6 : Same (rm H4 r) (rm (upd H4 r (.lst (xs ++ [y]))) r) := same_rm rm_upd rm_at
    refine ⟨_, _, rfl, same_upd (s3.trans s4) hr0 _, by rw [upd_ne hpr]; exact s4 _ _ ep3, upd_same, ?_⟩
    have hd := lofs_get c (Txt.split t sSc) 0 i w e
    rw [Nat.zero_add] at hd
    rw [List.take_add_one, hd]
    rw [hxl] at hy
    exact Dts.append (d3.same (s5.trans s6)) (.cons (hy.same ((same_rm nw_same off).trans s6)) .nil)
  · rintro σ H3 ⟨v, xs, rfl, s3, ep3, er3, d3⟩
    rw [List.length_map, ← lofs_len c _ 0, List.take_length] at d3
    refine ⟨Nat.zero_le _, fun tp htp => ?_⟩
    have s4 := same_new htp (.tup [])
    have e4 : (upd H3 tp (.tup [])) tp = some (.tup []) := upd_same
    have er4 := s4 _ _ er3
    have d4 := (d3.same rm_same).same s4
    dsimp only
    generalize upd H3 tp (.tup []) = H4 at s4 e4 er4 d4 ⊢
    refine ⟨_, rfl, r, xs, _, .tuple [], rfl, er4, d4, .tup e4 .nil, shaped_lofs hasc, by decide +kernel, _, rfl, ?_⟩
    have hany : ((lofs c 0 (Txt.split t sSc)).any fun e => PyData.eqv e (.tuple [])) = (lofs c 0 (Txt.split t sSc)).any isNo := rfl
    rw [hany]
    cases ha : (lofs c 0 (Txt.split t sSc)).any isNo with
    | true =>
      refine iteT ⟨Nat.zero_le _, fun l hl => q _ _ ((s3.trans s4).trans (same_new hl _)) ?_⟩
      unfold recOfD
      rw [if_pos ha]
      exact .lst upd_same .nil
    | false =>
      refine iteF ⟨_, rfl, q _ _ (s3.trans s4) ?_⟩
      unfold recOfD
      rw [if_neg (by rw [ha]; exact Bool.false_ne_true)]
      exact .lst er4 d4

/-! ### _law_sign -/
def spSign : Sp := fun vs H Q _ => ∃ c : Int, vs = [.int c] ∧ ∀ z : Str, Asc 1 z → Q (.str z) H
theorem sc__law_sign : FnScope ["_law_cell", "_law_some"] ["_law_cell"] (defScope s__law_sign) := ⟨rfl, rfl, rfl, by decide +kernel, rfl, by decide +kernel, by decide +kernel⟩
theorem sign_at {z : Str} {k : Nat} {i : Int} (hl : z.length = k) (hk : 0 < k) (ha : (z.cps.toList.all fun c => decide (c < 128)) = true) : ∃ c, atI z.cps.toList (i % (k : Int)) = some c ∧ Asc 1 ⟨#[c]⟩ := by
  obtain ⟨m, em, hm⟩ := mod_at (z := i) hk
  have hm' : m < z.cps.toList.length := by rw [len_cps, hl]; exact hm
  refine ⟨z.cps.toList[m], ?_, Nat.le_refl _, fun c hc => ?_⟩
  · rw [em]; exact atI_nat (List.getElem?_eq_getElem hm')
  · rw [List.mem_singleton.mp (show c ∈ [z.cps.toList[m]] from hc)]
    exact of_decide_eq_true (List.all_eq_true.mp ha _ (List.getElem_mem hm'))
theorem ok__law_sign (D : Def K mg "_law_sign" s__law_sign ["_law_cell"] f fd) (B : Blt mg) : FnOk P w K mg base CX0 1 f fd ["_law_cell"] spSign := by
  refine D.F.ok sc__law_sign (fun vs H Q E h => ?_) (fun cdv A outer s H vs Q E hr h => ?_)
  · obtain ⟨c, rfl, _⟩ := h
    rfl
  obtain ⟨c, rfl, q⟩ := h
  have hz := sizeLine_big
  refine ⟨_, pss_cons (ps_set (i := 1) sc__law_sign.nd rfl (Or.inl rfl) pe_str)
    (pss_cons (ps_set (i := 1) sc__law_sign.nd rfl (Or.inl rfl) (pe_op op_add_str (pv 1) pe_str))
    (pss_cons (ps_if (pt_cmpR op_eq (pe_op op_mod (pv 0) pe_int) pe_int (nomark _)) (pss_one (ps_ret (pe_ix ix_str pe_str (pe_op op_mod (pe_op op_fdiv (pv 0) pe_int) pe_int) (fun _ _ => rfl)))) pss_nil)
    (pss_one (ps_ret (pe_ix ix_str (pv 1) (pe_op op_mod (pe_op op_fdiv (pv 0) pe_int) pe_int) (fun _ _ => rfl)))))), ?_⟩
  refine ⟨_, rfl, _, _, rfl, rfl, Nat.le_trans (by decide +kernel) (Nat.le_of_lt (small1000 (show 100 ≤ 1000 by decide))), ?_⟩
  refine ⟨_, rfl, _, _, rfl, rfl, (by show (0 : Int) < 3; decide), rfl, _, rfl, ?_⟩
  refine ite2 (fun _ => ?_) (fun _ => ?_)
  · obtain ⟨x, hx, ax⟩ := sign_at (z := "0123456789; kt") (k := 14) (i := c / 3) (by decide +kernel) (by decide) (by decide +kernel)
    exact ⟨_, rfl, _, _, rfl, rfl, ⟨by decide, by decide⟩, _, _, rfl, rfl, (by show (0 : Int) < 14; decide), _, _, x, rfl, rfl, Nat.le_trans (by decide +kernel) (Nat.le_of_lt (small1000 (show 100 ≤ 1000 by decide))), hx, q _ ax⟩
  · refine ⟨_, rfl, _, rfl, _, _, rfl, rfl, ⟨by decide, by decide⟩, _, _, rfl, rfl, (by show (0 : Int) < 96; decide), ?_⟩
    obtain ⟨x, hx, ax⟩ := sign_at (z := (" !\"#$&'()*+,-./0123456789:;<=>?@ABCDEFGHIJKLMNOPQRSTUVWXYZ[\\]^_`" : Str) ++ ("abcdefghijklmnopqrstuvwxyz{|}~\n\t" : Str)) (k := 96) (i := c / 3) (by decide +kernel) (by decide) (by decide +kernel)
    exact ⟨_, _, x, rfl, rfl, Nat.le_trans (by decide +kernel) (Nat.le_of_lt (small1000 (show 100 ≤ 1000 by decide))), hx, q _ ax⟩

/-! ### _law_other -/
def od0 : List PyData := [.str "", .str " ", .str ";", .str "; ", .str "still;", .str "still; ", .str "; still", .str "still ;still", .str "still;still", .str "still; still"]
def od1 : List PyData := [.str "Still", .str "told", .str "told ", .str "told  0", .str "told 00", .str "told -1", .str "told +0", .str "told 0 ", .str " told 0"]
def od2 : List PyData := [.str "told 0 0", .str "told0", .str "still 0", .str "back 0", .str "still; back 1", .str "still; behind 0", .str "still; back -0"]
def od3 : List PyData := [.str "still; behind 0 0 0", .str "still; back 00", .str "still; behind 0  0", .str "told 0.", .str "told 0000000"]
def od4 : List PyData := [.str "still; still; behind 01 0"]
def ascB : PyData → Bool
  | .str z => decide (z.length ≤ 600) && z.cps.toList.all fun c => decide (c < 128)
  | _ => false
theorem ascB_of {d : PyData} (h : ascB d = true) : ∃ z, d = .str z ∧ Asc 600 z := by
  cases d with
  | str z =>
    have h' : (decide (z.length ≤ 600) && z.cps.toList.all fun c => decide (c < 128)) = true := h
    rw [Bool.and_eq_true] at h'
    exact ⟨z, rfl, of_decide_eq_true h'.1, fun c hc => of_decide_eq_true (List.all_eq_true.mp h'.2 c hc)⟩
  | _ => cases h
theorem od_all : (((((od0 ++ od1) ++ od2) ++ od3) ++ od4).all ascB) = true := by decide +kernel
def spOther26 : Sp := fun vs H Q _ => ∃ (t : Str) (c : Int), vs = [.str t, .int c] ∧ Asc 483 t ∧ ∀ (z : Str) (H' : Hp), Same H H' → Asc 980 z → Q (.str z) H'
theorem sc__law_other : FnScope ["_law_text", "_law_cell", "_law_at", "_law_sign_here", "_law_way", "_law_some"] ["_law_text", "_law_cell"] (defScope s__law_other) := ⟨rfl, rfl, rfl, by decide +kernel, rfl, by decide +kernel, by decide +kernel⟩
theorem len_ok {ds : List PyData} (h : Nat.ble ds.length 1000 = true := by rfl) : ds.length ≤ sizeLine := small (Nat.le_of_ble_eq_true h)
def rCatR (K : PySem.W.Frag) : R2 := fun x y H Q => ∃ (l b : Addr) (xs zs : List V), x = .ref l ∧ y = .ref b ∧ SqL K H l xs ∧ SqL K H b zs ∧ xs.length + zs.length ≤ sizeLine ∧ ∀ p, H p = none → Q (.ref p) (upd H p (.lst (xs ++ zs)))
theorem op_catR2 {X : Cx} : OpR X (binaryOp .Add) (rCatR X.K) := op_catR
def CTrue : St → Hp → Prop := fun _ _ => True
theorem hCTrue : Stays CTrue := fun _ _ _ _ _ => trivial
theorem ok__law_other (D : Def K mg "_law_other" s__law_other ["_law_text", "_law_cell"] f fd) (B : Blt mg) (KS : Known P w K mg base 1 "_law_sign" ["_law_cell"] spSign) : FnOk P w K mg base CX0 2 f fd ["_law_text", "_law_cell"] spOther26 := by
  refine D.F.ok sc__law_other (fun vs H Q E h => ?_) (fun cdv A outer s H vs Q E hr h => ?_)
  · obtain ⟨t, c, rfl, _⟩ := h
    rfl
  obtain ⟨t, c, rfl, ha, q⟩ := h
  have hz := sizeLine_big
  have hal := ha.1
  have l5 : (defScope s__law_other).names.lookup ("_law_some" : Str) = some NameKind.local := by decide +kernel
  refine ⟨_, @DSs.h _ _ _ (dss_cons ⟨ps_set (i := 2) sc__law_other.nd rfl (Or.inl rfl) (pe_op op_mod (pv 1) (pe_op op_add (pe_callB call_len_str rfl B.len bt_len (pa_cons (pv 0) pa_nil)) pe_int))⟩
    (dss_cons ⟨ps_set (i := 3) sc__law_other.nd rfl (Or.inl rfl) (pe_kn KS hr rfl (pa_cons (pe_op op_fdiv (pv 1) pe_int) pa_nil))⟩
    (dss_cons ⟨ps_set (i := 4) sc__law_other.nd rfl (Or.inl rfl) (pe_op op_mod (pe_op op_fdiv (pv 1) pe_int) pe_int)⟩
    (dss_cons ⟨ps_if (pt_cmpR op_eq (pv 4) pe_int (nomark _)) (pss_one (ps_ret (pe_op op_add_str (pe_op op_add_str (pe_slice sl_str (pv 0) po_none (po_some (pv 2))) (pv 3)) (pe_slice sl_str (pv 0) (po_some (pv 2)) po_none)))) pss_nil⟩
    (dss_cons ⟨ps_if (pt_cmpR op_eq (pv 4) pe_int (nomark _)) (pss_one (ps_ret (pe_op op_add_str (pe_slice sl_str (pv 0) po_none (po_some (pv 2))) (pe_slice sl_str (pv 0) (po_some (pe_op op_add (pv 2) pe_int)) po_none)))) pss_nil⟩
    (dss_cons ⟨ps_if (pt_cmpR op_eq (pv 4) pe_int (nomark _)) (pss_one (ps_ret (pe_op op_add_str (pe_op op_add_str (pe_slice sl_str (pv 0) po_none (po_some (pv 2))) (pv 3)) (pe_slice sl_str (pv 0) (po_some (pe_op op_add (pv 2) pe_int)) po_none)))) pss_nil⟩
    (dss_cons (ds_set (i := 5) sc__law_other.nd rfl (Or.inl l5) (pd_lst (C := CTrue) (ds := od0) (pds_cons hCTrue pd_str (pds_cons hCTrue pd_str (pds_cons hCTrue pd_str (pds_cons hCTrue pd_str (pds_cons hCTrue pd_str (pds_cons hCTrue pd_str (pds_cons hCTrue pd_str (pds_cons hCTrue pd_str (pds_cons hCTrue pd_str (pds_cons hCTrue pd_str pds_nil)))))))))) len_ok))
    (dss_cons (ds_set (i := 5) sc__law_other.nd rfl (Or.inl l5) (de_op op_catR2 (pv 5 (hv := Or.inl l5)) (pd_lst (C := CTrue) (ds := od1) (pds_cons hCTrue pd_str (pds_cons hCTrue pd_str (pds_cons hCTrue pd_str (pds_cons hCTrue pd_str (pds_cons hCTrue pd_str (pds_cons hCTrue pd_str (pds_cons hCTrue pd_str (pds_cons hCTrue pd_str (pds_cons hCTrue pd_str pds_nil))))))))) len_ok)))
    (dss_cons (ds_set (i := 5) sc__law_other.nd rfl (Or.inl l5) (de_op op_catR2 (pv 5 (hv := Or.inl l5)) (pd_lst (C := CTrue) (ds := od2) (pds_cons hCTrue pd_str (pds_cons hCTrue pd_str (pds_cons hCTrue pd_str (pds_cons hCTrue pd_str (pds_cons hCTrue pd_str (pds_cons hCTrue pd_str (pds_cons hCTrue pd_str pds_nil))))))) len_ok)))
    (dss_cons (ds_set (i := 5) sc__law_other.nd rfl (Or.inl l5) (de_op op_catR2 (pv 5 (hv := Or.inl l5)) (pd_lst (C := CTrue) (ds := od3) (pds_cons hCTrue pd_str (pds_cons hCTrue pd_str (pds_cons hCTrue pd_str (pds_cons hCTrue pd_str (pds_cons hCTrue pd_str pds_nil))))) len_ok)))
    (dss_cons (ds_set (i := 5) sc__law_other.nd rfl (Or.inl l5) (de_op op_catR2 (pv 5 (hv := Or.inl l5)) (pd_lst (C := CTrue) (ds := od4) (pds_cons hCTrue pd_str pds_nil) len_ok)))
    ⟨pss_one (ps_ret (pe_ix ix_list (pv 5 (hv := Or.inl l5)) (pe_op op_mod (pe_op op_fdiv (pv 1) pe_int) (pe_callB call_len_seq rfl B.len bt_len (pa_cons (pv 5 (hv := Or.inl l5)) pa_nil))) (fun _ _ => rfl)))⟩))))))))))), ?_⟩
  refine ⟨_, rfl, _, rfl, t, rfl, by omega, _, _, rfl, rfl, _, _, rfl, rfl, (by omega), ?_⟩
  refine ⟨_, rfl, _, _, rfl, rfl, ⟨by decide, by decide⟩, _, rfl, fun sg hsg => ?_⟩
  have hsl := hsg.1
  refine ⟨_, rfl, _, _, rfl, rfl, ⟨by decide, by decide⟩, _, _, rfl, rfl, (by show (0 : Int) < 4; decide), ?_⟩
  dsimp only
  generalize c % (((t.length : Nat) : Int) + 1) = at'
  have cut : ∀ lo hi, Asc 483 (Txt.slice t lo hi) := fun lo hi => ha.slice lo hi
  have sg1 : Asc 1 sg := hsg
  have a2 : ∀ lo hi lo' hi', Asc 980 (Txt.slice t lo hi ++ Txt.slice t lo' hi') := fun lo hi lo' hi' => ((cut lo hi).app (cut lo' hi')).mono (by decide)
  have a3 : ∀ lo hi lo' hi', Asc 980 (Txt.slice t lo hi ++ sg ++ Txt.slice t lo' hi') := fun lo hi lo' hi' => (((cut lo hi).app sg1).app (cut lo' hi')).mono (by decide)
  have b1 : ∀ lo hi, (Txt.slice t lo hi).length + sg.length ≤ sizeLine := fun lo hi => by have := (cut lo hi).1; omega
  have b2 : ∀ lo hi lo' hi', (Txt.slice t lo hi).length + (Txt.slice t lo' hi').length ≤ sizeLine := fun lo hi lo' hi' => by have := (cut lo hi).1; have := (cut lo' hi').1; omega
  have b3 : ∀ lo hi lo' hi', (Txt.slice t lo hi ++ sg).length + (Txt.slice t lo' hi').length ≤ sizeLine := fun lo hi lo' hi' => by have := (cut lo hi).1; have := (cut lo' hi').1; rw [Str.length_append]; omega
  have tl : t.length ≤ 1000000 := by omega
  refine ⟨_, rfl, rfl, _, rfl, ite2 (fun _ => ?_) (fun _ => ?_)⟩
  · exact ⟨_, rfl, _, rfl, _, rfl, t, rfl, tl, _, rfl, _, _, rfl, rfl, b1 _ _, _, rfl, _, rfl, _, rfl, t, rfl, tl, _, _, rfl, rfl, b3 _ _ _ _, q _ H (Same.refl _) (a3 _ _ _ _)⟩
  refine ⟨_, rfl, rfl, _, rfl, ite2 (fun _ => ?_) (fun _ => ?_)⟩
  · exact ⟨_, rfl, _, rfl, _, rfl, t, rfl, tl, _, rfl, _, rfl, _, _, rfl, rfl, _, rfl, t, rfl, tl, _, _, rfl, rfl, b2 _ _ _ _, q _ H (Same.refl _) (a2 _ _ _ _)⟩
  refine ⟨_, rfl, rfl, _, rfl, ite2 (fun _ => ?_) (fun _ => ?_)⟩
  · exact ⟨_, rfl, _, rfl, _, rfl, t, rfl, tl, _, rfl, _, _, rfl, rfl, b1 _ _, _, rfl, _, rfl, _, _, rfl, rfl, _, rfl, t, rfl, tl, _, _, rfl, rfl, b3 _ _ _ _, q _ H (Same.refl _) (a3 _ _ _ _)⟩
  refine ⟨trivial, fun v0 H0 s0 hv0 => ?_⟩
  obtain ⟨a0, xs0, e0, h0, r0⟩ := dt_list hv0
  subst e0
  have S0 := s0
  refine ⟨_, rfl, trivial, fun w1 G1 t1 hw1 => ?_⟩
  obtain ⟨b1, ys1, f1, g1, u1⟩ := dt_list hw1
  subst f1
  refine ⟨a0, b1, _, _, rfl, rfl, SqL.of (t1 _ _ h0), SqL.of g1, by rw [r0.length, u1.length]; exact small (Nat.le_of_ble_eq_true rfl), fun a1 k1 => ?_⟩
  have n1 := same_new k1 (.lst (xs0 ++ ys1))
  obtain ⟨xs1, ex1⟩ : ∃ z, z = xs0 ++ ys1 := ⟨_, rfl⟩
  have r1 : Dts (upd G1 a1 (.lst (xs0 ++ ys1))) xs1 (od0 ++ od1) := by rw [ex1]; exact (r0.same (t1.trans n1)).append (u1.same n1)
  have h1 : (upd G1 a1 (.lst (xs0 ++ ys1))) a1 = some (.lst xs1) := by rw [ex1]; exact upd_same
  have S1 := (S0.trans t1).trans n1
  generalize upd G1 a1 (.lst (xs0 ++ ys1)) = H1 at n1 r1 h1 S1 ⊢
  refine ⟨_, rfl, trivial, fun w2 G2 t2 hw2 => ?_⟩
  obtain ⟨b2, ys2, f2, g2, u2⟩ := dt_list hw2
  subst f2
  refine ⟨a1, b2, _, _, rfl, rfl, SqL.of (t2 _ _ h1), SqL.of g2, by rw [r1.length, u2.length]; exact small (Nat.le_of_ble_eq_true rfl), fun a2 k2 => ?_⟩
  have n2 := same_new k2 (.lst (xs1 ++ ys2))
  obtain ⟨xs2, ex2⟩ : ∃ z, z = xs1 ++ ys2 := ⟨_, rfl⟩
  have r2 : Dts (upd G2 a2 (.lst (xs1 ++ ys2))) xs2 ((od0 ++ od1) ++ od2) := by rw [ex2]; exact (r1.same (t2.trans n2)).append (u2.same n2)
  have h2 : (upd G2 a2 (.lst (xs1 ++ ys2))) a2 = some (.lst xs2) := by rw [ex2]; exact upd_same
  have S2 := (S1.trans t2).trans n2
  generalize upd G2 a2 (.lst (xs1 ++ ys2)) = H2 at n2 r2 h2 S2 ⊢
  refine ⟨_, rfl, trivial, fun w3 G3 t3 hw3 => ?_⟩
  obtain ⟨b3, ys3, f3, g3, u3⟩ := dt_list hw3
  subst f3
  refine ⟨a2, b3, _, _, rfl, rfl, SqL.of (t3 _ _ h2), SqL.of g3, by rw [r2.length, u3.length]; exact small (Nat.le_of_ble_eq_true rfl), fun a3 k3 => ?_⟩
  have n3 := same_new k3 (.lst (xs2 ++ ys3))
  obtain ⟨xs3, ex3⟩ : ∃ z, z = xs2 ++ ys3 := ⟨_, rfl⟩
  have r3 : Dts (upd G3 a3 (.lst (xs2 ++ ys3))) xs3 (((od0 ++ od1) ++ od2) ++ od3) := by rw [ex3]; exact (r2.same (t3.trans n3)).append (u3.same n3)
  have h3 : (upd G3 a3 (.lst (xs2 ++ ys3))) a3 = some (.lst xs3) := by rw [ex3]; exact upd_same
  have S3 := (S2.trans t3).trans n3
  generalize upd G3 a3 (.lst (xs2 ++ ys3)) = H3 at n3 r3 h3 S3 ⊢
  refine ⟨_, rfl, trivial, fun w4 G4 t4 hw4 => ?_⟩
  obtain ⟨b4, ys4, f4, g4, u4⟩ := dt_list hw4
  subst f4
  refine ⟨a3, b4, _, _, rfl, rfl, SqL.of (t4 _ _ h3), SqL.of g4, by rw [r3.length, u4.length]; exact small (Nat.le_of_ble_eq_true rfl), fun a4 k4 => ?_⟩
  have n4 := same_new k4 (.lst (xs3 ++ ys4))
  obtain ⟨xs4, ex4⟩ : ∃ z, z = xs3 ++ ys4 := ⟨_, rfl⟩
  have r4 : Dts (upd G4 a4 (.lst (xs3 ++ ys4))) xs4 ((((od0 ++ od1) ++ od2) ++ od3) ++ od4) := by rw [ex4]; exact (r3.same (t4.trans n4)).append (u4.same n4)
  have h4 : (upd G4 a4 (.lst (xs3 ++ ys4))) a4 = some (.lst xs4) := by rw [ex4]; exact upd_same
  have S4 := (S3.trans t4).trans n4
  generalize upd G4 a4 (.lst (xs3 ++ ys4)) = H4 at n4 r4 h4 S4 ⊢
  have hl4 : xs4.length = 32 := r4.length
  obtain ⟨m, em, hm⟩ := mod_at (z := c / 1200) (k := 32) (by decide)
  obtain ⟨x, hx⟩ : ∃ x, xs4[m]? = some x := ⟨_, List.getElem?_eq_getElem (by omega)⟩
  obtain ⟨d, hd, hxd⟩ := r4.get hx
  refine ⟨_, rfl, _, rfl, _, _, rfl, rfl, ⟨by decide, by decide⟩, _, rfl, a4, _, rfl, .inl (SqL.of h4), _, _, rfl, rfl, (by show (0 : Int) < ((xs4.length : Nat) : Int); rw [hl4]; decide), a4, _, _, x, rfl, rfl, SqL.of h4, ?_, ?_⟩
  · rw [hl4, show c / 1200 % ((32 : Nat) : Int) = (m : Int) from em]
    exact atI_nat hx
  · obtain ⟨z, hz', az⟩ := ascB_of (List.all_eq_true.mp od_all d (List.mem_of_getElem? hd))
    subst hz'
    cases hxd
    exact q z H4 S4 (az.mono (by decide))

/-! ### _law_read -/
structure Others (K : PySem.W.Frag) (mg : Str → Option Value) (TE C : Addr) (xs : List Str) (cs : List Addr) : Prop where
  at' : Paired (fun x c => ErrAt K mg TE x c ∧ (C == c) = false ∧ (TE == c) = false) xs cs
theorem Others.get {K : PySem.W.Frag} {mg : Str → Option Value} {TE C : Addr} {xs : List Str} {cs : List Addr} (o : Others K mg TE C xs cs) {i : Nat} {x : Str} {c : Addr} (hx : xs[i]? = some x) (hc : cs[i]? = some c) : ErrAt K mg TE x c := by
  obtain ⟨x', hx', e, _⟩ := paired_at o.at' i c hc
  rw [hx] at hx'
  cases hx'
  exact e
def readD (c : Int) : PyData → List PyData
  | .str t => (rdRec c t).getD []
  | _ => []
theorem rdRec_some {c : Int} {t : Str} {ds : List PyData} {n : Nat} (h : rdRec c t = some ds) (ht : Asc n t) : ∃ ls : List (Str × List Nat), ds = ls.map lnD ∧ ls ≠ [] ∧ (∀ l ∈ ls, ∃ n, Asc n l.1) ∧ (∀ l ∈ ls, l.2.length ≤ 2) := by
  unfold rdRec at h
  cases hl : rdLines t with
  | none => rw [hl] at h; cases h
  | some ls =>
    rw [hl] at h
    dsimp only at h
    by_cases hr : isRecD c (.list (ls.map lnD)) = true
    · rw [if_pos hr] at h
      cases h
      have hr' : (!(ls.map lnD).isEmpty && (recL c 0 (ls.map lnD)).all id) = true := hr
      rw [Bool.and_eq_true] at hr'
      refine ⟨ls, rfl, fun z => ?_, fun l hlm => ?_, fun l hlm => ?_⟩
      · rw [z] at hr'
        cases hr'.1
      · unfold rdLines at hl
        split at hl
        · cases hl
          obtain ⟨p, hp, hpl⟩ := List.mem_filterMap.mp hlm
          unfold rdLine at hpl
          cases hs : Txt.split p sBl with
          | nil => rw [hs] at hpl; cases hpl
          | cons w0 ws =>
            rw [hs] at hpl
            dsimp only at hpl
            split at hpl
            · cases hpl
              exact ⟨n, (ht.split hp).split (y := sBl) (by rw [hs]; exact List.mem_cons_self)⟩
            · cases hpl
        · cases hl
      · obtain ⟨i, hi⟩ := List.getElem?_of_mem hlm
        have h1 := recL_get c 0 (ls.map lnD) i (lnD l) (by rw [List.getElem?_map, hi]; rfl)
        have h2 := List.all_eq_true.mp hr'.2 _ (List.mem_of_getElem? h1)
        have h3 : (decide (nL l.1 = some (l.2.map fun (n : Nat) => PyData.int (n : Int)).length) && _) = true := h2
        rw [Bool.and_eq_true, decide_eq_true_eq, List.length_map] at h3
        exact nL_le h3.1
    · rw [if_neg hr] at h; cases h
def spRead26 : Sp := fun vs H Q _ => ∃ (x : V) (d : PyData) (c : Int), vs = [x, .int c] ∧ Dt H x d ∧ (∀ t, d = .str t → Asc 980 t) ∧ ∀ (v : V) (H' : Hp), Same H H' → Dt H' v (.list (readD c d)) → Q v H'
theorem sc__law_read : FnScope ["_law_text", "_law_count", "_law_found", "_law_told", "e"] ["_law_text", "_law_count"] (defScope s__law_read) := ⟨rfl, rfl, rfl, by decide +kernel, rfl, by decide +kernel, by decide +kernel⟩
theorem ok__law_read (D : Def K mg "_law_read" s__law_read ["_law_text", "_law_count"] f fd) (B : Blt mg) {TE C c1 c2 c3 c4 c5 c6 c7 c8 c9 c10 : Addr} (KR : KnownX P w K mg base 4 "read_recipe" ["text", "count"] (spRecT C)) (KK : Known P w K mg base 1 "_law_kinds" ["_law_found"] spKinds26) (ET : ErrTop K mg TE) (EA : ErrAt K mg TE "NoText" C)
    (EO : Others K mg TE C ["NoGroup", "NoLine", "NoName", "NoNumber", "NoRecipe", "NoThing", "NoTurning", "NotIn", "NotPart", "TooMany"] [c1, c2, c3, c4, c5, c6, c7, c8, c9, c10]) : FnOk P w K mg base CX0 5 f fd ["_law_text", "_law_count"] spRead26 := by
  refine D.F.ok sc__law_read (fun vs H Q E h => ?_) (fun cdv A outer s H vs Q E hr h => ?_)
  · obtain ⟨x, d, c, rfl, _⟩ := h
    rfl
  obtain ⟨x, d, c, rfl, hd, hasc, q⟩ := h
  have hcs : ∀ c ∈ [c1, c2, c3, c4, c5, c6, c7, c8, c9, c10], (∃ tl n, XCls K c tl n) ∧ (Value.ref C :: Value.ref TE :: bmV).contains (.ref c) = false := fun c hc => by
    obtain ⟨i, hi⟩ := List.getElem?_of_mem hc
    obtain ⟨x, _, e, n1, n2⟩ := paired_at EO.at' i c hi
    exact ⟨⟨_, _, e.c⟩, err_ne n1 n2⟩
  have e1 := EO.get (i := 0) rfl rfl
  have e2 := EO.get (i := 1) rfl rfl
  have e3 := EO.get (i := 2) rfl rfl
  have e4 := EO.get (i := 3) rfl rfl
  have e5 := EO.get (i := 4) rfl rfl
  have e6 := EO.get (i := 5) rfl rfl
  have e7 := EO.get (i := 6) rfl rfl
  have e8 := EO.get (i := 7) rfl rfl
  have e9 := EO.get (i := 8) rfl rfl
  have e10 := EO.get (i := 9) rfl rfl
  refine ⟨_, pss_cons (ps_set (i := 2) sc__law_read.nd rfl (Or.inl rfl) pe_non)
    (pss_cons (ps_set (i := 3) sc__law_read.nd rfl (Or.inl rfl) pe_int)
    (pss_cons (ps_tryQ (qss_cons (qs_set (i := 2) KR hr rfl (pa_cons (pv 0) (pa_cons (pv 1) pa_nil)) sc__law_read.nd rfl (Or.inl rfl)) qss_nil)
        (ph_skip EA.c (.cons rfl e1.m rfl (.cons rfl e2.m rfl (.cons rfl e3.m rfl (.cons rfl e4.m rfl (.cons rfl e5.m rfl (.cons rfl e6.m rfl (.cons rfl e7.m rfl (.cons rfl e8.m rfl (.cons rfl e9.m rfl (.cons rfl e10.m rfl .nil)))))))))) hcs (by decide)
        (ph_as (i := 4) EA.c EA.c (by simp) rfl EA.m sc__law_read.nd rfl rfl (fun ea => pss_one (ps_set (i := 3) sc__law_read.nd rfl (Or.inl rfl) (pe_callTy call_int1 rfl B.int bt_int (pa_cons (pe_and (pe_callB call_isinstX rfl B.isinstance bt_isinstance (pa_cons (pv 4) (pa_cons (pe_glob (v := .ref TE) rfl ET.m rfl) pa_nil))) (pe_one (pe_callB (call_isinstV ty_ValueError) rfl B.isinstance bt_isinstance (pa_cons (pv 4) (pa_cons (pe_bltn (v := .ty "ValueError") rfl ET.v bt_ValueError rfl) pa_nil))))) pa_nil)))))) rfl rfl)
    (pss_cons (ps_if (PW.pt (pw_and (pt_cmpR op_eq (pv 3) pe_int (nomark _)) (pw_and1 (pt_not (pt_val (pe_kn KK hr rfl (pa_cons (pv 2) pa_nil))))))) (pss_one (ps_ret (pe_lst (pa_cons pe_non pa_nil)))) pss_nil)
    (pss_cons (ps_if (pt_cmpR op_eq (pv 3) pe_int (nomark _)) (pss_one (ps_ret (pe_lst pa_nil))) pss_nil)
    (pss_one (ps_ret (pe_ix ix_list (pe_lst (pa_cons (pe_lst (pa_cons pe_non pa_nil)) (pa_cons (pv 2) pa_nil))) (pe_callTy call_int1 rfl B.int bt_int (pa_cons (pe_cmpR op_eq (pv 3) pe_int (nomark _)) pa_nil)) (fun _ _ => rfl)))))))), ?_⟩
  refine ⟨fun σ' C' a' H' => σ' = [some x, some (.int c), some .non, some (.int 0), none] ∧ C' = .ref C ∧ Same H H' ∧ readD c d = [], ⟨_, rfl, _, rfl, x, d, c, rfl, hd, hasc, fun t ds e hrd a H1 xs s1 _ e1 r1 => ?_, fun hno H1 s1 => ⟨rfl, rfl, s1, ?_⟩⟩, ?_⟩
  · have erd : readD c d = ds := by rw [e]; show (rdRec c t).getD [] = ds; rw [hrd]; rfl
    obtain ⟨ls, rfl, hne, ha, h2⟩ := rdRec_some hrd (hasc t e)
    refine ⟨_, rfl, rfl, _, rfl, iteT ⟨_, rfl, a, xs, ls, rfl, e1, r1, hne, ha, h2, fun H2 s2 => ⟨_, rfl, iteF ?_⟩⟩⟩
    refine ⟨_, rfl, rfl, _, rfl, iteF ?_⟩
    refine ⟨by show 1 ≤ sizeLine; exact small (by decide), fun p hp => ⟨_, rfl, by show 2 ≤ sizeLine; exact small (by decide), fun p2 hp2 => ?_⟩⟩
    have s3 := (same_new hp (.lst [V.non])).trans (same_new hp2 (.lst [V.ref p, V.ref a]))
    refine ⟨_, rfl, rfl, .inr ⟨_, rfl, p2, _, _, .ref a, rfl, rfl, SqL.of upd_same, atI_nat (j := 1) rfl, ?_⟩⟩
    refine q _ _ ((s1.trans s2).trans s3) ?_
    rw [erd]
    exact .lst (s3 _ _ (s2 _ _ e1)) (r1.same (s2.trans s3))
  · cases d with
    | str t => show (rdRec c t).getD [] = []; rw [hno t rfl]; rfl
    | _ => rfl
  · rintro σ' ea C' H' ⟨rfl, eC, s', hz⟩ hn
    cases eC
    refine ⟨rfl, rfl, ?_⟩
    refine ⟨_, rfl, ea, C, TE, rfl, upd_same, EA.i, _, rfl, iteT ⟨_, rfl, ea, C, _, _, rfl, upd_same, EA.c, rfl, .inr ⟨true, rfl, ?_⟩⟩⟩
    refine ⟨_, rfl, rfl, _, rfl, iteF ?_⟩
    refine ⟨_, rfl, rfl, _, rfl, iteT ⟨Nat.zero_le _, fun p hp => ?_⟩⟩
    refine q _ _ ((same_upd s' (s'.free hn) _).trans (same_new hp _)) ?_
    rw [hz]
    exact .lst upd_same .nil

/-! ### the law -/
theorem sc_law : FnScope ["_law_script", "_law_cell", "_law_count", "_law_lines_here", "_law_kept", "_law_text", "_law_thing", "_law_number_here", "_law_other_here"] ["_law_script"] (defScope s_law) := ⟨rfl, rfl, rfl, by decide +kernel, rfl, by decide +kernel, by decide +kernel⟩
theorem cut_20 (ns : List Int) : ∃ ms : List Int, cutV (ns.map V.int) (some 1) (some 21) = ms.map V.int ∧ ms.length ≤ 20 := by
  refine ⟨(ns.drop (min 1 (ns.map V.int).length)).take (min 21 (ns.map V.int).length - min 1 (ns.map V.int).length), ?_, ?_⟩
  · unfold cutV
    have e1 : HT.sIx (ns.map V.int).length 0 (some (1 : Int)) = min 1 (ns.map V.int).length := HT.sIx_nat _ _ 1
    have e2 : HT.sIx (ns.map V.int).length (ns.map V.int).length (some (21 : Int)) = min 21 (ns.map V.int).length := HT.sIx_nat _ _ 21
    rw [e1, e2, List.map_take, List.map_drop]
  · rw [List.length_take]
    omega
theorem cut_any (ns : List Int) (lo hi : Option Int) : ∃ ms : List Int, cutV (ns.map V.int) lo hi = ms.map V.int ∧ ms.length ≤ ns.length := by
  refine ⟨(ns.drop (HT.sIx (ns.map V.int).length 0 lo)).take (HT.sIx (ns.map V.int).length (ns.map V.int).length hi - HT.sIx (ns.map V.int).length 0 lo), ?_, ?_⟩
  · unfold cutV
    rw [List.map_take, List.map_drop]
  · rw [List.length_take, List.length_drop]
    omega
theorem word_sign (l : TM.Ln) : ∀ c ∈ (lnW l).cps.toList, c ≠ 32 ∧ c ≠ 59 ∧ c < 128 := by
  cases l with
  | still => decide
  | told k => show ∀ c ∈ ("told" : Str).cps.toList, c ≠ 32 ∧ c ≠ 59 ∧ c < 128; decide
  | behind i j => show ∀ c ∈ ("behind" : Str).cps.toList, c ≠ 32 ∧ c ≠ 59 ∧ c < 128; decide
  | back i => show ∀ c ∈ ("back" : Str).cps.toList, c ≠ 32 ∧ c ≠ 59 ∧ c < 128; decide
theorem tx_sign {l : TM.Ln} (h : Ln6 l) : ∀ z ∈ lnTx l, ∀ c ∈ z.cps.toList, c ≠ 32 ∧ c ≠ 59 ∧ c < 128 := fun z hz c hc => by
  rcases List.mem_cons.mp hz with rfl | hz
  · exact word_sign l c hc
  · obtain ⟨n, hn, rfl⟩ := List.mem_map.mp hz
    have := nS_figsOk (h n hn) (by decide)
    unfold figsOk at this
    rw [Bool.and_eq_true, Bool.and_eq_true, Bool.and_eq_true] at this
    have := isFig_iff.mp (List.all_eq_true.mp this.2.1 c hc)
    omega
theorem sBl_signs : sBl.cps.toList = [32] := by decide
theorem sSc_signs : sSc.cps.toList = [59, 32] := by decide
theorem line_sign {l : TM.Ln} (h : Ln6 l) : ∀ c ∈ (lineTx l).cps.toList, c ≠ 59 ∧ c < 128 := fun c hc => by
  rcases mem_join (y := sBl) (ys := lnTx l) hc with z | ⟨z, hz, hcz⟩
  · rw [sBl_signs] at z
    rw [List.mem_singleton.mp z]
    decide
  · exact ⟨(tx_sign h z hz c hcz).2.1, (tx_sign h z hz c hcz).2.2⟩
theorem split_line {l : TM.Ln} (h : Ln6 l) : Txt.split (lineTx l) sBl = lnTx l :=
  split_join (c := 32) (by rw [sBl_signs]; rfl) (kind_one _ (by decide +kernel)) (by unfold lnTx; simp) fun z hz hc => (tx_sign h z hz 32 hc).1 rfl
theorem split_rec {ls : List TM.Ln} (h : ∀ l ∈ ls, Ln6 l) (hne : ls ≠ []) : Txt.split (recTx ls) sSc = ls.map lineTx :=
  split_join (c := 59) (by rw [sSc_signs]; rfl) (kind_one _ (by decide +kernel)) (by simpa using hne) fun z hz hc => by
    obtain ⟨l, hl, rfl⟩ := List.mem_map.mp hz
    exact (line_sign (h l hl) 59 hc).1 rfl
theorem rd_line {l : TM.Ln} (h : Ln6 l) : rdLine (lineTx l) = some (lnW l, lnN l) := by
  unfold rdLine
  rw [split_line h]
  unfold lnTx
  dsimp only
  rw [if_pos]
  · congr 2
    rw [List.map_map]
    conv => rhs; rw [← List.map_id (lnN l)]
    exact List.map_congr_left fun n _ => nS_figVal n
  · rw [List.all_eq_true]
    intro z hz
    obtain ⟨n, hn, rfl⟩ := List.mem_map.mp hz
    exact nS_figsOk (h n hn) (by decide)
theorem rd_rec {ls : List TM.Ln} {c : Nat} (h : ∀ l ∈ ls, Ln6 l) (hne : ls ≠ []) (hR : TM.Rec c ls) : rdRec (c : Int) (recTx ls) = some (ls.map dL) := by
  have hfm : (ls.map lineTx).filterMap rdLine = ls.map fun l => (lnW l, lnN l) := by
    clear hne hR
    induction ls with
    | nil => rfl
    | cons l r ih =>
      rw [List.map_cons, List.filterMap_cons, rd_line (h l List.mem_cons_self), List.map_cons, ih fun x hx => h x (List.mem_cons_of_mem _ hx)]
  have hall : ((ls.map lineTx).all fun p => (rdLine p).isSome) = true := by
    rw [List.all_eq_true]
    intro p hp
    obtain ⟨l, hl, rfl⟩ := List.mem_map.mp hp
    rw [rd_line (h l hl)]
    rfl
  have hd : (ls.map fun l => (lnW l, lnN l)).map lnD = ls.map dL := by
    rw [List.map_map]
    rfl
  unfold rdRec rdLines
  rw [split_rec h hne, hall, if_pos rfl, hfm]
  dsimp only
  rw [hd, rec_eq hR hne, decide_eq_true (rec_least hR), if_pos rfl]
theorem asc_rec {ls : List TM.Ln} (hl : ls.length ≤ 21) (h : ∀ l ∈ ls, Ln6 l) : Asc 483 (recTx ls) := by
  refine ⟨Nat.le_trans (StrLaws.join_length_le sSc (ls.map lineTx)) (recTx_ok hl h), fun c hc => ?_⟩
  rcases mem_join (y := sSc) (ys := ls.map lineTx) hc with z | ⟨z, hz, hcz⟩
  · rw [sSc_signs] at z
    simp only [List.mem_cons, List.not_mem_nil, or_false] at z
    omega
  · obtain ⟨l, hlm, rfl⟩ := List.mem_map.mp hz
    exact (line_sign (h l hlm) c hcz).2
theorem rec6 {c : Nat} {ls : List TM.Ln} (hc : c ≤ 1000000) (hl : ls.length ≤ 21) (hR : TM.Rec c ls) : ∀ l ∈ ls, Ln6 l := fun l hlm n hn => by
  obtain ⟨i, hi⟩ := List.getElem?_of_mem hlm
  have hil := (List.getElem?_eq_some_iff.mp hi).1
  have ok := hR i l hi
  cases l with
  | still => cases hn
  | told k =>
    rw [List.mem_singleton.mp hn]
    have : k < c := ok
    omega
  | behind a b =>
    have o1 : a < i ∧ b < i := ok
    rcases List.mem_cons.mp hn with rfl | hn
    · omega
    · rw [List.mem_singleton.mp hn]; omega
  | back a =>
    have o1 : a < i := ok
    rw [List.mem_singleton.mp hn]; omega
theorem shaped_read {c : Int} {t : Str} {n : Nat} (h : Asc n t) : PySem.SeqAt.shaped (.list (readD c (.str t))) = true := by
  show PySem.SeqAt.shaped (.list ((rdRec c t).getD [])) = true
  cases e : rdRec c t with
  | none => show PySem.SeqAt.shaped (.list []) = true; decide +kernel
  | some ds =>
    obtain ⟨ls, rfl, _, ha, _⟩ := rdRec_some e h
    exact shaped_lines ha
theorem eqv_self {d : PyData} (h : PySem.SeqAt.shaped d = true) : PyData.eqv d d = true := PySem.SeqAt.eqv_refl _ (PySem.SeqAt.canLay_of_shaped h)
theorem shaped_dL (ls : List TM.Ln) : PySem.SeqAt.shaped (.list (ls.map dL)) = true := by
  have hd : (ls.map fun l => (lnW l, lnN l)).map lnD = ls.map dL := by
    rw [List.map_map]
    rfl
  rw [← hd]
  refine shaped_lines fun l hl => ?_
  obtain ⟨x, _, rfl⟩ := List.mem_map.mp hl
  exact ⟨6, lnW_len x, fun c hc => (word_sign x c hc).2.2⟩
theorem mul_small {z m : Int} (hm : m.natAbs < 2 ^ 300) : IntMulOk (z % 10 ^ Int.toNat 60) m := by
  refine mulOk_of (n := 300) (m := 300) ?_ hm (by decide)
  have h1 := Int.emod_nonneg z (show (10 : Int) ^ Int.toNat 60 ≠ 0 by decide)
  have h2 := Int.emod_lt_of_pos z (show (0 : Int) < 10 ^ Int.toNat 60 by decide)
  have h3 : (10 : Int) ^ Int.toNat 60 ≤ 2 ^ 300 := by decide
  have h4 : ((z % 10 ^ Int.toNat 60).natAbs : Int) < ((2 ^ 300 : Nat) : Int) := by
    rw [Int.natAbs_of_nonneg h1]
    exact Int.lt_of_lt_of_le h2 h3
  exact Int.ofNat_lt.mp h4
theorem ok_law (D : Def K mg "law" s_law ["_law_script"] f fd) (B : Blt mg) (KC : Known P w K mg base 1 "_law_cell_at" ["_law_script", "_law_k"] (spCellAt K)) (KL : Known P w K mg base 2 "_law_lines" ["_law_cells", "_law_count"] (spLines K)) (KS : Known P w K mg base 2 "shown_recipe" ["lines"] (spShownRec K)) (KH : Known P w K mg base 1 "_law_shown" ["_law_lines_here"] (spShownRec K))
    (KR : Known P w K mg base 5 "_law_read" ["_law_text", "_law_count"] spRead26) (KO : Known P w K mg base 2 "_law_other" ["_law_text", "_law_cell"] spOther26) (KF : Known P w K mg base 3 "_law_recipe_of" ["_law_text", "_law_count"] spRecOf) : FnOk P w K mg base CX0 8 f fd ["_law_script"] (spLaw K) := by
  refine D.F.ok sc_law (fun vs H Q E h => ?_) (fun cdv A outer s H vs Q E hr h => ?_)
  · obtain ⟨a, ns, rfl, _⟩ := h
    rfl
  obtain ⟨a, ns, rfl, hS, h63, hbits, q⟩ := h
  have p60 : CPow 10 60 := ⟨by decide, by decide, by decide⟩
  have p6 : CPow 10 6 := ⟨by decide, by decide, by decide⟩
  have h60 : (0 : Int) < 10 ^ Int.toNat 60 := by decide
  refine ⟨_, pss_cons (ps_set (i := 1) sc_law.nd rfl (Or.inl rfl) (pe_op op_mod (pe_op op_mulB (pe_op op_mod (pe_kn KC hr rfl (pa_cons (pv 0) (pa_cons pe_int pa_nil))) (pe_op op_pow pe_int pe_int)) pe_int) pe_int))
    (pss_cons (ps_set (i := 2) sc_law.nd rfl (Or.inl rfl) (pe_ix ix_list (pe_lst (pa_cons (pe_op op_mod (pe_op op_fdiv (pv 1) pe_int) pe_int) (pa_cons (pe_op op_mod (pe_op op_fdiv (pv 1) pe_int) (pe_op op_add (pe_op op_pow pe_int pe_int) pe_int)) pa_nil))) (pe_op op_mod (pv 1) pe_int) (fun _ _ => rfl)))
    (pss_cons (ps_set (i := 3) sc_law.nd rfl (Or.inl rfl) (pe_kn KL hr rfl (pa_cons (pe_slice sl_list (pv 0) (po_some pe_int) (po_some pe_int)) (pa_cons (pv 2) pa_nil))))
    (pss_cons (ps_set (i := 4) sc_law.nd rfl (Or.inl rfl) (pe_callTy call_list_of rfl B.list bt_list (pa_cons (pv 3) pa_nil)))
    (pss_cons (ps_set (i := 5) sc_law.nd rfl (Or.inl rfl) (pe_kn KS hr rfl (pa_cons (pv 3) pa_nil)))
    (pss_cons (ps_if (PW.pt (pw_or (pt_not (pt_val (pe_callB call_isinst rfl B.isinstance bt_isinstance (pa_cons (pv 5) (pa_cons (pe_bltn (v := .ty "str") rfl B.str bt_str rfl) pa_nil))))) (pw_or (pt_cmpR op_ne (pv 5) (pe_kn KH hr rfl (pa_cons (pv 4) pa_nil)) (nomark _)) (pw_or1 (pt_cmpR (op_neDt hr.units) (pv 3) (pv 4) (nomark _)))))) (pss_one (ps_ret pe_bl)) pss_nil)
    (pss_cons (ps_for PassesOwn.never rfl (pi_list (pe_lst (pa_cons pe_non (pa_cons pe_int (pa_cons pe_bl (pa_cons (pv 3) (pa_cons (pe_lst (pa_cons (pv 5) pa_nil)) (pa_cons (pe_tup (pa_cons (pv 5) pa_nil)) (pa_cons pe_dnewK pa_nil))))))))) (pg_name (i := 6) sc_law.nd rfl (Or.inl rfl))
      (pss_one (ps_if (pt_cmpR (op_neDt hr.units) (pe_kn KR hr rfl (pa_cons (pv 6) (pa_cons (pv 2) pa_nil))) (pe_lst pa_nil) (nomark _)) (pss_one (ps_ret pe_bl)) pss_nil)))
    (pss_cons (ps_for PassesOwn.never rfl (pi_list (pe_slice sl_list (pv 0) po_none (po_some pe_int))) (pg_name (i := 7) sc_law.nd rfl (Or.inl rfl))
      (pss_cons (ps_set (i := 8) sc_law.nd rfl (Or.inl rfl) (pe_kn KO hr rfl (pa_cons (pv 5) (pa_cons (pe_op op_mod (pe_op op_mulB (pe_op op_mod (pv 7) (pe_op op_pow pe_int pe_int)) pe_int) pe_int) pa_nil))))
      (pss_one (ps_if (pt_cmpR (op_neDt hr.units) (pe_kn KR hr rfl (pa_cons (pv 8) (pa_cons (pv 2) pa_nil))) (pe_kn KF hr rfl (pa_cons (pv 8) (pa_cons (pv 2) pa_nil))) (nomark _)) (pss_one (ps_ret pe_bl)) pss_nil))))
    (pss_one (ps_ret (pe_cmpR (op_eqDt hr.units) (pe_kn KR hr rfl (pa_cons (pv 5) (pa_cons (pv 2) pa_nil))) (pv 4) (nomark _))))))))))), ?_⟩
  refine ⟨_, rfl, a, ns, 0, rfl, hS, _, _, rfl, rfl, p60, _, _, rfl, rfl, h60, _, _, rfl, rfl, mul_small (by decide), _, _, rfl, rfl, (by show (0 : Int) < 2147483629; decide), ?_⟩
  dsimp only
  generalize ns.getD 0 0 % 10 ^ Int.toNat 60 * 69621 % 2147483629 = cell
  refine ⟨_, rfl, _, _, rfl, rfl, ⟨by decide, by decide⟩, _, _, rfl, rfl, (by show (0 : Int) < 10; decide), _, rfl, _, _, rfl, rfl, ⟨by decide, by decide⟩, _, _, rfl, rfl, p6, _, _, rfl, rfl, _, _, rfl, rfl, (by show (0 : Int) < 10 ^ Int.toNat 6 + 1; decide), small (show 2 ≤ 1000 by decide), fun l2 hl2 => ?_⟩
  obtain ⟨k1, ek1, hk1⟩ := mod_at (z := cell / 4) (k := 10) (by decide)
  obtain ⟨k2, ek2, hk2⟩ := mod_at (z := cell / 4) (k := 1000001) (by decide)
  obtain ⟨b, eb, hb⟩ := mod_at (z := cell) (k := 2) (by decide)
  dsimp only
  rw [show cell / 4 % 10 = (k1 : Int) from ek1, show cell / 4 % (10 ^ Int.toNat 6 + 1) = (k2 : Int) from ek2]
  have s1 := same_new hl2 (.lst [V.int (k1 : Int), V.int (k2 : Int)])
  have e1 : (upd H l2 (.lst [V.int (k1 : Int), V.int (k2 : Int)])) l2 = some (.lst [V.int (k1 : Int), V.int (k2 : Int)]) := upd_same
  generalize upd H l2 (.lst [V.int (k1 : Int), V.int (k2 : Int)]) = H1 at s1 e1 ⊢
  obtain ⟨c, hc, hat⟩ : ∃ c : Nat, c ≤ 1000000 ∧ [V.int (k1 : Int), V.int (k2 : Int)][b]? = some (V.int (c : Int)) := by
    match b, hb with
    | 0, _ => exact ⟨k1, by omega, rfl⟩
    | 1, _ => exact ⟨k2, by omega, rfl⟩
  refine ⟨_, rfl, _, _, rfl, rfl, (by show (0 : Int) < 2; decide), l2, _, _, V.int (c : Int), rfl, rfl, SqL.of e1, by rw [show cell % 2 = (b : Int) from eb]; exact atI_nat hat, ?_⟩
  refine ⟨_, rfl, _, rfl, _, rfl, a, _, rfl, s1.seq hS, fun sl hsl => ?_⟩
  obtain ⟨cs, ecs, hcs⟩ := cut_20 ns
  have s2 := same_new hsl (.lst (cutV (ns.map V.int) (some 1) (some 21)))
  have e2 : (upd H1 sl (.lst (cutV (ns.map V.int) (some 1) (some 21)))) sl = some (.lst (cs.map V.int)) := by rw [upd_same, ecs]
  generalize upd H1 sl (.lst (cutV (ns.map V.int) (some 1) (some 21))) = H2 at s2 e2 ⊢
  refine ⟨_, rfl, sl, cs, c, rfl, SqL.of e2, by omega, hc, fun L H3 as ls hL0 s3 h3L hP hR hne hll => ?_⟩
  have hl21 : ls.length ≤ 21 := by omega
  have h6 := rec6 hc hl21 hR
  have S3 := (s1.trans s2).trans s3
  -- kept
  refine ⟨_, rfl, L, _, rfl, .inl (SqL.of h3L), fun kp hkp => ?_⟩
  have s4 := same_new hkp (.lst (as.map V.ref))
  have e4 : (upd H3 kp (.lst (as.map V.ref))) kp = some (.lst (as.map V.ref)) := upd_same
  have eL4 := s4 _ _ h3L
  have hP4 := hP.same s4
  have S4 := S3.trans s4
  generalize upd H3 kp (.lst (as.map V.ref)) = H4 at s4 e4 eL4 hP4 S4 ⊢
  -- text
  refine ⟨_, rfl, L, as, ls, rfl, eL4, hP4, hl21, h6, fun H5 s5 => ?_⟩
  have hT := asc_rec hl21 h6
  have hrd := rd_rec h6 hne hR
  obtain ⟨T, eT⟩ : ∃ T, T = recTx ls := ⟨_, rfl⟩
  rw [← eT]
  rw [← eT] at hT hrd
  have hsh := shaped_dL ls
  refine ⟨_, rfl, _, _, _, _, rfl, TyOf.str _, kit_tt kt_str_str, _, rfl, iteF ?_⟩
  refine ⟨_, rfl, _, rfl, kp, as, ls, rfl, s5 _ _ e4, hP4.same s5, hl21, h6, fun H6 s6 => ⟨rfl, _, rfl, ?_⟩⟩
  rw [← eT]
  show if (!decide (V.str T = V.str T)) = true then _ else _
  rw [decide_eq_true rfl]
  refine iteF ?_
  have eL6 := s6 _ _ (s5 _ _ eL4)
  have ek6 := s6 _ _ (s5 _ _ e4)
  have hP6 := (hP4.same s5).same s6
  have S6 := (S4.trans s5).trans s6
  refine ⟨_, rfl, _, rfl, .list (ls.map dL), .list (ls.map dL), .lst eL6 (dts_lns hP6), .lst ek6 (dts_lns hP6), hsh, hsh, _, rfl, ?_⟩
  rw [eqv_self hsh]
  refine iteF ?_
  -- the first loop
  refine ⟨_, rfl, _, rfl, small (show 1 ≤ 1000 by decide), fun x1 h1 => ⟨_, rfl, small (show 1 ≤ 1000 by decide), fun x2 h2 => fun x3 h3 => ⟨small (show 7 ≤ 1000 by decide), fun x4 h4 => ?_⟩⟩⟩
  have t1 := same_new h1 (.lst [V.str T])
  have f1 : (upd H6 x1 (.lst [V.str T])) x1 = some (.lst [V.str T]) := upd_same
  generalize upd H6 x1 (.lst [V.str T]) = G1 at t1 f1 h2 h3 h4 ⊢
  have t2 := same_new h2 (.tup [V.str T])
  have f2 : (upd G1 x2 (.tup [V.str T])) x2 = some (.tup [V.str T]) := upd_same
  generalize upd G1 x2 (.tup [V.str T]) = G2 at t2 f2 h3 h4 ⊢
  have t3 := same_new h3 (.dK [])
  have f3 : (upd G2 x3 (.dK [])) x3 = some (.dK []) := upd_same
  generalize upd G2 x3 (.dK []) = G3 at t3 f3 h4 ⊢
  have t4 := same_new h4 (.lst [V.non, V.int 0, V.bl true, V.ref L, V.ref x1, V.ref x2, V.ref x3])
  have f4 : (upd G3 x4 (.lst [V.non, V.int 0, V.bl true, V.ref L, V.ref x1, V.ref x2, V.ref x3])) x4 = some (.lst [V.non, V.int 0, V.bl true, V.ref L, V.ref x1, V.ref x2, V.ref x3]) := upd_same
  generalize upd G3 x4 (.lst [V.non, V.int 0, V.bl true, V.ref L, V.ref x1, V.ref x2, V.ref x3]) = G4 at t4 f4 ⊢
  have T14 := t2.trans (t3.trans t4)
  have T04 := t1.trans T14
  have hD : Dts G4 [V.non, V.int 0, V.bl true, V.ref L, V.ref x1, V.ref x2, V.ref x3] [.none, .int 0, .bool true, .list (ls.map dL), .list [.str T], .tuple [.str T], .dict []] :=
    .cons .non (.cons (.int 0) (.cons (.bl true) (.cons (.lst (T04 _ _ eL6) (dts_lns (hP6.same T04))) (.cons (.lst (T14 _ _ f1) (.cons (.str T) .nil)) (.cons (.tup ((t3.trans t4) _ _ f2) (.cons (.str T) .nil)) (.cons (.dct (t4 _ _ f3)) .nil))))))
  have hno : ∀ d ∈ [PyData.none, .int 0, .bool true, .list (ls.map dL), .list [.str T], .tuple [.str T], .dict []], isStrD d = false := by
    simp only [List.forall_mem_cons, List.forall_mem_nil]
    exact ⟨rfl, rfl, rfl, rfl, rfl, rfl, rfl, fun _ h => (by cases h)⟩
  have ek4 := T04 _ _ ek6
  have hP7 := hP6.same T04
  have S7 := S6.trans T04
  have z0 : (0 : Nat) ≤ sizeLine := Nat.zero_le _
  refine ⟨x4, rfl, ⟨_, SqL.of f4⟩, for_list (xs := [V.non, V.int 0, V.bl true, V.ref L, V.ref x1, V.ref x2, V.ref x3]) (fun i σ H' => ∃ v6, σ = [some (.ref a), some (.int cell), some (.int (c : Int)), some (.ref L), some (.ref kp), some (.str T), v6, none, none] ∧ Same G4 H') ⟨none, rfl, Same.refl _⟩ (fun i σ H' _ ⟨_, _, s'⟩ => SqL.of (s' _ _ f4)) ?_ ?_⟩
  · rintro i x σ H7 hx ⟨v6, rfl, s7⟩
    obtain ⟨d, hd, hxd⟩ := hD.get hx
    have hns := hno d (List.mem_of_getElem? hd)
    have hrn : readD (c : Int) d = [] := by
      cases d with
      | str t => cases hns
      | _ => rfl
    refine ⟨_, rfl, _, rfl, x, d, c, rfl, hxd.same s7, (fun t e => (by rw [e] at hns; cases hns)), fun v H8 s8 hv => ?_⟩
    rw [hrn] at hv
    refine ⟨z0, fun l hl => ?_⟩
    refine ⟨.list [], .list [], hv.same (same_new hl _), .lst upd_same .nil, by decide +kernel, by decide +kernel, _, rfl, ?_⟩
    rw [eqv_self (d := .list []) (by decide +kernel)]
    exact iteF ⟨_, rfl, (s7.trans s8).trans (same_new hl _)⟩
  rintro σ H7 ⟨v6, rfl, s7⟩
  -- the second loop
  refine ⟨_, rfl, _, rfl, a, _, rfl, (S7.trans s7).seq hS, fun sl2 hsl2 => ?_⟩
  obtain ⟨ds, eds, _⟩ := cut_any ns none (some 40)
  have s8 := same_new hsl2 (.lst (cutV (ns.map V.int) none (some 40)))
  have e8 : (upd H7 sl2 (.lst (cutV (ns.map V.int) none (some 40)))) sl2 = some (.lst (ds.map V.int)) := by rw [upd_same, eds]
  generalize upd H7 sl2 (.lst (cutV (ns.map V.int) none (some 40))) = H8 at s8 e8 ⊢
  have T8 := s7.trans s8
  refine ⟨sl2, rfl, ⟨_, SqL.of e8⟩, for_list (xs := ds.map V.int) (fun i σ H' => ∃ v7 v8, σ = [some (.ref a), some (.int cell), some (.int (c : Int)), some (.ref L), some (.ref kp), some (.str T), v6, v7, v8] ∧ Same H8 H') ⟨none, none, rfl, Same.refl _⟩ (fun i σ H' _ ⟨_, _, _, s'⟩ => SqL.of (s' _ _ e8)) ?_ ?_⟩
  · rintro i x σ H9 hx ⟨v7, v8, rfl, s9⟩
    obtain ⟨z, _, rfl⟩ := cell_of hx
    refine ⟨_, rfl, _, rfl, _, _, rfl, rfl, p60, _, _, rfl, rfl, h60, _, _, rfl, rfl, mul_small (by decide), _, _, rfl, rfl, (by show (0 : Int) < 2147483587; decide), T, _, rfl, hT, fun o G9 u9 ho => ?_⟩
    refine ⟨_, rfl, _, rfl, .str o, .str o, c, rfl, .str o, (fun t e => (by cases e; exact ho)), fun v G10 u10 hv => ?_⟩
    refine ⟨_, rfl, _, rfl, o, c, rfl, ho, fun v2 G11 u11 hv2 => ?_⟩
    have hsr := shaped_read (c := (c : Int)) ho
    have er : recOfD (c : Int) o = readD (c : Int) (.str o) := recOfD_eq _ _
    rw [er] at hv2
    refine ⟨_, _, hv.same u11, hv2, hsr, hsr, _, rfl, ?_⟩
    rw [eqv_self hsr]
    exact iteF ⟨_, _, rfl, ((s9.trans u9).trans u10).trans u11⟩
  rintro σ H9 ⟨v7, v8, rfl, s9⟩
  refine ⟨_, rfl, _, rfl, .str T, .str T, c, rfl, .str T, (fun t e => (by cases e; exact hT.mono (by decide))), fun v G10 u10 hv => ?_⟩
  have er : readD (c : Int) (.str T) = ls.map dL := by show (rdRec (c : Int) T).getD [] = _; rw [hrd]; rfl
  rw [er] at hv
  refine ⟨_, rfl, _, _, hv, .lst (u10 _ _ (s9 _ _ (T8 _ _ ek4))) (dts_lns (((hP7.same T8).same s9).same u10)), hsh, hsh, ?_⟩
  rw [eqv_self hsh]
  exact q _

end
theorem all_mk {l : PySem.W.OpenLaw} {w : World} {K : PySem.W.Frag} {h : Heap} {mg : Str → Option Value} {fa f0 f1 f2 f3 f4 f5 f6 f7 f8 f9 f10 f11 f12 f13 f14 f15 f16 f17 f18 f19 f20 : Addr} (X : K.In h) (G : h.Ns mainGlobals mg) (hfa : mg "law" = some (.ref fa))
    {od0 an0 od1 an1 od2 an2 od3 an3 od4 an4 od5 an5 od6 an6 od7 an7 od8 an8 od9 an9 od10 an10 od11 an11 od12 an12 od13 an13 od14 an14 od15 an15 od16 an16 od17 an17 od18 an18 od19 an19 od20 an20 : Option Addr} {sl0 sl1 sl2 sl3 sl4 sl5 sl6 sl7 sl8 sl9 sl10 sl11 sl12 sl13 sl14 sl15 sl16 sl17 sl18 sl19 sl20 : Array (Option Value)} {oc0 kV0 dc0 pm0 cd0 ct0 oc1 kV1 dc1 pm1 cd1 ct1 oc2 kV2 dc2 pm2 cd2 ct2 oc3 kV3 dc3 pm3 cd3 ct3 oc4 kV4 dc4 pm4 cd4 ct4 oc5 kV5 dc5 pm5 cd5 ct5 oc6 kV6 dc6 pm6 cd6 ct6 oc7 kV7 dc7 pm7 cd7 ct7 oc8 kV8 dc8 pm8 cd8 ct8 oc9 kV9 dc9 pm9 cd9 ct9 oc10 kV10 dc10 pm10 cd10 ct10 oc11 kV11 dc11 pm11 cd11 ct11 oc12 kV12 dc12 pm12 cd12 ct12 oc13 kV13 dc13 pm13 cd13 ct13 oc14 kV14 dc14 pm14 cd14 ct14 oc15 kV15 dc15 pm15 cd15 ct15 oc16 kV16 dc16 pm16 cd16 ct16 oc17 kV17 dc17 pm17 cd17 ct17 oc18 kV18 dc18 pm18 cd18 ct18 oc19 kV19 dc19 pm19 cd19 ct19 oc20 kV20 dc20 pm20 cd20 ct20 : Value}
    (a0 : PySem.W.nsIn K mainGlobals "is_whole" = some (some (.ref f0))) (l0 : K.lookup f0 = some ⟨oc0, od0, .func (PySem.W.fnOf "is_whole" "is_whole" (defArgs s_is_whole) (defBody s_is_whole) (defScope s_is_whole) .none kV0 dc0 pm0 an0 cd0 ct0), sl0⟩) (c0 : PySem.W.codeIn K cd0 "is_whole" = true) (k0 : PySem.W.keepIn K (.ref f0) = true)
    (a1 : PySem.W.nsIn K mainGlobals "need_text" = some (some (.ref f1))) (l1 : K.lookup f1 = some ⟨oc1, od1, .func (PySem.W.fnOf "need_text" "need_text" (defArgs s_need_text) (defBody s_need_text) (defScope s_need_text) .none kV1 dc1 pm1 an1 cd1 ct1), sl1⟩) (c1 : PySem.W.codeIn K cd1 "need_text" = true) (k1 : PySem.W.keepIn K (.ref f1) = true)
    (a2 : PySem.W.nsIn K mainGlobals "read_figures" = some (some (.ref f2))) (l2 : K.lookup f2 = some ⟨oc2, od2, .func (PySem.W.fnOf "read_figures" "read_figures" (defArgs s_read_figures) (defBody s_read_figures) (defScope s_read_figures) .none kV2 dc2 pm2 an2 cd2 ct2), sl2⟩) (c2 : PySem.W.codeIn K cd2 "read_figures" = true) (k2 : PySem.W.keepIn K (.ref f2) = true)
    (a3 : PySem.W.nsIn K mainGlobals "is_line" = some (some (.ref f3))) (l3 : K.lookup f3 = some ⟨oc3, od3, .func (PySem.W.fnOf "is_line" "is_line" (defArgs s_is_line) (defBody s_is_line) (defScope s_is_line) .none kV3 dc3 pm3 an3 cd3 ct3), sl3⟩) (c3 : PySem.W.codeIn K cd3 "is_line" = true) (k3 : PySem.W.keepIn K (.ref f3) = true)
    (a4 : PySem.W.nsIn K mainGlobals "is_recipe" = some (some (.ref f4))) (l4 : K.lookup f4 = some ⟨oc4, od4, .func (PySem.W.fnOf "is_recipe" "is_recipe" (defArgs s_is_recipe) (defBody s_is_recipe) (defScope s_is_recipe) .none kV4 dc4 pm4 an4 cd4 ct4), sl4⟩) (c4 : PySem.W.codeIn K cd4 "is_recipe" = true) (k4 : PySem.W.keepIn K (.ref f4) = true)
    (a5 : PySem.W.nsIn K mainGlobals "read_line" = some (some (.ref f5))) (l5 : K.lookup f5 = some ⟨oc5, od5, .func (PySem.W.fnOf "read_line" "read_line" (defArgs s_read_line) (defBody s_read_line) (defScope s_read_line) .none kV5 dc5 pm5 an5 cd5 ct5), sl5⟩) (c5 : PySem.W.codeIn K cd5 "read_line" = true) (k5 : PySem.W.keepIn K (.ref f5) = true)
    (a6 : PySem.W.nsIn K mainGlobals "read_recipe" = some (some (.ref f6))) (l6 : K.lookup f6 = some ⟨oc6, od6, .func (PySem.W.fnOf "read_recipe" "read_recipe" (defArgs s_read_recipe) (defBody s_read_recipe) (defScope s_read_recipe) .none kV6 dc6 pm6 an6 cd6 ct6), sl6⟩) (c6 : PySem.W.codeIn K cd6 "read_recipe" = true) (k6 : PySem.W.keepIn K (.ref f6) = true)
    (a7 : PySem.W.nsIn K mainGlobals "shown_line" = some (some (.ref f7))) (l7 : K.lookup f7 = some ⟨oc7, od7, .func (PySem.W.fnOf "shown_line" "shown_line" (defArgs s_shown_line) (defBody s_shown_line) (defScope s_shown_line) .none kV7 dc7 pm7 an7 cd7 ct7), sl7⟩) (c7 : PySem.W.codeIn K cd7 "shown_line" = true) (k7 : PySem.W.keepIn K (.ref f7) = true)
    (a8 : PySem.W.nsIn K mainGlobals "shown_recipe" = some (some (.ref f8))) (l8 : K.lookup f8 = some ⟨oc8, od8, .func (PySem.W.fnOf "shown_recipe" "shown_recipe" (defArgs s_shown_recipe) (defBody s_shown_recipe) (defScope s_shown_recipe) .none kV8 dc8 pm8 an8 cd8 ct8), sl8⟩) (c8 : PySem.W.codeIn K cd8 "shown_recipe" = true) (k8 : PySem.W.keepIn K (.ref f8) = true)
    (a9 : PySem.W.nsIn K mainGlobals "_law_cell_at" = some (some (.ref f9))) (l9 : K.lookup f9 = some ⟨oc9, od9, .func (PySem.W.fnOf "_law_cell_at" "_law_cell_at" (defArgs s__law_cell_at) (defBody s__law_cell_at) (defScope s__law_cell_at) .none kV9 dc9 pm9 an9 cd9 ct9), sl9⟩) (c9 : PySem.W.codeIn K cd9 "_law_cell_at" = true) (k9 : PySem.W.keepIn K (.ref f9) = true)
    (a10 : PySem.W.nsIn K mainGlobals "_law_line" = some (some (.ref f10))) (l10 : K.lookup f10 = some ⟨oc10, od10, .func (PySem.W.fnOf "_law_line" "_law_line" (defArgs s__law_line) (defBody s__law_line) (defScope s__law_line) .none kV10 dc10 pm10 an10 cd10 ct10), sl10⟩) (c10 : PySem.W.codeIn K cd10 "_law_line" = true) (k10 : PySem.W.keepIn K (.ref f10) = true)
    (a11 : PySem.W.nsIn K mainGlobals "_law_lines" = some (some (.ref f11))) (l11 : K.lookup f11 = some ⟨oc11, od11, .func (PySem.W.fnOf "_law_lines" "_law_lines" (defArgs s__law_lines) (defBody s__law_lines) (defScope s__law_lines) .none kV11 dc11 pm11 an11 cd11 ct11), sl11⟩) (c11 : PySem.W.codeIn K cd11 "_law_lines" = true) (k11 : PySem.W.keepIn K (.ref f11) = true)
    (a12 : PySem.W.nsIn K mainGlobals "_law_shown" = some (some (.ref f12))) (l12 : K.lookup f12 = some ⟨oc12, od12, .func (PySem.W.fnOf "_law_shown" "_law_shown" (defArgs s__law_shown) (defBody s__law_shown) (defScope s__law_shown) .none kV12 dc12 pm12 an12 cd12 ct12), sl12⟩) (c12 : PySem.W.codeIn K cd12 "_law_shown" = true) (k12 : PySem.W.keepIn K (.ref f12) = true)
    (a13 : PySem.W.nsIn K mainGlobals "_law_number" = some (some (.ref f13))) (l13 : K.lookup f13 = some ⟨oc13, od13, .func (PySem.W.fnOf "_law_number" "_law_number" (defArgs s__law_number) (defBody s__law_number) (defScope s__law_number) .none kV13 dc13 pm13 an13 cd13 ct13), sl13⟩) (c13 : PySem.W.codeIn K cd13 "_law_number" = true) (k13 : PySem.W.keepIn K (.ref f13) = true)
    (a14 : PySem.W.nsIn K mainGlobals "_law_kinds" = some (some (.ref f14))) (l14 : K.lookup f14 = some ⟨oc14, od14, .func (PySem.W.fnOf "_law_kinds" "_law_kinds" (defArgs s__law_kinds) (defBody s__law_kinds) (defScope s__law_kinds) .none kV14 dc14 pm14 an14 cd14 ct14), sl14⟩) (c14 : PySem.W.codeIn K cd14 "_law_kinds" = true) (k14 : PySem.W.keepIn K (.ref f14) = true)
    (a15 : PySem.W.nsIn K mainGlobals "_law_line_of" = some (some (.ref f15))) (l15 : K.lookup f15 = some ⟨oc15, od15, .func (PySem.W.fnOf "_law_line_of" "_law_line_of" (defArgs s__law_line_of) (defBody s__law_line_of) (defScope s__law_line_of) .none kV15 dc15 pm15 an15 cd15 ct15), sl15⟩) (c15 : PySem.W.codeIn K cd15 "_law_line_of" = true) (k15 : PySem.W.keepIn K (.ref f15) = true)
    (a16 : PySem.W.nsIn K mainGlobals "_law_recipe_of" = some (some (.ref f16))) (l16 : K.lookup f16 = some ⟨oc16, od16, .func (PySem.W.fnOf "_law_recipe_of" "_law_recipe_of" (defArgs s__law_recipe_of) (defBody s__law_recipe_of) (defScope s__law_recipe_of) .none kV16 dc16 pm16 an16 cd16 ct16), sl16⟩) (c16 : PySem.W.codeIn K cd16 "_law_recipe_of" = true) (k16 : PySem.W.keepIn K (.ref f16) = true)
    (a17 : PySem.W.nsIn K mainGlobals "_law_sign" = some (some (.ref f17))) (l17 : K.lookup f17 = some ⟨oc17, od17, .func (PySem.W.fnOf "_law_sign" "_law_sign" (defArgs s__law_sign) (defBody s__law_sign) (defScope s__law_sign) .none kV17 dc17 pm17 an17 cd17 ct17), sl17⟩) (c17 : PySem.W.codeIn K cd17 "_law_sign" = true) (k17 : PySem.W.keepIn K (.ref f17) = true)
    (a18 : PySem.W.nsIn K mainGlobals "_law_other" = some (some (.ref f18))) (l18 : K.lookup f18 = some ⟨oc18, od18, .func (PySem.W.fnOf "_law_other" "_law_other" (defArgs s__law_other) (defBody s__law_other) (defScope s__law_other) .none kV18 dc18 pm18 an18 cd18 ct18), sl18⟩) (c18 : PySem.W.codeIn K cd18 "_law_other" = true) (k18 : PySem.W.keepIn K (.ref f18) = true)
    (a19 : PySem.W.nsIn K mainGlobals "_law_read" = some (some (.ref f19))) (l19 : K.lookup f19 = some ⟨oc19, od19, .func (PySem.W.fnOf "_law_read" "_law_read" (defArgs s__law_read) (defBody s__law_read) (defScope s__law_read) .none kV19 dc19 pm19 an19 cd19 ct19), sl19⟩) (c19 : PySem.W.codeIn K cd19 "_law_read" = true) (k19 : PySem.W.keepIn K (.ref f19) = true)
    (a20 : PySem.W.nsIn K mainGlobals "law" = some (some (.ref f20))) (l20 : K.lookup f20 = some ⟨oc20, od20, .func (PySem.W.fnOf "law" "law" (defArgs s_law) (defBody s_law) (defScope s_law) .none kV20 dc20 pm20 an20 cd20 ct20), sl20⟩) (c20 : PySem.W.codeIn K cd20 "law" = true) (k20 : PySem.W.keepIn K (.ref f20) = true)
    {tk0 tk1 : Tok} (gc0 : PySem.W.nsIn K mainGlobals "FIGURES" = some (some (.str "0123456789" tk0))) (gc1 : PySem.W.nsIn K mainGlobals "LINE_FIGURES" = some (some (.int 6 tk1)))
    {dN : Addr} {esN : Array DictEntry} {nN : Nat} {tA tB tC tD : Tok} (gN : PySem.W.nsIn K mainGlobals "NUMBERS_OF" = some (some (.ref dN))) (lN : K.lookup dN = some ⟨.type "dict", none, .dict esN nN, #[]⟩) (kN : PySem.W.KeysLit w.params esN.toList) (oN : (dN == sysModules) = false) (vA : PySem.W.nsIn K dN "still" = some (some (.int 0 tA))) (vB : PySem.W.nsIn K dN "told" = some (some (.int 1 tB))) (vC : PySem.W.nsIn K dN "behind" = some (some (.int 2 tC))) (vD : PySem.W.nsIn K dN "back" = some (some (.int 1 tD))) {kA kB kC kD : Tok} (eN : esN.toList.map (fun e => e.key) = [Value.str "still" kA, Value.str "told" kB, Value.str "behind" kC, Value.str "back" kD]) (rN : esN.toList.any (fun e => e.refKey) = false) {xC0 xN0 : Addr} {xnm0 xqn0 : Str} {xbs0 xsub0 : List Value} {xhd0 xab0 : Bool} {xsn0 : List Str} {xco0 : Option Bool} {xdd0 : Option Addr} {xka0 xkb0 xkc0 xkd0 xkf0 : Option Value} {xoN0 : Obj} (xg0 : PySem.W.nsIn K mainGlobals "TurnError" = some (some (.ref xC0))) (xl0 : K.lookup xC0 = some (excClassObj xnm0 xqn0 xC0 xN0 xbs0 L2.bmV xhd0 xsn0 xsub0 xab0 xco0 xdd0 xka0 xkb0 xkc0 xkd0 xkf0 "ValueError.__new__")) (xm0 : K.lookup xN0 = some xoN0) (xo0 : PySem.W.nsOkIn K xN0 = true) (xi0 : PySem.W.nsIn K xN0 "__init__" = some none) (xt0 : PySem.W.tailIn K L2.bmV L2.bmV = true) {xC1 xN1 : Addr} {xnm1 xqn1 : Str} {xbs1 xsub1 : List Value} {xhd1 xab1 : Bool} {xsn1 : List Str} {xco1 : Option Bool} {xdd1 : Option Addr} {xka1 xkb1 xkc1 xkd1 xkf1 : Option Value} {xoN1 : Obj} (xg1 : PySem.W.nsIn K mainGlobals "NoText" = some (some (.ref xC1))) (xl1 : K.lookup xC1 = some (excClassObj xnm1 xqn1 xC1 xN1 xbs1 (Value.ref xC0 :: L2.bmV) xhd1 xsn1 xsub1 xab1 xco1 xdd1 xka1 xkb1 xkc1 xkd1 xkf1 "ValueError.__new__")) (xm1 : K.lookup xN1 = some xoN1) (xo1 : PySem.W.nsOkIn K xN1 = true) (xi1 : PySem.W.nsIn K xN1 "__init__" = some none) (xt1 : PySem.W.tailIn K L2.bmV (Value.ref xC0 :: L2.bmV) = true) (xj1 : PySem.W.isIn K (.ref xC1) xC0 = true) {xC2 xN2 : Addr} {xnm2 xqn2 : Str} {xbs2 xsub2 : List Value} {xhd2 xab2 : Bool} {xsn2 : List Str} {xco2 : Option Bool} {xdd2 : Option Addr} {xka2 xkb2 xkc2 xkd2 xkf2 : Option Value} {xoN2 : Obj} (xg2 : PySem.W.nsIn K mainGlobals "NoGroup" = some (some (.ref xC2))) (xl2 : K.lookup xC2 = some (excClassObj xnm2 xqn2 xC2 xN2 xbs2 (Value.ref xC0 :: L2.bmV) xhd2 xsn2 xsub2 xab2 xco2 xdd2 xka2 xkb2 xkc2 xkd2 xkf2 "ValueError.__new__")) (xm2 : K.lookup xN2 = some xoN2) (xo2 : PySem.W.nsOkIn K xN2 = true) (xi2 : PySem.W.nsIn K xN2 "__init__" = some none) (xt2 : PySem.W.tailIn K L2.bmV (Value.ref xC0 :: L2.bmV) = true) (xj2 : PySem.W.isIn K (.ref xC2) xC0 = true) (xp2 : (xC1 == xC2) = false) (xq2 : (xC0 == xC2) = false) {xC3 xN3 : Addr} {xnm3 xqn3 : Str} {xbs3 xsub3 : List Value} {xhd3 xab3 : Bool} {xsn3 : List Str} {xco3 : Option Bool} {xdd3 : Option Addr} {xka3 xkb3 xkc3 xkd3 xkf3 : Option Value} {xoN3 : Obj} (xg3 : PySem.W.nsIn K mainGlobals "NoLine" = some (some (.ref xC3))) (xl3 : K.lookup xC3 = some (excClassObj xnm3 xqn3 xC3 xN3 xbs3 (Value.ref xC0 :: L2.bmV) xhd3 xsn3 xsub3 xab3 xco3 xdd3 xka3 xkb3 xkc3 xkd3 xkf3 "ValueError.__new__")) (xm3 : K.lookup xN3 = some xoN3) (xo3 : PySem.W.nsOkIn K xN3 = true) (xi3 : PySem.W.nsIn K xN3 "__init__" = some none) (xt3 : PySem.W.tailIn K L2.bmV (Value.ref xC0 :: L2.bmV) = true) (xj3 : PySem.W.isIn K (.ref xC3) xC0 = true) (xp3 : (xC1 == xC3) = false) (xq3 : (xC0 == xC3) = false) {xC4 xN4 : Addr} {xnm4 xqn4 : Str} {xbs4 xsub4 : List Value} {xhd4 xab4 : Bool} {xsn4 : List Str} {xco4 : Option Bool} {xdd4 : Option Addr} {xka4 xkb4 xkc4 xkd4 xkf4 : Option Value} {xoN4 : Obj} (xg4 : PySem.W.nsIn K mainGlobals "NoName" = some (some (.ref xC4))) (xl4 : K.lookup xC4 = some (excClassObj xnm4 xqn4 xC4 xN4 xbs4 (Value.ref xC0 :: L2.bmV) xhd4 xsn4 xsub4 xab4 xco4 xdd4 xka4 xkb4 xkc4 xkd4 xkf4 "ValueError.__new__")) (xm4 : K.lookup xN4 = some xoN4) (xo4 : PySem.W.nsOkIn K xN4 = true) (xi4 : PySem.W.nsIn K xN4 "__init__" = some none) (xt4 : PySem.W.tailIn K L2.bmV (Value.ref xC0 :: L2.bmV) = true) (xj4 : PySem.W.isIn K (.ref xC4) xC0 = true) (xp4 : (xC1 == xC4) = false) (xq4 : (xC0 == xC4) = false) {xC5 xN5 : Addr} {xnm5 xqn5 : Str} {xbs5 xsub5 : List Value} {xhd5 xab5 : Bool} {xsn5 : List Str} {xco5 : Option Bool} {xdd5 : Option Addr} {xka5 xkb5 xkc5 xkd5 xkf5 : Option Value} {xoN5 : Obj} (xg5 : PySem.W.nsIn K mainGlobals "NoNumber" = some (some (.ref xC5))) (xl5 : K.lookup xC5 = some (excClassObj xnm5 xqn5 xC5 xN5 xbs5 (Value.ref xC0 :: L2.bmV) xhd5 xsn5 xsub5 xab5 xco5 xdd5 xka5 xkb5 xkc5 xkd5 xkf5 "ValueError.__new__")) (xm5 : K.lookup xN5 = some xoN5) (xo5 : PySem.W.nsOkIn K xN5 = true) (xi5 : PySem.W.nsIn K xN5 "__init__" = some none) (xt5 : PySem.W.tailIn K L2.bmV (Value.ref xC0 :: L2.bmV) = true) (xj5 : PySem.W.isIn K (.ref xC5) xC0 = true) (xp5 : (xC1 == xC5) = false) (xq5 : (xC0 == xC5) = false) {xC6 xN6 : Addr} {xnm6 xqn6 : Str} {xbs6 xsub6 : List Value} {xhd6 xab6 : Bool} {xsn6 : List Str} {xco6 : Option Bool} {xdd6 : Option Addr} {xka6 xkb6 xkc6 xkd6 xkf6 : Option Value} {xoN6 : Obj} (xg6 : PySem.W.nsIn K mainGlobals "NoRecipe" = some (some (.ref xC6))) (xl6 : K.lookup xC6 = some (excClassObj xnm6 xqn6 xC6 xN6 xbs6 (Value.ref xC0 :: L2.bmV) xhd6 xsn6 xsub6 xab6 xco6 xdd6 xka6 xkb6 xkc6 xkd6 xkf6 "ValueError.__new__")) (xm6 : K.lookup xN6 = some xoN6) (xo6 : PySem.W.nsOkIn K xN6 = true) (xi6 : PySem.W.nsIn K xN6 "__init__" = some none) (xt6 : PySem.W.tailIn K L2.bmV (Value.ref xC0 :: L2.bmV) = true) (xj6 : PySem.W.isIn K (.ref xC6) xC0 = true) (xp6 : (xC1 == xC6) = false) (xq6 : (xC0 == xC6) = false) {xC7 xN7 : Addr} {xnm7 xqn7 : Str} {xbs7 xsub7 : List Value} {xhd7 xab7 : Bool} {xsn7 : List Str} {xco7 : Option Bool} {xdd7 : Option Addr} {xka7 xkb7 xkc7 xkd7 xkf7 : Option Value} {xoN7 : Obj} (xg7 : PySem.W.nsIn K mainGlobals "NoThing" = some (some (.ref xC7))) (xl7 : K.lookup xC7 = some (excClassObj xnm7 xqn7 xC7 xN7 xbs7 (Value.ref xC0 :: L2.bmV) xhd7 xsn7 xsub7 xab7 xco7 xdd7 xka7 xkb7 xkc7 xkd7 xkf7 "ValueError.__new__")) (xm7 : K.lookup xN7 = some xoN7) (xo7 : PySem.W.nsOkIn K xN7 = true) (xi7 : PySem.W.nsIn K xN7 "__init__" = some none) (xt7 : PySem.W.tailIn K L2.bmV (Value.ref xC0 :: L2.bmV) = true) (xj7 : PySem.W.isIn K (.ref xC7) xC0 = true) (xp7 : (xC1 == xC7) = false) (xq7 : (xC0 == xC7) = false) {xC8 xN8 : Addr} {xnm8 xqn8 : Str} {xbs8 xsub8 : List Value} {xhd8 xab8 : Bool} {xsn8 : List Str} {xco8 : Option Bool} {xdd8 : Option Addr} {xka8 xkb8 xkc8 xkd8 xkf8 : Option Value} {xoN8 : Obj} (xg8 : PySem.W.nsIn K mainGlobals "NoTurning" = some (some (.ref xC8))) (xl8 : K.lookup xC8 = some (excClassObj xnm8 xqn8 xC8 xN8 xbs8 (Value.ref xC0 :: L2.bmV) xhd8 xsn8 xsub8 xab8 xco8 xdd8 xka8 xkb8 xkc8 xkd8 xkf8 "ValueError.__new__")) (xm8 : K.lookup xN8 = some xoN8) (xo8 : PySem.W.nsOkIn K xN8 = true) (xi8 : PySem.W.nsIn K xN8 "__init__" = some none) (xt8 : PySem.W.tailIn K L2.bmV (Value.ref xC0 :: L2.bmV) = true) (xj8 : PySem.W.isIn K (.ref xC8) xC0 = true) (xp8 : (xC1 == xC8) = false) (xq8 : (xC0 == xC8) = false) {xC9 xN9 : Addr} {xnm9 xqn9 : Str} {xbs9 xsub9 : List Value} {xhd9 xab9 : Bool} {xsn9 : List Str} {xco9 : Option Bool} {xdd9 : Option Addr} {xka9 xkb9 xkc9 xkd9 xkf9 : Option Value} {xoN9 : Obj} (xg9 : PySem.W.nsIn K mainGlobals "NotIn" = some (some (.ref xC9))) (xl9 : K.lookup xC9 = some (excClassObj xnm9 xqn9 xC9 xN9 xbs9 (Value.ref xC0 :: L2.bmV) xhd9 xsn9 xsub9 xab9 xco9 xdd9 xka9 xkb9 xkc9 xkd9 xkf9 "ValueError.__new__")) (xm9 : K.lookup xN9 = some xoN9) (xo9 : PySem.W.nsOkIn K xN9 = true) (xi9 : PySem.W.nsIn K xN9 "__init__" = some none) (xt9 : PySem.W.tailIn K L2.bmV (Value.ref xC0 :: L2.bmV) = true) (xj9 : PySem.W.isIn K (.ref xC9) xC0 = true) (xp9 : (xC1 == xC9) = false) (xq9 : (xC0 == xC9) = false) {xC10 xN10 : Addr} {xnm10 xqn10 : Str} {xbs10 xsub10 : List Value} {xhd10 xab10 : Bool} {xsn10 : List Str} {xco10 : Option Bool} {xdd10 : Option Addr} {xka10 xkb10 xkc10 xkd10 xkf10 : Option Value} {xoN10 : Obj} (xg10 : PySem.W.nsIn K mainGlobals "NotPart" = some (some (.ref xC10))) (xl10 : K.lookup xC10 = some (excClassObj xnm10 xqn10 xC10 xN10 xbs10 (Value.ref xC0 :: L2.bmV) xhd10 xsn10 xsub10 xab10 xco10 xdd10 xka10 xkb10 xkc10 xkd10 xkf10 "ValueError.__new__")) (xm10 : K.lookup xN10 = some xoN10) (xo10 : PySem.W.nsOkIn K xN10 = true) (xi10 : PySem.W.nsIn K xN10 "__init__" = some none) (xt10 : PySem.W.tailIn K L2.bmV (Value.ref xC0 :: L2.bmV) = true) (xj10 : PySem.W.isIn K (.ref xC10) xC0 = true) (xp10 : (xC1 == xC10) = false) (xq10 : (xC0 == xC10) = false) {xC11 xN11 : Addr} {xnm11 xqn11 : Str} {xbs11 xsub11 : List Value} {xhd11 xab11 : Bool} {xsn11 : List Str} {xco11 : Option Bool} {xdd11 : Option Addr} {xka11 xkb11 xkc11 xkd11 xkf11 : Option Value} {xoN11 : Obj} (xg11 : PySem.W.nsIn K mainGlobals "TooMany" = some (some (.ref xC11))) (xl11 : K.lookup xC11 = some (excClassObj xnm11 xqn11 xC11 xN11 xbs11 (Value.ref xC0 :: L2.bmV) xhd11 xsn11 xsub11 xab11 xco11 xdd11 xka11 xkb11 xkc11 xkd11 xkf11 "ValueError.__new__")) (xm11 : K.lookup xN11 = some xoN11) (xo11 : PySem.W.nsOkIn K xN11 = true) (xi11 : PySem.W.nsIn K xN11 "__init__" = some none) (xt11 : PySem.W.tailIn K L2.bmV (Value.ref xC0 :: L2.bmV) = true) (xj11 : PySem.W.isIn K (.ref xC11) xC0 = true) (xp11 : (xC1 == xC11) = false) (xq11 : (xC0 == xC11) = false) (xv : PySem.W.nsIn K mainGlobals "ValueError" = some none)
    (z0 : PySem.W.nsIn K mainGlobals "len" = some none) (z1 : PySem.W.nsIn K mainGlobals "range" = some none) (z2 : PySem.W.nsIn K mainGlobals "list" = some none) (z3 : PySem.W.nsIn K mainGlobals "tuple" = some none) (z4 : PySem.W.nsIn K mainGlobals "isinstance" = some none) (z5 : PySem.W.nsIn K mainGlobals "int" = some none) (z6 : PySem.W.nsIn K mainGlobals "bool" = some none) (z7 : PySem.W.nsIn K mainGlobals "str" = some none) (z8 : PySem.W.nsIn K mainGlobals "enumerate" = some none) (z9 : PySem.W.nsIn K mainGlobals "sorted" = some none) (z10 : PySem.W.nsIn K mainGlobals "sum" = some none) (z11 : PySem.W.nsIn K mainGlobals "all" = some none) (z12 : PySem.W.nsIn K mainGlobals "set" = some none) (z13 : PySem.W.nsIn K mainGlobals "reversed" = some none) (z14 : PySem.W.nsIn K mainGlobals "divmod" = some none) (z15 : PySem.W.nsIn K mainGlobals "max" = some none) (z16 : PySem.W.nsIn K mainGlobals "min" = some none) :
    ∃ fd : FuncData, (∀ (s : Shared) (v : Value), BindsTo s fd ⟨[v], []⟩ [("_law_script", v)]) ∧ ∀ base : Heap, K.In base → base.Ns mainGlobals mg → FnOk l.prog w K mg base CX0 8 fa fd ["_law_script"] (spLaw K) := by
  have e := hfa.symm.trans (PySem.W.mg_of X G a20)
  cases e
  have B : Blt mg := ⟨PySem.W.mg_none_of X G z0, PySem.W.mg_none_of X G z1, PySem.W.mg_none_of X G z2, PySem.W.mg_none_of X G z3, PySem.W.mg_none_of X G z4, PySem.W.mg_none_of X G z5, PySem.W.mg_none_of X G z6, PySem.W.mg_none_of X G z7, PySem.W.mg_none_of X G z8, PySem.W.mg_none_of X G z9, PySem.W.mg_none_of X G z10, PySem.W.mg_none_of X G z11, PySem.W.mg_none_of X G z12, PySem.W.mg_none_of X G z13, PySem.W.mg_none_of X G z14, PySem.W.mg_none_of X G z15, PySem.W.mg_none_of X G z16⟩
  have KFIGURES : Glob mg "FIGURES" (.str sFig) := ⟨_, PySem.W.mg_of X G gc0, ⟨_, rfl⟩⟩
  have KLINE_FIGURES : Glob mg "LINE_FIGURES" (.int 6) := ⟨_, PySem.W.mg_of X G gc1, ⟨_, rfl⟩⟩
  have KNUM : NumOf K w mg dN := ⟨⟨_, PySem.W.mg_of X G gN, rfl⟩, ⟨⟨_, _, lN, kN⟩, oN⟩, fun l => match l with | .still => ⟨_, vA⟩ | .told _ => ⟨_, vB⟩ | .behind _ _ => ⟨_, vC⟩ | .back _ => ⟨_, vD⟩⟩
  have KWA : WordsAll K dN := words_all lN eN rN vA vB vC vD
  have KERT : ErrTop K mg xC0 := ⟨PySem.W.mg_of X G xg0, XCls.mk' xl0 xm0 xo0 xi0 xt0, PySem.W.mg_none_of X G xv⟩
  have KERA : ErrAt K mg xC0 "NoText" xC1 := ⟨PySem.W.mg_of X G xg1, XCls.mk' xl1 xm1 xo1 xi1 xt1, xj1⟩
  have KERO : Others K mg xC0 xC1 ["NoGroup", "NoLine", "NoName", "NoNumber", "NoRecipe", "NoThing", "NoTurning", "NotIn", "NotPart", "TooMany"] [xC2, xC3, xC4, xC5, xC6, xC7, xC8, xC9, xC10, xC11] := ⟨(.cons ⟨⟨PySem.W.mg_of X G xg2, XCls.mk' xl2 xm2 xo2 xi2 xt2, xj2⟩, xp2, xq2⟩ (.cons ⟨⟨PySem.W.mg_of X G xg3, XCls.mk' xl3 xm3 xo3 xi3 xt3, xj3⟩, xp3, xq3⟩ (.cons ⟨⟨PySem.W.mg_of X G xg4, XCls.mk' xl4 xm4 xo4 xi4 xt4, xj4⟩, xp4, xq4⟩ (.cons ⟨⟨PySem.W.mg_of X G xg5, XCls.mk' xl5 xm5 xo5 xi5 xt5, xj5⟩, xp5, xq5⟩ (.cons ⟨⟨PySem.W.mg_of X G xg6, XCls.mk' xl6 xm6 xo6 xi6 xt6, xj6⟩, xp6, xq6⟩ (.cons ⟨⟨PySem.W.mg_of X G xg7, XCls.mk' xl7 xm7 xo7 xi7 xt7, xj7⟩, xp7, xq7⟩ (.cons ⟨⟨PySem.W.mg_of X G xg8, XCls.mk' xl8 xm8 xo8 xi8 xt8, xj8⟩, xp8, xq8⟩ (.cons ⟨⟨PySem.W.mg_of X G xg9, XCls.mk' xl9 xm9 xo9 xi9 xt9, xj9⟩, xp9, xq9⟩ (.cons ⟨⟨PySem.W.mg_of X G xg10, XCls.mk' xl10 xm10 xo10 xi10 xt10, xj10⟩, xp10, xq10⟩ (.cons ⟨⟨PySem.W.mg_of X G xg11, XCls.mk' xl11 xm11 xo11 xi11 xt11, xj11⟩, xp11, xq11⟩ .nil))))))))))⟩
  have D0 : Def K mg "is_whole" s_is_whole ["thing"] _ _ := ⟨fun_mk (st := s_is_whole) l0 c0 k0, (fun_mk (st := s_is_whole) l0 c0 k0).binds (ps := ["thing"]) fun _ _ _ _ _ _ us hl => match us, hl with | [_], _ => rfl, PySem.W.mg_of X G a0⟩
  have D1 : Def K mg "need_text" s_need_text ["thing"] _ _ := ⟨fun_mk (st := s_need_text) l1 c1 k1, (fun_mk (st := s_need_text) l1 c1 k1).binds (ps := ["thing"]) fun _ _ _ _ _ _ us hl => match us, hl with | [_], _ => rfl, PySem.W.mg_of X G a1⟩
  have D2 : Def K mg "read_figures" s_read_figures ["text", "most"] _ _ := ⟨fun_mk (st := s_read_figures) l2 c2 k2, (fun_mk (st := s_read_figures) l2 c2 k2).binds (ps := ["text", "most"]) fun _ _ _ _ _ _ us hl => match us, hl with | [_, _], _ => rfl, PySem.W.mg_of X G a2⟩
  have D3 : Def K mg "is_line" s_is_line ["thing", "ahead", "count"] _ _ := ⟨fun_mk (st := s_is_line) l3 c3 k3, (fun_mk (st := s_is_line) l3 c3 k3).binds (ps := ["thing", "ahead", "count"]) fun _ _ _ _ _ _ us hl => match us, hl with | [_, _, _], _ => rfl, PySem.W.mg_of X G a3⟩
  have D4 : Def K mg "is_recipe" s_is_recipe ["thing", "count"] _ _ := ⟨fun_mk (st := s_is_recipe) l4 c4 k4, (fun_mk (st := s_is_recipe) l4 c4 k4).binds (ps := ["thing", "count"]) fun _ _ _ _ _ _ us hl => match us, hl with | [_, _], _ => rfl, PySem.W.mg_of X G a4⟩
  have D5 : Def K mg "read_line" s_read_line ["text"] _ _ := ⟨fun_mk (st := s_read_line) l5 c5 k5, (fun_mk (st := s_read_line) l5 c5 k5).binds (ps := ["text"]) fun _ _ _ _ _ _ us hl => match us, hl with | [_], _ => rfl, PySem.W.mg_of X G a5⟩
  have D6 : Def K mg "read_recipe" s_read_recipe ["text", "count"] _ _ := ⟨fun_mk (st := s_read_recipe) l6 c6 k6, (fun_mk (st := s_read_recipe) l6 c6 k6).binds (ps := ["text", "count"]) fun _ _ _ _ _ _ us hl => match us, hl with | [_, _], _ => rfl, PySem.W.mg_of X G a6⟩
  have D7 : Def K mg "shown_line" s_shown_line ["line"] _ _ := ⟨fun_mk (st := s_shown_line) l7 c7 k7, (fun_mk (st := s_shown_line) l7 c7 k7).binds (ps := ["line"]) fun _ _ _ _ _ _ us hl => match us, hl with | [_], _ => rfl, PySem.W.mg_of X G a7⟩
  have D8 : Def K mg "shown_recipe" s_shown_recipe ["lines"] _ _ := ⟨fun_mk (st := s_shown_recipe) l8 c8 k8, (fun_mk (st := s_shown_recipe) l8 c8 k8).binds (ps := ["lines"]) fun _ _ _ _ _ _ us hl => match us, hl with | [_], _ => rfl, PySem.W.mg_of X G a8⟩
  have D9 : Def K mg "_law_cell_at" s__law_cell_at ["_law_script", "_law_k"] _ _ := ⟨fun_mk (st := s__law_cell_at) l9 c9 k9, (fun_mk (st := s__law_cell_at) l9 c9 k9).binds (ps := ["_law_script", "_law_k"]) fun _ _ _ _ _ _ us hl => match us, hl with | [_, _], _ => rfl, PySem.W.mg_of X G a9⟩
  have D10 : Def K mg "_law_line" s__law_line ["_law_cell", "_law_at", "_law_count"] _ _ := ⟨fun_mk (st := s__law_line) l10 c10 k10, (fun_mk (st := s__law_line) l10 c10 k10).binds (ps := ["_law_cell", "_law_at", "_law_count"]) fun _ _ _ _ _ _ us hl => match us, hl with | [_, _, _], _ => rfl, PySem.W.mg_of X G a10⟩
  have D11 : Def K mg "_law_lines" s__law_lines ["_law_cells", "_law_count"] _ _ := ⟨fun_mk (st := s__law_lines) l11 c11 k11, (fun_mk (st := s__law_lines) l11 c11 k11).binds (ps := ["_law_cells", "_law_count"]) fun _ _ _ _ _ _ us hl => match us, hl with | [_, _], _ => rfl, PySem.W.mg_of X G a11⟩
  have D12 : Def K mg "_law_shown" s__law_shown ["_law_lines_here"] _ _ := ⟨fun_mk (st := s__law_shown) l12 c12 k12, (fun_mk (st := s__law_shown) l12 c12 k12).binds (ps := ["_law_lines_here"]) fun _ _ _ _ _ _ us hl => match us, hl with | [_], _ => rfl, PySem.W.mg_of X G a12⟩
  have D13 : Def K mg "_law_number" s__law_number ["_law_word"] _ _ := ⟨fun_mk (st := s__law_number) l13 c13 k13, (fun_mk (st := s__law_number) l13 c13 k13).binds (ps := ["_law_word"]) fun _ _ _ _ _ _ us hl => match us, hl with | [_], _ => rfl, PySem.W.mg_of X G a13⟩
  have D14 : Def K mg "_law_kinds" s__law_kinds ["_law_found"] _ _ := ⟨fun_mk (st := s__law_kinds) l14 c14 k14, (fun_mk (st := s__law_kinds) l14 c14 k14).binds (ps := ["_law_found"]) fun _ _ _ _ _ _ us hl => match us, hl with | [_], _ => rfl, PySem.W.mg_of X G a14⟩
  have D15 : Def K mg "_law_line_of" s__law_line_of ["_law_text", "_law_at", "_law_count"] _ _ := ⟨fun_mk (st := s__law_line_of) l15 c15 k15, (fun_mk (st := s__law_line_of) l15 c15 k15).binds (ps := ["_law_text", "_law_at", "_law_count"]) fun _ _ _ _ _ _ us hl => match us, hl with | [_, _, _], _ => rfl, PySem.W.mg_of X G a15⟩
  have D16 : Def K mg "_law_recipe_of" s__law_recipe_of ["_law_text", "_law_count"] _ _ := ⟨fun_mk (st := s__law_recipe_of) l16 c16 k16, (fun_mk (st := s__law_recipe_of) l16 c16 k16).binds (ps := ["_law_text", "_law_count"]) fun _ _ _ _ _ _ us hl => match us, hl with | [_, _], _ => rfl, PySem.W.mg_of X G a16⟩
  have D17 : Def K mg "_law_sign" s__law_sign ["_law_cell"] _ _ := ⟨fun_mk (st := s__law_sign) l17 c17 k17, (fun_mk (st := s__law_sign) l17 c17 k17).binds (ps := ["_law_cell"]) fun _ _ _ _ _ _ us hl => match us, hl with | [_], _ => rfl, PySem.W.mg_of X G a17⟩
  have D18 : Def K mg "_law_other" s__law_other ["_law_text", "_law_cell"] _ _ := ⟨fun_mk (st := s__law_other) l18 c18 k18, (fun_mk (st := s__law_other) l18 c18 k18).binds (ps := ["_law_text", "_law_cell"]) fun _ _ _ _ _ _ us hl => match us, hl with | [_, _], _ => rfl, PySem.W.mg_of X G a18⟩
  have D19 : Def K mg "_law_read" s__law_read ["_law_text", "_law_count"] _ _ := ⟨fun_mk (st := s__law_read) l19 c19 k19, (fun_mk (st := s__law_read) l19 c19 k19).binds (ps := ["_law_text", "_law_count"]) fun _ _ _ _ _ _ us hl => match us, hl with | [_, _], _ => rfl, PySem.W.mg_of X G a19⟩
  have D20 : Def K mg "law" s_law ["_law_script"] _ _ := ⟨fun_mk (st := s_law) l20 c20 k20, (fun_mk (st := s_law) l20 c20 k20).binds (ps := ["_law_script"]) fun _ _ _ _ _ _ us hl => match us, hl with | [_], _ => rfl, PySem.W.mg_of X G a20⟩
  refine ⟨PySem.W.fnOf "law" "law" (defArgs s_law) (defBody s_law) (defScope s_law) .none kV20 dc20 pm20 an20 cd20 ct20, fun s v => .of_eq rfl, fun base _ _ => ?_⟩
  have Kis_whole : Known l.prog w K mg base 1 "is_whole" ["thing"] (spWholeD) := D0.known (ok_is_whole D0 B)
  have Kneed_text : KnownX l.prog w K mg base 1 "need_text" ["thing"] (spNeedTextT xC1) := ok_need_text D1 B KERA
  have Kread_figures : KnownX l.prog w K mg base 1 "read_figures" ["text", "most"] (spFigsT xC1) := ok_read_figures D2 B KFIGURES KERA
  have Kis_line : Known l.prog w K mg base 2 "is_line" ["thing", "ahead", "count"] (spIsLineD K dN) := D3.known (ok_is_line D3 B Kis_whole KNUM)
  have Kis_recipe : Known l.prog w K mg base 3 "is_recipe" ["thing", "count"] (spIsRecipeD K dN) := D4.known (ok_is_recipe D4 B Kis_line)
  have Kread_line : KnownX l.prog w K mg base 2 "read_line" ["text"] (spLineT xC1) := ok_read_line D5 B KLINE_FIGURES Kread_figures
  have Kread_recipe : KnownX l.prog w K mg base 4 "read_recipe" ["text", "count"] (spRecT xC1) := ok_read_recipe D6 B KERA Kneed_text Kread_line Kis_recipe KWA
  have Kshown_line : Known l.prog w K mg base 1 "shown_line" ["line"] (spShownLine K) := D7.known (ok_shown_line D7 B)
  have Kshown_recipe : Known l.prog w K mg base 2 "shown_recipe" ["lines"] (spShownRec K) := D8.known (ok_shown_recipe D8 B Kshown_line)
  have K_law_cell_at : Known l.prog w K mg base 1 "_law_cell_at" ["_law_script", "_law_k"] (spCellAt K) := D9.known (ok__law_cell_at D9 B)
  have K_law_line : Known l.prog w K mg base 1 "_law_line" ["_law_cell", "_law_at", "_law_count"] (spLine) := D10.known (ok__law_line D10 B)
  have K_law_lines : Known l.prog w K mg base 2 "_law_lines" ["_law_cells", "_law_count"] (spLines K) := D11.known (ok__law_lines D11 B K_law_line)
  have K_law_shown : Known l.prog w K mg base 1 "_law_shown" ["_law_lines_here"] (spShownRec K) := D12.known (ok__law_shown D12 B)
  have K_law_number : Known l.prog w K mg base 1 "_law_number" ["_law_word"] (spNumI) := D13.known (ok__law_number D13 B)
  have K_law_kinds : Known l.prog w K mg base 1 "_law_kinds" ["_law_found"] (spKinds26) := D14.known (ok__law_kinds D14 B)
  have K_law_line_of : Known l.prog w K mg base 2 "_law_line_of" ["_law_text", "_law_at", "_law_count"] (spLineOf) := D15.known (ok__law_line_of D15 B K_law_number)
  have K_law_recipe_of : Known l.prog w K mg base 3 "_law_recipe_of" ["_law_text", "_law_count"] (spRecOf) := D16.known (ok__law_recipe_of D16 B K_law_line_of)
  have K_law_sign : Known l.prog w K mg base 1 "_law_sign" ["_law_cell"] (spSign) := D17.known (ok__law_sign D17 B)
  have K_law_other : Known l.prog w K mg base 2 "_law_other" ["_law_text", "_law_cell"] (spOther26) := D18.known (ok__law_other D18 B K_law_sign)
  have K_law_read : Known l.prog w K mg base 5 "_law_read" ["_law_text", "_law_count"] (spRead26) := D19.known (ok__law_read D19 B Kread_recipe K_law_kinds KERT KERA KERO)
  exact ok_law D20 B K_law_cell_at K_law_lines Kshown_recipe K_law_shown K_law_read K_law_other K_law_recipe_of
end Tb
open PySem PySem.W PyProof.Rows
set_option maxRecDepth 100000 in
set_option maxHeartbeats 0 in
theorem PySem.Challenge.cw_turnbase_k26_recipes_shown_and_read_holds : PySem.Challenge.rw_turnbase_k26_recipes_shown_and_read.Holds := by
  w_on; o_law; k_head; (case hw => w_witness2)
  k_fill
  refine Tb.walk (l := PySem.Challenge.rw_turnbase_k26_recipes_shown_and_read) (k := 8) (x := "_law_script") rfl rfl ⟨rfl, by decide, by decide⟩ (fun w h Y => PySem.W.kIn_of Y) ?F
  case F =>
    intro w mg fa h KX G hmg
    refine' Tb.all_mk KX G hmg ?a0 ?l0 ?c0 ?k0 ?a1 ?l1 ?c1 ?k1 ?a2 ?l2 ?c2 ?k2 ?a3 ?l3 ?c3 ?k3 ?a4 ?l4 ?c4 ?k4 ?a5 ?l5 ?c5 ?k5 ?a6 ?l6 ?c6 ?k6 ?a7 ?l7 ?c7 ?k7 ?a8 ?l8 ?c8 ?k8 ?a9 ?l9 ?c9 ?k9 ?a10 ?l10 ?c10 ?k10 ?a11 ?l11 ?c11 ?k11 ?a12 ?l12 ?c12 ?k12 ?a13 ?l13 ?c13 ?k13 ?a14 ?l14 ?c14 ?k14 ?a15 ?l15 ?c15 ?k15 ?a16 ?l16 ?c16 ?k16 ?a17 ?l17 ?c17 ?k17 ?a18 ?l18 ?c18 ?k18 ?a19 ?l19 ?c19 ?k19 ?a20 ?l20 ?c20 ?k20 ?gc0 ?gc1 ?gN ?lN ?kN ?oN ?vA ?vB ?vC ?vD ?eN ?rN ?xg0 ?xl0 ?xm0 ?xo0 ?xi0 ?xt0 ?xg1 ?xl1 ?xm1 ?xo1 ?xi1 ?xt1 ?xj1 ?xg2 ?xl2 ?xm2 ?xo2 ?xi2 ?xt2 ?xj2 ?xp2 ?xq2 ?xg3 ?xl3 ?xm3 ?xo3 ?xi3 ?xt3 ?xj3 ?xp3 ?xq3 ?xg4 ?xl4 ?xm4 ?xo4 ?xi4 ?xt4 ?xj4 ?xp4 ?xq4 ?xg5 ?xl5 ?xm5 ?xo5 ?xi5 ?xt5 ?xj5 ?xp5 ?xq5 ?xg6 ?xl6 ?xm6 ?xo6 ?xi6 ?xt6 ?xj6 ?xp6 ?xq6 ?xg7 ?xl7 ?xm7 ?xo7 ?xi7 ?xt7 ?xj7 ?xp7 ?xq7 ?xg8 ?xl8 ?xm8 ?xo8 ?xi8 ?xt8 ?xj8 ?xp8 ?xq8 ?xg9 ?xl9 ?xm9 ?xo9 ?xi9 ?xt9 ?xj9 ?xp9 ?xq9 ?xg10 ?xl10 ?xm10 ?xo10 ?xi10 ?xt10 ?xj10 ?xp10 ?xq10 ?xg11 ?xl11 ?xm11 ?xo11 ?xi11 ?xt11 ?xj11 ?xp11 ?xq11 ?xv ?z0 ?z1 ?z2 ?z3 ?z4 ?z5 ?z6 ?z7 ?z8 ?z9 ?z10 ?z11 ?z12 ?z13 ?z14 ?z15 ?z16
    (case a0 => k_is)
    (case l0 => k_is)
    (case c0 => k_is)
    (case k0 => k_is)
    (case a1 => k_is)
    (case l1 => k_is)
    (case c1 => k_is)
    (case k1 => k_is)
    (case a2 => k_is)
    (case l2 => k_is)
    (case c2 => k_is)
    (case k2 => k_is)
    (case a3 => k_is)
    (case l3 => k_is)
    (case c3 => k_is)
    (case k3 => k_is)
    (case a4 => k_is)
    (case l4 => k_is)
    (case c4 => k_is)
    (case k4 => k_is)
    (case a5 => k_is)
    (case l5 => k_is)
    (case c5 => k_is)
    (case k5 => k_is)
    (case a6 => k_is)
    (case l6 => k_is)
    (case c6 => k_is)
    (case k6 => k_is)
    (case a7 => k_is)
    (case l7 => k_is)
    (case c7 => k_is)
    (case k7 => k_is)
    (case a8 => k_is)
    (case l8 => k_is)
    (case c8 => k_is)
    (case k8 => k_is)
    (case a9 => k_is)
    (case l9 => k_is)
    (case c9 => k_is)
    (case k9 => k_is)
    (case a10 => k_is)
    (case l10 => k_is)
    (case c10 => k_is)
    (case k10 => k_is)
    (case a11 => k_is)
    (case l11 => k_is)
    (case c11 => k_is)
    (case k11 => k_is)
    (case a12 => k_is)
    (case l12 => k_is)
    (case c12 => k_is)
    (case k12 => k_is)
    (case a13 => k_is)
    (case l13 => k_is)
    (case c13 => k_is)
    (case k13 => k_is)
    (case a14 => k_is)
    (case l14 => k_is)
    (case c14 => k_is)
    (case k14 => k_is)
    (case a15 => k_is)
    (case l15 => k_is)
    (case c15 => k_is)
    (case k15 => k_is)
    (case a16 => k_is)
    (case l16 => k_is)
    (case c16 => k_is)
    (case k16 => k_is)
    (case a17 => k_is)
    (case l17 => k_is)
    (case c17 => k_is)
    (case k17 => k_is)
    (case a18 => k_is)
    (case l18 => k_is)
    (case c18 => k_is)
    (case k18 => k_is)
    (case a19 => k_is)
    (case l19 => k_is)
    (case c19 => k_is)
    (case k19 => k_is)
    (case a20 => k_is)
    (case l20 => k_is)
    (case c20 => k_is)
    (case k20 => k_is)
    (case gc0 => k_is)
    (case gc1 => k_is)
    (case gN => k_is)
    (case lN => k_is)
    (case kN => k_keys)
    (case oN => decide)
    (case vA => k_is)
    (case vB => k_is)
    (case vC => k_is)
    (case vD => k_is)
    (case eN => exact rfl)
    (case rN => kernel_rfl)
    (case xg0 => k_is)
    (case xl0 => k_is)
    (case xm0 => k_is)
    (case xo0 => kernel_rfl)
    (case xi0 => k_is)
    (case xt0 => kernel_rfl)
    (case xg1 => k_is)
    (case xl1 => k_is)
    (case xm1 => k_is)
    (case xo1 => kernel_rfl)
    (case xi1 => k_is)
    (case xt1 => kernel_rfl)
    (case xj1 => k_is)
    (case xg2 => k_is)
    (case xl2 => k_is)
    (case xm2 => k_is)
    (case xo2 => kernel_rfl)
    (case xi2 => k_is)
    (case xt2 => kernel_rfl)
    (case xj2 => k_is)
    (case xp2 => decide)
    (case xq2 => decide)
    (case xg3 => k_is)
    (case xl3 => k_is)
    (case xm3 => k_is)
    (case xo3 => kernel_rfl)
    (case xi3 => k_is)
    (case xt3 => kernel_rfl)
    (case xj3 => k_is)
    (case xp3 => decide)
    (case xq3 => decide)
    (case xg4 => k_is)
    (case xl4 => k_is)
    (case xm4 => k_is)
    (case xo4 => kernel_rfl)
    (case xi4 => k_is)
    (case xt4 => kernel_rfl)
    (case xj4 => k_is)
    (case xp4 => decide)
    (case xq4 => decide)
    (case xg5 => k_is)
    (case xl5 => k_is)
    (case xm5 => k_is)
    (case xo5 => kernel_rfl)
    (case xi5 => k_is)
    (case xt5 => kernel_rfl)
    (case xj5 => k_is)
    (case xp5 => decide)
    (case xq5 => decide)
    (case xg6 => k_is)
    (case xl6 => k_is)
    (case xm6 => k_is)
    (case xo6 => kernel_rfl)
    (case xi6 => k_is)
    (case xt6 => kernel_rfl)
    (case xj6 => k_is)
    (case xp6 => decide)
    (case xq6 => decide)
    (case xg7 => k_is)
    (case xl7 => k_is)
    (case xm7 => k_is)
    (case xo7 => kernel_rfl)
    (case xi7 => k_is)
    (case xt7 => kernel_rfl)
    (case xj7 => k_is)
    (case xp7 => decide)
    (case xq7 => decide)
    (case xg8 => k_is)
    (case xl8 => k_is)
    (case xm8 => k_is)
    (case xo8 => kernel_rfl)
    (case xi8 => k_is)
    (case xt8 => kernel_rfl)
    (case xj8 => k_is)
    (case xp8 => decide)
    (case xq8 => decide)
    (case xg9 => k_is)
    (case xl9 => k_is)
    (case xm9 => k_is)
    (case xo9 => kernel_rfl)
    (case xi9 => k_is)
    (case xt9 => kernel_rfl)
    (case xj9 => k_is)
    (case xp9 => decide)
    (case xq9 => decide)
    (case xg10 => k_is)
    (case xl10 => k_is)
    (case xm10 => k_is)
    (case xo10 => kernel_rfl)
    (case xi10 => k_is)
    (case xt10 => kernel_rfl)
    (case xj10 => k_is)
    (case xp10 => decide)
    (case xq10 => decide)
    (case xg11 => k_is)
    (case xl11 => k_is)
    (case xm11 => k_is)
    (case xo11 => kernel_rfl)
    (case xi11 => k_is)
    (case xt11 => kernel_rfl)
    (case xj11 => k_is)
    (case xp11 => decide)
    (case xq11 => decide)
    (case xv => k_is)
    (case z0 => k_is)
    (case z1 => k_is)
    (case z2 => k_is)
    (case z3 => k_is)
    (case z4 => k_is)
    (case z5 => k_is)
    (case z6 => k_is)
    (case z7 => k_is)
    (case z8 => k_is)
    (case z9 => k_is)
    (case z10 => k_is)
    (case z11 => k_is)
    (case z12 => k_is)
    (case z13 => k_is)
    (case z14 => k_is)
    (case z15 => k_is)
    (case z16 => k_is)
