import PyProof.Rows.All
import Wide.All
import OpenK.AllK
import Wide.FinOn
import Lean
import PyProof.EqAt
import PyProof.EqKinds
import PyProof.NeKinds
import PyProof.TupleCall
import PySem.Challenge.RW_onehue_k10_which_refusal
noncomputable section
set_option Elab.async false
set_option linter.all false
set_option maxRecDepth 100000
/-! THE HAND LAYER, for ints, bools, texts, own classes, LISTS and tuples (index, slices, in, append, pop ..), calls, loops. Paste it whole ahead of your own text; what your proof does not reach may be deleted. -/
namespace L2
open PySem PySem.Spec PyProof.Rows

/-- a key: an int or a str -/
abbrev Key := Sum Int Str
def keyIs : Key → Value → Bool
  | .inl k, v => Value.isInt k v
  | .inr x, v => Value.isStrOf x v
def keyH (w : World) : Key → Int
  | .inl k => hashInt k
  | .inr x => hashStr w x
theorem keyIs_shape : ∀ {k : Key} {v : Value}, keyIs k v = true → (∃ i t, k = Sum.inl i ∧ v = Value.int i t) ∨ (∃ x t, k = Sum.inr x ∧ v = Value.str x t)
  | .inl i, v, h => by
    obtain ⟨t, e⟩ := Value.isInt_shape (k := i) (v := v) h
    exact .inl ⟨i, t, rfl, e⟩
  | .inr x, v, h => by
    obtain ⟨t, e⟩ := Value.isStrOf_shape (x := x) (v := v) h
    exact .inr ⟨x, t, rfl, e⟩
theorem keyIs_int (i : Int) (t : Tok) : keyIs (.inl i) (.int i t) = true := by simp [keyIs, Value.isInt]
theorem keyIs_str (x : Str) (t : Tok) : keyIs (.inr x) (.str x t) = true := by simp [keyIs, Value.isStrOf]
theorem key_ll (a b : Int) : decide ((Sum.inl a : Key) = Sum.inl b) = (a == b) := by
  by_cases e : a = b
  · subst e; simp
  · have h : ¬ (Sum.inl a : Key) = Sum.inl b := fun q => e (Sum.inl.inj q)
    rw [decide_eq_false h]
    exact (beq_eq_false_iff_ne.mpr e).symm
theorem key_rr (a b : Str) : decide ((Sum.inr a : Key) = Sum.inr b) = decide (a = b) := by
  by_cases e : a = b
  · subst e; simp
  · have h : ¬ (Sum.inr a : Key) = Sum.inr b := fun q => e (Sum.inr.inj q)
    rw [decide_eq_false h, decide_eq_false e]
theorem key_lr (a : Int) (b : Str) : decide ((Sum.inl a : Key) = Sum.inr b) = false := decide_eq_false (fun q => nomatch q)
theorem key_rl (a : Str) (b : Int) : decide ((Sum.inr a : Key) = Sum.inl b) = false := decide_eq_false (fun q => nomatch q)

def mixKind (prog : Program) (w : World) : PySem.KeyKind prog w Key where
  is := keyIs
  hash := keyH w
  inj := fun v a b ha hb => by
    rcases keyIs_shape ha with ⟨i, t, rfl, rfl⟩ | ⟨x, t, rfl, rfl⟩
    · rcases keyIs_shape hb with ⟨j, u, rfl, e⟩ | ⟨y, u, rfl, e⟩
      · injection e with e1 _; rw [e1]
      · exact nomatch e
    · rcases keyIs_shape hb with ⟨j, u, rfl, e⟩ | ⟨y, u, rfl, e⟩
      · exact nomatch e
      · injection e with e1 _; rw [e1]
  byValue := fun k v h => by
    rcases keyIs_shape h with ⟨i, t, rfl, rfl⟩ | ⟨x, t, rfl, rfl⟩ <;> rfl
  pyHash := fun hv h => by
    rcases keyIs_shape hv with ⟨i, t, rfl, rfl⟩ | ⟨x, t, rfl, rfl⟩
    · exact wpAny_pyHash_int h
    · exact wpAny_pyHash_str h
  eqBool := fun hu hv h => by
    rcases keyIs_shape hu with ⟨i, t, rfl, rfl⟩ | ⟨x, t, rfl, rfl⟩
    · rcases keyIs_shape hv with ⟨j, u, rfl, rfl⟩ | ⟨y, u, rfl, rfl⟩
      · rw [key_ll] at h; exact wpAny_eqBool_int h
      · rw [key_lr] at h; exact SeqAt.EqAt.int_str i t y u _ _ _ _ h
    · rcases keyIs_shape hv with ⟨j, u, rfl, rfl⟩ | ⟨y, u, rfl, rfl⟩
      · rw [key_rl] at h; exact SeqAt.EqAt.str_int x t j u _ _ _ _ h
      · rw [key_rr] at h; exact wpAny_eqBool_str h
  «strs» := fun k x t v h => by
    rcases keyIs_shape h with ⟨i, u, rfl, e⟩ | ⟨y, u, rfl, e⟩
    · exact nomatch e
    · injection e with e1 _
      subst e1
      cases v <;> rfl

theorem mixKind_int (prog : Program) (w : World) (i : Int) (t : Tok) : (mixKind prog w).is (.inl i) (.int i t) = true := keyIs_int i t
theorem mixKind_str (prog : Program) (w : World) (x : Str) (t : Tok) : (mixKind prog w).is (.inr x) (.str x t) = true := keyIs_str x t
end L2

namespace L2
open PySem PySem.Spec PyProof.Rows

/-- a value, without the heap -/
inductive V where
  | non | bl (b : Bool) | int (i : Int) | str (x : Str) | byt (b : Array UInt8) | flt (b : UInt64) | ref (a : Addr) | ty (n : String)
  deriving DecidableEq

def RelV : V → Value → Prop
  | .non, u => u = Value.none
  | .bl b, u => u = Value.bool b
  | .int i, u => ∃ t, u = Value.int i t
  | .str x, u => ∃ t, u = Value.str x t
  | .byt b, u => ∃ t, u = Value.bytes b t
  | .flt b, u => ∃ t, u = Value.float b t
  | .ref a, u => u = Value.ref a
  | .ty n, u => u = Value.type n

abbrev Vals : List V → List Value → Prop := Paired RelV
theorem Vals.length {xs : List V} {us : List Value} (r : Vals xs us) : xs.length = us.length := Paired.length r
theorem Vals.get : ∀ {xs : List V} {us : List Value} {i : Nat} {x : V}, Vals xs us → xs[i]? = some x → ∃ u, us[i]? = some u ∧ RelV x u
  | _, _, _, _, .nil, e => by simp at e
  | _, _, 0, _, .cons r _, e => by simp at e; subst e; exact ⟨_, rfl, r⟩
  | _, _, i + 1, x, .cons _ t, e => by
    obtain ⟨u, h1, h2⟩ := Vals.get (i := i) (x := x) t (by simpa using e)
    exact ⟨u, by simpa using h1, h2⟩
theorem Vals.set {x : V} {u : Value} (r : RelV x u) : ∀ {xs : List V} {us : List Value} (i : Nat), Vals xs us → Vals (xs.set i x) (us.set i u)
  | _, _, _, .nil => .nil
  | _, _, 0, .cons _ t => .cons r t
  | _, _, i + 1, .cons q t => .cons q (Vals.set r i t)
theorem Vals.append : ∀ {xs ys : List V} {us ws : List Value}, Vals xs us → Vals ys ws → Vals (xs ++ ys) (us ++ ws)
  | _, _, _, _, .nil, s => s
  | _, _, _, _, .cons r t, s => .cons r (Vals.append t s)
theorem Vals.take : ∀ {xs : List V} {us : List Value} (n : Nat), Vals xs us → Vals (xs.take n) (us.take n)
  | _, _, 0, _ => .nil
  | _, _, _ + 1, .nil => .nil
  | _, _, n + 1, .cons r t => .cons r (Vals.take n t)
theorem Vals.drop : ∀ {xs : List V} {us : List Value} (n : Nat), Vals xs us → Vals (xs.drop n) (us.drop n)
  | _, _, 0, r => r
  | _, _, _ + 1, .nil => .nil
  | _, _, n + 1, .cons _ t => Vals.drop n t
def RelO : Option V → Option Value → Prop
  | some v, some u => RelV v u
  | none, none => True
  | _, _ => False
def KV {κ : Type} : List (κ × V) → List (κ × Value) → Prop := Paired fun (p : κ × V) (q : κ × Value) => p.1 = q.1 ∧ RelV p.2 q.2

/-- a key of a dict (00_mix): an int or a text -/
def kV : Key → V
  | .inl i => .int i
  | .inr x => .str x

/-- what stands at a tracked address -/
inductive HO where
  /-- a list -/
  | lst (xs : List V)
  /-- a tuple (never changes) -/
  | tup (xs : List V)
  /-- a dict whose keys are ints and texts; one whose keys are tuples of ints and texts (the empty one is both) -/
  | dK (kvs : List (Key × V)) | dT (kvs : List (List Key × V))
  /-- a set of ints: its members, its size -/
  | set (S : Int → Bool) (n : Nat)
  /-- an instance of the class at C, its dict at dx, its attributes -/
  | ins (C dx : Addr) (fs : List (Str × V))
  /-- the dict of the instance at x -/
  | own (x : Addr)
  /-- the dict of an exception -/
  | xd (fs : List (Str × V))
  /-- a bound method, f of x -/
  | met (f x : Addr)
  /-- a range object lo, lo + 1, .. below hi -/
  | rng (lo hi : Int)
  /-- a thing that is known to the object (the script; a dict while a loop walks it): read, never written while it is so -/
  | frz (o : Obj) (u : HO)
  /-- a code object's table -/
  | tbl (ps : Array Value)
  /-- any other thing, by what is true of its one object (a def of one's own: SetO a S n := HO.ext fun h => ..) -/
  | ext (φ : Heap → Prop)

abbrev Hp := Addr → Option HO
def upd (H : Hp) (a : Addr) (o : HO) : Hp := fun b => if b = a then some o else H b
theorem upd_same {H : Hp} {a : Addr} {o : HO} : upd H a o a = some o := by unfold upd; rw [if_pos rfl]
theorem upd_ne {H : Hp} {a b : Addr} {o : HO} (h : b ≠ a) : upd H a o b = H b := by unfold upd; rw [if_neg h]
/-- two objects of different content stand apart -/
theorem ne_of {H : Hp} {a b : Addr} {o u : HO} (h : H a = some o) (h' : H b = some u) (d : o ≠ u) : a ≠ b := by
  intro e; subst e; rw [h] at h'; exact d (Option.some.inj h')
theorem ne_of_none {H : Hp} {a b : Addr} {o : HO} (h : H a = some o) (h' : H b = none) : a ≠ b := by
  intro e; subst e; rw [h] at h'; cases h'

section
variable (P : Program) (w : World)
def ObjOk (H : Hp) (h : Heap) (a : Addr) : HO → Prop
  | .lst xs => xs.length ≤ sizeLine ∧ ∃ (its : List Value) (n : Nat), Vals xs its ∧ h.get? a = some { cls := .type "list", data := .seq its.toArray n }
  | .tup xs => xs.length ≤ sizeLine ∧ ∃ its : List Value, Vals xs its ∧ IsTup h a its.toArray
  | .dK kvs => kvs.length ≤ sizeLine ∧ (a == sysModules) = false ∧ ∃ vs, KV kvs vs ∧ h.DictOf (mixKind P w) a vs
  | .dT kvs => kvs.length ≤ sizeLine ∧ (a == sysModules) = false ∧ ∃ xs : List (List Key × Addr × Value),
      Paired (fun (p : List Key × V) (q : List Key × Addr × Value) => p.1 = q.1 ∧ H q.2.1 = some (.tup (p.1.map kV)) ∧ RelV p.2 q.2.2) kvs xs ∧
      ∃ o es ep, h.get? a = some o ∧ o.ExactDict ∧ o.data = .dict es ep ∧ es.toList = xs.map (entryOfKey (tupleKind (mixKind P w))) ∧ (xs.map (·.1)).Nodup
  | .set S n => h.SetOf (intKind P w) a S n
  | .ins C dx fs => H dx = some (.own a) ∧ fs.length ≤ 1000 ∧ dx ≠ a ∧ h.get? a = some (PySem.W.instObj C dx) ∧
      ∃ mA, h.Ns1 dx mA ∧ (∀ f, RelO (fs.lookup f) (mA f)) ∧ PySem.Within mA (fs.map (·.1))
  | .own _ => ∃ o, h.get? a = some o
  | .xd fs => ∃ mA, h.Ns1 a mA ∧ ∀ f, RelO (fs.lookup f) (mA f)
  | .rng lo hi => ∃ t u v, h.get? a = some { cls := .type "range", data := .fields #[.int lo t, .int hi u, .int 1 v] }
  | .frz o u => h.get? a = some o ∧ ObjOk H h a u
  | .tbl ps => h.get? a = some { cls := .none, data := .fields ps }
  | .met f x => h.get? a = some (PySem.W.methodObj (.ref f) (.ref x))
  | .ext φ => φ h ∧ (∃ o, h.get? a = some o) ∧ ∀ h1 h2 : Heap, φ h1 → (∀ o, h1.get? a = some o → h2.get? a = some o) → φ h2
/-- the abstract heap is held -/
def HOk (H : Hp) (h : Heap) : Prop := ∀ a o, H a = some o → ObjOk P w H h a o
end

section
variable {P : Program} {w : World} {H H' : Hp} {h h' : Heap} {a : Addr} {o : HO}
theorem ObjOk.lt (x : ObjOk P w H h a o) : a < h.objs.size := by
  cases o with
  | lst xs => obtain ⟨_, _, _, _, e⟩ := x; exact Heap.lt_size e
  | tup xs => obtain ⟨_, _, _, p⟩ := x; exact p.lt
  | dK kvs => obtain ⟨_, _, _, _, o, _, _, e, _⟩ := x; exact Heap.lt_size e
  | dT kvs => obtain ⟨_, _, _, _, o, _, _, e, _⟩ := x; exact Heap.lt_size e
  | set S n => obtain ⟨o, _, _, _, e, _⟩ := x; exact Heap.lt_size e
  | ins C dx fs => obtain ⟨_, _, _, e, _⟩ := x; exact Heap.lt_size e
  | own y => obtain ⟨_, e⟩ := x; exact Heap.lt_size e
  | xd fs => obtain ⟨_, ⟨_, _, _, e, _⟩, _⟩ := x; exact Heap.lt_size e
  | rng lo hi => obtain ⟨_, _, _, e⟩ := x; exact Heap.lt_size e
  | frz ob u => obtain ⟨e, _⟩ := x; exact Heap.lt_size e
  | tbl ps => exact Heap.lt_size (show h.get? a = some _ from x)
  | met f y => exact Heap.lt_size (show h.get? a = some _ from x)
  | ext φ => obtain ⟨_, ⟨_, e⟩, _⟩ := x; exact Heap.lt_size e
theorem Paired.mapP {α β : Type} {F G : α → β → Prop} : ∀ {l₁ : List α} {l₂ : List β}, Paired F l₁ l₂ → (∀ a b, F a b → G a b) → Paired G l₁ l₂
  | _, _, .nil, _ => .nil
  | _, _, .cons r t, f => .cons (f _ _ r) (Paired.mapP t f)
/-- what an object's description leans on: its own object, its own dict, the tuples -/
theorem ObjOk.stay (x : ObjOk P w H h a o) (k : ∀ b u, (b = a ∨ H b = some (.own a)) → h.get? b = some u → h'.get? b = some u)
    (ho : ∀ b, H b = some (.own a) → H' b = some (.own a)) (ht : ∀ b xs, H b = some (.tup xs) → H' b = some (.tup xs)) : ObjOk P w H' h' a o := by
  induction o with
  | lst xs => obtain ⟨z, its, n, r, e⟩ := x; exact ⟨z, its, n, r, k _ _ (.inl rfl) e⟩
  | tup xs => obtain ⟨z, its, r, ob, e, c⟩ := x; exact ⟨z, its, r, ob, k _ _ (.inl rfl) e, c⟩
  | dK kvs => obtain ⟨z, y, vs, r, ob, es, ep, e, c⟩ := x; exact ⟨z, y, vs, r, ob, es, ep, k _ _ (.inl rfl) e, c⟩
  | dT kvs =>
    obtain ⟨z, y, xs, r, ob, es, ep, e, c⟩ := x
    exact ⟨z, y, xs, Paired.mapP r fun p q z => ⟨z.1, ht _ _ z.2.1, z.2.2⟩, ob, es, ep, k _ _ (.inl rfl) e, c⟩
  | set S n => obtain ⟨ob, es, ep, t, e, c⟩ := x; exact ⟨ob, es, ep, t, k _ _ (.inl rfl) e, c⟩
  | ins C dx fs =>
    obtain ⟨d, z, ne, e, mA, ⟨od, es, ep, e2, c⟩, r⟩ := x
    exact ⟨ho _ d, z, ne, k _ _ (.inl rfl) e, mA, ⟨od, es, ep, k _ _ (.inr d) e2, c⟩, r⟩
  | own y => obtain ⟨ob, e⟩ := x; exact ⟨ob, k _ _ (.inl rfl) e⟩
  | xd fs => obtain ⟨mA, ⟨od, es, ep, e, c⟩, r⟩ := x; exact ⟨mA, ⟨od, es, ep, k _ _ (.inl rfl) e, c⟩, r⟩
  | rng lo hi => obtain ⟨t, u, v, e⟩ := x; exact ⟨t, u, v, k _ _ (.inl rfl) e⟩
  | frz ob u ih => obtain ⟨e, q⟩ := x; exact ⟨k _ _ (.inl rfl) e, ih q⟩
  | tbl ps =>
    have e : h.get? a = some { cls := .none, data := .fields ps } := x
    show h'.get? a = some { cls := .none, data := .fields ps }
    exact k a _ (.inl rfl) e
  | met f y =>
    have e : h.get? a = some (PySem.W.methodObj (.ref f) (.ref y)) := x
    show h'.get? a = some (PySem.W.methodObj (.ref f) (.ref y))
    exact k a _ (.inl rfl) e
  | ext φ => obtain ⟨p, ⟨o, e⟩, st⟩ := x; exact ⟨st _ _ p fun o q => k _ _ (.inl rfl) q, ⟨o, k _ _ (.inl rfl) e⟩, st⟩
theorem HOk.lt (x : HOk P w H h) (e : H a = some o) : a < h.objs.size := (x a o e).lt
theorem HOk.fresh (x : HOk P w H h) (e : h.objs.size ≤ a) : H a = none := by
  cases q : H a with
  | none => rfl
  | some u => exact absurd (Nat.lt_of_lt_of_le (x.lt q) e) (Nat.lt_irrefl _)
/-- every object of the heap is kept -/
theorem HOk.kept (x : HOk P w H h) (k : ∀ b u, h.get? b = some u → h'.get? b = some u) : HOk P w H h' := fun a o e =>
  (x a o e).stay (fun b u _ q => k b u q) (fun _ q => q) fun _ _ q => q
/-- a new object is laid and tracked -/
theorem HOk.laid (x : HOk P w H h) (k : ∀ b u, h.get? b = some u → h'.get? b = some u) (hp : h.objs.size ≤ a) (new : ObjOk P w (upd H a o) h' a o) : HOk P w (upd H a o) h' := fun b u e => by
  have hn := x.fresh hp
  by_cases hb : b = a
  · subst hb; rw [upd_same] at e; cases e; exact new
  · rw [upd_ne hb] at e
    exact (x b u e).stay (fun c v _ q => k c v q) (fun c q => by rw [upd_ne (ne_of_none q hn)]; exact q) fun c xs q => by rw [upd_ne (ne_of_none q hn)]; exact q
end

/-- what may be read as u: it is u, or a known u -/
def Rd (H : Hp) (a : Addr) (u : HO) : Prop := H a = some u ∨ ∃ o, H a = some (.frz o u)
theorem Rd.ok {P : Program} {w : World} {H : Hp} {h : Heap} {a : Addr} {u : HO} (r : Rd H a u) (x : HOk P w H h) : ObjOk P w H h a u := by
  rcases r with r | ⟨o, r⟩
  · exact x a u r
  · obtain ⟨_, q⟩ := x a _ r
    exact q
/-- what may be written -/
def Mut : Option HO → Prop
  | some (.lst _) => True
  | some (.dK _) => True
  | some (.dT _) => True
  | some (.set _ _) => True
  | some (.ins _ _ _) => True
  | some (.ext _) => True
  | _ => False
section
variable {P : Program} {w : World} {H : Hp} {h h' : Heap} {x e : Addr} {o' : HO}
/-- the object at e is changed: x itself, or the dict of the instance x -/
theorem HOk.write (ok : HOk P w H h) (mu : Mut (H x)) (he : e = x ∨ H e = some (.own x)) (k : ∀ b u, b ≠ e → h.get? b = some u → h'.get? b = some u) (heo : ∃ u, h'.get? e = some u)
    (new : ObjOk P w (upd H x o') h' x o') : HOk P w (upd H x o') h' := fun b u q => by
  have nown : ∀ c y, H c = some (.own y) → c ≠ x := fun c y r z => by subst z; rw [r] at mu; exact mu
  have ntup : ∀ c xs, H c = some (.tup xs) → c ≠ x := fun c xs r z => by subst z; rw [r] at mu; exact mu
  by_cases hb : b = x
  · subst hb; rw [upd_same] at q; cases q; exact new
  · rw [upd_ne hb] at q
    by_cases hbe : b = e
    · have q' : H b = some (.own x) := by
        rcases he with z | z
        · exact absurd (hbe.trans z) hb
        · rw [hbe]; exact z
      rw [q] at q'; cases q'
      obtain ⟨v, hv⟩ := heo
      exact ⟨v, by rw [hbe]; exact hv⟩
    · refine (ok b u q).stay (fun c v hc r => k c v ?_ r) (fun c r => by rw [upd_ne (nown c b r)]; exact r) fun c xs r => by rw [upd_ne (ntup c xs r)]; exact r
      rcases hc with rfl | hc
      · exact hbe
      · rintro rfl
        rcases he with z | z
        · exact nown c b hc z
        · rw [hc] at z; cases z; exact hb rfl
end

/-! ### kept unless tracked; of the frames at fs (the callers') the slots may change (an exception that passes writes there); of the records at ex (iterators) nothing is said -/
structure Un (fs ex : List Addr) (H H' : Hp) (h h' : Heap) : Prop where
  keep : ∀ b o, h.get? b = some o → H b = none → b ∉ fs → b ∉ ex → h'.get? b = some o
  slot : ∀ b o, h.get? b = some o → H b = none → b ∈ fs → b ∉ ex → ∃ sl, h'.get? b = some { o with slots := sl }
  free : ∀ b o, h.get? b = some o → H b = none → b ∉ ex → H' b = none
  there : ∀ b o, h.get? b = some o → b ∉ ex → ∃ o', h'.get? b = some o'
  tups : ∀ b xs, H b = some (.tup xs) → H' b = some (.tup xs)
  frzs : ∀ b o u, H b = some (.frz o u) → H' b = some (.frz o u)
  tbls : ∀ b ps, H b = some (.tbl ps) → ∃ more, H' b = some (.tbl (ps ++ more))
section
variable {fs fs' ex ex' : List Addr} {H H1 H2 : Hp} {h h1 h2 h' : Heap} {a x e : Addr} {o : HO}
theorem Un.any (u : Un fs ex H H1 h h1) {b : Addr} {ob : Obj} (q : h.get? b = some ob) (n : H b = none) (hx : b ∉ ex) : ∃ sl, h1.get? b = some { ob with slots := sl } := by
  by_cases hb : b ∈ fs
  · exact u.slot b ob q n hb hx
  · exact ⟨ob.slots, u.keep b ob q n hb hx⟩
theorem Un.kept (k : ∀ b u, h.get? b = some u → h'.get? b = some u) : Un fs ex H H h h' :=
  ⟨fun b ob q _ _ _ => k b ob q, fun b ob q _ _ _ => ⟨ob.slots, k b ob q⟩, fun _ _ _ n _ => n, fun b ob q _ => ⟨ob, k b ob q⟩, fun _ _ q => q, fun _ _ _ q => q, fun _ ps q => ⟨#[], by rw [q]; simp⟩⟩
theorem Un.refl : Un fs ex H H h h := Un.kept fun _ _ q => q
theorem Un.laid (k : ∀ b u, h.get? b = some u → h'.get? b = some u) (hp : h.objs.size ≤ a) (hn : H a = none) : Un fs ex H (upd H a o) h h' where
  keep := fun b u q _ _ _ => k b u q
  slot := fun b u q _ _ _ => ⟨u.slots, k b u q⟩
  free := fun b u q n _ => by rw [upd_ne (Nat.ne_of_lt (Nat.lt_of_lt_of_le (Heap.lt_size q) hp))]; exact n
  there := fun b u q _ => ⟨u, k b u q⟩
  tups := fun b xs q => by rw [upd_ne (ne_of_none q hn)]; exact q
  frzs := fun b u xs q => by rw [upd_ne (ne_of_none q hn)]; exact q
  tbls := fun b ps q => ⟨#[], by rw [upd_ne (ne_of_none q hn), q]; simp⟩
theorem Un.write (mu : Mut (H x)) (he : e = x ∨ H e = some (.own x)) (k : ∀ b u, b ≠ e → h.get? b = some u → h'.get? b = some u) (heo : ∃ u, h'.get? e = some u) : Un fs ex H (upd H x o) h h' := by
  have hx : ∀ b, H b = none → b ≠ x := fun b n z => by subst z; rw [n] at mu; exact mu
  have hb : ∀ b, H b = none → b ≠ e := fun b n z => by
    subst z
    rcases he with r | r
    · exact hx b n r
    · rw [n] at r; cases r
  have hm : ∀ b u, H b = some u → ¬ Mut (some u) → b ≠ x := fun b u q nm z => by subst z; rw [q] at mu; exact nm mu
  refine ⟨fun b u q n _ _ => k b u (hb b n) q, fun b u q n _ _ => ⟨u.slots, k b u (hb b n) q⟩, fun b u q n _ => by rw [upd_ne (hx b n)]; exact n, fun b u q _ => ?_,
    fun b xs q => by rw [upd_ne (hm b _ q fun z => z)]; exact q, fun b u xs q => by rw [upd_ne (hm b _ q fun z => z)]; exact q, fun b ps q => ⟨#[], by rw [upd_ne (hm b _ q fun z => z), q]; simp⟩⟩
  by_cases hbe : b = e
  · subst hbe; exact heo
  · exact ⟨u, k b u hbe q⟩
end

/-! ### the heap without what is tracked -/
def trk (h : Heap) (H : Hp) : List Addr := (List.range h.objs.size).filter fun a => (H a).isSome
def hidT (h : Heap) (H : Hp) : Heap := PySem.W.hideAll h (trk h H)
theorem hidT_size (h : Heap) (H : Hp) : (hidT h H).objs.size = h.objs.size := PySem.W.hideAll_size _ _
theorem hidT_get {h : Heap} {H : Hp} {b : Addr} {o : Obj} (e : h.get? b = some o) (n : H b = none) : (hidT h H).get? b = some o :=
  PySem.W.hideAll_get _ e fun hm => by
    have q : (H b).isSome = true := (List.mem_filter.mp hm).2
    rw [n] at q; simp at q
theorem of_hidT {h : Heap} {H : Hp} {b : Addr} {o : Obj} (e : (hidT h H).get? b = some o) : h.get? b = some o ∧ H b = none := by
  have e' : h.get? b = some o := PySem.W.of_hideAll (trk h H) e
  refine ⟨e', ?_⟩
  cases q : H b with
  | none => rfl
  | some x =>
    have hm : b ∈ trk h H := List.mem_filter.mpr ⟨List.mem_range.mpr (Heap.lt_size e'), by simp [q]⟩
    have z : (hidT h H).get? b = none := PySem.W.hideAll_none (trk h H) hm
    rw [z] at e; cases e

/-! ### OpenK's ledger, filled with every new object but one -/
end L2

namespace L2
open PySem PySem.Spec PyProof.Rows

/-- the module's facts, over the base: the heap at the law's entry without what is tracked there -/
structure Mod (K : PySem.W.Frag) (mg : Str → Option Value) (base : Heap) : Prop where
  kin : K.In base
  glob : base.Ns mainGlobals mg
  blt : ∃ mb, base.Ns builtinsNs mb ∧ ∀ x : Str, x ≠ "__name__" → mb x = bootBuiltins x
  nolimit : base.NoLimit

/-- the context: a def's body (or a comprehension's block) running. base: fixed through the whole law; s₀, H₀: the entry; outer: the frames whose slots others may change (a def's callers); stack: all frames that run;
   ex: iterators that were made ahead of the entry and are walked here (a comprehension's); fn: the names whose cells were made at the entry (a def: all; a comprehension's block: its own); calm: not within an except suite; pn: pins that every state bears; xe: what is wanted of an exception that leaves the code -/
structure Cx where
  prog : Program
  w : World
  K : PySem.W.Frag
  mg : Str → Option Value
  base : Heap
  A : Around
  N : List Str
  s₀ : Shared
  H₀ : Hp
  env : Env
  outer : List Env
  stack : List Env
  ex : List Addr
  fn : Str → Bool
  calm : Bool
  pn : List (Addr × Obj)
  xe : Value → Shared → Prop
/-- the callers' frames -/
def frs (l : List Env) : List Addr := l.filterMap (·.frame)
abbrev Cx.fs (X : Cx) : List Addr := frs X.outer

def Vis (sc : Scope) (x : Str) : Prop := sc.names.lookup x = some .local ∨ sc.names.lookup x = some .cell ∨ sc.names.lookup x = some .free
def Loc (sc : Scope) (x : Str) : Prop := sc.names.lookup x = some .local ∨ sc.names.lookup x = some .cell
def Look (env : Env) (h : Heap) (m : Str → Option Value) (x : Str) (u : Value) : Prop :=
  (env.kindOf x = some .local ∧ m x = some u) ∨ ((env.kindOf x = some .cell ∨ env.kindOf x = some .free) ∧ ∃ c, env.cells.lookup x = some c ∧ h.IsCell c (some u))

structure Cx.Ok (X : Cx) : Prop where
  mod : Mod X.K X.mg X.base
  kind : X.env.scope.kind = .function
  glob : X.env.globals = mainGlobals
  blt : X.env.builtins = builtinsNs
  above : X.s₀.heap.objs.size ≤ X.env.locals
  inj : ∀ x y c, X.env.cells.lookup x = some c → X.env.cells.lookup y = some c → x = y
  has : ∀ x, (X.env.kindOf x = some .cell ∨ X.env.kindOf x = some .free) → ∃ c, X.env.cells.lookup x = some c
  cab : ∀ x c, X.fn x = true → X.env.cells.lookup x = some c → X.s₀.heap.objs.size ≤ c
  hd : X.calm = true → X.A.handled = none
  frames : X.A.frames = some X.stack
  stk : X.stack = X.outer ∨ (X.stack = X.env :: X.outer ∧ X.env.frame = some X.env.locals)
  exf : ∀ b ∈ X.ex, b ≠ X.env.locals ∧ ∀ x c, X.env.cells.lookup x = some c → c ≠ b
  bs : ∀ b o, X.base.get? b = some o → X.s₀.heap.get? b = some o ∧ X.H₀ b = none
  bsz : X.base.objs.size ≤ X.s₀.heap.objs.size
  noex : ∀ b o, X.base.get? b = some o → b ∉ X.ex
  exfs : ∀ b ∈ X.ex, b ∉ X.fs
  funs : X.s₀.heap.FunFrames X.base X.outer
  frf : ∀ b ∈ X.fs, X.H₀ b = none

structure Inv (X : Cx) (pins : List (Addr × Obj)) (σ : List (Option V)) (H : Hp) (s : Shared) : Prop where
  ok : X.Ok
  os : s.os = X.s₀.os
  bare : AllBare s.gens
  base : Un X.fs X.ex X.H₀ H X.s₀.heap s.heap
  loc : ∃ m, s.heap.Ns X.env.locals m ∧ ∀ (i : Nat) (x : Str) (v : V), X.N[i]? = some x → σ[i]? = some (some v) → Vis X.env.scope x → ∃ u, RelV v u ∧ Look X.env s.heap m x u
  cell : ∀ x c, X.env.cells.lookup x = some c → ∃ v, s.heap.IsCell c v
  free : H X.env.locals = none
  freeC : ∀ x c, X.env.cells.lookup x = some c → H c = none
  pin : ∀ p ∈ X.pn ++ pins, s.heap.get? p.1 = some p.2 ∧ H p.1 = none ∧ p.1 ≠ X.env.locals ∧ p.1 ∉ X.fs ∧ ∀ v, p.2.data ≠ .cell v
  hok : HOk X.prog X.w H s.heap
  len : σ.length = X.N.length

section
variable {X : Cx} {pins : List (Addr × Obj)} {σ : List (Option V)} {H H' : Hp} {s : Shared} {h' : Heap}

theorem Cx.Ok.nofr (ok : X.Ok) {b : Addr} {o : Obj} (e : X.base.get? b = some o) : b ∉ X.fs := fun hb => by
  have := (ok.funs.mem hb).1
  rw [e] at this; cases this
theorem Inv.bs (I : Inv X pins σ H s) : ∀ b o, X.base.get? b = some o → s.heap.get? b = some o ∧ H b = none := fun b o e =>
  ⟨I.base.keep b o (I.ok.bs b o e).1 (I.ok.bs b o e).2 (I.ok.nofr e) (I.ok.noex b o e), I.base.free b o (I.ok.bs b o e).1 (I.ok.bs b o e).2 (I.ok.noex b o e)⟩
theorem Inv.bk (I : Inv X pins σ H s) : ∀ b o, X.base.get? b = some o → s.heap.get? b = some o := fun b o e => (I.bs b o e).1
theorem Inv.mod (I : Inv X pins σ H s) : Mod X.K X.mg X.base := I.ok.mod
theorem Inv.kIn (I : Inv X pins σ H s) : X.K.In s.heap := I.ok.mod.kin.keeps I.bk
theorem Inv.lt (I : Inv X pins σ H s) : X.env.locals < s.heap.objs.size := let ⟨_, hn, _⟩ := I.loc; hn.lt
theorem Inv.sz (I : Inv X pins σ H s) : X.s₀.heap.objs.size ≤ s.heap.objs.size := Nat.le_trans I.ok.above (Nat.le_of_lt I.lt)
theorem Inv.nofs (I : Inv X pins σ H s) {a : Addr} (h : s.heap.objs.size ≤ a) : a ∉ X.fs := fun hb => by
  obtain ⟨_, o, ho, _⟩ := I.ok.funs.mem hb
  exact absurd (Nat.lt_of_lt_of_le (Heap.lt_size ho) (Nat.le_trans I.sz h)) (Nat.lt_irrefl _)
theorem Inv.cne (I : Inv X pins σ H s) : ∀ x c, X.env.cells.lookup x = some c → c ≠ X.env.locals := fun x c e z => by
  obtain ⟨v, o, ho, hd⟩ := I.cell x c e
  obtain ⟨m, ⟨o', es, ep, ho', hd', _⟩, _⟩ := I.loc
  rw [z, ho'] at ho; cases ho; rw [hd'] at hd; cases hd
theorem Inv.funs (I : Inv X pins σ H s) : s.heap.FunFrames X.base X.outer := by
  have all : ∀ (l : List Env), (∀ b ∈ frs l, b ∈ X.fs) → X.s₀.heap.FunFrames X.base l → s.heap.FunFrames X.base l := by
    intro l
    induction l with
    | nil => intro _ _; trivial
    | cons env r ih =>
      intro hs hl
      obtain ⟨hk, ⟨L, o, hf, hn, ho, hd⟩, hr⟩ := hl
      have hL : L ∈ X.fs := hs L (by unfold frs; rw [List.filterMap_cons, hf]; exact List.mem_cons_self)
      obtain ⟨sl, e⟩ := I.base.slot L o ho (I.ok.frf L hL) hL fun z => I.ok.exfs L z hL
      exact ⟨hk, ⟨L, _, hf, hn, e, hd⟩, ih (fun b hb => hs b (by unfold frs; rw [List.filterMap_cons, hf]; exact List.mem_cons_of_mem _ hb)) hr⟩
  exact all X.outer (fun _ hb => hb) I.ok.funs

/-- the frames that run, for a call -/
theorem Inv.stack (I : Inv X pins σ H s) : s.heap.FunFrames X.base X.stack := by
  rcases I.ok.stk with e | ⟨e, hf⟩
  · rw [e]; exact I.funs
  · rw [e]
    obtain ⟨m, hn, _⟩ := I.loc
    refine .cons (by rw [I.ok.kind]; decide) hf hn ?_ I.funs
    exact Heap.get?_none_of_le (Nat.le_trans I.ok.bsz I.ok.above)
theorem Inv.stkSub (I : Inv X pins σ H s) : ∀ b ∈ frs X.stack, b ∈ X.env.locals :: X.fs := fun b hb => by
  rcases I.ok.stk with e | ⟨e, hf⟩
  · rw [e] at hb; exact List.mem_cons_of_mem _ hb
  · rw [e] at hb
    unfold frs at hb
    rw [List.filterMap_cons, hf] at hb
    exact hb
theorem Inv.stkFree (I : Inv X pins σ H s) : ∀ b ∈ frs X.stack, H b = none := fun b hb => by
  rcases List.mem_cons.mp (I.stkSub b hb) with e | hb
  · rw [e]; exact I.free
  · obtain ⟨_, o, ho, _⟩ := I.ok.funs.mem hb
    exact I.base.free b o ho (I.ok.frf b hb) fun z => I.ok.exfs b z hb

/-- THE STEP: the untracked objects but the frame and the records at ch are kept (the callers' frames up to slots), the frame's map is kept, the new abstract heap is held -/
theorem Inv.step {g' : Array GenState} {t' : Nat} {d' : Drawn} {ch : List Addr} (I : Inv X pins σ H s)
    (hch : ∀ b ∈ ch, (b ∈ X.ex ∨ X.s₀.heap.objs.size ≤ b) ∧ b ≠ X.env.locals ∧ (∀ x c, X.env.cells.lookup x = some c → c ≠ b) ∧ ∀ p ∈ X.pn ++ pins, p.1 ≠ b)
    (keep : ∀ b o, b ≠ X.env.locals → b ∉ X.fs → b ∉ ch → s.heap.get? b = some o → H b = none → h'.get? b = some o)
    (slot : ∀ b o, b ≠ X.env.locals → b ∈ X.fs → b ∉ ch → s.heap.get? b = some o → H b = none → ∃ sl, h'.get? b = some { o with slots := sl }) (free : ∀ b o, b ∉ ch → s.heap.get? b = some o → H b = none → H' b = none)
    (there : ∀ b o, b ∉ ch → s.heap.get? b = some o → ∃ o', h'.get? b = some o')
    (tups : ∀ b xs, H b = some (.tup xs) → H' b = some (.tup xs)) (frzs : ∀ b o u, H b = some (.frz o u) → H' b = some (.frz o u)) (tbls : ∀ b ps, H b = some (.tbl ps) → ∃ more, H' b = some (.tbl (ps ++ more)))
    (ns : ∀ m, s.heap.Ns X.env.locals m → h'.Ns X.env.locals m) (hok : HOk X.prog X.w H' h') (hg : AllBare g') :
    Inv X pins σ H' { s with heap := h', gens := g', drawn := d', toks := t' } := by
  have neL : ∀ b o, X.s₀.heap.get? b = some o → b ≠ X.env.locals := fun b o e => Nat.ne_of_lt (Nat.lt_of_lt_of_le (Heap.lt_size e) I.ok.above)
  have neC : ∀ b o, X.s₀.heap.get? b = some o → b ∉ X.ex → b ∉ ch := fun b o e hx hb => by
    rcases (hch b hb).1 with z | z
    · exact hx z
    · exact absurd (Nat.lt_of_lt_of_le (Heap.lt_size e) z) (Nat.lt_irrefl _)
  have cellK : ∀ x c, X.env.cells.lookup x = some c → ∀ v, s.heap.IsCell c v → h'.IsCell c v := fun x c e v ⟨o, ho, hd⟩ => by
    have nch : c ∉ ch := fun z => (hch c z).2.2.1 x c e rfl
    by_cases hc : c ∈ X.fs
    · obtain ⟨sl, q⟩ := slot c o (I.cne x c e) hc nch ho (I.freeC x c e)
      exact ⟨_, q, hd⟩
    · exact ⟨o, keep c o (I.cne x c e) hc nch ho (I.freeC x c e), hd⟩
  refine ⟨I.ok, I.os, hg, ⟨fun b o e n hb hx => ?_, fun b o e n hb hx => ?_, fun b o e n hx => ?_, fun b o e hx => ?_, fun b xs e => tups b xs (I.base.tups b xs e), fun b o xs e => frzs b o xs (I.base.frzs b o xs e), fun b ps e => ?_⟩, ?_, fun x c e => ?_, ?_, fun x c e => ?_, fun p hp => ?_, hok, I.len⟩
  · exact keep b o (neL b o e) hb (neC b o e hx) (I.base.keep b o e n hb hx) (I.base.free b o e n hx)
  · obtain ⟨sl, e1⟩ := I.base.slot b o e n hb hx
    obtain ⟨sl', e2⟩ := slot b _ (neL b o e) hb (neC b o e hx) e1 (I.base.free b o e n hx)
    exact ⟨sl', e2⟩
  · obtain ⟨o', e1⟩ := I.base.there b o e hx
    exact free b o' (neC b o e hx) e1 (I.base.free b o e n hx)
  · obtain ⟨o', e1⟩ := I.base.there b o e hx
    exact there b o' (neC b o e hx) e1
  · obtain ⟨m1, e1⟩ := I.base.tbls b ps e
    obtain ⟨m2, e2⟩ := tbls b _ e1
    exact ⟨m1 ++ m2, by rw [e2, Array.append_assoc]⟩
  · obtain ⟨m, hn, hl⟩ := I.loc
    refine ⟨m, ns m hn, fun i x v e1 e2 e3 => ?_⟩
    obtain ⟨u, r, l⟩ := hl i x v e1 e2 e3
    refine ⟨u, r, ?_⟩
    rcases l with l | ⟨k, c, e, z⟩
    · exact .inl l
    · exact .inr ⟨k, c, e, cellK x c e _ z⟩
  · obtain ⟨v, z⟩ := I.cell x c e
    exact ⟨v, cellK x c e v z⟩
  · obtain ⟨m, ⟨o, _, _, ho, _⟩, _⟩ := I.loc
    exact free _ o (fun z => (hch _ z).2.1 rfl) ho I.free
  · obtain ⟨v, o, ho, hd⟩ := I.cell x c e
    exact free c o (fun z => (hch c z).2.2.1 x c e rfl) ho (I.freeC x c e)
  · obtain ⟨e, n, ne, nf, d⟩ := I.pin p hp
    have nch : p.1 ∉ ch := fun z => (hch p.1 z).2.2.2 p hp rfl
    exact ⟨keep p.1 p.2 ne nf nch e n, free p.1 p.2 nch e n, ne, nf, d⟩
/-- .. where the frame's own object is kept too -/
theorem Inv.un {t' : Nat} (I : Inv X pins σ H s) (u : Un X.fs [] H H' s.heap h') (hok : HOk X.prog X.w H' h') : Inv X pins σ H' { s with heap := h', toks := t' } := by
  obtain ⟨m, ⟨o, es, ep, ho, r⟩, _⟩ := id I.loc
  obtain ⟨sl, hL⟩ := u.any ho I.free (by simp)
  exact I.step (g' := s.gens) (d' := s.drawn) (ch := []) (fun _ z => nomatch z) (fun b o _ hb _ e n => u.keep b o e n hb (by simp)) (fun b o _ hb _ e n => u.slot b o e n hb (by simp)) (fun b o _ e n => u.free b o e n (by simp)) (fun b o _ e => u.there b o e (by simp)) u.tups u.frzs u.tbls (fun m' hm => by
    obtain ⟨o', es', ep', ho', r'⟩ := hm
    rw [ho] at ho'; cases ho'
    exact ⟨_, es', ep', hL, r'⟩) hok I.bare
/-- behind a call (or a comprehension's block): the slots of this frame may have changed too, the records at ch may have turned -/
theorem Inv.call {g' : Array GenState} {t' : Nat} {d' : Drawn} {ch : List Addr} (I : Inv X pins σ H s) (u : Un (frs X.stack) ch H H' s.heap h') (hok : HOk X.prog X.w H' h') (hg : AllBare g')
    (hch : ∀ b ∈ ch, (b ∈ X.ex ∨ X.s₀.heap.objs.size ≤ b) ∧ b ≠ X.env.locals ∧ (∀ x c, X.env.cells.lookup x = some c → c ≠ b) ∧ ∀ p ∈ X.pn ++ pins, p.1 ≠ b) :
    Inv X pins σ H' { s with heap := h', gens := g', drawn := d', toks := t' } := by
  obtain ⟨m, ⟨o, es, ep, ho, r⟩, _⟩ := id I.loc
  obtain ⟨sl, hL⟩ := u.any ho I.free fun z => (hch _ z).2.1 rfl
  exact I.step (ch := ch) hch (fun b o hL hb hc e n => u.keep b o e n (fun z => (List.mem_cons.mp (I.stkSub b z)).elim hL hb) hc) (fun b o _ _ hc e n => u.any e n hc) (fun b o hc e n => u.free b o e n hc) (fun b o hc e => u.there b o e hc) u.tups u.frzs u.tbls (fun m' hm => by
    obtain ⟨o', es', ep', ho', r'⟩ := hm
    rw [ho] at ho'; cases ho'
    exact ⟨_, es', ep', hL, r'⟩) hok hg
/-- an untracked record of ours (an iterator) has turned -/
theorem Inv.turned {t' : Nat} {it : Addr} (I : Inv X pins σ H s) (k : ∀ b o, b ≠ it → s.heap.get? b = some o → h'.get? b = some o) (hn : H it = none) (hL : it ≠ X.env.locals)
    (h1 : it ∈ X.ex ∨ X.s₀.heap.objs.size ≤ it) (h2 : ∀ x c, X.env.cells.lookup x = some c → c ≠ it) (h3 : ∀ p ∈ X.pn ++ pins, p.1 ≠ it) : Inv X pins σ H { s with heap := h', toks := t' } := by
  have nit : ∀ b u, H b = some u → b ≠ it := fun b u e z => by rw [z, hn] at e; cases e
  refine I.step (g' := s.gens) (d' := s.drawn) (ch := [it]) (fun b hb => ?_) (fun b o _ _ hc e _ => k b o (fun z => hc (by simp [z])) e) (fun b o _ _ hc e _ => ⟨o.slots, k b o (fun z => hc (by simp [z])) e⟩) (fun _ _ _ _ n => n)
    (fun b o hc e => ⟨o, k b o (fun z => hc (by simp [z])) e⟩) (fun _ _ e => e) (fun _ _ _ e => e) (fun b ps e => ⟨#[], by rw [e]; simp⟩) (fun m hm => ?_) (fun b u e => ?_) I.bare
  · have e : b = it := by simpa using hb
    subst e
    exact ⟨h1, hL, h2, h3⟩
  · obtain ⟨o, es, ep, ho, r⟩ := hm
    exact ⟨o, es, ep, k _ o (Ne.symm hL) ho, r⟩
  · refine (I.hok b u e).stay (fun c v hc q => k c v ?_ q) (fun _ q => q) fun _ _ q => q
    rcases hc with z | z
    · rw [z]; exact nit b u e
    · exact nit c _ z
theorem Inv.tok (I : Inv X pins σ H s) (t : Nat) : Inv X pins σ H { s with toks := t } := I.un (h' := s.heap) (t' := t) Un.refl I.hok
/-- all objects kept -/
theorem Inv.kept {t' : Nat} (I : Inv X pins σ H s) (k : ∀ b u, s.heap.get? b = some u → h'.get? b = some u) : Inv X pins σ H { s with heap := h', toks := t' } := I.un (Un.kept k) (I.hok.kept k)
/-- a new object laid and tracked -/
theorem Inv.laid {a : Addr} {o : HO} {t' : Nat} (I : Inv X pins σ H s) (k : ∀ b u, s.heap.get? b = some u → h'.get? b = some u) (hp : s.heap.objs.size ≤ a) (new : ObjOk X.prog X.w (upd H a o) h' a o) :
    Inv X pins σ (upd H a o) { s with heap := h', toks := t' } := I.un (Un.laid k hp (I.hok.fresh hp)) (I.hok.laid k hp new)
/-- an object written -/
theorem Inv.write {x e : Addr} {o : HO} {t' : Nat} (I : Inv X pins σ H s) (mu : Mut (H x)) (he : e = x ∨ H e = some (.own x)) (k : ∀ b u, b ≠ e → s.heap.get? b = some u → h'.get? b = some u) (heo : ∃ u, h'.get? e = some u)
    (new : ObjOk X.prog X.w (upd H x o) h' x o) : Inv X pins σ (upd H x o) { s with heap := h', toks := t' } := I.un (Un.write mu he k heo) (I.hok.write mu he k heo new)
theorem Inv.pins_of {pins' : List (Addr × Obj)} (I : Inv X pins σ H s) (h : ∀ p ∈ pins', s.heap.get? p.1 = some p.2 ∧ H p.1 = none ∧ p.1 ≠ X.env.locals ∧ p.1 ∉ X.fs ∧ ∀ v, p.2.data ≠ .cell v) : Inv X pins' σ H s :=
  ⟨I.ok, I.os, I.bare, I.base, I.loc, I.cell, I.free, I.freeC, fun p hp => (List.mem_append.mp hp).elim (fun z => I.pin p (List.mem_append_left _ z)) (h p), I.hok, I.len⟩

theorem nodup_ix {N : List Str} (hN : N.Nodup) {i j : Nat} {x : Str} (a : N[i]? = some x) (b : N[j]? = some x) : i = j := by
  obtain ⟨h1, e1⟩ := List.getElem?_eq_some_iff.mp a
  obtain ⟨h2, e2⟩ := List.getElem?_eq_some_iff.mp b
  exact (List.getElem_inj hN).mp (e1.trans e2.symm)

/-- a name is stored; what changed -/
theorem store_ok2 {M : Model} {A : Around} {E : Value → Shared → Prop} {i : Nat} {x : Str} {v : V} {u : Value} {Q : Unit → Shared → Prop} (I : Inv X pins σ H s) (hN : X.N.Nodup) (hi : X.N[i]? = some x) (hx : Loc X.env.scope x) (r : RelV v u)
    (h : ∀ s', Inv X pins (σ.set i (some v)) H s' → (∃ a, Heap.SameBut a s.heap s'.heap ∧ (a = X.env.locals ∨ X.env.cells.lookup x = some a)) → Q () s') (hf : X.fn x = true ∨ X.env.scope.names.lookup x = some .local := by first | exact .inl rfl | exact .inr rfl | assumption) : wpAny M A (storeName X.env x u) Q E s := by
  obtain ⟨m, hn, hl⟩ := id I.loc
  have hcls : (X.env.scope.kind == .class || (X.env.scope.kind == .module && X.env.locals != X.env.globals)) = false := by rw [I.ok.kind]; rfl
  have hiσ : i < σ.length := by rw [I.len]; exact (List.getElem?_eq_some_iff.mp hi).1
  have cne := I.cne
  have tracked : ∀ {a : Addr} {h' : Heap}, (∃ o, s.heap.get? a = some o ∧ H a = none) → Heap.SameBut a s.heap h' → HOk X.prog X.w H h' := fun {a h'} ha hs b ob e => by
    obtain ⟨_, _, hfree⟩ := ha
    refine (I.hok b ob e).stay (fun c w' hc q => (hs.2 c ?_).trans q) (fun _ q => q) fun _ _ q => q
    rintro rfl
    rcases hc with rfl | hc
    · rw [hfree] at e; cases e
    · rw [hfree] at hc; cases hc
  rcases hx with hk | hk
  · refine wpAny_storeName_local hk hn (fun h' hn' hs => ?_) hcls
    obtain ⟨oL, _, _, hoL, _⟩ := id hn
    refine h _ ⟨I.ok, I.os, I.bare, ⟨fun b o e n hb hx => ?_, fun b o e n hb hx => ?_, I.base.free, fun b o e hx => ?_, I.base.tups, I.base.frzs, I.base.tbls⟩, ⟨_, hn', fun j y v' e1 e2 e3 => ?_⟩, fun y c e => ?_, I.free, I.freeC, fun p hp => ?_, tracked ⟨oL, hoL, I.free⟩ hs, by simpa using I.len⟩ ⟨_, hs, .inl rfl⟩
    · exact (hs.2 b (Nat.ne_of_lt (Nat.lt_of_lt_of_le (Heap.lt_size e) I.ok.above))).trans (I.base.keep b o e n hb hx)
    · obtain ⟨sl, e1⟩ := I.base.slot b o e n hb hx
      exact ⟨sl, (hs.2 b (Nat.ne_of_lt (Nat.lt_of_lt_of_le (Heap.lt_size e) I.ok.above))).trans e1⟩
    · obtain ⟨o', e1⟩ := I.base.there b o e hx
      exact ⟨o', (hs.2 b (Nat.ne_of_lt (Nat.lt_of_lt_of_le (Heap.lt_size e) I.ok.above))).trans e1⟩
    · by_cases hj : j = i
      · subst hj
        rw [hi] at e1; cases e1
        rw [List.getElem?_set_self hiσ] at e2
        cases e2
        exact ⟨u, r, .inl ⟨hk, by simp⟩⟩
      · rw [List.getElem?_set_ne (Ne.symm hj)] at e2
        obtain ⟨u', r', q⟩ := hl j y v' e1 e2 e3
        refine ⟨u', r', ?_⟩
        rcases q with ⟨k, e⟩ | ⟨k, c, e, z⟩
        · refine .inl ⟨k, ?_⟩
          have : y ≠ x := fun e => hj (nodup_ix hN e1 (e ▸ hi))
          simp [this, e]
        · exact .inr ⟨k, c, e, z.sameBut hs (cne y c e)⟩
    · obtain ⟨w', z⟩ := I.cell y c e
      exact ⟨w', z.sameBut hs (cne y c e)⟩
    · obtain ⟨e, n, ne, nf, d⟩ := I.pin p hp
      exact ⟨(hs.2 p.1 ne).trans e, n, ne, nf, d⟩
  · have hfn : X.fn x = true := by
      rcases hf with z | z
      · exact z
      · rw [z] at hk; cases hk
    obtain ⟨c, hc⟩ := I.ok.has x (.inl hk)
    obtain ⟨w', z⟩ := I.cell x c hc
    refine wpAny_storeName_cell I.ok.kind hk hc z (fun h' hc' hs => ?_)
    obtain ⟨oc, hoc, hocd⟩ := id z
    refine h { s with heap := h' } ⟨I.ok, I.os, I.bare, ⟨fun b o e n hb hx => ?_, fun b o e n hb hx => ?_, I.base.free, fun b o e hx => ?_, I.base.tups, I.base.frzs, I.base.tbls⟩, ⟨m, hn.sameBut hs (Ne.symm (cne x c hc)), fun j y v' e1 e2 e3 => ?_⟩, fun y c' e => ?_, I.free, I.freeC, fun p hp => ?_, tracked ⟨oc, hoc, I.freeC x c hc⟩ hs, by simpa using I.len⟩ ⟨c, hs, .inr hc⟩
    · exact (hs.2 b (Nat.ne_of_lt (Nat.lt_of_lt_of_le (Heap.lt_size e) (I.ok.cab x c hfn hc)))).trans (I.base.keep b o e n hb hx)
    · obtain ⟨sl, e1⟩ := I.base.slot b o e n hb hx
      exact ⟨sl, (hs.2 b (Nat.ne_of_lt (Nat.lt_of_lt_of_le (Heap.lt_size e) (I.ok.cab x c hfn hc)))).trans e1⟩
    · obtain ⟨o', e1⟩ := I.base.there b o e hx
      exact ⟨o', (hs.2 b (Nat.ne_of_lt (Nat.lt_of_lt_of_le (Heap.lt_size e) (I.ok.cab x c hfn hc)))).trans e1⟩
    · by_cases hj : j = i
      · subst hj
        rw [hi] at e1; cases e1
        rw [List.getElem?_set_self hiσ] at e2
        cases e2
        exact ⟨u, r, .inr ⟨.inl hk, c, hc, hc'⟩⟩
      · rw [List.getElem?_set_ne (Ne.symm hj)] at e2
        obtain ⟨u', r', q⟩ := hl j y v' e1 e2 e3
        refine ⟨u', r', ?_⟩
        rcases q with q | ⟨k, c', e, z'⟩
        · exact .inl q
        · refine .inr ⟨k, c', e, z'.sameBut hs ?_⟩
          rintro rfl
          exact hj (nodup_ix hN e1 (I.ok.inj _ _ _ e hc ▸ hi))
    · by_cases hcc : c' = c
      · subst hcc; exact ⟨_, hc'⟩
      · obtain ⟨w2, z2⟩ := I.cell y c' e
        exact ⟨w2, z2.sameBut hs hcc⟩
    · obtain ⟨e, n, ne, nf, d⟩ := I.pin p hp
      refine ⟨(hs.2 p.1 ?_).trans e, n, ne, nf, d⟩
      intro q
      rw [q, hoc] at e
      have q' : oc = p.2 := Option.some.inj e
      exact d w' (by rw [← q']; exact hocd)
theorem store_ok {M : Model} {A : Around} {E : Value → Shared → Prop} {i : Nat} {x : Str} {v : V} {u : Value} {Q : Unit → Shared → Prop} (I : Inv X pins σ H s) (hN : X.N.Nodup) (hi : X.N[i]? = some x) (hx : Loc X.env.scope x) (r : RelV v u)
    (h : ∀ s', Inv X pins (σ.set i (some v)) H s' → Q () s') (hf : X.fn x = true ∨ X.env.scope.names.lookup x = some .local := by first | exact .inl rfl | exact .inr rfl | assumption) : wpAny M A (storeName X.env x u) Q E s :=
  store_ok2 I hN hi hx r (fun s' I' _ => h s' I') hf
/-- behind a call or a block, the state as it is -/
theorem Inv.call' {s' : Shared} {ch : List Addr} (I : Inv X pins σ H s) (ho : s'.os = s.os) (u : Un (frs X.stack) ch H H' s.heap s'.heap) (hok : HOk X.prog X.w H' s'.heap) (hg : AllBare s'.gens)
    (hch : ∀ b ∈ ch, (b ∈ X.ex ∨ X.s₀.heap.objs.size ≤ b) ∧ b ≠ X.env.locals ∧ (∀ x c, X.env.cells.lookup x = some c → c ≠ b) ∧ ∀ p ∈ X.pn ++ pins, p.1 ≠ b) : Inv X pins σ H' s' := by
  obtain ⟨h', g', d', t', o'⟩ := s'
  have e : o' = s.os := ho
  subst e
  exact I.call (g' := g') (t' := t') (d' := d') u hok hg hch
end

/-! ### the judgements -/
/-- an exception: its class, its own dict's address (where it has one), the abstract heap behind it -/
abbrev XK := Value → Option Addr → Hp → Prop
abbrev St := List (Option V)
abbrev VK := V → Hp → Prop
/-- an expression's reading; a test's; an argument list's -/
abbrev TE := St → Hp → VK → Prop
abbrev TT := St → Hp → (Bool → Hp → Prop) → Prop
abbrev TA := St → Hp → (List V → Hp → Prop) → Prop
/-- what is wanted behind a statement -/
structure Ends where
  nx : St → Hp → Prop
  rt : VK
  bk : St → Hp → Prop := fun _ _ => False
  ct : St → Hp → Prop := fun _ _ => False
abbrev TS := Ends → St → Hp → Prop

def EP (X : Cx) (pins : List (Addr × Obj)) (σ : St) (Q : VK) (u : Value) (s' : Shared) : Prop := ∃ v H', Inv X pins σ H' s' ∧ RelV v u ∧ Q v H'
def TP (X : Cx) (pins : List (Addr × Obj)) (σ : St) (Q : Bool → Hp → Prop) (b : Bool) (s' : Shared) : Prop := ∃ H', Inv X pins σ H' s' ∧ Q b H'
def AP (X : Cx) (pins : List (Addr × Obj)) (σ : St) (Q : List V → Hp → Prop) (us : List Value) (s' : Shared) : Prop := ∃ vs H', Inv X pins σ H' s' ∧ Vals vs us ∧ Q vs H'
def SP (X : Cx) (pins : List (Addr × Obj)) (D : Ends) (f : Flow) (s' : Shared) : Prop :=
  match f with
  | .next => ∃ σ' H', Inv X pins σ' H' s' ∧ D.nx σ' H'
  | .brk => ∃ σ' H', Inv X pins σ' H' s' ∧ D.bk σ' H'
  | .cont => ∃ σ' H', Inv X pins σ' H' s' ∧ D.ct σ' H'
  | .ret u => ∃ v σ' H', Inv X pins σ' H' s' ∧ RelV v u ∧ D.rt v H'

def PE (X : Cx) (e : Expr) (t : TE) : Prop :=
  ∀ (pins : List (Addr × Obj)) (s : Shared) (σ : St) (H : Hp) (Q : VK), Inv X pins σ H s → t σ H Q → wpAny (model X.prog X.w) X.A (eval e X.env) (EP X pins σ Q) X.xe s
def PT (X : Cx) (e : Expr) (t : TT) : Prop :=
  ∀ (pins : List (Addr × Obj)) (s : Shared) (σ : St) (H : Hp) (Q : Bool → Hp → Prop), Inv X pins σ H s → t σ H Q → wpAny (model X.prog X.w) X.A (isTrue e X.env (eval e X.env)) (TP X pins σ Q) X.xe s
/-- a test whatever its 'whole' is (and, or) -/
def PW (X : Cx) (e : Expr) (t : TT) : Prop :=
  ∀ (whole : Sem Value) (pins : List (Addr × Obj)) (s : Shared) (σ : St) (H : Hp) (Q : Bool → Hp → Prop), Inv X pins σ H s → t σ H Q → wpAny (model X.prog X.w) X.A (isTrue e X.env whole) (TP X pins σ Q) X.xe s
theorem PW.pt {X : Cx} {e : Expr} {t : TT} (h : PW X e t) : PT X e t := h _
/-- an argument list (no star), from the left -/
def PA (X : Cx) (es : List Expr) (t : TA) : Prop :=
  ∀ (pos : Pos) (pins : List (Addr × Obj)) (s : Shared) (σ : St) (H : Hp) (Q : List V → Hp → Prop), Inv X pins σ H s → t σ H Q → wpAny (model X.prog X.w) X.A (spliced (backTo pos (starEach es X.env))) (AP X pins σ Q) X.xe s
def PS (X : Cx) (st : Stmt) (t : TS) : Prop :=
  ∀ (pins : List (Addr × Obj)) (s : Shared) (σ : St) (H : Hp) (D : Ends), Inv X pins σ H s → t D σ H → wpAny (model X.prog X.w) X.A (exec st X.env) (SP X pins D) X.xe s
def PSs (X : Cx) (st : List Stmt) (t : TS) : Prop :=
  ∀ (pins : List (Addr × Obj)) (s : Shared) (σ : St) (H : Hp) (D : Ends), Inv X pins σ H s → t D σ H → wpAny (model X.prog X.w) X.A (execs st X.env) (SP X pins D) X.xe s
/-- weaken the end -/
theorem thn {α : Type} {t : Sem α} {Q Q' : α → Shared → Prop} {M : Model} {A : Around} {E : Value → Shared → Prop} {s : Shared} (h : wpAny M A t Q E s) (hQ : ∀ a s, Q a s → Q' a s) : wpAny M A t Q' E s := wpAny_mono h hQ fun _ _ x => x
end L2

namespace L2
open PySem PySem.Spec PyProof.Rows
section
variable {X : Cx}

/-! ### names and constants -/
def tVar (i : Nat) : TE := fun σ H Q => ∃ v, σ[i]? = some (some v) ∧ Q v H
def tC (v : V) : TE := fun _ H Q => Q v H
theorem pe_var {i : Nat} {x : Str} {pos : Pos} (hN : X.N[i]? = some x) (hv : Vis X.env.scope x) (hd : (x == ("__debug__" : Str)) = false := by decide) (hcd : (x == ("__classdict__" : Str)) = false := by decide) : PE X (.Name x pos) (tVar i) := by
  intro pins s σ H Q I h
  obtain ⟨v, e, h⟩ := h
  obtain ⟨m, hn, hl⟩ := I.loc
  obtain ⟨u, r, l⟩ := hl i x v hN e hv
  have fin : EP X pins σ Q u s := ⟨v, H, I, r, h⟩
  rcases l with ⟨hk, hm⟩ | ⟨hk, c, hc, hcell⟩
  · exact wpAny_Name (wpAny_loadName_local I.ok.kind hk hn hm fin) hd
  · rcases hk with hk | hk
    · exact wpAny_Name (wpAny_loadName_cell I.ok.kind hk hc hcell fin) hd
    · exact wpAny_Name (wpAny_loadName_free I.ok.kind hk hc hcell fin hcd) hd
theorem pe_int {i j pos} : PE X (.Constant (.int i) j pos) (tC (.int i)) := fun _ _ _ H _ I h => wpAny_Constant_int ⟨.int i, H, I.tok _, ⟨_, rfl⟩, h⟩
theorem pe_non {j pos} : PE X (.Constant .none j pos) (tC .non) := fun _ _ _ H _ I h => Constant_none ⟨.non, H, I, rfl, h⟩
theorem pe_str {x j pos} : PE X (.Constant (.str x) j pos) (tC (.str x)) := fun _ _ _ H _ I h => Calls.Constant_str ⟨.str x, H, I.tok _, ⟨_, rfl⟩, h⟩

/-- a global name of the def -/
def Gl (X : Cx) (x : Str) : Prop := X.env.kindOf x = some .globalImplicit
theorem ld_glob {E : Value → Shared → Prop} {pins : List (Addr × Obj)} {s : Shared} {σ : St} {H : Hp} {x : Str} {u : Value} {pos : Pos} {Q : Value → Shared → Prop} (I : Inv X pins σ H s) (hg : Gl X x) (hm : X.mg x = some u) (h : Q u s)
    (hd : (x == ("__debug__" : Str)) = false := by decide) : wpAny (model X.prog X.w) X.A (eval (.Name x pos) X.env) Q E s :=
  Calls.Name_function_global I.ok.kind hg (Calls.loadGlobal_global (by rw [I.ok.glob]; exact I.mod.glob.keeps I.bk) hm h) hd
theorem ld_blt {E : Value → Shared → Prop} {pins : List (Addr × Obj)} {s : Shared} {σ : St} {H : Hp} {x : Str} {u : Value} {pos : Pos} {Q : Value → Shared → Prop} (I : Inv X pins σ H s) (hg : Gl X x) (hm : X.mg x = none) (hv : bootBuiltins x = some u) (h : Q u s)
    (hn : x ≠ "__name__" := by decide) (hd : (x == ("__debug__" : Str)) = false := by decide) : wpAny (model X.prog X.w) X.A (eval (.Name x pos) X.env) Q E s := by
  obtain ⟨mb, h1, h2⟩ := I.mod.blt
  exact Calls.Name_function_global I.ok.kind hg (Calls.loadGlobal_builtin (by rw [I.ok.glob]; exact I.mod.glob.keeps I.bk) hm (by rw [I.ok.blt]; exact h1.keeps I.bk) ((h2 x hn).trans hv) h) hd
/-- a module's constant, a class, a function, as a value -/
theorem pe_glob {x : Str} {v : V} {u : Value} {pos : Pos} (hg : Gl X x) (hm : X.mg x = some u) (r : RelV v u) (hd : (x == ("__debug__" : Str)) = false := by decide) : PE X (.Name x pos) (tC v) :=
  fun _ _ _ H _ I h => ld_glob I hg hm ⟨v, H, I, r, h⟩ hd
theorem pe_bltn {x : Str} {v : V} {u : Value} {pos : Pos} (hg : Gl X x) (hm : X.mg x = none) (hv : bootBuiltins x = some u) (r : RelV v u) (hn : x ≠ "__name__" := by decide) (hd : (x == ("__debug__" : Str)) = false := by decide) : PE X (.Name x pos) (tC v) :=
  fun _ _ _ H _ I h => ld_blt I hg hm hv ⟨v, H, I, r, h⟩ hn hd

/-! ### arithmetic -/
variable {a b : Expr} {ta tb : TE} {pos : Pos}
/-! ### comparisons -/
def PC (X : Cx) (op : CmpOp) (a b : Expr) (t : TE) : Prop :=
  ∀ (pins : List (Addr × Obj)) (s : Shared) (σ : St) (H : Hp) (Q : VK), Inv X pins σ H s → t σ H Q →
    wpAny (model X.prog X.w) X.A (eval a X.env) (fun v s₁ => wpAny (model X.prog X.w) X.A (eval b X.env) (fun u s₂ => wpAny (model X.prog X.w) X.A (compareOp op v u) (EP X pins σ Q) X.xe s₂) X.xe s₁) X.xe s
/-- a comparison as a value, as a test -/
def tB (t : TE) : TT := fun σ H Q => t σ H fun x H1 => ∃ c, x = .bl c ∧ Q c H1
theorem pt_cmp {op : CmpOp} {t : TE} (h : PC X op a b t) (h1 : behindInMarks op b = false := by first | exact nobehind _ (by decide) (by decide) | rfl) : PT X (.Compare a [op] [b] pos) (tB t) := by
  intro pins s σ H Q I hw
  refine wpAny_isTrue_Compare1 (thn (h pins s σ H _ I hw) fun v s1 h1 => thn h1 fun u s2 h2 => thn h2 fun c s3 ⟨x, H1, I1, r1, q1⟩ => ?_) h1
  obtain ⟨d, rfl, q⟩ := q1
  cases r1
  exact wpAny_truthy_bool ⟨H1, I1, q⟩
/-- an expression whose value is a bool, as a test -/
theorem pt_val {e : Expr} {t : TE} (h : PE X e t) (he : ∀ whole, isTrue e X.env whole = (do let v ← whole; standAt e.pos; holding [v] (truthy v)) := by intro _; rfl) : PT X e (tB t) := by
  intro pins s σ H Q I hw
  refine isTrue_plain (thn (h pins s σ H _ I hw) fun v s1 ⟨x, H1, I1, r1, q1⟩ => ?_) (he _)
  obtain ⟨d, rfl, q⟩ := q1
  cases r1
  exact wpAny_truthy_bool ⟨H1, I1, q⟩

/-! ### and, or, not -/
variable {tA tB' : TT} {rest : List Expr}
def tAnd (t u : TT) : TT := fun σ H Q => t σ H fun c H1 => if c = true then u σ H1 Q else Q false H1
def tOr (t u : TT) : TT := fun σ H Q => t σ H fun c H1 => if c = true then Q true H1 else u σ H1 Q
def tNot (t : TT) : TT := fun σ H Q => t σ H fun c H1 => Q (!c) H1
theorem pw_and1 (ha : PT X a tA) : PW X (.BoolOp .And [a] pos) tA := by
  intro wh pins s σ H Q I h
  refine isTrue_and (thn (ha pins s σ H Q I h) fun c s1 e => ?_)
  cases c with
  | true => exact isTrue_and_nil e
  | false => exact e
theorem pw_or1 (ha : PT X a tA) : PW X (.BoolOp .Or [a] pos) tA := by
  intro wh pins s σ H Q I h
  refine isTrue_or (thn (ha pins s σ H Q I h) fun c s1 e => ?_)
  cases c with
  | false => exact isTrue_or_nil e
  | true => exact e
theorem pw_and (ha : PT X a tA) (hb : PW X (.BoolOp .And (b :: rest) pos) tB') : PW X (.BoolOp .And (a :: b :: rest) pos) (tAnd tA tB') := by
  intro wh pins s σ H Q I h
  refine isTrue_and (thn (ha pins s σ H _ I h) fun c s1 ⟨H1, I1, q1⟩ => ?_)
  cases c with
  | true => exact hb wh pins s1 σ H1 Q I1 q1
  | false => exact ⟨H1, I1, q1⟩
theorem pw_or (ha : PT X a tA) (hb : PW X (.BoolOp .Or (b :: rest) pos) tB') : PW X (.BoolOp .Or (a :: b :: rest) pos) (tOr tA tB') := by
  intro wh pins s σ H Q I h
  refine isTrue_or (thn (ha pins s σ H _ I h) fun c s1 ⟨H1, I1, q1⟩ => ?_)
  cases c with
  | true => exact ⟨H1, I1, q1⟩
  | false => exact hb wh pins s1 σ H1 Q I1 q1
theorem pt_not (ha : PT X a tA) : PT X (.UnaryOp .Not a pos) (tNot tA) := by
  intro pins s σ H Q I h
  exact isTrue_not (ha pins s σ H (fun c H1 => Q (!c) H1) I h)
/-- .. as values (bools) -/
def tAndV (ta tb : TE) : TE := fun σ H Q => ta σ H fun x H1 => ∃ c, x = .bl c ∧ if c = true then tb σ H1 Q else Q (.bl false) H1
def tOrV (ta tb : TE) : TE := fun σ H Q => ta σ H fun x H1 => ∃ c, x = .bl c ∧ if c = true then Q (.bl true) H1 else tb σ H1 Q
def tNotV (ta : TE) : TE := fun σ H Q => ta σ H fun x H1 => ∃ c, x = .bl c ∧ Q (.bl (!c)) H1
theorem pe_one {op} {t : TE} (h : PE X a t) : PE X (.BoolOp op [a] pos) t := fun pins s σ H Q I hw => BoolOp_one (h pins s σ H Q I hw)
theorem pe_and (ha : PE X a ta) (hb : PE X (.BoolOp .And (b :: rest) pos) tb) : PE X (.BoolOp .And (a :: b :: rest) pos) (tAndV ta tb) := by
  intro pins s σ H Q I h
  refine BoolOp_and (thn (ha pins s σ H _ I h) fun v s1 ⟨x, H1, I1, r1, q1⟩ => ?_)
  obtain ⟨c, rfl, q1⟩ := q1
  cases r1
  refine wpAny_truthy_bool ?_
  cases c with
  | true => exact hb pins s1 σ H1 Q I1 q1
  | false => exact ⟨.bl false, H1, I1, rfl, q1⟩
theorem pe_or (ha : PE X a ta) (hb : PE X (.BoolOp .Or (b :: rest) pos) tb) : PE X (.BoolOp .Or (a :: b :: rest) pos) (tOrV ta tb) := by
  intro pins s σ H Q I h
  refine BoolOp_or (thn (ha pins s σ H _ I h) fun v s1 ⟨x, H1, I1, r1, q1⟩ => ?_)
  obtain ⟨c, rfl, q1⟩ := q1
  cases r1
  refine wpAny_truthy_bool ?_
  cases c with
  | false => exact hb pins s1 σ H1 Q I1 q1
  | true => exact ⟨.bl true, H1, I1, rfl, q1⟩
theorem pe_not (ha : PE X a ta) : PE X (.UnaryOp .Not a pos) (tNotV ta) := by
  intro pins s σ H Q I h
  refine UnaryOp_ (thn (ha pins s σ H _ I h) fun v s1 ⟨x, H1, I1, r1, q1⟩ => ?_)
  obtain ⟨c, rfl, q1⟩ := q1
  cases r1
  exact not_of (wpAny_truthy_bool ⟨.bl (!c), H1, I1, rfl, q1⟩)
end
end L2

namespace L2
open PySem PySem.Spec PyProof.Rows

/-! ### a list, a tuple that is read: tracked, frozen, or an object of the module -/
def SqL (K : PySem.W.Frag) (H : Hp) (a : Addr) (xs : List V) : Prop :=
  Rd H a (.lst xs) ∨
    ∃ (o : Obj) (its : Array Value) (n : Nat), K.lookup a = some o ∧ o.cls = .type "list" ∧ o.dict = none ∧ o.data = .seq its n ∧ its.size ≤ sizeLine ∧ Vals xs its.toList
def SqT (K : PySem.W.Frag) (H : Hp) (a : Addr) (xs : List V) : Prop :=
  Rd H a (.tup xs) ∨
    ∃ (o : Obj) (its : Array Value) (n : Nat), K.lookup a = some o ∧ o.cls = .type "tuple" ∧ o.data = .seq its n ∧ its.size ≤ sizeLine ∧ Vals xs its.toList
def absV : Value → Option V
  | .none => some .non
  | .bool b => some (.bl b)
  | .int i _ => some (.int i)
  | .str x _ => some (.str x)
  | .bytes b _ => some (.byt b)
  | .float b _ => some (.flt b)
  | .ref a => some (.ref a)
  | .type n => some (.ty n)
  | _ => none
theorem RelV.abs {x : V} {u : Value} (r : RelV x u) : absV u = some x := by
  cases x with
  | non => cases r; rfl
  | bl _ => cases r; rfl
  | int _ => obtain ⟨t, rfl⟩ := r; rfl
  | str _ => obtain ⟨t, rfl⟩ := r; rfl
  | byt _ => obtain ⟨t, rfl⟩ := r; rfl
  | flt _ => obtain ⟨t, rfl⟩ := r; rfl
  | ref _ => cases r; rfl
  | ty _ => cases r; rfl
theorem RelV.inj {x y : V} {u : Value} (r : RelV x u) (q : RelV y u) : x = y := Option.some.inj (r.abs.symm.trans q.abs)
theorem Vals.inj : ∀ {xs ys : List V} {us : List Value}, Vals xs us → Vals ys us → xs = ys
  | _, _, _, .nil, .nil => rfl
  | _, _, _, .cons r t, .cons r' t' => by rw [r.inj r', Vals.inj t t']
section
variable {X : Cx} {pins : List (Addr × Obj)} {σ : St} {H : Hp} {s : Shared} {a : Addr} {xs ys : List V}
theorem SqL.of {K : PySem.W.Frag} (h : H a = some (.lst xs)) : SqL K H a xs := .inl (.inl h)
theorem SqT.of {K : PySem.W.Frag} (h : H a = some (.tup xs)) : SqT K H a xs := .inl (.inl h)
theorem Inv.list (I : Inv X pins σ H s) (h : SqL X.K H a xs) : ∃ its : List Value, Vals xs its ∧ PlainL s.heap a its.toArray ∧ xs.length ≤ sizeLine := by
  rcases h with h | ⟨o, its, n, hk, hc, hd, hs, hz, r⟩
  · obtain ⟨z, its, n, r, e⟩ := h.ok I.hok
    exact ⟨its, r, ⟨_, n, e, rfl, rfl, rfl⟩, z⟩
  · refine ⟨its.toList, r, ⟨o, n, I.kIn a o hk, hc, hd, by simpa using hs⟩, ?_⟩
    have e := r.length
    simp only [Array.length_toList] at e
    omega
theorem Inv.tuple (I : Inv X pins σ H s) (h : SqT X.K H a xs) : ∃ its : List Value, Vals xs its ∧ IsTup s.heap a its.toArray ∧ xs.length ≤ sizeLine := by
  rcases h with h | ⟨o, its, n, hk, hc, hs, hz, r⟩
  · obtain ⟨z, its, r, p⟩ := h.ok I.hok
    exact ⟨its, r, p, z⟩
  · refine ⟨its.toList, r, ⟨o, I.kIn a o hk, hc, n, by simpa using hs⟩, ?_⟩
    have e := r.length
    simp only [Array.length_toList] at e
    omega
theorem Inv.list_inj (I : Inv X pins σ H s) (h : SqL X.K H a xs) (h' : SqL X.K H a ys) : xs = ys := by
  obtain ⟨its, r, ⟨o, n, e, _, _, d⟩, _⟩ := I.list h
  obtain ⟨its', r', ⟨o', n', e', _, _, d'⟩, _⟩ := I.list h'
  rw [e] at e'; cases e'
  rw [d] at d'
  injection d' with d1 _
  have : its = its' := by simpa using congrArg Array.toList d1
  subst this
  exact r.inj r'
end

/-! ### another wish about exceptions -/
abbrev Cx.wish (X : Cx) (E : Value → Shared → Prop) : Cx := { X with xe := E }
/-- no exception leaves -/
abbrev Cx.nox (X : Cx) : Cx := X.wish fun _ _ => False
theorem Cx.Ok.wish {X : Cx} (ok : X.Ok) (E : Value → Shared → Prop) : (X.wish E).Ok :=
  ⟨ok.mod, ok.kind, ok.glob, ok.blt, ok.above, ok.inj, ok.has, ok.cab, ok.hd, ok.frames, ok.stk, ok.exf, ok.bs, ok.bsz, ok.noex, ok.exfs, ok.funs, ok.frf⟩
theorem Cx.Ok.unwish {X : Cx} {E : Value → Shared → Prop} (ok : (X.wish E).Ok) : X.Ok :=
  ⟨ok.mod, ok.kind, ok.glob, ok.blt, ok.above, ok.inj, ok.has, ok.cab, ok.hd, ok.frames, ok.stk, ok.exf, ok.bs, ok.bsz, ok.noex, ok.exfs, ok.funs, ok.frf⟩
section
variable {X : Cx} {pins : List (Addr × Obj)} {σ : St} {H : Hp} {s : Shared} {E : Value → Shared → Prop}
theorem Inv.wish (I : Inv X pins σ H s) (E : Value → Shared → Prop) : Inv (X.wish E) pins σ H s := ⟨I.ok.wish E, I.os, I.bare, I.base, I.loc, I.cell, I.free, I.freeC, I.pin, I.hok, I.len⟩
theorem Inv.unwish (I : Inv (X.wish E) pins σ H s) : Inv X pins σ H s := ⟨I.ok.unwish, I.os, I.bare, I.base, I.loc, I.cell, I.free, I.freeC, I.pin, I.hok, I.len⟩
theorem SP.unwish {D : Ends} {f : Flow} {s' : Shared} (h : SP (X.wish E) pins D f s') : SP X pins D f s' := by
  cases f with
  | next => obtain ⟨σ', H', I, q⟩ := h; exact ⟨σ', H', I.unwish, q⟩
  | brk => obtain ⟨σ', H', I, q⟩ := h; exact ⟨σ', H', I.unwish, q⟩
  | cont => obtain ⟨σ', H', I, q⟩ := h; exact ⟨σ', H', I.unwish, q⟩
  | ret u => obtain ⟨v, σ', H', I, r, q⟩ := h; exact ⟨v, σ', H', I.unwish, r, q⟩
theorem PSs.nox {st : List Stmt} {t : TS} (h : PSs X.nox st t) : PSs X st t := fun pins s σ H D I hw =>
  wpAny_mono (h pins s σ H D (I.wish _) hw) (fun _ _ q => q.unwish) fun _ _ z => False.elim z
end

/-! ### blocks and small statements -/
section
variable {X : Cx} {st : Stmt} {rest : List Stmt} {t u : TS} {e : Expr} {te : TE} {pos : Pos}
def tNext : TS := fun D σ H => D.nx σ H
def tSeq (t u : TS) : TS := fun D σ H => t { D with nx := u D } σ H
theorem pss_nil : PSs X [] tNext := fun _ _ σ H _ I h => wpAny_execs_nil ⟨σ, H, I, h⟩
theorem pss_cons (h1 : PS X st t) (h2 : PSs X rest u) : PSs X (st :: rest) (tSeq t u) := by
  intro pins s σ H D I h
  refine wpAny_execs_cons (thn (h1 pins s σ H { D with nx := u D } I h) fun f s1 q => ?_)
  cases f with
  | next =>
    obtain ⟨σ', H', I', q⟩ := q
    exact h2 pins s1 σ' H' D I' q
  | ret v => exact q
  | brk => exact q
  | cont => exact q
theorem pss_one (h1 : PS X st t) : PSs X [st] t := by
  intro pins s σ H D I h
  refine wpAny_execs_cons (thn (h1 pins s σ H D I h) fun f s1 q => ?_)
  cases f with
  | next => exact wpAny_execs_nil q
  | ret v => exact q
  | brk => exact q
  | cont => exact q
/-- in a def's body nothing is shown -/
theorem Inv.quiet {pins : List (Addr × Obj)} {σ : St} {H : Hp} {s : Shared} (I : Inv X pins σ H s) : interactive X.env = false := by simp [interactive, I.ok.kind]
/-- an expression whose value is dropped -/
def tDrop (te : TE) : TS := fun D σ H => te σ H fun _ H1 => D.nx σ H1
theorem ps_expr (he : PE X e te) (hs : swapsWith e none pos.line X.env = pure false := by rfl) : PS X (.Expr e pos) (tDrop te) := by
  intro pins s σ H D I h
  exact wpAny_Expr_any (thn (he pins s σ H _ I h) fun v s1 ⟨x, H1, I1, r1, q1⟩ => ⟨σ, H1, I1, q1⟩) I.quiet hs
def tRet (te : TE) : TS := fun D σ H => te σ H D.rt
theorem ps_ret (he : PE X e te) : PS X (.Return (some e) pos) (tRet te) := by
  intro pins s σ H D I h
  exact wpAny_Return_some (thn (he pins s σ H _ I h) fun v s1 ⟨x, H1, I1, r1, q1⟩ => ⟨x, σ, H1, I1, r1, q1⟩)
def tIfS (c : TT) (t u : TS) : TS := fun D σ H => c σ H fun b H1 => if b = true then t D σ H1 else u D σ H1
theorem ps_if {c : Expr} {a b : List Stmt} {tc : TT} (hc : PT X c tc) (ha : PSs X a t) (hb : PSs X b u) : PS X (.If c a b pos) (tIfS tc t u) := by
  intro pins s σ H D I h
  refine wpAny_If (thn (hc pins s σ H _ I h) fun d s1 ⟨H1, I1, q1⟩ => ?_)
  cases d with
  | true => exact ha pins s1 σ H1 D I1 q1
  | false => exact hb pins s1 σ H1 D I1 q1
/-- code that the proof never comes to -/
def tNever : TS := fun _ _ _ => False
theorem pss_never {sts : List Stmt} : PSs X sts tNever := fun _ _ _ _ _ _ h => h.elim
end

/-! ### targets -/
abbrev TG := V → St → Hp → (St → Hp → Prop) → Prop
abbrev TGs := List V → St → Hp → (St → Hp → Prop) → Prop
def PG (X : Cx) (target : Expr) (t : TG) : Prop :=
  ∀ (pins : List (Addr × Obj)) (s : Shared) (σ : St) (H : Hp) (v : V) (u : Value) (Q : St → Hp → Prop), Inv X pins σ H s → RelV v u → t v σ H Q →
    wpAny (model X.prog X.w) X.A (assign target X.env u) (fun _ s' => ∃ σ' H', Inv X pins σ' H' s' ∧ Q σ' H') X.xe s
/-- several targets, one after another -/
def PGs (X : Cx) (ts : List Expr) (t : TGs) : Prop :=
  ∀ (pins : List (Addr × Obj)) (s : Shared) (σ : St) (H : Hp) (vs : List V) (us : List Value) (Q : St → Hp → Prop), Inv X pins σ H s → Vals vs us → t vs σ H Q →
    wpAny (model X.prog X.w) X.A (assignInOrder ((assignEach ts X.env).map (·.2)) us) (fun _ s' => ∃ σ' H', Inv X pins σ' H' s' ∧ Q σ' H') X.xe s
/-- o[i] = v, by values -/
abbrev TSet := V → V → V → Hp → (Hp → Prop) → Prop
def PSet (X : Cx) (t : TSet) : Prop :=
  ∀ (pins : List (Addr × Obj)) (s : Shared) (σ : St) (H : Hp) (o i v : V) (ov iv u : Value) (Q : Hp → Prop), Inv X pins σ H s → RelV o ov → RelV i iv → RelV v u → t o i v H Q →
    wpAny (model X.prog X.w) X.A (setItem ov iv u) (fun _ s' => ∃ H', Inv X pins σ H' s' ∧ Q H') X.xe s
/-- a op= b, by values -/
abbrev TIp := V → V → Hp → VK → Prop
def PIp (X : Cx) (op : Operator) (t : TIp) : Prop :=
  ∀ (pins : List (Addr × Obj)) (s : Shared) (σ : St) (H : Hp) (x y : V) (v u : Value) (Q : VK), Inv X pins σ H s → RelV x v → RelV y u → t x y H Q →
    wpAny (model X.prog X.w) X.A (inplaceOp op v u) (EP X pins σ Q) X.xe s
section
variable {X : Cx} {pos : Pos}
def gName (i : Nat) : TG := fun v σ H Q => Q (σ.set i (some v)) H
theorem pg_name {i : Nat} {x : Str} (hN : X.N.Nodup) (hi : X.N[i]? = some x) (hx : Loc X.env.scope x) (hf : X.fn x = true ∨ X.env.scope.names.lookup x = some .local := by first | exact .inl rfl | exact .inr rfl | assumption) : PG X (.Name x pos) (gName i) := by
  intro pins s σ H v u Q I r h
  exact wpAny_assign_Name (store_ok I hN hi hx r (fun s' I' => ⟨_, H, I', h⟩) hf)
def gNil : TGs := fun vs σ H Q => vs = [] ∧ Q σ H
def gCons (t : TG) (u : TGs) : TGs := fun vs σ H Q => ∃ v r, vs = v :: r ∧ t v σ H fun σ' H' => u r σ' H' Q
theorem pgs_nil : PGs X [] gNil := by
  intro pins s σ H vs us Q I r h
  obtain ⟨e, h⟩ := h
  subst e
  cases r
  exact assignInOrder_nil ⟨σ, H, I, h⟩
theorem pgs_cons {e : Expr} {es : List Expr} {t : TG} {u : TGs} (h1 : PG X e t) (h2 : PGs X es u)
    (hs : (assignEach (e :: es) X.env).map (·.2) = assign e X.env :: (assignEach es X.env).map (·.2) := by rfl) : PGs X (e :: es) (gCons t u) := by
  intro pins s σ H vs us Q I r h
  obtain ⟨v, vr, e1, h⟩ := h
  subst e1
  cases r with
  | cons r rr =>
    rw [hs]
    refine assignInOrder_cons (thn (h1 pins s σ H _ _ _ I r h) fun _ s1 ⟨σ1, H1, I1, q1⟩ => ?_)
    exact h2 pins s1 σ1 H1 _ _ Q I1 rr q1
/-- (a, b, ..) = a tuple of that length -/
def gTup (K : PySem.W.Frag) (n : Nat) (t : TGs) : TG := fun v σ H Q => ∃ a xs, v = .ref a ∧ SqT K H a xs ∧ xs.length = n ∧ t xs σ H Q
theorem pg_tup {es : List Expr} {k : Nat} {t : TGs} {n : Nat} (hc : X.calm = true) (h : PGs X es t)
    (hn : (assignEach es X.env).length = n := by rfl) (hst : (assignEach es X.env).findIdx? (·.1) = none := by rfl) : PG X (.Tuple es k pos) (gTup X.K n t) := by
  intro pins s σ H v u Q I r hw
  obtain ⟨a, xs, e1, hq, hl, hw⟩ := hw
  subst e1
  cases r
  obtain ⟨its, rv, ht, hz⟩ := I.tuple hq
  refine assign_Tuple_tuple (I.ok.hd hc) ht (by simp [hn, ← hl, rv.length]) hst fun h' hx => ?_
  have I1 : Inv X pins σ H { s with heap := h' } := I.kept (t' := s.toks) fun b o e => hx b o (Nat.ne_of_lt (Heap.lt_size e)) e
  exact h pins _ σ H xs _ Q I1 (by simpa using rv) hw
/-- o[i] = .. -/
def gSub (to ti : TE) (t : TSet) : TG := fun v σ H Q => to σ H fun o H1 => ti σ H1 fun i H2 => t o i v H2 fun H3 => Q σ H3
theorem pg_sub {o i : Expr} {to ti : TE} {t : TSet} (ho : PE X o to) (hi : PE X i ti) (hs : PSet X t)
    (ha : ∀ v, assign (.Subscript o i pos) X.env v = (do
      let ov ← holding [v] (eval o X.env)
      let iv ← holding [v, ov] (eval i X.env)
      standAt pos
      holding [v, ov, iv] (setItem ov iv v)
      release [v, ov, iv] []) := by intro _; rfl) : PG X (.Subscript o i pos) (gSub to ti t) := by
  intro pins s σ H v u Q I r h
  rw [ha]
  refine wpAny_bind (wpAny_holding (thn (ho pins s σ H _ I h) fun ov s1 ⟨x, H1, I1, r1, q1⟩ => ?_))
  refine wpAny_bind (wpAny_holding (thn (hi pins s1 σ H1 _ I1 q1) fun iv s2 ⟨y, H2, I2, r2, q2⟩ => ?_))
  refine wpAny_bind (wpAny_standAt (wpAny_bind (wpAny_holding (thn (hs pins s2 σ H2 x y v ov iv u _ I2 r1 r2 r q2) fun _ s3 ⟨H3, I3, q3⟩ => ?_))))
  exact wpAny_release ⟨σ, H3, I3, q3⟩
/-- target = value -/
def tAsg (te : TE) (g : TG) : TS := fun D σ H => te σ H fun x H1 => g x σ H1 D.nx
theorem ps_asg {tg e : Expr} {te : TE} {g : TG} (he : PE X e te) (hg : PG X tg g) (hs : swapsWithSole [tg] e pos.line X.env = pure false := by rfl) (hw : swappedStores [tg] e X.env = pure none := by rfl)
    (h1 : (assignEach [tg] X.env).map (·.2) = [assign tg X.env] := by rfl) : PS X (.Assign [tg] e pos) (tAsg te g) := by
  intro pins s σ H D I h
  refine wpAny_Assign_stores (thn (he pins s σ H _ I h) fun v s1 ⟨x, H1, I1, r1, q1⟩ => ?_) hs hw
  rw [h1]
  exact thn (hg pins s1 σ H1 x v _ I1 r1 q1) fun _ s2 q => q
/-- name = value -/
theorem ps_set {i : Nat} {x : Str} {e : Expr} {te : TE} {pos' : Pos} (hN : X.N.Nodup) (hi : X.N[i]? = some x) (hx : Loc X.env.scope x) (he : PE X e te) (hs : swapsWith e (some (.Name x pos')) pos.line X.env = pure false := by rfl) (hf : X.fn x = true ∨ X.env.scope.names.lookup x = some .local := by first | exact .inl rfl | exact .inr rfl | assumption) :
    PS X (.Assign [.Name x pos'] e pos) (tAsg te (gName i)) := by
  intro pins s σ H D I h
  refine wpAny_Assign_Name (thn (he pins s σ H _ I h) fun v s1 ⟨y, H1, I1, r1, q1⟩ => ?_) hs
  exact store_ok I1 hN hi hx r1 (fun s2 I2 => ⟨_, H1, I2, q1⟩) hf
/-- name op= e -/
def tAug (i : Nat) (te : TE) (ti : TIp) : TS := fun D σ H => ∃ x, σ[i]? = some (some x) ∧ te σ H fun y H1 => ti x y H1 fun z H2 => D.nx (σ.set i (some z)) H2
theorem ps_aug {i : Nat} {x : Str} {e : Expr} {te : TE} {op : Operator} {ti : TIp} {pos' : Pos} (hN : X.N.Nodup) (hi : X.N[i]? = some x) (hx : Loc X.env.scope x) (he : PE X e te) (ho : PIp X op ti) (hf : X.fn x = true ∨ X.env.scope.names.lookup x = some .local := by first | exact .inl rfl | exact .inr rfl | assumption) :
    PS X (.AugAssign (.Name x pos') op e pos) (tAug i te ti) := by
  intro pins s σ H D I h
  obtain ⟨v, e1, h⟩ := h
  obtain ⟨m, hn, hl⟩ := I.loc
  have vis : Vis X.env.scope x := by rcases hx with k | k; exact .inl k; exact .inr (.inl k)
  obtain ⟨u, r, l⟩ := hl i x v hi e1 vis
  refine wpAny_AugAssign_Name ?_
  have go : wpAny (model X.prog X.w) X.A (eval e X.env) (fun w s₂ => wpAny (model X.prog X.w) X.A (inplaceOp op u w) (fun r s₃ => wpAny (model X.prog X.w) X.A (storeName X.env x r) (fun _ => SP X pins D .next) X.xe s₃) X.xe s₂) X.xe s := by
    refine thn (he pins s σ H _ I h) fun w s1 ⟨y, H1, I1, r1, q1⟩ => ?_
    refine thn (ho pins s1 σ H1 v y u w _ I1 r r1 q1) fun z s2 ⟨zv, H2, I2, r2, q2⟩ => ?_
    exact store_ok I2 hN hi hx r2 (fun s3 I3 => ⟨_, H2, I3, q2⟩) hf
  rcases l with ⟨hk, hm⟩ | ⟨hk, c, hc, hcell⟩
  · exact wpAny_loadName_local I.ok.kind hk hn hm go
  · rcases hk with hk | hk
    · exact wpAny_loadName_cell I.ok.kind hk hc hcell go
    · rcases hx with k | k
      · have : X.env.scope.names.lookup x = some .free := hk
        rw [k] at this; cases this
      · have : X.env.scope.names.lookup x = some .free := hk
        rw [k] at this; cases this
/-- ints -/
def ipI (f : Int → Int → Int) : TIp := fun x y H Q => ∃ i j, x = .int i ∧ y = .int j ∧ Q (.int (f i j)) H
theorem ip_add : PIp X .Add (ipI fun i j => i + j) := by
  intro pins s σ H x y v u Q I r1 r2 h
  obtain ⟨i, j, e1, e2, q⟩ := h
  subst e1; subst e2
  obtain ⟨t, rfl⟩ := r1
  obtain ⟨t', rfl⟩ := r2
  exact iadd_int ⟨.int _, H, I.tok _, ⟨_, rfl⟩, q⟩
end

/-! ### while -/
section
variable {X : Cx} {pos : Pos}
/-- the invariant W with its measure -/
def tWhile (c : TT) (tb : TS) : TS := fun D σ H => ∃ W : Nat → St → Hp → Prop, (∃ m, W m σ H) ∧ ∀ m σ H, W m σ H →
  c σ H fun b H1 => if b = true then ∃ N : St → Hp → Prop, (∀ σ' H', N σ' H' → ∃ m', m' < m ∧ W m' σ' H') ∧ tb { D with nx := N, ct := N, bk := D.nx } σ H1 else D.nx σ H1
theorem ps_while {c : Expr} {body : List Stmt} {tc : TT} {tb : TS} (hp : PassesOwn (model X.prog X.w) X.A X.env X.xe) (hc : PT X c tc) (hb : PSs X body tb) : PS X (.While c body [] pos) (tWhile tc tb) := by
  intro pins s σ H D I h
  obtain ⟨W, ⟨m0, w0⟩, turn⟩ := h
  refine wpAny_While (codeAny_whileLoop (fun n s' => ∃ σ' H', Inv X pins σ' H' s' ∧ W n σ' H') ?_ m0 ⟨σ, H, I, w0⟩)
  rintro n s1 ⟨σ1, H1, I1, w1⟩
  refine wpAny_passesOwn hp (thn (hc pins s1 σ1 H1 _ I1 (turn n σ1 H1 w1)) fun b s2 ⟨H2, I2, q2⟩ => ?_)
  cases b with
  | true =>
    obtain ⟨N, hN, q2⟩ := q2
    rw [if_pos rfl]
    refine wpAny_passesOwn hp (thn (hb pins s2 σ1 H2 _ I2 q2) fun f s3 q3 => ?_)
    cases f with
    | next =>
      obtain ⟨σ3, H3, I3, n3⟩ := q3
      obtain ⟨m', hm, w3⟩ := hN σ3 H3 n3
      exact ⟨m', hm, σ3, H3, I3, w3⟩
    | cont =>
      obtain ⟨σ3, H3, I3, n3⟩ := q3
      obtain ⟨m', hm, w3⟩ := hN σ3 H3 n3
      exact ⟨m', hm, σ3, H3, I3, w3⟩
    | brk => exact q3
    | ret v => exact q3
  | false =>
    rw [if_neg Bool.false_ne_true]
    exact wpAny_execs_nil ⟨σ1, H2, I2, q2⟩
end

/-! ### what a loop or a comprehension walks -/
/-- at turn i: it yields x (the heap may grow), or it stops -/
structure It where
  go : Nat → Hp → Prop
  yld : Nat → Hp → V → Hp → Prop
  stop : Nat → Hp → Prop
/-- the iterator's own objects may turn: they are not the frame's, not pinned, younger than the entry (or a comprehension's own) -/
def FpOk (X : Cx) (pins : List (Addr × Obj)) (H : Hp) (b : Addr) : Prop :=
  H b = none ∧ b ≠ X.env.locals ∧ b ∉ X.fs ∧ (b ∈ X.ex ∨ X.s₀.heap.objs.size ≤ b) ∧ (∀ x c, X.env.cells.lookup x = some c → c ≠ b) ∧ ∀ p ∈ X.pn ++ pins, p.1 ≠ b
theorem Inv.fpOk {X : Cx} {pins : List (Addr × Obj)} {σ : St} {H H' : Hp} {s : Shared} {b : Addr} (I : Inv X pins σ H s) (hb : s.heap.objs.size ≤ b) (hn : H' b = none) : FpOk X pins H' b := by
  refine ⟨hn, Nat.ne_of_gt (Nat.lt_of_lt_of_le I.lt hb), I.nofs hb, .inr (Nat.le_trans I.sz hb), fun x c e z => ?_, fun p hp z => ?_⟩
  · obtain ⟨v, q⟩ := I.cell x c e
    exact absurd (Nat.lt_of_lt_of_le q.lt (by rw [z]; exact hb)) (Nat.lt_irrefl _)
  · exact absurd (Nat.lt_of_lt_of_le (Heap.lt_size (I.pin p hp).1) (by rw [z]; exact hb)) (Nat.lt_irrefl _)
structure Turn (P : Program) (w : World) (K : PySem.W.Frag) (tg : Expr) (J : It) (fp : List Addr) (it : Addr) (tn : Nat → Heap → Prop) : Prop where
  mem : it ∈ fp
  obj : ∀ i h, tn i h → ∀ b ∈ fp, ∃ o, h.get? b = some o ∧ ∀ v, o.data ≠ .cell v
  keep : ∀ i h h', tn i h → (∀ b ∈ fp, ∀ o, h.get? b = some o → h'.get? b = some o) → tn i h'
  item : ∀ (X : Cx), X.prog = P → X.w = w → X.K = K → X.calm = true → ∀ (i : Nat) (pins : List (Addr × Obj)) (s : Shared) (σ : St) (H : Hp) (E : Value → Shared → Prop), Inv X pins σ H s → (∀ b ∈ fp, FpOk X pins H b) → tn i s.heap → J.go i H →
    wpAny (model P w) X.A (pyNext (.ref it)) (fun r s1 => ∃ u, r = some u ∧
      wpAny (model P w) X.A (letOwnedTupleGo tg (.ref it) u) (fun _ s2 => ∃ x H', Inv X pins σ H' s2 ∧ RelV x u ∧ J.yld i H x H' ∧ tn (i + 1) s2.heap ∧ ∀ b ∈ fp, H' b = none) E s1) E s
  done : ∀ (X : Cx), X.prog = P → X.w = w → X.K = K → X.calm = true → ∀ (i : Nat) (pins : List (Addr × Obj)) (s : Shared) (σ : St) (H : Hp) (E : Value → Shared → Prop), Inv X pins σ H s → (∀ b ∈ fp, FpOk X pins H b) → tn i s.heap → J.stop i H →
    wpAny (model P w) X.A (pyNext (.ref it)) (fun r s1 => r = none ∧ Inv X pins σ H s1) E s
  self : ∀ (A : Around) (i : Nat) (s : Shared) (Q : Value → Shared → Prop) (E : Value → Shared → Prop), tn i s.heap → Q (.ref it) s → wpAny (model P w) A (pyIter (.ref it)) Q E s
abbrev TI := St → Hp → (It → Hp → Prop) → Prop
/-- an iterator has come -/
def PIE (X : Cx) (pins : List (Addr × Obj)) (σ : St) (tg : Expr) (R : It → Hp → Prop) (itv : Value) (s2 : Shared) : Prop :=
  ∃ (it : Addr) (fp : List Addr) (tn : Nat → Heap → Prop) (J : It) (H' : Hp), itv = .ref it ∧ Inv X pins σ H' s2 ∧ Turn X.prog X.w X.K tg J fp it tn ∧ tn 0 s2.heap ∧ (∀ b ∈ fp, FpOk X pins H' b) ∧ R J H'
def PI (X : Cx) (tg iter : Expr) (wi : TI) : Prop :=
  ∀ (pins : List (Addr × Obj)) (s : Shared) (σ : St) (H : Hp) (R : It → Hp → Prop), Inv X pins σ H s → wi σ H R →
    wpAny (model X.prog X.w) X.A (eval iter X.env) (fun v s1 => wpAny (model X.prog X.w) X.A (pyIter v) (PIE X pins σ tg R) X.xe s1) X.xe s

/-- the step ahead of the store is nothing for an iterator that keeps no tuple -/
theorem go_of {M : Model} {A : Around} {E : Value → Shared → Prop} {s : Shared} {tg : Expr} {it : Addr} {u : Value} {o : Obj} {n : String} {vs : Array Value} {Q : Unit → Shared → Prop} (ho : s.heap.get? it = some o) (hc : o.cls = .type n) (hd : o.data = .fields vs)
    (hn : ["enumerate", "zip", "dict_itemiterator", "dict_reverseitemiterator", "odict_iterator", "itertools.zip_longest", "itertools.pairwise"].contains n = false) (hQ : Q () s) : wpAny M A (letOwnedTupleGo tg (.ref it) u) Q E s := by
  unfold letOwnedTupleGo
  cases tg <;> first
    | exact wpAny_pure hQ
    | (cases u <;> first
        | exact wpAny_pure hQ
        | (refine wpAny_bind (wpAny_load ho ?_)
           rw [hc, hd]
           show wpAny M A (if (["enumerate", "zip", "dict_itemiterator", "dict_reverseitemiterator", "odict_iterator", "itertools.zip_longest", "itertools.pairwise"].contains n && vs[0]? == some (rawInt _)) = true then _ else _) Q E s
           rw [if_neg (by intro h; rw [hn, Bool.false_and] at h; cases h)]
           exact wpAny_pure hQ))

/-- the list at a, as it stands at each turn (a loop may append to it) -/
def Itl (K : PySem.W.Frag) (a : Addr) : It :=
  ⟨fun i H => ∃ xs x, SqL K H a xs ∧ xs[i]? = some x, fun i H x H' => H' = H ∧ ∀ xs, SqL K H a xs → xs[i]? = some x, fun i H => ∃ xs, SqL K H a xs ∧ xs.length ≤ i⟩
/-- lo, lo + 1, .. (n of them) -/
def Itr (lo : Int) (n : Nat) : It := ⟨fun i _ => i < n, fun i H x H' => H' = H ∧ x = .int (lo + i), fun i _ => n ≤ i⟩
theorem turn_list {P : Program} {w : World} {K : PySem.W.Frag} {tg : Expr} (a it : Addr) : Turn P w K tg (Itl K a) [it] it (fun i h => h.IsListIter it a i) where
  mem := by simp
  obj := fun i h st b hb => by
    have e : b = it := by simpa using hb
    subst e
    obtain ⟨o, e, c, d⟩ := st
    exact ⟨o, e, fun v z => by rw [d] at z; cases z⟩
  keep := fun i h h' st k => st.at fun o e => k it (by simp) o e
  item := by
    intro X hP hw hK hc i pins s σ H E I hf st hg
    subst hP hw hK
    obtain ⟨xs, x, hq, hx⟩ := hg
    obtain ⟨its, rv, p, hz⟩ := I.list hq
    obtain ⟨u, hu, ru⟩ := rv.get hx
    obtain ⟨f0, f1, f2, f3, f4, f5⟩ := hf it (by simp)
    refine wpAny_pyNext_list_item st p.isList (x := u) (by simpa using hu) fun h' st' sb => ?_
    have I1 : Inv X pins σ H { s with heap := h' } := I.turned (t' := s.toks) (fun b o hb e => (sb.2 b hb).trans e) f0 f1 f3 f4 f5
    obtain ⟨o, e, c, d⟩ := id st'
    exact ⟨u, rfl, go_of (s := { s with heap := h' }) e c d (by decide) ⟨x, H, I1, ru, ⟨rfl, fun ys hy => by rw [I.list_inj hy hq]; exact hx⟩, st', fun b hb => (hf b hb).1⟩⟩
  done := by
    intro X hP hw hK hc i pins s σ H E I hf st hg
    subst hP hw hK
    obtain ⟨xs, hq, hx⟩ := hg
    obtain ⟨its, rv, p, hz⟩ := I.list hq
    obtain ⟨f0, f1, f2, f3, f4, f5⟩ := hf it (by simp)
    have hl := rv.length
    exact wpAny_pyNext_list_end (I.ok.hd hc) st p.isList (by simp; omega) fun h' eb => ⟨rfl, I.turned (t' := s.toks) (fun b o hb e => eb b o hb e) f0 f1 f3 f4 f5⟩
  self := fun _ _ _ _ _ st h => wpAny_pyIter_listiter st h
theorem turn_range {P : Program} {w : World} {K : PySem.W.Frag} {tg : Expr} (it : Addr) (lo : Int) (n : Nat) : Turn P w K tg (Itr lo n) [it] it (fun i h => IsRangeIter h it (lo + (i : Nat) * 1) ((n : Int) - (i : Nat)) 1) where
  mem := by simp
  obj := fun i h st b hb => by
    have e : b = it := by simpa using hb
    subst e
    exact ⟨_, st, fun v z => by
      have z' : Data.fields _ = Data.cell v := z
      cases z'⟩
  keep := fun i h h' st k => k it (by simp) _ st
  item := by
    intro X hP hw hK hc i pins s σ H E I hf st hg
    subst hP hw hK
    obtain ⟨f0, f1, f2, f3, f4, f5⟩ := hf it (by simp)
    have W := Walks.range (prog := X.prog) (w := X.w) (I.ok.hd hc) it lo 1 n
    refine W.item i s _ _ hg st fun v h' tk hv st' kk => ?_
    obtain ⟨t, rfl⟩ := hv
    have I1 : Inv X pins σ H { s with heap := h', toks := tk } := I.turned (fun b o hb e => kk b o (by simpa using hb) e) f0 f1 f3 f4 f5
    refine ⟨_, rfl, go_of (s := { s with heap := h', toks := tk }) (n := "range_iterator") st' rfl rfl (by decide) ⟨.int (lo + i), H, I1, ⟨t, ?_⟩, ⟨rfl, rfl⟩, st', fun b hb => (hf b hb).1⟩⟩
    rw [Int.mul_one]
  done := by
    intro X hP hw hK hc i pins s σ H E I hf st hg
    subst hP hw hK
    obtain ⟨f0, f1, f2, f3, f4, f5⟩ := hf it (by simp)
    exact wpAny_pyNext_range_end (I.ok.hd hc) st (by have : n ≤ i := hg; omega) fun h' eb => ⟨rfl, I.turned (t' := s.toks) (fun b o hb e => eb b o hb e) f0 f1 f3 f4 f5⟩
  self := fun _ _ _ _ _ st h => wpAny_pyIter_rangeiter st h
end L2

namespace L2
open PySem PySem.Spec PyProof.Rows
section
variable {X : Cx} {tg : Expr}
def iList (K : PySem.W.Frag) (tl : TE) : TI := fun σ H R => tl σ H fun x H1 => ∃ a, x = .ref a ∧ (∃ xs, SqL K H1 a xs) ∧ R (Itl K a) H1
theorem pi_list {l : Expr} {tl : TE} (hl : PE X l tl) : PI X tg l (iList X.K tl) := by
  intro pins s σ H R I h
  refine thn (hl pins s σ H _ I h) fun v s1 ⟨x, H1, I1, r1, q1⟩ => ?_
  obtain ⟨a, e, ⟨xs, hq⟩, q⟩ := q1
  subst e
  cases r1
  obtain ⟨its, rv, p, hz⟩ := I1.list hq
  refine wpAny_pyIter_list p.isList ?_
  refine ⟨s1.heap.objs.size, [s1.heap.objs.size], _, _, H1, rfl, I1.kept (t' := s1.toks) fun b o e => Heap.get?_push_of_some _ e, turn_list a _, ⟨_, Heap.get?_push_size _ rfl, rfl, rfl⟩, fun b hb => ?_, q⟩
  have e : b = s1.heap.objs.size := by simpa using hb
  subst e
  exact I1.fpOk (Nat.le_refl _) (I1.hok.fresh (Nat.le_refl _))
/-- a range object just made, walked -/
theorem range_it {pins : List (Addr × Obj)} {σ : St} {H : Hp} {s : Shared} {R : It → Hp → Prop} {E : Value → Shared → Prop} {lo hi : Int} {t u v : Tok} {tk : Nat} (I : Inv X pins σ H s) (h1 : -(2 ^ 62) ≤ lo) (h2 : lo < 2 ^ 62) (h3 : -(2 ^ 62) ≤ hi) (h4 : hi < 2 ^ 62)
    (q : R (Itr lo (hi - lo).toNat) H) : wpAny (model X.prog X.w) X.A (pyIter (.ref s.heap.objs.size)) (PIE X pins σ tg R) E { s with heap := s.heap.push { cls := .type "range", data := .fields #[.int lo t, .int hi u, .int 1 v] }, toks := tk } := by
  refine wpAny_pyIter_range (IsRange.new ..) (small_one h1 h2 h3 h4) ?_
  have I1 : Inv X pins σ H { s with heap := s.heap.push { cls := .type "range", data := .fields #[.int lo t, .int hi u, .int 1 v] }, toks := tk } := I.kept fun b o e => Heap.get?_push_of_some _ e
  refine ⟨(s.heap.push { cls := .type "range", data := .fields #[.int lo t, .int hi u, .int 1 v] }).objs.size, [(s.heap.push { cls := .type "range", data := .fields #[.int lo t, .int hi u, .int 1 v] }).objs.size], _, _, H, rfl,
    I1.kept (t' := tk) fun b o e => Heap.get?_push_of_some _ e, turn_range _ lo (hi - lo).toNat, ?_, fun b hb => ?_, q⟩
  · have e1 : lo + ((0 : Nat) : Int) * 1 = lo := by simp
    have e2 : (((hi - lo).toNat : Nat) : Int) - ((0 : Nat) : Int) = Builtin.Range.rangeSize lo hi 1 := by rw [rangeSize_one]; split <;> omega
    show IsRangeIter _ _ (lo + ((0 : Nat) : Int) * 1) ((((hi - lo).toNat : Nat) : Int) - ((0 : Nat) : Int)) 1
    rw [e1, e2]
    exact Heap.get?_push_size _ rfl
  · have e : b = (s.heap.push { cls := .type "range", data := .fields #[.int lo t, .int hi u, .int 1 v] }).objs.size := by simpa using hb
    subst e
    exact I1.fpOk (Nat.le_refl _) (I1.hok.fresh (Nat.le_refl _))
def iRng1 (ta : TA) : TI := fun σ H R => ta σ H fun vs H1 => ∃ j : Int, vs = [.int j] ∧ -(2 ^ 62) ≤ j ∧ j < 2 ^ 62 ∧ R (Itr 0 j.toNat) H1
def iRng2 (ta : TA) : TI := fun σ H R => ta σ H fun vs H1 => ∃ i j : Int, vs = [.int i, .int j] ∧ (-(2 ^ 62) ≤ i ∧ i < 2 ^ 62 ∧ -(2 ^ 62) ≤ j ∧ j < 2 ^ 62) ∧ R (Itr i (j - i).toNat) H1
theorem pi_range1 {a : Expr} {ta : TA} {p pos : Pos} (hg : Gl X "range") (hm : X.mg "range" = none) (ha : PA X [a] ta) (hs : starEach [a] X.env = [(false, eval a X.env)] := by rfl) : PI X tg (.Call (.Name "range" p) [a] [] pos) (iRng1 ta) := by
  intro pins s σ H R I h
  refine Call_ (ld_blt I hg hm boot_range (PyProof.Rows.callWith_type1 (thn (ha pos pins s σ H _ I h) fun us s1 ⟨vs, H1, I1, r1, q1⟩ => ?_) hs rfl))
  obtain ⟨j, e, q1, q2, q⟩ := q1
  subst e
  cases r1 with
  | cons r rr =>
    cases rr
    obtain ⟨t, rfl⟩ := r
    exact call_range_1 (range_it I1 (by omega) (by omega) q1 q2 (by simpa using q))
theorem pi_range2 {a b : Expr} {ta : TA} {p pos : Pos} (hg : Gl X "range") (hm : X.mg "range" = none) (ha : PA X [a, b] ta) (hs : starEach [a, b] X.env = [(false, eval a X.env), (false, eval b X.env)] := by rfl) (hs2 : starEach [b] X.env = [(false, eval b X.env)] := by rfl) :
    PI X tg (.Call (.Name "range" p) [a, b] [] pos) (iRng2 ta) := by
  intro pins s σ H R I h
  refine Call_ (ld_blt I hg hm boot_range (PyProof.Rows.callWith_type1 (thn (ha pos pins s σ H _ I h) fun us s1 ⟨vs, H1, I1, r1, q1⟩ => ?_) (by rw [hs, hs2]) (by rw [hs2]; rfl)))
  obtain ⟨i, j, e, ⟨q1, q2, q3, q4⟩, q⟩ := q1
  subst e
  cases r1 with
  | cons r rr =>
    cases rr with
    | cons r' rr =>
      cases rr
      obtain ⟨t, rfl⟩ := r
      obtain ⟨t', rfl⟩ := r'
      exact call_range_2 (range_it I1 q1 q2 q3 q4 q)

/-! ### for -/
/-- W: the invariant by the turn and a measure; N: what the body is to reach -/
def tFor (wi : TI) (g : TG) (tb : TS) : TS := fun D σ H => wi σ H fun J H1 => ∃ W : Nat → Nat → St → Hp → Prop, (∃ m, W 0 m σ H1) ∧ ∀ i m σ H, W i m σ H →
  (J.stop i H ∧ D.nx σ H) ∨ (J.go i H ∧ ∃ N : St → Hp → Prop, (∀ σ' H', N σ' H' → ∃ m', m' < m ∧ W (i + 1) m' σ' H') ∧ ∀ x H', J.yld i H x H' → g x σ H' fun σ2 H2 => tb { D with nx := N, ct := N, bk := D.nx } σ2 H2)
/-- the records at fp as they stand -/
def pinsAt (fp : List Addr) (h : Heap) : List (Addr × Obj) := fp.filterMap fun b => (h.get? b).map fun o => (b, o)
theorem mem_pinsAt {fp : List Addr} {h : Heap} {b : Addr} {o : Obj} (hb : b ∈ fp) (e : h.get? b = some o) : (b, o) ∈ pinsAt fp h := List.mem_filterMap.mpr ⟨b, hb, by rw [e]; rfl⟩
theorem of_pinsAt {fp : List Addr} {h : Heap} {p : Addr × Obj} (hp : p ∈ pinsAt fp h) : p.1 ∈ fp ∧ h.get? p.1 = some p.2 := by
  obtain ⟨b, hb, e⟩ := List.mem_filterMap.mp hp
  cases q : h.get? b with
  | none => rw [q] at e; cases e
  | some o =>
    rw [q] at e
    have e' : (b, o) = p := Option.some.inj e
    subst e'
    exact ⟨hb, q⟩
theorem Inv.pinned {pins : List (Addr × Obj)} {σ : St} {H : Hp} {s : Shared} {fp : List Addr} (I : Inv X pins σ H s) (hf : ∀ b ∈ fp, FpOk X pins H b) (ho : ∀ b ∈ fp, ∃ o, s.heap.get? b = some o ∧ ∀ v, o.data ≠ .cell v) : Inv X (pins ++ pinsAt fp s.heap) σ H s :=
  I.pins_of fun p hp => (List.mem_append.mp hp).elim (fun z => I.pin p (List.mem_append_right _ z)) fun z => by
    obtain ⟨hb, e⟩ := of_pinsAt z
    obtain ⟨f0, f1, f2, _⟩ := hf p.1 hb
    obtain ⟨o, e', d⟩ := ho p.1 hb
    rw [e] at e'; cases e'
    exact ⟨e, f0, f1, f2, d⟩
theorem Inv.unpinned {pins pl : List (Addr × Obj)} {σ : St} {H : Hp} {s : Shared} (I : Inv X (pins ++ pl) σ H s) : Inv X pins σ H s := I.pins_of fun p hp => I.pin p (List.mem_append_right _ (List.mem_append_left _ hp))
theorem ps_for {iter : Expr} {body : List Stmt} {wi : TI} {g : TG} {tb : TS} {pos : Pos} (hp : PassesOwn (model X.prog X.w) X.A X.env X.xe) (hc : X.calm = true) (hi : PI X tg iter wi) (hg : PG X tg g) (hb : PSs X body tb)
    (hs : ∀ x, foldedSetIterable iter X.env x = pure x := by intro _; rfl) : PS X (.For tg iter body [] pos) (tFor wi g tb) := by
  intro pins s σ H D I h
  refine wpAny_For (thn (hi pins s σ H _ I h) fun v s1 h1 => thn h1 fun itv s2 h2 => ?_) hs
  obtain ⟨it, fp, tn, J, H2, e, I2, T, st2, f2, W, ⟨m0, w0⟩, turn⟩ := h2
  subst e
  -- what stays true of the iterator's objects through the loop
  have stat : ∀ {H' : Hp}, (∀ b ∈ fp, H' b = none) → ∀ b ∈ fp, FpOk X pins H' b := fun hn b hb => ⟨hn b hb, (f2 b hb).2⟩
  refine codeAny_forLoop_any (fun n s' => ∃ i σ' H', Inv X pins σ' H' s' ∧ tn i s'.heap ∧ (∀ b ∈ fp, H' b = none) ∧ W i n σ' H') ?_ m0 ⟨0, σ, H2, I2, st2, fun b hb => (f2 b hb).1, w0⟩
  rintro n s3 ⟨i, σ3, H3, I3, st3, fr3, w3⟩
  rcases turn i n σ3 H3 w3 with ⟨stop, qn⟩ | ⟨go, N, hN, step⟩
  · refine wpAny_passesOwn hp (thn (T.done X rfl rfl rfl hc i pins s3 σ3 H3 X.xe I3 (stat fr3) st3 stop) fun r s4 ⟨hr, I4⟩ => ?_)
    subst hr
    exact wpAny_execs_nil ⟨σ3, H3, I4, qn⟩
  · refine wpAny_passesOwn hp (thn (T.item X rfl rfl rfl hc i pins s3 σ3 H3 X.xe I3 (stat fr3) st3 go) fun r s4 ⟨u, hr, h4⟩ => ?_)
    subst hr
    refine wpAny_passesOwn hp (thn h4 fun _ s5 ⟨x, H5, I5, r5, y5, st5, fr5⟩ => ?_)
    have I5' := I5.pinned (stat fr5) (T.obj _ _ st5)
    refine wpAny_passesOwn hp (thn (hg _ s5 σ3 H5 x u _ I5' r5 (step x H5 y5)) fun _ s6 ⟨σ6, H6, I6, q6⟩ => ?_)
    refine wpAny_passesOwn hp (thn (hb _ s6 σ6 H6 _ I6 q6) fun f s7 q7 => ?_)
    have again : ∀ {σ7 : St} {H7 : Hp}, Inv X (pins ++ pinsAt fp s5.heap) σ7 H7 s7 → N σ7 H7 → ∃ m, m < n ∧ ∃ i σ' H', Inv X pins σ' H' s7 ∧ tn i s7.heap ∧ (∀ b ∈ fp, H' b = none) ∧ W i m σ' H' := fun {σ7 H7} I7 n7 => by
      obtain ⟨m', hm, w7⟩ := hN σ7 H7 n7
      refine ⟨m', hm, i + 1, σ7, H7, I7.unpinned, T.keep _ _ _ st5 fun b hb o e => (I7.pin (b, o) (List.mem_append_right _ (List.mem_append_right _ (mem_pinsAt hb e)))).1, fun b hb => ?_, w7⟩
      obtain ⟨o, e, d⟩ := T.obj _ _ st5 b hb
      exact (I7.pin (b, o) (List.mem_append_right _ (List.mem_append_right _ (mem_pinsAt hb e)))).2.1
    cases f with
    | next => obtain ⟨σ7, H7, I7, n7⟩ := q7; exact again I7 n7
    | cont => obtain ⟨σ7, H7, I7, n7⟩ := q7; exact again I7 n7
    | brk => obtain ⟨σ7, H7, I7, q7⟩ := q7; exact ⟨σ7, H7, I7.unpinned, q7⟩
    | ret v => obtain ⟨x7, σ7, H7, I7, r7, q7⟩ := q7; exact ⟨x7, σ7, H7, I7.unpinned, r7, q7⟩
end

/-! ### the forms one uses -/
/-- over a list that the body leaves as it is -/
theorem for_list {K : PySem.W.Frag} {a : Addr} {xs : List V} {g : TG} {tb : TS} {D : Ends} {σ : St} {H : Hp} (Pv : Nat → St → Hp → Prop) (h0 : Pv 0 σ H) (hl : ∀ i σ H, i ≤ xs.length → Pv i σ H → SqL K H a xs)
    (hs : ∀ i x σ H, xs[i]? = some x → Pv i σ H → g x σ H fun σ2 H2 => tb { D with nx := Pv (i + 1), ct := Pv (i + 1), bk := D.nx } σ2 H2) (hd : ∀ σ H, Pv xs.length σ H → D.nx σ H) :
    ∃ W : Nat → Nat → St → Hp → Prop, (∃ m, W 0 m σ H) ∧ ∀ i m σ H, W i m σ H →
      ((Itl K a).stop i H ∧ D.nx σ H) ∨ ((Itl K a).go i H ∧ ∃ N : St → Hp → Prop, (∀ σ' H', N σ' H' → ∃ m', m' < m ∧ W (i + 1) m' σ' H') ∧ ∀ x H', (Itl K a).yld i H x H' → g x σ H' fun σ2 H2 => tb { D with nx := N, ct := N, bk := D.nx } σ2 H2) := by
  refine ⟨fun i m σ H => m = xs.length - i ∧ i ≤ xs.length ∧ Pv i σ H, ⟨xs.length, by simp, Nat.zero_le _, h0⟩, ?_⟩
  rintro i m σ H ⟨rfl, hi, p⟩
  have q := hl i σ H hi p
  by_cases hlt : i < xs.length
  · refine .inr ⟨⟨xs, xs[i], q, by simp [hlt]⟩, Pv (i + 1), fun σ' H' p' => ⟨xs.length - (i + 1), by omega, rfl, hlt, p'⟩, fun x H' y => ?_⟩
    obtain ⟨e, y⟩ := y
    subst e
    exact hs i x σ _ (y xs q) p
  · have e : i = xs.length := by omega
    subst e
    exact .inl ⟨⟨xs, q, Nat.le_refl _⟩, hd σ H p⟩
theorem for_range {lo : Int} {n : Nat} {g : TG} {tb : TS} {D : Ends} {σ : St} {H : Hp} (Pv : Nat → St → Hp → Prop) (h0 : Pv 0 σ H)
    (hs : ∀ i σ H, i < n → Pv i σ H → g (.int (lo + i)) σ H fun σ2 H2 => tb { D with nx := Pv (i + 1), ct := Pv (i + 1), bk := D.nx } σ2 H2) (hd : ∀ σ H, Pv n σ H → D.nx σ H) :
    ∃ W : Nat → Nat → St → Hp → Prop, (∃ m, W 0 m σ H) ∧ ∀ i m σ H, W i m σ H →
      ((Itr lo n).stop i H ∧ D.nx σ H) ∨ ((Itr lo n).go i H ∧ ∃ N : St → Hp → Prop, (∀ σ' H', N σ' H' → ∃ m', m' < m ∧ W (i + 1) m' σ' H') ∧ ∀ x H', (Itr lo n).yld i H x H' → g x σ H' fun σ2 H2 => tb { D with nx := N, ct := N, bk := D.nx } σ2 H2) := by
  refine ⟨fun i m σ H => m = n - i ∧ i ≤ n ∧ Pv i σ H, ⟨n, by simp, Nat.zero_le _, h0⟩, ?_⟩
  rintro i m σ H ⟨rfl, hi, p⟩
  by_cases hlt : i < n
  · refine .inr ⟨hlt, Pv (i + 1), fun σ' H' p' => ⟨n - (i + 1), by omega, rfl, hlt, p'⟩, fun x H' y => ?_⟩
    obtain ⟨e, y⟩ := y
    subst e y
    exact hs i σ _ hlt p
  · have e : i = n := by omega
    subst e
    exact .inl ⟨Nat.le_refl _, hd σ H p⟩
end L2

namespace L2
open PySem PySem.Spec PyProof.Rows

abbrev R2 := V → V → Hp → VK → Prop
/-- a two-place operation on values: f is binaryOp op, inplaceOp op or compareOp op -/
def OpR (X : Cx) (f : Value → Value → Sem Value) (r : R2) : Prop :=
  ∀ (pins : List (Addr × Obj)) (s : Shared) (σ : St) (H : Hp) (x y : V) (v u : Value) (Q : VK), Inv X pins σ H s → RelV x v → RelV y u → r x y H Q →
    wpAny (model X.prog X.w) X.A (f v u) (EP X pins σ Q) X.xe s
/-- a one-place operation -/
def UnR (X : Cx) (f : Value → Sem Value) (r : V → Hp → VK → Prop) : Prop :=
  ∀ (pins : List (Addr × Obj)) (s : Shared) (σ : St) (H : Hp) (x : V) (v : Value) (Q : VK), Inv X pins σ H s → RelV x v → r x H Q →
    wpAny (model X.prog X.w) X.A (f v) (EP X pins σ Q) X.xe s
/-- a call of a value that is known (a builtin, a type) with values -/
def CallR (X : Cx) (f : Value) (r : List V → Hp → VK → Prop) : Prop :=
  ∀ (pins : List (Addr × Obj)) (s : Shared) (σ : St) (H : Hp) (xs : List V) (us : List Value) (Q : VK), Inv X pins σ H s → Vals xs us → r xs H Q →
    wpAny (model X.prog X.w) X.A (call f us) (EP X pins σ Q) X.xe s
def tOp (r : R2) (ta tb : TE) : TE := fun σ H Q => ta σ H fun x H1 => tb σ H1 fun y H2 => r x y H2 Q
def tUn (r : V → Hp → VK → Prop) (ta : TE) : TE := fun σ H Q => ta σ H fun x H1 => r x H1 Q
/-- ints in, under C, and a value out -/
def rI (C : Int → Int → Prop) (g : Int → Int → V) : R2 := fun x y H Q => ∃ i j, x = .int i ∧ y = .int j ∧ C i j ∧ Q (g i j) H
def rI0 (g : Int → Int → V) : R2 := fun x y H Q => ∃ i j, x = .int i ∧ y = .int j ∧ Q (g i j) H
def rU (g : Int → V) : V → Hp → VK → Prop := fun x H Q => ∃ i, x = .int i ∧ Q (g i) H

section
variable {X : Cx} {a b c : Expr} {ta tb tc : TE} {pos : Pos}

theorem binT (ha : PE X a ta) (hb : PE X b tb) {pins : List (Addr × Obj)} {s : Shared} {σ : St} {H : Hp} {R : V → V → Hp → Prop} (I : Inv X pins σ H s)
    (h : ta σ H fun x H1 => tb σ H1 fun y H2 => R x y H2) {Q : Value → Shared → Prop} {f : Value → Value → Sem Value}
    (hf : ∀ v u s2 x y H2, Inv X pins σ H2 s2 → RelV x v → RelV y u → R x y H2 → wpAny (model X.prog X.w) X.A (f v u) Q X.xe s2) :
    wpAny (model X.prog X.w) X.A (eval a X.env) (fun v s₁ => wpAny (model X.prog X.w) X.A (eval b X.env) (fun u s₂ => wpAny (model X.prog X.w) X.A (f v u) Q X.xe s₂) X.xe s₁) X.xe s := by
  refine thn (ha pins s σ H _ I h) fun v s1 ⟨x, H1, I1, r1, q1⟩ => ?_
  refine thn (hb pins s1 σ H1 _ I1 q1) fun u s2 ⟨y, H2, I2, r2, q2⟩ => ?_
  exact hf v u s2 x y H2 I2 r1 r2 q2

theorem pe_op {op : Operator} {r : R2} (ho : OpR X (binaryOp op) r) (ha : PE X a ta) (hb : PE X b tb) : PE X (.BinOp a op b pos) (tOp r ta tb) := by
  intro pins s σ H Q I h
  exact wpAny_BinOp (binT ha hb I h fun v u s2 x y H2 I2 rx ry q => ho pins s2 σ H2 x y v u Q I2 rx ry q)
theorem pe_un {op : UnaryOp} {r : V → Hp → VK → Prop} (ho : UnR X (unaryOp op) r) (ha : PE X a ta) : PE X (.UnaryOp op a pos) (tUn r ta) := by
  intro pins s σ H Q I h
  exact UnaryOp_ (thn (ha pins s σ H _ I h) fun v s1 ⟨x, H1, I1, r1, q1⟩ => ho pins s1 σ H1 x v Q I1 r1 q1)
/-! ### ints -/
theorem opI {f : Value → Value → Sem Value} {C : Int → Int → Prop} {g : Int → Int → Int}
    (rule : ∀ (i j : Int) (t u : Tok) (s : Shared) (Q : Value → Shared → Prop) (E : Value → Shared → Prop), C i j → Q (.int (g i j) s.toks) { s with toks := s.toks + 1 } → wpAny (model X.prog X.w) X.A (f (.int i t) (.int j u)) Q E s) :
    OpR X f (rI C fun i j => .int (g i j)) := by
  intro pins s σ H x y v u Q I rx ry h
  obtain ⟨i, j, rfl, rfl, hc, q⟩ := h
  obtain ⟨t, rfl⟩ := rx
  obtain ⟨t', rfl⟩ := ry
  exact rule i j t t' s _ _ hc ⟨.int (g i j), H, I.tok _, ⟨_, rfl⟩, q⟩
theorem opI0 {f : Value → Value → Sem Value} {g : Int → Int → Int}
    (rule : ∀ (i j : Int) (t u : Tok) (s : Shared) (Q : Value → Shared → Prop) (E : Value → Shared → Prop), Q (.int (g i j) s.toks) { s with toks := s.toks + 1 } → wpAny (model X.prog X.w) X.A (f (.int i t) (.int j u)) Q E s) :
    OpR X f (rI0 fun i j => .int (g i j)) := by
  intro pins s σ H x y v u Q I rx ry h
  obtain ⟨i, j, rfl, rfl, q⟩ := h
  obtain ⟨t, rfl⟩ := rx
  obtain ⟨t', rfl⟩ := ry
  exact rule i j t t' s _ _ ⟨.int (g i j), H, I.tok _, ⟨_, rfl⟩, q⟩
theorem opB0 {f : Value → Value → Sem Value} {g : Int → Int → Bool}
    (rule : ∀ (i j : Int) (t u : Tok) (s : Shared) (Q : Value → Shared → Prop) (E : Value → Shared → Prop), Q (.bool (g i j)) s → wpAny (model X.prog X.w) X.A (f (.int i t) (.int j u)) Q E s) :
    OpR X f (rI0 fun i j => .bl (g i j)) := by
  intro pins s σ H x y v u Q I rx ry h
  obtain ⟨i, j, rfl, rfl, q⟩ := h
  obtain ⟨t, rfl⟩ := rx
  obtain ⟨t', rfl⟩ := ry
  exact rule i j t t' s _ _ ⟨.bl (g i j), H, I, rfl, q⟩

def CDiv (i j : Int) : Prop := 0 < j ∧ j < 1073741824
def CMul (i j : Int) : Prop := (-(2 ^ 64) < i ∧ i < 2 ^ 64) ∨ (-(2 ^ 64) < j ∧ j < 2 ^ 64)
theorem CMul.ok {i j : Int} (h : CMul i j) : IntMulOk i j := by
  rcases h with ⟨h1, h2⟩ | ⟨h1, h2⟩
  · exact .of_left (intBits_le_64 h1 h2)
  · exact .of_right (intBits_le_64 h1 h2)
theorem op_add : OpR X (binaryOp .Add) (rI0 fun i j => .int (i + j)) := opI0 fun _ _ _ _ _ _ _ q => add_int q
theorem op_sub : OpR X (binaryOp .Sub) (rI0 fun i j => .int (i - j)) := opI0 fun _ _ _ _ _ _ _ q => sub_int q
theorem op_mul : OpR X (binaryOp .Mult) (rI CMul fun i j => .int (i * j)) := opI fun _ _ _ _ _ _ _ hc q => mul_int q hc.ok
/-- // by a positive divisor -/
theorem op_fdiv : OpR X (binaryOp .FloorDiv) (rI CDiv fun i j => .int (i / j)) := opI fun i j _ _ _ _ _ hc q => by
  have h1 : (0 : Int) < j := hc.1
  have h2 : j < 1073741824 := hc.2
  exact floordiv_int (by omega) (by rw [Int.fdiv_eq_ediv_of_nonneg i (by omega)]; exact q) (.inl (PyProof.noPylong_small (by omega)))
/-- % by a positive divisor of any size -/
theorem op_mod : OpR X (binaryOp .Mod) (rI (fun _ j => 0 < j) fun i j => .int (i % j)) := opI fun i j _ _ _ _ _ hc q => by
  have h1 : (0 : Int) < j := hc
  exact mod_int' (by omega) (by rw [Int.fmod_eq_emod_of_nonneg i (by omega)]; exact q)
theorem unI {f : Value → Sem Value} {g : Int → Int}
    (rule : ∀ (i : Int) (t : Tok) (s : Shared) (Q : Value → Shared → Prop) (E : Value → Shared → Prop), Q (.int (g i) s.toks) { s with toks := s.toks + 1 } → wpAny (model X.prog X.w) X.A (f (.int i t)) Q E s) :
    UnR X f (rU fun i => .int (g i)) := by
  intro pins s σ H x v Q I rx h
  obtain ⟨i, rfl, q⟩ := h
  obtain ⟨t, rfl⟩ := rx
  exact rule i t s _ _ ⟨.int (g i), H, I.tok _, ⟨_, rfl⟩, q⟩
theorem un_neg : UnR X (unaryOp .USub) (rU fun i => .int (-i)) := unI fun _ _ _ _ _ q => neg_int q
/-! ### bools among ints: n += (a < b) -/
end

/-! ### comparisons -/
/-- the scalars that == tells apart as data does -/
def scal : V → V → Bool
  | .non, .non => true | .non, .int _ => true | .int _, .non => true | .non, .bl _ => true | .bl _, .non => true | .non, .str _ => true | .str _, .non => true
  | .int _, .int _ => true | .bl _, .bl _ => true | .str _, .str _ => true | .byt _, .byt _ => true
  | .int _, .str _ => true | .str _, .int _ => true | .bl _, .str _ => true | .str _, .bl _ => true
  | _, _ => false
def rEq : R2 := fun x y H Q => scal x y = true ∧ Q (.bl (decide (x = y))) H
def rNe : R2 := fun x y H Q => scal x y = true ∧ Q (.bl (!decide (x = y))) H

theorem dec_int {i j : Int} : decide (V.int i = V.int j) = (i == j) := by
  rw [Bool.eq_iff_iff]
  simp
theorem dec_bl {i j : Bool} : decide (V.bl i = V.bl j) = (i == j) := by
  rw [Bool.eq_iff_iff]
  simp
theorem dec_str {i j : Str} : decide (V.str i = V.str j) = (i == j) := by
  rw [Bool.eq_iff_iff]
  simp
theorem dec_byt {i j : Array UInt8} : decide (V.byt i = V.byt j) = (i.toList == j.toList) := by
  rw [Bool.eq_iff_iff]
  cases i
  cases j
  simp

section
variable {X : Cx} {a b c : Expr} {ta tb tc : TE} {pos : Pos}
theorem fin_bl {pins : List (Addr × Obj)} {σ : St} {H : Hp} {s : Shared} {Q : VK} {k k' : Bool} (I : Inv X pins σ H s) (q : Q (.bl k) H) (e : k = k') : EP X pins σ Q (.bool k') s := by
  subst e
  exact ⟨.bl k, H, I, rfl, q⟩
theorem op_eq : OpR X (compareOp .Eq) rEq := by
  intro pins s σ H x y v u Q I rx ry h
  obtain ⟨hs, q⟩ := h
  cases x with
  | non =>
    cases rx
    cases y with
    | non => cases ry; exact PySem.EqNone.eq_none_none (fin_bl I q (by simp))
    | bl j => cases ry; exact PySem.EqNone.eq_none_bool (fin_bl I q (by simp))
    | int j => obtain ⟨t', rfl⟩ := ry; exact PySem.EqNone.eq_none_int (fin_bl I q (by simp))
    | str j => obtain ⟨t', rfl⟩ := ry; exact PySem.EqNone.eq_none_str (fin_bl I q (by simp))
    | _ => exact absurd (show false = true from hs) Bool.false_ne_true
  | bl i =>
    cases rx
    cases y with
    | non => cases ry; exact PySem.EqNone.eq_bool_none (fin_bl I q (by simp))
    | bl j => cases ry; exact eq_bool (fin_bl I q dec_bl)
    | str j => obtain ⟨t', rfl⟩ := ry; exact PySem.EqMixed.eq_bool_str (fin_bl I q (by simp))
    | _ => exact absurd (show false = true from hs) Bool.false_ne_true
  | int i =>
    obtain ⟨t, rfl⟩ := rx
    cases y with
    | non => cases ry; exact PySem.EqNone.eq_int_none (fin_bl I q (by simp))
    | int j => obtain ⟨t', rfl⟩ := ry; exact eq_int (fin_bl I q dec_int)
    | str j => obtain ⟨t', rfl⟩ := ry; exact PySem.EqMixed.eq_int_str (fin_bl I q (by simp))
    | _ => exact absurd (show false = true from hs) Bool.false_ne_true
  | str i =>
    obtain ⟨t, rfl⟩ := rx
    cases y with
    | non => cases ry; exact PySem.EqNone.eq_str_none (fin_bl I q (by simp))
    | bl j => cases ry; exact PySem.EqMixed.eq_str_bool (fin_bl I q (by simp))
    | int j => obtain ⟨t', rfl⟩ := ry; exact PySem.EqMixed.eq_str_int (fin_bl I q (by simp))
    | str j => obtain ⟨t', rfl⟩ := ry; exact eq_str (fin_bl I q dec_str)
    | _ => exact absurd (show false = true from hs) Bool.false_ne_true
  | byt i =>
    obtain ⟨t, rfl⟩ := rx
    cases y with
    | byt j => obtain ⟨t', rfl⟩ := ry; exact PySem.W.eq_bytes (fin_bl I q dec_byt)
    | _ => exact absurd (show false = true from hs) Bool.false_ne_true
  | _ => cases y <;> exact absurd (show false = true from hs) Bool.false_ne_true
theorem op_ne : OpR X (compareOp .NotEq) rNe := by
  intro pins s σ H x y v u Q I rx ry h
  obtain ⟨hs, q⟩ := h
  cases x with
  | non =>
    cases rx
    cases y with
    | non => cases ry; exact PySem.EqNone.ne_none_none (fin_bl I q (by simp))
    | bl j => cases ry; exact PySem.EqNone.ne_none_bool (fin_bl I q (by simp))
    | int j => obtain ⟨t', rfl⟩ := ry; exact PySem.EqNone.ne_none_int (fin_bl I q (by simp))
    | str j => obtain ⟨t', rfl⟩ := ry; exact PySem.EqNone.ne_none_str (fin_bl I q (by simp))
    | _ => exact absurd (show false = true from hs) Bool.false_ne_true
  | bl i =>
    cases rx
    cases y with
    | non => cases ry; exact PySem.EqNone.ne_bool_none (fin_bl I q (by simp))
    | bl j => cases ry; exact ne_bool (fin_bl I q (congrArg not dec_bl))
    | str j => obtain ⟨t', rfl⟩ := ry; exact PySem.EqMixed.ne_bool_str (fin_bl I q (by simp))
    | _ => exact absurd (show false = true from hs) Bool.false_ne_true
  | int i =>
    obtain ⟨t, rfl⟩ := rx
    cases y with
    | non => cases ry; exact PySem.EqNone.ne_int_none (fin_bl I q (by simp))
    | int j => obtain ⟨t', rfl⟩ := ry; exact ne_int (fin_bl I q (congrArg not dec_int))
    | str j => obtain ⟨t', rfl⟩ := ry; exact PySem.EqMixed.ne_int_str (fin_bl I q (by simp))
    | _ => exact absurd (show false = true from hs) Bool.false_ne_true
  | str i =>
    obtain ⟨t, rfl⟩ := rx
    cases y with
    | non => cases ry; exact PySem.EqNone.ne_str_none (fin_bl I q (by simp))
    | bl j => cases ry; exact PySem.EqMixed.ne_str_bool (fin_bl I q (by simp))
    | int j => obtain ⟨t', rfl⟩ := ry; exact PySem.EqMixed.ne_str_int (fin_bl I q (by simp))
    | str j => obtain ⟨t', rfl⟩ := ry; exact ne_str (fin_bl I q (congrArg not dec_str))
    | _ => exact absurd (show false = true from hs) Bool.false_ne_true
  | byt i =>
    obtain ⟨t, rfl⟩ := rx
    cases y with
    | byt j => obtain ⟨t', rfl⟩ := ry; exact PySem.W.ne_bytes (fin_bl I q (congrArg not dec_byt))
    | _ => exact absurd (show false = true from hs) Bool.false_ne_true
  | _ => cases y <;> exact absurd (show false = true from hs) Bool.false_ne_true

theorem op_lt : OpR X (compareOp .Lt) (rI0 fun i j => .bl (decide (i < j))) := opB0 fun _ _ _ _ _ _ _ q => lt_int q
theorem op_le : OpR X (compareOp .LtE) (rI0 fun i j => .bl (decide (i ≤ j))) := opB0 fun _ _ _ _ _ _ _ q => le_int q
theorem op_gt : OpR X (compareOp .Gt) (rI0 fun i j => .bl (decide (j < i))) := opB0 fun _ _ _ _ _ _ _ q => gt_int q
theorem op_notN : OpR X (compareOp .IsNot) (fun x y H Q => y = .non ∧ Q (.bl (!decide (x = .non))) H) := by
  intro pins s σ H x y v u Q I rx ry h
  obtain ⟨rfl, q⟩ := h
  cases ry
  refine isnot_none_gen (fin_bl I q ?_)
  cases x <;> first
    | (cases rx; rfl)
    | (obtain ⟨t, rfl⟩ := rx; rfl)

theorem nomark (b : Expr) {op : CmpOp} (h : op ≠ .In := by decide) (h2 : op ≠ .NotIn := by decide) : behindInMarks op b = false := by
  have e1 : (op == CmpOp.In) = false := by cases op <;> first | rfl | exact absurd rfl h
  have e2 : (op == CmpOp.NotIn) = false := by cases op <;> first | rfl | exact absurd rfl h2
  cases b <;> simp [behindInMarks, e1, e2]
/-- a comparison as a value; hm: nomark b, or (for in, not in) by with_unfolding_all rfl -/
theorem pe_cmpR {op : CmpOp} {r : R2} (ho : OpR X (compareOp op) r) (ha : PE X a ta) (hb : PE X b tb) (hm : behindInMarks op b = false) : PE X (.Compare a [op] [b] pos) (tOp r ta tb) := by
  intro pins s σ H Q I h
  exact wpAny_Compare1 (binT ha hb I h fun v u s2 x y H2 I2 rx ry q => ho pins s2 σ H2 x y v u Q I2 rx ry q) hm
/-- a reading of a value as a test -/
def tTest (t : TE) : TT := fun σ H Q => t σ H fun x H' => ∃ k, x = .bl k ∧ Q k H'
theorem pt_cmpR {op : CmpOp} {r : R2} (ho : OpR X (compareOp op) r) (ha : PE X a ta) (hb : PE X b tb) (hm : behindInMarks op b = false) : PT X (.Compare a [op] [b] pos) (tTest (tOp r ta tb)) := by
  intro pins s σ H Q I h
  refine wpAny_isTrue_Compare1 (thn (ha pins s σ H _ I h) fun v s1 ⟨x, H1, I1, r1, q1⟩ => thn (hb pins s1 σ H1 _ I1 q1) fun u s2 ⟨y, H2, I2, r2, q2⟩ =>
    thn (ho pins s2 σ H2 x y v u _ I2 r1 r2 q2) fun c s3 ⟨z, H3, I3, r3, k, e, q3⟩ => ?_) hm
  subst e
  cases r3
  exact wpAny_truthy_bool ⟨H3, I3, q3⟩
/-- a op1 b op2 c -/
def tChain (r r' : R2) (ta tb tc : TE) : TE := fun σ H Q => ta σ H fun x H1 => tb σ H1 fun y H2 => r x y H2 fun z H3 => ∃ k, z = .bl k ∧
  (if k = true then tc σ H3 fun w' H4 => r' y w' H4 Q else Q (.bl false) H3)
theorem pt_chain {op op' : CmpOp} {r r' : R2} (ho : OpR X (compareOp op) r) (ho' : OpR X (compareOp op') r') (ha : PE X a ta) (hb : PE X b tb) (hc : PE X c tc)
    (hm : lastMarks [op, op'] [b, c] = false := by with_unfolding_all rfl) : PT X (.Compare a [op, op'] [b, c] pos) (tTest (tChain r r' ta tb tc)) := by
  intro pins s σ H Q I h
  refine isTrue_chain (thn (ha pins s σ H _ I h) fun v s1 ⟨x, H1, I1, r1, q1⟩ => test_link (thn (hb pins s1 σ H1 _ I1 q1) fun u s2 ⟨y, H2, I2, r2, q2⟩ =>
    thn (ho pins s2 σ H2 x y v u _ I2 r1 r2 q2) fun d s3 ⟨z, H3, I3, r3, k, e, q3⟩ => ?_)) hm
  subst e
  cases r3
  refine wpAny_truthy_bool ?_
  cases k with
  | false =>
    obtain ⟨k', e', q'⟩ := q3
    cases e'
    exact ite_ff ⟨H3, I3, q'⟩
  | true =>
    refine ite_tt (test_last (thn (hc pins s3 σ H3 _ I3 q3) fun w' s4 ⟨z', H4, I4, r4, q4⟩ => thn (ho' pins s4 σ H4 y z' u w' _ I4 r2 r4 q4) fun d' s5 ⟨z2, H5, I5, r5, k2, e2, q5⟩ => ?_))
    subst e2
    cases r5
    exact wpAny_truthy_bool ⟨H5, I5, q5⟩

/-! ### truth -/
theorem line63 : (sizeLine : Nat) < 2 ^ 63 := by rw [sizeLine_eq]; decide
/-! ### strs and bytes -/
/-! ### scalar builtins, by CallR -/
theorem vals1 {x : V} {us : List Value} (r : Vals [x] us) : ∃ u, us = [u] ∧ RelV x u := by
  cases r with
  | cons r1 r2 => cases r2; exact ⟨_, rfl, r1⟩
theorem vals2 {x y : V} {us : List Value} (r : Vals [x, y] us) : ∃ u w', us = [u, w'] ∧ RelV x u ∧ RelV y w' := by
  cases r with
  | cons r1 r2 =>
    cases r2 with
    | cons r3 r4 => cases r4; exact ⟨_, _, rfl, r1, r3⟩
theorem call_max2 (hc : X.calm = true) : CallR X (.builtin "max") (fun xs H Q => ∃ i j, xs = [.int i, .int j] ∧ Q (.int (if j > i then j else i)) H) := by
  intro pins s σ H xs us Q I r h
  obtain ⟨i, j, rfl, q⟩ := h
  obtain ⟨u, w', rfl, ⟨t, rfl⟩, ⟨t', rfl⟩⟩ := vals2 r
  refine max_two_ints (I.ok.hd hc) fun h' tk k => ⟨_, H, I.kept k, ?_, q⟩
  by_cases hj : j > i
  · rw [if_pos hj, if_pos hj]; exact ⟨_, rfl⟩
  · rw [if_neg hj, if_neg hj]; exact ⟨_, rfl⟩
theorem call_int1 : CallR X (.type "int") (fun xs H Q => (∃ i, xs = [.int i] ∧ Q (.int i) H) ∨ ∃ k, xs = [.bl k] ∧ Q (.int (if k then 1 else 0)) H) := by
  intro pins s σ H xs us Q I r h
  rcases h with ⟨i, rfl, q⟩ | ⟨k, rfl, q⟩
  · obtain ⟨u, rfl, t, rfl⟩ := vals1 r
    exact call_int_int ⟨.int i, H, I, ⟨_, rfl⟩, q⟩
  · obtain ⟨u, rfl, r1⟩ := vals1 r
    cases r1
    exact call_int_bool ⟨.int (if k then 1 else 0), H, I.tok _, ⟨_, rfl⟩, q⟩
end
end L2

namespace L2
open PySem PySem.Spec PyProof.Rows

/-! ### an instance, its attributes a map -/
section
variable {prog : Program} {w : World} {A : Around} {E : Value → Shared → Prop} {s : Shared} {K : PySem.W.Frag} {x dx C f : Addr} {mA : Str → Option Value} {name : Str} {v : Value}

end

/-! ### the attributes as a list of pairs -/
theorem RelO.some_of {v : V} {o : Option Value} (r : RelO (some v) o) : ∃ u, o = some u ∧ RelV v u := by
  cases o with
  | none => exact (show False from r).elim
  | some u => exact ⟨u, rfl, r⟩
section
variable {P : Program} {w : World} {H H' : Hp} {h h' : Heap} {a C dx : Addr} {fs fs' : List (Str × V)}
end

/-! ### what of the text a class must have -/
section
variable {X : Cx} {pins : List (Addr × Obj)} {σ : St} {H : Hp} {s : Shared} {a C dx : Addr} {fs : List (Str × V)} {f : Str} {v : V} {A : Around} {E : Value → Shared → Prop}

end

/-! ### readings and rules -/
section
variable {X : Cx} {o e value : Expr} {f : Str} {pos pos' tpos : Pos} {ta tv : TE}
end

/-! ### isinstance -/
section
variable {X : Cx} {pins : List (Addr × Obj)} {σ : St} {H : Hp} {s : Shared} {A : Around} {E : Value → Shared → Prop} {Q : Value → Shared → Prop} {c : Value} {b : Bool}
end
end L2

namespace L2
open PySem PySem.Spec PyProof.Rows

/-! ### room -/
structure Room (k : Nat) (A : Around) : Prop where
  hd : A.handled = none
  dp : A.depth + 3 * k + 5 < recursionLimit
  un : A.units + 16 * k + 200 < cLine
theorem Room.mono {j k : Nat} {A : Around} (r : Room k A) (h : j ≤ k) : Room j A := ⟨r.hd, by have := r.dp; omega, by have := r.un; omega⟩
theorem Room.deeper {k : Nat} {A : Around} (r : Room (k + 1) A) (env : Env) : Room k (A.deeper env) :=
  ⟨r.hd, by have := r.dp; show A.depth + 1 + 3 * k + 5 < _; omega, by have := r.un; show A.units + 3 + 16 * k + 200 < _; omega⟩
theorem Room.depth {k : Nat} {A : Around} (r : Room k A) : A.depth < recursionLimit := by have := r.dp; omega
theorem Room.units {k : Nat} {A : Around} (r : Room k A) : A.units + 64 < cLine := by have := r.un; omega
/-! ### argument lists and displays -/
def tNil : TA := fun _ H Q => Q [] H
def tCons (ta : TE) (tr : TA) : TA := fun σ H Q => ta σ H fun x H1 => tr σ H1 fun xs H2 => Q (x :: xs) H2
section
variable {X : Cx} {e : Expr} {es : List Expr} {te : TE} {t : TA} {pos : Pos}
theorem pa_nil : PA X [] tNil := fun _ _ _ _ H Q I h => Calls.spliced_nil ⟨[], H, I, .nil, h⟩
theorem pa_cons (ha : PE X e te) (hr : PA X es t) (hs : starEach (e :: es) X.env = (false, eval e X.env) :: starEach es X.env := by rfl) : PA X (e :: es) (tCons te t) := by
  intro pos pins s σ H Q I h
  rw [hs]
  show wpAny _ _ (spliced ((false, eval e X.env) :: backTo pos (starEach es X.env))) _ _ s
  refine Calls.spliced_cons (thn (ha pins s σ H _ I h) fun u s1 ⟨x, H1, I1, r1, q1⟩ => ?_)
  exact thn (hr pos pins s1 σ H1 _ I1 q1) fun us s2 ⟨xs, H2, I2, r2, q2⟩ => ⟨x :: xs, H2, I2, .cons r1 r2, q2⟩

/-- a tuple, a list of written items -/
def tTup (t : TA) : TE := fun σ H Q => t σ H fun xs H1 => xs.length ≤ sizeLine ∧ ∀ p, H1 p = none → Q (.ref p) (upd H1 p (.tup xs))
def tLst (t : TA) : TE := fun σ H Q => t σ H fun xs H1 => xs.length ≤ sizeLine ∧ ∀ p, H1 p = none → Q (.ref p) (upd H1 p (.lst xs))
theorem pe_tup {x1} (h : PA X es t) : PE X (.Tuple es x1 pos) (tTup t) := by
  intro pins s σ H Q I hq
  refine wpAny_Tuple_spliced (thn (h pos pins s σ H _ I hq) fun us s1 ⟨xs, H1, I1, r, z, q⟩ => ⟨by rw [← r.length]; exact z, ?_⟩)
  have hf : H1 s1.heap.objs.size = none := I1.hok.fresh (Nat.le_refl _)
  refine ⟨.ref s1.heap.objs.size, upd H1 s1.heap.objs.size (.tup xs), I1.laid (t' := s1.toks) (fun b u e => Heap.get?_push_of_some _ e) (Nat.le_refl _) ?_, rfl, q _ hf⟩
  exact ⟨z, us, r, ⟨_, Heap.get?_push_size _ rfl, rfl, _, rfl⟩⟩
theorem pe_lst (h : PA X es t) : PE X (.List es pos) (tLst t) := by
  intro pins s σ H Q I hq
  refine wpAny_List_spliced (thn (h pos pins s σ H _ I hq) fun us s1 ⟨xs, H1, I1, r, z, q⟩ => ⟨by rw [← r.length]; exact z, ?_⟩)
  have hf : H1 s1.heap.objs.size = none := I1.hok.fresh (Nat.le_refl _)
  refine ⟨.ref s1.heap.objs.size, upd H1 s1.heap.objs.size (.lst xs), I1.laid (t' := s1.toks) (fun b u e => Heap.get?_push_of_some _ e) (Nat.le_refl _) ?_, rfl, q _ hf⟩
  exact ⟨z, us, 0, r, Heap.get?_push_size _ rfl⟩
end

/-! ### what a def promises -/
/-- a def's promise: the bound arguments in the parameters' order, the heap, the wanted end, the wanted exception -/
abbrev Sp := List V → Hp → VK → XK → Prop
/-- how an exception lies behind a call (file 08 gives it): the callers' frames, abstract heap and state ahead of the call, the wish, the exception, the state -/
abbrev CXT := List Env → Hp → Shared → XK → Value → Shared → Prop

/-- the state at a call -/
structure Env0 (P : Program) (w : World) (K : PySem.W.Frag) (mg : Str → Option Value) (base : Heap) (A : Around) (outer : List Env) (s : Shared) (H : Hp) : Prop where
  frames : A.frames = some outer
  mod : Mod K mg base
  bs : ∀ b o, base.get? b = some o → s.heap.get? b = some o ∧ H b = none
  bsz : base.objs.size ≤ s.heap.objs.size
  funs : s.heap.FunFrames base outer
  frf : ∀ b ∈ frs outer, H b = none
  hok : HOk P w H s.heap
  bare : AllBare s.gens
/-- a call's end -/
def CE (outer : List Env) (P : Program) (w : World) (H : Hp) (s : Shared) (Q : VK) (u : Value) (s' : Shared) : Prop :=
  ∃ v H', s'.os = s.os ∧ AllBare s'.gens ∧ Un (frs outer) [] H H' s.heap s'.heap ∧ HOk P w H' s'.heap ∧ RelV v u ∧ Q v H'
def CR (CX : CXT) (outer : List Env) (P : Program) (w : World) (H : Hp) (s : Shared) (Q : VK) (E : XK) (r : Result) (s' : Shared) : Prop :=
  match r with
  | .ok (.ret u) => CE outer P w H s Q u s'
  | .ok _ => False
  | .error e => CX outer H s E e s'
structure FnOk (P : Program) (w : World) (K : PySem.W.Frag) (mg : Str → Option Value) (base : Heap) (CX : CXT) (k : Nat) (f : Addr) (fd : FuncData) (ps : List Str) (sp : Sp) : Prop where
  len : ∀ vs H Q E, sp vs H Q E → vs.length = ps.length
  run : ∀ (A : Around) (outer : List Env) (s : Shared) (H : Hp) (args : Args) (us : List Value) (vs : List V) (Q : VK) (E : XK), Room k A → Env0 P w K mg base A outer s H → BindsTo s fd args (ps.zip us) → Vals vs us → sp vs H Q E →
    codeAny (model P w) A (.call (.ref f) args) (CR CX outer P w H s Q E) s
/-- a weaker promise -/
theorem FnOk.imp {P : Program} {w : World} {K : PySem.W.Frag} {mg : Str → Option Value} {base : Heap} {CX : CXT} {k : Nat} {f : Addr} {fd : FuncData} {ps : List Str} {sp sp' : Sp} (F : FnOk P w K mg base CX k f fd ps sp)
    (h : ∀ vs H Q E, sp' vs H Q E → sp vs H Q E) : FnOk P w K mg base CX k f fd ps sp' :=
  ⟨fun vs H Q E q => F.len vs H Q E (h _ _ _ _ q), fun A outer s H args us vs Q E hr he hb hv hs => F.run A outer s H args us vs Q E hr he hb hv (h _ _ _ _ hs)⟩

section
variable {X : Cx} {pins : List (Addr × Obj)} {σ : St} {H : Hp} {s s' : Shared}
/-- from a body: what a callee wants -/
theorem Inv.env0 (I : Inv X pins σ H s) : Env0 X.prog X.w X.K X.mg X.base X.A X.stack s H :=
  ⟨I.ok.frames, I.ok.mod, I.bs, Nat.le_trans I.ok.bsz I.sz, I.stack, I.stkFree, I.hok, I.bare⟩
/-- behind a call -/
theorem Inv.after {Q : VK} {u : Value} (I : Inv X pins σ H s) (h : CE X.stack X.prog X.w H s Q u s') : EP X pins σ Q u s' := by
  obtain ⟨v, H', os, bare, un, hok, r, q⟩ := h
  obtain ⟨hh, g, d, t, os'⟩ := s'
  obtain rfl : os' = s.os := os
  exact ⟨v, H', I.call (h' := hh) (g' := g) (d' := d) (t' := t) (ch := []) un hok bare (fun b z => absurd z (by simp)), r, q⟩
end

/-! ### calls -/
/-- f(..): the written arguments, then the defaults dvs; E: what is wanted of an exception -/
def tCall (sp : Sp) (dvs : List V) (E : XK) (t : TA) : TE := fun σ H Q => t σ H fun vs H1 => sp (vs ++ dvs) H1 Q E
/-- how the parameters are bound: us the positional arguments, kw the keywords' values by name, ds the defaults that fill up -/
def Binds (K : PySem.W.Frag) (fd : FuncData) (ps : List Str) (ds : List Value) : Prop :=
  ∀ (s : Shared) (us : List Value), K.In s.heap → (us ++ ds).length = ps.length → BindsTo s fd ⟨us, []⟩ (ps.zip (us ++ ds))
/-- every parameter is given -/
theorem Binds.all {K : PySem.W.Frag} {fd : FuncData} {ps : List Str} (h : ∀ us : List Value, us.length = ps.length → bindArgs fd ⟨us, []⟩ = pure (ps.zip us)) : Binds K fd ps [] := fun s us _ hl => by
  rw [List.append_nil] at hl ⊢
  exact .of_eq (h us hl)

/-- an exception of a callee reaches what this body wants of exceptions -/
def Passes (CX : CXT) (X : Cx) (E : XK) : Prop := ∀ (pins : List (Addr × Obj)) (σ : St) (H : Hp) (s : Shared) (e : Value) (s' : Shared), Inv X pins σ H s → CX X.stack H s E e s' → X.xe e s'

section
variable {X : Cx} {CX : CXT} {k : Nat} {f C : Addr} {fd : FuncData} {ps : List Str} {sp : Sp} {dvs : List V} {ds : List Value} {E : XK} {x m : Str} {p pos apos : Pos} {e o : Expr} {es : List Expr} {ta : TE} {t : TA}

/-- the callee runs -/
theorem run_fn {pins : List (Addr × Obj)} {σ : St} {H : Hp} {s : Shared} {Q : VK} {us : List Value} {vs : List V} (F : FnOk X.prog X.w X.K X.mg X.base CX k f fd ps sp) (hr : Room k X.A) (hb : Binds X.K fd ps ds) (hd : Vals dvs ds) (hx : Passes CX X E)
    (I : Inv X pins σ H s) (r : Vals vs us) (h : sp (vs ++ dvs) H Q E) : wpAny (model X.prog X.w) X.A (call (.ref f) us) (EP X pins σ Q) X.xe s := by
  have r2 : Vals (vs ++ dvs) (us ++ ds) := r.append hd
  have hl : (us ++ ds).length = ps.length := by rw [← r2.length]; exact F.len _ _ _ _ h
  refine wpAny_call (codeAny_mono (F.run X.A X.stack s H ⟨us, []⟩ (us ++ ds) (vs ++ dvs) Q E hr I.env0 (hb s us I.kIn hl) r2 h) fun r s' hq => ?_)
  cases r with
  | error e => exact hx pins σ H s e s' I hq
  | ok fl =>
    cases fl with
    | ret u => exact I.after hq
    | next => exact False.elim hq
    | brk => exact False.elim hq
    | cont => exact False.elim hq

theorem pe_call (F : FnOk X.prog X.w X.K X.mg X.base CX k f fd ps sp) (hr : Room k X.A) (hg : Gl X x) (hm : X.mg x = some (.ref f)) (hk : PySem.W.keepIn X.K (.ref f) = true) (hb : Binds X.K fd ps ds) (hd : Vals dvs ds) (hx : Passes CX X E)
    (ha : PA X (e :: es) t) (hdb : (x == ("__debug__" : Str)) = false := by decide) (he : starEach (e :: es) X.env = (false, eval e X.env) :: starEach es X.env := by rfl) (hpl : (backTo pos (starEach es X.env)).any (·.1) = false := by rfl) :
    PE X (.Call (.Name x p) (e :: es) [] pos) (tCall sp dvs E t) := by
  intro pins s σ H Q I h
  refine wpAny_Call_Name_kw (ld_glob I hg hm ?_ hdb)
  refine PySem.W.callWith_K (h₀ := X.base) I.ok.mod.kin hk (thn (ha pos pins s σ H _ I h) fun us s1 ⟨vs, H1, I1, r, q⟩ => ⟨I1.kIn, ?_⟩) he hpl
  exact run_fn F hr hb hd hx I1 r q
end

/-! ### keywords -/
section
variable {X : Cx} {CX : CXT} {k : Nat} {f C : Addr} {fd : FuncData} {ps ks : List Str} {sp : Sp} {E : XK} {x m : Str} {p pos apos kpos : Pos} {e o : Expr} {es : List Expr} {kws : List Keyword} {te ta : TE} {t tk : TA} {nm : Option Str}
variable {g : List Value → List Value → List Value} {gV : List V → List V → List V}
end

/-! ### a def's body keeps its promise -/
/-- names: the parameters first -/
structure FnScope (N P : List Str) (sc : Scope) : Prop where
  kind : sc.kind = .function
  co : sc.isCoroutine = false
  gen : sc.isGenerator = false
  nd : N.Nodup
  pre : N.take P.length = P
  par : ∀ x ∈ P, sc.names.lookup x = some .local ∨ sc.names.lookup x = some .cell
  nofree : ∀ y ∈ sc.names, y.2 ≠ .free

theorem bindL_out {kindOf : Str → Option NameKind} {x : Str} : ∀ {binds : List (Str × Value)} {m : Str → Option Value}, (∀ v, (x, v) ∉ binds) → bindL kindOf binds m x = m x
  | [], _, _ => rfl
  | (n, v) :: r, m, h => by
    unfold bindL
    rw [bindL_out fun w hw => h w (List.mem_cons_of_mem _ hw)]
    split
    · have : x ≠ n := by rintro rfl; exact h v List.mem_cons_self
      simp [this]
    · rfl
theorem bindC_out {kindOf : Str → Option NameKind} {x : Str} : ∀ {binds : List (Str × Value)} {m : Str → Option Value}, (∀ v, (x, v) ∉ binds) → bindC kindOf binds m x = m x
  | [], _, _ => rfl
  | (n, v) :: r, m, h => by
    unfold bindC
    rw [bindC_out fun w hw => h w (List.mem_cons_of_mem _ hw)]
    split
    · rfl
    · have : x ≠ n := by rintro rfl; exact h v List.mem_cons_self
      simp [this]
theorem bindL_get {kindOf : Str → Option NameKind} {x : Str} {v : Value} : ∀ {P : List Str} {vs : List Value} {i : Nat} {m : Str → Option Value}, P.Nodup → P[i]? = some x → vs[i]? = some v → kindOf x = some .local →
    bindL kindOf (P.zip vs) m x = some v
  | [], _, _, _, _, h, _, _ => by simp at h
  | _ :: _, [], _, _, _, _, h, _ => by simp at h
  | p :: P, w :: vs, 0, m, nd, h1, h2, hk => by
    simp at h1 h2; subst h1; subst h2
    show bindL kindOf ((p, w) :: P.zip vs) m p = _
    unfold bindL
    rw [bindL_out fun v hv => (List.nodup_cons.mp nd).1 (List.of_mem_zip hv).1, if_pos hk]
    simp
  | p :: P, w :: vs, i + 1, m, nd, h1, h2, hk => by
    show bindL kindOf ((p, w) :: P.zip vs) m x = _
    unfold bindL
    exact bindL_get (i := i) (List.nodup_cons.mp nd).2 (by simpa using h1) (by simpa using h2) hk
theorem bindC_get {kindOf : Str → Option NameKind} {x : Str} {v : Value} : ∀ {P : List Str} {vs : List Value} {i : Nat} {m : Str → Option Value}, P.Nodup → P[i]? = some x → vs[i]? = some v → kindOf x ≠ some .local →
    bindC kindOf (P.zip vs) m x = some v
  | [], _, _, _, _, h, _, _ => by simp at h
  | _ :: _, [], _, _, _, _, h, _ => by simp at h
  | p :: P, w :: vs, 0, m, nd, h1, h2, hk => by
    simp at h1 h2; subst h1; subst h2
    show bindC kindOf ((p, w) :: P.zip vs) m p = _
    unfold bindC
    rw [bindC_out fun v hv => (List.nodup_cons.mp nd).1 (List.of_mem_zip hv).1, if_neg hk]
    simp
  | p :: P, w :: vs, i + 1, m, nd, h1, h2, hk => by
    show bindC kindOf ((p, w) :: P.zip vs) m x = _
    unfold bindC
    exact bindC_get (i := i) (List.nodup_cons.mp nd).2 (by simpa using h1) (by simpa using h2) hk

/-- the names' values at the entry -/
def start (N : List Str) (vs : List V) : St := vs.map some ++ List.replicate (N.length - vs.length) none

/-- the context of a def's body, at its entry; an exception leaves the frame, then lies as CX says -/
def cxOf (CX : CXT) (P : Program) (w : World) (K : PySem.W.Frag) (mg : Str → Option Value) (base : Heap) (N : List Str) (qual : Str) (scope : Scope) (f : Addr) (cd : Value) (A : Around) (outer : List Env) (s : Shared) (H : Hp) (E : XK) : Cx where
  prog := P
  w := w
  K := K
  mg := mg
  base := base
  A := A.deeper (envOfC qual scope s.heap.objs.size f cd)
  N := N
  s₀ := s
  H₀ := H
  env := envOfC qual scope s.heap.objs.size f cd
  outer := outer
  stack := envOfC qual scope s.heap.objs.size f cd :: outer
  ex := []
  calm := true
  fn := fun _ => true
  pn := []
  xe := fun e s' => wpAny (model P w) (A.deeper (envOfC qual scope s.heap.objs.size f cd)) (leaving (envOfC qual scope s.heap.objs.size f cd) e) (fun _ s'' => CX outer H s E e s'') (fun e' s'' => CX outer H s E e' s'') s'

theorem cell_has {sc : Scope} {n : Nat} {x : Str} (h : sc.names.lookup x = some .cell) : ∃ c, (cellsFrom n sc.names []).lookup x = some c := by
  have q := PySem.W.cellsFrom_some sc.names n [] (.inl h)
  exact Option.isSome_iff_exists.mp q

theorem inv_start {CX : CXT} {P : Program} {w : World} {K : PySem.W.Frag} {mg : Str → Option Value} {base : Heap} {N ps : List Str} {qual : Str} {scope : Scope} {f : Addr} {cd : Value} {A : Around} {outer : List Env} {s s1 : Shared} {H : Hp} {E : XK} {us : List Value} {vs : List V}
    (S : FnScope N ps scope) (hd : A.handled = none) (e0 : Env0 P w K mg base A outer s H) (hl : vs.length = ps.length) (r : Vals vs us)
    (x : InCallC s s.heap.objs.size (bindL (envOfC qual scope s.heap.objs.size f cd).kindOf (ps.zip us) fun _ => none) (cellsFrom (s.heap.objs.size + 1) scope.names []) (bindC (envOfC qual scope s.heap.objs.size f cd).kindOf (ps.zip us) fun _ => none) s1) :
    Inv (cxOf CX P w K mg base N qual scope f cd A outer s H E) [] (start N vs) H s1 := by
  have hpl : ps.length ≤ N.length := by have := congrArg List.length S.pre; rw [List.length_take] at this; omega
  obtain ⟨h1, tk, rfl, hk⟩ := x.done
  have noA : ∀ b : Addr, b ∉ (cxOf CX P w K mg base N qual scope f cd A outer s H E).ex := fun b z => absurd (show b ∈ ([] : List Addr) from z) (by simp)
  refine ⟨⟨e0.mod, S.kind, rfl, rfl, Nat.le_refl _, fun y z c h1 h2 => ?_, fun y hy => ?_, fun y c _ h => ?_, fun _ => hd, Around.frames_deeper e0.frames, .inr ⟨rfl, rfl⟩, fun b z => absurd z (noA b), e0.bs, e0.bsz, fun b _ _ => noA b, fun b z => absurd z (noA b), e0.funs, e0.frf⟩,
    rfl, e0.bare, Un.kept hk, ⟨_, x.toInCall.ns, fun i y v h1 h2 h3 => ?_⟩, fun y c h => ⟨_, x.cell y c h⟩, e0.hok.fresh (Nat.le_refl _), fun y c h => ?_, fun p hp => absurd (show p ∈ ([] : List (Addr × Obj)) from hp) (by simp), e0.hok.kept hk, ?_⟩
  · exact name_of_addr x.apart (PySem.mem_of_lookup h1) (PySem.mem_of_lookup h2)
  · have hy : scope.names.lookup y = some .cell ∨ scope.names.lookup y = some .free := hy
    rcases hy with hy | hy
    · exact cell_has hy
    · exact absurd rfl (S.nofree _ (PySem.mem_of_lookup hy))
  · exact Nat.le_of_lt (x.above y c (PySem.mem_of_lookup h))
  · have hi : i < vs.length := by
      unfold start at h2
      by_cases hi : i < vs.length
      · exact hi
      · rw [List.getElem?_append_right (by simpa using hi)] at h2
        rw [List.getElem?_replicate] at h2
        split at h2 <;> cases h2
    have ha : vs[i]? = some v := by
      unfold start at h2
      rw [List.getElem?_append_left (by simpa using hi), List.getElem?_map] at h2
      cases e : vs[i]? with
      | none => rw [e] at h2; cases h2
      | some a => rw [e] at h2; cases h2; rfl
    obtain ⟨u, hu, rv⟩ := r.get ha
    have hp : ps[i]? = some y := by
      rw [← S.pre, List.getElem?_take_of_lt (by omega)]; exact h1
    have ndP : ps.Nodup := by rw [← S.pre]; exact S.nd.sublist (List.take_sublist _ _)
    refine ⟨u, rv, ?_⟩
    rcases S.par y (List.mem_of_getElem? hp) with k | k
    · exact .inl ⟨k, bindL_get ndP hp hu k⟩
    · obtain ⟨c, e⟩ := cell_has (n := s.heap.objs.size + 1) k
      refine .inr ⟨.inl k, c, e, ?_⟩
      have q := x.cell y c e
      rw [bindC_get ndP hp hu (by show scope.names.lookup y ≠ _; rw [k]; decide)] at q
      exact q
  · exact e0.hok.fresh (Nat.le_of_lt (x.above y c (PySem.mem_of_lookup h)))
  · unfold start
    show _ = N.length
    rw [List.length_append, List.length_map, List.length_replicate]
    omega

/-- THE RULE: a def (or a method) of the text, by its body. The body's reading t is chosen for each entry; it is run at the parameters' values -/
theorem fn_of {CX : CXT} {P : Program} {w : World} {K : PySem.W.Frag} {mg : Str → Option Value} {base : Heap} {k : Nat} {f : Addr} {name qual : Str} {params : Arguments} {body : List Stmt} {scope : Scope} {dV kV doc pm cdv ct oc : Value} {an od : Option Addr}
    {osl : Array (Option Value)} {N ps : List Str} {sp : Sp} (lk : K.lookup f = some ⟨oc, od, .func (PySem.W.fnOf name qual params body scope dV kV doc pm an cdv ct), osl⟩) (hcd : PySem.W.codeIn K cdv qual = true) (S : FnScope N ps scope)
    (len : ∀ vs H Q E, sp vs H Q E → vs.length = ps.length)
    (hbody : ∀ (A : Around) (outer : List Env) (s : Shared) (H : Hp) (vs : List V) (Q : VK) (E : XK), Room k (A.deeper (envOfC qual scope s.heap.objs.size f cdv)) → sp vs H Q E →
      ∃ t, PSs (cxOf CX P w K mg base N qual scope f cdv A outer s H E) body t ∧ t { nx := fun _ H' => Q .non H', rt := Q } (start N vs) H) :
    FnOk P w K mg base CX (k + 1) f (PySem.W.fnOf name qual params body scope dV kV doc pm an cdv ct) ps sp := by
  refine ⟨len, fun A outer s H args us vs Q E hr e0 hb r hsp => ?_⟩
  have hl := len _ _ _ _ hsp
  have KX : K.In s.heap := e0.mod.kin.keeps fun b o e => (e0.bs b o e).1
  have lim : s.heap.NoLimit := e0.mod.nolimit.keeps fun b o e => (e0.bs b o e).1
  have hkind : ∀ y ∈ ps.zip us, scope.names.lookup y.1 = some .local ∨ (scope.names.lookup y.1 = some .cell ∧ ((cellsFrom (s.heap.objs.size + 1) scope.names []).lookup y.1).isSome = true) := fun ⟨n, v⟩ hy => by
    rcases S.par n (List.of_mem_zip hy).1 with q | q
    · exact .inl q
    · exact .inr ⟨q, PySem.W.cellsFrom_some _ _ _ (.inl q)⟩
  refine codeAny_call_function hr.depth (KX _ _ lk) rfl S.co S.gen rfl (PySem.W.codeRec_of KX hcd) (hb _ _ _ _ ?_)
  refine wpAny_newFunctionEnv_cells S.kind hkind fun env he s1 x => ?_
  subst he
  refine ⟨lim.keeps x.toInCall.keep, codeAny_func ?_⟩
  obtain ⟨t, ht, hq⟩ := hbody A outer s H vs Q E (hr.deeper _) hsp
  have I : Inv (cxOf CX P w K mg base N qual scope f cdv A outer s H E) [] (start N vs) H s1 := inv_start S hr.hd e0 hl r x
  refine wpAny_mono (ht [] s1 (start N vs) H _ I hq) (fun fl s' hs => ?_) fun e s' hs => hs
  have fin : ∀ {σ' : St} {H' : Hp} {v : V} {u : Value}, Inv (cxOf CX P w K mg base N qual scope f cdv A outer s H E) [] σ' H' s' → RelV v u → Q v H' → CE outer P w H s Q u s' :=
    fun {σ' H' v u} J rv q => ⟨v, H', J.os, J.bare, J.base, J.hok, rv, q⟩
  cases fl with
  | ret u =>
    obtain ⟨v, σ', H', J, rv, q⟩ := hs
    exact fin J rv q
  | next =>
    obtain ⟨σ', H', J, q⟩ := hs
    exact fin (v := V.non) (u := Value.none) J rfl q
  | brk =>
    obtain ⟨_, _, _, q⟩ := hs
    exact False.elim q
  | cont =>
    obtain ⟨_, _, _, q⟩ := hs
    exact False.elim q
end L2

namespace L2
open PySem PySem.Spec PyProof.Rows
section
variable {X : Cx} {x : Str} {p pos : Pos} {e : Expr} {es : List Expr} {t : TA} {id T : String} {r : List V → Hp → VK → Prop}

def tCB (r : List V → Hp → VK → Prop) (t : TA) : TE := fun σ H Q => t σ H fun vs H1 => r vs H1 Q
/-- f(e, ..), f a built-in function -/
theorem pe_callB (hc : CallR X (.builtin id) r) (hg : Gl X x) (hm : X.mg x = none) (hv : bootBuiltins x = some (.builtin id)) (ha : PA X (e :: es) t) (hn : x ≠ "__name__" := by decide) (hdb : (x == ("__debug__" : Str)) = false := by decide)
    (he : starEach (e :: es) X.env = (false, eval e X.env) :: starEach es X.env := by rfl) (hpl : (backTo pos (starEach es X.env)).any (·.1) = false := by rfl) : PE X (.Call (.Name x p) (e :: es) [] pos) (tCB r t) := by
  intro pins s σ H Q I h
  refine wpAny_Call_Name_kw (ld_blt I hg hm hv ?_ hn hdb)
  exact PyProof.Rows.callWith_builtin1 (thn (ha pos pins s σ H _ I h) fun us s1 ⟨vs, H1, I1, r1, q1⟩ => hc pins s1 σ H1 vs us Q I1 r1 q1) he hpl
/-- T(e, ..), T a built-in type -/
theorem pe_callTy (hc : CallR X (.type T) r) (hg : Gl X x) (hm : X.mg x = none) (hv : bootBuiltins x = some (.type T)) (ha : PA X (e :: es) t) (hn : x ≠ "__name__" := by decide) (hdb : (x == ("__debug__" : Str)) = false := by decide)
    (he : starEach (e :: es) X.env = (false, eval e X.env) :: starEach es X.env := by rfl) (hpl : (backTo pos (starEach es X.env)).any (·.1) = false := by rfl) : PE X (.Call (.Name x p) (e :: es) [] pos) (tCB r t) := by
  intro pins s σ H Q I h
  refine wpAny_Call_Name_kw (ld_blt I hg hm hv ?_ hn hdb)
  exact PyProof.Rows.callWith_type1 (thn (ha pos pins s σ H _ I h) fun us s1 ⟨vs, H1, I1, r1, q1⟩ => hc pins s1 σ H1 vs us Q I1 r1 q1) he hpl
end
end L2

namespace HT
open PySem PyProof.Rows

section
open PySem.SeqAt
open PySem.AutoSeq1 (wpAny_loadPart')
open PySem.MeetsSeq PySem.MeetsSeq2 PySem.MeetsSeq3

end

section
variable {prog : Program} {w : World} {A : Around} {E : Value → Shared → Prop} {s : Shared}

/-! ### t[a:b], not the whole -/
end
end HT

namespace L2
open PySem PySem.Spec PyProof.Rows

/-! ### the parts of a slice -/
section
variable {X : Cx} {e : Expr} {te : TE} {lo hi : Option Expr} {tl th : TO} {pos p2 : Pos}

/-! ### t < u, t + u -/
end
end L2

namespace L2
open PySem PySem.Spec PyProof.Rows

/-! ### places -/
/-- the place that an index of any sign means -/
def ixN (n : Nat) (i : Int) : Option Nat := if 0 ≤ i then (if i < n then some i.toNat else none) else if -(n : Int) ≤ i then some (i + n).toNat else none
def atI {α : Type} (xs : List α) (i : Int) : Option α := (ixN xs.length i).bind fun j => xs[j]?
theorem ixN_seq {n : Nat} {i : Int} {j : Nat} (h : ixN n i = some j) : seqIndex? i n = some j ∧ j < n ∧ -(n : Int) ≤ i ∧ i < n := by
  unfold ixN at h
  by_cases h0 : 0 ≤ i
  · rw [if_pos h0] at h
    by_cases h1 : i < n
    · rw [if_pos h1] at h
      have e : i.toNat = j := Option.some.inj h
      exact ⟨by rw [seqIndex_of h0 h1, e], by omega, by omega, h1⟩
    · rw [if_neg h1] at h; cases h
  · rw [if_neg h0] at h
    by_cases h1 : -(n : Int) ≤ i
    · rw [if_pos h1] at h
      have e : (i + n).toNat = j := Option.some.inj h
      exact ⟨by rw [seqIndex_neg (by omega) h1, e], by omega, h1, by omega⟩
    · rw [if_neg h1] at h; cases h
theorem atI_get {α : Type} {xs : List α} {i : Int} {v : α} (h : atI xs i = some v) : ∃ j, seqIndex? i xs.length = some j ∧ xs[j]? = some v ∧ j < xs.length ∧ -(xs.length : Int) ≤ i ∧ i < xs.length := by
  unfold atI at h
  cases e : ixN xs.length i with
  | none => rw [e] at h; cases h
  | some j =>
    rw [e] at h
    obtain ⟨h1, h2, h3, h4⟩ := ixN_seq e
    exact ⟨j, h1, h, h2, h3, h4⟩
theorem atI_nat {α : Type} {xs : List α} {j : Nat} {v : α} (h : xs[j]? = some v) : atI xs (j : Int) = some v := by
  have hj : j < xs.length := (List.getElem?_eq_some_iff.mp h).1
  have e : ixN xs.length (j : Int) = some j := by
    unfold ixN
    rw [if_pos (by omega), if_pos (by omega)]; simp
  unfold atI; rw [e]; exact h
/-! ### what may be subscripted -/
/-- what stands as an index of a plain subscript -/
def PlainIx (b : Expr) : Prop := ∀ o i, subscripted b false o i = operate [o, i] (getItem o i)
/-- a subscript by values -/
def IxR (X : Cx) (r : R2) : Prop :=
  ∀ (value slice : Expr) (pins : List (Addr × Obj)) (s : Shared) (σ : St) (H : Hp) (x y : V) (v u : Value) (Q : VK), Inv X pins σ H s → RelV x v → RelV y u → r x y H Q →
    subscripted slice false v u = operate [v, u] (getItem v u) → wpAny (model X.prog X.w) X.A (subscriptTail value slice v u) (EP X pins σ Q) X.xe s
/-- a call of a builtin's method by values: the receiver, the arguments -/
def MtR (X : Cx) (id : String) (r : V → List V → Hp → VK → Prop) : Prop :=
  ∀ (pins : List (Addr × Obj)) (s : Shared) (σ : St) (H : Hp) (x : V) (xs : List V) (v : Value) (us : List Value) (Q : VK), Inv X pins σ H s → RelV x v → Vals xs us → r x xs H Q →
    wpAny (model X.prog X.w) X.A (call (.builtin id) (v :: us)) (EP X pins σ Q) X.xe s
section
variable {X : Cx} {a b : Expr} {ta tb : TE} {pos : Pos}
/-- a[b] -/
theorem pe_ix {r : R2} (hr : IxR X r) (ha : PE X a ta) (hb : PE X b tb) (hs : PlainIx b) : PE X (.Subscript a b pos) (tOp r ta tb) := by
  intro pins s σ H Q I h
  exact Subscript_ (binT ha hb I h fun v u s2 x y H2 I2 rx ry q => hr a b pins s2 σ H2 x y v u Q I2 rx ry q (hs _ _))

def rIxL (K : PySem.W.Frag) : R2 := fun x y H Q => ∃ p xs i v, x = .ref p ∧ y = .int i ∧ SqL K H p xs ∧ atI xs i = some v ∧ Q v H
def rIxT (K : PySem.W.Frag) : R2 := fun x y H Q => ∃ p xs i v, x = .ref p ∧ y = .int i ∧ SqT K H p xs ∧ atI xs i = some v ∧ Q v H
theorem ix_list : IxR X (rIxL X.K) := by
  intro value slice pins s σ H x y v u Q I rx ry h hs
  obtain ⟨p, xs, i, z, rfl, rfl, hq, he, q⟩ := h
  cases rx
  obtain ⟨t, rfl⟩ := ry
  obtain ⟨its, r, pl, hz⟩ := I.list hq
  obtain ⟨j, h1, h2, h3, h4, h5⟩ := atI_get he
  obtain ⟨w, ew, rw'⟩ := r.get h2
  have hl := r.length
  have hn := line63
  have fin : EP X pins σ Q w s := ⟨z, H, I, rw', q⟩
  by_cases h0 : 0 ≤ i
  · have hj : i.toNat = j := by
      rw [seqIndex_of h0 h5] at h1
      exact Option.some.inj h1
    exact item_listR pl.isList h0 (by omega) (by rw [hj]; simpa using ew) fin hs
  · have hj : (i + (its.toArray.size : Int)).toNat = j := by
      rw [seqIndex_neg (by omega) h4] at h1
      rw [List.size_toArray, ← hl]
      exact Option.some.inj h1
    exact subscriptTail_builtinR (x := w) pl.isList.typeIs slot_list_getitem.lookup
      (wpAny_getItem_list_neg (Q := fun r s' => r = w ∧ EP X pins σ Q r s') pl.isList (by omega) (by rw [List.size_toArray] <;> omega) (by omega) (by rw [hj]; simpa using ew) ⟨rfl, fin⟩) hs
theorem ix_tup : IxR X (rIxT X.K) := by
  intro value slice pins s σ H x y v u Q I rx ry h hs
  obtain ⟨p, xs, i, z, rfl, rfl, hq, he, q⟩ := h
  cases rx
  obtain ⟨t, rfl⟩ := ry
  obtain ⟨its, r, pl, hz⟩ := I.tuple hq
  obtain ⟨j, h1, h2, h3, h4, h5⟩ := atI_get he
  obtain ⟨w, ew, rw'⟩ := r.get h2
  have hl := r.length
  have hn := line63
  have fin : EP X pins σ Q w s := ⟨z, H, I, rw', q⟩
  exact subscriptTail_builtinR (x := w) pl.typeIs slot_tuple_getitem.lookup
    (getItem_tuple (j := j) (Q := fun r s' => r = w ∧ EP X pins σ Q r s') pl (by omega) (by omega) (by rw [List.size_toArray, ← hl]; exact h1) (by simpa using ew) ⟨rfl, fin⟩) hs
/-! ### xs[i] = v, any sign -/
/-- the list's object behind a store -/
theorem mapSeq_set (its : List Value) (n j : Nat) (u : Value) : Obj.mapSeq (·.setIfInBounds j u) { cls := .type "list", data := .seq its.toArray n } = { cls := .type "list", data := .seq (its.set j u).toArray n } := by
  simp [Obj.mapSeq]
theorem Inv.lst {pins : List (Addr × Obj)} {σ : St} {H : Hp} {s : Shared} {p : Addr} {xs : List V} (I : Inv X pins σ H s) (h : H p = some (.lst xs)) :
    ∃ (its : List Value) (n : Nat), Vals xs its ∧ s.heap.get? p = some { cls := .type "list", data := .seq its.toArray n } ∧ xs.length ≤ sizeLine := by
  obtain ⟨z, its, n, r, e⟩ := I.hok p _ h
  exact ⟨its, n, r, e, z⟩
/-- the list at p is written by an update of its object -/
theorem Inv.lstUpd {pins : List (Addr × Obj)} {σ : St} {H : Hp} {s : Shared} {p : Addr} {xs ys : List V} {its its' : List Value} {n n' : Nat} {f : Obj → Obj} (I : Inv X pins σ H s) (h : H p = some (.lst xs))
    (ho : s.heap.get? p = some { cls := .type "list", data := .seq its.toArray n }) (hf : f { cls := .type "list", data := .seq its.toArray n } = { cls := .type "list", data := .seq its'.toArray n' }) (r : Vals ys its') (hz : ys.length ≤ sizeLine) (t : Nat) :
    Inv X pins σ (upd H p (.lst ys)) { s with heap := s.heap.update p f, toks := t } := by
  have e : (s.heap.update p f).get? p = some { cls := .type "list", data := .seq its'.toArray n' } := by
    rw [Heap.get?_update_self f ho (by rw [hf] <;> rfl), hf]
  refine I.write (x := p) (e := p) (by rw [h]; trivial) (.inl rfl) (fun b u hb q => (Heap.get?_update_other _ _ (Ne.symm hb)).trans q) ⟨_, e⟩ ?_
  exact ⟨hz, its', n', r, e⟩
def rSetL : V → V → V → Hp → (Hp → Prop) → Prop := fun o i v H Q => ∃ p xs k j, o = .ref p ∧ i = .int k ∧ H p = some (.lst xs) ∧ ixN xs.length k = some j ∧ Q (upd H p (.lst (xs.set j v)))
theorem set_list : PSet X rSetL := by
  intro pins s σ H o i v ov iv u Q I ro ri rv h
  obtain ⟨p, xs, k, j, rfl, rfl, hp, hj, q⟩ := h
  cases ro
  obtain ⟨t, rfl⟩ := ri
  obtain ⟨its, n, r, ho, hz⟩ := I.lst hp
  obtain ⟨h1, h2, h3, h4⟩ := ixN_seq hj
  have hl := r.length
  have hn := line63
  have I' : Inv X pins σ (upd H p (.lst (xs.set j v))) { s with heap := s.heap.update p (Obj.mapSeq (·.setIfInBounds j u)) } :=
    I.lstUpd hp ho (mapSeq_set its n j u) (r.set rv j) (by rw [List.length_set]; exact hz) s.toks
  by_cases h0 : 0 ≤ k
  · have hk : k.toNat = j := by
      rw [seqIndex_of h0 h4] at h1
      exact Option.some.inj h1
    exact PySem.W.ki_setAt ho h0 (by omega) (by rw [List.size_toArray, ← hl]; exact h4) (by rw [hk]; exact ⟨_, I', q⟩)
  · have hk : (k + (its.toArray.size : Int)).toNat = j := by
      rw [seqIndex_neg (by omega) h3] at h1
      rw [List.size_toArray, ← hl]
      exact Option.some.inj h1
    exact PySem.W.ki_setBack ho (by omega) (by rw [List.size_toArray, ← hl]; exact h3) (by omega) (by rw [hk]; exact ⟨_, I', q⟩)

/-! ### slices -/
/-! ### in, not in: flat items -/
def flatV : V → Bool
  | .non => true
  | .bl _ => true
  | .int _ => true
  | .str _ => true
  | _ => false
/-- == of flat values -/
def eqV : V → V → Bool
  | .non, .non => true
  | .bl a, .bl b => a == b
  | .bl a, .int b => (if a then 1 else 0) == b
  | .int a, .bl b => a == (if b then 1 else 0)
  | .int a, .int b => a == b
  | .str a, .str b => a == b
  | _, _ => false
theorem eqAt_V {A : Around} {s : Shared} {y x : V} {u v : Value} (ry : RelV y u) (rx : RelV x v) (fy : flatV y = true) (fx : flatV x = true) : SeqAt.EqAt A s u v (eqV y x) := by
  cases y with
  | non =>
    cases ry
    cases x with
    | non => cases rx; exact SeqAt.EqAt.same _
    | bl b => cases rx; exact SeqAt.EqAt.none_bool b
    | int b => obtain ⟨t, rfl⟩ := rx; exact SeqAt.EqAt.none_int b t
    | str b => obtain ⟨t, rfl⟩ := rx; exact SeqAt.EqAt.none_str b t
    | _ => exact absurd (show false = true from fx) Bool.false_ne_true
  | bl a =>
    cases ry
    cases x with
    | non => cases rx; exact SeqAt.EqAt.bool_none a
    | bl b => cases rx; exact SeqAt.EqAt.bool_bool a b
    | int b => obtain ⟨t, rfl⟩ := rx; exact SeqAt.EqAt.bool_int a b t
    | str b => obtain ⟨t, rfl⟩ := rx; exact SeqAt.EqAt.bool_str a b t
    | _ => exact absurd (show false = true from fx) Bool.false_ne_true
  | int a =>
    obtain ⟨t', rfl⟩ := ry
    cases x with
    | non => cases rx; exact SeqAt.EqAt.int_none a t'
    | bl b => cases rx; exact SeqAt.EqAt.int_bool a t' b
    | int b => obtain ⟨t, rfl⟩ := rx; exact SeqAt.EqAt.int_int a t' b t
    | str b => obtain ⟨t, rfl⟩ := rx; exact SeqAt.EqAt.int_str a t' b t
    | _ => exact absurd (show false = true from fx) Bool.false_ne_true
  | str a =>
    obtain ⟨t', rfl⟩ := ry
    cases x with
    | non => cases rx; exact SeqAt.EqAt.str_none a t'
    | bl b => cases rx; exact SeqAt.EqAt.str_bool a t' b
    | int b => obtain ⟨t, rfl⟩ := rx; exact SeqAt.EqAt.str_int a t' b t
    | str b => obtain ⟨t, rfl⟩ := rx; exact SeqAt.EqAt.str_str a t' b t
    | _ => exact absurd (show false = true from fx) Bool.false_ne_true
  | _ => exact absurd (show false = true from fy) Bool.false_ne_true
/-- the items' answers, read off the values (a value's own answer does not lean on its token) -/
def eqU (x : V) (u : Value) : Bool := match u with
  | .none => eqV .non x
  | .bool b => eqV (.bl b) x
  | .int i _ => eqV (.int i) x
  | .str z _ => eqV (.str z) x
  | _ => false
theorem eqU_of {x y : V} {u : Value} (r : RelV y u) (f : flatV y = true) : eqU x u = eqV y x := by
  cases y with
  | non => cases r; rfl
  | bl b => cases r; rfl
  | int i => obtain ⟨t, rfl⟩ := r; rfl
  | str z => obtain ⟨t, rfl⟩ := r; rfl
  | _ => exact absurd (show false = true from f) Bool.false_ne_true
theorem any_eqU {x : V} : ∀ {xs : List V} {us : List Value}, Vals xs us → xs.all flatV = true → us.any (eqU x) = xs.any fun y => eqV y x
  | _, _, .nil, _ => rfl
  | y :: xs, u :: us, .cons r t, f => by
    rw [List.all_cons, Bool.and_eq_true] at f
    rw [List.any_cons, List.any_cons, eqU_of r f.1, any_eqU t f.2]
theorem mem_eqAt {A : Around} {s : Shared} {x : V} {v : Value} (rx : RelV x v) (fx : flatV x = true) : ∀ {xs : List V} {us : List Value}, Vals xs us → xs.all flatV = true → ∀ u ∈ us, SeqAt.EqAt A s u v (eqU x u)
  | _, _, .nil, _ => fun u hu => by cases hu
  | y :: xs, u :: us, .cons r t, f => fun u' hu => by
    rw [List.all_cons, Bool.and_eq_true] at f
    rcases List.mem_cons.mp hu with rfl | hu
    · rw [eqU_of r f.1]; exact eqAt_V r rx f.1 fx
    · exact mem_eqAt rx fx t f.2 u' hu
def inV (x : V) (xs : List V) : Bool := xs.any fun y => eqV y x
/-- x in a list or tuple of flat items -/
def rIn (K : PySem.W.Frag) (neg : Bool) : R2 := fun x y H Q => ∃ p xs, y = .ref p ∧ (SqL K H p xs ∨ SqT K H p xs) ∧ flatV x = true ∧ xs.all flatV = true ∧ Q (.bl (if neg then !inV x xs else inV x xs)) H
theorem op_notIn_seq : OpR X (compareOp .NotIn) (rIn X.K true) := by
  intro pins s σ H x y v u Q I rx ry h
  obtain ⟨p, xs, rfl, hq, fx, fs, q⟩ := h
  cases ry
  rcases hq with hq | hq
  · obtain ⟨its, r, pl, hz⟩ := I.list hq
    refine SeqAt.notIn_listAt (eqU x) pl.isList (fun w hw => mem_eqAt rx fx r fs w (by simpa using hw)) ⟨.bl _, H, I, rfl, ?_⟩
    rw [show its.toArray.any (eqU x) = its.any (eqU x) by simp, any_eqU r fs]
    exact q
  · obtain ⟨its, r, pl, hz⟩ := I.tuple hq
    refine SeqAt.notIn_tupleAt (eqU x) pl (fun w hw => mem_eqAt rx fx r fs w (by simpa using hw)) ⟨.bl _, H, I, rfl, ?_⟩
    rw [show its.toArray.any (eqU x) = its.any (eqU x) by simp, any_eqU r fs]
    exact q
/-! ### len, list(x), tuple(x) of any list or tuple that is read -/
theorem call_len_seq : CallR X (.builtin "len") (fun xs H Q => ∃ p ys, xs = [.ref p] ∧ (SqL X.K H p ys ∨ SqT X.K H p ys) ∧ Q (.int ys.length) H) := by
  intro pins s σ H xs us Q I r h
  obtain ⟨p, ys, rfl, hq, q⟩ := h
  obtain ⟨u, rfl, rx⟩ := vals1 r
  cases rx
  have hn := line63
  rcases hq with hq | hq
  · obtain ⟨its, r', pl, hz⟩ := I.list hq
    have hlen := r'.length
    exact Calls.call_len_list pl.isList (by simp only [List.size_toArray] <;> omega) ⟨.int ys.length, H, I.tok _, ⟨s.toks + 1, by rw [List.size_toArray, hlen]⟩, q⟩
  · obtain ⟨its, r', pl, hz⟩ := I.tuple hq
    have hlen := r'.length
    exact len_tuple pl (by simp only [List.size_toArray] <;> omega) ⟨.int ys.length, H, I.tok _, ⟨s.toks + 1, by rw [List.size_toArray, hlen]⟩, q⟩
theorem call_list_of : CallR X (.type "list") (fun xs H Q => ∃ p ys, xs = [.ref p] ∧ (SqL X.K H p ys ∨ SqT X.K H p ys) ∧ ∀ l, H l = none → Q (.ref l) (upd H l (.lst ys))) := by
  intro pins s σ H xs us Q I r h
  obtain ⟨p, ys, rfl, hq, q⟩ := h
  obtain ⟨u, rfl, rx⟩ := vals1 r
  cases rx
  have fin : ∀ (its : List Value), Vals ys its → ys.length ≤ sizeLine → ∀ (h' : Heap) (c' : Nat), (∀ b o', s.heap.get? b = some o' → h'.get? b = some o') →
      h'.get? s.heap.objs.size = some { cls := .type "list", dict := none, data := .seq its.toArray c', slots := #[] } → EP X pins σ Q (.ref s.heap.objs.size) { s with heap := h' } := fun its r' hz h' c' kp e =>
    ⟨.ref s.heap.objs.size, _, I.laid (t' := s.toks) kp (Nat.le_refl _) (show ObjOk X.prog X.w _ h' _ (.lst ys) from ⟨hz, its, c', r', e⟩), rfl, q _ (I.hok.fresh (Nat.le_refl _))⟩
  rcases hq with hq | hq
  · obtain ⟨its, r', pl, hz⟩ := I.list hq
    have hlen := r'.length
    obtain ⟨o, ho, hc, n, hd⟩ := pl.isList
    exact call_list_seq p (.inl rfl) ho hc hd (fun h' c' kp e => fin its r' hz h' c' kp e) (by simp only [List.size_toArray] <;> omega)
  · obtain ⟨its, r', pl, hz⟩ := I.tuple hq
    have hlen := r'.length
    obtain ⟨o, ho, hc, n, hd⟩ := pl
    exact call_list_seq p (.inr rfl) ho hc hd (fun h' c' kp e => fin its r' hz h' c' kp e) (by simp only [List.size_toArray] <;> omega)
/-! ### the call of a builtin's method: o.m(..) -/
/-- the value is of that builtin type -/
def tyV (K : PySem.W.Frag) (T : String) (x : V) (H : Hp) : Prop := match x with
  | .str _ => T = "str"
  | .int _ => T = "int"
  | .ref p => (T = "list" ∧ ∃ xs, SqL K H p xs) ∨ (T = "tuple" ∧ ∃ o, K.lookup p = some o ∧ o.cls = .type "tuple" ∧ o.dict = none) ∨
      (T = "dict" ∧ ((∃ kvs, H p = some (.dK kvs)) ∨ ∃ kvs, H p = some (.dT kvs))) ∨ (T = "set" ∧ ∃ S n, H p = some (.set S n))
  | _ => False
theorem tyV_is {pins : List (Addr × Obj)} {σ : St} {H : Hp} {s : Shared} {T : String} {x : V} {v : Value} (I : Inv X pins σ H s) (r : RelV x v) (ty : tyV X.K T x H) :
    s.TypeIs v T ∧ ∀ a, v = .ref a → ∃ ob, s.heap.get? a = some ob ∧ ob.dict = none := by
  cases x with
  | str z =>
    obtain ⟨t, rfl⟩ := r
    cases (show T = "str" from ty)
    exact ⟨typeIs_str s z t, fun _ e => nomatch e⟩
  | int i =>
    obtain ⟨t, rfl⟩ := r
    cases (show T = "int" from ty)
    exact ⟨typeIs_int s i t, fun _ e => nomatch e⟩
  | ref p =>
    cases r
    rcases ty with ⟨rfl, xs, hq⟩ | ⟨rfl, o, hk, hc, hd⟩ | ⟨rfl, hk⟩ | ⟨rfl, S, n, hk⟩
    · obtain ⟨its, _, pl, _⟩ := I.list hq
      refine ⟨pl.isList.typeIs, fun a e => ?_⟩
      cases e
      obtain ⟨o, n, e, c, hd, _⟩ := pl
      exact ⟨o, e, hd⟩
    · refine ⟨⟨o, I.kIn p o hk, hc⟩, fun a e => ?_⟩
      cases e
      exact ⟨o, I.kIn _ o hk, hd⟩
    · have z : ∃ o, s.heap.get? p = some o ∧ o.ExactDict := by
        rcases hk with ⟨kvs, hk⟩ | ⟨kvs, hk⟩
        · obtain ⟨_, _, _, _, o, _, _, e, ex, _⟩ := I.hok p _ hk
          exact ⟨o, e, ex⟩
        · obtain ⟨_, _, _, _, o, _, _, e, ex, _⟩ := I.hok p _ hk
          exact ⟨o, e, ex⟩
      obtain ⟨o, e, ex⟩ := z
      refine ⟨⟨o, e, ex.1⟩, fun a e2 => ?_⟩
      cases e2
      exact ⟨o, e, ex.2.1⟩
    · obtain ⟨o, _, _, _, e, ex, _⟩ := I.hok p _ hk
      refine ⟨⟨o, e, ex.1⟩, fun a e2 => ?_⟩
      cases e2
      exact ⟨o, e, ex.2.1⟩
  | _ => exact False.elim ty
def tBM (K : PySem.W.Frag) (T : String) (r : V → List V → Hp → VK → Prop) (to : TE) (t : TA) : TE := fun σ H Q => to σ H fun x H1 => tyV K T x H1 ∧ t σ H1 fun xs H2 => r x xs H2 Q
variable {o e : Expr} {es : List Expr} {to : TE} {t : TA} {name : Str} {apos cpos : Pos} {T id : String} {r : V → List V → Hp → VK → Prop}
theorem pe_bm (pa : PlainAttrs T) (slot : Slot T name id) (hty : typeOf (.builtin id) = pure (.type "method_descriptor")) (hm : MtR X id r) (ho : PE X o to) (ha : PA X (e :: es) t)
    (hbase : attributeBase o name X.env (eval o X.env) = eval o X.env := by rfl)
    (hfew : ((backTo cpos (starEach (e :: es) X.env)).all (fun x => !x.1) && (backToKw cpos (keywordEach [] X.env)).all (fun x => x.1.isSome)
      && decide ((e :: es).length + ([] : List Keyword).length + (if ([] : List Keyword).isEmpty then 0 else 1) < 30)) = true := by rfl)
    (hline : (apos.endLine == cpos.line) = true := by rfl) (hs : starEach (e :: es) X.env = (false, eval e X.env) :: starEach es X.env := by rfl) (hplain : (backTo cpos (starEach es X.env)).any (·.1) = false := by rfl) :
    PE X (.Call (.Attribute o name apos) (e :: es) [] cpos) (tBM X.K T r to t) := by
  intro pins s σ H Q I h
  refine wpAny_Call_method_late hbase hfew hline rfl (thn (ho pins s σ H _ I h) fun v s1 ⟨x, H1, I1, r1, ty, q1⟩ => ?_)
  obtain ⟨h1, h2⟩ := tyV_is I1 r1 ty
  refine ⟨T, id, pa, slot, hty, h1, h2, ?_⟩
  have hA := ha cpos pins s1 σ H1 _ I1 q1
  rw [hs] at hA ⊢
  refine Calls.callWith_builtin (by show (false || (backTo cpos (starEach es X.env)).any (·.1)) = false; rw [hplain] <;> rfl) (Calls.evalArgs_plain ?_)
  exact thn hA fun us s2 ⟨vs, H2, I2, r2, q2⟩ => hm pins s2 σ H2 x vs v us Q I2 r1 r2 q2
/- xs.append(e), list.index on a module's tuple .. are MtR facts of 06m -/
end
end L2

namespace L2
open PySem PySem.Spec PyProof.Rows

def MtM (X : Cx) (id : String) (r : V → List V → Hp → VK → Prop) : Prop :=
  ∀ (pins : List (Addr × Obj)) (s : Shared) (σ : St) (H : Hp) (x : V) (xs : List V) (v : Value) (us : List Value) (Q : VK), Inv X pins σ H s → RelV x v → Vals xs us → r x xs H Q →
    wpAny (model X.prog X.w) X.A (call (.builtin id) (v :: us)) (EP X pins σ Q) X.xe s

/-! ### lists of values -/
theorem Vals.one : ∀ {x : V} {us : List Value}, Vals [x] us → ∃ u, us = [u] ∧ RelV x u
  | _, _, .cons r .nil => ⟨_, rfl, r⟩
theorem Vals.eraseIdx : ∀ {xs : List V} {us : List Value} (i : Nat), Vals xs us → Vals (xs.eraseIdx i) (us.eraseIdx i)
  | _, _, _, .nil => .nil
  | _, _, 0, .cons _ t => t
  | _, _, i + 1, .cons r t => .cons r (Vals.eraseIdx i t)
theorem len_erase {α : Type} : ∀ (l : List α) (i : Nat), (l.eraseIdx i).length ≤ l.length
  | [], _ => Nat.le_refl _
  | _ :: _, 0 => Nat.le_succ _
  | _ :: r, i + 1 => Nat.succ_le_succ (len_erase r i)
section
variable {X : Cx} {pins : List (Addr × Obj)} {σ : St} {H : Hp} {s : Shared} {l b : Addr} {xs ys zs : List V}

/-! ### the two steps: a tracked list is rewritten, a new list is laid -/
theorem Inv.lset {its its' : List Value} {n : Nat} {f : Array Value → Array Value} {t' : Nat} (I : Inv X pins σ H s) (hH : H l = some (.lst xs))
    (e : s.heap.get? l = some { cls := .type "list", data := .seq its.toArray n }) (hf : f its.toArray = its'.toArray) (hv : Vals ys its') (hz : ys.length ≤ sizeLine) :
    Inv X pins σ (upd H l (.lst ys)) { s with heap := s.heap.update l (Obj.mapSeq f), toks := t' } := by
  have q := PySem.IsL.update e f
  rw [hf] at q
  refine I.write (x := l) (e := l) (by rw [hH]; exact trivial) (.inl rfl) (fun b' u hb hu => (Heap.get?_update_other s.heap (Obj.mapSeq f) (Ne.symm hb)).trans hu) ⟨_, q⟩ ?_
  exact ⟨hz, its', _, hv, q⟩
theorem Inv.lnew {its : List Value} {t' : Nat} (I : Inv X pins σ H s) (hv : Vals ys its) (hz : ys.length ≤ sizeLine) :
    Inv X pins σ (upd H s.heap.objs.size (.lst ys)) { s with heap := s.heap.push { cls := .type "list", data := .seq its.toArray }, toks := t' } :=
  I.laid (fun _ _ q => Heap.get?_push_of_some _ q) (Nat.le_refl _) ⟨hz, its, 0, hv, Heap.get?_push_size _ rfl⟩
theorem Inv.fresh (I : Inv X pins σ H s) : H s.heap.objs.size = none := I.hok.fresh (Nat.le_refl _)
theorem Inv.lstM (I : Inv X pins σ H s) (hH : H l = some (.lst xs)) : xs.length ≤ sizeLine ∧ ∃ (its : List Value) (n : Nat), Vals xs its ∧ xs.length = its.length ∧ s.heap.get? l = some { cls := .type "list", data := .seq its.toArray n } := by
  obtain ⟨z, its, n, r, e⟩ := I.hok l _ hH
  exact ⟨z, its, n, r, r.length, e⟩

end

section
variable {X : Cx}

/-! ### methods -/
def rAppend : V → List V → Hp → VK → Prop := fun x vs H Q => ∃ l xs y, x = .ref l ∧ vs = [y] ∧ H l = some (.lst xs) ∧ xs.length < sizeLine ∧ Q .non (upd H l (.lst (xs ++ [y])))
theorem mt_append : MtM X "list.append" rAppend := by
  intro pins s σ H x vs v us Q I rx rv h
  obtain ⟨l, xs, y, rfl, rfl, hH, hz, q⟩ := h
  cases rx
  obtain ⟨u, rfl, ru⟩ := rv.one
  obtain ⟨z, its, n, r, hl, e⟩ := I.lstM hH
  refine call_meets F.slot_list_append ⟨_, e, rfl⟩ F.entry_list_append (F.args_list_append_2 _ _) (PySem.list_append l its.toArray n u (by rw [List.size_toArray]; omega)) ⟨e, ?_⟩
  refine ⟨.non, _, I.lset (its' := its ++ [u]) hH e (by simp) (r.append (.cons ru .nil)) ?_, rfl, q⟩
  rw [List.length_append, List.length_singleton]
  omega

def rPopAt : V → List V → Hp → VK → Prop := fun x vs H Q => ∃ l xs i k y, x = .ref l ∧ vs = [.int i] ∧ H l = some (.lst xs) ∧ -(2 ^ 63) ≤ i ∧ i < 2 ^ 63 ∧ seqIndex? i xs.length = some k ∧ xs[k]? = some y ∧ Q y (upd H l (.lst (xs.eraseIdx k)))
theorem mt_popAt : MtM X "list.pop" rPopAt := by
  intro pins s σ H x vs v us Q I rx rv h
  obtain ⟨l, xs, i, k, y, rfl, rfl, hH, h1, h2, hk, hy, q⟩ := h
  cases rx
  obtain ⟨u, rfl, ru⟩ := rv.one
  obtain ⟨t, rfl⟩ := ru
  obtain ⟨z, its, n, r, hl, e⟩ := I.lstM hH
  obtain ⟨w, hw, rw'⟩ := r.get hy
  refine call_meets F.slot_list_pop ⟨_, e, rfl⟩ F.entry_list_pop (F.args_list_pop_2 _ _)
    (MeetsSeq.list_pop_at l its.toArray n i t k w (fitsIndex_both h1 h2) (by rw [List.size_toArray, ← hl]; exact hk) (by rw [← Array.getElem?_toList]; exact hw) (by rw [List.size_toArray]; omega)) ⟨e, ?_⟩
  refine ⟨y, _, I.lset (its' := its.eraseIdx k) hH e ?_ (r.eraseIdx k) ?_, rw', q⟩
  · show its.toArray.eraseIdxIfInBounds k = (its.eraseIdx k).toArray
    rw [List.eraseIdxIfInBounds_toArray]
  · have := len_erase xs k
    omega

/-! ### list + list, list += list, list * int -/
def rCat : R2 := fun x y H Q => ∃ l b xs zs, x = .ref l ∧ y = .ref b ∧ H l = some (.lst xs) ∧ H b = some (.lst zs) ∧ xs.length + zs.length ≤ sizeLine ∧ ∀ p, H p = none → Q (.ref p) (upd H p (.lst (xs ++ zs)))
theorem op_cat : OpR X (binaryOp .Add) rCat := by
  intro pins s σ H x y v u Q I rx ry h
  obtain ⟨l, b, xs, zs, rfl, rfl, hH, hB, hz, q⟩ := h
  cases rx
  cases ry
  obtain ⟨z, its, n, r, hl, e⟩ := I.lstM hH
  obtain ⟨z2, its2, n2, r2, hl2, e2⟩ := I.lstM hB
  refine PySem.P.add_list e e2 ?_ (by rw [List.size_toArray, List.size_toArray]; omega)
  have ea : its.toArray ++ its2.toArray = (its ++ its2).toArray := by simp
  rw [ea]
  exact ⟨.ref _, _, I.lnew (t' := s.toks) (r.append r2) (by rw [List.length_append]; omega), rfl, q _ I.fresh⟩
/-! ### del xs[i] -/
end

/-! ### xs[a:b] = ys -/
section
variable {prog : Program} {w : World} {A : Around} {E : Value → Shared → Prop} {s : Shared}
end

section
variable {X : Cx}
end
end L2

namespace L2
open PySem PySem.Spec PyProof.Rows

/-! ### lists of pairs as tables -/
section
variable {κ : Type} [DecidableEq κ]
def valV (kvs : List (κ × V)) (k : κ) : Option V := (kvs.find? fun kv => decide (kv.1 = k)).map (·.2)
/-- in its place, or at the end -/
def putK (kvs : List (κ × V)) (k : κ) (v : V) : List (κ × V) :=
  if (kvs.any fun kv => decide (kv.1 = k)) = true then kvs.map (fun kv => if kv.1 = k then (kv.1, v) else kv) else kvs ++ [(k, v)]
theorem valV_pos {p : κ × V} {r : List (κ × V)} {k : κ} (e : p.1 = k) : valV (p :: r) k = some p.2 := by simp [valV, List.find?_cons, e]
theorem valV_neg {p : κ × V} {r : List (κ × V)} {k : κ} (e : ¬ p.1 = k) : valV (p :: r) k = valV r k := by simp [valV, List.find?_cons, e]
theorem valV_any (k : κ) : ∀ kvs : List (κ × V), (kvs.any fun kv => decide (kv.1 = k)) = (valV kvs k).isSome
  | [] => rfl
  | p :: r => by
    rw [List.any_cons]
    by_cases e : p.1 = k
    · simp only [valV_pos e, decide_eq_true e, Bool.true_or, Option.isSome_some]
    · rw [valV_neg e, decide_eq_false e, Bool.false_or]; exact valV_any k r
theorem length_putK (kvs : List (κ × V)) (k : κ) (v : V) : (putK kvs k v).length ≤ kvs.length + 1 := by
  unfold putK
  split
  · rw [List.length_map]; omega
  · rw [List.length_append, List.length_cons, List.length_nil]; omega
theorem putK_new {kvs : List (κ × V)} {k : κ} (v : V) (h : valV kvs k = none) : putK kvs k v = kvs ++ [(k, v)] := by
  unfold putK
  rw [valV_any, h]
  exact if_neg (by decide)

theorem RelO.isSome_eq {o : Option V} {u : Option Value} (r : RelO o u) : o.isSome = u.isSome := by
  cases o with
  | none => cases u with
    | none => rfl
    | some _ => exact (show False from r).elim
  | some _ => cases u with
    | none => exact (show False from r).elim
    | some _ => rfl
/-- raw tables of the same keys -/
theorem KV.val {kvs : List (κ × V)} {vs : List (κ × Value)} (r : KV kvs vs) (k : κ) : RelO (valV kvs k) (valueAt vs k) := by
  unfold KV at r
  induction r with
  | nil => exact True.intro
  | @cons p q ps qs h t ih =>
    obtain ⟨h1, h2⟩ := h
    by_cases e : p.1 = k
    · have e' : q.1 = k := h1.symm.trans e
      have b : valueAt (q :: qs) k = some q.2 := by simp [valueAt, List.find?_cons, e']
      rw [valV_pos e, b]; exact h2
    · have e' : ¬ q.1 = k := fun z => e (h1.trans z)
      have b : valueAt (q :: qs) k = valueAt qs k := by simp [valueAt, List.find?_cons, e']
      rw [valV_neg e, b]; exact ih
theorem KV.any {kvs : List (κ × V)} {vs : List (κ × Value)} (r : KV kvs vs) (k : κ) : (kvs.any fun kv => decide (kv.1 = k)) = vs.any fun kv => decide (kv.1 = k) := by
  unfold KV at r
  induction r with
  | nil => rfl
  | cons h t ih => rw [List.any_cons, List.any_cons, ih, h.1]
theorem KV.repl {kvs : List (κ × V)} {vs : List (κ × Value)} (r : KV kvs vs) (k : κ) {y : V} {u : Value} (ry : RelV y u) :
    KV (kvs.map fun kv => if kv.1 = k then (kv.1, y) else kv) (vs.map fun kv => if kv.1 = k then (kv.1, u) else kv) := by
  unfold KV at r ⊢
  induction r with
  | nil => exact .nil
  | @cons p q ps qs h t ih =>
    rw [List.map_cons, List.map_cons]
    refine .cons ?_ ih
    obtain ⟨h1, h2⟩ := h
    by_cases e : p.1 = k
    · rw [if_pos e, if_pos (h1.symm.trans e)]; exact ⟨h1, ry⟩
    · rw [if_neg e, if_neg (fun z => e (h1.trans z))]; exact ⟨h1, h2⟩
theorem KV.put {kvs : List (κ × V)} {vs : List (κ × Value)} (r : KV kvs vs) (k : κ) {y : V} {u : Value} (ry : RelV y u) : KV (putK kvs k y) (stored vs k u) := by
  unfold putK stored
  rw [r.any k]
  by_cases e : (vs.any fun kv => decide (kv.1 = k)) = true
  · rw [if_pos e, if_pos e]; exact r.repl k ry
  · rw [if_neg e, if_neg e]; exact Paired.snoc r ⟨rfl, ry⟩
theorem KV.keys {kvs : List (κ × V)} {vs : List (κ × Value)} (r : KV kvs vs) : kvs.map (·.1) = vs.map (·.1) := by
  unfold KV at r
  induction r with
  | nil => rfl
  | cons h t ih => rw [List.map_cons, List.map_cons, ih, h.1]
theorem KV.length {kvs : List (κ × V)} {vs : List (κ × Value)} (r : KV kvs vs) : kvs.length = vs.length := Paired.length r
end


/-! ### a tracked dict, its keys ints and texts or tuples of these -/
theorem kV_is {P : Program} {w : World} {k : Key} {u : Value} (r : RelV (kV k) u) : (mixKind P w).is k u = true := by
  cases k with
  | inl i => obtain ⟨t, e⟩ := (show ∃ t, u = Value.int i t from r); subst e; exact mixKind_int P w i t
  | inr x => obtain ⟨t, e⟩ := (show ∃ t, u = Value.str x t from r); subst e; exact mixKind_str P w x t
theorem items_are {P : Program} {w : World} : ∀ {ks : List Key} {us : List Value}, Vals (ks.map kV) us → ItemsAre (mixKind P w) ks us
  | [], _, r => by rw [List.map_nil] at r; cases r; exact .nil
  | k :: ks, _, r => by
    rw [List.map_cons] at r
    cases r with
    | cons h t => exact .cons (kV_is h) (items_are t)

/-- raw entries of a dict with tuple keys -/
abbrev KT (H : Hp) : List (List Key × V) → List (List Key × Addr × Value) → Prop := Paired fun p q => p.1 = q.1 ∧ H q.2.1 = some (.tup (p.1.map kV)) ∧ RelV p.2 q.2.2
theorem KT.val {H : Hp} {kvs : List (List Key × V)} {xs : List (List Key × Addr × Value)} (r : KT H kvs xs) (k : List Key) : RelO (valV kvs k) ((atKey xs k).map (·.2)) := by
  induction r with
  | nil => exact True.intro
  | @cons p q ps qs h t ih =>
    obtain ⟨h1, _, h2⟩ := h
    by_cases e : p.1 = k
    · have e' : q.1 = k := h1.symm.trans e
      have b : atKey (q :: qs) k = some q.2 := by simp [atKey, List.find?_cons, e']
      rw [valV_pos e, b]; exact h2
    · have e' : ¬ q.1 = k := fun z => e (h1.trans z)
      have b : atKey (q :: qs) k = atKey qs k := by simp [atKey, List.find?_cons, e']
      rw [valV_neg e, b]; exact ih
theorem KT.repl {H : Hp} {kvs : List (List Key × V)} {xs : List (List Key × Addr × Value)} (r : KT H kvs xs) (k : List Key) {y : V} {u : Value} (ry : RelV y u) :
    KT H (kvs.map fun kv => if kv.1 = k then (kv.1, y) else kv) (xs.map (putAt k u)) := by
  induction r with
  | nil => exact .nil
  | @cons p q ps qs h t ih =>
    rw [List.map_cons, List.map_cons]
    refine .cons ?_ ih
    obtain ⟨h1, h2, h3⟩ := h
    unfold putAt
    by_cases e : p.1 = k
    · rw [if_pos e, if_pos (h1.symm.trans e)]; exact ⟨h1, h2, ry⟩
    · rw [if_neg e, if_neg (fun z => e (h1.trans z))]; exact ⟨h1, h2, h3⟩
theorem KT.put {H : Hp} {kvs : List (List Key × V)} {xs : List (List Key × Addr × Value)} (r : KT H kvs xs) (k : List Key) {b : Addr} {y : V} {u : Value} (hb : H b = some (.tup (k.map kV))) (ry : RelV y u) :
    KT H (putK kvs k y) (storedH xs k b u) := by
  have e : (kvs.any fun kv => decide (kv.1 = k)) = (atKey xs k).isSome := by
    rw [valV_any, (r.val k).isSome_eq, Option.isSome_map]
  unfold putK storedH
  rw [e]
  by_cases q : (atKey xs k).isSome = true
  · rw [if_pos q, if_pos q]; exact r.repl k ry
  · rw [if_neg q, if_neg q]; exact Paired.snoc r ⟨rfl, hb, ry⟩
theorem KT.keeps {H H' : Hp} {kvs : List (List Key × V)} {xs : List (List Key × Addr × Value)} (r : KT H kvs xs) (ht : ∀ b ys, H b = some (.tup ys) → H' b = some (.tup ys)) : KT H' kvs xs :=
  Paired.mapP r fun _ _ z => ⟨z.1, ht _ _ z.2.1, z.2.2⟩

section
variable {P : Program} {w : World} {H : Hp} {h : Heap} {a : Addr}
theorem rd_of {u : HO} (ok : HOk P w H h) (e : Rd H a u) : ObjOk P w H h a u := e.ok ok
theorem dk_rd {kvs : List (Key × V)} (ok : HOk P w H h) (e : Rd H a (.dK kvs)) : kvs.length ≤ sizeLine ∧ (a == sysModules) = false ∧ ∃ vs, KV kvs vs ∧ h.DictOf (mixKind P w) a vs :=
  show ObjOk P w H h a (.dK kvs) from rd_of ok e
theorem dk_of {kvs : List (Key × V)} (ok : HOk P w H h) (e : H a = some (.dK kvs)) : kvs.length ≤ sizeLine ∧ (a == sysModules) = false ∧ ∃ vs, KV kvs vs ∧ h.DictOf (mixKind P w) a vs := dk_rd ok (.inl e)
/-- a tracked tuple of ints and texts is a key -/
theorem key_of {ks : List Key} (ok : HOk P w H h) (e : H a = some (.tup (ks.map kV))) : (tupleKind (mixKind P w)).is h ks a := by
  obtain ⟨_, its, r, o, h1, h2, n, h3⟩ := (show ObjOk P w H h a (.tup (ks.map kV)) from ok a _ e)
  exact ⟨o, its.toArray, n, h1, h2, h3, by simpa using items_are r⟩
theorem dt_rd {kvs : List (List Key × V)} (ok : HOk P w H h) (e : Rd H a (.dT kvs)) : kvs.length ≤ sizeLine ∧ (a == sysModules) = false ∧
    ∃ xs, KT H kvs xs ∧ h.DictOfH (tupleKind (mixKind P w)) a xs := by
  obtain ⟨z, y, xs, r, o, es, ep, h1, h2, h3, h4, h5⟩ := (show ObjOk P w H h a (.dT kvs) from rd_of ok e)
  refine ⟨z, y, xs, r, o, es, ep, h1, h2, h3, h4, fun x hx => ?_, h5⟩
  have all : ∀ {l : List (List Key × V)} {m : List (List Key × Addr × Value)}, KT H l m → ∀ x ∈ m, (tupleKind (mixKind P w)).is h x.1 x.2.1 := by
    intro l m q
    induction q with
    | nil => intro x hx; exact nomatch hx
    | @cons p q ps qs hq t ih =>
      intro x hx
      rcases List.mem_cons.mp hx with e | hx
      · subst e
        exact key_of ok (by rw [← hq.1]; exact hq.2.1)
      · exact ih x hx
  exact all r x hx
theorem dt_of {kvs : List (List Key × V)} (ok : HOk P w H h) (e : H a = some (.dT kvs)) : kvs.length ≤ sizeLine ∧ (a == sysModules) = false ∧
    ∃ xs, KT H kvs xs ∧ h.DictOfH (tupleKind (mixKind P w)) a xs := dt_rd ok (.inl e)
end

/-- what the dict at a holds at the key y -/
def DGet (H : Hp) (a : Addr) (y : V) (r : Option V) : Prop :=
  (∃ kvs k, Rd H a (.dK kvs) ∧ y = kV k ∧ r = valV kvs k) ∨ ∃ kvs k b, Rd H a (.dT kvs) ∧ y = .ref b ∧ H b = some (.tup (k.map kV)) ∧ r = valV kvs k
/-- the heap behind a[y] = v -/
def DPut (H : Hp) (a : Addr) (y v : V) (H' : Hp) : Prop :=
  (∃ kvs k, H a = some (.dK kvs) ∧ y = kV k ∧ kvs.length < sizeLine ∧ H' = upd H a (.dK (putK kvs k v))) ∨
  ∃ kvs k b, H a = some (.dT kvs) ∧ y = .ref b ∧ H b = some (.tup (k.map kV)) ∧ kvs.length < sizeLine ∧ H' = upd H a (.dT (putK kvs k v))
theorem DGet.t {H : Hp} {a b : Addr} {kvs : List (List Key × V)} {k : List Key} (e : H a = some (.dT kvs)) (eb : H b = some (.tup (k.map kV))) : DGet H a (.ref b) (valV kvs k) := .inr ⟨kvs, k, b, .inl e, rfl, eb, rfl⟩
theorem DPut.t {H : Hp} {a b : Addr} {kvs : List (List Key × V)} {k : List Key} {v : V} (e : H a = some (.dT kvs)) (eb : H b = some (.tup (k.map kV))) (hl : kvs.length < sizeLine) :
    DPut H a (.ref b) v (upd H a (.dT (putK kvs k v))) := .inr ⟨kvs, k, b, e, rfl, eb, hl, rfl⟩


section
variable {X : Cx} {pins : List (Addr × Obj)} {σ : St} {H : Hp} {s : Shared} {a : Addr} {y v : V} {u r : Value} {o : Option V} {A : Around} {E : Value → Shared → Prop}

theorem Inv.big (I : Inv X pins σ H s) : sysModules < s.heap.objs.size := by
  have h : mainGlobals < s.heap.objs.size := (I.mod.glob.keeps I.bk).lt
  exact Nat.lt_trans (by decide) h

/-- d[y], there -/
theorem d_getItem {Q : Value → Shared → Prop} (hu : A.units + 1 < cLine) (I : Inv X pins σ H s) (g : DGet H a y (some v)) (ry : RelV y u) (h : ∀ w' s', Inv X pins σ H s' → RelV v w' → Q w' s') :
    wpAny (model X.prog X.w) A (getItem (.ref a) u) Q E s := by
  rcases g with ⟨kvs, k, e, ey, l⟩ | ⟨kvs, k, b, e, ey, eb, l⟩
  · subst ey
    obtain ⟨z, hd, vs, rel, dd⟩ := dk_rd I.hok e
    obtain ⟨w', hw, rw'⟩ := RelO.some_of (v := v) (o := valueAt vs k) (by rw [l]; exact rel.val k)
    exact wpAny_getItem_of (kV_is ry) dd.mapOf hw (h w' _ (I.tok _) rw')
  · subst ey
    cases (show u = Value.ref b from ry)
    obtain ⟨z, hd, xs, rel, dd⟩ := dt_rd I.hok e
    obtain ⟨w', hw, rw'⟩ := RelO.some_of (v := v) (o := (atKey xs k).map (·.2)) (by rw [l]; exact rel.val k)
    obtain ⟨p, hp, hp2⟩ := Option.map_eq_some_iff.mp hw
    refine wpAny_getItem_heap (tupleKind_room_in1 hu) (key_of I.hok eb) dd hp ?_
    rw [hp2]
    exact h w' _ (I.tok _) rw'
/-- a dict's object is replaced -/
theorem d_write {h' : Heap} {t' : Nat} {ob : HO} (I : Inv X pins σ H s) (mu : Mut (H a)) (hs : Heap.SameBut a s.heap h') (he : ∃ q, h'.get? a = some q) (new : ObjOk X.prog X.w (upd H a ob) h' a ob) :
    Inv X pins σ (upd H a ob) { s with heap := h', toks := t' } :=
  I.write (x := a) (e := a) mu (.inl rfl) (fun b q hb z => (hs.2 b hb).trans z) he new
theorem dk_new {P : Program} {w : World} {H' : Hp} {h' : Heap} {kvs : List (Key × V)} {vs : List (Key × Value)} (z : kvs.length ≤ sizeLine) (hd : (a == sysModules) = false) (rel : KV kvs vs) (dd : h'.DictOf (mixKind P w) a vs) :
    ObjOk P w H' h' a (.dK kvs) := ⟨z, hd, vs, rel, dd⟩
/-- d[y] = v -/
theorem d_setItem {H' : Hp} {Q : Unit → Shared → Prop} (hu : A.units + 1 < cLine) (I : Inv X pins σ H s) (g : DPut H a y v H') (ry : RelV y u) (rv : RelV v r) (h : ∀ s', Inv X pins σ H' s' → Q () s') :
    wpAny (model X.prog X.w) A (setItem (.ref a) u r) Q E s := by
  rcases g with ⟨kvs, k, e, ey, l, eH⟩ | ⟨kvs, k, b, e, ey, eb, l, eH⟩
  · subst ey eH
    obtain ⟨z, hd, vs, rel, dd⟩ := dk_of I.hok e
    have hz : vs.length ≤ sizeLine := by rw [← rel.length]; exact z
    have hl : (putK kvs k v).length ≤ sizeLine := by have := length_putK kvs k v; omega
    refine wpAny_setItem_pairs (hsz := hz) (kV_is ry) dd fun h' dd' hs => h _ ?_
    have he : ∃ q, h'.get? a = some q := let ⟨q, _, _, hq, _⟩ := dd'; ⟨q, hq⟩
    exact d_write I (by rw [e]; exact True.intro) hs he (dk_new hl hd (rel.put k rv) dd')
  · subst ey eH
    cases (show u = Value.ref b from ry)
    obtain ⟨z, hd, xs, rel, dd⟩ := dt_of I.hok e
    have hz : xs.length ≤ sizeLine := by rw [← Paired.length rel]; exact z
    have hl : (putK kvs k v).length ≤ sizeLine := by have := length_putK kvs k v; omega
    refine wpAny_setItem_heap (hsz := hz) (tupleKind_room_in1 hu) (key_of I.hok eb) dd fun h' dd' hs => h _ ?_
    obtain ⟨q, es, ep, hq, h2, h3, h4, _, h5⟩ := dd'
    refine d_write I (by rw [e]; exact True.intro) hs ⟨q, hq⟩ ⟨hl, hd, _, (rel.put k eb rv).keeps fun c ys ec => ?_, q, es, ep, hq, h2, h3, h4, h5⟩
    rw [upd_ne (ne_of ec e (fun z => nomatch z))]
    exact ec
end

section
variable {X : Cx} {pins : List (Addr × Obj)} {σ : St} {H : Hp} {s : Shared} {a : Addr} {kvs : List (Key × V)} {k : Key} {u : Value} {A : Around} {E : Value → Shared → Prop}
end


/-! ### readings and rules -/
/-- the element of a subscription, not a slice -/
def NoSl (i : Expr) : Prop := ∀ ov iv, subscripted i false ov iv = operate [ov, iv] (getItem ov iv)
theorem subD_of {prog : Program} {w : World} {A : Around} {E : Value → Shared → Prop} {s : Shared} {env : Env} {value slice : Expr} {pos : Pos} {T id : String} {Q : Value → Shared → Prop}
    (hl : typeLookup (.type T) "__getitem__" = pure (some (.builtin id))) (hs : NoSl slice)
    (h : wpAny (model prog w) A (eval value env) (fun o s₁ => wpAny (model prog w) A (eval slice env) (fun i s₂ => s₂.TypeIs o T ∧ wpAny (model prog w) A (getItem o i) Q E s₂) E s₁) E s) :
    wpAny (model prog w) A (eval (.Subscript value slice pos) env) Q E s := by
  refine Subscript_ (wpAny_mono h (fun o s₁ h₁ => wpAny_mono h₁ (fun i s₂ h₂ => ?_) fun _ _ x => x) fun _ _ x => x)
  obtain ⟨hT, h₂⟩ := h₂
  unfold subscriptTail
  refine wpAny_bind ?_
  rw [getitemInPython_of_ne hT.not_modules]
  refine wpAny_bind (wpAny_specialOf hT hl ?_)
  have fin : wpAny (model prog w) A (subscripted slice false o i) (fun r s₃ => wpAny (model prog w) A (letTemporaryGo value o r >>= fun _ => pure r) Q E s₃) E s₂ := by
    rw [hs o i]
    exact wpAny_operating (wpAny_mono h₂ (fun r s₃ h₃ => wpAny_bind (wpAny_letTemporaryGo (wpAny_pure h₃))) fun _ _ x => x)
  first
    | exact wpAny_pure (wpAny_bind fin)
    | exact wpAny_bind (wpAny_pure (wpAny_bind fin))
    | exact wpAny_bind fin

theorem dict_typeIs {X : Cx} {pins : List (Addr × Obj)} {σ : St} {H : Hp} {s : Shared} {a : Addr} {y : V} {o : Option V} (I : Inv X pins σ H s) (g : DGet H a y o) : s.TypeIs (.ref a) "dict" := by
  rcases g with ⟨kvs, k, e, _, _⟩ | ⟨kvs, k, b, e, _, _, _⟩
  · obtain ⟨_, _, vs, _, dd⟩ := dk_rd I.hok e
    exact dd.typeIs
  · obtain ⟨_, _, xs, _, dd⟩ := dt_rd I.hok e
    exact dd.typeIs
/-- d[y] -/
def tDGet (td ty : TE) : TE := fun σ H Q => td σ H fun x H1 => ty σ H1 fun y H2 => ∃ a v, x = .ref a ∧ DGet H2 a y (some v) ∧ Q v H2
/-- d[y] = v -/
def sDPut (td ty tv : TE) : TS := fun D σ H => tv σ H fun v H1 => td σ H1 fun x H2 => ty σ H2 fun y H3 => ∃ a H4, x = .ref a ∧ DPut H3 a y v H4 ∧ D.nx σ H4
section
variable {X : Cx} {o i e value : Expr} {pos pos' tpos : Pos} {td ty tv : TE}
theorem pe_dget (hu : X.A.units + 1 < cLine) (ho : PE X o td) (hi : PE X i ty) (hs : NoSl i) : PE X (.Subscript o i pos) (tDGet td ty) := by
  intro pins s σ H Q I h
  refine subD_of PySem.F.slot_dict_getitem.lookup hs (thn (ho pins s σ H _ I h) fun u s1 ⟨x, H1, I1, rx, q1⟩ => thn (hi pins s1 σ H1 _ I1 q1) fun iv s2 ⟨y, H2, I2, ry, a, v, ex, g, q2⟩ => ?_)
  subst ex
  obtain rfl : u = Value.ref a := rx
  exact ⟨dict_typeIs I2 g, d_getItem hu I2 g ry fun w' s3 I3 rw' => ⟨v, H2, I3, rw', q2⟩⟩
theorem ps_dput (hu : X.A.units + 1 < cLine) (ho : PE X o td) (hi : PE X i ty) (hv : PE X value tv) (hs : swapsWith value (some (.Subscript o i pos')) pos.line X.env = pure false) :
    PS X (.Assign [.Subscript o i pos'] value pos) (sDPut td ty tv) := by
  intro pins s σ H D I h
  refine wpAny_Assign_Subscript (thn (hv pins s σ H _ I h) fun r s1 ⟨v, H1, I1, rv, q1⟩ => thn (ho pins s1 σ H1 _ I1 q1) fun u s2 ⟨x, H2, I2, rx, q2⟩ => thn (hi pins s2 σ H2 _ I2 q2) fun iv s3 ⟨y, H3, I3, ry, a, H4, ex, g, q3⟩ => ?_) hs
  subst ex
  obtain rfl : u = Value.ref a := rx
  exact d_setItem hu I3 g ry rv fun s4 I4 => ⟨σ, H4, I4, q3⟩
end


/-! ### displays -/
theorem dt_empty {P : Program} {w : World} {H : Hp} (h : Heap) (hb : sysModules < h.objs.size) : ObjOk P w H (h.push { cls := .type "dict", data := .dict #[] }) h.objs.size (.dT []) :=
  ⟨Nat.zero_le _, beq_eq_false_iff_ne.mpr (Ne.symm (Nat.ne_of_lt hb)), [], .nil, _, #[], 0, Heap.get?_push_size _ rfl, ⟨rfl, rfl, rfl⟩, rfl, rfl, List.nodup_nil⟩
def tDNewT : TE := fun _ H Q => ∀ p, H p = none → Q (.ref p) (upd H p (.dT []))
section
variable {X : Cx} {pos : Pos}
theorem pe_dnewT : PE X (.Dict [] [] pos) tDNewT := fun pins s σ H Q I h =>
  wpAny_Dict_empty ⟨.ref s.heap.objs.size, _, I.laid (a := s.heap.objs.size) (o := .dT []) (t' := s.toks) (fun _ _ q => Heap.get?_push_of_some _ q) (Nat.le_refl _) (dt_empty s.heap I.big), rfl, h _ (I.hok.fresh (Nat.le_refl _))⟩
end

/-! ### methods -/
section
variable {X : Cx} {pins : List (Addr × Obj)} {σ : St} {H : Hp} {s : Shared} {a : Addr} {y d : V} {u r : Value} {o : Option V} {A : Around} {E : Value → Shared → Prop}
end

section
variable {X : Cx} {o e f : Expr} {apos cpos : Pos} {td ty tx : TE}
end

/-! ### dict(d): a copy -/
section
variable {X : Cx} {pins : List (Addr × Obj)} {σ : St} {H : Hp} {s : Shared} {a : Addr} {kvs : List (Key × V)} {A : Around} {E : Value → Shared → Prop}
end


section
variable {X : Cx} {pins : List (Addr × Obj)} {σ : St} {H : Hp} {s : Shared} {a : Addr} {y : V} {u : Value} {A : Around} {E : Value → Shared → Prop}
end
end L2

namespace Att
open PySem PySem.W PySem.Calls PyProof.Rows

/-! ### the script -/
theorem ints_of_wellAll {P : Params} {h : Heap} : ∀ (ns : List Int) (vs : List Value), WellAll P h vs (ns.map WData.int) → IntsAre vs ns := by
  intro ns
  induction ns with
  | nil =>
    intro vs w
    rw [List.map_nil] at w
    cases w
    exact .nil
  | cons n ns ih =>
    intro vs w
    rw [List.map_cons] at w
    cases w with
    | cons a b =>
      cases a
      exact .cons _ _ (ih _ b)

theorem script_of {l : OpenLaw} {n : Nat} (hn : l.most = some n) {P : Params} {h : Heap} {args : List WData} {vals : List Value}
    (hpre : l.row.toRowW.claim.pre args = true) (hwl : WellAll P h vals args) :
    ∃ a vs ns, vals = [Value.ref a] ∧ args = [WData.list (ns.map WData.int)] ∧ h.get? a = some { cls := .type "list", data := .seq vs.toArray } ∧ IntsAre vs ns ∧ ns.length ≤ n := by
  have hsh : WShape.hasAll [] args [.list .int] = true := (pre_splitW hpre).1
  have hc : l.pre.holds [] { args := args } = true := (pre_splitW hpre).2
  obtain ⟨d, r, rfl, h1, h2⟩ := hasAllW_cons hsh
  obtain rfl := hasAllW_nil h2
  obtain ⟨xs, rfl, h3⟩ := hasW_list h1
  obtain ⟨ns, rfl⟩ := items_int h3
  have hlen : ns.length ≤ n := by
    unfold OpenLaw.pre at hc
    have h4 : (WTm.not (.lt (.lit (.int (n : Int))) (.len (.arg 0)))).holds [] { args := [.list (ns.map .int)] } = true := by
      have h4 := (holds_andW hc).1
      rw [hn] at h4
      exact h4
    have h5 := condW_of h4 (w_not (w_lt w_lit (w_len_list (w_arg rfl))))
    rw [List.length_map] at h5
    refine Nat.le_of_not_lt fun q => ?_
    have q' : (n : Int) < ((ns.length : Nat) : Int) := by omega
    first
      | (rw [decide_eq_true q'] at h5; exact absurd h5 (by decide))
      | (simp at h5; omega)
  cases hwl with
  | cons w1 w2 =>
    cases w2
    cases w1 with
    | list ho hall => exact ⟨_, _, ns, rfl, rfl, ho, ints_of_wellAll ns _ hall, hlen⟩

theorem post_true (l : OpenLaw) (args : List WData) : l.row.toRowW.claim.post args (.bool true) args = true :=
  postW_of (r := l.row.toRowW) (X := (true == true))
    (show WShape.has [] (.bool true) .bool = true by first | rfl | decide | simp [WShape.has, WShape.arms, WShape.armsAll])
    (show (WTm.eq .res (.lit (.bool true))).value [] { args := args, res := some (.bool true), after := args } = some (.bool (true == true)) from w_eq_bool (w_res rfl) w_lit) rfl

/-! ### the attachment: holds_open's last premise (the goal 'hc' behind k_head) from a wpAny of the law's body -/
/-- the same from a codeAny of the CALL (for a layer whose function contracts speak of calls) -/
theorem attach_call {l : OpenLaw} {n : Nat} {q : Program} {loose : List Str} {XP : (Str → Option Value) → Heap → Prop} {YP : World → Heap → Prop} {d : DefRec}
    (hn : l.most = some n) (hdf : d.params.defaults = [])
    (call : ∀ (w : World) (s₀ s₁ : Shared) (mg mb : Str → Option Value) (fa : Addr) (o : Obj) (pm cd doc : Value) (a : Addr) (vs : List Value) (ns : List Int),
      Ground q loose [] XP w s₀ mg mb s₁.heap → YP w s₁.heap →
      s₁.heap.get? fa = some o → o.data = .func (docDef d.name d.params d.body d.scope pm cd doc) → s₁.heap.CodeRec cd d.name → mg d.name = some (.ref fa) →
      s₁.heap.get? a = some { cls := .type "list", data := .seq vs.toArray } → IntsAre vs ns → ns.length ≤ n → s₁.gens = #[] →
      codeAny (model l.prog w) callerA (.call (.ref fa) ⟨[.ref a], []⟩) (fun r s' => r = .ok (.ret (.bool true)) ∧ OldK s₁.heap s'.heap ∧ s'.os = s₁.os ∧ AllBare s'.gens) s₁) :
    WalkO q loose XP YP l.row.toRowW d [] (fun f vs => PySem.call f vs) := by
  intro w s₀ s₁ mg mb G Y fa o pm cd doc dV kV ho hd hcd hD hmg hg args vals as hpre hlay hrd hwl hlo
  obtain rfl : dV = .none := Dflts.none hD hdf
  obtain rfl : kV = .none := Dflts.noKw hD
  obtain ⟨a, vs, ns, rfl, rfl, hobj, hints, hlen⟩ := script_of hn hpre hwl
  refine enter_call (codeAny_mono (call w s₀ s₁ mg mb fa o pm cd doc a vs ns G Y ho (fd_plain hd) hcd hmg hobj hints hlen hg) fun r s' hq => ?_)
  obtain ⟨rfl, h2, h3, h4⟩ := hq
  exact ⟨.inl ⟨.bool true, .bool true, [], rfl, fun _ => rfl, .bool true, post_true l _, fun _ => ⟨List.Pairwise.nil, fun _ hm => (nomatch hm)⟩⟩, h2, h3, h4⟩

/-! ### rules over ANY heap (no ledger) from facts about the written part K: the library's own take a ledger (News) for what they write -/
section
variable {prog : Program} {w : World} {A : Around} {E : Value → Shared → Prop} {s : Shared} {K : Frag}

/-! the whole heap as the ledger: makes every rule that writes through a ledger a rule over any heap -/
end
end Att

namespace L2
open PySem PySem.Spec PyProof.Rows

theorem vals_ints : ∀ {vs : List Value} {ns : List Int}, IntsAre vs ns → Vals (ns.map V.int) vs
  | _, _, .nil => .nil
  | _, _, .cons n t h => .cons ⟨t, rfl⟩ (vals_ints h)

/-- nothing is tracked but the script, known to the object (or it is an object of the module) -/
def Only (H : Hp) : Prop := ∀ b, H b = none ∨ ∃ o xs, H b = some (.frz o (.lst xs))

/-- THE HEAD: the law's promise, at the heap behind the top. F, the promise of the law's def, may use that base is part of the heap (so K.In base, base.Ns mainGlobals mg stand in Mod) -/
theorem law_call {P : Program} {w : World} {K : PySem.W.Frag} {mg mb : Str → Option Value} {CX : CXT} {k : Nat} {fa a : Addr} {fd : FuncData} {x : Str} {sp : Sp} {s₁ : Shared} {vs : List Value} {ns : List Int}
    (KX : K.In s₁.heap) (hns : s₁.heap.Ns mainGlobals mg) (hb : s₁.heap.Ns builtinsNs mb) (hbb : ∀ x : Str, x ≠ "__name__" → mb x = bootBuiltins x) (hlim : s₁.heap.NoLimit) (hg : s₁.gens = #[])
    (ha : s₁.heap.get? a = some { cls := .type "list", data := .seq vs.toArray }) (hi : IntsAre vs ns) (hl : ns.length ≤ sizeLine) (hr : Room k callerA)
    (F : ∀ base : Heap, K.In base → base.Ns mainGlobals mg → FnOk P w K mg base CX k fa fd [x] sp) (hbind : ∀ (s : Shared) (u : Value), BindsTo s fd ⟨[u], []⟩ [(x, u)])
    (hsp : ∀ H : Hp, Only H → SqL K H a (ns.map V.int) → sp [.ref a] H (fun v _ => v = .bl true) fun _ _ _ => False)
    (hCX : ∀ H e s', CX [] H s₁ (fun _ _ _ => False) e s' → False) :
    codeAny (model P w) callerA (.call (.ref fa) ⟨[.ref a], []⟩) (fun r s' => r = .ok (.ret (.bool true)) ∧ OldK s₁.heap s'.heap ∧ s'.os = s₁.os ∧ AllBare s'.gens) s₁ := by
  have rv := vals_ints hi
  have lenV := hi.length
  -- from an abstract heap in which nothing but the script may be tracked
  have core : ∀ H : Hp, Only H → SqL K H a (ns.map V.int) → HOk P w H s₁.heap → (∀ b, H b ≠ none → b = a) → (H a ≠ none → K.lookup a = none) →
      codeAny (model P w) callerA (.call (.ref fa) ⟨[.ref a], []⟩) (fun r s' => r = .ok (.ret (.bool true)) ∧ OldK s₁.heap s'.heap ∧ s'.os = s₁.os ∧ AllBare s'.gens) s₁ := by
    intro H hO hS hok hA hK
    have base_of : ∀ {b : Addr} {o : Obj}, s₁.heap.get? b = some o → H b = none → (hidT s₁.heap H).get? b = some o := fun e n => hidT_get e n
    have noA : ∀ {b : Addr} {o : Obj} {es : Array DictEntry} {ep : Nat}, s₁.heap.get? b = some o → o.data = .dict es ep → H b = none := fun {b o es ep} e d => by
      cases q : H b with
      | none => rfl
      | some u =>
        have e' : b = a := hA b (by rw [q]; simp)
        subst e'
        rw [ha] at e; cases e
        have d' : Data.seq vs.toArray _ = Data.dict es ep := d
        cases d'
    have nsK : ∀ {b : Addr} {m : Str → Option Value}, s₁.heap.Ns b m → (hidT s₁.heap H).Ns b m := fun {b m} ⟨o, es, ep, e, d, r⟩ => ⟨o, es, ep, base_of e (noA e d), d, r⟩
    have hKb : K.In (hidT s₁.heap H) := fun b o e => base_of (KX b o e) (by
      cases q : H b with
      | none => rfl
      | some u =>
        have e' : b = a := hA b (by rw [q]; simp)
        subst e'
        rw [hK (by rw [q]; simp)] at e; cases e)
    have hM : Mod K mg (hidT s₁.heap H) := ⟨hKb, nsK hns, ⟨mb, nsK hb, hbb⟩, let ⟨mc, h1, h2⟩ := hlim; ⟨mc, nsK h1, h2⟩⟩
    have e0 : Env0 P w K mg (hidT s₁.heap H) callerA [] s₁ H := ⟨rfl, hM, fun b o e => of_hidT e, Nat.le_of_eq (hidT_size _ _), trivial, fun b hb => absurd (show b ∈ ([] : List Addr) from hb) (by simp), hok, .of_eq hg⟩
    refine codeAny_mono ((F _ hKb (nsK hns)).run callerA [] s₁ H ⟨[.ref a], []⟩ [.ref a] [.ref a] _ _ hr e0 (hbind s₁ (.ref a)) (.cons rfl .nil) (hsp H hO hS)) fun r s' h => ?_
    cases r with
    | error e => exact (hCX H e s' h).elim
    | ok fl =>
      cases fl with
      | next => exact False.elim h
      | brk => exact False.elim h
      | cont => exact False.elim h
      | ret u =>
        obtain ⟨v, H', os, bare, un, hok', r', q⟩ := h
        have q' : v = .bl true := q
        subst q'
        obtain rfl : u = Value.bool true := r'
        refine ⟨rfl, OldK.of_keep fun b o e => ?_, os, bare⟩
        cases q : H b with
        | none => exact un.keep b o e q (by intro z; exact absurd (show b ∈ ([] : List Addr) from z) (by simp)) (by simp)
        | some u =>
          rcases hO b with z | ⟨ob, xs, z⟩
          · rw [q] at z; cases z
          · have z2 := un.frzs b ob _ z
            obtain ⟨e1, _⟩ := hok b _ z
            obtain ⟨e2, _⟩ := hok' b _ z2
            rw [e] at e1; cases e1
            exact e2
  cases hk : K.lookup a with
  | some o =>
    -- the script is one of the module's own objects
    have e := KX a o hk
    rw [ha] at e
    cases e
    refine core (fun _ => none) (fun _ => .inl rfl) (.inr ⟨_, vs.toArray, _, hk, rfl, rfl, rfl, by rw [List.size_toArray, lenV]; exact hl, by simpa using rv⟩) (fun b u z => by have z' : (none : Option HO) = some u := z; cases z') (fun b z => absurd rfl z) fun z => absurd rfl z
  | none =>
    refine core (fun b => if b = a then some (.frz { cls := .type "list", data := .seq vs.toArray } (.lst (ns.map V.int))) else none) (fun b => ?_) (.inl (.inr ⟨{ cls := .type "list", data := .seq vs.toArray }, if_pos rfl⟩)) (fun b u z => ?_) (fun b z => ?_) fun _ => hk
    · by_cases hb : b = a
      · exact .inr ⟨_, _, if_pos hb⟩
      · exact .inl (if_neg hb)
    · by_cases hb : b = a
      · have z' := (if_pos hb).symm.trans z
        cases z'
        subst hb
        exact ⟨ha, by rw [List.length_map]; exact hl, vs, _, rv, ha⟩
      · have z' := (if_neg hb).symm.trans z
        cases z'
    · by_cases hb : b = a
      · exact hb
      · exact absurd (if_neg hb) z
end L2

namespace L2
open PySem PySem.Spec PyProof.Rows

/-- the goal that k_head leaves (case hc), from the law's promise. F gives the function object fd (K's own) once, then the promise over every base -/
theorem walk_of {l : PySem.W.OpenLaw} {n k : Nat} {q : Program} {loose : List Str} {XP : (Str → Option Value) → Heap → Prop} {YP : World → Heap → Prop} {d : DefRec} {K : Params → PySem.W.Frag} {CX : World → CXT} {sp : World → Sp} {x : Str}
    (hn : l.most = some n) (hn2 : n ≤ sizeLine) (hdf : d.params.defaults = []) (hr : Room k callerA)
    (hY : ∀ (w : World) (h : Heap), YP w h → (K w.params).In h)
    (F : ∀ (w : World) (mg : Str → Option Value) (fa : Addr) (h : Heap), (K w.params).In h → h.Ns mainGlobals mg → mg d.name = some (.ref fa) →
      ∃ fd : FuncData, (∀ (s : Shared) (u : Value), BindsTo s fd ⟨[u], []⟩ [(x, u)]) ∧
        ∀ base : Heap, (K w.params).In base → base.Ns mainGlobals mg → FnOk l.prog w (K w.params) mg base (CX w) k fa fd [x] (sp w))
    (hsp : ∀ (w : World) (H : Hp) (a : Addr) (ns : List Int), ns.length ≤ n → Only H → SqL (K w.params) H a (ns.map V.int) → sp w [.ref a] H (fun v _ => v = .bl true) fun _ _ _ => False)
    (hCX : ∀ (w : World) (H : Hp) (s : Shared) (e : Value) (s' : Shared), CX w [] H s (fun _ _ _ => False) e s' → False) :
    PySem.W.WalkO q loose XP YP l.row.toRowW d [] (fun f vs => PySem.call f vs) := by
  refine Att.attach_call hn hdf fun w s₀ s₁ mg mb fa o pm cd doc a vs ns G Y ho hd hcd hmg hobj hints hlen hg => ?_
  have KX := hY w _ Y
  obtain ⟨fd, hb, hF⟩ := F w mg fa _ KX G.T.g hmg
  exact law_call KX G.T.g G.T.b G.T.builtins G.T.nolimit hg hobj hints (Nat.le_trans hlen hn2) hr hF hb (fun H hO hS => hsp w H a ns hlen hO hS) fun H e s' => hCX w H s₁ e s'
end L2

/- THE LAST THEOREM (shape; LID, My.* are yours):
   My.Adr: a structure of the addresses that your layer names (classes, functions); My.Txt K t: a structure (Prop) of the equations over K;
   My.txt_mk : {K} {implicit addresses ..} (e1 : nsIn K mainGlobals "law" = some (some (.ref f))) (e2 : K.lookup f = some ⟨oc, od, .func (fnOf "law" "law" params body scope dV kV doc pm an cdv ct), sl⟩) (e3 : codeIn K cdv "law" = true) .. : ∃ t, My.Txt K t

set_option maxRecDepth 100000 in
set_option maxHeartbeats 0 in
theorem PySem.Challenge.cw_LID_holds : PySem.Challenge.rw_LID.Holds := by
  w_on; o_law; k_head; (case hw => w_witness2)
  k_fill
  refine L2.walk_of (l := PySem.Challenge.rw_LID) (n := 63) (k := 40) (x := "script") (CX := fun w => ..) (sp := fun _ => My.sp_law) rfl (by decide) rfl ⟨rfl, by decide, by decide⟩ (fun w h Y => PySem.W.kIn_of Y) ?F ?S ?C
  case F =>
    intro w mg fa h KX G hmg
    have T : ∃ t, My.Txt (L2.KOf KX) t := by
      dsimp only [L2.KOf]                          -- K must stand as «<heap const> w.params» for k_is
      refine' My.txt_mk ?e1 ?e2 ?e3 ..
      (case e1 => PySem.W.k_is)                    -- in the order: a name -> its address -> its object -> its parts
      (case e2 => PySem.W.k_is)
      ..
    obtain ⟨t, T⟩ := T
    have e0 := hmg.symm.trans (PySem.W.mg_of KX G T.law)
    cases e0                                       -- fa is the law's own address
    exact ⟨_, fun s u => .of_eq rfl, fun base kb nb => My.law_fn T kb nb⟩     -- if «.of_eq rfl» comes too early: refine' ⟨_, ?b, fun base kb nb => My.law_fn T kb nb⟩; exact fun s u => .of_eq rfl
  case S => exact fun w H a ns hl hO hS => ..
  case C => exact ..
(the tactic k_is has no namespace: write k_is) -/

/-! SHORT WORDS over the layer: a def of the text, its body, what a loop and a test want. -/
namespace L2
open PySem PySem.Spec PyProof.Rows

/-! ### the text by places -/
def defArgs (s : Stmt) : Arguments := match s with
  | .FunctionDef _ a _ _ _ _ _ _ _ _ => a
  | _ => { posonlyargs := [], args := [], vararg := none, kwonlyargs := [], kw_defaults := [], kwarg := none, defaults := [] }
def defBody (s : Stmt) : List Stmt := match s with
  | .FunctionDef _ _ b _ _ _ _ _ _ _ => b
  | _ => []
def defScope (s : Stmt) : Scope := match s with
  | .FunctionDef _ _ _ _ _ _ sc _ _ _ => sc
  | _ => { kind := .function, names := [], isGenerator := false, isCoroutine := false }

/-! ### no exception leaves a def -/
abbrev CX0 : CXT := fun _ _ _ _ _ _ => False
abbrev E0 : XK := fun _ _ _ => False
theorem pass0 {X : Cx} : Passes CX0 X E0 := fun _ _ _ _ _ _ _ h => h.elim

/-! ### a def (or method) of the text as it stands behind the top -/
structure Fun (K : PySem.W.Frag) (x qual : Str) (st : Stmt) (f : Addr) (fd : FuncData) : Prop where
  ex : ∃ (oc : Value) (od : Option Addr) (kV doc pm : Value) (an : Option Addr) (cdv ct : Value) (osl : Array (Option Value)),
    fd = PySem.W.fnOf x qual (defArgs st) (defBody st) (defScope st) .none kV doc pm an cdv ct ∧ K.lookup f = some ⟨oc, od, .func fd, osl⟩ ∧ PySem.W.codeIn K cdv qual = true
  kp : PySem.W.keepIn K (.ref f) = true
section
variable {P : Program} {w : World} {K : PySem.W.Frag} {mg : Str → Option Value} {base : Heap}
/-- THE RULE for a def: its body as a term of rules, and the reading of that term -/
theorem Fun.ok {x qual : Str} {st : Stmt} {f : Addr} {fd : FuncData} {N ps : List Str} {k : Nat} {sp : Sp} (F : Fun K x qual st f fd) (S : FnScope N ps (defScope st)) (len : ∀ vs H Q E, sp vs H Q E → vs.length = ps.length)
    (hbody : ∀ (cdv : Value) (A : Around) (outer : List Env) (s : Shared) (H : Hp) (vs : List V) (Q : VK) (E : XK), Room k (A.deeper (envOfC qual (defScope st) s.heap.objs.size f cdv)) → sp vs H Q E →
      ∃ t, PSs (cxOf CX0 P w K mg base N qual (defScope st) f cdv A outer s H E).nox (defBody st) t ∧ t { nx := fun _ H' => Q .non H', rt := Q } (start N vs) H) : FnOk P w K mg base CX0 (k + 1) f fd ps sp := by
  obtain ⟨oc, od, kV, doc, pm, an, cdv, ct, osl, rfl, lk, hcd⟩ := F.ex
  refine fn_of lk hcd S len fun A outer s H vs Q E hr hsp => ?_
  obtain ⟨t, h, q⟩ := hbody cdv A outer s H vs Q E hr hsp
  exact ⟨t, h.nox, q⟩
/-- how its arguments bind (no defaults): h is «fun _ _ _ _ _ _ us hl => match us, hl with | [_, _], _ => rfl», one _ a parameter -/
theorem Fun.binds {x qual : Str} {st : Stmt} {f : Addr} {fd : FuncData} {ps : List Str} (F : Fun K x qual st f fd)
    (h : ∀ (kV doc pm : Value) (an : Option Addr) (cdv ct : Value) (us : List Value), us.length = ps.length → bindArgs (PySem.W.fnOf x qual (defArgs st) (defBody st) (defScope st) .none kV doc pm an cdv ct) ⟨us, []⟩ = pure (ps.zip us)) : Binds K fd ps [] := by
  obtain ⟨oc, od, kV, doc, pm, an, cdv, ct, osl, rfl, lk, hcd⟩ := F.ex
  exact .all (h kV doc pm an cdv ct)
theorem fun_mk {x qual : Str} {st : Stmt} {f : Addr} {oc : Value} {od an : Option Addr} {osl : Array (Option Value)} {kV doc pm cdv ct : Value} (l : K.lookup f = some ⟨oc, od, .func (PySem.W.fnOf x qual (defArgs st) (defBody st) (defScope st) .none kV doc pm an cdv ct), osl⟩)
    (c : PySem.W.codeIn K cdv qual = true) (k : PySem.W.keepIn K (.ref f) = true) : Fun K x qual st f (PySem.W.fnOf x qual (defArgs st) (defBody st) (defScope st) .none kV doc pm an cdv ct) := ⟨⟨oc, od, kV, doc, pm, an, cdv, ct, osl, rfl, l, c⟩, k⟩
end
theorem hu_of {A : Around} {k : Nat} (hr : Room k A) : A.units + 1 < cLine := Nat.lt_of_le_of_lt (Nat.add_le_add_left (by decide : 1 ≤ 64) _) hr.units
theorem small1000 {n : Nat} (h : n ≤ 1000) : n < sizeLine := Nat.lt_of_le_of_lt h (by decide)

/-! ### expressions in short: the name that stands in the i-th slot -/
section
variable {X : Cx}
theorem pv (i : Nat) {x : Str} {pos : Pos} (hN : X.N[i]? = some x := by rfl) (hv : Vis X.env.scope x := by first | exact Or.inl rfl | exact Or.inr (Or.inl rfl) | exact Or.inr (Or.inr rfl)) (hd : (x == ("__debug__" : Str)) = false := by decide)
    (hcd : (x == ("__classdict__" : Str)) = false := by decide) : PE X (.Name x pos) (tVar i) := pe_var hN hv hd hcd
end

/-! ### tests -/
theorem iteF {A B : Prop} (h : B) : if false = true then A else B := by
  rw [if_neg Bool.false_ne_true]
  exact h
theorem iteT {A B : Prop} (h : A) : if true = true then A else B := by
  rw [if_pos rfl]
  exact h
theorem ite2 {c A B : Prop} [Decidable c] (h1 : c → A) (h2 : ¬ c → B) : if c then A else B := by
  by_cases h : c
  · rw [if_pos h]
    exact h1 h
  · rw [if_neg h]
    exact h2 h
/-! ### heaps -/
/-- all that was tracked is as it was -/
def Same (H H' : Hp) : Prop := ∀ b o, H b = some o → H' b = some o
theorem Same.refl (H : Hp) : Same H H := fun _ _ h => h
theorem Same.trans {H H1 H2 : Hp} (a : Same H H1) (b : Same H1 H2) : Same H H2 := fun c o h => b c o (a c o h)
theorem Same.free {H H' : Hp} (e : Same H H') {l : Addr} (h : H' l = Option.none) : H l = Option.none := by
  cases q : H l with
  | none => rfl
  | some o =>
    rw [e l o q] at h
    cases h
theorem Same.seq {K : PySem.W.Frag} {H H' : Hp} {a : Addr} {xs : List V} (e : Same H H') (h : SqL K H a xs) : SqL K H' a xs := by
  rcases h with (h | ⟨o, h⟩) | h
  · exact .inl (.inl (e _ _ h))
  · exact .inl (.inr ⟨o, e _ _ h⟩)
  · exact .inr h

end L2

namespace L2
open PySem PySem.Spec PyProof.Rows
section
variable {X : Cx}
end
/-! ### a dict's pairs: keys that differ -/
section
variable {κ : Type} [DecidableEq κ]
end
end L2

/-! Comprehensions over the hand layer: a block's context, its loop, its value, its store at a name. -/
namespace L2
open PySem PySem.Spec PyProof.Rows

/-! ### the cells that a block takes over -/
def clFor (cells : List (Str × Addr)) : List (Str × NameKind) → List (Str × Addr) → List (Str × Addr)
  | [], acc => acc
  | (n, k) :: r, acc => clFor cells r (if k == NameKind.free then (n, (cells.lookup n).getD 0) :: acc else acc)

theorem clFor_sub {cells : List (Str × Addr)} : ∀ (names : List (Str × NameKind)) (acc : List (Str × Addr)), (∀ y ∈ names, y.2 = .free → ∃ c, cells.lookup y.1 = some c) →
    (∀ y c, acc.lookup y = some c → cells.lookup y = some c) → ∀ y c, (clFor cells names acc).lookup y = some c → cells.lookup y = some c
  | [], _, _, h, y, c, e => h y c e
  | (n, k) :: r, acc, hn, h, y, c, e => by
    refine clFor_sub r _ (fun z hz => hn z (List.mem_cons_of_mem _ hz)) (fun z d q => ?_) y c e
    by_cases hk : k = .free
    · obtain ⟨a, ha⟩ := hn (n, k) List.mem_cons_self hk
      subst hk
      have q' : List.lookup z ((n, (cells.lookup n).getD 0) :: acc) = some d := q
      rw [List.lookup_cons] at q'
      cases hz : z == n with
      | true =>
        rw [hz] at q'
        have ez : z = n := eq_of_beq hz
        have ha' : cells.lookup n = some a := ha
        rw [ha'] at q'
        subst ez
        rw [ha']
        exact q'
      | false =>
        rw [hz] at q'
        exact h z d q'
    · have hb : (k == NameKind.free) = false := beq_eq_false_iff_ne.mpr hk
      rw [hb] at q
      exact h z d q

theorem clFor_acc {cells : List (Str × Addr)} : ∀ (names : List (Str × NameKind)) (acc : List (Str × Addr)) (y : Str), (∃ c, acc.lookup y = some c) → ∃ c, (clFor cells names acc).lookup y = some c
  | [], _, _, h => h
  | (n, k) :: r, acc, y, h => by
    refine clFor_acc r _ y ?_
    obtain ⟨c, hc⟩ := h
    by_cases hk : (k == NameKind.free) = true
    · rw [if_pos hk, List.lookup_cons]
      cases y == n with
      | true => exact ⟨_, rfl⟩
      | false => exact ⟨c, hc⟩
    · rw [if_neg hk]
      exact ⟨c, hc⟩

theorem clFor_has {cells : List (Str × Addr)} : ∀ (names : List (Str × NameKind)) (acc : List (Str × Addr)) (y : Str), names.lookup y = some .free → ∃ c, (clFor cells names acc).lookup y = some c
  | [], _, _, h => by simp at h
  | (n, k) :: r, acc, y, h => by
    rw [List.lookup_cons] at h
    cases hy : y == n with
    | true =>
      rw [hy] at h
      have hk : k = .free := Option.some.inj h
      subst hk
      refine clFor_acc r _ y ⟨(cells.lookup n).getD 0, ?_⟩
      show List.lookup y ((n, (cells.lookup n).getD 0) :: acc) = _
      rw [List.lookup_cons, hy]
    | false =>
      rw [hy] at h
      exact clFor_has r _ y h

theorem closure_fold {env : Env} : ∀ (names : List (Str × NameKind)) (acc : List (Str × Addr)), (∀ y ∈ names, y.2 = .free → ∃ c, env.cells.lookup y.1 = some c) →
    (forIn names acc fun (x : Str × NameKind) (cs : List (Str × Addr)) => (if (x.2 == NameKind.free) = true then do let c ← cellOf env x.1; pure (ForInStep.yield ((x.1, c) :: cs)) else pure (ForInStep.yield cs) : Sem (ForInStep (List (Str × Addr))))) = (pure (clFor env.cells names acc) : Sem _)
  | [], _, _ => rfl
  | (n, k) :: r, acc, h => by
    rw [List.forIn_cons]
    have ih := fun acc' => closure_fold r acc' fun z hz => h z (List.mem_cons_of_mem _ hz)
    by_cases hk : k = .free
    · subst hk
      obtain ⟨c, hc⟩ := h (n, .free) List.mem_cons_self rfl
      have hc' : env.cells.lookup n = some c := hc
      have e1 : cellOf env n = (pure c : Sem Addr) := by unfold cellOf; rw [hc']
      have e2 : clFor env.cells ((n, .free) :: r) acc = clFor env.cells r ((n, c) :: acc) := by
        show clFor env.cells r ((n, (env.cells.lookup n).getD 0) :: acc) = _
        rw [hc']
        rfl
      rw [e2, ← ih]
      show ((cellOf env n >>= fun c => pure (ForInStep.yield ((n, c) :: acc))) >>= _) = _
      rw [e1]
      rfl
    · have hb : (k == NameKind.free) = false := beq_eq_false_iff_ne.mpr hk
      have e2 : clFor env.cells ((n, k) :: r) acc = clFor env.cells r acc := by
        show clFor env.cells r (if (k == NameKind.free) = true then _ else acc) = _
        rw [hb]
        rfl
      rw [e2, ← ih]
      show ((if (k == NameKind.free) = true then _ else pure (ForInStep.yield acc)) >>= _) = _
      rw [hb]
      rfl

theorem closureFor_eq {scope : Scope} {env : Env} (h : ∀ y ∈ scope.names, y.2 = .free → ∃ c, env.cells.lookup y.1 = some c) : closureFor scope env = pure (clFor env.cells scope.names []) := by
  have e := closure_fold scope.names [] h
  unfold closureFor
  show (forIn scope.names [] _ >>= fun cs => pure cs) = _
  rw [show ∀ m : Sem (List (Str × Addr)), (m >>= fun cs => pure cs) = m from fun m => bind_pure m]
  exact e

/-! ### kinds of names in a block -/
theorem relabel_free {env : Env} : ∀ {names : List (Str × NameKind)} {y : Str}, names.lookup y = some .free →
    (names.map fun (n, k) => if (k == NameKind.free && env.scope.kind == .function && env.kindOf n == some .cell) then (n, NameKind.cell) else (n, k)).lookup y = some .cell ∨
    (names.map fun (n, k) => if (k == NameKind.free && env.scope.kind == .function && env.kindOf n == some .cell) then (n, NameKind.cell) else (n, k)).lookup y = some .free
  | [], _, h => by simp at h
  | (n, k) :: r, y, h => by
    rw [List.map_cons]
    rw [List.lookup_cons] at h
    cases hy : y == n with
    | true =>
      rw [hy] at h
      have hk : k = .free := Option.some.inj h
      subst hk
      by_cases hc : (NameKind.free == NameKind.free && env.scope.kind == .function && env.kindOf n == some .cell) = true
      · left
        show List.lookup y ((if _ then (n, NameKind.cell) else (n, NameKind.free)) :: _) = _
        rw [if_pos hc, List.lookup_cons, hy]
      · right
        show List.lookup y ((if _ then (n, NameKind.cell) else (n, NameKind.free)) :: _) = _
        rw [if_neg hc, List.lookup_cons, hy]
    | false =>
      rw [hy] at h
      have ih := relabel_free (env := env) h
      by_cases hc : (k == NameKind.free && env.scope.kind == .function && env.kindOf n == some .cell) = true
      · show List.lookup y ((if _ then (n, NameKind.cell) else (n, k)) :: _) = _ ∨ List.lookup y ((if _ then (n, NameKind.cell) else (n, k)) :: _) = _
        rw [if_pos hc, List.lookup_cons, hy]
        exact ih
      · show List.lookup y ((if _ then (n, NameKind.cell) else (n, k)) :: _) = _ ∨ List.lookup y ((if _ then (n, NameKind.cell) else (n, k)) :: _) = _
        rw [if_neg hc, List.lookup_cons, hy]
        exact ih

theorem relabel_only {env : Env} : ∀ {names : List (Str × NameKind)} {y : Str}, (∀ z ∈ names, z.2 ≠ .cell) →
    ((names.map fun (n, k) => if (k == NameKind.free && env.scope.kind == .function && env.kindOf n == some .cell) then (n, NameKind.cell) else (n, k)).lookup y = some .cell ∨
    (names.map fun (n, k) => if (k == NameKind.free && env.scope.kind == .function && env.kindOf n == some .cell) then (n, NameKind.cell) else (n, k)).lookup y = some .free) → names.lookup y = some .free
  | [], _, _, h => by simp at h
  | (n, k) :: r, y, hn, h => by
    rw [List.lookup_cons]
    have hr : ∀ z ∈ r, z.2 ≠ .cell := fun z hz => hn z (List.mem_cons_of_mem _ hz)
    have hk0 : k ≠ .cell := hn (n, k) List.mem_cons_self
    cases hy : y == n with
    | true =>
      by_cases hc : (k == NameKind.free && env.scope.kind == .function && env.kindOf n == some .cell) = true
      · have hk : k = .free := by
          rw [Bool.and_eq_true, Bool.and_eq_true] at hc
          exact eq_of_beq hc.1.1
        rw [hk]
      · have h' : List.lookup y ((if (k == NameKind.free && env.scope.kind == .function && env.kindOf n == some .cell) = true then (n, NameKind.cell) else (n, k)) :: r.map _) = some .cell ∨
            List.lookup y ((if (k == NameKind.free && env.scope.kind == .function && env.kindOf n == some .cell) = true then (n, NameKind.cell) else (n, k)) :: r.map _) = some .free := h
        rw [if_neg hc, List.lookup_cons, hy] at h'
        rcases h' with h' | h'
        · exact absurd (Option.some.inj h') hk0
        · exact h'
    | false =>
      refine relabel_only (env := env) hr ?_
      have h' : List.lookup y ((if (k == NameKind.free && env.scope.kind == .function && env.kindOf n == some .cell) = true then (n, NameKind.cell) else (n, k)) :: r.map _) = some .cell ∨
          List.lookup y ((if (k == NameKind.free && env.scope.kind == .function && env.kindOf n == some .cell) = true then (n, NameKind.cell) else (n, k)) :: r.map _) = some .free := h
      by_cases hc : (k == NameKind.free && env.scope.kind == .function && env.kindOf n == some .cell) = true
      · rw [if_pos hc, List.lookup_cons, hy] at h'
        exact h'
      · rw [if_neg hc, List.lookup_cons, hy] at h'
        exact h'

/-! ### the context of a block -/
def cxComp (X : Cx) (scope : Scope) (NC : List Str) (C : Addr) (s : Shared) (H : Hp) (fp : List Addr) (pn : List (Addr × Obj)) : Cx where
  prog := X.prog
  w := X.w
  K := X.K
  mg := X.mg
  base := X.base
  A := X.A
  N := NC
  s₀ := s
  H₀ := H
  env := compEnvC scope (clFor X.env.cells scope.names []) C X.env
  outer := X.stack
  stack := X.stack
  ex := fp
  fn := fun _ => false
  calm := X.calm
  pn := pn
  xe := fun _ _ => False

/-- what of a block's names must be seen (all of it by decide): NC its names, x at i0 the one that the loop stores, js: where a name of it stands among the def's own -/
structure CompOk (X : Cx) (scope : Scope) (NC : List Str) (x : Str) (i0 : Nat) (js : List (Option Nat)) : Prop where
  frees : ∀ y ∈ scope.names, y.2 = .free → X.env.scope.names.lookup y.1 = some .cell
  cell : ∀ y ∈ scope.names, y.2 ≠ .cell
  kind : scope.kind = .function
  names : ∀ y ∈ scope.names, y.2 = .local → scope.names.lookup y.1 = some .local
  own : scope.names.lookup x = some .local
  nd : NC.Nodup
  at0 : NC[i0]? = some x
  len : js.length = NC.length
  cap : ∀ (i j : Nat), js[i]? = some (some j) → ∃ y, NC[i]? = some y ∧ X.N[j]? = some y ∧ scope.names.lookup y = some .free

/-- the block's names at its entry -/
def capt (js : List (Option Nat)) (σ : St) : St := js.map fun o => o.bind fun j => (σ[j]?).join

/-- the tests of a clause -/
def PIfs (X : Cx) (ifs : List Expr) (t : TT) : Prop :=
  ∀ (pins : List (Addr × Obj)) (s : Shared) (σ : St) (H : Hp) (Q : Bool → Hp → Prop), Inv X pins σ H s → t σ H Q →
    wpAny (model X.prog X.w) X.A (forIn ifs true fun c r => if r = true then do let ok ← isTrue c X.env (eval c X.env); pure (ForInStep.yield ok) else pure (ForInStep.yield r)) (TP X pins σ Q) X.xe s
def tYes : TT := fun _ H Q => Q true H
theorem pifs_nil {X : Cx} : PIfs X [] tYes := fun _ _ _ H _ I h => wpAny_tests_nil ⟨H, I, h⟩
theorem pifs_one {X : Cx} {c : Expr} {t : TT} (h : PT X c t) : PIfs X [c] t := fun pins s σ H Q I q => wpAny_tests_one (h pins s σ H Q I q)

section
variable {prog : Program} {w : World} {A : Around} {R : Result → Shared → Prop} {s : Shared}
theorem compLoop_go {elt target iter : Expr} {ifs : List Expr} {scope : Scope} {pos : Pos} {it acc : Value} {env : Env} (I : Nat → Shared → Prop)
    (turn : ∀ n s, I n s → wpAny (model prog w) A (pyNext it) (fun r s1 => match r with
      | none => R (.ok .next) s1
      | some v => wpAny (model prog w) A (letOwnedTupleGo target it v) (fun _ s2 => wpAny (model prog w) A (assign target env v) (fun _ s3 =>
          wpAny (model prog w) A (forIn ifs true fun c r => if r = true then do let ok ← isTrue c env (eval c env); pure (ForInStep.yield ok) else pure (ForInStep.yield r)) (fun ok s4 =>
            if ok = true then wpAny (model prog w) A (eval elt env) (fun x s5 =>
              wpAny (model prog w) A (call (.builtin "list.append") [acc, x]) (fun _ s6 => ∃ m, m < n ∧ I m s6) (fun _ _ => False) s5) (fun _ _ => False) s4
            else ∃ m, m < n ∧ I m s4) (fun _ _ => False) s3) (fun _ _ => False) s2) (fun _ _ => False) s1) (fun _ _ => False) s)
    (n : Nat) (h : I n s) : codeAny (model prog w) A (.compLoop (.ListComp elt [⟨target, iter, ifs, 0⟩] scope pos) 0 it acc env) R s := by
  refine codeAny_loop rfl I (fun n s hI => ?_) n h
  show wpAny _ A (Sem.onRaise (compTurn (.ListComp elt [⟨target, iter, ifs, 0⟩] scope pos) 0 it acc env) (fun x => do noteFrame x env; theTreesLotGoes x)) _ _ s
  refine wpAny_noted ?_
  rw [compTurn_list]
  refine wpAny_bind (wpAny_standAt (wpAny_bind (wpAny_mono (turn n s hI) (fun r s1 h1 => ?_) fun _ _ z => z.elim)))
  cases r with
  | none => exact wpAny_pure h1
  | some v =>
    refine wpAny_bind (wpAny_mono h1 (fun _ s2 h2 => wpAny_bind (wpAny_mono h2 (fun _ s3 h3 => wpAny_bind (wpAny_mono h3 (fun ok s4 h4 => ?_) fun _ _ z => z.elim)) fun _ _ z => z.elim)) fun _ _ z => z.elim)
    cases ok with
    | false => exact wpAny_pure ⟨rfl, h4⟩
    | true => exact wpAny_bind (wpAny_bind (wpAny_mono h4 (fun x s5 h5 => wpAny_bind (wpAny_mono h5 (fun _ s6 h6 => wpAny_pure (wpAny_pure ⟨rfl, h6⟩)) fun _ _ z => z.elim)) fun _ _ z => z.elim))
end

/-- a comprehension's walk: W its invariant by the turn and a measure; F what is wanted of the new list's address and the heap -/
def CompW (J : It) (tt : TT) (te : TE) (σc : St) (i0 : Nat) (acc : Addr) (H1 : Hp) (F : Addr → Hp → Prop) : Prop :=
  ∃ W : Nat → Nat → Hp → Prop, (∃ m, W 0 m (upd H1 acc (.lst []))) ∧ ∀ i m H2, W i m H2 →
    (J.stop i H2 ∧ F acc H2) ∨ (J.go i H2 ∧ ∀ x H3, J.yld i H2 x H3 → tt (σc.set i0 (some x)) H3 fun b H4 =>
      if b = true then te (σc.set i0 (some x)) H4 fun y H5 => ∃ zs, H5 acc = some (.lst zs) ∧ zs.length < sizeLine ∧ ∃ m', m' < m ∧ W (i + 1) m' (upd H5 acc (.lst (zs ++ [y])))
      else ∃ m', m' < m ∧ W (i + 1) m' H4)
def tCompF (js : List (Option Nat)) (i0 : Nat) (wi : TI) (tt : TT) (te : TE) (σ : St) (H : Hp) (F : Addr → Hp → Prop) : Prop :=
  wi σ H fun J H1 => ∀ acc, H1 acc = none → CompW J tt te (capt js σ) i0 acc H1 F

section
variable {X : Cx} {elt iter : Expr} {ifs : List Expr} {x : Str} {px : Pos} {scope : Scope} {pos : Pos} {wi : TI} {tt : TT} {te : TE} {NC : List Str} {i0 : Nat} {js : List (Option Nat)}

theorem CompOk.cells {pins : List (Addr × Obj)} {σ : St} {H : Hp} {s : Shared} (k : CompOk X scope NC x i0 js) (ok : X.Ok) : ∀ y ∈ scope.names, y.2 = .free → ∃ c, X.env.cells.lookup y.1 = some c :=
  fun y hy hf => ok.has y.1 (.inl (k.frees y hy hf))

theorem mem_of_lookupN {names : List (Str × NameKind)} {y : Str} {k : NameKind} (h : names.lookup y = some k) : (y, k) ∈ names := by
  induction names with
  | nil => simp at h
  | cons p r ih =>
    obtain ⟨n, k'⟩ := p
    rw [List.lookup_cons] at h
    cases hy : y == n with
    | true =>
      rw [hy] at h
      have e : y = n := eq_of_beq hy
      subst e
      rw [← Option.some.inj h]
      exact List.mem_cons_self
    | false =>
      rw [hy] at h
      exact List.mem_cons_of_mem _ (ih h)

/-- the block's context is in order, and its state at the entry -/
theorem comp_start {pins : List (Addr × Obj)} {σ : St} {H : Hp} {s : Shared} {fp : List Addr} {C : Addr} {h1 : Heap} {t1 : Nat} (k : CompOk X scope NC x i0 js) (I : Inv X pins σ H s) (f : ∀ b ∈ fp, FpOk X pins H b) (hfp : ∀ b ∈ fp, b < s.heap.objs.size)
    (hC : s.heap.objs.size ≤ C) (ns : ∃ m, h1.Ns C m) (keep : ∀ b o, s.heap.get? b = some o → h1.get? b = some o) :
    Inv (cxComp X scope NC C s H fp (X.pn ++ pins)) [] (capt js σ) H { s with heap := h1, toks := t1 } := by
  have cl := clFor_sub (cells := X.env.cells) scope.names [] (CompOk.cells (pins := pins) (σ := σ) (H := H) (s := s) k I.ok) (fun y c e => by simp at e)
  have hHC : H C = none := I.hok.fresh hC
  have cok : (cxComp X scope NC C s H fp (X.pn ++ pins)).Ok := {
    mod := I.ok.mod
    kind := k.kind
    glob := I.ok.glob
    blt := I.ok.blt
    above := hC
    inj := fun y z c e1 e2 => I.ok.inj y z c (cl y c e1) (cl z c e2)
    has := fun y hy => clFor_has scope.names [] y (relabel_only (env := X.env) k.cell hy)
    cab := fun y c hf _ => absurd hf (by simp [cxComp])
    hd := I.ok.hd
    frames := I.ok.frames
    stk := .inl rfl
    exf := fun b hb => ⟨Nat.ne_of_lt (Nat.lt_of_lt_of_le (hfp b hb) hC), fun y c e => (f b hb).2.2.2.2.1 y c (cl y c e)⟩
    bs := I.bs
    bsz := Nat.le_trans I.ok.bsz I.sz
    noex := fun b o e hb => by
      rcases (f b hb).2.2.2.1 with z | z
      · exact I.ok.noex b o e z
      · exact absurd (Nat.lt_of_lt_of_le (Heap.lt_size e) (Nat.le_trans I.ok.bsz z)) (Nat.lt_irrefl _)
    exfs := fun b hb hm => by
      rcases List.mem_cons.mp (I.stkSub b hm) with z | z
      · exact (f b hb).2.1 z
      · exact (f b hb).2.2.1 z
    funs := I.stack
    frf := I.stkFree }
  obtain ⟨m, hm⟩ := ns
  refine ⟨cok, rfl, I.bare, Un.kept keep, ⟨m, hm, fun i y v e1 e2 _ => ?_⟩, fun y c e => ?_, hHC, fun y c e => I.freeC y c (cl y c e), fun p hp => ?_, I.hok.kept keep, ?_⟩
  · -- a name that is taken over
    have e2' : (js.map fun o => o.bind fun j => (σ[j]?).join)[i]? = some (some v) := e2
    rw [List.getElem?_map] at e2'
    obtain ⟨o, ho, ho2⟩ := Option.map_eq_some_iff.mp e2'
    cases o with
    | none => simp at ho2
    | some j =>
      have hj : (σ[j]?).join = some v := ho2
      have hj' : σ[j]? = some (some v) := Option.join_eq_some_iff.mp hj
      obtain ⟨y', n1, n2, n3⟩ := k.cap i j ho
      have ey : y' = y := Option.some.inj (n1.symm.trans e1)
      subst ey
      have kc : X.env.scope.names.lookup y' = some .cell := k.frees (y', .free) (mem_of_lookupN n3) rfl
      obtain ⟨mX, hmX, hl⟩ := I.loc
      obtain ⟨u, ru, lk⟩ := hl j y' v n2 hj' (.inr (.inl kc))
      refine ⟨u, ru, ?_⟩
      rcases lk with ⟨q, _⟩ | ⟨_, c, ec, z⟩
      · exact absurd (q.symm.trans kc) (by simp)
      · obtain ⟨c', hc'⟩ := clFor_has (cells := X.env.cells) scope.names [] y' n3
        have ecc : c' = c := Option.some.inj ((cl y' c' hc').symm.trans ec)
        subst ecc
        exact .inr ⟨relabel_free (env := X.env) n3, c', hc', z.keeps keep⟩
  · obtain ⟨v, z⟩ := I.cell y c (cl y c e)
    exact ⟨v, z.keeps keep⟩
  · have hp' : p ∈ X.pn ++ pins := by simpa [cxComp] using hp
    obtain ⟨q1, q2, q3, q4, q5⟩ := I.pin p hp'
    refine ⟨keep _ _ q1, q2, Nat.ne_of_lt (Nat.lt_of_lt_of_le (Heap.lt_size q1) hC), fun hm' => ?_, q5⟩
    rcases List.mem_cons.mp (I.stkSub p.1 hm') with z | z
    · exact q3 z
    · exact q4 z
  · show (js.map _).length = NC.length
    rw [List.length_map, k.len]

/-- the whole of a comprehension, but for what becomes of its list -/
theorem comp_core {pins : List (Addr × Obj)} {σ : St} {H : Hp} {s : Shared} {F : Addr → Hp → Prop} {RR : Value → Addr → Result → Shared → Prop} (hc : X.calm = true) (k : CompOk X scope NC x i0 js)
    (hi : PI X (.Name x px) iter wi) (ht : ∀ C s H fp pn, PIfs (cxComp X scope NC C s H fp pn) ifs tt) (he : ∀ C s H fp pn, PE (cxComp X scope NC C s H fp pn) elt te)
    (I : Inv X pins σ H s) (h : tCompF js i0 wi tt te σ H F)
    (hRR : ∀ acc C H5 s6, F acc H5 → Inv X pins σ H5 s6 → (∃ m, s6.heap.Ns C m) → H5 C = none → C ≠ X.env.locals → X.s₀.heap.objs.size ≤ C → (∀ y c, X.env.cells.lookup y = some c → c ≠ C) → (∀ p ∈ X.pn ++ pins, p.1 ≠ C) → RR (.ref acc) C (.ok .next) s6) :
    wpAny (model X.prog X.w) X.A (eval iter X.env) (fun v s1 => wpAny (model X.prog X.w) X.A (pyIter v) (fun itv s2 => wpAny (model X.prog X.w) X.A (newList []) (fun acc s3 =>
      wpAny (model X.prog X.w) X.A (newFunctionEnv scope X.env.globals (clFor X.env.cells scope.names []) [] X.env.qual none .none (some X.env)) (fun cenv s4 =>
        codeAny (model X.prog X.w) X.A (.compStart (.ListComp elt [⟨.Name x px, iter, ifs, 0⟩] scope pos) 0 itv acc { cenv with scope := relabel scope X.env }) (RR acc cenv.locals) s4) X.xe s3) X.xe s2) X.xe s1) X.xe s := by
  refine thn (hi pins s σ H _ I h) fun v s1 h1 => thn h1 fun itv s2 h2 => ?_
  obtain ⟨it, fp, tn, J, H2, e, I2, T, st2, f2, h2⟩ := h2
  subst e
  obtain ⟨W, ⟨m0, w0⟩, turn⟩ := h2 s2.heap.objs.size I2.fresh
  have I3 : Inv X pins σ (upd H2 s2.heap.objs.size (.lst [])) { s2 with heap := s2.heap.push { cls := .type "list", data := .seq ([] : List Value).toArray }, toks := s2.toks } := I2.lnew (its := []) .nil (Nat.zero_le _)
  refine wpAny_newObj_type (wpAny_newFunctionEnv k.cell (by intro y hy; simp at hy) (fun hh hns hsb => ?_) k.kind)
  have hfp2 : ∀ b ∈ fp, b < s2.heap.objs.size := fun b hb => by
    obtain ⟨o, eo, _⟩ := T.obj _ _ st2 b hb
    exact Heap.lt_size eo
  generalize hG : ({ s2 with heap := s2.heap.push { cls := .type "list", data := .seq ([] : List Value).toArray }, toks := s2.toks } : Shared) = s3 at I3
  have hs3 : s3.heap = s2.heap.push { cls := .type "list", dict := none, data := .seq ([] : List Value).toArray } := by rw [← hG]
  have hsz : s3.heap.objs.size = s2.heap.objs.size + 1 := by rw [hs3, Heap.size_push]
  have f3 : ∀ b ∈ fp, FpOk X pins (upd H2 s2.heap.objs.size (.lst [])) b := fun b hb => ⟨by rw [upd_ne (Nat.ne_of_lt (hfp2 b hb))]; exact (f2 b hb).1, (f2 b hb).2⟩
  have hfp3 : ∀ b ∈ fp, b < s3.heap.objs.size := fun b hb => by rw [hsz]; exact Nat.lt_succ_of_lt (hfp2 b hb)
  have keep : ∀ b o, s3.heap.get? b = some o → hh.get? b = some o := fun b o q => by
    have q' := q
    rw [hs3] at q'
    have lt := Heap.lt_size q
    refine hsb.extBut b o ?_ (Heap.get?_push_of_some _ q')
    show b ≠ (s2.heap.push _).objs.size
    rw [Heap.size_push, ← hsz]
    exact Nat.ne_of_lt lt
  have hCeq : ({ s2 with heap := s2.heap.push { cls := .type "list", dict := none, data := .seq ([] : List Value).toArray } } : Shared).heap.objs.size = s3.heap.objs.size := by rw [hs3]
  have hns' : ∃ m, hh.Ns s3.heap.objs.size m := ⟨_, hCeq ▸ hns⟩
  have st3 : tn 0 hh := T.keep _ _ _ st2 fun b hb o q => keep b o (by rw [hs3]; exact Heap.get?_push_of_some _ q)
  have lt3 : ∀ {b o}, s3.heap.get? b = some o → b ≠ s3.heap.objs.size := fun q => Nat.ne_of_lt (Heap.lt_size q)
  have nC1 : s3.heap.objs.size ≠ X.env.locals := Ne.symm (Nat.ne_of_lt I3.lt)
  have nC2 : ∀ y c, X.env.cells.lookup y = some c → c ≠ s3.heap.objs.size := fun y c q => by
    obtain ⟨v', z⟩ := I3.cell y c q
    exact Nat.ne_of_lt z.lt
  have nC3 : ∀ p ∈ X.pn ++ pins, p.1 ≠ s3.heap.objs.size := fun p hp => lt3 (I3.pin p hp).1
  have main : ∀ s4 : Shared, s4 = { s3 with heap := hh, toks := s4.toks } →
      codeAny (model X.prog X.w) X.A (.compLoop (.ListComp elt [⟨.Name x px, iter, ifs, 0⟩] scope pos) 0 (.ref it) (.ref s2.heap.objs.size) (compEnvC scope (clFor X.env.cells scope.names []) s3.heap.objs.size X.env))
        (RR (.ref s2.heap.objs.size) s3.heap.objs.size) s4 := by
    intro s4 es4
    rw [es4]
    have I4 := comp_start (t1 := s4.toks) k I3 f3 hfp3 (Nat.le_refl _) hns' keep
    have frame : ∀ {H' : Hp}, (∀ b ∈ fp, H' b = none) → ∀ b ∈ fp, FpOk (cxComp X scope NC s3.heap.objs.size s3 (upd H2 s2.heap.objs.size (.lst [])) fp (X.pn ++ pins)) [] H' b := fun hn b hb =>
      ⟨hn b hb, I4.ok.exf b hb |>.1, I4.ok.exfs b hb, .inl hb, fun y c q => (I4.ok.exf b hb).2 y c q, fun p hp => (f3 b hb).2.2.2.2.2 p (by simpa [cxComp] using hp)⟩
    refine compLoop_go (fun n s' => ∃ i σ' H', Inv (cxComp X scope NC s3.heap.objs.size s3 (upd H2 s2.heap.objs.size (.lst [])) fp (X.pn ++ pins)) [] σ' H' s' ∧ (∀ z, σ'.set i0 (some z) = (capt js σ).set i0 (some z)) ∧ tn i s'.heap ∧ (∀ b ∈ fp, H' b = none) ∧ W i n H') ?_ m0
      ⟨0, capt js σ, _, I4, fun _ => rfl, st3, fun b hb => (f3 b hb).1, w0⟩
    rintro n s5 ⟨i, σ5, H5, I5, hσ, st5, fr5, w5⟩
    rcases turn i n H5 w5 with ⟨stop, q⟩ | ⟨go, step⟩
    · refine thn (T.done (cxComp X scope NC s3.heap.objs.size s3 (upd H2 s2.heap.objs.size (.lst [])) fp (X.pn ++ pins)) rfl rfl rfl hc i [] s5 σ5 H5 (fun _ _ => False) I5 (frame fr5) st5 stop) fun r s6 ⟨hr, I6⟩ => ?_
      subst hr
      obtain ⟨mC, hmC, _⟩ := id I6.loc
      refine hRR _ _ H5 s6 q ?_ ⟨mC, hmC⟩ I6.free nC1 (Nat.le_trans I3.sz (Nat.le_refl _)) nC2 nC3
      exact I3.call' (ch := fp) I6.os I6.base I6.hok I6.bare fun b hb => ⟨(f3 b hb).2.2.2.1, (f3 b hb).2.1, (f3 b hb).2.2.2.2.1, (f3 b hb).2.2.2.2.2⟩
    · refine thn (T.item (cxComp X scope NC s3.heap.objs.size s3 (upd H2 s2.heap.objs.size (.lst [])) fp (X.pn ++ pins)) rfl rfl rfl hc i [] s5 σ5 H5 (fun _ _ => False) I5 (frame fr5) st5 go) fun r s6 ⟨u, hr, h6⟩ => ?_
      subst hr
      refine thn h6 fun _ s7 ⟨xv, H7, I7, r7, y7, st7, fr7⟩ => ?_
      have I7' := I7.pinned (frame fr7) (T.obj _ _ st7)
      have own' : (relabel scope X.env).names.lookup x = some .local := lookup_relabel_local k.own
      have pg : PG (cxComp X scope NC s3.heap.objs.size s3 (upd H2 s2.heap.objs.size (.lst [])) fp (X.pn ++ pins)) (.Name x px) (gName i0) := pg_name k.nd k.at0 (.inl own') (.inr own')
      refine thn (pg _ s7 σ5 H7 xv u (fun σ8 H8 => σ8 = (capt js σ).set i0 (some xv) ∧ H8 = H7) I7' r7 ⟨hσ xv, rfl⟩) fun _ s8 ⟨σ8, H8, I8, e8, e8'⟩ => ?_
      subst e8 e8'
      have back : ∀ {σ9 : St} {H9 : Hp} {s9 : Shared}, Inv (cxComp X scope NC s3.heap.objs.size s3 (upd H2 s2.heap.objs.size (.lst [])) fp (X.pn ++ pins)) ([] ++ pinsAt fp s7.heap) ((capt js σ).set i0 (some xv)) H9 s9 → (∃ m', m' < n ∧ W (i + 1) m' H9) →
          ∃ m', m' < n ∧ ∃ i σ' H', Inv (cxComp X scope NC s3.heap.objs.size s3 (upd H2 s2.heap.objs.size (.lst [])) fp (X.pn ++ pins)) [] σ' H' s9 ∧ (∀ z, σ'.set i0 (some z) = (capt js σ).set i0 (some z)) ∧ tn i s9.heap ∧ (∀ b ∈ fp, H' b = none) ∧ W i m' H' :=
        fun {σ9 H9 s9} I9 ⟨m', hm, w9⟩ => by
          refine ⟨m', hm, i + 1, _, H9, I9.unpinned, fun z => List.set_set _, T.keep _ _ _ st7 fun b hb o q => (I9.pin (b, o) (List.mem_append_right _ (List.mem_append_right _ (mem_pinsAt hb q)))).1, fun b hb => ?_, w9⟩
          obtain ⟨o, q, d⟩ := T.obj _ _ st7 b hb
          exact (I9.pin (b, o) (List.mem_append_right _ (List.mem_append_right _ (mem_pinsAt hb q)))).2.1
      refine thn (ht _ _ _ _ _ _ s8 _ H8 _ I8 (step xv H8 y7)) fun ok s9 ⟨H9, I9, q9⟩ => ?_
      cases ok with
      | false => exact back (σ9 := []) I9 q9
      | true =>
        refine thn (he _ _ _ _ _ _ s9 _ H9 _ I9 q9) fun yv s10 ⟨y, H10, I10, ry, zs, hz, hl, m', hm', w'⟩ => ?_
        refine thn (mt_append _ s10 _ H10 (.ref s2.heap.objs.size) [y] (.ref s2.heap.objs.size) [yv] (fun _ H11 => ∃ m', m' < n ∧ W (i + 1) m' H11) I10 rfl (.cons ry .nil) ⟨_, zs, y, rfl, rfl, hz, hl, m', hm', w'⟩) fun _ s11 ⟨_, H11, I11, _, q11⟩ => ?_
        exact back (σ9 := []) I11 q11
  have fin : ∀ s4 : Shared, s4 = { s3 with heap := hh, toks := s4.toks } →
      codeAny (model X.prog X.w) X.A (.compStart (.ListComp elt [⟨.Name x px, iter, ifs, 0⟩] scope pos) 0 (.ref it) (.ref s2.heap.objs.size) (compEnvC scope (clFor X.env.cells scope.names []) s3.heap.objs.size X.env))
        (RR (.ref s2.heap.objs.size) s3.heap.objs.size) s4 := fun s4 es4 => by
    have z := main s4 es4
    have tnz : tn 0 s4.heap := by rw [es4]; exact st3
    exact codeAny_compStart_list z (T.self _ 0 s4 _ _ tnz z)
  subst hG
  exact fin _ rfl

/-- [elt for x in iter if ..], as a value -/
def tComp (js : List (Option Nat)) (i0 : Nat) (wi : TI) (tt : TT) (te : TE) : TE := fun σ H Q => tCompF js i0 wi tt te σ H fun acc H' => Q (.ref acc) H'
theorem pe_comp (hc : X.calm = true) (k : CompOk X scope NC x i0 js) (hi : PI X (.Name x px) iter wi) (ht : ∀ C s H fp pn, PIfs (cxComp X scope NC C s H fp pn) ifs tt) (he : ∀ C s H fp pn, PE (cxComp X scope NC C s H fp pn) elt te)
    (hs : ∀ x, foldedSetIterable iter X.env x = pure x := by intro _; rfl) : PE X (.ListComp elt [⟨.Name x px, iter, ifs, 0⟩] scope pos) (tComp js i0 wi tt te) := by
  intro pins s σ H Q I h
  rw [eval_ListComp]
  refine wpAny_comprehension_free (use := none) rfl hs (closureFor_eq (CompOk.cells (pins := pins) (σ := σ) (H := H) (s := s) k I.ok)) k.kind k.names ?_
  refine comp_core (RR := fun acc C => compPost (model X.prog X.w) X.A X.xe none (EP X pins σ Q) acc C) hc k hi ht he I h fun acc C H5 s6 q I6 ns hC nL hz nc np => ?_
  obtain ⟨m, hm⟩ := ns
  exact ⟨m, hm, fun h' sb => ⟨.ref acc, H5, I6.turned (it := C) (t' := s6.toks) (fun b o nb e => sb.extBut b o nb e) hC (Ne.symm (Ne.symm nL)) (.inr hz) nc np, rfl, q⟩⟩

/-- y = [elt for x in iter if ..] -/
def tCompS (j0 : Nat) (js : List (Option Nat)) (i0 : Nat) (wi : TI) (tt : TT) (te : TE) : TS := fun D σ H => tCompF js i0 wi tt te σ H fun acc H' => D.nx (σ.set j0 (some (.ref acc))) H'
theorem ps_comp {y : Str} {py spos : Pos} {j0 : Nat} (hc : X.calm = true) (hN : X.N.Nodup) (hj : X.N[j0]? = some y) (hy : Loc X.env.scope y) (k : CompOk X scope NC x i0 js) (hi : PI X (.Name x px) iter wi)
    (ht : ∀ C s H fp pn, PIfs (cxComp X scope NC C s H fp pn) ifs tt) (he : ∀ C s H fp pn, PE (cxComp X scope NC C s H fp pn) elt te)
    (hsw : swapsWith (.ListComp elt [⟨.Name x px, iter, ifs, 0⟩] scope pos) (some (.Name y py)) spos.line X.env = pure true := by rfl)
    (hs : ∀ x, foldedSetIterable iter X.env x = pure x := by intro _; rfl) (hf : X.fn y = true ∨ X.env.scope.names.lookup y = some .local := by first | exact .inl rfl | exact .inr rfl | assumption) :
    PS X (.Assign [.Name y py] (.ListComp elt [⟨.Name x px, iter, ifs, 0⟩] scope pos) spos) (tCompS j0 js i0 wi tt te) := by
  intro pins s σ H D I h
  rw [exec_Assign_Name_used _ _ _ _ hsw]
  refine wpAny_bind (wpAny_standAt (wpAny_bind ?_))
  show wpAny _ X.A (do let _ ← comprehension (.ListComp elt [⟨.Name x px, iter, ifs, 0⟩] scope pos) scope X.env _ (newList []) false (eval iter X.env) (some (assign (.Name y py) X.env))) _ _ s
  refine wpAny_bind (wpAny_mono (Q := fun _ s' => SP X pins D .next s') (E := X.xe) (wpAny_comprehension_free (use := some (assign (.Name y py) X.env)) rfl hs (closureFor_eq (CompOk.cells (pins := pins) (σ := σ) (H := H) (s := s) k I.ok)) k.kind k.names
    (comp_core (RR := fun acc C => compPost (model X.prog X.w) X.A X.xe (some (assign (.Name y py) X.env)) (fun _ s' => SP X pins D .next s') acc C) hc k hi ht he I h fun acc C H5 s6 q I6 ns hC nL hz nc np => ?_)) (fun _ s' hq => wpAny_pure (wpAny_pure hq)) fun _ _ e => e)
  obtain ⟨m, hm⟩ := ns
  show wpAny _ X.A (assign (.Name y py) X.env (.ref acc)) _ _ s6
  refine wpAny_assign_Name (store_ok2 (v := .ref acc) I6 hN hj hy rfl (fun s7 I7 ⟨a, sa, ha⟩ => ?_) hf)
  have nCa : C ≠ a := by
    rcases ha with z | z
    · rw [z]; exact nL
    · exact Ne.symm (nc y a z)
  exact ⟨m, hm.sameBut sa nCa, fun h' sb => ⟨_, H5, I7.turned (it := C) (t' := s7.toks) (fun b o nb e => sb.extBut b o nb e) hC nL (.inr hz) nc np, q⟩⟩
end
end L2

/-! Values by what they hold; == and != of lists; list.index; isinstance; a dict of the module; len of a dict with tuples as keys. -/
namespace L2
open PySem PySem.Spec PyProof.Rows

inductive DV where
  | int (i : Int) | tup (is : List Int) | bl (b : Bool)
  deriving DecidableEq

def DRel (H : Hp) : V → DV → Prop
  | .int i, d => d = .int i
  | .bl b, d => d = .bl b
  | .ref p, d => ∃ is, d = .tup is ∧ H p = some (.tup (is.map V.int))
  | _, _ => False
abbrev DRels (H : Hp) : List V → List DV → Prop := Paired (DRel H)
/-- no int beside a bool -/
def hom : DV → DV → Bool
  | .int _, .bl _ => false
  | .bl _, .int _ => false
  | _, _ => true

theorem mapInt_inj : ∀ {is js : List Int}, is.map V.int = js.map V.int → is = js
  | [], [], _ => rfl
  | [], _ :: _, h => by simp at h
  | _ :: _, [], h => by simp at h
  | a :: r, b :: t, h => by
    rw [List.map_cons, List.map_cons] at h
    injection h with h1 h2
    injection h1 with h1
    rw [h1, mapInt_inj h2]

theorem all_eq_ix (is js : List Int) : ((List.range (min is.length js.length)).all (fun j => decide (is[j]? = js[j]?)) && is.length == js.length) = decide (is = js) := by
  by_cases h : is = js
  · subst h
    simp
  · rw [decide_eq_false h]
    cases hb : ((List.range (min is.length js.length)).all (fun j => decide (is[j]? = js[j]?)) && is.length == js.length) with
    | false => rfl
    | true =>
      exfalso
      apply h
      rw [Bool.and_eq_true] at hb
      have hl : is.length = js.length := eq_of_beq hb.2
      refine List.ext_getElem? fun i => ?_
      by_cases hi : i < is.length
      · exact of_decide_eq_true (List.all_eq_true.mp hb.1 i (List.mem_range.mpr (by omega)))
      · rw [List.getElem?_eq_none_iff.mpr (by omega), List.getElem?_eq_none_iff.mpr (by omega)]

theorem Vals.ints_at {is : List Int} {its : List Value} (r : Vals (is.map V.int) its) {j : Nat} (hj : j < its.length) : ∃ a t, is[j]? = some a ∧ its[j]? = some (Value.int a t) := by
  have hl := r.length
  rw [List.length_map] at hl
  have hj' : j < is.length := by omega
  obtain ⟨u, e, ru⟩ := r.get (i := j) (x := V.int is[j]) (by rw [List.getElem?_map, List.getElem?_eq_getElem hj']; rfl)
  obtain ⟨t, et⟩ := ru
  exact ⟨is[j], t, List.getElem?_eq_getElem hj', by rw [e, et]⟩

theorem dec_dv_int (i j : Int) : decide (DV.int i = DV.int j) = (i == j) := by
  by_cases e : i = j
  · subst e; simp
  · rw [decide_eq_false fun q => e (DV.int.inj q)]
    exact (beq_eq_false_iff_ne.mpr e).symm
theorem dec_dv_bl (i j : Bool) : decide (DV.bl i = DV.bl j) = (i == j) := by cases i <;> cases j <;> rfl
theorem dec_dv_tup (i j : List Int) : decide (DV.tup i = DV.tup j) = decide (i = j) := by
  by_cases e : i = j
  · subst e; simp
  · rw [decide_eq_false fun q => e (DV.tup.inj q), decide_eq_false e]

section
variable {X : Cx} {pins : List (Addr × Obj)} {σ : St} {H : Hp} {s : Shared} {A : Around}

/-- two tuples of ints -/
theorem eqAt_tup (I : Inv X pins σ H s) (hu : A.units < cLine) {p q : Addr} {is js : List Int} (hp : H p = some (.tup (is.map V.int))) (hq : H q = some (.tup (js.map V.int))) :
    SeqAt.EqAt A s (.ref p) (.ref q) (decide (is = js)) := by
  by_cases hpq : p = q
  · subst hpq
    have e : is = js := mapInt_inj (by rw [hp] at hq; injection hq with hq; injection hq)
    rw [decide_eq_true e]
    exact SeqAt.EqAt.same _
  · obtain ⟨its, r1, t1, _⟩ := I.tuple (SqT.of hp)
    obtain ⟨jts, r2, t2, _⟩ := I.tuple (SqT.of hq)
    have l1 := r1.length
    have l2 := r2.length
    rw [List.length_map] at l1 l2
    have z := SeqAt.RcAt.tuples (A := A) (s := s) (e := fun j => decide (is[j]? = js[j]?)) t1 t2 hu (fun j h1 h2 => by
      rw [List.size_toArray] at h1 h2
      obtain ⟨a, t, ea, ea'⟩ := r1.ints_at h1
      obtain ⟨b, t', eb, eb'⟩ := r2.ints_at h2
      have e1 : its.toArray[j] = Value.int a t := by
        have := List.getElem?_eq_getElem h1
        rw [ea'] at this
        simpa using (Option.some.inj this).symm
      have e2 : jts.toArray[j] = Value.int b t' := by
        have := List.getElem?_eq_getElem h2
        rw [eb'] at this
        simpa using (Option.some.inj this).symm
      rw [e1, e2]
      have e3 : decide (is[j]? = js[j]?) = (a == b) := by
        rw [ea, eb]
        by_cases e : a = b
        · subst e; simp
        · rw [decide_eq_false fun q => e (Option.some.inj q)]
          exact (beq_eq_false_iff_ne.mpr e).symm
      show SeqAt.EqAt _ s _ _ (decide (is[j]? = js[j]?))
      rw [e3]
      exact SeqAt.EqAt.int_int a t b t')
    have e := all_eq_ix is js
    have z' := SeqAt.EqAt.of_refs hpq z
    rw [List.size_toArray, List.size_toArray, ← l1, ← l2, e] at z'
    exact z'

theorem eqAt_D (I : Inv X pins σ H s) (hu : A.units < cLine) {x y : V} {u v : Value} {d e : DV} (rx : RelV x u) (ry : RelV y v) (dx : DRel H x d) (dy : DRel H y e) (hm : hom d e = true) : SeqAt.EqAt A s u v (decide (d = e)) := by
  cases x with
  | int i =>
    cases (show d = .int i from dx)
    obtain ⟨t, rfl⟩ := (show ∃ t, u = Value.int i t from rx)
    cases y with
    | int j =>
      cases (show e = .int j from dy)
      obtain ⟨t', rfl⟩ := (show ∃ t, v = Value.int j t from ry)
      rw [dec_dv_int]
      exact SeqAt.EqAt.int_int i t j t'
    | bl b => cases (show e = .bl b from dy); exact absurd hm (by simp [hom])
    | ref q =>
      obtain ⟨js, rfl, hq⟩ := dy
      cases (show v = Value.ref q from ry)
      obtain ⟨jts, r2, t2, _⟩ := I.tuple (SqT.of hq)
      rw [decide_eq_false (fun z => nomatch z)]
      exact SeqAt.EqAt.int_tuple i t t2 hu
    | _ => exact dy.elim
  | bl a =>
    cases (show d = .bl a from dx)
    cases (show u = Value.bool a from rx)
    cases y with
    | int j => cases (show e = .int j from dy); exact absurd hm (by simp [hom])
    | bl b =>
      cases (show e = .bl b from dy)
      cases (show v = Value.bool b from ry)
      rw [dec_dv_bl]
      exact SeqAt.EqAt.bool_bool a b
    | ref q =>
      obtain ⟨js, rfl, hq⟩ := dy
      cases (show v = Value.ref q from ry)
      obtain ⟨jts, r2, t2, _⟩ := I.tuple (SqT.of hq)
      rw [decide_eq_false (fun z => nomatch z)]
      exact SeqAt.EqAt.bool_tuple a t2 hu
    | _ => exact dy.elim
  | ref p =>
    obtain ⟨is, rfl, hp⟩ := dx
    cases (show u = Value.ref p from rx)
    obtain ⟨its, r1, t1, _⟩ := I.tuple (SqT.of hp)
    cases y with
    | int j =>
      cases (show e = .int j from dy)
      obtain ⟨t', rfl⟩ := (show ∃ t, v = Value.int j t from ry)
      rw [decide_eq_false (fun z => nomatch z)]
      exact SeqAt.EqAt.tuple_int j t' t1 hu
    | bl b =>
      cases (show e = .bl b from dy)
      cases (show v = Value.bool b from ry)
      rw [decide_eq_false (fun z => nomatch z)]
      exact SeqAt.EqAt.tuple_bool b t1 hu
    | ref q =>
      obtain ⟨js, rfl, hq⟩ := dy
      cases (show v = Value.ref q from ry)
      rw [dec_dv_tup]
      exact eqAt_tup I hu hp hq
    | _ => exact dy.elim
  | _ => exact dx.elim
end

/-! ### lists of these -/
theorem Paired.at_ {α β : Type} {F : α → β → Prop} : ∀ {l₁ : List α} {l₂ : List β}, Paired F l₁ l₂ → ∀ {j : Nat} {a : α} {b : β}, l₁[j]? = some a → l₂[j]? = some b → F a b
  | _, _, .nil, _, _, _, h, _ => by simp at h
  | _, _, .cons r _, 0, _, _, h, h' => by
    simp at h h'
    subst h h'
    exact r
  | _, _, .cons _ t, j + 1, _, _, h, h' => Paired.at_ t (j := j) (by simpa using h) (by simpa using h')

theorem all_eq_ixD (ds es : List DV) (hl : ds.length = es.length) : (List.range ds.length).all (fun j => decide (ds[j]? = es[j]?)) = decide (ds = es) := by
  by_cases h : ds = es
  · subst h
    simp
  · rw [decide_eq_false h]
    cases hb : (List.range ds.length).all (fun j => decide (ds[j]? = es[j]?)) with
    | false => rfl
    | true =>
      exfalso
      apply h
      refine List.ext_getElem? fun i => ?_
      by_cases hi : i < ds.length
      · exact of_decide_eq_true (List.all_eq_true.mp hb i (List.mem_range.mpr hi))
      · rw [List.getElem?_eq_none_iff.mpr (by omega), List.getElem?_eq_none_iff.mpr (by omega)]

def rEqL (K : PySem.W.Frag) (neg : Bool) : R2 := fun x y H Q => ∃ l b xs ys ds es, x = .ref l ∧ y = .ref b ∧ SqL K H l xs ∧ SqL K H b ys ∧ DRels H xs ds ∧ DRels H ys es ∧
  (∀ d ∈ ds, ∀ e ∈ es, hom d e = true) ∧ Q (.bl (if neg then !decide (ds = es) else decide (ds = es))) H

section
variable {X : Cx}
theorem eqL_items {pins : List (Addr × Obj)} {σ : St} {H : Hp} {s : Shared} {A : Around} {xs ys : List V} {its jts : List Value} {ds es : List DV} (I : Inv X pins σ H s) (hu : A.units < cLine)
    (r1 : Vals xs its) (r2 : Vals ys jts) (d1 : DRels H xs ds) (d2 : DRels H ys es) (hm : ∀ d ∈ ds, ∀ e ∈ es, hom d e = true) :
    ∀ j (h1 : j < its.toArray.size) (h2 : j < jts.toArray.size), SeqAt.EqAt A s its.toArray[j] jts.toArray[j] (decide (ds[j]? = es[j]?)) := fun j h1 h2 => by
  rw [List.size_toArray] at h1 h2
  have l1 := r1.length
  have l2 := r2.length
  have l3 := Paired.length d1
  have l4 := Paired.length d2
  have q1 : ds[j]? = some ds[j] := List.getElem?_eq_getElem (by omega)
  have q2 : es[j]? = some es[j] := List.getElem?_eq_getElem (by omega)
  have v1 : xs[j]? = some xs[j] := List.getElem?_eq_getElem (by omega)
  have v2 : ys[j]? = some ys[j] := List.getElem?_eq_getElem (by omega)
  have w1 : its[j]? = some its[j] := List.getElem?_eq_getElem h1
  have w2 : jts[j]? = some jts[j] := List.getElem?_eq_getElem h2
  have z := eqAt_D (A := A) I hu (Paired.at_ r1 v1 w1) (Paired.at_ r2 v2 w2) (Paired.at_ d1 v1 q1) (Paired.at_ d2 v2 q2) (hm _ (List.getElem_mem _) _ (List.getElem_mem _))
  rw [q1, q2, show decide (some ds[j] = some es[j]) = decide (ds[j] = es[j]) by simp]
  simpa using z

theorem op_eqL (hu : X.A.units + 1 < cLine) : OpR X (compareOp .Eq) (rEqL X.K false) := by
  intro pins s σ H x y v u Q I rx ry h
  obtain ⟨l, b, xs, ys, ds, es, rfl, rfl, hl, hb, d1, d2, hm, q⟩ := h
  cases rx
  cases ry
  obtain ⟨its, r1, p1, z1⟩ := I.list hl
  obtain ⟨jts, r2, p2, z2⟩ := I.list hb
  have l1 := r1.length
  have l2 := r2.length
  have l3 := Paired.length d1
  have l4 := Paired.length d2
  by_cases hs : ds.length = es.length
  · refine SeqAt.eq_listAt (e := fun j => decide (ds[j]? = es[j]?)) p1.isList p2.isList (by simp only [List.size_toArray]; omega) (by omega) (eqL_items I (by show X.A.units + 1 < cLine; exact hu) r1 r2 d1 d2 hm) ⟨.bl _, H, I, rfl, ?_⟩
    rw [show its.toArray.size = ds.length by simp only [List.size_toArray]; omega, all_eq_ixD ds es hs]
    exact q
  · refine SeqAt.eq_list_lengthsAt p1.isList p2.isList (by simp only [List.size_toArray, bne_iff_ne]; omega) (by omega) ⟨.bl _, H, I, rfl, ?_⟩
    have e : decide (ds = es) = false := decide_eq_false fun z => hs (by rw [z])
    simpa [e] using q

theorem op_neL (hu : X.A.units + 1 < cLine) : OpR X (compareOp .NotEq) (rEqL X.K true) := by
  intro pins s σ H x y v u Q I rx ry h
  obtain ⟨l, b, xs, ys, ds, es, rfl, rfl, hl, hb, d1, d2, hm, q⟩ := h
  cases rx
  cases ry
  obtain ⟨its, r1, p1, z1⟩ := I.list hl
  obtain ⟨jts, r2, p2, z2⟩ := I.list hb
  have l1 := r1.length
  have l2 := r2.length
  have l3 := Paired.length d1
  have l4 := Paired.length d2
  by_cases hs : ds.length = es.length
  · refine SeqAt.RcNeAt.lists (e := fun j => decide (ds[j]? = es[j]?)) p1.isList p2.isList (by simp only [List.size_toArray]; omega) (by omega) (eqL_items I (by show X.A.units + 1 < cLine; exact hu) r1 r2 d1 d2 hm) X.prog X.w _ _ ⟨.bl _, H, I, rfl, ?_⟩
    rw [show its.toArray.size = ds.length by simp only [List.size_toArray]; omega, all_eq_ixD ds es hs]
    exact q
  · refine SeqAt.RcNeAt.lists_lengths p1.isList p2.isList (by simp only [List.size_toArray, bne_iff_ne]; omega) (by omega) X.prog X.w _ _ ⟨.bl _, H, I, rfl, ?_⟩
    have e : decide (ds = es) = false := decide_eq_false fun z => hs (by rw [z])
    simpa [e] using q

/-! ### xs.index(y), y there -/
/-! ### isinstance -/
/-! ### a dict of the module, its keys texts and ints -/
structure KD (K : PySem.W.Frag) (P : Program) (w : World) (a : Addr) (kvs : List (Key × V)) : Prop where
  of : ∀ h : Heap, K.In h → ∃ vs, KV kvs vs ∧ h.DictOf (mixKind P w) a vs
  ne : (a == sysModules) = false

def tKGet (K : PySem.W.Frag) (P : Program) (w : World) (td ty : TE) : TE := fun σ H Q => td σ H fun x H1 => ty σ H1 fun y H2 => ∃ a kvs k v, x = .ref a ∧ KD K P w a kvs ∧ y = kV k ∧ valV kvs k = some v ∧ Q v H2
theorem pe_kget {o i : Expr} {pos : Pos} {td ty : TE} (ho : PE X o td) (hi : PE X i ty) (hs : NoSl i) : PE X (.Subscript o i pos) (tKGet X.K X.prog X.w td ty) := by
  intro pins s σ H Q I h
  refine subD_of PySem.F.slot_dict_getitem.lookup hs (thn (ho pins s σ H _ I h) fun u s1 ⟨x, H1, I1, rx, q1⟩ => thn (hi pins s1 σ H1 _ I1 q1) fun iv s2 ⟨y, H2, I2, ry, a, kvs, k, v, ex, kd, ey, l, q2⟩ => ?_)
  subst ex ey
  obtain rfl : u = Value.ref a := rx
  obtain ⟨vs, rel, dd⟩ := kd.of s2.heap I2.kIn
  obtain ⟨w', hw, rw'⟩ := RelO.some_of (v := v) (o := valueAt vs k) (by rw [← l]; exact rel.val k)
  exact ⟨dd.typeIs, wpAny_getItem_of (kV_is ry) dd.mapOf hw ⟨v, H2, I2.tok _, rw', q2⟩⟩

def tKIn (K : PySem.W.Frag) (P : Program) (w : World) (neg : Bool) (ty td : TE) : TE := fun σ H Q => ty σ H fun y H1 => td σ H1 fun x H2 => ∃ a kvs k, x = .ref a ∧ KD K P w a kvs ∧ y = kV k ∧ Q (.bl (if neg then !(valV kvs k).isSome else (valV kvs k).isSome)) H2
theorem pc_knotin {o i : Expr} {td ty : TE} (hi : PE X i ty) (ho : PE X o td) : PC X .NotIn i o (tKIn X.K X.prog X.w true ty td) := by
  intro pins s σ H Q I h
  refine thn (hi pins s σ H _ I h) fun iv s1 ⟨y, H1, I1, ry, q1⟩ => thn (ho pins s1 σ H1 _ I1 q1) fun u s2 ⟨x, H2, I2, rx, a, kvs, k, ex, kd, ey, q2⟩ => ?_
  subst ex ey
  obtain rfl : u = Value.ref a := rx
  obtain ⟨vs, rel, dd⟩ := kd.of s2.heap I2.kIn
  refine wpAny_notIn_of (kV_is ry) kd.ne dd.mapOf ⟨.bl _, H2, I2.tok _, rfl, ?_⟩
  rw [← (rel.val k).isSome_eq]
  exact q2

theorem kd_mk {K : PySem.W.Frag} {P : Program} {w : World} {a : Addr} {ep : Nat} (ents : List (Str × Tok × Value)) (kvs : List (Key × V))
    (l : K.lookup a = some ⟨.type "dict", none, .dict (ents.map fun e => (⟨PyData.keyHash w.params e.1, .str e.1 e.2.1, e.2.2⟩ : DictEntry)).toArray ep, #[]⟩)
    (rel : KV kvs (ents.map fun e => ((Sum.inr e.1 : Key), e.2.2))) (nd : (kvs.map (·.1)).Nodup) (ne : (a == sysModules) = false) : KD K P w a kvs := by
  refine ⟨fun h kin => ⟨_, rel, _, _, ep, kin a _ l, ⟨rfl, rfl, rfl⟩, rfl, ?_, ?_, ?_⟩, ne⟩
  · intro e he
    have he' : e ∈ ents.map fun e => (⟨PyData.keyHash w.params e.1, .str e.1 e.2.1, e.2.2⟩ : DictEntry) := by simpa using he
    obtain ⟨t, _, rfl⟩ := List.mem_map.mp he'
    exact ⟨.inr t.1, keyIs_str t.1 t.2.1, rfl⟩
  · show Pairs (mixKind P w) (List.toArray _).toList _
    rw [List.toList_toArray]
    clear l rel nd
    induction ents with
    | nil => exact .nil
    | cons e r ih => exact .cons (keyIs_str e.1 e.2.1) rfl ih
  · rw [← rel.keys]
    exact nd

/-! ### len of a dict whose keys are tuples -/
theorem len_exact {prog : Program} {w : World} {A : Around} {E : Value → Shared → Prop} {s : Shared} {d : Addr} {o : Obj} {es : Array DictEntry} {ep : Nat} {Q : Value → Shared → Prop} (hd : (d == sysModules) = false) (e : s.heap.get? d = some o) (x : o.ExactDict)
    (hdat : o.data = .dict es ep) (fit : (es.size : Int) < 2 ^ 63) (h : Q (.int (es.size : Nat) (s.toks + 1)) { s with toks := s.toks + 1 + 1 }) : wpAny (model prog w) A (call (.builtin "len") [.ref d]) Q E s := by
  have ty : s.TypeIs (.ref d) "dict" := ⟨o, e, x.1⟩
  have m : MeetsIn prog w (Builtin.«dict.__len__» ⟨[.ref d], []⟩) (fun _ R s => s.heap.get? d = some o ∧ R (.ok (.ret (.int (es.size : Nat) s.toks))) { s with toks := s.toks + 1 }) :=
    .of_wp fun A R s ⟨e1, q⟩ => by
      show wpAny _ _ (dictSize d >>= _) _ _ s
      unfold dictSize
      refine wpAny_bind (wpAny_bind (wpAny_dictEntries e1 hdat (wpAny_pure ?_)))
      show wpAny _ _ (Builtin.Dict.pendingCount d >>= _) _ _ s
      exact wpAny_bind (wpAny_pendingCount_other hd (wpAny_ret_mkInt (by rw [Nat.add_zero]; exact q)))
  refine Calls.call_function_entry kind_len plain_len entry_len (args_len1 _) ?_
  unfold Builtin.«len»
  refine wpAny_bind (m := oneArg "len" _) (wpAny_pure (wpAny_bind (m := callSpecial? (.ref d) (Str.ofString "__len__")) (wpAny_callSpecial?_slot (name := Str.ofString "__len__") ty F.slot_dict_len
    (call_meetsIn F.slot_dict_len ty F.entry_dict_len (F.args_dict_len_1 _) m ⟨e, ?_⟩))))
  show wpAny _ _ _ _ _ { s with toks := s.toks + 1 }
  refine wpAny_bind (wpAny_holding (wpAny_pure (wpAny_bind (wpAny_letGo ?_))))
  show wpAny _ _ (if ((es.size : Nat) : Int) < 0 then _ else _) _ _ _
  rw [if_neg (by omega)]
  show wpAny _ _ (if ((es.size : Nat) : Int) ≥ 2 ^ 63 then _ else _) _ _ _
  rw [if_neg (by omega)]
  exact wpAny_bind (wpAny_mkInt (wpAny_pure ⟨_, rfl, h⟩))

theorem call_lenT : CallR X (.builtin "len") (fun xs H Q => ∃ a kvs, xs = [V.ref a] ∧ H a = some (.dT kvs) ∧ Q (.int kvs.length) H) := by
  intro pins s σ H xs us Q I r h
  obtain ⟨a, kvs, rfl, ha, q⟩ := h
  obtain ⟨u, rfl, ru⟩ := vals1 r
  cases ru
  obtain ⟨z, hd, ys, rel, o, es, ep, ho, hx, hdat, hes, hnd⟩ := I.hok a _ ha
  have hl : es.size = kvs.length := by
    have e1 := Paired.length rel
    have e2 : es.toList.length = ys.length := by rw [hes, List.length_map]
    rw [Array.length_toList] at e2
    omega
  refine len_exact hd ho hx hdat (by rw [hl]; rw [sizeLine_eq] at z; omega) ?_
  exact ⟨.int kvs.length, H, I.tok _, ⟨s.toks + 1, by rw [hl]⟩, q⟩
end
end L2

/-! sorted(xs) of a list that rises already: tuples of ints. -/
namespace L2
open PySem PySem.Spec PyProof.Rows

section
variable {prog : Program} {w : World} {A : Around} {E : Value → Shared → Prop} {s : Shared}

end

/-! ### tuples of ints -/
section
variable {prog : Program} {w : World} {A : Around} {s : Shared}
end

section
variable {X : Cx}
end
end L2

/-! Defs by their promise: what a caller needs of one; lists of tuples of ints. -/
namespace L2
open PySem PySem.Spec PyProof.Rows

def compChk (on : List (Str × NameKind)) (N : List Str) (names : List (Str × NameKind)) (NC : List Str) (x : Str) (i0 : Nat) (js : List (Option Nat)) : Bool :=
  names.all (fun y => decide (y.2 ≠ .free) || decide (on.lookup y.1 = some .cell)) && (names.all (fun y => decide (y.2 ≠ .cell)) && (names.all (fun y => decide (y.2 ≠ .local) || decide (names.lookup y.1 = some .local)) &&
  (decide (names.lookup x = some .local) && (decide NC.Nodup && (decide (NC[i0]? = some x) && (decide (js.length = NC.length) &&
  (List.range js.length).all (fun i => match js[i]? with
    | some (some j) => (match NC[i]? with | some y => decide (N[j]? = some y) && decide (names.lookup y = some .free) | none => false)
    | _ => true)))))))
theorem CompOk.of {X : Cx} {scope : Scope} {NC : List Str} {x : Str} {i0 : Nat} {js : List (Option Nat)} (on : List (Str × NameKind)) (N : List Str) (ho : X.env.scope.names = on) (hN : X.N = N) (hk : scope.kind = .function) (h : compChk on N scope.names NC x i0 js = true) :
    CompOk X scope NC x i0 js := by
  unfold compChk at h
  simp only [Bool.and_eq_true] at h
  obtain ⟨h1, h2, h3, h4, h5, h6, h7, h8⟩ := h
  refine ⟨fun y hy hf => ?_, fun y hy => of_decide_eq_true (List.all_eq_true.mp h2 y hy), hk, fun y hy hl => ?_, of_decide_eq_true h4, of_decide_eq_true h5, of_decide_eq_true h6, of_decide_eq_true h7, fun i j e => ?_⟩
  · have z := List.all_eq_true.mp h1 y hy
    rw [Bool.or_eq_true] at z
    rcases z with z | z
    · exact absurd hf (of_decide_eq_true z)
    · rw [ho]
      exact of_decide_eq_true z
  · have z := List.all_eq_true.mp h3 y hy
    rw [Bool.or_eq_true] at z
    rcases z with z | z
    · exact absurd hl (of_decide_eq_true z)
    · exact of_decide_eq_true z
  · have hi : i < js.length := (List.getElem?_eq_some_iff.mp e).1
    have z := List.all_eq_true.mp h8 i (List.mem_range.mpr hi)
    rw [e] at z
    cases hy : NC[i]? with
    | none => rw [hy] at z; exact absurd z (by simp)
    | some y =>
      rw [hy] at z
      have z' : (decide (N[j]? = some y) && decide (scope.names.lookup y = some .free)) = true := z
      rw [Bool.and_eq_true] at z'
      exact ⟨y, rfl, by rw [hN]; exact of_decide_eq_true z'.1, of_decide_eq_true z'.2⟩

theorem ifF {c : Bool} {A B : Prop} (h : c = false) (b : B) : if c = true then A else B := by
  rw [h]
  exact iteF b
theorem ifT {c : Bool} {A B : Prop} (h : c = true) (a : A) : if c = true then A else B := by
  rw [h]
  exact iteT a
theorem ifB {c : Bool} {A B : Prop} (h1 : c = true → A) (h2 : c = false → B) : if c = true then A else B := by
  cases c with
  | true => exact iteT (h1 rfl)
  | false => exact iteF (h2 rfl)

theorem pe_gref {X : Cx} {x : Str} {a : Addr} {pos : Pos} (hg : Gl X x) (hm : X.mg x = some (.ref a)) (hd : (x == ("__debug__" : Str)) = false := by decide) : PE X (.Name x pos) (tC (.ref a)) := pe_glob hg hm rfl hd
theorem pe_bty {X : Cx} {x : Str} {n : String} {pos : Pos} (hg : Gl X x) (hm : X.mg x = none) (hv : bootBuiltins x = some (.type n)) (hn : x ≠ "__name__" := by decide) (hd : (x == ("__debug__" : Str)) = false := by decide) :
    PE X (.Name x pos) (tC (.ty n)) := pe_bltn hg hm hv rfl hn hd

/-- what a caller needs of a def -/
structure Callee (P : Program) (w : World) (K : PySem.W.Frag) (mg : Str → Option Value) (base : Heap) (CX : CXT) (k : Nat) (x : Str) (ps : List Str) (sp : Sp) : Prop where
  ex : ∃ f fd, FnOk P w K mg base CX k f fd ps sp ∧ mg x = some (.ref f) ∧ PySem.W.keepIn K (.ref f) = true ∧ Binds K fd ps []
/-- a def as the top has left it -/
structure FunAt (K : PySem.W.Frag) (mg : Str → Option Value) (x : Str) (ps : List Str) (st : Stmt) : Prop where
  ex : ∃ f fd, Fun K x x st f fd ∧ mg x = some (.ref f) ∧ Binds K fd ps []

theorem FunAt.of {K : PySem.W.Frag} {h : Heap} {mg : Str → Option Value} {x : Str} {ps : List Str} {st : Stmt} {f : Addr} {oc : Value} {od an : Option Addr} {osl : Array (Option Value)} {kV doc pm cdv ct : Value} (KX : K.In h) (G : h.Ns mainGlobals mg)
    (a : PySem.W.nsIn K mainGlobals x = some (some (.ref f))) (l : K.lookup f = some ⟨oc, od, .func (PySem.W.fnOf x x (defArgs st) (defBody st) (defScope st) .none kV doc pm an cdv ct), osl⟩)
    (c : PySem.W.codeIn K cdv x = true) (k : PySem.W.keepIn K (.ref f) = true)
    (b : ∀ (kV doc pm : Value) (an : Option Addr) (cdv ct : Value) (us : List Value), us.length = ps.length → bindArgs (PySem.W.fnOf x x (defArgs st) (defBody st) (defScope st) .none kV doc pm an cdv ct) ⟨us, []⟩ = pure (ps.zip us)) :
    FunAt K mg x ps st := ⟨f, _, fun_mk (st := st) l c k, PySem.W.mg_of KX G a, (fun_mk (st := st) l c k).binds b⟩

section
variable {P : Program} {w : World} {K : PySem.W.Frag} {mg : Str → Option Value} {base : Heap}
theorem FunAt.ok {x : Str} {st : Stmt} {N ps : List Str} {k : Nat} {sp : Sp} (F : FunAt K mg x ps st) (S : FnScope N ps (defScope st)) (len : ∀ vs H Q E, sp vs H Q E → vs.length = ps.length)
    (hbody : ∀ (f : Addr) (cdv : Value) (A : Around) (outer : List Env) (s : Shared) (H : Hp) (vs : List V) (Q : VK) (E : XK), Room k (A.deeper (envOfC x (defScope st) s.heap.objs.size f cdv)) → sp vs H Q E →
      ∃ t, PSs (cxOf CX0 P w K mg base N x (defScope st) f cdv A outer s H E).nox (defBody st) t ∧ t { nx := fun _ H' => Q .non H', rt := Q } (start N vs) H) : Callee P w K mg base CX0 (k + 1) x ps sp := by
  obtain ⟨f, fd, F', m, b⟩ := F.ex
  exact ⟨f, fd, F'.ok S len (hbody f), m, F'.kp, b⟩
end
section
variable {X : Cx} {k : Nat} {ps : List Str} {sp : Sp} {x : Str} {p pos : Pos} {e : Expr} {es : List Expr} {t : TA}
theorem pe_callC (C : Callee X.prog X.w X.K X.mg X.base CX0 k x ps sp) (hr : Room k X.A) (hg : Gl X x) (ha : PA X (e :: es) t) (hdb : (x == ("__debug__" : Str)) = false := by decide) (he : starEach (e :: es) X.env = (false, eval e X.env) :: starEach es X.env := by rfl)
    (hpl : (backTo pos (starEach es X.env)).any (·.1) = false := by rfl) : PE X (.Call (.Name x p) (e :: es) [] pos) (tCall sp [] E0 t) := by
  obtain ⟨f, fd, F, m, kp, b⟩ := C.ex
  exact pe_call F hr hg m kp b .nil pass0 ha hdb he hpl
end

/-! ### heaps that grow -/
theorem Same.upd {H H' : Hp} {p : Addr} {o : HO} (s : Same H H') (hp : H p = none) : Same H (L2.upd H' p o) := fun b u e => by
  rw [upd_ne (ne_of_none e hp)]
  exact s b u e
theorem Same.upd' {H H' : Hp} {p : Addr} {o : HO} (s : Same H H') (hp : H' p = none) : Same H (L2.upd H' p o) := s.upd (s.free hp)
theorem Same.here {H : Hp} {p : Addr} {o : HO} (hp : H p = none) : Same H (L2.upd H p o) := (Same.refl H).upd hp
/-! ### a list of tuples of ints -/
theorem DRel.mono {H H' : Hp} (h : ∀ b xs, H b = some (.tup xs) → H' b = some (.tup xs)) {x : V} {d : DV} (r : DRel H x d) : DRel H' x d := by
  cases x with
  | ref p => obtain ⟨is, e, hp⟩ := r; exact ⟨is, e, h _ _ hp⟩
  | int i => exact r
  | bl b => exact r
  | _ => exact r.elim
theorem DRels.mono {H H' : Hp} (h : ∀ b xs, H b = some (.tup xs) → H' b = some (.tup xs)) {xs : List V} {ds : List DV} (r : DRels H xs ds) : DRels H' xs ds := Paired.mapP r fun _ _ z => z.mono h
theorem DRels.snoc {H : Hp} {xs : List V} {ds : List DV} {x : V} {d : DV} (r : DRels H xs ds) (z : DRel H x d) : DRels H (xs ++ [x]) (ds ++ [d]) := Paired.snoc r z
theorem DRels.ints (H : Hp) : ∀ is : List Int, DRels H (is.map V.int) (is.map DV.int)
  | [] => .nil
  | _ :: r => .cons rfl (DRels.ints H r)

/-- the list at l holds tuples: what they hold -/
structure TL (H : Hp) (l : Addr) (ts : List (List Int)) : Prop where
  ex : ∃ refs, H l = some (.lst refs) ∧ DRels H refs (ts.map DV.tup)
theorem TL.same {H H' : Hp} {l : Addr} {ts : List (List Int)} (T : TL H l ts) (s : Same H H') : TL H' l ts := by
  obtain ⟨refs, h, d⟩ := T.ex
  exact ⟨refs, s _ _ h, d.mono fun b xs e => s b _ e⟩
theorem TL.new {H : Hp} {l : Addr} : TL (upd H l (.lst [])) l [] := ⟨[], upd_same, .nil⟩
/-- a new tuple at p, then the list at l with it -/
theorem TL.push {H : Hp} {l p : Addr} {refs : List V} {ts : List (List Int)} {t : List Int} (h : H l = some (.lst refs)) (d : DRels H refs (ts.map DV.tup)) (hp : H p = none) :
    TL (L2.upd (L2.upd H p (.tup (t.map V.int))) l (.lst (refs ++ [.ref p]))) l (ts ++ [t]) := by
  have npl : p ≠ l := fun e => by rw [e, h] at hp; cases hp
  refine ⟨refs ++ [.ref p], upd_same, ?_⟩
  have m : ∀ b xs, H b = some (.tup xs) → (L2.upd (L2.upd H p (.tup (t.map V.int))) l (.lst (refs ++ [.ref p]))) b = some (.tup xs) := fun b xs e => by
    have nb : b ≠ l := fun z => by rw [z, h] at e; cases e
    rw [upd_ne nb, upd_ne (ne_of_none e hp)]
    exact e
  rw [List.map_append]
  exact (d.mono m).snoc ⟨t, rfl, by rw [upd_ne npl, upd_same]⟩
theorem DRels.len {H : Hp} {refs : List V} {ts : List (List Int)} (d : DRels H refs (ts.map DV.tup)) : refs.length = ts.length := by
  have := Paired.length d
  rwa [List.length_map] at this
theorem homII (ts us : List Int) : ∀ d ∈ ts.map DV.int, ∀ e ∈ us.map DV.int, hom d e = true := fun d hd e he => by
  obtain ⟨_, _, rfl⟩ := List.mem_map.mp hd
  obtain ⟨_, _, rfl⟩ := List.mem_map.mp he
  rfl
/-- an item of such a list -/
theorem TL.at_ {H : Hp} {refs : List V} {ts : List (List Int)} (d : DRels H refs (ts.map DV.tup)) {i : Nat} {y : V} (h : refs[i]? = some y) : ∃ p t, y = .ref p ∧ ts[i]? = some t ∧ H p = some (.tup (t.map V.int)) := by
  have l := d.len
  have hi : i < refs.length := (List.getElem?_eq_some_iff.mp h).1
  have e : ts[i]? = some ts[i] := List.getElem?_eq_getElem (by omega)
  have z := Paired.at_ d h (show (ts.map DV.tup)[i]? = some (DV.tup ts[i]) by rw [List.getElem?_map, e]; rfl)
  cases y with
  | ref p => obtain ⟨is, q, hp⟩ := z; cases q; exact ⟨p, _, rfl, e, hp⟩
  | int j => cases (show DV.tup ts[i] = .int j from z)
  | bl b => cases (show DV.tup ts[i] = .bl b from z)
  | _ => exact z.elim
end L2

/-! The forms of a comprehension that one uses. -/
namespace L2
open PySem PySem.Spec PyProof.Rows
def cW (n : Nat) (Pv : Nat → Hp → Prop) : Nat → Nat → Hp → Prop := fun i m H => (i ≤ n ∧ Pv i H) ∧ m = n - i
theorem cW.nx {n i : Nat} {Pv : Nat → Hp → Prop} {H : Hp} (hi : i < n) (p : Pv (i + 1) H) : ∃ m', m' < n - i ∧ cW n Pv (i + 1) m' H := ⟨n - (i + 1), by omega, ⟨hi, p⟩, rfl⟩

section
variable {K : PySem.W.Frag} {a acc : Addr} {xs : List V} {tt : TT} {te : TE} {σc : St} {i0 : Nat} {H : Hp} {F : Addr → Hp → Prop}
theorem comp_list (Pv : Nat → Hp → Prop) (h0 : Pv 0 (upd H acc (.lst []))) (hl : ∀ i H, Pv i H → SqL K H a xs)
    (hs : ∀ i x H, xs[i]? = some x → i < xs.length → Pv i H → tt (σc.set i0 (some x)) H fun b H4 =>
      if b = true then te (σc.set i0 (some x)) H4 fun y H5 => ∃ zs, H5 acc = some (.lst zs) ∧ zs.length < sizeLine ∧ ∃ m', m' < xs.length - i ∧ cW xs.length Pv (i + 1) m' (upd H5 acc (.lst (zs ++ [y])))
      else ∃ m', m' < xs.length - i ∧ cW xs.length Pv (i + 1) m' H4) (hd : ∀ H, Pv xs.length H → F acc H) :
    CompW (Itl K a) tt te σc i0 acc H F := by
  refine ⟨cW xs.length Pv, ⟨_, ⟨Nat.zero_le _, h0⟩, rfl⟩, fun i m H2 ⟨⟨hi, p⟩, e⟩ => ?_⟩
  subst e
  have sq := hl i H2 p
  by_cases lt : i < xs.length
  · refine .inr ⟨⟨xs, xs[i], sq, List.getElem?_eq_getElem lt⟩, fun x H3 ⟨e3, hx⟩ => ?_⟩
    subst e3
    exact hs i x H3 (hx xs sq) lt p
  · have e : i = xs.length := by omega
    subst e
    exact .inl ⟨⟨xs, sq, Nat.le_refl _⟩, hd H2 p⟩
theorem comp_range {lo : Int} {n : Nat} (Pv : Nat → Hp → Prop) (h0 : Pv 0 (upd H acc (.lst [])))
    (hs : ∀ i H, i < n → Pv i H → tt (σc.set i0 (some (.int (lo + i)))) H fun b H4 =>
      if b = true then te (σc.set i0 (some (.int (lo + i)))) H4 fun y H5 => ∃ zs, H5 acc = some (.lst zs) ∧ zs.length < sizeLine ∧ ∃ m', m' < n - i ∧ cW n Pv (i + 1) m' (upd H5 acc (.lst (zs ++ [y])))
      else ∃ m', m' < n - i ∧ cW n Pv (i + 1) m' H4) (hd : ∀ H, Pv n H → F acc H) :
    CompW (Itr lo n) tt te σc i0 acc H F := by
  refine ⟨cW n Pv, ⟨_, ⟨Nat.zero_le _, h0⟩, rfl⟩, fun i m H2 ⟨⟨hi, p⟩, e⟩ => ?_⟩
  subst e
  by_cases lt : i < n
  · refine .inr ⟨lt, fun x H3 ⟨e3, hx⟩ => ?_⟩
    subst e3 hx
    exact hs i H3 lt p
  · have e : i = n := by omega
    subst e
    exact .inl ⟨Nat.le_refl _, hd H2 p⟩
end
end L2
namespace L2
open PySem PySem.Spec PyProof.Rows
theorem pe_gint {X : Cx} {x : Str} {n : Int} {pos : Pos} (hg : Gl X x) (hm : ∃ t, X.mg x = some (.int n t)) (hd : (x == ("__debug__" : Str)) = false := by decide) : PE X (.Name x pos) (tC (.int n)) := by
  obtain ⟨t, hm⟩ := hm
  exact pe_glob hg hm ⟨t, rfl⟩ hd
end L2

/-! sum and any of a list; a dict of the module with ints as keys; lists of lists; a promise that asks nothing. -/
namespace L2
open PySem PySem.Spec PyProof.Rows
theorem Vals.intsAre : ∀ {is : List Int} {its : List Value}, Vals (is.map V.int) its → IntsAre its is
  | [], _, .nil => .nil
  | i :: is, _, .cons r t => by
    obtain ⟨tk, rfl⟩ := (show ∃ t, _ = Value.int i t from r)
    exact .cons i tk (Vals.intsAre t)
theorem Vals.bools_at {bs : List Bool} {its : List Value} (r : Vals (bs.map V.bl) its) {j : Nat} {v : Value} (h : its[j]? = some v) : ∃ b, bs[j]? = some b ∧ v = Value.bool b := by
  have hl := r.length
  rw [List.length_map] at hl
  have hj : j < its.length := (List.getElem?_eq_some_iff.mp h).1
  obtain ⟨u, e, ru⟩ := r.get (i := j) (x := V.bl (bs[j]'(by omega))) (by rw [List.getElem?_map, List.getElem?_eq_getElem (by omega)]; rfl)
  rw [h] at e
  cases e
  exact ⟨_, List.getElem?_eq_getElem (by omega), ru⟩
section
variable {X : Cx}
theorem call_sumL (hc : X.calm = true) : CallR X (.builtin "sum") (fun xs H Q => ∃ (p : Addr) (is : List Int), xs = [.ref p] ∧ SqL X.K H p (is.map V.int) ∧ Q (.int is.sum) H) := by
  intro pins s σ H xs us Q I r h
  obtain ⟨p, is, rfl, hq, q⟩ := h
  obtain ⟨u, rfl, rx⟩ := vals1 r
  cases rx
  obtain ⟨its, r', pl, hz⟩ := I.list hq
  have ia := r'.intsAre
  obtain ⟨ys, e⟩ := ia.allInts.items
  have hl := pl.isList
  rw [e] at hl
  refine sum_intListG (I.ok.hd hc) hl fun h' tk t' k => ⟨.int is.sum, H, I.kept k, ⟨t', ?_⟩, q⟩
  have e2 : numsOf its = is := ia.numsOf
  have e3 : its = (intItems ys).toList := by rw [← e]
  rw [e3, nums_intItems] at e2
  rw [preSum_eq, List.take_of_length_le (by simp), e2]
theorem call_anyL (hc : X.calm = true) : CallR X (.builtin "any") (fun xs H Q => ∃ (p : Addr) (bs : List Bool), xs = [.ref p] ∧ SqL X.K H p (bs.map V.bl) ∧ Q (.bl (bs.any id)) H) := by
  intro pins s σ H xs us Q I r h
  obtain ⟨p, bs, rfl, hq, q⟩ := h
  obtain ⟨u, rfl, rx⟩ := vals1 r
  cases rx
  obtain ⟨its, r', pl, hz⟩ := I.list hq
  have hl := pl.isList
  have hlt : p < s.heap.objs.size := by obtain ⟨_, e, _⟩ := hl; exact Heap.lt_size e
  have hlen : bs.length = its.length := by have := r'.length; rwa [List.length_map] at this
  refine call_any_walk (wpAny_pyIter_list hl ?_)
  refine ⟨_, _, _, _, _, _, (fun j => (bs[j]?).getD false), rfl, Walks.list (A := X.A.in1) (I.ok.hd hc) _ p (Nat.ne_of_lt hlt) its.toArray, ⟨⟨_, Heap.get?_push_size _ rfl, rfl, rfl⟩, hl.push _⟩, ?_, fun h' tk hk => ?_⟩
  · intro i v s' Q' E' hP hQ
    have hP' : its[i]? = some v := by simpa using hP
    obtain ⟨b, hb, rfl⟩ := r'.bools_at hP'
    have hQ' : Q' ((bs[i]?).getD false) s' := hQ
    rw [hb] at hQ'
    exact wpAny_truthy_bool hQ'
  · have k := old_kept (l := p) hk
    refine ⟨.bl (bs.any id), H, I.kept k, ?_, q⟩
    have e2 : (List.range its.toArray.size).any (fun j => (bs[j]?).getD false) = bs.any id := by
      rw [show its.toArray.size = bs.length by rw [List.size_toArray, hlen], ← any_rangeD bs id]
      rfl
    exact congrArg Value.bool e2
end
theorem kd_mkI {K : PySem.W.Frag} {P : Program} {w : World} {a : Addr} {ep : Nat} (ents : List (Int × Tok × Value)) (kvs : List (Key × V))
    (l : K.lookup a = some ⟨.type "dict", none, .dict (ents.map fun e => (⟨hashInt e.1, .int e.1 e.2.1, e.2.2⟩ : DictEntry)).toArray ep, #[]⟩)
    (rel : KV kvs (ents.map fun e => ((Sum.inl e.1 : Key), e.2.2))) (nd : (kvs.map (·.1)).Nodup) (ne : (a == sysModules) = false) : KD K P w a kvs := by
  refine ⟨fun h kin => ⟨_, rel, _, _, ep, kin a _ l, ⟨rfl, rfl, rfl⟩, rfl, ?_, ?_, ?_⟩, ne⟩
  · intro e he
    have he' : e ∈ ents.map fun e => (⟨hashInt e.1, .int e.1 e.2.1, e.2.2⟩ : DictEntry) := by simpa using he
    obtain ⟨t, _, rfl⟩ := List.mem_map.mp he'
    exact ⟨.inl t.1, keyIs_int t.1 t.2.1, rfl⟩
  · show Pairs (mixKind P w) (List.toArray _).toList _
    rw [List.toList_toArray]
    clear l rel nd
    induction ents with
    | nil => exact .nil
    | cons e r ih => exact .cons (keyIs_int e.1 e.2.1) rfl ih
  · rw [← rel.keys]
    exact nd
section
variable {P : Program} {w : World} {K : PySem.W.Frag} {mg : Str → Option Value} {base : Heap}
def spNever : Sp := fun _ _ _ _ => False
theorem FunAt.never {x : Str} {st : Stmt} {ps : List Str} (F : FunAt K mg x ps st) (k : Nat) : Callee P w K mg base CX0 k x ps spNever := by
  obtain ⟨f, fd, F', m, b⟩ := F.ex
  exact ⟨f, fd, ⟨fun _ _ _ _ h => h.elim, fun _ _ _ _ _ _ _ _ _ _ _ _ _ h => h.elim⟩, m, F'.kp, b⟩
theorem Callee.imp {k : Nat} {x : Str} {ps : List Str} {sp sp' : Sp} (C : Callee P w K mg base CX0 k x ps sp) (h : ∀ vs H Q E, sp' vs H Q E → sp vs H Q E) : Callee P w K mg base CX0 k x ps sp' := by
  obtain ⟨f, fd, F, m, kp, b⟩ := C.ex
  exact ⟨f, fd, F.imp h, m, kp, b⟩
end
/-! ### lists of lists of ints, each made since H0 -/
def ILr (H0 H : Hp) (v : V) (xs : List Int) : Prop := ∃ p, v = .ref p ∧ H0 p = none ∧ H p = some (.lst (xs.map V.int))
abbrev ILs (H0 H : Hp) : List V → List (List Int) → Prop := Paired (ILr H0 H)
structure IL (H0 H : Hp) (l : Addr) (xss : List (List Int)) : Prop where
  ex : ∃ refs, H l = some (.lst refs) ∧ ILs H0 H refs xss
theorem ILs.same {H0 H H' : Hp} {refs : List V} {xss : List (List Int)} (r : ILs H0 H refs xss) (s : Same H H') : ILs H0 H' refs xss := Paired.mapP r fun _ _ ⟨p, e, f, h⟩ => ⟨p, e, f, s _ _ h⟩
theorem ILs.len {H0 H : Hp} {refs : List V} {xss : List (List Int)} (r : ILs H0 H refs xss) : refs.length = xss.length := Paired.length r
theorem ILs.snoc {H0 H : Hp} {refs : List V} {xss : List (List Int)} {v : V} {xs : List Int} (r : ILs H0 H refs xss) (z : ILr H0 H v xs) : ILs H0 H (refs ++ [v]) (xss ++ [xs]) := Paired.snoc r z
theorem ILs.at_ {H0 H : Hp} {refs : List V} {xss : List (List Int)} (r : ILs H0 H refs xss) {i : Nat} {y : V} (h : refs[i]? = some y) : ∃ p xs, y = .ref p ∧ xss[i]? = some xs ∧ H0 p = none ∧ H p = some (.lst (xs.map V.int)) := by
  have l := r.len
  have hi : i < refs.length := (List.getElem?_eq_some_iff.mp h).1
  have e : xss[i]? = some xss[i] := List.getElem?_eq_getElem (by omega)
  obtain ⟨p, e1, f, e2⟩ := Paired.at_ r h e
  exact ⟨p, _, e1, e, f, e2⟩
/-- lists that are not the one at acc -/
def ILa (acc : Addr) (H0 H : Hp) (v : V) (xs : List Int) : Prop := ∃ p, v = .ref p ∧ p ≠ acc ∧ H0 p = none ∧ H p = some (.lst (xs.map V.int))
theorem ILa.ils {acc : Addr} {H0 H : Hp} {refs : List V} {xss : List (List Int)} (r : Paired (ILa acc H0 H) refs xss) : ILs H0 H refs xss := Paired.mapP r fun _ _ ⟨p, e, _, f, h⟩ => ⟨p, e, f, h⟩
/-! ### a list of lists of tuples, by place -/
structure EL (H : Hp) (l : Addr) (ls : List Addr) (tss : Nat → List (List Int)) : Prop where
  at_ : H l = some (.lst (ls.map V.ref))
  nd : ls.Nodup
  out : l ∉ ls
  tl : ∀ j a, ls[j]? = some a → TL H a (tss j)
theorem EL.same {H H' : Hp} {l : Addr} {ls : List Addr} {tss : Nat → List (List Int)} (E : EL H l ls tss) (s : Same H H') : EL H' l ls tss := ⟨s _ _ E.at_, E.nd, E.out, fun j a h => (E.tl j a h).same s⟩
theorem EL.ref {H : Hp} {l : Addr} {ls : List Addr} {tss : Nat → List (List Int)} (_ : EL H l ls tss) {j : Nat} {a : Addr} (h : ls[j]? = some a) : (ls.map V.ref)[j]? = some (.ref a) := by
  rw [List.getElem?_map, h]
  rfl
/-- one of them with a tuple more -/
theorem EL.push {H : Hp} {l p : Addr} {ls : List Addr} {tss tss' : Nat → List (List Int)} {j : Nat} {a : Addr} {zs : List V} {t : List Int} (E : EL H l ls tss) (hj : ls[j]? = some a) (ez : H a = some (.lst zs)) (dz : DRels H zs ((tss j).map DV.tup))
    (hp : H p = some (.tup (t.map V.int))) (h1 : tss' j = tss j ++ [t]) (h2 : ∀ i, i ≠ j → tss' i = tss i) : EL (upd H a (.lst (zs ++ [.ref p]))) l ls tss' := by
  have am : a ∈ ls := List.mem_of_getElem? hj
  have nl : l ≠ a := fun e => E.out (by rw [e]; exact am)
  have mo : ∀ b xs, H b = some (.tup xs) → (upd H a (.lst (zs ++ [.ref p]))) b = some (.tup xs) := fun b xs e => by
    have nb : b ≠ a := fun z => by rw [z, ez] at e; cases e
    rw [upd_ne nb]
    exact e
  refine ⟨by rw [upd_ne nl]; exact E.at_, E.nd, E.out, fun i b hb => ?_⟩
  by_cases e : i = j
  · subst e
    have eb : b = a := Option.some.inj (hb.symm.trans hj)
    subst eb
    rw [h1]
    refine ⟨zs ++ [.ref p], upd_same, ?_⟩
    rw [List.map_append]
    exact (dz.mono mo).snoc ⟨_, rfl, mo _ _ hp⟩
  · have nb : b ≠ a := fun z => by
      subst z
      have l1 := (List.getElem?_eq_some_iff.mp hb)
      have l2 := (List.getElem?_eq_some_iff.mp hj)
      obtain ⟨q1, q2⟩ := l1
      obtain ⟨q3, q4⟩ := l2
      exact e ((List.getElem_inj E.nd).mp (q2.trans q4.symm))
    obtain ⟨refs, er, dr⟩ := (E.tl i b hb).ex
    rw [h2 i e]
    exact ⟨refs, by rw [upd_ne nb]; exact er, dr.mono mo⟩
/-! ### readings by name (within a comprehension's block the context is bound) -/
theorem yesT {σ : St} {H : Hp} {A B : Hp → Prop} (h : A H) : tYes σ H (fun b H4 => if b = true then A H4 else B H4) := by
  show if true = true then A H else B H
  exact iteT h
end L2

/-! xs < ys of two lists of ints. -/
namespace L2
open PySem PySem.Spec PyProof.Rows
section
open PySem.AutoSeq1 (wpAny_loadPart')
open PySem.MeetsSeq PySem.MeetsSeq2 PySem.MeetsSeq3 PySem.SeqAt HT
end
end L2

/-! for a, b in zip(xs, ys), both lists. -/
namespace L2
open PySem PySem.Spec PyProof.Rows
section
variable {X : Cx} {pins : List (Addr × Obj)} {σ : St} {H : Hp} {s : Shared} {h' : Heap}
end
section
variable {X : Cx} {elts : List Expr} {x1 : Nat} {tp : Pos}
end
theorem ifN {c : Bool} {U : Prop} {N : St → Hp → Prop} {σ : St} {H : Hp} (I : St → Hp → Prop) (rest : ∀ σ H, I σ H → N σ H) (h1 : c = true → (∀ σ H, I σ H → N σ H) → U) (h2 : c = false → I σ H) : if c = true then U else N σ H := by
  cases c with
  | true => exact iteT (h1 rfl rest)
  | false => exact iteF (rest _ _ (h2 rfl))
end L2

/-! An error in flight: its note of a frame, its context kept in sight. -/
namespace L2
open PySem PySem.Spec PyProof.Rows
/-- the error at e: of class cls, with no context; its newest entry's mark is fl -/
def Fly (B : Heap) (e : Addr) (cls : Value) (fl : Value) (h : Heap) : Prop :=
  ∃ oe vs T oT ts, h.get? e = some oe ∧ oe.cls = cls ∧ oe.dict = none ∧ oe.data = .fields vs ∧ vs[2]? = some .none ∧ vs[1]? = some (.ref T) ∧ B.get? T = none ∧ T ≠ e ∧ h.get? T = some oT ∧ oT.data = .fields ts ∧ ts[3]? = some fl
/-- .. or none is noted yet -/
def Pre (B : Heap) (e : Addr) (cls : Value) (h : Heap) : Prop :=
  Fly B e cls .none h ∨ ∃ oe vs, h.get? e = some oe ∧ oe.cls = cls ∧ oe.dict = none ∧ oe.data = .fields vs ∧ vs[2]? = some .none ∧ vs[1]? = some .none
theorem dict_mapFields (f : Array Value → Array Value) (o : Obj) : (Obj.mapFields f o).dict = o.dict := by
  unfold Obj.mapFields
  split <;> rfl
section
variable {M : Model} {A : Around} {E : Value → Shared → Prop} {s : Shared} {B : Heap} {env : Env} {outer : List Env} {L e : Addr}
theorem entry2 {oe : Obj} {vs : Array Value} {head : Value} {nx : Bool} {Q : Unit → Shared → Prop} (hfr : A.frames = some (env :: outer)) (hl : s.heap.FunFrames B (env :: outer)) (hf : env.frame = some L) (he : s.heap.get? e = some oe) (hdi : oe.dict = none) (hd : oe.data = .fields vs)
    (h2 : vs[2]? = some .none) (hkb : B.StaysIn s.heap) (hen : B.get? e = none) (h : ∀ h', B.StaysIn h' → h'.FunFrames B (env :: outer) → Fly B e oe.cls (rawInt L) h' → s.heap.UpToSlots h' → Q () { s with heap := h' }) :
    wpAny M A (do let a ← frameOf env; let pl ← entryPlaceOf L nx; let b ← EntryCells.newEntry head a .none (rawInt L) .none pl; setField (.ref e) 1 b) Q E s := by
  have sz2 : 2 < vs.size := (Array.getElem?_eq_some_iff.mp h2).1
  have efr : e ∉ (env :: outer).filterMap (·.frame) := fun m => by
    obtain ⟨_, o, ho, nf⟩ := hl.mem m
    rw [he] at ho
    cases ho
    exact nf vs hd
  refine wpAny_bind (wpAny_frameOf_fun hfr hl hf fun h1 so => wpAny_bind (wpAny_entryPlaceOf fun pl hpl => ?_))
  unfold EntryCells.newEntry newFields
  refine wpAny_bind (wpAny_newObj_type ?_ (hpl.sizeOk5 _ _ _ _ _))
  generalize hob : ({ cls := .type "traceback", dict := none, data := .fields ([head, .ref L, .none, rawInt L, .none] ++ (if pl.isEmpty then List.replicate 6 Value.none else pl)).toArray } : Obj) = ob
  have e1 : h1.get? e = some oe := (so.2.1 e efr).trans he
  have b1 : ∀ b o, B.get? b = some o → h1.get? b = some o := fun b o q => (so.2.1 b fun m => by rw [(hl.mem m).1] at q; cases q).trans (hkb b o q)
  have nT : h1.objs.size ≠ e := Nat.ne_of_gt (Heap.lt_size e1)
  have e2 := Heap.get?_push_of_some ob e1
  refine wpAny_setField e2 hd (by omega) ?_
  have d3 := Obj.data_mapFields hd (·.setIfInBounds 1 (Value.ref h1.objs.size))
  have e3 := Heap.get?_update_self (Obj.mapFields (·.setIfInBounds 1 (Value.ref h1.objs.size))) e2 (Obj.isFreed_of_fields d3)
  have keep : ∀ b o, b ≠ e → h1.get? b = some o → ((h1.push ob).update e (Obj.mapFields (·.setIfInBounds 1 (Value.ref h1.objs.size)))).get? b = some o := fun b o ne q => by
    rw [Heap.get?_update_other _ _ (Ne.symm ne)]
    exact Heap.get?_push_of_some _ q
  have rec_ : ∀ b o, s.heap.get? b = some o → (∀ ws, o.data ≠ .fields ws) → b ≠ e := fun b o q nf z => by
    rw [z, he] at q
    cases q
    exact nf vs hd
  refine h _ (fun b o q => keep b o (fun z => by rw [z, hen] at q; cases q) (b1 b o q)) (hl.of_keeps fun b o q nf => ?_) ?_ fun b o q nf => ?_
  · obtain ⟨sl, hs⟩ := so.2.2 b o q
    exact ⟨_, keep b _ (rec_ b o q nf) hs, rfl⟩
  · refine ⟨_, _, h1.objs.size, ob, _, e3, Obj.cls_mapFields _ _, (dict_mapFields _ _).trans hdi, d3, by rw [Array.getElem?_setIfInBounds_ne (by decide)]; exact h2, ?v1, ?_, nT, ?_, by rw [← hob], ?_⟩
    case v1 => rw [Array.getElem?_setIfInBounds_self_of_lt (by omega)]
    · cases q : B.get? h1.objs.size with
      | none => rfl
      | some o => exact absurd (Heap.lt_size (b1 _ o q)) (Nat.lt_irrefl _)
    · rw [Heap.get?_update_other _ _ (Ne.symm nT)]
      exact Heap.get?_push_size h1 (by rw [← hob]; rfl)
    · simp
  · obtain ⟨sl, hs⟩ := so.2.2 b o q
    exact ⟨sl, keep b _ (rec_ b o q nf) hs⟩

theorem note2 {cls : Value} {Q : Unit → Shared → Prop} (hfr : A.frames = some (env :: outer)) (hl : s.heap.FunFrames B (env :: outer)) (hf : env.frame = some L) (pre : Pre B e cls s.heap) (hkb : B.StaysIn s.heap) (hen : B.get? e = none)
    (h : ∀ h', B.StaysIn h' → h'.FunFrames B (env :: outer) → Fly B e cls (rawInt L) h' → s.heap.UpToSlots h' → Q () { s with heap := h' }) : wpAny M A (noteFrame (.ref e) env) Q E s := by
  unfold noteFrame
  simp only [hf]
  rcases pre with ⟨oe, vs, T, oT, ts, he, hc, hdi, hd, h2, h1, hnT, hTe, hT, hdT, h3⟩ | ⟨oe, vs, he, hc, hdi, hd, h2, h1⟩
  · subst hc
    refine wpAny_bind (wpAny_field he hd h1 ?_)
    rw [if_pos (show (Value.ref T != Value.none) = true from by simp)]
    refine wpAny_bind (wpAny_field hT hdT h3 ?_)
    rw [if_neg (show ¬ ((Value.none == rawInt L) = true) from by simp [rawInt])]
    refine wpAny_bind (wpAny_setField hT hdT (Array.getElem?_eq_some_iff.mp h3).1 ?_)
    have oth : ∀ b, b ≠ T → (s.heap.update T (Obj.mapFields (·.setIfInBounds 3 Value.none))).get? b = s.heap.get? b := fun b hb => Heap.get?_update_other _ _ (Ne.symm hb)
    have rec_ : ∀ b o, s.heap.get? b = some o → (∀ ws, o.data ≠ .fields ws) → b ≠ T := fun b o q nf z => by
      rw [z, hT] at q
      cases q
      exact nf ts hdT
    exact entry2 (s := { s with heap := s.heap.update T (Obj.mapFields (·.setIfInBounds 3 Value.none)) }) hfr (hl.of_keeps fun b o q nf => ⟨o, (oth b (rec_ b o q nf)).trans q, rfl⟩) hf ((oth e (Ne.symm hTe)).trans he) hdi hd h2
      (fun b o q => (oth b fun z => by rw [z, hnT] at q; cases q).trans (hkb b o q)) hen fun h' k1 k2 k3 k4 => h h' k1 k2 k3 fun b o q nf => k4 b o ((oth b (rec_ b o q nf)).trans q) nf
  · subst hc
    refine wpAny_bind (wpAny_field he hd h1 ?_)
    rw [if_neg (by decide)]
    exact entry2 hfr hl hf he hdi hd h2 hkb hen h

theorem land2 {cls fl : Value} {l : List Env} {Q : Unit → Shared → Prop} (hl : s.heap.FunFrames B l) (fly : Fly B e cls fl s.heap) (hkb : B.StaysIn s.heap)
    (h : ∀ h', B.StaysIn h' → h'.FunFrames B l → Fly B e cls .none h' → s.heap.UpToSlots h' → Q () { s with heap := h' }) : wpAny M A (setFlight (.ref e) none) Q E s := by
  obtain ⟨oe, vs, T, oT, ts, he, hc, hdi, hd, h2, h1, hnT, hTe, hT, hdT, h3⟩ := fly
  have sz3 : 3 < ts.size := (Array.getElem?_eq_some_iff.mp h3).1
  unfold setFlight
  refine wpAny_bind (wpAny_field he hd h1 ?_)
  rw [if_pos (show (Value.ref T != Value.none) = true from by simp)]
  refine wpAny_setField hT hdT sz3 ?_
  have oth : ∀ b, b ≠ T → (s.heap.update T (Obj.mapFields (·.setIfInBounds 3 ((none : Option Addr).elim Value.none fun f => rawInt f)))).get? b = s.heap.get? b := fun b hb => Heap.get?_update_other _ _ (Ne.symm hb)
  have rec_ : ∀ b o, s.heap.get? b = some o → (∀ ws, o.data ≠ .fields ws) → b ≠ T := fun b o q nf z => by
    rw [z, hT] at q
    cases q
    exact nf ts hdT
  have d4 := Obj.data_mapFields hdT (·.setIfInBounds 3 ((none : Option Addr).elim Value.none fun f => rawInt f))
  refine h _ (fun b o q => (oth b fun z => by rw [z, hnT] at q; cases q).trans (hkb b o q)) (hl.of_keeps fun b o q nf => ⟨o, (oth b (rec_ b o q nf)).trans q, rfl⟩) ?_ fun b o q nf => ⟨o.slots, (oth b (rec_ b o q nf)).trans q⟩
  exact ⟨oe, vs, T, _, _, (oth e (Ne.symm hTe)).trans he, hc, hdi, hd, h2, h1, hnT, hTe, Heap.get?_update_self _ hT (Obj.isFreed_of_fields d4), d4, by simp [sz3]⟩

theorem leave2 {cls : Value} {Q : Unit → Shared → Prop} (hfr : A.frames = some (env :: outer)) (hl : s.heap.FunFrames B (env :: outer)) (hf : env.frame = some L) (pre : Pre B e cls s.heap) (hkb : B.StaysIn s.heap) (hen : B.get? e = none)
    (h : ∀ h', B.StaysIn h' → h'.FunFrames B (env :: outer) → Fly B e cls .none h' → s.heap.UpToSlots h' → Q () { s with heap := h' }) : wpAny M A (leaving env (.ref e)) Q E s := by
  unfold leaving
  refine wpAny_bind (note2 hfr hl hf pre hkb hen fun h' k1 k2 k3 k4 => ?_)
  exact land2 (s := { s with heap := h' }) k2 k3 k1 fun h'' k5 k6 k7 k8 => h h'' k5 k6 k7 (k4.trans k8)
end
end L2

/-! An error that leaves a def: how it lies behind the call, and its way up. -/
namespace L2
open PySem PySem.Spec PyProof.Rows
theorem ObjOk.there {P : Program} {w : World} {H : Hp} {h : Heap} {a : Addr} {o : HO} (x : ObjOk P w H h a o) : ∃ ob, h.get? a = some ob := by
  cases o with
  | lst xs => obtain ⟨_, _, _, _, e⟩ := x; exact ⟨_, e⟩
  | tup xs => obtain ⟨_, _, _, ob, e, _⟩ := x; exact ⟨_, e⟩
  | dK kvs => obtain ⟨_, _, _, _, o, _, _, e, _⟩ := x; exact ⟨_, e⟩
  | dT kvs => obtain ⟨_, _, _, _, o, _, _, e, _⟩ := x; exact ⟨_, e⟩
  | set S n => obtain ⟨o, _, _, _, e, _⟩ := x; exact ⟨_, e⟩
  | ins C dx fs => obtain ⟨_, _, _, e, _⟩ := x; exact ⟨_, e⟩
  | own y => exact x
  | xd fs => obtain ⟨_, ⟨_, _, _, e, _⟩, _⟩ := x; exact ⟨_, e⟩
  | rng lo hi => obtain ⟨_, _, _, e⟩ := x; exact ⟨_, e⟩
  | frz ob u => exact ⟨_, x.1⟩
  | tbl ps => exact ⟨_, x⟩
  | met f y => exact ⟨_, x⟩
  | ext φ => exact x.2.1
/-- how an error of an own class lies behind a call -/
structure Up (P : Program) (w : World) (outer : List Env) (H : Hp) (s : Shared) (ea C : Addr) (H' : Hp) (B : Heap) (s' : Shared) : Prop where
  os : s'.os = s.os
  bare : AllBare s'.gens
  un : Un (frs outer) [] H H' s.heap s'.heap
  hok : HOk P w H' s'.heap
  stays : B.StaysIn s'.heap
  new : B.get? ea = none
  frames : s'.heap.FunFrames B outer
  fly : Fly B ea (.ref C) .none s'.heap
  inB : ∀ b u ob, H' b = some u → s'.heap.get? b = some ob → B.get? b = some ob
  old : ∀ b o ob, s.heap.get? b = some o → b ∉ frs outer → s'.heap.get? b = some ob → B.get? b = some ob
def CXR (P : Program) (w : World) : CXT := fun outer H s E e s' => ∃ ea C H' B, e = .ref ea ∧ Up P w outer H s ea C H' B s' ∧ E (.ref C) none H'
theorem Up.free {P : Program} {w : World} {outer : List Env} {H : Hp} {s : Shared} {ea C : Addr} {H' : Hp} {B : Heap} {s' : Shared} (U : Up P w outer H s ea C H' B s') : H' ea = none := by
  cases q : H' ea with
  | none => rfl
  | some u =>
    obtain ⟨ob, e⟩ := (U.hok ea u q).there
    have := U.inB ea u ob q e
    rw [U.new] at this
    cases this
section
variable {X : Cx} {pins : List (Addr × Obj)} {σ : St} {H : Hp} {s : Shared} {B h' : Heap} {ea C : Addr}
/-- from a state of this body, an error flying: what the caller sees -/
theorem up_of (hst : X.stack = X.env :: X.outer) (hex : X.ex = []) (I : Inv X pins σ H s) (inB : ∀ b u ob, H b = some u → s.heap.get? b = some ob → B.get? b = some ob)
    (old : ∀ b o ob, X.s₀.heap.get? b = some o → b ∉ X.fs → s.heap.get? b = some ob → B.get? b = some ob) (stays : B.StaysIn h') (new : B.get? ea = none) (frames : h'.FunFrames B (X.env :: X.outer)) (fly : Fly B ea (.ref C) .none h') (up : s.heap.UpToSlots h') :
    Up X.prog X.w X.outer X.H₀ X.s₀ ea C H B { s with heap := h' } where
  os := I.os
  bare := I.bare
  un := by
    have nx : ∀ b : Addr, b ∉ X.ex := fun b => by rw [hex]; simp
    have keep : ∀ b o, X.s₀.heap.get? b = some o → b ∉ X.fs → ∀ o', s.heap.get? b = some o' → h'.get? b = some o' := fun b o q nf o' q' => stays b o' (old b o o' q nf q')
    have slot : ∀ b o, X.s₀.heap.get? b = some o → X.H₀ b = none → b ∈ X.fs → ∃ sl, h'.get? b = some { o with slots := sl } := fun b o q n hb => by
      obtain ⟨sl, e1⟩ := I.base.slot b o q n hb (nx b)
      obtain ⟨_, o2, e2, nd⟩ := I.ok.funs.mem hb
      rw [q] at e2
      cases e2
      obtain ⟨sl', e3⟩ := up b _ e1 nd
      exact ⟨sl', e3⟩
    exact {
      keep := fun b o q n hb _ => keep b o q hb o (I.base.keep b o q n hb (nx b))
      slot := fun b o q n hb _ => slot b o q n hb
      free := fun b o q n _ => I.base.free b o q n (nx b)
      there := fun b o q _ => by
        by_cases hb : b ∈ X.fs
        · obtain ⟨sl, e⟩ := slot b o q (I.ok.frf b hb) hb
          exact ⟨_, e⟩
        · obtain ⟨o', e⟩ := I.base.there b o q (nx b)
          exact ⟨o', keep b o q hb o' e⟩
      tups := I.base.tups
      frzs := I.base.frzs
      tbls := I.base.tbls }
  hok := fun b u e => (I.hok b u e).stay (fun c v hc q => stays c v (by
    rcases hc with z | z
    · rw [z] at q ⊢; exact inB b u v e q
    · exact inB c _ v z q)) (fun _ q => q) fun _ _ q => q
  stays := stays
  new := new
  frames := frames.2.2
  fly := fly
  inB := fun b u ob e q => by
    obtain ⟨o', q'⟩ := (I.hok b u e).there
    have z := inB b u o' e q'
    have z' := stays b o' z
    have q2 : h'.get? b = some ob := q
    rw [z'] at q2
    cases q2
    exact z
  old := fun b o ob q0 nf q => by
    have q2 : h'.get? b = some ob := q
    obtain ⟨o', e⟩ := I.base.there b o q0 (by rw [hex]; simp)
    have z := old b o o' q0 nf e
    have z' := stays b o' z
    rw [z'] at q2
    cases q2
    exact z
/-- a body whose errors leave it so -/
structure LeaveX (X : Cx) (E : XK) : Prop where
  st : X.stack = X.env :: X.outer
  ex : X.ex = []
  fr : X.env.frame = some X.env.locals
  xe : X.xe = fun e s' => wpAny (model X.prog X.w) X.A (leaving X.env e) (fun _ s'' => CXR X.prog X.w X.outer X.H₀ X.s₀ E e s'') (fun e' s'' => CXR X.prog X.w X.outer X.H₀ X.s₀ E e' s'') s'
theorem LeaveX.passes {E : XK} (L : LeaveX X E) : PassesOwn (model X.prog X.w) X.A X.env X.xe := by
  rw [L.xe]
  exact PassesOwn.leaving
theorem Inv.notFr (I : Inv X pins σ H s) {b : Addr} {o : Obj} (q : X.s₀.heap.get? b = some o) (nf : b ∉ X.fs) : b ∉ frs X.stack := fun m => by
  rcases List.mem_cons.mp (I.stkSub b m) with z | z
  · exact absurd (Nat.lt_of_lt_of_le (Heap.lt_size q) I.ok.above) (by rw [z]; exact Nat.lt_irrefl _)
  · exact nf z
/-- an error is raised here -/
theorem raise_xe {E : XK} {h1 : Heap} {vs : List Value} (L : LeaveX X E) (I : Inv X pins σ H s) (hx : Heap.MadeExcOf s.heap h1 ea (.ref C) vs) (q : E (.ref C) none H) : X.xe (.ref ea) { s with heap := h1 } := by
  rw [L.xe]
  have hst := L.st
  have hfr : X.A.frames = some (X.env :: X.outer) := by rw [← hst]; exact I.ok.frames
  have hin : ∀ env ∈ X.stack, ∀ a, env.frame = some a → a ∈ frs X.stack := fun env he a ha => List.mem_filterMap.mpr ⟨env, he, ha⟩
  have ff : s.heap.FunFrames (PySem.W.hideAll s.heap (frs X.stack)) X.stack := PySem.W.funFrames_hide I.stack hin
  have ff1 : h1.FunFrames (PySem.W.hideAll s.heap (frs X.stack)) (X.env :: X.outer) := by
    rw [← hst]
    exact ff.of_keeps fun b o q _ => ⟨o, hx.keeps b o q, rfl⟩
  obtain ⟨t, he, _, _⟩ := hx.there
  have new : (PySem.W.hideAll s.heap (frs X.stack)).get? ea = none := by
    cases z : (PySem.W.hideAll s.heap (frs X.stack)).get? ea with
    | none => rfl
    | some o =>
      have := PySem.W.of_hideAll _ z
      rw [hx.new] at this
      cases this
  refine leave2 (s := { s with heap := h1 }) (B := PySem.W.hideAll s.heap (frs X.stack)) (cls := .ref C) hfr ff1 L.fr (.inr ⟨_, _, he, rfl, rfl, rfl, rfl, rfl⟩) (fun b o z => hx.keeps b o (PySem.W.of_hideAll _ z)) new fun h' k1 k2 k3 k4 => ?_
  refine ⟨ea, C, H, _, rfl, up_of (s := s) hst L.ex I (fun b u ob e z => ?_) (fun b o ob z0 nf z => ?_) k1 new k2 k3 ((Heap.UpToSlots.of_keeps hx.keeps).trans k4), q⟩
  · exact PySem.W.hideAll_get _ z fun m => by rw [I.stkFree b m] at e; cases e
  · exact PySem.W.hideAll_get _ z (I.notFr z0 nf)
/-- an error of a callee goes on up -/
theorem pass_xe {E : XK} (L : LeaveX X E) : Passes (CXR X.prog X.w) X E := by
  rintro pins σ H s e s' I ⟨ea, C, H', B, rfl, U, q⟩
  have I' : Inv X pins σ H' s' := I.call' (ch := []) U.os U.un U.hok U.bare fun b z => by cases z
  rw [L.xe]
  have hst := L.st
  have hfr : X.A.frames = some (X.env :: X.outer) := by rw [← hst]; exact I.ok.frames
  have ff : s'.heap.FunFrames B (X.env :: X.outer) := by rw [← hst]; exact U.frames
  refine leave2 (B := B) (cls := .ref C) hfr ff L.fr (.inl U.fly) U.stays U.new fun h' k1 k2 k3 k4 => ⟨ea, C, H', B, rfl, up_of hst L.ex I' U.inB (fun b o ob z0 nf z => ?_) k1 U.new k2 k3 k4, q⟩
  obtain ⟨o', e'⟩ := I.base.there b o z0 (by rw [L.ex]; simp)
  exact U.old b o' ob e' (I.notFr z0 nf) z
end
/-! ### own errors' classes -/
abbrev vBm : List Value := [.type "ValueError", .type "Exception", .type "BaseException", .type "object"]
theorem excObj {K : PySem.W.Frag} {h : Heap} {C : Addr} (X : K.In h) (q : PySem.W.excIn K C vBm "ValueError.__new__" = true) :
    ∃ bm N nm qn bs hdct sn sub ab col dd k0 k1 k2 k3 k5 mN, h.get? C = some (excClassObj nm qn C N bs bm hdct sn sub ab col dd k0 k1 k2 k3 k5 "ValueError.__new__") ∧ h.Ns N mN ∧ mN "__init__" = none ∧ OwnTail h vBm bm := by
  unfold PySem.W.excIn at q
  split at q
  · rename_i dd cd sl ho
    split at q
    · rename_i C' bm k0 k1 k2 k3 n k5 hm hs
      simp only [Bool.and_eq_true, beq_iff_eq, Bool.not_eq_true'] at q
      obtain ⟨⟨⟨⟨⟨rfl, rfl⟩, hdel⟩, ht⟩, hok⟩, hni⟩ := q
      obtain ⟨nm, bs, mro, ns, qn, hd, sn, sub, ab, col, del⟩ := cd
      dsimp only at hm hdel hok hni
      subst hm hdel
      have hsl : sl = #[k0, k1, k2, k3, some (.builtin "ValueError.__new__"), k5] := by
        obtain ⟨l⟩ := sl
        simp only at hs
        rw [hs]
      subst hsl
      exact ⟨bm, ns, nm, qn, bs, hd, sn, sub, ab, col, dd, k0, k1, k2, k3, k5, _, X _ _ ho, .of_isNs (PySem.W.isNs_of_in X hok), PySem.W.nsMap_none_of_in X hok hni, PySem.W.tail_of_in X ht⟩
    · cases q
  · cases q
/-- raise C(..), C an own class under ValueError -/
def tRaise (E : XK) (C : Addr) (ta : TA) : TS := fun _ σ H => ta σ H fun vs H1 => vs.length ≤ sizeLine ∧ E (.ref C) none H1
theorem ps_raise {X : Cx} {E : XK} {x : Str} {C : Addr} {e : Expr} {es : List Expr} {ta : TA} {np cpos pos : Pos} (L : LeaveX X E) (hc : X.calm = true) (hg : Gl X x) (hm : X.mg x = some (.ref C)) (hC : PySem.W.excIn X.K C vBm "ValueError.__new__" = true) (ha : PA X (e :: es) ta)
    (hd : (x == ("__debug__" : Str)) = false := by decide) (he : starEach (e :: es) X.env = (false, eval e X.env) :: starEach es X.env := by rfl) (hpl : (backTo cpos (starEach es X.env)).any (·.1) = false := by rfl) :
    PS X (.Raise (some (.Call (.Name x np) (e :: es) [] cpos)) none pos) (tRaise E C ta) := by
  intro pins s σ H D I h
  obtain ⟨bm, N, nm, qn, bs, hdct, sn, sub, ab, col, dd, k0, k1, k2, k3, k5, mN, oC, oN, hni, tl⟩ := excObj I.mod.kin hC
  refine wpAny_Raise_call_subT (C := C) (nm := nm) (q := qn) (N := N) (bs := bs) (bm := bm) (hdct := hdct) (sn := sn) (sub := sub) (ab := ab) (col := col) (dd := dd) (k0 := k0) (k1 := k1) (k2 := k2) (k3 := k3) (k5 := k5)
    F.excBase_ValueError (mN := mN) (tl.hasType F.excBase_ValueError.hasBase) (I.ok.hd hc) (by rw [he]; show (false || (backTo cpos (starEach es X.env)).any (·.1)) = false; rw [hpl]; rfl) hni ?_
  refine thn (pe_gref hg hm hd pins s σ H (fun v H1 => v = .ref C ∧ H1 = H) I ⟨rfl, rfl⟩) fun f s1 ⟨v, H1, I1, r1, e1, e2⟩ => ?_
  subst e1 e2
  refine ⟨r1, ?_⟩
  have z := ha cpos pins s1 σ H1 _ I1 h
  rw [he] at z ⊢
  exact Calls.evalArgs_plain (thn z fun us s2 ⟨vs, H2, I2, r2, hz, q⟩ => ⟨rfl, by rw [← r2.length]; exact hz, I2.bk _ _ oC, oN.keeps I2.bk, tl.keeps I2.bk, fun h' e hx => raise_xe L I2 hx q⟩)
/-! ### defs that may refuse -/
section
variable {P : Program} {w : World} {K : PySem.W.Frag} {mg : Str → Option Value} {base : Heap}
theorem lxOf {N : List Str} {qual : Str} {scope : Scope} {f : Addr} {cd : Value} {A : Around} {outer : List Env} {s : Shared} {H : Hp} {E : XK} : LeaveX (cxOf (CXR P w) P w K mg base N qual scope f cd A outer s H E) E := ⟨rfl, rfl, rfl, rfl⟩
theorem FunAt.okX {x : Str} {st : Stmt} {N ps : List Str} {k : Nat} {sp : Sp} (F : FunAt K mg x ps st) (S : FnScope N ps (defScope st)) (len : ∀ vs H Q E, sp vs H Q E → vs.length = ps.length)
    (hbody : ∀ (f : Addr) (cdv : Value) (A : Around) (outer : List Env) (s : Shared) (H : Hp) (vs : List V) (Q : VK) (E : XK), Room k (A.deeper (envOfC x (defScope st) s.heap.objs.size f cdv)) → sp vs H Q E →
      ∃ t, PSs (cxOf (CXR P w) P w K mg base N x (defScope st) f cdv A outer s H E) (defBody st) t ∧ t { nx := fun _ H' => Q .non H', rt := Q } (start N vs) H) : Callee P w K mg base (CXR P w) (k + 1) x ps sp := by
  obtain ⟨f, fd, F', m, b⟩ := F.ex
  refine ⟨f, fd, ?_, m, F'.kp, b⟩
  obtain ⟨oc, od, kV, doc, pm, an, cdv, ct, osl, rfl, lk, hcd⟩ := F'.ex
  exact fn_of lk hcd S len fun A outer s H vs Q E hr hsp => hbody f cdv A outer s H vs Q E hr hsp
end
section
variable {X : Cx} {k : Nat} {ps : List Str} {sp : Sp} {x : Str} {p pos : Pos} {e : Expr} {es : List Expr} {t : TA} {E : XK}
theorem pe_callX (C : Callee X.prog X.w X.K X.mg X.base (CXR X.prog X.w) k x ps sp) (hr : Room k X.A) (hp : Passes (CXR X.prog X.w) X E) (hg : Gl X x) (ha : PA X (e :: es) t) (hdb : (x == ("__debug__" : Str)) = false := by decide)
    (he : starEach (e :: es) X.env = (false, eval e X.env) :: starEach es X.env := by rfl) (hpl : (backTo pos (starEach es X.env)).any (·.1) = false := by rfl) : PE X (.Call (.Name x p) (e :: es) [] pos) (tCall sp [] E t) := by
  obtain ⟨f, fd, F, m, kp, b⟩ := C.ex
  exact pe_call F hr hg m kp b .nil hp ha hdb he hpl
end
end L2

/-! f-strings: what is written may be any text, its length is counted. -/
namespace L2
open PySem PySem.Spec PyProof.Rows
section
variable {X : Cx}
/-- {e}, e an int or a text -/
def tFmt (te : TE) : TE := fun σ H Q => te σ H fun v H1 => (∃ i : Int, v = .int i ∧ i.natAbs.log2 < 1920 ∧ Q (.str (toString i)) H1) ∨ ∃ y, v = .str y ∧ y.length ≤ sizeLine ∧ Q (.str y) H1
theorem pe_fmt {value : Expr} {pos : Pos} {te : TE} (h : PE X value te) : PE X (.FormattedValue value (-1) none pos) (tFmt te) := by
  intro pins s σ H Q I hw
  refine FormattedValue_plain (thn (h pins s σ H _ I hw) fun v s1 ⟨x, H1, I1, r1, q1⟩ => ?_)
  rcases q1 with ⟨i, rfl, hd, q⟩ | ⟨y, rfl, hz, q⟩
  · obtain ⟨t, rfl⟩ := r1
    exact formatField_int_small hd ⟨.str (toString i), H1, I1.tok _, ⟨_, rfl⟩, q⟩
  · obtain ⟨t, rfl⟩ := r1
    exact formatField_str (fun t' tk => ⟨.str y, H1, I1.tok _, ⟨_, rfl⟩, q⟩) hz
/-- the parts, n signs written ahead of them -/
abbrev TJ := St → Hp → Nat → (V → Hp → Prop) → Prop
def PJ (X : Cx) (es : List Expr) (t : TJ) : Prop := ∀ (pins : List (Addr × Obj)) (s : Shared) (σ : St) (H : Hp) (acc : Str) (Q : VK), Inv X pins σ H s → t σ H acc.length Q →
  wpAny (model X.prog X.w) X.A (joinParts acc (evalEach es X.env)) (EP X pins σ Q) X.xe s
def tJnil : TJ := fun _ H n Q => n ≤ sizeLine ∧ ∀ out : Str, out.length = n → Q (.str out) H
def tJcons (te : TE) (tj : TJ) : TJ := fun σ H n Q => te σ H fun v H1 => ∃ y, v = .str y ∧ n + y.length ≤ sizeLine ∧ tj σ H1 (n + y.length) Q
theorem pj_nil : PJ X [] tJnil := by
  intro pins s σ H acc Q I h
  exact joinParts_nil ⟨.str acc, H, I.tok _, ⟨_, rfl⟩, h.2 acc rfl⟩ h.1
theorem pj_cons {e : Expr} {es : List Expr} {te : TE} {tj : TJ} (h : PE X e te) (hr : PJ X es tj) : PJ X (e :: es) (tJcons te tj) := by
  intro pins s σ H acc Q I hw
  show wpAny _ _ (joinParts acc (eval e X.env :: evalEach es X.env)) _ _ s
  refine joinParts_cons (thn (h pins s σ H _ I hw) fun v s1 ⟨x, H1, I1, r1, y, e1, hz, q⟩ => ?_)
  subst e1
  obtain ⟨t, rfl⟩ := r1
  have el : (acc ++ y).length = acc.length + y.length := strLen_append acc y
  refine ⟨by rw [el]; exact hz, hr pins s1 σ H1 (acc ++ y) Q I1 ?_⟩
  rw [el]
  exact q
def tJoin (tj : TJ) : TE := fun σ H Q => tj σ H 0 Q
theorem pe_join {v1 v2 : Expr} {rest : List Expr} {pos : Pos} {tj : TJ} (h : PJ X (v1 :: v2 :: rest) tj) : PE X (.JoinedStr (v1 :: v2 :: rest) pos) (tJoin tj) := by
  intro pins s σ H Q I hw
  exact JoinedStr_many (h pins s σ H Str.empty Q I hw)
end
theorem log_small {i : Int} (h1 : -1000 ≤ i) (h2 : i ≤ 1000) : i.natAbs.log2 < 1920 := by
  have h3 : i.natAbs < 2 ^ 10 := by omega
  by_cases h0 : i.natAbs = 0
  · rw [h0]
    decide
  · have := (Nat.log2_lt h0).mpr h3
    omega
theorem text_small {i : Int} (h1 : -1000 ≤ i) (h2 : i ≤ 1000) : ((toString i : String) : Str).length ≤ 5 := by
  have z : (List.range 2001).all (fun j : Nat => decide (((toString ((j : Int) - 1000) : String) : Str).length ≤ 5)) = true := by decide +kernel
  have y := of_decide_eq_true (List.all_eq_true.mp z (i + 1000).toNat (List.mem_range.mpr (by omega)))
  rwa [show (((i + 1000).toNat : Nat) : Int) - 1000 = i by omega] at y
end L2

/-! isinstance of an own error that was caught. -/
namespace L2
open PySem PySem.Spec PyProof.Rows PySem.W
/-- what of an own error's class the top must show -/
structure ExcK (K : PySem.W.Frag) (C : Addr) : Prop where
  own : excIn K C vBm "ValueError.__new__" = true
  cls : (clsIn K C).isSome = true
  ga : findIn K (.ref C) "__getattribute__" = some (some (.builtin "BaseException.__getattribute__"))
  gt : findIn K (.ref C) "__getattr__" = some none
  ca : findIn K (.ref C) "__class__" = some (some (.builtin "object.__class__"))
  gs : specialIn K (.builtin "object.__class__") "__get__" = some (some (.builtin "getset_descriptor.__get__"))
  tk : takesIn K (.builtin "object.__class__") = some true
  obj : mroIn K C (.type "object") = some true
  bas : mroIn K C (.type "BaseException") = some true
section
variable {prog : Program} {w : World} {A : Around} {E : Value → Shared → Prop} {s : Shared} {K : PySem.W.Frag} {x C : Addr} {ox : Obj}
theorem exc_class {Q : Option Value → Shared → Prop} (X : K.In s.heap) (I : PySem.W.InstAt s.heap x ox C none) (c : ExcK K C) (h : Q (some (.ref C)) { s with toks := s.toks + 1 }) : wpAny (model prog w) A (getAttr? (.ref x) "__class__") Q E s := by
  have hf : findObj K C none "__class__" = some (.bind (.builtin "getset_descriptor.__get__") (.builtin "object.__class__")) := by
    obtain ⟨cd, hc⟩ := Option.isSome_iff_exists.mp c.cls
    unfold findObj
    rw [hc, Option.bind_some, c.ca, Option.bind_some]
    simp [c.gs, c.tk]
  obtain ⟨hh, g, d, t, os⟩ := s
  have L0 := I.type (M := model prog w)
  have L1 := looks_findIn (M := model prog w) X c.ga
  have L2 := looks_findIn (M := model prog w) X c.gt
  have L3 := looks_find (M := model prog w) X I hf
  have L4 := looks_mroIn (M := model prog w) X c.bas
  have LB : Looks (model prog w) hh (isInstance (.ref x) (.type "BaseException")) true := L0.andThen L4
  have f3 := F.excAttr_ValueError.ga.bind (.ref x)
  unfold getAttr? getAttrBy? getAttrBy
  refine wpAny_bind (wpAny_mkText (wpAny_bind (wpAny_attempt (wpAny_holding (wpAny_bind (L0.at (wpAny_bind (L1.at ?_))))))))
  show wpAny _ _ (getAttrByItsOwn _ _ _ _ _ _) _ _ _
  unfold getAttrByItsOwn hookBefore
  refine wpAny_bind (L2.at (wpAny_bind (wpAny_attempt (wpAny_holding ?_))))
  show wpAny _ _ (boundAndCalled _ _ _) _ _ _
  unfold boundAndCalled
  rw [f3]
  refine wpAny_bind (wpAny_pure ?_)
  show wpAny _ _ (call (.builtin "BaseException.__getattribute__") [.ref x, .str "__class__" t]) _ _ _
  refine wpAny_call (codeAny_call_builtin F.excAttr_ValueError.ga.plain F.entry_bexc_ga ?_)
  have hk : builtinKind "BaseException.__getattribute__" = some .slot := by decide +kernel
  have hsplit : splitId "BaseException.__getattribute__" = some ("BaseException", "__getattribute__") := by decide +kernel
  have ha := F.args_bexc_ga (.ref x) (.str "__class__" t)
  simp only [checkBuiltinCall, hk, hsplit]
  refine wpAny_bind (LB.at ?_)
  rw [if_neg (by simp)]
  refine wpAny_of_eq (show _ = pure () from ha) ?_
  unfold Builtin.«object.__getattribute__»
  refine wpAny_bind (m := slotArgs "__getattribute__" 1 _) (wpAny_pure ?_)
  refine wpAny_bind (wpAny_of_eq (show _ = pure (Str.ofString "__class__") from rfl) (wpAny_bind (L0.at (wpAny_bind (L3.at ?_)))))
  show wpAny _ _ (holding [.builtin "object.__class__"] (call (.builtin "getset_descriptor.__get__") [.builtin "object.__class__", .ref x, .ref C]) >>= ret) _ _ _
  refine wpAny_bind (wpAny_holding (wpAny_call (class_get X I c.obj ?_)))
  exact wpAny_pure (wpAny_pure (wpAny_pure h))
theorem kitx_exc (c : ExcK K C) : KitX K (.ref x) (.ref C) (fun h => PySem.W.InstAt h x ox C none) where
  ty := fun _ _ _ I => I.type
  it := fun _ _ X _ => by
    obtain ⟨cd, hc⟩ := Option.isSome_iff_exists.mp c.cls
    unfold clsIn at hc
    split at hc
    · rename_i ho
      intro A' Q' E' s' k q
      unfold isType loadHead
      exact wpAny_bind (wpAny_loadPart (k _ _ (X _ _ ho)) (wpAny_pure q))
    · cases hc
  ne := fun h tp dd its n sl X htp => by
    obtain ⟨cd, hc⟩ := Option.isSome_iff_exists.mp c.cls
    refine Bool.eq_false_iff.mpr fun q => ?_
    have e : C = tp := Value.ref.inj (beq_iff_eq.mp q)
    subst e
    unfold clsIn at hc
    split at hc
    · rename_i ho
      have z := (X _ _ ho).symm.trans htp
      cases z
    · cases hc
  ca := fun X I k => exc_class X I c k
end
/-- a caught error, as it is tracked -/
structure Caught (K : PySem.W.Frag) (H : Hp) (ea C : Addr) : Prop where
  ex : ∃ oe vs, H ea = some (.frz oe (.own 0)) ∧ oe.cls = .ref C ∧ oe.dict = none ∧ oe.data = .fields vs ∧ vs[2]? = some .none
  k : ExcK K C
theorem Caught.same {K : PySem.W.Frag} {H H' : Hp} {ea C : Addr} (c : Caught K H ea C) (s : Same H H') : Caught K H' ea C := by
  obtain ⟨oe, vs, h, r⟩ := c.ex
  exact ⟨⟨oe, vs, s _ _ h, r⟩, c.k⟩
def rIsE (K : PySem.W.Frag) : List V → Hp → VK → Prop := fun xs H Q => ∃ ea C D b, (xs = [.ref ea, .ref D] ∧ PySem.W.kitOne K (.ref C) (.ref D) = some b ∨ ∃ T, xs = [.ref ea, .ty T] ∧ PySem.W.kitOne K (.ref C) (.type T) = some b) ∧ Caught K H ea C ∧ Q (.bl b) H
theorem call_isE {X : Cx} : CallR X (.builtin "isinstance") (rIsE X.K) := by
  intro pins s σ H xs us Q I r h
  obtain ⟨ea, C, D, b, hk, c, q⟩ := h
  obtain ⟨oe, vs, hh, h1, h2, h3, h4⟩ := c.ex
  have he : s.heap.get? ea = some oe := (I.hok ea _ hh).1
  have inst : PySem.W.InstAt s.heap ea oe C none := ⟨he, h1, by unfold notCls; rw [h3], by rw [h2]; trivial⟩
  rcases hk with ⟨rfl, kt⟩ | ⟨T, rfl, kt⟩
  · obtain ⟨u, w', rfl, rx, rc⟩ := vals2 r
    cases rx
    cases (show w' = Value.ref D from rc)
    exact PySem.W.kia_one (kitx_exc c.k) I.kIn inst kt (fun z => nomatch z) fun tk => ⟨.bl b, H, I.tok tk, rfl, q⟩
  · obtain ⟨u, w', rfl, rx, rc⟩ := vals2 r
    cases rx
    cases (show w' = Value.type T from rc)
    exact PySem.W.kia_one (kitx_exc c.k) I.kIn inst kt (fun z => nomatch z) fun tk => ⟨.bl b, H, I.tok tk, rfl, q⟩
end L2

/-! While an error is handled: the end of a range. -/
namespace L2
open PySem PySem.Spec PyProof.Rows
theorem entry_unchain : entryFor table "proto.unchain" = some Builtin.«proto.unchain» := entryFor_of_tree (by kernel_rfl)
section
variable {prog : Program} {w : World} {A : Around} {E : Value → Shared → Prop} {s : Shared}
theorem raiseNew_H {α : Type} {b ea : Addr} {oe ob : Obj} {vs ws : Array Value} {Q : α → Shared → Prop} (hh : A.handled = some (.ref ea)) (hne : ea ≠ b) (he : s.heap.get? ea = some oe) (hd : oe.data = .fields vs) (h2 : vs[2]? = some .none) (hb : s.heap.get? b = some ob) (hbd : ob.data = .fields ws)
    (hw : 2 < ws.size) (h : E (.ref b) { s with heap := s.heap.update b (Obj.mapFields (·.setIfInBounds 2 (.ref ea))) }) : wpAny (model prog w) A (raiseNew (.ref b) : Sem α) Q E s := by
  simp only [raiseNew]
  refine wpAny_bind (wpAny_handled ?_)
  rw [hh]
  have ne : (Value.ref ea != Value.ref b) = true := by simp [hne]
  show wpAny _ _ (if (Value.ref ea != Value.ref b) = true then (do let _ ← holding [.ref b] (runValue (.builtin "proto.unchain" ⟨[.ref b, .ref ea, .ref ea, .bool false], []⟩)); updateField b 2 (.ref ea); throw (.ref b)) else throw (.ref b)) _ _ _
  rw [if_pos ne]
  refine wpAny_bind (wpAny_holding (wpAny_runValue (codeAny_builtin entry_unchain ?_)))
  unfold Builtin.«proto.unchain»
  refine wpAny_bind (wpAny_field he hd h2 ?_)
  rw [if_pos (by rfl)]
  refine wpAny_pure ?_
  show wpAny _ A (updateField b 2 (.ref ea) >>= fun _ => throw (.ref b)) Q E s
  exact wpAny_bind (show wpAny _ _ (setField (.ref b) 2 (.ref ea)) _ _ _ from wpAny_setField hb hbd hw (wpAny_throw h))
/-- a range's end while an error is handled: what is raised for it takes that error for its context, and is caught -/
theorem range_endH {it ea : Addr} {x left step : Int} {oe : Obj} {vs : Array Value} {Q : Option Value → Shared → Prop} (hh : A.handled = some (.ref ea)) (he : s.heap.get? ea = some oe) (hd : oe.data = .fields vs) (h2 : vs[2]? = some .none)
    (hit : IsRangeIter s.heap it x left step) (hl : left ≤ 0) (hQ : ∀ h', (∀ b o, s.heap.get? b = some o → h'.get? b = some o) → Q none { s with heap := h' }) : wpAny (model prog w) A (pyNext (.ref it)) Q E s := by
  have ty : s.TypeIs (.ref it) "range_iterator" := ⟨_, hit, rfl⟩
  unfold pyNext
  refine wpAny_bind (wpAny_attempt (wpAny_callSpecial?_slot (name := Str.ofString "__next__") ty F.slot_range_iterator_next (wpAny_call_entry F.slot_range_iterator_next ty F.entry_range_iterator_next ?_ (F.args_range_iterator_next_1 _))))
  refine (show wpAny _ _ (field (.ref it) 0 >>= _) _ _ s from wpAny_bind (wpAny_field hit rfl (x := rawInt x) rfl (show wpAny _ _ (field (.ref it) 1 >>= _) _ _ s from wpAny_bind (wpAny_field hit rfl (x := rawInt left) rfl (show wpAny _ _ (field (.ref it) 2 >>= _) _ _ s from wpAny_bind (wpAny_field hit rfl (x := rawInt step) rfl ?_))))))
  show wpAny _ _ (if left ≤ 0 then _ else _) _ _ s
  rw [if_pos hl]
  refine wpAny_bind (wpAny_rule (wpAny_bind (show wpAny _ _ (newExc (.type "StopIteration") [] >>= _) _ _ _ from ?_)))
  refine wpAny_bind ?_
  simp only [newExc, newTuple]
  refine wpAny_bind (wpAny_newObj_type (wpAny_bind (m := firstArgMember _ _) (wpAny_of_eq (a := Value.none) (by first | rfl | (simp only [firstArgMember]; rfl)) (wpAny_newObj_type ?_ (by size_fits)))) (by size_fits))
  have lt : ea < s.heap.objs.size := Heap.lt_size he
  have nb : (s.heap.push ({ cls := Value.type "tuple", data := Data.seq #[] } : Obj)).objs.size ≠ ea := by
    rw [Heap.size_push]
    exact Nat.ne_of_gt (Nat.lt_succ_of_lt lt)
  refine raiseNew_H (A := A.in1) hh (Ne.symm nb) (Heap.get?_push_of_some _ (Heap.get?_push_of_some _ he)) hd h2 (Heap.get?_push_size _ rfl) rfl (by simp; omega) ?_
  refine wpAny_bind (wpAny_isInstance (T := "StopIteration") (b := true) ⟨_, Heap.get?_update_self _ (Heap.get?_push_size _ rfl) rfl, rfl⟩ isSubtype_stop (wpAny_pure (hQ _ fun c o q => ?_)))
  have ltc : c < s.heap.objs.size := Heap.lt_size q
  rw [Heap.get?_update_other _ _ (by show _ ≠ c; rw [Heap.size_push]; exact Nat.ne_of_gt (Nat.lt_succ_of_lt ltc))]
  exact Heap.get?_push_of_some _ (Heap.get?_push_of_some _ q)
end
end L2

/-! While an error is handled: contexts, calls, a comprehension over a range. -/
namespace L2
open PySem PySem.Spec PyProof.Rows
/-- this body, while an error is handled -/
abbrev Cx.hand (X : Cx) (A' : Around) : Cx := { X with A := A', calm := false, xe := fun _ _ => False }
theorem Cx.Ok.hand {X : Cx} (ok : X.Ok) {A' : Around} (hA : A'.frames = X.A.frames) : (X.hand A').Ok :=
  ⟨ok.mod, ok.kind, ok.glob, ok.blt, ok.above, ok.inj, ok.has, ok.cab, (fun h => absurd h Bool.false_ne_true), hA.trans ok.frames, ok.stk, ok.exf, ok.bs, ok.bsz, ok.noex, ok.exfs, ok.funs, ok.frf⟩
section
variable {X : Cx} {pins : List (Addr × Obj)} {σ : St} {H : Hp} {s : Shared} {A' : Around}
theorem Inv.hand (I : Inv X pins σ H s) (hA : A'.frames = X.A.frames) : Inv (X.hand A') pins σ H s := ⟨I.ok.hand hA, I.os, I.bare, I.base, I.loc, I.cell, I.free, I.freeC, I.pin, I.hok, I.len⟩
theorem Inv.unhand (ok : X.Ok) (I : Inv (X.hand A') pins σ H s) : Inv X pins σ H s := ⟨ok, I.os, I.bare, I.base, I.loc, I.cell, I.free, I.freeC, I.pin, I.hok, I.len⟩
end
/-! ### defs that are called while the error at ea is handled -/
structure RoomH (k : Nat) (A : Around) (ea : Addr) : Prop where
  hd : A.handled = some (.ref ea)
  dp : A.depth + 3 * k + 5 < recursionLimit
  un : A.units + 16 * k + 200 < cLine
theorem RoomH.of {k : Nat} {A : Around} {ea : Addr} (r : Room k A) : RoomH k (A.mark (some (.ref ea))) ea := ⟨rfl, r.dp, r.un⟩
theorem RoomH.deeper {k : Nat} {A : Around} {ea : Addr} (r : RoomH (k + 1) A ea) (env : Env) : RoomH k (A.deeper env) ea :=
  ⟨r.hd, by have := r.dp; show A.depth + 1 + 3 * k + 5 < _; omega, by have := r.un; show A.units + 3 + 16 * k + 200 < _; omega⟩
theorem RoomH.hu {k : Nat} {A : Around} {ea : Addr} (r : RoomH k A ea) : A.units + 1 < cLine := by have := r.un; omega
abbrev SpH := Addr → Sp
structure FnH (P : Program) (w : World) (K : PySem.W.Frag) (mg : Str → Option Value) (base : Heap) (k : Nat) (f : Addr) (fd : FuncData) (ps : List Str) (sp : SpH) : Prop where
  len : ∀ ea vs H Q E, sp ea vs H Q E → vs.length = ps.length
  run : ∀ (ea : Addr) (A : Around) (outer : List Env) (s : Shared) (H : Hp) (args : Args) (us : List Value) (vs : List V) (Q : VK), RoomH k A ea → Env0 P w K mg base A outer s H → BindsTo s fd args (ps.zip us) → Vals vs us → sp ea vs H Q E0 →
    codeAny (model P w) A (.call (.ref f) args) (CR CX0 outer P w H s Q E0) s
structure CalleeH (P : Program) (w : World) (K : PySem.W.Frag) (mg : Str → Option Value) (base : Heap) (k : Nat) (x : Str) (ps : List Str) (sp : SpH) : Prop where
  ex : ∃ f fd, FnH P w K mg base k f fd ps sp ∧ mg x = some (.ref f) ∧ PySem.W.keepIn K (.ref f) = true ∧ Binds K fd ps []
section
variable {P : Program} {w : World} {K : PySem.W.Frag} {mg : Str → Option Value} {base : Heap}
theorem FunAt.okH {x : Str} {st : Stmt} {N ps : List Str} {k : Nat} {sp : SpH} (F : FunAt K mg x ps st) (S : FnScope N ps (defScope st)) (len : ∀ ea vs H Q E, sp ea vs H Q E → vs.length = ps.length)
    (hbody : ∀ (f : Addr) (cdv : Value) (ea : Addr) (A : Around) (outer : List Env) (s : Shared) (H : Hp) (vs : List V) (Q : VK), RoomH k (A.deeper (envOfC x (defScope st) s.heap.objs.size f cdv)) ea → sp ea vs H Q E0 →
      ∃ t, PSs ((cxOf CX0 P w K mg base N x (defScope st) f cdv { A with handled := none } outer s H E0).hand (A.deeper (envOfC x (defScope st) s.heap.objs.size f cdv))) (defBody st) t ∧ t { nx := fun _ H' => Q .non H', rt := Q } (start N vs) H) :
    CalleeH P w K mg base (k + 1) x ps sp := by
  obtain ⟨f, fd, F', m, b⟩ := F.ex
  refine ⟨f, fd, ⟨len, fun ea A outer s H args us vs Q hr e0 hb r hsp => ?_⟩, m, F'.kp, b⟩
  obtain ⟨oc, od, kV, doc, pm, an, cdv, ct, osl, rfl, lk, hcd⟩ := F'.ex
  have hl := len _ _ _ _ _ hsp
  have KX : K.In s.heap := e0.mod.kin.keeps fun b o e => (e0.bs b o e).1
  have lim : s.heap.NoLimit := e0.mod.nolimit.keeps fun b o e => (e0.bs b o e).1
  have hkind : ∀ y ∈ ps.zip us, (defScope st).names.lookup y.1 = some .local ∨ ((defScope st).names.lookup y.1 = some .cell ∧ ((cellsFrom (s.heap.objs.size + 1) (defScope st).names []).lookup y.1).isSome = true) := fun ⟨n, v⟩ hy => by
    rcases S.par n (List.of_mem_zip hy).1 with q | q
    · exact .inl q
    · exact .inr ⟨q, PySem.W.cellsFrom_some _ _ _ (.inl q)⟩
  refine codeAny_call_function (by have := hr.dp; omega) (KX _ _ lk) rfl S.co S.gen rfl (PySem.W.codeRec_of KX hcd) (hb _ _ _ _ ?_)
  refine wpAny_newFunctionEnv_cells S.kind hkind fun env he s1 x => ?_
  subst he
  refine ⟨lim.keeps x.toInCall.keep, codeAny_func ?_⟩
  obtain ⟨t, ht, hq⟩ := hbody f cdv ea A outer s H vs Q (hr.deeper _) hsp
  have e0' : Env0 P w K mg base { A with handled := none } outer s H := ⟨e0.frames, e0.mod, e0.bs, e0.bsz, e0.funs, e0.frf, e0.hok, e0.bare⟩
  have I0 := inv_start (CX := CX0) (E := E0) S rfl e0' hl r x
  refine wpAny_mono (ht [] s1 (start N vs) H _ (I0.hand rfl) hq) (fun fl s' hs => ?_) fun e s' hs => hs.elim
  cases fl with
  | ret u =>
    obtain ⟨v, σ', H', J, rv, q⟩ := hs
    exact ⟨v, H', J.os, J.bare, J.base, J.hok, rv, q⟩
  | next =>
    obtain ⟨σ', H', J, q⟩ := hs
    exact ⟨.non, H', J.os, J.bare, J.base, J.hok, rfl, q⟩
  | brk =>
    obtain ⟨_, _, _, q⟩ := hs
    exact q.elim
  | cont =>
    obtain ⟨_, _, _, q⟩ := hs
    exact q.elim
end
section
variable {X : Cx} {k : Nat} {ps : List Str} {sp : SpH} {x : Str} {p pos : Pos} {e : Expr} {es : List Expr} {t : TA} {ea : Addr}
theorem pe_callH (C : CalleeH X.prog X.w X.K X.mg X.base k x ps sp) (hr : RoomH k X.A ea) (hg : Gl X x) (ha : PA X (e :: es) t) (hdb : (x == ("__debug__" : Str)) = false := by decide)
    (he : starEach (e :: es) X.env = (false, eval e X.env) :: starEach es X.env := by rfl) (hpl : (backTo pos (starEach es X.env)).any (·.1) = false := by rfl) : PE X (.Call (.Name x p) (e :: es) [] pos) (tCall (sp ea) [] E0 t) := by
  obtain ⟨f, fd, F, m, kp, b⟩ := C.ex
  intro pins s σ H Q I h
  refine wpAny_Call_Name_kw (ld_glob I hg m ?_ hdb)
  refine PySem.W.callWith_K (h₀ := X.base) I.ok.mod.kin kp (thn (ha pos pins s σ H _ I h) fun us s1 ⟨vs, H1, I1, r, q⟩ => ⟨I1.kIn, ?_⟩) he hpl
  have q' : sp ea (vs ++ []) H1 Q E0 := q
  rw [List.append_nil] at q'
  have hl : us.length = ps.length := by rw [← r.length]; exact F.len _ _ _ _ _ q'
  have hb := b s1 us I1.kIn (by rw [List.append_nil]; exact hl)
  rw [List.append_nil] at hb
  show wpAny _ _ (call (.ref f) us) _ _ s1
  refine wpAny_call (codeAny_mono (F.run ea X.A X.stack s1 H1 ⟨us, []⟩ us vs Q hr I1.env0 hb r q') fun r s' hq => ?_)
  cases r with
  | error e => exact hq.elim
  | ok fl =>
    cases fl with
    | ret u => exact I1.after hq
    | next => exact hq.elim
    | brk => exact hq.elim
    | cont => exact hq.elim
end
/-! ### a comprehension over a range -/
structure TurnH (P : Program) (w : World) (K : PySem.W.Frag) (tg : Expr) (ea : Addr) (J : It) (fp : List Addr) (it : Addr) (tn : Nat → Heap → Prop) : Prop where
  mem : it ∈ fp
  obj : ∀ i h, tn i h → ∀ b ∈ fp, ∃ o, h.get? b = some o ∧ ∀ v, o.data ≠ .cell v
  keep : ∀ i h h', tn i h → (∀ b ∈ fp, ∀ o, h.get? b = some o → h'.get? b = some o) → tn i h'
  item : ∀ (X : Cx), X.prog = P → X.w = w → X.K = K → X.A.handled = some (.ref ea) → ∀ (i : Nat) (pins : List (Addr × Obj)) (s : Shared) (σ : St) (H : Hp) (E : Value → Shared → Prop), Inv X pins σ H s → (∀ b ∈ fp, FpOk X pins H b) → tn i s.heap → J.go i H →
    wpAny (model P w) X.A (pyNext (.ref it)) (fun r s1 => ∃ u, r = some u ∧
      wpAny (model P w) X.A (letOwnedTupleGo tg (.ref it) u) (fun _ s2 => ∃ x H', Inv X pins σ H' s2 ∧ RelV x u ∧ J.yld i H x H' ∧ tn (i + 1) s2.heap ∧ ∀ b ∈ fp, H' b = none) E s1) E s
  done : ∀ (X : Cx), X.prog = P → X.w = w → X.K = K → X.A.handled = some (.ref ea) → ∀ (i : Nat) (pins : List (Addr × Obj)) (s : Shared) (σ : St) (H : Hp) (E : Value → Shared → Prop), Inv X pins σ H s → (∀ b ∈ fp, FpOk X pins H b) → tn i s.heap → J.stop i H →
    wpAny (model P w) X.A (pyNext (.ref it)) (fun r s1 => r = none ∧ Inv X pins σ H s1) E s
  self : ∀ (A : Around) (i : Nat) (s : Shared) (Q : Value → Shared → Prop) (E : Value → Shared → Prop), tn i s.heap → Q (.ref it) s → wpAny (model P w) A (pyIter (.ref it)) Q E s
def PIEH (X : Cx) (pins : List (Addr × Obj)) (σ : St) (tg : Expr) (ea : Addr) (R : It → Hp → Prop) (itv : Value) (s2 : Shared) : Prop :=
  ∃ (it : Addr) (fp : List Addr) (tn : Nat → Heap → Prop) (J : It) (H' : Hp), itv = .ref it ∧ Inv X pins σ H' s2 ∧ TurnH X.prog X.w X.K tg ea J fp it tn ∧ tn 0 s2.heap ∧ (∀ b ∈ fp, FpOk X pins H' b) ∧ R J H'
def PIH (X : Cx) (tg : Expr) (ea : Addr) (iter : Expr) (wi : TI) : Prop :=
  ∀ (pins : List (Addr × Obj)) (s : Shared) (σ : St) (H : Hp) (R : It → Hp → Prop), Inv X pins σ H s → wi σ H R →
    wpAny (model X.prog X.w) X.A (eval iter X.env) (fun v s1 => wpAny (model X.prog X.w) X.A (pyIter v) (PIEH X pins σ tg ea R) X.xe s1) X.xe s
def ItrH (K : PySem.W.Frag) (ea : Addr) (lo : Int) (n : Nat) : It := ⟨fun i _ => i < n, fun i H x H' => H' = H ∧ x = .int (lo + i), fun i H => n ≤ i ∧ ∃ C, Caught K H ea C⟩
theorem turn_rangeH {P : Program} {w : World} {K : PySem.W.Frag} {tg : Expr} {ea : Addr} (it : Addr) (lo : Int) (n : Nat) : TurnH P w K tg ea (ItrH K ea lo n) [it] it (fun i h => IsRangeIter h it (lo + (i : Nat)) ((n : Int) - (i : Nat)) 1) where
  mem := by simp
  obj := fun i h st b hb => by
    have e : b = it := by simpa using hb
    subst e
    exact ⟨_, st, fun v z => nomatch z⟩
  keep := fun i h h' st k => k it (by simp) _ st
  item := by
    intro X hP hw hK hh i pins s σ H E I hf st hg
    subst hP hw hK
    have hg' : i < n := hg
    obtain ⟨f0, f1, f2, f3, f4, f5⟩ := hf it (by simp)
    refine wpAny_pyNext_range_item st (by omega) fun h' st' sb => ⟨_, rfl, ?_⟩
    have I1 : Inv X pins σ H { s with heap := h', toks := s.toks + 1 } := I.turned (fun b o hb e => (sb.2 b hb).trans e) f0 f1 f3 f4 f5
    refine go_of (s := { s with heap := h', toks := s.toks + 1 }) (n := "range_iterator") st' rfl rfl (by decide) ⟨.int (lo + i), H, I1, ⟨_, rfl⟩, ⟨rfl, rfl⟩, ?_, fun b hb => (hf b hb).1⟩
    show IsRangeIter h' it (lo + ((i + 1 : Nat) : Int)) ((n : Int) - ((i + 1 : Nat) : Int)) 1
    rw [show lo + ((i + 1 : Nat) : Int) = lo + (i : Int) + 1 by omega, show (n : Int) - ((i + 1 : Nat) : Int) = (n : Int) - (i : Int) - 1 by omega]
    exact st'
  done := by
    intro X hP hw hK hh i pins s σ H E I hf st hg
    subst hP hw hK
    obtain ⟨hn, C, c⟩ := hg
    obtain ⟨oe, vs, h1, h2, h3, h4, h5⟩ := c.ex
    have he : s.heap.get? ea = some oe := (I.hok ea _ h1).1
    exact range_endH hh he h4 h5 st (by omega) fun h' k => ⟨rfl, I.kept (t' := s.toks) k⟩
  self := fun _ _ _ _ _ st h => wpAny_pyIter_rangeiter st h
def iRngH (K : PySem.W.Frag) (ea : Addr) (ta : TA) : TI := fun σ H R => ta σ H fun vs H1 => ∃ j : Int, vs = [.int j] ∧ -(2 ^ 62) ≤ j ∧ j < 2 ^ 62 ∧ R (ItrH K ea 0 j.toNat) H1
theorem pi_rangeH {X : Cx} {tg a : Expr} {ta : TA} {p pos : Pos} (ea : Addr) (hg : Gl X "range") (hm : X.mg "range" = none) (ha : PA X [a] ta) (hs : starEach [a] X.env = [(false, eval a X.env)] := by rfl) : PIH X tg ea (.Call (.Name "range" p) [a] [] pos) (iRngH X.K ea ta) := by
  intro pins s σ H R I h
  refine Call_ (ld_blt I hg hm boot_range (PyProof.Rows.callWith_type1 (thn (ha pos pins s σ H _ I h) fun us s1 ⟨vs, H1, I1, r1, q1⟩ => ?_) hs rfl))
  obtain ⟨j, e, q1, q2, q⟩ := q1
  subst e
  obtain ⟨u, rfl, t, rfl⟩ := vals1 r1
  refine call_range_1 (wpAny_pyIter_range (IsRange.new ..) (small_one (by omega) (by omega) q1 q2) ?_)
  have I2 := I1.kept (h' := s1.heap.push { cls := Value.type "range", data := Data.fields #[Value.int 0 s1.toks, Value.int j t, Value.int 1 (s1.toks + 1)] }) (t' := s1.toks + 1 + 1) fun b o e => Heap.get?_push_of_some _ e
  refine ⟨_, [_], _, _, H1, rfl, I2.kept (t' := s1.toks + 1 + 1) fun b o e => Heap.get?_push_of_some _ e, turn_rangeH _ 0 j.toNat, ?_, fun b hb => ?_, q⟩
  · show IsRangeIter _ _ (0 + ((0 : Nat) : Int)) (((j.toNat : Nat) : Int) - ((0 : Nat) : Int)) 1
    rw [show (0 : Int) + ((0 : Nat) : Int) = 0 from rfl, show ((j.toNat : Nat) : Int) - ((0 : Nat) : Int) = Builtin.Range.rangeSize 0 j 1 by rw [rangeSize_one]; split <;> omega]
    exact Heap.get?_push_size _ rfl
  · rw [List.mem_singleton.mp hb]
    exact I2.fpOk (Nat.le_refl _) (I2.hok.fresh (Nat.le_refl _))
section
variable {X : Cx} {elt iter : Expr} {ifs : List Expr} {x : Str} {px : Pos} {scope : Scope} {pos : Pos} {wi : TI} {tt : TT} {te : TE} {NC : List Str} {i0 : Nat} {js : List (Option Nat)} {ea : Addr}
/-- the whole of a comprehension, but for what becomes of its list -/
theorem comp_coreH {pins : List (Addr × Obj)} {σ : St} {H : Hp} {s : Shared} {F : Addr → Hp → Prop} {RR : Value → Addr → Result → Shared → Prop} (hH : X.A.handled = some (.ref ea)) (k : CompOk X scope NC x i0 js)
    (hi : PIH X (.Name x px) ea iter wi) (ht : ∀ C s H fp pn, PIfs (cxComp X scope NC C s H fp pn) ifs tt) (he : ∀ C s H fp pn, PE (cxComp X scope NC C s H fp pn) elt te)
    (I : Inv X pins σ H s) (h : tCompF js i0 wi tt te σ H F)
    (hRR : ∀ acc C H5 s6, F acc H5 → Inv X pins σ H5 s6 → (∃ m, s6.heap.Ns C m) → H5 C = none → C ≠ X.env.locals → X.s₀.heap.objs.size ≤ C → (∀ y c, X.env.cells.lookup y = some c → c ≠ C) → (∀ p ∈ X.pn ++ pins, p.1 ≠ C) → RR (.ref acc) C (.ok .next) s6) :
    wpAny (model X.prog X.w) X.A (eval iter X.env) (fun v s1 => wpAny (model X.prog X.w) X.A (pyIter v) (fun itv s2 => wpAny (model X.prog X.w) X.A (newList []) (fun acc s3 =>
      wpAny (model X.prog X.w) X.A (newFunctionEnv scope X.env.globals (clFor X.env.cells scope.names []) [] X.env.qual none .none (some X.env)) (fun cenv s4 =>
        codeAny (model X.prog X.w) X.A (.compStart (.ListComp elt [⟨.Name x px, iter, ifs, 0⟩] scope pos) 0 itv acc { cenv with scope := relabel scope X.env }) (RR acc cenv.locals) s4) X.xe s3) X.xe s2) X.xe s1) X.xe s := by
  refine thn (hi pins s σ H _ I h) fun v s1 h1 => thn h1 fun itv s2 h2 => ?_
  obtain ⟨it, fp, tn, J, H2, e, I2, T, st2, f2, h2⟩ := h2
  subst e
  obtain ⟨W, ⟨m0, w0⟩, turn⟩ := h2 s2.heap.objs.size I2.fresh
  have I3 : Inv X pins σ (upd H2 s2.heap.objs.size (.lst [])) { s2 with heap := s2.heap.push { cls := .type "list", data := .seq ([] : List Value).toArray }, toks := s2.toks } := I2.lnew (its := []) .nil (Nat.zero_le _)
  refine wpAny_newObj_type (wpAny_newFunctionEnv k.cell (by intro y hy; simp at hy) (fun hh hns hsb => ?_) k.kind)
  have hfp2 : ∀ b ∈ fp, b < s2.heap.objs.size := fun b hb => by
    obtain ⟨o, eo, _⟩ := T.obj _ _ st2 b hb
    exact Heap.lt_size eo
  generalize hG : ({ s2 with heap := s2.heap.push { cls := .type "list", data := .seq ([] : List Value).toArray }, toks := s2.toks } : Shared) = s3 at I3
  have hs3 : s3.heap = s2.heap.push { cls := .type "list", dict := none, data := .seq ([] : List Value).toArray } := by rw [← hG]
  have hsz : s3.heap.objs.size = s2.heap.objs.size + 1 := by rw [hs3, Heap.size_push]
  have f3 : ∀ b ∈ fp, FpOk X pins (upd H2 s2.heap.objs.size (.lst [])) b := fun b hb => ⟨by rw [upd_ne (Nat.ne_of_lt (hfp2 b hb))]; exact (f2 b hb).1, (f2 b hb).2⟩
  have hfp3 : ∀ b ∈ fp, b < s3.heap.objs.size := fun b hb => by rw [hsz]; exact Nat.lt_succ_of_lt (hfp2 b hb)
  have keep : ∀ b o, s3.heap.get? b = some o → hh.get? b = some o := fun b o q => by
    have q' := q
    rw [hs3] at q'
    have lt := Heap.lt_size q
    refine hsb.extBut b o ?_ (Heap.get?_push_of_some _ q')
    show b ≠ (s2.heap.push _).objs.size
    rw [Heap.size_push, ← hsz]
    exact Nat.ne_of_lt lt
  have hCeq : ({ s2 with heap := s2.heap.push { cls := .type "list", dict := none, data := .seq ([] : List Value).toArray } } : Shared).heap.objs.size = s3.heap.objs.size := by rw [hs3]
  have hns' : ∃ m, hh.Ns s3.heap.objs.size m := ⟨_, hCeq ▸ hns⟩
  have st3 : tn 0 hh := T.keep _ _ _ st2 fun b hb o q => keep b o (by rw [hs3]; exact Heap.get?_push_of_some _ q)
  have lt3 : ∀ {b o}, s3.heap.get? b = some o → b ≠ s3.heap.objs.size := fun q => Nat.ne_of_lt (Heap.lt_size q)
  have nC1 : s3.heap.objs.size ≠ X.env.locals := Ne.symm (Nat.ne_of_lt I3.lt)
  have nC2 : ∀ y c, X.env.cells.lookup y = some c → c ≠ s3.heap.objs.size := fun y c q => by
    obtain ⟨v', z⟩ := I3.cell y c q
    exact Nat.ne_of_lt z.lt
  have nC3 : ∀ p ∈ X.pn ++ pins, p.1 ≠ s3.heap.objs.size := fun p hp => lt3 (I3.pin p hp).1
  have main : ∀ s4 : Shared, s4 = { s3 with heap := hh, toks := s4.toks } →
      codeAny (model X.prog X.w) X.A (.compLoop (.ListComp elt [⟨.Name x px, iter, ifs, 0⟩] scope pos) 0 (.ref it) (.ref s2.heap.objs.size) (compEnvC scope (clFor X.env.cells scope.names []) s3.heap.objs.size X.env))
        (RR (.ref s2.heap.objs.size) s3.heap.objs.size) s4 := by
    intro s4 es4
    rw [es4]
    have I4 := comp_start (t1 := s4.toks) k I3 f3 hfp3 (Nat.le_refl _) hns' keep
    have frame : ∀ {H' : Hp}, (∀ b ∈ fp, H' b = none) → ∀ b ∈ fp, FpOk (cxComp X scope NC s3.heap.objs.size s3 (upd H2 s2.heap.objs.size (.lst [])) fp (X.pn ++ pins)) [] H' b := fun hn b hb =>
      ⟨hn b hb, I4.ok.exf b hb |>.1, I4.ok.exfs b hb, .inl hb, fun y c q => (I4.ok.exf b hb).2 y c q, fun p hp => (f3 b hb).2.2.2.2.2 p (by simpa [cxComp] using hp)⟩
    refine compLoop_go (fun n s' => ∃ i σ' H', Inv (cxComp X scope NC s3.heap.objs.size s3 (upd H2 s2.heap.objs.size (.lst [])) fp (X.pn ++ pins)) [] σ' H' s' ∧ (∀ z, σ'.set i0 (some z) = (capt js σ).set i0 (some z)) ∧ tn i s'.heap ∧ (∀ b ∈ fp, H' b = none) ∧ W i n H') ?_ m0
      ⟨0, capt js σ, _, I4, fun _ => rfl, st3, fun b hb => (f3 b hb).1, w0⟩
    rintro n s5 ⟨i, σ5, H5, I5, hσ, st5, fr5, w5⟩
    rcases turn i n H5 w5 with ⟨stop, q⟩ | ⟨go, step⟩
    · refine thn (T.done (cxComp X scope NC s3.heap.objs.size s3 (upd H2 s2.heap.objs.size (.lst [])) fp (X.pn ++ pins)) rfl rfl rfl hH i [] s5 σ5 H5 (fun _ _ => False) I5 (frame fr5) st5 stop) fun r s6 ⟨hr, I6⟩ => ?_
      subst hr
      obtain ⟨mC, hmC, _⟩ := id I6.loc
      refine hRR _ _ H5 s6 q ?_ ⟨mC, hmC⟩ I6.free nC1 (Nat.le_trans I3.sz (Nat.le_refl _)) nC2 nC3
      exact I3.call' (ch := fp) I6.os I6.base I6.hok I6.bare fun b hb => ⟨(f3 b hb).2.2.2.1, (f3 b hb).2.1, (f3 b hb).2.2.2.2.1, (f3 b hb).2.2.2.2.2⟩
    · refine thn (T.item (cxComp X scope NC s3.heap.objs.size s3 (upd H2 s2.heap.objs.size (.lst [])) fp (X.pn ++ pins)) rfl rfl rfl hH i [] s5 σ5 H5 (fun _ _ => False) I5 (frame fr5) st5 go) fun r s6 ⟨u, hr, h6⟩ => ?_
      subst hr
      refine thn h6 fun _ s7 ⟨xv, H7, I7, r7, y7, st7, fr7⟩ => ?_
      have I7' := I7.pinned (frame fr7) (T.obj _ _ st7)
      have own' : (relabel scope X.env).names.lookup x = some .local := lookup_relabel_local k.own
      have pg : PG (cxComp X scope NC s3.heap.objs.size s3 (upd H2 s2.heap.objs.size (.lst [])) fp (X.pn ++ pins)) (.Name x px) (gName i0) := pg_name k.nd k.at0 (.inl own') (.inr own')
      refine thn (pg _ s7 σ5 H7 xv u (fun σ8 H8 => σ8 = (capt js σ).set i0 (some xv) ∧ H8 = H7) I7' r7 ⟨hσ xv, rfl⟩) fun _ s8 ⟨σ8, H8, I8, e8, e8'⟩ => ?_
      subst e8 e8'
      have back : ∀ {σ9 : St} {H9 : Hp} {s9 : Shared}, Inv (cxComp X scope NC s3.heap.objs.size s3 (upd H2 s2.heap.objs.size (.lst [])) fp (X.pn ++ pins)) ([] ++ pinsAt fp s7.heap) ((capt js σ).set i0 (some xv)) H9 s9 → (∃ m', m' < n ∧ W (i + 1) m' H9) →
          ∃ m', m' < n ∧ ∃ i σ' H', Inv (cxComp X scope NC s3.heap.objs.size s3 (upd H2 s2.heap.objs.size (.lst [])) fp (X.pn ++ pins)) [] σ' H' s9 ∧ (∀ z, σ'.set i0 (some z) = (capt js σ).set i0 (some z)) ∧ tn i s9.heap ∧ (∀ b ∈ fp, H' b = none) ∧ W i m' H' :=
        fun {σ9 H9 s9} I9 ⟨m', hm, w9⟩ => by
          refine ⟨m', hm, i + 1, _, H9, I9.unpinned, fun z => List.set_set _, T.keep _ _ _ st7 fun b hb o q => (I9.pin (b, o) (List.mem_append_right _ (List.mem_append_right _ (mem_pinsAt hb q)))).1, fun b hb => ?_, w9⟩
          obtain ⟨o, q, d⟩ := T.obj _ _ st7 b hb
          exact (I9.pin (b, o) (List.mem_append_right _ (List.mem_append_right _ (mem_pinsAt hb q)))).2.1
      refine thn (ht _ _ _ _ _ _ s8 _ H8 _ I8 (step xv H8 y7)) fun ok s9 ⟨H9, I9, q9⟩ => ?_
      cases ok with
      | false => exact back (σ9 := []) I9 q9
      | true =>
        refine thn (he _ _ _ _ _ _ s9 _ H9 _ I9 q9) fun yv s10 ⟨y, H10, I10, ry, zs, hz, hl, m', hm', w'⟩ => ?_
        refine thn (mt_append _ s10 _ H10 (.ref s2.heap.objs.size) [y] (.ref s2.heap.objs.size) [yv] (fun _ H11 => ∃ m', m' < n ∧ W (i + 1) m' H11) I10 rfl (.cons ry .nil) ⟨_, zs, y, rfl, rfl, hz, hl, m', hm', w'⟩) fun _ s11 ⟨_, H11, I11, _, q11⟩ => ?_
        exact back (σ9 := []) I11 q11
  have fin : ∀ s4 : Shared, s4 = { s3 with heap := hh, toks := s4.toks } →
      codeAny (model X.prog X.w) X.A (.compStart (.ListComp elt [⟨.Name x px, iter, ifs, 0⟩] scope pos) 0 (.ref it) (.ref s2.heap.objs.size) (compEnvC scope (clFor X.env.cells scope.names []) s3.heap.objs.size X.env))
        (RR (.ref s2.heap.objs.size) s3.heap.objs.size) s4 := fun s4 es4 => by
    have z := main s4 es4
    have tnz : tn 0 s4.heap := by rw [es4]; exact st3
    exact codeAny_compStart_list z (T.self _ 0 s4 _ _ tnz z)
  subst hG
  exact fin _ rfl

theorem pe_compH (hH : X.A.handled = some (.ref ea)) (k : CompOk X scope NC x i0 js) (hi : PIH X (.Name x px) ea iter wi) (ht : ∀ C s H fp pn, PIfs (cxComp X scope NC C s H fp pn) ifs tt) (he : ∀ C s H fp pn, PE (cxComp X scope NC C s H fp pn) elt te)
    (hs : ∀ x, foldedSetIterable iter X.env x = pure x := by intro _; rfl) : PE X (.ListComp elt [⟨.Name x px, iter, ifs, 0⟩] scope pos) (tComp js i0 wi tt te) := by
  intro pins s σ H Q I h
  rw [eval_ListComp]
  refine wpAny_comprehension_free (use := none) rfl hs (closureFor_eq (CompOk.cells (pins := pins) (σ := σ) (H := H) (s := s) k I.ok)) k.kind k.names ?_
  refine comp_coreH (RR := fun acc C => compPost (model X.prog X.w) X.A X.xe none (EP X pins σ Q) acc C) hH k hi ht he I h fun acc C H5 s6 q I6 ns hC nL hz nc np => ?_
  obtain ⟨m, hm⟩ := ns
  exact ⟨m, hm, fun h' sb => ⟨.ref acc, H5, I6.turned (it := C) (t' := s6.toks) (fun b o nb e => sb.extBut b o nb e) hC (Ne.symm (Ne.symm nL)) (.inr hz) nc np, rfl, q⟩⟩

end
end L2

/-! try: f(..) except C as e: .. -/
namespace L2
open PySem PySem.Spec PyProof.Rows
section
variable {M : Model} {A : Around} {E : Value → Shared → Prop} {h : Heap} {g : Array GenState} {d : Drawn} {t : Nat} {os : OsState}
variable {nm q : Str} {C N : Addr} {bs bm : List Value} {hdct : Bool} {sn : List Str} {sub : List Value} {ab : Bool} {col : Option Bool} {dd : Option Addr} {k0 k1 k2 k3 k5 : Option Value} {newId : String}
variable {nm' q' : Str} {C' N' : Addr} {bs' bm' : List Value} {hdct' : Bool} {sn' : List Str} {sub' : List Value} {ab' : Bool} {col' : Option Bool} {dd' : Option Addr} {j0 j1 j2 j3 j5 : Option Value} {newId' : String}
/-- an own error is caught by an own class over it -/
theorem excMatches_own {e : Addr} {oe : Obj} {Q : Bool → Shared → Prop} (hC : h.get? C = some (excClassObj nm q C N bs bm hdct sn sub ab col dd k0 k1 k2 k3 k5 newId)) (hD : h.get? C' = some (excClassObj nm' q' C' N' bs' bm' hdct' sn' sub' ab' col' dd' j0 j1 j2 j3 j5 newId'))
    (he : h.get? e = some oe) (hcls : oe.cls = .ref C) (hb : bm'.contains (.type "BaseException") = true) (hs : (Value.ref C :: bm).contains (.ref C') = true) (hq : Q true ⟨h, g, d, t, os⟩) : wpAny M A (excMatches (.ref e) (.ref C')) Q E ⟨h, g, d, t, os⟩ := by
  have hb' : (Value.ref C' :: bm').contains (.type "BaseException") = true := by rw [List.contains_cons, hb, Bool.or_true]
  have f := tc_notTuple
  unfold excMatches
  repeat (first | (with_reducible refine wpAny_loadPart_at he ?_; rw [hcls]) | with_reducible refine wpAny_loadPart_at hD ?_ | (with_reducible refine wpAny_isSubtype_exc hD ?_; rw [hb']) | (with_reducible refine wpAny_isSubtype_exc hC ?_; rw [hs]) | wp_step)
  exact hq
end
theorem mro_own {K : PySem.W.Frag} {h : Heap} {nm q : Str} {C N : Addr} {bs bm : List Value} {hdct : Bool} {sn : List Str} {sub : List Value} {ab : Bool} {col : Option Bool} {dd : Option Addr} {k0 k1 k2 k3 k5 : Option Value} {newId : String} {v : Value} {r : Bool}
    (X : K.In h) (hC : h.get? C = some (excClassObj nm q C N bs bm hdct sn sub ab col dd k0 k1 k2 k3 k5 newId)) (e : PySem.W.mroIn K C v = some r) : (Value.ref C :: bm).contains v = r := by
  unfold PySem.W.mroIn PySem.W.clsIn at e
  split at e
  · rename_i ho
    have z := (X _ _ ho).symm.trans hC
    cases z
    simpa using e
  · cases e
section
variable {X : Cx} {pins : List (Addr × Obj)} {σ σ' : St} {H : Hp} {s : Shared} {h' : Heap} {m' : Str → Option Value}
/-- only this body's names have changed -/
theorem Inv.reloc (I : Inv X pins σ H s) (sb : Heap.SameBut X.env.locals s.heap h') (hn : h'.Ns X.env.locals m') (hl : ∀ (i : Nat) (x : Str) (v : V), X.N[i]? = some x → σ'[i]? = some (some v) → Vis X.env.scope x → ∃ u, RelV v u ∧ Look X.env h' m' x u)
    (len : σ'.length = σ.length) : Inv X pins σ' H { s with heap := h' } := by
  obtain ⟨m, ⟨o, es, ep, ho, hd, _⟩, _⟩ := I.loc
  have nc : ∀ x c, X.env.cells.lookup x = some c → c ≠ X.env.locals := fun x c e z => by
    obtain ⟨v, oc, hoc, hdc⟩ := I.cell x c e
    rw [z, ho] at hoc
    cases hoc
    rw [hd] at hdc
    cases hdc
  have old : ∀ b o', X.s₀.heap.get? b = some o' → b ≠ X.env.locals := fun b o' q => Nat.ne_of_lt (Nat.lt_of_lt_of_le (Heap.lt_size q) I.ok.above)
  have nt : ∀ b u, H b = some u → b ≠ X.env.locals := fun b u e z => by rw [z, I.free] at e; cases e
  refine ⟨I.ok, I.os, I.bare, ⟨fun b o' q n hb hx => (sb.2 b (old b o' q)).trans (I.base.keep b o' q n hb hx), fun b o' q n hb hx => ?_, I.base.free, fun b o' q hx => ?_, I.base.tups, I.base.frzs, I.base.tbls⟩, ⟨m', hn, hl⟩,
    fun x c e => ?_, I.free, I.freeC, fun p hp => ?_, fun b u e => ?_, len.trans I.len⟩
  · obtain ⟨sl, e⟩ := I.base.slot b o' q n hb hx
    exact ⟨sl, (sb.2 b (old b o' q)).trans e⟩
  · obtain ⟨o2, e⟩ := I.base.there b o' q hx
    exact ⟨o2, (sb.2 b (old b o' q)).trans e⟩
  · obtain ⟨v, oc, hoc, hdc⟩ := I.cell x c e
    exact ⟨v, oc, (sb.2 c (nc x c e)).trans hoc, hdc⟩
  · obtain ⟨q1, q2, q3, q4, q5⟩ := I.pin p hp
    exact ⟨(sb.2 p.1 q3).trans q1, q2, q3, q4, q5⟩
  · refine (I.hok b u e).stay (fun c v hc q => (sb.2 c ?_).trans q) (fun _ q => q) fun _ _ q => q
    rcases hc with z | z
    · rw [z]; exact nt b u e
    · exact nt c _ z
/-- an object of ours that was not tracked is tracked as it is -/
theorem Inv.track {ea : Addr} {oe : Obj} (I : Inv X pins σ H s) (he : s.heap.get? ea = some oe) (hn : H ea = none) (h0 : X.s₀.heap.get? ea = none) (hL : ea ≠ X.env.locals) (hc : ∀ x c, X.env.cells.lookup x = some c → c ≠ ea) (hp : ∀ p ∈ X.pn ++ pins, p.1 ≠ ea) :
    Inv X pins σ (upd H ea (.frz oe (.own 0))) s := by
  have ne0 : ∀ b o, X.s₀.heap.get? b = some o → b ≠ ea := fun b o q z => by rw [z, h0] at q; cases q
  refine ⟨I.ok, I.os, I.bare, ⟨I.base.keep, I.base.slot, fun b o q n hx => by rw [upd_ne (ne0 b o q)]; exact I.base.free b o q n hx, I.base.there, fun b xs q => ?_, fun b o u q => ?_, fun b ps q => ?_⟩, I.loc, I.cell, by rw [upd_ne (Ne.symm hL)]; exact I.free,
    fun x c e => by rw [upd_ne (hc x c e)]; exact I.freeC x c e, fun p hpp => ?_, fun b u e => ?_, I.len⟩
  · have z := I.base.tups b xs q
    rw [upd_ne (ne_of_none z hn)]
    exact z
  · have z := I.base.frzs b o u q
    rw [upd_ne (ne_of_none z hn)]
    exact z
  · obtain ⟨more, z⟩ := I.base.tbls b ps q
    exact ⟨more, by rw [upd_ne (ne_of_none z hn)]; exact z⟩
  · obtain ⟨q1, q2, q3⟩ := I.pin p hpp
    exact ⟨q1, by rw [upd_ne (hp p hpp)]; exact q2, q3⟩
  · by_cases hb : b = ea
    · subst hb
      rw [upd_same] at e
      cases e
      exact ⟨he, _, he⟩
    · rw [upd_ne hb] at e
      exact (I.hok b u e).stay (fun _ _ _ q => q) (fun c q => by rw [upd_ne (ne_of_none q hn)]; exact q) fun c xs q => by rw [upd_ne (ne_of_none q hn)]; exact q
end
/-- the error goes on lying so -/
theorem Up.step {P : Program} {w : World} {outer : List Env} {H : Hp} {s : Shared} {ea C : Addr} {H' : Hp} {B : Heap} {s' : Shared} {h2 : Heap} (U : Up P w outer H s ea C H' B s') (k1 : B.StaysIn h2) (k2 : h2.FunFrames B outer) (k3 : Fly B ea (.ref C) .none h2) (k4 : s'.heap.UpToSlots h2) :
    Up P w outer H s ea C H' B { s' with heap := h2 } := by
  have slot : ∀ b o, s.heap.get? b = some o → H b = none → b ∈ frs outer → ∃ sl, h2.get? b = some { o with slots := sl } := fun b o q n hb => by
    obtain ⟨sl, e1⟩ := U.un.slot b o q n hb (by simp)
    obtain ⟨_, o2, e2, nd⟩ := U.frames.mem hb
    rw [e1] at e2
    cases e2
    obtain ⟨sl', e3⟩ := k4 b _ e1 nd
    exact ⟨sl', e3⟩
  have keep : ∀ b o, s.heap.get? b = some o → b ∉ frs outer → ∀ o', s'.heap.get? b = some o' → h2.get? b = some o' := fun b o q nf o' q' => k1 b o' (U.old b o o' q nf q')
  refine ⟨U.os, U.bare, ⟨fun b o q n hb _ => keep b o q hb o (U.un.keep b o q n hb (by simp)), fun b o q n hb _ => slot b o q n hb, U.un.free, fun b o q _ => ?_, U.un.tups, U.un.frzs, U.un.tbls⟩, fun b u e => ?_, k1, U.new, k2, k3, fun b u ob e q => ?_, fun b o ob q0 nf q => ?_⟩
  · obtain ⟨o', e⟩ := U.un.there b o q (by simp)
    by_cases hb : b ∈ frs outer
    · obtain ⟨_, o2, e2, nd⟩ := U.frames.mem hb
      obtain ⟨sl', e3⟩ := k4 b _ e2 nd
      exact ⟨_, e3⟩
    · exact ⟨o', keep b o q hb o' e⟩
  · refine (U.hok b u e).stay (fun c v hc q => k1 c v ?_) (fun _ q => q) fun _ _ q => q
    rcases hc with z | z
    · rw [z] at q ⊢; exact U.inB b u v e q
    · exact U.inB c _ v z q
  · obtain ⟨o', q'⟩ := (U.hok b u e).there
    have z := U.inB b u o' e q'
    have q2 : h2.get? b = some ob := q
    rw [k1 b o' z] at q2
    cases q2
    exact z
  · obtain ⟨o', e⟩ := U.un.there b o q0 (by simp)
    have z := U.old b o o' q0 nf e
    have q2 : h2.get? b = some ob := q
    rw [k1 b o' z] at q2
    cases q2
    exact z
end L2

/-! try: f(..) except C as e: a suite that returns -/
namespace L2
open PySem PySem.Spec PyProof.Rows
def tTryC (K : PySem.W.Frag) (sp : Sp) (ta : TA) (i : Nat) (D0 : Addr) (ts : Addr → TS) : TS := fun D σ H => ta σ H fun vs H1 => sp (vs ++ []) H1 (fun _ H2 => D.nx σ H2) fun cls _ H2 =>
  ∃ C, cls = .ref C ∧ ExcK K C ∧ PySem.W.mroIn K C (.ref D0) = some true ∧ ∀ ea H3, Same H2 H3 → H2 ea = none → Caught K H3 ea C → ts ea { nx := fun _ _ => False, rt := D.rt } (σ.set i (some (.ref ea))) H3
theorem ps_tryC {X : Cx} {k : Nat} {ps : List Str} {sp : Sp} {x cx n : Str} {p cpos epos np hpos pos : Pos} {e : Expr} {es : List Expr} {ta : TA} {i : Nat} {D0 : Addr} {b0 : Stmt} {suite : List Stmt} {ts : Addr → TS}
    (hst : X.stack = X.env :: X.outer) (hex : X.ex = []) (hfr : X.env.frame = some X.env.locals) (hxe : X.xe = fun _ _ => False)
    (Cc : Callee X.prog X.w X.K X.mg X.base (CXR X.prog X.w) k x ps sp) (hr : Room k X.A) (hg : Gl X x) (ha : PA X (e :: es) ta) (hgc : Gl X cx) (hmc : X.mg cx = some (.ref D0)) (hD : PySem.W.excIn X.K D0 vBm "ValueError.__new__" = true)
    (hN : X.N.Nodup) (hi : X.N[i]? = some n) (hl : X.env.scope.names.lookup n = some .local) (hs : ∀ ea, PSs (X.hand (X.A.mark (some (.ref ea)))) (b0 :: suite) (ts ea))
    (hdb : (x == ("__debug__" : Str)) = false := by decide) (hdc : (cx == ("__debug__" : Str)) = false := by decide) (he : starEach (e :: es) X.env = (false, eval e X.env) :: starEach es X.env := by rfl) (hpl : (backTo cpos (starEach es X.env)).any (·.1) = false := by rfl)
    (hsw : swapsWith (.Call (.Name x p) (e :: es) [] cpos) none epos.line X.env = pure false := by rfl) (hp : (X.env.scope.kind == .class || (X.env.scope.kind == .module && X.env.locals != X.env.globals)) = false := by rfl) :
    PS X (.Try [.Expr (.Call (.Name x p) (e :: es) [] cpos) epos] [.ExceptHandler (some (.Name cx np)) (some n) (b0 :: suite) hpos] [] [] pos) (tTryC X.K sp ta i D0 ts) := by
  intro pins s σ H D I h
  obtain ⟨f, fd, F, m, kp, b⟩ := Cc.ex
  refine wpAny_Try_except (wpAny_execs_cons (wpAny_Expr_any (wpAny_Call_Name_kw (ld_glob I hg m (PySem.W.callWith_K (h₀ := X.base) I.ok.mod.kin kp ?_ he hpl) hdb)) I.quiet hsw))
  refine wpAny_mono (ha cpos pins s σ H _ I h) (fun us s1 ⟨vs, H1, I1, r, q⟩ => ⟨I1.kIn, ?_⟩) fun _ _ z => by rw [hxe] at z; exact z.elim
  have q' : sp (vs ++ []) H1 _ _ := q
  rw [List.append_nil] at q'
  have hlen : us.length = ps.length := by rw [← r.length]; exact F.len _ _ _ _ q'
  have hb := b s1 us I1.kIn (by rw [List.append_nil]; exact hlen)
  rw [List.append_nil] at hb
  show wpAny _ _ (call (.ref f) us) _ _ s1
  refine wpAny_call (codeAny_mono (F.run X.A X.stack s1 H1 ⟨us, []⟩ us vs _ _ hr I1.env0 hb r q') fun res s' hq => ?_)
  cases res with
  | ok fl =>
    cases fl with
    | ret u =>
      obtain ⟨v, H2, I2, _, q2⟩ := I1.after hq
      exact wpAny_execs_nil (wpAny_execs_nil ⟨σ, H2, I2, q2⟩)
    | next => exact hq.elim
    | brk => exact hq.elim
    | cont => exact hq.elim
  | error ex =>
    obtain ⟨ea, C, H', B, rfl, U, C', eC, ck, mr, run⟩ := hq
    cases eC
    have hfrm : X.A.frames = some (X.env :: X.outer) := by rw [← hst]; exact I.ok.frames
    have ff : s'.heap.FunFrames B (X.env :: X.outer) := by rw [← hst]; exact U.frames
    refine note2 (B := B) (cls := .ref C) hfrm ff hfr (.inl U.fly) U.stays U.new fun h1 k1 k2 k3 k4 => land2 (s := { s' with heap := h1 }) k2 k3 k1 fun h2 k5 k6 k7 k8 => ?_
    have U2 := U.step k5 (by rw [hst]; exact k6) k7 (k4.trans k8)
    have I2 : Inv X pins σ H' { s' with heap := h2 } := I1.call' (ch := []) U2.os U2.un U2.hok U2.bare fun b z => by cases z
    obtain ⟨bm, N, nm, qn, bs, hdct, sn, sub, ab, col, dd, y0, y1, y2, y3, y5, mN, oC, oN, hni, tl⟩ := excObj I.mod.kin ck.own
    obtain ⟨bm', N', nm', qn', bs', hdct', sn', sub', ab', col', dd', w0, w1, w2, w3, w5, mN', oD, oN', hni', tl'⟩ := excObj I.mod.kin hD
    obtain ⟨oe, ws, T, oT, tts, he2, hcls, _⟩ := id U2.fly
    refine wpAny_handleBy_cons (codeAny_handlers_test (ld_glob (X := X.hand (X.A.mark (some (.ref ea)))) (I2.hand rfl) hgc hmc ?_ hdc)) (by intro q; cases q)
    refine excMatches_own (I2.bk _ _ oC) (I2.bk _ _ oD) he2 hcls (tl'.hasType PySem.F.excBase_ValueError.hasBase) (mro_own I.mod.kin oC mr) (codeAny_handlers_suite_as ?_)
    refine land2 (s := { s' with heap := h2 }) k6 k7 k5 fun h3 k9 k10 k11 k12 => ?_
    have U3 := U2.step k9 (by rw [hst]; exact k10) k11 k12
    have I3 : Inv X pins σ H' { s' with heap := h3 } := I1.call' (ch := []) U3.os U3.un U3.hok U3.bare fun b z => by cases z
    obtain ⟨oe3, vs3, T3, oT3, ts3, he3, hcls3, hdi3, hda3, h23, _⟩ := id U3.fly
    have apart : ∀ b o', s1.heap.get? b = some o' → b ≠ ea := fun b o' q z => by
      subst z
      by_cases hm : b ∈ frs X.stack
      · obtain ⟨_, o2, e2, nd⟩ := U3.frames.mem hm
        have e2' : h3.get? b = some o2 := e2
        rw [he3] at e2'
        cases e2'
        exact nd _ hda3
      · have z := U3.old b o' oe3 q hm he3
        rw [U3.new] at z
        cases z
    have hno : H' ea = none := U3.free
    have I4 := I3.track he3 hno
      (by
        cases q0 : X.s₀.heap.get? ea with
        | none => rfl
        | some o =>
          obtain ⟨o', e'⟩ := I1.base.there ea o q0 (by rw [hex]; simp)
          exact absurd rfl (apart ea o' e'))
      (fun z => by
        obtain ⟨m1, ⟨o, _, _, ho, _⟩, _⟩ := I1.loc
        exact apart _ o ho z.symm)
      (fun y c ec => by
        obtain ⟨v, o, ho, _⟩ := I1.cell y c ec
        exact apart c o ho)
      (fun pp hpp => apart pp.1 pp.2 (I1.pin pp hpp).1)
    have caught : Caught X.K (upd H' ea (.frz oe3 (.own 0))) ea C := ⟨⟨oe3, vs3, upd_same, hcls3, hdi3, hda3, h23⟩, ck⟩
    refine store_ok (X := X.hand (X.A.mark (some (.ref ea)))) (v := .ref ea) (I4.hand rfl) hN hi (.inl hl) rfl (fun s5 I5 => ?_) (.inr hl)
    refine wpAny_mono (hs ea pins s5 _ _ { nx := fun _ _ => False, rt := D.rt } I5 (run ea _ (Same.here hno) hno caught)) (fun fl s6 q6 => ?_) fun _ _ z => z.elim
    cases fl with
    | ret u =>
      obtain ⟨v, σ6, H6, I6, rv, q6⟩ := q6
      have I6' := I6.unhand I.ok
      refine wpAny_bind (wpAny_bindName (store_ok (v := .non) I6' hN hi (.inl hl) rfl (fun s7 I7 => ?_) (.inr hl)))
      obtain ⟨m7, hn7, lk7⟩ := I7.loc
      have il : i < σ6.length := by
        rw [I6'.len]
        exact (List.getElem?_eq_some_iff.mp hi).1
      obtain ⟨u7, r7, look7⟩ := lk7 i n .non hi (by rw [List.getElem?_set_self il]) (.inl hl)
      have hv7 : m7 n = some u7 := by
        rcases look7 with ⟨_, z⟩ | ⟨z, _⟩
        · exact z
        · rcases z with z | z
          · exact absurd (z.symm.trans hl) (by simp)
          · exact absurd (z.symm.trans hl) (by simp)
      unfold unbindBehindTheSuite
      refine wpAny_onRaise (wpAny_unbindName_local (n := n) hl hn7 hv7 hp fun h8 u8 hn8 sb8 => ?_)
      refine ⟨v, (σ6.set i (some .non)).set i none, H6, I7.reloc sb8 hn8 (fun j y vv e1 e2 e3 => ?_) (by rw [List.length_set]), rv, q6⟩
      have nj : j ≠ i := fun z => by
        subst z
        rw [List.getElem?_set_self (by rw [List.length_set]; exact il)] at e2
        cases e2
      have ny : y ≠ n := fun z => by
        subst z
        exact nj (nodup_ix hN e1 hi)
      rw [List.getElem?_set_ne (Ne.symm nj)] at e2
      obtain ⟨uu, ru, lk⟩ := lk7 j y vv e1 e2 e3
      refine ⟨uu, ru, ?_⟩
      rcases lk with ⟨z1, z2⟩ | ⟨z1, c, z2, oc, z3, z4⟩
      · exact .inl ⟨z1, by show (if y = n then u8 else m7 y) = _; rw [if_neg ny]; exact z2⟩
      · refine .inr ⟨z1, c, z2, oc, (sb8.2 c fun z => ?_).trans z3, z4⟩
        obtain ⟨o, _, _, ho, hd, _⟩ := hn7
        rw [z, ho] at z3
        cases z3
        rw [hd] at z4
        cases z4
    | next => obtain ⟨_, _, _, q⟩ := q6; exact q.elim
    | brk => obtain ⟨_, _, _, q⟩ := q6; exact q.elim
    | cont => obtain ⟨_, _, _, q⟩ := q6; exact q.elim
end L2

/-! A comprehension over a range while an error is handled: by its turns. -/
namespace L2
open PySem PySem.Spec PyProof.Rows
section
variable {tt : TT} {te : TE} {σc : St} {i0 : Nat} {acc : Addr} {H : Hp} {F : Addr → Hp → Prop}
theorem comp_rangeH {K : PySem.W.Frag} {ea : Addr} {lo : Int} {n : Nat} (Pv : Nat → Hp → Prop) (hc : ∀ H, Pv n H → ∃ C, Caught K H ea C) (h0 : Pv 0 (upd H acc (.lst [])))
    (hs : ∀ i H, i < n → Pv i H → tt (σc.set i0 (some (.int (lo + i)))) H fun b H4 =>
      if b = true then te (σc.set i0 (some (.int (lo + i)))) H4 fun y H5 => ∃ zs, H5 acc = some (.lst zs) ∧ zs.length < sizeLine ∧ ∃ m', m' < n - i ∧ cW n Pv (i + 1) m' (upd H5 acc (.lst (zs ++ [y])))
      else ∃ m', m' < n - i ∧ cW n Pv (i + 1) m' H4) (hd : ∀ H, Pv n H → F acc H) :
    CompW (ItrH K ea lo n) tt te σc i0 acc H F := by
  refine ⟨cW n Pv, ⟨_, ⟨Nat.zero_le _, h0⟩, rfl⟩, fun i m H2 ⟨⟨hi, p⟩, e⟩ => ?_⟩
  subst e
  by_cases lt : i < n
  · refine .inr ⟨lt, fun x H3 ⟨e3, hx⟩ => ?_⟩
    subst e3 hx
    exact hs i H3 lt p
  · have e : i = n := by omega
    subst e
    exact .inl ⟨⟨Nat.le_refl _, hc H2 p⟩, hd H2 p⟩
end
end L2

/-! An f-string's parts, their signs counted by a bound. -/
namespace L2
open PySem PySem.Spec PyProof.Rows
section
variable {σ : St} {H : Hp} {n b : Nat} {Q : VK} {tj : TJ}
theorem thousand : 1000 ≤ sizeLine := by decide
theorem jS {y : Str} (c : Nat) (hn : n ≤ b) (k : ∀ n', n' ≤ b + c → tj σ H n' Q) (hy : y.length ≤ c := by decide +kernel) (hb : b + c ≤ 1000 := by decide) : tJcons (tC (.str y)) tj σ H n Q :=
  ⟨y, rfl, Nat.le_trans (by omega) thousand, k _ (by omega)⟩
theorem jV {i : Nat} {z : Int} (hv : σ[i]? = some (some (.int z))) (h1 : -1000 ≤ z) (h2 : z ≤ 1000) (hn : n ≤ b) (k : ∀ n', n' ≤ b + 5 → tj σ H n' Q) (hb : b + 5 ≤ 1000 := by decide) : tJcons (tFmt (tVar i)) tj σ H n Q :=
  have l := text_small h1 h2
  ⟨_, hv, .inl ⟨z, rfl, log_small h1 h2, _, rfl, Nat.le_trans (by omega) thousand, k _ (by omega)⟩⟩
theorem jC {z : Int} (h1 : -1000 ≤ z) (h2 : z ≤ 1000) (hn : n ≤ b) (k : ∀ n', n' ≤ b + 5 → tj σ H n' Q) (hb : b + 5 ≤ 1000 := by decide) : tJcons (tFmt (tC (.int z))) tj σ H n Q :=
  have l := text_small h1 h2
  .inl ⟨z, rfl, log_small h1 h2, _, rfl, Nat.le_trans (by omega) thousand, k _ (by omega)⟩
theorem jT {i : Nat} {y : Str} (c : Nat) (hv : σ[i]? = some (some (.str y))) (hy : y.length ≤ c) (hn : n ≤ b) (k : ∀ n', n' ≤ b + c → tj σ H n' Q) (hb : b + c ≤ 1000 := by decide) : tJcons (tFmt (tVar i)) tj σ H n Q :=
  ⟨_, hv, .inr ⟨y, rfl, Nat.le_trans (by omega) thousand, _, rfl, Nat.le_trans (by omega) thousand, k _ (by omega)⟩⟩
theorem jN (hn : n ≤ b) (k : ∀ out : Str, Q (.str out) H) (hb : b ≤ 1000 := by decide) : tJnil σ H n Q := ⟨Nat.le_trans (by omega) thousand, fun out _ => k out⟩
end
end L2

/-! A for loop while an error is handled; a text's repr in an f-string; insert, min and max of a list. -/
namespace L2
open PySem PySem.Spec PyProof.Rows
section
variable {X : Cx} {tg : Expr}
theorem ps_forH {iter : Expr} {body : List Stmt} {wi : TI} {g : TG} {tb : TS} {pos : Pos} {ea : Addr} (hx : X.xe = fun _ _ => False) (hH : X.A.handled = some (.ref ea)) (hi : PIH X tg ea iter wi) (hg : PG X tg g) (hb : PSs X body tb)
    (hs : ∀ x, foldedSetIterable iter X.env x = pure x := by intro _; rfl) : PS X (.For tg iter body [] pos) (tFor wi g tb) := by
  have hp : PassesOwn (model X.prog X.w) X.A X.env X.xe := by
    rw [hx]
    exact PassesOwn.never
  intro pins s σ H D I h
  refine wpAny_For (thn (hi pins s σ H _ I h) fun v s1 h1 => thn h1 fun itv s2 h2 => ?_) hs
  obtain ⟨it, fp, tn, J, H2, e, I2, T, st2, f2, W, ⟨m0, w0⟩, turn⟩ := h2
  subst e
  have stat : ∀ {H' : Hp}, (∀ b ∈ fp, H' b = none) → ∀ b ∈ fp, FpOk X pins H' b := fun hn b hb => ⟨hn b hb, (f2 b hb).2⟩
  refine codeAny_forLoop_any (fun n s' => ∃ i σ' H', Inv X pins σ' H' s' ∧ tn i s'.heap ∧ (∀ b ∈ fp, H' b = none) ∧ W i n σ' H') ?_ m0 ⟨0, σ, H2, I2, st2, fun b hb => (f2 b hb).1, w0⟩
  rintro n s3 ⟨i, σ3, H3, I3, st3, fr3, w3⟩
  rcases turn i n σ3 H3 w3 with ⟨stop, qn⟩ | ⟨go, N, hN, step⟩
  · refine wpAny_passesOwn hp (thn (T.done X rfl rfl rfl hH i pins s3 σ3 H3 X.xe I3 (stat fr3) st3 stop) fun r s4 ⟨hr, I4⟩ => ?_)
    subst hr
    exact wpAny_execs_nil ⟨σ3, H3, I4, qn⟩
  · refine wpAny_passesOwn hp (thn (T.item X rfl rfl rfl hH i pins s3 σ3 H3 X.xe I3 (stat fr3) st3 go) fun r s4 ⟨u, hr, h4⟩ => ?_)
    subst hr
    refine wpAny_passesOwn hp (thn h4 fun _ s5 ⟨x, H5, I5, r5, y5, st5, fr5⟩ => ?_)
    have I5' := I5.pinned (stat fr5) (T.obj _ _ st5)
    refine wpAny_passesOwn hp (thn (hg _ s5 σ3 H5 x u _ I5' r5 (step x H5 y5)) fun _ s6 ⟨σ6, H6, I6, q6⟩ => ?_)
    refine wpAny_passesOwn hp (thn (hb _ s6 σ6 H6 _ I6 q6) fun f s7 q7 => ?_)
    have again : ∀ {σ7 : St} {H7 : Hp}, Inv X (pins ++ pinsAt fp s5.heap) σ7 H7 s7 → N σ7 H7 → ∃ m, m < n ∧ ∃ i σ' H', Inv X pins σ' H' s7 ∧ tn i s7.heap ∧ (∀ b ∈ fp, H' b = none) ∧ W i m σ' H' := fun {σ7 H7} I7 n7 => by
      obtain ⟨m', hm, w7⟩ := hN σ7 H7 n7
      refine ⟨m', hm, i + 1, σ7, H7, I7.unpinned, T.keep _ _ _ st5 fun b hb o e => (I7.pin (b, o) (List.mem_append_right _ (List.mem_append_right _ (mem_pinsAt hb e)))).1, fun b hb => ?_, w7⟩
      obtain ⟨o, e, d⟩ := T.obj _ _ st5 b hb
      exact (I7.pin (b, o) (List.mem_append_right _ (List.mem_append_right _ (mem_pinsAt hb e)))).2.1
    cases f with
    | next => obtain ⟨σ7, H7, I7, n7⟩ := q7; exact again I7 n7
    | cont => obtain ⟨σ7, H7, I7, n7⟩ := q7; exact again I7 n7
    | brk => obtain ⟨σ7, H7, I7, q7⟩ := q7; exact ⟨σ7, H7, I7.unpinned, q7⟩
    | ret v => obtain ⟨x7, σ7, H7, I7, r7, q7⟩ := q7; exact ⟨x7, σ7, H7, I7.unpinned, r7, q7⟩
theorem for_rangeH {K : PySem.W.Frag} {ea : Addr} {lo : Int} {n : Nat} {g : TG} {tb : TS} {D : Ends} {σ : St} {H : Hp} (Pv : Nat → St → Hp → Prop) (hc : ∀ σ H, Pv n σ H → ∃ C, Caught K H ea C) (h0 : Pv 0 σ H)
    (hs : ∀ i σ H, i < n → Pv i σ H → g (.int (lo + i)) σ H fun σ2 H2 => tb { D with nx := Pv (i + 1), ct := Pv (i + 1), bk := D.nx } σ2 H2) (hd : ∀ σ H, Pv n σ H → D.nx σ H) :
    ∃ W : Nat → Nat → St → Hp → Prop, (∃ m, W 0 m σ H) ∧ ∀ i m σ H, W i m σ H →
      ((ItrH K ea lo n).stop i H ∧ D.nx σ H) ∨ ((ItrH K ea lo n).go i H ∧ ∃ N : St → Hp → Prop, (∀ σ' H', N σ' H' → ∃ m', m' < m ∧ W (i + 1) m' σ' H') ∧ ∀ x H', (ItrH K ea lo n).yld i H x H' → g x σ H' fun σ2 H2 => tb { D with nx := N, ct := N, bk := D.nx } σ2 H2) := by
  refine ⟨fun i m σ H => m = n - i ∧ i ≤ n ∧ Pv i σ H, ⟨n, by simp, Nat.zero_le _, h0⟩, ?_⟩
  rintro i m σ H ⟨rfl, hi, p⟩
  by_cases hlt : i < n
  · refine .inr ⟨hlt, Pv (i + 1), fun σ' H' p' => ⟨n - (i + 1), by omega, rfl, hlt, p'⟩, fun x H' y => ?_⟩
    obtain ⟨e, y⟩ := y
    subst e y
    exact hs i σ _ hlt p
  · have e : i = n := by omega
    subst e
    exact .inl ⟨⟨Nat.le_refl _, hc σ H p⟩, hd σ H p⟩
/-- {e!r}, e a text -/
def tFmtR (te : TE) : TE := fun σ H Q => te σ H fun v H1 => ∃ y, v = .str y ∧ (reprText y).length ≤ sizeLine ∧ Q (.str (reprText y)) H1
theorem pe_fmtR {value : Expr} {pos : Pos} {te : TE} (h : PE X value te) : PE X (.FormattedValue value 114 none pos) (tFmtR te) := by
  intro pins s σ H Q I hw
  refine wpAny_FormattedValue_repr (thn (h pins s σ H _ I hw) fun v s1 ⟨x, H1, I1, r1, y, e, hz, q⟩ => ?_)
  subst e
  obtain ⟨t, rfl⟩ := r1
  exact wpAny_pyReprObj_str (formatField_str (fun t' tk => ⟨.str (reprText y), H1, I1.tok _, ⟨_, rfl⟩, q⟩) hz) hz
/-- xs.insert(k, y) -/
def rInsert : V → List V → Hp → VK → Prop := fun x vs H Q => ∃ l xs k y, x = .ref l ∧ vs = [.int ((k : Nat) : Int), y] ∧ H l = some (.lst xs) ∧ k ≤ xs.length ∧ xs.length < 100000 ∧ Q .non (upd H l (.lst (xs.take k ++ y :: xs.drop k)))
theorem mt_insert : MtM X "list.insert" rInsert := by
  intro pins s σ H x vs v us Q I rx rv h
  obtain ⟨l, xs, k, y, rfl, rfl, hH, hk, hz, q⟩ := h
  cases rx
  obtain ⟨u, w', rfl, ⟨t, rfl⟩, rw'⟩ := vals2 rv
  obtain ⟨z, its, n, r, hl, e⟩ := I.lstM hH
  have kz : k < 100000 := by omega
  have fit : ¬(!Builtin.List.listFitsIndex ((k : Nat) : Int)) = true := by
    rw [show Builtin.List.listFitsIndex (k : Int) = true from fitsIndex_both (by omega) (by omega)]
    decide
  have sz : its.toArray.size ≤ sizeLine := by
    rw [List.size_toArray, ← hl]
    exact z
  generalize hki : ((k : Nat) : Int) = ki at fit
  have M := AutoSeq1.list_insert_list_int_val_1 l its.toArray n ki t w' fit sz
  refine call_meets F.slot_list_insert ⟨_, e, rfl⟩ F.entry_list_insert (F.args_list_insert_3 _ _ _) M ⟨e, ?_⟩
  · subst hki
    refine ⟨.non, _, I.lset (ys := xs.take k ++ y :: xs.drop k) (its' := its.take k ++ w' :: its.drop k) hH e ?_ ?_ ?_, rfl, q⟩
    · show (its.toArray.extract 0 (if ((k : Nat) : Int) < 0 then (((k : Nat) : Int) + (its.toArray.size : Int)).toNat else min ((k : Nat) : Int).toNat its.toArray.size)).push w' ++ its.toArray.extract (if ((k : Nat) : Int) < 0 then (((k : Nat) : Int) + (its.toArray.size : Int)).toNat else min ((k : Nat) : Int).toNat its.toArray.size) = _
      have ek : (if ((k : Nat) : Int) < 0 then (((k : Nat) : Int) + (its.toArray.size : Int)).toNat else min ((k : Nat) : Int).toNat its.toArray.size) = k := by
        rw [if_neg (by omega), Int.toNat_natCast, List.size_toArray]
        omega
      rw [ek]
      apply Array.toList_inj.mp
      simp
      exact List.take_of_length_le (by rw [List.length_drop]; exact Nat.le_refl _)
    · exact (r.take k).append (.cons rw' (r.drop k))
    · have e1 : (xs.take k ++ y :: xs.drop k).length = xs.length + 1 := by
        rw [List.length_append, List.length_cons, List.length_take, List.length_drop]
        omega
      rw [e1]
      exact Nat.le_trans (by omega : xs.length + 1 ≤ 100000) (by decide)
/-- min and max of a list of ints -/
theorem call_minL (hc : X.calm = true) : CallR X (.builtin "min") (fun xs H Q => ∃ (p : Addr) (is : List Int), xs = [.ref p] ∧ SqL X.K H p (is.map V.int) ∧ 0 < is.length ∧ ∀ M, M ∈ is → (∀ a, a ∈ is → M ≤ a) → Q (.int M) H) := by
  intro pins s σ H xs us Q I r h
  obtain ⟨p, is, rfl, hq, hne, q⟩ := h
  obtain ⟨u, rfl, rx⟩ := vals1 r
  cases rx
  obtain ⟨its, r', pl, hz⟩ := I.list hq
  have ia := r'.intsAre
  obtain ⟨ys, e⟩ := ia.allInts.items
  have hns : is = ys.toList.map (·.1) := by rw [← ia.numsOf, ← nums_intItems, ← e]
  have hsz : 0 < ys.size := by have h3 := hne; rw [hns, List.length_map, Array.length_toList] at h3; exact h3
  have hl := pl.isList
  rw [e] at hl
  refine min_intList (I.ok.hd hc) hl hsz fun v h' tk hv hk => ?_
  obtain ⟨t, rfl⟩ := intItems_at hv
  obtain ⟨h1, h2⟩ := argBest_lt (numAt ys) (ys.size - 1)
  refine ⟨.int _, H, I.kept hk, ⟨t, rfl⟩, q _ ?_ fun a ha => ?_⟩
  · rw [hns, numAt_eq]; exact getD_mem (by rw [List.length_map, Array.length_toList]; omega)
  · rw [hns] at ha
    obtain ⟨j, hj, rfl⟩ := mem_getD ha
    rw [List.length_map, Array.length_toList] at hj
    rw [← numAt_eq]; exact h2 j (by omega)
theorem call_maxL (hc : X.calm = true) : CallR X (.builtin "max") (fun xs H Q => ∃ (p : Addr) (is : List Int), xs = [.ref p] ∧ SqL X.K H p (is.map V.int) ∧ 0 < is.length ∧ ∀ M, M ∈ is → (∀ a, a ∈ is → a ≤ M) → Q (.int M) H) := by
  intro pins s σ H xs us Q I r h
  obtain ⟨p, is, rfl, hq, hne, q⟩ := h
  obtain ⟨u, rfl, rx⟩ := vals1 r
  cases rx
  obtain ⟨its, r', pl, hz⟩ := I.list hq
  have ia := r'.intsAre
  obtain ⟨ys, e⟩ := ia.allInts.items
  have hns : is = ys.toList.map (·.1) := by rw [← ia.numsOf, ← nums_intItems, ← e]
  have hsz : 0 < ys.size := by have h3 := hne; rw [hns, List.length_map, Array.length_toList] at h3; exact h3
  have hl := pl.isList
  rw [e] at hl
  refine max_intList (I.ok.hd hc) hl hsz fun v h' tk hv hk => ?_
  obtain ⟨t, rfl⟩ := intItems_at hv
  obtain ⟨h1, h2⟩ := argBest_gt (numAt ys) (ys.size - 1)
  refine ⟨.int _, H, I.kept hk, ⟨t, rfl⟩, q _ ?_ fun a ha => ?_⟩
  · rw [hns, numAt_eq]; exact getD_mem (by rw [List.length_map, Array.length_toList]; omega)
  · rw [hns] at ha
    obtain ⟨j, hj, rfl⟩ := mem_getD ha
    rw [List.length_map, Array.length_toList] at hj
    rw [← numAt_eq]; exact h2 j (by omega)
end
end L2

/-! Pairs, sums, steps: the plain mathematics. -/
namespace OH
inductive Kd where
  | pairs | sums | steps
  deriving DecidableEq
def Kd.max : Kd → Nat
  | .pairs => 9
  | _ => 40
/-- the kind by a number -/
def kdOf (z : Int) : Kd := if z % 3 = 0 then .pairs else if z % 3 = 1 then .sums else .steps

def row (n i : Nat) : List (Nat × Nat) := (List.range (n - (i + 1))).map fun j => (i, i + 1 + j)
def rows (n i : Nat) : List (Nat × Nat) := (List.range i).flatMap (row n)
def pairsL (n : Nat) : List (Nat × Nat) := rows n n
theorem rows_succ (n i : Nat) : rows n (i + 1) = rows n i ++ row n i := by
  unfold rows
  rw [List.range_succ, List.flatMap_append]
  simp
def rowTo (i k : Nat) : List (Nat × Nat) := (List.range k).map fun j => (i, i + 1 + j)
theorem rowTo_succ (i k : Nat) : rowTo i (k + 1) = rowTo i k ++ [(i, i + 1 + k)] := by
  unfold rowTo
  rw [List.range_succ, List.map_append]
  rfl
theorem row_eq (n i : Nat) : row n i = rowTo i (n - (i + 1)) := rfl

def ix (n i j : Nat) : Int := ((pairsL n).idxOf (i, j) : Nat)

/-- a pair as a tuple -/
def two (p : Nat × Nat) : List Int := [(p.1 : Int), (p.2 : Int)]

/-- three nested walks, as the program goes -/
def tri3 (n i j k : Nat) : List Int := [ix n i j, ix n i k, ix n j k]
def ptRow (n i j m : Nat) : List (List Int) := (List.range m).map fun k => tri3 n i j (j + 1 + k)
def ptRows (n i m : Nat) : List (List Int) := (List.range m).flatMap fun j => ptRow n i (i + 1 + j) (n - (i + 1 + j + 1))
def ptAll (n m : Nat) : List (List Int) := (List.range m).flatMap fun i => ptRows n i (n - (i + 1))
theorem ptRow_succ (n i j m : Nat) : ptRow n i j (m + 1) = ptRow n i j m ++ [tri3 n i j (j + 1 + m)] := by
  unfold ptRow
  rw [List.range_succ, List.map_append]
  rfl
theorem ptRows_succ (n i m : Nat) : ptRows n i (m + 1) = ptRows n i m ++ ptRow n i (i + 1 + m) (n - (i + 1 + m + 1)) := by
  unfold ptRows
  rw [List.range_succ, List.flatMap_append]
  simp
theorem ptAll_succ (n m : Nat) : ptAll n (m + 1) = ptAll n m ++ ptRows n m (n - (m + 1)) := by
  unfold ptAll
  rw [List.range_succ, List.flatMap_append]
  simp

/-- sums, as the program goes: low = 1 + a, high = low + b -/
def smRow (a m : Nat) : List (List Int) := (List.range m).map fun b : Nat => [1 + (a : Int) - 1, 1 + (a : Int) + (b : Int) - 1, 1 + (a : Int) + (1 + (a : Int) + (b : Int)) - 1]
def smCount (n a : Nat) : Nat := ((n : Int) - (1 + (a : Int)) + 1 - (1 + (a : Int))).toNat
def smAll (n m : Nat) : List (List Int) := (List.range m).flatMap fun a => smRow a (smCount n a)
theorem smRow_succ (a m : Nat) : smRow a (m + 1) = smRow a m ++ [[1 + (a : Int) - 1, 1 + (a : Int) + (m : Int) - 1, 1 + (a : Int) + (1 + (a : Int) + (m : Int)) - 1]] := by
  unfold smRow
  rw [List.range_succ, List.map_append]
  rfl
theorem smAll_succ (n m : Nat) : smAll n (m + 1) = smAll n m ++ smRow m (smCount n m) := by
  unfold smAll
  rw [List.range_succ, List.flatMap_append]
  simp

/-- steps, as the program goes: first = 1 + a, step = 1 + b -/
def spRow (a m : Nat) : List (List Int) := (List.range m).map fun b : Nat => [1 + (a : Int) - 1, 1 + (a : Int) + (1 + (b : Int)) - 1, 1 + (a : Int) + 2 * (1 + (b : Int)) - 1]
def spCount (n a : Nat) : Nat := (((n : Int) - (1 + (a : Int))) / 2 + 1 - 1).toNat
def spAll (n m : Nat) : List (List Int) := (List.range m).flatMap fun a => spRow a (spCount n a)
theorem spRow_succ (a m : Nat) : spRow a (m + 1) = spRow a m ++ [[1 + (a : Int) - 1, 1 + (a : Int) + (1 + (m : Int)) - 1, 1 + (a : Int) + 2 * (1 + (m : Int)) - 1]] := by
  unfold spRow
  rw [List.range_succ, List.map_append]
  rfl
theorem spAll_succ (n m : Nat) : spAll n (m + 1) = spAll n m ++ spRow m (spCount n m) := by
  unfold spAll
  rw [List.range_succ, List.flatMap_append]
  simp

/-- all triples of a kind and a size -/
def triples : Kd → Nat → List (List Int)
  | .pairs, n => ptAll n n
  | .sums, n => smAll n n
  | .steps, n => spAll n n
def many : Kd → Nat → Int
  | .pairs, n => (n : Int) * ((n : Int) - 1) / 2
  | _, n => n

/-! the law's own walks -/
/-! what is the same, by looking at every size -/
theorem many_pairs : ∀ n, n < 10 → ((pairsL n).length : Int) = (n : Int) * ((n : Int) - 1) / 2 := by decide +kernel
theorem few_pairs : ∀ n, n < 10 → (pairsL n).length ≤ 36 ∧ (ptAll n n).length ≤ 84 := by decide +kernel
end OH

/-! Dyeings: the plain mathematics. -/
namespace OH
def hget (hs : List Int) (i : Int) : Int := hs.getD i.toNat 0
def mono (hs : List Int) (t : List Int) : Bool := decide (hget hs (t.getD 0 0) = hget hs (t.getD 1 0)) && decide (hget hs (t.getD 1 0) = hget hs (t.getD 2 0))
def manyN : Kd → Nat → Nat
  | .pairs, n => n * (n - 1) / 2
  | _, n => n
theorem many_eq (k : Kd) (n : Nat) (h : n ≤ k.max) : many k n = (manyN k n : Int) := by
  cases k with
  | pairs =>
    have z : ∀ n : Nat, n < 10 → (n : Int) * ((n : Int) - 1) / 2 = ((n * (n - 1) / 2 : Nat) : Int) := by decide +kernel
    exact z n (Nat.lt_succ_of_le h)
  | sums => rfl
  | steps => rfl
theorem manyN_le (k : Kd) (n : Nat) (h : n ≤ k.max) : manyN k n ≤ 40 := by
  cases k with
  | pairs =>
    have z : ∀ n, n < 10 → n * (n - 1) / 2 ≤ 40 := by decide +kernel
    exact z n (Nat.lt_succ_of_le h)
  | sums => exact h
  | steps => exact h
/-- a dyeing of a kind, a size and a count of hues -/
structure Dyed (k : Kd) (n c : Nat) (hs : List Int) : Prop where
  len : hs.length = manyN k n
  hue : ∀ h ∈ hs, 0 ≤ h ∧ h < (c : Int)

def triOk (m : Nat) (t : List Int) : Bool := match t with
  | [a, b, c] => decide (0 ≤ a) && (decide (a ≤ b) && (decide (b ≤ c) && decide (c < (m : Int))))
  | _ => false
theorem triOk_of {m : Nat} {t : List Int} (h : triOk m t = true) : ∃ a b c : Nat, t = [(a : Int), (b : Int), (c : Int)] ∧ a ≤ b ∧ b ≤ c ∧ c < m := by
  match t, h with
  | [a, b, c], h =>
    have h' : (decide (0 ≤ a) && (decide (a ≤ b) && (decide (b ≤ c) && decide (c < (m : Int))))) = true := h
    simp only [Bool.and_eq_true, decide_eq_true_eq] at h'
    obtain ⟨h1, h2, h3, h4⟩ := h'
    refine ⟨a.toNat, b.toNat, c.toNat, ?_, by omega, by omega, by omega⟩
    rw [Int.toNat_of_nonneg h1, Int.toNat_of_nonneg (by omega), Int.toNat_of_nonneg (by omega)]
  | [], h => exact absurd h (by simp [triOk])
  | [_], h => exact absurd h (by simp [triOk])
  | [_, _], h => exact absurd h (by simp [triOk])
  | _ :: _ :: _ :: _ :: _, h => exact absurd h (by simp [triOk])
theorem triples_ok (k : Kd) (n : Nat) (h : n ≤ k.max) : ∀ t ∈ triples k n, triOk (manyN k n) t = true := fun t ht => by
  cases k with
  | pairs =>
    have z : ∀ n, n < 10 → (ptAll n n).all (triOk (n * (n - 1) / 2)) = true := by decide +kernel
    exact List.all_eq_true.mp (z n (Nat.lt_succ_of_le h)) t ht
  | sums =>
    have z : ∀ n, n < 41 → (smAll n n).all (triOk n) = true := by decide +kernel
    exact List.all_eq_true.mp (z n (Nat.lt_succ_of_le h)) t ht
  | steps =>
    have z : ∀ n, n < 41 → (spAll n n).all (triOk n) = true := by decide +kernel
    exact List.all_eq_true.mp (z n (Nat.lt_succ_of_le h)) t ht
theorem mono_three (hs : List Int) (a b c : Nat) : mono hs [(a : Int), (b : Int), (c : Int)] = (decide (hs.getD a 0 = hs.getD b 0) && decide (hs.getD b 0 = hs.getD c 0)) := rfl
theorem take_succ_filter {α : Type} (p : α → Bool) (ts : List α) (i : Nat) (t : α) (h : ts[i]? = some t) : (ts.take (i + 1)).filter p = (ts.take i).filter p ++ if p t = true then [t] else [] := by
  rw [List.take_add_one, h, List.filter_append]
  congr 1
  show List.filter p [t] = _
  rw [List.filter_cons]
  cases p t <;> rfl
end OH

/-! Free dyeings: the plain mathematics. -/
namespace OH
/-- the triples of which thing i is the last -/
def endedAt (k : Kd) (n i : Nat) : List (List Int) := (triples k n).filter fun t => decide (t.getD 2 0 = (i : Int))
/-- no triple that the last hue ends is of one hue -/
def stays (k : Kd) (n : Nat) (hs : List Int) : Bool := (endedAt k n (hs.length - 1)).all fun t => !mono hs t
def tried (c : Nat) (b : List Int) : List (List Int) := (List.range c).map fun h : Nat => b ++ [(h : Int)]
def longer (k : Kd) (n c : Nat) (b : List Int) : List (List Int) := (tried c b).filter (stays k n)
def cnt (k : Kd) (n c : Nat) : Nat → List Int → Int
  | 0, _ => 1
  | r + 1, b => ((longer k n c b).map (cnt k n c r)).sum
def fst (k : Kd) (n c : Nat) : Nat → List Int → Option (List Int)
  | 0, b => some b
  | r + 1, b => (longer k n c b).findSome? (fst k n c r)
theorem longer_len {k : Kd} {n c : Nat} {b x : List Int} (h : x ∈ longer k n c b) : x.length = b.length + 1 := by
  obtain ⟨h1, _⟩ := List.mem_filter.mp h
  obtain ⟨j, _, rfl⟩ := List.mem_map.mp h1
  simp
theorem longer_few (k : Kd) (n c : Nat) (b : List Int) : (longer k n c b).length ≤ c := by
  refine Nat.le_trans (List.length_filter_le _ _) ?_
  rw [tried, List.length_map, List.length_range]
  exact Nat.le_refl _
end OH

/-! Free dyeings: which they are, and their order. -/
namespace OH
end OH

/-! Lesser sizes. -/
namespace OH
end OH

/-! The first sizes. -/
namespace OH
def fsz : Kd → Nat → Nat
  | .pairs, 1 => 3
  | .sums, 1 => 2
  | .steps, 1 => 3
  | .pairs, 2 => 6
  | .sums, 2 => 5
  | .steps, 2 => 9
  | .sums, _ => 14
  | _, _ => 0
def ckSize (k : Kd) (c : Nat) : Bool := (List.range (fsz k c)).all (fun n => (fst k n c (manyN k n) []).isSome) && decide (fst k (fsz k c) c (manyN k (fsz k c)) [] = none)
theorem size_p1 : ckSize .pairs 1 = true := by decide +kernel
theorem size_s1 : ckSize .sums 1 = true := by decide +kernel
theorem size_t1 : ckSize .steps 1 = true := by decide +kernel
theorem size_p2 : ckSize .pairs 2 = true := by decide +kernel
theorem size_s2 : ckSize .sums 2 = true := by decide +kernel
theorem size_t2 : ckSize .steps 2 = true := by decide +kernel
theorem size_s3 : ckSize .sums 3 = true := by decide +kernel
end OH

/-! The classes of the errors. -/
namespace OH
open PySem L2
/-- what the top must show of the five errors' classes and of that over them -/
structure Errs (K : PySem.W.Frag) (mg : Str → Option Value) (e : Nat → Addr) (hue : Addr) : Prop where
  m0 : mg "NoKind" = some (.ref (e 0))
  m1 : mg "NoSize" = some (.ref (e 1))
  m2 : mg "NoHues" = some (.ref (e 2))
  m3 : mg "NoDyeing" = some (.ref (e 3))
  m4 : mg "TooMuch" = some (.ref (e 4))
  mh : mg "HueError" = some (.ref hue)
  xh : PySem.W.excIn K hue vBm "ValueError.__new__" = true
  x : ∀ i, i < 5 → ExcK K (e i)
  up : ∀ i, i < 5 → PySem.W.mroIn K (e i) (.ref hue) = some true
  v : ∀ i, i < 5 → PySem.W.kitOne K (.ref (e i)) (.type "ValueError") = some true
  k : ∀ i j, i < 5 → j < 5 → PySem.W.kitOne K (.ref (e i)) (.ref (e j)) = some (decide (i = j))
theorem some_is {α : Type} {o : Option α} {a : α} (h : o = some a) : o.isSome = true := by rw [h]; rfl
theorem kit_same {K : PySem.W.Frag} {C : Addr} : PySem.W.kitOne K (.ref C) (.ref C) = some true := by
  unfold PySem.W.kitOne
  rw [if_pos (beq_self_eq_true _)]
theorem kit_ne {K : PySem.W.Frag} {C D : Addr} {cd : ClassData} {b : Bool} (n : (Value.ref C == Value.ref D) = false) (c : PySem.W.clsIn K D = some cd) (t : PySem.W.typeIn K (.ref D) = some (.type "type")) (s : PySem.W.subIn K (.ref C) (.ref D) = some b) : PySem.W.kitOne K (.ref C) (.ref D) = some b := by
  unfold PySem.W.kitOne
  rw [n, if_neg (by decide)]
  show (if ((PySem.W.clsIn K D).isSome && PySem.W.typeIn K (.ref D) == some (.type "type")) = true then PySem.W.subIn K (.ref C) (.ref D) else none) = some b
  rw [c, t, if_pos (by rfl), s]
theorem kit_v {K : PySem.W.Frag} {C : Addr} {b : Bool} (s : PySem.W.subIn K (.ref C) (.type "ValueError") = some b) : PySem.W.kitOne K (.ref C) (.type "ValueError") = some b := by
  unfold PySem.W.kitOne
  rw [if_neg (fun h => nomatch (eq_of_beq h : Value.ref C = Value.type "ValueError"))]
  show (if PySem.W.kitMeta "ValueError" = true then PySem.W.subIn K (.ref C) (.type "ValueError") else none) = some b
  rw [if_pos (by decide +kernel), s]
theorem all5 {p : Nat → Prop} (h0 : p 0) (h1 : p 1) (h2 : p 2) (h3 : p 3) (h4 : p 4) : ∀ i, i < 5 → p i
  | 0, _ => h0
  | 1, _ => h1
  | 2, _ => h2
  | 3, _ => h3
  | 4, _ => h4
  | n + 5, h => absurd h (by omega)
theorem all55 {p : Nat → Nat → Prop} (h0 : ∀ j, j < 5 → p 0 j) (h1 : ∀ j, j < 5 → p 1 j) (h2 : ∀ j, j < 5 → p 2 j) (h3 : ∀ j, j < 5 → p 3 j) (h4 : ∀ j, j < 5 → p 4 j) : ∀ i j, i < 5 → j < 5 → p i j :=
  fun i j hi hj => all5 (p := fun i => ∀ j, j < 5 → p i j) h0 h1 h2 h3 h4 i hi j hj
end OH

/-! The text by places; the kinds; what is asked of the top. -/
namespace OH
open PySem L2
def top (i : Nat) : Stmt := PySem.Challenge.pw_onehue_k10_which_refusal.main.body.getD i (.Pass ⟨0, 0, 0, 0⟩)
abbrev s_check_kind : Stmt := top 9
theorem sc_check_kind : FnScope ["kind"] ["kind"] (defScope s_check_kind) := ⟨rfl, rfl, rfl, by decide +kernel, rfl, by decide +kernel, by decide +kernel⟩
abbrev s_check_kind_and_size : Stmt := top 10
theorem sc_check_kind_and_size : FnScope ["kind", "size", "greatest"] ["kind", "size"] (defScope s_check_kind_and_size) := ⟨rfl, rfl, rfl, by decide +kernel, rfl, by decide +kernel, by decide +kernel⟩
abbrev s_things : Stmt := top 11
theorem sc_things : FnScope ["kind", "size"] ["kind", "size"] (defScope s_things) := ⟨rfl, rfl, rfl, by decide +kernel, rfl, by decide +kernel, by decide +kernel⟩
abbrev s_triples : Stmt := top 12
theorem sc_triples : FnScope ["kind", "size"] ["kind", "size"] (defScope s_triples) := ⟨rfl, rfl, rfl, by decide +kernel, rfl, by decide +kernel, by decide +kernel⟩
abbrev s_pair_numbers : Stmt := top 13
theorem sc_pair_numbers : FnScope ["points", "numbers", "low", "high"] ["points"] (defScope s_pair_numbers) := ⟨rfl, rfl, rfl, by decide +kernel, rfl, by decide +kernel, by decide +kernel⟩
abbrev s_pair_triples : Stmt := top 14
theorem sc_pair_triples : FnScope ["points", "numbers", "found", "low", "middle", "high"] ["points"] (defScope s_pair_triples) := ⟨rfl, rfl, rfl, by decide +kernel, rfl, by decide +kernel, by decide +kernel⟩
abbrev s_sum_triples : Stmt := top 15
theorem sc_sum_triples : FnScope ["size", "found", "low", "high"] ["size"] (defScope s_sum_triples) := ⟨rfl, rfl, rfl, by decide +kernel, rfl, by decide +kernel, by decide +kernel⟩
abbrev s_step_triples : Stmt := top 16
theorem sc_step_triples : FnScope ["size", "found", "first", "step"] ["size"] (defScope s_step_triples) := ⟨rfl, rfl, rfl, by decide +kernel, rfl, by decide +kernel, by decide +kernel⟩
abbrev s_check_count : Stmt := top 19
theorem sc_check_count : FnScope ["count"] ["count"] (defScope s_check_count) := ⟨rfl, rfl, rfl, by decide +kernel, rfl, by decide +kernel, by decide +kernel⟩
abbrev s_check_dyeing : Stmt := top 20
theorem sc_check_dyeing : FnScope ["kind", "size", "count", "hues", "asked", "given", "hue"] ["kind", "size", "count", "hues"] (defScope s_check_dyeing) := ⟨rfl, rfl, rfl, by decide +kernel, rfl, by decide +kernel, by decide +kernel⟩
abbrev s_check_hue : Stmt := top 21
theorem sc_check_hue : FnScope ["hue", "count"] ["hue", "count"] (defScope s_check_hue) := ⟨rfl, rfl, rfl, by decide +kernel, rfl, by decide +kernel, by decide +kernel⟩
abbrev s_is_hue : Stmt := top 22
theorem sc_is_hue : FnScope ["hue", "count"] ["hue", "count"] (defScope s_is_hue) := ⟨rfl, rfl, rfl, by decide +kernel, rfl, by decide +kernel, by decide +kernel⟩
abbrev s_is_of_one_hue : Stmt := top 23
theorem sc_is_of_one_hue : FnScope ["triple", "hues", "hue"] ["triple", "hues"] (defScope s_is_of_one_hue) := ⟨rfl, rfl, rfl, by decide +kernel, rfl, by decide +kernel, by decide +kernel⟩
abbrev s_one_hued : Stmt := top 24
theorem sc_one_hued : FnScope ["kind", "size", "count", "hues"] ["kind", "size", "count", "hues"] (defScope s_one_hued) := ⟨rfl, rfl, rfl, by decide +kernel, rfl, by decide +kernel, by decide +kernel⟩
abbrev s_is_free : Stmt := top 25
theorem sc_is_free : FnScope ["kind", "size", "count", "hues"] ["kind", "size", "count", "hues"] (defScope s_is_free) := ⟨rfl, rfl, rfl, by decide +kernel, rfl, by decide +kernel, by decide +kernel⟩
abbrev s_exchanged : Stmt := top 26
theorem sc_exchanged : FnScope ["kind", "size", "count", "hues", "one", "other"] ["kind", "size", "count", "hues", "one", "other"] (defScope s_exchanged) := ⟨rfl, rfl, rfl, by decide +kernel, rfl, by decide +kernel, by decide +kernel⟩
abbrev s_exchanged_hue : Stmt := top 27
theorem sc_exchanged_hue : FnScope ["hue", "one", "other"] ["hue", "one", "other"] (defScope s_exchanged_hue) := ⟨rfl, rfl, rfl, by decide +kernel, rfl, by decide +kernel, by decide +kernel⟩
abbrev s_first_free : Stmt := top 32
theorem sc_first_free : FnScope ["kind", "size", "count"] ["kind", "size", "count"] (defScope s_first_free) := ⟨rfl, rfl, rfl, by decide +kernel, rfl, by decide +kernel, by decide +kernel⟩
abbrev s_how_many : Stmt := top 33
theorem sc_how_many : FnScope ["kind", "size", "count"] ["kind", "size", "count"] (defScope s_how_many) := ⟨rfl, rfl, rfl, by decide +kernel, rfl, by decide +kernel, by decide +kernel⟩
abbrev s_first_size : Stmt := top 34
theorem sc_first_size : FnScope ["kind", "count", "most", "size"] ["kind", "count"] (defScope s_first_size) := ⟨rfl, rfl, rfl, by decide +kernel, rfl, by decide +kernel, by decide +kernel⟩
abbrev s_check_asked : Stmt := top 35
theorem sc_check_asked : FnScope ["kind", "size", "count"] ["kind", "size", "count"] (defScope s_check_asked) := ⟨rfl, rfl, rfl, by decide +kernel, rfl, by decide +kernel, by decide +kernel⟩
abbrev s_check_things : Stmt := top 36
theorem sc_check_things : FnScope ["kind", "size", "most", "there"] ["kind", "size", "most"] (defScope s_check_things) := ⟨rfl, rfl, rfl, by decide +kernel, rfl, by decide +kernel, by decide +kernel⟩
abbrev s_ended_triples : Stmt := top 37
theorem sc_ended_triples : FnScope ["kind", "size", "ended", "triple"] ["kind", "size"] (defScope s_ended_triples) := ⟨rfl, rfl, rfl, by decide +kernel, rfl, by decide +kernel, by decide +kernel⟩
abbrev s_stays_free : Stmt := top 38
theorem sc_stays_free : FnScope ["hues", "ended"] ["hues", "ended"] (defScope s_stays_free) := ⟨rfl, rfl, rfl, by decide +kernel, rfl, by decide +kernel, by decide +kernel⟩
abbrev s_one_longer : Stmt := top 39
theorem sc_one_longer : FnScope ["begun", "ended", "count", "tried"] ["begun", "ended", "count"] (defScope s_one_longer) := ⟨rfl, rfl, rfl, by decide +kernel, rfl, by decide +kernel, by decide +kernel⟩
abbrev s_first_from : Stmt := top 40
theorem sc_first_from : FnScope ["begun", "ended", "count", "hues", "found"] ["begun", "ended", "count"] (defScope s_first_from) := ⟨rfl, rfl, rfl, by decide +kernel, rfl, by decide +kernel, by decide +kernel⟩
abbrev s_how_many_from : Stmt := top 41
theorem sc_how_many_from : FnScope ["begun", "ended", "count"] ["begun", "ended", "count"] (defScope s_how_many_from) := ⟨rfl, rfl, rfl, by decide +kernel, rfl, by decide +kernel, by decide +kernel⟩
abbrev s__law_cell_at : Stmt := top 43
theorem sc__law_cell_at : FnScope ["script", "k"] ["script", "k"] (defScope s__law_cell_at) := ⟨rfl, rfl, rfl, by decide +kernel, rfl, by decide +kernel, by decide +kernel⟩
abbrev s__law_pairs : Stmt := top 44
theorem sc__law_pairs : FnScope ["size", "found", "low", "high"] ["size"] (defScope s__law_pairs) := ⟨rfl, rfl, rfl, by decide +kernel, rfl, by decide +kernel, by decide +kernel⟩
abbrev s__law_many : Stmt := top 45
theorem sc__law_many : FnScope ["kind", "size"] ["kind", "size"] (defScope s__law_many) := ⟨rfl, rfl, rfl, by decide +kernel, rfl, by decide +kernel, by decide +kernel⟩
abbrev s__law_kind_by : Stmt := top 47
theorem sc__law_kind_by : FnScope ["script", "at", "bounds", "place"] ["script", "at", "bounds"] (defScope s__law_kind_by) := ⟨rfl, rfl, rfl, by decide +kernel, rfl, by decide +kernel, by decide +kernel⟩
abbrev s__law_stirred : Stmt := top 48
theorem sc__law_stirred : FnScope ["cell", "k", "number"] ["cell", "k"] (defScope s__law_stirred) := ⟨rfl, rfl, rfl, by decide +kernel, rfl, by decide +kernel, by decide +kernel⟩
abbrev s__law_dyed_by : Stmt := top 49
theorem sc__law_dyed_by : FnScope ["script", "at", "many", "count", "cell", "way", "hues", "k", "hue"] ["script", "at", "many", "count"] (defScope s__law_dyed_by) := ⟨rfl, rfl, rfl, by decide +kernel, rfl, by decide +kernel, by decide +kernel⟩
abbrev s__law_other : Stmt := top 50
theorem sc__law_other : FnScope ["e", "wanted", "marks"] ["e", "wanted"] (defScope s__law_other) := ⟨rfl, rfl, rfl, by decide +kernel, rfl, by decide +kernel, by decide +kernel⟩
abbrev s__law_called : Stmt := top 51
theorem sc__law_called : FnScope ["which", "kind", "size", "count", "hues", "two"] ["which", "kind", "size", "count", "hues", "two"] (defScope s__law_called) := ⟨rfl, rfl, rfl, by decide +kernel, rfl, by decide +kernel, by decide +kernel⟩
abbrev s__law_told : Stmt := top 52
theorem sc__law_told : FnScope ["which", "kind", "size", "count", "hues", "two", "e", "wanted"] ["which", "kind", "size", "count", "hues", "two"] (defScope s__law_told) := ⟨rfl, rfl, rfl, by decide +kernel, rfl, by decide +kernel, by decide +kernel⟩
abbrev s__law_due : Stmt := top 53
theorem sc__law_due : FnScope ["which", "kind", "size", "count", "hues", "two", "good"] ["which", "kind", "size", "count", "hues", "two"] (defScope s__law_due) := ⟨rfl, rfl, rfl, by decide +kernel, rfl, by decide +kernel, by decide +kernel⟩
abbrev s_law : Stmt := top 54
theorem sc_law : FnScope ["script", "kind", "size", "count", "hues", "at", "how", "which", "handed", "two", "due"] ["script"] (defScope s_law) := ⟨rfl, rfl, rfl, by decide +kernel, rfl, by decide +kernel, by decide +kernel⟩


end OH
namespace OH
open PySem L2
def Kd.str : Kd → PySem.Str
  | .pairs => "pairs"
  | .sums => "sums"
  | .steps => "steps"
def gK : List (Key × V) := [(.inr "pairs", .int 9), (.inr "sums", .int 40), (.inr "steps", .int 40)]
theorem gK_at (k : Kd) : valV gK (.inr k.str) = some (.int (k.max : Nat)) := by cases k <;> decide +kernel
theorem isPairs (k : Kd) : decide (V.str k.str = V.str "pairs") = decide (k = .pairs) := by cases k <;> decide +kernel
theorem isSums (k : Kd) : decide (V.str k.str = V.str "sums") = decide (k = .sums) := by cases k <;> decide +kernel
theorem Kd.max_le (k : Kd) : k.max ≤ 40 := by cases k <;> decide

/-- what the walk asks of the top -/
structure Txt (P : Program) (w : World) (K : PySem.W.Frag) (mg : Str → Option Value) : Prop where
  n_range : mg "range" = none
  n_len : mg "len" = none
  n_isinstance : mg "isinstance" = none
  n_int : mg "int" = none
  n_bool : mg "bool" = none
  n_list : mg "list" = none
  n_tuple : mg "tuple" = none
  n_sorted : mg "sorted" = none
  n_zip : mg "zip" = none
  n_max : mg "max" = none
  n_min : mg "min" = none
  n_ValueError : mg "ValueError" = none
  n_any : mg "any" = none
  n_sum : mg "sum" = none
  x_GREATEST : ∃ a, mg "GREATEST" = some (.ref a) ∧ KD K P w a [((Sum.inr "pairs" : Key), V.int 9), ((Sum.inr "sums" : Key), V.int 40), ((Sum.inr "steps" : Key), V.int 40)]
  m_GREATEST_COUNT : ∃ t, mg "GREATEST_COUNT" = some (.int 3 t)
  m_MOST_THINGS : ∃ t, mg "MOST_THINGS" = some (.int 15 t)
  x_MOST_THINGS_COUNTED : ∃ a, mg "MOST_THINGS_COUNTED" = some (.ref a) ∧ KD K P w a [((Sum.inl 1 : Key), V.int 15), ((Sum.inl 2 : Key), V.int 15), ((Sum.inl 3 : Key), V.int 8)]
  x_MOST_HUES : ∃ a, mg "MOST_HUES" = some (.ref a) ∧ KD K P w a [((Sum.inr "pairs" : Key), V.int 2), ((Sum.inr "sums" : Key), V.int 3), ((Sum.inr "steps" : Key), V.int 2)]
  errs : ∃ e hue, Errs K mg e hue

end OH

/-! onehue.things: each def by its promise. -/
namespace OH
open PySem L2
/-- the numbers of the pairs, as a dict's -/
def keyOf (p : Nat × Nat) : List Key := [Sum.inl (p.1 : Int), Sum.inl (p.2 : Int)]
def kvsOf (ps : List (Nat × Nat)) : List (List Key × V) := ps.zipIdx.map fun q => (keyOf q.1, V.int (q.2 : Nat))
theorem kvsOf_snoc (ps : List (Nat × Nat)) (x : Nat × Nat) : kvsOf (ps ++ [x]) = kvsOf ps ++ [(keyOf x, V.int (ps.length : Nat))] := by
  unfold kvsOf
  rw [List.zipIdx_append, List.map_append]
  simp
theorem kvsOf_len (ps : List (Nat × Nat)) : (kvsOf ps).length = ps.length := by
  unfold kvsOf
  rw [List.length_map, List.length_zipIdx]
theorem kvs_new (n : Nat) (hn : n < 10) (i j : Nat) (hi : i < n) (hj : j < n - (i + 1)) : valV (kvsOf (rows n i ++ rowTo i j)) (keyOf (i, i + 1 + j)) = none := by
  have z : (List.range 10).all (fun n => (List.range n).all fun i => (List.range (n - (i + 1))).all fun j => decide (valV (kvsOf (rows n i ++ rowTo i j)) (keyOf (i, i + 1 + j)) = none)) = true := by decide +kernel
  exact of_decide_eq_true (List.all_eq_true.mp (List.all_eq_true.mp (List.all_eq_true.mp z n (List.mem_range.mpr hn)) i (List.mem_range.mpr hi)) j (List.mem_range.mpr hj))
theorem kvs_at (n : Nat) (hn : n < 10) (i j : Nat) (hij : i < j) (hj : j < n) : valV (kvsOf (pairsL n)) (keyOf (i, j)) = some (.int (ix n i j)) := by
  have z : (List.range 10).all (fun n => (List.range n).all fun j => (List.range j).all fun i => decide (valV (kvsOf (pairsL n)) (keyOf (i, j)) = some (.int (ix n i j)))) = true := by decide +kernel
  exact of_decide_eq_true (List.all_eq_true.mp (List.all_eq_true.mp (List.all_eq_true.mp z n (List.mem_range.mpr hn)) j (List.mem_range.mpr hj)) i (List.mem_range.mpr hij))

theorem two_le : (2 : Nat) ≤ sizeLine := by decide
theorem three_le : (3 : Nat) ≤ sizeLine := by decide

section
variable {P : Program} {w : World} {K : PySem.W.Frag} {mg : Str → Option Value} {base : Heap}

def sp_ckind : Sp := fun vs H Q _ => ∃ k : Kd, vs = [.str k.str] ∧ Q .non H
theorem c_check_kind (T : Txt P w K mg) (F : FunAt K mg "check_kind" ["kind"] s_check_kind) : Callee P w K mg base CX0 1 "check_kind" ["kind"] sp_ckind := by
  obtain ⟨aG, m_GREATEST, kG⟩ := T.x_GREATEST
  refine F.ok sc_check_kind (fun vs H Q E h => ?_) (fun f cdv A outer s H vs Q E hr h => ?_)
  · obtain ⟨k, rfl, _⟩ := h
    rfl
  · obtain ⟨k, rfl, q⟩ := h
    refine ⟨_, (pss_one (ps_if (pt_cmp (pc_knotin (pv 0) (pe_gref rfl m_GREATEST))) pss_never pss_nil)), ?_⟩
    refine ⟨_, rfl, aG, gK, Sum.inr k.str, rfl, kG, rfl, _, rfl, ?_⟩
    exact ifF (by rw [gK_at]; rfl) q

def sp_chk : Sp := fun vs H Q _ => ∃ (k : Kd) (n : Nat), vs = [.str k.str, .int (n : Nat)] ∧ n ≤ k.max ∧ Q .non H
theorem c_check_kind_and_size (T : Txt P w K mg) (C_check_kind : Callee P w K mg base CX0 1 "check_kind" ["kind"] sp_ckind) (F : FunAt K mg "check_kind_and_size" ["kind", "size"] s_check_kind_and_size) : Callee P w K mg base CX0 2 "check_kind_and_size" ["kind", "size"] sp_chk := by
  obtain ⟨aG, m_GREATEST, kG⟩ := T.x_GREATEST
  refine F.ok sc_check_kind_and_size (fun vs H Q E h => ?_) (fun f cdv A outer s H vs Q E hr h => ?_)
  · obtain ⟨k, n, rfl, _⟩ := h
    rfl
  · obtain ⟨k, n, rfl, hn, q⟩ := h
    have hr_check_kind := hr
    refine ⟨_, (pss_cons (ps_expr (pe_callC C_check_kind hr_check_kind rfl (pa_cons (pv 0) pa_nil)))
      (pss_cons (ps_set (i := 2) sc_check_kind_and_size.nd rfl (Or.inl rfl) (pe_kget (pe_gref rfl m_GREATEST) (pv 0) (fun _ _ => rfl)))
      (pss_one (ps_if (PW.pt (pw_or (pt_cmpR op_lt (pv 1) pe_int (nomark _)) (pw_or1 (pt_cmpR op_gt (pv 1) (pv 2) (nomark _))))) pss_never pss_nil)))), ?_⟩
    refine ⟨_, rfl, k, rfl, ?_⟩
    refine ⟨_, rfl, aG, gK, Sum.inr k.str, _, rfl, kG, rfl, gK_at k, ?_⟩
    refine ⟨_, rfl, _, _, rfl, rfl, _, rfl, ?_⟩
    refine ifF (decide_eq_false (by omega)) ?_
    refine ⟨_, rfl, _, rfl, _, _, rfl, rfl, _, rfl, ?_⟩
    exact ifF (decide_eq_false (by omega)) q

def sp_things : Sp := fun vs H Q _ => ∃ (k : Kd) (n : Nat), vs = [.str k.str, .int (n : Nat)] ∧ n ≤ k.max ∧ Q (.int (many k n)) H
theorem c_things (C_check_kind_and_size : Callee P w K mg base CX0 2 "check_kind_and_size" ["kind", "size"] sp_chk) (F : FunAt K mg "things" ["kind", "size"] s_things) : Callee P w K mg base CX0 3 "things" ["kind", "size"] sp_things := by
  refine F.ok sc_things (fun vs H Q E h => ?_) (fun f cdv A outer s H vs Q E hr h => ?_)
  · obtain ⟨k, n, rfl, _⟩ := h
    rfl
  · obtain ⟨k, n, rfl, hn, q⟩ := h
    have hr_check_kind_and_size := hr
    refine ⟨_, (pss_cons (ps_expr (pe_callC C_check_kind_and_size hr_check_kind_and_size rfl (pa_cons (pv 0) (pa_cons (pv 1) pa_nil))))
      (pss_cons (ps_if (pt_cmpR op_eq (pv 0) pe_str (nomark _)) (pss_one (ps_ret (pe_op op_fdiv (pe_op op_mul (pv 1) (pe_op op_sub (pv 1) pe_int)) pe_int))) pss_nil)
      (pss_one (ps_ret (pv 1))))), ?_⟩
    refine ⟨_, rfl, _, rfl, k, n, rfl, hn, ?_⟩
    refine ⟨_, rfl, rfl, _, rfl, ?_⟩
    rw [isPairs]
    have hz := Nat.le_trans hn k.max_le
    cases k with
    | pairs => exact ifT (by decide) ⟨_, rfl, _, rfl, _, _, rfl, rfl, _, _, rfl, rfl, .inl ⟨by omega, by omega⟩, _, _, rfl, rfl, ⟨by decide, by decide⟩, q⟩
    | sums => exact ifF (by decide) ⟨_, rfl, q⟩
    | steps => exact ifF (by decide) ⟨_, rfl, q⟩

def sp_numbers : Sp := fun vs H Q _ => ∃ n : Nat, vs = [.int (n : Nat)] ∧ n < 10 ∧ ∀ d H', H d = none → Same H H' → H' d = some (.dT (kvsOf (pairsL n))) → Q (.ref d) H'
theorem c_pair_numbers (T : Txt P w K mg) (F : FunAt K mg "pair_numbers" ["points"] s_pair_numbers) : Callee P w K mg base CX0 1 "pair_numbers" ["points"] sp_numbers := by
  refine F.ok sc_pair_numbers (fun vs H Q E h => ?_) (fun f cdv A outer s H vs Q E hr h => ?_)
  · obtain ⟨n, rfl, _⟩ := h
    rfl
  · obtain ⟨n, rfl, hn, q⟩ := h
    have hu := hu_of hr
    refine ⟨_, (pss_cons (ps_set (i := 1) sc_pair_numbers.nd rfl (Or.inl rfl) pe_dnewT)
      (pss_cons (ps_for PassesOwn.never rfl (pi_range1 rfl T.n_range (pa_cons (pv 0) pa_nil)) (pg_name (i := 2) sc_pair_numbers.nd rfl (Or.inl rfl))
      (pss_one (ps_for PassesOwn.never rfl (pi_range2 rfl T.n_range (pa_cons (pe_op op_add (pv 2) pe_int) (pa_cons (pv 0) pa_nil))) (pg_name (i := 3) sc_pair_numbers.nd rfl (Or.inl rfl))
      (pss_one (ps_dput hu (pv 1) (pe_tup (pa_cons (pv 2) (pa_cons (pv 3) pa_nil))) (pe_callB call_lenT rfl T.n_len (by decide +kernel) (pa_cons (pv 1) pa_nil)) rfl)))))
      (pss_one (ps_ret (pv 1))))), ?_⟩
    intro d hd
    refine ⟨_, rfl, (n : Int), rfl, by omega, by omega, for_range (n := n) (lo := 0) (fun i σ H2 => ∃ v2 v3, σ = [some (.int (n : Nat)), some (.ref d), v2, v3] ∧ Same H H2 ∧ H2 d = some (.dT (kvsOf (rows n i)))) ⟨none, none, rfl, Same.here hd, upd_same⟩ ?_ ?_⟩
    · rintro i σ H2 hi ⟨v2, v3, rfl, s2, e2⟩
      have hm : ((n : Int) - (0 + (i : Int) + 1)).toNat = n - (i + 1) := by omega
      refine ⟨_, rfl, _, _, rfl, rfl, _, rfl, _, _, rfl, ⟨by omega, by omega, by omega, by omega⟩, for_range (n := ((n : Int) - (0 + (i : Int) + 1)).toNat) (lo := 0 + (i : Int) + 1) (fun j σ H2 => ∃ v3, σ = [some (.int (n : Nat)), some (.ref d), some (.int (0 + (i : Int))), v3] ∧ Same H H2 ∧ H2 d = some (.dT (kvsOf (rows n i ++ rowTo i j))))
        ⟨v3, rfl, s2, by rw [show rowTo i 0 = [] from rfl, List.append_nil]; exact e2⟩ ?_ ?_⟩
      · rintro j σ H3 hj ⟨v3, rfl, s3, e3⟩
        rw [hm] at hj
        refine ⟨_, rfl, d, _, rfl, e3, _, rfl, _, rfl, _, rfl, two_le, fun p hp => ?_⟩
        have ek : ([Sum.inl (0 + (i : Int)), Sum.inl (0 + (i : Int) + 1 + (j : Int))] : List Key) = keyOf (i, i + 1 + j) := by
          unfold keyOf
          rw [show (0 : Int) + (i : Int) = (i : Int) by omega, show (i : Int) + 1 + (j : Int) = ((i + 1 + j : Nat) : Int) by omega]
        have npd : d ≠ p := ne_of_none e3 hp
        refine ⟨d, _, rfl, DPut.t (k := [Sum.inl (0 + (i : Int)), Sum.inl (0 + (i : Int) + 1 + (j : Int))]) (by rw [upd_ne npd]; exact e3) upd_same ?_, ?_⟩
        · rw [kvsOf_len, List.length_append, rowTo, List.length_map, List.length_range]
          have h1 : (rows n i).length ≤ 36 := by
            have z : (List.range 10).all (fun n => (List.range n).all fun i => decide ((rows n i).length ≤ 36)) = true := by decide +kernel
            exact of_decide_eq_true (List.all_eq_true.mp (List.all_eq_true.mp z n (List.mem_range.mpr hn)) i (List.mem_range.mpr hi))
          exact small1000 (by omega)
        · refine ⟨_, rfl, ?_, ?_⟩
          · exact (s3.upd' hp).upd hd
          · rw [upd_same, ek, putK_new _ (kvs_new n hn i j hi hj), kvsOf_len, rowTo_succ, ← List.append_assoc, kvsOf_snoc]
      · rintro σ H3 ⟨v3, rfl, s3, e3⟩
        refine ⟨_, v3, rfl, s3, ?_⟩
        rw [rows_succ, row_eq, ← hm]
        exact e3
    · rintro σ H2 ⟨v2, v3, rfl, s2, e2⟩
      exact ⟨_, rfl, q d H2 hd s2 e2⟩

/-- a list of tuples comes back, made here -/
def spT (ok : Nat → Prop) (ts : Nat → List (List Int)) : Sp := fun vs H Q _ => ∃ n : Nat, vs = [.int (n : Nat)] ∧ ok n ∧ ∀ l H', H l = none → Same H H' → TL H' l (ts n) → Q (.ref l) H'

theorem c_pair_triples (T : Txt P w K mg) (C_pair_numbers : Callee P w K mg base CX0 1 "pair_numbers" ["points"] sp_numbers) (F : FunAt K mg "pair_triples" ["points"] s_pair_triples) :
    Callee P w K mg base CX0 2 "pair_triples" ["points"] (spT (· < 10) fun n => ptAll n n) := by
  refine F.ok sc_pair_triples (fun vs H Q E h => ?_) (fun f cdv A outer s H vs Q E hr h => ?_)
  · obtain ⟨n, rfl, _⟩ := h
    rfl
  · obtain ⟨n, rfl, hn, q⟩ := h
    have hu := hu_of hr
    have hr_pair_numbers := hr
    refine ⟨_, (pss_cons (ps_set (i := 1) sc_pair_triples.nd rfl (Or.inl rfl) (pe_callC C_pair_numbers hr_pair_numbers rfl (pa_cons (pv 0) pa_nil)))
      (pss_cons (ps_set (i := 2) sc_pair_triples.nd rfl (Or.inl rfl) (pe_lst pa_nil))
      (pss_cons (ps_for PassesOwn.never rfl (pi_range1 rfl T.n_range (pa_cons (pv 0) pa_nil)) (pg_name (i := 3) sc_pair_triples.nd rfl (Or.inl rfl))
      (pss_one (ps_for PassesOwn.never rfl (pi_range2 rfl T.n_range (pa_cons (pe_op op_add (pv 3) pe_int) (pa_cons (pv 0) pa_nil))) (pg_name (i := 4) sc_pair_triples.nd rfl (Or.inl rfl))
      (pss_one (ps_for PassesOwn.never rfl (pi_range2 rfl T.n_range (pa_cons (pe_op op_add (pv 4) pe_int) (pa_cons (pv 0) pa_nil))) (pg_name (i := 5) sc_pair_triples.nd rfl (Or.inl rfl))
      (pss_one (ps_expr (pe_bm PySem.F.plainAttrs_list PySem.F.slot_list_append PySem.F.type_list_append mt_append (pv 2) (pa_cons (pe_tup (pa_cons (pe_dget hu (pv 1) (pe_tup (pa_cons (pv 3) (pa_cons (pv 4) pa_nil))) (fun _ _ => rfl)) (pa_cons (pe_dget hu (pv 1) (pe_tup (pa_cons (pv 3) (pa_cons (pv 5) pa_nil))) (fun _ _ => rfl)) (pa_cons (pe_dget hu (pv 1) (pe_tup (pa_cons (pv 4) (pa_cons (pv 5) pa_nil))) (fun _ _ => rfl)) pa_nil)))) pa_nil)))))))))
      (pss_one (ps_ret (pv 2)))))), ?_⟩
    refine ⟨_, rfl, n, rfl, hn, fun d H1 hd s1 e1 => ?_⟩
    refine ⟨Nat.zero_le _, fun l hl => ?_⟩
    have nl : H l = none := s1.free hl
    have ndl : d ≠ l := ne_of_none e1 hl
    have few := (few_pairs n hn).2
    refine ⟨_, rfl, (n : Int), rfl, by omega, by omega, for_range (n := n) (lo := 0) (fun i σ H2 => ∃ v3 v4 v5, σ = [some (.int (n : Nat)), some (.ref d), some (.ref l), v3, v4, v5] ∧ Same H1 H2 ∧ TL H2 l (ptAll n i)) ⟨none, none, none, rfl, Same.here hl, TL.new⟩ ?_ ?_⟩
    · rintro i σ H2 hi ⟨v3, v4, v5, rfl, s2, t2⟩
      have hm : ((n : Int) - (0 + (i : Int) + 1)).toNat = n - (i + 1) := by omega
      refine ⟨_, rfl, _, _, rfl, rfl, _, rfl, _, _, rfl, ⟨by omega, by omega, by omega, by omega⟩, for_range (n := ((n : Int) - (0 + (i : Int) + 1)).toNat) (lo := 0 + (i : Int) + 1) (fun j σ H2 => ∃ v4 v5, σ = [some (.int (n : Nat)), some (.ref d), some (.ref l), some (.int (0 + (i : Int))), v4, v5] ∧ Same H1 H2 ∧ TL H2 l (ptAll n i ++ ptRows n i j))
        ⟨v4, v5, rfl, s2, by rw [show ptRows n i 0 = [] from rfl, List.append_nil]; exact t2⟩ ?_ ?_⟩
      · rintro j σ H3 hj ⟨v4, v5, rfl, s3, t3⟩
        rw [hm] at hj
        have hm2 : ((n : Int) - (0 + (i : Int) + 1 + (j : Int) + 1)).toNat = n - (i + 1 + j + 1) := by omega
        refine ⟨_, rfl, _, _, rfl, rfl, _, rfl, _, _, rfl, ⟨by omega, by omega, by omega, by omega⟩, for_range (n := ((n : Int) - (0 + (i : Int) + 1 + (j : Int) + 1)).toNat) (lo := 0 + (i : Int) + 1 + (j : Int) + 1)
          (fun k σ H2 => ∃ v5, σ = [some (.int (n : Nat)), some (.ref d), some (.ref l), some (.int (0 + (i : Int))), some (.int (0 + (i : Int) + 1 + (j : Int))), v5] ∧ Same H1 H2 ∧ TL H2 l (ptAll n i ++ ptRows n i j ++ ptRow n i (i + 1 + j) k))
          ⟨v5, rfl, s3, by rw [show ptRow n i (i + 1 + j) 0 = [] from rfl, List.append_nil]; exact t3⟩ ?_ ?_⟩
        · rintro k σ H4 hk ⟨v5, rfl, s4, t4⟩
          rw [hm2] at hk
          obtain ⟨refs, el, dr⟩ := t4.ex
          have ei : (0 : Int) + (i : Int) = ((i : Nat) : Int) := by omega
          have ej : (0 : Int) + (i : Int) + 1 + (j : Int) = ((i + 1 + j : Nat) : Int) := by omega
          have ek : (0 : Int) + (i : Int) + 1 + (j : Int) + 1 + (k : Int) = ((i + 1 + j + 1 + k : Nat) : Int) := by omega
          have dd : H4 d = some (.dT (kvsOf (pairsL n))) := s4 _ _ e1
          -- found.append(
          refine ⟨_, rfl, .inl ⟨rfl, refs, SqL.of el⟩, ?_⟩
          -- numbers[low, middle]
          refine ⟨_, rfl, _, rfl, _, rfl, two_le, fun p1 h1 => ⟨d, .int (ix n i (i + 1 + j)), rfl, ?_, ?_⟩⟩
          · have g := DGet.t (H := upd H4 p1 (.tup [.int (0 + (i : Int)), .int (0 + (i : Int) + 1 + (j : Int))])) (k := keyOf (i, i + 1 + j)) (by rw [upd_ne (ne_of_none dd h1)]; exact dd) (b := p1) (by rw [upd_same, ej, ei]; rfl)
            rw [kvs_at n hn i (i + 1 + j) (by omega) (by omega)] at g
            exact g
          -- numbers[low, high]
          have d1 : (upd H4 p1 (.tup [.int (0 + (i : Int)), .int (0 + (i : Int) + 1 + (j : Int))])) d = some (.dT (kvsOf (pairsL n))) := by rw [upd_ne (ne_of_none dd h1)]; exact dd
          refine ⟨_, rfl, _, rfl, _, rfl, two_le, fun p2 h2 => ⟨d, .int (ix n i (i + 1 + j + 1 + k)), rfl, ?_, ?_⟩⟩
          · have g := DGet.t (H := upd (upd H4 p1 (.tup [.int (0 + (i : Int)), .int (0 + (i : Int) + 1 + (j : Int))])) p2 (.tup [.int (0 + (i : Int)), .int (0 + (i : Int) + 1 + (j : Int) + 1 + (k : Int))])) (k := keyOf (i, i + 1 + j + 1 + k)) (by rw [upd_ne (ne_of_none d1 h2)]; exact d1) (b := p2) (by rw [upd_same, ek, ei]; rfl)
            rw [kvs_at n hn i (i + 1 + j + 1 + k) (by omega) (by omega)] at g
            exact g
          have d2 : (upd (upd H4 p1 (.tup [.int (0 + (i : Int)), .int (0 + (i : Int) + 1 + (j : Int))])) p2 (.tup [.int (0 + (i : Int)), .int (0 + (i : Int) + 1 + (j : Int) + 1 + (k : Int))])) d = some (.dT (kvsOf (pairsL n))) := by rw [upd_ne (ne_of_none d1 h2)]; exact d1
          -- numbers[middle, high]
          refine ⟨_, rfl, _, rfl, _, rfl, two_le, fun p3 h3 => ⟨d, .int (ix n (i + 1 + j) (i + 1 + j + 1 + k)), rfl, ?_, ?_⟩⟩
          · have g := DGet.t (H := upd (upd (upd H4 p1 (.tup [.int (0 + (i : Int)), .int (0 + (i : Int) + 1 + (j : Int))])) p2 (.tup [.int (0 + (i : Int)), .int (0 + (i : Int) + 1 + (j : Int) + 1 + (k : Int))])) p3 (.tup [.int (0 + (i : Int) + 1 + (j : Int)), .int (0 + (i : Int) + 1 + (j : Int) + 1 + (k : Int))]))
              (k := keyOf (i + 1 + j, i + 1 + j + 1 + k)) (by rw [upd_ne (ne_of_none d2 h3)]; exact d2) (b := p3) (by rw [upd_same, ek, ej]; rfl)
            rw [kvs_at n hn (i + 1 + j) (i + 1 + j + 1 + k) (by omega) (by omega)] at g
            exact g
          refine ⟨three_le, fun p4 h4 => ?_⟩
          have s5 : Same H4 (upd (upd (upd H4 p1 (.tup [.int (0 + (i : Int)), .int (0 + (i : Int) + 1 + (j : Int))])) p2 (.tup [.int (0 + (i : Int)), .int (0 + (i : Int) + 1 + (j : Int) + 1 + (k : Int))])) p3 (.tup [.int (0 + (i : Int) + 1 + (j : Int)), .int (0 + (i : Int) + 1 + (j : Int) + 1 + (k : Int))])) :=
            ((Same.here h1).upd' h2).upd' h3
          have t5 := t4.same s5
          obtain ⟨refs5, el5, dr5⟩ := t5.ex
          have er : refs5 = refs := by
            have z := s5 _ _ el
            rw [el5] at z
            injection z with z
            injection z
          subst er
          have lt : refs5.length < sizeLine := by
            rw [dr5.len]
            have z : (List.range 10).all (fun n => (List.range n).all fun i => (List.range n).all fun j => (List.range n).all fun k => decide ((ptAll n i ++ ptRows n i j ++ ptRow n i (i + 1 + j) k).length ≤ 1000)) = true := by decide +kernel
            exact small1000 (of_decide_eq_true (List.all_eq_true.mp (List.all_eq_true.mp (List.all_eq_true.mp (List.all_eq_true.mp z n (List.mem_range.mpr hn)) i (List.mem_range.mpr hi)) j (List.mem_range.mpr (by omega))) k (List.mem_range.mpr (by omega))))
          refine ⟨l, refs5, _, rfl, rfl, by rw [upd_ne (ne_of_none el5 h4)]; exact el5, lt, ?_⟩
          refine ⟨_, rfl, ?_, ?_⟩
          · exact ((s4.trans s5).upd' h4).upd hl
          · rw [ptRow_succ, ← List.append_assoc]
            exact TL.push (t := tri3 n i (i + 1 + j) (i + 1 + j + 1 + k)) el5 dr5 h4
        · rintro σ H4 ⟨v5, rfl, s4, t4⟩
          refine ⟨_, v5, rfl, s4, ?_⟩
          rw [ptRows_succ, ← List.append_assoc, ← hm2]
          exact t4
      · rintro σ H3 ⟨v4, v5, rfl, s3, t3⟩
        refine ⟨_, v4, v5, rfl, s3, ?_⟩
        rw [ptAll_succ, ← hm]
        exact t3
    · rintro σ H2 ⟨v3, v4, v5, rfl, s2, t2⟩
      exact ⟨_, rfl, q l H2 nl (s1.trans s2) t2⟩

theorem c_sum_triples (T : Txt P w K mg) (F : FunAt K mg "sum_triples" ["size"] s_sum_triples) :
    Callee P w K mg base CX0 1 "sum_triples" ["size"] (spT (· < 41) fun n => smAll n n) := by
  refine F.ok sc_sum_triples (fun vs H Q E h => ?_) (fun f cdv A outer s H vs Q E hr h => ?_)
  · obtain ⟨n, rfl, _⟩ := h
    rfl
  · obtain ⟨n, rfl, hn, q⟩ := h
    refine ⟨_, (pss_cons (ps_set (i := 1) sc_sum_triples.nd rfl (Or.inl rfl) (pe_lst pa_nil))
      (pss_cons (ps_for PassesOwn.never rfl (pi_range2 rfl T.n_range (pa_cons pe_int (pa_cons (pe_op op_add (pv 0) pe_int) pa_nil))) (pg_name (i := 2) sc_sum_triples.nd rfl (Or.inl rfl))
      (pss_one (ps_for PassesOwn.never rfl (pi_range2 rfl T.n_range (pa_cons (pv 2) (pa_cons (pe_op op_add (pe_op op_sub (pv 0) (pv 2)) pe_int) pa_nil))) (pg_name (i := 3) sc_sum_triples.nd rfl (Or.inl rfl))
      (pss_one (ps_expr (pe_bm PySem.F.plainAttrs_list PySem.F.slot_list_append PySem.F.type_list_append mt_append (pv 1) (pa_cons (pe_tup (pa_cons (pe_op op_sub (pv 2) pe_int) (pa_cons (pe_op op_sub (pv 3) pe_int) (pa_cons (pe_op op_sub (pe_op op_add (pv 2) (pv 3)) pe_int) pa_nil)))) pa_nil)))))))
      (pss_one (ps_ret (pv 1))))), ?_⟩
    refine ⟨Nat.zero_le _, fun l hl => ?_⟩
    have hm0 : ((n : Int) + 1 - 1).toNat = n := by omega
    refine ⟨_, rfl, _, _, rfl, rfl, _, _, rfl, ⟨by omega, by omega, by omega, by omega⟩, for_range (n := ((n : Int) + 1 - 1).toNat) (lo := 1) (fun a σ H2 => ∃ v2 v3, σ = [some (.int (n : Nat)), some (.ref l), v2, v3] ∧ Same H H2 ∧ TL H2 l (smAll n a)) ⟨none, none, rfl, Same.here hl, TL.new⟩ ?_ ?_⟩
    · rintro a σ H2 ha ⟨v2, v3, rfl, s2, t2⟩
      rw [hm0] at ha
      refine ⟨_, rfl, _, rfl, _, rfl, _, _, rfl, rfl, _, _, rfl, rfl, _, _, rfl, ⟨by omega, by omega, by omega, by omega⟩, for_range (n := smCount n a) (lo := 1 + (a : Int)) (fun b σ H2 => ∃ v3, σ = [some (.int (n : Nat)), some (.ref l), some (.int (1 + (a : Int))), v3] ∧ Same H H2 ∧ TL H2 l (smAll n a ++ smRow a b))
        ⟨v3, rfl, s2, by rw [show smRow a 0 = [] from rfl, List.append_nil]; exact t2⟩ ?_ ?_⟩
      · rintro b σ H3 hb ⟨v3, rfl, s3, t3⟩
        obtain ⟨refs, el, dr⟩ := t3.ex
        have hb' : b < 41 := by
          unfold smCount at hb
          omega
        have lt : refs.length < sizeLine := by
          rw [dr.len, List.length_append, smRow, List.length_map, List.length_range]
          have z : (List.range 41).all (fun n => (List.range n).all fun a => decide ((smAll n a).length ≤ 500)) = true := by decide +kernel
          have y := of_decide_eq_true (List.all_eq_true.mp (List.all_eq_true.mp z n (List.mem_range.mpr hn)) a (List.mem_range.mpr ha))
          exact small1000 (by omega)
        refine ⟨_, rfl, .inl ⟨rfl, refs, SqL.of el⟩, _, rfl, _, _, rfl, rfl, _, rfl, _, _, rfl, rfl, _, rfl, _, rfl, _, _, rfl, rfl, _, _, rfl, rfl, three_le, fun p hp => ?_⟩
        refine ⟨l, refs, _, rfl, rfl, by rw [upd_ne (ne_of_none el hp)]; exact el, lt, ?_⟩
        refine ⟨_, rfl, (s3.upd' hp).upd hl, ?_⟩
        rw [smRow_succ, ← List.append_assoc]
        exact TL.push (t := [1 + (a : Int) - 1, 1 + (a : Int) + (b : Int) - 1, 1 + (a : Int) + (1 + (a : Int) + (b : Int)) - 1]) el dr hp
      · rintro σ H3 ⟨v3, rfl, s3, t3⟩
        refine ⟨_, v3, rfl, s3, ?_⟩
        rw [smAll_succ]
        exact t3
    · rintro σ H2 ⟨v2, v3, rfl, s2, t2⟩
      rw [hm0] at t2
      exact ⟨_, rfl, q l H2 hl s2 t2⟩

theorem c_step_triples (T : Txt P w K mg) (F : FunAt K mg "step_triples" ["size"] s_step_triples) :
    Callee P w K mg base CX0 1 "step_triples" ["size"] (spT (· < 41) fun n => spAll n n) := by
  refine F.ok sc_step_triples (fun vs H Q E h => ?_) (fun f cdv A outer s H vs Q E hr h => ?_)
  · obtain ⟨n, rfl, _⟩ := h
    rfl
  · obtain ⟨n, rfl, hn, q⟩ := h
    refine ⟨_, (pss_cons (ps_set (i := 1) sc_step_triples.nd rfl (Or.inl rfl) (pe_lst pa_nil))
      (pss_cons (ps_for PassesOwn.never rfl (pi_range2 rfl T.n_range (pa_cons pe_int (pa_cons (pe_op op_add (pv 0) pe_int) pa_nil))) (pg_name (i := 2) sc_step_triples.nd rfl (Or.inl rfl))
      (pss_one (ps_for PassesOwn.never rfl (pi_range2 rfl T.n_range (pa_cons pe_int (pa_cons (pe_op op_add (pe_op op_fdiv (pe_op op_sub (pv 0) (pv 2)) pe_int) pe_int) pa_nil))) (pg_name (i := 3) sc_step_triples.nd rfl (Or.inl rfl))
      (pss_one (ps_expr (pe_bm PySem.F.plainAttrs_list PySem.F.slot_list_append PySem.F.type_list_append mt_append (pv 1) (pa_cons (pe_tup (pa_cons (pe_op op_sub (pv 2) pe_int) (pa_cons (pe_op op_sub (pe_op op_add (pv 2) (pv 3)) pe_int) (pa_cons (pe_op op_sub (pe_op op_add (pv 2) (pe_op op_mul pe_int (pv 3))) pe_int) pa_nil)))) pa_nil)))))))
      (pss_one (ps_ret (pv 1))))), ?_⟩
    refine ⟨Nat.zero_le _, fun l hl => ?_⟩
    have hm0 : ((n : Int) + 1 - 1).toNat = n := by omega
    refine ⟨_, rfl, _, _, rfl, rfl, _, _, rfl, ⟨by omega, by omega, by omega, by omega⟩, for_range (n := ((n : Int) + 1 - 1).toNat) (lo := 1) (fun a σ H2 => ∃ v2 v3, σ = [some (.int (n : Nat)), some (.ref l), v2, v3] ∧ Same H H2 ∧ TL H2 l (spAll n a)) ⟨none, none, rfl, Same.here hl, TL.new⟩ ?_ ?_⟩
    · rintro a σ H2 ha ⟨v2, v3, rfl, s2, t2⟩
      rw [hm0] at ha
      refine ⟨_, rfl, _, rfl, _, _, rfl, rfl, _, _, rfl, rfl, ⟨by decide, by decide⟩, _, _, rfl, rfl, _, _, rfl, ⟨by omega, by omega, by omega, by omega⟩, for_range (n := spCount n a) (lo := 1) (fun b σ H2 => ∃ v3, σ = [some (.int (n : Nat)), some (.ref l), some (.int (1 + (a : Int))), v3] ∧ Same H H2 ∧ TL H2 l (spAll n a ++ spRow a b))
        ⟨v3, rfl, s2, by rw [show spRow a 0 = [] from rfl, List.append_nil]; exact t2⟩ ?_ ?_⟩
      · rintro b σ H3 hb ⟨v3, rfl, s3, t3⟩
        obtain ⟨refs, el, dr⟩ := t3.ex
        have hb' : b < 41 := by
          unfold spCount at hb
          omega
        have lt : refs.length < sizeLine := by
          rw [dr.len, List.length_append, spRow, List.length_map, List.length_range]
          have z : (List.range 41).all (fun n => (List.range n).all fun a => decide ((spAll n a).length ≤ 500)) = true := by decide +kernel
          have y := of_decide_eq_true (List.all_eq_true.mp (List.all_eq_true.mp z n (List.mem_range.mpr hn)) a (List.mem_range.mpr ha))
          exact small1000 (by omega)
        refine ⟨_, rfl, .inl ⟨rfl, refs, SqL.of el⟩, _, rfl, _, _, rfl, rfl, _, rfl, _, rfl, _, _, rfl, rfl, _, _, rfl, rfl, _, rfl, _, rfl, _, _, rfl, rfl, .inl ⟨by decide, by decide⟩, _, _, rfl, rfl, _, _, rfl, rfl, three_le, fun p hp => ?_⟩
        refine ⟨l, refs, _, rfl, rfl, by rw [upd_ne (ne_of_none el hp)]; exact el, lt, ?_⟩
        refine ⟨_, rfl, (s3.upd' hp).upd hl, ?_⟩
        rw [spRow_succ, ← List.append_assoc]
        exact TL.push (t := [1 + (a : Int) - 1, 1 + (a : Int) + (1 + (b : Int)) - 1, 1 + (a : Int) + 2 * (1 + (b : Int)) - 1]) el dr hp
      · rintro σ H3 ⟨v3, rfl, s3, t3⟩
        refine ⟨_, v3, rfl, s3, ?_⟩
        rw [spAll_succ]
        exact t3
    · rintro σ H2 ⟨v2, v3, rfl, s2, t2⟩
      rw [hm0] at t2
      exact ⟨_, rfl, q l H2 hl s2 t2⟩

def sp_triples : Sp := fun vs H Q _ => ∃ (k : Kd) (n : Nat), vs = [.str k.str, .int (n : Nat)] ∧ n ≤ k.max ∧ ∀ l H', H l = none → Same H H' → TL H' l (triples k n) → Q (.ref l) H'
theorem c_triples (C_check_kind_and_size : Callee P w K mg base CX0 2 "check_kind_and_size" ["kind", "size"] sp_chk) (C_pair_triples : Callee P w K mg base CX0 2 "pair_triples" ["points"] (spT (· < 10) fun n => ptAll n n))
    (C_sum_triples : Callee P w K mg base CX0 1 "sum_triples" ["size"] (spT (· < 41) fun n => smAll n n)) (C_step_triples : Callee P w K mg base CX0 1 "step_triples" ["size"] (spT (· < 41) fun n => spAll n n))
    (F : FunAt K mg "triples" ["kind", "size"] s_triples) : Callee P w K mg base CX0 3 "triples" ["kind", "size"] sp_triples := by
  refine F.ok sc_triples (fun vs H Q E h => ?_) (fun f cdv A outer s H vs Q E hr h => ?_)
  · obtain ⟨k, n, rfl, _⟩ := h
    rfl
  · obtain ⟨k, n, rfl, hn, q⟩ := h
    have hr_pair_triples := hr
    have hr_check_kind_and_size := hr
    have hr_sum_triples := hr.mono (j := 1) (by decide)
    have hr_step_triples := hr.mono (j := 1) (by decide)
    refine ⟨_, (pss_cons (ps_expr (pe_callC C_check_kind_and_size hr_check_kind_and_size rfl (pa_cons (pv 0) (pa_cons (pv 1) pa_nil))))
      (pss_cons (ps_if (pt_cmpR op_eq (pv 0) pe_str (nomark _)) (pss_one (ps_ret (pe_callC C_pair_triples hr_pair_triples rfl (pa_cons (pv 1) pa_nil)))) pss_nil)
      (pss_cons (ps_if (pt_cmpR op_eq (pv 0) pe_str (nomark _)) (pss_one (ps_ret (pe_callC C_sum_triples hr_sum_triples rfl (pa_cons (pv 1) pa_nil)))) pss_nil)
      (pss_one (ps_ret (pe_callC C_step_triples hr_step_triples rfl (pa_cons (pv 1) pa_nil))))))), ?_⟩
    refine ⟨_, rfl, _, rfl, k, n, rfl, hn, ?_⟩
    refine ⟨_, rfl, rfl, _, rfl, ?_⟩
    rw [isPairs]
    cases k with
    | pairs => exact ifT (by decide) ⟨_, rfl, n, rfl, Nat.lt_succ_of_le hn, q⟩
    | sums =>
      refine ifF (by decide) ⟨_, rfl, rfl, _, rfl, ?_⟩
      rw [isSums]
      exact ifT (by decide) ⟨_, rfl, n, rfl, Nat.lt_succ_of_le hn, q⟩
    | steps =>
      refine ifF (by decide) ⟨_, rfl, rfl, _, rfl, ?_⟩
      rw [isSums]
      exact ifF (by decide) ⟨_, rfl, n, rfl, Nat.lt_succ_of_le hn, q⟩
end
end OH

/-! What onehue.dyeings promises. -/
namespace OH
open PySem L2
/-- a dyeing handed in as a list -/
structure DyeAt (H : Hp) (lh : Addr) (k : Kd) (n c : Nat) (hs : List Int) : Prop where
  size : n ≤ k.max
  c1 : 1 ≤ c
  c3 : c ≤ 3
  at_ : H lh = some (.lst (hs.map V.int))
  dyed : Dyed k n c hs
theorem ints_at (hs : List Int) {a : Nat} (h : a < hs.length) : (hs.map V.int)[a]? = some (V.int (hs.getD a 0)) := by
  rw [List.getElem?_map, List.getElem?_eq_getElem h]
  simp [List.getD_eq_getElem?_getD, List.getElem?_eq_getElem h]
theorem few_triples' (k : Kd) (n : Nat) (h : n ≤ k.max) : (triples k n).length ≤ 1000 := by
  have z : (List.range 41).all (fun n => decide ((smAll n n).length ≤ 1000) && decide ((spAll n n).length ≤ 1000)) = true := by decide +kernel
  cases k with
  | pairs => exact Nat.le_trans (few_pairs n (Nat.lt_succ_of_le h)).2 (by decide)
  | sums =>
    have y := List.all_eq_true.mp z n (List.mem_range.mpr (Nat.lt_succ_of_le h))
    rw [Bool.and_eq_true] at y
    exact of_decide_eq_true y.1
  | steps =>
    have y := List.all_eq_true.mp z n (List.mem_range.mpr (Nat.lt_succ_of_le h))
    rw [Bool.and_eq_true] at y
    exact of_decide_eq_true y.2
end OH

/-! A law's helper by its promise: a cell of the script. -/
namespace OH
open PySem L2
set_option maxHeartbeats 4000000
theorem count_of (z : Int) : ∃ c : Nat, 1 + z % 3 = (c : Int) ∧ 1 ≤ c ∧ c ≤ 3 := ⟨(1 + z % 3).toNat, by omega, by omega, by omega⟩
section
variable {P : Program} {w : World} {K : PySem.W.Frag} {mg : Str → Option Value} {base : Heap}
/-- the script -/
structure Scr (K : PySem.W.Frag) (H : Hp) (a : Addr) (ns : List Int) : Prop where
  sq : SqL K H a (ns.map V.int)
  le : ns.length ≤ 63
theorem Scr.same {H H' : Hp} {a : Addr} {ns : List Int} (S : Scr K H a ns) (s : Same H H') : Scr K H' a ns := ⟨s.seq S.sq, S.le⟩

def sp_cell (K : PySem.W.Frag) : Sp := fun vs H Q _ => ∃ (a : Addr) (ns : List Int) (k : Nat), vs = [.ref a, .int (k : Nat)] ∧ Scr K H a ns ∧ Q (.int (ns.getD k 0)) H
theorem c__law_cell_at (T : Txt P w K mg) (F : FunAt K mg "_law_cell_at" ["script", "k"] s__law_cell_at) : Callee P w K mg base CX0 1 "_law_cell_at" ["script", "k"] (sp_cell K) := by
  refine F.ok sc__law_cell_at (fun vs H Q E h => ?_) (fun f cdv A outer s H vs Q E hr h => ?_)
  · obtain ⟨a, ns, k, rfl, _⟩ := h
    rfl
  · obtain ⟨a, ns, k, rfl, S, q⟩ := h
    refine ⟨_, (pss_cons (ps_if (pt_cmpR op_lt (pv 1) (pe_callB call_len_seq rfl T.n_len (by decide +kernel) (pa_cons (pv 0) pa_nil)) (nomark _)) (pss_one (ps_ret (pe_ix ix_list (pv 0) (pv 1) (fun _ _ => rfl)))) pss_nil)
      (pss_one (ps_ret pe_int))), ?_⟩
    refine ⟨_, rfl, _, rfl, a, _, rfl, .inl S.sq, _, _, rfl, rfl, _, rfl, ifB (fun h => ?_) (fun h => ?_)⟩
    · have lt : k < ns.length := by
        have := of_decide_eq_true h
        rw [List.length_map] at this
        omega
      have e : (ns.map V.int)[k]? = some (V.int (ns.getD k 0)) := by
        rw [List.getElem?_map, List.getElem?_eq_getElem lt]
        simp [List.getD_eq_getElem?_getD, List.getElem?_eq_getElem lt]
      exact ⟨_, rfl, _, rfl, a, _, _, _, rfl, rfl, S.sq, atI_nat e, q⟩
    · have ge : ¬ k < ns.length := by
        have := of_decide_eq_false h
        rw [List.length_map] at this
        omega
      have e : ns.getD k 0 = 0 := by
        rw [List.getD_eq_getElem?_getD, List.getElem?_eq_none_iff.mpr (by omega)]
        rfl
      rw [e] at q
      exact q
def sp_law (K : PySem.W.Frag) : Sp := fun vs H Q _ => ∃ (a : Addr) (ns : List Int), vs = [.ref a] ∧ Scr K H a ns ∧ ∀ H', Q (.bl true) H'
end
end OH

/-! A law's helper by its promise: the pairs. -/
namespace OH
open PySem L2
set_option maxHeartbeats 4000000
section
variable {P : Program} {w : World} {K : PySem.W.Frag} {mg : Str → Option Value} {base : Heap}
theorem c__law_pairs (T : Txt P w K mg) (F : FunAt K mg "_law_pairs" ["size"] s__law_pairs) : Callee P w K mg base CX0 1 "_law_pairs" ["size"] (spT (· < 10) fun n => (pairsL n).map two) := by
  refine F.ok sc__law_pairs (fun vs H Q E h => ?_) (fun f cdv A outer s H vs Q E hr h => ?_)
  · obtain ⟨n, rfl, _⟩ := h
    rfl
  · obtain ⟨n, rfl, hn, q⟩ := h
    refine ⟨_, (pss_cons (ps_set (i := 1) sc__law_pairs.nd rfl (Or.inl rfl) (pe_lst pa_nil))
      (pss_cons (ps_for PassesOwn.never rfl (pi_range1 rfl T.n_range (pa_cons (pv 0) pa_nil)) (pg_name (i := 2) sc__law_pairs.nd rfl (Or.inl rfl))
      (pss_one (ps_for PassesOwn.never rfl (pi_range2 rfl T.n_range (pa_cons (pe_op op_add (pv 2) pe_int) (pa_cons (pv 0) pa_nil))) (pg_name (i := 3) sc__law_pairs.nd rfl (Or.inl rfl))
      (pss_one (ps_expr (pe_bm PySem.F.plainAttrs_list PySem.F.slot_list_append PySem.F.type_list_append mt_append (pv 1) (pa_cons (pe_tup (pa_cons (pv 2) (pa_cons (pv 3) pa_nil))) pa_nil)))))))
      (pss_one (ps_ret (pv 1))))), ?_⟩
    refine ⟨Nat.zero_le _, fun l hl => ?_⟩
    refine ⟨_, rfl, (n : Int), rfl, by omega, by omega, for_range (n := n) (lo := 0) (fun i σ H2 => ∃ v2 v3, σ = [some (.int (n : Nat)), some (.ref l), v2, v3] ∧ Same H H2 ∧ TL H2 l ((rows n i).map two)) ⟨none, none, rfl, Same.here hl, TL.new⟩ ?_ ?_⟩
    · rintro i σ H2 hi ⟨v2, v3, rfl, s2, t2⟩
      have hm : ((n : Int) - (0 + (i : Int) + 1)).toNat = n - (i + 1) := by omega
      refine ⟨_, rfl, _, _, rfl, rfl, _, rfl, _, _, rfl, ⟨by omega, by omega, by omega, by omega⟩, for_range (n := ((n : Int) - (0 + (i : Int) + 1)).toNat) (lo := 0 + (i : Int) + 1) (fun j σ H2 => ∃ v3, σ = [some (.int (n : Nat)), some (.ref l), some (.int (0 + (i : Int))), v3] ∧ Same H H2 ∧ TL H2 l ((rows n i ++ rowTo i j).map two))
        ⟨v3, rfl, s2, by rw [show rowTo i 0 = [] from rfl, List.append_nil]; exact t2⟩ ?_ ?_⟩
      · rintro j σ H3 hj ⟨v3, rfl, s3, t3⟩
        rw [hm] at hj
        obtain ⟨refs, el, dr⟩ := t3.ex
        have lt : refs.length < sizeLine := by
          rw [dr.len, List.length_map, List.length_append, rowTo, List.length_map, List.length_range]
          have z : (List.range 10).all (fun n => (List.range n).all fun i => decide ((rows n i).length ≤ 36)) = true := by decide +kernel
          have y := of_decide_eq_true (List.all_eq_true.mp (List.all_eq_true.mp z n (List.mem_range.mpr hn)) i (List.mem_range.mpr hi))
          exact small1000 (by omega)
        refine ⟨_, rfl, .inl ⟨rfl, refs, SqL.of el⟩, _, rfl, _, rfl, two_le, fun p hp => ?_⟩
        refine ⟨l, refs, _, rfl, rfl, by rw [upd_ne (ne_of_none el hp)]; exact el, lt, ?_⟩
        refine ⟨_, rfl, (s3.upd' hp).upd hl, ?_⟩
        have et : [V.int (0 + (i : Int)), V.int (0 + (i : Int) + 1 + (j : Int))] = (two (i, i + 1 + j)).map V.int := by
          show _ = [V.int (i : Nat), V.int (i + 1 + j : Nat)]
          rw [show (0 : Int) + (i : Int) = (i : Int) by omega, show (i : Int) + 1 + (j : Int) = ((i + 1 + j : Nat) : Int) by omega]
        rw [rowTo_succ, ← List.append_assoc, List.map_append]
        show TL (upd (upd H3 p (.tup [V.int (0 + (i : Int)), V.int (0 + (i : Int) + 1 + (j : Int))])) l (.lst (refs ++ [.ref p]))) l _
        rw [et]
        exact TL.push (t := two (i, i + 1 + j)) el dr hp
      · rintro σ H3 ⟨v3, rfl, s3, t3⟩
        refine ⟨_, v3, rfl, s3, ?_⟩
        rw [rows_succ, row_eq, ← hm]
        exact t3
    · rintro σ H2 ⟨v2, v3, rfl, s2, t2⟩
      exact ⟨_, rfl, q l H2 hl s2 t2⟩
end
end OH

/-! A law's helper by its promise: how many things. -/
namespace OH
open PySem L2
set_option maxHeartbeats 4000000
section
variable {P : Program} {w : World} {K : PySem.W.Frag} {mg : Str → Option Value} {base : Heap}
def sp_many : Sp := fun vs H Q _ => ∃ (k : Kd) (n : Nat), vs = [.str k.str, .int (n : Nat)] ∧ n ≤ k.max ∧ ∀ H', Same H H' → Q (.int (many k n)) H'
theorem c__law_many (T : Txt P w K mg) (C__law_pairs : Callee P w K mg base CX0 1 "_law_pairs" ["size"] (spT (· < 10) fun n => (pairsL n).map two)) (F : FunAt K mg "_law_many" ["kind", "size"] s__law_many) :
    Callee P w K mg base CX0 2 "_law_many" ["kind", "size"] sp_many := by
  refine F.ok sc__law_many (fun vs H Q E h => ?_) (fun f cdv A outer s H vs Q E hr h => ?_)
  · obtain ⟨k, n, rfl, _⟩ := h
    rfl
  · obtain ⟨k, n, rfl, hn, q⟩ := h
    have hr__law_pairs := hr
    refine ⟨_, (pss_cons (ps_if (pt_cmpR op_eq (pv 0) pe_str (nomark _)) (pss_one (ps_ret (pe_callB call_len_seq rfl T.n_len (by decide +kernel) (pa_cons (pe_callC C__law_pairs hr__law_pairs rfl (pa_cons (pv 1) pa_nil)) pa_nil)))) pss_nil)
      (pss_one (ps_ret (pv 1)))), ?_⟩
    refine ⟨_, rfl, rfl, _, rfl, ?_⟩
    rw [isPairs]
    cases k with
    | pairs =>
      refine ifT (by decide) ⟨_, rfl, n, rfl, Nat.lt_succ_of_le hn, fun l H1 hl s1 t1 => ?_⟩
      obtain ⟨refs, el, dr⟩ := t1.ex
      refine ⟨l, refs, rfl, .inl (SqL.of el), ?_⟩
      have e : (refs.length : Int) = many .pairs n := by
        rw [dr.len, List.length_map]
        exact many_pairs n (Nat.lt_succ_of_le hn)
      rw [e]
      exact q H1 s1
    | sums => exact ifF (by decide) ⟨_, rfl, q H (Same.refl H)⟩
    | steps => exact ifF (by decide) ⟨_, rfl, q H (Same.refl H)⟩
end
end OH

/-! A law's helper by its promise: a kind and a size. -/
namespace OH
open PySem L2
set_option maxHeartbeats 4000000
theorem kdOf_at (z : Int) (x0 x1 x2 : V) : atI [x0, x1, x2] (z % 3) = some (match kdOf z with | .pairs => x0 | .sums => x1 | .steps => x2) := by
  have h : z % 3 = 0 ∨ z % 3 = 1 ∨ z % 3 = 2 := by omega
  rcases h with h | h | h <;> (unfold kdOf; rw [h]; rfl)

section
variable {P : Program} {w : World} {K : PySem.W.Frag} {mg : Str → Option Value} {base : Heap}
def sp_kind (K : PySem.W.Frag) : Sp := fun vs H Q _ => ∃ (a : Addr) (ns : List Int) (at_ : Nat) (lb : Addr) (bd : Kd → Nat), vs = [.ref a, .int (at_ : Nat), .ref lb] ∧ Scr K H a ns ∧ H lb = some (.lst [.int (bd .pairs : Nat), .int (bd .sums : Nat), .int (bd .steps : Nat)]) ∧ (∀ k, bd k ≤ 100) ∧
  ∀ p H' (k : Kd) (n : Nat), n ≤ bd k → Same H H' → H' p = some (.tup [.str k.str, .int (n : Nat)]) → Q (.ref p) H'
theorem c__law_kind_by (C__law_cell_at : Callee P w K mg base CX0 1 "_law_cell_at" ["script", "k"] (sp_cell K)) (F : FunAt K mg "_law_kind_by" ["script", "at", "bounds"] s__law_kind_by) : Callee P w K mg base CX0 2 "_law_kind_by" ["script", "at", "bounds"] (sp_kind K) := by
  refine F.ok sc__law_kind_by (fun vs H Q E h => ?_) (fun f cdv A outer s H vs Q E hr h => ?_)
  · obtain ⟨a, ns, at_, lb, bd, rfl, _⟩ := h
    rfl
  · obtain ⟨a, ns, at_, lb, bd, rfl, S, hb, hbd, q⟩ := h
    have hr__law_cell_at := hr
    refine ⟨_, (pss_cons (ps_set (i := 3) sc__law_kind_by.nd rfl (Or.inl rfl) (pe_op op_mod (pe_callC C__law_cell_at hr__law_cell_at rfl (pa_cons (pv 0) (pa_cons (pv 1) pa_nil))) pe_int))
      (pss_one (ps_ret (pe_tup (pa_cons (pe_ix ix_list (pe_lst (pa_cons pe_str (pa_cons pe_str (pa_cons pe_str pa_nil)))) (pv 3) (fun _ _ => rfl)) (pa_cons (pe_op op_mod (pe_op op_fdiv (pe_callC C__law_cell_at hr__law_cell_at rfl (pa_cons (pv 0) (pa_cons (pv 1) pa_nil))) pe_int) (pe_op op_add (pe_ix ix_list (pv 2) (pv 3) (fun _ _ => rfl)) pe_int)) pa_nil)))))), ?_⟩
    refine ⟨_, rfl, _, rfl, a, ns, at_, rfl, S, _, _, rfl, rfl, (by show (0 : Int) < 3; decide), ?_⟩
    refine ⟨three_le, fun p hp => ⟨_, rfl, p, _, _, _, rfl, rfl, SqL.of upd_same, kdOf_at _ _ _ _, ?_⟩⟩
    have S' : Scr K (upd H p (.lst [.str "pairs", .str "sums", .str "steps"])) a ns := S.same (Same.here hp)
    have hb' : (upd H p (.lst [.str "pairs", .str "sums", .str "steps"])) lb = some (.lst [.int (bd .pairs : Nat), .int (bd .sums : Nat), .int (bd .steps : Nat)]) := by rw [upd_ne (ne_of_none hb hp)]; exact hb
    refine ⟨_, rfl, _, rfl, a, ns, at_, rfl, S', _, _, rfl, rfl, ⟨by decide, by decide⟩, ?_⟩
    generalize ns.getD at_ 0 = z
    have eb : atI [V.int (bd .pairs : Nat), V.int (bd .sums : Nat), V.int (bd .steps : Nat)] (z % 3) = some (V.int (bd (kdOf z) : Nat)) := by
      rw [kdOf_at]
      cases kdOf z <;> rfl
    have es : (match kdOf z with | .pairs => V.str "pairs" | .sums => V.str "sums" | .steps => V.str "steps") = V.str (kdOf z).str := by cases kdOf z <;> rfl
    have pos : (0 : Int) < (bd (kdOf z) : Int) + 1 := by omega
    refine ⟨_, rfl, _, rfl, lb, _, _, _, rfl, rfl, SqL.of hb', eb, _, _, rfl, rfl, _, _, rfl, rfl, pos, two_le, fun p2 hp2 => ?_⟩
    have nn : 0 ≤ z / 3 % ((bd (kdOf z) : Int) + 1) := Int.emod_nonneg _ (by omega)
    have lt : z / 3 % ((bd (kdOf z) : Int) + 1) < (bd (kdOf z) : Int) + 1 := Int.emod_lt_of_pos _ pos
    refine q p2 _ (kdOf z) (z / 3 % ((bd (kdOf z) : Int) + 1)).toNat (by omega) ((Same.here hp).upd' hp2) ?_
    rw [upd_same, ← es, Int.toNat_of_nonneg nn]
end
end OH

/-! A law's helper by its promise: a dyeing that is drawn. -/
namespace OH
open PySem L2
set_option maxHeartbeats 4000000
section
variable {P : Program} {w : World} {K : PySem.W.Frag} {mg : Str → Option Value} {base : Heap}
def sp_stirred : Sp := fun vs H Q _ => ∃ (z : Int) (k : Nat), vs = [.int z, .int (k : Nat)] ∧ ∀ y : Int, Q (.int y) H
theorem c__law_stirred (F : FunAt K mg "_law_stirred" ["cell", "k"] s__law_stirred) : Callee P w K mg base CX0 1 "_law_stirred" ["cell", "k"] sp_stirred := by
  refine F.ok sc__law_stirred (fun vs H Q E h => ?_) (fun f cdv A outer s H vs Q E hr h => ?_)
  · obtain ⟨z, k, rfl, _⟩ := h
    rfl
  · obtain ⟨z, k, rfl, q⟩ := h
    refine ⟨_, (pss_cons (ps_set (i := 2) sc__law_stirred.nd rfl (Or.inl rfl) (pe_op op_mod (pe_op op_mul (pe_op op_add (pe_op op_add (pv 0) (pe_op op_mul pe_int (pv 1))) pe_int) pe_int) pe_int))
      (pss_cons (ps_set (i := 2) sc__law_stirred.nd rfl (Or.inl rfl) (pe_op op_mod (pe_op op_mul (pv 2) (pv 2)) pe_int))
      (pss_one (ps_ret (pe_op op_fdiv (pe_op op_mod (pe_op op_mul (pv 2) pe_int) pe_int) pe_int))))), ?_⟩
    have pos : (0 : Int) < 2147483647 := by decide
    refine ⟨_, rfl, _, rfl, _, _, rfl, rfl, .inl ⟨by decide, by decide⟩, _, _, rfl, rfl, _, _, rfl, rfl, _, _, rfl, rfl, .inr ⟨by decide, by decide⟩, _, _, rfl, rfl, pos, ?_⟩
    generalize hy : (z + 7919 * (k : Int) + 17) * 48271 % 2147483647 = y
    have y0 : 0 ≤ y := by rw [← hy]; exact Int.emod_nonneg _ (by decide)
    have y1 : y < 2147483647 := by rw [← hy]; exact Int.emod_lt_of_pos _ pos
    refine ⟨_, rfl, _, rfl, _, _, rfl, rfl, .inl ⟨by omega, by omega⟩, _, _, rfl, rfl, pos, ?_⟩
    generalize hx : y * y % 2147483647 = x
    have x0 : 0 ≤ x := by rw [← hx]; exact Int.emod_nonneg _ (by decide)
    have x1 : x < 2147483647 := by rw [← hx]; exact Int.emod_lt_of_pos _ pos
    exact ⟨_, rfl, _, _, rfl, rfl, .inl ⟨by omega, by omega⟩, _, _, rfl, rfl, pos, _, _, rfl, rfl, ⟨by decide, by decide⟩, q _⟩

def sp_dyed (K : PySem.W.Frag) : Sp := fun vs H Q _ => ∃ (a : Addr) (ns : List Int) (at_ m c : Nat), vs = [.ref a, .int (at_ : Nat), .int (m : Nat), .int (c : Nat)] ∧ Scr K H a ns ∧ 1 ≤ c ∧ c ≤ 3 ∧ m ≤ 900 ∧
  ∀ l H' (hs : List Int), H l = none → Same H H' → H' l = some (.lst (hs.map V.int)) → hs.length = m → (∀ h ∈ hs, 0 ≤ h ∧ h < (c : Int)) → Q (.ref l) H'
theorem c__law_dyed_by (T : Txt P w K mg) (C__law_cell_at : Callee P w K mg base CX0 1 "_law_cell_at" ["script", "k"] (sp_cell K)) (C__law_stirred : Callee P w K mg base CX0 1 "_law_stirred" ["cell", "k"] sp_stirred)
    (F : FunAt K mg "_law_dyed_by" ["script", "at", "many", "count"] s__law_dyed_by) : Callee P w K mg base CX0 2 "_law_dyed_by" ["script", "at", "many", "count"] (sp_dyed K) := by
  refine F.ok sc__law_dyed_by (fun vs H Q E h => ?_) (fun f cdv A outer s H vs Q E hr h => ?_)
  · obtain ⟨a, ns, at_, m, c, rfl, _⟩ := h
    rfl
  · obtain ⟨a, ns, at_, m, c, rfl, S, hc1, hc3, hm, q⟩ := h
    have hr__law_cell_at := hr
    have hr__law_stirred := hr
    refine ⟨_, (pss_cons (ps_set (i := 4) sc__law_dyed_by.nd rfl (Or.inl rfl) (pe_callC C__law_cell_at hr__law_cell_at rfl (pa_cons (pv 0) (pa_cons (pv 1) pa_nil))))
      (pss_cons (ps_set (i := 5) sc__law_dyed_by.nd rfl (Or.inl rfl) (pe_op op_mod (pe_callC C__law_cell_at hr__law_cell_at rfl (pa_cons (pv 0) (pa_cons (pe_op op_add (pv 1) pe_int) pa_nil))) pe_int))
      (pss_cons (ps_set (i := 6) sc__law_dyed_by.nd rfl (Or.inl rfl) (pe_lst pa_nil))
      (pss_cons (ps_for PassesOwn.never rfl (pi_range1 rfl T.n_range (pa_cons (pv 2) pa_nil)) (pg_name (i := 7) sc__law_dyed_by.nd rfl (Or.inl rfl))
      (pss_cons (ps_set (i := 8) sc__law_dyed_by.nd rfl (Or.inl rfl) (pe_op op_mod (pv 4) (pv 3)))
      (pss_cons (ps_if (pt_cmpR op_eq (pv 5) pe_int (nomark _)) (pss_one (ps_set (i := 8) sc__law_dyed_by.nd rfl (Or.inl rfl) (pe_op op_mod (pe_callC C__law_stirred hr__law_stirred rfl (pa_cons (pe_callC C__law_cell_at hr__law_cell_at rfl (pa_cons (pv 0) (pa_cons (pv 1) pa_nil))) (pa_cons (pv 7) pa_nil))) (pv 3)))) pss_nil)
      (pss_cons (ps_if (pt_cmpR op_eq (pv 5) pe_int (nomark _)) (pss_one (ps_set (i := 8) sc__law_dyed_by.nd rfl (Or.inl rfl) (pe_op op_mod (pe_op op_fdiv (pe_op op_add (pv 7) pe_int) (pe_op op_add pe_int (pe_op op_mod (pe_callC C__law_cell_at hr__law_cell_at rfl (pa_cons (pv 0) (pa_cons (pe_op op_add (pv 1) pe_int) pa_nil))) pe_int))) (pv 3)))) pss_nil)
      (pss_cons (ps_expr (pe_bm PySem.F.plainAttrs_list PySem.F.slot_list_append PySem.F.type_list_append mt_append (pv 6) (pa_cons (pv 8) pa_nil)))
      (pss_one (ps_set (i := 4) sc__law_dyed_by.nd rfl (Or.inl rfl) (pe_op op_fdiv (pv 4) (pv 3)))))))))
      (pss_one (ps_ret (pv 6))))))), ?_⟩
    have cpos : (0 : Int) < (c : Int) := by omega
    refine ⟨_, rfl, _, rfl, a, ns, at_, rfl, S, ?_⟩
    refine ⟨_, rfl, _, rfl, _, _, rfl, rfl, a, ns, at_ + 1, rfl, S, _, _, rfl, rfl, (by show (0 : Int) < 3; decide), ?_⟩
    refine ⟨Nat.zero_le _, fun l hl => ?_⟩
    refine ⟨_, rfl, (m : Int), rfl, by omega, by omega, for_range (n := m) (lo := 0) (fun i σ H2 => ∃ (z : Int) (v7 v8 : Option V) (hs : List Int), σ = [some (.ref a), some (.int (at_ : Nat)), some (.int (m : Nat)), some (.int (c : Nat)), some (.int z), some (.int (ns.getD (at_ + 1) 0 % 3)), some (.ref l), v7, v8] ∧ Same H H2 ∧
      H2 l = some (.lst (hs.map V.int)) ∧ hs.length = i ∧ ∀ h ∈ hs, 0 ≤ h ∧ h < (c : Int)) ⟨_, none, none, [], rfl, Same.here hl, upd_same, rfl, fun _ h => nomatch h⟩ ?_ ?_⟩
    · rintro i σ H2 hi ⟨z, v7, v8, hs, rfl, s2, e2, l2, h2⟩
      have S2 := S.same s2
      have fin : ∀ hue : Int, 0 ≤ hue → hue < (c : Int) → ∀ {v8 : Option V}, v8 = some (.int hue) → ∃ (z' : Int) (v7 v8' : Option V) (hs' : List Int), ([some (.ref a), some (.int (at_ : Nat)), some (.int (m : Nat)), some (.int (c : Nat)), some (.int (z / (c : Int))), some (.int (ns.getD (at_ + 1) 0 % 3)), some (.ref l), some (.int (0 + (i : Int))), v8] : St) =
          [some (.ref a), some (.int (at_ : Nat)), some (.int (m : Nat)), some (.int (c : Nat)), some (.int z'), some (.int (ns.getD (at_ + 1) 0 % 3)), some (.ref l), v7, v8'] ∧ Same H (upd H2 l (.lst (hs.map V.int ++ [.int hue]))) ∧ (upd H2 l (.lst (hs.map V.int ++ [.int hue]))) l = some (.lst (hs'.map V.int)) ∧ hs'.length = i + 1 ∧ ∀ h ∈ hs', 0 ≤ h ∧ h < (c : Int) :=
        fun hue g1 g2 {v8} _ => ⟨_, _, _, hs ++ [hue], rfl, s2.upd hl, by rw [upd_same, List.map_append]; rfl, by rw [List.length_append, l2]; rfl, fun h hh => by
          rcases List.mem_append.mp hh with q | q
          · exact h2 h q
          · rw [List.mem_singleton.mp q]
            exact ⟨g1, g2⟩⟩
      have lt : (hs.map V.int).length < sizeLine := by
        rw [List.length_map]
        exact small1000 (by omega)
      have m0 : ∀ y : Int, 0 ≤ y % (c : Int) := fun y => Int.emod_nonneg _ (by omega)
      have m1 : ∀ y : Int, y % (c : Int) < (c : Int) := fun y => Int.emod_lt_of_pos _ cpos
      have c30 : (c : Int) < 1073741824 := by omega
      refine ⟨_, rfl, _, rfl, _, _, rfl, rfl, cpos, ?_⟩
      refine ⟨_, rfl, rfl, _, rfl, ?_⟩
      refine ite2 (fun w1 => ?_) (fun w1 => ?_)
      · refine ⟨_, rfl, _, rfl, a, ns, at_, rfl, S2, _, rfl, _, i, by rw [show (0 : Int) + (i : Int) = ((i : Nat) : Int) by omega]; rfl, fun y => ⟨_, rfl, _, _, rfl, rfl, cpos, ?_⟩⟩
        have e1 : ns.getD (at_ + 1) 0 % 3 = 1 := by simpa using w1
        refine ⟨_, rfl, rfl, _, rfl, ?_⟩
        refine ifF (decide_eq_false (by intro z; injection z with z; omega)) ?_
        refine ⟨_, rfl, .inl ⟨rfl, _, SqL.of e2⟩, _, rfl, l, _, _, rfl, rfl, e2, lt, ?_⟩
        exact ⟨_, rfl, _, rfl, _, _, rfl, rfl, ⟨cpos, c30⟩, fin _ (m0 _) (m1 _) rfl⟩
      · refine ⟨_, rfl, rfl, _, rfl, ?_⟩
        refine ite2 (fun w2 => ?_) (fun w2 => ?_)
        · have g0 : 0 ≤ ns.getD (at_ + 2) 0 % 7 := Int.emod_nonneg _ (by decide)
          have g1 : ns.getD (at_ + 2) 0 % 7 < 7 := Int.emod_lt_of_pos _ (by decide)
          refine ⟨_, rfl, _, _, rfl, rfl, _, rfl, _, rfl, _, _, rfl, rfl, a, ns, at_ + 2, rfl, S2, _, _, rfl, rfl, (by show (0 : Int) < 7; decide), _, _, rfl, rfl, _, _, rfl, rfl, ⟨by omega, by omega⟩, _, rfl, _, _, rfl, rfl, cpos, ?_⟩
          refine ⟨_, rfl, .inl ⟨rfl, _, SqL.of e2⟩, _, rfl, l, _, _, rfl, rfl, e2, lt, ?_⟩
          exact ⟨_, rfl, _, rfl, _, _, rfl, rfl, ⟨cpos, c30⟩, fin _ (m0 _) (m1 _) rfl⟩
        · refine ⟨_, rfl, .inl ⟨rfl, _, SqL.of e2⟩, _, rfl, l, _, _, rfl, rfl, e2, lt, ?_⟩
          exact ⟨_, rfl, _, rfl, _, _, rfl, rfl, ⟨cpos, c30⟩, fin _ (m0 _) (m1 _) rfl⟩
    · rintro σ H2 ⟨z, v7, v8, hs, rfl, s2, e2, l2, h2⟩
      exact ⟨_, rfl, q l H2 hs hl s2 e2 l2 h2⟩
end
end OH

/-! onehue.dyeings: each def by its promise, where nothing is refused. -/
namespace OH
open PySem L2
set_option maxHeartbeats 4000000
theorem TL.add {H : Hp} {acc p : Addr} {zs : List V} {ts : List (List Int)} {t : List Int} (ez : H acc = some (.lst zs)) (dz : DRels H zs (ts.map DV.tup)) (hp : H p = some (.tup (t.map V.int))) :
    TL (upd H acc (.lst (zs ++ [.ref p]))) acc (ts ++ [t]) := by
  refine ⟨zs ++ [.ref p], upd_same, ?_⟩
  have mo : ∀ b xs, H b = some (.tup xs) → (upd H acc (.lst (zs ++ [.ref p]))) b = some (.tup xs) := fun b xs e => by
    have nb : b ≠ acc := fun z => by rw [z, ez] at e; cases e
    rw [upd_ne nb]
    exact e
  rw [List.map_append]
  exact (dz.mono mo).snoc ⟨_, rfl, mo _ _ hp⟩
theorem decI (x y : Int) : decide (V.int x = V.int y) = decide (x = y) := by simp
section
variable {P : Program} {w : World} {K : PySem.W.Frag} {mg : Str → Option Value} {base : Heap}
def sp_ccount : Sp := fun vs H Q _ => ∃ c : Nat, vs = [.int (c : Nat)] ∧ 1 ≤ c ∧ c ≤ 3 ∧ Q .non H
theorem c_check_count (T : Txt P w K mg) (F : FunAt K mg "check_count" ["count"] s_check_count) : Callee P w K mg base CX0 1 "check_count" ["count"] sp_ccount := by
  refine F.ok sc_check_count (fun vs H Q E h => ?_) (fun f cdv A outer s H vs Q E hr h => ?_)
  · obtain ⟨c, rfl, _⟩ := h
    rfl
  · obtain ⟨c, rfl, h1, h3, q⟩ := h
    refine ⟨_, (pss_one (ps_if (PW.pt (pw_or (pt_cmpR op_lt (pv 0) pe_int (nomark _)) (pw_or1 (pt_cmpR op_gt (pv 0) (pe_gint rfl T.m_GREATEST_COUNT) (nomark _))))) pss_never pss_nil)), ?_⟩
    refine ⟨_, rfl, _, _, rfl, rfl, _, rfl, ?_⟩
    refine ifF (decide_eq_false (by omega)) ?_
    refine ⟨_, rfl, _, _, rfl, rfl, _, rfl, ?_⟩
    exact ifF (decide_eq_false (by omega)) q
end
end OH

/-! onehue.dyeings: each def by its promise, where nothing is refused. -/
namespace OH
open PySem L2
set_option maxHeartbeats 4000000
section
variable {P : Program} {w : World} {K : PySem.W.Frag} {mg : Str → Option Value} {base : Heap}
def sp_ishue : Sp := fun vs H Q _ => ∃ (h c : Int), vs = [.int h, .int c] ∧ Q (.bl (decide (0 ≤ h) && decide (h < c))) H
theorem c_is_hue (F : FunAt K mg "is_hue" ["hue", "count"] s_is_hue) : Callee P w K mg base CX0 1 "is_hue" ["hue", "count"] sp_ishue := by
  refine F.ok sc_is_hue (fun vs H Q E h => ?_) (fun f cdv A outer s H vs Q E hr h => ?_)
  · obtain ⟨h, c, rfl, _⟩ := h
    rfl
  · obtain ⟨h, c, rfl, q⟩ := h
    refine ⟨_, (pss_one (ps_ret (pe_and (pe_cmpR op_le pe_int (pv 0) (nomark _)) (pe_one (pe_cmpR op_lt (pv 0) (pv 1) (nomark _)))))), ?_⟩
    refine ⟨_, rfl, _, _, rfl, rfl, _, rfl, ?_⟩
    refine ifB (fun e => ?_) (fun e => ?_)
    · rw [e, Bool.true_and] at q
      exact ⟨_, rfl, _, rfl, _, _, rfl, rfl, q⟩
    · rw [e, Bool.false_and] at q
      exact q
end
end OH

/-! onehue.dyeings: each def by its promise, where nothing is refused. -/
namespace OH
open PySem L2
set_option maxHeartbeats 4000000
section
variable {P : Program} {w : World} {K : PySem.W.Frag} {mg : Str → Option Value} {base : Heap}
def sp_isone : Sp := fun vs H Q _ => ∃ (p lh : Addr) (a b c : Nat) (hs : List Int), vs = [.ref p, .ref lh] ∧ H p = some (.tup ([(a : Int), (b : Int), (c : Int)].map V.int)) ∧ H lh = some (.lst (hs.map V.int)) ∧ a < hs.length ∧ b < hs.length ∧ c < hs.length ∧ Q (.bl (mono hs [(a : Int), (b : Int), (c : Int)])) H
theorem c_is_of_one_hue (F : FunAt K mg "is_of_one_hue" ["triple", "hues"] s_is_of_one_hue) : Callee P w K mg base CX0 1 "is_of_one_hue" ["triple", "hues"] sp_isone := by
  refine F.ok sc_is_of_one_hue (fun vs H Q E h => ?_) (fun f cdv A outer s H vs Q E hr h => ?_)
  · obtain ⟨p, lh, a, b, c, hs, rfl, _⟩ := h
    rfl
  · obtain ⟨p, lh, a, b, c, hs, rfl, hp, eh, ha, hb, hc, q⟩ := h
    have ia := ints_at hs ha
    have ib := ints_at hs hb
    have ic := ints_at hs hc
    refine ⟨_, (pss_cons (ps_set (i := 2) sc_is_of_one_hue.nd rfl (Or.inl rfl) (pe_ix ix_list (pv 1) (pe_ix ix_tup (pv 0) pe_int (fun _ _ => rfl)) (fun _ _ => rfl)))
      (pss_one (ps_ret (pe_and (pe_cmpR op_eq (pe_ix ix_list (pv 1) (pe_ix ix_tup (pv 0) pe_int (fun _ _ => rfl)) (fun _ _ => rfl)) (pv 2) (nomark _)) (pe_one (pe_cmpR op_eq (pe_ix ix_list (pv 1) (pe_ix ix_tup (pv 0) pe_int (fun _ _ => rfl)) (fun _ _ => rfl)) (pv 2) (nomark _))))))), ?_⟩
    refine ⟨_, rfl, _, rfl, p, _, 0, _, rfl, rfl, SqT.of hp, rfl, lh, _, _, _, rfl, rfl, SqL.of eh, atI_nat ia, ?_⟩
    refine ⟨_, rfl, _, rfl, p, _, 1, _, rfl, rfl, SqT.of hp, rfl, lh, _, _, _, rfl, rfl, SqL.of eh, atI_nat ib, _, rfl, rfl, _, rfl, ?_⟩
    rw [mono_three] at q
    rw [decI]
    refine ifB (fun e => ?_) (fun e => ?_)
    · have e' : hs.getD b 0 = hs.getD a 0 := of_decide_eq_true e
      refine ⟨_, rfl, _, rfl, p, _, 2, _, rfl, rfl, SqT.of hp, rfl, lh, _, _, _, rfl, rfl, SqL.of eh, atI_nat ic, _, rfl, rfl, ?_⟩
      rw [decI]
      rw [e', decide_eq_true (rfl : hs.getD a 0 = hs.getD a 0), Bool.true_and] at q
      rw [show decide (hs.getD c 0 = hs.getD a 0) = decide (hs.getD a 0 = hs.getD c 0) from by simp [eq_comm]]
      exact q
    · have e' : ¬ hs.getD a 0 = hs.getD b 0 := fun z => of_decide_eq_false e z.symm
      rw [decide_eq_false e', Bool.false_and] at q
      exact q
end
end OH

/-! onehue.dyeings: each def by its promise, where nothing is refused. -/
namespace OH
open PySem L2
set_option maxHeartbeats 4000000
section
variable {P : Program} {w : World} {K : PySem.W.Frag} {mg : Str → Option Value} {base : Heap}
end
end OH

/-! onehue.dyeings: each def by its promise, where nothing is refused. -/
namespace OH
open PySem L2
set_option maxHeartbeats 4000000
section
variable {P : Program} {w : World} {K : PySem.W.Frag} {mg : Str → Option Value} {base : Heap}
end
end OH

/-! onehue.free: each def by its promise, where nothing is refused. -/
namespace OH
open PySem L2
set_option maxHeartbeats 4000000
section
variable {P : Program} {w : World} {K : PySem.W.Frag} {mg : Str → Option Value} {base : Heap}
def sp_thingsN : Sp := fun vs H Q _ => ∃ (k : Kd) (n : Nat), vs = [.str k.str, .int (n : Nat)] ∧ n ≤ k.max ∧ Q (.int (manyN k n : Nat)) H
theorem c_thingsN (C : Callee P w K mg base CX0 3 "things" ["kind", "size"] sp_things) : Callee P w K mg base CX0 3 "things" ["kind", "size"] sp_thingsN :=
  C.imp fun vs H Q E ⟨k, n, e, hn, q⟩ => ⟨k, n, e, hn, by rw [many_eq k n hn]; exact q⟩
def sp_asked : Sp := fun vs H Q _ => ∃ (k : Kd) (n c : Nat), vs = [.str k.str, .int (n : Nat), .int (c : Nat)] ∧ n ≤ k.max ∧ 1 ≤ c ∧ c ≤ 3 ∧ Q .non H
theorem c_check_asked (C_check_kind_and_size : Callee P w K mg base CX0 2 "check_kind_and_size" ["kind", "size"] sp_chk) (C_check_count : Callee P w K mg base CX0 1 "check_count" ["count"] sp_ccount)
    (F : FunAt K mg "check_asked" ["kind", "size", "count"] s_check_asked) : Callee P w K mg base CX0 3 "check_asked" ["kind", "size", "count"] sp_asked := by
  refine F.ok sc_check_asked (fun vs H Q E h => ?_) (fun f cdv A outer s H vs Q E hr h => ?_)
  · obtain ⟨k, n, c, rfl, _⟩ := h
    rfl
  · obtain ⟨k, n, c, rfl, hn, h1, h3, q⟩ := h
    have hr_check_kind_and_size := hr
    have hr_check_count := hr.mono (j := 1) (by decide)
    refine ⟨_, (pss_cons (ps_expr (pe_callC C_check_kind_and_size hr_check_kind_and_size rfl (pa_cons (pv 0) (pa_cons (pv 1) pa_nil))))
      (pss_one (ps_expr (pe_callC C_check_count hr_check_count rfl (pa_cons (pv 2) pa_nil))))), ?_⟩
    refine ⟨_, rfl, _, rfl, k, n, rfl, hn, ?_⟩
    exact ⟨_, rfl, c, rfl, h1, h3, q⟩
def sp_cthings : Sp := fun vs H Q _ => ∃ (k : Kd) (n m : Nat), vs = [.str k.str, .int (n : Nat), .int (m : Nat)] ∧ n ≤ k.max ∧ manyN k n ≤ m ∧ Q .non H
theorem c_check_things (C_things : Callee P w K mg base CX0 3 "things" ["kind", "size"] sp_thingsN) (F : FunAt K mg "check_things" ["kind", "size", "most"] s_check_things) : Callee P w K mg base CX0 4 "check_things" ["kind", "size", "most"] sp_cthings := by
  refine F.ok sc_check_things (fun vs H Q E h => ?_) (fun f cdv A outer s H vs Q E hr h => ?_)
  · obtain ⟨k, n, m, rfl, _⟩ := h
    rfl
  · obtain ⟨k, n, m, rfl, hn, hm, q⟩ := h
    have hr_things := hr
    refine ⟨_, (pss_cons (ps_set (i := 3) sc_check_things.nd rfl (Or.inl rfl) (pe_callC C_things hr_things rfl (pa_cons (pv 0) (pa_cons (pv 1) pa_nil))))
      (pss_one (ps_if (pt_cmpR op_gt (pv 3) (pv 2) (nomark _)) pss_never pss_nil))), ?_⟩
    refine ⟨_, rfl, _, rfl, k, n, rfl, hn, ?_⟩
    refine ⟨_, rfl, _, rfl, _, _, rfl, rfl, _, rfl, ?_⟩
    exact ifF (decide_eq_false (by omega)) q

def sp_ended : Sp := fun vs H Q _ => ∃ (k : Kd) (n : Nat), vs = [.str k.str, .int (n : Nat)] ∧ n ≤ k.max ∧ ∀ l H' ls, H l = none → Same H H' → EL H' l ls (endedAt k n) → ls.length = manyN k n → Q (.ref l) H'
theorem filt_at {k : Kd} {n i : Nat} {t : List Int} (h : (triples k n)[i]? = some t) (j : Nat) (hj : t.getD 2 0 = (j : Int)) :
    ((triples k n).take (i + 1)).filter (fun t => decide (t.getD 2 0 = (j : Int))) = ((triples k n).take i).filter (fun t => decide (t.getD 2 0 = (j : Int))) ++ [t] := by
  rw [take_succ_filter _ _ i t h, if_pos (decide_eq_true hj)]
theorem filt_off {k : Kd} {n i : Nat} {t : List Int} (h : (triples k n)[i]? = some t) (j : Nat) (hj : t.getD 2 0 ≠ (j : Int)) :
    ((triples k n).take (i + 1)).filter (fun t => decide (t.getD 2 0 = (j : Int))) = ((triples k n).take i).filter (fun t => decide (t.getD 2 0 = (j : Int))) := by
  rw [take_succ_filter _ _ i t h, if_neg (by rw [decide_eq_false hj]; simp), List.append_nil]
theorem c_ended_triples (T : Txt P w K mg) (C_things : Callee P w K mg base CX0 3 "things" ["kind", "size"] sp_thingsN) (C_triples : Callee P w K mg base CX0 3 "triples" ["kind", "size"] sp_triples)
    (F : FunAt K mg "ended_triples" ["kind", "size"] s_ended_triples) : Callee P w K mg base CX0 4 "ended_triples" ["kind", "size"] sp_ended := by
  refine F.ok sc_ended_triples (fun vs H Q E h => ?_) (fun f cdv A outer s H vs Q E hr h => ?_)
  · obtain ⟨k, n, rfl, _⟩ := h
    rfl
  · obtain ⟨k, n, rfl, hn, q⟩ := h
    have hr_things := hr
    have hr_triples := hr
    have m40 := manyN_le k n hn
    refine ⟨_, (pss_cons (ps_comp (j0 := 2) rfl sc_ended_triples.nd rfl (Or.inl rfl) (CompOk.of (NC := ["thing"]) (i0 := 0) (js := [none]) (defScope s_ended_triples).names ["kind", "size", "ended", "triple"] rfl rfl rfl (by decide +kernel)) (pi_range1 rfl T.n_range (pa_cons (pe_callC C_things hr_things rfl (pa_cons (pv 0) (pa_cons (pv 1) pa_nil))) pa_nil)) (fun _ _ _ _ _ => pifs_nil) (fun _ _ _ _ _ => (pe_lst pa_nil)))
      (pss_cons (ps_for PassesOwn.never rfl (pi_list (pe_callC C_triples hr_triples rfl (pa_cons (pv 0) (pa_cons (pv 1) pa_nil)))) (pg_name (i := 3) sc_ended_triples.nd rfl (Or.inl rfl))
      (pss_one (ps_expr (pe_bm PySem.F.plainAttrs_list PySem.F.slot_list_append PySem.F.type_list_append mt_append (pe_ix ix_list (pv 2) (pe_ix ix_tup (pv 3) pe_int (fun _ _ => rfl)) (fun _ _ => rfl)) (pa_cons (pv 3) pa_nil)))))
      (pss_one (ps_ret (pv 2))))), ?_⟩
    refine ⟨_, rfl, _, rfl, k, n, rfl, hn, (manyN k n : Int), rfl, by omega, by omega, fun acc hacc => comp_range (lo := 0) (n := manyN k n) (fun i H2 => Same H H2 ∧ ∃ ls : List Addr, ls.length = i ∧ H2 acc = some (.lst (ls.map V.ref)) ∧ ls.Nodup ∧ acc ∉ ls ∧ ∀ a ∈ ls, H a = none ∧ H2 a = some (.lst []))
      ⟨Same.here hacc, [], rfl, upd_same, List.nodup_nil, by simp, fun a h => (by cases h)⟩ ?_ ?_⟩
    · rintro i H2 hi ⟨s2, ls, hl, e2, nd, out, all⟩
      refine yesT ?_
      refine ⟨Nat.zero_le _, fun p hp => ⟨ls.map V.ref, by rw [upd_ne (ne_of_none e2 hp)]; exact e2, by rw [List.length_map]; exact small1000 (by omega), cW.nx hi ⟨(s2.upd' hp).upd hacc, ls ++ [p], by rw [List.length_append, hl]; rfl, by rw [upd_same, List.map_append]; rfl, ?_, ?_, ?_⟩⟩⟩
      · rw [List.nodup_append]
        refine ⟨nd, by simp, fun a ha b hb => ?_⟩
        rw [List.mem_singleton.mp hb]
        exact ne_of_none (all a ha).2 hp
      · intro z
        rcases List.mem_append.mp z with z | z
        · exact out z
        · rw [List.mem_singleton.mp z, hp] at e2
          cases e2
      · intro a ha
        rcases List.mem_append.mp ha with ha | ha
        · refine ⟨(all a ha).1, ?_⟩
          rw [upd_ne (fun z => out (by rw [← z]; exact ha)), upd_ne (ne_of_none (all a ha).2 hp)]
          exact (all a ha).2
        · rw [List.mem_singleton.mp ha]
          refine ⟨s2.free hp, ?_⟩
          rw [upd_ne (fun z => by rw [z, e2] at hp; cases hp), upd_same]
    · rintro H2 ⟨s2, ls, hl, e2, nd, out, all⟩
      refine ⟨_, rfl, _, rfl, k, n, rfl, hn, fun lt H3 hlt s3 t3 => ?_⟩
      obtain ⟨refs, er, dr⟩ := t3.ex
      have lr := dr.len
      have few := few_triples' k n hn
      have nlt : ∀ a ∈ ls, lt ≠ a := fun a ha z => by rw [z, (all a ha).2] at hlt; cases hlt
      refine ⟨lt, rfl, ⟨_, SqL.of er⟩, for_list (K := K) (a := lt) (xs := refs) (fun i σ H4 => ∃ v3, σ = [some (.str k.str), some (.int (n : Nat)), some (.ref acc), v3] ∧ Same H H4 ∧ H4 lt = some (.lst refs) ∧ DRels H4 refs ((triples k n).map DV.tup) ∧ EL H4 acc ls (fun j => ((triples k n).take i).filter fun t => decide (t.getD 2 0 = (j : Int))))
        ⟨none, rfl, s2.trans s3, er, dr, ⟨s3 _ _ e2, nd, out, fun j a ha => ⟨[], s3 _ _ (all a (List.mem_of_getElem? ha)).2, .nil⟩⟩⟩ (fun i σ H4 _ ⟨_, _, _, e4, _⟩ => SqL.of e4) ?_ ?_⟩
      · rintro i y σ H4 hy ⟨v3, rfl, s4, e4, d4, E4⟩
        obtain ⟨p, t, rfl, et, hp⟩ := TL.at_ d4 hy
        obtain ⟨a, b, c, rfl, hab, hbc, hc⟩ := triOk_of (triples_ok k n hn t (List.mem_of_getElem? et))
        have hcl : c < ls.length := by omega
        have hj : ls[c]? = some ls[c] := List.getElem?_eq_getElem hcl
        have lm : ls[c] ∈ ls := List.getElem_mem hcl
        obtain ⟨zs, ez, dz⟩ := (E4.tl c _ hj).ex
        have lz : zs.length < sizeLine := by
          rw [dz.len]
          refine small1000 (Nat.le_trans (List.length_filter_le _ _) ?_)
          rw [List.length_take]
          omega
        refine ⟨_, rfl, _, rfl, p, _, 2, _, rfl, rfl, SqT.of hp, rfl, acc, _, _, _, rfl, rfl, SqL.of E4.at_, atI_nat (E4.ref hj), .inl ⟨rfl, zs, SqL.of ez⟩, _, rfl, ls[c], zs, _, rfl, rfl, ez, lz, ?_⟩
        refine ⟨_, rfl, s4.upd (all _ lm).1, by rw [upd_ne (nlt _ lm)]; exact e4, ?_, ?_⟩
        · refine d4.mono fun b xs e => ?_
          rw [upd_ne (fun z => by rw [z, ez] at e; cases e)]
          exact e
        · refine E4.push hj ez dz hp (filt_at et c rfl) fun j hne => filt_off et j fun z => hne ?_
          have z' : (c : Int) = (j : Int) := z
          omega
      · rintro σ H4 ⟨v3, rfl, s4, e4, d4, E4⟩
        refine ⟨_, rfl, q acc H4 ls hacc s4 ?_ (by rw [hl])⟩
        rw [lr] at E4
        simp only [List.take_length] at E4
        exact E4
end
end OH

/-! onehue.free: what stays free, what is one longer. -/
namespace OH
open PySem L2
set_option maxHeartbeats 4000000
section
variable {P : Program} {w : World} {K : PySem.W.Frag} {mg : Str → Option Value} {base : Heap}
/-- a begun dyeing and the triples by their ends -/
structure Beg (H : Hp) (lb le : Addr) (k : Kd) (n : Nat) (b : List Int) : Prop where
  size : n ≤ k.max
  at_ : H lb = some (.lst (b.map V.int))
  ended : ∃ ls, EL H le ls (endedAt k n) ∧ ls.length = manyN k n
theorem Beg.same {H H' : Hp} {lb le : Addr} {k : Kd} {n : Nat} {b : List Int} (B : Beg H lb le k n b) (s : Same H H') : Beg H' lb le k n b := by
  obtain ⟨ls, E, l⟩ := B.ended
  exact ⟨B.size, s _ _ B.at_, ls, E.same s, l⟩
def sp_stays : Sp := fun vs H Q _ => ∃ (lh le : Addr) (k : Kd) (n : Nat) (hs : List Int), vs = [.ref lh, .ref le] ∧ Beg H lh le k n hs ∧ 0 < hs.length ∧ hs.length ≤ manyN k n ∧ ∀ H', Same H H' → Q (.bl (stays k n hs)) H'
theorem stays_any (k : Kd) (n : Nat) (hs : List Int) : (!(((endedAt k n (hs.length - 1)).map (mono hs)).any id)) = stays k n hs := by
  unfold stays
  rw [List.any_map, Bool.eq_iff_iff]
  simp
theorem c_stays_free (T : Txt P w K mg) (C_is_of_one_hue : Callee P w K mg base CX0 1 "is_of_one_hue" ["triple", "hues"] sp_isone) (F : FunAt K mg "stays_free" ["hues", "ended"] s_stays_free) : Callee P w K mg base CX0 2 "stays_free" ["hues", "ended"] sp_stays := by
  refine F.ok sc_stays_free (fun vs H Q E h => ?_) (fun f cdv A outer s H vs Q E hr h => ?_)
  · obtain ⟨lh, le, k, n, hs, rfl, _⟩ := h
    rfl
  · obtain ⟨lh, le, k, n, hs, rfl, B, h0, h1, q⟩ := h
    obtain ⟨ls, EE, ll⟩ := B.ended
    have hr_is_of_one_hue := hr
    have hj : ls[hs.length - 1]? = some (ls[hs.length - 1]'(by omega)) := List.getElem?_eq_getElem (by omega)
    obtain ⟨zs, ez, dz⟩ := (EE.tl _ _ hj).ex
    have lz := dz.len
    have few := few_triples' k n B.size
    have few' : (endedAt k n (hs.length - 1)).length ≤ 1000 := Nat.le_trans (List.length_filter_le _ _) few
    have hat : atI (ls.map V.ref) (((hs.map V.int).length : Nat) - 1 : Int) = some (.ref (ls[hs.length - 1]'(by omega))) := by
      rw [List.length_map, show ((hs.length : Nat) : Int) - 1 = ((hs.length - 1 : Nat) : Int) by omega]
      exact atI_nat (EE.ref hj)
    refine ⟨_, (pss_one (ps_ret (pe_not (pe_callB (call_anyL rfl) rfl T.n_any (by decide +kernel) (pa_cons (pe_comp rfl (CompOk.of (NC := ["triple", "hues"]) (i0 := 0) (js := [none, some 0]) (defScope s_stays_free).names ["hues", "ended"] rfl rfl rfl (by decide +kernel)) (pi_list (pe_ix ix_list (pv 1) (pe_op op_sub (pe_callB call_len_seq rfl T.n_len (by decide +kernel) (pa_cons (pv 0) pa_nil)) pe_int) (fun _ _ => rfl))) (fun _ _ _ _ _ => pifs_nil) (fun _ _ _ _ _ => (pe_callC C_is_of_one_hue hr_is_of_one_hue rfl (pa_cons (pv 0) (pa_cons (pv 1) pa_nil))))) pa_nil))))), ?_⟩
    refine ⟨_, rfl, _, rfl, lh, _, rfl, .inl (SqL.of B.at_), _, _, rfl, rfl, le, _, _, _, rfl, rfl, SqL.of EE.at_, hat, ?_⟩
    refine ⟨_, rfl, ⟨_, SqL.of ez⟩, fun acc hacc => comp_list (K := K) (xs := zs) (fun i H2 => Same H H2 ∧ H2 acc = some (.lst ((((endedAt k n (hs.length - 1)).take i).map (mono hs)).map V.bl))) ⟨Same.here hacc, upd_same⟩ (fun i H2 ⟨s2, _⟩ => SqL.of (s2 _ _ ez)) ?_ ?_⟩
    · rintro i x H2 hx hi ⟨s2, e2⟩
      obtain ⟨p, t, rfl, et, hp⟩ := TL.at_ dz hx
      have tm := List.mem_filter.mp (List.mem_of_getElem? et)
      obtain ⟨a, b, c, rfl, hab, hbc, hc⟩ := triOk_of (triples_ok k n B.size t tm.1)
      have hc' : (c : Int) = ((hs.length - 1 : Nat) : Int) := of_decide_eq_true tm.2
      refine yesT ?_
      refine ⟨_, rfl, _, rfl, p, lh, a, b, c, hs, rfl, s2 _ _ hp, s2 _ _ B.at_, by omega, by omega, by omega, _, e2, ?_, cW.nx hi ⟨s2.upd hacc, ?_⟩⟩
      · rw [List.length_map, List.length_map, List.length_take]
        exact small1000 (by omega)
      · rw [upd_same, List.take_add_one, et, List.map_append, List.map_append]
        rfl
    · rintro H2 ⟨s2, e2⟩
      rw [lz, List.take_length] at e2
      refine ⟨acc, _, rfl, SqL.of e2, _, rfl, ?_⟩
      rw [stays_any]
      exact q H2 s2

def sp_longer : Sp := fun vs H Q _ => ∃ (lb le : Addr) (k : Kd) (n c : Nat) (b : List Int), vs = [.ref lb, .ref le, .int (c : Nat)] ∧ Beg H lb le k n b ∧ c ≤ 3 ∧ b.length < manyN k n ∧ ∀ l H', H l = none → Same H H' → IL H H' l (longer k n c b) → Q (.ref l) H'
theorem c_one_longer (T : Txt P w K mg) (C_stays_free : Callee P w K mg base CX0 2 "stays_free" ["hues", "ended"] sp_stays) (F : FunAt K mg "one_longer" ["begun", "ended", "count"] s_one_longer) : Callee P w K mg base CX0 3 "one_longer" ["begun", "ended", "count"] sp_longer := by
  refine F.ok sc_one_longer (fun vs H Q E h => ?_) (fun f cdv A outer s H vs Q E hr h => ?_)
  · obtain ⟨lb, le, k, n, c, b, rfl, _⟩ := h
    rfl
  · obtain ⟨lb, le, k, n, c, b, rfl, B, hc, hb, q⟩ := h
    have hr_stays_free := hr
    have m40 := manyN_le k n B.size
    refine ⟨_, (pss_cons (ps_comp (j0 := 3) rfl sc_one_longer.nd rfl (Or.inl rfl) (CompOk.of (NC := ["hue", "begun"]) (i0 := 0) (js := [none, some 0]) (defScope s_one_longer).names ["begun", "ended", "count", "tried"] rfl rfl rfl (by decide +kernel)) (pi_range1 rfl T.n_range (pa_cons (pv 2) pa_nil)) (fun _ _ _ _ _ => pifs_nil) (fun _ _ _ _ _ => (pe_op op_cat (pv 1) (pe_lst (pa_cons (pv 0) pa_nil)))))
      (pss_one (ps_ret (pe_comp rfl (CompOk.of (NC := ["hues", "ended"]) (i0 := 0) (js := [none, some 1]) (defScope s_one_longer).names ["begun", "ended", "count", "tried"] rfl rfl rfl (by decide +kernel)) (pi_list (pv 3)) (fun _ _ _ _ _ => (pifs_one (pt_val (pe_callC C_stays_free hr_stays_free rfl (pa_cons (pv 0) (pa_cons (pv 1) pa_nil)))))) (fun _ _ _ _ _ => (pv 0)))))), ?_⟩
    refine ⟨_, rfl, (c : Int), rfl, by omega, by omega, fun acc hacc => comp_range (lo := 0) (n := c) (fun i H2 => Same H H2 ∧ ∃ refs, H2 acc = some (.lst refs) ∧ Paired (ILa acc H H2) refs ((List.range i).map fun h : Nat => b ++ [(h : Int)])) ⟨Same.here hacc, [], upd_same, .nil⟩ ?_ ?_⟩
    · rintro i H2 hi ⟨s2, refs, e2, r2⟩
      have eb := s2 _ _ B.at_
      refine yesT ?_
      refine ⟨_, rfl, _, rfl, (by show 1 ≤ sizeLine; decide), fun p1 hp1 => ⟨lb, p1, _, _, rfl, rfl, by rw [upd_ne (ne_of_none eb hp1)]; exact eb, upd_same, ?_, fun p2 hp2 => ⟨refs, ?_, ?_, cW.nx hi ⟨((s2.upd' hp1).upd' hp2).upd hacc, refs ++ [.ref p2], upd_same, ?_⟩⟩⟩⟩
      · rw [List.length_map]
        exact Nat.le_of_lt (small1000 (by show b.length + 1 ≤ 1000; omega))
      · have e1 := (Same.here (o := .lst [.int (0 + (i : Int))]) hp1) _ _ e2
        rw [upd_ne (ne_of_none e1 hp2)]
        exact e1
      · have := Paired.length r2
        rw [List.length_map, List.length_range] at this
        exact small1000 (by omega)
      · have sa : Same H2 (upd (upd H2 p1 (.lst [.int (0 + (i : Int))])) p2 (.lst (b.map V.int ++ [.int (0 + (i : Int))]))) := (Same.here hp1).upd' hp2
        have nacc : p2 ≠ acc := fun z => by
          have e1 := (Same.here (o := .lst [.int (0 + (i : Int))]) hp1) _ _ e2
          rw [z, e1] at hp2
          cases hp2
        rw [List.range_succ, List.map_append]
        refine Paired.snoc (Paired.mapP r2 fun v xs ⟨p, e, np, f, h⟩ => ⟨p, e, np, f, by rw [upd_ne np]; exact sa _ _ h⟩) ⟨p2, rfl, nacc, (s2.upd' hp1).free hp2, ?_⟩
        rw [upd_ne nacc, upd_same, show (0 : Int) + (i : Int) = (i : Int) by omega, List.map_append]
        rfl
    · rintro H2 ⟨s2, refs, e2, r2⟩
      have r2' : ILs H H2 refs (tried c b) := ILa.ils r2
      have lr : refs.length = c := by rw [r2'.len, tried, List.length_map, List.length_range]
      refine ⟨_, rfl, acc, rfl, ⟨_, SqL.of e2⟩, fun acc2 hacc2 => comp_list (K := K) (xs := refs) (fun i H3 => Same H2 H3 ∧ ∃ refs3, H3 acc2 = some (.lst refs3) ∧ ILs H H2 refs3 (((tried c b).take i).filter (stays k n))) ⟨Same.here hacc2, [], upd_same, .nil⟩ (fun i H3 ⟨s3, _⟩ => SqL.of (s3 _ _ e2)) ?_ ?_⟩
      · rintro i x H3 hx hi ⟨s3, refs3, e3, r3⟩
        obtain ⟨p, hs, rfl, eh, fp, hp⟩ := r2'.at_ hx
        have hl : hs.length = b.length + 1 := by
          obtain ⟨j, _, rfl⟩ := List.mem_map.mp (List.mem_of_getElem? eh)
          rw [List.length_append]
          rfl
        have step := take_succ_filter (stays k n) (tried c b) i hs eh
        have B3 := B.same (s2.trans s3)
        refine ⟨_, rfl, _, rfl, p, le, k, n, hs, rfl, ⟨B3.size, s3 _ _ hp, B3.ended⟩, by omega, by omega, fun H4 s4 => ⟨_, rfl, ?_⟩⟩
        have s34 := s3.trans s4
        refine ifB (fun e => ?_) (fun e => ?_)
        · rw [e, if_pos rfl] at step
          refine ⟨_, rfl, refs3, s4 _ _ e3, ?_, cW.nx hi ⟨s34.upd hacc2, refs3 ++ [.ref p], upd_same, by rw [step]; exact r3.snoc ⟨p, rfl, fp, hp⟩⟩⟩
          have l3 := r3.len
          have l4 := List.length_filter_le (stays k n) ((tried c b).take i)
          rw [List.length_take] at l4
          exact small1000 (by omega)
        · rw [e, if_neg (by simp), List.append_nil] at step
          exact cW.nx hi ⟨s34, refs3, s4 _ _ e3, by rw [step]; exact r3⟩
      · rintro H3 ⟨s3, refs3, e3, r3⟩
        refine q acc2 H3 (s2.free hacc2) (s2.trans s3) ⟨refs3, e3, ?_⟩
        rw [lr, List.take_of_length_le (by rw [tried, List.length_map, List.length_range]; exact Nat.le_refl _)] at r3
        exact r3.same s3
end
end OH

/-! onehue.free: the two recursions. -/
namespace OH
open PySem L2
set_option maxHeartbeats 4000000
section
variable {P : Program} {w : World} {K : PySem.W.Frag} {mg : Str → Option Value} {base : Heap}
theorem len_eq {b : List Int} {ls : List Addr} {m r : Nat} (hl : ls.length = m) (hb : b.length + r = m) : decide (V.int ((b.map V.int).length : Nat) = V.int ((ls.map V.ref).length : Nat)) = decide (r = 0) := by
  rw [decI, List.length_map, List.length_map, Bool.eq_iff_iff, decide_eq_true_eq, decide_eq_true_eq]
  omega
end
end OH

/-! onehue.free: the recursion for the first one. -/
namespace OH
open PySem L2
set_option maxHeartbeats 4000000
section
variable {P : Program} {w : World} {K : PySem.W.Frag} {mg : Str → Option Value} {base : Heap}
/-- the first one, or None -/
def FirstOk (H H' : Hp) (lb : Addr) (v : V) : Option (List Int) → Prop
  | none => v = .non
  | some x => ∃ p, v = .ref p ∧ H' p = some (.lst (x.map V.int)) ∧ (p = lb ∨ H p = none)
def sp_first (r : Nat) : Sp := fun vs H Q _ => ∃ (lb le : Addr) (k : Kd) (n c : Nat) (b : List Int), vs = [.ref lb, .ref le, .int (c : Nat)] ∧ Beg H lb le k n b ∧ c ≤ 3 ∧ b.length + r = manyN k n ∧
  ∀ v H', Same H H' → FirstOk H H' lb v (fst k n c r b) → Q v H'
def prevFirst : Nat → Sp
  | 0 => spNever
  | r + 1 => sp_first r
theorem c_first_step (T : Txt P w K mg) (r : Nat) (C_one_longer : Callee P w K mg base CX0 3 "one_longer" ["begun", "ended", "count"] sp_longer) (C_first_from : Callee P w K mg base CX0 (3 + r) "first_from" ["begun", "ended", "count"] (prevFirst r))
    (F : FunAt K mg "first_from" ["begun", "ended", "count"] s_first_from) : Callee P w K mg base CX0 (3 + r + 1) "first_from" ["begun", "ended", "count"] (sp_first r) := by
  refine F.ok sc_first_from (fun vs H Q E h => ?_) (fun f cdv A outer s H vs Q E hr h => ?_)
  · obtain ⟨lb, le, k, n, c, b, rfl, _⟩ := h
    rfl
  · obtain ⟨lb, le, k, n, c, b, rfl, B, hc, hb, q⟩ := h
    obtain ⟨ls, EE, ll⟩ := B.ended
    have hr_first_from := hr
    have hr_one_longer := hr.mono (j := 3) (by omega)
    refine ⟨_, (pss_cons (ps_if (pt_cmpR op_eq (pe_callB call_len_seq rfl T.n_len (by decide +kernel) (pa_cons (pv 0) pa_nil)) (pe_callB call_len_seq rfl T.n_len (by decide +kernel) (pa_cons (pv 1) pa_nil)) (nomark _)) (pss_one (ps_ret (pv 0))) pss_nil)
      (pss_cons (ps_for PassesOwn.never rfl (pi_list (pe_callC C_one_longer hr_one_longer rfl (pa_cons (pv 0) (pa_cons (pv 1) (pa_cons (pv 2) pa_nil))))) (pg_name (i := 3) sc_first_from.nd rfl (Or.inl rfl))
      (pss_cons (ps_set (i := 4) sc_first_from.nd rfl (Or.inl rfl) (pe_callC C_first_from hr_first_from rfl (pa_cons (pv 3) (pa_cons (pv 1) (pa_cons (pv 2) pa_nil)))))
      (pss_one (ps_if (pt_cmpR op_notN (pv 4) pe_non (nomark _)) (pss_one (ps_ret (pv 4))) pss_nil))))
      (pss_one (ps_ret pe_non)))), ?_⟩
    refine ⟨_, rfl, lb, _, rfl, .inl (SqL.of B.at_), _, rfl, le, _, rfl, .inl (SqL.of EE.at_), rfl, _, rfl, ?_⟩
    rw [len_eq ll hb]
    cases r with
    | zero => exact ifT (by decide) ⟨_, rfl, q _ H (Same.refl H) ⟨lb, rfl, B.at_, .inl rfl⟩⟩
    | succ r =>
      refine ifF (decide_eq_false (by omega)) ⟨_, rfl, _, rfl, _, rfl, lb, le, k, n, c, b, rfl, B, hc, by omega, fun l H1 hl s1 i1 => ?_⟩
      obtain ⟨refs, er, rr⟩ := i1.ex
      have lr := rr.len
      refine ⟨l, rfl, ⟨_, SqL.of er⟩, for_list (K := K) (a := l) (xs := refs) (fun i σ H2 => ∃ v3 v4, σ = [some (.ref lb), some (.ref le), some (.int (c : Nat)), v3, v4] ∧ Same H1 H2 ∧ ((longer k n c b).take i).findSome? (fst k n c r) = none) ⟨none, none, rfl, Same.refl H1, rfl⟩ (fun i σ H2 _ ⟨_, _, _, s2, _⟩ => SqL.of (s2 _ _ er)) ?_ ?_⟩
      · rintro i y σ H2 hy ⟨v3, v4, rfl, s2, no⟩
        obtain ⟨p, hs, rfl, eh, fp, hp⟩ := rr.at_ hy
        have hlen := longer_len (List.mem_of_getElem? eh)
        have B2 := B.same (s1.trans s2)
        have step : ((longer k n c b).take (i + 1)).findSome? (fst k n c r) = fst k n c r hs := by
          rw [List.take_add_one, eh, List.findSome?_append, no]
          show (List.findSome? (fst k n c r) [hs]) = _
          rw [List.findSome?_cons]
          cases fst k n c r hs <;> rfl
        refine ⟨_, rfl, _, rfl, _, rfl, p, le, k, n, c, hs, rfl, ⟨B2.size, s2 _ _ hp, B2.ended⟩, hc, by omega, fun v H3 s3 fo => ?_⟩
        refine ⟨_, rfl, rfl, _, rfl, ?_⟩
        cases hf : fst k n c r hs with
        | none =>
          rw [hf] at fo step
          cases (show v = .non from fo)
          exact ifF (by decide) ⟨_, _, rfl, s2.trans s3, step⟩
        | some x =>
          rw [hf] at fo step
          obtain ⟨p', rfl, h3, pr⟩ := (show ∃ p', v = .ref p' ∧ H3 p' = some (.lst (x.map V.int)) ∧ (p' = p ∨ H2 p' = none) from fo)
          refine ifT (by simp) ⟨_, rfl, ?_⟩
          have fx : fst k n c (r + 1) b = some x := by
            show (longer k n c b).findSome? (fst k n c r) = some x
            rw [← List.take_append_drop (i + 1) (longer k n c b), List.findSome?_append, step]
            rfl
          refine q _ H3 ((s1.trans s2).trans s3) ?_
          rw [fx]
          refine ⟨p', rfl, h3, .inr ?_⟩
          rcases pr with rfl | pr
          · exact fp
          · exact (s1.trans s2).free pr
      · rintro σ H2 ⟨v3, v4, rfl, s2, no⟩
        rw [lr, List.take_length] at no
        refine q .non H2 (s1.trans s2) ?_
        have fx : fst k n c (r + 1) b = none := no
        rw [fx]
        rfl
theorem c_first_from (T : Txt P w K mg) (C_one_longer : Callee P w K mg base CX0 3 "one_longer" ["begun", "ended", "count"] sp_longer) (F : FunAt K mg "first_from" ["begun", "ended", "count"] s_first_from) :
    ∀ r, Callee P w K mg base CX0 (3 + r + 1) "first_from" ["begun", "ended", "count"] (sp_first r)
  | 0 => c_first_step T 0 C_one_longer (F.never 3) F
  | r + 1 => c_first_step T (r + 1) C_one_longer (c_first_from T C_one_longer F r) F
end
end OH

/-! onehue.free: the first free one. -/
namespace OH
open PySem L2
set_option maxHeartbeats 4000000
section
variable {P : Program} {w : World} {K : PySem.W.Frag} {mg : Str → Option Value} {base : Heap}
def FirstAt (H H' : Hp) (v : V) : Option (List Int) → Prop
  | none => v = .non
  | some x => ∃ p, v = .ref p ∧ H' p = some (.lst (x.map V.int)) ∧ H p = none
def sp_first_free : Sp := fun vs H Q _ => ∃ (k : Kd) (n c : Nat), vs = [.str k.str, .int (n : Nat), .int (c : Nat)] ∧ n ≤ k.max ∧ 1 ≤ c ∧ c ≤ 3 ∧ manyN k n ≤ 15 ∧ ∀ v H', Same H H' → FirstAt H H' v (fst k n c (manyN k n) []) → Q v H'
theorem c_first_free (T : Txt P w K mg) (C_check_asked : Callee P w K mg base CX0 3 "check_asked" ["kind", "size", "count"] sp_asked) (C_check_things : Callee P w K mg base CX0 4 "check_things" ["kind", "size", "most"] sp_cthings)
    (C_ended_triples : Callee P w K mg base CX0 4 "ended_triples" ["kind", "size"] sp_ended) (CF : ∀ r, Callee P w K mg base CX0 (3 + r + 1) "first_from" ["begun", "ended", "count"] (sp_first r))
    (F : FunAt K mg "first_free" ["kind", "size", "count"] s_first_free) : Callee P w K mg base CX0 20 "first_free" ["kind", "size", "count"] sp_first_free := by
  refine F.ok sc_first_free (fun vs H Q E h => ?_) (fun f cdv A outer s H vs Q E hr h => ?_)
  · obtain ⟨k, n, c, rfl, _⟩ := h
    rfl
  · obtain ⟨k, n, c, rfl, hn, c1, c3, hm, q⟩ := h
    have hr_check_asked := hr.mono (j := 3) (by decide)
    have hr_check_things := hr.mono (j := 4) (by decide)
    have hr_ended_triples := hr.mono (j := 4) (by decide)
    have C_first_from := CF (manyN k n)
    have hr_first_from := hr.mono (j := 3 + manyN k n + 1) (by omega)
    refine ⟨_, (pss_cons (ps_expr (pe_callC C_check_asked hr_check_asked rfl (pa_cons (pv 0) (pa_cons (pv 1) (pa_cons (pv 2) pa_nil)))))
      (pss_cons (ps_expr (pe_callC C_check_things hr_check_things rfl (pa_cons (pv 0) (pa_cons (pv 1) (pa_cons (pe_gint rfl T.m_MOST_THINGS) pa_nil)))))
      (pss_one (ps_ret (pe_callC C_first_from hr_first_from rfl (pa_cons (pe_lst pa_nil) (pa_cons (pe_callC C_ended_triples hr_ended_triples rfl (pa_cons (pv 0) (pa_cons (pv 1) pa_nil))) (pa_cons (pv 2) pa_nil)))))))), ?_⟩
    refine ⟨_, rfl, _, rfl, _, rfl, k, n, c, rfl, hn, c1, c3, ?_⟩
    refine ⟨_, rfl, _, rfl, k, n, 15, rfl, hn, hm, ?_⟩
    refine ⟨Nat.zero_le _, fun lb hlb => ⟨_, rfl, _, rfl, k, n, rfl, hn, fun le H1 ls hle s1 EE ll => ⟨_, rfl, lb, le, k, n, c, [], rfl, ⟨hn, s1 _ _ upd_same, ls, EE, ll⟩, c3, by simp, fun v H2 s2 fo => ?_⟩⟩⟩
    refine q v H2 (((Same.here hlb).trans s1).trans s2) ?_
    cases hf : fst k n c (manyN k n) [] with
    | none =>
      rw [hf] at fo
      exact fo
    | some x =>
      rw [hf] at fo
      obtain ⟨p, e, h2, h3⟩ := (show ∃ p, v = .ref p ∧ H2 p = some (.lst (x.map V.int)) ∧ (p = lb ∨ H1 p = none) from fo)
      refine ⟨p, e, h2, ?_⟩
      rcases h3 with rfl | h3
      · exact hlb
      · exact ((Same.here hlb).trans s1).free h3
end
end OH

/-! onehue.free: the recursion that counts. -/
namespace OH
open PySem L2
set_option maxHeartbeats 4000000
section
variable {P : Program} {w : World} {K : PySem.W.Frag} {mg : Str → Option Value} {base : Heap}
def sp_cnt (r : Nat) : Sp := fun vs H Q _ => ∃ (lb le : Addr) (k : Kd) (n c : Nat) (b : List Int), vs = [.ref lb, .ref le, .int (c : Nat)] ∧ Beg H lb le k n b ∧ c ≤ 3 ∧ b.length + r = manyN k n ∧
  ∀ H', Same H H' → Q (.int (cnt k n c r b)) H'
def prevCnt : Nat → Sp
  | 0 => spNever
  | r + 1 => sp_cnt r
theorem c_cnt_step (T : Txt P w K mg) (r : Nat) (C_one_longer : Callee P w K mg base CX0 3 "one_longer" ["begun", "ended", "count"] sp_longer) (C_how_many_from : Callee P w K mg base CX0 (3 + r) "how_many_from" ["begun", "ended", "count"] (prevCnt r))
    (F : FunAt K mg "how_many_from" ["begun", "ended", "count"] s_how_many_from) : Callee P w K mg base CX0 (3 + r + 1) "how_many_from" ["begun", "ended", "count"] (sp_cnt r) := by
  refine F.ok sc_how_many_from (fun vs H Q E h => ?_) (fun f cdv A outer s H vs Q E hr h => ?_)
  · obtain ⟨lb, le, k, n, c, b, rfl, _⟩ := h
    rfl
  · obtain ⟨lb, le, k, n, c, b, rfl, B, hc, hb, q⟩ := h
    obtain ⟨ls, EE, ll⟩ := B.ended
    have hr_how_many_from := hr
    have hr_one_longer := hr.mono (j := 3) (by omega)
    refine ⟨_, (pss_cons (ps_if (pt_cmpR op_eq (pe_callB call_len_seq rfl T.n_len (by decide +kernel) (pa_cons (pv 0) pa_nil)) (pe_callB call_len_seq rfl T.n_len (by decide +kernel) (pa_cons (pv 1) pa_nil)) (nomark _)) (pss_one (ps_ret pe_int)) pss_nil)
      (pss_one (ps_ret (pe_callB (call_sumL rfl) rfl T.n_sum (by decide +kernel) (pa_cons (pe_comp rfl (CompOk.of (NC := ["hues", "ended", "count"]) (i0 := 0) (js := [none, some 1, some 2]) (defScope s_how_many_from).names ["begun", "ended", "count"] rfl rfl rfl (by decide +kernel)) (pi_list (pe_callC C_one_longer hr_one_longer rfl (pa_cons (pv 0) (pa_cons (pv 1) (pa_cons (pv 2) pa_nil))))) (fun _ _ _ _ _ => pifs_nil) (fun _ _ _ _ _ => (pe_callC C_how_many_from hr_how_many_from rfl (pa_cons (pv 0) (pa_cons (pv 1) (pa_cons (pv 2) pa_nil)))))) pa_nil))))), ?_⟩
    refine ⟨_, rfl, lb, _, rfl, .inl (SqL.of B.at_), _, rfl, le, _, rfl, .inl (SqL.of EE.at_), rfl, _, rfl, ?_⟩
    rw [len_eq ll hb]
    cases r with
    | zero => exact ifT (by decide) (q H (Same.refl H))
    | succ r =>
      refine ifF (decide_eq_false (by omega)) ⟨_, rfl, _, rfl, _, rfl, lb, le, k, n, c, b, rfl, B, hc, by omega, fun l H1 hl s1 i1 => ?_⟩
      obtain ⟨refs, er, rr⟩ := i1.ex
      have lr := rr.len
      have few := longer_few k n c b
      refine ⟨l, rfl, ⟨_, SqL.of er⟩, fun acc hacc => comp_list (K := K) (xs := refs) (fun i H2 => Same H1 H2 ∧ H2 acc = some (.lst ((((longer k n c b).take i).map (cnt k n c r)).map V.int))) ⟨Same.here hacc, upd_same⟩ (fun i H2 ⟨s2, _⟩ => SqL.of (s2 _ _ er)) ?_ ?_⟩
      · rintro i x H2 hx hi ⟨s2, e2⟩
        obtain ⟨p, hs, rfl, eh, fp, hp⟩ := rr.at_ hx
        have hlen := longer_len (List.mem_of_getElem? eh)
        have B2 := B.same (s1.trans s2)
        refine yesT ?_
        refine ⟨_, rfl, _, rfl, _, rfl, p, le, k, n, c, hs, rfl, ⟨B2.size, s2 _ _ hp, B2.ended⟩, hc, by omega, fun H3 s3 => ⟨_, s3 _ _ e2, ?_, cW.nx hi ⟨(s2.trans s3).upd hacc, ?_⟩⟩⟩
        · rw [List.length_map, List.length_map, List.length_take]
          exact small1000 (by omega)
        · rw [upd_same, List.take_add_one, eh, List.map_append, List.map_append]
          rfl
      · rintro H2 ⟨s2, e2⟩
        rw [lr, List.take_length] at e2
        exact ⟨acc, _, rfl, SqL.of e2, q H2 (s1.trans s2)⟩
theorem c_how_many_from (T : Txt P w K mg) (C_one_longer : Callee P w K mg base CX0 3 "one_longer" ["begun", "ended", "count"] sp_longer) (F : FunAt K mg "how_many_from" ["begun", "ended", "count"] s_how_many_from) :
    ∀ r, Callee P w K mg base CX0 (3 + r + 1) "how_many_from" ["begun", "ended", "count"] (sp_cnt r)
  | 0 => c_cnt_step T 0 C_one_longer (F.never 3) F
  | r + 1 => c_cnt_step T (r + 1) C_one_longer (c_how_many_from T C_one_longer F r) F
end
end OH

/-! onehue.free: how many free ones. -/
namespace OH
open PySem L2
set_option maxHeartbeats 4000000
section
variable {P : Program} {w : World} {K : PySem.W.Frag} {mg : Str → Option Value} {base : Heap}
def mostC (c : Nat) : Nat := if c = 3 then 8 else 15
def gC : List (Key × V) := [(Sum.inl 1, .int 15), (Sum.inl 2, .int 15), (Sum.inl 3, .int 8)]
theorem gC_at (c : Nat) (h1 : 1 ≤ c) (h3 : c ≤ 3) : valV gC (Sum.inl (c : Int)) = some (.int (mostC c : Nat)) := by
  have h : c = 1 ∨ c = 2 ∨ c = 3 := by omega
  rcases h with rfl | rfl | rfl <;> decide +kernel
end
end OH

/-! A law's helper by its promise: is it another error than the wanted one? -/
namespace OH
open PySem L2
set_option maxHeartbeats 4000000
theorem blsD (H : Hp) (bs : List Bool) : DRels H (bs.map V.bl) (bs.map DV.bl) := by
  induction bs with
  | nil => exact .nil
  | cons b r ih => exact .cons rfl ih
theorem homBB (as bs : List Bool) : ∀ d ∈ as.map DV.bl, ∀ e ∈ bs.map DV.bl, hom d e = true := fun d hd e he => by
  obtain ⟨_, _, rfl⟩ := List.mem_map.mp hd
  obtain ⟨_, _, rfl⟩ := List.mem_map.mp he
  rfl
/-- the marks of the i-th class -/
def marksI (w : Int) : List Bool := (List.range 5).map fun k : Nat => decide ((k : Int) = w)
theorem marks_eq (i : Nat) (hi : i < 5) (w : Int) : decide ((marksI (i : Int)).map DV.bl = (marksI w).map DV.bl) = decide ((i : Int) = w) := by
  by_cases h : (i : Int) = w
  · subst h
    simp
  · rw [decide_eq_false h]
    refine decide_eq_false fun e => h ?_
    have e2 : ((marksI (i : Int)).map DV.bl)[i]? = ((marksI w).map DV.bl)[i]? := by rw [e]
    unfold marksI at e2
    rw [List.map_map, List.map_map, List.getElem?_map, List.getElem?_map, List.getElem?_range hi] at e2
    simpa using e2
section
variable {P : Program} {w : World} {K : PySem.W.Frag} {mg : Str → Option Value} {base : Heap}
def sp_other (K : PySem.W.Frag) (e : Nat → Addr) : SpH := fun ea vs H Q _ => ∃ (i : Nat) (w : Int), vs = [.ref ea, .int w] ∧ i < 5 ∧ Caught K H ea (e i) ∧ ∀ H', Same H H' → Q (.bl (!decide ((i : Int) = w))) H'
theorem c__law_other {e : Nat → Addr} {hue : Addr} (T : Txt P w K mg) (EE : Errs K mg e hue) (F : FunAt K mg "_law_other" ["e", "wanted"] s__law_other) : CalleeH P w K mg base 1 "_law_other" ["e", "wanted"] (sp_other K e) := by
  refine F.okH sc__law_other (fun ea vs H Q E h => ?_) (fun f cdv ea A outer s H vs Q hr h => ?_)
  · obtain ⟨i, w, rfl, _⟩ := h
    rfl
  · obtain ⟨i, w, rfl, hi, cg, q⟩ := h
    have hu := hr.hu
    have m_NoKind := EE.m0
    have m_NoSize := EE.m1
    have m_NoHues := EE.m2
    have m_NoDyeing := EE.m3
    have m_TooMuch := EE.m4
    refine ⟨_, (pss_cons (ps_set (i := 2) sc__law_other.nd rfl (Or.inl rfl) (pe_lst (pa_cons (pe_callB call_isE rfl T.n_isinstance (by decide +kernel) (pa_cons (pv 0) (pa_cons (pe_gref rfl m_NoKind) pa_nil))) (pa_cons (pe_callB call_isE rfl T.n_isinstance (by decide +kernel) (pa_cons (pv 0) (pa_cons (pe_gref rfl m_NoSize) pa_nil))) (pa_cons (pe_callB call_isE rfl T.n_isinstance (by decide +kernel) (pa_cons (pv 0) (pa_cons (pe_gref rfl m_NoHues) pa_nil))) (pa_cons (pe_callB call_isE rfl T.n_isinstance (by decide +kernel) (pa_cons (pv 0) (pa_cons (pe_gref rfl m_NoDyeing) pa_nil))) pa_nil))))))
      (pss_cons (ps_expr (pe_bm PySem.F.plainAttrs_list PySem.F.slot_list_append PySem.F.type_list_append mt_append (pv 2) (pa_cons (pe_callB call_isE rfl T.n_isinstance (by decide +kernel) (pa_cons (pv 0) (pa_cons (pe_gref rfl m_TooMuch) pa_nil))) pa_nil)))
      (pss_one (ps_ret (pe_or (pe_cmpR (op_neL hu) (pv 2) (pe_compH hr.hd (CompOk.of (NC := ["k", "wanted"]) (i0 := 0) (js := [none, some 1]) (defScope s__law_other).names ["e", "wanted", "marks"] rfl rfl rfl (by decide +kernel)) (pi_rangeH ea rfl T.n_range (pa_cons pe_int pa_nil)) (fun _ _ _ _ _ => pifs_nil) (fun _ _ _ _ _ => (pe_cmpR op_eq (pv 0) (pv 1) (nomark _)))) (nomark _)) (pe_one (pe_not (pe_callB call_isE rfl T.n_isinstance (by decide +kernel) (pa_cons (pv 0) (pa_cons (pe_bty (n := "ValueError") rfl T.n_ValueError (by decide +kernel)) pa_nil)))))))))), ?_⟩
    refine ⟨_, rfl, ea, e i, e 0, _, .inl ⟨rfl, EE.k i 0 hi (by decide)⟩, cg, ?_⟩
    refine ⟨_, rfl, ea, e i, e 1, _, .inl ⟨rfl, EE.k i 1 hi (by decide)⟩, cg, ?_⟩
    refine ⟨_, rfl, ea, e i, e 2, _, .inl ⟨rfl, EE.k i 2 hi (by decide)⟩, cg, ?_⟩
    refine ⟨_, rfl, ea, e i, e 3, _, .inl ⟨rfl, EE.k i 3 hi (by decide)⟩, cg, ?_⟩
    refine ⟨small1000 (Nat.le_of_ble_eq_true rfl) |> Nat.le_of_lt, fun l hl => ?_⟩
    have s1 : Same H (upd H l (.lst [.bl (decide (i = 0)), .bl (decide (i = 1)), .bl (decide (i = 2)), .bl (decide (i = 3))])) := Same.here hl
    refine ⟨_, rfl, .inl ⟨rfl, _, SqL.of upd_same⟩, _, rfl, ea, e i, e 4, _, .inl ⟨rfl, EE.k i 4 hi (by decide)⟩, cg.same s1, l, _, _, rfl, rfl, upd_same, small1000 (Nat.le_of_ble_eq_true rfl), ?_⟩
    have em : ([.bl (decide (i = 0)), .bl (decide (i = 1)), .bl (decide (i = 2)), .bl (decide (i = 3))] ++ [V.bl (decide (i = 4))] : List V) = (marksI (i : Int)).map V.bl := by
      have z : ∀ a b : Nat, decide (a = b) = decide ((b : Int) = (a : Int)) := fun a b => by
        by_cases h : a = b
        · subst h; simp
        · rw [decide_eq_false h, decide_eq_false (by omega)]
      rw [z i 0, z i 1, z i 2, z i 3, z i 4]
      rfl
    have s2 := s1.upd (o := .lst ([.bl (decide (i = 0)), .bl (decide (i = 1)), .bl (decide (i = 2)), .bl (decide (i = 3))] ++ [V.bl (decide (i = 4))])) hl
    generalize hH2 : upd (upd H l (.lst [.bl (decide (i = 0)), .bl (decide (i = 1)), .bl (decide (i = 2)), .bl (decide (i = 3))])) l (.lst ([.bl (decide (i = 0)), .bl (decide (i = 1)), .bl (decide (i = 2)), .bl (decide (i = 3))] ++ [V.bl (decide (i = 4))])) = H2 at s2 ⊢
    have e2 : H2 l = some (.lst ((marksI (i : Int)).map V.bl)) := by rw [← hH2, upd_same, em]
    have cg2 := cg.same s2
    refine ⟨_, rfl, 5, rfl, by decide, by decide, fun acc hacc => comp_rangeH (K := K) (ea := ea) (lo := 0) (n := 5) (fun k H3 => Same H2 H3 ∧ H3 acc = some (.lst (((List.range k).map fun k : Nat => decide ((k : Int) = w)).map V.bl)))
      (fun H3 ⟨s3, _⟩ => ⟨_, cg2.same s3⟩) ⟨Same.here hacc, upd_same⟩ ?_ ?_⟩
    · rintro k H3 hk ⟨s3, e3⟩
      refine yesT ?_
      refine ⟨_, rfl, _, rfl, rfl, _, e3, ?_, cW.nx hk ⟨s3.upd hacc, ?_⟩⟩
      · rw [List.length_map, List.length_map, List.length_range]
        exact small1000 (by omega)
      · rw [upd_same, List.range_succ, List.map_append, List.map_append, show (0 : Int) + (k : Int) = (k : Int) by omega, decI]
        rfl
    rintro H3 ⟨s3, e3⟩
    refine ⟨l, acc, _, _, _, _, rfl, rfl, SqL.of (s3 _ _ e2), SqL.of e3, blsD _ _, blsD _ _, homBB _ _, ?_⟩
    have z := marks_eq i hi w
    have z' : decide ((marksI (i : Int)).map DV.bl = ((List.range 5).map fun k : Nat => decide ((k : Int) = w)).map DV.bl) = decide ((i : Int) = w) := z
    have q3 := q H3 (s2.trans s3)
    refine ⟨_, rfl, ?_⟩
    rw [if_pos rfl, z']
    refine ifB (fun h => ?_) (fun h => ?_)
    · rw [h] at q3
      exact q3
    · rw [h] at q3
      exact ⟨_, rfl, ea, e i, ea, true, .inr ⟨_, rfl, EE.v i hi⟩, cg2.same s3, true, rfl, q3⟩
end
end OH

/-! onehue.free: the first sizes, the plain words. -/
namespace OH
open PySem L2
set_option maxHeartbeats 4000000
def mostH : Kd → Nat
  | .pairs => 2
  | .sums => 3
  | .steps => 2
def mH : List (Key × V) := [(.inr "pairs", .int 2), (.inr "sums", .int 3), (.inr "steps", .int 2)]
theorem mH_at (k : Kd) : valV mH (.inr k.str) = some (.int (mostH k : Nat)) := by cases k <;> decide +kernel
theorem mostH_le (k : Kd) : mostH k ≤ 3 := by cases k <;> decide
theorem str_le (k : Kd) : k.str.length ≤ 5 := by cases k <;> decide +kernel
theorem size_ok {k : Kd} {c : Nat} (h1 : 1 ≤ c) (h2 : c ≤ mostH k) : ckSize k c = true ∧ 1 ≤ fsz k c ∧ fsz k c ≤ k.max ∧ ∀ n, n ≤ fsz k c → manyN k n ≤ 15 := by
  have small : ∀ (k : Kd) (m : Nat), (List.range (m + 1)).all (fun n => decide (manyN k n ≤ 15)) = true → ∀ n, n ≤ m → manyN k n ≤ 15 := fun k m z n hn => of_decide_eq_true (List.all_eq_true.mp z n (List.mem_range.mpr (Nat.lt_succ_of_le hn)))
  cases k with
  | pairs =>
    have hc : c = 1 ∨ c = 2 := by have h2' : c ≤ 2 := h2; omega
    rcases hc with rfl | rfl
    · exact ⟨size_p1, by decide, by decide, small .pairs 3 (by decide +kernel)⟩
    · exact ⟨size_p2, by decide, by decide, small .pairs 6 (by decide +kernel)⟩
  | sums =>
    have hc : c = 1 ∨ c = 2 ∨ c = 3 := by have h2' : c ≤ 3 := h2; omega
    rcases hc with rfl | rfl | rfl
    · exact ⟨size_s1, by decide, by decide, small .sums 2 (by decide +kernel)⟩
    · exact ⟨size_s2, by decide, by decide, small .sums 5 (by decide +kernel)⟩
    · exact ⟨size_s3, by decide, by decide, small .sums 14 (by decide +kernel)⟩
  | steps =>
    have hc : c = 1 ∨ c = 2 := by have h2' : c ≤ 2 := h2; omega
    rcases hc with rfl | rfl
    · exact ⟨size_t1, by decide, by decide, small .steps 3 (by decide +kernel)⟩
    · exact ⟨size_t2, by decide, by decide, small .steps 9 (by decide +kernel)⟩
theorem size_some {k : Kd} {c n : Nat} (h : ckSize k c = true) (hn : n < fsz k c) : ∃ x, fst k n c (manyN k n) [] = some x := by
  unfold ckSize at h
  rw [Bool.and_eq_true] at h
  exact Option.isSome_iff_exists.mp (List.all_eq_true.mp h.1 n (List.mem_range.mpr hn))
theorem size_none {k : Kd} {c : Nat} (h : ckSize k c = true) : fst k (fsz k c) c (manyN k (fsz k c)) [] = none := by
  unfold ckSize at h
  rw [Bool.and_eq_true] at h
  exact of_decide_eq_true h.2
end OH

/-! onehue.dyeings: hues exchanged, and what is refused there. -/
namespace OH
open PySem L2
set_option maxHeartbeats 4000000
/-- one hue for another -/
def swp (a b h : Int) : Int := if h = a then b else if h = b then a else h
def okHue (h c : Int) : Bool := decide (0 ≤ h) && decide (h < c)
section
variable {P : Program} {w : World} {K : PySem.W.Frag} {mg : Str → Option Value} {base : Heap} {e : Nat → Addr} {hue : Addr}
def sp_chue (e : Nat → Addr) : Sp := fun vs H Q E => ∃ (h c : Int), vs = [.int h, .int c] ∧ -1000 ≤ h ∧ h ≤ 1000 ∧ -1000 ≤ c ∧ c ≤ 1000 ∧ if okHue h c = true then Q .non H else E (.ref (e 2)) none H
theorem c_check_hue (EE : Errs K mg e hue) (C_is_hue : Callee P w K mg base CX0 1 "is_hue" ["hue", "count"] sp_ishue) (F : FunAt K mg "check_hue" ["hue", "count"] s_check_hue) : Callee P w K mg base (CXR P w) 2 "check_hue" ["hue", "count"] (sp_chue e) := by
  refine F.okX sc_check_hue (fun vs H Q E h => ?_) (fun f cdv A outer s H vs Q E hr h => ?_)
  · obtain ⟨h, c, rfl, _⟩ := h
    rfl
  · obtain ⟨h, c, rfl, h1, h2, c1, c2, q⟩ := h
    have hr_is_hue := hr
    have m_NoHues := EE.m2
    have x_NoHues := (EE.x 2 (by decide)).own
    refine ⟨_, (pss_one (ps_if (pt_not (pt_val (pe_callC C_is_hue hr_is_hue rfl (pa_cons (pv 0) (pa_cons (pv 1) pa_nil))))) (pss_one (ps_raise lxOf rfl rfl m_NoHues x_NoHues (pa_cons (pe_join (pj_cons (pe_fmt (pv 0)) (pj_cons pe_str (pj_cons (pe_fmt (pv 1)) (pj_cons pe_str pj_nil))))) pa_nil))) pss_nil)), ?_⟩
    refine ⟨_, rfl, _, rfl, h, c, rfl, _, rfl, ?_⟩
    show if (!okHue h c) = true then _ else _
    cases hk : okHue h c with
    | true =>
      rw [hk, if_pos rfl] at q
      exact ifF rfl q
    | false =>
      rw [hk, if_neg (by decide)] at q
      refine ifT rfl ?_
      refine jV (b := 0) rfl h1 h2 (Nat.le_refl _) fun n1 b1 => jS 14 b1 fun n2 b2 => jV rfl c1 c2 b2 fun n3 b3 => jS 22 b3 fun n4 b4 => jN b4 fun out => ⟨Nat.le_trans (Nat.le_of_ble_eq_true rfl) thousand, q⟩
def sp_exhue : Sp := fun vs H Q _ => ∃ (h a b : Int), vs = [.int h, .int a, .int b] ∧ Q (.int (swp a b h)) H
theorem c_exchanged_hue (F : FunAt K mg "exchanged_hue" ["hue", "one", "other"] s_exchanged_hue) : Callee P w K mg base CX0 1 "exchanged_hue" ["hue", "one", "other"] sp_exhue := by
  refine F.ok sc_exchanged_hue (fun vs H Q E h => ?_) (fun f cdv A outer s H vs Q E hr h => ?_)
  · obtain ⟨h, a, b, rfl, _⟩ := h
    rfl
  · obtain ⟨h, a, b, rfl, q⟩ := h
    refine ⟨_, (pss_cons (ps_if (pt_cmpR op_eq (pv 0) (pv 1) (nomark _)) (pss_one (ps_ret (pv 2))) pss_nil)
      (pss_cons (ps_if (pt_cmpR op_eq (pv 0) (pv 2) (nomark _)) (pss_one (ps_ret (pv 1))) pss_nil)
      (pss_one (ps_ret (pv 0))))), ?_⟩
    unfold swp at q
    refine ⟨_, rfl, _, rfl, rfl, _, rfl, ifB (fun e1 => ?_) (fun e1 => ?_)⟩
    · rw [decI] at e1
      rw [if_pos (of_decide_eq_true e1)] at q
      exact ⟨_, rfl, q⟩
    · rw [decI] at e1
      rw [if_neg (of_decide_eq_false e1)] at q
      refine ⟨_, rfl, _, rfl, rfl, _, rfl, ifB (fun e2 => ?_) (fun e2 => ?_)⟩
      · rw [decI] at e2
        rw [if_pos (of_decide_eq_true e2)] at q
        exact ⟨_, rfl, q⟩
      · rw [decI] at e2
        rw [if_neg (of_decide_eq_false e2)] at q
        exact ⟨_, rfl, q⟩
end
end OH

/-! What is refused, and as which error: the plain words. -/
namespace OH
open PySem L2
set_option maxHeartbeats 4000000
def kindsL : List PySem.Str := ["pairs", "sums", "steps", "", "pair", "Pairs", "sums ", "step", "stepss", "pairsums"]
def kdS (s : PySem.Str) : Option Kd := if s = ("pairs" : PySem.Str) then some .pairs else if s = ("sums" : PySem.Str) then some .sums else if s = ("steps" : PySem.Str) then some .steps else none
theorem kdS_str (k : Kd) : kdS k.str = some k := by cases k <;> decide +kernel
theorem kdS_some {s : PySem.Str} {k : Kd} (h : kdS s = some k) : s = k.str := by
  unfold kdS at h
  split at h
  · cases h; assumption
  · split at h
    · cases h; assumption
    · split at h
      · cases h; assumption
      · cases h
def ckKind (s : PySem.Str) : Bool := decide (s.length ≤ 20) && decide ((reprText s).length ≤ 20) && decide ((valV gK (.inr s)).isSome = (kdS s).isSome) && decide (inV (.str s) [.str "pairs", .str "sums", .str "steps"] = (kdS s).isSome)
theorem kinds_ok {s : PySem.Str} (h : s ∈ kindsL) : s.length ≤ 20 ∧ (reprText s).length ≤ 20 ∧ (valV gK (.inr s)).isSome = (kdS s).isSome ∧ inV (.str s) [.str "pairs", .str "sums", .str "steps"] = (kdS s).isSome := by
  have z : kindsL.all ckKind = true := by decide +kernel
  have y := List.all_eq_true.mp z s h
  unfold ckKind at y
  simp only [Bool.and_eq_true, decide_eq_true_eq] at y
  exact ⟨y.1.1.1, y.1.1.2, y.1.2, y.2⟩
theorem kind_in (k : Kd) : k.str ∈ kindsL := by cases k <;> decide +kernel
def badN (k : Kd) (n : Int) : Prop := n < 0 ∨ (k.max : Int) < n
instance (k : Kd) (n : Int) : Decidable (badN k n) := inferInstanceAs (Decidable (n < 0 ∨ (k.max : Int) < n))
def badC (c : Int) : Prop := c < 1 ∨ 3 < c
instance (c : Int) : Decidable (badC c) := inferInstanceAs (Decidable (c < 1 ∨ 3 < c))
theorem okN {k : Kd} {n : Int} (h : ¬ badN k n) : ∃ m : Nat, n = (m : Int) ∧ m ≤ k.max := by
  unfold badN at h
  exact ⟨n.toNat, by omega, by omega⟩
theorem okC {c : Int} (h : ¬ badC c) : ∃ d : Nat, c = (d : Int) ∧ 1 ≤ d ∧ d ≤ 3 := by
  unfold badC at h
  exact ⟨c.toNat, by omega, by omega, by omega⟩
theorem notBadN {k : Kd} {m : Nat} (h : m ≤ k.max) : ¬ badN k (m : Int) := by
  unfold badN
  omega
theorem notBadC {d : Nat} (h1 : 1 ≤ d) (h3 : d ≤ 3) : ¬ badC (d : Int) := by
  unfold badC
  omega
def fits (k : Kd) (n c : Int) (hs : List Int) : Bool := decide (hs.length = manyN k n.toNat) && hs.all fun h => okHue h c
def rKS (s : PySem.Str) (n : Int) : Option Nat := match kdS s with
  | none => some 0
  | some k => if badN k n then some 1 else none
def rAsk (s : PySem.Str) (n c : Int) : Option Nat := match kdS s with
  | none => some 0
  | some k => if badN k n then some 1 else if badC c then some 2 else none
def rDye (s : PySem.Str) (n c : Int) (hs : List Int) : Option Nat := match kdS s with
  | none => some 0
  | some k => if badN k n then some 1 else if badC c then some 2 else if fits k n c hs = true then none else some 3
def rEx (s : PySem.Str) (n c : Int) (hs : List Int) (a b : Int) : Option Nat := match kdS s with
  | none => some 0
  | some k => if badN k n then some 1 else if badC c then some 2 else if fits k n c hs = true then (if (okHue a c && okHue b c) = true then none else some 2) else some 3
def rFree (s : PySem.Str) (n c : Int) (lim : Nat) : Option Nat := match kdS s with
  | none => some 0
  | some k => if badN k n then some 1 else if badC c then some 2 else if manyN k n.toNat ≤ lim then none else some 4
def rSize (s : PySem.Str) (c : Int) : Option Nat := match kdS s with
  | none => some 0
  | some k => if badC c then some 2 else if c ≤ (mostH k : Int) then none else some 4
def limC (c : Int) : Nat := if c = 3 then 8 else 15
def rAll (w : Nat) (s : PySem.Str) (n c : Int) (hs : List Int) (a b : Int) : Option Nat := match w with
  | 0 => rKS s n
  | 1 => rKS s n
  | 2 => rDye s n c hs
  | 3 => rDye s n c hs
  | 4 => rEx s n c hs a b
  | 5 => rFree s n c 15
  | 6 => rFree s n c (limC c)
  | _ => rSize s c
/-- refused with the i-th error, or else -/
def Ans (e : Nat → Addr) (r : Option Nat) (E : XK) (H : Hp) (ok : Prop) : Prop := match r with
  | some i => E (.ref (e i)) none H
  | none => ok
theorem Ans.bad {e : Nat → Addr} {r : Option Nat} {E : XK} {H : Hp} {ok : Prop} {i : Nat} (q : Ans e r E H ok) (h : r = some i) : E (.ref (e i)) none H := by
  rw [h] at q
  exact q
theorem Ans.good {e : Nat → Addr} {r : Option Nat} {E : XK} {H : Hp} {ok : Prop} (q : Ans e r E H ok) (h : r = none) : ok := by
  rw [h] at q
  exact q
theorem Ans.of_bad {e : Nat → Addr} {r : Option Nat} {E : XK} {H : Hp} {ok : Prop} {i : Nat} (h : r = some i) (q : E (.ref (e i)) none H) : Ans e r E H ok := by
  rw [h]
  exact q
theorem Ans.of_good {e : Nat → Addr} {r : Option Nat} {E : XK} {H : Hp} {ok : Prop} (h : r = none) (q : ok) : Ans e r E H ok := by
  rw [h]
  exact q
section
variable {s : PySem.Str} {n c a b : Int} {hs : List Int} {k : Kd} {lim : Nat}
theorem rKS_0 (h : kdS s = none) : rKS s n = some 0 := by unfold rKS; rw [h]
theorem rKS_1 (h : badN k n) : rKS k.str n = some 1 := by unfold rKS; rw [kdS_str]; exact if_pos h
theorem rKS_n (h : ¬ badN k n) : rKS k.str n = none := by unfold rKS; rw [kdS_str]; exact if_neg h
theorem rAsk_0 (h : kdS s = none) : rAsk s n c = some 0 := by unfold rAsk; rw [h]
theorem rAsk_1 (h : badN k n) : rAsk k.str n c = some 1 := by unfold rAsk; rw [kdS_str]; exact if_pos h
theorem rAsk_2 (h : ¬ badN k n) (h2 : badC c) : rAsk k.str n c = some 2 := by unfold rAsk; rw [kdS_str]; exact (if_neg h).trans (if_pos h2)
theorem rAsk_n (h : ¬ badN k n) (h2 : ¬ badC c) : rAsk k.str n c = none := by unfold rAsk; rw [kdS_str]; exact (if_neg h).trans (if_neg h2)
theorem rDye_0 (h : kdS s = none) : rDye s n c hs = some 0 := by unfold rDye; rw [h]
theorem rDye_1 (h : badN k n) : rDye k.str n c hs = some 1 := by unfold rDye; rw [kdS_str]; exact if_pos h
theorem rDye_2 (h : ¬ badN k n) (h2 : badC c) : rDye k.str n c hs = some 2 := by unfold rDye; rw [kdS_str]; exact (if_neg h).trans (if_pos h2)
theorem rDye_3 (h : ¬ badN k n) (h2 : ¬ badC c) (h3 : fits k n c hs = false) : rDye k.str n c hs = some 3 := by unfold rDye; rw [kdS_str]; exact (if_neg h).trans ((if_neg h2).trans (if_neg (by rw [h3]; decide)))
theorem rDye_n (h : ¬ badN k n) (h2 : ¬ badC c) (h3 : fits k n c hs = true) : rDye k.str n c hs = none := by unfold rDye; rw [kdS_str]; exact (if_neg h).trans ((if_neg h2).trans (if_pos h3))
theorem rEx_0 (h : kdS s = none) : rEx s n c hs a b = some 0 := by unfold rEx; rw [h]
theorem rEx_1 (h : badN k n) : rEx k.str n c hs a b = some 1 := by unfold rEx; rw [kdS_str]; exact if_pos h
theorem rEx_2 (h : ¬ badN k n) (h2 : badC c) : rEx k.str n c hs a b = some 2 := by unfold rEx; rw [kdS_str]; exact (if_neg h).trans (if_pos h2)
theorem rEx_3 (h : ¬ badN k n) (h2 : ¬ badC c) (h3 : fits k n c hs = false) : rEx k.str n c hs a b = some 3 := by unfold rEx; rw [kdS_str]; exact (if_neg h).trans ((if_neg h2).trans (if_neg (by rw [h3]; decide)))
theorem rEx_h (h : ¬ badN k n) (h2 : ¬ badC c) (h3 : fits k n c hs = true) (h4 : (okHue a c && okHue b c) = false) : rEx k.str n c hs a b = some 2 := by unfold rEx; rw [kdS_str]; exact (if_neg h).trans ((if_neg h2).trans ((if_pos h3).trans (if_neg (by rw [h4]; decide))))
theorem rEx_n (h : ¬ badN k n) (h2 : ¬ badC c) (h3 : fits k n c hs = true) (h4 : (okHue a c && okHue b c) = true) : rEx k.str n c hs a b = none := by unfold rEx; rw [kdS_str]; exact (if_neg h).trans ((if_neg h2).trans ((if_pos h3).trans (if_pos h4)))
theorem rFree_0 (h : kdS s = none) : rFree s n c lim = some 0 := by unfold rFree; rw [h]
theorem rFree_1 (h : badN k n) : rFree k.str n c lim = some 1 := by unfold rFree; rw [kdS_str]; exact if_pos h
theorem rFree_2 (h : ¬ badN k n) (h2 : badC c) : rFree k.str n c lim = some 2 := by unfold rFree; rw [kdS_str]; exact (if_neg h).trans (if_pos h2)
theorem rFree_4 (h : ¬ badN k n) (h2 : ¬ badC c) (h3 : ¬ manyN k n.toNat ≤ lim) : rFree k.str n c lim = some 4 := by unfold rFree; rw [kdS_str]; exact (if_neg h).trans ((if_neg h2).trans (if_neg h3))
theorem rFree_n (h : ¬ badN k n) (h2 : ¬ badC c) (h3 : manyN k n.toNat ≤ lim) : rFree k.str n c lim = none := by unfold rFree; rw [kdS_str]; exact (if_neg h).trans ((if_neg h2).trans (if_pos h3))
theorem rSize_0 (h : kdS s = none) : rSize s c = some 0 := by unfold rSize; rw [h]
theorem rSize_2 (h2 : badC c) : rSize k.str c = some 2 := by unfold rSize; rw [kdS_str]; exact if_pos h2
theorem rSize_4 (h2 : ¬ badC c) (h3 : ¬ c ≤ (mostH k : Int)) : rSize k.str c = some 4 := by unfold rSize; rw [kdS_str]; exact (if_neg h2).trans (if_neg h3)
theorem rSize_n (h2 : ¬ badC c) (h3 : c ≤ (mostH k : Int)) : rSize k.str c = none := by unfold rSize; rw [kdS_str]; exact (if_neg h2).trans (if_pos h3)
theorem rAll_0 {w : Nat} (h : kdS s = none) : rAll w s n c hs a b = some 0 := by
  match w with
  | 0 => exact rKS_0 h
  | 1 => exact rKS_0 h
  | 2 => exact rDye_0 h
  | 3 => exact rDye_0 h
  | 4 => exact rEx_0 h
  | 5 => exact rFree_0 h
  | 6 => exact rFree_0 h
  | _ + 7 => exact rSize_0 h
theorem rAll_1 {w : Nat} (hw : w < 7) (h : badN k n) : rAll w k.str n c hs a b = some 1 := by
  match w, hw with
  | 0, _ => exact rKS_1 h
  | 1, _ => exact rKS_1 h
  | 2, _ => exact rDye_1 h
  | 3, _ => exact rDye_1 h
  | 4, _ => exact rEx_1 h
  | 5, _ => exact rFree_1 h
  | 6, _ => exact rFree_1 h
theorem rAll_2 {w : Nat} (hw : 1 < w) (h : w < 7 → ¬ badN k n) (h2 : badC c) : rAll w k.str n c hs a b = some 2 := by
  match w, hw with
  | 2, _ => exact rDye_2 (h (by decide)) h2
  | 3, _ => exact rDye_2 (h (by decide)) h2
  | 4, _ => exact rEx_2 (h (by decide)) h2
  | 5, _ => exact rFree_2 (h (by decide)) h2
  | 6, _ => exact rFree_2 (h (by decide)) h2
  | _ + 7, _ => exact rSize_2 h2
end
def Lt5 (r : Option Nat) : Prop := ∀ i, r = some i → i < 5
theorem lt5_n : Lt5 none := fun _ h => by cases h
theorem lt5_s {j : Nat} (h : j < 5) : Lt5 (some j) := fun _ e => by cases e; exact h
theorem lt5_if {c : Prop} [Decidable c] {a b : Option Nat} (x : Lt5 a) (y : Lt5 b) : Lt5 (if c then a else b) := by split <;> assumption
section
variable {s : PySem.Str} {n c a b : Int} {hs : List Int} {lim : Nat}
theorem rKS_lt : Lt5 (rKS s n) := by
  unfold rKS
  cases kdS s with
  | none => exact lt5_s (by decide)
  | some k => exact lt5_if (lt5_s (by decide)) lt5_n
theorem rDye_lt : Lt5 (rDye s n c hs) := by
  unfold rDye
  cases kdS s with
  | none => exact lt5_s (by decide)
  | some k => exact lt5_if (lt5_s (by decide)) (lt5_if (lt5_s (by decide)) (lt5_if lt5_n (lt5_s (by decide))))
theorem rEx_lt : Lt5 (rEx s n c hs a b) := by
  unfold rEx
  cases kdS s with
  | none => exact lt5_s (by decide)
  | some k => exact lt5_if (lt5_s (by decide)) (lt5_if (lt5_s (by decide)) (lt5_if (lt5_if lt5_n (lt5_s (by decide))) (lt5_s (by decide))))
theorem rFree_lt : Lt5 (rFree s n c lim) := by
  unfold rFree
  cases kdS s with
  | none => exact lt5_s (by decide)
  | some k => exact lt5_if (lt5_s (by decide)) (lt5_if (lt5_s (by decide)) (lt5_if lt5_n (lt5_s (by decide))))
theorem rSize_lt : Lt5 (rSize s c) := by
  unfold rSize
  cases kdS s with
  | none => exact lt5_s (by decide)
  | some k => exact lt5_if (lt5_s (by decide)) (lt5_if lt5_n (lt5_s (by decide)))
end
theorem rAll_lt {w : Nat} {s : PySem.Str} {n c : Int} {hs : List Int} {a b : Int} {i : Nat} (h : rAll w s n c hs a b = some i) : i < 5 := by
  have z : Lt5 (rAll w s n c hs a b) := by
    match w with
    | 0 => exact rKS_lt
    | 1 => exact rKS_lt
    | 2 => exact rDye_lt
    | 3 => exact rDye_lt
    | 4 => exact rEx_lt
    | 5 => exact rFree_lt
    | 6 => exact rFree_lt
    | _ + 7 => exact rSize_lt
  exact z i h
end OH

/-! The defs that refuse, by their promises: kinds, sizes, counts, dyeings. -/
namespace OH
open PySem L2
set_option maxHeartbeats 4000000
section
variable {P : Program} {w : World} {K : PySem.W.Frag} {mg : Str → Option Value} {base : Heap} {e : Nat → Addr} {hue : Addr}
def rK (s : Str) : Option Nat := if kdS s = none then some 0 else none
theorem rK_0 {s : Str} (h : kdS s = none) : rK s = some 0 := by unfold rK; rw [if_pos h]
theorem rK_n (k : Kd) : rK k.str = none := by unfold rK; rw [kdS_str, if_neg (by simp)]
def sx_kind (e : Nat → Addr) : Sp := fun vs H Q E => ∃ s : Str, vs = [.str s] ∧ s ∈ kindsL ∧ Ans e (rK s) E H (Q .non H)
theorem x_check_kind (T : Txt P w K mg) (EE : Errs K mg e hue) (F : FunAt K mg "check_kind" ["kind"] s_check_kind) : Callee P w K mg base (CXR P w) 1 "check_kind" ["kind"] (sx_kind e) := by
  obtain ⟨aG, m_GREATEST, kG⟩ := T.x_GREATEST
  refine F.okX sc_check_kind (fun vs H Q E h => ?_) (fun f cdv A outer s H vs Q E hr h => ?_)
  · obtain ⟨k, rfl, _⟩ := h
    rfl
  · obtain ⟨t, rfl, ht, q⟩ := h
    have m_NoKind := EE.m0
    have x_NoKind := (EE.x 0 (by decide)).own
    obtain ⟨t1, t2, t3, _⟩ := kinds_ok ht
    refine ⟨_, (pss_one (ps_if (pt_cmp (pc_knotin (pv 0) (pe_gref rfl m_GREATEST))) (pss_one (ps_raise lxOf rfl rfl m_NoKind x_NoKind (pa_cons (pe_join (pj_cons (pe_fmtR (pv 0)) (pj_cons pe_str pj_nil))) pa_nil))) pss_nil)), ?_⟩
    refine ⟨_, rfl, aG, gK, Sum.inr t, rfl, kG, rfl, _, rfl, ?_⟩
    rw [if_pos rfl, t3]
    cases hk : kdS t with
    | none =>
      refine ifT rfl ?_
      exact ⟨_, rfl, t, rfl, Nat.le_trans (by omega) thousand, _, rfl, Nat.le_trans (by omega) thousand, jS (b := 20) 11 (by omega) fun n2 b2 => jN b2 fun out => ⟨Nat.le_trans (Nat.le_of_ble_eq_true rfl) thousand, q.bad (rK_0 hk)⟩⟩
    | some k =>
      have hs := kdS_some hk
      subst hs
      exact ifF rfl (q.good (rK_n k))
def sx_ks (e : Nat → Addr) : Sp := fun vs H Q E => ∃ (s : Str) (n : Int), vs = [.str s, .int n] ∧ s ∈ kindsL ∧ -1000 ≤ n ∧ n ≤ 1000 ∧ Ans e (rKS s n) E H (Q .non H)
theorem x_check_kind_and_size (T : Txt P w K mg) (EE : Errs K mg e hue) (X_check_kind : Callee P w K mg base (CXR P w) 1 "check_kind" ["kind"] (sx_kind e)) (F : FunAt K mg "check_kind_and_size" ["kind", "size"] s_check_kind_and_size) :
    Callee P w K mg base (CXR P w) 2 "check_kind_and_size" ["kind", "size"] (sx_ks e) := by
  obtain ⟨aG, m_GREATEST, kG⟩ := T.x_GREATEST
  refine F.okX sc_check_kind_and_size (fun vs H Q E h => ?_) (fun f cdv A outer s H vs Q E hr h => ?_)
  · obtain ⟨t, n, rfl, _⟩ := h
    rfl
  · obtain ⟨t, n, rfl, ht, n1, n2, q⟩ := h
    have m_NoSize := EE.m1
    have x_NoSize := (EE.x 1 (by decide)).own
    have hr_check_kind := hr
    refine ⟨_, (pss_cons (ps_expr (pe_callX X_check_kind hr_check_kind (pass_xe lxOf) rfl (pa_cons (pv 0) pa_nil)))
      (pss_cons (ps_set (i := 2) sc_check_kind_and_size.nd rfl (Or.inl rfl) (pe_kget (pe_gref rfl m_GREATEST) (pv 0) (fun _ _ => rfl)))
      (pss_one (ps_if (PW.pt (pw_or (pt_cmpR op_lt (pv 1) pe_int (nomark _)) (pw_or1 (pt_cmpR op_gt (pv 1) (pv 2) (nomark _))))) (pss_one (ps_raise lxOf rfl rfl m_NoSize x_NoSize (pa_cons (pe_join (pj_cons (pe_fmt (pv 1)) (pj_cons pe_str (pj_cons (pe_fmt (pv 0)) (pj_cons pe_str (pj_cons (pe_fmt (pv 2)) pj_nil)))))) pa_nil))) pss_nil)))), ?_⟩
    refine ⟨_, rfl, t, rfl, ht, ?_⟩
    cases hk : kdS t with
    | none => exact .of_bad (rK_0 hk) (q.bad (rKS_0 hk))
    | some k =>
      have hs := kdS_some hk
      subst hs
      refine .of_good (rK_n k) ?_
      refine ⟨_, rfl, aG, gK, Sum.inr k.str, _, rfl, kG, rfl, gK_at k, ?_⟩
      have km := k.max_le
      have fail : badN k n → tRaise E (e 1) (tCons (tJoin (tJcons (tFmt (tVar 1)) (tJcons (tC (.str " is no size of ")) (tJcons (tFmt (tVar 0)) (tJcons (tC (.str ", which has those from 0 to ")) (tJcons (tFmt (tVar 2)) tJnil)))))) tNil) { nx := fun _ H' => Q .non H', rt := Q } [some (.str k.str), some (.int n), some (.int (k.max : Nat))] H := fun b =>
        jV (b := 0) rfl n1 n2 (Nat.le_refl _) fun _ b1 => jS 15 b1 fun _ b2 => jT 5 rfl (str_le k) b2 fun _ b3 => jS 28 b3 fun _ b4 => jV rfl (by omega) (by omega) b4 fun _ b5 => jN b5 fun out => ⟨Nat.le_trans (Nat.le_of_ble_eq_true rfl) thousand, q.bad (rKS_1 b)⟩
      refine ⟨_, rfl, _, _, rfl, rfl, _, rfl, ifB (fun h => ?_) (fun h => ?_)⟩
      · exact iteT (fail (.inl (of_decide_eq_true h)))
      · refine ⟨_, rfl, _, rfl, _, _, rfl, rfl, _, rfl, ifB (fun h' => ?_) (fun h' => ?_)⟩
        · exact fail (.inr (by have := of_decide_eq_true h'; omega))
        · refine q.good (rKS_n ?_)
          have h1 := of_decide_eq_false h
          have h2 := of_decide_eq_false h'
          unfold badN
          omega
def sx_things (e : Nat → Addr) : Sp := fun vs H Q E => ∃ (s : Str) (n : Int), vs = [.str s, .int n] ∧ s ∈ kindsL ∧ -1000 ≤ n ∧ n ≤ 1000 ∧ Ans e (rKS s n) E H (∀ v H', Same H H' → Q v H')
theorem x_things (X_check_kind_and_size : Callee P w K mg base (CXR P w) 2 "check_kind_and_size" ["kind", "size"] (sx_ks e)) (F : FunAt K mg "things" ["kind", "size"] s_things) : Callee P w K mg base (CXR P w) 3 "things" ["kind", "size"] (sx_things e) := by
  refine F.okX sc_things (fun vs H Q E h => ?_) (fun f cdv A outer s H vs Q E hr h => ?_)
  · obtain ⟨t, n, rfl, _⟩ := h
    rfl
  · obtain ⟨t, n, rfl, ht, n1, n2, q⟩ := h
    have hr_check_kind_and_size := hr
    refine ⟨_, (pss_cons (ps_expr (pe_callX X_check_kind_and_size hr_check_kind_and_size (pass_xe lxOf) rfl (pa_cons (pv 0) (pa_cons (pv 1) pa_nil))))
      (pss_cons (ps_if (pt_cmpR op_eq (pv 0) pe_str (nomark _)) (pss_one (ps_ret (pe_op op_fdiv (pe_op op_mul (pv 1) (pe_op op_sub (pv 1) pe_int)) pe_int))) pss_nil)
      (pss_one (ps_ret (pv 1))))), ?_⟩
    refine ⟨_, rfl, _, rfl, t, n, rfl, ht, n1, n2, ?_⟩
    cases hr : rKS t n with
    | some i => exact q.bad hr
    | none =>
      have q' := q.good hr
      refine Ans.of_good rfl ⟨_, rfl, rfl, _, rfl, ifB (fun _ => ?_) (fun _ => ?_)⟩
      · exact ⟨_, rfl, _, rfl, _, _, rfl, rfl, _, _, rfl, rfl, .inl ⟨by omega, by omega⟩, _, _, rfl, rfl, ⟨by decide, by decide⟩, q' _ _ (Same.refl H)⟩
      · exact ⟨_, rfl, q' _ _ (Same.refl H)⟩
theorem x_triples (X_check_kind_and_size : Callee P w K mg base (CXR P w) 2 "check_kind_and_size" ["kind", "size"] (sx_ks e)) (C_pair_triples : Callee P w K mg base CX0 2 "pair_triples" ["points"] (spT (· < 10) fun n => ptAll n n))
    (C_sum_triples : Callee P w K mg base CX0 1 "sum_triples" ["size"] (spT (· < 41) fun n => smAll n n)) (C_step_triples : Callee P w K mg base CX0 1 "step_triples" ["size"] (spT (· < 41) fun n => spAll n n))
    (F : FunAt K mg "triples" ["kind", "size"] s_triples) : Callee P w K mg base (CXR P w) 3 "triples" ["kind", "size"] (sx_things e) := by
  refine F.okX sc_triples (fun vs H Q E h => ?_) (fun f cdv A outer s H vs Q E hr h => ?_)
  · obtain ⟨t, n, rfl, _⟩ := h
    rfl
  · obtain ⟨t, n, rfl, ht, n1, n2, q⟩ := h
    have hr_pair_triples := hr
    have hr_check_kind_and_size := hr
    have hr_sum_triples := hr.mono (j := 1) (by decide)
    have hr_step_triples := hr.mono (j := 1) (by decide)
    refine ⟨_, (pss_cons (ps_expr (pe_callX X_check_kind_and_size hr_check_kind_and_size (pass_xe lxOf) rfl (pa_cons (pv 0) (pa_cons (pv 1) pa_nil))))
      (pss_cons (ps_if (pt_cmpR op_eq (pv 0) pe_str (nomark _)) (pss_one (ps_ret (pe_callC C_pair_triples hr_pair_triples rfl (pa_cons (pv 1) pa_nil)))) pss_nil)
      (pss_cons (ps_if (pt_cmpR op_eq (pv 0) pe_str (nomark _)) (pss_one (ps_ret (pe_callC C_sum_triples hr_sum_triples rfl (pa_cons (pv 1) pa_nil)))) pss_nil)
      (pss_one (ps_ret (pe_callC C_step_triples hr_step_triples rfl (pa_cons (pv 1) pa_nil))))))), ?_⟩
    refine ⟨_, rfl, _, rfl, t, n, rfl, ht, n1, n2, ?_⟩
    cases hk : kdS t with
    | none => exact .of_bad (rKS_0 hk) (q.bad (rKS_0 hk))
    | some k =>
      have hs := kdS_some hk
      subst hs
      by_cases b1 : badN k n
      · exact .of_bad (rKS_1 b1) (q.bad (rKS_1 b1))
      · refine .of_good (rKS_n b1) ?_
        have q' := q.good (rKS_n b1)
        obtain ⟨m, rfl, hm⟩ := okN b1
        refine ⟨_, rfl, rfl, _, rfl, ?_⟩
        rw [isPairs]
        cases k with
        | pairs => exact ifT (by decide) ⟨_, rfl, m, rfl, Nat.lt_succ_of_le hm, fun l H' _ s' _ => q' _ _ s'⟩
        | sums =>
          refine ifF (by decide) ⟨_, rfl, rfl, _, rfl, ?_⟩
          rw [isSums]
          exact ifT (by decide) ⟨_, rfl, m, rfl, Nat.lt_succ_of_le hm, fun l H' _ s' _ => q' _ _ s'⟩
        | steps =>
          refine ifF (by decide) ⟨_, rfl, rfl, _, rfl, ?_⟩
          rw [isSums]
          exact ifF (by decide) ⟨_, rfl, m, rfl, Nat.lt_succ_of_le hm, fun l H' _ s' _ => q' _ _ s'⟩
def rCo (c : Int) : Option Nat := if badC c then some 2 else none
def sx_count (e : Nat → Addr) : Sp := fun vs H Q E => ∃ c : Int, vs = [.int c] ∧ -1000 ≤ c ∧ c ≤ 1000 ∧ Ans e (rCo c) E H (Q .non H)
theorem x_check_count (T : Txt P w K mg) (EE : Errs K mg e hue) (F : FunAt K mg "check_count" ["count"] s_check_count) : Callee P w K mg base (CXR P w) 1 "check_count" ["count"] (sx_count e) := by
  refine F.okX sc_check_count (fun vs H Q E h => ?_) (fun f cdv A outer s H vs Q E hr h => ?_)
  · obtain ⟨c, rfl, _⟩ := h
    rfl
  · obtain ⟨c, rfl, c1, c2, q⟩ := h
    have m_NoHues := EE.m2
    have x_NoHues := (EE.x 2 (by decide)).own
    refine ⟨_, (pss_one (ps_if (PW.pt (pw_or (pt_cmpR op_lt (pv 0) pe_int (nomark _)) (pw_or1 (pt_cmpR op_gt (pv 0) (pe_gint rfl T.m_GREATEST_COUNT) (nomark _))))) (pss_one (ps_raise lxOf rfl rfl m_NoHues x_NoHues (pa_cons (pe_join (pj_cons (pe_fmt (pv 0)) (pj_cons pe_str (pj_cons (pe_fmt (pe_gint rfl T.m_GREATEST_COUNT)) pj_nil)))) pa_nil))) pss_nil)), ?_⟩
    have fail : badC c → tRaise E (e 2) (tCons (tJoin (tJcons (tFmt (tVar 0)) (tJcons (tC (.str " is no count of hues, which are 1 to ")) (tJcons (tFmt (tC (.int 3))) tJnil)))) tNil) { nx := fun _ H' => Q .non H', rt := Q } [some (.int c)] H := fun b =>
      jV (b := 0) rfl c1 c2 (Nat.le_refl _) fun _ b1 => jS 37 b1 fun _ b2 => jC (by decide) (by decide) b2 fun _ b5 => jN b5 fun out => ⟨Nat.le_trans (Nat.le_of_ble_eq_true rfl) thousand, q.bad (if_pos b)⟩
    refine ⟨_, rfl, _, _, rfl, rfl, _, rfl, ifB (fun h => ?_) (fun h => ?_)⟩
    · exact iteT (fail (.inl (of_decide_eq_true h)))
    · refine ⟨_, rfl, _, _, rfl, rfl, _, rfl, ifB (fun h' => ?_) (fun h' => ?_)⟩
      · exact fail (.inr (by have := of_decide_eq_true h'; omega))
      · refine q.good (if_neg ?_)
        have h1 := of_decide_eq_false h
        have h2 := of_decide_eq_false h'
        unfold badC
        omega
end
end OH

/-! The defs that refuse, by their promises: dyeings and what is asked of them. -/
namespace OH
open PySem L2
set_option maxHeartbeats 4000000
/-- a list of hues that is handed in, be it a dyeing or not -/
structure HuesAt (H : Hp) (lh : Addr) (hs : List Int) : Prop where
  at_ : H lh = some (.lst (hs.map V.int))
  few : hs.length ≤ 100
  small : ∀ h ∈ hs, -1000 ≤ h ∧ h ≤ 1000
theorem HuesAt.same {H H' : Hp} {lh : Addr} {hs : List Int} (D : HuesAt H lh hs) (s : Same H H') : HuesAt H' lh hs := ⟨s _ _ D.at_, D.few, D.small⟩
theorem okHue_of {h c : Int} (q : okHue h c = true) : 0 ≤ h ∧ h < c := by
  unfold okHue at q
  rw [Bool.and_eq_true] at q
  exact ⟨of_decide_eq_true q.1, of_decide_eq_true q.2⟩
theorem fits_dyed {k : Kd} {n c : Nat} {hs : List Int} (h : fits k (n : Int) (c : Int) hs = true) : Dyed k n c hs := by
  unfold fits at h
  rw [Bool.and_eq_true] at h
  exact ⟨of_decide_eq_true h.1, fun x hx => okHue_of (List.all_eq_true.mp h.2 x hx)⟩
theorem fits_len {k : Kd} {n c : Int} {hs : List Int} (h : hs.length ≠ manyN k n.toNat) : fits k n c hs = false := by
  unfold fits
  rw [decide_eq_false h, Bool.false_and]
theorem fits_hue {k : Kd} {n c : Int} {hs : List Int} {x : Int} (hx : x ∈ hs) (h : okHue x c = false) : fits k n c hs = false := by
  unfold fits
  rw [show (hs.all fun h => okHue h c) = false from by rw [List.all_eq_false]; exact ⟨x, hx, by rw [h]; decide⟩, Bool.and_false]
section
variable {P : Program} {w : World} {K : PySem.W.Frag} {mg : Str → Option Value} {base : Heap} {e : Nat → Addr} {hue : Addr}
def sx_dye (e : Nat → Addr) : Sp := fun vs H Q E => ∃ (s : Str) (n c : Int) (lh : Addr) (hs : List Int), vs = [.str s, .int n, .int c, .ref lh] ∧ s ∈ kindsL ∧ -1000 ≤ n ∧ n ≤ 1000 ∧ -1000 ≤ c ∧ c ≤ 1000 ∧ HuesAt H lh hs ∧ Ans e (rDye s n c hs) E H (Q .non H)
theorem x_check_dyeing (T : Txt P w K mg) (EE : Errs K mg e hue) (X_check_kind_and_size : Callee P w K mg base (CXR P w) 2 "check_kind_and_size" ["kind", "size"] (sx_ks e)) (X_check_count : Callee P w K mg base (CXR P w) 1 "check_count" ["count"] (sx_count e))
    (C_things : Callee P w K mg base CX0 3 "things" ["kind", "size"] sp_thingsN) (C_is_hue : Callee P w K mg base CX0 1 "is_hue" ["hue", "count"] sp_ishue)
    (F : FunAt K mg "check_dyeing" ["kind", "size", "count", "hues"] s_check_dyeing) : Callee P w K mg base (CXR P w) 4 "check_dyeing" ["kind", "size", "count", "hues"] (sx_dye e) := by
  refine F.okX sc_check_dyeing (fun vs H Q E h => ?_) (fun f cdv A outer s H vs Q E hr h => ?_)
  · obtain ⟨t, n, c, lh, hs, rfl, _⟩ := h
    rfl
  · obtain ⟨t, n, c, lh, hs, rfl, ht, n1, n2, c1, c2, D, q⟩ := h
    have hr_things := hr
    have hr_check_kind_and_size := hr.mono (j := 2) (by decide)
    have hr_check_count := hr.mono (j := 1) (by decide)
    have hr_is_hue := hr.mono (j := 1) (by decide)
    have m_NoDyeing := EE.m3
    have x_NoDyeing := (EE.x 3 (by decide)).own
    refine ⟨_, (pss_cons (ps_expr (pe_callX X_check_kind_and_size hr_check_kind_and_size (pass_xe lxOf) rfl (pa_cons (pv 0) (pa_cons (pv 1) pa_nil))))
      (pss_cons (ps_expr (pe_callX X_check_count hr_check_count (pass_xe lxOf) rfl (pa_cons (pv 2) pa_nil)))
      (pss_cons (ps_set (i := 4) sc_check_dyeing.nd rfl (Or.inl rfl) (pe_callC C_things hr_things rfl (pa_cons (pv 0) (pa_cons (pv 1) pa_nil))))
      (pss_cons (ps_set (i := 5) sc_check_dyeing.nd rfl (Or.inl rfl) (pe_callB call_len_seq rfl T.n_len (by decide +kernel) (pa_cons (pv 3) pa_nil)))
      (pss_cons (ps_if (pt_cmpR op_ne (pv 5) (pv 4) (nomark _)) (pss_one (ps_raise lxOf rfl rfl m_NoDyeing x_NoDyeing (pa_cons (pe_join (pj_cons pe_str (pj_cons (pe_fmt (pv 4)) (pj_cons pe_str (pj_cons (pe_fmt (pv 5)) (pj_cons pe_str pj_nil)))))) pa_nil))) pss_nil)
      (pss_one (ps_for lxOf.passes rfl (pi_list (pv 3)) (pg_name (i := 6) sc_check_dyeing.nd rfl (Or.inl rfl))
      (pss_one (ps_if (pt_not (pt_val (pe_callC C_is_hue hr_is_hue rfl (pa_cons (pv 6) (pa_cons (pv 2) pa_nil))))) (pss_one (ps_raise lxOf rfl rfl m_NoDyeing x_NoDyeing (pa_cons (pe_join (pj_cons (pe_fmt (pv 6)) (pj_cons pe_str (pj_cons (pe_fmt (pv 2)) (pj_cons pe_str pj_nil))))) pa_nil))) pss_nil))))))))), ?_⟩
    refine ⟨_, rfl, _, rfl, t, n, rfl, ht, n1, n2, ?_⟩
    cases hk : kdS t with
    | none => exact .of_bad (rKS_0 hk) (q.bad (rDye_0 hk))
    | some k =>
      have hs' := kdS_some hk
      subst hs'
      by_cases b1 : badN k n
      · exact .of_bad (rKS_1 b1) (q.bad (rDye_1 b1))
      refine .of_good (rKS_n b1) ?_
      refine ⟨_, rfl, c, rfl, c1, c2, ?_⟩
      by_cases b2 : badC c
      · exact .of_bad (if_pos b2) (q.bad (rDye_2 b1 b2))
      refine .of_good (if_neg b2) ?_
      obtain ⟨m, rfl, hm⟩ := okN b1
      obtain ⟨d, rfl, d1, d3⟩ := okC b2
      have few := D.few
      have fm := manyN_le k m hm
      refine ⟨_, rfl, _, rfl, k, m, rfl, hm, ?_⟩
      refine ⟨_, rfl, lh, _, rfl, .inl (SqL.of D.at_), ?_⟩
      refine ⟨_, rfl, _, rfl, rfl, _, rfl, ifB (fun h => ?_) (fun h => ?_)⟩
      · rw [decI, List.length_map] at h
        have ne : hs.length ≠ manyN k (m : Int).toNat := by
          rw [Int.toNat_natCast]
          intro z
          rw [z] at h
          simp at h
        exact jS (b := 0) 10 (Nat.le_refl _) fun _ b1' => jV rfl (by omega) (by omega) b1' fun _ b2' => jS 13 b2' fun _ b3 => jV rfl (by rw [List.length_map]; omega) (by rw [List.length_map]; omega) b3 fun _ b4 => jS 15 b4 fun _ b5 => jN b5 fun out =>
          ⟨Nat.le_trans (Nat.le_of_ble_eq_true rfl) thousand, q.bad (rDye_3 b1 b2 (fits_len ne))⟩
      · rw [decI, List.length_map] at h
        have len : hs.length = manyN k m := by
          simp at h
          omega
        refine ⟨_, rfl, lh, rfl, ⟨_, SqL.of D.at_⟩, for_list (K := K) (a := lh) (xs := hs.map V.int) (fun i σ H2 => ∃ v6, σ = [some (.str k.str), some (.int (m : Nat)), some (.int (d : Nat)), some (.ref lh), some (.int (manyN k m : Nat)), some (.int ((hs.map V.int).length : Nat)), v6] ∧ H2 = H ∧ (hs.take i).all (fun h => okHue h (d : Int)) = true)
          ⟨none, rfl, rfl, rfl⟩ (fun i σ H2 _ ⟨_, _, e2, _⟩ => by rw [e2]; exact SqL.of D.at_) ?_ ?_⟩
        · rintro i y σ H2 hi ⟨v6, rfl, rfl, so⟩
          rw [List.getElem?_map] at hi
          obtain ⟨z, hz, rfl⟩ := Option.map_eq_some_iff.mp hi
          have mem := List.mem_of_getElem? hz
          obtain ⟨z1, z2⟩ := D.small z mem
          refine ⟨_, rfl, _, rfl, z, _, rfl, _, rfl, ?_⟩
          show if (!okHue z (d : Int)) = true then _ else _
          cases hz' : okHue z (d : Int) with
          | true =>
            refine ifF rfl ⟨_, rfl, rfl, ?_⟩
            rw [List.take_add_one, hz, List.all_append, so]
            show ([z].all fun h => okHue h (d : Int)) = true
            simp [hz']
          | false =>
            refine ifT rfl ?_
            exact jV (b := 0) rfl z1 z2 (Nat.le_refl _) fun _ b1' => jS 14 b1' fun _ b2' => jV rfl (by omega) (by omega) b2' fun _ b3 => jS 22 b3 fun _ b4 => jN b4 fun out => ⟨Nat.le_trans (Nat.le_of_ble_eq_true rfl) thousand, q.bad (rDye_3 b1 b2 (fits_hue mem hz'))⟩
        · rintro σ H2 ⟨v6, rfl, rfl, so⟩
          rw [List.length_map, List.take_length] at so
          refine q.good (rDye_n b1 b2 ?_)
          unfold fits
          rw [so, Int.toNat_natCast, decide_eq_true len]
          rfl
/-- what a def gives back where it doesn't refuse doesn't matter -/
def sx_hued (e : Nat → Addr) : Sp := fun vs H Q E => ∃ (s : Str) (n c : Int) (lh : Addr) (hs : List Int), vs = [.str s, .int n, .int c, .ref lh] ∧ s ∈ kindsL ∧ -1000 ≤ n ∧ n ≤ 1000 ∧ -1000 ≤ c ∧ c ≤ 1000 ∧ HuesAt H lh hs ∧ Ans e (rDye s n c hs) E H (∀ l H' ts, H l = none → Same H H' → TL H' l ts → Q (.ref l) H')
theorem x_one_hued (X_check_dyeing : Callee P w K mg base (CXR P w) 4 "check_dyeing" ["kind", "size", "count", "hues"] (sx_dye e)) (C_triples : Callee P w K mg base CX0 3 "triples" ["kind", "size"] sp_triples)
    (C_is_of_one_hue : Callee P w K mg base CX0 1 "is_of_one_hue" ["triple", "hues"] sp_isone) (F : FunAt K mg "one_hued" ["kind", "size", "count", "hues"] s_one_hued) :
    Callee P w K mg base (CXR P w) 5 "one_hued" ["kind", "size", "count", "hues"] (sx_hued e) := by
  refine F.okX sc_one_hued (fun vs H Q E h => ?_) (fun f cdv A outer s H vs Q E hr h => ?_)
  · obtain ⟨t, n, c, lh, hs, rfl, _⟩ := h
    rfl
  · obtain ⟨t, n, c, lh, hs, rfl, ht, n1, n2, c1, c2, D0, q⟩ := h
    have hr_check_dyeing := hr
    have hr_triples := hr.mono (j := 3) (by decide)
    have hr_is_of_one_hue := hr.mono (j := 1) (by decide)
    refine ⟨_, (pss_cons (ps_expr (pe_callX X_check_dyeing hr_check_dyeing (pass_xe lxOf) rfl (pa_cons (pv 0) (pa_cons (pv 1) (pa_cons (pv 2) (pa_cons (pv 3) pa_nil))))))
      (pss_one (ps_ret (pe_comp rfl (CompOk.of (NC := ["triple", "hues"]) (i0 := 0) (js := [none, some 3]) (defScope s_one_hued).names ["kind", "size", "count", "hues"] rfl rfl rfl (by decide +kernel)) (pi_list (pe_callC C_triples hr_triples rfl (pa_cons (pv 0) (pa_cons (pv 1) pa_nil)))) (fun _ _ _ _ _ => (pifs_one (pt_val (pe_callC C_is_of_one_hue hr_is_of_one_hue rfl (pa_cons (pv 0) (pa_cons (pv 1) pa_nil)))))) (fun _ _ _ _ _ => (pv 0)))))), ?_⟩
    refine ⟨_, rfl, _, rfl, _, rfl, _, rfl, t, n, c, lh, hs, rfl, ht, n1, n2, c1, c2, D0, ?_⟩
    cases hr' : rDye t n c hs with
    | some i => exact q.bad hr'
    | none =>
      have q' := q.good hr'
      refine Ans.of_good rfl ?_
      obtain ⟨k, m, d, rfl, rfl, rfl, D⟩ : ∃ (k : Kd) (m d : Nat), t = k.str ∧ n = (m : Int) ∧ c = (d : Int) ∧ DyeAt H lh k m d hs := by
        cases hk : kdS t with
        | none => rw [rDye_0 hk] at hr'; cases hr'
        | some k =>
          have hs' := kdS_some hk
          subst hs'
          by_cases b1 : badN k n
          · rw [rDye_1 b1] at hr'; cases hr'
          by_cases b2 : badC c
          · rw [rDye_2 b1 b2] at hr'; cases hr'
          cases hf : fits k n c hs with
          | false => rw [rDye_3 b1 b2 hf] at hr'; cases hr'
          | true =>
            obtain ⟨m, rfl, hm⟩ := okN b1
            obtain ⟨d, rfl, d1, d3⟩ := okC b2
            exact ⟨k, m, d, rfl, rfl, rfl, hm, d1, d3, D0.at_, fits_dyed hf⟩
      refine ⟨_, rfl, _, rfl, k, m, rfl, D.size, fun ls H1 hls s1 t1 => ?_⟩
      obtain ⟨refs, er, dr⟩ := t1.ex
      have lr := dr.len
      have few := few_triples' k m D.size
      have eh := s1 _ _ D.at_
      refine ⟨ls, rfl, ⟨refs, SqL.of er⟩, fun acc hacc => comp_list (K := K) (a := ls) (xs := refs) (fun i H2 => Same H1 H2 ∧ TL H2 acc (((triples k m).take i).filter (mono hs))) ⟨Same.here hacc, TL.new⟩ (fun i H2 ⟨s2, _⟩ => SqL.of (s2 _ _ er)) ?_ ?_⟩
      · rintro i x H2 hx hi ⟨s2, t2⟩
        obtain ⟨p, t, rfl, et, hp⟩ := TL.at_ dr hx
        have hp2 := s2 _ _ hp
        obtain ⟨zs, ez, dz⟩ := t2.ex
        obtain ⟨a, b, c', rfl, hab, hbc, hc⟩ := triOk_of (triples_ok k m D.size t (List.mem_of_getElem? et))
        have hl := D.dyed.len
        have lz : zs.length < sizeLine := by
          rw [dz.len]
          refine small1000 (Nat.le_trans (List.length_filter_le _ _) ?_)
          rw [List.length_take]
          omega
        have step := take_succ_filter (mono hs) (triples k m) i _ et
        refine ⟨_, rfl, _, rfl, p, lh, a, b, c', hs, rfl, hp2, s2 _ _ eh, by omega, by omega, by omega, _, rfl, ?_⟩
        refine ifB (fun e => ?_) (fun e => ?_)
        · rw [e, if_pos rfl] at step
          refine ⟨_, rfl, zs, ez, lz, cW.nx hi ⟨s2.upd hacc, ?_⟩⟩
          rw [step]
          exact TL.add ez dz hp2
        · rw [e, if_neg (by simp), List.append_nil] at step
          exact cW.nx hi ⟨s2, by rw [step]; exact t2⟩
      · rintro H2 ⟨s2, t2⟩
        exact q' acc H2 _ (s1.free hacc) (s1.trans s2) t2
def sx_any4 (e : Nat → Addr) : Sp := fun vs H Q E => ∃ (s : Str) (n c : Int) (lh : Addr) (hs : List Int), vs = [.str s, .int n, .int c, .ref lh] ∧ s ∈ kindsL ∧ -1000 ≤ n ∧ n ≤ 1000 ∧ -1000 ≤ c ∧ c ≤ 1000 ∧ HuesAt H lh hs ∧ Ans e (rDye s n c hs) E H (∀ v H', Same H H' → Q v H')
theorem x_is_free (T : Txt P w K mg) (X_one_hued : Callee P w K mg base (CXR P w) 5 "one_hued" ["kind", "size", "count", "hues"] (sx_hued e)) (F : FunAt K mg "is_free" ["kind", "size", "count", "hues"] s_is_free) :
    Callee P w K mg base (CXR P w) 6 "is_free" ["kind", "size", "count", "hues"] (sx_any4 e) := by
  refine F.okX sc_is_free (fun vs H Q E h => ?_) (fun f cdv A outer s H vs Q E hr h => ?_)
  · obtain ⟨t, n, c, lh, hs, rfl, _⟩ := h
    rfl
  · obtain ⟨t, n, c, lh, hs, rfl, ht, n1, n2, c1, c2, D0, q⟩ := h
    have hr_one_hued := hr
    refine ⟨_, (pss_one (ps_ret (pe_cmpR op_eq (pe_callB call_len_seq rfl T.n_len (by decide +kernel) (pa_cons (pe_callX X_one_hued hr_one_hued (pass_xe lxOf) rfl (pa_cons (pv 0) (pa_cons (pv 1) (pa_cons (pv 2) (pa_cons (pv 3) pa_nil))))) pa_nil)) pe_int (nomark _)))), ?_⟩
    refine ⟨_, rfl, _, rfl, _, rfl, _, rfl, t, n, c, lh, hs, rfl, ht, n1, n2, c1, c2, D0, ?_⟩
    cases hr' : rDye t n c hs with
    | some i => exact q.bad hr'
    | none =>
      refine Ans.of_good rfl fun l H1 ts hl s1 t1 => ?_
      obtain ⟨refs, er, dr⟩ := t1.ex
      exact ⟨l, refs, rfl, .inl (SqL.of er), rfl, q.good hr' _ _ s1⟩
def sx_ex (e : Nat → Addr) : Sp := fun vs H Q E => ∃ (s : Str) (n c : Int) (lh : Addr) (hs : List Int) (a b : Int), vs = [.str s, .int n, .int c, .ref lh, .int a, .int b] ∧ s ∈ kindsL ∧ -1000 ≤ n ∧ n ≤ 1000 ∧ -1000 ≤ c ∧ c ≤ 1000 ∧ HuesAt H lh hs ∧ -1000 ≤ a ∧ a ≤ 1000 ∧ -1000 ≤ b ∧ b ≤ 1000 ∧
  Ans e (rEx s n c hs a b) E H (∀ v H', Same H H' → Q v H')
theorem x_exchanged (X_check_dyeing : Callee P w K mg base (CXR P w) 4 "check_dyeing" ["kind", "size", "count", "hues"] (sx_dye e)) (C_check_hue : Callee P w K mg base (CXR P w) 2 "check_hue" ["hue", "count"] (sp_chue e))
    (C_exchanged_hue : Callee P w K mg base CX0 1 "exchanged_hue" ["hue", "one", "other"] sp_exhue) (F : FunAt K mg "exchanged" ["kind", "size", "count", "hues", "one", "other"] s_exchanged) :
    Callee P w K mg base (CXR P w) 5 "exchanged" ["kind", "size", "count", "hues", "one", "other"] (sx_ex e) := by
  refine F.okX sc_exchanged (fun vs H Q E h => ?_) (fun f cdv A outer s H vs Q E hr h => ?_)
  · obtain ⟨t, n, c, lh, hs, a, b, rfl, _⟩ := h
    rfl
  · obtain ⟨t, n, c, lh, hs, a, b, rfl, ht, n1, n2, c1, c2, D, a1, a2, b1, b2, q⟩ := h
    have hr_check_dyeing := hr
    have hr_check_hue := hr.mono (j := 2) (by decide)
    have hr_exchanged_hue := hr.mono (j := 1) (by decide)
    refine ⟨_, (pss_cons (ps_expr (pe_callX X_check_dyeing hr_check_dyeing (pass_xe lxOf) rfl (pa_cons (pv 0) (pa_cons (pv 1) (pa_cons (pv 2) (pa_cons (pv 3) pa_nil))))))
      (pss_cons (ps_expr (pe_callX C_check_hue hr_check_hue (pass_xe lxOf) rfl (pa_cons (pv 4) (pa_cons (pv 2) pa_nil))))
      (pss_cons (ps_expr (pe_callX C_check_hue hr_check_hue (pass_xe lxOf) rfl (pa_cons (pv 5) (pa_cons (pv 2) pa_nil))))
      (pss_one (ps_ret (pe_comp rfl (CompOk.of (NC := ["hue", "one", "other"]) (i0 := 0) (js := [none, some 4, some 5]) (defScope s_exchanged).names ["kind", "size", "count", "hues", "one", "other"] rfl rfl rfl (by decide +kernel)) (pi_list (pv 3)) (fun _ _ _ _ _ => pifs_nil) (fun _ _ _ _ _ => (pe_callC C_exchanged_hue hr_exchanged_hue rfl (pa_cons (pv 0) (pa_cons (pv 1) (pa_cons (pv 2) pa_nil))))))))))), ?_⟩
    refine ⟨_, rfl, _, rfl, _, rfl, _, rfl, t, n, c, lh, hs, rfl, ht, n1, n2, c1, c2, D, ?_⟩
    cases hk : kdS t with
    | none => exact .of_bad (rDye_0 hk) (q.bad (rEx_0 hk))
    | some k =>
      have hs' := kdS_some hk
      subst hs'
      by_cases d1 : badN k n
      · exact .of_bad (rDye_1 d1) (q.bad (rEx_1 d1))
      by_cases d2 : badC c
      · exact .of_bad (rDye_2 d1 d2) (q.bad (rEx_2 d1 d2))
      cases hf : fits k n c hs with
      | false => exact .of_bad (rDye_3 d1 d2 hf) (q.bad (rEx_3 d1 d2 hf))
      | true =>
        refine .of_good (rDye_n d1 d2 hf) ?_
        refine ⟨_, rfl, _, rfl, a, c, rfl, a1, a2, c1, c2, ?_⟩
        refine ifB (fun ha => ?_) (fun ha => ?_)
        · refine ⟨_, rfl, _, rfl, b, c, rfl, b1, b2, c1, c2, ?_⟩
          refine ifB (fun hb => ?_) (fun hb => ?_)
          · have q' := q.good (rEx_n d1 d2 hf (by rw [ha, hb]; rfl))
            have small := D.few
            refine ⟨_, rfl, lh, rfl, ⟨_, SqL.of D.at_⟩, fun acc hacc => comp_list (K := K) (a := lh) (xs := hs.map V.int) (fun i H2 => Same H H2 ∧ H2 acc = some (.lst (((hs.take i).map (swp a b)).map V.int))) ⟨Same.here hacc, upd_same⟩ (fun i H2 ⟨s2, _⟩ => SqL.of (s2 _ _ D.at_)) ?_ ?_⟩
            · rintro i x H2 hx hi ⟨s2, e2⟩
              rw [List.getElem?_map] at hx
              obtain ⟨z, hz, rfl⟩ := Option.map_eq_some_iff.mp hx
              refine yesT ?_
              refine ⟨_, rfl, _, rfl, _, rfl, z, a, b, rfl, _, e2, ?_, cW.nx hi ⟨s2.upd hacc, ?_⟩⟩
              · rw [List.length_map, List.length_map, List.length_take]
                exact small1000 (by omega)
              · rw [upd_same, List.take_add_one, hz, List.map_append, List.map_append]
                rfl
            · rintro H2 ⟨s2, e2⟩
              exact q' _ H2 s2
          · exact q.bad (rEx_h d1 d2 hf (by rw [hb, Bool.and_false]))
        · exact q.bad (rEx_h d1 d2 hf (by rw [ha, Bool.false_and]))
end
end OH

/-! The defs that refuse, by their promises: free ones and first sizes. -/
namespace OH
open PySem L2
set_option maxHeartbeats 4000000
theorem limC_nat (d : Nat) : limC (d : Int) = mostC d := by
  unfold limC mostC
  by_cases h : d = 3
  · subst h; rfl
  · rw [if_neg h, if_neg (by omega)]
section
variable {P : Program} {w : World} {K : PySem.W.Frag} {mg : Str → Option Value} {base : Heap} {e : Nat → Addr} {hue : Addr}
def sx_ask (e : Nat → Addr) : Sp := fun vs H Q E => ∃ (s : Str) (n c : Int), vs = [.str s, .int n, .int c] ∧ s ∈ kindsL ∧ -1000 ≤ n ∧ n ≤ 1000 ∧ -1000 ≤ c ∧ c ≤ 1000 ∧ Ans e (rAsk s n c) E H (Q .non H)
theorem x_check_asked (X_check_kind_and_size : Callee P w K mg base (CXR P w) 2 "check_kind_and_size" ["kind", "size"] (sx_ks e)) (X_check_count : Callee P w K mg base (CXR P w) 1 "check_count" ["count"] (sx_count e))
    (F : FunAt K mg "check_asked" ["kind", "size", "count"] s_check_asked) : Callee P w K mg base (CXR P w) 3 "check_asked" ["kind", "size", "count"] (sx_ask e) := by
  refine F.okX sc_check_asked (fun vs H Q E h => ?_) (fun f cdv A outer s H vs Q E hr h => ?_)
  · obtain ⟨t, n, c, rfl, _⟩ := h
    rfl
  · obtain ⟨t, n, c, rfl, ht, n1, n2, c1, c2, q⟩ := h
    have hr_check_kind_and_size := hr
    have hr_check_count := hr.mono (j := 1) (by decide)
    refine ⟨_, (pss_cons (ps_expr (pe_callX X_check_kind_and_size hr_check_kind_and_size (pass_xe lxOf) rfl (pa_cons (pv 0) (pa_cons (pv 1) pa_nil))))
      (pss_one (ps_expr (pe_callX X_check_count hr_check_count (pass_xe lxOf) rfl (pa_cons (pv 2) pa_nil))))), ?_⟩
    refine ⟨_, rfl, _, rfl, t, n, rfl, ht, n1, n2, ?_⟩
    cases hk : kdS t with
    | none => exact .of_bad (rKS_0 hk) (q.bad (rAsk_0 hk))
    | some k =>
      have hs' := kdS_some hk
      subst hs'
      by_cases b1 : badN k n
      · exact .of_bad (rKS_1 b1) (q.bad (rAsk_1 b1))
      refine .of_good (rKS_n b1) ?_
      refine ⟨_, rfl, c, rfl, c1, c2, ?_⟩
      by_cases b2 : badC c
      · exact .of_bad (if_pos b2) (q.bad (rAsk_2 b1 b2))
      · exact .of_good (if_neg b2) (q.good (rAsk_n b1 b2))
def sx_lim (e : Nat → Addr) : Sp := fun vs H Q E => ∃ (k : Kd) (n m : Nat), vs = [.str k.str, .int (n : Nat), .int (m : Nat)] ∧ n ≤ k.max ∧ m ≤ 100 ∧ if manyN k n ≤ m then Q .non H else E (.ref (e 4)) none H
theorem x_check_things (EE : Errs K mg e hue) (C_things : Callee P w K mg base CX0 3 "things" ["kind", "size"] sp_thingsN) (F : FunAt K mg "check_things" ["kind", "size", "most"] s_check_things) : Callee P w K mg base (CXR P w) 4 "check_things" ["kind", "size", "most"] (sx_lim e) := by
  refine F.okX sc_check_things (fun vs H Q E h => ?_) (fun f cdv A outer s H vs Q E hr h => ?_)
  · obtain ⟨k, n, m, rfl, _⟩ := h
    rfl
  · obtain ⟨k, n, m, rfl, hn, hm, q⟩ := h
    have hr_things := hr
    have m_TooMuch := EE.m4
    have x_TooMuch := (EE.x 4 (by decide)).own
    have fm := manyN_le k n hn
    refine ⟨_, (pss_cons (ps_set (i := 3) sc_check_things.nd rfl (Or.inl rfl) (pe_callC C_things hr_things rfl (pa_cons (pv 0) (pa_cons (pv 1) pa_nil))))
      (pss_one (ps_if (pt_cmpR op_gt (pv 3) (pv 2) (nomark _)) (pss_one (ps_raise lxOf rfl rfl m_TooMuch x_TooMuch (pa_cons (pe_join (pj_cons pe_str (pj_cons (pe_fmt (pv 3)) (pj_cons pe_str (pj_cons (pe_fmt (pv 2)) pj_nil))))) pa_nil))) pss_nil))), ?_⟩
    refine ⟨_, rfl, _, rfl, k, n, rfl, hn, ?_⟩
    refine ⟨_, rfl, _, rfl, _, _, rfl, rfl, _, rfl, ifB (fun h => ?_) (fun h => ?_)⟩
    · rw [if_neg (by have := of_decide_eq_true h; omega)] at q
      exact jS (b := 0) 10 (Nat.le_refl _) fun _ b1 => jV rfl (by omega) (by omega) b1 fun _ b2 => jS 19 b2 fun _ b3 => jV rfl (by omega) (by omega) b3 fun _ b4 => jN b4 fun out => ⟨Nat.le_trans (Nat.le_of_ble_eq_true rfl) thousand, q⟩
    · rw [if_pos (by have := of_decide_eq_false h; omega)] at q
      exact q
def sx_free (e : Nat → Addr) (lim : Int → Nat) : Sp := fun vs H Q E => ∃ (s : Str) (n c : Int), vs = [.str s, .int n, .int c] ∧ s ∈ kindsL ∧ -1000 ≤ n ∧ n ≤ 1000 ∧ -1000 ≤ c ∧ c ≤ 1000 ∧ Ans e (rFree s n c (lim c)) E H (∀ v H', Same H H' → Q v H')
theorem x_first_free (T : Txt P w K mg) (X_check_asked : Callee P w K mg base (CXR P w) 3 "check_asked" ["kind", "size", "count"] (sx_ask e)) (X_check_things : Callee P w K mg base (CXR P w) 4 "check_things" ["kind", "size", "most"] (sx_lim e))
    (C_ended_triples : Callee P w K mg base CX0 4 "ended_triples" ["kind", "size"] sp_ended) (CF : ∀ r, Callee P w K mg base CX0 (3 + r + 1) "first_from" ["begun", "ended", "count"] (sp_first r))
    (F : FunAt K mg "first_free" ["kind", "size", "count"] s_first_free) : Callee P w K mg base (CXR P w) 20 "first_free" ["kind", "size", "count"] (sx_free e fun _ => 15) := by
  refine F.okX sc_first_free (fun vs H Q E h => ?_) (fun f cdv A outer s H vs Q E hr h => ?_)
  · obtain ⟨t, n, c, rfl, _⟩ := h
    rfl
  · obtain ⟨t, n, c, rfl, ht, n1, n2, c1, c2, q⟩ := h
    have hr_check_asked := hr.mono (j := 3) (by decide)
    have hr_check_things := hr.mono (j := 4) (by decide)
    have hr_ended_triples := hr.mono (j := 4) (by decide)
    have C_first_from := CF (min 15 (match kdS t with | some k => manyN k n.toNat | none => 0))
    have hr_first_from := hr.mono (j := 3 + min 15 (match kdS t with | some k => manyN k n.toNat | none => 0) + 1) (by omega)
    refine ⟨_, (pss_cons (ps_expr (pe_callX X_check_asked hr_check_asked (pass_xe lxOf) rfl (pa_cons (pv 0) (pa_cons (pv 1) (pa_cons (pv 2) pa_nil)))))
      (pss_cons (ps_expr (pe_callX X_check_things hr_check_things (pass_xe lxOf) rfl (pa_cons (pv 0) (pa_cons (pv 1) (pa_cons (pe_gint rfl T.m_MOST_THINGS) pa_nil)))))
      (pss_one (ps_ret (pe_callC C_first_from hr_first_from rfl (pa_cons (pe_lst pa_nil) (pa_cons (pe_callC C_ended_triples hr_ended_triples rfl (pa_cons (pv 0) (pa_cons (pv 1) pa_nil))) (pa_cons (pv 2) pa_nil)))))))), ?_⟩
    refine ⟨_, rfl, _, rfl, _, rfl, t, n, c, rfl, ht, n1, n2, c1, c2, ?_⟩
    cases hk : kdS t with
    | none => exact .of_bad (rAsk_0 hk) (q.bad (rFree_0 hk))
    | some k =>
      have hs' := kdS_some hk
      subst hs'
      by_cases b1 : badN k n
      · exact .of_bad (rAsk_1 b1) (q.bad (rFree_1 b1))
      by_cases b2 : badC c
      · exact .of_bad (rAsk_2 b1 b2) (q.bad (rFree_2 b1 b2))
      refine .of_good (rAsk_n b1 b2) ?_
      obtain ⟨m, rfl, hm⟩ := okN b1
      obtain ⟨d, rfl, d1, d3⟩ := okC b2
      refine ⟨_, rfl, _, rfl, k, m, 15, rfl, hm, by decide, ?_⟩
      by_cases b4 : manyN k m ≤ 15
      · rw [if_pos b4]
        have q' := q.good (rFree_n b1 b2 (by rw [Int.toNat_natCast]; exact b4))
        refine ⟨Nat.zero_le _, fun lb hlb => ⟨_, rfl, _, rfl, k, m, rfl, hm, fun le H1 ls hle s1 EL ll => ⟨_, rfl, lb, le, k, m, d, [], rfl, ⟨hm, s1 _ _ upd_same, ls, EL, ll⟩, d3, ?_, fun v H2 s2 fo => ?_⟩⟩⟩
        · rw [Int.toNat_natCast]
          simp
          omega
        · exact q' v H2 (((Same.here hlb).trans s1).trans s2)
      · rw [if_neg b4]
        exact q.bad (rFree_4 b1 b2 (by rw [Int.toNat_natCast]; exact b4))
theorem x_how_many (T : Txt P w K mg) (X_check_asked : Callee P w K mg base (CXR P w) 3 "check_asked" ["kind", "size", "count"] (sx_ask e)) (X_check_things : Callee P w K mg base (CXR P w) 4 "check_things" ["kind", "size", "most"] (sx_lim e))
    (C_ended_triples : Callee P w K mg base CX0 4 "ended_triples" ["kind", "size"] sp_ended) (CF : ∀ r, Callee P w K mg base CX0 (3 + r + 1) "how_many_from" ["begun", "ended", "count"] (sp_cnt r))
    (F : FunAt K mg "how_many" ["kind", "size", "count"] s_how_many) : Callee P w K mg base (CXR P w) 20 "how_many" ["kind", "size", "count"] (sx_free e limC) := by
  obtain ⟨aC, m_MOST_THINGS_COUNTED, kC⟩ := T.x_MOST_THINGS_COUNTED
  refine F.okX sc_how_many (fun vs H Q E h => ?_) (fun f cdv A outer s H vs Q E hr h => ?_)
  · obtain ⟨t, n, c, rfl, _⟩ := h
    rfl
  · obtain ⟨t, n, c, rfl, ht, n1, n2, c1, c2, q⟩ := h
    have hr_check_asked := hr.mono (j := 3) (by decide)
    have hr_check_things := hr.mono (j := 4) (by decide)
    have hr_ended_triples := hr.mono (j := 4) (by decide)
    have C_how_many_from := CF (min 15 (match kdS t with | some k => manyN k n.toNat | none => 0))
    have hr_how_many_from := hr.mono (j := 3 + min 15 (match kdS t with | some k => manyN k n.toNat | none => 0) + 1) (by omega)
    refine ⟨_, (pss_cons (ps_expr (pe_callX X_check_asked hr_check_asked (pass_xe lxOf) rfl (pa_cons (pv 0) (pa_cons (pv 1) (pa_cons (pv 2) pa_nil)))))
      (pss_cons (ps_expr (pe_callX X_check_things hr_check_things (pass_xe lxOf) rfl (pa_cons (pv 0) (pa_cons (pv 1) (pa_cons (pe_kget (pe_gref rfl m_MOST_THINGS_COUNTED) (pv 2) (fun _ _ => rfl)) pa_nil)))))
      (pss_one (ps_ret (pe_callC C_how_many_from hr_how_many_from rfl (pa_cons (pe_lst pa_nil) (pa_cons (pe_callC C_ended_triples hr_ended_triples rfl (pa_cons (pv 0) (pa_cons (pv 1) pa_nil))) (pa_cons (pv 2) pa_nil)))))))), ?_⟩
    refine ⟨_, rfl, _, rfl, _, rfl, t, n, c, rfl, ht, n1, n2, c1, c2, ?_⟩
    cases hk : kdS t with
    | none => exact .of_bad (rAsk_0 hk) (q.bad (rFree_0 hk))
    | some k =>
      have hs' := kdS_some hk
      subst hs'
      by_cases b1 : badN k n
      · exact .of_bad (rAsk_1 b1) (q.bad (rFree_1 b1))
      by_cases b2 : badC c
      · exact .of_bad (rAsk_2 b1 b2) (q.bad (rFree_2 b1 b2))
      refine .of_good (rAsk_n b1 b2) ?_
      obtain ⟨m, rfl, hm⟩ := okN b1
      obtain ⟨d, rfl, d1, d3⟩ := okC b2
      have l15 : mostC d ≤ 15 := by unfold mostC; split <;> omega
      refine ⟨_, rfl, _, rfl, _, rfl, aC, gC, Sum.inl (d : Int), _, rfl, kC, rfl, gC_at d d1 d3, k, m, mostC d, rfl, hm, by omega, ?_⟩
      by_cases b4 : manyN k m ≤ mostC d
      · rw [if_pos b4]
        have q' := q.good (rFree_n b1 b2 (by rw [Int.toNat_natCast, limC_nat]; exact b4))
        refine ⟨Nat.zero_le _, fun lb hlb => ⟨_, rfl, _, rfl, k, m, rfl, hm, fun le H1 ls hle s1 EL ll => ⟨_, rfl, lb, le, k, m, d, [], rfl, ⟨hm, s1 _ _ upd_same, ls, EL, ll⟩, d3, ?_, fun H2 s2 => ?_⟩⟩⟩
        · rw [Int.toNat_natCast]
          simp
          omega
        · exact q' _ H2 (((Same.here hlb).trans s1).trans s2)
      · rw [if_neg b4]
        exact q.bad (rFree_4 b1 b2 (by rw [Int.toNat_natCast, limC_nat]; exact b4))
def sx_size (e : Nat → Addr) : Sp := fun vs H Q E => ∃ (s : Str) (c : Int), vs = [.str s, .int c] ∧ s ∈ kindsL ∧ -1000 ≤ c ∧ c ≤ 1000 ∧ Ans e (rSize s c) E H (∀ v H', Same H H' → Q v H')
theorem x_first_size (T : Txt P w K mg) (EE : Errs K mg e hue) (X_check_kind : Callee P w K mg base (CXR P w) 1 "check_kind" ["kind"] (sx_kind e)) (X_check_count : Callee P w K mg base (CXR P w) 1 "check_count" ["count"] (sx_count e))
    (C_first_free : Callee P w K mg base CX0 20 "first_free" ["kind", "size", "count"] sp_first_free) (F : FunAt K mg "first_size" ["kind", "count"] s_first_size) : Callee P w K mg base (CXR P w) 21 "first_size" ["kind", "count"] (sx_size e) := by
  obtain ⟨aM, m_MOST_HUES, kM⟩ := T.x_MOST_HUES
  refine F.okX sc_first_size (fun vs H Q E h => ?_) (fun f cdv A outer s H vs Q E hr h => ?_)
  · obtain ⟨t, c, rfl, _⟩ := h
    rfl
  · obtain ⟨t, c', rfl, ht, c1', c2', q⟩ := h
    have hr_first_free := hr
    have hr_check_kind := hr.mono (j := 1) (by decide)
    have hr_check_count := hr.mono (j := 1) (by decide)
    have m_TooMuch := EE.m4
    have x_TooMuch := (EE.x 4 (by decide)).own
    refine ⟨_, (pss_cons (ps_expr (pe_callX X_check_kind hr_check_kind (pass_xe lxOf) rfl (pa_cons (pv 0) pa_nil)))
      (pss_cons (ps_expr (pe_callX X_check_count hr_check_count (pass_xe lxOf) rfl (pa_cons (pv 1) pa_nil)))
      (pss_cons (ps_set (i := 2) sc_first_size.nd rfl (Or.inl rfl) (pe_kget (pe_gref rfl m_MOST_HUES) (pv 0) (fun _ _ => rfl)))
      (pss_cons (ps_if (pt_cmpR op_gt (pv 1) (pv 2) (nomark _)) (pss_one (ps_raise lxOf rfl rfl m_TooMuch x_TooMuch (pa_cons (pe_join (pj_cons pe_str (pj_cons (pe_fmt (pv 0)) (pj_cons pe_str (pj_cons (pe_fmt (pv 2)) (pj_cons pe_str (pj_cons (pe_fmt (pv 1)) pj_nil))))))) pa_nil))) pss_nil)
      (pss_cons (ps_set (i := 3) sc_first_size.nd rfl (Or.inl rfl) pe_int)
      (pss_cons (ps_while lxOf.passes (pt_cmpR op_notN (pe_callC C_first_free hr_first_free rfl (pa_cons (pv 0) (pa_cons (pv 3) (pa_cons (pv 1) pa_nil)))) pe_non (nomark _)) (pss_one (ps_aug (i := 3) sc_first_size.nd rfl (Or.inl rfl) pe_int ip_add)))
      (pss_one (ps_ret (pv 3))))))))), ?_⟩
    refine ⟨_, rfl, t, rfl, ht, ?_⟩
    cases hk : kdS t with
    | none => exact .of_bad (rK_0 hk) (q.bad (rSize_0 hk))
    | some k =>
      have hs' := kdS_some hk
      subst hs'
      refine .of_good (rK_n k) ?_
      refine ⟨_, rfl, c', rfl, c1', c2', ?_⟩
      by_cases b2 : badC c'
      · exact .of_bad (if_pos b2) (q.bad (rSize_2 b2))
      refine .of_good (if_neg b2) ?_
      obtain ⟨c, rfl, c1, c3⟩ := okC b2
      have ml := mostH_le k
      refine ⟨_, rfl, aM, mH, Sum.inr k.str, _, rfl, kM, rfl, mH_at k, ?_⟩
      refine ⟨_, rfl, _, rfl, _, _, rfl, rfl, _, rfl, ifB (fun h => ?_) (fun h => ?_)⟩
      · have gt : ¬ (c : Int) ≤ (mostH k : Int) := by have := of_decide_eq_true h; omega
        have q' := q.bad (rSize_4 b2 gt)
        exact jS (b := 0) 18 (Nat.le_refl _) fun n1 b1 => jT 5 rfl (str_le k) b1 fun n2 b2 => jS 30 b2 fun n3 b3 => jV rfl (by omega) (by omega) b3 fun n4 b4 => jS 20 b4 fun n5 b5 => jV rfl (by omega) (by omega) b5 fun n6 b6 => jN b6 fun out => ⟨Nat.le_trans (Nat.le_of_ble_eq_true rfl) thousand, q'⟩
      · have le' : (c : Int) ≤ (mostH k : Int) := by have := of_decide_eq_false h; omega
        have le : c ≤ mostH k := by omega
        have q' := q.good (rSize_n b2 le')
        obtain ⟨ck, f1, fm, fs⟩ := size_ok c1 le
        refine ⟨fun m σ H2 => ∃ n : Nat, n ≤ fsz k c ∧ m = fsz k c - n ∧ σ = [some (.str k.str), some (.int (c : Nat)), some (.int (mostH k : Nat)), some (.int (n : Nat))] ∧ Same H H2, ⟨_, 0, Nat.zero_le _, rfl, rfl, Same.refl H⟩, ?_⟩
        rintro m σ H2 ⟨n, hn, rfl, rfl, s2⟩
        refine ⟨_, rfl, _, rfl, _, rfl, k, n, c, rfl, by omega, c1, c3, fs n hn, fun v H3 s3 fo => ⟨rfl, _, rfl, ?_⟩⟩
        by_cases lt : n < fsz k c
        · obtain ⟨x, hx⟩ := size_some ck lt
          rw [hx] at fo
          obtain ⟨p, rfl, _, _⟩ := (show ∃ p, v = .ref p ∧ H3 p = some (.lst (x.map V.int)) ∧ H2 p = none from fo)
          refine ifT (by simp) ⟨fun σ' H' => σ' = [some (.str k.str), some (.int (c : Nat)), some (.int (mostH k : Nat)), some (.int ((n + 1 : Nat) : Int))] ∧ Same H H', ?_, ?_⟩
          · rintro σ' H' ⟨rfl, s'⟩
            exact ⟨_, by omega, n + 1, lt, rfl, rfl, s'⟩
          · exact ⟨_, rfl, _, _, rfl, rfl, rfl, s2.trans s3⟩
        · have en : n = fsz k c := by omega
          subst en
          rw [size_none ck] at fo
          cases (show v = .non from fo)
          exact ifF (by decide) ⟨_, rfl, q' _ H3 (s2.trans s3)⟩
end
end OH

/-! The law's helpers: one of the defs is called; what it told. -/
namespace OH
open PySem L2
set_option maxHeartbeats 4000000
theorem Ans.mono {e : Nat → Addr} {r : Option Nat} {E : XK} {H : Hp} {ok ok' : Prop} (q : Ans e r E H ok) (h : ok → ok') : Ans e r E H ok' := by
  cases r with
  | none => exact h q
  | some i => exact q
/-- what is asked of which def -/
structure Ask (H : Hp) (s : PySem.Str) (n c : Int) (lh lt : Addr) (hs : List Int) (a b : Int) : Prop where
  kind : s ∈ kindsL
  n1 : -1000 ≤ n
  n2 : n ≤ 1000
  c1 : -1000 ≤ c
  c2 : c ≤ 1000
  hues : HuesAt H lh hs
  two : H lt = some (.lst [.int a, .int b])
  a1 : -1000 ≤ a
  a2 : a ≤ 1000
  b1 : -1000 ≤ b
  b2 : b ≤ 1000
theorem Ask.same {H H' : Hp} {s : PySem.Str} {n c : Int} {lh lt : Addr} {hs : List Int} {a b : Int} (A : Ask H s n c lh lt hs a b) (z : Same H H') : Ask H' s n c lh lt hs a b := ⟨A.kind, A.n1, A.n2, A.c1, A.c2, A.hues.same z, z _ _ A.two, A.a1, A.a2, A.b1, A.b2⟩
section
variable {P : Program} {w : World} {K : PySem.W.Frag} {mg : Str → Option Value} {base : Heap} {e : Nat → Addr} {hue : Addr}
def sx_call (e : Nat → Addr) : Sp := fun vs H Q E => ∃ (w : Nat) (s : Str) (n c : Int) (lh lt : Addr) (hs : List Int) (a b : Int), vs = [.int (w : Nat), .str s, .int n, .int c, .ref lh, .ref lt] ∧ w < 8 ∧ Ask H s n c lh lt hs a b ∧
  Ans e (rAll w s n c hs a b) E H (∀ H', Same H H' → Q .non H')
/-- an if that is passed by, and one that is taken -/
theorem skipI {tc : TT} {t u : TS} {D : Ends} {σ : St} {H : Hp} (h : ∀ k : Bool → Hp → Prop, k false H → tc σ H k) (r : u D σ H) : tSeq (tIfS tc t tNext) u D σ H := h _ (iteF r)
theorem takeI {tc : TT} {t t' u : TS} {D : Ends} {σ : St} {H : Hp} (h : ∀ k : Bool → Hp → Prop, k true H → tc σ H k) (r : t { D with nx := u D } σ H) : tSeq (tIfS tc t t') u D σ H := h _ (iteT r)
theorem x__law_called (X_things : Callee P w K mg base (CXR P w) 3 "things" ["kind", "size"] (sx_things e)) (X_triples : Callee P w K mg base (CXR P w) 3 "triples" ["kind", "size"] (sx_things e))
    (X_one_hued : Callee P w K mg base (CXR P w) 5 "one_hued" ["kind", "size", "count", "hues"] (sx_hued e)) (X_is_free : Callee P w K mg base (CXR P w) 6 "is_free" ["kind", "size", "count", "hues"] (sx_any4 e))
    (X_exchanged : Callee P w K mg base (CXR P w) 5 "exchanged" ["kind", "size", "count", "hues", "one", "other"] (sx_ex e)) (X_first_free : Callee P w K mg base (CXR P w) 20 "first_free" ["kind", "size", "count"] (sx_free e fun _ => 15))
    (X_how_many : Callee P w K mg base (CXR P w) 20 "how_many" ["kind", "size", "count"] (sx_free e limC)) (X_first_size : Callee P w K mg base (CXR P w) 21 "first_size" ["kind", "count"] (sx_size e))
    (F : FunAt K mg "_law_called" ["which", "kind", "size", "count", "hues", "two"] s__law_called) : Callee P w K mg base (CXR P w) 22 "_law_called" ["which", "kind", "size", "count", "hues", "two"] (sx_call e) := by
  refine F.okX sc__law_called (fun vs H Q E h => ?_) (fun f cdv A outer s H vs Q E hr h => ?_)
  · obtain ⟨w, s, n, c, lh, lt, hs, a, b, rfl, _⟩ := h
    rfl
  · obtain ⟨w, s, n, c, lh, lt, hs, a, b, rfl, hw, A, q⟩ := h
    have hr_first_size := hr
    have hr_first_free := hr.mono (j := 20) (by decide)
    have hr_how_many := hr.mono (j := 20) (by decide)
    have hr_is_free := hr.mono (j := 6) (by decide)
    have hr_one_hued := hr.mono (j := 5) (by decide)
    have hr_exchanged := hr.mono (j := 5) (by decide)
    have hr_things := hr.mono (j := 3) (by decide)
    have hr_triples := hr.mono (j := 3) (by decide)
    refine ⟨_, (pss_cons (ps_if (pt_cmpR op_eq (pv 0) pe_int (nomark _)) (pss_one (ps_expr (pe_callX X_things hr_things (pass_xe lxOf) rfl (pa_cons (pv 1) (pa_cons (pv 2) pa_nil))))) pss_nil)
      (pss_cons (ps_if (pt_cmpR op_eq (pv 0) pe_int (nomark _)) (pss_one (ps_expr (pe_callX X_triples hr_triples (pass_xe lxOf) rfl (pa_cons (pv 1) (pa_cons (pv 2) pa_nil))))) pss_nil)
      (pss_cons (ps_if (pt_cmpR op_eq (pv 0) pe_int (nomark _)) (pss_one (ps_expr (pe_callX X_one_hued hr_one_hued (pass_xe lxOf) rfl (pa_cons (pv 1) (pa_cons (pv 2) (pa_cons (pv 3) (pa_cons (pv 4) pa_nil))))))) pss_nil)
      (pss_cons (ps_if (pt_cmpR op_eq (pv 0) pe_int (nomark _)) (pss_one (ps_expr (pe_callX X_is_free hr_is_free (pass_xe lxOf) rfl (pa_cons (pv 1) (pa_cons (pv 2) (pa_cons (pv 3) (pa_cons (pv 4) pa_nil))))))) pss_nil)
      (pss_cons (ps_if (pt_cmpR op_eq (pv 0) pe_int (nomark _)) (pss_one (ps_expr (pe_callX X_exchanged hr_exchanged (pass_xe lxOf) rfl (pa_cons (pv 1) (pa_cons (pv 2) (pa_cons (pv 3) (pa_cons (pv 4) (pa_cons (pe_ix ix_list (pv 5) pe_int (fun _ _ => rfl)) (pa_cons (pe_ix ix_list (pv 5) pe_int (fun _ _ => rfl)) pa_nil))))))))) pss_nil)
      (pss_cons (ps_if (pt_cmpR op_eq (pv 0) pe_int (nomark _)) (pss_one (ps_expr (pe_callX X_first_free hr_first_free (pass_xe lxOf) rfl (pa_cons (pv 1) (pa_cons (pv 2) (pa_cons (pv 3) pa_nil)))))) pss_nil)
      (pss_cons (ps_if (pt_cmpR op_eq (pv 0) pe_int (nomark _)) (pss_one (ps_expr (pe_callX X_how_many hr_how_many (pass_xe lxOf) rfl (pa_cons (pv 1) (pa_cons (pv 2) (pa_cons (pv 3) pa_nil)))))) pss_nil)
      (pss_one (ps_if (pt_cmpR op_eq (pv 0) pe_int (nomark _)) (pss_one (ps_expr (pe_callX X_first_size hr_first_size (pass_xe lxOf) rfl (pa_cons (pv 1) (pa_cons (pv 3) pa_nil))))) pss_nil))))))))), ?_⟩
    match w, hw with
    | 0, _ =>
      refine takeI (fun _ z => ⟨_, rfl, rfl, _, rfl, z⟩) ?_
      refine ⟨_, rfl, _, rfl, s, n, rfl, A.kind, A.n1, A.n2, (show Ans e (rKS s n) E H _ from q).mono fun q' v H' s' => ?_⟩
      dsimp only
      refine skipI (fun _ z => ⟨_, rfl, rfl, _, rfl, z⟩) ?_
      refine skipI (fun _ z => ⟨_, rfl, rfl, _, rfl, z⟩) ?_
      refine skipI (fun _ z => ⟨_, rfl, rfl, _, rfl, z⟩) ?_
      refine skipI (fun _ z => ⟨_, rfl, rfl, _, rfl, z⟩) ?_
      refine skipI (fun _ z => ⟨_, rfl, rfl, _, rfl, z⟩) ?_
      refine skipI (fun _ z => ⟨_, rfl, rfl, _, rfl, z⟩) ?_
      refine ⟨_, rfl, rfl, _, rfl, ifF (by decide) ?_⟩
      exact q' H' s'
    | 1, _ =>
      refine skipI (fun _ z => ⟨_, rfl, rfl, _, rfl, z⟩) ?_
      refine takeI (fun _ z => ⟨_, rfl, rfl, _, rfl, z⟩) ?_
      refine ⟨_, rfl, _, rfl, s, n, rfl, A.kind, A.n1, A.n2, (show Ans e (rKS s n) E H _ from q).mono fun q' v H' s' => ?_⟩
      dsimp only
      refine skipI (fun _ z => ⟨_, rfl, rfl, _, rfl, z⟩) ?_
      refine skipI (fun _ z => ⟨_, rfl, rfl, _, rfl, z⟩) ?_
      refine skipI (fun _ z => ⟨_, rfl, rfl, _, rfl, z⟩) ?_
      refine skipI (fun _ z => ⟨_, rfl, rfl, _, rfl, z⟩) ?_
      refine skipI (fun _ z => ⟨_, rfl, rfl, _, rfl, z⟩) ?_
      refine ⟨_, rfl, rfl, _, rfl, ifF (by decide) ?_⟩
      exact q' H' s'
    | 2, _ =>
      refine skipI (fun _ z => ⟨_, rfl, rfl, _, rfl, z⟩) ?_
      refine skipI (fun _ z => ⟨_, rfl, rfl, _, rfl, z⟩) ?_
      refine takeI (fun _ z => ⟨_, rfl, rfl, _, rfl, z⟩) ?_
      refine ⟨_, rfl, _, rfl, _, rfl, _, rfl, s, n, c, lh, hs, rfl, A.kind, A.n1, A.n2, A.c1, A.c2, A.hues, (show Ans e (rDye s n c hs) E H _ from q).mono fun q' l H' ts _ s' _ => ?_⟩
      dsimp only
      refine skipI (fun _ z => ⟨_, rfl, rfl, _, rfl, z⟩) ?_
      refine skipI (fun _ z => ⟨_, rfl, rfl, _, rfl, z⟩) ?_
      refine skipI (fun _ z => ⟨_, rfl, rfl, _, rfl, z⟩) ?_
      refine skipI (fun _ z => ⟨_, rfl, rfl, _, rfl, z⟩) ?_
      refine ⟨_, rfl, rfl, _, rfl, ifF (by decide) ?_⟩
      exact q' H' s'
    | 3, _ =>
      refine skipI (fun _ z => ⟨_, rfl, rfl, _, rfl, z⟩) ?_
      refine skipI (fun _ z => ⟨_, rfl, rfl, _, rfl, z⟩) ?_
      refine skipI (fun _ z => ⟨_, rfl, rfl, _, rfl, z⟩) ?_
      refine takeI (fun _ z => ⟨_, rfl, rfl, _, rfl, z⟩) ?_
      refine ⟨_, rfl, _, rfl, _, rfl, _, rfl, s, n, c, lh, hs, rfl, A.kind, A.n1, A.n2, A.c1, A.c2, A.hues, (show Ans e (rDye s n c hs) E H _ from q).mono fun q' v H' s' => ?_⟩
      dsimp only
      refine skipI (fun _ z => ⟨_, rfl, rfl, _, rfl, z⟩) ?_
      refine skipI (fun _ z => ⟨_, rfl, rfl, _, rfl, z⟩) ?_
      refine skipI (fun _ z => ⟨_, rfl, rfl, _, rfl, z⟩) ?_
      refine ⟨_, rfl, rfl, _, rfl, ifF (by decide) ?_⟩
      exact q' H' s'
    | 4, _ =>
      refine skipI (fun _ z => ⟨_, rfl, rfl, _, rfl, z⟩) ?_
      refine skipI (fun _ z => ⟨_, rfl, rfl, _, rfl, z⟩) ?_
      refine skipI (fun _ z => ⟨_, rfl, rfl, _, rfl, z⟩) ?_
      refine skipI (fun _ z => ⟨_, rfl, rfl, _, rfl, z⟩) ?_
      refine takeI (fun _ z => ⟨_, rfl, rfl, _, rfl, z⟩) ?_
      refine ⟨_, rfl, _, rfl, _, rfl, _, rfl, _, rfl, lt, _, _, _, rfl, rfl, SqL.of A.two, rfl, _, rfl, lt, _, _, _, rfl, rfl, SqL.of A.two, rfl, s, n, c, lh, hs, a, b, rfl, A.kind, A.n1, A.n2, A.c1, A.c2, A.hues, A.a1, A.a2, A.b1, A.b2, (show Ans e (rEx s n c hs a b) E H _ from q).mono fun q' v H' s' => ?_⟩
      dsimp only
      refine skipI (fun _ z => ⟨_, rfl, rfl, _, rfl, z⟩) ?_
      refine skipI (fun _ z => ⟨_, rfl, rfl, _, rfl, z⟩) ?_
      refine ⟨_, rfl, rfl, _, rfl, ifF (by decide) ?_⟩
      exact q' H' s'
    | 5, _ =>
      refine skipI (fun _ z => ⟨_, rfl, rfl, _, rfl, z⟩) ?_
      refine skipI (fun _ z => ⟨_, rfl, rfl, _, rfl, z⟩) ?_
      refine skipI (fun _ z => ⟨_, rfl, rfl, _, rfl, z⟩) ?_
      refine skipI (fun _ z => ⟨_, rfl, rfl, _, rfl, z⟩) ?_
      refine skipI (fun _ z => ⟨_, rfl, rfl, _, rfl, z⟩) ?_
      refine takeI (fun _ z => ⟨_, rfl, rfl, _, rfl, z⟩) ?_
      refine ⟨_, rfl, _, rfl, _, rfl, s, n, c, rfl, A.kind, A.n1, A.n2, A.c1, A.c2, (show Ans e (rFree s n c 15) E H _ from q).mono fun q' v H' s' => ?_⟩
      dsimp only
      refine skipI (fun _ z => ⟨_, rfl, rfl, _, rfl, z⟩) ?_
      refine ⟨_, rfl, rfl, _, rfl, ifF (by decide) ?_⟩
      exact q' H' s'
    | 6, _ =>
      refine skipI (fun _ z => ⟨_, rfl, rfl, _, rfl, z⟩) ?_
      refine skipI (fun _ z => ⟨_, rfl, rfl, _, rfl, z⟩) ?_
      refine skipI (fun _ z => ⟨_, rfl, rfl, _, rfl, z⟩) ?_
      refine skipI (fun _ z => ⟨_, rfl, rfl, _, rfl, z⟩) ?_
      refine skipI (fun _ z => ⟨_, rfl, rfl, _, rfl, z⟩) ?_
      refine skipI (fun _ z => ⟨_, rfl, rfl, _, rfl, z⟩) ?_
      refine takeI (fun _ z => ⟨_, rfl, rfl, _, rfl, z⟩) ?_
      refine ⟨_, rfl, _, rfl, _, rfl, s, n, c, rfl, A.kind, A.n1, A.n2, A.c1, A.c2, (show Ans e (rFree s n c (limC c)) E H _ from q).mono fun q' v H' s' => ?_⟩
      dsimp only
      refine ⟨_, rfl, rfl, _, rfl, ifF (by decide) ?_⟩
      exact q' H' s'
    | 7, _ =>
      refine skipI (fun _ z => ⟨_, rfl, rfl, _, rfl, z⟩) ?_
      refine skipI (fun _ z => ⟨_, rfl, rfl, _, rfl, z⟩) ?_
      refine skipI (fun _ z => ⟨_, rfl, rfl, _, rfl, z⟩) ?_
      refine skipI (fun _ z => ⟨_, rfl, rfl, _, rfl, z⟩) ?_
      refine skipI (fun _ z => ⟨_, rfl, rfl, _, rfl, z⟩) ?_
      refine skipI (fun _ z => ⟨_, rfl, rfl, _, rfl, z⟩) ?_
      refine skipI (fun _ z => ⟨_, rfl, rfl, _, rfl, z⟩) ?_
      refine ⟨_, rfl, rfl, _, rfl, ifT (by decide) ?_⟩
      exact ⟨_, rfl, _, rfl, s, c, rfl, A.kind, A.c1, A.c2, (show Ans e (rSize s c) E H _ from q).mono fun q' v H' s' => q' H' s'⟩
def dueI (r : Option Nat) : Int := match r with
  | some i => (i : Int)
  | none => 5
def sp_told : Sp := fun vs H Q _ => ∃ (w : Nat) (s : Str) (n c : Int) (lh lt : Addr) (hs : List Int) (a b : Int), vs = [.int (w : Nat), .str s, .int n, .int c, .ref lh, .ref lt] ∧ w < 8 ∧ Ask H s n c lh lt hs a b ∧ ∀ H', Same H H' → Q (.int (dueI (rAll w s n c hs a b))) H'
theorem c__law_told (T : Txt P w K mg) (EE : Errs K mg e hue) (X__law_called : Callee P w K mg base (CXR P w) 22 "_law_called" ["which", "kind", "size", "count", "hues", "two"] (sx_call e)) (C__law_other : CalleeH P w K mg base 1 "_law_other" ["e", "wanted"] (sp_other K e))
    (F : FunAt K mg "_law_told" ["which", "kind", "size", "count", "hues", "two"] s__law_told) : Callee P w K mg base CX0 23 "_law_told" ["which", "kind", "size", "count", "hues", "two"] sp_told := by
  refine F.ok sc__law_told (fun vs H Q E h => ?_) (fun f cdv A outer s H vs Q E hr h => ?_)
  · obtain ⟨w, s, n, c, lh, lt, hs, a, b, rfl, _⟩ := h
    rfl
  · obtain ⟨w, s, n, c, lh, lt, hs, a, b, rfl, hw, A, q⟩ := h
    have hr__law_called := hr
    have hr__law_other := hr.mono (j := 1) (by decide)
    have m_HueError := EE.mh
    have x_HueError := EE.xh
    refine ⟨_, (pss_cons (ps_tryC (i := 6) rfl rfl rfl rfl X__law_called hr__law_called rfl (pa_cons (pv 0) (pa_cons (pv 1) (pa_cons (pv 2) (pa_cons (pv 3) (pa_cons (pv 4) (pa_cons (pv 5) pa_nil)))))) rfl m_HueError x_HueError sc__law_told.nd rfl rfl (fun ea => (pss_cons (ps_forH rfl rfl (pi_rangeH ea rfl T.n_range (pa_cons pe_int pa_nil)) (pg_name (i := 7) sc__law_told.nd rfl (Or.inl rfl))
      (pss_one (ps_if (pt_not (pt_val (pe_callH C__law_other (RoomH.of (ea := ea) hr__law_other) rfl (pa_cons (pv 6) (pa_cons (pv 7) pa_nil))))) (pss_one (ps_ret (pv 7))) pss_nil)))
      (pss_one (ps_ret pe_int)))))
      (pss_one (ps_ret pe_int))), ?_⟩
    refine ⟨_, rfl, _, rfl, _, rfl, _, rfl, _, rfl, _, rfl, w, s, n, c, lh, lt, hs, a, b, rfl, hw, A, ?_⟩
    cases hr' : rAll w s n c hs a b with
    | none =>
      rw [hr'] at q
      exact Ans.of_good rfl fun H' s' => q H' s'
    | some i =>
      rw [hr'] at q
      have hi := rAll_lt hr'
      refine Ans.of_bad rfl ⟨e i, rfl, EE.x i hi, EE.up i hi, fun ea H3 s3 n3 cg => ?_⟩
      refine ⟨5, rfl, by decide, by decide, for_rangeH (K := K) (ea := ea) (lo := 0) (n := 5) (fun j σ H4 => j ≤ i ∧ Same H3 H4 ∧ ∃ v7, σ = [some (.int (w : Nat)), some (.str s), some (.int n), some (.int c), some (.ref lh), some (.ref lt), some (.ref ea), v7])
        (fun _ H4 ⟨_, s4, _⟩ => ⟨_, cg.same s4⟩) ⟨Nat.zero_le _, Same.refl H3, none, rfl⟩ ?_ ?_⟩
      · rintro j σ H4 hj ⟨ji, s4, v7, rfl⟩
        refine ⟨_, rfl, _, rfl, i, 0 + (j : Int), rfl, hi, cg.same s4, fun H5 s5 => ⟨_, rfl, ?_⟩⟩
        by_cases eq : i = j
        · subst eq
          refine ifT (by rw [decide_eq_true (by omega : (i : Int) = 0 + (i : Int))]; rfl) ⟨_, rfl, ?_⟩
          have q' := q H5 ((s3.trans s4).trans s5)
          rw [show (0 : Int) + (i : Int) = (i : Int) by omega]
          exact q'
        · refine ifF (by rw [decide_eq_false (by omega : ¬ (i : Int) = 0 + (j : Int))]; rfl) ?_
          exact ⟨by omega, s4.trans s5, _, rfl⟩
      · rintro σ H4 ⟨ji, _⟩
        omega
end
end OH

/-! A law's helper by its promise: which refusal is due. -/
namespace OH
open PySem L2
set_option maxHeartbeats 4000000
section
variable {c : Bool} {U A B : Prop} {N : St → Hp → Prop} {σ : St} {H : Hp}
theorem ifQ (I : St → Hp → Prop) (rest : ∀ σ H, I σ H → N σ H) (h1 : c = true → (∀ σ H, I σ H → N σ H) → U) (h2 : c = false → I σ H) : if c = true then U else (if false = true then A else N σ H) := by
  cases c with
  | true => exact iteT (h1 rfl rest)
  | false => exact iteF (iteF (rest _ _ (h2 rfl)))
theorem ifCh (I : St → Hp → Prop) (rest : ∀ σ H, I σ H → N σ H) (h1 : c = true → (∀ σ H, I σ H → N σ H) → U) (h2 : c = false → I σ H) : if c = true then U else ∃ k, V.bl false = V.bl k ∧ (if k = true then A else N σ H) := by
  cases c with
  | true => exact iteT (h1 rfl rest)
  | false => exact iteF ⟨_, rfl, iteF (rest _ _ (h2 rfl))⟩
theorem ifCh2 (I : St → Hp → Prop) (rest : ∀ σ H, I σ H → N σ H) (h1 : c = true → (∀ σ H, I σ H → N σ H) → U) (h2 : c = false → I σ H) : if c = true then U else ∃ k, V.bl false = V.bl k ∧ (if k = true then B else (if false = true then A else N σ H)) := by
  cases c with
  | true => exact iteT (h1 rfl rest)
  | false => exact iteF ⟨_, rfl, iteF (iteF (rest _ _ (h2 rfl)))⟩
end
/-- a statement, and what stands behind it, told by what holds between them: the text behind is not carried along -/
theorem seq1 {t u : TS} {D : Ends} {σ : St} {H : Hp} (I : St → Hp → Prop) (rest : ∀ σ H, I σ H → u D σ H) (h : ∀ n' : St → Hp → Prop, (∀ σ H, I σ H → n' σ H) → t { D with nx := n' } σ H) : tSeq t u D σ H := h _ rest
theorem of_lt {w m : Nat} {z : Int} (h : decide ((w : Int) < z) = true) (e : z = (m : Int)) : w < m := by subst e; exact Int.ofNat_lt.mp (of_decide_eq_true h)
theorem of_nlt {w m : Nat} {z : Int} (h : decide ((w : Int) < z) = false) (e : z = (m : Int)) : ¬ w < m := by subst e; exact fun q => of_decide_eq_false h (Int.ofNat_lt.mpr q)
theorem of_gt {w m : Nat} {z : Int} (h : decide ((w : Int) > z) = true) (e : z = (m : Int)) : m < w := by subst e; exact Int.ofNat_lt.mp (of_decide_eq_true h)
theorem of_ngt {w m : Nat} {z : Int} (h : decide ((w : Int) > z) = false) (e : z = (m : Int)) : ¬ m < w := by subst e; exact fun q => of_decide_eq_false h (Int.ofNat_lt.mpr q)
theorem of_ge {w m : Nat} {z : Int} (h : decide (z ≤ (w : Int)) = true) (e : z = (m : Int)) : m ≤ w := by subst e; exact Int.ofNat_le.mp (of_decide_eq_true h)
theorem of_nge {w m : Nat} {z : Int} (h : decide (z ≤ (w : Int)) = false) (e : z = (m : Int)) : w < m := by subst e; exact Nat.lt_of_not_le fun q => of_decide_eq_false h (Int.ofNat_le.mpr q)
theorem of_le {w m : Nat} {z : Int} (h : decide ((w : Int) ≤ z) = true) (e : z = (m : Int)) : w ≤ m := by subst e; exact Int.ofNat_le.mp (of_decide_eq_true h)
theorem of_nle {w m : Nat} {z : Int} (h : decide ((w : Int) ≤ z) = false) (e : z = (m : Int)) : m < w := by subst e; exact Nat.lt_of_not_le fun q => of_decide_eq_false h (Int.ofNat_le.mpr q)
theorem of_eqw {w m : Nat} {z : Int} (h : decide ((w : Int) = z) = true) (e : z = (m : Int)) : w = m := by subst e; exact Int.ofNat_inj.mp (of_decide_eq_true h)
theorem of_new {w m : Nat} {z : Int} (h : decide ((w : Int) = z) = false) (e : z = (m : Int)) : ¬ w = m := by subst e; exact fun q => of_decide_eq_false h (Int.ofNat_inj.mpr q)
theorem bn_f {k : Kd} {n : Int} (n0 : 0 ≤ n) (b : badN k n) : decide (n ≤ (k.max : Int)) = false := by unfold badN at b; exact decide_eq_false (by omega)
theorem bn_t {k : Kd} {n : Int} (b : ¬ badN k n) : decide (n ≤ (k.max : Int)) = true := by unfold badN at b; exact decide_eq_true (by omega)
theorem bc_f {c : Int} (n0 : 1 ≤ c) (b : badC c) : decide (c ≤ 3) = false := by unfold badC at b; exact decide_eq_false (by omega)
theorem bc_t {c : Int} (b : ¬ badC c) : decide (c ≤ 3) = true := by unfold badC at b; exact decide_eq_true (by omega)
theorem c_le2 {c : Int} (b : ¬ badC c) (h : ¬ c = 3) : c ≤ 2 := by unfold badC at b; omega
theorem c_le3 {c : Int} (b : ¬ badC c) : c ≤ 3 := by unfold badC at b; omega
theorem w_234 : ∀ w : Nat, w ≤ 4 → 2 ≤ w → w = 2 ∨ w = 3 ∨ w = 4 := fun w a b => by omega
theorem w_56 : ∀ w : Nat, w ≤ 6 → 5 ≤ w → w = 5 ∨ w = 6 := fun w a b => by omega
theorem w_rest : ∀ w : Nat, w < 8 → (w < 2 ∨ 4 < w) → w = 0 ∨ w = 1 ∨ w = 5 ∨ w = 6 ∨ w = 7 := by decide
theorem max_at (k : Kd) : atI [V.int 9, V.int 40] (if (!decide (V.str k.str = V.str "pairs")) = true then (1 : Int) else 0) = some (V.int (k.max : Nat)) := by cases k <;> decide +kernel
theorem bad_none (hs : List Int) (c : Int) : decide (V.int (((hs.filter fun h => !okHue h c).map V.int).length : Nat) = V.int 0) = hs.all fun h => okHue h c := by
  rw [decI, List.length_map]
  induction hs with
  | nil => rfl
  | cons h r ih =>
    rw [List.all_cons, List.filter_cons]
    cases hk : okHue h c with
    | true => rw [show (!true) = false from rfl, if_neg (by decide), ih, Bool.true_and]
    | false =>
      rw [show (!false) = true from rfl, if_pos rfl, Bool.false_and]
      exact decide_eq_false (by rw [List.length_cons]; omega)
section
variable {P : Program} {w : World} {K : PySem.W.Frag} {mg : Str → Option Value} {base : Heap} {e : Nat → Addr} {hue : Addr}
theorem c__law_due (T : Txt P w K mg) (C__law_many : Callee P w K mg base CX0 2 "_law_many" ["kind", "size"] sp_many)
    (F : FunAt K mg "_law_due" ["which", "kind", "size", "count", "hues", "two"] s__law_due) : Callee P w K mg base CX0 3 "_law_due" ["which", "kind", "size", "count", "hues", "two"] sp_told := by
  refine F.ok sc__law_due (fun vs H Q E h => ?_) (fun f cdv A outer s H vs Q E hr h => ?_)
  · obtain ⟨w, s, n, c, lh, lt, hs, a, b, rfl, _⟩ := h
    rfl
  · obtain ⟨w, t, n, c, lh, lt, hs, a, b, rfl, hw, A, q⟩ := h
    have hr__law_many := hr
    have tin := (kinds_ok A.kind).2.2.2
    refine ⟨_, (pss_cons (ps_if (pt_cmpR op_notIn_seq (pv 1) (pe_lst (pa_cons pe_str (pa_cons pe_str (pa_cons pe_str pa_nil)))) (by with_unfolding_all rfl)) (pss_one (ps_ret pe_int)) pss_nil)
      (pss_cons (ps_if (PW.pt (pw_and (pt_cmpR op_lt (pv 0) pe_int (nomark _)) (pw_and1 (pt_not (pt_chain op_le op_le pe_int (pv 2) (pe_ix ix_list (pe_lst (pa_cons pe_int (pa_cons pe_int pa_nil))) (pe_callTy call_int1 rfl T.n_int (by decide +kernel) (pa_cons (pe_cmpR op_ne (pv 1) pe_str (nomark _)) pa_nil)) (fun _ _ => rfl))))))) (pss_one (ps_ret pe_int)) pss_nil)
      (pss_cons (ps_if (PW.pt (pw_and (pt_cmpR op_gt (pv 0) pe_int (nomark _)) (pw_and1 (pt_not (pt_chain op_le op_le pe_int (pv 3) pe_int))))) (pss_one (ps_ret pe_int)) pss_nil)
      (pss_cons (ps_if (pt_chain op_le op_le pe_int (pv 0) pe_int) (pss_cons (ps_set (i := 6) sc__law_due.nd rfl (Or.inl rfl) (pe_and (pe_cmpR op_eq (pe_callB call_len_seq rfl T.n_len (by decide +kernel) (pa_cons (pv 4) pa_nil)) (pe_callC C__law_many hr__law_many rfl (pa_cons (pv 1) (pa_cons (pv 2) pa_nil))) (nomark _)) (pe_one (pe_cmpR op_eq (pe_callB call_len_seq rfl T.n_len (by decide +kernel) (pa_cons (pe_comp rfl (CompOk.of (NC := ["hue", "count"]) (i0 := 0) (js := [none, some 3]) (defScope s__law_due).names ["which", "kind", "size", "count", "hues", "two", "good"] rfl rfl rfl (by decide +kernel)) (pi_list (pv 4)) (fun _ _ _ _ _ => (pifs_one (pt_not (pt_chain op_le op_lt pe_int (pv 0) (pv 1))))) (fun _ _ _ _ _ => (pv 0))) pa_nil)) pe_int (nomark _)))))
      (pss_cons (ps_if (PW.pt (pw_or (pt_not (pt_val (pv 6))) (pw_or1 (pt_cmpR op_lt (pv 0) pe_int (nomark _))))) (pss_one (ps_ret (pe_ix ix_list (pe_lst (pa_cons pe_int (pa_cons pe_int pa_nil))) (pe_callTy call_int1 rfl T.n_int (by decide +kernel) (pa_cons (pv 6) pa_nil)) (fun _ _ => rfl)))) pss_nil)
      (pss_one (ps_ret (pe_ix ix_list (pe_lst (pa_cons pe_int (pa_cons pe_int pa_nil))) (pe_callTy call_int1 rfl T.n_int (by decide +kernel) (pa_cons (pe_and (pe_cmpR op_le pe_int (pe_callB (call_minL rfl) rfl T.n_min (by decide +kernel) (pa_cons (pv 5) pa_nil)) (nomark _)) (pe_one (pe_cmpR op_lt (pe_callB (call_maxL rfl) rfl T.n_max (by decide +kernel) (pa_cons (pv 5) pa_nil)) (pv 3) (nomark _)))) pa_nil)) (fun _ _ => rfl)))))) pss_nil)
      (pss_cons (ps_if (PW.pt (pw_and (pt_cmpR op_eq (pv 0) pe_int (nomark _)) (pw_and (pt_cmpR op_eq (pv 3) pe_int (nomark _)) (pw_and1 (pt_cmpR op_ne (pv 1) pe_str (nomark _)))))) (pss_one (ps_ret pe_int)) pss_nil)
      (pss_cons (ps_if (PW.pt (pw_and (pt_cmpR op_eq (pv 0) pe_int (nomark _)) (pw_and (pt_cmpR op_eq (pv 3) pe_int (nomark _)) (pw_and1 (pt_cmpR op_gt (pe_callC C__law_many hr__law_many rfl (pa_cons (pv 1) (pa_cons (pv 2) pa_nil))) pe_int (nomark _)))))) (pss_one (ps_ret pe_int)) pss_nil)
      (pss_cons (ps_if (PW.pt (pw_and (pt_chain op_le op_le pe_int (pv 0) pe_int) (pw_and1 (pt_cmpR op_gt (pe_callC C__law_many hr__law_many rfl (pa_cons (pv 1) (pa_cons (pv 2) pa_nil))) pe_int (nomark _))))) (pss_one (ps_ret pe_int)) pss_nil)
      (pss_one (ps_ret pe_int))))))))), ?_⟩
    -- kind not in [..]
    refine ⟨_, rfl, three_le, fun l1 hl1 => ⟨l1, _, rfl, .inl (SqL.of upd_same), rfl, rfl, _, rfl, ?_⟩⟩
    rw [if_pos rfl, tin]
    have s1 : Same H (upd H l1 (.lst [.str "pairs", .str "sums", .str "steps"])) := Same.here hl1
    generalize upd H l1 (.lst [.str "pairs", .str "sums", .str "steps"]) = H1 at s1 ⊢
    cases hk : kdS t with
    | none =>
      rw [rAll_0 hk] at q
      exact ifT rfl (q H1 s1)
    | some k =>
    have hs' := kdS_some hk
    subst hs'
    refine ifF rfl ?_
    dsimp only [tNext]
    have A1 := A.same s1
    -- which < 7 and not 0 <= size <= ..
    refine seq1 (fun σ' H' => σ' = [some (.int (w : Nat)), some (.str k.str), some (.int n), some (.int c), some (.ref lh), some (.ref lt), none] ∧ Same H1 H' ∧ (w < 7 → ¬ badN k n)) ?_ (fun n' nx => ⟨_, rfl, _, _, rfl, rfl, _, rfl, ifQ _ nx (fun h rest => ?_) (fun h => ⟨rfl, Same.refl H1, fun z => absurd z (of_nlt h rfl)⟩)⟩)
    rotate_left
    · have w7 : w < 7 := of_lt h rfl
      refine ⟨_, rfl, _, _, rfl, rfl, _, rfl, ifB (fun h0 => ?_) (fun h0 => ?_)⟩
      · refine ⟨two_le, fun l2 hl2 => ⟨_, rfl, rfl, .inr ⟨_, rfl, l2, _, _, _, rfl, rfl, SqL.of upd_same, max_at k, _, _, rfl, rfl, _, rfl, ?_⟩⟩⟩
        have s2 : Same H1 (upd H1 l2 (.lst [.int 9, .int 40])) := Same.here hl2
        by_cases b1 : badN k n
        · refine ifT ?_ ?_
          · have n0 := of_decide_eq_true h0
            rw [bn_f n0 b1]
            rfl
          · rw [rAll_1 w7 b1] at q
            exact q _ (s1.trans s2)
        · refine ifF ?_ (rest _ _ ⟨rfl, s2, fun _ => b1⟩)
          rw [bn_t b1]
          rfl
      · have b1 : badN k n := .inl (Int.lt_of_not_ge (of_decide_eq_false h0))
        rw [rAll_1 w7 b1] at q
        exact ⟨_, rfl, ifT rfl (q _ s1)⟩
    rintro σ H2 ⟨rfl, s2, okn⟩
    have A2 := A1.same s2
    have s02 := s1.trans s2
    -- which > 1 and not 1 <= count <= 3
    refine seq1 (fun σ' H' => σ' = [some (.int (w : Nat)), some (.str k.str), some (.int n), some (.int c), some (.ref lh), some (.ref lt), none] ∧ H' = H2 ∧ (1 < w → ¬ badC c)) ?_ (fun n' nx => ⟨_, rfl, _, _, rfl, rfl, _, rfl, ifQ _ nx (fun h rest => ?_) (fun h => ⟨rfl, rfl, fun z => absurd z (of_ngt h rfl)⟩)⟩)
    rotate_left
    · have w1 : 1 < w := of_gt h rfl
      refine ⟨_, rfl, _, _, rfl, rfl, _, rfl, ifB (fun h0 => ?_) (fun h0 => ?_)⟩
      · refine ⟨_, _, rfl, rfl, _, rfl, ?_⟩
        by_cases b2 : badC c
        · refine ifT ?_ ?_
          · have n0 := of_decide_eq_true h0
            rw [bc_f n0 b2]
            rfl
          · rw [rAll_2 w1 okn b2] at q
            exact q _ s02
        · refine ifF ?_ (rest _ _ ⟨rfl, rfl, fun _ => b2⟩)
          rw [bc_t b2]
          rfl
      · have b2 : badC c := .inl (Int.lt_of_not_ge (of_decide_eq_false h0))
        rw [rAll_2 w1 okn b2] at q
        exact ⟨_, rfl, ifT rfl (q _ s02)⟩
    rintro σ H3 ⟨rfl, rfl, okc⟩
    -- 2 <= which <= 4
    refine seq1 (fun σ' H' => σ' = [some (.int (w : Nat)), some (.str k.str), some (.int n), some (.int c), some (.ref lh), some (.ref lt), none] ∧ H' = H3 ∧ (w < 2 ∨ 4 < w)) ?_ (fun n' nx => ⟨_, rfl, _, _, rfl, rfl, _, rfl, ifCh _ nx (fun h rest => ?_) (fun h => ⟨rfl, rfl, .inl (of_nge h rfl)⟩)⟩)
    rotate_left
    · have w2 : 2 ≤ w := of_ge h rfl
      refine ⟨_, _, rfl, rfl, _, rfl, ifB (fun h4 => ?_) (fun h4 => rest _ _ ⟨rfl, rfl, .inr (of_nle h4 rfl)⟩)⟩
      have w4 : w ≤ 4 := of_le h4 rfl
      have b1 := okn (Nat.lt_of_le_of_lt w4 (by decide))
      have b2 := okc w2
      obtain ⟨m, rfl, hm⟩ := okN b1
      have few := A.hues.few
      have at3 := A2.hues.at_
      -- what is due where the dyeing is none
      have due3 : fits k (m : Int) c hs = false → dueI (rAll w k.str (m : Int) c hs a b) = 3 := fun hf => by
        have hw' := w_234 w w4 w2
        rcases hw' with rfl | rfl | rfl
        · rw [show rAll 2 k.str (m : Int) c hs a b = rDye k.str (m : Int) c hs from rfl, rDye_3 b1 b2 hf]; rfl
        · rw [show rAll 3 k.str (m : Int) c hs a b = rDye k.str (m : Int) c hs from rfl, rDye_3 b1 b2 hf]; rfl
        · rw [show rAll 4 k.str (m : Int) c hs a b = rEx k.str (m : Int) c hs a b from rfl, rEx_3 b1 b2 hf]; rfl
      -- good = ..
      refine ⟨_, rfl, lh, _, rfl, .inl (SqL.of at3), _, rfl, _, rfl, k, m, rfl, hm, fun H4 s4 => ⟨rfl, _, rfl, ?_⟩⟩
      have at4 := s4 _ _ at3
      rw [decI, many_eq k m hm, List.length_map]
      refine ifB (fun hl => ?_) (fun hl => ?_)
      · have len : hs.length = manyN k m := of_eqw hl rfl
        refine ⟨_, rfl, lh, rfl, ⟨_, SqL.of at4⟩, fun acc hacc => comp_list (K := K) (a := lh) (xs := hs.map V.int) (fun i H5 => Same H4 H5 ∧ H5 acc = some (.lst (((hs.take i).filter fun h => !okHue h c).map V.int))) ⟨Same.here hacc, upd_same⟩ (fun i H5 ⟨s5, _⟩ => SqL.of (s5 _ _ at4)) ?_ ?_⟩
        · rintro i x H5 hx hi ⟨s5, e5⟩
          rw [List.getElem?_map] at hx
          obtain ⟨z, hz, rfl⟩ := Option.map_eq_some_iff.mp hx
          have step := take_succ_filter (fun h => !okHue h c) hs i _ hz
          have lz : (((hs.take i).filter fun h => !okHue h c).map V.int).length < sizeLine := by
            rw [List.length_map]
            refine small1000 (Nat.le_trans (List.length_filter_le _ _) ?_)
            rw [List.length_take]
            omega
          have yes : okHue z c = false → H5 acc = some (.lst (((hs.take i).filter fun h => !okHue h c).map V.int)) → (upd H5 acc (.lst (((hs.take i).filter fun h => !okHue h c).map V.int ++ [.int z]))) acc = some (.lst (((hs.take (i + 1)).filter fun h => !okHue h c).map V.int)) := fun hk _ => by
            rw [upd_same, step]
            simp [hk]
          refine ⟨_, rfl, _, _, rfl, rfl, _, rfl, ifB (fun h0 => ?_) (fun h0 => ?_)⟩
          · refine ⟨_, rfl, _, _, rfl, rfl, _, rfl, ?_⟩
            have eo : (decide (z < c)) = okHue z c := by
              unfold okHue
              rw [h0, Bool.true_and]
            rw [eo]
            cases hk : okHue z c with
            | true =>
              refine ifF rfl (cW.nx hi ⟨s5, ?_⟩)
              rw [step]
              simp [hk, e5]
            | false => exact ifT rfl ⟨_, rfl, _, e5, lz, cW.nx hi ⟨s5.upd hacc, yes hk e5⟩⟩
          · have hk : okHue z c = false := by
              unfold okHue
              rw [h0, Bool.false_and]
            exact ⟨_, rfl, ifT rfl ⟨_, rfl, _, e5, lz, cW.nx hi ⟨s5.upd hacc, yes hk e5⟩⟩⟩
        rintro H5 ⟨s5, e5⟩
        rw [List.length_map, List.take_length] at e5
        refine ⟨acc, _, rfl, .inl (SqL.of e5), rfl, ?_⟩
        rw [bad_none]
        have s05 := (s02.trans s4).trans s5
        have ef : fits k (m : Int) c hs = hs.all fun h => okHue h c := by
          unfold fits
          rw [Int.toNat_natCast, decide_eq_true len, Bool.true_and]
        cases hg : hs.all fun h => okHue h c with
        | false =>
          refine ⟨_, rfl, _, rfl, ifT rfl (iteT ⟨two_le, fun l5 hl5 => ⟨_, rfl, .inr ⟨_, rfl, l5, _, _, _, rfl, rfl, SqL.of upd_same, rfl, ?_⟩⟩⟩)⟩
          have q' := q _ (s05.trans (Same.here (o := .lst [.int 3, .int 5]) hl5))
          rw [due3 (ef.trans hg)] at q'
          exact q'
        | true =>
          have hf := ef.trans hg
          refine ⟨_, rfl, _, rfl, ifF rfl ⟨_, rfl, _, _, rfl, rfl, _, rfl, ifB (fun h5 => ?_) (fun h5 => ?_)⟩⟩
          · refine ⟨two_le, fun l5 hl5 => ⟨_, rfl, .inr ⟨_, rfl, l5, _, _, _, rfl, rfl, SqL.of upd_same, rfl, ?_⟩⟩⟩
            have q' := q _ (s05.trans (Same.here (o := .lst [.int 3, .int 5]) hl5))
            have hw' : w = 2 ∨ w = 3 := by have := of_decide_eq_true h5; omega
            have e5' : dueI (rAll w k.str (m : Int) c hs a b) = 5 := by
              rcases hw' with rfl | rfl
              · rw [show rAll 2 k.str (m : Int) c hs a b = rDye k.str (m : Int) c hs from rfl, rDye_n b1 b2 hf]; rfl
              · rw [show rAll 3 k.str (m : Int) c hs a b = rDye k.str (m : Int) c hs from rfl, rDye_n b1 b2 hf]; rfl
            rw [e5'] at q'
            exact q'
          · have hw' : w = 4 := by have := of_decide_eq_false h5; omega
            subst hw'
            have two5 := (s4.trans s5) _ _ A2.two
            refine ⟨two_le, fun l5 hl5 => ?_⟩
            have s56 : Same H5 (upd H5 l5 (.lst [.int 2, .int 5])) := Same.here hl5
            have e56 := @upd_same H5 l5 (.lst [.int 2, .int 5])
            generalize upd H5 l5 (.lst [.int 2, .int 5]) = H6 at s56 e56 ⊢
            have q' := q _ (s05.trans s56)
            have two6 := s56 _ _ two5
            have ok4 : (okHue a c && okHue b c) = true → Q (.int 5) H6 := fun h => by
              rw [show rAll 4 k.str (m : Int) c hs a b = rEx k.str (m : Int) c hs a b from rfl, rEx_n b1 b2 hf h] at q'
              exact q'
            have no4 : (okHue a c && okHue b c) = false → Q (.int 2) H6 := fun h => by
              rw [show rAll 4 k.str (m : Int) c hs a b = rEx k.str (m : Int) c hs a b from rfl, rEx_h b1 b2 hf h] at q'
              exact q'
            refine ⟨_, rfl, lt, [a, b], rfl, SqL.of two6, Nat.zero_lt_succ _, fun M hM lM => ⟨_, _, rfl, rfl, _, rfl, ifB (fun h0 => ?_) (fun h0 => ?_)⟩⟩
            · have n0 := of_decide_eq_true h0
              have ma := lM a (by simp)
              have mb := lM b (by simp)
              refine ⟨_, rfl, lt, [a, b], rfl, SqL.of two6, Nat.zero_lt_succ _, fun M2 hM2 lM2 => ⟨_, rfl, _, _, rfl, rfl, ?_⟩⟩
              have na := lM2 a (by simp)
              have nb := lM2 b (by simp)
              have or2 : M2 = a ∨ M2 = b := by simpa using hM2
              cases hd : decide (M2 < c) with
              | true =>
                have lt' := of_decide_eq_true hd
                refine .inr ⟨_, rfl, l5, _, _, _, rfl, rfl, SqL.of e56, by rw [hd]; rfl, ok4 ?_⟩
                unfold okHue
                rw [decide_eq_true (by omega), decide_eq_true (by omega), decide_eq_true (by omega), decide_eq_true (by omega)]
                rfl
              | false =>
                have ge' := of_decide_eq_false hd
                refine .inr ⟨_, rfl, l5, _, _, _, rfl, rfl, SqL.of e56, by rw [hd]; rfl, no4 ?_⟩
                unfold okHue
                rcases or2 with z | z
                · rw [decide_eq_false (by omega : ¬ a < c), Bool.and_false, Bool.false_and]
                · rw [decide_eq_false (by omega : ¬ b < c), Bool.and_false, Bool.and_false]
            · have n0 := of_decide_eq_false h0
              have or1 : M = a ∨ M = b := by simpa using hM
              refine .inr ⟨_, rfl, l5, _, _, _, rfl, rfl, SqL.of e56, rfl, no4 ?_⟩
              unfold okHue
              rcases or1 with z | z
              · rw [decide_eq_false (by omega : ¬ 0 ≤ a), Bool.false_and, Bool.false_and]
              · rw [decide_eq_false (by omega : ¬ 0 ≤ b), Bool.false_and, Bool.and_false]
      · have hf : fits k (m : Int) c hs = false := fits_len (by rw [Int.toNat_natCast]; intro z; rw [z] at hl; simp at hl)
        refine ⟨_, rfl, _, rfl, ifT rfl (iteT ⟨two_le, fun l5 hl5 => ⟨_, rfl, .inr ⟨_, rfl, l5, _, _, _, rfl, rfl, SqL.of upd_same, rfl, ?_⟩⟩⟩)⟩
        have q' := q _ ((s02.trans s4).trans (Same.here (o := .lst [.int 3, .int 5]) hl5))
        rw [due3 hf] at q'
        exact q'
    rintro σ H4 ⟨rfl, rfl, w24⟩
    -- which == 7 and count == 3 and kind != 'sums'
    refine seq1 (fun σ' H' => σ' = [some (.int (w : Nat)), some (.str k.str), some (.int n), some (.int c), some (.ref lh), some (.ref lt), none] ∧ H' = H4 ∧ (w = 7 → c = 3 → k = .sums)) ?_ (fun n' nx => ⟨_, rfl, rfl, _, rfl, ifQ _ nx (fun h rest => ?_) (fun h => ?_)⟩)
    rotate_left
    · rw [decI] at h
      have w7 : w = 7 := of_eqw h rfl
      refine ⟨_, rfl, rfl, _, rfl, ifQ (fun σ' H' => σ' = [some (.int (w : Nat)), some (.str k.str), some (.int n), some (.int c), some (.ref lh), some (.ref lt), none] ∧ H' = H4 ∧ (w = 7 → c = 3 → k = .sums)) rest (fun h3 rest' => ?_) (fun h3 => ?_)⟩
      · rw [decI] at h3
        have e3 : c = 3 := of_decide_eq_true h3
        refine ⟨_, rfl, rfl, _, rfl, ?_⟩
        rw [isSums]
        refine ifB (fun hk' => ?_) (fun hk' => rest' _ _ ⟨rfl, rfl, fun _ _ => by simpa using hk'⟩)
        have nk : k ≠ .sums := by simpa using hk'
        have b2 := okc (by rw [w7]; decide)
        have q' := q _ s02
        subst w7
        rw [show rAll 7 k.str n c hs a b = rSize k.str c from rfl, rSize_4 b2 (by cases k with | pairs => show ¬ c ≤ 2; rw [e3]; decide | sums => exact absurd rfl nk | steps => show ¬ c ≤ 2; rw [e3]; decide)] at q'
        exact q'
      · rw [decI] at h3
        exact ⟨rfl, rfl, fun _ z => absurd z (of_decide_eq_false h3)⟩
    · rw [decI] at h
      exact ⟨rfl, rfl, fun z => absurd z (of_new h rfl)⟩
    rintro σ H5 ⟨rfl, rfl, ok7⟩
    -- which == 6 and count == 3 and more than 8
    refine seq1 (fun σ' H' => σ' = [some (.int (w : Nat)), some (.str k.str), some (.int n), some (.int c), some (.ref lh), some (.ref lt), none] ∧ Same H5 H' ∧ (w = 6 → c = 3 → manyN k n.toNat ≤ 8)) ?_ (fun n' nx => ⟨_, rfl, rfl, _, rfl, ifQ _ nx (fun h rest => ?_) (fun h => ?_)⟩)
    rotate_left
    · rw [decI] at h
      have w6 : w = 6 := of_eqw h rfl
      refine ⟨_, rfl, rfl, _, rfl, ifQ (fun σ' H' => σ' = [some (.int (w : Nat)), some (.str k.str), some (.int n), some (.int c), some (.ref lh), some (.ref lt), none] ∧ Same H5 H' ∧ (w = 6 → c = 3 → manyN k n.toNat ≤ 8)) rest (fun h3 rest' => ?_) (fun h3 => ?_)⟩
      · rw [decI] at h3
        have e3 : c = 3 := of_decide_eq_true h3
        have b1 := okn (by rw [w6]; decide)
        have b2 := okc (by rw [w6]; decide)
        obtain ⟨m, rfl, hm⟩ := okN b1
        refine ⟨_, rfl, _, rfl, k, m, rfl, hm, fun H6 s6 => ⟨_, _, rfl, rfl, _, rfl, ?_⟩⟩
        rw [many_eq k m hm]
        refine ifB (fun h8 => ?_) (fun h8 => rest' _ _ ⟨rfl, s6, fun _ _ => by rw [Int.toNat_natCast]; exact Nat.le_of_not_lt (of_ngt h8 rfl)⟩)
        have gt := of_decide_eq_true h8
        have q' := q _ (s02.trans s6)
        subst w6
        rw [show rAll 6 k.str (m : Int) c hs a b = rFree k.str (m : Int) c (limC c) from rfl, rFree_4 b1 b2 (by rw [Int.toNat_natCast, e3]; show ¬ manyN k m ≤ 8; exact Nat.not_le.mpr (of_gt h8 rfl))] at q'
        exact q'
      · rw [decI] at h3
        exact ⟨rfl, Same.refl _, fun _ z => absurd z (of_decide_eq_false h3)⟩
    · rw [decI] at h
      exact ⟨rfl, Same.refl _, fun z => absurd z (of_new h rfl)⟩
    rintro σ H6 ⟨rfl, s6, ok6⟩
    -- 5 <= which <= 6 and more than 15
    refine seq1 (fun σ' H' => σ' = [some (.int (w : Nat)), some (.str k.str), some (.int n), some (.int c), some (.ref lh), some (.ref lt), none] ∧ Same H6 H' ∧ (w = 5 ∨ w = 6 → manyN k n.toNat ≤ 15)) ?_ (fun n' nx => ⟨_, rfl, _, _, rfl, rfl, _, rfl, ifCh2 _ nx (fun h rest => ?_) (fun h => ?_)⟩)
    rotate_left
    · have w5 : 5 ≤ w := of_ge h rfl
      refine ⟨_, _, rfl, rfl, _, rfl, ifQ (fun σ' H' => σ' = [some (.int (w : Nat)), some (.str k.str), some (.int n), some (.int c), some (.ref lh), some (.ref lt), none] ∧ Same H6 H' ∧ (w = 5 ∨ w = 6 → manyN k n.toNat ≤ 15)) rest (fun h6 rest' => ?_) (fun h6 => ?_)⟩
      · have w6 : w ≤ 6 := of_le h6 rfl
        have b1 := okn (Nat.lt_of_le_of_lt w6 (by decide))
        have b2 := okc (Nat.lt_of_lt_of_le (by decide) w5)
        obtain ⟨m, rfl, hm⟩ := okN b1
        refine ⟨_, rfl, _, rfl, k, m, rfl, hm, fun H7 s7 => ⟨_, _, rfl, rfl, _, rfl, ?_⟩⟩
        rw [many_eq k m hm]
        refine ifB (fun h8 => ?_) (fun h8 => rest' _ _ ⟨rfl, s7, fun _ => by rw [Int.toNat_natCast]; exact Nat.le_of_not_lt (of_ngt h8 rfl)⟩)
        have gt := of_decide_eq_true h8
        have q' := q _ ((s02.trans s6).trans s7)
        have hw' := w_56 w w6 w5
        have gt' : ¬ manyN k m ≤ 15 := Nat.not_le.mpr (of_gt h8 rfl)
        rcases hw' with rfl | rfl
        · rw [show rAll 5 k.str (m : Int) c hs a b = rFree k.str (m : Int) c 15 from rfl, rFree_4 b1 b2 (by rw [Int.toNat_natCast]; exact gt')] at q'
          exact q'
        · rw [show rAll 6 k.str (m : Int) c hs a b = rFree k.str (m : Int) c (limC c) from rfl, rFree_4 b1 b2 (by rw [Int.toNat_natCast]; unfold limC; split; exact fun z => gt' (Nat.le_trans z (by decide)); exact gt')] at q'
          exact q'
      · exact ⟨rfl, Same.refl _, fun z => by have := of_nle h6 rfl; rcases z with rfl | rfl <;> exact absurd this (by decide)⟩
    · exact ⟨rfl, Same.refl _, fun z => by have := of_nge h rfl; rcases z with rfl | rfl <;> exact absurd this (by decide)⟩
    rintro σ H7 ⟨rfl, s7, ok5⟩
    -- none is due
    have q' := q _ ((s02.trans s6).trans s7)
    have hw' := w_rest w hw w24
    have e5 : rAll w k.str n c hs a b = none := by
      rcases hw' with rfl | rfl | rfl | rfl | rfl
      · exact rKS_n (okn (by decide))
      · exact rKS_n (okn (by decide))
      · exact rFree_n (okn (by decide)) (okc (by decide)) (ok5 (.inl rfl))
      · refine rFree_n (okn (by decide)) (okc (by decide)) ?_
        unfold limC
        by_cases h3 : c = 3
        · rw [if_pos h3]
          exact ok6 rfl h3
        · rw [if_neg h3]
          exact ok5 (.inr rfl)
      · refine rSize_n (okc (by decide)) ?_
        have b2 := okc (by decide)
        by_cases h3 : c = 3
        · rw [ok7 rfl h3, h3]
          decide
        · cases k with
          | pairs => exact c_le2 b2 h3
          | sums => exact c_le3 b2
          | steps => exact c_le2 b2 h3
    rw [e5] at q'
    exact q'
end
end OH

/-! The law of the refusals: which error, and which comes first. -/
namespace OH
open PySem L2
set_option maxHeartbeats 4000000
theorem mod_nat (z : Int) (m : Nat) (hm : 0 < m) : ∃ r : Nat, z % (m : Int) = (r : Int) ∧ r < m := by
  have h0 : 0 ≤ z % (m : Int) := Int.emod_nonneg _ (by omega)
  have h1 : z % (m : Int) < (m : Int) := Int.emod_lt_of_pos _ (by omega)
  exact ⟨(z % (m : Int)).toNat, (Int.toNat_of_nonneg h0).symm, by omega⟩
theorem odd4 (z : Int) (x0 x1 x2 x3 : Int) (h : (-1000 ≤ x0 ∧ x0 ≤ 1000) ∧ (-1000 ≤ x1 ∧ x1 ≤ 1000) ∧ (-1000 ≤ x2 ∧ x2 ≤ 1000) ∧ (-1000 ≤ x3 ∧ x3 ≤ 1000)) :
    ∃ y : Int, atI [V.int x0, V.int x1, V.int x2, V.int x3] (z % 4) = some (V.int y) ∧ -1000 ≤ y ∧ y ≤ 1000 := by
  obtain ⟨r, e, hr⟩ := mod_nat z 4 (by decide)
  have hz := (by decide : ∀ r : Nat, r < 4 → r = 0 ∨ r = 1 ∨ r = 2 ∨ r = 3) r hr
  obtain ⟨h0, h1, h2, h3⟩ := h
  rw [show z % 4 = (r : Int) from e]
  rcases hz with rfl | rfl | rfl | rfl
  · exact ⟨x0, rfl, h0⟩
  · exact ⟨x1, rfl, h1⟩
  · exact ⟨x2, rfl, h2⟩
  · exact ⟨x3, rfl, h3⟩
theorem over_at (k : Kd) : atI [V.int 10, V.int 41] (if (!decide (V.str k.str = V.str "pairs")) = true then (1 : Int) else 0) = some (V.int ((k.max + 1 : Nat) : Int)) := by cases k <;> decide +kernel
theorem odd7 (z : Int) : ∃ s : PySem.Str, atI [V.str "", V.str "pair", V.str "Pairs", V.str "sums ", V.str "step", V.str "stepss", V.str "pairsums"] (z % 7) = some (V.str s) ∧ s ∈ kindsL := by
  obtain ⟨r, e, hr⟩ := mod_nat z 7 (by decide)
  have hz := (by decide : ∀ r : Nat, r < 7 → r = 0 ∨ r = 1 ∨ r = 2 ∨ r = 3 ∨ r = 4 ∨ r = 5 ∨ r = 6) r hr
  rw [show z % 7 = (r : Int) from e]
  rcases hz with rfl | rfl | rfl | rfl | rfl | rfl | rfl
  · exact ⟨_, rfl, by decide +kernel⟩
  · exact ⟨_, rfl, by decide +kernel⟩
  · exact ⟨_, rfl, by decide +kernel⟩
  · exact ⟨_, rfl, by decide +kernel⟩
  · exact ⟨_, rfl, by decide +kernel⟩
  · exact ⟨_, rfl, by decide +kernel⟩
  · exact ⟨_, rfl, by decide +kernel⟩
theorem place_of (z : Int) (l : Nat) : ∃ p : Nat, z % (if (l : Int) > 1 then (l : Int) else 1) = (p : Int) ∧ p ≤ l ∧ (0 < l → p < l) := by
  split
  · rename_i h
    have h0 : 0 ≤ z % (l : Int) := Int.emod_nonneg _ (by omega)
    have h1 : z % (l : Int) < (l : Int) := Int.emod_lt_of_pos _ (by omega)
    exact ⟨(z % (l : Int)).toNat, by omega, by omega, fun _ => by omega⟩
  · exact ⟨0, by omega, by omega, fun h => h⟩
theorem which_of (z : Int) : ∃ w : Nat, z % 8 = (w : Int) ∧ w < 8 := mod_nat z 8 (by decide)
theorem ixN_at {n j : Nat} (h : j < n) : ixN n (j : Int) = some j := by
  unfold ixN
  rw [if_pos (by omega), if_pos (by omega)]
  simp
theorem erase_map : ∀ (l : List Int) (i : Nat), (l.map V.int).eraseIdx i = (l.eraseIdx i).map V.int
  | [], _ => rfl
  | _ :: _, 0 => rfl
  | a :: r, i + 1 => by
    show V.int a :: (r.map V.int).eraseIdx i = V.int a :: (r.eraseIdx i).map V.int
    rw [erase_map r i]
/-- the hues, be they a dyeing or not, in a state after H -/
structure Spoil (H H' : Hp) (lh : Addr) (hs : List Int) : Prop where
  same : Same H H'
  at_ : H' lh = some (.lst (hs.map V.int))
  few : hs.length ≤ 60
  small : ∀ h ∈ hs, -1000 ≤ h ∧ h ≤ 1000
theorem Spoil.on {H H' H'' : Hp} {lh : Addr} {hs : List Int} (S : Spoil H H' lh hs) (s : Same H' H'') : Spoil H H'' lh hs := ⟨S.same.trans s, s _ _ S.at_, S.few, S.small⟩
theorem Spoil.new {H H' : Hp} {lh : Addr} {hs hs' : List Int} {xs : List V} (S : Spoil H H' lh hs) (hl : H lh = none) (e : xs = hs'.map V.int) (few : hs'.length ≤ 60) (small : ∀ h ∈ hs', -1000 ≤ h ∧ h ≤ 1000) : Spoil H (upd H' lh (.lst xs)) lh hs' :=
  ⟨S.same.upd hl, by rw [upd_same, e], few, small⟩
theorem seqU2 {t1 t2 u : TS} {D : Ends} {σ : St} {H : Hp} (I : St → Hp → Prop) (rest : ∀ σ H, I σ H → u D σ H) (h : ∀ u' : TS, (∀ σ H, I σ H → u' D σ H) → tSeq t1 (tSeq t2 u') D σ H) : tSeq t1 (tSeq t2 u) D σ H := h u rest
theorem seqU5 {t1 t2 t3 t4 t5 u : TS} {D : Ends} {σ : St} {H : Hp} (I : St → Hp → Prop) (rest : ∀ σ H, I σ H → u D σ H) (h : ∀ u' : TS, (∀ σ H, I σ H → u' D σ H) → tSeq t1 (tSeq t2 (tSeq t3 (tSeq t4 (tSeq t5 u')))) D σ H) :
    tSeq t1 (tSeq t2 (tSeq t3 (tSeq t4 (tSeq t5 u)))) D σ H := h u rest
def LA (K : PySem.W.Frag) (a : Addr) (ns : List Int) (σ : St) (H : Hp) : Prop := ∃ (k : Kd) (n : Nat), n ≤ k.max ∧ σ = [some (.ref a), some (.str k.str), some (.int (n : Nat)), none, none, none, none, none, none, none, none] ∧ Scr K H a ns
def LB (K : PySem.W.Frag) (a : Addr) (ns : List Int) (k : Kd) (n : Nat) (σ : St) (H : Hp) : Prop := ∃ (c p1 : Nat) (how : Int) (lh : Addr) (H3 : Hp) (l0 : Nat) (hs : List Int),
  σ = [some (.ref a), some (.str k.str), some (.int (n : Nat)), some (.int (c : Nat)), some (.ref lh), some (.int (p1 : Nat)), some (.int how), none, none, none, none] ∧ (1 ≤ c ∧ c ≤ 3) ∧ (p1 ≤ l0 ∧ (0 < l0 → p1 < l0) ∧ l0 ≤ 40) ∧ Scr K H3 a ns ∧ H3 lh = none ∧ Spoil H3 H lh hs ∧ hs.length = l0
def LC (K : PySem.W.Frag) (a : Addr) (ns : List Int) (t : Str) (n c : Int) (lh : Addr) (p1 : Nat) (how : Int) (hs : List Int) (σ : St) (H : Hp) : Prop := ∃ (wh : Nat) (lc : Addr), wh < 8 ∧
  σ = [some (.ref a), some (.str t), some (.int n), some (.int c), some (.ref lh), some (.int (p1 : Nat)), some (.int how), some (.int (wh : Nat)), some (.ref lc), none, none] ∧ Scr K H a ns ∧ H lh = some (.lst (hs.map V.int)) ∧ H lc = some (.lst (hs.map V.int))
theorem nat_b {c : Nat} (h : c ≤ 900) : -1000 ≤ (c : Int) ∧ (c : Int) ≤ 1000 := ⟨by omega, by omega⟩
theorem hue_b {c : Nat} {h : Int} (c3 : c ≤ 3) (q : 0 ≤ h ∧ h < (c : Int)) : -1000 ≤ h ∧ h ≤ 1000 := ⟨by omega, by omega⟩
theorem max1_pos (l : Nat) : (0 : Int) < (if (l : Int) > 1 then (l : Int) else 1) := by split <;> omega
theorem len_pos {hs : List Int} (h : decide ((((hs.map V.int).length : Nat) : Int) > 0) = true) : 0 < hs.length := by
  have := of_decide_eq_true h
  rw [List.length_map] at this
  omega
theorem set_b {hs : List Int} {p : Nat} {odd : Int} (s : ∀ h ∈ hs, -1000 ≤ h ∧ h ≤ 1000) (o : -1000 ≤ odd ∧ odd ≤ 1000) : ∀ h ∈ hs.set p odd, -1000 ≤ h ∧ h ≤ 1000 := fun h hh => by
  rcases List.mem_or_eq_of_mem_set hh with z | z
  · exact s h z
  · rw [z]
    exact o
theorem ins_b {hs : List Int} (p : Nat) (s : ∀ h ∈ hs, -1000 ≤ h ∧ h ≤ 1000) : ∀ h ∈ hs.take p ++ 0 :: hs.drop p, -1000 ≤ h ∧ h ≤ 1000 := fun h hh => by
  rcases List.mem_append.mp hh with z | z
  · exact s h (List.mem_of_mem_take z)
  · rcases List.mem_cons.mp z with z | z
    · rw [z]
      decide
    · exact s h (List.mem_of_mem_drop z)
theorem ins_len {hs : List Int} (p : Nat) (l : hs.length ≤ 50) : (hs.take p ++ 0 :: hs.drop p).length ≤ 60 := by
  rw [List.length_append, List.length_cons, List.length_take, List.length_drop]
  omega
theorem mod5 (z : Int) : -1 ≤ z % 5 - 1 ∧ z % 5 - 1 ≤ 3 := ⟨by omega, by omega⟩
theorem ask_of {H : Hp} {t : Str} {n c : Int} {lh lt : Addr} {hs : List Int} {x y : Int} (ht : t ∈ kindsL) (nb : -1000 ≤ n ∧ n ≤ 1000) (cb : -1000 ≤ c ∧ c ≤ 1000) (eh : H lh = some (.lst (hs.map V.int))) (few : hs.length ≤ 60) (small : ∀ h ∈ hs, -1000 ≤ h ∧ h ≤ 1000)
    (et : H lt = some (.lst [.int x, .int y])) (hx : -1 ≤ x ∧ x ≤ 3) (hy : -1 ≤ y ∧ y ≤ 3) : Ask H t n c lh lt hs x y := ⟨ht, nb.1, nb.2, cb.1, cb.2, ⟨eh, by omega, small⟩, et, by omega, by omega, by omega, by omega⟩
theorem lt_neg (p : Nat) (h : p ≤ 60) : -(2 ^ 63) ≤ (p : Int) := by omega
theorem lt_pos {p : Nat} (h : p ≤ 60) : (p : Int) < 2 ^ 63 := by omega
theorem ins_lt {n : Nat} (h : n ≤ 50) : n < 100000 := by omega
section
variable {P : Program} {w : World} {K : PySem.W.Frag} {mg : Str → Option Value} {base : Heap} {e : Nat → Addr} {hue : Addr}
theorem c_law (T : Txt P w K mg) (C__law_cell_at : Callee P w K mg base CX0 1 "_law_cell_at" ["script", "k"] (sp_cell K)) (C__law_kind_by : Callee P w K mg base CX0 2 "_law_kind_by" ["script", "at", "bounds"] (sp_kind K))
    (C__law_many : Callee P w K mg base CX0 2 "_law_many" ["kind", "size"] sp_many) (C__law_dyed_by : Callee P w K mg base CX0 2 "_law_dyed_by" ["script", "at", "many", "count"] (sp_dyed K))
    (C__law_due : Callee P w K mg base CX0 3 "_law_due" ["which", "kind", "size", "count", "hues", "two"] sp_told) (C__law_told : Callee P w K mg base CX0 23 "_law_told" ["which", "kind", "size", "count", "hues", "two"] sp_told)
    {f : Addr} {fd : FuncData} (F : Fun K "law" "law" s_law f fd) : FnOk P w K mg base CX0 24 f fd ["script"] (sp_law K) := by
  refine F.ok sc_law (fun vs H Q E h => ?_) (fun cdv A outer s H vs Q E hr h => ?_)
  · obtain ⟨a, ns, rfl, _⟩ := h
    rfl
  · obtain ⟨a, ns, rfl, S, q⟩ := h
    have hu := hu_of hr
    have hr__law_told := hr
    have hr__law_due := hr.mono (j := 3) (by decide)
    have hr__law_kind_by := hr.mono (j := 2) (by decide)
    have hr__law_many := hr.mono (j := 2) (by decide)
    have hr__law_dyed_by := hr.mono (j := 2) (by decide)
    have hr__law_cell_at := hr.mono (j := 1) (by decide)
    refine ⟨_, (pss_cons (ps_asg (pe_callC C__law_kind_by hr__law_kind_by rfl (pa_cons (pv 0) (pa_cons pe_int (pa_cons (pe_lst (pa_cons pe_int (pa_cons pe_int (pa_cons pe_int pa_nil)))) pa_nil)))) (pg_tup rfl (pgs_cons (pg_name (i := 1) sc_law.nd rfl (Or.inl rfl)) (pgs_cons (pg_name (i := 2) sc_law.nd rfl (Or.inl rfl)) pgs_nil))))
      (pss_cons (ps_if (pt_cmpR op_gt (pe_op op_mod (pe_callC C__law_cell_at hr__law_cell_at rfl (pa_cons (pv 0) (pa_cons pe_int pa_nil))) pe_int) pe_int (nomark _)) (pss_one (ps_set (i := 2) sc_law.nd rfl (Or.inl rfl) (pe_op op_mod (pv 2) pe_int))) pss_nil)
      (pss_cons (ps_set (i := 3) sc_law.nd rfl (Or.inl rfl) (pe_op op_add pe_int (pe_op op_mod (pe_callC C__law_cell_at hr__law_cell_at rfl (pa_cons (pv 0) (pa_cons pe_int pa_nil))) pe_int)))
      (pss_cons (ps_set (i := 4) sc_law.nd rfl (Or.inl rfl) (pe_callC C__law_dyed_by hr__law_dyed_by rfl (pa_cons (pv 0) (pa_cons pe_int (pa_cons (pe_callC C__law_many hr__law_many rfl (pa_cons (pv 1) (pa_cons (pv 2) pa_nil))) (pa_cons (pv 3) pa_nil))))))
      (pss_cons (ps_set (i := 5) sc_law.nd rfl (Or.inl rfl) (pe_op op_mod (pe_callC C__law_cell_at hr__law_cell_at rfl (pa_cons (pv 0) (pa_cons pe_int pa_nil))) (pe_callB (call_max2 rfl) rfl T.n_max (by decide +kernel) (pa_cons pe_int (pa_cons (pe_callB call_len_seq rfl T.n_len (by decide +kernel) (pa_cons (pv 4) pa_nil)) pa_nil)))))
      (pss_cons (ps_set (i := 6) sc_law.nd rfl (Or.inl rfl) (pe_op op_mod (pe_callC C__law_cell_at hr__law_cell_at rfl (pa_cons (pv 0) (pa_cons pe_int pa_nil))) pe_int))
      (pss_cons (ps_if (PW.pt (pw_and (pt_cmpR op_eq (pv 6) pe_int (nomark _)) (pw_and1 (pt_cmpR op_gt (pe_callB call_len_seq rfl T.n_len (by decide +kernel) (pa_cons (pv 4) pa_nil)) pe_int (nomark _))))) (pss_one (ps_asg (pe_ix ix_list (pe_lst (pa_cons (pe_un un_neg pe_int) (pa_cons (pv 3) (pa_cons pe_int (pa_cons (pe_un un_neg pe_int) pa_nil))))) (pe_op op_mod (pe_op op_fdiv (pe_callC C__law_cell_at hr__law_cell_at rfl (pa_cons (pv 0) (pa_cons pe_int pa_nil))) pe_int) pe_int) (fun _ _ => rfl)) (pg_sub (pv 4) (pv 5) set_list))) pss_nil)
      (pss_cons (ps_if (PW.pt (pw_and (pt_cmpR op_eq (pv 6) pe_int (nomark _)) (pw_and1 (pt_cmpR op_gt (pe_callB call_len_seq rfl T.n_len (by decide +kernel) (pa_cons (pv 4) pa_nil)) pe_int (nomark _))))) (pss_one (ps_expr (pe_bm PySem.F.plainAttrs_list PySem.F.slot_list_pop PySem.F.type_list_pop mt_popAt (pv 4) (pa_cons (pv 5) pa_nil)))) pss_nil)
      (pss_cons (ps_if (pt_cmpR op_eq (pv 6) pe_int (nomark _)) (pss_one (ps_expr (pe_bm PySem.F.plainAttrs_list PySem.F.slot_list_insert PySem.F.type_list_insert mt_insert (pv 4) (pa_cons (pv 5) (pa_cons pe_int pa_nil))))) pss_nil)
      (pss_cons (ps_if (pt_cmpR op_eq (pe_op op_mod (pe_callC C__law_cell_at hr__law_cell_at rfl (pa_cons (pv 0) (pa_cons pe_int pa_nil))) pe_int) pe_int (nomark _)) (pss_one (ps_set (i := 3) sc_law.nd rfl (Or.inl rfl) (pe_ix ix_list (pe_lst (pa_cons pe_int (pa_cons pe_int (pa_cons (pe_un un_neg pe_int) (pa_cons pe_int pa_nil))))) (pe_op op_mod (pe_callC C__law_cell_at hr__law_cell_at rfl (pa_cons (pv 0) (pa_cons pe_int pa_nil))) pe_int) (fun _ _ => rfl)))) pss_nil)
      (pss_cons (ps_if (pt_cmpR op_eq (pe_op op_mod (pe_callC C__law_cell_at hr__law_cell_at rfl (pa_cons (pv 0) (pa_cons pe_int pa_nil))) pe_int) pe_int (nomark _)) (pss_one (ps_set (i := 2) sc_law.nd rfl (Or.inl rfl) (pe_ix ix_list (pe_lst (pa_cons (pe_un un_neg pe_int) (pa_cons (pe_ix ix_list (pe_lst (pa_cons pe_int (pa_cons pe_int pa_nil))) (pe_callTy call_int1 rfl T.n_int (by decide +kernel) (pa_cons (pe_cmpR op_ne (pv 1) pe_str (nomark _)) pa_nil)) (fun _ _ => rfl)) (pa_cons pe_int (pa_cons (pe_un un_neg pe_int) pa_nil))))) (pe_op op_mod (pe_op op_fdiv (pe_callC C__law_cell_at hr__law_cell_at rfl (pa_cons (pv 0) (pa_cons pe_int pa_nil))) pe_int) pe_int) (fun _ _ => rfl)))) pss_nil)
      (pss_cons (ps_if (pt_cmpR op_eq (pe_op op_mod (pe_op op_fdiv (pe_callC C__law_cell_at hr__law_cell_at rfl (pa_cons (pv 0) (pa_cons pe_int pa_nil))) pe_int) pe_int) pe_int (nomark _)) (pss_one (ps_set (i := 1) sc_law.nd rfl (Or.inl rfl) (pe_ix ix_list (pe_lst (pa_cons pe_str (pa_cons pe_str (pa_cons pe_str (pa_cons pe_str (pa_cons pe_str (pa_cons pe_str (pa_cons pe_str pa_nil)))))))) (pe_op op_mod (pe_callC C__law_cell_at hr__law_cell_at rfl (pa_cons (pv 0) (pa_cons pe_int pa_nil))) pe_int) (fun _ _ => rfl)))) pss_nil)
      (pss_cons (ps_set (i := 7) sc_law.nd rfl (Or.inl rfl) (pe_op op_mod (pe_callC C__law_cell_at hr__law_cell_at rfl (pa_cons (pv 0) (pa_cons pe_int pa_nil))) pe_int))
      (pss_cons (ps_set (i := 8) sc_law.nd rfl (Or.inl rfl) (pe_callTy call_list_of rfl T.n_list (by decide +kernel) (pa_cons (pv 4) pa_nil)))
      (pss_cons (ps_set (i := 9) sc_law.nd rfl (Or.inl rfl) (pe_lst (pa_cons (pe_op op_sub (pe_op op_mod (pe_callC C__law_cell_at hr__law_cell_at rfl (pa_cons (pv 0) (pa_cons pe_int pa_nil))) pe_int) pe_int) (pa_cons (pe_op op_sub (pe_op op_mod (pe_callC C__law_cell_at hr__law_cell_at rfl (pa_cons (pv 0) (pa_cons pe_int pa_nil))) pe_int) pe_int) pa_nil))))
      (pss_cons (ps_set (i := 10) sc_law.nd rfl (Or.inl rfl) (pe_callC C__law_due hr__law_due rfl (pa_cons (pv 7) (pa_cons (pv 1) (pa_cons (pv 2) (pa_cons (pv 3) (pa_cons (pv 4) (pa_cons (pv 9) pa_nil))))))))
      (pss_one (ps_ret (pe_and (pe_cmpR op_eq (pe_callC C__law_told hr__law_told rfl (pa_cons (pv 7) (pa_cons (pv 1) (pa_cons (pv 2) (pa_cons (pv 3) (pa_cons (pv 8) (pa_cons (pv 9) pa_nil))))))) (pv 10) (nomark _)) (pe_one (pe_cmpR (op_eqL hu) (pv 8) (pv 4) (nomark _)))))))))))))))))))))), ?_⟩
    clear hu
    -- kind, size = ..
    refine seqU2 (LA K a ns) ?_ (fun u' nx => ?_)
    rotate_left
    · refine ⟨_, rfl, three_le, fun lb hlb => ⟨a, ns, 0, lb, Kd.max, rfl, S.same (Same.here hlb), upd_same, fun k => Nat.le_trans k.max_le (by decide), fun p H1 k n0 hn0 s1 ep => ?_⟩⟩
      refine ⟨p, _, rfl, SqT.of ep, rfl, _, _, rfl, _, _, rfl, rfl, ?_⟩
      have S1 := S.same ((Same.here hlb).trans s1)
      -- size = size % 6
      refine ⟨_, rfl, a, ns, 9, rfl, S1, _, _, rfl, rfl, (by show (0 : Int) < 3; decide), _, _, rfl, rfl, _, rfl, ?_⟩
      refine ifN _ nx (fun _ rest => ⟨_, rfl, _, _, rfl, rfl, (by show (0 : Int) < 6; decide), rest _ _ ⟨k, n0 % 6, Nat.le_trans (Nat.mod_le _ _) hn0, ?_, S1⟩⟩) (fun _ => ⟨k, n0, hn0, rfl, S1⟩)
      rw [Int.natCast_emod]
      rfl
    rintro σ H1 ⟨k, n, hn, rfl, S1⟩
    have hm40 := manyN_le k n hn
    refine seqU5 (LB K a ns k n) ?_ (fun u' nx => ?_)
    rotate_left
    · -- count
      refine ⟨_, rfl, a, ns, 1, rfl, S1, _, _, rfl, rfl, (by show (0 : Int) < 3; decide), _, _, rfl, rfl, ?_⟩
      obtain ⟨c, hc, c1, c3⟩ := count_of (ns.getD 1 0)
      show gName 3 (V.int (1 + ns.getD 1 0 % 3)) _ _ _
      rw [hc]
      clear hc
      -- hues
      refine ⟨_, rfl, _, rfl, _, rfl, k, n, rfl, hn, fun H3 s3 => ⟨_, rfl, a, ns, 2, manyN k n, c, by rw [many_eq k n hn]; rfl, S1.same s3, c1, c3, Nat.le_trans hm40 (by decide), fun lh H4 hs hlh s4 eh4 len hueIn => ?_⟩⟩
      have S3 := S1.same s3
      have l40 : hs.length ≤ 40 := by rw [len]; exact hm40
      have D4 : Spoil H3 H4 lh hs := ⟨s4, eh4, Nat.le_trans l40 (by decide), fun h hh => hue_b c3 (hueIn h hh)⟩
      -- at
      refine ⟨_, rfl, a, ns, 7, rfl, S3.same D4.same, _, rfl, lh, _, rfl, .inl (SqL.of D4.at_), 1, _, rfl, _, _, rfl, rfl, max1_pos _, ?_⟩
      obtain ⟨p1, hp1, ple, plt⟩ := place_of (ns.getD 7 0) (hs.map V.int).length
      show gName 5 (V.int (ns.getD 7 0 % (if (((hs.map V.int).length : Nat) : Int) > 1 then (((hs.map V.int).length : Nat) : Int) else 1))) _ _ _
      rw [hp1]
      clear hp1
      rw [List.length_map] at ple plt
      -- how
      refine ⟨_, rfl, a, ns, 8, rfl, S3.same D4.same, _, _, rfl, rfl, (by show (0 : Int) < 12; decide), ?_⟩
      show gName 6 (V.int (ns.getD 8 0 % 12)) _ _ _
      generalize ns.getD 8 0 % 12 = how
      -- a hue is none
      have inv : ∀ H5 hs', Spoil H3 H5 lh hs' → hs'.length = hs.length → LB K a ns k n [some (.ref a), some (.str k.str), some (.int (n : Nat)), some (.int (c : Nat)), some (.ref lh), some (.int (p1 : Nat)), some (.int how), none, none, none, none] H5 :=
        fun H5 hs' z e => ⟨c, p1, how, lh, H3, hs.length, hs', rfl, ⟨c1, c3⟩, ⟨ple, plt, l40⟩, S3, hlh, z, e⟩
      refine ⟨_, rfl, rfl, _, rfl, ifQ _ nx (fun _ rest => ?_) (fun _ => inv _ _ D4 rfl)⟩
      refine ⟨_, rfl, lh, _, rfl, .inl (SqL.of D4.at_), _, _, rfl, rfl, _, rfl, ifB (fun h0 => ?_) (fun _ => rest _ _ (inv _ _ D4 rfl))⟩
      have pos := len_pos h0
      obtain ⟨odd, eo, o1, o2⟩ := odd4 (ns.getD 7 0 / 40) (-1) (c : Nat) 100 (-100) ⟨by decide, nat_b (Nat.le_trans c3 (by decide)), by decide, by decide⟩
      refine ⟨_, rfl, _, rfl, _, rfl, Nat.le_of_lt (small1000 (Nat.le_of_ble_eq_true rfl)), fun lo hlo => ?_⟩
      have D5 := D4.on (Same.here (o := .lst [.int (-1), .int (c : Nat), .int 100, .int (-100)]) hlo)
      refine ⟨_, rfl, a, ns, 7, rfl, S3.same D5.same, _, _, rfl, rfl, ⟨by decide, by decide⟩, _, _, rfl, rfl, (by show (0 : Int) < 4; decide), lo, _, _, _, rfl, rfl, SqL.of upd_same, eo, ?_⟩
      refine ⟨_, rfl, _, rfl, lh, _, _, p1, rfl, rfl, D5.at_, ixN_at (by rw [List.length_map]; exact plt pos), ?_⟩
      exact rest _ _ (inv _ (hs.set p1 odd) (D5.new hlh (by rw [List.map_set]) (by rw [List.length_set]; exact D4.few) (set_b D4.small ⟨o1, o2⟩)) List.length_set)
    clear hm40 S1
    rintro σ H5 ⟨c, p1, how, lh, H3, l0, h5, rfl, ⟨c1, c3⟩, ⟨ple, plt, l40⟩, S3, hlh, D5, l5⟩
    -- a hue too few
    refine seq1 (fun σ H6 => ∃ hs' : List Int, σ = [some (.ref a), some (.str k.str), some (.int (n : Nat)), some (.int (c : Nat)), some (.ref lh), some (.int (p1 : Nat)), some (.int how), none, none, none, none] ∧ Spoil H3 H6 lh hs' ∧ hs'.length ≤ 50 ∧ (how = 3 → hs'.length = l0)) ?_ (fun n' nx => ?_)
    rotate_left
    · have l50 : h5.length ≤ 50 := by rw [l5]; exact Nat.le_trans l40 (by decide)
      refine ⟨_, rfl, rfl, _, rfl, ifQ _ nx (fun he rest => ?_) (fun _ => ⟨h5, rfl, D5, l50, fun _ => l5⟩)⟩
      refine ⟨_, rfl, lh, _, rfl, .inl (SqL.of D5.at_), _, _, rfl, rfl, _, rfl, ifB (fun h0 => ?_) (fun _ => rest _ _ ⟨h5, rfl, D5, l50, fun _ => l5⟩)⟩
      have pos := len_pos h0
      have pl : p1 < h5.length := by rw [l5]; exact plt (by rw [← l5]; exact pos)
      rw [decI] at he
      have hw2 : how = 2 := of_decide_eq_true he
      have le5 : (h5.eraseIdx p1).length ≤ h5.length := by
        rw [List.length_eraseIdx]
        split <;> first | exact Nat.sub_le _ _ | exact Nat.le_refl _
      refine ⟨_, rfl, .inl ⟨rfl, _, SqL.of D5.at_⟩, _, rfl, lh, _, _, p1, _, rfl, rfl, D5.at_, lt_neg _ (Nat.le_trans ple (Nat.le_trans l40 (by decide))), lt_pos (Nat.le_trans ple (Nat.le_trans l40 (by decide))), (ixN_seq (ixN_at (by rw [List.length_map]; exact pl))).1, ints_at h5 pl, ?_⟩
      exact rest _ _ ⟨h5.eraseIdx p1, rfl, D5.new hlh (erase_map _ _) (Nat.le_trans le5 D5.few) (fun h hh => D5.small h (List.mem_of_mem_eraseIdx hh)), Nat.le_trans le5 l50, fun z => absurd (z.symm.trans hw2) (by decide)⟩
    clear D5 l5
    rintro σ H6 ⟨h6, rfl, D6, l6, k6⟩
    -- a hue too many
    refine seq1 (fun σ H7 => ∃ hs' : List Int, σ = [some (.ref a), some (.str k.str), some (.int (n : Nat)), some (.int (c : Nat)), some (.ref lh), some (.int (p1 : Nat)), some (.int how), none, none, none, none] ∧ Spoil H3 H7 lh hs') ?_ (fun n' nx => ?_)
    rotate_left
    · refine ⟨_, rfl, rfl, _, rfl, ifN _ nx (fun he rest => ?_) (fun _ => ⟨h6, rfl, D6⟩)⟩
      rw [decI] at he
      have len6 := k6 (of_decide_eq_true he)
      have p6 : p1 ≤ h6.length := by rw [len6]; exact ple
      refine ⟨_, rfl, .inl ⟨rfl, _, SqL.of D6.at_⟩, _, rfl, lh, _, p1, .int 0, rfl, rfl, D6.at_, by rw [List.length_map]; exact p6, by rw [List.length_map]; exact ins_lt l6, ?_⟩
      exact rest _ _ ⟨h6.take p1 ++ 0 :: h6.drop p1, rfl, D6.new hlh (by rw [List.map_append, List.map_cons, List.map_take, List.map_drop]) (ins_len p1 l6) (ins_b p1 D6.small)⟩
    clear D6 l6 k6 ple plt l40
    rintro σ H7 ⟨h7, rfl, D7⟩
    -- count
    refine seq1 (fun σ H8 => ∃ c' : Int, (-1000 ≤ c' ∧ c' ≤ 1000) ∧ σ = [some (.ref a), some (.str k.str), some (.int (n : Nat)), some (.int c'), some (.ref lh), some (.int (p1 : Nat)), some (.int how), none, none, none, none] ∧ Spoil H3 H8 lh h7) ?_ (fun n' nx => ?_)
    rotate_left
    · refine ⟨_, rfl, a, ns, 5, rfl, S3.same D7.same, _, _, rfl, rfl, (by show (0 : Int) < 6; decide), rfl, _, rfl, ?_⟩
      refine ifN _ nx (fun _ rest => ?_) (fun _ => ⟨c, nat_b (Nat.le_trans c3 (by decide)), rfl, D7⟩)
      obtain ⟨odd, eo, o1, o2⟩ := odd4 (ns.getD 1 0) 0 4 (-1) 100 ⟨by decide, by decide, by decide, by decide⟩
      refine ⟨_, rfl, Nat.le_of_lt (small1000 (Nat.le_of_ble_eq_true rfl)), fun lo hlo => ?_⟩
      have D8 := D7.on (Same.here (o := .lst [.int 0, .int 4, .int (-1), .int 100]) hlo)
      exact ⟨_, rfl, a, ns, 1, rfl, S3.same D8.same, _, _, rfl, rfl, (by show (0 : Int) < 4; decide), lo, _, _, _, rfl, rfl, SqL.of upd_same, eo, rest _ _ ⟨odd, ⟨o1, o2⟩, rfl, D8⟩⟩
    clear D7 c1 c3
    rintro σ H8 ⟨c', cb, rfl, D8⟩
    -- size
    refine seq1 (fun σ H9 => ∃ n' : Int, (-1000 ≤ n' ∧ n' ≤ 1000) ∧ σ = [some (.ref a), some (.str k.str), some (.int n'), some (.int c'), some (.ref lh), some (.int (p1 : Nat)), some (.int how), none, none, none, none] ∧ Spoil H3 H9 lh h7) ?_ (fun n' nx => ?_)
    rotate_left
    · have m40 := k.max_le
      refine ⟨_, rfl, a, ns, 6, rfl, S3.same D8.same, _, _, rfl, rfl, (by show (0 : Int) < 6; decide), rfl, _, rfl, ?_⟩
      refine ifN _ nx (fun _ rest => ?_) (fun _ => ⟨n, nat_b (Nat.le_trans (Nat.le_trans hn m40) (by decide)), rfl, D8⟩)
      obtain ⟨odd, eo, o1, o2⟩ := odd4 (ns.getD 1 0 / 4) (-1) ((k.max + 1 : Nat) : Int) 100 (-100) ⟨by decide, nat_b (Nat.le_trans (Nat.succ_le_succ m40) (by decide)), by decide, by decide⟩
      refine ⟨_, rfl, two_le, fun l2 hl2 => ?_⟩
      have D9 := D8.on (Same.here (o := .lst [.int 10, .int 41]) hl2)
      refine ⟨_, rfl, rfl, .inr ⟨_, rfl, l2, _, _, _, rfl, rfl, SqL.of upd_same, over_at k, ?_⟩⟩
      generalize upd H8 l2 (.lst [.int 10, .int 41]) = H9 at D9 ⊢
      refine ⟨_, rfl, Nat.le_of_lt (small1000 (Nat.le_of_ble_eq_true rfl)), fun l3 hl3 => ?_⟩
      have D10 := D9.on (Same.here (o := .lst [.int (-1), .int ((k.max + 1 : Nat) : Int), .int 100, .int (-100)]) hl3)
      exact ⟨_, rfl, a, ns, 1, rfl, S3.same D10.same, _, _, rfl, rfl, ⟨by decide, by decide⟩, _, _, rfl, rfl, (by show (0 : Int) < 4; decide), l3, _, _, _, rfl, rfl, SqL.of upd_same, eo, rest _ _ ⟨odd, ⟨o1, o2⟩, rfl, D10⟩⟩
    clear D8 hn
    rintro σ H9 ⟨n', nb, rfl, D9⟩
    -- kind
    refine seq1 (fun σ H10 => ∃ t : Str, t ∈ kindsL ∧ σ = [some (.ref a), some (.str t), some (.int n'), some (.int c'), some (.ref lh), some (.int (p1 : Nat)), some (.int how), none, none, none, none] ∧ Spoil H3 H10 lh h7) ?_ (fun m' nx => ?_)
    rotate_left
    · refine ⟨_, rfl, a, ns, 6, rfl, S3.same D9.same, _, _, rfl, rfl, ⟨by decide, by decide⟩, _, _, rfl, rfl, (by show (0 : Int) < 6; decide), rfl, _, rfl, ?_⟩
      refine ifN _ nx (fun _ rest => ?_) (fun _ => ⟨k.str, kind_in k, rfl, D9⟩)
      obtain ⟨t, eo, ht⟩ := odd7 (ns.getD 0 0)
      refine ⟨Nat.le_of_lt (small1000 (Nat.le_of_ble_eq_true rfl)), fun lo hlo => ?_⟩
      have D10 := D9.on (Same.here (o := .lst [.str "", .str "pair", .str "Pairs", .str "sums ", .str "step", .str "stepss", .str "pairsums"]) hlo)
      exact ⟨_, rfl, a, ns, 0, rfl, S3.same D10.same, _, _, rfl, rfl, (by show (0 : Int) < 7; decide), lo, _, _, _, rfl, rfl, SqL.of upd_same, eo, rest _ _ ⟨t, ht, rfl, D10⟩⟩
    clear D9
    rintro σ H10 ⟨t, ht, rfl, D10⟩
    -- which, handed
    refine seqU2 (LC K a ns t n' c' lh p1 how h7) ?_ (fun u' nx => ?_)
    rotate_left
    · refine ⟨_, rfl, a, ns, 10, rfl, S3.same D10.same, _, _, rfl, rfl, (by show (0 : Int) < 8; decide), ?_⟩
      obtain ⟨wh, hwh, w8⟩ := which_of (ns.getD 10 0)
      show gName 7 (V.int (ns.getD 10 0 % 8)) _ _ _
      rw [hwh]
      clear hwh
      refine ⟨_, rfl, lh, _, rfl, .inl (SqL.of D10.at_), fun lc hlc => ?_⟩
      have s11 := Same.here (o := .lst (h7.map V.int)) hlc
      exact nx _ _ ⟨wh, lc, w8, rfl, S3.same (D10.same.trans s11), s11 _ _ D10.at_, upd_same⟩
    have few := D10.few
    have small := D10.small
    clear D10 S3 hlh
    rintro σ H11 ⟨wh, lc, w8, rfl, S11, eh, ec⟩
    -- two
    refine seq1 (fun σ H12 => ∃ (x y : Int) (lt : Addr), (-1 ≤ x ∧ x ≤ 3) ∧ (-1 ≤ y ∧ y ≤ 3) ∧ σ = [some (.ref a), some (.str t), some (.int n'), some (.int c'), some (.ref lh), some (.int (p1 : Nat)), some (.int how), some (.int (wh : Nat)), some (.ref lc), some (.ref lt), none] ∧ H12 lh = some (.lst (h7.map V.int)) ∧ H12 lc = some (.lst (h7.map V.int)) ∧ H12 lt = some (.lst [.int x, .int y])) ?_ (fun m' nx => ?_)
    rotate_left
    · refine ⟨_, rfl, a, ns, 11, rfl, S11, _, _, rfl, rfl, (by show (0 : Int) < 5; decide), _, _, rfl, rfl, _, rfl, a, ns, 12, rfl, S11, _, _, rfl, rfl, (by show (0 : Int) < 5; decide), _, _, rfl, rfl, two_le, fun lt hlt => ?_⟩
      have s12 := Same.here (o := .lst [.int (ns.getD 11 0 % 5 - 1), .int (ns.getD 12 0 % 5 - 1)]) hlt
      exact nx _ _ ⟨_, _, lt, mod5 _, mod5 _, rfl, s12 _ _ eh, s12 _ _ ec, upd_same⟩
    clear S11 eh ec
    rintro σ H12 ⟨x, y, lt, hx, hy, rfl, eh, ec, et⟩
    -- due
    refine ⟨_, rfl, _, rfl, _, rfl, _, rfl, _, rfl, _, rfl, wh, t, n', c', lh, lt, h7, x, y, rfl, w8, ask_of ht nb cb eh few small et hx hy, fun H13 s13 => ?_⟩
    refine ⟨_, rfl, _, rfl, _, rfl, _, rfl, _, rfl, _, rfl, wh, t, n', c', lc, lt, h7, x, y, rfl, w8, ask_of ht nb cb (s13 _ _ ec) few small (s13 _ _ et) hx hy, fun H14 s14 => ?_⟩
    refine ⟨_, rfl, rfl, _, rfl, ifT (by simp) ?_⟩
    refine ⟨_, rfl, _, rfl, lc, lh, _, _, _, _, rfl, rfl, SqL.of (s14 _ _ (s13 _ _ ec)), SqL.of (s14 _ _ (s13 _ _ eh)), DRels.ints _ h7, DRels.ints _ h7, homII _ _, ?_⟩
    simpa using q H14
theorem law_ok (T : Txt P w K mg)
    (F_check_kind : FunAt K mg "check_kind" ["kind"] s_check_kind)
    (F_check_kind_and_size : FunAt K mg "check_kind_and_size" ["kind", "size"] s_check_kind_and_size)
    (F_things : FunAt K mg "things" ["kind", "size"] s_things)
    (F_triples : FunAt K mg "triples" ["kind", "size"] s_triples)
    (F_pair_numbers : FunAt K mg "pair_numbers" ["points"] s_pair_numbers)
    (F_pair_triples : FunAt K mg "pair_triples" ["points"] s_pair_triples)
    (F_sum_triples : FunAt K mg "sum_triples" ["size"] s_sum_triples)
    (F_step_triples : FunAt K mg "step_triples" ["size"] s_step_triples)
    (F_check_count : FunAt K mg "check_count" ["count"] s_check_count)
    (F_check_dyeing : FunAt K mg "check_dyeing" ["kind", "size", "count", "hues"] s_check_dyeing)
    (F_check_hue : FunAt K mg "check_hue" ["hue", "count"] s_check_hue)
    (F_is_hue : FunAt K mg "is_hue" ["hue", "count"] s_is_hue)
    (F_is_of_one_hue : FunAt K mg "is_of_one_hue" ["triple", "hues"] s_is_of_one_hue)
    (F_one_hued : FunAt K mg "one_hued" ["kind", "size", "count", "hues"] s_one_hued)
    (F_is_free : FunAt K mg "is_free" ["kind", "size", "count", "hues"] s_is_free)
    (F_exchanged : FunAt K mg "exchanged" ["kind", "size", "count", "hues", "one", "other"] s_exchanged)
    (F_exchanged_hue : FunAt K mg "exchanged_hue" ["hue", "one", "other"] s_exchanged_hue)
    (F_first_free : FunAt K mg "first_free" ["kind", "size", "count"] s_first_free)
    (F_how_many : FunAt K mg "how_many" ["kind", "size", "count"] s_how_many)
    (F_first_size : FunAt K mg "first_size" ["kind", "count"] s_first_size)
    (F_check_asked : FunAt K mg "check_asked" ["kind", "size", "count"] s_check_asked)
    (F_check_things : FunAt K mg "check_things" ["kind", "size", "most"] s_check_things)
    (F_ended_triples : FunAt K mg "ended_triples" ["kind", "size"] s_ended_triples)
    (F_stays_free : FunAt K mg "stays_free" ["hues", "ended"] s_stays_free)
    (F_one_longer : FunAt K mg "one_longer" ["begun", "ended", "count"] s_one_longer)
    (F_first_from : FunAt K mg "first_from" ["begun", "ended", "count"] s_first_from)
    (F_how_many_from : FunAt K mg "how_many_from" ["begun", "ended", "count"] s_how_many_from)
    (F__law_cell_at : FunAt K mg "_law_cell_at" ["script", "k"] s__law_cell_at)
    (F__law_pairs : FunAt K mg "_law_pairs" ["size"] s__law_pairs)
    (F__law_many : FunAt K mg "_law_many" ["kind", "size"] s__law_many)
    (F__law_kind_by : FunAt K mg "_law_kind_by" ["script", "at", "bounds"] s__law_kind_by)
    (F__law_stirred : FunAt K mg "_law_stirred" ["cell", "k"] s__law_stirred)
    (F__law_dyed_by : FunAt K mg "_law_dyed_by" ["script", "at", "many", "count"] s__law_dyed_by)
    (F__law_other : FunAt K mg "_law_other" ["e", "wanted"] s__law_other)
    (F__law_called : FunAt K mg "_law_called" ["which", "kind", "size", "count", "hues", "two"] s__law_called)
    (F__law_told : FunAt K mg "_law_told" ["which", "kind", "size", "count", "hues", "two"] s__law_told)
    (F__law_due : FunAt K mg "_law_due" ["which", "kind", "size", "count", "hues", "two"] s__law_due)
    {f : Addr} {fd : FuncData} (F : Fun K "law" "law" s_law f fd) : FnOk P w K mg base CX0 24 f fd ["script"] (sp_law K) := by
  obtain ⟨e, hue, EE⟩ := T.errs
  have CN := c_check_count (base := base) T F_check_count
  have C0 := c_check_kind_and_size (base := base) T (c_check_kind T F_check_kind) F_check_kind_and_size
  have C1 := c__law_pairs (base := base) T F__law_pairs
  have CC := c__law_cell_at (base := base) T F__law_cell_at
  have CM := c__law_many T C1 F__law_many
  have CP := c_pair_triples (base := base) T (c_pair_numbers T F_pair_numbers) F_pair_triples
  have CS := c_sum_triples (base := base) T F_sum_triples
  have CE := c_step_triples (base := base) T F_step_triples
  have CT := c_triples C0 CP CS CE F_triples
  have C3 := c_things C0 F_things
  have CG := c_thingsN C3
  have CH := c_is_hue (P := P) (w := w) (base := base) F_is_hue
  have CI := c_is_of_one_hue (P := P) (w := w) (base := base) F_is_of_one_hue
  have CL := c_one_longer (base := base) T (c_stays_free T CI F_stays_free) F_one_longer
  have CD := c_ended_triples T CG CT F_ended_triples
  have CF := c_first_from T CL F_first_from
  have C5 := c_first_free T (c_check_asked C0 CN F_check_asked) (c_check_things CG F_check_things) CD CF F_first_free
  have XK := x_check_kind (base := base) T EE F_check_kind
  have XS := x_check_kind_and_size T EE XK F_check_kind_and_size
  have XC := x_check_count (base := base) T EE F_check_count
  have XD := x_check_dyeing T EE XS XC CG CH F_check_dyeing
  have XO := x_one_hued XD CT CI F_one_hued
  have XA := x_check_asked XS XC F_check_asked
  have XT := x_check_things EE CG F_check_things
  have XL := x__law_called (x_things XS F_things) (x_triples XS CP CS CE F_triples) XO (x_is_free T XO F_is_free) (x_exchanged XD (c_check_hue EE CH F_check_hue) (c_exchanged_hue F_exchanged_hue) F_exchanged)
    (x_first_free T XA XT CD CF F_first_free) (x_how_many T XA XT CD (c_how_many_from T CL F_how_many_from) F_how_many) (x_first_size T EE XK XC C5 F_first_size) F__law_called
  exact c_law T CC (c__law_kind_by CC F__law_kind_by) CM (c__law_dyed_by T CC (c__law_stirred F__law_stirred) F__law_dyed_by) (c__law_due T CM F__law_due) (c__law_told T EE XL (c__law_other T EE F__law_other) F__law_told) F
def lawDepth : Nat := 24
end
end OH

/-! The top makes a quick copy of the fragment, under this name, and never uses it (its type keeps it out): 5 MB of the olean's 64. A name that is taken is not made anew. -/
def PySem.W.Fast.tw16702850507116350670 : Nat := 0

/-! The top: from the text's place to the statement. -/
namespace OH
open PySem L2
theorem all_s {n : Nat} {P : List Value → Prop} (h : ∀ a us, us.length = n → P (a :: us)) : ∀ us : List Value, us.length = n + 1 → P us
  | [], e => by cases e
  | a :: us, e => h a us (Nat.succ.inj e)
theorem usl1 {P : List Value → Prop} (h : ∀ a, P [a]) : ∀ us : List Value, us.length = 1 → P us := all_s fun a us e => by cases us with | nil => exact h a | cons _ _ => cases e
theorem usl2 {P : List Value → Prop} (h : ∀ a b, P [a, b]) : ∀ us : List Value, us.length = 2 → P us := all_s fun a => usl1 (h a)
theorem usl3 {P : List Value → Prop} (h : ∀ a b c, P [a, b, c]) : ∀ us : List Value, us.length = 3 → P us := all_s fun a => usl2 (h a)
theorem usl4 {P : List Value → Prop} (h : ∀ a b c d, P [a, b, c, d]) : ∀ us : List Value, us.length = 4 → P us := all_s fun a => usl3 (h a)
theorem usl5 {P : List Value → Prop} (h : ∀ a b c d e, P [a, b, c, d, e]) : ∀ us : List Value, us.length = 5 → P us := all_s fun a => usl4 (h a)
theorem usl6 {P : List Value → Prop} (h : ∀ a b c d e f, P [a, b, c, d, e, f]) : ∀ us : List Value, us.length = 6 → P us := all_s fun a => usl5 (h a)
theorem all_mk {l : PySem.W.OpenLaw} {w : World} {K : PySem.W.Frag} {h : Heap} {mg : Str → Option Value} {fa f : Addr} {oc kV doc pm cdv ct : Value} {od an : Option Addr} {osl : Array (Option Value)} (X : K.In h) (G : h.Ns mainGlobals mg) (hfa : mg "law" = some (.ref fa))
    (aL : PySem.W.nsIn K mainGlobals "law" = some (some (.ref f))) (lL : K.lookup f = some ⟨oc, od, .func (PySem.W.fnOf "law" "law" (defArgs s_law) (defBody s_law) (defScope s_law) .none kV doc pm an cdv ct), osl⟩) (cL : PySem.W.codeIn K cdv "law" = true) (kL : PySem.W.keepIn K (.ref f) = true)
    (F_check_kind : FunAt K mg "check_kind" ["kind"] s_check_kind)
    (F_check_kind_and_size : FunAt K mg "check_kind_and_size" ["kind", "size"] s_check_kind_and_size)
    (F_things : FunAt K mg "things" ["kind", "size"] s_things)
    (F_triples : FunAt K mg "triples" ["kind", "size"] s_triples)
    (F_pair_numbers : FunAt K mg "pair_numbers" ["points"] s_pair_numbers)
    (F_pair_triples : FunAt K mg "pair_triples" ["points"] s_pair_triples)
    (F_sum_triples : FunAt K mg "sum_triples" ["size"] s_sum_triples)
    (F_step_triples : FunAt K mg "step_triples" ["size"] s_step_triples)
    (F_check_count : FunAt K mg "check_count" ["count"] s_check_count)
    (F_check_dyeing : FunAt K mg "check_dyeing" ["kind", "size", "count", "hues"] s_check_dyeing)
    (F_check_hue : FunAt K mg "check_hue" ["hue", "count"] s_check_hue)
    (F_is_hue : FunAt K mg "is_hue" ["hue", "count"] s_is_hue)
    (F_is_of_one_hue : FunAt K mg "is_of_one_hue" ["triple", "hues"] s_is_of_one_hue)
    (F_one_hued : FunAt K mg "one_hued" ["kind", "size", "count", "hues"] s_one_hued)
    (F_is_free : FunAt K mg "is_free" ["kind", "size", "count", "hues"] s_is_free)
    (F_exchanged : FunAt K mg "exchanged" ["kind", "size", "count", "hues", "one", "other"] s_exchanged)
    (F_exchanged_hue : FunAt K mg "exchanged_hue" ["hue", "one", "other"] s_exchanged_hue)
    (F_first_free : FunAt K mg "first_free" ["kind", "size", "count"] s_first_free)
    (F_how_many : FunAt K mg "how_many" ["kind", "size", "count"] s_how_many)
    (F_first_size : FunAt K mg "first_size" ["kind", "count"] s_first_size)
    (F_check_asked : FunAt K mg "check_asked" ["kind", "size", "count"] s_check_asked)
    (F_check_things : FunAt K mg "check_things" ["kind", "size", "most"] s_check_things)
    (F_ended_triples : FunAt K mg "ended_triples" ["kind", "size"] s_ended_triples)
    (F_stays_free : FunAt K mg "stays_free" ["hues", "ended"] s_stays_free)
    (F_one_longer : FunAt K mg "one_longer" ["begun", "ended", "count"] s_one_longer)
    (F_first_from : FunAt K mg "first_from" ["begun", "ended", "count"] s_first_from)
    (F_how_many_from : FunAt K mg "how_many_from" ["begun", "ended", "count"] s_how_many_from)
    (F__law_cell_at : FunAt K mg "_law_cell_at" ["script", "k"] s__law_cell_at)
    (F__law_pairs : FunAt K mg "_law_pairs" ["size"] s__law_pairs)
    (F__law_many : FunAt K mg "_law_many" ["kind", "size"] s__law_many)
    (F__law_kind_by : FunAt K mg "_law_kind_by" ["script", "at", "bounds"] s__law_kind_by)
    (F__law_stirred : FunAt K mg "_law_stirred" ["cell", "k"] s__law_stirred)
    (F__law_dyed_by : FunAt K mg "_law_dyed_by" ["script", "at", "many", "count"] s__law_dyed_by)
    (F__law_other : FunAt K mg "_law_other" ["e", "wanted"] s__law_other)
    (F__law_called : FunAt K mg "_law_called" ["which", "kind", "size", "count", "hues", "two"] s__law_called)
    (F__law_told : FunAt K mg "_law_told" ["which", "kind", "size", "count", "hues", "two"] s__law_told)
    (F__law_due : FunAt K mg "_law_due" ["which", "kind", "size", "count", "hues", "two"] s__law_due)
    (z_range : PySem.W.nsIn K mainGlobals "range" = some none)
    (z_len : PySem.W.nsIn K mainGlobals "len" = some none)
    (z_isinstance : PySem.W.nsIn K mainGlobals "isinstance" = some none)
    (z_int : PySem.W.nsIn K mainGlobals "int" = some none)
    (z_bool : PySem.W.nsIn K mainGlobals "bool" = some none)
    (z_list : PySem.W.nsIn K mainGlobals "list" = some none)
    (z_tuple : PySem.W.nsIn K mainGlobals "tuple" = some none)
    (z_sorted : PySem.W.nsIn K mainGlobals "sorted" = some none)
    (z_zip : PySem.W.nsIn K mainGlobals "zip" = some none)
    (z_max : PySem.W.nsIn K mainGlobals "max" = some none)
    (z_min : PySem.W.nsIn K mainGlobals "min" = some none)
    (z_ValueError : PySem.W.nsIn K mainGlobals "ValueError" = some none)
    (z_any : PySem.W.nsIn K mainGlobals "any" = some none)
    (z_sum : PySem.W.nsIn K mainGlobals "sum" = some none)
    {a_GREATEST : Addr} {ep_GREATEST : Nat} {t0_GREATEST u0_GREATEST t1_GREATEST u1_GREATEST t2_GREATEST u2_GREATEST : Tok} (z_GREATEST : PySem.W.nsIn K mainGlobals "GREATEST" = some (some (.ref a_GREATEST)))
    (l_GREATEST : K.lookup a_GREATEST = some ⟨.type "dict", none, .dict #[⟨PyData.keyHash w.params "pairs", .str "pairs" t0_GREATEST, .int 9 u0_GREATEST⟩, ⟨PyData.keyHash w.params "sums", .str "sums" t1_GREATEST, .int 40 u1_GREATEST⟩, ⟨PyData.keyHash w.params "steps", .str "steps" t2_GREATEST, .int 40 u2_GREATEST⟩] ep_GREATEST, #[]⟩) (n_GREATEST : (a_GREATEST == sysModules) = false)
    {t_GREATEST_COUNT : Tok} (z_GREATEST_COUNT : PySem.W.nsIn K mainGlobals "GREATEST_COUNT" = some (some (.int 3 t_GREATEST_COUNT)))
    {t_MOST_THINGS : Tok} (z_MOST_THINGS : PySem.W.nsIn K mainGlobals "MOST_THINGS" = some (some (.int 15 t_MOST_THINGS)))
    {a_MOST_THINGS_COUNTED : Addr} {ep_MOST_THINGS_COUNTED : Nat} {t0_MOST_THINGS_COUNTED u0_MOST_THINGS_COUNTED t1_MOST_THINGS_COUNTED u1_MOST_THINGS_COUNTED t2_MOST_THINGS_COUNTED u2_MOST_THINGS_COUNTED : Tok} (z_MOST_THINGS_COUNTED : PySem.W.nsIn K mainGlobals "MOST_THINGS_COUNTED" = some (some (.ref a_MOST_THINGS_COUNTED)))
    (l_MOST_THINGS_COUNTED : K.lookup a_MOST_THINGS_COUNTED = some ⟨.type "dict", none, .dict #[⟨hashInt 1, .int 1 t0_MOST_THINGS_COUNTED, .int 15 u0_MOST_THINGS_COUNTED⟩, ⟨hashInt 2, .int 2 t1_MOST_THINGS_COUNTED, .int 15 u1_MOST_THINGS_COUNTED⟩, ⟨hashInt 3, .int 3 t2_MOST_THINGS_COUNTED, .int 8 u2_MOST_THINGS_COUNTED⟩] ep_MOST_THINGS_COUNTED, #[]⟩) (n_MOST_THINGS_COUNTED : (a_MOST_THINGS_COUNTED == sysModules) = false)
    {a_MOST_HUES : Addr} {ep_MOST_HUES : Nat} {t0_MOST_HUES u0_MOST_HUES t1_MOST_HUES u1_MOST_HUES t2_MOST_HUES u2_MOST_HUES : Tok} (z_MOST_HUES : PySem.W.nsIn K mainGlobals "MOST_HUES" = some (some (.ref a_MOST_HUES)))
    (l_MOST_HUES : K.lookup a_MOST_HUES = some ⟨.type "dict", none, .dict #[⟨PyData.keyHash w.params "pairs", .str "pairs" t0_MOST_HUES, .int 2 u0_MOST_HUES⟩, ⟨PyData.keyHash w.params "sums", .str "sums" t1_MOST_HUES, .int 3 u1_MOST_HUES⟩, ⟨PyData.keyHash w.params "steps", .str "steps" t2_MOST_HUES, .int 2 u2_MOST_HUES⟩] ep_MOST_HUES, #[]⟩) (n_MOST_HUES : (a_MOST_HUES == sysModules) = false)
    {e0 e1 e2 e3 e4 eh : Addr}
    (z_NoKind : PySem.W.nsIn K mainGlobals "NoKind" = some (some (.ref e0)))
    (z_NoSize : PySem.W.nsIn K mainGlobals "NoSize" = some (some (.ref e1)))
    (z_NoHues : PySem.W.nsIn K mainGlobals "NoHues" = some (some (.ref e2)))
    (z_NoDyeing : PySem.W.nsIn K mainGlobals "NoDyeing" = some (some (.ref e3)))
    (z_TooMuch : PySem.W.nsIn K mainGlobals "TooMuch" = some (some (.ref e4)))
    (z_HueError : PySem.W.nsIn K mainGlobals "HueError" = some (some (.ref eh)))
    (xeh : PySem.W.excIn K eh vBm "ValueError.__new__" = true)
    (gsx : PySem.W.specialIn K (.builtin "object.__class__") "__get__" = some (some (.builtin "getset_descriptor.__get__"))) (tkx : PySem.W.takesIn K (.builtin "object.__class__") = some true)
    {cd0 cd1 cd2 cd3 cd4 : ClassData}
    (own0 : PySem.W.excIn K e0 vBm "ValueError.__new__" = true)
    (cls0 : PySem.W.clsIn K e0 = some cd0)
    (ty0 : PySem.W.typeIn K (.ref e0) = some (.type "type"))
    (ga0 : PySem.W.findIn K (.ref e0) "__getattribute__" = some (some (.builtin "BaseException.__getattribute__")))
    (gt0 : PySem.W.findIn K (.ref e0) "__getattr__" = some none)
    (ca0 : PySem.W.findIn K (.ref e0) "__class__" = some (some (.builtin "object.__class__")))
    (obj0 : PySem.W.mroIn K e0 (.type "object") = some true)
    (bas0 : PySem.W.mroIn K e0 (.type "BaseException") = some true)
    (up0 : PySem.W.mroIn K e0 (.ref eh) = some true)
    (sv0 : PySem.W.subIn K (.ref e0) (.type "ValueError") = some true)
    (own1 : PySem.W.excIn K e1 vBm "ValueError.__new__" = true)
    (cls1 : PySem.W.clsIn K e1 = some cd1)
    (ty1 : PySem.W.typeIn K (.ref e1) = some (.type "type"))
    (ga1 : PySem.W.findIn K (.ref e1) "__getattribute__" = some (some (.builtin "BaseException.__getattribute__")))
    (gt1 : PySem.W.findIn K (.ref e1) "__getattr__" = some none)
    (ca1 : PySem.W.findIn K (.ref e1) "__class__" = some (some (.builtin "object.__class__")))
    (obj1 : PySem.W.mroIn K e1 (.type "object") = some true)
    (bas1 : PySem.W.mroIn K e1 (.type "BaseException") = some true)
    (up1 : PySem.W.mroIn K e1 (.ref eh) = some true)
    (sv1 : PySem.W.subIn K (.ref e1) (.type "ValueError") = some true)
    (own2 : PySem.W.excIn K e2 vBm "ValueError.__new__" = true)
    (cls2 : PySem.W.clsIn K e2 = some cd2)
    (ty2 : PySem.W.typeIn K (.ref e2) = some (.type "type"))
    (ga2 : PySem.W.findIn K (.ref e2) "__getattribute__" = some (some (.builtin "BaseException.__getattribute__")))
    (gt2 : PySem.W.findIn K (.ref e2) "__getattr__" = some none)
    (ca2 : PySem.W.findIn K (.ref e2) "__class__" = some (some (.builtin "object.__class__")))
    (obj2 : PySem.W.mroIn K e2 (.type "object") = some true)
    (bas2 : PySem.W.mroIn K e2 (.type "BaseException") = some true)
    (up2 : PySem.W.mroIn K e2 (.ref eh) = some true)
    (sv2 : PySem.W.subIn K (.ref e2) (.type "ValueError") = some true)
    (own3 : PySem.W.excIn K e3 vBm "ValueError.__new__" = true)
    (cls3 : PySem.W.clsIn K e3 = some cd3)
    (ty3 : PySem.W.typeIn K (.ref e3) = some (.type "type"))
    (ga3 : PySem.W.findIn K (.ref e3) "__getattribute__" = some (some (.builtin "BaseException.__getattribute__")))
    (gt3 : PySem.W.findIn K (.ref e3) "__getattr__" = some none)
    (ca3 : PySem.W.findIn K (.ref e3) "__class__" = some (some (.builtin "object.__class__")))
    (obj3 : PySem.W.mroIn K e3 (.type "object") = some true)
    (bas3 : PySem.W.mroIn K e3 (.type "BaseException") = some true)
    (up3 : PySem.W.mroIn K e3 (.ref eh) = some true)
    (sv3 : PySem.W.subIn K (.ref e3) (.type "ValueError") = some true)
    (own4 : PySem.W.excIn K e4 vBm "ValueError.__new__" = true)
    (cls4 : PySem.W.clsIn K e4 = some cd4)
    (ty4 : PySem.W.typeIn K (.ref e4) = some (.type "type"))
    (ga4 : PySem.W.findIn K (.ref e4) "__getattribute__" = some (some (.builtin "BaseException.__getattribute__")))
    (gt4 : PySem.W.findIn K (.ref e4) "__getattr__" = some none)
    (ca4 : PySem.W.findIn K (.ref e4) "__class__" = some (some (.builtin "object.__class__")))
    (obj4 : PySem.W.mroIn K e4 (.type "object") = some true)
    (bas4 : PySem.W.mroIn K e4 (.type "BaseException") = some true)
    (up4 : PySem.W.mroIn K e4 (.ref eh) = some true)
    (sv4 : PySem.W.subIn K (.ref e4) (.type "ValueError") = some true)
    (s01 : PySem.W.subIn K (.ref e0) (.ref e1) = some false) (n01 : (Value.ref e0 == Value.ref e1) = false)
    (s02 : PySem.W.subIn K (.ref e0) (.ref e2) = some false) (n02 : (Value.ref e0 == Value.ref e2) = false)
    (s03 : PySem.W.subIn K (.ref e0) (.ref e3) = some false) (n03 : (Value.ref e0 == Value.ref e3) = false)
    (s04 : PySem.W.subIn K (.ref e0) (.ref e4) = some false) (n04 : (Value.ref e0 == Value.ref e4) = false)
    (s10 : PySem.W.subIn K (.ref e1) (.ref e0) = some false) (n10 : (Value.ref e1 == Value.ref e0) = false)
    (s12 : PySem.W.subIn K (.ref e1) (.ref e2) = some false) (n12 : (Value.ref e1 == Value.ref e2) = false)
    (s13 : PySem.W.subIn K (.ref e1) (.ref e3) = some false) (n13 : (Value.ref e1 == Value.ref e3) = false)
    (s14 : PySem.W.subIn K (.ref e1) (.ref e4) = some false) (n14 : (Value.ref e1 == Value.ref e4) = false)
    (s20 : PySem.W.subIn K (.ref e2) (.ref e0) = some false) (n20 : (Value.ref e2 == Value.ref e0) = false)
    (s21 : PySem.W.subIn K (.ref e2) (.ref e1) = some false) (n21 : (Value.ref e2 == Value.ref e1) = false)
    (s23 : PySem.W.subIn K (.ref e2) (.ref e3) = some false) (n23 : (Value.ref e2 == Value.ref e3) = false)
    (s24 : PySem.W.subIn K (.ref e2) (.ref e4) = some false) (n24 : (Value.ref e2 == Value.ref e4) = false)
    (s30 : PySem.W.subIn K (.ref e3) (.ref e0) = some false) (n30 : (Value.ref e3 == Value.ref e0) = false)
    (s31 : PySem.W.subIn K (.ref e3) (.ref e1) = some false) (n31 : (Value.ref e3 == Value.ref e1) = false)
    (s32 : PySem.W.subIn K (.ref e3) (.ref e2) = some false) (n32 : (Value.ref e3 == Value.ref e2) = false)
    (s34 : PySem.W.subIn K (.ref e3) (.ref e4) = some false) (n34 : (Value.ref e3 == Value.ref e4) = false)
    (s40 : PySem.W.subIn K (.ref e4) (.ref e0) = some false) (n40 : (Value.ref e4 == Value.ref e0) = false)
    (s41 : PySem.W.subIn K (.ref e4) (.ref e1) = some false) (n41 : (Value.ref e4 == Value.ref e1) = false)
    (s42 : PySem.W.subIn K (.ref e4) (.ref e2) = some false) (n42 : (Value.ref e4 == Value.ref e2) = false)
    (s43 : PySem.W.subIn K (.ref e4) (.ref e3) = some false) (n43 : (Value.ref e4 == Value.ref e3) = false) :
    ∃ fd : FuncData, (∀ (s : Shared) (v : Value), BindsTo s fd ⟨[v], []⟩ [("script", v)]) ∧ ∀ base : Heap, K.In base → base.Ns mainGlobals mg → FnOk l.prog w K mg base CX0 lawDepth fa fd ["script"] (sp_law K) := by
  have e := hfa.symm.trans (PySem.W.mg_of X G aL)
  cases e
  have T : Txt l.prog w K mg := ⟨PySem.W.mg_none_of X G z_range, PySem.W.mg_none_of X G z_len, PySem.W.mg_none_of X G z_isinstance, PySem.W.mg_none_of X G z_int, PySem.W.mg_none_of X G z_bool, PySem.W.mg_none_of X G z_list, PySem.W.mg_none_of X G z_tuple, PySem.W.mg_none_of X G z_sorted, PySem.W.mg_none_of X G z_zip, PySem.W.mg_none_of X G z_max, PySem.W.mg_none_of X G z_min, PySem.W.mg_none_of X G z_ValueError, PySem.W.mg_none_of X G z_any, PySem.W.mg_none_of X G z_sum, ⟨a_GREATEST, PySem.W.mg_of X G z_GREATEST, kd_mk [("pairs", t0_GREATEST, .int 9 u0_GREATEST), ("sums", t1_GREATEST, .int 40 u1_GREATEST), ("steps", t2_GREATEST, .int 40 u2_GREATEST)] _ l_GREATEST (.cons ⟨rfl, ⟨u0_GREATEST, rfl⟩⟩ (.cons ⟨rfl, ⟨u1_GREATEST, rfl⟩⟩ (.cons ⟨rfl, ⟨u2_GREATEST, rfl⟩⟩ .nil))) (by decide +kernel) n_GREATEST⟩, ⟨t_GREATEST_COUNT, PySem.W.mg_of X G z_GREATEST_COUNT⟩, ⟨t_MOST_THINGS, PySem.W.mg_of X G z_MOST_THINGS⟩, ⟨a_MOST_THINGS_COUNTED, PySem.W.mg_of X G z_MOST_THINGS_COUNTED, kd_mkI [(1, t0_MOST_THINGS_COUNTED, .int 15 u0_MOST_THINGS_COUNTED), (2, t1_MOST_THINGS_COUNTED, .int 15 u1_MOST_THINGS_COUNTED), (3, t2_MOST_THINGS_COUNTED, .int 8 u2_MOST_THINGS_COUNTED)] _ l_MOST_THINGS_COUNTED (.cons ⟨rfl, ⟨u0_MOST_THINGS_COUNTED, rfl⟩⟩ (.cons ⟨rfl, ⟨u1_MOST_THINGS_COUNTED, rfl⟩⟩ (.cons ⟨rfl, ⟨u2_MOST_THINGS_COUNTED, rfl⟩⟩ .nil))) (by decide +kernel) n_MOST_THINGS_COUNTED⟩, ⟨a_MOST_HUES, PySem.W.mg_of X G z_MOST_HUES, kd_mk [("pairs", t0_MOST_HUES, .int 2 u0_MOST_HUES), ("sums", t1_MOST_HUES, .int 3 u1_MOST_HUES), ("steps", t2_MOST_HUES, .int 2 u2_MOST_HUES)] _ l_MOST_HUES (.cons ⟨rfl, ⟨u0_MOST_HUES, rfl⟩⟩ (.cons ⟨rfl, ⟨u1_MOST_HUES, rfl⟩⟩ (.cons ⟨rfl, ⟨u2_MOST_HUES, rfl⟩⟩ .nil))) (by decide +kernel) n_MOST_HUES⟩, ⟨fun i => [e0, e1, e2, e3, e4].getD i 0, eh, PySem.W.mg_of X G z_NoKind, PySem.W.mg_of X G z_NoSize, PySem.W.mg_of X G z_NoHues, PySem.W.mg_of X G z_NoDyeing, PySem.W.mg_of X G z_TooMuch, PySem.W.mg_of X G z_HueError, xeh, all5 ⟨own0, some_is cls0, ga0, gt0, ca0, gsx, tkx, obj0, bas0⟩ ⟨own1, some_is cls1, ga1, gt1, ca1, gsx, tkx, obj1, bas1⟩ ⟨own2, some_is cls2, ga2, gt2, ca2, gsx, tkx, obj2, bas2⟩ ⟨own3, some_is cls3, ga3, gt3, ca3, gsx, tkx, obj3, bas3⟩ ⟨own4, some_is cls4, ga4, gt4, ca4, gsx, tkx, obj4, bas4⟩, all5 up0 up1 up2 up3 up4, all5 (kit_v sv0) (kit_v sv1) (kit_v sv2) (kit_v sv3) (kit_v sv4), all55 (all5 kit_same (kit_ne n01 cls1 ty1 s01) (kit_ne n02 cls2 ty2 s02) (kit_ne n03 cls3 ty3 s03) (kit_ne n04 cls4 ty4 s04)) (all5 (kit_ne n10 cls0 ty0 s10) kit_same (kit_ne n12 cls2 ty2 s12) (kit_ne n13 cls3 ty3 s13) (kit_ne n14 cls4 ty4 s14)) (all5 (kit_ne n20 cls0 ty0 s20) (kit_ne n21 cls1 ty1 s21) kit_same (kit_ne n23 cls3 ty3 s23) (kit_ne n24 cls4 ty4 s24)) (all5 (kit_ne n30 cls0 ty0 s30) (kit_ne n31 cls1 ty1 s31) (kit_ne n32 cls2 ty2 s32) kit_same (kit_ne n34 cls4 ty4 s34)) (all5 (kit_ne n40 cls0 ty0 s40) (kit_ne n41 cls1 ty1 s41) (kit_ne n42 cls2 ty2 s42) (kit_ne n43 cls3 ty3 s43) kit_same)⟩⟩
  refine ⟨PySem.W.fnOf "law" "law" (defArgs s_law) (defBody s_law) (defScope s_law) .none kV doc pm an cdv ct, fun s v => .of_eq rfl, fun base _ _ => ?_⟩
  exact law_ok T F_check_kind F_check_kind_and_size F_things F_triples F_pair_numbers F_pair_triples F_sum_triples F_step_triples F_check_count F_check_dyeing F_check_hue F_is_hue F_is_of_one_hue F_one_hued F_is_free F_exchanged F_exchanged_hue F_first_free F_how_many F_first_size F_check_asked F_check_things F_ended_triples F_stays_free F_one_longer F_first_from F_how_many_from F__law_cell_at F__law_pairs F__law_many F__law_kind_by F__law_stirred F__law_dyed_by F__law_other F__law_called F__law_told F__law_due (fun_mk (st := s_law) lL cL kL)
theorem walk {l : PySem.W.OpenLaw} {q : Program} {loose : List Str} {XP : (Str → Option Value) → Heap → Prop} {YP : World → Heap → Prop} {d : DefRec} {K : Params → PySem.W.Frag} (hn : l.most = some 63) (hdf : d.params.defaults = [])
    (hY : ∀ (w : World) (h : Heap), YP w h → (K w.params).In h)
    (F : ∀ (w : World) (mg : Str → Option Value) (fa : Addr) (h : Heap), (K w.params).In h → h.Ns mainGlobals mg → mg d.name = some (.ref fa) →
      ∃ fd : FuncData, (∀ (s : Shared) (u : Value), BindsTo s fd ⟨[u], []⟩ [("script", u)]) ∧ ∀ base : Heap, (K w.params).In base → base.Ns mainGlobals mg → FnOk l.prog w (K w.params) mg base CX0 lawDepth fa fd ["script"] (sp_law (K w.params))) :
    PySem.W.WalkO q loose XP YP l.row.toRowW d [] (fun f vs => PySem.call f vs) :=
  L2.walk_of (n := 63) (k := lawDepth) (x := "script") (CX := fun _ => CX0) (sp := fun w => sp_law (K w.params)) hn (by decide) hdf ⟨rfl, by decide, by decide⟩ hY F (fun _ _ a ns hl _ hS => ⟨a, ns, rfl, ⟨hS, hl⟩, fun _ => rfl⟩) fun _ _ _ _ _ z => z
end OH
open PySem PySem.W PyProof.Rows
set_option maxRecDepth 100000 in
set_option maxHeartbeats 0 in
theorem PySem.Challenge.cw_onehue_k10_which_refusal_holds : PySem.Challenge.rw_onehue_k10_which_refusal.Holds := by
  w_on; o_law; k_head; (case hw => w_witness2)
  k_fill
  refine OH.walk (l := PySem.Challenge.rw_onehue_k10_which_refusal) rfl rfl (fun w h Y => PySem.W.kIn_of Y) ?F
  case F =>
    intro w mg fa h KX G hmg
    refine' OH.all_mk KX G hmg ?aL ?lL ?cL ?kL (L2.FunAt.of KX G ?a_check_kind ?l_check_kind ?c_check_kind ?k_check_kind ?b_check_kind) (L2.FunAt.of KX G ?a_check_kind_and_size ?l_check_kind_and_size ?c_check_kind_and_size ?k_check_kind_and_size ?b_check_kind_and_size) (L2.FunAt.of KX G ?a_things ?l_things ?c_things ?k_things ?b_things) (L2.FunAt.of KX G ?a_triples ?l_triples ?c_triples ?k_triples ?b_triples) (L2.FunAt.of KX G ?a_pair_numbers ?l_pair_numbers ?c_pair_numbers ?k_pair_numbers ?b_pair_numbers) (L2.FunAt.of KX G ?a_pair_triples ?l_pair_triples ?c_pair_triples ?k_pair_triples ?b_pair_triples) (L2.FunAt.of KX G ?a_sum_triples ?l_sum_triples ?c_sum_triples ?k_sum_triples ?b_sum_triples) (L2.FunAt.of KX G ?a_step_triples ?l_step_triples ?c_step_triples ?k_step_triples ?b_step_triples) (L2.FunAt.of KX G ?a_check_count ?l_check_count ?c_check_count ?k_check_count ?b_check_count) (L2.FunAt.of KX G ?a_check_dyeing ?l_check_dyeing ?c_check_dyeing ?k_check_dyeing ?b_check_dyeing) (L2.FunAt.of KX G ?a_check_hue ?l_check_hue ?c_check_hue ?k_check_hue ?b_check_hue) (L2.FunAt.of KX G ?a_is_hue ?l_is_hue ?c_is_hue ?k_is_hue ?b_is_hue) (L2.FunAt.of KX G ?a_is_of_one_hue ?l_is_of_one_hue ?c_is_of_one_hue ?k_is_of_one_hue ?b_is_of_one_hue) (L2.FunAt.of KX G ?a_one_hued ?l_one_hued ?c_one_hued ?k_one_hued ?b_one_hued) (L2.FunAt.of KX G ?a_is_free ?l_is_free ?c_is_free ?k_is_free ?b_is_free) (L2.FunAt.of KX G ?a_exchanged ?l_exchanged ?c_exchanged ?k_exchanged ?b_exchanged) (L2.FunAt.of KX G ?a_exchanged_hue ?l_exchanged_hue ?c_exchanged_hue ?k_exchanged_hue ?b_exchanged_hue) (L2.FunAt.of KX G ?a_first_free ?l_first_free ?c_first_free ?k_first_free ?b_first_free) (L2.FunAt.of KX G ?a_how_many ?l_how_many ?c_how_many ?k_how_many ?b_how_many) (L2.FunAt.of KX G ?a_first_size ?l_first_size ?c_first_size ?k_first_size ?b_first_size) (L2.FunAt.of KX G ?a_check_asked ?l_check_asked ?c_check_asked ?k_check_asked ?b_check_asked) (L2.FunAt.of KX G ?a_check_things ?l_check_things ?c_check_things ?k_check_things ?b_check_things) (L2.FunAt.of KX G ?a_ended_triples ?l_ended_triples ?c_ended_triples ?k_ended_triples ?b_ended_triples) (L2.FunAt.of KX G ?a_stays_free ?l_stays_free ?c_stays_free ?k_stays_free ?b_stays_free) (L2.FunAt.of KX G ?a_one_longer ?l_one_longer ?c_one_longer ?k_one_longer ?b_one_longer) (L2.FunAt.of KX G ?a_first_from ?l_first_from ?c_first_from ?k_first_from ?b_first_from) (L2.FunAt.of KX G ?a_how_many_from ?l_how_many_from ?c_how_many_from ?k_how_many_from ?b_how_many_from) (L2.FunAt.of KX G ?a__law_cell_at ?l__law_cell_at ?c__law_cell_at ?k__law_cell_at ?b__law_cell_at) (L2.FunAt.of KX G ?a__law_pairs ?l__law_pairs ?c__law_pairs ?k__law_pairs ?b__law_pairs) (L2.FunAt.of KX G ?a__law_many ?l__law_many ?c__law_many ?k__law_many ?b__law_many) (L2.FunAt.of KX G ?a__law_kind_by ?l__law_kind_by ?c__law_kind_by ?k__law_kind_by ?b__law_kind_by) (L2.FunAt.of KX G ?a__law_stirred ?l__law_stirred ?c__law_stirred ?k__law_stirred ?b__law_stirred) (L2.FunAt.of KX G ?a__law_dyed_by ?l__law_dyed_by ?c__law_dyed_by ?k__law_dyed_by ?b__law_dyed_by) (L2.FunAt.of KX G ?a__law_other ?l__law_other ?c__law_other ?k__law_other ?b__law_other) (L2.FunAt.of KX G ?a__law_called ?l__law_called ?c__law_called ?k__law_called ?b__law_called) (L2.FunAt.of KX G ?a__law_told ?l__law_told ?c__law_told ?k__law_told ?b__law_told) (L2.FunAt.of KX G ?a__law_due ?l__law_due ?c__law_due ?k__law_due ?b__law_due) ?z_range ?z_len ?z_isinstance ?z_int ?z_bool ?z_list ?z_tuple ?z_sorted ?z_zip ?z_max ?z_min ?z_ValueError ?z_any ?z_sum ?z_GREATEST ?l_GREATEST ?n_GREATEST ?z_GREATEST_COUNT ?z_MOST_THINGS ?z_MOST_THINGS_COUNTED ?l_MOST_THINGS_COUNTED ?n_MOST_THINGS_COUNTED ?z_MOST_HUES ?l_MOST_HUES ?n_MOST_HUES ?z_NoKind ?z_NoSize ?z_NoHues ?z_NoDyeing ?z_TooMuch ?z_HueError ?xeh ?gsx ?tkx ?own0 ?cls0 ?ty0 ?ga0 ?gt0 ?ca0 ?obj0 ?bas0 ?up0 ?sv0 ?own1 ?cls1 ?ty1 ?ga1 ?gt1 ?ca1 ?obj1 ?bas1 ?up1 ?sv1 ?own2 ?cls2 ?ty2 ?ga2 ?gt2 ?ca2 ?obj2 ?bas2 ?up2 ?sv2 ?own3 ?cls3 ?ty3 ?ga3 ?gt3 ?ca3 ?obj3 ?bas3 ?up3 ?sv3 ?own4 ?cls4 ?ty4 ?ga4 ?gt4 ?ca4 ?obj4 ?bas4 ?up4 ?sv4 ?s01 ?n01 ?s02 ?n02 ?s03 ?n03 ?s04 ?n04 ?s10 ?n10 ?s12 ?n12 ?s13 ?n13 ?s14 ?n14 ?s20 ?n20 ?s21 ?n21 ?s23 ?n23 ?s24 ?n24 ?s30 ?n30 ?s31 ?n31 ?s32 ?n32 ?s34 ?n34 ?s40 ?n40 ?s41 ?n41 ?s42 ?n42 ?s43 ?n43
    (case aL => k_is); (case lL => k_is); (case cL => k_is); (case kL => k_is)
    (case a_check_kind => k_is); (case l_check_kind => k_is); (case c_check_kind => k_is); (case k_check_kind => k_is); (case b_check_kind => intro _ _ _ _ _ _; refine OH.usl1 ?_; exact fun _ => rfl)
    (case a_check_kind_and_size => k_is); (case l_check_kind_and_size => k_is); (case c_check_kind_and_size => k_is); (case k_check_kind_and_size => k_is); (case b_check_kind_and_size => intro _ _ _ _ _ _; refine OH.usl2 ?_; exact fun _ _ => rfl)
    (case a_things => k_is); (case l_things => k_is); (case c_things => k_is); (case k_things => k_is); (case b_things => intro _ _ _ _ _ _; refine OH.usl2 ?_; exact fun _ _ => rfl)
    (case a_triples => k_is); (case l_triples => k_is); (case c_triples => k_is); (case k_triples => k_is); (case b_triples => intro _ _ _ _ _ _; refine OH.usl2 ?_; exact fun _ _ => rfl)
    (case a_pair_numbers => k_is); (case l_pair_numbers => k_is); (case c_pair_numbers => k_is); (case k_pair_numbers => k_is); (case b_pair_numbers => intro _ _ _ _ _ _; refine OH.usl1 ?_; exact fun _ => rfl)
    (case a_pair_triples => k_is); (case l_pair_triples => k_is); (case c_pair_triples => k_is); (case k_pair_triples => k_is); (case b_pair_triples => intro _ _ _ _ _ _; refine OH.usl1 ?_; exact fun _ => rfl)
    (case a_sum_triples => k_is); (case l_sum_triples => k_is); (case c_sum_triples => k_is); (case k_sum_triples => k_is); (case b_sum_triples => intro _ _ _ _ _ _; refine OH.usl1 ?_; exact fun _ => rfl)
    (case a_step_triples => k_is); (case l_step_triples => k_is); (case c_step_triples => k_is); (case k_step_triples => k_is); (case b_step_triples => intro _ _ _ _ _ _; refine OH.usl1 ?_; exact fun _ => rfl)
    (case a_check_count => k_is); (case l_check_count => k_is); (case c_check_count => k_is); (case k_check_count => k_is); (case b_check_count => intro _ _ _ _ _ _; refine OH.usl1 ?_; exact fun _ => rfl)
    (case a_check_dyeing => k_is); (case l_check_dyeing => k_is); (case c_check_dyeing => k_is); (case k_check_dyeing => k_is); (case b_check_dyeing => intro _ _ _ _ _ _; refine OH.usl4 ?_; exact fun _ _ _ _ => rfl)
    (case a_check_hue => k_is); (case l_check_hue => k_is); (case c_check_hue => k_is); (case k_check_hue => k_is); (case b_check_hue => intro _ _ _ _ _ _; refine OH.usl2 ?_; exact fun _ _ => rfl)
    (case a_is_hue => k_is); (case l_is_hue => k_is); (case c_is_hue => k_is); (case k_is_hue => k_is); (case b_is_hue => intro _ _ _ _ _ _; refine OH.usl2 ?_; exact fun _ _ => rfl)
    (case a_is_of_one_hue => k_is); (case l_is_of_one_hue => k_is); (case c_is_of_one_hue => k_is); (case k_is_of_one_hue => k_is); (case b_is_of_one_hue => intro _ _ _ _ _ _; refine OH.usl2 ?_; exact fun _ _ => rfl)
    (case a_one_hued => k_is); (case l_one_hued => k_is); (case c_one_hued => k_is); (case k_one_hued => k_is); (case b_one_hued => intro _ _ _ _ _ _; refine OH.usl4 ?_; exact fun _ _ _ _ => rfl)
    (case a_is_free => k_is); (case l_is_free => k_is); (case c_is_free => k_is); (case k_is_free => k_is); (case b_is_free => intro _ _ _ _ _ _; refine OH.usl4 ?_; exact fun _ _ _ _ => rfl)
    (case a_exchanged => k_is); (case l_exchanged => k_is); (case c_exchanged => k_is); (case k_exchanged => k_is); (case b_exchanged => intro _ _ _ _ _ _; refine OH.usl6 ?_; exact fun _ _ _ _ _ _ => rfl)
    (case a_exchanged_hue => k_is); (case l_exchanged_hue => k_is); (case c_exchanged_hue => k_is); (case k_exchanged_hue => k_is); (case b_exchanged_hue => intro _ _ _ _ _ _; refine OH.usl3 ?_; exact fun _ _ _ => rfl)
    (case a_first_free => k_is); (case l_first_free => k_is); (case c_first_free => k_is); (case k_first_free => k_is); (case b_first_free => intro _ _ _ _ _ _; refine OH.usl3 ?_; exact fun _ _ _ => rfl)
    (case a_how_many => k_is); (case l_how_many => k_is); (case c_how_many => k_is); (case k_how_many => k_is); (case b_how_many => intro _ _ _ _ _ _; refine OH.usl3 ?_; exact fun _ _ _ => rfl)
    (case a_first_size => k_is); (case l_first_size => k_is); (case c_first_size => k_is); (case k_first_size => k_is); (case b_first_size => intro _ _ _ _ _ _; refine OH.usl2 ?_; exact fun _ _ => rfl)
    (case a_check_asked => k_is); (case l_check_asked => k_is); (case c_check_asked => k_is); (case k_check_asked => k_is); (case b_check_asked => intro _ _ _ _ _ _; refine OH.usl3 ?_; exact fun _ _ _ => rfl)
    (case a_check_things => k_is); (case l_check_things => k_is); (case c_check_things => k_is); (case k_check_things => k_is); (case b_check_things => intro _ _ _ _ _ _; refine OH.usl3 ?_; exact fun _ _ _ => rfl)
    (case a_ended_triples => k_is); (case l_ended_triples => k_is); (case c_ended_triples => k_is); (case k_ended_triples => k_is); (case b_ended_triples => intro _ _ _ _ _ _; refine OH.usl2 ?_; exact fun _ _ => rfl)
    (case a_stays_free => k_is); (case l_stays_free => k_is); (case c_stays_free => k_is); (case k_stays_free => k_is); (case b_stays_free => intro _ _ _ _ _ _; refine OH.usl2 ?_; exact fun _ _ => rfl)
    (case a_one_longer => k_is); (case l_one_longer => k_is); (case c_one_longer => k_is); (case k_one_longer => k_is); (case b_one_longer => intro _ _ _ _ _ _; refine OH.usl3 ?_; exact fun _ _ _ => rfl)
    (case a_first_from => k_is); (case l_first_from => k_is); (case c_first_from => k_is); (case k_first_from => k_is); (case b_first_from => intro _ _ _ _ _ _; refine OH.usl3 ?_; exact fun _ _ _ => rfl)
    (case a_how_many_from => k_is); (case l_how_many_from => k_is); (case c_how_many_from => k_is); (case k_how_many_from => k_is); (case b_how_many_from => intro _ _ _ _ _ _; refine OH.usl3 ?_; exact fun _ _ _ => rfl)
    (case a__law_cell_at => k_is); (case l__law_cell_at => k_is); (case c__law_cell_at => k_is); (case k__law_cell_at => k_is); (case b__law_cell_at => intro _ _ _ _ _ _; refine OH.usl2 ?_; exact fun _ _ => rfl)
    (case a__law_pairs => k_is); (case l__law_pairs => k_is); (case c__law_pairs => k_is); (case k__law_pairs => k_is); (case b__law_pairs => intro _ _ _ _ _ _; refine OH.usl1 ?_; exact fun _ => rfl)
    (case a__law_many => k_is); (case l__law_many => k_is); (case c__law_many => k_is); (case k__law_many => k_is); (case b__law_many => intro _ _ _ _ _ _; refine OH.usl2 ?_; exact fun _ _ => rfl)
    (case a__law_kind_by => k_is); (case l__law_kind_by => k_is); (case c__law_kind_by => k_is); (case k__law_kind_by => k_is); (case b__law_kind_by => intro _ _ _ _ _ _; refine OH.usl3 ?_; exact fun _ _ _ => rfl)
    (case a__law_stirred => k_is); (case l__law_stirred => k_is); (case c__law_stirred => k_is); (case k__law_stirred => k_is); (case b__law_stirred => intro _ _ _ _ _ _; refine OH.usl2 ?_; exact fun _ _ => rfl)
    (case a__law_dyed_by => k_is); (case l__law_dyed_by => k_is); (case c__law_dyed_by => k_is); (case k__law_dyed_by => k_is); (case b__law_dyed_by => intro _ _ _ _ _ _; refine OH.usl4 ?_; exact fun _ _ _ _ => rfl)
    (case a__law_other => k_is); (case l__law_other => k_is); (case c__law_other => k_is); (case k__law_other => k_is); (case b__law_other => intro _ _ _ _ _ _; refine OH.usl2 ?_; exact fun _ _ => rfl)
    (case a__law_called => k_is); (case l__law_called => k_is); (case c__law_called => k_is); (case k__law_called => k_is); (case b__law_called => intro _ _ _ _ _ _; refine OH.usl6 ?_; exact fun _ _ _ _ _ _ => rfl)
    (case a__law_told => k_is); (case l__law_told => k_is); (case c__law_told => k_is); (case k__law_told => k_is); (case b__law_told => intro _ _ _ _ _ _; refine OH.usl6 ?_; exact fun _ _ _ _ _ _ => rfl)
    (case a__law_due => k_is); (case l__law_due => k_is); (case c__law_due => k_is); (case k__law_due => k_is); (case b__law_due => intro _ _ _ _ _ _; refine OH.usl6 ?_; exact fun _ _ _ _ _ _ => rfl)
    (case z_range => k_is)
    (case z_len => k_is)
    (case z_isinstance => k_is)
    (case z_int => k_is)
    (case z_bool => k_is)
    (case z_list => k_is)
    (case z_tuple => k_is)
    (case z_sorted => k_is)
    (case z_zip => k_is)
    (case z_max => k_is)
    (case z_min => k_is)
    (case z_ValueError => k_is)
    (case z_any => k_is)
    (case z_sum => k_is)
    (case z_GREATEST => k_is); (case l_GREATEST => k_is); (case n_GREATEST => rfl)
    (case z_GREATEST_COUNT => k_is)
    (case z_MOST_THINGS => k_is)
    (case z_MOST_THINGS_COUNTED => k_is); (case l_MOST_THINGS_COUNTED => k_is); (case n_MOST_THINGS_COUNTED => rfl)
    (case z_MOST_HUES => k_is); (case l_MOST_HUES => k_is); (case n_MOST_HUES => rfl)
    (case z_NoKind => k_is)
    (case z_NoSize => k_is)
    (case z_NoHues => k_is)
    (case z_NoDyeing => k_is)
    (case z_TooMuch => k_is)
    (case z_HueError => k_is)
    (case xeh => k_exc)
    (case gsx => k_is); (case tkx => k_is)
    (case own0 => k_exc)
    (case cls0 => k_is)
    (case ty0 => k_is)
    (case ga0 => k_is)
    (case gt0 => k_is)
    (case ca0 => k_is)
    (case obj0 => k_is)
    (case bas0 => k_is)
    (case up0 => k_is)
    (case sv0 => k_is)
    (case own1 => k_exc)
    (case cls1 => k_is)
    (case ty1 => k_is)
    (case ga1 => k_is)
    (case gt1 => k_is)
    (case ca1 => k_is)
    (case obj1 => k_is)
    (case bas1 => k_is)
    (case up1 => k_is)
    (case sv1 => k_is)
    (case own2 => k_exc)
    (case cls2 => k_is)
    (case ty2 => k_is)
    (case ga2 => k_is)
    (case gt2 => k_is)
    (case ca2 => k_is)
    (case obj2 => k_is)
    (case bas2 => k_is)
    (case up2 => k_is)
    (case sv2 => k_is)
    (case own3 => k_exc)
    (case cls3 => k_is)
    (case ty3 => k_is)
    (case ga3 => k_is)
    (case gt3 => k_is)
    (case ca3 => k_is)
    (case obj3 => k_is)
    (case bas3 => k_is)
    (case up3 => k_is)
    (case sv3 => k_is)
    (case own4 => k_exc)
    (case cls4 => k_is)
    (case ty4 => k_is)
    (case ga4 => k_is)
    (case gt4 => k_is)
    (case ca4 => k_is)
    (case obj4 => k_is)
    (case bas4 => k_is)
    (case up4 => k_is)
    (case sv4 => k_is)
    (case s01 => k_is); (case n01 => rfl)
    (case s02 => k_is); (case n02 => rfl)
    (case s03 => k_is); (case n03 => rfl)
    (case s04 => k_is); (case n04 => rfl)
    (case s10 => k_is); (case n10 => rfl)
    (case s12 => k_is); (case n12 => rfl)
    (case s13 => k_is); (case n13 => rfl)
    (case s14 => k_is); (case n14 => rfl)
    (case s20 => k_is); (case n20 => rfl)
    (case s21 => k_is); (case n21 => rfl)
    (case s23 => k_is); (case n23 => rfl)
    (case s24 => k_is); (case n24 => rfl)
    (case s30 => k_is); (case n30 => rfl)
    (case s31 => k_is); (case n31 => rfl)
    (case s32 => k_is); (case n32 => rfl)
    (case s34 => k_is); (case n34 => rfl)
    (case s40 => k_is); (case n40 => rfl)
    (case s41 => k_is); (case n41 => rfl)
    (case s42 => k_is); (case n42 => rfl)
    (case s43 => k_is); (case n43 => rfl)
#print axioms PySem.Challenge.cw_onehue_k10_which_refusal_holds

