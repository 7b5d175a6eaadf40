import PyProof.Rows.All
import Wide.All
import OpenK.AllK
import Wide.FinOn
import Lean
import PyProof.EqAt
import PyProof.EqKinds
import PyProof.TupleCall
import PySem.Challenge.RW_pointpurse_k12_piles_laid
set_option Elab.async false
set_option linter.all false
set_option maxRecDepth 100000
/-! THE HAND LAYER, for ints, bools, texts, own classes, LISTS and tuples (index, slices, in, append, pop ..), calls, loops. Paste it whole ahead of your own text; what your proof does not reach may be deleted. -/
namespace L2
open PySem PySem.Spec PyProof.Rows

/-- a key: an int or a str -/
abbrev Key := Sum Int Str
def keyIs : Key → Value → Bool
  | .inl k, v => Value.isInt k v
  | .inr x, v => Value.isStrOf x v
def keyH (w : World) : Key → Int
  | .inl k => hashInt k
  | .inr x => hashStr w x
theorem keyIs_shape : ∀ {k : Key} {v : Value}, keyIs k v = true → (∃ i t, k = Sum.inl i ∧ v = Value.int i t) ∨ (∃ x t, k = Sum.inr x ∧ v = Value.str x t)
  | .inl i, v, h => by
    obtain ⟨t, e⟩ := Value.isInt_shape (k := i) (v := v) h
    exact .inl ⟨i, t, rfl, e⟩
  | .inr x, v, h => by
    obtain ⟨t, e⟩ := Value.isStrOf_shape (x := x) (v := v) h
    exact .inr ⟨x, t, rfl, e⟩
theorem keyIs_int (i : Int) (t : Tok) : keyIs (.inl i) (.int i t) = true := by simp [keyIs, Value.isInt]
theorem keyIs_str (x : Str) (t : Tok) : keyIs (.inr x) (.str x t) = true := by simp [keyIs, Value.isStrOf]
theorem key_ll (a b : Int) : decide ((Sum.inl a : Key) = Sum.inl b) = (a == b) := by
  by_cases e : a = b
  · subst e; simp
  · have h : ¬ (Sum.inl a : Key) = Sum.inl b := fun q => e (Sum.inl.inj q)
    rw [decide_eq_false h]
    exact (beq_eq_false_iff_ne.mpr e).symm
theorem key_rr (a b : Str) : decide ((Sum.inr a : Key) = Sum.inr b) = decide (a = b) := by
  by_cases e : a = b
  · subst e; simp
  · have h : ¬ (Sum.inr a : Key) = Sum.inr b := fun q => e (Sum.inr.inj q)
    rw [decide_eq_false h, decide_eq_false e]
theorem key_lr (a : Int) (b : Str) : decide ((Sum.inl a : Key) = Sum.inr b) = false := decide_eq_false (fun q => nomatch q)
theorem key_rl (a : Str) (b : Int) : decide ((Sum.inr a : Key) = Sum.inl b) = false := decide_eq_false (fun q => nomatch q)

def mixKind (prog : Program) (w : World) : PySem.KeyKind prog w Key where
  is := keyIs
  hash := keyH w
  inj := fun v a b ha hb => by
    rcases keyIs_shape ha with ⟨i, t, rfl, rfl⟩ | ⟨x, t, rfl, rfl⟩
    · rcases keyIs_shape hb with ⟨j, u, rfl, e⟩ | ⟨y, u, rfl, e⟩
      · injection e with e1 _; rw [e1]
      · exact nomatch e
    · rcases keyIs_shape hb with ⟨j, u, rfl, e⟩ | ⟨y, u, rfl, e⟩
      · exact nomatch e
      · injection e with e1 _; rw [e1]
  byValue := fun k v h => by
    rcases keyIs_shape h with ⟨i, t, rfl, rfl⟩ | ⟨x, t, rfl, rfl⟩ <;> rfl
  pyHash := fun hv h => by
    rcases keyIs_shape hv with ⟨i, t, rfl, rfl⟩ | ⟨x, t, rfl, rfl⟩
    · exact wpAny_pyHash_int h
    · exact wpAny_pyHash_str h
  eqBool := fun hu hv h => by
    rcases keyIs_shape hu with ⟨i, t, rfl, rfl⟩ | ⟨x, t, rfl, rfl⟩
    · rcases keyIs_shape hv with ⟨j, u, rfl, rfl⟩ | ⟨y, u, rfl, rfl⟩
      · rw [key_ll] at h; exact wpAny_eqBool_int h
      · rw [key_lr] at h; exact SeqAt.EqAt.int_str i t y u _ _ _ _ h
    · rcases keyIs_shape hv with ⟨j, u, rfl, rfl⟩ | ⟨y, u, rfl, rfl⟩
      · rw [key_rl] at h; exact SeqAt.EqAt.str_int x t j u _ _ _ _ h
      · rw [key_rr] at h; exact wpAny_eqBool_str h
  «strs» := fun k x t v h => by
    rcases keyIs_shape h with ⟨i, u, rfl, e⟩ | ⟨y, u, rfl, e⟩
    · exact nomatch e
    · injection e with e1 _
      subst e1
      cases v <;> rfl

theorem mixKind_int (prog : Program) (w : World) (i : Int) (t : Tok) : (mixKind prog w).is (.inl i) (.int i t) = true := keyIs_int i t
theorem mixKind_str (prog : Program) (w : World) (x : Str) (t : Tok) : (mixKind prog w).is (.inr x) (.str x t) = true := keyIs_str x t
end L2

namespace L2
open PySem PySem.Spec PyProof.Rows

/-- a value, without the heap -/
inductive V where
  | non | bl (b : Bool) | int (i : Int) | str (x : Str) | byt (b : Array UInt8) | flt (b : UInt64) | ref (a : Addr) | ty (n : String)
  deriving DecidableEq

def RelV : V → Value → Prop
  | .non, u => u = Value.none
  | .bl b, u => u = Value.bool b
  | .int i, u => ∃ t, u = Value.int i t
  | .str x, u => ∃ t, u = Value.str x t
  | .byt b, u => ∃ t, u = Value.bytes b t
  | .flt b, u => ∃ t, u = Value.float b t
  | .ref a, u => u = Value.ref a
  | .ty n, u => u = Value.type n

abbrev Vals : List V → List Value → Prop := Paired RelV
theorem Vals.length {xs : List V} {us : List Value} (r : Vals xs us) : xs.length = us.length := Paired.length r
theorem Vals.get : ∀ {xs : List V} {us : List Value} {i : Nat} {x : V}, Vals xs us → xs[i]? = some x → ∃ u, us[i]? = some u ∧ RelV x u
  | _, _, _, _, .nil, e => by simp at e
  | _, _, 0, _, .cons r _, e => by simp at e; subst e; exact ⟨_, rfl, r⟩
  | _, _, i + 1, x, .cons _ t, e => by
    obtain ⟨u, h1, h2⟩ := Vals.get (i := i) (x := x) t (by simpa using e)
    exact ⟨u, by simpa using h1, h2⟩
theorem Vals.set {x : V} {u : Value} (r : RelV x u) : ∀ {xs : List V} {us : List Value} (i : Nat), Vals xs us → Vals (xs.set i x) (us.set i u)
  | _, _, _, .nil => .nil
  | _, _, 0, .cons _ t => .cons r t
  | _, _, i + 1, .cons q t => .cons q (Vals.set r i t)
theorem Vals.append : ∀ {xs ys : List V} {us ws : List Value}, Vals xs us → Vals ys ws → Vals (xs ++ ys) (us ++ ws)
  | _, _, _, _, .nil, s => s
  | _, _, _, _, .cons r t, s => .cons r (Vals.append t s)
theorem Vals.take : ∀ {xs : List V} {us : List Value} (n : Nat), Vals xs us → Vals (xs.take n) (us.take n)
  | _, _, 0, _ => .nil
  | _, _, _ + 1, .nil => .nil
  | _, _, n + 1, .cons r t => .cons r (Vals.take n t)
theorem Vals.drop : ∀ {xs : List V} {us : List Value} (n : Nat), Vals xs us → Vals (xs.drop n) (us.drop n)
  | _, _, 0, r => r
  | _, _, _ + 1, .nil => .nil
  | _, _, n + 1, .cons _ t => Vals.drop n t
def RelO : Option V → Option Value → Prop
  | some v, some u => RelV v u
  | none, none => True
  | _, _ => False
def KV {κ : Type} : List (κ × V) → List (κ × Value) → Prop := Paired fun (p : κ × V) (q : κ × Value) => p.1 = q.1 ∧ RelV p.2 q.2

/-- a key of a dict (00_mix): an int or a text -/
def kV : Key → V
  | .inl i => .int i
  | .inr x => .str x

/-- what stands at a tracked address -/
inductive HO where
  /-- a list -/
  | lst (xs : List V)
  /-- a tuple (never changes) -/
  | tup (xs : List V)
  /-- a dict whose keys are ints and texts; one whose keys are tuples of ints and texts (the empty one is both) -/
  | dK (kvs : List (Key × V)) | dT (kvs : List (List Key × V))
  /-- a set of ints: its members, its size -/
  | set (S : Int → Bool) (n : Nat)
  /-- an instance of the class at C, its dict at dx, its attributes -/
  | ins (C dx : Addr) (fs : List (Str × V))
  /-- the dict of the instance at x -/
  | own (x : Addr)
  /-- the dict of an exception -/
  | xd (fs : List (Str × V))
  /-- a bound method, f of x -/
  | met (f x : Addr)
  /-- a range object lo, lo + 1, .. below hi -/
  | rng (lo hi : Int)
  /-- a thing that is known to the object (the script; a dict while a loop walks it): read, never written while it is so -/
  | frz (o : Obj) (u : HO)
  /-- a code object's table -/
  | tbl (ps : Array Value)
  /-- any other thing, by what is true of its one object (a def of one's own: SetO a S n := HO.ext fun h => ..) -/
  | ext (φ : Heap → Prop)

abbrev Hp := Addr → Option HO
def upd (H : Hp) (a : Addr) (o : HO) : Hp := fun b => if b = a then some o else H b
theorem upd_same {H : Hp} {a : Addr} {o : HO} : upd H a o a = some o := by unfold upd; rw [if_pos rfl]
theorem upd_ne {H : Hp} {a b : Addr} {o : HO} (h : b ≠ a) : upd H a o b = H b := by unfold upd; rw [if_neg h]
/-- two objects of different content stand apart -/
theorem ne_of {H : Hp} {a b : Addr} {o u : HO} (h : H a = some o) (h' : H b = some u) (d : o ≠ u) : a ≠ b := by
  intro e; subst e; rw [h] at h'; exact d (Option.some.inj h')
theorem ne_of_none {H : Hp} {a b : Addr} {o : HO} (h : H a = some o) (h' : H b = none) : a ≠ b := by
  intro e; subst e; rw [h] at h'; cases h'

section
variable (P : Program) (w : World)
def ObjOk (H : Hp) (h : Heap) (a : Addr) : HO → Prop
  | .lst xs => xs.length ≤ sizeLine ∧ ∃ (its : List Value) (n : Nat), Vals xs its ∧ h.get? a = some { cls := .type "list", data := .seq its.toArray n }
  | .tup xs => xs.length ≤ sizeLine ∧ ∃ its : List Value, Vals xs its ∧ IsTup h a its.toArray
  | .dK kvs => kvs.length ≤ sizeLine ∧ (a == sysModules) = false ∧ ∃ vs, KV kvs vs ∧ h.DictOf (mixKind P w) a vs
  | .dT kvs => kvs.length ≤ sizeLine ∧ (a == sysModules) = false ∧ ∃ xs : List (List Key × Addr × Value),
      Paired (fun (p : List Key × V) (q : List Key × Addr × Value) => p.1 = q.1 ∧ H q.2.1 = some (.tup (p.1.map kV)) ∧ RelV p.2 q.2.2) kvs xs ∧
      ∃ o es ep, h.get? a = some o ∧ o.ExactDict ∧ o.data = .dict es ep ∧ es.toList = xs.map (entryOfKey (tupleKind (mixKind P w))) ∧ (xs.map (·.1)).Nodup
  | .set S n => h.SetOf (intKind P w) a S n
  | .ins C dx fs => H dx = some (.own a) ∧ fs.length ≤ 1000 ∧ dx ≠ a ∧ h.get? a = some (PySem.W.instObj C dx) ∧
      ∃ mA, h.Ns1 dx mA ∧ (∀ f, RelO (fs.lookup f) (mA f)) ∧ PySem.Within mA (fs.map (·.1))
  | .own _ => ∃ o, h.get? a = some o
  | .xd fs => ∃ mA, h.Ns1 a mA ∧ ∀ f, RelO (fs.lookup f) (mA f)
  | .rng lo hi => ∃ t u v, h.get? a = some { cls := .type "range", data := .fields #[.int lo t, .int hi u, .int 1 v] }
  | .frz o u => h.get? a = some o ∧ ObjOk H h a u
  | .tbl ps => h.get? a = some { cls := .none, data := .fields ps }
  | .met f x => h.get? a = some (PySem.W.methodObj (.ref f) (.ref x))
  | .ext φ => φ h ∧ (∃ o, h.get? a = some o) ∧ ∀ h1 h2 : Heap, φ h1 → (∀ o, h1.get? a = some o → h2.get? a = some o) → φ h2
/-- the abstract heap is held -/
def HOk (H : Hp) (h : Heap) : Prop := ∀ a o, H a = some o → ObjOk P w H h a o
end

section
variable {P : Program} {w : World} {H H' : Hp} {h h' : Heap} {a : Addr} {o : HO}
theorem ObjOk.lt (x : ObjOk P w H h a o) : a < h.objs.size := by
  cases o with
  | lst xs => obtain ⟨_, _, _, _, e⟩ := x; exact Heap.lt_size e
  | tup xs => obtain ⟨_, _, _, p⟩ := x; exact p.lt
  | dK kvs => obtain ⟨_, _, _, _, o, _, _, e, _⟩ := x; exact Heap.lt_size e
  | dT kvs => obtain ⟨_, _, _, _, o, _, _, e, _⟩ := x; exact Heap.lt_size e
  | set S n => obtain ⟨o, _, _, _, e, _⟩ := x; exact Heap.lt_size e
  | ins C dx fs => obtain ⟨_, _, _, e, _⟩ := x; exact Heap.lt_size e
  | own y => obtain ⟨_, e⟩ := x; exact Heap.lt_size e
  | xd fs => obtain ⟨_, ⟨_, _, _, e, _⟩, _⟩ := x; exact Heap.lt_size e
  | rng lo hi => obtain ⟨_, _, _, e⟩ := x; exact Heap.lt_size e
  | frz ob u => obtain ⟨e, _⟩ := x; exact Heap.lt_size e
  | tbl ps => exact Heap.lt_size (show h.get? a = some _ from x)
  | met f y => exact Heap.lt_size (show h.get? a = some _ from x)
  | ext φ => obtain ⟨_, ⟨_, e⟩, _⟩ := x; exact Heap.lt_size e
theorem Paired.mapP {α β : Type} {F G : α → β → Prop} : ∀ {l₁ : List α} {l₂ : List β}, Paired F l₁ l₂ → (∀ a b, F a b → G a b) → Paired G l₁ l₂
  | _, _, .nil, _ => .nil
  | _, _, .cons r t, f => .cons (f _ _ r) (Paired.mapP t f)
theorem Paired.imp' {α β : Type} {F G : α → β → Prop} (f : ∀ a b, F a b → G a b) {l₁ : List α} {l₂ : List β} (r : Paired F l₁ l₂) : Paired G l₁ l₂ := Paired.mapP r f
/-- what an object's description leans on: its own object, its own dict, the tuples -/
theorem ObjOk.stay (x : ObjOk P w H h a o) (k : ∀ b u, (b = a ∨ H b = some (.own a)) → h.get? b = some u → h'.get? b = some u)
    (ho : ∀ b, H b = some (.own a) → H' b = some (.own a)) (ht : ∀ b xs, H b = some (.tup xs) → H' b = some (.tup xs)) : ObjOk P w H' h' a o := by
  induction o with
  | lst xs => obtain ⟨z, its, n, r, e⟩ := x; exact ⟨z, its, n, r, k _ _ (.inl rfl) e⟩
  | tup xs => obtain ⟨z, its, r, ob, e, c⟩ := x; exact ⟨z, its, r, ob, k _ _ (.inl rfl) e, c⟩
  | dK kvs => obtain ⟨z, y, vs, r, ob, es, ep, e, c⟩ := x; exact ⟨z, y, vs, r, ob, es, ep, k _ _ (.inl rfl) e, c⟩
  | dT kvs =>
    obtain ⟨z, y, xs, r, ob, es, ep, e, c⟩ := x
    exact ⟨z, y, xs, Paired.mapP r fun p q z => ⟨z.1, ht _ _ z.2.1, z.2.2⟩, ob, es, ep, k _ _ (.inl rfl) e, c⟩
  | set S n => obtain ⟨ob, es, ep, t, e, c⟩ := x; exact ⟨ob, es, ep, t, k _ _ (.inl rfl) e, c⟩
  | ins C dx fs =>
    obtain ⟨d, z, ne, e, mA, ⟨od, es, ep, e2, c⟩, r⟩ := x
    exact ⟨ho _ d, z, ne, k _ _ (.inl rfl) e, mA, ⟨od, es, ep, k _ _ (.inr d) e2, c⟩, r⟩
  | own y => obtain ⟨ob, e⟩ := x; exact ⟨ob, k _ _ (.inl rfl) e⟩
  | xd fs => obtain ⟨mA, ⟨od, es, ep, e, c⟩, r⟩ := x; exact ⟨mA, ⟨od, es, ep, k _ _ (.inl rfl) e, c⟩, r⟩
  | rng lo hi => obtain ⟨t, u, v, e⟩ := x; exact ⟨t, u, v, k _ _ (.inl rfl) e⟩
  | frz ob u ih => obtain ⟨e, q⟩ := x; exact ⟨k _ _ (.inl rfl) e, ih q⟩
  | tbl ps =>
    have e : h.get? a = some { cls := .none, data := .fields ps } := x
    show h'.get? a = some { cls := .none, data := .fields ps }
    exact k a _ (.inl rfl) e
  | met f y =>
    have e : h.get? a = some (PySem.W.methodObj (.ref f) (.ref y)) := x
    show h'.get? a = some (PySem.W.methodObj (.ref f) (.ref y))
    exact k a _ (.inl rfl) e
  | ext φ => obtain ⟨p, ⟨o, e⟩, st⟩ := x; exact ⟨st _ _ p fun o q => k _ _ (.inl rfl) q, ⟨o, k _ _ (.inl rfl) e⟩, st⟩
theorem HOk.lt (x : HOk P w H h) (e : H a = some o) : a < h.objs.size := (x a o e).lt
theorem HOk.fresh (x : HOk P w H h) (e : h.objs.size ≤ a) : H a = none := by
  cases q : H a with
  | none => rfl
  | some u => exact absurd (Nat.lt_of_lt_of_le (x.lt q) e) (Nat.lt_irrefl _)
/-- every object of the heap is kept -/
theorem HOk.kept (x : HOk P w H h) (k : ∀ b u, h.get? b = some u → h'.get? b = some u) : HOk P w H h' := fun a o e =>
  (x a o e).stay (fun b u _ q => k b u q) (fun _ q => q) fun _ _ q => q
/-- a new object is laid and tracked -/
theorem HOk.laid (x : HOk P w H h) (k : ∀ b u, h.get? b = some u → h'.get? b = some u) (hp : h.objs.size ≤ a) (new : ObjOk P w (upd H a o) h' a o) : HOk P w (upd H a o) h' := fun b u e => by
  have hn := x.fresh hp
  by_cases hb : b = a
  · subst hb; rw [upd_same] at e; cases e; exact new
  · rw [upd_ne hb] at e
    exact (x b u e).stay (fun c v _ q => k c v q) (fun c q => by rw [upd_ne (ne_of_none q hn)]; exact q) fun c xs q => by rw [upd_ne (ne_of_none q hn)]; exact q
end

/-- what may be read as u: it is u, or a known u -/
def Rd (H : Hp) (a : Addr) (u : HO) : Prop := H a = some u ∨ ∃ o, H a = some (.frz o u)
theorem Rd.of {H : Hp} {a : Addr} {u : HO} (h : H a = some u) : Rd H a u := .inl h
theorem Rd.ok {P : Program} {w : World} {H : Hp} {h : Heap} {a : Addr} {u : HO} (r : Rd H a u) (x : HOk P w H h) : ObjOk P w H h a u := by
  rcases r with r | ⟨o, r⟩
  · exact x a u r
  · obtain ⟨_, q⟩ := x a _ r
    exact q
/-- what may be written -/
def Mut : Option HO → Prop
  | some (.lst _) => True
  | some (.dK _) => True
  | some (.dT _) => True
  | some (.set _ _) => True
  | some (.ins _ _ _) => True
  | some (.ext _) => True
  | _ => False
section
variable {P : Program} {w : World} {H : Hp} {h h' : Heap} {x e : Addr} {o' : HO}
/-- the object at e is changed: x itself, or the dict of the instance x -/
theorem HOk.write (ok : HOk P w H h) (mu : Mut (H x)) (he : e = x ∨ H e = some (.own x)) (k : ∀ b u, b ≠ e → h.get? b = some u → h'.get? b = some u) (heo : ∃ u, h'.get? e = some u)
    (new : ObjOk P w (upd H x o') h' x o') : HOk P w (upd H x o') h' := fun b u q => by
  have nown : ∀ c y, H c = some (.own y) → c ≠ x := fun c y r z => by subst z; rw [r] at mu; exact mu
  have ntup : ∀ c xs, H c = some (.tup xs) → c ≠ x := fun c xs r z => by subst z; rw [r] at mu; exact mu
  by_cases hb : b = x
  · subst hb; rw [upd_same] at q; cases q; exact new
  · rw [upd_ne hb] at q
    by_cases hbe : b = e
    · have q' : H b = some (.own x) := by
        rcases he with z | z
        · exact absurd (hbe.trans z) hb
        · rw [hbe]; exact z
      rw [q] at q'; cases q'
      obtain ⟨v, hv⟩ := heo
      exact ⟨v, by rw [hbe]; exact hv⟩
    · refine (ok b u q).stay (fun c v hc r => k c v ?_ r) (fun c r => by rw [upd_ne (nown c b r)]; exact r) fun c xs r => by rw [upd_ne (ntup c xs r)]; exact r
      rcases hc with rfl | hc
      · exact hbe
      · rintro rfl
        rcases he with z | z
        · exact nown c b hc z
        · rw [hc] at z; cases z; exact hb rfl
end

/-! ### kept unless tracked; of the frames at fs (the callers') the slots may change (an exception that passes writes there); of the records at ex (iterators) nothing is said -/
structure Un (fs ex : List Addr) (H H' : Hp) (h h' : Heap) : Prop where
  keep : ∀ b o, h.get? b = some o → H b = none → b ∉ fs → b ∉ ex → h'.get? b = some o
  slot : ∀ b o, h.get? b = some o → H b = none → b ∈ fs → b ∉ ex → ∃ sl, h'.get? b = some { o with slots := sl }
  free : ∀ b o, h.get? b = some o → H b = none → b ∉ ex → H' b = none
  there : ∀ b o, h.get? b = some o → b ∉ ex → ∃ o', h'.get? b = some o'
  tups : ∀ b xs, H b = some (.tup xs) → H' b = some (.tup xs)
  frzs : ∀ b o u, H b = some (.frz o u) → H' b = some (.frz o u)
  tbls : ∀ b ps, H b = some (.tbl ps) → ∃ more, H' b = some (.tbl (ps ++ more))
section
variable {fs fs' ex ex' : List Addr} {H H1 H2 : Hp} {h h1 h2 h' : Heap} {a x e : Addr} {o : HO}
theorem Un.any (u : Un fs ex H H1 h h1) {b : Addr} {ob : Obj} (q : h.get? b = some ob) (n : H b = none) (hx : b ∉ ex) : ∃ sl, h1.get? b = some { ob with slots := sl } := by
  by_cases hb : b ∈ fs
  · exact u.slot b ob q n hb hx
  · exact ⟨ob.slots, u.keep b ob q n hb hx⟩
theorem Un.trans (a : Un fs ex H H1 h h1) (b : Un fs ex H1 H2 h1 h2) : Un fs ex H H2 h h2 where
  keep := fun c ob q n hc hx => b.keep c ob (a.keep c ob q n hc hx) (a.free c ob q n hx) hc hx
  slot := fun c ob q n hc hx => by
    obtain ⟨sl, e1⟩ := a.slot c ob q n hc hx
    obtain ⟨sl', e2⟩ := b.slot c _ e1 (a.free c ob q n hx) hc hx
    exact ⟨sl', e2⟩
  free := fun c ob q n hx => by
    obtain ⟨o', e1⟩ := a.there c ob q hx
    exact b.free c o' e1 (a.free c ob q n hx) hx
  there := fun c ob q hx => by
    obtain ⟨o', e1⟩ := a.there c ob q hx
    exact b.there c o' e1 hx
  tups := fun c xs q => b.tups c xs (a.tups c xs q)
  frzs := fun c ob xs q => b.frzs c ob xs (a.frzs c ob xs q)
  tbls := fun c ps q => by
    obtain ⟨m1, e1⟩ := a.tbls c ps q
    obtain ⟨m2, e2⟩ := b.tbls c _ e1
    exact ⟨m1 ++ m2, by rw [e2, Array.append_assoc]⟩
theorem Un.kept (k : ∀ b u, h.get? b = some u → h'.get? b = some u) : Un fs ex H H h h' :=
  ⟨fun b ob q _ _ _ => k b ob q, fun b ob q _ _ _ => ⟨ob.slots, k b ob q⟩, fun _ _ _ n _ => n, fun b ob q _ => ⟨ob, k b ob q⟩, fun _ _ q => q, fun _ _ _ q => q, fun _ ps q => ⟨#[], by rw [q]; simp⟩⟩
theorem Un.refl : Un fs ex H H h h := Un.kept fun _ _ q => q
theorem Un.laid (k : ∀ b u, h.get? b = some u → h'.get? b = some u) (hp : h.objs.size ≤ a) (hn : H a = none) : Un fs ex H (upd H a o) h h' where
  keep := fun b u q _ _ _ => k b u q
  slot := fun b u q _ _ _ => ⟨u.slots, k b u q⟩
  free := fun b u q n _ => by rw [upd_ne (Nat.ne_of_lt (Nat.lt_of_lt_of_le (Heap.lt_size q) hp))]; exact n
  there := fun b u q _ => ⟨u, k b u q⟩
  tups := fun b xs q => by rw [upd_ne (ne_of_none q hn)]; exact q
  frzs := fun b u xs q => by rw [upd_ne (ne_of_none q hn)]; exact q
  tbls := fun b ps q => ⟨#[], by rw [upd_ne (ne_of_none q hn), q]; simp⟩
theorem Un.write (mu : Mut (H x)) (he : e = x ∨ H e = some (.own x)) (k : ∀ b u, b ≠ e → h.get? b = some u → h'.get? b = some u) (heo : ∃ u, h'.get? e = some u) : Un fs ex H (upd H x o) h h' := by
  have hx : ∀ b, H b = none → b ≠ x := fun b n z => by subst z; rw [n] at mu; exact mu
  have hb : ∀ b, H b = none → b ≠ e := fun b n z => by
    subst z
    rcases he with r | r
    · exact hx b n r
    · rw [n] at r; cases r
  have hm : ∀ b u, H b = some u → ¬ Mut (some u) → b ≠ x := fun b u q nm z => by subst z; rw [q] at mu; exact nm mu
  refine ⟨fun b u q n _ _ => k b u (hb b n) q, fun b u q n _ _ => ⟨u.slots, k b u (hb b n) q⟩, fun b u q n _ => by rw [upd_ne (hx b n)]; exact n, fun b u q _ => ?_,
    fun b xs q => by rw [upd_ne (hm b _ q fun z => z)]; exact q, fun b u xs q => by rw [upd_ne (hm b _ q fun z => z)]; exact q, fun b ps q => ⟨#[], by rw [upd_ne (hm b _ q fun z => z), q]; simp⟩⟩
  by_cases hbe : b = e
  · subst hbe; exact heo
  · exact ⟨u, k b u hbe q⟩
theorem Un.mono (u : Un fs ex H H1 h h1) (hs : ∀ b ∈ fs, b ∈ fs') (hx : ∀ b ∈ ex, b ∈ ex') : Un fs' ex' H H1 h h1 :=
  ⟨fun b ob q n hb he => u.keep b ob q n (fun z => hb (hs b z)) fun z => he (hx b z), fun _ _ q n _ he => u.any q n fun z => he (hx _ z), fun b ob q n he => u.free b ob q n fun z => he (hx b z), fun b ob q he => u.there b ob q fun z => he (hx b z), u.tups, u.frzs, u.tbls⟩
end

/-! ### the heap without what is tracked -/
def trk (h : Heap) (H : Hp) : List Addr := (List.range h.objs.size).filter fun a => (H a).isSome
def hidT (h : Heap) (H : Hp) : Heap := PySem.W.hideAll h (trk h H)
theorem hidT_size (h : Heap) (H : Hp) : (hidT h H).objs.size = h.objs.size := PySem.W.hideAll_size _ _
theorem hidT_get {h : Heap} {H : Hp} {b : Addr} {o : Obj} (e : h.get? b = some o) (n : H b = none) : (hidT h H).get? b = some o :=
  PySem.W.hideAll_get _ e fun hm => by
    have q : (H b).isSome = true := (List.mem_filter.mp hm).2
    rw [n] at q; simp at q
theorem of_hidT {h : Heap} {H : Hp} {b : Addr} {o : Obj} (e : (hidT h H).get? b = some o) : h.get? b = some o ∧ H b = none := by
  have e' : h.get? b = some o := PySem.W.of_hideAll (trk h H) e
  refine ⟨e', ?_⟩
  cases q : H b with
  | none => rfl
  | some x =>
    have hm : b ∈ trk h H := List.mem_filter.mpr ⟨List.mem_range.mpr (Heap.lt_size e'), by simp [q]⟩
    have z : (hidT h H).get? b = none := PySem.W.hideAll_none (trk h H) hm
    rw [z] at e; cases e

/-! ### OpenK's ledger, filled with every new object but one -/
def allNews (g h : Heap) (L : Addr) : List (Addr × Obj) := (List.range h.objs.size).filterMap fun a => if a = L ∨ (g.get? a).isSome = true then none else (h.get? a).map fun o => (a, o)
def rest (g h : Heap) (L d : Addr) : List (Addr × Obj) := (allNews g h L).filter fun p => decide (p.1 ≠ d)
end L2

namespace L2
open PySem PySem.Spec PyProof.Rows

/-- the module's facts, over the base: the heap at the law's entry without what is tracked there -/
structure Mod (K : PySem.W.Frag) (mg : Str → Option Value) (base : Heap) : Prop where
  kin : K.In base
  glob : base.Ns mainGlobals mg
  blt : ∃ mb, base.Ns builtinsNs mb ∧ ∀ x : Str, x ≠ "__name__" → mb x = bootBuiltins x
  nolimit : base.NoLimit

/-- the context: a def's body (or a comprehension's block) running. base: fixed through the whole law; s₀, H₀: the entry; outer: the frames whose slots others may change (a def's callers); stack: all frames that run;
   ex: iterators that were made ahead of the entry and are walked here (a comprehension's); fn: the names whose cells were made at the entry (a def: all; a comprehension's block: its own); calm: not within an except suite; pn: pins that every state bears; xe: what is wanted of an exception that leaves the code -/
structure Cx where
  prog : Program
  w : World
  K : PySem.W.Frag
  mg : Str → Option Value
  base : Heap
  A : Around
  N : List Str
  s₀ : Shared
  H₀ : Hp
  env : Env
  outer : List Env
  stack : List Env
  ex : List Addr
  fn : Str → Bool
  calm : Bool
  pn : List (Addr × Obj)
  xe : Value → Shared → Prop
/-- the callers' frames -/
def frs (l : List Env) : List Addr := l.filterMap (·.frame)
abbrev Cx.fs (X : Cx) : List Addr := frs X.outer

def Vis (sc : Scope) (x : Str) : Prop := sc.names.lookup x = some .local ∨ sc.names.lookup x = some .cell ∨ sc.names.lookup x = some .free
def Loc (sc : Scope) (x : Str) : Prop := sc.names.lookup x = some .local ∨ sc.names.lookup x = some .cell
def Look (env : Env) (h : Heap) (m : Str → Option Value) (x : Str) (u : Value) : Prop :=
  (env.kindOf x = some .local ∧ m x = some u) ∨ ((env.kindOf x = some .cell ∨ env.kindOf x = some .free) ∧ ∃ c, env.cells.lookup x = some c ∧ h.IsCell c (some u))

structure Cx.Ok (X : Cx) : Prop where
  mod : Mod X.K X.mg X.base
  kind : X.env.scope.kind = .function
  glob : X.env.globals = mainGlobals
  blt : X.env.builtins = builtinsNs
  above : X.s₀.heap.objs.size ≤ X.env.locals
  inj : ∀ x y c, X.env.cells.lookup x = some c → X.env.cells.lookup y = some c → x = y
  has : ∀ x, (X.env.kindOf x = some .cell ∨ X.env.kindOf x = some .free) → ∃ c, X.env.cells.lookup x = some c
  cab : ∀ x c, X.fn x = true → X.env.cells.lookup x = some c → X.s₀.heap.objs.size ≤ c
  hd : X.calm = true → X.A.handled = none
  frames : X.A.frames = some X.stack
  stk : X.stack = X.outer ∨ (X.stack = X.env :: X.outer ∧ X.env.frame = some X.env.locals)
  exf : ∀ b ∈ X.ex, b ≠ X.env.locals ∧ ∀ x c, X.env.cells.lookup x = some c → c ≠ b
  bs : ∀ b o, X.base.get? b = some o → X.s₀.heap.get? b = some o ∧ X.H₀ b = none
  bsz : X.base.objs.size ≤ X.s₀.heap.objs.size
  noex : ∀ b o, X.base.get? b = some o → b ∉ X.ex
  exfs : ∀ b ∈ X.ex, b ∉ X.fs
  funs : X.s₀.heap.FunFrames X.base X.outer
  frf : ∀ b ∈ X.fs, X.H₀ b = none

structure Inv (X : Cx) (pins : List (Addr × Obj)) (σ : List (Option V)) (H : Hp) (s : Shared) : Prop where
  ok : X.Ok
  os : s.os = X.s₀.os
  bare : AllBare s.gens
  base : Un X.fs X.ex X.H₀ H X.s₀.heap s.heap
  loc : ∃ m, s.heap.Ns X.env.locals m ∧ ∀ (i : Nat) (x : Str) (v : V), X.N[i]? = some x → σ[i]? = some (some v) → Vis X.env.scope x → ∃ u, RelV v u ∧ Look X.env s.heap m x u
  cell : ∀ x c, X.env.cells.lookup x = some c → ∃ v, s.heap.IsCell c v
  free : H X.env.locals = none
  freeC : ∀ x c, X.env.cells.lookup x = some c → H c = none
  pin : ∀ p ∈ X.pn ++ pins, s.heap.get? p.1 = some p.2 ∧ H p.1 = none ∧ p.1 ≠ X.env.locals ∧ p.1 ∉ X.fs ∧ ∀ v, p.2.data ≠ .cell v
  hok : HOk X.prog X.w H s.heap
  len : σ.length = X.N.length

section
variable {X : Cx} {pins : List (Addr × Obj)} {σ : List (Option V)} {H H' : Hp} {s : Shared} {h' : Heap}

theorem Cx.Ok.nofr (ok : X.Ok) {b : Addr} {o : Obj} (e : X.base.get? b = some o) : b ∉ X.fs := fun hb => by
  have := (ok.funs.mem hb).1
  rw [e] at this; cases this
theorem Inv.bs (I : Inv X pins σ H s) : ∀ b o, X.base.get? b = some o → s.heap.get? b = some o ∧ H b = none := fun b o e =>
  ⟨I.base.keep b o (I.ok.bs b o e).1 (I.ok.bs b o e).2 (I.ok.nofr e) (I.ok.noex b o e), I.base.free b o (I.ok.bs b o e).1 (I.ok.bs b o e).2 (I.ok.noex b o e)⟩
theorem Inv.bk (I : Inv X pins σ H s) : ∀ b o, X.base.get? b = some o → s.heap.get? b = some o := fun b o e => (I.bs b o e).1
theorem Inv.mod (I : Inv X pins σ H s) : Mod X.K X.mg X.base := I.ok.mod
theorem Inv.kIn (I : Inv X pins σ H s) : X.K.In s.heap := I.ok.mod.kin.keeps I.bk
theorem Inv.nolimit (I : Inv X pins σ H s) : s.heap.NoLimit := I.ok.mod.nolimit.keeps I.bk
theorem Inv.lt (I : Inv X pins σ H s) : X.env.locals < s.heap.objs.size := let ⟨_, hn, _⟩ := I.loc; hn.lt
theorem Inv.sz (I : Inv X pins σ H s) : X.s₀.heap.objs.size ≤ s.heap.objs.size := Nat.le_trans I.ok.above (Nat.le_of_lt I.lt)
theorem Inv.nofs (I : Inv X pins σ H s) {a : Addr} (h : s.heap.objs.size ≤ a) : a ∉ X.fs := fun hb => by
  obtain ⟨_, o, ho, _⟩ := I.ok.funs.mem hb
  exact absurd (Nat.lt_of_lt_of_le (Heap.lt_size ho) (Nat.le_trans I.sz h)) (Nat.lt_irrefl _)
theorem Inv.cne (I : Inv X pins σ H s) : ∀ x c, X.env.cells.lookup x = some c → c ≠ X.env.locals := fun x c e z => by
  obtain ⟨v, o, ho, hd⟩ := I.cell x c e
  obtain ⟨m, ⟨o', es, ep, ho', hd', _⟩, _⟩ := I.loc
  rw [z, ho'] at ho; cases ho; rw [hd'] at hd; cases hd
theorem Inv.funs (I : Inv X pins σ H s) : s.heap.FunFrames X.base X.outer := by
  have all : ∀ (l : List Env), (∀ b ∈ frs l, b ∈ X.fs) → X.s₀.heap.FunFrames X.base l → s.heap.FunFrames X.base l := by
    intro l
    induction l with
    | nil => intro _ _; trivial
    | cons env r ih =>
      intro hs hl
      obtain ⟨hk, ⟨L, o, hf, hn, ho, hd⟩, hr⟩ := hl
      have hL : L ∈ X.fs := hs L (by unfold frs; rw [List.filterMap_cons, hf]; exact List.mem_cons_self)
      obtain ⟨sl, e⟩ := I.base.slot L o ho (I.ok.frf L hL) hL fun z => I.ok.exfs L z hL
      exact ⟨hk, ⟨L, _, hf, hn, e, hd⟩, ih (fun b hb => hs b (by unfold frs; rw [List.filterMap_cons, hf]; exact List.mem_cons_of_mem _ hb)) hr⟩
  exact all X.outer (fun _ hb => hb) I.ok.funs

/-- the frames that run, for a call -/
theorem Inv.stack (I : Inv X pins σ H s) : s.heap.FunFrames X.base X.stack := by
  rcases I.ok.stk with e | ⟨e, hf⟩
  · rw [e]; exact I.funs
  · rw [e]
    obtain ⟨m, hn, _⟩ := I.loc
    refine .cons (by rw [I.ok.kind]; decide) hf hn ?_ I.funs
    exact Heap.get?_none_of_le (Nat.le_trans I.ok.bsz I.ok.above)
theorem Inv.stkSub (I : Inv X pins σ H s) : ∀ b ∈ frs X.stack, b ∈ X.env.locals :: X.fs := fun b hb => by
  rcases I.ok.stk with e | ⟨e, hf⟩
  · rw [e] at hb; exact List.mem_cons_of_mem _ hb
  · rw [e] at hb
    unfold frs at hb
    rw [List.filterMap_cons, hf] at hb
    exact hb
theorem Inv.stkFree (I : Inv X pins σ H s) : ∀ b ∈ frs X.stack, H b = none := fun b hb => by
  rcases List.mem_cons.mp (I.stkSub b hb) with e | hb
  · rw [e]; exact I.free
  · obtain ⟨_, o, ho, _⟩ := I.ok.funs.mem hb
    exact I.base.free b o ho (I.ok.frf b hb) fun z => I.ok.exfs b z hb

/-- THE STEP: the untracked objects but the frame and the records at ch are kept (the callers' frames up to slots), the frame's map is kept, the new abstract heap is held -/
theorem Inv.step {g' : Array GenState} {t' : Nat} {d' : Drawn} {ch : List Addr} (I : Inv X pins σ H s)
    (hch : ∀ b ∈ ch, (b ∈ X.ex ∨ X.s₀.heap.objs.size ≤ b) ∧ b ≠ X.env.locals ∧ (∀ x c, X.env.cells.lookup x = some c → c ≠ b) ∧ ∀ p ∈ X.pn ++ pins, p.1 ≠ b)
    (keep : ∀ b o, b ≠ X.env.locals → b ∉ X.fs → b ∉ ch → s.heap.get? b = some o → H b = none → h'.get? b = some o)
    (slot : ∀ b o, b ≠ X.env.locals → b ∈ X.fs → b ∉ ch → s.heap.get? b = some o → H b = none → ∃ sl, h'.get? b = some { o with slots := sl }) (free : ∀ b o, b ∉ ch → s.heap.get? b = some o → H b = none → H' b = none)
    (there : ∀ b o, b ∉ ch → s.heap.get? b = some o → ∃ o', h'.get? b = some o')
    (tups : ∀ b xs, H b = some (.tup xs) → H' b = some (.tup xs)) (frzs : ∀ b o u, H b = some (.frz o u) → H' b = some (.frz o u)) (tbls : ∀ b ps, H b = some (.tbl ps) → ∃ more, H' b = some (.tbl (ps ++ more)))
    (ns : ∀ m, s.heap.Ns X.env.locals m → h'.Ns X.env.locals m) (hok : HOk X.prog X.w H' h') (hg : AllBare g') :
    Inv X pins σ H' { s with heap := h', gens := g', drawn := d', toks := t' } := by
  have neL : ∀ b o, X.s₀.heap.get? b = some o → b ≠ X.env.locals := fun b o e => Nat.ne_of_lt (Nat.lt_of_lt_of_le (Heap.lt_size e) I.ok.above)
  have neC : ∀ b o, X.s₀.heap.get? b = some o → b ∉ X.ex → b ∉ ch := fun b o e hx hb => by
    rcases (hch b hb).1 with z | z
    · exact hx z
    · exact absurd (Nat.lt_of_lt_of_le (Heap.lt_size e) z) (Nat.lt_irrefl _)
  have cellK : ∀ x c, X.env.cells.lookup x = some c → ∀ v, s.heap.IsCell c v → h'.IsCell c v := fun x c e v ⟨o, ho, hd⟩ => by
    have nch : c ∉ ch := fun z => (hch c z).2.2.1 x c e rfl
    by_cases hc : c ∈ X.fs
    · obtain ⟨sl, q⟩ := slot c o (I.cne x c e) hc nch ho (I.freeC x c e)
      exact ⟨_, q, hd⟩
    · exact ⟨o, keep c o (I.cne x c e) hc nch ho (I.freeC x c e), hd⟩
  refine ⟨I.ok, I.os, hg, ⟨fun b o e n hb hx => ?_, fun b o e n hb hx => ?_, fun b o e n hx => ?_, fun b o e hx => ?_, fun b xs e => tups b xs (I.base.tups b xs e), fun b o xs e => frzs b o xs (I.base.frzs b o xs e), fun b ps e => ?_⟩, ?_, fun x c e => ?_, ?_, fun x c e => ?_, fun p hp => ?_, hok, I.len⟩
  · exact keep b o (neL b o e) hb (neC b o e hx) (I.base.keep b o e n hb hx) (I.base.free b o e n hx)
  · obtain ⟨sl, e1⟩ := I.base.slot b o e n hb hx
    obtain ⟨sl', e2⟩ := slot b _ (neL b o e) hb (neC b o e hx) e1 (I.base.free b o e n hx)
    exact ⟨sl', e2⟩
  · obtain ⟨o', e1⟩ := I.base.there b o e hx
    exact free b o' (neC b o e hx) e1 (I.base.free b o e n hx)
  · obtain ⟨o', e1⟩ := I.base.there b o e hx
    exact there b o' (neC b o e hx) e1
  · obtain ⟨m1, e1⟩ := I.base.tbls b ps e
    obtain ⟨m2, e2⟩ := tbls b _ e1
    exact ⟨m1 ++ m2, by rw [e2, Array.append_assoc]⟩
  · obtain ⟨m, hn, hl⟩ := I.loc
    refine ⟨m, ns m hn, fun i x v e1 e2 e3 => ?_⟩
    obtain ⟨u, r, l⟩ := hl i x v e1 e2 e3
    refine ⟨u, r, ?_⟩
    rcases l with l | ⟨k, c, e, z⟩
    · exact .inl l
    · exact .inr ⟨k, c, e, cellK x c e _ z⟩
  · obtain ⟨v, z⟩ := I.cell x c e
    exact ⟨v, cellK x c e v z⟩
  · obtain ⟨m, ⟨o, _, _, ho, _⟩, _⟩ := I.loc
    exact free _ o (fun z => (hch _ z).2.1 rfl) ho I.free
  · obtain ⟨v, o, ho, hd⟩ := I.cell x c e
    exact free c o (fun z => (hch c z).2.2.1 x c e rfl) ho (I.freeC x c e)
  · obtain ⟨e, n, ne, nf, d⟩ := I.pin p hp
    have nch : p.1 ∉ ch := fun z => (hch p.1 z).2.2.2 p hp rfl
    exact ⟨keep p.1 p.2 ne nf nch e n, free p.1 p.2 nch e n, ne, nf, d⟩
/-- .. where the frame's own object is kept too -/
theorem Inv.un {t' : Nat} (I : Inv X pins σ H s) (u : Un X.fs [] H H' s.heap h') (hok : HOk X.prog X.w H' h') : Inv X pins σ H' { s with heap := h', toks := t' } := by
  obtain ⟨m, ⟨o, es, ep, ho, r⟩, _⟩ := id I.loc
  obtain ⟨sl, hL⟩ := u.any ho I.free (by simp)
  exact I.step (g' := s.gens) (d' := s.drawn) (ch := []) (fun _ z => nomatch z) (fun b o _ hb _ e n => u.keep b o e n hb (by simp)) (fun b o _ hb _ e n => u.slot b o e n hb (by simp)) (fun b o _ e n => u.free b o e n (by simp)) (fun b o _ e => u.there b o e (by simp)) u.tups u.frzs u.tbls (fun m' hm => by
    obtain ⟨o', es', ep', ho', r'⟩ := hm
    rw [ho] at ho'; cases ho'
    exact ⟨_, es', ep', hL, r'⟩) hok I.bare
/-- behind a call (or a comprehension's block): the slots of this frame may have changed too, the records at ch may have turned -/
theorem Inv.call {g' : Array GenState} {t' : Nat} {d' : Drawn} {ch : List Addr} (I : Inv X pins σ H s) (u : Un (frs X.stack) ch H H' s.heap h') (hok : HOk X.prog X.w H' h') (hg : AllBare g')
    (hch : ∀ b ∈ ch, (b ∈ X.ex ∨ X.s₀.heap.objs.size ≤ b) ∧ b ≠ X.env.locals ∧ (∀ x c, X.env.cells.lookup x = some c → c ≠ b) ∧ ∀ p ∈ X.pn ++ pins, p.1 ≠ b) :
    Inv X pins σ H' { s with heap := h', gens := g', drawn := d', toks := t' } := by
  obtain ⟨m, ⟨o, es, ep, ho, r⟩, _⟩ := id I.loc
  obtain ⟨sl, hL⟩ := u.any ho I.free fun z => (hch _ z).2.1 rfl
  exact I.step (ch := ch) hch (fun b o hL hb hc e n => u.keep b o e n (fun z => (List.mem_cons.mp (I.stkSub b z)).elim hL hb) hc) (fun b o _ _ hc e n => u.any e n hc) (fun b o hc e n => u.free b o e n hc) (fun b o hc e => u.there b o e hc) u.tups u.frzs u.tbls (fun m' hm => by
    obtain ⟨o', es', ep', ho', r'⟩ := hm
    rw [ho] at ho'; cases ho'
    exact ⟨_, es', ep', hL, r'⟩) hok hg
/-- an untracked record of ours (an iterator) has turned -/
theorem Inv.turned {t' : Nat} {it : Addr} (I : Inv X pins σ H s) (k : ∀ b o, b ≠ it → s.heap.get? b = some o → h'.get? b = some o) (hn : H it = none) (hL : it ≠ X.env.locals)
    (h1 : it ∈ X.ex ∨ X.s₀.heap.objs.size ≤ it) (h2 : ∀ x c, X.env.cells.lookup x = some c → c ≠ it) (h3 : ∀ p ∈ X.pn ++ pins, p.1 ≠ it) : Inv X pins σ H { s with heap := h', toks := t' } := by
  have nit : ∀ b u, H b = some u → b ≠ it := fun b u e z => by rw [z, hn] at e; cases e
  refine I.step (g' := s.gens) (d' := s.drawn) (ch := [it]) (fun b hb => ?_) (fun b o _ _ hc e _ => k b o (fun z => hc (by simp [z])) e) (fun b o _ _ hc e _ => ⟨o.slots, k b o (fun z => hc (by simp [z])) e⟩) (fun _ _ _ _ n => n)
    (fun b o hc e => ⟨o, k b o (fun z => hc (by simp [z])) e⟩) (fun _ _ e => e) (fun _ _ _ e => e) (fun b ps e => ⟨#[], by rw [e]; simp⟩) (fun m hm => ?_) (fun b u e => ?_) I.bare
  · have e : b = it := by simpa using hb
    subst e
    exact ⟨h1, hL, h2, h3⟩
  · obtain ⟨o, es, ep, ho, r⟩ := hm
    exact ⟨o, es, ep, k _ o (Ne.symm hL) ho, r⟩
  · refine (I.hok b u e).stay (fun c v hc q => k c v ?_ q) (fun _ q => q) fun _ _ q => q
    rcases hc with z | z
    · rw [z]; exact nit b u e
    · exact nit c _ z
theorem Inv.tok (I : Inv X pins σ H s) (t : Nat) : Inv X pins σ H { s with toks := t } := I.un (h' := s.heap) (t' := t) Un.refl I.hok
/-- all objects kept -/
theorem Inv.kept {t' : Nat} (I : Inv X pins σ H s) (k : ∀ b u, s.heap.get? b = some u → h'.get? b = some u) : Inv X pins σ H { s with heap := h', toks := t' } := I.un (Un.kept k) (I.hok.kept k)
/-- a new object laid and tracked -/
theorem Inv.laid {a : Addr} {o : HO} {t' : Nat} (I : Inv X pins σ H s) (k : ∀ b u, s.heap.get? b = some u → h'.get? b = some u) (hp : s.heap.objs.size ≤ a) (new : ObjOk X.prog X.w (upd H a o) h' a o) :
    Inv X pins σ (upd H a o) { s with heap := h', toks := t' } := I.un (Un.laid k hp (I.hok.fresh hp)) (I.hok.laid k hp new)
/-- an object written -/
theorem Inv.write {x e : Addr} {o : HO} {t' : Nat} (I : Inv X pins σ H s) (mu : Mut (H x)) (he : e = x ∨ H e = some (.own x)) (k : ∀ b u, b ≠ e → s.heap.get? b = some u → h'.get? b = some u) (heo : ∃ u, h'.get? e = some u)
    (new : ObjOk X.prog X.w (upd H x o) h' x o) : Inv X pins σ (upd H x o) { s with heap := h', toks := t' } := I.un (Un.write mu he k heo) (I.hok.write mu he k heo new)
/-- forgetting slots, pins -/
theorem Inv.weak {σ' : List (Option V)} (I : Inv X pins σ H s) (hl : σ'.length = σ.length) (w : ∀ (i : Nat) v, σ'[i]? = some (some v) → σ[i]? = some (some v)) : Inv X pins σ' H s :=
  ⟨I.ok, I.os, I.bare, I.base, let ⟨m, hn, hl'⟩ := I.loc; ⟨m, hn, fun i x v e1 e2 e3 => hl' i x v e1 (w i v e2) e3⟩, I.cell, I.free, I.freeC, I.pin, I.hok, hl.trans I.len⟩
theorem Inv.pins_of {pins' : List (Addr × Obj)} (I : Inv X pins σ H s) (h : ∀ p ∈ pins', s.heap.get? p.1 = some p.2 ∧ H p.1 = none ∧ p.1 ≠ X.env.locals ∧ p.1 ∉ X.fs ∧ ∀ v, p.2.data ≠ .cell v) : Inv X pins' σ H s :=
  ⟨I.ok, I.os, I.bare, I.base, I.loc, I.cell, I.free, I.freeC, fun p hp => (List.mem_append.mp hp).elim (fun z => I.pin p (List.mem_append_left _ z)) (h p), I.hok, I.len⟩

theorem nodup_ix {N : List Str} (hN : N.Nodup) {i j : Nat} {x : Str} (a : N[i]? = some x) (b : N[j]? = some x) : i = j := by
  obtain ⟨h1, e1⟩ := List.getElem?_eq_some_iff.mp a
  obtain ⟨h2, e2⟩ := List.getElem?_eq_some_iff.mp b
  exact (List.getElem_inj hN).mp (e1.trans e2.symm)

/-- a name is stored; what changed -/
theorem store_ok2 {M : Model} {A : Around} {E : Value → Shared → Prop} {i : Nat} {x : Str} {v : V} {u : Value} {Q : Unit → Shared → Prop} (I : Inv X pins σ H s) (hN : X.N.Nodup) (hi : X.N[i]? = some x) (hx : Loc X.env.scope x) (r : RelV v u)
    (h : ∀ s', Inv X pins (σ.set i (some v)) H s' → (∃ a, Heap.SameBut a s.heap s'.heap ∧ (a = X.env.locals ∨ X.env.cells.lookup x = some a)) → Q () s') (hf : X.fn x = true ∨ X.env.scope.names.lookup x = some .local := by first | exact .inl rfl | exact .inr rfl | assumption) : wpAny M A (storeName X.env x u) Q E s := by
  obtain ⟨m, hn, hl⟩ := id I.loc
  have hcls : (X.env.scope.kind == .class || (X.env.scope.kind == .module && X.env.locals != X.env.globals)) = false := by rw [I.ok.kind]; rfl
  have hiσ : i < σ.length := by rw [I.len]; exact (List.getElem?_eq_some_iff.mp hi).1
  have cne := I.cne
  have tracked : ∀ {a : Addr} {h' : Heap}, (∃ o, s.heap.get? a = some o ∧ H a = none) → Heap.SameBut a s.heap h' → HOk X.prog X.w H h' := fun {a h'} ha hs b ob e => by
    obtain ⟨_, _, hfree⟩ := ha
    refine (I.hok b ob e).stay (fun c w' hc q => (hs.2 c ?_).trans q) (fun _ q => q) fun _ _ q => q
    rintro rfl
    rcases hc with rfl | hc
    · rw [hfree] at e; cases e
    · rw [hfree] at hc; cases hc
  rcases hx with hk | hk
  · refine wpAny_storeName_local hk hn (fun h' hn' hs => ?_) hcls
    obtain ⟨oL, _, _, hoL, _⟩ := id hn
    refine h _ ⟨I.ok, I.os, I.bare, ⟨fun b o e n hb hx => ?_, fun b o e n hb hx => ?_, I.base.free, fun b o e hx => ?_, I.base.tups, I.base.frzs, I.base.tbls⟩, ⟨_, hn', fun j y v' e1 e2 e3 => ?_⟩, fun y c e => ?_, I.free, I.freeC, fun p hp => ?_, tracked ⟨oL, hoL, I.free⟩ hs, by simpa using I.len⟩ ⟨_, hs, .inl rfl⟩
    · exact (hs.2 b (Nat.ne_of_lt (Nat.lt_of_lt_of_le (Heap.lt_size e) I.ok.above))).trans (I.base.keep b o e n hb hx)
    · obtain ⟨sl, e1⟩ := I.base.slot b o e n hb hx
      exact ⟨sl, (hs.2 b (Nat.ne_of_lt (Nat.lt_of_lt_of_le (Heap.lt_size e) I.ok.above))).trans e1⟩
    · obtain ⟨o', e1⟩ := I.base.there b o e hx
      exact ⟨o', (hs.2 b (Nat.ne_of_lt (Nat.lt_of_lt_of_le (Heap.lt_size e) I.ok.above))).trans e1⟩
    · by_cases hj : j = i
      · subst hj
        rw [hi] at e1; cases e1
        rw [List.getElem?_set_self hiσ] at e2
        cases e2
        exact ⟨u, r, .inl ⟨hk, by simp⟩⟩
      · rw [List.getElem?_set_ne (Ne.symm hj)] at e2
        obtain ⟨u', r', q⟩ := hl j y v' e1 e2 e3
        refine ⟨u', r', ?_⟩
        rcases q with ⟨k, e⟩ | ⟨k, c, e, z⟩
        · refine .inl ⟨k, ?_⟩
          have : y ≠ x := fun e => hj (nodup_ix hN e1 (e ▸ hi))
          simp [this, e]
        · exact .inr ⟨k, c, e, z.sameBut hs (cne y c e)⟩
    · obtain ⟨w', z⟩ := I.cell y c e
      exact ⟨w', z.sameBut hs (cne y c e)⟩
    · obtain ⟨e, n, ne, nf, d⟩ := I.pin p hp
      exact ⟨(hs.2 p.1 ne).trans e, n, ne, nf, d⟩
  · have hfn : X.fn x = true := by
      rcases hf with z | z
      · exact z
      · rw [z] at hk; cases hk
    obtain ⟨c, hc⟩ := I.ok.has x (.inl hk)
    obtain ⟨w', z⟩ := I.cell x c hc
    refine wpAny_storeName_cell I.ok.kind hk hc z (fun h' hc' hs => ?_)
    obtain ⟨oc, hoc, hocd⟩ := id z
    refine h { s with heap := h' } ⟨I.ok, I.os, I.bare, ⟨fun b o e n hb hx => ?_, fun b o e n hb hx => ?_, I.base.free, fun b o e hx => ?_, I.base.tups, I.base.frzs, I.base.tbls⟩, ⟨m, hn.sameBut hs (Ne.symm (cne x c hc)), fun j y v' e1 e2 e3 => ?_⟩, fun y c' e => ?_, I.free, I.freeC, fun p hp => ?_, tracked ⟨oc, hoc, I.freeC x c hc⟩ hs, by simpa using I.len⟩ ⟨c, hs, .inr hc⟩
    · exact (hs.2 b (Nat.ne_of_lt (Nat.lt_of_lt_of_le (Heap.lt_size e) (I.ok.cab x c hfn hc)))).trans (I.base.keep b o e n hb hx)
    · obtain ⟨sl, e1⟩ := I.base.slot b o e n hb hx
      exact ⟨sl, (hs.2 b (Nat.ne_of_lt (Nat.lt_of_lt_of_le (Heap.lt_size e) (I.ok.cab x c hfn hc)))).trans e1⟩
    · obtain ⟨o', e1⟩ := I.base.there b o e hx
      exact ⟨o', (hs.2 b (Nat.ne_of_lt (Nat.lt_of_lt_of_le (Heap.lt_size e) (I.ok.cab x c hfn hc)))).trans e1⟩
    · by_cases hj : j = i
      · subst hj
        rw [hi] at e1; cases e1
        rw [List.getElem?_set_self hiσ] at e2
        cases e2
        exact ⟨u, r, .inr ⟨.inl hk, c, hc, hc'⟩⟩
      · rw [List.getElem?_set_ne (Ne.symm hj)] at e2
        obtain ⟨u', r', q⟩ := hl j y v' e1 e2 e3
        refine ⟨u', r', ?_⟩
        rcases q with q | ⟨k, c', e, z'⟩
        · exact .inl q
        · refine .inr ⟨k, c', e, z'.sameBut hs ?_⟩
          rintro rfl
          exact hj (nodup_ix hN e1 (I.ok.inj _ _ _ e hc ▸ hi))
    · by_cases hcc : c' = c
      · subst hcc; exact ⟨_, hc'⟩
      · obtain ⟨w2, z2⟩ := I.cell y c' e
        exact ⟨w2, z2.sameBut hs hcc⟩
    · obtain ⟨e, n, ne, nf, d⟩ := I.pin p hp
      refine ⟨(hs.2 p.1 ?_).trans e, n, ne, nf, d⟩
      intro q
      rw [q, hoc] at e
      have q' : oc = p.2 := Option.some.inj e
      exact d w' (by rw [← q']; exact hocd)
theorem store_ok {M : Model} {A : Around} {E : Value → Shared → Prop} {i : Nat} {x : Str} {v : V} {u : Value} {Q : Unit → Shared → Prop} (I : Inv X pins σ H s) (hN : X.N.Nodup) (hi : X.N[i]? = some x) (hx : Loc X.env.scope x) (r : RelV v u)
    (h : ∀ s', Inv X pins (σ.set i (some v)) H s' → Q () s') (hf : X.fn x = true ∨ X.env.scope.names.lookup x = some .local := by first | exact .inl rfl | exact .inr rfl | assumption) : wpAny M A (storeName X.env x u) Q E s :=
  store_ok2 I hN hi hx r (fun s' I' _ => h s' I') hf
/-- behind a call or a block, the state as it is -/
theorem Inv.call' {s' : Shared} {ch : List Addr} (I : Inv X pins σ H s) (ho : s'.os = s.os) (u : Un (frs X.stack) ch H H' s.heap s'.heap) (hok : HOk X.prog X.w H' s'.heap) (hg : AllBare s'.gens)
    (hch : ∀ b ∈ ch, (b ∈ X.ex ∨ X.s₀.heap.objs.size ≤ b) ∧ b ≠ X.env.locals ∧ (∀ x c, X.env.cells.lookup x = some c → c ≠ b) ∧ ∀ p ∈ X.pn ++ pins, p.1 ≠ b) : Inv X pins σ H' s' := by
  obtain ⟨h', g', d', t', o'⟩ := s'
  have e : o' = s.os := ho
  subst e
  exact I.call (g' := g') (t' := t') (d' := d') u hok hg hch
end

/-! ### the judgements -/
/-- an exception: its class, its own dict's address (where it has one), the abstract heap behind it -/
abbrev XK := Value → Option Addr → Hp → Prop
abbrev St := List (Option V)
abbrev VK := V → Hp → Prop
/-- an expression's reading; a test's; an argument list's -/
abbrev TE := St → Hp → VK → Prop
abbrev TT := St → Hp → (Bool → Hp → Prop) → Prop
abbrev TA := St → Hp → (List V → Hp → Prop) → Prop
/-- what is wanted behind a statement -/
structure Ends where
  nx : St → Hp → Prop
  rt : VK
  bk : St → Hp → Prop := fun _ _ => False
  ct : St → Hp → Prop := fun _ _ => False
abbrev TS := Ends → St → Hp → Prop

def EP (X : Cx) (pins : List (Addr × Obj)) (σ : St) (Q : VK) (u : Value) (s' : Shared) : Prop := ∃ v H', Inv X pins σ H' s' ∧ RelV v u ∧ Q v H'
def TP (X : Cx) (pins : List (Addr × Obj)) (σ : St) (Q : Bool → Hp → Prop) (b : Bool) (s' : Shared) : Prop := ∃ H', Inv X pins σ H' s' ∧ Q b H'
def AP (X : Cx) (pins : List (Addr × Obj)) (σ : St) (Q : List V → Hp → Prop) (us : List Value) (s' : Shared) : Prop := ∃ vs H', Inv X pins σ H' s' ∧ Vals vs us ∧ Q vs H'
def SP (X : Cx) (pins : List (Addr × Obj)) (D : Ends) (f : Flow) (s' : Shared) : Prop :=
  match f with
  | .next => ∃ σ' H', Inv X pins σ' H' s' ∧ D.nx σ' H'
  | .brk => ∃ σ' H', Inv X pins σ' H' s' ∧ D.bk σ' H'
  | .cont => ∃ σ' H', Inv X pins σ' H' s' ∧ D.ct σ' H'
  | .ret u => ∃ v σ' H', Inv X pins σ' H' s' ∧ RelV v u ∧ D.rt v H'

def PE (X : Cx) (e : Expr) (t : TE) : Prop :=
  ∀ (pins : List (Addr × Obj)) (s : Shared) (σ : St) (H : Hp) (Q : VK), Inv X pins σ H s → t σ H Q → wpAny (model X.prog X.w) X.A (eval e X.env) (EP X pins σ Q) X.xe s
def PT (X : Cx) (e : Expr) (t : TT) : Prop :=
  ∀ (pins : List (Addr × Obj)) (s : Shared) (σ : St) (H : Hp) (Q : Bool → Hp → Prop), Inv X pins σ H s → t σ H Q → wpAny (model X.prog X.w) X.A (isTrue e X.env (eval e X.env)) (TP X pins σ Q) X.xe s
/-- a test whatever its 'whole' is (and, or) -/
def PW (X : Cx) (e : Expr) (t : TT) : Prop :=
  ∀ (whole : Sem Value) (pins : List (Addr × Obj)) (s : Shared) (σ : St) (H : Hp) (Q : Bool → Hp → Prop), Inv X pins σ H s → t σ H Q → wpAny (model X.prog X.w) X.A (isTrue e X.env whole) (TP X pins σ Q) X.xe s
theorem PW.pt {X : Cx} {e : Expr} {t : TT} (h : PW X e t) : PT X e t := h _
/-- an argument list (no star), from the left -/
def PA (X : Cx) (es : List Expr) (t : TA) : Prop :=
  ∀ (pos : Pos) (pins : List (Addr × Obj)) (s : Shared) (σ : St) (H : Hp) (Q : List V → Hp → Prop), Inv X pins σ H s → t σ H Q → wpAny (model X.prog X.w) X.A (spliced (backTo pos (starEach es X.env))) (AP X pins σ Q) X.xe s
def PS (X : Cx) (st : Stmt) (t : TS) : Prop :=
  ∀ (pins : List (Addr × Obj)) (s : Shared) (σ : St) (H : Hp) (D : Ends), Inv X pins σ H s → t D σ H → wpAny (model X.prog X.w) X.A (exec st X.env) (SP X pins D) X.xe s
def PSs (X : Cx) (st : List Stmt) (t : TS) : Prop :=
  ∀ (pins : List (Addr × Obj)) (s : Shared) (σ : St) (H : Hp) (D : Ends), Inv X pins σ H s → t D σ H → wpAny (model X.prog X.w) X.A (execs st X.env) (SP X pins D) X.xe s
/-- weaken the end -/
theorem thn {α : Type} {t : Sem α} {Q Q' : α → Shared → Prop} {M : Model} {A : Around} {E : Value → Shared → Prop} {s : Shared} (h : wpAny M A t Q E s) (hQ : ∀ a s, Q a s → Q' a s) : wpAny M A t Q' E s := wpAny_mono h hQ fun _ _ x => x
end L2

namespace L2
open PySem PySem.Spec PyProof.Rows
section
variable {X : Cx}

/-! ### names and constants -/
def tVar (i : Nat) : TE := fun σ H Q => ∃ v, σ[i]? = some (some v) ∧ Q v H
def tC (v : V) : TE := fun _ H Q => Q v H
theorem pe_var {i : Nat} {x : Str} {pos : Pos} (hN : X.N[i]? = some x) (hv : Vis X.env.scope x) (hd : (x == ("__debug__" : Str)) = false := by decide) (hcd : (x == ("__classdict__" : Str)) = false := by decide) : PE X (.Name x pos) (tVar i) := by
  intro pins s σ H Q I h
  obtain ⟨v, e, h⟩ := h
  obtain ⟨m, hn, hl⟩ := I.loc
  obtain ⟨u, r, l⟩ := hl i x v hN e hv
  have fin : EP X pins σ Q u s := ⟨v, H, I, r, h⟩
  rcases l with ⟨hk, hm⟩ | ⟨hk, c, hc, hcell⟩
  · exact wpAny_Name (wpAny_loadName_local I.ok.kind hk hn hm fin) hd
  · rcases hk with hk | hk
    · exact wpAny_Name (wpAny_loadName_cell I.ok.kind hk hc hcell fin) hd
    · exact wpAny_Name (wpAny_loadName_free I.ok.kind hk hc hcell fin hcd) hd
theorem pe_int {i j pos} : PE X (.Constant (.int i) j pos) (tC (.int i)) := fun _ _ _ H _ I h => wpAny_Constant_int ⟨.int i, H, I.tok _, ⟨_, rfl⟩, h⟩
theorem pe_bl {b j pos} : PE X (.Constant (.bool b) j pos) (tC (.bl b)) := fun _ _ _ H _ I h => Constant_bool ⟨.bl b, H, I, rfl, h⟩
theorem pe_non {j pos} : PE X (.Constant .none j pos) (tC .non) := fun _ _ _ H _ I h => Constant_none ⟨.non, H, I, rfl, h⟩
theorem pe_str {x j pos} : PE X (.Constant (.str x) j pos) (tC (.str x)) := fun _ _ _ H _ I h => Calls.Constant_str ⟨.str x, H, I.tok _, ⟨_, rfl⟩, h⟩

/-- a global name of the def -/
def Gl (X : Cx) (x : Str) : Prop := X.env.kindOf x = some .globalImplicit
theorem ld_glob {E : Value → Shared → Prop} {pins : List (Addr × Obj)} {s : Shared} {σ : St} {H : Hp} {x : Str} {u : Value} {pos : Pos} {Q : Value → Shared → Prop} (I : Inv X pins σ H s) (hg : Gl X x) (hm : X.mg x = some u) (h : Q u s)
    (hd : (x == ("__debug__" : Str)) = false := by decide) : wpAny (model X.prog X.w) X.A (eval (.Name x pos) X.env) Q E s :=
  Calls.Name_function_global I.ok.kind hg (Calls.loadGlobal_global (by rw [I.ok.glob]; exact I.mod.glob.keeps I.bk) hm h) hd
theorem ld_blt {E : Value → Shared → Prop} {pins : List (Addr × Obj)} {s : Shared} {σ : St} {H : Hp} {x : Str} {u : Value} {pos : Pos} {Q : Value → Shared → Prop} (I : Inv X pins σ H s) (hg : Gl X x) (hm : X.mg x = none) (hv : bootBuiltins x = some u) (h : Q u s)
    (hn : x ≠ "__name__" := by decide) (hd : (x == ("__debug__" : Str)) = false := by decide) : wpAny (model X.prog X.w) X.A (eval (.Name x pos) X.env) Q E s := by
  obtain ⟨mb, h1, h2⟩ := I.mod.blt
  exact Calls.Name_function_global I.ok.kind hg (Calls.loadGlobal_builtin (by rw [I.ok.glob]; exact I.mod.glob.keeps I.bk) hm (by rw [I.ok.blt]; exact h1.keeps I.bk) ((h2 x hn).trans hv) h) hd
theorem pe_bltn {x : Str} {v : V} {u : Value} {pos : Pos} (hg : Gl X x) (hm : X.mg x = none) (hv : bootBuiltins x = some u) (r : RelV v u) (hn : x ≠ "__name__" := by decide) (hd : (x == ("__debug__" : Str)) = false := by decide) : PE X (.Name x pos) (tC v) :=
  fun _ _ _ H _ I h => ld_blt I hg hm hv ⟨v, H, I, r, h⟩ hn hd

/-! ### arithmetic -/
variable {a b : Expr} {ta tb : TE} {pos : Pos}
/-! ### comparisons -/
/-- a comparison as a value, as a test -/
def tB (t : TE) : TT := fun σ H Q => t σ H fun x H1 => ∃ c, x = .bl c ∧ Q c H1
/-! ### and, or, not -/
variable {tA tB' : TT} {rest : List Expr}
def tOr (t u : TT) : TT := fun σ H Q => t σ H fun c H1 => if c = true then Q true H1 else u σ H1 Q
def tNot (t : TT) : TT := fun σ H Q => t σ H fun c H1 => Q (!c) H1
theorem pw_or1 (ha : PT X a tA) : PW X (.BoolOp .Or [a] pos) tA := by
  intro wh pins s σ H Q I h
  refine isTrue_or (thn (ha pins s σ H Q I h) fun c s1 e => ?_)
  cases c with
  | false => exact isTrue_or_nil e
  | true => exact e
theorem pw_or (ha : PT X a tA) (hb : PW X (.BoolOp .Or (b :: rest) pos) tB') : PW X (.BoolOp .Or (a :: b :: rest) pos) (tOr tA tB') := by
  intro wh pins s σ H Q I h
  refine isTrue_or (thn (ha pins s σ H _ I h) fun c s1 ⟨H1, I1, q1⟩ => ?_)
  cases c with
  | true => exact ⟨H1, I1, q1⟩
  | false => exact hb wh pins s1 σ H1 Q I1 q1
theorem pt_not (ha : PT X a tA) : PT X (.UnaryOp .Not a pos) (tNot tA) := by
  intro pins s σ H Q I h
  exact isTrue_not (ha pins s σ H (fun c H1 => Q (!c) H1) I h)
/-- .. as values (bools) -/
def tAndV (ta tb : TE) : TE := fun σ H Q => ta σ H fun x H1 => ∃ c, x = .bl c ∧ if c = true then tb σ H1 Q else Q (.bl false) H1
def tNotV (ta : TE) : TE := fun σ H Q => ta σ H fun x H1 => ∃ c, x = .bl c ∧ Q (.bl (!c)) H1
theorem pe_one {op} {t : TE} (h : PE X a t) : PE X (.BoolOp op [a] pos) t := fun pins s σ H Q I hw => BoolOp_one (h pins s σ H Q I hw)
theorem pe_and (ha : PE X a ta) (hb : PE X (.BoolOp .And (b :: rest) pos) tb) : PE X (.BoolOp .And (a :: b :: rest) pos) (tAndV ta tb) := by
  intro pins s σ H Q I h
  refine BoolOp_and (thn (ha pins s σ H _ I h) fun v s1 ⟨x, H1, I1, r1, q1⟩ => ?_)
  obtain ⟨c, rfl, q1⟩ := q1
  cases r1
  refine wpAny_truthy_bool ?_
  cases c with
  | true => exact hb pins s1 σ H1 Q I1 q1
  | false => exact ⟨.bl false, H1, I1, rfl, q1⟩
theorem pe_not (ha : PE X a ta) : PE X (.UnaryOp .Not a pos) (tNotV ta) := by
  intro pins s σ H Q I h
  refine UnaryOp_ (thn (ha pins s σ H _ I h) fun v s1 ⟨x, H1, I1, r1, q1⟩ => ?_)
  obtain ⟨c, rfl, q1⟩ := q1
  cases r1
  exact not_of (wpAny_truthy_bool ⟨.bl (!c), H1, I1, rfl, q1⟩)
end
end L2

namespace L2
open PySem PySem.Spec PyProof.Rows

/-! ### a list, a tuple that is read: tracked, frozen, or an object of the module -/
def SqL (K : PySem.W.Frag) (H : Hp) (a : Addr) (xs : List V) : Prop :=
  Rd H a (.lst xs) ∨
    ∃ (o : Obj) (its : Array Value) (n : Nat), K.lookup a = some o ∧ o.cls = .type "list" ∧ o.dict = none ∧ o.data = .seq its n ∧ its.size ≤ sizeLine ∧ Vals xs its.toList
def SqT (K : PySem.W.Frag) (H : Hp) (a : Addr) (xs : List V) : Prop :=
  Rd H a (.tup xs) ∨
    ∃ (o : Obj) (its : Array Value) (n : Nat), K.lookup a = some o ∧ o.cls = .type "tuple" ∧ o.data = .seq its n ∧ its.size ≤ sizeLine ∧ Vals xs its.toList
def absV : Value → Option V
  | .none => some .non
  | .bool b => some (.bl b)
  | .int i _ => some (.int i)
  | .str x _ => some (.str x)
  | .bytes b _ => some (.byt b)
  | .float b _ => some (.flt b)
  | .ref a => some (.ref a)
  | .type n => some (.ty n)
  | _ => none
theorem RelV.abs {x : V} {u : Value} (r : RelV x u) : absV u = some x := by
  cases x with
  | non => cases r; rfl
  | bl _ => cases r; rfl
  | int _ => obtain ⟨t, rfl⟩ := r; rfl
  | str _ => obtain ⟨t, rfl⟩ := r; rfl
  | byt _ => obtain ⟨t, rfl⟩ := r; rfl
  | flt _ => obtain ⟨t, rfl⟩ := r; rfl
  | ref _ => cases r; rfl
  | ty _ => cases r; rfl
theorem RelV.inj {x y : V} {u : Value} (r : RelV x u) (q : RelV y u) : x = y := Option.some.inj (r.abs.symm.trans q.abs)
theorem Vals.inj : ∀ {xs ys : List V} {us : List Value}, Vals xs us → Vals ys us → xs = ys
  | _, _, _, .nil, .nil => rfl
  | _, _, _, .cons r t, .cons r' t' => by rw [r.inj r', Vals.inj t t']
section
variable {X : Cx} {pins : List (Addr × Obj)} {σ : St} {H : Hp} {s : Shared} {a : Addr} {xs ys : List V}
theorem SqL.of {K : PySem.W.Frag} (h : H a = some (.lst xs)) : SqL K H a xs := .inl (.inl h)
theorem SqT.of {K : PySem.W.Frag} (h : H a = some (.tup xs)) : SqT K H a xs := .inl (.inl h)
theorem Inv.list (I : Inv X pins σ H s) (h : SqL X.K H a xs) : ∃ its : List Value, Vals xs its ∧ PlainL s.heap a its.toArray ∧ xs.length ≤ sizeLine := by
  rcases h with h | ⟨o, its, n, hk, hc, hd, hs, hz, r⟩
  · obtain ⟨z, its, n, r, e⟩ := h.ok I.hok
    exact ⟨its, r, ⟨_, n, e, rfl, rfl, rfl⟩, z⟩
  · refine ⟨its.toList, r, ⟨o, n, I.kIn a o hk, hc, hd, by simpa using hs⟩, ?_⟩
    have e := r.length
    simp only [Array.length_toList] at e
    omega
theorem Inv.tuple (I : Inv X pins σ H s) (h : SqT X.K H a xs) : ∃ its : List Value, Vals xs its ∧ IsTup s.heap a its.toArray ∧ xs.length ≤ sizeLine := by
  rcases h with h | ⟨o, its, n, hk, hc, hs, hz, r⟩
  · obtain ⟨z, its, r, p⟩ := h.ok I.hok
    exact ⟨its, r, p, z⟩
  · refine ⟨its.toList, r, ⟨o, I.kIn a o hk, hc, n, by simpa using hs⟩, ?_⟩
    have e := r.length
    simp only [Array.length_toList] at e
    omega
theorem Inv.list_inj (I : Inv X pins σ H s) (h : SqL X.K H a xs) (h' : SqL X.K H a ys) : xs = ys := by
  obtain ⟨its, r, ⟨o, n, e, _, _, d⟩, _⟩ := I.list h
  obtain ⟨its', r', ⟨o', n', e', _, _, d'⟩, _⟩ := I.list h'
  rw [e] at e'; cases e'
  rw [d] at d'
  injection d' with d1 _
  have : its = its' := by simpa using congrArg Array.toList d1
  subst this
  exact r.inj r'
end

/-! ### another wish about exceptions -/
abbrev Cx.wish (X : Cx) (E : Value → Shared → Prop) : Cx := { X with xe := E }
/-- no exception leaves -/
abbrev Cx.nox (X : Cx) : Cx := X.wish fun _ _ => False
theorem Cx.Ok.wish {X : Cx} (ok : X.Ok) (E : Value → Shared → Prop) : (X.wish E).Ok :=
  ⟨ok.mod, ok.kind, ok.glob, ok.blt, ok.above, ok.inj, ok.has, ok.cab, ok.hd, ok.frames, ok.stk, ok.exf, ok.bs, ok.bsz, ok.noex, ok.exfs, ok.funs, ok.frf⟩
theorem Cx.Ok.unwish {X : Cx} {E : Value → Shared → Prop} (ok : (X.wish E).Ok) : X.Ok :=
  ⟨ok.mod, ok.kind, ok.glob, ok.blt, ok.above, ok.inj, ok.has, ok.cab, ok.hd, ok.frames, ok.stk, ok.exf, ok.bs, ok.bsz, ok.noex, ok.exfs, ok.funs, ok.frf⟩
section
variable {X : Cx} {pins : List (Addr × Obj)} {σ : St} {H : Hp} {s : Shared} {E : Value → Shared → Prop}
theorem Inv.wish (I : Inv X pins σ H s) (E : Value → Shared → Prop) : Inv (X.wish E) pins σ H s := ⟨I.ok.wish E, I.os, I.bare, I.base, I.loc, I.cell, I.free, I.freeC, I.pin, I.hok, I.len⟩
theorem Inv.unwish (I : Inv (X.wish E) pins σ H s) : Inv X pins σ H s := ⟨I.ok.unwish, I.os, I.bare, I.base, I.loc, I.cell, I.free, I.freeC, I.pin, I.hok, I.len⟩
theorem SP.unwish {D : Ends} {f : Flow} {s' : Shared} (h : SP (X.wish E) pins D f s') : SP X pins D f s' := by
  cases f with
  | next => obtain ⟨σ', H', I, q⟩ := h; exact ⟨σ', H', I.unwish, q⟩
  | brk => obtain ⟨σ', H', I, q⟩ := h; exact ⟨σ', H', I.unwish, q⟩
  | cont => obtain ⟨σ', H', I, q⟩ := h; exact ⟨σ', H', I.unwish, q⟩
  | ret u => obtain ⟨v, σ', H', I, r, q⟩ := h; exact ⟨v, σ', H', I.unwish, r, q⟩
theorem PE.nox {e : Expr} {t : TE} (h : PE X.nox e t) : PE X e t := fun pins s σ H Q I hw =>
  wpAny_mono (h pins s σ H Q (I.wish _) hw) (fun _ _ ⟨v, H', I', r, q⟩ => ⟨v, H', I'.unwish, r, q⟩) fun _ _ z => False.elim z
theorem PT.nox {e : Expr} {t : TT} (h : PT X.nox e t) : PT X e t := fun pins s σ H Q I hw =>
  wpAny_mono (h pins s σ H Q (I.wish _) hw) (fun _ _ ⟨H', I', q⟩ => ⟨H', I'.unwish, q⟩) fun _ _ z => False.elim z
theorem PSs.nox {st : List Stmt} {t : TS} (h : PSs X.nox st t) : PSs X st t := fun pins s σ H D I hw =>
  wpAny_mono (h pins s σ H D (I.wish _) hw) (fun _ _ q => q.unwish) fun _ _ z => False.elim z
end

/-! ### blocks and small statements -/
section
variable {X : Cx} {st : Stmt} {rest : List Stmt} {t u : TS} {e : Expr} {te : TE} {pos : Pos}
def tNext : TS := fun D σ H => D.nx σ H
def tSeq (t u : TS) : TS := fun D σ H => t { D with nx := u D } σ H
theorem pss_nil : PSs X [] tNext := fun _ _ σ H _ I h => wpAny_execs_nil ⟨σ, H, I, h⟩
theorem pss_cons (h1 : PS X st t) (h2 : PSs X rest u) : PSs X (st :: rest) (tSeq t u) := by
  intro pins s σ H D I h
  refine wpAny_execs_cons (thn (h1 pins s σ H { D with nx := u D } I h) fun f s1 q => ?_)
  cases f with
  | next =>
    obtain ⟨σ', H', I', q⟩ := q
    exact h2 pins s1 σ' H' D I' q
  | ret v => exact q
  | brk => exact q
  | cont => exact q
theorem pss_one (h1 : PS X st t) : PSs X [st] t := by
  intro pins s σ H D I h
  refine wpAny_execs_cons (thn (h1 pins s σ H D I h) fun f s1 q => ?_)
  cases f with
  | next => exact wpAny_execs_nil q
  | ret v => exact q
  | brk => exact q
  | cont => exact q
/-- in a def's body nothing is shown -/
theorem Inv.quiet {pins : List (Addr × Obj)} {σ : St} {H : Hp} {s : Shared} (I : Inv X pins σ H s) : interactive X.env = false := by simp [interactive, I.ok.kind]
/-- an expression whose value is dropped -/
def tDrop (te : TE) : TS := fun D σ H => te σ H fun _ H1 => D.nx σ H1
theorem ps_expr (he : PE X e te) (hs : swapsWith e none pos.line X.env = pure false := by rfl) : PS X (.Expr e pos) (tDrop te) := by
  intro pins s σ H D I h
  exact wpAny_Expr_any (thn (he pins s σ H _ I h) fun v s1 ⟨x, H1, I1, r1, q1⟩ => ⟨σ, H1, I1, q1⟩) I.quiet hs
def tRet (te : TE) : TS := fun D σ H => te σ H D.rt
theorem ps_ret (he : PE X e te) : PS X (.Return (some e) pos) (tRet te) := by
  intro pins s σ H D I h
  exact wpAny_Return_some (thn (he pins s σ H _ I h) fun v s1 ⟨x, H1, I1, r1, q1⟩ => ⟨x, σ, H1, I1, r1, q1⟩)
def tIfS (c : TT) (t u : TS) : TS := fun D σ H => c σ H fun b H1 => if b = true then t D σ H1 else u D σ H1
theorem ps_if {c : Expr} {a b : List Stmt} {tc : TT} (hc : PT X c tc) (ha : PSs X a t) (hb : PSs X b u) : PS X (.If c a b pos) (tIfS tc t u) := by
  intro pins s σ H D I h
  refine wpAny_If (thn (hc pins s σ H _ I h) fun d s1 ⟨H1, I1, q1⟩ => ?_)
  cases d with
  | true => exact ha pins s1 σ H1 D I1 q1
  | false => exact hb pins s1 σ H1 D I1 q1
end

/-! ### targets -/
abbrev TG := V → St → Hp → (St → Hp → Prop) → Prop
abbrev TGs := List V → St → Hp → (St → Hp → Prop) → Prop
def PG (X : Cx) (target : Expr) (t : TG) : Prop :=
  ∀ (pins : List (Addr × Obj)) (s : Shared) (σ : St) (H : Hp) (v : V) (u : Value) (Q : St → Hp → Prop), Inv X pins σ H s → RelV v u → t v σ H Q →
    wpAny (model X.prog X.w) X.A (assign target X.env u) (fun _ s' => ∃ σ' H', Inv X pins σ' H' s' ∧ Q σ' H') X.xe s
/-- several targets, one after another -/
def PGs (X : Cx) (ts : List Expr) (t : TGs) : Prop :=
  ∀ (pins : List (Addr × Obj)) (s : Shared) (σ : St) (H : Hp) (vs : List V) (us : List Value) (Q : St → Hp → Prop), Inv X pins σ H s → Vals vs us → t vs σ H Q →
    wpAny (model X.prog X.w) X.A (assignInOrder ((assignEach ts X.env).map (·.2)) us) (fun _ s' => ∃ σ' H', Inv X pins σ' H' s' ∧ Q σ' H') X.xe s
section
variable {X : Cx} {pos : Pos}
def gName (i : Nat) : TG := fun v σ H Q => Q (σ.set i (some v)) H
theorem pg_name {i : Nat} {x : Str} (hN : X.N.Nodup) (hi : X.N[i]? = some x) (hx : Loc X.env.scope x) (hf : X.fn x = true ∨ X.env.scope.names.lookup x = some .local := by first | exact .inl rfl | exact .inr rfl | assumption) : PG X (.Name x pos) (gName i) := by
  intro pins s σ H v u Q I r h
  exact wpAny_assign_Name (store_ok I hN hi hx r (fun s' I' => ⟨_, H, I', h⟩) hf)
def gNil : TGs := fun vs σ H Q => vs = [] ∧ Q σ H
def gCons (t : TG) (u : TGs) : TGs := fun vs σ H Q => ∃ v r, vs = v :: r ∧ t v σ H fun σ' H' => u r σ' H' Q
theorem pgs_nil : PGs X [] gNil := by
  intro pins s σ H vs us Q I r h
  obtain ⟨e, h⟩ := h
  subst e
  cases r
  exact assignInOrder_nil ⟨σ, H, I, h⟩
theorem pgs_cons {e : Expr} {es : List Expr} {t : TG} {u : TGs} (h1 : PG X e t) (h2 : PGs X es u)
    (hs : (assignEach (e :: es) X.env).map (·.2) = assign e X.env :: (assignEach es X.env).map (·.2) := by rfl) : PGs X (e :: es) (gCons t u) := by
  intro pins s σ H vs us Q I r h
  obtain ⟨v, vr, e1, h⟩ := h
  subst e1
  cases r with
  | cons r rr =>
    rw [hs]
    refine assignInOrder_cons (thn (h1 pins s σ H _ _ _ I r h) fun _ s1 ⟨σ1, H1, I1, q1⟩ => ?_)
    exact h2 pins s1 σ1 H1 _ _ Q I1 rr q1
/-- (a, b, ..) = a tuple of that length -/
def gTup (K : PySem.W.Frag) (n : Nat) (t : TGs) : TG := fun v σ H Q => ∃ a xs, v = .ref a ∧ SqT K H a xs ∧ xs.length = n ∧ t xs σ H Q
theorem pg_tup {es : List Expr} {k : Nat} {t : TGs} {n : Nat} (hc : X.calm = true) (h : PGs X es t)
    (hn : (assignEach es X.env).length = n := by rfl) (hst : (assignEach es X.env).findIdx? (·.1) = none := by rfl) : PG X (.Tuple es k pos) (gTup X.K n t) := by
  intro pins s σ H v u Q I r hw
  obtain ⟨a, xs, e1, hq, hl, hw⟩ := hw
  subst e1
  cases r
  obtain ⟨its, rv, ht, hz⟩ := I.tuple hq
  refine assign_Tuple_tuple (I.ok.hd hc) ht (by simp [hn, ← hl, rv.length]) hst fun h' hx => ?_
  have I1 : Inv X pins σ H { s with heap := h' } := I.kept (t' := s.toks) fun b o e => hx b o (Nat.ne_of_lt (Heap.lt_size e)) e
  exact h pins _ σ H xs _ Q I1 (by simpa using rv) hw
/-- target = value -/
def tAsg (te : TE) (g : TG) : TS := fun D σ H => te σ H fun x H1 => g x σ H1 D.nx
/-- name = value -/
theorem ps_set {i : Nat} {x : Str} {e : Expr} {te : TE} {pos' : Pos} (hN : X.N.Nodup) (hi : X.N[i]? = some x) (hx : Loc X.env.scope x) (he : PE X e te) (hs : swapsWith e (some (.Name x pos')) pos.line X.env = pure false := by rfl) (hf : X.fn x = true ∨ X.env.scope.names.lookup x = some .local := by first | exact .inl rfl | exact .inr rfl | assumption) :
    PS X (.Assign [.Name x pos'] e pos) (tAsg te (gName i)) := by
  intro pins s σ H D I h
  refine wpAny_Assign_Name (thn (he pins s σ H _ I h) fun v s1 ⟨y, H1, I1, r1, q1⟩ => ?_) hs
  exact store_ok I1 hN hi hx r1 (fun s2 I2 => ⟨_, H1, I2, q1⟩) hf
end

/-! ### while -/
section
variable {X : Cx} {pos : Pos}
end

/-! ### what a loop or a comprehension walks -/
/-- at turn i: it yields x (the heap may grow), or it stops -/
structure It where
  go : Nat → Hp → Prop
  yld : Nat → Hp → V → Hp → Prop
  stop : Nat → Hp → Prop
/-- the iterator's own objects may turn: they are not the frame's, not pinned, younger than the entry (or a comprehension's own) -/
def FpOk (X : Cx) (pins : List (Addr × Obj)) (H : Hp) (b : Addr) : Prop :=
  H b = none ∧ b ≠ X.env.locals ∧ b ∉ X.fs ∧ (b ∈ X.ex ∨ X.s₀.heap.objs.size ≤ b) ∧ (∀ x c, X.env.cells.lookup x = some c → c ≠ b) ∧ ∀ p ∈ X.pn ++ pins, p.1 ≠ b
theorem Inv.fpOk {X : Cx} {pins : List (Addr × Obj)} {σ : St} {H H' : Hp} {s : Shared} {b : Addr} (I : Inv X pins σ H s) (hb : s.heap.objs.size ≤ b) (hn : H' b = none) : FpOk X pins H' b := by
  refine ⟨hn, Nat.ne_of_gt (Nat.lt_of_lt_of_le I.lt hb), I.nofs hb, .inr (Nat.le_trans I.sz hb), fun x c e z => ?_, fun p hp z => ?_⟩
  · obtain ⟨v, q⟩ := I.cell x c e
    exact absurd (Nat.lt_of_lt_of_le q.lt (by rw [z]; exact hb)) (Nat.lt_irrefl _)
  · exact absurd (Nat.lt_of_lt_of_le (Heap.lt_size (I.pin p hp).1) (by rw [z]; exact hb)) (Nat.lt_irrefl _)
structure Turn (P : Program) (w : World) (K : PySem.W.Frag) (tg : Expr) (J : It) (fp : List Addr) (it : Addr) (tn : Nat → Heap → Prop) : Prop where
  mem : it ∈ fp
  obj : ∀ i h, tn i h → ∀ b ∈ fp, ∃ o, h.get? b = some o ∧ ∀ v, o.data ≠ .cell v
  keep : ∀ i h h', tn i h → (∀ b ∈ fp, ∀ o, h.get? b = some o → h'.get? b = some o) → tn i h'
  item : ∀ (X : Cx), X.prog = P → X.w = w → X.K = K → X.calm = true → ∀ (i : Nat) (pins : List (Addr × Obj)) (s : Shared) (σ : St) (H : Hp) (E : Value → Shared → Prop), Inv X pins σ H s → (∀ b ∈ fp, FpOk X pins H b) → tn i s.heap → J.go i H →
    wpAny (model P w) X.A (pyNext (.ref it)) (fun r s1 => ∃ u, r = some u ∧
      wpAny (model P w) X.A (letOwnedTupleGo tg (.ref it) u) (fun _ s2 => ∃ x H', Inv X pins σ H' s2 ∧ RelV x u ∧ J.yld i H x H' ∧ tn (i + 1) s2.heap ∧ ∀ b ∈ fp, H' b = none) E s1) E s
  done : ∀ (X : Cx), X.prog = P → X.w = w → X.K = K → X.calm = true → ∀ (i : Nat) (pins : List (Addr × Obj)) (s : Shared) (σ : St) (H : Hp) (E : Value → Shared → Prop), Inv X pins σ H s → (∀ b ∈ fp, FpOk X pins H b) → tn i s.heap → J.stop i H →
    wpAny (model P w) X.A (pyNext (.ref it)) (fun r s1 => r = none ∧ Inv X pins σ H s1) E s
  self : ∀ (A : Around) (i : Nat) (s : Shared) (Q : Value → Shared → Prop) (E : Value → Shared → Prop), tn i s.heap → Q (.ref it) s → wpAny (model P w) A (pyIter (.ref it)) Q E s
abbrev TI := St → Hp → (It → Hp → Prop) → Prop
/-- an iterator has come -/
def PIE (X : Cx) (pins : List (Addr × Obj)) (σ : St) (tg : Expr) (R : It → Hp → Prop) (itv : Value) (s2 : Shared) : Prop :=
  ∃ (it : Addr) (fp : List Addr) (tn : Nat → Heap → Prop) (J : It) (H' : Hp), itv = .ref it ∧ Inv X pins σ H' s2 ∧ Turn X.prog X.w X.K tg J fp it tn ∧ tn 0 s2.heap ∧ (∀ b ∈ fp, FpOk X pins H' b) ∧ R J H'
def PI (X : Cx) (tg iter : Expr) (wi : TI) : Prop :=
  ∀ (pins : List (Addr × Obj)) (s : Shared) (σ : St) (H : Hp) (R : It → Hp → Prop), Inv X pins σ H s → wi σ H R →
    wpAny (model X.prog X.w) X.A (eval iter X.env) (fun v s1 => wpAny (model X.prog X.w) X.A (pyIter v) (PIE X pins σ tg R) X.xe s1) X.xe s

/-- the step ahead of the store is nothing for an iterator that keeps no tuple -/
theorem go_of {M : Model} {A : Around} {E : Value → Shared → Prop} {s : Shared} {tg : Expr} {it : Addr} {u : Value} {o : Obj} {n : String} {vs : Array Value} {Q : Unit → Shared → Prop} (ho : s.heap.get? it = some o) (hc : o.cls = .type n) (hd : o.data = .fields vs)
    (hn : ["enumerate", "zip", "dict_itemiterator", "dict_reverseitemiterator", "odict_iterator", "itertools.zip_longest", "itertools.pairwise"].contains n = false) (hQ : Q () s) : wpAny M A (letOwnedTupleGo tg (.ref it) u) Q E s := by
  unfold letOwnedTupleGo
  cases tg <;> first
    | exact wpAny_pure hQ
    | (cases u <;> first
        | exact wpAny_pure hQ
        | (refine wpAny_bind (wpAny_load ho ?_)
           rw [hc, hd]
           show wpAny M A (if (["enumerate", "zip", "dict_itemiterator", "dict_reverseitemiterator", "odict_iterator", "itertools.zip_longest", "itertools.pairwise"].contains n && vs[0]? == some (rawInt _)) = true then _ else _) Q E s
           rw [if_neg (by intro h; rw [hn, Bool.false_and] at h; cases h)]
           exact wpAny_pure hQ))

/-- the list at a, as it stands at each turn (a loop may append to it) -/
def Itl (K : PySem.W.Frag) (a : Addr) : It :=
  ⟨fun i H => ∃ xs x, SqL K H a xs ∧ xs[i]? = some x, fun i H x H' => H' = H ∧ ∀ xs, SqL K H a xs → xs[i]? = some x, fun i H => ∃ xs, SqL K H a xs ∧ xs.length ≤ i⟩
/-- lo, lo + 1, .. (n of them) -/
def Itr (lo : Int) (n : Nat) : It := ⟨fun i _ => i < n, fun i H x H' => H' = H ∧ x = .int (lo + i), fun i _ => n ≤ i⟩
theorem turn_list {P : Program} {w : World} {K : PySem.W.Frag} {tg : Expr} (a it : Addr) : Turn P w K tg (Itl K a) [it] it (fun i h => h.IsListIter it a i) where
  mem := by simp
  obj := fun i h st b hb => by
    have e : b = it := by simpa using hb
    subst e
    obtain ⟨o, e, c, d⟩ := st
    exact ⟨o, e, fun v z => by rw [d] at z; cases z⟩
  keep := fun i h h' st k => st.at fun o e => k it (by simp) o e
  item := by
    intro X hP hw hK hc i pins s σ H E I hf st hg
    subst hP hw hK
    obtain ⟨xs, x, hq, hx⟩ := hg
    obtain ⟨its, rv, p, hz⟩ := I.list hq
    obtain ⟨u, hu, ru⟩ := rv.get hx
    obtain ⟨f0, f1, f2, f3, f4, f5⟩ := hf it (by simp)
    refine wpAny_pyNext_list_item st p.isList (x := u) (by simpa using hu) fun h' st' sb => ?_
    have I1 : Inv X pins σ H { s with heap := h' } := I.turned (t' := s.toks) (fun b o hb e => (sb.2 b hb).trans e) f0 f1 f3 f4 f5
    obtain ⟨o, e, c, d⟩ := id st'
    exact ⟨u, rfl, go_of (s := { s with heap := h' }) e c d (by decide) ⟨x, H, I1, ru, ⟨rfl, fun ys hy => by rw [I.list_inj hy hq]; exact hx⟩, st', fun b hb => (hf b hb).1⟩⟩
  done := by
    intro X hP hw hK hc i pins s σ H E I hf st hg
    subst hP hw hK
    obtain ⟨xs, hq, hx⟩ := hg
    obtain ⟨its, rv, p, hz⟩ := I.list hq
    obtain ⟨f0, f1, f2, f3, f4, f5⟩ := hf it (by simp)
    have hl := rv.length
    exact wpAny_pyNext_list_end (I.ok.hd hc) st p.isList (by simp; omega) fun h' eb => ⟨rfl, I.turned (t' := s.toks) (fun b o hb e => eb b o hb e) f0 f1 f3 f4 f5⟩
  self := fun _ _ _ _ _ st h => wpAny_pyIter_listiter st h
theorem turn_range {P : Program} {w : World} {K : PySem.W.Frag} {tg : Expr} (it : Addr) (lo : Int) (n : Nat) : Turn P w K tg (Itr lo n) [it] it (fun i h => IsRangeIter h it (lo + (i : Nat) * 1) ((n : Int) - (i : Nat)) 1) where
  mem := by simp
  obj := fun i h st b hb => by
    have e : b = it := by simpa using hb
    subst e
    exact ⟨_, st, fun v z => by
      have z' : Data.fields _ = Data.cell v := z
      cases z'⟩
  keep := fun i h h' st k => k it (by simp) _ st
  item := by
    intro X hP hw hK hc i pins s σ H E I hf st hg
    subst hP hw hK
    obtain ⟨f0, f1, f2, f3, f4, f5⟩ := hf it (by simp)
    have W := Walks.range (prog := X.prog) (w := X.w) (I.ok.hd hc) it lo 1 n
    refine W.item i s _ _ hg st fun v h' tk hv st' kk => ?_
    obtain ⟨t, rfl⟩ := hv
    have I1 : Inv X pins σ H { s with heap := h', toks := tk } := I.turned (fun b o hb e => kk b o (by simpa using hb) e) f0 f1 f3 f4 f5
    refine ⟨_, rfl, go_of (s := { s with heap := h', toks := tk }) (n := "range_iterator") st' rfl rfl (by decide) ⟨.int (lo + i), H, I1, ⟨t, ?_⟩, ⟨rfl, rfl⟩, st', fun b hb => (hf b hb).1⟩⟩
    rw [Int.mul_one]
  done := by
    intro X hP hw hK hc i pins s σ H E I hf st hg
    subst hP hw hK
    obtain ⟨f0, f1, f2, f3, f4, f5⟩ := hf it (by simp)
    exact wpAny_pyNext_range_end (I.ok.hd hc) st (by have : n ≤ i := hg; omega) fun h' eb => ⟨rfl, I.turned (t' := s.toks) (fun b o hb e => eb b o hb e) f0 f1 f3 f4 f5⟩
  self := fun _ _ _ _ _ st h => wpAny_pyIter_rangeiter st h
end L2

namespace L2
open PySem PySem.Spec PyProof.Rows
section
variable {X : Cx} {tg : Expr}
def iList (K : PySem.W.Frag) (tl : TE) : TI := fun σ H R => tl σ H fun x H1 => ∃ a, x = .ref a ∧ (∃ xs, SqL K H1 a xs) ∧ R (Itl K a) H1
theorem pi_list {l : Expr} {tl : TE} (hl : PE X l tl) : PI X tg l (iList X.K tl) := by
  intro pins s σ H R I h
  refine thn (hl pins s σ H _ I h) fun v s1 ⟨x, H1, I1, r1, q1⟩ => ?_
  obtain ⟨a, e, ⟨xs, hq⟩, q⟩ := q1
  subst e
  cases r1
  obtain ⟨its, rv, p, hz⟩ := I1.list hq
  refine wpAny_pyIter_list p.isList ?_
  refine ⟨s1.heap.objs.size, [s1.heap.objs.size], _, _, H1, rfl, I1.kept (t' := s1.toks) fun b o e => Heap.get?_push_of_some _ e, turn_list a _, ⟨_, Heap.get?_push_size _ rfl, rfl, rfl⟩, fun b hb => ?_, q⟩
  have e : b = s1.heap.objs.size := by simpa using hb
  subst e
  exact I1.fpOk (Nat.le_refl _) (I1.hok.fresh (Nat.le_refl _))
/-- a range object just made, walked -/
theorem range_it {pins : List (Addr × Obj)} {σ : St} {H : Hp} {s : Shared} {R : It → Hp → Prop} {E : Value → Shared → Prop} {lo hi : Int} {t u v : Tok} {tk : Nat} (I : Inv X pins σ H s) (h1 : -(2 ^ 62) ≤ lo) (h2 : lo < 2 ^ 62) (h3 : -(2 ^ 62) ≤ hi) (h4 : hi < 2 ^ 62)
    (q : R (Itr lo (hi - lo).toNat) H) : wpAny (model X.prog X.w) X.A (pyIter (.ref s.heap.objs.size)) (PIE X pins σ tg R) E { s with heap := s.heap.push { cls := .type "range", data := .fields #[.int lo t, .int hi u, .int 1 v] }, toks := tk } := by
  refine wpAny_pyIter_range (IsRange.new ..) (small_one h1 h2 h3 h4) ?_
  have I1 : Inv X pins σ H { s with heap := s.heap.push { cls := .type "range", data := .fields #[.int lo t, .int hi u, .int 1 v] }, toks := tk } := I.kept fun b o e => Heap.get?_push_of_some _ e
  refine ⟨(s.heap.push { cls := .type "range", data := .fields #[.int lo t, .int hi u, .int 1 v] }).objs.size, [(s.heap.push { cls := .type "range", data := .fields #[.int lo t, .int hi u, .int 1 v] }).objs.size], _, _, H, rfl,
    I1.kept (t' := tk) fun b o e => Heap.get?_push_of_some _ e, turn_range _ lo (hi - lo).toNat, ?_, fun b hb => ?_, q⟩
  · have e1 : lo + ((0 : Nat) : Int) * 1 = lo := by simp
    have e2 : (((hi - lo).toNat : Nat) : Int) - ((0 : Nat) : Int) = Builtin.Range.rangeSize lo hi 1 := by rw [rangeSize_one]; split <;> omega
    show IsRangeIter _ _ (lo + ((0 : Nat) : Int) * 1) ((((hi - lo).toNat : Nat) : Int) - ((0 : Nat) : Int)) 1
    rw [e1, e2]
    exact Heap.get?_push_size _ rfl
  · have e : b = (s.heap.push { cls := .type "range", data := .fields #[.int lo t, .int hi u, .int 1 v] }).objs.size := by simpa using hb
    subst e
    exact I1.fpOk (Nat.le_refl _) (I1.hok.fresh (Nat.le_refl _))
def iRng1 (ta : TA) : TI := fun σ H R => ta σ H fun vs H1 => ∃ j : Int, vs = [.int j] ∧ -(2 ^ 62) ≤ j ∧ j < 2 ^ 62 ∧ R (Itr 0 j.toNat) H1
theorem pi_range1 {a : Expr} {ta : TA} {p pos : Pos} (hg : Gl X "range") (hm : X.mg "range" = none) (ha : PA X [a] ta) (hs : starEach [a] X.env = [(false, eval a X.env)] := by rfl) : PI X tg (.Call (.Name "range" p) [a] [] pos) (iRng1 ta) := by
  intro pins s σ H R I h
  refine Call_ (ld_blt I hg hm boot_range (PyProof.Rows.callWith_type1 (thn (ha pos pins s σ H _ I h) fun us s1 ⟨vs, H1, I1, r1, q1⟩ => ?_) hs rfl))
  obtain ⟨j, e, q1, q2, q⟩ := q1
  subst e
  cases r1 with
  | cons r rr =>
    cases rr
    obtain ⟨t, rfl⟩ := r
    exact call_range_1 (range_it I1 (by omega) (by omega) q1 q2 (by simpa using q))
/-! ### for -/
/-- W: the invariant by the turn and a measure; N: what the body is to reach -/
def tFor (wi : TI) (g : TG) (tb : TS) : TS := fun D σ H => wi σ H fun J H1 => ∃ W : Nat → Nat → St → Hp → Prop, (∃ m, W 0 m σ H1) ∧ ∀ i m σ H, W i m σ H →
  (J.stop i H ∧ D.nx σ H) ∨ (J.go i H ∧ ∃ N : St → Hp → Prop, (∀ σ' H', N σ' H' → ∃ m', m' < m ∧ W (i + 1) m' σ' H') ∧ ∀ x H', J.yld i H x H' → g x σ H' fun σ2 H2 => tb { D with nx := N, ct := N, bk := D.nx } σ2 H2)
/-- the records at fp as they stand -/
def pinsAt (fp : List Addr) (h : Heap) : List (Addr × Obj) := fp.filterMap fun b => (h.get? b).map fun o => (b, o)
theorem mem_pinsAt {fp : List Addr} {h : Heap} {b : Addr} {o : Obj} (hb : b ∈ fp) (e : h.get? b = some o) : (b, o) ∈ pinsAt fp h := List.mem_filterMap.mpr ⟨b, hb, by rw [e]; rfl⟩
theorem of_pinsAt {fp : List Addr} {h : Heap} {p : Addr × Obj} (hp : p ∈ pinsAt fp h) : p.1 ∈ fp ∧ h.get? p.1 = some p.2 := by
  obtain ⟨b, hb, e⟩ := List.mem_filterMap.mp hp
  cases q : h.get? b with
  | none => rw [q] at e; cases e
  | some o =>
    rw [q] at e
    have e' : (b, o) = p := Option.some.inj e
    subst e'
    exact ⟨hb, q⟩
theorem Inv.pinned {pins : List (Addr × Obj)} {σ : St} {H : Hp} {s : Shared} {fp : List Addr} (I : Inv X pins σ H s) (hf : ∀ b ∈ fp, FpOk X pins H b) (ho : ∀ b ∈ fp, ∃ o, s.heap.get? b = some o ∧ ∀ v, o.data ≠ .cell v) : Inv X (pins ++ pinsAt fp s.heap) σ H s :=
  I.pins_of fun p hp => (List.mem_append.mp hp).elim (fun z => I.pin p (List.mem_append_right _ z)) fun z => by
    obtain ⟨hb, e⟩ := of_pinsAt z
    obtain ⟨f0, f1, f2, _⟩ := hf p.1 hb
    obtain ⟨o, e', d⟩ := ho p.1 hb
    rw [e] at e'; cases e'
    exact ⟨e, f0, f1, f2, d⟩
theorem Inv.unpinned {pins pl : List (Addr × Obj)} {σ : St} {H : Hp} {s : Shared} (I : Inv X (pins ++ pl) σ H s) : Inv X pins σ H s := I.pins_of fun p hp => I.pin p (List.mem_append_right _ (List.mem_append_left _ hp))
theorem ps_for {iter : Expr} {body : List Stmt} {wi : TI} {g : TG} {tb : TS} {pos : Pos} (hp : PassesOwn (model X.prog X.w) X.A X.env X.xe) (hc : X.calm = true) (hi : PI X tg iter wi) (hg : PG X tg g) (hb : PSs X body tb)
    (hs : ∀ x, foldedSetIterable iter X.env x = pure x := by intro _; rfl) : PS X (.For tg iter body [] pos) (tFor wi g tb) := by
  intro pins s σ H D I h
  refine wpAny_For (thn (hi pins s σ H _ I h) fun v s1 h1 => thn h1 fun itv s2 h2 => ?_) hs
  obtain ⟨it, fp, tn, J, H2, e, I2, T, st2, f2, W, ⟨m0, w0⟩, turn⟩ := h2
  subst e
  -- what stays true of the iterator's objects through the loop
  have stat : ∀ {H' : Hp}, (∀ b ∈ fp, H' b = none) → ∀ b ∈ fp, FpOk X pins H' b := fun hn b hb => ⟨hn b hb, (f2 b hb).2⟩
  refine codeAny_forLoop_any (fun n s' => ∃ i σ' H', Inv X pins σ' H' s' ∧ tn i s'.heap ∧ (∀ b ∈ fp, H' b = none) ∧ W i n σ' H') ?_ m0 ⟨0, σ, H2, I2, st2, fun b hb => (f2 b hb).1, w0⟩
  rintro n s3 ⟨i, σ3, H3, I3, st3, fr3, w3⟩
  rcases turn i n σ3 H3 w3 with ⟨stop, qn⟩ | ⟨go, N, hN, step⟩
  · refine wpAny_passesOwn hp (thn (T.done X rfl rfl rfl hc i pins s3 σ3 H3 X.xe I3 (stat fr3) st3 stop) fun r s4 ⟨hr, I4⟩ => ?_)
    subst hr
    exact wpAny_execs_nil ⟨σ3, H3, I4, qn⟩
  · refine wpAny_passesOwn hp (thn (T.item X rfl rfl rfl hc i pins s3 σ3 H3 X.xe I3 (stat fr3) st3 go) fun r s4 ⟨u, hr, h4⟩ => ?_)
    subst hr
    refine wpAny_passesOwn hp (thn h4 fun _ s5 ⟨x, H5, I5, r5, y5, st5, fr5⟩ => ?_)
    have I5' := I5.pinned (stat fr5) (T.obj _ _ st5)
    refine wpAny_passesOwn hp (thn (hg _ s5 σ3 H5 x u _ I5' r5 (step x H5 y5)) fun _ s6 ⟨σ6, H6, I6, q6⟩ => ?_)
    refine wpAny_passesOwn hp (thn (hb _ s6 σ6 H6 _ I6 q6) fun f s7 q7 => ?_)
    have again : ∀ {σ7 : St} {H7 : Hp}, Inv X (pins ++ pinsAt fp s5.heap) σ7 H7 s7 → N σ7 H7 → ∃ m, m < n ∧ ∃ i σ' H', Inv X pins σ' H' s7 ∧ tn i s7.heap ∧ (∀ b ∈ fp, H' b = none) ∧ W i m σ' H' := fun {σ7 H7} I7 n7 => by
      obtain ⟨m', hm, w7⟩ := hN σ7 H7 n7
      refine ⟨m', hm, i + 1, σ7, H7, I7.unpinned, T.keep _ _ _ st5 fun b hb o e => (I7.pin (b, o) (List.mem_append_right _ (List.mem_append_right _ (mem_pinsAt hb e)))).1, fun b hb => ?_, w7⟩
      obtain ⟨o, e, d⟩ := T.obj _ _ st5 b hb
      exact (I7.pin (b, o) (List.mem_append_right _ (List.mem_append_right _ (mem_pinsAt hb e)))).2.1
    cases f with
    | next => obtain ⟨σ7, H7, I7, n7⟩ := q7; exact again I7 n7
    | cont => obtain ⟨σ7, H7, I7, n7⟩ := q7; exact again I7 n7
    | brk => obtain ⟨σ7, H7, I7, q7⟩ := q7; exact ⟨σ7, H7, I7.unpinned, q7⟩
    | ret v => obtain ⟨x7, σ7, H7, I7, r7, q7⟩ := q7; exact ⟨x7, σ7, H7, I7.unpinned, r7, q7⟩
end

/-! ### the forms one uses -/
/-- over a list that the body leaves as it is -/
theorem for_list {K : PySem.W.Frag} {a : Addr} {xs : List V} {g : TG} {tb : TS} {D : Ends} {σ : St} {H : Hp} (Pv : Nat → St → Hp → Prop) (h0 : Pv 0 σ H) (hl : ∀ i σ H, i ≤ xs.length → Pv i σ H → SqL K H a xs)
    (hs : ∀ i x σ H, xs[i]? = some x → Pv i σ H → g x σ H fun σ2 H2 => tb { D with nx := Pv (i + 1), ct := Pv (i + 1), bk := D.nx } σ2 H2) (hd : ∀ σ H, Pv xs.length σ H → D.nx σ H) :
    ∃ W : Nat → Nat → St → Hp → Prop, (∃ m, W 0 m σ H) ∧ ∀ i m σ H, W i m σ H →
      ((Itl K a).stop i H ∧ D.nx σ H) ∨ ((Itl K a).go i H ∧ ∃ N : St → Hp → Prop, (∀ σ' H', N σ' H' → ∃ m', m' < m ∧ W (i + 1) m' σ' H') ∧ ∀ x H', (Itl K a).yld i H x H' → g x σ H' fun σ2 H2 => tb { D with nx := N, ct := N, bk := D.nx } σ2 H2) := by
  refine ⟨fun i m σ H => m = xs.length - i ∧ i ≤ xs.length ∧ Pv i σ H, ⟨xs.length, by simp, Nat.zero_le _, h0⟩, ?_⟩
  rintro i m σ H ⟨rfl, hi, p⟩
  have q := hl i σ H hi p
  by_cases hlt : i < xs.length
  · refine .inr ⟨⟨xs, xs[i], q, by simp [hlt]⟩, Pv (i + 1), fun σ' H' p' => ⟨xs.length - (i + 1), by omega, rfl, hlt, p'⟩, fun x H' y => ?_⟩
    obtain ⟨e, y⟩ := y
    subst e
    exact hs i x σ _ (y xs q) p
  · have e : i = xs.length := by omega
    subst e
    exact .inl ⟨⟨xs, q, Nat.le_refl _⟩, hd σ H p⟩
end L2

namespace L2
open PySem PySem.Spec PyProof.Rows

abbrev R2 := V → V → Hp → VK → Prop
/-- a two-place operation on values: f is binaryOp op, inplaceOp op or compareOp op -/
def OpR (X : Cx) (f : Value → Value → Sem Value) (r : R2) : Prop :=
  ∀ (pins : List (Addr × Obj)) (s : Shared) (σ : St) (H : Hp) (x y : V) (v u : Value) (Q : VK), Inv X pins σ H s → RelV x v → RelV y u → r x y H Q →
    wpAny (model X.prog X.w) X.A (f v u) (EP X pins σ Q) X.xe s
/-- a call of a value that is known (a builtin, a type) with values -/
def CallR (X : Cx) (f : Value) (r : List V → Hp → VK → Prop) : Prop :=
  ∀ (pins : List (Addr × Obj)) (s : Shared) (σ : St) (H : Hp) (xs : List V) (us : List Value) (Q : VK), Inv X pins σ H s → Vals xs us → r xs H Q →
    wpAny (model X.prog X.w) X.A (call f us) (EP X pins σ Q) X.xe s
/-- a value's truth -/
def TruR (X : Cx) (r : V → Hp → (Bool → Hp → Prop) → Prop) : Prop :=
  ∀ (pins : List (Addr × Obj)) (s : Shared) (σ : St) (H : Hp) (x : V) (v : Value) (Q : Bool → Hp → Prop), Inv X pins σ H s → RelV x v → r x H Q →
    wpAny (model X.prog X.w) X.A (truthy v) (TP X pins σ Q) X.xe s

def tOp (r : R2) (ta tb : TE) : TE := fun σ H Q => ta σ H fun x H1 => tb σ H1 fun y H2 => r x y H2 Q
/-- ints in, under C, and a value out -/
def rI (C : Int → Int → Prop) (g : Int → Int → V) : R2 := fun x y H Q => ∃ i j, x = .int i ∧ y = .int j ∧ C i j ∧ Q (g i j) H
def rI0 (g : Int → Int → V) : R2 := fun x y H Q => ∃ i j, x = .int i ∧ y = .int j ∧ Q (g i j) H
section
variable {X : Cx} {a b c : Expr} {ta tb tc : TE} {pos : Pos}

theorem binT (ha : PE X a ta) (hb : PE X b tb) {pins : List (Addr × Obj)} {s : Shared} {σ : St} {H : Hp} {R : V → V → Hp → Prop} (I : Inv X pins σ H s)
    (h : ta σ H fun x H1 => tb σ H1 fun y H2 => R x y H2) {Q : Value → Shared → Prop} {f : Value → Value → Sem Value}
    (hf : ∀ v u s2 x y H2, Inv X pins σ H2 s2 → RelV x v → RelV y u → R x y H2 → wpAny (model X.prog X.w) X.A (f v u) Q X.xe s2) :
    wpAny (model X.prog X.w) X.A (eval a X.env) (fun v s₁ => wpAny (model X.prog X.w) X.A (eval b X.env) (fun u s₂ => wpAny (model X.prog X.w) X.A (f v u) Q X.xe s₂) X.xe s₁) X.xe s := by
  refine thn (ha pins s σ H _ I h) fun v s1 ⟨x, H1, I1, r1, q1⟩ => ?_
  refine thn (hb pins s1 σ H1 _ I1 q1) fun u s2 ⟨y, H2, I2, r2, q2⟩ => ?_
  exact hf v u s2 x y H2 I2 r1 r2 q2

theorem pe_op {op : Operator} {r : R2} (ho : OpR X (binaryOp op) r) (ha : PE X a ta) (hb : PE X b tb) : PE X (.BinOp a op b pos) (tOp r ta tb) := by
  intro pins s σ H Q I h
  exact wpAny_BinOp (binT ha hb I h fun v u s2 x y H2 I2 rx ry q => ho pins s2 σ H2 x y v u Q I2 rx ry q)
/-! ### ints -/
theorem opI {f : Value → Value → Sem Value} {C : Int → Int → Prop} {g : Int → Int → Int}
    (rule : ∀ (i j : Int) (t u : Tok) (s : Shared) (Q : Value → Shared → Prop) (E : Value → Shared → Prop), C i j → Q (.int (g i j) s.toks) { s with toks := s.toks + 1 } → wpAny (model X.prog X.w) X.A (f (.int i t) (.int j u)) Q E s) :
    OpR X f (rI C fun i j => .int (g i j)) := by
  intro pins s σ H x y v u Q I rx ry h
  obtain ⟨i, j, rfl, rfl, hc, q⟩ := h
  obtain ⟨t, rfl⟩ := rx
  obtain ⟨t', rfl⟩ := ry
  exact rule i j t t' s _ _ hc ⟨.int (g i j), H, I.tok _, ⟨_, rfl⟩, q⟩
theorem opI0 {f : Value → Value → Sem Value} {g : Int → Int → Int}
    (rule : ∀ (i j : Int) (t u : Tok) (s : Shared) (Q : Value → Shared → Prop) (E : Value → Shared → Prop), Q (.int (g i j) s.toks) { s with toks := s.toks + 1 } → wpAny (model X.prog X.w) X.A (f (.int i t) (.int j u)) Q E s) :
    OpR X f (rI0 fun i j => .int (g i j)) := by
  intro pins s σ H x y v u Q I rx ry h
  obtain ⟨i, j, rfl, rfl, q⟩ := h
  obtain ⟨t, rfl⟩ := rx
  obtain ⟨t', rfl⟩ := ry
  exact rule i j t t' s _ _ ⟨.int (g i j), H, I.tok _, ⟨_, rfl⟩, q⟩
theorem opB0 {f : Value → Value → Sem Value} {g : Int → Int → Bool}
    (rule : ∀ (i j : Int) (t u : Tok) (s : Shared) (Q : Value → Shared → Prop) (E : Value → Shared → Prop), Q (.bool (g i j)) s → wpAny (model X.prog X.w) X.A (f (.int i t) (.int j u)) Q E s) :
    OpR X f (rI0 fun i j => .bl (g i j)) := by
  intro pins s σ H x y v u Q I rx ry h
  obtain ⟨i, j, rfl, rfl, q⟩ := h
  obtain ⟨t, rfl⟩ := rx
  obtain ⟨t', rfl⟩ := ry
  exact rule i j t t' s _ _ ⟨.bl (g i j), H, I, rfl, q⟩

def CDiv (i j : Int) : Prop := 0 < j ∧ j < 1073741824
def CPow (i j : Int) : Prop := 0 ≤ j ∧ j ≤ 1000000 ∧ i.natAbs < 2 ^ 64
def CMul (i j : Int) : Prop := (-(2 ^ 64) < i ∧ i < 2 ^ 64) ∨ (-(2 ^ 64) < j ∧ j < 2 ^ 64)
theorem CMul.ok {i j : Int} (h : CMul i j) : IntMulOk i j := by
  rcases h with ⟨h1, h2⟩ | ⟨h1, h2⟩
  · exact .of_left (intBits_le_64 h1 h2)
  · exact .of_right (intBits_le_64 h1 h2)
theorem op_add : OpR X (binaryOp .Add) (rI0 fun i j => .int (i + j)) := opI0 fun _ _ _ _ _ _ _ q => add_int q
theorem op_sub : OpR X (binaryOp .Sub) (rI0 fun i j => .int (i - j)) := opI0 fun _ _ _ _ _ _ _ q => sub_int q
theorem op_mul : OpR X (binaryOp .Mult) (rI CMul fun i j => .int (i * j)) := opI fun _ _ _ _ _ _ _ hc q => mul_int q hc.ok
/-- // by a positive divisor -/
theorem op_fdiv : OpR X (binaryOp .FloorDiv) (rI CDiv fun i j => .int (i / j)) := opI fun i j _ _ _ _ _ hc q => by
  have h1 : (0 : Int) < j := hc.1
  have h2 : j < 1073741824 := hc.2
  exact floordiv_int (by omega) (by rw [Int.fdiv_eq_ediv_of_nonneg i (by omega)]; exact q) (.inl (PyProof.noPylong_small (by omega)))
/-- % by a positive divisor of any size -/
theorem op_mod : OpR X (binaryOp .Mod) (rI (fun _ j => 0 < j) fun i j => .int (i % j)) := opI fun i j _ _ _ _ _ hc q => by
  have h1 : (0 : Int) < j := hc
  exact mod_int' (by omega) (by rw [Int.fmod_eq_emod_of_nonneg i (by omega)]; exact q)
theorem op_pow : OpR X (binaryOp .Pow) (rI CPow fun i j => .int (i ^ j.toNat)) := opI fun _ _ _ _ _ _ _ hc q => pow_int_small hc.1 hc.2.1 hc.2.2 q
/-! ### bools among ints: n += (a < b) -/
end

/-! ### comparisons -/
/-- the scalars that == tells apart as data does -/
def scal : V → V → Bool
  | .non, .non => true | .non, .int _ => true | .int _, .non => true | .non, .bl _ => true | .bl _, .non => true | .non, .str _ => true | .str _, .non => true
  | .int _, .int _ => true | .bl _, .bl _ => true | .str _, .str _ => true | .byt _, .byt _ => true
  | .int _, .str _ => true | .str _, .int _ => true | .bl _, .str _ => true | .str _, .bl _ => true
  | _, _ => false
def rEq : R2 := fun x y H Q => scal x y = true ∧ Q (.bl (decide (x = y))) H
def rNe : R2 := fun x y H Q => scal x y = true ∧ Q (.bl (!decide (x = y))) H

theorem dec_int {i j : Int} : decide (V.int i = V.int j) = (i == j) := by
  rw [Bool.eq_iff_iff]
  simp
theorem dec_bl {i j : Bool} : decide (V.bl i = V.bl j) = (i == j) := by
  rw [Bool.eq_iff_iff]
  simp
theorem dec_str {i j : Str} : decide (V.str i = V.str j) = (i == j) := by
  rw [Bool.eq_iff_iff]
  simp
theorem dec_byt {i j : Array UInt8} : decide (V.byt i = V.byt j) = (i.toList == j.toList) := by
  rw [Bool.eq_iff_iff]
  cases i
  cases j
  simp

section
variable {X : Cx} {a b c : Expr} {ta tb tc : TE} {pos : Pos}
theorem fin_bl {pins : List (Addr × Obj)} {σ : St} {H : Hp} {s : Shared} {Q : VK} {k k' : Bool} (I : Inv X pins σ H s) (q : Q (.bl k) H) (e : k = k') : EP X pins σ Q (.bool k') s := by
  subst e
  exact ⟨.bl k, H, I, rfl, q⟩
theorem op_eq : OpR X (compareOp .Eq) rEq := by
  intro pins s σ H x y v u Q I rx ry h
  obtain ⟨hs, q⟩ := h
  cases x with
  | non =>
    cases rx
    cases y with
    | non => cases ry; exact PySem.EqNone.eq_none_none (fin_bl I q (by simp))
    | bl j => cases ry; exact PySem.EqNone.eq_none_bool (fin_bl I q (by simp))
    | int j => obtain ⟨t', rfl⟩ := ry; exact PySem.EqNone.eq_none_int (fin_bl I q (by simp))
    | str j => obtain ⟨t', rfl⟩ := ry; exact PySem.EqNone.eq_none_str (fin_bl I q (by simp))
    | _ => exact absurd (show false = true from hs) Bool.false_ne_true
  | bl i =>
    cases rx
    cases y with
    | non => cases ry; exact PySem.EqNone.eq_bool_none (fin_bl I q (by simp))
    | bl j => cases ry; exact eq_bool (fin_bl I q dec_bl)
    | str j => obtain ⟨t', rfl⟩ := ry; exact PySem.EqMixed.eq_bool_str (fin_bl I q (by simp))
    | _ => exact absurd (show false = true from hs) Bool.false_ne_true
  | int i =>
    obtain ⟨t, rfl⟩ := rx
    cases y with
    | non => cases ry; exact PySem.EqNone.eq_int_none (fin_bl I q (by simp))
    | int j => obtain ⟨t', rfl⟩ := ry; exact eq_int (fin_bl I q dec_int)
    | str j => obtain ⟨t', rfl⟩ := ry; exact PySem.EqMixed.eq_int_str (fin_bl I q (by simp))
    | _ => exact absurd (show false = true from hs) Bool.false_ne_true
  | str i =>
    obtain ⟨t, rfl⟩ := rx
    cases y with
    | non => cases ry; exact PySem.EqNone.eq_str_none (fin_bl I q (by simp))
    | bl j => cases ry; exact PySem.EqMixed.eq_str_bool (fin_bl I q (by simp))
    | int j => obtain ⟨t', rfl⟩ := ry; exact PySem.EqMixed.eq_str_int (fin_bl I q (by simp))
    | str j => obtain ⟨t', rfl⟩ := ry; exact eq_str (fin_bl I q dec_str)
    | _ => exact absurd (show false = true from hs) Bool.false_ne_true
  | byt i =>
    obtain ⟨t, rfl⟩ := rx
    cases y with
    | byt j => obtain ⟨t', rfl⟩ := ry; exact PySem.W.eq_bytes (fin_bl I q dec_byt)
    | _ => exact absurd (show false = true from hs) Bool.false_ne_true
  | _ => cases y <;> exact absurd (show false = true from hs) Bool.false_ne_true
theorem op_ne : OpR X (compareOp .NotEq) rNe := by
  intro pins s σ H x y v u Q I rx ry h
  obtain ⟨hs, q⟩ := h
  cases x with
  | non =>
    cases rx
    cases y with
    | non => cases ry; exact PySem.EqNone.ne_none_none (fin_bl I q (by simp))
    | bl j => cases ry; exact PySem.EqNone.ne_none_bool (fin_bl I q (by simp))
    | int j => obtain ⟨t', rfl⟩ := ry; exact PySem.EqNone.ne_none_int (fin_bl I q (by simp))
    | str j => obtain ⟨t', rfl⟩ := ry; exact PySem.EqNone.ne_none_str (fin_bl I q (by simp))
    | _ => exact absurd (show false = true from hs) Bool.false_ne_true
  | bl i =>
    cases rx
    cases y with
    | non => cases ry; exact PySem.EqNone.ne_bool_none (fin_bl I q (by simp))
    | bl j => cases ry; exact ne_bool (fin_bl I q (congrArg not dec_bl))
    | str j => obtain ⟨t', rfl⟩ := ry; exact PySem.EqMixed.ne_bool_str (fin_bl I q (by simp))
    | _ => exact absurd (show false = true from hs) Bool.false_ne_true
  | int i =>
    obtain ⟨t, rfl⟩ := rx
    cases y with
    | non => cases ry; exact PySem.EqNone.ne_int_none (fin_bl I q (by simp))
    | int j => obtain ⟨t', rfl⟩ := ry; exact ne_int (fin_bl I q (congrArg not dec_int))
    | str j => obtain ⟨t', rfl⟩ := ry; exact PySem.EqMixed.ne_int_str (fin_bl I q (by simp))
    | _ => exact absurd (show false = true from hs) Bool.false_ne_true
  | str i =>
    obtain ⟨t, rfl⟩ := rx
    cases y with
    | non => cases ry; exact PySem.EqNone.ne_str_none (fin_bl I q (by simp))
    | bl j => cases ry; exact PySem.EqMixed.ne_str_bool (fin_bl I q (by simp))
    | int j => obtain ⟨t', rfl⟩ := ry; exact PySem.EqMixed.ne_str_int (fin_bl I q (by simp))
    | str j => obtain ⟨t', rfl⟩ := ry; exact ne_str (fin_bl I q (congrArg not dec_str))
    | _ => exact absurd (show false = true from hs) Bool.false_ne_true
  | byt i =>
    obtain ⟨t, rfl⟩ := rx
    cases y with
    | byt j => obtain ⟨t', rfl⟩ := ry; exact PySem.W.ne_bytes (fin_bl I q (congrArg not dec_byt))
    | _ => exact absurd (show false = true from hs) Bool.false_ne_true
  | _ => cases y <;> exact absurd (show false = true from hs) Bool.false_ne_true

theorem op_lt : OpR X (compareOp .Lt) (rI0 fun i j => .bl (decide (i < j))) := opB0 fun _ _ _ _ _ _ _ q => lt_int q
/-- two rules for one operation: by cases -/
theorem OpR.or {f : Value → Value → Sem Value} {r r' : R2} (h : OpR X f r) (h' : OpR X f r') : OpR X f (fun x y H Q => r x y H Q ∨ r' x y H Q) := by
  intro pins s σ H x y v u Q I rx ry q
  rcases q with q | q
  · exact h pins s σ H x y v u Q I rx ry q
  · exact h' pins s σ H x y v u Q I rx ry q

theorem nomark (b : Expr) {op : CmpOp} (h : op ≠ .In := by decide) (h2 : op ≠ .NotIn := by decide) : behindInMarks op b = false := by
  have e1 : (op == CmpOp.In) = false := by cases op <;> first | rfl | exact absurd rfl h
  have e2 : (op == CmpOp.NotIn) = false := by cases op <;> first | rfl | exact absurd rfl h2
  cases b <;> simp [behindInMarks, e1, e2]
/-- a reading of a value as a test -/
def tTest (t : TE) : TT := fun σ H Q => t σ H fun x H' => ∃ k, x = .bl k ∧ Q k H'
theorem pt_cmpR {op : CmpOp} {r : R2} (ho : OpR X (compareOp op) r) (ha : PE X a ta) (hb : PE X b tb) (hm : behindInMarks op b = false) : PT X (.Compare a [op] [b] pos) (tTest (tOp r ta tb)) := by
  intro pins s σ H Q I h
  refine wpAny_isTrue_Compare1 (thn (ha pins s σ H _ I h) fun v s1 ⟨x, H1, I1, r1, q1⟩ => thn (hb pins s1 σ H1 _ I1 q1) fun u s2 ⟨y, H2, I2, r2, q2⟩ =>
    thn (ho pins s2 σ H2 x y v u _ I2 r1 r2 q2) fun c s3 ⟨z, H3, I3, r3, k, e, q3⟩ => ?_) hm
  subst e
  cases r3
  exact wpAny_truthy_bool ⟨H3, I3, q3⟩
/-! ### truth -/
/-- a value's truth by the abstract heap -/
def TruV (K : PySem.W.Frag) (x : V) (H : Hp) (k : Bool) : Prop :=
  match x with
  | .non => k = false
  | .bl b => k = b
  | .int i => k = (i != 0)
  | .str y => y.length ≤ sizeLine ∧ k = ((y.length : Int) != 0)
  | .byt y => y.size ≤ sizeLine ∧ k = ((y.size : Int) != 0)
  | .ref p => (∃ xs, SqL K H p xs ∧ k = !xs.isEmpty) ∨ (∃ xs, SqT K H p xs ∧ k = !xs.isEmpty) ∨ ∃ kvs, H p = some (.dK kvs) ∧ k = !kvs.isEmpty
  | _ => False
theorem isEmpty_kv {κ : Type} {kvs : List (κ × V)} {vs : List (κ × Value)} (r : KV kvs vs) : (!vs.isEmpty) = !kvs.isEmpty := by
  cases r <;> rfl
theorem isEmpty_of {xs : List V} {its : List Value} (r : Vals xs its) : (!its.toArray.isEmpty) = !xs.isEmpty := by
  cases r <;> simp
theorem line63 : (sizeLine : Nat) < 2 ^ 63 := by rw [sizeLine_eq]; decide
theorem tru_ok : TruR X (fun x H Q => ∃ k, TruV X.K x H k ∧ Q k H) := by
  intro pins s σ H x v Q I rx h
  obtain ⟨k, e, q⟩ := h
  have hl := line63
  have hs : sizeLine = 16777216 := sizeLine_eq
  cases x with
  | non =>
    cases rx
    have e' : k = false := e
    subst e'
    exact truthy_none ⟨H, I, q⟩
  | bl b =>
    cases rx
    have e' : k = b := e
    subst e'
    exact wpAny_truthy_bool ⟨H, I, q⟩
  | int i =>
    obtain ⟨t, rfl⟩ := rx
    have e' : k = (i != 0) := e
    subst e'
    exact PySem.P.truthy_int ⟨H, I, q⟩
  | str y =>
    obtain ⟨t, rfl⟩ := rx
    obtain ⟨hy, e'⟩ : y.length ≤ sizeLine ∧ k = ((y.length : Int) != 0) := e
    subst e'
    exact PySem.P.truthy_str (by omega) ⟨H, I.tok _, q⟩
  | byt y =>
    obtain ⟨t, rfl⟩ := rx
    obtain ⟨hy, e'⟩ : y.size ≤ sizeLine ∧ k = ((y.size : Int) != 0) := e
    subst e'
    exact PySem.W.truthy_bytes (by omega) ⟨H, I.tok _, q⟩
  | ref p =>
    cases rx
    have e' : (∃ xs, SqL X.K H p xs ∧ k = !xs.isEmpty) ∨ (∃ xs, SqT X.K H p xs ∧ k = !xs.isEmpty) ∨ ∃ kvs, H p = some (.dK kvs) ∧ k = !kvs.isEmpty := e
    rcases e' with ⟨xs, hx, e'⟩ | ⟨xs, hx, e'⟩ | ⟨kvs, hx, e'⟩
    · subst e'
      obtain ⟨its, r, pl, hz⟩ := I.list hx
      have hlen := r.length
      exact wpAny_truthy_list pl.isList (by simp only [List.size_toArray]; omega) ⟨H, I.tok _, by rw [isEmpty_of r]; exact q⟩
    · subst e'
      obtain ⟨its, r, pl, hz⟩ := I.tuple hx
      have hlen := r.length
      exact truthy_tuple pl (by simp only [List.size_toArray]; omega) ⟨H, I.tok _, by rw [isEmpty_of r]; exact q⟩
    · subst e'
      obtain ⟨hz, hS, vs, r, m⟩ : kvs.length ≤ sizeLine ∧ (p == sysModules) = false ∧ ∃ vs, KV kvs vs ∧ s.heap.DictOf (mixKind X.prog X.w) p vs := I.hok p _ hx
      have hlen : kvs.length = vs.length := Paired.length r
      exact wpAny_truthy_dict hS m (by omega) ⟨H, I.tok _, by rw [isEmpty_kv r]; exact q⟩
  | _ => exact (show False from e).elim
/-- any expression whose test is its value's truth (a name, a call, a subscript, a field ..: he by fun _ => rfl) -/
theorem pt_truth (ha : PE X a ta) (he : ∀ whole, isTrue a X.env whole = (do let v ← whole; standAt a.pos; holding [v] (truthy v))) :
    PT X a (fun σ H Q => ta σ H fun x H' => ∃ k, TruV X.K x H' k ∧ Q k H') := by
  intro pins s σ H Q I h
  exact isTrue_plain (thn (ha pins s σ H _ I h) fun v s1 ⟨x, H1, I1, r1, q1⟩ => tru_ok pins s1 σ H1 x v Q I1 r1 q1) (he _)

/-! ### strs and bytes -/
theorem op_add_str : OpR X (binaryOp .Add) (fun x y H Q => ∃ i j, x = .str i ∧ y = .str j ∧ i.length + j.length ≤ sizeLine ∧ Q (.str (i ++ j)) H) := by
  intro pins s σ H x y v u Q I rx ry h
  obtain ⟨i, j, rfl, rfl, hz, q⟩ := h
  obtain ⟨t, rfl⟩ := rx
  obtain ⟨t', rfl⟩ := ry
  exact add_str (fun t' tk => ⟨.str (i ++ j), H, I.tok _, ⟨_, rfl⟩, q⟩) hz
/-! ### scalar builtins, by CallR -/
theorem vals1 {x : V} {us : List Value} (r : Vals [x] us) : ∃ u, us = [u] ∧ RelV x u := by
  cases r with
  | cons r1 r2 => cases r2; exact ⟨_, rfl, r1⟩
theorem vals2 {x y : V} {us : List Value} (r : Vals [x, y] us) : ∃ u w', us = [u, w'] ∧ RelV x u ∧ RelV y w' := by
  cases r with
  | cons r1 r2 =>
    cases r2 with
    | cons r3 r4 => cases r4; exact ⟨_, _, rfl, r1, r3⟩
theorem call_max2 (hc : X.calm = true) : CallR X (.builtin "max") (fun xs H Q => ∃ i j, xs = [.int i, .int j] ∧ Q (.int (if j > i then j else i)) H) := by
  intro pins s σ H xs us Q I r h
  obtain ⟨i, j, rfl, q⟩ := h
  obtain ⟨u, w', rfl, ⟨t, rfl⟩, ⟨t', rfl⟩⟩ := vals2 r
  refine max_two_ints (I.ok.hd hc) fun h' tk k => ⟨_, H, I.kept k, ?_, q⟩
  by_cases hj : j > i
  · rw [if_pos hj, if_pos hj]; exact ⟨_, rfl⟩
  · rw [if_neg hj, if_neg hj]; exact ⟨_, rfl⟩
end
end L2

namespace L2
open PySem PySem.Spec PyProof.Rows

/-! ### an instance, its attributes a map -/
structure ObjM (h : Heap) (x dx C : Addr) (mA : Str → Option Value) : Prop where
  obj : h.get? x = some (PySem.W.instObj C dx)
  ns : h.Ns1 dx mA
  ne : dx ≠ x

theorem lookIn_ns {h : Heap} {dx : Addr} {mA : Str → Option Value} (n : h.Ns1 dx mA) : ∃ od, h.get? dx = some od ∧ ∀ name, PySem.W.lookIn name od = some (mA name) := by
  obtain ⟨o, es, ep, ho, hd, hk, _, hm⟩ := n
  refine ⟨o, ho, fun name => ?_⟩
  have e := hm name
  unfold nsFind findBy at e
  rw [← Array.find?_toList] at e
  unfold PySem.W.lookIn
  rw [hd]
  dsimp only
  split
  · rename_i y q
    rw [q] at e
    exact congrArg some e
  · rename_i q
    rw [q] at e
    have a : es.toList.any (·.refKey) = false := by
      rw [List.any_eq_false]
      intro y hy
      obtain ⟨z, t, hkey⟩ := hk y (Array.mem_toList_iff.mp hy)
      simp [DictEntry.refKey, hkey]
    have a' : ¬ es.toList.any (·.refKey) = true := by rw [a]; exact Bool.false_ne_true
    rw [if_neg a']
    exact congrArg some e

theorem ObjM.look {h : Heap} {x dx C : Addr} {mA : Str → Option Value} (I : ObjM h x dx C mA) : ∃ od, PySem.W.InstAt h x (PySem.W.instObj C dx) C (some od) ∧ ∀ name, PySem.W.lookIn name od = some (mA name) :=
  let ⟨od, ho, hl⟩ := lookIn_ns I.ns
  ⟨od, ⟨I.obj, rfl, rfl, ho⟩, hl⟩

section
variable {prog : Program} {w : World} {A : Around} {E : Value → Shared → Prop} {s : Shared} {K : PySem.W.Frag} {x dx C f : Addr} {mA : Str → Option Value} {name : Str} {v : Value}

end

/-! ### the attributes as a list of pairs -/
def putF (f : Str) (v : V) : List (Str × V) → List (Str × V)
  | [] => [(f, v)]
  | (g, x) :: r => if g = f then (g, v) :: r else (g, x) :: putF f v r
theorem RelO.some_of {v : V} {o : Option Value} (r : RelO (some v) o) : ∃ u, o = some u ∧ RelV v u := by
  cases o with
  | none => exact (show False from r).elim
  | some u => exact ⟨u, rfl, r⟩
section
variable {P : Program} {w : World} {H H' : Hp} {h h' : Heap} {a C dx : Addr} {fs fs' : List (Str × V)}
theorem ins_get (hok : HOk P w H h) (e : H a = some (.ins C dx fs)) : ∃ mA, ObjM h a dx C mA ∧ (∀ f, RelO (fs.lookup f) (mA f)) ∧ PySem.Within mA (fs.map (·.1)) ∧ fs.length ≤ 1000 ∧ H dx = some (.own a) := by
  obtain ⟨d, z, ne, ob, mA, n, r, q⟩ := (show ObjOk P w H h a (.ins C dx fs) from hok a _ e)
  exact ⟨mA, ⟨ob, n, ne⟩, r, q, z, d⟩
end

/-! ### what of the text a class must have -/
structure Cls (K : PySem.W.Frag) (C : Addr) : Prop where
  pg : PySem.W.plainGet K C Str.empty = true
  hd : PySem.W.hasDictIn K C = true
  po : PySem.W.plainOver K C = true
  sa : PySem.W.findIn K (.ref C) "__setattr__" = some (some (.builtin "object.__setattr__"))
theorem Cls.get {K : PySem.W.Frag} {C : Addr} (c : Cls K C) (f : Str) : PySem.W.plainGet K C f = true := c.pg
/-- a constant of the class -/
structure Con (K : PySem.W.Frag) (C : Addr) (f : Str) (v : V) (u : Value) : Prop where
  at_ : PySem.W.findIn K (.ref C) f = some (some u)
  rel : RelV v u
  get : PySem.W.specialIn K u "__get__" = some none
  cp : PySem.W.copiedNames.contains f = false
/-- a method: a plain def of the class or of one above it -/
structure Meth (K : PySem.W.Frag) (C : Addr) (m : Str) (f : Addr) : Prop where
  at_ : PySem.W.findIn K (.ref C) m = some (some (.ref f))
  fn : PySem.W.isFn K (.ref f) = true
  kp : PySem.W.keepIn K (.ref f) = true

section
variable {X : Cx} {pins : List (Addr × Obj)} {σ : St} {H : Hp} {s : Shared} {a C dx : Addr} {fs : List (Str × V)} {f : Str} {v : V} {A : Around} {E : Value → Shared → Prop}

/-- a new instance, tracked, without attributes -/
theorem Inv.made (I : Inv X pins σ H s) : Inv X pins σ (upd (upd H s.heap.objs.size (.own (s.heap.objs.size + 1))) (s.heap.objs.size + 1) (.ins C s.heap.objs.size []))
    { s with heap := (s.heap.push PySem.W.emptyDict).push (PySem.W.instObj C s.heap.objs.size) } := by
  have e1 : (s.heap.push PySem.W.emptyDict).get? s.heap.objs.size = some PySem.W.emptyDict := Heap.get?_push_size s.heap rfl
  have e2 : ((s.heap.push PySem.W.emptyDict).push (PySem.W.instObj C s.heap.objs.size)).get? (s.heap.objs.size + 1) = some (PySem.W.instObj C s.heap.objs.size) := by
    have := Heap.get?_push_size (s.heap.push PySem.W.emptyDict) (o := PySem.W.instObj C s.heap.objs.size) rfl
    rwa [Heap.size_push] at this
  have e3 : (s.heap.push PySem.W.emptyDict).Ns s.heap.objs.size (fun _ => none) := ⟨PySem.W.emptyDict, #[], _, e1, rfl, (fun e he => absurd he (by simp)), fun _ => rfl⟩
  have I1 := I.laid (a := s.heap.objs.size) (o := .own (s.heap.objs.size + 1)) (h' := s.heap.push PySem.W.emptyDict) (t' := s.toks) (fun b u q => Heap.get?_push_of_some _ q) (Nat.le_refl _) ⟨_, e1⟩
  refine I1.laid (a := s.heap.objs.size + 1) (o := .ins C s.heap.objs.size []) (t' := s.toks) (fun b u q => Heap.get?_push_of_some _ q) (Nat.le_of_eq (Heap.size_push _ _)) ?_
  have ne : s.heap.objs.size ≠ s.heap.objs.size + 1 := Nat.ne_of_lt (Nat.lt_succ_self _)
  refine ⟨by rw [upd_ne ne, upd_same], Nat.zero_le _, ne, e2, fun _ => none, (Heap.Ns1.of_empty e3).at fun o q => Heap.get?_push_of_some _ q, fun _ => True.intro, fun y hy => absurd rfl hy⟩

end

/-! ### readings and rules -/
section
variable {X : Cx} {o e value : Expr} {f : Str} {pos pos' tpos : Pos} {ta tv : TE}
end

/-! ### isinstance -/
section
variable {X : Cx} {pins : List (Addr × Obj)} {σ : St} {H : Hp} {s : Shared} {A : Around} {E : Value → Shared → Prop} {Q : Value → Shared → Prop} {c : Value} {b : Bool}
/-- the type of a value, as the fragment's deciders take it; for an instance its class -/
inductive TyOf (K : PySem.W.Frag) (H : Hp) : V → Value → Prop where
  | non : TyOf K H .non (.type "NoneType")
  | bl (x : Bool) : TyOf K H (.bl x) (.type "bool")
  | int (i : Int) : TyOf K H (.int i) (.type "int")
  | str (x : Str) : TyOf K H (.str x) (.type "str")
  | flt (x : UInt64) : TyOf K H (.flt x) (.type "float")
  | lst {a : Addr} {xs : List V} (e : H a = some (.lst xs)) : TyOf K H (.ref a) (.type "list")
  | frz {a : Addr} {o : Obj} {xs : List V} (e : H a = some (.frz o (.lst xs))) : TyOf K H (.ref a) (.type "list")
  | tup {a : Addr} {xs : List V} (e : H a = some (.tup xs)) : TyOf K H (.ref a) (.type "tuple")
  | dK {a : Addr} {kvs : List (Key × V)} (e : H a = some (.dK kvs)) : TyOf K H (.ref a) (.type "dict")
  | dT {a : Addr} {kvs : List (List Key × V)} (e : H a = some (.dT kvs)) : TyOf K H (.ref a) (.type "dict")
  | ins {a C dx : Addr} {fs : List (Str × V)} (e : H a = some (.ins C dx fs)) (cl : Cls K C) (ha : PySem.W.findIn K (.ref C) "__class__" = some (some (.builtin "object.__class__")))
      (hn : PySem.W.specialIn K (.builtin "object.__class__") "__get__" = some (some (.builtin "getset_descriptor.__get__"))) (htk : PySem.W.takesIn K (.builtin "object.__class__") = some true)
      (hm : PySem.W.mroIn K C (.type "object") = some true) : TyOf K H (.ref a) (.ref C)
/-- isinstance(x, c) for one class c, a built-in or an own one: kitOne's answer -/
theorem isinst_ok {x : V} {u t : Value} (I : Inv X pins σ H s) (rx : RelV x u) (ty : TyOf X.K H x t) (e : PySem.W.kitOne X.K t c = some b) (h : ∀ tk, Q (.bool b) { s with toks := tk }) :
    wpAny (model X.prog X.w) A (call (.builtin "isinstance") [u, c]) Q E s := by
  cases ty with
  | non => cases (show u = Value.none from rx); exact PySem.W.kia_one PySem.W.kitx_none I.kIn True.intro e (fun z => nomatch z) h
  | bl y => cases (show u = Value.bool y from rx); exact PySem.W.kia_one PySem.W.kitx_bool I.kIn True.intro e (fun z => nomatch z) h
  | int i => obtain ⟨t, q⟩ := (show ∃ t, u = Value.int i t from rx); cases q; exact PySem.W.kia_one PySem.W.kitx_int I.kIn True.intro e (fun z => nomatch z) h
  | str y => obtain ⟨t, q⟩ := (show ∃ t, u = Value.str y t from rx); cases q; exact PySem.W.kia_one PySem.W.kitx_str I.kIn True.intro e (fun z => nomatch z) h
  | flt y => obtain ⟨t, q⟩ := (show ∃ t, u = Value.float y t from rx); cases q; exact PySem.W.kia_one PySem.W.kitx_float I.kIn True.intro e (fun z => nomatch z) h
  | @lst a xs ea =>
    cases (show u = Value.ref a from rx)
    obtain ⟨_, _, n, _, h1⟩ := (show ObjOk X.prog X.w H s.heap a (.lst xs) from I.hok a _ ea)
    exact PySem.W.kia_one PySem.W.kitx_list I.kIn ⟨_, h1, rfl⟩ e (fun z => nomatch z) h
  | @frz a ob xs ea =>
    cases (show u = Value.ref a from rx)
    obtain ⟨_, _, _, n, _, h1⟩ := (show ObjOk X.prog X.w H s.heap a (.frz ob (.lst xs)) from I.hok a _ ea)
    exact PySem.W.kia_one PySem.W.kitx_list I.kIn ⟨_, h1, rfl⟩ e (fun z => nomatch z) h
  | @tup a xs ea =>
    cases (show u = Value.ref a from rx)
    obtain ⟨_, _, _, p⟩ := (show ObjOk X.prog X.w H s.heap a (.tup xs) from I.hok a _ ea)
    obtain ⟨o, h1, h2, _⟩ := p
    exact PySem.W.kia_one PySem.W.kitx_tuple I.kIn ⟨o, h1, h2⟩ e (fun z => nomatch z) h
  | @dK a kvs ea =>
    cases (show u = Value.ref a from rx)
    obtain ⟨_, _, vs, _, p⟩ := (show ObjOk X.prog X.w H s.heap a (.dK kvs) from I.hok a _ ea)
    obtain ⟨o, es, ep, h1, h2, _⟩ := p
    exact PySem.W.kia_one PySem.W.kitx_dict I.kIn ⟨o, h1, h2.1⟩ e (fun z => nomatch z) h
  | @dT a kvs ea =>
    cases (show u = Value.ref a from rx)
    obtain ⟨_, _, xs, _, o, es, ep, h1, h2, _⟩ := (show ObjOk X.prog X.w H s.heap a (.dT kvs) from I.hok a _ ea)
    exact PySem.W.kia_one PySem.W.kitx_dict I.kIn ⟨o, h1, h2.1⟩ e (fun z => nomatch z) h
  | @ins a C dx fs ea cl ha hn htk hm =>
    cases (show u = Value.ref a from rx)
    obtain ⟨mA, O, _⟩ := ins_get I.hok ea
    obtain ⟨od, J, _⟩ := O.look
    exact PySem.W.kia_one (PySem.W.kitx_own (cl.get _) cl.hd ha hn htk hm) I.kIn J e (fun z => nomatch z) h
end
end L2

namespace L2
open PySem PySem.Spec PyProof.Rows

/-! ### room -/
structure Room (k : Nat) (A : Around) : Prop where
  hd : A.handled = none
  dp : A.depth + 3 * k + 5 < recursionLimit
  un : A.units + 16 * k + 200 < cLine
theorem Room.mono {j k : Nat} {A : Around} (r : Room k A) (h : j ≤ k) : Room j A := ⟨r.hd, by have := r.dp; omega, by have := r.un; omega⟩
theorem Room.deeper {k : Nat} {A : Around} (r : Room (k + 1) A) (env : Env) : Room k (A.deeper env) :=
  ⟨r.hd, by have := r.dp; show A.depth + 1 + 3 * k + 5 < _; omega, by have := r.un; show A.units + 3 + 16 * k + 200 < _; omega⟩
theorem Room.in1 {k : Nat} {A : Around} (r : Room (k + 1) A) : Room k A.in1 :=
  ⟨r.hd, by have := r.dp; show A.depth + 3 * k + 5 < _; omega, by have := r.un; show A.units + 1 + 16 * k + 200 < _; omega⟩
theorem Room.depth {k : Nat} {A : Around} (r : Room k A) : A.depth < recursionLimit := by have := r.dp; omega
theorem Room.units {k : Nat} {A : Around} (r : Room k A) : A.units + 64 < cLine := by have := r.un; omega
/-! ### argument lists and displays -/
def tNil : TA := fun _ H Q => Q [] H
def tCons (ta : TE) (tr : TA) : TA := fun σ H Q => ta σ H fun x H1 => tr σ H1 fun xs H2 => Q (x :: xs) H2
section
variable {X : Cx} {e : Expr} {es : List Expr} {te : TE} {t : TA} {pos : Pos}
theorem pa_nil : PA X [] tNil := fun _ _ _ _ H Q I h => Calls.spliced_nil ⟨[], H, I, .nil, h⟩
theorem pa_cons (ha : PE X e te) (hr : PA X es t) (hs : starEach (e :: es) X.env = (false, eval e X.env) :: starEach es X.env := by rfl) : PA X (e :: es) (tCons te t) := by
  intro pos pins s σ H Q I h
  rw [hs]
  show wpAny _ _ (spliced ((false, eval e X.env) :: backTo pos (starEach es X.env))) _ _ s
  refine Calls.spliced_cons (thn (ha pins s σ H _ I h) fun u s1 ⟨x, H1, I1, r1, q1⟩ => ?_)
  exact thn (hr pos pins s1 σ H1 _ I1 q1) fun us s2 ⟨xs, H2, I2, r2, q2⟩ => ⟨x :: xs, H2, I2, .cons r1 r2, q2⟩

/-- a tuple, a list of written items -/
def tTup (t : TA) : TE := fun σ H Q => t σ H fun xs H1 => xs.length ≤ sizeLine ∧ ∀ p, H1 p = none → Q (.ref p) (upd H1 p (.tup xs))
def tLst (t : TA) : TE := fun σ H Q => t σ H fun xs H1 => xs.length ≤ sizeLine ∧ ∀ p, H1 p = none → Q (.ref p) (upd H1 p (.lst xs))
theorem pe_tup {x1} (h : PA X es t) : PE X (.Tuple es x1 pos) (tTup t) := by
  intro pins s σ H Q I hq
  refine wpAny_Tuple_spliced (thn (h pos pins s σ H _ I hq) fun us s1 ⟨xs, H1, I1, r, z, q⟩ => ⟨by rw [← r.length]; exact z, ?_⟩)
  have hf : H1 s1.heap.objs.size = none := I1.hok.fresh (Nat.le_refl _)
  refine ⟨.ref s1.heap.objs.size, upd H1 s1.heap.objs.size (.tup xs), I1.laid (t' := s1.toks) (fun b u e => Heap.get?_push_of_some _ e) (Nat.le_refl _) ?_, rfl, q _ hf⟩
  exact ⟨z, us, r, ⟨_, Heap.get?_push_size _ rfl, rfl, _, rfl⟩⟩
theorem pe_lst (h : PA X es t) : PE X (.List es pos) (tLst t) := by
  intro pins s σ H Q I hq
  refine wpAny_List_spliced (thn (h pos pins s σ H _ I hq) fun us s1 ⟨xs, H1, I1, r, z, q⟩ => ⟨by rw [← r.length]; exact z, ?_⟩)
  have hf : H1 s1.heap.objs.size = none := I1.hok.fresh (Nat.le_refl _)
  refine ⟨.ref s1.heap.objs.size, upd H1 s1.heap.objs.size (.lst xs), I1.laid (t' := s1.toks) (fun b u e => Heap.get?_push_of_some _ e) (Nat.le_refl _) ?_, rfl, q _ hf⟩
  exact ⟨z, us, 0, r, Heap.get?_push_size _ rfl⟩
end

/-! ### what a def promises -/
/-- a def's promise: the bound arguments in the parameters' order, the heap, the wanted end, the wanted exception -/
abbrev Sp := List V → Hp → VK → XK → Prop
/-- how an exception lies behind a call (file 08 gives it): the callers' frames, abstract heap and state ahead of the call, the wish, the exception, the state -/
abbrev CXT := List Env → Hp → Shared → XK → Value → Shared → Prop

/-- the state at a call -/
structure Env0 (P : Program) (w : World) (K : PySem.W.Frag) (mg : Str → Option Value) (base : Heap) (A : Around) (outer : List Env) (s : Shared) (H : Hp) : Prop where
  frames : A.frames = some outer
  mod : Mod K mg base
  bs : ∀ b o, base.get? b = some o → s.heap.get? b = some o ∧ H b = none
  bsz : base.objs.size ≤ s.heap.objs.size
  funs : s.heap.FunFrames base outer
  frf : ∀ b ∈ frs outer, H b = none
  hok : HOk P w H s.heap
  bare : AllBare s.gens
/-- a call's end -/
def CE (outer : List Env) (P : Program) (w : World) (H : Hp) (s : Shared) (Q : VK) (u : Value) (s' : Shared) : Prop :=
  ∃ v H', s'.os = s.os ∧ AllBare s'.gens ∧ Un (frs outer) [] H H' s.heap s'.heap ∧ HOk P w H' s'.heap ∧ RelV v u ∧ Q v H'
def CR (CX : CXT) (outer : List Env) (P : Program) (w : World) (H : Hp) (s : Shared) (Q : VK) (E : XK) (r : Result) (s' : Shared) : Prop :=
  match r with
  | .ok (.ret u) => CE outer P w H s Q u s'
  | .ok _ => False
  | .error e => CX outer H s E e s'
structure FnOk (P : Program) (w : World) (K : PySem.W.Frag) (mg : Str → Option Value) (base : Heap) (CX : CXT) (k : Nat) (f : Addr) (fd : FuncData) (ps : List Str) (sp : Sp) : Prop where
  len : ∀ vs H Q E, sp vs H Q E → vs.length = ps.length
  run : ∀ (A : Around) (outer : List Env) (s : Shared) (H : Hp) (args : Args) (us : List Value) (vs : List V) (Q : VK) (E : XK), Room k A → Env0 P w K mg base A outer s H → BindsTo s fd args (ps.zip us) → Vals vs us → sp vs H Q E →
    codeAny (model P w) A (.call (.ref f) args) (CR CX outer P w H s Q E) s
theorem FnOk.mono {P : Program} {w : World} {K : PySem.W.Frag} {mg : Str → Option Value} {base : Heap} {CX : CXT} {j k : Nat} {f : Addr} {fd : FuncData} {ps : List Str} {sp : Sp} (F : FnOk P w K mg base CX j f fd ps sp) (h : j ≤ k) :
    FnOk P w K mg base CX k f fd ps sp := ⟨F.len, fun A outer s H args us vs Q E hr => F.run A outer s H args us vs Q E (hr.mono h)⟩
/-- a weaker promise -/
theorem FnOk.imp {P : Program} {w : World} {K : PySem.W.Frag} {mg : Str → Option Value} {base : Heap} {CX : CXT} {k : Nat} {f : Addr} {fd : FuncData} {ps : List Str} {sp sp' : Sp} (F : FnOk P w K mg base CX k f fd ps sp)
    (h : ∀ vs H Q E, sp' vs H Q E → sp vs H Q E) : FnOk P w K mg base CX k f fd ps sp' :=
  ⟨fun vs H Q E q => F.len vs H Q E (h _ _ _ _ q), fun A outer s H args us vs Q E hr he hb hv hs => F.run A outer s H args us vs Q E hr he hb hv (h _ _ _ _ hs)⟩

theorem Env0.in1 {P : Program} {w : World} {K : PySem.W.Frag} {mg : Str → Option Value} {base : Heap} {A : Around} {outer : List Env} {s : Shared} {H : Hp} (e : Env0 P w K mg base A outer s H) :
    Env0 P w K mg base A.in1 outer s H := ⟨e.frames, e.mod, e.bs, e.bsz, e.funs, e.frf, e.hok, e.bare⟩

section
variable {X : Cx} {pins : List (Addr × Obj)} {σ : St} {H : Hp} {s s' : Shared}
/-- from a body: what a callee wants -/
theorem Inv.env0 (I : Inv X pins σ H s) : Env0 X.prog X.w X.K X.mg X.base X.A X.stack s H :=
  ⟨I.ok.frames, I.ok.mod, I.bs, Nat.le_trans I.ok.bsz I.sz, I.stack, I.stkFree, I.hok, I.bare⟩
/-- behind a call -/
theorem Inv.after {Q : VK} {u : Value} (I : Inv X pins σ H s) (h : CE X.stack X.prog X.w H s Q u s') : EP X pins σ Q u s' := by
  obtain ⟨v, H', os, bare, un, hok, r, q⟩ := h
  obtain ⟨hh, g, d, t, os'⟩ := s'
  obtain rfl : os' = s.os := os
  exact ⟨v, H', I.call (h' := hh) (g' := g) (d' := d) (t' := t) (ch := []) un hok bare (fun b z => absurd z (by simp)), r, q⟩
end

/-! ### calls -/
/-- f(..): the written arguments, then the defaults dvs; E: what is wanted of an exception -/
def tCall (sp : Sp) (dvs : List V) (E : XK) (t : TA) : TE := fun σ H Q => t σ H fun vs H1 => sp (vs ++ dvs) H1 Q E
/-- how the parameters are bound: us the positional arguments, kw the keywords' values by name, ds the defaults that fill up -/
def Binds (K : PySem.W.Frag) (fd : FuncData) (ps : List Str) (ds : List Value) : Prop :=
  ∀ (s : Shared) (us : List Value), K.In s.heap → (us ++ ds).length = ps.length → BindsTo s fd ⟨us, []⟩ (ps.zip (us ++ ds))
/-- every parameter is given -/
theorem Binds.all {K : PySem.W.Frag} {fd : FuncData} {ps : List Str} (h : ∀ us : List Value, us.length = ps.length → bindArgs fd ⟨us, []⟩ = pure (ps.zip us)) : Binds K fd ps [] := fun s us _ hl => by
  rw [List.append_nil] at hl ⊢
  exact .of_eq (h us hl)

/-- an exception of a callee reaches what this body wants of exceptions -/
def Passes (CX : CXT) (X : Cx) (E : XK) : Prop := ∀ (pins : List (Addr × Obj)) (σ : St) (H : Hp) (s : Shared) (e : Value) (s' : Shared), Inv X pins σ H s → CX X.stack H s E e s' → X.xe e s'

section
variable {X : Cx} {CX : CXT} {k : Nat} {f C : Addr} {fd : FuncData} {ps : List Str} {sp : Sp} {dvs : List V} {ds : List Value} {E : XK} {x m : Str} {p pos apos : Pos} {e o : Expr} {es : List Expr} {ta : TE} {t : TA}

/-- the callee runs -/
theorem run_fn {pins : List (Addr × Obj)} {σ : St} {H : Hp} {s : Shared} {Q : VK} {us : List Value} {vs : List V} (F : FnOk X.prog X.w X.K X.mg X.base CX k f fd ps sp) (hr : Room k X.A) (hb : Binds X.K fd ps ds) (hd : Vals dvs ds) (hx : Passes CX X E)
    (I : Inv X pins σ H s) (r : Vals vs us) (h : sp (vs ++ dvs) H Q E) : wpAny (model X.prog X.w) X.A (call (.ref f) us) (EP X pins σ Q) X.xe s := by
  have r2 : Vals (vs ++ dvs) (us ++ ds) := r.append hd
  have hl : (us ++ ds).length = ps.length := by rw [← r2.length]; exact F.len _ _ _ _ h
  refine wpAny_call (codeAny_mono (F.run X.A X.stack s H ⟨us, []⟩ (us ++ ds) (vs ++ dvs) Q E hr I.env0 (hb s us I.kIn hl) r2 h) fun r s' hq => ?_)
  cases r with
  | error e => exact hx pins σ H s e s' I hq
  | ok fl =>
    cases fl with
    | ret u => exact I.after hq
    | next => exact False.elim hq
    | brk => exact False.elim hq
    | cont => exact False.elim hq

theorem pe_call (F : FnOk X.prog X.w X.K X.mg X.base CX k f fd ps sp) (hr : Room k X.A) (hg : Gl X x) (hm : X.mg x = some (.ref f)) (hk : PySem.W.keepIn X.K (.ref f) = true) (hb : Binds X.K fd ps ds) (hd : Vals dvs ds) (hx : Passes CX X E)
    (ha : PA X (e :: es) t) (hdb : (x == ("__debug__" : Str)) = false := by decide) (he : starEach (e :: es) X.env = (false, eval e X.env) :: starEach es X.env := by rfl) (hpl : (backTo pos (starEach es X.env)).any (·.1) = false := by rfl) :
    PE X (.Call (.Name x p) (e :: es) [] pos) (tCall sp dvs E t) := by
  intro pins s σ H Q I h
  refine wpAny_Call_Name_kw (ld_glob I hg hm ?_ hdb)
  refine PySem.W.callWith_K (h₀ := X.base) I.ok.mod.kin hk (thn (ha pos pins s σ H _ I h) fun us s1 ⟨vs, H1, I1, r, q⟩ => ⟨I1.kIn, ?_⟩) he hpl
  exact run_fn F hr hb hd hx I1 r q
/-- what a class must have to be made -/
structure Mk (K : PySem.W.Frag) (C f : Addr) : Prop where
  makes : PySem.W.makesIn K C = true
  init : PySem.W.findIn K (.ref C) "__init__" = some (some (.ref f))
  fn : PySem.W.isFn K (.ref f) = true
  kp : PySem.W.keepIn K (.ref C) = true

end

/-! ### keywords -/
section
variable {X : Cx} {CX : CXT} {k : Nat} {f C : Addr} {fd : FuncData} {ps ks : List Str} {sp : Sp} {E : XK} {x m : Str} {p pos apos kpos : Pos} {e o : Expr} {es : List Expr} {kws : List Keyword} {te ta : TE} {t tk : TA} {nm : Option Str}
/-- how a call with keywords binds: g puts the positional values us and the keywords' values ws (names ks) in the parameters' order, defaults among them -/
structure KBinds (K : PySem.W.Frag) (fd : FuncData) (ps ks : List Str) (g : List Value → List Value → List Value) (gV : List V → List V → List V) : Prop where
  to : ∀ (s : Shared) (us ws : List Value), K.In s.heap → (g us ws).length = ps.length → BindsTo s fd ⟨us, ks.zip ws⟩ (ps.zip (g us ws))
  rel : ∀ {vs : List V} {us : List Value} {zs : List V} {ws : List Value}, Vals vs us → Vals zs ws → Vals (gV vs zs) (g us ws)
variable {g : List Value → List Value → List Value} {gV : List V → List V → List V}
end

/-! ### a def's body keeps its promise -/
/-- names: the parameters first -/
structure FnScope (N P : List Str) (sc : Scope) : Prop where
  kind : sc.kind = .function
  co : sc.isCoroutine = false
  gen : sc.isGenerator = false
  nd : N.Nodup
  pre : N.take P.length = P
  par : ∀ x ∈ P, sc.names.lookup x = some .local ∨ sc.names.lookup x = some .cell
  nofree : ∀ y ∈ sc.names, y.2 ≠ .free

theorem bindL_out {kindOf : Str → Option NameKind} {x : Str} : ∀ {binds : List (Str × Value)} {m : Str → Option Value}, (∀ v, (x, v) ∉ binds) → bindL kindOf binds m x = m x
  | [], _, _ => rfl
  | (n, v) :: r, m, h => by
    unfold bindL
    rw [bindL_out fun w hw => h w (List.mem_cons_of_mem _ hw)]
    split
    · have : x ≠ n := by rintro rfl; exact h v List.mem_cons_self
      simp [this]
    · rfl
theorem bindC_out {kindOf : Str → Option NameKind} {x : Str} : ∀ {binds : List (Str × Value)} {m : Str → Option Value}, (∀ v, (x, v) ∉ binds) → bindC kindOf binds m x = m x
  | [], _, _ => rfl
  | (n, v) :: r, m, h => by
    unfold bindC
    rw [bindC_out fun w hw => h w (List.mem_cons_of_mem _ hw)]
    split
    · rfl
    · have : x ≠ n := by rintro rfl; exact h v List.mem_cons_self
      simp [this]
theorem bindL_get {kindOf : Str → Option NameKind} {x : Str} {v : Value} : ∀ {P : List Str} {vs : List Value} {i : Nat} {m : Str → Option Value}, P.Nodup → P[i]? = some x → vs[i]? = some v → kindOf x = some .local →
    bindL kindOf (P.zip vs) m x = some v
  | [], _, _, _, _, h, _, _ => by simp at h
  | _ :: _, [], _, _, _, _, h, _ => by simp at h
  | p :: P, w :: vs, 0, m, nd, h1, h2, hk => by
    simp at h1 h2; subst h1; subst h2
    show bindL kindOf ((p, w) :: P.zip vs) m p = _
    unfold bindL
    rw [bindL_out fun v hv => (List.nodup_cons.mp nd).1 (List.of_mem_zip hv).1, if_pos hk]
    simp
  | p :: P, w :: vs, i + 1, m, nd, h1, h2, hk => by
    show bindL kindOf ((p, w) :: P.zip vs) m x = _
    unfold bindL
    exact bindL_get (i := i) (List.nodup_cons.mp nd).2 (by simpa using h1) (by simpa using h2) hk
theorem bindC_get {kindOf : Str → Option NameKind} {x : Str} {v : Value} : ∀ {P : List Str} {vs : List Value} {i : Nat} {m : Str → Option Value}, P.Nodup → P[i]? = some x → vs[i]? = some v → kindOf x ≠ some .local →
    bindC kindOf (P.zip vs) m x = some v
  | [], _, _, _, _, h, _, _ => by simp at h
  | _ :: _, [], _, _, _, _, h, _ => by simp at h
  | p :: P, w :: vs, 0, m, nd, h1, h2, hk => by
    simp at h1 h2; subst h1; subst h2
    show bindC kindOf ((p, w) :: P.zip vs) m p = _
    unfold bindC
    rw [bindC_out fun v hv => (List.nodup_cons.mp nd).1 (List.of_mem_zip hv).1, if_neg hk]
    simp
  | p :: P, w :: vs, i + 1, m, nd, h1, h2, hk => by
    show bindC kindOf ((p, w) :: P.zip vs) m x = _
    unfold bindC
    exact bindC_get (i := i) (List.nodup_cons.mp nd).2 (by simpa using h1) (by simpa using h2) hk

/-- the names' values at the entry -/
def start (N : List Str) (vs : List V) : St := vs.map some ++ List.replicate (N.length - vs.length) none

/-- the context of a def's body, at its entry; an exception leaves the frame, then lies as CX says -/
def cxOf (CX : CXT) (P : Program) (w : World) (K : PySem.W.Frag) (mg : Str → Option Value) (base : Heap) (N : List Str) (qual : Str) (scope : Scope) (f : Addr) (cd : Value) (A : Around) (outer : List Env) (s : Shared) (H : Hp) (E : XK) : Cx where
  prog := P
  w := w
  K := K
  mg := mg
  base := base
  A := A.deeper (envOfC qual scope s.heap.objs.size f cd)
  N := N
  s₀ := s
  H₀ := H
  env := envOfC qual scope s.heap.objs.size f cd
  outer := outer
  stack := envOfC qual scope s.heap.objs.size f cd :: outer
  ex := []
  calm := true
  fn := fun _ => true
  pn := []
  xe := fun e s' => wpAny (model P w) (A.deeper (envOfC qual scope s.heap.objs.size f cd)) (leaving (envOfC qual scope s.heap.objs.size f cd) e) (fun _ s'' => CX outer H s E e s'') (fun e' s'' => CX outer H s E e' s'') s'

theorem cell_has {sc : Scope} {n : Nat} {x : Str} (h : sc.names.lookup x = some .cell) : ∃ c, (cellsFrom n sc.names []).lookup x = some c := by
  have q := PySem.W.cellsFrom_some sc.names n [] (.inl h)
  exact Option.isSome_iff_exists.mp q

theorem inv_start {CX : CXT} {P : Program} {w : World} {K : PySem.W.Frag} {mg : Str → Option Value} {base : Heap} {N ps : List Str} {qual : Str} {scope : Scope} {f : Addr} {cd : Value} {A : Around} {outer : List Env} {s s1 : Shared} {H : Hp} {E : XK} {us : List Value} {vs : List V}
    (S : FnScope N ps scope) (hd : A.handled = none) (e0 : Env0 P w K mg base A outer s H) (hl : vs.length = ps.length) (r : Vals vs us)
    (x : InCallC s s.heap.objs.size (bindL (envOfC qual scope s.heap.objs.size f cd).kindOf (ps.zip us) fun _ => none) (cellsFrom (s.heap.objs.size + 1) scope.names []) (bindC (envOfC qual scope s.heap.objs.size f cd).kindOf (ps.zip us) fun _ => none) s1) :
    Inv (cxOf CX P w K mg base N qual scope f cd A outer s H E) [] (start N vs) H s1 := by
  have hpl : ps.length ≤ N.length := by have := congrArg List.length S.pre; rw [List.length_take] at this; omega
  obtain ⟨h1, tk, rfl, hk⟩ := x.done
  have noA : ∀ b : Addr, b ∉ (cxOf CX P w K mg base N qual scope f cd A outer s H E).ex := fun b z => absurd (show b ∈ ([] : List Addr) from z) (by simp)
  refine ⟨⟨e0.mod, S.kind, rfl, rfl, Nat.le_refl _, fun y z c h1 h2 => ?_, fun y hy => ?_, fun y c _ h => ?_, fun _ => hd, Around.frames_deeper e0.frames, .inr ⟨rfl, rfl⟩, fun b z => absurd z (noA b), e0.bs, e0.bsz, fun b _ _ => noA b, fun b z => absurd z (noA b), e0.funs, e0.frf⟩,
    rfl, e0.bare, Un.kept hk, ⟨_, x.toInCall.ns, fun i y v h1 h2 h3 => ?_⟩, fun y c h => ⟨_, x.cell y c h⟩, e0.hok.fresh (Nat.le_refl _), fun y c h => ?_, fun p hp => absurd (show p ∈ ([] : List (Addr × Obj)) from hp) (by simp), e0.hok.kept hk, ?_⟩
  · exact name_of_addr x.apart (PySem.mem_of_lookup h1) (PySem.mem_of_lookup h2)
  · have hy : scope.names.lookup y = some .cell ∨ scope.names.lookup y = some .free := hy
    rcases hy with hy | hy
    · exact cell_has hy
    · exact absurd rfl (S.nofree _ (PySem.mem_of_lookup hy))
  · exact Nat.le_of_lt (x.above y c (PySem.mem_of_lookup h))
  · have hi : i < vs.length := by
      unfold start at h2
      by_cases hi : i < vs.length
      · exact hi
      · rw [List.getElem?_append_right (by simpa using hi)] at h2
        rw [List.getElem?_replicate] at h2
        split at h2 <;> cases h2
    have ha : vs[i]? = some v := by
      unfold start at h2
      rw [List.getElem?_append_left (by simpa using hi), List.getElem?_map] at h2
      cases e : vs[i]? with
      | none => rw [e] at h2; cases h2
      | some a => rw [e] at h2; cases h2; rfl
    obtain ⟨u, hu, rv⟩ := r.get ha
    have hp : ps[i]? = some y := by
      rw [← S.pre, List.getElem?_take_of_lt (by omega)]; exact h1
    have ndP : ps.Nodup := by rw [← S.pre]; exact S.nd.sublist (List.take_sublist _ _)
    refine ⟨u, rv, ?_⟩
    rcases S.par y (List.mem_of_getElem? hp) with k | k
    · exact .inl ⟨k, bindL_get ndP hp hu k⟩
    · obtain ⟨c, e⟩ := cell_has (n := s.heap.objs.size + 1) k
      refine .inr ⟨.inl k, c, e, ?_⟩
      have q := x.cell y c e
      rw [bindC_get ndP hp hu (by show scope.names.lookup y ≠ _; rw [k]; decide)] at q
      exact q
  · exact e0.hok.fresh (Nat.le_of_lt (x.above y c (PySem.mem_of_lookup h)))
  · unfold start
    show _ = N.length
    rw [List.length_append, List.length_map, List.length_replicate]
    omega

/-- THE RULE: a def (or a method) of the text, by its body. The body's reading t is chosen for each entry; it is run at the parameters' values -/
theorem fn_of {CX : CXT} {P : Program} {w : World} {K : PySem.W.Frag} {mg : Str → Option Value} {base : Heap} {k : Nat} {f : Addr} {name qual : Str} {params : Arguments} {body : List Stmt} {scope : Scope} {dV kV doc pm cdv ct oc : Value} {an od : Option Addr}
    {osl : Array (Option Value)} {N ps : List Str} {sp : Sp} (lk : K.lookup f = some ⟨oc, od, .func (PySem.W.fnOf name qual params body scope dV kV doc pm an cdv ct), osl⟩) (hcd : PySem.W.codeIn K cdv qual = true) (S : FnScope N ps scope)
    (len : ∀ vs H Q E, sp vs H Q E → vs.length = ps.length)
    (hbody : ∀ (A : Around) (outer : List Env) (s : Shared) (H : Hp) (vs : List V) (Q : VK) (E : XK), Room k (A.deeper (envOfC qual scope s.heap.objs.size f cdv)) → sp vs H Q E →
      ∃ t, PSs (cxOf CX P w K mg base N qual scope f cdv A outer s H E) body t ∧ t { nx := fun _ H' => Q .non H', rt := Q } (start N vs) H) :
    FnOk P w K mg base CX (k + 1) f (PySem.W.fnOf name qual params body scope dV kV doc pm an cdv ct) ps sp := by
  refine ⟨len, fun A outer s H args us vs Q E hr e0 hb r hsp => ?_⟩
  have hl := len _ _ _ _ hsp
  have KX : K.In s.heap := e0.mod.kin.keeps fun b o e => (e0.bs b o e).1
  have lim : s.heap.NoLimit := e0.mod.nolimit.keeps fun b o e => (e0.bs b o e).1
  have hkind : ∀ y ∈ ps.zip us, scope.names.lookup y.1 = some .local ∨ (scope.names.lookup y.1 = some .cell ∧ ((cellsFrom (s.heap.objs.size + 1) scope.names []).lookup y.1).isSome = true) := fun ⟨n, v⟩ hy => by
    rcases S.par n (List.of_mem_zip hy).1 with q | q
    · exact .inl q
    · exact .inr ⟨q, PySem.W.cellsFrom_some _ _ _ (.inl q)⟩
  refine codeAny_call_function hr.depth (KX _ _ lk) rfl S.co S.gen rfl (PySem.W.codeRec_of KX hcd) (hb _ _ _ _ ?_)
  refine wpAny_newFunctionEnv_cells S.kind hkind fun env he s1 x => ?_
  subst he
  refine ⟨lim.keeps x.toInCall.keep, codeAny_func ?_⟩
  obtain ⟨t, ht, hq⟩ := hbody A outer s H vs Q E (hr.deeper _) hsp
  have I : Inv (cxOf CX P w K mg base N qual scope f cdv A outer s H E) [] (start N vs) H s1 := inv_start S hr.hd e0 hl r x
  refine wpAny_mono (ht [] s1 (start N vs) H _ I hq) (fun fl s' hs => ?_) fun e s' hs => hs
  have fin : ∀ {σ' : St} {H' : Hp} {v : V} {u : Value}, Inv (cxOf CX P w K mg base N qual scope f cdv A outer s H E) [] σ' H' s' → RelV v u → Q v H' → CE outer P w H s Q u s' :=
    fun {σ' H' v u} J rv q => ⟨v, H', J.os, J.bare, J.base, J.hok, rv, q⟩
  cases fl with
  | ret u =>
    obtain ⟨v, σ', H', J, rv, q⟩ := hs
    exact fin J rv q
  | next =>
    obtain ⟨σ', H', J, q⟩ := hs
    exact fin (v := V.non) (u := Value.none) J rfl q
  | brk =>
    obtain ⟨_, _, _, q⟩ := hs
    exact False.elim q
  | cont =>
    obtain ⟨_, _, _, q⟩ := hs
    exact False.elim q
end L2

namespace L2
open PySem PySem.Spec PyProof.Rows
section
variable {X : Cx} {x : Str} {p pos : Pos} {e : Expr} {es : List Expr} {t : TA} {id T : String} {r : List V → Hp → VK → Prop}

def tCB (r : List V → Hp → VK → Prop) (t : TA) : TE := fun σ H Q => t σ H fun vs H1 => r vs H1 Q
/-- f(e, ..), f a built-in function -/
theorem pe_callB (hc : CallR X (.builtin id) r) (hg : Gl X x) (hm : X.mg x = none) (hv : bootBuiltins x = some (.builtin id)) (ha : PA X (e :: es) t) (hn : x ≠ "__name__" := by decide) (hdb : (x == ("__debug__" : Str)) = false := by decide)
    (he : starEach (e :: es) X.env = (false, eval e X.env) :: starEach es X.env := by rfl) (hpl : (backTo pos (starEach es X.env)).any (·.1) = false := by rfl) : PE X (.Call (.Name x p) (e :: es) [] pos) (tCB r t) := by
  intro pins s σ H Q I h
  refine wpAny_Call_Name_kw (ld_blt I hg hm hv ?_ hn hdb)
  exact PyProof.Rows.callWith_builtin1 (thn (ha pos pins s σ H _ I h) fun us s1 ⟨vs, H1, I1, r1, q1⟩ => hc pins s1 σ H1 vs us Q I1 r1 q1) he hpl
/-- T(e, ..), T a built-in type -/
theorem pe_callTy (hc : CallR X (.type T) r) (hg : Gl X x) (hm : X.mg x = none) (hv : bootBuiltins x = some (.type T)) (ha : PA X (e :: es) t) (hn : x ≠ "__name__" := by decide) (hdb : (x == ("__debug__" : Str)) = false := by decide)
    (he : starEach (e :: es) X.env = (false, eval e X.env) :: starEach es X.env := by rfl) (hpl : (backTo pos (starEach es X.env)).any (·.1) = false := by rfl) : PE X (.Call (.Name x p) (e :: es) [] pos) (tCB r t) := by
  intro pins s σ H Q I h
  refine wpAny_Call_Name_kw (ld_blt I hg hm hv ?_ hn hdb)
  exact PyProof.Rows.callWith_type1 (thn (ha pos pins s σ H _ I h) fun us s1 ⟨vs, H1, I1, r1, q1⟩ => hc pins s1 σ H1 vs us Q I1 r1 q1) he hpl
end
end L2

namespace HT
open PySem PyProof.Rows

section
open PySem.SeqAt
open PySem.AutoSeq1 (wpAny_loadPart')
open PySem.MeetsSeq PySem.MeetsSeq2 PySem.MeetsSeq3

end

section
variable {prog : Program} {w : World} {A : Around} {E : Value → Shared → Prop} {s : Shared}

/-- t + u, t not empty -/
theorem cat_tup {t b : Addr} {vs ws : List Value} {Q : Value → Shared → Prop} (ht : IsTup s.heap t vs.toArray) (hb : IsTup s.heap b ws.toArray) (hv : vs ≠ [])
    (h1 : ws = [] → Q (.ref t) s) (h2 : ws ≠ [] → Q (.ref s.heap.objs.size) { s with heap := s.heap.push { cls := .type "tuple", data := .seq (vs ++ ws).toArray } })
    (hsz : vs.length + ws.length ≤ sizeLine) : wpAny (model prog w) A (binaryOp .Add (.ref t) (.ref b)) Q E s := by
  obtain ⟨⟨cls, dd, data, sl⟩, ho, hc, n, hd⟩ := id ht
  obtain ⟨⟨cls2, dd2, data2, sl2⟩, ho2, hc2, n2, hd2⟩ := id hb
  simp only at hc hd hc2 hd2
  subst hc hd hc2 hd2
  have e : vs.toArray ++ ws.toArray = (vs ++ ws).toArray := by simp
  by_cases hw : ws = []
  · exact concat_meets ⟨_, ho, rfl⟩ ⟨_, ho2, rfl⟩ noFill_tuple_add seq_tuple_add PySem.F.slot_tuple_add PySem.F.entry_tuple_add (PySem.F.args_tuple_add_2 _ _)
      (tuple_addW1 t b vs.toArray ws.toArray n n2 dd dd2 sl sl2 (by simpa using hv) (by simp [hw])) ⟨ho, ho2, h1 hw⟩
  · refine concat_meets ⟨_, ho, rfl⟩ ⟨_, ho2, rfl⟩ noFill_tuple_add seq_tuple_add PySem.F.slot_tuple_add PySem.F.entry_tuple_add (PySem.F.args_tuple_add_2 _ _)
      (tuple_addW2 t b vs.toArray ws.toArray n n2 dd dd2 sl sl2 (by simpa using hv) (by simpa using hw) (by rw [List.size_toArray, List.size_toArray]; exact hsz)) ⟨ho, ho2, ?_⟩
    rw [e]
    exact h2 hw

/-! ### t[a:b], not the whole -/
/-- a slice's bound as a place among n (d where it is left out) -/
def sIx (n d : Nat) : Option Int → Nat
  | none => d
  | some v => if v < 0 then (v + (n : Int)).toNat else min v.toNat n
theorem sIx_none (n d : Nat) : sIx n d none = d := rfl
theorem sIx_nat (n d k : Nat) : sIx n d (some (k : Int)) = min k n := by
  show (if (k : Int) < 0 then ((k : Int) + (n : Int)).toNat else min (k : Int).toNat n) = min k n
  rw [if_neg (by omega), Int.toNat_natCast]
theorem sIx_le (n d : Nat) (hd : d ≤ n) (o : Option Int) : sIx n d o ≤ n := by
  cases o with
  | none => exact hd
  | some v =>
    show (if v < 0 then (v + (n : Int)).toNat else min v.toNat n) ≤ n
    by_cases hv : v < 0
    · rw [if_pos hv]; omega
    · rw [if_neg hv]; exact Nat.min_le_right _ _
theorem clip_eq (v : Int) (n d : Nat) : (if v < 0 then max (v + (n : Int)) 0 else min v (n : Int)) = ((sIx n d (some v) : Nat) : Int) := by
  show (if v < 0 then max (v + (n : Int)) 0 else min v (n : Int)) = (((if v < 0 then (v + (n : Int)).toNat else min v.toNat n) : Nat) : Int)
  by_cases hv : v < 0
  · simp only [if_pos hv]; omega
  · simp only [if_neg hv]; omega
theorem adjust_gen (lo hi : Option Int) (n : Nat) : Builtin.Slice.sliceAdjust lo hi 1 (n : Int) = (((sIx n 0 lo : Nat) : Int), ((sIx n n hi : Nat) : Int)) := by
  have h1 : ¬ ((1 : Int) < 0) := by omega
  unfold Builtin.Slice.sliceAdjust
  simp only [h1, if_false]
  refine Prod.ext ?_ ?_
  · cases lo with
    | none => rfl
    | some v => exact clip_eq v n 0
  · cases hi with
    | none => rfl
    | some v => exact clip_eq v n n
theorem places_gen (i j : Nat) : Builtin.Slice.slicePlaces (i : Int) (j : Int) 1 = j - i := by
  unfold Builtin.Slice.slicePlaces
  have h1 : (1 : Int) > 0 := by omega
  simp only [h1, if_true, Int.ediv_one]
  split <;> omega
theorem slicePart_ {v : Value} {o : Option Int} {Q : Option Int → Shared → Prop} (p : IsPart v o) (h : Q o s) : wpAny (model prog w) A (Builtin.Slice.slicePartIndex v) Q E s := by
  cases p with
  | none => exact slicePart_none h
  | int i t => exact slicePart_int h
theorem sliceApplied_gen {sl : Addr} {vl vu : Value} {lo hi : Option Int} {n : Nat} {Q : Int × Int × Nat → Shared → Prop} (hs : s.heap.IsSliceOf sl vl vu .none) (pl : IsPart vl lo) (pu : IsPart vu hi)
    (h : Q (((sIx n 0 lo : Nat) : Int), 1, sIx n n hi - sIx n 0 lo) s) : wpAny (model prog w) A (Builtin.Slice.sliceApplied (.ref sl) (pure (n : Int))) Q E s := by
  obtain ⟨os, hos, hcs, hds⟩ := id hs
  unfold Builtin.Slice.sliceApplied Builtin.Slice.sliceFields
  refine wpAny_bind (wpAny_bind (wpAny_field hos hds (x := vl) rfl (wpAny_bind (wpAny_field hos hds (x := vu) rfl (wpAny_bind (wpAny_field hos hds (x := .none) rfl (wpAny_pure ?_)))))))
  refine wpAny_bind (slicePart_none ?_)
  show wpAny _ _ (if ((1 : Int) == 0) = true then _ else _) _ _ s
  rw [if_neg (by decide)]
  refine wpAny_bind (slicePart_ pl (wpAny_bind (slicePart_ pu (wpAny_bind (wpAny_pure ?_)))))
  show wpAny _ _ (match Builtin.Slice.sliceAdjust lo hi 1 (n : Int) with | (lo, hi) => pure (lo, (1 : Int), Builtin.Slice.slicePlaces lo hi 1)) _ _ s
  rw [adjust_gen lo hi n]
  show wpAny _ _ (pure (((sIx n 0 lo : Nat) : Int), (1 : Int), Builtin.Slice.slicePlaces ((sIx n 0 lo : Nat) : Int) ((sIx n n hi : Nat) : Int) 1)) _ _ s
  rw [places_gen]
  exact wpAny_pure h
theorem pick_gen (xs : Array Value) (i k : Nat) : ((List.range k).filterMap fun (m : Nat) => xs[((i : Int) + (m : Int) * 1).toNat]?).toArray = ((xs.toList.drop i).take k).toArray := by
  have e : (fun (m : Nat) => xs[((i : Int) + (m : Int) * 1).toNat]?) = fun m => xs[i + m]? := by
    funext m
    have : ((i : Int) + (m : Int) * 1).toNat = i + m := by omega
    rw [this]
  rw [e]
  have := pick_run xs i k
  rw [List.filterMap_map] at this
  have e2 : ((fun x => xs[x]?) ∘ fun x => i + x) = fun m => xs[i + m]? := rfl
  rw [e2] at this
  rw [this]

theorem getItem_tuple_cut {t sl : Addr} {items : Array Value} {vl vu : Value} {lo hi : Option Int} {Q : Value → Shared → Prop} (ht : IsTup s.heap t items) (hs : s.heap.IsSliceOf sl vl vu .none) (pl : IsPart vl lo) (pu : IsPart vu hi)
    (hw : ¬ (sIx items.size 0 lo = 0 ∧ sIx items.size items.size hi = items.size))
    (h : Q (.ref s.heap.objs.size) { s with heap := s.heap.push { cls := .type "tuple", data := .seq ((items.toList.drop (sIx items.size 0 lo)).take (sIx items.size items.size hi - sIx items.size 0 lo)).toArray } })
    (hsz : items.size ≤ sizeLine) : wpAny (model prog w) A (getItem (.ref t) (.ref sl)) Q E s := by
  have htake : sizeOk (.seq ((items.toList.drop (sIx items.size 0 lo)).take (sIx items.size items.size hi - sIx items.size 0 lo)).toArray) := by
    show ((items.toList.drop (sIx items.size 0 lo)).take (sIx items.size items.size hi - sIx items.size 0 lo)).toArray.size ≤ sizeLine
    rw [List.size_toArray, List.length_take, List.length_drop, Array.length_toList]
    omega
  have hj : sIx items.size items.size hi ≤ items.size := sIx_le _ _ (Nat.le_refl _) hi
  obtain ⟨os, hos, hcs, hds⟩ := id hs
  have hTs : s.TypeIs (.ref sl) "slice" := ⟨os, hos, hcs⟩
  unfold getItem
  try with_reducible refine wpAny_holding ?_
  first | refine wpAny_bind (wpAny_pure ?_) | skip
  refine wpAny_bind (wpAny_sequenceKey ht.typeIs (by decide) ?_)
  refine wpAny_bind (wpAny_callSpecial?_slot (name := Str.ofString "__getitem__") ht.typeIs PyProof.Rows.slot_tuple_getitem
    (wpAny_call_entry PyProof.Rows.slot_tuple_getitem ht.typeIs entry_tuple_getitem ?_ (args_tuple_getitem _ _)))
  show wpAny _ _ (Builtin.Tuple.tupleItemsOf (.ref t) >>= _) _ _ s
  refine wpAny_bind (tupleItemsOf_ ht ?_)
  refine wpAny_bind (wpAny_typeOf hTs ?_)
  rw [if_pos (by decide)]
  refine wpAny_bind (sliceApplied_gen hs pl pu ?_)
  have hno : ¬ ((((sIx items.size 0 lo : Nat) : Int) == 0 && (1 : Int) == 1 && (sIx items.size items.size hi - sIx items.size 0 lo) == items.size) = true) := by
    intro q
    rw [Bool.and_eq_true, Bool.and_eq_true] at q
    have q1 : ((sIx items.size 0 lo : Nat) : Int) = 0 := eq_of_beq q.1.1
    have q2 : sIx items.size items.size hi - sIx items.size 0 lo = items.size := eq_of_beq q.2
    exact hw ⟨by omega, by omega⟩
  show wpAny _ _ (if (((sIx items.size 0 lo : Nat) : Int) == 0 && (1 : Int) == 1 && (sIx items.size items.size hi - sIx items.size 0 lo) == items.size) = true then _ else _) _ _ s
  rw [if_neg hno, pick_gen]
  first
    | exact wpAny_bind (m := Builtin.Tuple.tupleExact _) (wpAny_newObj_type (wpAny_pure ⟨_, rfl, wpAny_pure h⟩) htake)
    | exact wpAny_bind (m := Builtin.Tuple.tupleExact _) (wpAny_newObj_type (wpAny_bind (wpAny_pure (wpAny_pure ⟨_, rfl, wpAny_pure h⟩))) htake)
    | exact wpAny_bind (wpAny_bind (m := Builtin.Tuple.tupleExact _) (wpAny_newObj_type (wpAny_pure (wpAny_pure ⟨_, rfl, wpAny_pure h⟩)) htake))
    | exact wpAny_bind (wpAny_bind (m := Builtin.Tuple.tupleExact _) (wpAny_newObj_type (wpAny_pure ⟨_, rfl, wpAny_pure h⟩) htake))
end
end HT

namespace L2
open PySem PySem.Spec PyProof.Rows

/-! ### the parts of a slice -/
abbrev TO := St → Hp → (Option Int → Hp → Prop) → Prop
/-- a slice's part (left out, or an int) -/
def PO (X : Cx) (e : Option Expr) (t : TO) : Prop :=
  ∀ (pins : List (Addr × Obj)) (s : Shared) (σ : St) (H : Hp) (Q : Option Int → Hp → Prop), Inv X pins σ H s → t σ H Q →
    wpAny (model X.prog X.w) X.A (evalPart e X.env) (fun u s' => ∃ o H', Inv X pins σ H' s' ∧ IsPart u o ∧ Q o H') X.xe s
def tNoPart : TO := fun _ H Q => Q none H
def tPart (t : TE) : TO := fun σ H Q => t σ H fun x H1 => ∃ i, x = .int i ∧ Q (some i) H1

section
variable {X : Cx} {e : Expr} {te : TE} {lo hi : Option Expr} {tl th : TO} {pos p2 : Pos}

theorem po_none : PO X none tNoPart := by
  intro pins s σ H Q I h
  rw [evalPart_none]
  exact wpAny_pure ⟨none, H, I, .none, h⟩
theorem po_some (h : PE X e te) : PO X (some e) (tPart te) := by
  intro pins s σ H Q I hw
  rw [evalPart_some]
  refine thn (h pins s σ H _ I hw) fun u s1 ⟨x, H1, I1, r1, q1⟩ => ?_
  obtain ⟨i, rfl, q⟩ := q1
  obtain ⟨t, rfl⟩ := r1
  exact ⟨some i, H1, I1, .int i t, q⟩

/-- what a slice of a value is, by values: the slice object stands at sl -/
def SlR (X : Cx) (r : V → Option Int → Option Int → Hp → VK → Prop) : Prop :=
  ∀ (pins : List (Addr × Obj)) (s : Shared) (σ : St) (H : Hp) (x : V) (v vl vu : Value) (lo hi : Option Int) (sl : Addr) (Q : VK), Inv X pins σ H s → RelV x v → s.heap.IsSliceOf sl vl vu .none → IsPart vl lo → IsPart vu hi → r x lo hi H Q →
    ∃ T id, typeLookup (.type T) "__getitem__" = pure (some (.builtin id)) ∧ s.TypeIs v T ∧ wpAny (model X.prog X.w) X.A (getItem v (.ref sl)) (EP X pins σ Q) X.xe s
theorem SlR.or {r r' : V → Option Int → Option Int → Hp → VK → Prop} (h : SlR X r) (h' : SlR X r') : SlR X (fun x lo hi H Q => r x lo hi H Q ∨ r' x lo hi H Q) := by
  intro pins s σ H x v vl vu lo hi sl Q I rx hs pl pu q
  rcases q with q | q
  · exact h pins s σ H x v vl vu lo hi sl Q I rx hs pl pu q
  · exact h' pins s σ H x v vl vu lo hi sl Q I rx hs pl pu q
def tSl (r : V → Option Int → Option Int → Hp → VK → Prop) (te : TE) (tl th : TO) : TE := fun σ H Q => te σ H fun x H1 => tl σ H1 fun l H2 => th σ H2 fun u H3 => r x l u H3 Q
/-- a[lo:hi], any a -/
theorem pe_slice {r : V → Option Int → Option Int → Hp → VK → Prop} (hr : SlR X r) (he : PE X e te) (hl : PO X lo tl) (hu : PO X hi th) : PE X (.Subscript e (.Slice lo hi none p2) pos) (tSl r te tl th) := by
  intro pins s σ H Q I h
  refine Subscript_ (thn (he pins s σ H _ I h) fun v s1 ⟨x, H1, I1, r1, q1⟩ => ?_)
  refine wpAny_Slice (thn (hl pins s1 σ H1 _ I1 q1) fun vl s2 ⟨l, H2, I2, pl, q2⟩ => thn (hu pins s2 σ H2 _ I2 q2) fun vu s3 ⟨u, H3, I3, pu, q3⟩ => ?_)
  rw [evalPart_none]
  refine wpAny_pure ?_
  have I4 : Inv X pins σ H3 { s3 with heap := s3.heap.push { cls := .type "slice", data := .fields #[vl, vu, .none] } } := I3.kept (t' := s3.toks) fun b ob q => Heap.get?_push_of_some _ q
  obtain ⟨T, id, hT, ht, hg⟩ := hr pins { s3 with heap := s3.heap.push { cls := .type "slice", data := .fields #[vl, vu, .none] } } σ H3 x v vl vu l u s3.heap.objs.size Q I4 r1 (Heap.IsSliceOf.new ..) pl pu q3
  show wpAny (model X.prog X.w) X.A (subscriptTail e (.Slice lo hi none p2) v (.ref s3.heap.objs.size)) (EP X pins σ Q) X.xe { s3 with heap := s3.heap.push { cls := .type "slice", data := .fields #[vl, vu, .none] } }
  exact tail_any (ops := [.ref s3.heap.objs.size, v]) ht hT hg (by with_unfolding_all rfl)

/-- the items of xs[lo:hi] -/
def cutV (xs : List V) (lo hi : Option Int) : List V := (xs.drop (HT.sIx xs.length 0 lo)).take (HT.sIx xs.length xs.length hi - HT.sIx xs.length 0 lo)
theorem cutV_length (xs : List V) (lo hi : Option Int) : (cutV xs lo hi).length ≤ xs.length := by
  unfold cutV
  rw [List.length_take, List.length_drop]
  omega
/-- t[lo:hi], not the whole of it (the whole would be t itself) -/
def rSlT (K : PySem.W.Frag) : V → Option Int → Option Int → Hp → VK → Prop := fun x lo hi H Q => ∃ a xs, x = .ref a ∧ SqT K H a xs ∧
  ¬ (HT.sIx xs.length 0 lo = 0 ∧ HT.sIx xs.length xs.length hi = xs.length) ∧ ∀ p, H p = none → Q (.ref p) (upd H p (.tup (cutV xs lo hi)))
theorem sl_tup : SlR X (rSlT X.K) := by
  intro pins s σ H x v vl vu lo hi sl Q I rx hs pl pu h
  obtain ⟨a, xs, rfl, hx, hw, q⟩ := h
  cases rx
  obtain ⟨its, r, ht, hz⟩ := I.tuple hx
  have hlen : its.toArray.size = xs.length := by rw [List.size_toArray]; exact r.length.symm
  refine ⟨"tuple", _, PyProof.Rows.slot_tuple_getitem.lookup, ht.typeIs, ?_⟩
  refine HT.getItem_tuple_cut ht hs pl pu (by rw [hlen]; exact hw) ?_ (by rw [hlen]; exact hz)
  rw [hlen]
  refine ⟨.ref s.heap.objs.size, _, I.laid (t' := s.toks) (o := .tup (cutV xs lo hi)) (fun b ob q => Heap.get?_push_of_some _ q) (Nat.le_refl _) ?_, rfl, q _ (I.hok.fresh (Nat.le_refl _))⟩
  exact ⟨Nat.le_trans (cutV_length xs lo hi) hz, _, (r.drop (HT.sIx xs.length 0 lo)).take (HT.sIx xs.length xs.length hi - HT.sIx xs.length 0 lo), IsTup.new _ _⟩

/-! ### t < u, t + u -/
/-- t + u, t not empty: u empty gives t itself -/
def rCatT (K : PySem.W.Frag) : R2 := fun x y H Q => ∃ a b xs ys, x = .ref a ∧ y = .ref b ∧ SqT K H a xs ∧ SqT K H b ys ∧ xs ≠ [] ∧ xs.length + ys.length ≤ sizeLine ∧
  (ys = [] → Q (.ref a) H) ∧ (ys ≠ [] → ∀ p, H p = none → Q (.ref p) (upd H p (.tup (xs ++ ys))))
theorem Vals.nil_iff {xs : List V} {us : List Value} (r : Vals xs us) : us = [] ↔ xs = [] := by
  cases r with
  | nil => simp
  | cons _ _ => simp
theorem op_catT : OpR X (binaryOp .Add) (rCatT X.K) := by
  intro pins s σ H x y v u Q I rx ry h
  obtain ⟨a, b, xs, ys, rfl, rfl, ha, hb, hx, hz, q1, q2⟩ := h
  cases rx
  cases ry
  obtain ⟨its, r1, p1, _⟩ := I.tuple ha
  obtain ⟨its2, r2, p2, _⟩ := I.tuple hb
  refine HT.cat_tup p1 p2 (fun z => hx (r1.nil_iff.mp z)) (fun z => ⟨.ref a, H, I, rfl, q1 (r2.nil_iff.mp z)⟩) (fun z => ?_) (by rw [← r1.length, ← r2.length]; exact hz)
  refine ⟨.ref s.heap.objs.size, _, I.laid (t' := s.toks) (o := .tup (xs ++ ys)) (fun b ob q => Heap.get?_push_of_some _ q) (Nat.le_refl _) ?_, rfl, q2 (fun w => z (r2.nil_iff.mpr w)) _ (I.hok.fresh (Nat.le_refl _))⟩
  exact ⟨by rw [List.length_append]; exact hz, _, r1.append r2, IsTup.new _ _⟩
end
end L2

namespace L2
open PySem PySem.Spec PyProof.Rows

/-! ### places -/
/-- the place that an index of any sign means -/
def ixN (n : Nat) (i : Int) : Option Nat := if 0 ≤ i then (if i < n then some i.toNat else none) else if -(n : Int) ≤ i then some (i + n).toNat else none
def atI {α : Type} (xs : List α) (i : Int) : Option α := (ixN xs.length i).bind fun j => xs[j]?
theorem ixN_seq {n : Nat} {i : Int} {j : Nat} (h : ixN n i = some j) : seqIndex? i n = some j ∧ j < n ∧ -(n : Int) ≤ i ∧ i < n := by
  unfold ixN at h
  by_cases h0 : 0 ≤ i
  · rw [if_pos h0] at h
    by_cases h1 : i < n
    · rw [if_pos h1] at h
      have e : i.toNat = j := Option.some.inj h
      exact ⟨by rw [seqIndex_of h0 h1, e], by omega, by omega, h1⟩
    · rw [if_neg h1] at h; cases h
  · rw [if_neg h0] at h
    by_cases h1 : -(n : Int) ≤ i
    · rw [if_pos h1] at h
      have e : (i + n).toNat = j := Option.some.inj h
      exact ⟨by rw [seqIndex_neg (by omega) h1, e], by omega, h1, by omega⟩
    · rw [if_neg h1] at h; cases h
theorem atI_get {α : Type} {xs : List α} {i : Int} {v : α} (h : atI xs i = some v) : ∃ j, seqIndex? i xs.length = some j ∧ xs[j]? = some v ∧ j < xs.length ∧ -(xs.length : Int) ≤ i ∧ i < xs.length := by
  unfold atI at h
  cases e : ixN xs.length i with
  | none => rw [e] at h; cases h
  | some j =>
    rw [e] at h
    obtain ⟨h1, h2, h3, h4⟩ := ixN_seq e
    exact ⟨j, h1, h, h2, h3, h4⟩
theorem atI_nat {α : Type} {xs : List α} {j : Nat} {v : α} (h : xs[j]? = some v) : atI xs (j : Int) = some v := by
  have hj : j < xs.length := (List.getElem?_eq_some_iff.mp h).1
  have e : ixN xs.length (j : Int) = some j := by
    unfold ixN
    rw [if_pos (by omega), if_pos (by omega)]; simp
  unfold atI; rw [e]; exact h
/-! ### what may be subscripted -/
/-- what stands as an index of a plain subscript -/
def PlainIx (b : Expr) : Prop := ∀ o i, subscripted b false o i = operate [o, i] (getItem o i)
/-- a subscript by values -/
def IxR (X : Cx) (r : R2) : Prop :=
  ∀ (value slice : Expr) (pins : List (Addr × Obj)) (s : Shared) (σ : St) (H : Hp) (x y : V) (v u : Value) (Q : VK), Inv X pins σ H s → RelV x v → RelV y u → r x y H Q →
    subscripted slice false v u = operate [v, u] (getItem v u) → wpAny (model X.prog X.w) X.A (subscriptTail value slice v u) (EP X pins σ Q) X.xe s
/-- a call of a builtin's method by values: the receiver, the arguments -/
def MtR (X : Cx) (id : String) (r : V → List V → Hp → VK → Prop) : Prop :=
  ∀ (pins : List (Addr × Obj)) (s : Shared) (σ : St) (H : Hp) (x : V) (xs : List V) (v : Value) (us : List Value) (Q : VK), Inv X pins σ H s → RelV x v → Vals xs us → r x xs H Q →
    wpAny (model X.prog X.w) X.A (call (.builtin id) (v :: us)) (EP X pins σ Q) X.xe s
section
variable {X : Cx} {a b : Expr} {ta tb : TE} {pos : Pos}
theorem IxR.or {r r' : R2} (h : IxR X r) (h' : IxR X r') : IxR X (fun x y H Q => r x y H Q ∨ r' x y H Q) := by
  intro value slice pins s σ H x y v u Q I rx ry q hs
  rcases q with q | q
  · exact h value slice pins s σ H x y v u Q I rx ry q hs
  · exact h' value slice pins s σ H x y v u Q I rx ry q hs
theorem MtR.or {id : String} {r r' : V → List V → Hp → VK → Prop} (h : MtR X id r) (h' : MtR X id r') : MtR X id (fun x xs H Q => r x xs H Q ∨ r' x xs H Q) := by
  intro pins s σ H x xs v us Q I rx rs q
  rcases q with q | q
  · exact h pins s σ H x xs v us Q I rx rs q
  · exact h' pins s σ H x xs v us Q I rx rs q
/-- a[b] -/
theorem pe_ix {r : R2} (hr : IxR X r) (ha : PE X a ta) (hb : PE X b tb) (hs : PlainIx b) : PE X (.Subscript a b pos) (tOp r ta tb) := by
  intro pins s σ H Q I h
  exact Subscript_ (binT ha hb I h fun v u s2 x y H2 I2 rx ry q => hr a b pins s2 σ H2 x y v u Q I2 rx ry q (hs _ _))

def rIxL (K : PySem.W.Frag) : R2 := fun x y H Q => ∃ p xs i v, x = .ref p ∧ y = .int i ∧ SqL K H p xs ∧ atI xs i = some v ∧ Q v H
def rIxT (K : PySem.W.Frag) : R2 := fun x y H Q => ∃ p xs i v, x = .ref p ∧ y = .int i ∧ SqT K H p xs ∧ atI xs i = some v ∧ Q v H
def rIxS : R2 := fun x y H Q => ∃ z i c, x = .str z ∧ y = .int i ∧ z.length ≤ sizeLine ∧ atI z.cps.toList i = some c ∧ Q (.str ⟨#[c]⟩) H
theorem ix_list : IxR X (rIxL X.K) := by
  intro value slice pins s σ H x y v u Q I rx ry h hs
  obtain ⟨p, xs, i, z, rfl, rfl, hq, he, q⟩ := h
  cases rx
  obtain ⟨t, rfl⟩ := ry
  obtain ⟨its, r, pl, hz⟩ := I.list hq
  obtain ⟨j, h1, h2, h3, h4, h5⟩ := atI_get he
  obtain ⟨w, ew, rw'⟩ := r.get h2
  have hl := r.length
  have hn := line63
  have fin : EP X pins σ Q w s := ⟨z, H, I, rw', q⟩
  by_cases h0 : 0 ≤ i
  · have hj : i.toNat = j := by
      rw [seqIndex_of h0 h5] at h1
      exact Option.some.inj h1
    exact item_listR pl.isList h0 (by omega) (by rw [hj]; simpa using ew) fin hs
  · have hj : (i + (its.toArray.size : Int)).toNat = j := by
      rw [seqIndex_neg (by omega) h4] at h1
      rw [List.size_toArray, ← hl]
      exact Option.some.inj h1
    exact subscriptTail_builtinR (x := w) pl.isList.typeIs slot_list_getitem.lookup
      (wpAny_getItem_list_neg (Q := fun r s' => r = w ∧ EP X pins σ Q r s') pl.isList (by omega) (by rw [List.size_toArray] <;> omega) (by omega) (by rw [hj]; simpa using ew) ⟨rfl, fin⟩) hs
theorem ix_tup : IxR X (rIxT X.K) := by
  intro value slice pins s σ H x y v u Q I rx ry h hs
  obtain ⟨p, xs, i, z, rfl, rfl, hq, he, q⟩ := h
  cases rx
  obtain ⟨t, rfl⟩ := ry
  obtain ⟨its, r, pl, hz⟩ := I.tuple hq
  obtain ⟨j, h1, h2, h3, h4, h5⟩ := atI_get he
  obtain ⟨w, ew, rw'⟩ := r.get h2
  have hl := r.length
  have hn := line63
  have fin : EP X pins σ Q w s := ⟨z, H, I, rw', q⟩
  exact subscriptTail_builtinR (x := w) pl.typeIs slot_tuple_getitem.lookup
    (getItem_tuple (j := j) (Q := fun r s' => r = w ∧ EP X pins σ Q r s') pl (by omega) (by omega) (by rw [List.size_toArray, ← hl]; exact h1) (by simpa using ew) ⟨rfl, fin⟩) hs
theorem ix_str : IxR X rIxS := by
  intro value slice pins s σ H x y v u Q I rx ry h hs
  obtain ⟨z, i, c, rfl, rfl, hz, he, q⟩ := h
  obtain ⟨t, rfl⟩ := rx
  obtain ⟨t', rfl⟩ := ry
  obtain ⟨j, h1, h2, h3, h4, h5⟩ := atI_get he
  have hl : z.cps.toList.length = z.length := by simp [Str.length]
  rw [hl] at h1 h4 h5
  have hn := line63
  exact tail_any (typeIs_str s z t) slot_str_getitem.lookup (getItem_str (c := c) (by
    have e1 : decide (i < -(2 ^ 63 : Int)) = false := decide_eq_false (by omega)
    have e2 : decide (i ≥ 2 ^ 63) = false := decide_eq_false (by omega)
    rw [e1, e2, Bool.or_false]) (by rw [h1]; simpa using h2) ⟨.str ⟨#[c]⟩, H, I.tok _, ⟨_, rfl⟩, q⟩) hs
/-! ### xs[i] = v, any sign -/
theorem Inv.lst {pins : List (Addr × Obj)} {σ : St} {H : Hp} {s : Shared} {p : Addr} {xs : List V} (I : Inv X pins σ H s) (h : H p = some (.lst xs)) :
    ∃ (its : List Value) (n : Nat), Vals xs its ∧ s.heap.get? p = some { cls := .type "list", data := .seq its.toArray n } ∧ xs.length ≤ sizeLine := by
  obtain ⟨z, its, n, r, e⟩ := I.hok p _ h
  exact ⟨its, n, r, e, z⟩
/-! ### slices -/
theorem slice_bounds (lo hi : Option Int) (n : Nat) : (sliceBounds lo hi none n).1 = ((HT.sIx n 0 lo : Nat) : Int) ∧ (sliceBounds lo hi none n).2.1 = ((HT.sIx n n hi : Nat) : Int) ∧ (sliceBounds lo hi none n).2.2 = 1 := by
  refine ⟨?_, ?_, rfl⟩
  · cases lo with
    | none => simp [sliceBounds, HT.sIx]
    | some i =>
      simp only [sliceBounds, HT.sIx, Option.getD_none, show (1 : Int) > 0 by decide, if_true]
      by_cases h : i < 0
      · simp only [h, if_true] <;> omega
      · simp only [h, if_false] <;> omega
  · cases hi with
    | none => simp [sliceBounds, HT.sIx]
    | some i =>
      simp only [sliceBounds, HT.sIx, Option.getD_none, show (1 : Int) > 0 by decide, if_true]
      by_cases h : i < 0
      · simp only [h, if_true] <;> omega
      · simp only [h, if_false] <;> omega
theorem slicePick_cut (its : List Value) (lo hi : Option Int) : slicePick its.toArray lo hi none = ((its.drop (HT.sIx its.length 0 lo)).take (HT.sIx its.length its.length hi - HT.sIx its.length 0 lo)).toArray := by
  obtain ⟨h1, h2, h3⟩ := slice_bounds lo hi its.toArray.size
  unfold slicePick
  rw [h1, h2, h3]
  simp only [sliceRange_one, pick_run, List.size_toArray] <;> rfl
/-- xs[lo:hi] of a list: a new list -/
def rSlL (K : PySem.W.Frag) : V → Option Int → Option Int → Hp → VK → Prop := fun x lo hi H Q => ∃ a xs, x = .ref a ∧ SqL K H a xs ∧ ∀ p, H p = none → Q (.ref p) (upd H p (.lst (cutV xs lo hi)))
theorem sl_list : SlR X (rSlL X.K) := by
  intro pins s σ H x v vl vu lo hi sl Q I rx hs pl pu h
  obtain ⟨a, xs, rfl, hx, q⟩ := h
  cases rx
  obtain ⟨its, r, ht, hz⟩ := I.list hx
  have hlen := r.length
  refine ⟨"list", _, slot_list_getitem.lookup, ht.isList.typeIs, ?_⟩
  refine wpAny_getItem_list_slice ht.isList hs pl pu .none (by simp) ?_ (by rw [List.size_toArray] <;> omega)
  rw [slicePick_cut, ← hlen]
  refine ⟨.ref s.heap.objs.size, _, I.laid (t' := s.toks) (o := .lst (cutV xs lo hi)) (fun b ob q => Heap.get?_push_of_some _ q) (Nat.le_refl _) ?_, rfl, q _ (I.hok.fresh (Nat.le_refl _))⟩
  exact ⟨Nat.le_trans (cutV_length xs lo hi) hz, _, 0, (r.drop (HT.sIx xs.length 0 lo)).take (HT.sIx xs.length xs.length hi - HT.sIx xs.length 0 lo), Heap.get?_push_size _ rfl⟩

/-! ### in, not in: flat items -/
def flatV : V → Bool
  | .non => true
  | .bl _ => true
  | .int _ => true
  | .str _ => true
  | _ => false
/-- == of flat values -/
def eqV : V → V → Bool
  | .non, .non => true
  | .bl a, .bl b => a == b
  | .bl a, .int b => (if a then 1 else 0) == b
  | .int a, .bl b => a == (if b then 1 else 0)
  | .int a, .int b => a == b
  | .str a, .str b => a == b
  | _, _ => false
theorem eqAt_V {A : Around} {s : Shared} {y x : V} {u v : Value} (ry : RelV y u) (rx : RelV x v) (fy : flatV y = true) (fx : flatV x = true) : SeqAt.EqAt A s u v (eqV y x) := by
  cases y with
  | non =>
    cases ry
    cases x with
    | non => cases rx; exact SeqAt.EqAt.same _
    | bl b => cases rx; exact SeqAt.EqAt.none_bool b
    | int b => obtain ⟨t, rfl⟩ := rx; exact SeqAt.EqAt.none_int b t
    | str b => obtain ⟨t, rfl⟩ := rx; exact SeqAt.EqAt.none_str b t
    | _ => exact absurd (show false = true from fx) Bool.false_ne_true
  | bl a =>
    cases ry
    cases x with
    | non => cases rx; exact SeqAt.EqAt.bool_none a
    | bl b => cases rx; exact SeqAt.EqAt.bool_bool a b
    | int b => obtain ⟨t, rfl⟩ := rx; exact SeqAt.EqAt.bool_int a b t
    | str b => obtain ⟨t, rfl⟩ := rx; exact SeqAt.EqAt.bool_str a b t
    | _ => exact absurd (show false = true from fx) Bool.false_ne_true
  | int a =>
    obtain ⟨t', rfl⟩ := ry
    cases x with
    | non => cases rx; exact SeqAt.EqAt.int_none a t'
    | bl b => cases rx; exact SeqAt.EqAt.int_bool a t' b
    | int b => obtain ⟨t, rfl⟩ := rx; exact SeqAt.EqAt.int_int a t' b t
    | str b => obtain ⟨t, rfl⟩ := rx; exact SeqAt.EqAt.int_str a t' b t
    | _ => exact absurd (show false = true from fx) Bool.false_ne_true
  | str a =>
    obtain ⟨t', rfl⟩ := ry
    cases x with
    | non => cases rx; exact SeqAt.EqAt.str_none a t'
    | bl b => cases rx; exact SeqAt.EqAt.str_bool a t' b
    | int b => obtain ⟨t, rfl⟩ := rx; exact SeqAt.EqAt.str_int a t' b t
    | str b => obtain ⟨t, rfl⟩ := rx; exact SeqAt.EqAt.str_str a t' b t
    | _ => exact absurd (show false = true from fx) Bool.false_ne_true
  | _ => exact absurd (show false = true from fy) Bool.false_ne_true
/-! ### len, list(x), tuple(x) of any list or tuple that is read -/
theorem call_len_seq : CallR X (.builtin "len") (fun xs H Q => ∃ p ys, xs = [.ref p] ∧ (SqL X.K H p ys ∨ SqT X.K H p ys) ∧ Q (.int ys.length) H) := by
  intro pins s σ H xs us Q I r h
  obtain ⟨p, ys, rfl, hq, q⟩ := h
  obtain ⟨u, rfl, rx⟩ := vals1 r
  cases rx
  have hn := line63
  rcases hq with hq | hq
  · obtain ⟨its, r', pl, hz⟩ := I.list hq
    have hlen := r'.length
    exact Calls.call_len_list pl.isList (by simp only [List.size_toArray] <;> omega) ⟨.int ys.length, H, I.tok _, ⟨s.toks + 1, by rw [List.size_toArray, hlen]⟩, q⟩
  · obtain ⟨its, r', pl, hz⟩ := I.tuple hq
    have hlen := r'.length
    exact len_tuple pl (by simp only [List.size_toArray] <;> omega) ⟨.int ys.length, H, I.tok _, ⟨s.toks + 1, by rw [List.size_toArray, hlen]⟩, q⟩
theorem CallR.or {f : Value} {r r' : List V → Hp → VK → Prop} (h : CallR X f r) (h' : CallR X f r') : CallR X f (fun xs H Q => r xs H Q ∨ r' xs H Q) := by
  intro pins s σ H xs us Q I rs q
  rcases q with q | q
  · exact h pins s σ H xs us Q I rs q
  · exact h' pins s σ H xs us Q I rs q
theorem call_list_of : CallR X (.type "list") (fun xs H Q => ∃ p ys, xs = [.ref p] ∧ (SqL X.K H p ys ∨ SqT X.K H p ys) ∧ ∀ l, H l = none → Q (.ref l) (upd H l (.lst ys))) := by
  intro pins s σ H xs us Q I r h
  obtain ⟨p, ys, rfl, hq, q⟩ := h
  obtain ⟨u, rfl, rx⟩ := vals1 r
  cases rx
  have fin : ∀ (its : List Value), Vals ys its → ys.length ≤ sizeLine → ∀ (h' : Heap) (c' : Nat), (∀ b o', s.heap.get? b = some o' → h'.get? b = some o') →
      h'.get? s.heap.objs.size = some { cls := .type "list", dict := none, data := .seq its.toArray c', slots := #[] } → EP X pins σ Q (.ref s.heap.objs.size) { s with heap := h' } := fun its r' hz h' c' kp e =>
    ⟨.ref s.heap.objs.size, _, I.laid (t' := s.toks) kp (Nat.le_refl _) (show ObjOk X.prog X.w _ h' _ (.lst ys) from ⟨hz, its, c', r', e⟩), rfl, q _ (I.hok.fresh (Nat.le_refl _))⟩
  rcases hq with hq | hq
  · obtain ⟨its, r', pl, hz⟩ := I.list hq
    have hlen := r'.length
    obtain ⟨o, ho, hc, n, hd⟩ := pl.isList
    exact call_list_seq p (.inl rfl) ho hc hd (fun h' c' kp e => fin its r' hz h' c' kp e) (by simp only [List.size_toArray] <;> omega)
  · obtain ⟨its, r', pl, hz⟩ := I.tuple hq
    have hlen := r'.length
    obtain ⟨o, ho, hc, n, hd⟩ := pl
    exact call_list_seq p (.inr rfl) ho hc hd (fun h' c' kp e => fin its r' hz h' c' kp e) (by simp only [List.size_toArray] <;> omega)
theorem call_tuple_of : CallR X (.type "tuple") (fun xs H Q => ∃ p ys, xs = [.ref p] ∧ ((SqL X.K H p ys ∧ ∀ l, H l = none → Q (.ref l) (upd H l (.tup ys))) ∨ (SqT X.K H p ys ∧ Q (.ref p) H))) := by
  intro pins s σ H xs us Q I r h
  obtain ⟨p, ys, rfl, h⟩ := h
  obtain ⟨u, rfl, rx⟩ := vals1 r
  cases rx
  rcases h with ⟨hq, q⟩ | ⟨hq, q⟩
  · obtain ⟨its, r', pl, hz⟩ := I.list hq
    have hlen := r'.length
    refine call_tuple_list pl.isList (fun h' kp => ?_) (by simp only [List.size_toArray] <;> omega)
    have I1 : Inv X pins σ H { s with heap := h' } := I.kept (t' := s.toks) kp
    have I2 : Inv X pins σ (upd H h'.objs.size (.tup ys)) { s with heap := h'.push { cls := .type "tuple", data := .seq its.toArray } } :=
      I1.laid (t' := s.toks) (fun b o e => Heap.get?_push_of_some _ e) (Nat.le_refl _) (show ObjOk X.prog X.w _ _ _ (.tup ys) from ⟨hz, its, r', IsTup.new _ _⟩)
    exact ⟨.ref h'.objs.size, _, I2, rfl, q _ (I1.hok.fresh (Nat.le_refl _))⟩
  · obtain ⟨its, r', pl, hz⟩ := I.tuple hq
    exact call_tuple_same pl ⟨.ref p, H, I, rfl, q⟩

/-! ### the call of a builtin's method: o.m(..) -/
/-- the value is of that builtin type -/
def tyV (K : PySem.W.Frag) (T : String) (x : V) (H : Hp) : Prop := match x with
  | .str _ => T = "str"
  | .int _ => T = "int"
  | .ref p => (T = "list" ∧ ∃ xs, SqL K H p xs) ∨ (T = "tuple" ∧ ∃ o, K.lookup p = some o ∧ o.cls = .type "tuple" ∧ o.dict = none) ∨
      (T = "dict" ∧ ((∃ kvs, H p = some (.dK kvs)) ∨ ∃ kvs, H p = some (.dT kvs))) ∨ (T = "set" ∧ ∃ S n, H p = some (.set S n))
  | _ => False
theorem tyV_is {pins : List (Addr × Obj)} {σ : St} {H : Hp} {s : Shared} {T : String} {x : V} {v : Value} (I : Inv X pins σ H s) (r : RelV x v) (ty : tyV X.K T x H) :
    s.TypeIs v T ∧ ∀ a, v = .ref a → ∃ ob, s.heap.get? a = some ob ∧ ob.dict = none := by
  cases x with
  | str z =>
    obtain ⟨t, rfl⟩ := r
    cases (show T = "str" from ty)
    exact ⟨typeIs_str s z t, fun _ e => nomatch e⟩
  | int i =>
    obtain ⟨t, rfl⟩ := r
    cases (show T = "int" from ty)
    exact ⟨typeIs_int s i t, fun _ e => nomatch e⟩
  | ref p =>
    cases r
    rcases ty with ⟨rfl, xs, hq⟩ | ⟨rfl, o, hk, hc, hd⟩ | ⟨rfl, hk⟩ | ⟨rfl, S, n, hk⟩
    · obtain ⟨its, _, pl, _⟩ := I.list hq
      refine ⟨pl.isList.typeIs, fun a e => ?_⟩
      cases e
      obtain ⟨o, n, e, c, hd, _⟩ := pl
      exact ⟨o, e, hd⟩
    · refine ⟨⟨o, I.kIn p o hk, hc⟩, fun a e => ?_⟩
      cases e
      exact ⟨o, I.kIn _ o hk, hd⟩
    · have z : ∃ o, s.heap.get? p = some o ∧ o.ExactDict := by
        rcases hk with ⟨kvs, hk⟩ | ⟨kvs, hk⟩
        · obtain ⟨_, _, _, _, o, _, _, e, ex, _⟩ := I.hok p _ hk
          exact ⟨o, e, ex⟩
        · obtain ⟨_, _, _, _, o, _, _, e, ex, _⟩ := I.hok p _ hk
          exact ⟨o, e, ex⟩
      obtain ⟨o, e, ex⟩ := z
      refine ⟨⟨o, e, ex.1⟩, fun a e2 => ?_⟩
      cases e2
      exact ⟨o, e, ex.2.1⟩
    · obtain ⟨o, _, _, _, e, ex, _⟩ := I.hok p _ hk
      refine ⟨⟨o, e, ex.1⟩, fun a e2 => ?_⟩
      cases e2
      exact ⟨o, e, ex.2.1⟩
  | _ => exact False.elim ty
def tBM0 (K : PySem.W.Frag) (T : String) (r : V → List V → Hp → VK → Prop) (to : TE) : TE := fun σ H Q => to σ H fun x H1 => tyV K T x H1 ∧ r x [] H1 Q
def tBM (K : PySem.W.Frag) (T : String) (r : V → List V → Hp → VK → Prop) (to : TE) (t : TA) : TE := fun σ H Q => to σ H fun x H1 => tyV K T x H1 ∧ t σ H1 fun xs H2 => r x xs H2 Q
variable {o e : Expr} {es : List Expr} {to : TE} {t : TA} {name : Str} {apos cpos : Pos} {T id : String} {r : V → List V → Hp → VK → Prop}
theorem pe_bm0 (pa : PlainAttrs T) (slot : Slot T name id) (hty : typeOf (.builtin id) = pure (.type "method_descriptor")) (hm : MtR X id r) (ho : PE X o to)
    (hbase : attributeBase o name X.env (eval o X.env) = eval o X.env := by rfl) (hline : (apos.endLine == cpos.line) = true := by rfl) : PE X (.Call (.Attribute o name apos) [] [] cpos) (tBM0 X.K T r to) := by
  intro pins s σ H Q I h
  refine wpAny_Call_method0_late hbase hline (thn (ho pins s σ H _ I h) fun v s1 ⟨x, H1, I1, r1, ty, q1⟩ => ?_)
  obtain ⟨h1, h2⟩ := tyV_is I1 r1 ty
  exact ⟨T, id, pa, slot, hty, h1, h2, Calls.callWith_builtin rfl (PySem.evalArgs_none (hm pins s1 σ H1 x [] v [] Q I1 r1 .nil q1))⟩
theorem pe_bm (pa : PlainAttrs T) (slot : Slot T name id) (hty : typeOf (.builtin id) = pure (.type "method_descriptor")) (hm : MtR X id r) (ho : PE X o to) (ha : PA X (e :: es) t)
    (hbase : attributeBase o name X.env (eval o X.env) = eval o X.env := by rfl)
    (hfew : ((backTo cpos (starEach (e :: es) X.env)).all (fun x => !x.1) && (backToKw cpos (keywordEach [] X.env)).all (fun x => x.1.isSome)
      && decide ((e :: es).length + ([] : List Keyword).length + (if ([] : List Keyword).isEmpty then 0 else 1) < 30)) = true := by rfl)
    (hline : (apos.endLine == cpos.line) = true := by rfl) (hs : starEach (e :: es) X.env = (false, eval e X.env) :: starEach es X.env := by rfl) (hplain : (backTo cpos (starEach es X.env)).any (·.1) = false := by rfl) :
    PE X (.Call (.Attribute o name apos) (e :: es) [] cpos) (tBM X.K T r to t) := by
  intro pins s σ H Q I h
  refine wpAny_Call_method_late hbase hfew hline rfl (thn (ho pins s σ H _ I h) fun v s1 ⟨x, H1, I1, r1, ty, q1⟩ => ?_)
  obtain ⟨h1, h2⟩ := tyV_is I1 r1 ty
  refine ⟨T, id, pa, slot, hty, h1, h2, ?_⟩
  have hA := ha cpos pins s1 σ H1 _ I1 q1
  rw [hs] at hA ⊢
  refine Calls.callWith_builtin (by show (false || (backTo cpos (starEach es X.env)).any (·.1)) = false; rw [hplain] <;> rfl) (Calls.evalArgs_plain ?_)
  exact thn hA fun us s2 ⟨vs, H2, I2, r2, q2⟩ => hm pins s2 σ H2 x vs v us Q I2 r1 r2 q2
/- xs.append(e), list.index on a module's tuple .. are MtR facts of 06m -/
end
end L2

namespace L2
open PySem PySem.Spec PyProof.Rows

def MtM (X : Cx) (id : String) (r : V → List V → Hp → VK → Prop) : Prop :=
  ∀ (pins : List (Addr × Obj)) (s : Shared) (σ : St) (H : Hp) (x : V) (xs : List V) (v : Value) (us : List Value) (Q : VK), Inv X pins σ H s → RelV x v → Vals xs us → r x xs H Q →
    wpAny (model X.prog X.w) X.A (call (.builtin id) (v :: us)) (EP X pins σ Q) X.xe s

/-! ### lists of values -/
theorem Vals.one : ∀ {x : V} {us : List Value}, Vals [x] us → ∃ u, us = [u] ∧ RelV x u
  | _, _, .cons r .nil => ⟨_, rfl, r⟩
theorem Vals.two : ∀ {x y : V} {us : List Value}, Vals [x, y] us → ∃ u v, us = [u, v] ∧ RelV x u ∧ RelV y v
  | _, _, _, .cons r (.cons q .nil) => ⟨_, _, rfl, r, q⟩
theorem Vals.zero : ∀ {us : List Value}, Vals [] us → us = []
  | _, .nil => rfl
theorem Vals.reverse {xs : List V} {us : List Value} (h : Vals xs us) : Vals xs.reverse us.reverse := by
  induction h with
  | nil => exact .nil
  | cons r t ih => rw [List.reverse_cons, List.reverse_cons]; exact Vals.append ih (.cons r .nil)
section
variable {X : Cx} {pins : List (Addr × Obj)} {σ : St} {H : Hp} {s : Shared} {l b : Addr} {xs ys zs : List V}

/-! ### the two steps: a tracked list is rewritten, a new list is laid -/
theorem Inv.lset {its its' : List Value} {n : Nat} {f : Array Value → Array Value} {t' : Nat} (I : Inv X pins σ H s) (hH : H l = some (.lst xs))
    (e : s.heap.get? l = some { cls := .type "list", data := .seq its.toArray n }) (hf : f its.toArray = its'.toArray) (hv : Vals ys its') (hz : ys.length ≤ sizeLine) :
    Inv X pins σ (upd H l (.lst ys)) { s with heap := s.heap.update l (Obj.mapSeq f), toks := t' } := by
  have q := PySem.IsL.update e f
  rw [hf] at q
  refine I.write (x := l) (e := l) (by rw [hH]; exact trivial) (.inl rfl) (fun b' u hb hu => (Heap.get?_update_other s.heap (Obj.mapSeq f) (Ne.symm hb)).trans hu) ⟨_, q⟩ ?_
  exact ⟨hz, its', _, hv, q⟩
theorem Inv.lnew {its : List Value} {t' : Nat} (I : Inv X pins σ H s) (hv : Vals ys its) (hz : ys.length ≤ sizeLine) :
    Inv X pins σ (upd H s.heap.objs.size (.lst ys)) { s with heap := s.heap.push { cls := .type "list", data := .seq its.toArray }, toks := t' } :=
  I.laid (fun _ _ q => Heap.get?_push_of_some _ q) (Nat.le_refl _) ⟨hz, its, 0, hv, Heap.get?_push_size _ rfl⟩
theorem Inv.fresh (I : Inv X pins σ H s) : H s.heap.objs.size = none := I.hok.fresh (Nat.le_refl _)
theorem Inv.lstM (I : Inv X pins σ H s) (hH : H l = some (.lst xs)) : xs.length ≤ sizeLine ∧ ∃ (its : List Value) (n : Nat), Vals xs its ∧ xs.length = its.length ∧ s.heap.get? l = some { cls := .type "list", data := .seq its.toArray n } := by
  obtain ⟨z, its, n, r, e⟩ := I.hok l _ hH
  exact ⟨z, its, n, r, r.length, e⟩

end

section
variable {X : Cx}

/-! ### methods -/
def rAppend : V → List V → Hp → VK → Prop := fun x vs H Q => ∃ l xs y, x = .ref l ∧ vs = [y] ∧ H l = some (.lst xs) ∧ xs.length < sizeLine ∧ Q .non (upd H l (.lst (xs ++ [y])))
theorem mt_append : MtM X "list.append" rAppend := by
  intro pins s σ H x vs v us Q I rx rv h
  obtain ⟨l, xs, y, rfl, rfl, hH, hz, q⟩ := h
  cases rx
  obtain ⟨u, rfl, ru⟩ := rv.one
  obtain ⟨z, its, n, r, hl, e⟩ := I.lstM hH
  refine call_meets F.slot_list_append ⟨_, e, rfl⟩ F.entry_list_append (F.args_list_append_2 _ _) (PySem.list_append l its.toArray n u (by rw [List.size_toArray]; omega)) ⟨e, ?_⟩
  refine ⟨.non, _, I.lset (its' := its ++ [u]) hH e (by simp) (r.append (.cons ru .nil)) ?_, rfl, q⟩
  rw [List.length_append, List.length_singleton]
  omega

def rClear : V → List V → Hp → VK → Prop := fun x vs H Q => ∃ l xs, x = .ref l ∧ vs = [] ∧ H l = some (.lst xs) ∧ Q .non (upd H l (.lst []))
theorem mt_clear : MtM X "list.clear" rClear := by
  intro pins s σ H x vs v us Q I rx rv h
  obtain ⟨l, xs, rfl, rfl, hH, q⟩ := h
  cases rx
  have hus := rv.zero
  subst hus
  obtain ⟨z, its, n, r, hl, e⟩ := I.lstM hH
  refine call_meets F.slot_list_clear ⟨_, e, rfl⟩ F.entry_list_clear (F.args_list_clear_1 _) (AutoSeq1.list_clear_list_0 l its.toArray n (by rw [List.size_toArray]; omega)) ⟨e, ?_⟩
  exact ⟨.non, _, I.lset (its' := []) (ys := []) hH e rfl .nil (Nat.zero_le _), rfl, q⟩

/-! ### list + list, list += list, list * int -/
/-! ### del xs[i] -/
end

/-! ### xs[a:b] = ys -/
section
variable {prog : Program} {w : World} {A : Around} {E : Value → Shared → Prop} {s : Shared}
end

section
variable {X : Cx}
end
end L2

namespace Att
open PySem PySem.W PySem.Calls PyProof.Rows

/-! ### the script -/
theorem ints_of_wellAll {P : Params} {h : Heap} : ∀ (ns : List Int) (vs : List Value), WellAll P h vs (ns.map WData.int) → IntsAre vs ns := by
  intro ns
  induction ns with
  | nil =>
    intro vs w
    rw [List.map_nil] at w
    cases w
    exact .nil
  | cons n ns ih =>
    intro vs w
    rw [List.map_cons] at w
    cases w with
    | cons a b =>
      cases a
      exact .cons _ _ (ih _ b)

theorem script_of {l : OpenLaw} {n : Nat} (hn : l.most = some n) {P : Params} {h : Heap} {args : List WData} {vals : List Value}
    (hpre : l.row.toRowW.claim.pre args = true) (hwl : WellAll P h vals args) :
    ∃ a vs ns, vals = [Value.ref a] ∧ args = [WData.list (ns.map WData.int)] ∧ h.get? a = some { cls := .type "list", data := .seq vs.toArray } ∧ IntsAre vs ns ∧ ns.length ≤ n := by
  have hsh : WShape.hasAll [] args [.list .int] = true := (pre_splitW hpre).1
  have hc : l.pre.holds [] { args := args } = true := (pre_splitW hpre).2
  obtain ⟨d, r, rfl, h1, h2⟩ := hasAllW_cons hsh
  obtain rfl := hasAllW_nil h2
  obtain ⟨xs, rfl, h3⟩ := hasW_list h1
  obtain ⟨ns, rfl⟩ := items_int h3
  have hlen : ns.length ≤ n := by
    unfold OpenLaw.pre at hc
    have h4 : (WTm.not (.lt (.lit (.int (n : Int))) (.len (.arg 0)))).holds [] { args := [.list (ns.map .int)] } = true := by
      have h4 := (holds_andW hc).1
      rw [hn] at h4
      exact h4
    have h5 := condW_of h4 (w_not (w_lt w_lit (w_len_list (w_arg rfl))))
    rw [List.length_map] at h5
    refine Nat.le_of_not_lt fun q => ?_
    have q' : (n : Int) < ((ns.length : Nat) : Int) := by omega
    first
      | (rw [decide_eq_true q'] at h5; exact absurd h5 (by decide))
      | (simp at h5; omega)
  cases hwl with
  | cons w1 w2 =>
    cases w2
    cases w1 with
    | list ho hall => exact ⟨_, _, ns, rfl, rfl, ho, ints_of_wellAll ns _ hall, hlen⟩

theorem post_true (l : OpenLaw) (args : List WData) : l.row.toRowW.claim.post args (.bool true) args = true :=
  postW_of (r := l.row.toRowW) (X := (true == true))
    (show WShape.has [] (.bool true) .bool = true by first | rfl | decide | simp [WShape.has, WShape.arms, WShape.armsAll])
    (show (WTm.eq .res (.lit (.bool true))).value [] { args := args, res := some (.bool true), after := args } = some (.bool (true == true)) from w_eq_bool (w_res rfl) w_lit) rfl

/-! ### the attachment: holds_open's last premise (the goal 'hc' behind k_head) from a wpAny of the law's body -/
/-- the same from a codeAny of the CALL (for a layer whose function contracts speak of calls) -/
theorem attach_call {l : OpenLaw} {n : Nat} {q : Program} {loose : List Str} {XP : (Str → Option Value) → Heap → Prop} {YP : World → Heap → Prop} {d : DefRec}
    (hn : l.most = some n) (hdf : d.params.defaults = [])
    (call : ∀ (w : World) (s₀ s₁ : Shared) (mg mb : Str → Option Value) (fa : Addr) (o : Obj) (pm cd doc : Value) (a : Addr) (vs : List Value) (ns : List Int),
      Ground q loose [] XP w s₀ mg mb s₁.heap → YP w s₁.heap →
      s₁.heap.get? fa = some o → o.data = .func (docDef d.name d.params d.body d.scope pm cd doc) → s₁.heap.CodeRec cd d.name → mg d.name = some (.ref fa) →
      s₁.heap.get? a = some { cls := .type "list", data := .seq vs.toArray } → IntsAre vs ns → ns.length ≤ n → s₁.gens = #[] →
      codeAny (model l.prog w) callerA (.call (.ref fa) ⟨[.ref a], []⟩) (fun r s' => r = .ok (.ret (.bool true)) ∧ OldK s₁.heap s'.heap ∧ s'.os = s₁.os ∧ AllBare s'.gens) s₁) :
    WalkO q loose XP YP l.row.toRowW d [] (fun f vs => PySem.call f vs) := by
  intro w s₀ s₁ mg mb G Y fa o pm cd doc dV kV ho hd hcd hD hmg hg args vals as hpre hlay hrd hwl hlo
  obtain rfl : dV = .none := Dflts.none hD hdf
  obtain rfl : kV = .none := Dflts.noKw hD
  obtain ⟨a, vs, ns, rfl, rfl, hobj, hints, hlen⟩ := script_of hn hpre hwl
  refine enter_call (codeAny_mono (call w s₀ s₁ mg mb fa o pm cd doc a vs ns G Y ho (fd_plain hd) hcd hmg hobj hints hlen hg) fun r s' hq => ?_)
  obtain ⟨rfl, h2, h3, h4⟩ := hq
  exact ⟨.inl ⟨.bool true, .bool true, [], rfl, fun _ => rfl, .bool true, post_true l _, fun _ => ⟨List.Pairwise.nil, fun _ hm => (nomatch hm)⟩⟩, h2, h3, h4⟩

/-! ### rules over ANY heap (no ledger) from facts about the written part K: the library's own take a ledger (News) for what they write -/
section
variable {prog : Program} {w : World} {A : Around} {E : Value → Shared → Prop} {s : Shared} {K : Frag}

/-! the whole heap as the ledger: makes every rule that writes through a ledger a rule over any heap -/
def ledger (h : Heap) (L d : Addr) : List (Addr × Obj) := (List.range h.objs.size).filterMap fun a => if a = L ∨ a = d then none else (h.get? a).map fun o => (a, o)
end
end Att

namespace L2
open PySem PySem.Spec PyProof.Rows

theorem vals_ints : ∀ {vs : List Value} {ns : List Int}, IntsAre vs ns → Vals (ns.map V.int) vs
  | _, _, .nil => .nil
  | _, _, .cons n t h => .cons ⟨t, rfl⟩ (vals_ints h)

/-- nothing is tracked but the script, known to the object (or it is an object of the module) -/
def Only (H : Hp) : Prop := ∀ b, H b = none ∨ ∃ o xs, H b = some (.frz o (.lst xs))

/-- THE HEAD: the law's promise, at the heap behind the top. F, the promise of the law's def, may use that base is part of the heap (so K.In base, base.Ns mainGlobals mg stand in Mod) -/
theorem law_call {P : Program} {w : World} {K : PySem.W.Frag} {mg mb : Str → Option Value} {CX : CXT} {k : Nat} {fa a : Addr} {fd : FuncData} {x : Str} {sp : Sp} {s₁ : Shared} {vs : List Value} {ns : List Int}
    (KX : K.In s₁.heap) (hns : s₁.heap.Ns mainGlobals mg) (hb : s₁.heap.Ns builtinsNs mb) (hbb : ∀ x : Str, x ≠ "__name__" → mb x = bootBuiltins x) (hlim : s₁.heap.NoLimit) (hg : s₁.gens = #[])
    (ha : s₁.heap.get? a = some { cls := .type "list", data := .seq vs.toArray }) (hi : IntsAre vs ns) (hl : ns.length ≤ sizeLine) (hr : Room k callerA)
    (F : ∀ base : Heap, K.In base → base.Ns mainGlobals mg → FnOk P w K mg base CX k fa fd [x] sp) (hbind : ∀ (s : Shared) (u : Value), BindsTo s fd ⟨[u], []⟩ [(x, u)])
    (hsp : ∀ H : Hp, Only H → SqL K H a (ns.map V.int) → sp [.ref a] H (fun v _ => v = .bl true) fun _ _ _ => False)
    (hCX : ∀ H e s', CX [] H s₁ (fun _ _ _ => False) e s' → False) :
    codeAny (model P w) callerA (.call (.ref fa) ⟨[.ref a], []⟩) (fun r s' => r = .ok (.ret (.bool true)) ∧ OldK s₁.heap s'.heap ∧ s'.os = s₁.os ∧ AllBare s'.gens) s₁ := by
  have rv := vals_ints hi
  have lenV := hi.length
  -- from an abstract heap in which nothing but the script may be tracked
  have core : ∀ H : Hp, Only H → SqL K H a (ns.map V.int) → HOk P w H s₁.heap → (∀ b, H b ≠ none → b = a) → (H a ≠ none → K.lookup a = none) →
      codeAny (model P w) callerA (.call (.ref fa) ⟨[.ref a], []⟩) (fun r s' => r = .ok (.ret (.bool true)) ∧ OldK s₁.heap s'.heap ∧ s'.os = s₁.os ∧ AllBare s'.gens) s₁ := by
    intro H hO hS hok hA hK
    have base_of : ∀ {b : Addr} {o : Obj}, s₁.heap.get? b = some o → H b = none → (hidT s₁.heap H).get? b = some o := fun e n => hidT_get e n
    have noA : ∀ {b : Addr} {o : Obj} {es : Array DictEntry} {ep : Nat}, s₁.heap.get? b = some o → o.data = .dict es ep → H b = none := fun {b o es ep} e d => by
      cases q : H b with
      | none => rfl
      | some u =>
        have e' : b = a := hA b (by rw [q]; simp)
        subst e'
        rw [ha] at e; cases e
        have d' : Data.seq vs.toArray _ = Data.dict es ep := d
        cases d'
    have nsK : ∀ {b : Addr} {m : Str → Option Value}, s₁.heap.Ns b m → (hidT s₁.heap H).Ns b m := fun {b m} ⟨o, es, ep, e, d, r⟩ => ⟨o, es, ep, base_of e (noA e d), d, r⟩
    have hKb : K.In (hidT s₁.heap H) := fun b o e => base_of (KX b o e) (by
      cases q : H b with
      | none => rfl
      | some u =>
        have e' : b = a := hA b (by rw [q]; simp)
        subst e'
        rw [hK (by rw [q]; simp)] at e; cases e)
    have hM : Mod K mg (hidT s₁.heap H) := ⟨hKb, nsK hns, ⟨mb, nsK hb, hbb⟩, let ⟨mc, h1, h2⟩ := hlim; ⟨mc, nsK h1, h2⟩⟩
    have e0 : Env0 P w K mg (hidT s₁.heap H) callerA [] s₁ H := ⟨rfl, hM, fun b o e => of_hidT e, Nat.le_of_eq (hidT_size _ _), trivial, fun b hb => absurd (show b ∈ ([] : List Addr) from hb) (by simp), hok, .of_eq hg⟩
    refine codeAny_mono ((F _ hKb (nsK hns)).run callerA [] s₁ H ⟨[.ref a], []⟩ [.ref a] [.ref a] _ _ hr e0 (hbind s₁ (.ref a)) (.cons rfl .nil) (hsp H hO hS)) fun r s' h => ?_
    cases r with
    | error e => exact (hCX H e s' h).elim
    | ok fl =>
      cases fl with
      | next => exact False.elim h
      | brk => exact False.elim h
      | cont => exact False.elim h
      | ret u =>
        obtain ⟨v, H', os, bare, un, hok', r', q⟩ := h
        have q' : v = .bl true := q
        subst q'
        obtain rfl : u = Value.bool true := r'
        refine ⟨rfl, OldK.of_keep fun b o e => ?_, os, bare⟩
        cases q : H b with
        | none => exact un.keep b o e q (by intro z; exact absurd (show b ∈ ([] : List Addr) from z) (by simp)) (by simp)
        | some u =>
          rcases hO b with z | ⟨ob, xs, z⟩
          · rw [q] at z; cases z
          · have z2 := un.frzs b ob _ z
            obtain ⟨e1, _⟩ := hok b _ z
            obtain ⟨e2, _⟩ := hok' b _ z2
            rw [e] at e1; cases e1
            exact e2
  cases hk : K.lookup a with
  | some o =>
    -- the script is one of the module's own objects
    have e := KX a o hk
    rw [ha] at e
    cases e
    refine core (fun _ => none) (fun _ => .inl rfl) (.inr ⟨_, vs.toArray, _, hk, rfl, rfl, rfl, by rw [List.size_toArray, lenV]; exact hl, by simpa using rv⟩) (fun b u z => by have z' : (none : Option HO) = some u := z; cases z') (fun b z => absurd rfl z) fun z => absurd rfl z
  | none =>
    refine core (fun b => if b = a then some (.frz { cls := .type "list", data := .seq vs.toArray } (.lst (ns.map V.int))) else none) (fun b => ?_) (.inl (.inr ⟨{ cls := .type "list", data := .seq vs.toArray }, if_pos rfl⟩)) (fun b u z => ?_) (fun b z => ?_) fun _ => hk
    · by_cases hb : b = a
      · exact .inr ⟨_, _, if_pos hb⟩
      · exact .inl (if_neg hb)
    · by_cases hb : b = a
      · have z' := (if_pos hb).symm.trans z
        cases z'
        subst hb
        exact ⟨ha, by rw [List.length_map]; exact hl, vs, _, rv, ha⟩
      · have z' := (if_neg hb).symm.trans z
        cases z'
    · by_cases hb : b = a
      · exact hb
      · exact absurd (if_neg hb) z
end L2

namespace L2
open PySem PySem.Spec PyProof.Rows

abbrev KOf {K : PySem.W.Frag} {h : Heap} (_ : K.In h) : PySem.W.Frag := K

/-- the goal that k_head leaves (case hc), from the law's promise. F gives the function object fd (K's own) once, then the promise over every base -/
theorem walk_of {l : PySem.W.OpenLaw} {n k : Nat} {q : Program} {loose : List Str} {XP : (Str → Option Value) → Heap → Prop} {YP : World → Heap → Prop} {d : DefRec} {K : Params → PySem.W.Frag} {CX : World → CXT} {sp : World → Sp} {x : Str}
    (hn : l.most = some n) (hn2 : n ≤ sizeLine) (hdf : d.params.defaults = []) (hr : Room k callerA)
    (hY : ∀ (w : World) (h : Heap), YP w h → (K w.params).In h)
    (F : ∀ (w : World) (mg : Str → Option Value) (fa : Addr) (h : Heap), (K w.params).In h → h.Ns mainGlobals mg → mg d.name = some (.ref fa) →
      ∃ fd : FuncData, (∀ (s : Shared) (u : Value), BindsTo s fd ⟨[u], []⟩ [(x, u)]) ∧
        ∀ base : Heap, (K w.params).In base → base.Ns mainGlobals mg → FnOk l.prog w (K w.params) mg base (CX w) k fa fd [x] (sp w))
    (hsp : ∀ (w : World) (H : Hp) (a : Addr) (ns : List Int), ns.length ≤ n → Only H → SqL (K w.params) H a (ns.map V.int) → sp w [.ref a] H (fun v _ => v = .bl true) fun _ _ _ => False)
    (hCX : ∀ (w : World) (H : Hp) (s : Shared) (e : Value) (s' : Shared), CX w [] H s (fun _ _ _ => False) e s' → False) :
    PySem.W.WalkO q loose XP YP l.row.toRowW d [] (fun f vs => PySem.call f vs) := by
  refine Att.attach_call hn hdf fun w s₀ s₁ mg mb fa o pm cd doc a vs ns G Y ho hd hcd hmg hobj hints hlen hg => ?_
  have KX := hY w _ Y
  obtain ⟨fd, hb, hF⟩ := F w mg fa _ KX G.T.g hmg
  exact law_call KX G.T.g G.T.b G.T.builtins G.T.nolimit hg hobj hints (Nat.le_trans hlen hn2) hr hF hb (fun H hO hS => hsp w H a ns hlen hO hS) fun H e s' => hCX w H s₁ e s'
/-- the same where the promise hangs on the written part alone: (sp := My.sp_law), no hole under a binder -/
theorem walk_ofK {l : PySem.W.OpenLaw} {n k : Nat} {q : Program} {loose : List Str} {XP : (Str → Option Value) → Heap → Prop} {YP : World → Heap → Prop} {d : DefRec} {K : Params → PySem.W.Frag} {CX : CXT} {sp : PySem.W.Frag → Sp} {x : Str}
    (hn : l.most = some n) (hn2 : n ≤ sizeLine) (hdf : d.params.defaults = []) (hr : Room k callerA)
    (hY : ∀ (w : World) (h : Heap), YP w h → (K w.params).In h)
    (F : ∀ (w : World) (mg : Str → Option Value) (fa : Addr) (h : Heap), (K w.params).In h → h.Ns mainGlobals mg → mg d.name = some (.ref fa) →
      ∃ fd : FuncData, (∀ (s : Shared) (u : Value), BindsTo s fd ⟨[u], []⟩ [(x, u)]) ∧
        ∀ base : Heap, (K w.params).In base → base.Ns mainGlobals mg → FnOk l.prog w (K w.params) mg base CX k fa fd [x] (sp (K w.params)))
    (hsp : ∀ (K : PySem.W.Frag) (H : Hp) (a : Addr) (ns : List Int), ns.length ≤ n → Only H → SqL K H a (ns.map V.int) → sp K [.ref a] H (fun v _ => v = .bl true) fun _ _ _ => False)
    (hCX : ∀ (H : Hp) (s : Shared) (e : Value) (s' : Shared), CX [] H s (fun _ _ _ => False) e s' → False) :
    PySem.W.WalkO q loose XP YP l.row.toRowW d [] (fun f vs => PySem.call f vs) :=
  walk_of (K := K) (CX := fun _ => CX) (sp := fun w => sp (K w.params)) hn hn2 hdf hr hY F (fun w H a ns h1 h2 h3 => hsp (K w.params) H a ns h1 h2 h3) fun _ H s e s' => hCX H s e s'
end L2

/- THE LAST THEOREM (shape; LID, My.* are yours):
   My.Adr: a structure of the addresses that your layer names (classes, functions); My.Txt K t: a structure (Prop) of the equations over K;
   My.txt_mk : {K} {implicit addresses ..} (e1 : nsIn K mainGlobals "law" = some (some (.ref f))) (e2 : K.lookup f = some ⟨oc, od, .func (fnOf "law" "law" params body scope dV kV doc pm an cdv ct), sl⟩) (e3 : codeIn K cdv "law" = true) .. : ∃ t, My.Txt K t

set_option maxRecDepth 100000 in
set_option maxHeartbeats 0 in
theorem PySem.Challenge.cw_LID_holds : PySem.Challenge.rw_LID.Holds := by
  w_on; o_law; k_head; (case hw => w_witness2)
  k_fill
  refine L2.walk_of (l := PySem.Challenge.rw_LID) (n := 63) (k := 40) (x := "script") (CX := fun w => ..) (sp := fun _ => My.sp_law) rfl (by decide) rfl ⟨rfl, by decide, by decide⟩ (fun w h Y => PySem.W.kIn_of Y) ?F ?S ?C
  case F =>
    intro w mg fa h KX G hmg
    have T : ∃ t, My.Txt (L2.KOf KX) t := by
      dsimp only [L2.KOf]                          -- K must stand as «<heap const> w.params» for k_is
      refine' My.txt_mk ?e1 ?e2 ?e3 ..
      (case e1 => PySem.W.k_is)                    -- in the order: a name -> its address -> its object -> its parts
      (case e2 => PySem.W.k_is)
      ..
    obtain ⟨t, T⟩ := T
    have e0 := hmg.symm.trans (PySem.W.mg_of KX G T.law)
    cases e0                                       -- fa is the law's own address
    exact ⟨_, fun s u => .of_eq rfl, fun base kb nb => My.law_fn T kb nb⟩     -- if «.of_eq rfl» comes too early: refine' ⟨_, ?b, fun base kb nb => My.law_fn T kb nb⟩; exact fun s u => .of_eq rfl
  case S => exact fun w H a ns hl hO hS => ..
  case C => exact ..
(the tactic k_is has no namespace: write k_is) -/

/-! SHORT WORDS over the layer: a def of the text, its body, what a loop and a test want. -/
namespace L2
open PySem PySem.Spec PyProof.Rows

/-! ### the text by places -/
def defArgs (s : Stmt) : Arguments := match s with
  | .FunctionDef _ a _ _ _ _ _ _ _ _ => a
  | _ => { posonlyargs := [], args := [], vararg := none, kwonlyargs := [], kw_defaults := [], kwarg := none, defaults := [] }
def defBody (s : Stmt) : List Stmt := match s with
  | .FunctionDef _ _ b _ _ _ _ _ _ _ => b
  | _ => []
def defScope (s : Stmt) : Scope := match s with
  | .FunctionDef _ _ _ _ _ _ sc _ _ _ => sc
  | _ => { kind := .function, names := [], isGenerator := false, isCoroutine := false }

/-! ### no exception leaves a def -/
abbrev CX0 : CXT := fun _ _ _ _ _ _ => False
abbrev E0 : XK := fun _ _ _ => False
theorem pass0 {X : Cx} : Passes CX0 X E0 := fun _ _ _ _ _ _ _ h => h.elim

/-! ### a def (or method) of the text as it stands behind the top -/
structure Fun (K : PySem.W.Frag) (x qual : Str) (st : Stmt) (f : Addr) (fd : FuncData) : Prop where
  ex : ∃ (oc : Value) (od : Option Addr) (kV doc pm : Value) (an : Option Addr) (cdv ct : Value) (osl : Array (Option Value)),
    fd = PySem.W.fnOf x qual (defArgs st) (defBody st) (defScope st) .none kV doc pm an cdv ct ∧ K.lookup f = some ⟨oc, od, .func fd, osl⟩ ∧ PySem.W.codeIn K cdv qual = true
  kp : PySem.W.keepIn K (.ref f) = true
section
variable {P : Program} {w : World} {K : PySem.W.Frag} {mg : Str → Option Value} {base : Heap}
/-- THE RULE for a def: its body as a term of rules, and the reading of that term -/
theorem Fun.ok {x qual : Str} {st : Stmt} {f : Addr} {fd : FuncData} {N ps : List Str} {k : Nat} {sp : Sp} (F : Fun K x qual st f fd) (S : FnScope N ps (defScope st)) (len : ∀ vs H Q E, sp vs H Q E → vs.length = ps.length)
    (hbody : ∀ (cdv : Value) (A : Around) (outer : List Env) (s : Shared) (H : Hp) (vs : List V) (Q : VK) (E : XK), Room k (A.deeper (envOfC qual (defScope st) s.heap.objs.size f cdv)) → sp vs H Q E →
      ∃ t, PSs (cxOf CX0 P w K mg base N qual (defScope st) f cdv A outer s H E).nox (defBody st) t ∧ t { nx := fun _ H' => Q .non H', rt := Q } (start N vs) H) : FnOk P w K mg base CX0 (k + 1) f fd ps sp := by
  obtain ⟨oc, od, kV, doc, pm, an, cdv, ct, osl, rfl, lk, hcd⟩ := F.ex
  refine fn_of lk hcd S len fun A outer s H vs Q E hr hsp => ?_
  obtain ⟨t, h, q⟩ := hbody cdv A outer s H vs Q E hr hsp
  exact ⟨t, h.nox, q⟩
/-- how its arguments bind (no defaults): h is «fun _ _ _ _ _ _ us hl => match us, hl with | [_, _], _ => rfl», one _ a parameter -/
theorem Fun.binds {x qual : Str} {st : Stmt} {f : Addr} {fd : FuncData} {ps : List Str} (F : Fun K x qual st f fd)
    (h : ∀ (kV doc pm : Value) (an : Option Addr) (cdv ct : Value) (us : List Value), us.length = ps.length → bindArgs (PySem.W.fnOf x qual (defArgs st) (defBody st) (defScope st) .none kV doc pm an cdv ct) ⟨us, []⟩ = pure (ps.zip us)) : Binds K fd ps [] := by
  obtain ⟨oc, od, kV, doc, pm, an, cdv, ct, osl, rfl, lk, hcd⟩ := F.ex
  exact .all (h kV doc pm an cdv ct)
theorem fun_mk {x qual : Str} {st : Stmt} {f : Addr} {oc : Value} {od an : Option Addr} {osl : Array (Option Value)} {kV doc pm cdv ct : Value} (l : K.lookup f = some ⟨oc, od, .func (PySem.W.fnOf x qual (defArgs st) (defBody st) (defScope st) .none kV doc pm an cdv ct), osl⟩)
    (c : PySem.W.codeIn K cdv qual = true) (k : PySem.W.keepIn K (.ref f) = true) : Fun K x qual st f (PySem.W.fnOf x qual (defArgs st) (defBody st) (defScope st) .none kV doc pm an cdv ct) := ⟨⟨oc, od, kV, doc, pm, an, cdv, ct, osl, rfl, l, c⟩, k⟩
end
/-! ### expressions in short: the name that stands in the i-th slot -/
section
variable {X : Cx}
theorem pv (i : Nat) {x : Str} {pos : Pos} (hN : X.N[i]? = some x := by rfl) (hv : Vis X.env.scope x := by first | exact Or.inl rfl | exact Or.inr (Or.inl rfl) | exact Or.inr (Or.inr rfl)) (hd : (x == ("__debug__" : Str)) = false := by decide)
    (hcd : (x == ("__classdict__" : Str)) = false := by decide) : PE X (.Name x pos) (tVar i) := pe_var hN hv hd hcd
end

/-! ### tests -/
theorem iteF {A B : Prop} (h : B) : if false = true then A else B := by
  rw [if_neg Bool.false_ne_true]
  exact h
theorem iteT {A B : Prop} (h : A) : if true = true then A else B := by
  rw [if_pos rfl]
  exact h
theorem ite2 {c A B : Prop} [Decidable c] (h1 : c → A) (h2 : ¬ c → B) : if c then A else B := by
  by_cases h : c
  · rw [if_pos h]
    exact h1 h
  · rw [if_neg h]
    exact h2 h
theorem iteNS {c A B : Prop} [Decidable c] (hc : c) (h : B) : if (!decide c) = true then A else B := by
  rw [decide_eq_true hc]
  exact iteF h

/-! ### heaps -/
/-- all that was tracked is as it was -/
def Same (H H' : Hp) : Prop := ∀ b o, H b = some o → H' b = some o
theorem Same.refl (H : Hp) : Same H H := fun _ _ h => h
theorem Same.trans {H H1 H2 : Hp} (a : Same H H1) (b : Same H1 H2) : Same H H2 := fun c o h => b c o (a c o h)
theorem Same.free {H H' : Hp} (e : Same H H') {l : Addr} (h : H' l = Option.none) : H l = Option.none := by
  cases q : H l with
  | none => rfl
  | some o =>
    rw [e l o q] at h
    cases h
theorem Same.seq {K : PySem.W.Frag} {H H' : Hp} {a : Addr} {xs : List V} (e : Same H H') (h : SqL K H a xs) : SqL K H' a xs := by
  rcases h with (h | ⟨o, h⟩) | h
  · exact .inl (.inl (e _ _ h))
  · exact .inl (.inr ⟨o, e _ _ h⟩)
  · exact .inr h

end L2

set_option Elab.async false
set_option linter.all false
set_option maxRecDepth 100000
set_option maxHeartbeats 4000000
namespace L2
open PySem PySem.Spec PyProof.Rows

/-! ### a list comprehension of one clause (the block: names of its own, then the def's) -/
theorem ne_lt {a b c : Nat} (h : a < b) (k : b ≤ c) : a ≠ c := Nat.ne_of_lt (Nat.lt_of_lt_of_le h k)
theorem no_lt {a b : Nat} (h : a < b) (k : b ≤ a) : False := absurd (Nat.lt_of_lt_of_le h k) (Nat.lt_irrefl _)
/-- the cells that the block takes over -/
def clOf (names : List (Str × NameKind)) (cells : List (Str × Addr)) : List (Str × Addr) :=
  (names.filterMap fun p => if p.2 == .free then (cells.lookup p.1).map fun c => (p.1, c) else none).reverse

theorem closureFor_go (env : Env) : ∀ (names : List (Str × NameKind)) (acc : List (Str × Addr)), (∀ p ∈ names, p.2 = .free → ∃ c, env.cells.lookup p.1 = some c) →
    (forIn names acc fun (x : Str × NameKind) cs => (match x with
      | (name, kind) => if (kind == .free) = true then (do let c ← cellOf env name; pure (ForInStep.yield ((name, c) :: cs))) else pure (ForInStep.yield cs)) : Sem (List (Str × Addr)))
      = pure (clOf names env.cells ++ acc)
  | [], acc, _ => rfl
  | (n, k) :: r, acc, h => by
    have hr : ∀ p ∈ r, p.2 = .free → ∃ c, env.cells.lookup p.1 = some c := fun p hp => h p (List.mem_cons_of_mem _ hp)
    rw [List.forIn_cons]
    by_cases hk : k = .free
    · subst hk
      obtain ⟨c, hc⟩ := h (n, .free) List.mem_cons_self rfl
      have e1 : cellOf env n = pure c := by
        unfold cellOf
        have hc' : env.cells.lookup n = some c := hc
        rw [hc']
      have e2 : clOf ((n, NameKind.free) :: r) env.cells = clOf r env.cells ++ [(n, c)] := by
        have hc' : env.cells.lookup n = some c := hc
        unfold clOf
        rw [List.filterMap_cons]
        simp [hc']
      simp only [beq_self_eq_true, if_true, e1, pure_bind]
      rw [closureFor_go env r _ hr, e2, List.append_assoc]
      rfl
    · have hb : (k == NameKind.free) = false := by simpa using hk
      have e2 : clOf ((n, k) :: r) env.cells = clOf r env.cells := by
        unfold clOf
        rw [List.filterMap_cons]
        simp [hb]
      simp only [hb, Bool.false_eq_true, if_false, pure_bind]
      rw [closureFor_go env r _ hr, e2]

theorem closureFor_cl {scope : Scope} {env : Env} (h : ∀ p ∈ scope.names, p.2 = .free → ∃ c, env.cells.lookup p.1 = some c) : closureFor scope env = pure (clOf scope.names env.cells) := by
  have q := closureFor_go env scope.names [] h
  rw [List.append_nil] at q
  unfold closureFor
  simp only [bind_pure]
  exact q

theorem clOf_mem {names : List (Str × NameKind)} {cells : List (Str × Addr)} {x : Str} {c : Addr} (h : (x, c) ∈ clOf names cells) : (x, NameKind.free) ∈ names ∧ cells.lookup x = some c := by
  unfold clOf at h
  rw [List.mem_reverse, List.mem_filterMap] at h
  obtain ⟨⟨n, k⟩, hm, e⟩ := h
  by_cases hk : k = .free
  · subst hk
    simp only [beq_self_eq_true, if_true] at e
    cases q : cells.lookup n with
    | none => rw [q] at e; cases e
    | some a =>
      rw [q] at e
      have e' : (n, a) = (x, c) := Option.some.inj e
      cases e'
      exact ⟨hm, q⟩
  · have hb : (k == NameKind.free) = false := by simpa using hk
    simp only [hb, Bool.false_eq_true, if_false] at e
    cases e
theorem clOf_lookup {names : List (Str × NameKind)} {cells : List (Str × Addr)} {x : Str} {c : Addr} (h : (clOf names cells).lookup x = some c) : cells.lookup x = some c := (clOf_mem (PySem.mem_of_lookup h)).2
theorem lookup_of_mem {α : Type} {x : Str} {l : List (Str × α)} {a : α} (h : (x, a) ∈ l) : ∃ b, l.lookup x = some b := by
  induction l with
  | nil => cases h
  | cons p r ih =>
    obtain ⟨n, b⟩ := p
    by_cases e : x = n
    · subst e; exact ⟨b, by simp [List.lookup_cons]⟩
    · rcases List.mem_cons.mp h with z | z
      · cases z; exact absurd rfl e
      · obtain ⟨b', q⟩ := ih z
        exact ⟨b', by rw [List.lookup_cons, (by simpa using e : (x == n) = false)]; exact q⟩
theorem clOf_has {names : List (Str × NameKind)} {cells : List (Str × Addr)} {x : Str} {c : Addr} (h : (x, NameKind.free) ∈ names) (hc : cells.lookup x = some c) : (clOf names cells).lookup x = some c := by
  have hm : (x, c) ∈ clOf names cells := by
    unfold clOf
    rw [List.mem_reverse, List.mem_filterMap]
    exact ⟨(x, .free), h, by simp [hc]⟩
  obtain ⟨b, q⟩ := lookup_of_mem hm
  have := clOf_lookup q
  rw [hc] at this
  cases this
  exact q

/-- the relabelled table's entries come from the block's own table -/
theorem relabel_free {scope : Scope} {env : Env} {x : Str} (hc : ∀ y ∈ scope.names, y.2 ≠ .cell) (h : (relabel scope env).names.lookup x = some .cell ∨ (relabel scope env).names.lookup x = some .free) : (x, NameKind.free) ∈ scope.names := by
  have key : ∀ k, (relabel scope env).names.lookup x = some k → (k = .cell ∨ k = .free) → (x, NameKind.free) ∈ scope.names := fun k q hk => by
    have m := PySem.mem_of_lookup q
    unfold relabel at m
    rw [List.mem_map] at m
    obtain ⟨⟨n, k'⟩, hm, e⟩ := m
    dsimp only at e
    by_cases hf : k' = .free
    · subst hf
      split at e <;> cases e <;> exact hm
    · have hb : (k' == NameKind.free) = false := by simpa using hf
      simp only [hb, Bool.false_and, Bool.false_eq_true, if_false] at e
      cases e
      rcases hk with rfl | rfl
      · exact absurd rfl (hc _ hm)
      · exact absurd rfl hf
  rcases h with h | h
  · exact key _ h (.inl rfl)
  · exact key _ h (.inr rfl)

/-- the context of the block -/
def compCx (X : Cx) (N' : List Str) (scope : Scope) (C : Addr) (fp : List Addr) (s₂ : Shared) (H₂ : Hp) : Cx where
  prog := X.prog
  w := X.w
  K := X.K
  mg := X.mg
  base := X.base
  A := X.A
  N := N'
  s₀ := s₂
  H₀ := H₂
  env := compEnvC scope (clOf scope.names X.env.cells) C X.env
  outer := X.stack
  stack := X.stack
  ex := fp
  fn := fun _ => false
  calm := X.calm
  pn := []
  xe := fun _ _ => False

/-- what the block's table must be: own names (local), then names of the def that are not own; no cells; every free name is a cell of the def's -/
structure CompScope (X : Cx) (own N' : List Str) (scope : Scope) : Prop where
  kind : scope.kind = .function
  nocell : ∀ y ∈ scope.names, y.2 ≠ .cell
  names : ∀ y ∈ scope.names, y.2 = .local → scope.names.lookup y.1 = some .local
  free : ∀ y ∈ scope.names, y.2 = .free → (X.env.kindOf y.1 = some .cell ∨ X.env.kindOf y.1 = some .free)
  len : N'.length = own.length + X.N.length
  outer : ∀ (i : Nat) (x : Str), (N'.drop own.length)[i]? = some x → (x, NameKind.free) ∈ scope.names → X.N[i]? = some x
  apart : ∀ x ∈ N'.drop own.length, (relabel scope X.env).names.lookup x ≠ some .local

/-- what the block wants of an iterator: W by the turn, a measure, the items so far, the heap -/
def Cmp (J : It) (k : Nat) (g : TG) (tt : TT) (te : TE) (σ : St) (Q : VK) (H1 : Hp) : Prop := ∃ W : Nat → Nat → List V → Hp → Prop, (∃ m, W 0 m [] H1) ∧ ∀ i m ys H, W i m ys H →
  (J.stop i H ∧ ∀ p, H p = none → Q (.ref p) (upd H p (.lst ys))) ∨
  (J.go i H ∧ ys.length < sizeLine ∧ ∃ (N1 : V → Hp → Prop) (N0 : Hp → Prop), (∀ y H', N1 y H' → ∃ m', m' < m ∧ W (i + 1) m' (ys ++ [y]) H') ∧ (∀ H', N0 H' → ∃ m', m' < m ∧ W (i + 1) m' ys H') ∧
    ∀ x H', J.yld i H x H' → g x (List.replicate k none ++ σ) H' fun σ2 H2 => tt σ2 H2 fun b H3 => if b = true then te σ2 H3 N1 else N0 H3)
/-- the reading -/
def tComp (k : Nat) (wi : TI) (g : TG) (tt : TT) (te : TE) : TE := fun σ H Q => wi σ H fun J H1 => Cmp J k g tt te σ Q H1

/-- the tests of a clause -/
def PTs (X : Cx) (ifs : List Expr) (t : TT) : Prop :=
  ∀ (pins : List (Addr × Obj)) (s : Shared) (σ : St) (H : Hp) (Q : Bool → Hp → Prop), Inv X pins σ H s → t σ H Q →
    wpAny (model X.prog X.w) X.A (forIn ifs true fun c r => if r = true then do let ok ← isTrue c X.env (eval c X.env); pure (ForInStep.yield ok) else pure (ForInStep.yield r)) (TP X pins σ Q) X.xe s
def tAll : TT := fun _ H Q => Q true H
theorem pts_nil {X : Cx} : PTs X [] tAll := fun _ _ σ H Q I h => wpAny_tests_nil ⟨H, I, h⟩
theorem pts_one {X : Cx} {c : Expr} {t : TT} (h : PT X c t) : PTs X [c] t := fun pins s σ H Q I q => wpAny_tests_one (h pins s σ H Q I q)

/-- no error comes -/
abbrev Nev : Value → Shared → Prop := fun _ _ => False
/-- all of a block's conditions, one behind the other -/
abbrev allIfs (cs : List Expr) (en : Env) : Sem Bool := forIn cs true fun c yes => if yes = true then isTrue c en (eval c en) >>= fun b => pure (ForInStep.yield b) else pure (ForInStep.yield yes)
/-- one item of a block that makes a list: taken, its conditions asked, put behind where they hold -/
abbrev OneItem (P : Program) (W : World) (B : Around) (elt tgt : Expr) (cs : List Expr) (src lst : Value) (en : Env) (Go : Shared → Prop) (v : Value) : Shared → Prop := wpAny (model P W) B (letOwnedTupleGo tgt src v) (fun _ t2 =>
  wpAny (model P W) B (assign tgt en v) (fun _ t3 => wpAny (model P W) B (allIfs cs en) (fun yes t4 => if yes = true then wpAny (model P W) B (eval elt en) (fun x t5 => wpAny (model P W) B (call (.builtin "list.append") [lst, x]) (fun _ t6 => Go t6) Nev t5) Nev t4 else Go t4) Nev t3) Nev t2) Nev
theorem compLoop_any {P : Program} {W : World} {B : Around} {R : Result → Shared → Prop} {s : Shared} {elt tgt iter : Expr} {cs : List Expr} {scope : Scope} {pos : Pos} {src lst : Value} {en : Env} (J : Nat → Shared → Prop)
    (turn : ∀ k t, J k t → wpAny (model P W) B (pyNext src) (fun got t1 => match got with | none => R (.ok .next) t1 | some v => OneItem P W B elt tgt cs src lst en (fun t6 => ∃ j, j < k ∧ J j t6) v t1) Nev t)
    (k : Nat) (start : J k s) : codeAny (model P W) B (.compLoop (.ListComp elt [⟨tgt, iter, cs, 0⟩] scope pos) 0 src lst en) R s := by
  refine codeAny_loop rfl J (fun j t hj => ?_) k start
  refine (?_ : wpAny _ B ((compTurn (.ListComp elt [⟨tgt, iter, cs, 0⟩] scope pos) 0 src lst en).onRaise fun x => do noteFrame x en; theTreesLotGoes x) _ _ t)
  refine wpAny_noted ?_
  rw [compTurn_list]
  refine wpAny_bind (wpAny_standAt (wpAny_bind (wpAny_mono (turn j t hj) (fun got t1 h1 => ?_) fun _ _ no => no.elim)))
  match got, h1 with
  | none, h1 => exact wpAny_pure h1
  | some v, h1 =>
    refine wpAny_bind (wpAny_mono h1 (fun _ t2 h2 => wpAny_bind (wpAny_mono h2 (fun _ t3 h3 => wpAny_bind (wpAny_mono h3 (fun yes t4 h4 => ?_) fun _ _ no => no.elim)) fun _ _ no => no.elim)) fun _ _ no => no.elim)
    match yes, h4 with
    | true, h4 => exact wpAny_bind (wpAny_bind (wpAny_mono h4 (fun x t5 h5 => wpAny_bind (wpAny_mono h5 (fun _ t6 h6 => wpAny_pure (wpAny_pure ⟨rfl, h6⟩)) fun _ _ no => no.elim)) fun _ _ no => no.elim))
    | false, h4 => exact wpAny_pure ⟨rfl, h4⟩

section
variable {X : Cx}
theorem CompScope.ok {own N' : List Str} {scope : Scope} {C : Addr} {fp : List Addr} {s₂ : Shared} {H₂ : Hp} {pins : List (Addr × Obj)} {σ : St} (S : CompScope X own N' scope) (I : Inv X pins σ H₂ s₂) (hC : s₂.heap.objs.size ≤ C)
    (hf : ∀ b ∈ fp, FpOk X pins H₂ b) (hlt : ∀ b ∈ fp, b < s₂.heap.objs.size) : (compCx X N' scope C fp s₂ H₂).Ok where
  mod := I.ok.mod
  kind := S.kind
  glob := I.ok.glob
  blt := I.ok.blt
  above := hC
  inj := fun x y c h1 h2 => I.ok.inj x y c (clOf_lookup h1) (clOf_lookup h2)
  has := fun x h => by
    have hm := relabel_free S.nocell h
    obtain ⟨c, hc⟩ := I.ok.has x (S.free _ hm rfl)
    exact ⟨c, clOf_has hm hc⟩
  cab := fun x c h => by cases h
  hd := I.ok.hd
  frames := I.ok.frames
  stk := .inl rfl
  exf := fun b hb => ⟨ne_lt (hlt b hb) hC, fun x c h => (hf b hb).2.2.2.2.1 x c (clOf_lookup h)⟩
  bs := I.bs
  bsz := Nat.le_trans I.ok.bsz I.sz
  noex := fun b o e hb => by
    rcases (hf b hb).2.2.2.1 with z | z
    · exact I.ok.noex b o e z
    · exact no_lt (Heap.lt_size e) (Nat.le_trans I.ok.bsz z)
  exfs := fun b hb hs => by
    rcases List.mem_cons.mp (I.stkSub b hs) with z | z
    · exact (hf b hb).2.1 z
    · exact (hf b hb).2.2.1 z
  funs := I.stack
  frf := I.stkFree

theorem CompScope.inv {own N' : List Str} {scope : Scope} {C D : Addr} {fp : List Addr} {s₂ s₄ : Shared} {H₂ : Hp} {pins : List (Addr × Obj)} {σ : St} {oD : Obj} {m : Str → Option Value} (S : CompScope X own N' scope) (I : Inv X pins σ H₂ s₂) (hC : s₂.heap.objs.size ≤ C)
    (hf : ∀ b ∈ fp, FpOk X pins H₂ b) (hlt : ∀ b ∈ fp, b < s₂.heap.objs.size) (hos : s₄.os = s₂.os) (hg : s₄.gens = s₂.gens) (k : ∀ b u, s₂.heap.get? b = some u → s₄.heap.get? b = some u) (hn : s₄.heap.Ns C m)
    (hD : s₄.heap.get? D = some oD) (hDs : s₂.heap.objs.size ≤ D) (hDC : D ≠ C) (hDd : ∀ v, oD.data ≠ .cell v) :
    Inv (compCx X N' scope C fp s₂ H₂) [(D, oD)] (List.replicate own.length none ++ σ) H₂ s₄ where
  ok := S.ok I hC hf hlt
  os := hos
  bare := by rw [hg]; exact I.bare
  base := Un.kept k
  loc := ⟨m, hn, fun i x v e1 e2 e3 => by
    obtain ⟨mX, hnX, hlX⟩ := I.loc
    have hge : own.length ≤ i := by
      refine Nat.le_of_not_lt fun hi => ?_
      rw [List.getElem?_append_left (by simpa using hi), List.getElem?_replicate] at e2
      split at e2 <;> cases e2
    rw [List.getElem?_append_right (by simpa using hge), List.length_replicate] at e2
    have e1' : (N'.drop own.length)[i - own.length]? = some x := by
      rw [List.getElem?_drop, show own.length + (i - own.length) = i by omega]
      exact e1
    have nl := S.apart x (List.mem_of_getElem? e1')
    have hfr : (x, NameKind.free) ∈ scope.names := by
      rcases e3 with z | z | z
      · exact absurd z nl
      · exact relabel_free S.nocell (.inl z)
      · exact relabel_free S.nocell (.inr z)
    have hk := S.free _ hfr rfl
    obtain ⟨u, r, l⟩ := hlX (i - own.length) x v (S.outer _ _ e1' hfr) e2 (by
      rcases hk with z | z
      · exact .inr (.inl z)
      · exact .inr (.inr z))
    refine ⟨u, r, ?_⟩
    rcases l with ⟨z, _⟩ | ⟨_, c, hc, o, ho, hd⟩
    · rcases hk with q | q
      · rw [q] at z; cases z
      · rw [q] at z; cases z
    · refine .inr ⟨?_, c, clOf_has hfr hc, o, k _ _ ho, hd⟩
      rcases e3 with z | z | z
      · exact absurd z nl
      · exact .inl z
      · exact .inr z⟩
  cell := fun x c h => by
    obtain ⟨v, o, ho, hd⟩ := I.cell x c (clOf_lookup h)
    exact ⟨v, o, k _ _ ho, hd⟩
  free := I.hok.fresh hC
  freeC := fun x c h => I.freeC x c (clOf_lookup h)
  pin := fun p hp => by
    have e : p = (D, oD) := by
      have hp' : p ∈ [(D, oD)] := hp
      simpa using hp'
    subst e
    refine ⟨hD, I.hok.fresh hDs, hDC, fun z => ?_, hDd⟩
    rcases List.mem_cons.mp (I.stkSub D z) with q | q
    · exact ne_lt I.lt hDs q.symm
    · exact I.nofs hDs q
  hok := I.hok.kept k
  len := by
    show _ = N'.length
    rw [S.len, List.length_append, List.length_replicate, I.len]

/-- the block, walked: at its end the items lie at D, tracked; C is the block's own namespace -/
theorem comp_block {own N' : List Str} {scope : Scope} {elt tg iter : Expr} {ifs : List Expr} {pos : Pos} {g : TG} {tt : TT} {te : TE} {it : Addr} {fp : List Addr} {tn : Nat → Heap → Prop} {J : It} {pins : List (Addr × Obj)} {s₂ : Shared} {σ : St} {H₂ : Hp} {Q : VK}
    {RR : Value → Addr → Result → Shared → Prop} {E : Value → Shared → Prop} (hc : X.calm = true) (S : CompScope X own N' scope)
    (hg : ∀ C s H, PG (compCx X N' scope C fp s H) tg g) (ht : ∀ C s H, PTs (compCx X N' scope C fp s H) ifs tt) (he : ∀ C s H, PE (compCx X N' scope C fp s H) elt te)
    (I : Inv X pins σ H₂ s₂) (T : Turn X.prog X.w X.K tg J fp it tn) (st : tn 0 s₂.heap) (hf : ∀ b ∈ fp, FpOk X pins H₂ b)
    (W : Nat → Nat → List V → Hp → Prop) (m0 : Nat) (w0 : W 0 m0 [] H₂)
    (turn : ∀ i m ys H, W i m ys H → (J.stop i H ∧ ∀ p, H p = none → Q (.ref p) (upd H p (.lst ys))) ∨
      (J.go i H ∧ ys.length < sizeLine ∧ ∃ (N1 : V → Hp → Prop) (N0 : Hp → Prop), (∀ y H', N1 y H' → ∃ m', m' < m ∧ W (i + 1) m' (ys ++ [y]) H') ∧ (∀ H', N0 H' → ∃ m', m' < m ∧ W (i + 1) m' ys H') ∧
        ∀ x H', J.yld i H x H' → g x (List.replicate own.length none ++ σ) H' fun σ2 H2 => tt σ2 H2 fun b H3 => if b = true then te σ2 H3 N1 else N0 H3))
    (hRR : ∀ (D C : Addr) (s' : Shared) (H' : Hp) (m' : Str → Option Value), Inv X pins σ H' s' → Q (.ref D) H' → s'.heap.Ns C m' → H' C = none → C ≠ X.env.locals → X.s₀.heap.objs.size ≤ C → (∀ x c, X.env.cells.lookup x = some c → c ≠ C) → (∀ p ∈ X.pn ++ pins, p.1 ≠ C) →
      RR (.ref D) C (.ok .next) s') :
    wpAny (model X.prog X.w) X.A (newList []) (fun acc s₃ => wpAny (model X.prog X.w) X.A (newFunctionEnv scope X.env.globals (clOf scope.names X.env.cells) [] X.env.qual none .none (some X.env)) (fun cenv s₄ =>
      codeAny (model X.prog X.w) X.A (.compStart (.ListComp elt [⟨tg, iter, ifs, 0⟩] scope pos) 0 (.ref it) acc { cenv with scope := relabel scope X.env }) (RR acc cenv.locals) s₄) E s₃) E s₂ := by
  refine wpAny_newObj_type (wpAny_newFunctionEnv S.nocell (by intro y hy; simp at hy) (fun h₁ hns₁ hsb₁ => ?_) S.kind)
  dsimp only at hns₁ hsb₁ ⊢
  generalize hH2 : s₂.heap.push { cls := .type "list", dict := none, data := .seq ([] : List Value).toArray } = H2 at hns₁ hsb₁ ⊢
  have hC : H2.objs.size = s₂.heap.objs.size + 1 := hH2 ▸ Heap.size_push ..
  have hDC : s₂.heap.objs.size ≠ H2.objs.size := Nat.ne_of_lt (by omega)
  have hCle : s₂.heap.objs.size ≤ H2.objs.size := hC ▸ Nat.le_add_right _ 1
  have below : ∀ b, b < s₂.heap.objs.size → b ≠ H2.objs.size ∧ b ≠ s₂.heap.objs.size := fun b hb => ⟨Nat.ne_of_lt (Nat.lt_of_lt_of_le hb hCle), Nat.ne_of_lt hb⟩
  have old : ∀ b o, s₂.heap.get? b = some o → h₁.get? b = some o := fun b o e => hsb₁.extBut b o (below b (Heap.lt_size e)).1 (Heap.get?_push_of_some _ (hH2 ▸ Heap.get?_push_of_some _ e))
  have hacc : h₁.get? s₂.heap.objs.size = some { cls := .type "list", data := .seq ([] : List Value).toArray 0 } := hsb₁.extBut _ _ hDC (Heap.get?_push_of_some _ (hH2 ▸ Heap.get?_push_size _ rfl))
  have hflt : ∀ b ∈ fp, b < s₂.heap.objs.size := fun b hb => by
    obtain ⟨o, e, _⟩ := T.obj 0 _ st b hb
    exact Heap.lt_size e
  generalize hCd : H2.objs.size = C at *
  generalize hDd : s₂.heap.objs.size = D at *
  have hDnf : D ∉ X.fs := I.nofs (Nat.le_of_eq hDd)
  have stat : ∀ {H' : Hp} {o : Obj}, (∀ b ∈ fp, H' b = none) → ∀ b ∈ fp, FpOk (compCx X N' scope C fp s₂ H₂) [(D, o)] H' b := fun {H' o} hn b hb =>
    ⟨hn b hb, (ne_lt (hflt b hb) hCle), fun z => (S.ok I (hDd ▸ hCle) hf (by rw [hDd]; exact hflt)).exfs b hb z, .inl hb, fun x c h => (hf b hb).2.2.2.2.1 x c (clOf_lookup h), fun p hp => by
      have e : p = (D, o) := by
        have hp' : p ∈ [(D, o)] := hp
        simpa using hp'
      subst e
      exact Ne.symm (Nat.ne_of_lt (hflt b hb))⟩
  have loop : ∀ s₃ : Shared, s₃ = { s₂ with heap := h₁, toks := s₂.toks + ([] : List (Str × Value)).length } →
      codeAny (model X.prog X.w) X.A (.compLoop (.ListComp elt [⟨tg, iter, ifs, 0⟩] scope pos) 0 (.ref it) (.ref D) (compEnvC scope (clOf scope.names X.env.cells) C X.env)) (RR (.ref D) C) s₃ := by
    rintro s₃ rfl
    refine compLoop_any (fun n s' => ∃ i ys us nn H', Inv (compCx X N' scope C fp s₂ H₂) [(D, { cls := .type "list", data := .seq (us : List Value).toArray nn })] (List.replicate own.length none ++ σ) H' s' ∧ Vals ys us ∧ ys.length ≤ sizeLine ∧
      tn i s'.heap ∧ (∀ b ∈ fp, H' b = none) ∧ W i n ys H') ?_ m0 ⟨0, [], [], 0, H₂, S.inv (m := fun x => ([] : List (Str × Value)).reverse.lookup x) I (by rw [hDd]; exact hCle) hf (by rw [hDd]; exact hflt) rfl rfl old hns₁ hacc (Nat.le_of_eq hDd) hDC (by intro v z; cases z), .nil, Nat.zero_le _,
        T.keep _ _ _ st fun b hb o e => old b o e, fun b hb => (hf b hb).1, w0⟩
    rintro n s3 ⟨i, ys, us, nn, H3, I3, rv, hyz, st3, fr3, w3⟩
    rcases turn i n ys H3 w3 with ⟨stop, qn⟩ | ⟨go, hlt, N1, N0, hN1, hN0, step⟩
    · refine thn (T.done (compCx X N' scope C fp s₂ H₂) rfl rfl rfl hc i _ s3 _ H3 (fun _ _ => False) I3 (stat fr3) st3 stop) fun r s4 ⟨hr, I4⟩ => ?_
      subst hr
      obtain ⟨e4, n4, ne4, nf4, d4⟩ := I4.pin (D, _) (List.mem_append_right _ (List.mem_cons_self))
      obtain ⟨mC, hmC, _⟩ := I4.loc
      have hH4 : H3 D = none := n4
      -- the list is tracked from here on
      have U : Un (frs X.stack) fp H₂ H3 s₂.heap s4.heap := I4.base
      have U' : Un (frs X.stack) fp H₂ (upd H3 D (.lst ys)) s₂.heap s4.heap :=
        { keep := U.keep, slot := U.slot, there := U.there
          free := fun b o e nb hx => by
            rw [upd_ne (ne_lt (Heap.lt_size e) (Nat.le_of_eq hDd))]
            exact U.free b o e nb hx
          tups := fun b xs e => by
            rw [upd_ne (ne_lt (I.hok.lt e) (Nat.le_of_eq hDd))]
            exact U.tups b xs e
          frzs := fun b o xs e => by
            rw [upd_ne (ne_lt (I.hok.lt e) (Nat.le_of_eq hDd))]
            exact U.frzs b o xs e
          tbls := fun b ps e => by
            rw [upd_ne (ne_lt (I.hok.lt e) (Nat.le_of_eq hDd))]
            exact U.tbls b ps e }
      have hokD : HOk X.prog X.w (upd H3 D (.lst ys)) s4.heap := fun b u e => by
        by_cases hb : b = D
        · subst hb
          rw [upd_same] at e
          cases e
          exact ⟨hyz, us, nn, rv, e4⟩
        · rw [upd_ne hb] at e
          exact (I4.hok b u e).stay (fun _ _ _ q => q) (fun c q => by rw [upd_ne (ne_of_none q hH4)]; exact q) fun c xs q => by rw [upd_ne (ne_of_none q hH4)]; exact q
      have IX : Inv X pins σ (upd H3 D (.lst ys)) s4 := I.call' I4.os U' hokD I4.bare fun b hb => by
        obtain ⟨f0, f1, f2, f3, f4, f5⟩ := hf b hb
        exact ⟨f3, f1, f4, f5⟩
      have hDne : C ≠ D := fun z => hDC z.symm
      refine hRR D C s4 _ mC IX (qn D hH4) hmC (by rw [upd_ne hDne]; exact I4.free) (fun z => ?_) ?_ (fun x c h z => ?_) fun p hp z => ?_
      · exact ne_lt I.lt (hDd ▸ hCle) z.symm
      · exact Nat.le_trans I.sz (hDd ▸ hCle)
      · obtain ⟨v, o, ho, _⟩ := I.cell x c h
        exact ne_lt (Heap.lt_size ho) (hDd ▸ hCle) z
      · exact ne_lt (Heap.lt_size (I.pin p hp).1) (hDd ▸ hCle) z
    · refine thn (T.item (compCx X N' scope C fp s₂ H₂) rfl rfl rfl hc i _ s3 _ H3 (fun _ _ => False) I3 (stat fr3) st3 go) fun r s4 ⟨u, hr, h4⟩ => ?_
      subst hr
      refine thn h4 fun _ s5 ⟨x, H5, I5, r5, y5, st5, fr5⟩ => ?_
      have I5' := I5.pinned (stat fr5) (T.obj _ _ st5)
      refine thn (hg C s₂ H₂ _ s5 _ H5 x u _ I5' r5 (step x H5 y5)) fun _ s6 ⟨σ6, H6, I6, q6⟩ => ?_
      have back : ∀ {σ7 : St} {H7 : Hp} {s7 : Shared} {pp : List (Addr × Obj)}, Inv (compCx X N' scope C fp s₂ H₂) (pp ++ pinsAt fp s5.heap) σ7 H7 s7 → tn (i + 1) s7.heap ∧ ∀ b ∈ fp, H7 b = none := fun {σ7 H7 s7 pp} I7 => by
        refine ⟨T.keep _ _ _ st5 fun b hb o e => (I7.pin (b, o) (List.mem_append_right _ (List.mem_append_right _ (mem_pinsAt hb e)))).1, fun b hb => ?_⟩
        obtain ⟨o, e, d⟩ := T.obj _ _ st5 b hb
        exact (I7.pin (b, o) (List.mem_append_right _ (List.mem_append_right _ (mem_pinsAt hb e)))).2.1
      refine thn (ht C s₂ H₂ _ s6 σ6 H6 _ I6 q6) fun b s7 ⟨H7, I7, q7⟩ => ?_
      -- the outer part of the state is the same at each turn
      have weak : ∀ {H8 : Hp} {s8 : Shared} {pp : List (Addr × Obj)}, Inv (compCx X N' scope C fp s₂ H₂) pp σ6 H8 s8 → Inv (compCx X N' scope C fp s₂ H₂) pp (List.replicate own.length none ++ σ) H8 s8 := fun {H8 s8 pp} J8 => by
        obtain ⟨mC, hmC, _⟩ := J8.loc
        refine ⟨J8.ok, J8.os, J8.bare, J8.base, ⟨mC, hmC, fun j y v e1 e2 e3 => ?_⟩, J8.cell, J8.free, J8.freeC, J8.pin, J8.hok, I3.len⟩
        -- what the def's cells hold is what they held at the block's entry
        obtain ⟨m3, hm3, hl3⟩ := (S.inv (m := fun x => ([] : List (Str × Value)).reverse.lookup x) (s₄ := { s₂ with heap := h₁, toks := s₂.toks + ([] : List (Str × Value)).length }) I (by rw [hDd]; exact hCle) hf (by rw [hDd]; exact hflt) rfl rfl old hns₁ hacc (Nat.le_of_eq hDd) hDC (by intro v z; cases z)).loc
        obtain ⟨u', r', l'⟩ := hl3 j y v e1 e2 e3
        refine ⟨u', r', ?_⟩
        rcases l' with ⟨k', z'⟩ | ⟨k', c, hcl, o, ho, hd⟩
        · have hge : own.length ≤ j := by
            refine Nat.le_of_not_lt fun hj => ?_
            rw [List.getElem?_append_left (by simpa using hj), List.getElem?_replicate] at e2
            split at e2 <;> cases e2
          have e1' : (N'.drop own.length)[j - own.length]? = some y := by
            rw [List.getElem?_drop, show own.length + (j - own.length) = j by omega]
            exact e1
          exact absurd k' (S.apart y (List.mem_of_getElem? e1'))
        · obtain ⟨vc, oc, hoc, hdc⟩ := I.cell y c (clOf_lookup hcl)
          have ec : oc = o := by
            have := old c oc hoc
            rw [this] at ho
            exact Option.some.inj ho
          subst ec
          obtain ⟨sl, hsl⟩ := J8.base.any hoc (I.freeC y c (clOf_lookup hcl)) (fun z => (hf c z).2.2.2.2.1 y c (clOf_lookup hcl) rfl)
          exact .inr ⟨k', c, hcl, _, hsl, hd⟩
      cases b with
      | false =>
        obtain ⟨m', hm, w7⟩ := hN0 _ q7
        obtain ⟨st7, fr7⟩ := back I7
        exact ⟨m', hm, i + 1, ys, us, nn, H7, weak I7.unpinned, rv, hyz, st7, fr7, w7⟩
      | true =>
        refine thn (he C s₂ H₂ _ s7 σ6 H7 _ I7 q7) fun yv s8 ⟨y, H8, I8, r8, q8⟩ => ?_
        obtain ⟨m', hm, w8⟩ := hN1 _ _ q8
        obtain ⟨st8, fr8⟩ := back I8
        obtain ⟨e8, n8, ne8, nf8, d8⟩ := I8.pin (D, _) (List.mem_append_right _ (List.mem_append_left _ List.mem_cons_self))
        refine append_at (hsz := by rw [List.size_toArray, ← rv.length]; exact hyz) e8 fun h9 hs9 hD9 => ?_
        have I8' : Inv (compCx X N' scope C fp s₂ H₂) [] σ6 H8 s8 := I8.pins_of fun p hp => nomatch hp
        have I9 : Inv (compCx X N' scope C fp s₂ H₂) [] σ6 H8 { s8 with heap := h9 } := I8'.turned (t' := s8.toks) (it := D) (fun b o hb e => hs9.extBut b o hb e) n8 ne8 (.inr (Nat.le_of_eq hDd)) (fun x c h z => by
          obtain ⟨v, o, ho, _⟩ := I.cell x c (clOf_lookup h)
          exact ne_lt (Heap.lt_size ho) (Nat.le_of_eq hDd) z) fun p hp => nomatch (show p ∈ ([] : List (Addr × Obj)) from hp)
        have eqD : ({ cls := .type "list", data := .seq (us.toArray.push yv) (nn + 1) } : Obj) = { cls := .type "list", data := .seq (us ++ [yv]).toArray (nn + 1) } := by rw [List.push_toArray]
        refine ⟨m', hm, i + 1, ys ++ [y], us ++ [yv], nn + 1, H8, weak (I9.pins_of fun p hp => ?_), rv.append (.cons r8 .nil), by rw [List.length_append]; exact hlt, T.keep _ _ _ st8 fun b hb o e => hs9.extBut b o (Nat.ne_of_lt (hflt b hb)) e, fr8, w8⟩
        have e : p = (D, { cls := .type "list", data := .seq (us ++ [yv]).toArray (nn + 1) }) := by simpa using hp
        subst e
        exact ⟨by rw [← eqD]; exact hD9, n8, ne8, nf8, by intro v z; cases z⟩
  exact codeAny_compStart_list (loop _ rfl) (T.self _ 0 _ _ _ (T.keep _ _ _ st fun b hb o e => old b o e) (loop _ rfl))
end
end L2

set_option Elab.async false
set_option linter.all false
set_option maxRecDepth 100000
set_option maxHeartbeats 4000000
namespace L2
open PySem PySem.Spec PyProof.Rows
section
variable {X : Cx}
/-! ### [elt for tg in iter if ..] -/
theorem comp_close {own N' : List Str} {scope : Scope} (S : CompScope X own N' scope) {pins : List (Addr × Obj)} {s : Shared} {σ : St} {H : Hp} (I : Inv X pins σ H s) :
    closureFor scope X.env = pure (clOf scope.names X.env.cells) := closureFor_cl fun p hp hf => I.ok.has p.1 (S.free p hp hf)
theorem pe_comp {own N' : List Str} {scope : Scope} {elt tg iter : Expr} {ifs : List Expr} {pos : Pos} {wi : TI} {g : TG} {tt : TT} {te : TE} (hc : X.calm = true) (S : CompScope X own N' scope) (hi : PI X tg iter wi)
    (hg : ∀ C fp s H, PG (compCx X N' scope C fp s H) tg g) (ht : ∀ C fp s H, PTs (compCx X N' scope C fp s H) ifs tt) (he : ∀ C fp s H, PE (compCx X N' scope C fp s H) elt te)
    (hs : ∀ x, foldedSetIterable iter X.env x = pure x := by intro _; rfl) : PE X (.ListComp elt [⟨tg, iter, ifs, 0⟩] scope pos) (tComp own.length wi g tt te) := by
  intro pins s σ H Q I h
  rw [eval_ListComp]
  refine wpAny_comprehension_free (use := none) rfl hs (comp_close S I) S.kind S.names (thn (hi pins s σ H _ I h) fun v s1 h1 => thn h1 fun itv s2 h2 => ?_)
  obtain ⟨it, fp, tn, J, H2, e, I2, T, st2, f2, W, ⟨m0, w0⟩, turn⟩ := h2
  subst e
  refine comp_block (RR := fun acc C => compPost (model X.prog X.w) X.A X.xe none (EP X pins σ Q) acc C) hc S (fun C s H => hg C fp s H) (fun C s H => ht C fp s H) (fun C s H => he C fp s H) I2 T st2 f2 W m0 w0 turn ?_
  intro D C s' H' m' I' q' hn hC h1 h2' h3 h4
  refine ⟨m', hn, fun h' hsb => ?_⟩
  exact ⟨.ref D, H', I'.turned (t' := s'.toks) (it := C) (fun b o hb e => hsb.extBut b o hb e) hC h1 (.inr h2') h3 h4, rfl, q'⟩
/-- name = [..]: the store ahead of the letting go -/
theorem ps_setcomp {own N' : List Str} {scope : Scope} {elt tg iter : Expr} {ifs : List Expr} {pos spos py : Pos} {wi : TI} {g : TG} {tt : TT} {te : TE} {i : Nat} {y : Str} (hN : X.N.Nodup) (hy : X.N[i]? = some y) (hx : Loc X.env.scope y) (hc : X.calm = true) (S : CompScope X own N' scope) (hi : PI X tg iter wi)
    (hg : ∀ C fp s H, PG (compCx X N' scope C fp s H) tg g) (ht : ∀ C fp s H, PTs (compCx X N' scope C fp s H) ifs tt) (he : ∀ C fp s H, PE (compCx X N' scope C fp s H) elt te)
    (hsw : swapsWith (.ListComp elt [⟨tg, iter, ifs, 0⟩] scope pos) (some (.Name y py)) spos.line X.env = pure true)
    (hs : ∀ x, foldedSetIterable iter X.env x = pure x := by intro _; rfl) (hf : X.fn y = true ∨ X.env.scope.names.lookup y = some .local := by first | exact .inl rfl | exact .inr rfl | assumption) :
    PS X (.Assign [.Name y py] (.ListComp elt [⟨tg, iter, ifs, 0⟩] scope pos) spos) (tAsg (tComp own.length wi g tt te) (gName i)) := by
  intro pins s σ H D I h
  rw [exec_Assign_Name_used _ _ _ _ hsw]
  refine wpAny_bind (wpAny_standAt (wpAny_bind ?_))
  show wpAny _ X.A (do let _ ← comprehension (.ListComp elt [⟨tg, iter, ifs, 0⟩] scope pos) scope X.env _ (newList []) false (eval iter X.env) (some (assign (.Name y py) X.env))) _ _ s
  refine wpAny_bind (wpAny_mono (wpAny_comprehension_free (use := some (assign (.Name y py) X.env)) (Q := fun _ s' => SP X pins D .next s') rfl hs (comp_close S I) S.kind S.names
    (thn (hi pins s σ H _ I h) fun v s1 h1 => thn h1 fun itv s2 h2 => ?_)) (fun _ s' hq => wpAny_pure (wpAny_pure hq)) fun _ _ e => e)
  obtain ⟨it, fp, tn, J, H2, e, I2, T, st2, f2, W, ⟨m0, w0⟩, turn⟩ := h2
  subst e
  refine comp_block (Q := fun x H1 => gName i x σ H1 D.nx) (RR := fun acc C => compPost (model X.prog X.w) X.A X.xe (some (assign (.Name y py) X.env)) (fun _ s' => SP X pins D .next s') acc C) hc S (fun C s H => hg C fp s H) (fun C s H => ht C fp s H) (fun C s H => he C fp s H) I2 T st2 f2 W m0 w0 turn ?_
  intro D' C s' H' m' I' q' hn hC h1 h2' h3 h4
  show wpAny _ X.A (assign (.Name y py) X.env (.ref D')) _ _ _
  refine wpAny_assign_Name (store_ok2 (v := .ref D') I' hN hy hx rfl (fun s'' I'' hch => ?_) hf)
  obtain ⟨a, hsa, ha⟩ := hch
  have hCa : C ≠ a := by
    rcases ha with z | z
    · rw [z]; exact h1
    · exact Ne.symm (h3 _ _ z)
  refine ⟨m', hn.sameBut hsa hCa, fun h' hsb => ?_⟩
  exact ⟨_, H', I''.turned (t' := s''.toks) (it := C) (fun b o hb e => hsb.extBut b o hb e) hC h1 (.inr h2') h3 h4, q'⟩

/-! ### the forms one uses: f of the item, the items kept -/
/-- over a list that stays: the items come out as f tells -/
theorem comp_list {K : PySem.W.Frag} {a : Addr} {xs : List V} {g : TG} {tt : TT} {te : TE} {k : Nat} {σ : St} {H : Hp} {Q : VK} (Pv : Nat → List V → Hp → Prop) (h0 : Pv 0 [] H) (hl : ∀ i ys H, i ≤ xs.length → Pv i ys H → SqL K H a xs) (hz : xs.length ≤ sizeLine)
    (hs : ∀ i x ys H, xs[i]? = some x → ys.length ≤ i → Pv i ys H → g x (List.replicate k none ++ σ) H fun σ2 H2 => tt σ2 H2 fun b H3 => if b = true then te σ2 H3 (fun y H4 => Pv (i + 1) (ys ++ [y]) H4) else Pv (i + 1) ys H3)
    (hd : ∀ ys H, ys.length ≤ xs.length → Pv xs.length ys H → ∀ p, H p = none → Q (.ref p) (upd H p (.lst ys))) :
    Cmp (Itl K a) k g tt te σ Q H := by
  refine ⟨fun i m ys H => m = xs.length - i ∧ i ≤ xs.length ∧ ys.length ≤ i ∧ Pv i ys H, ⟨xs.length, by simp, Nat.zero_le _, Nat.le_refl _, h0⟩, ?_⟩
  rintro i m ys H ⟨rfl, hi, hy, p⟩
  have q := hl i ys H hi p
  by_cases hlt : i < xs.length
  · refine .inr ⟨⟨xs, xs[i], q, by simp [hlt]⟩, by omega, fun y H' => Pv (i + 1) (ys ++ [y]) H', fun H' => Pv (i + 1) ys H', fun y H' r => ⟨_, by omega, rfl, hlt, by rw [List.length_append]; exact Nat.succ_le_succ hy, r⟩, fun H' r => ⟨_, by omega, rfl, hlt, by omega, r⟩, fun x H' y => ?_⟩
    obtain ⟨e, y⟩ := y
    subst e
    exact hs i x ys _ (y xs q) hy p
  · have e : i = xs.length := by omega
    subst e
    exact .inl ⟨⟨xs, q, Nat.le_refl _⟩, hd ys H hy p⟩
theorem comp_range {lo : Int} {n : Nat} {g : TG} {tt : TT} {te : TE} {k : Nat} {σ : St} {H : Hp} {Q : VK} (Pv : Nat → List V → Hp → Prop) (h0 : Pv 0 [] H) (hz : n ≤ sizeLine)
    (hs : ∀ i ys H, i < n → ys.length ≤ i → Pv i ys H → g (.int (lo + i)) (List.replicate k none ++ σ) H fun σ2 H2 => tt σ2 H2 fun b H3 => if b = true then te σ2 H3 (fun y H4 => Pv (i + 1) (ys ++ [y]) H4) else Pv (i + 1) ys H3)
    (hd : ∀ ys H, ys.length ≤ n → Pv n ys H → ∀ p, H p = none → Q (.ref p) (upd H p (.lst ys))) :
    Cmp (Itr lo n) k g tt te σ Q H := by
  refine ⟨fun i m ys H => m = n - i ∧ i ≤ n ∧ ys.length ≤ i ∧ Pv i ys H, ⟨n, by simp, Nat.zero_le _, Nat.le_refl _, h0⟩, ?_⟩
  rintro i m ys H ⟨rfl, hi, hy, p⟩
  by_cases hlt : i < n
  · refine .inr ⟨hlt, by omega, fun y H' => Pv (i + 1) (ys ++ [y]) H', fun H' => Pv (i + 1) ys H', fun y H' r => ⟨_, by omega, rfl, hlt, by rw [List.length_append]; exact Nat.succ_le_succ hy, r⟩, fun H' r => ⟨_, by omega, rfl, hlt, by omega, r⟩, fun x H' y => ?_⟩
    obtain ⟨e, y⟩ := y
    subst e y
    exact hs i ys _ hlt hy p
  · have e : i = n := by omega
    subst e
    exact .inl ⟨Nat.le_refl _, hd ys H hy p⟩

/-! ### the signs of a text -/
/-! ### lists read, added -/
def rCatS (K : PySem.W.Frag) : R2 := fun x y H Q => ∃ l b xs zs, x = .ref l ∧ y = .ref b ∧ SqL K H l xs ∧ SqL K H b zs ∧ xs.length + zs.length ≤ sizeLine ∧ ∀ p, H p = none → Q (.ref p) (upd H p (.lst (xs ++ zs)))
theorem op_catS : OpR X (binaryOp .Add) (rCatS X.K) := by
  intro pins s σ H x y v u Q I rx ry h
  obtain ⟨l, b, xs, zs, rfl, rfl, hH, hB, hz, q⟩ := h
  cases rx
  cases ry
  obtain ⟨its, r, pl, z⟩ := I.list hH
  obtain ⟨its2, r2, pl2, z2⟩ := I.list hB
  have hl := r.length
  have hl2 := r2.length
  obtain ⟨⟨cls, dd, data, sl⟩, n, ho, hc, _, hd⟩ := pl
  obtain ⟨⟨cls2, dd2, data2, sl2⟩, n2, ho2, hc2, _, hd2⟩ := pl2
  simp only at hc hd hc2 hd2
  subst hc hd hc2 hd2
  have e : its.toArray ++ its2.toArray = (its ++ its2).toArray := by simp
  refine concat_meets ⟨_, ho, rfl⟩ ⟨_, ho2, rfl⟩ noFill_list_add seq_list_add PySem.F.slot_list_add PySem.F.entry_list_add (PySem.F.args_list_add_2 _ _) (list_addW l b its.toArray its2.toArray n n2 dd dd2 sl sl2 (by rw [List.size_toArray, List.size_toArray]; omega)) ⟨ho, ho2, ?_⟩
  rw [e]
  exact ⟨.ref _, _, I.lnew (t' := s.toks) (r.append r2) (by rw [List.length_append]; omega), rfl, q _ I.fresh⟩
/-! ### text slices -/
def rSlS : V → Option Int → Option Int → Hp → VK → Prop := fun x lo hi H Q => ∃ z, x = .str z ∧ z.length ≤ sizeLine ∧ Q (.str (Txt.slice z lo hi)) H
theorem sl_str : SlR X rSlS := by
  intro pins s σ H x v vl vu lo hi sl Q I rx hs pl pu h
  obtain ⟨z, rfl, hz, q⟩ := h
  obtain ⟨t, rfl⟩ := rx
  refine ⟨"str", _, PySem.F.slot_str_getitem.lookup, typeIs_str _ _ _, ?_⟩
  have fin : ∀ (l u : Option (Int × Tok)), l.map (·.1) = lo → u.map (·.1) = hi → s.heap.IsSlice sl l u none → wpAny (model X.prog X.w) X.A (getItem (.str z t) (.ref sl)) (EP X pins σ Q) X.xe s := fun l u el eu hs' => by
    subst el eu
    exact wpAny_getItem_str_slice (l := l) (u := u) (st := none) hs' rfl (post_val_or_str ⟨Nat.le_trans (Txt.slice_le z _ _) hz, fun t' k => ⟨.str _, H, I.tok _, ⟨_, rfl⟩, q⟩⟩)
  cases pl with
  | none =>
    cases pu with
    | none => exact fin none none rfl rfl hs
    | int j tj => exact fin none (some (j, tj)) rfl rfl hs
  | int i ti =>
    cases pu with
    | none => exact fin (some (i, ti)) none rfl rfl hs
    | int j tj => exact fin (some (i, ti)) (some (j, tj)) rfl rfl hs
/-! ### sep.join(list of texts) -/
theorem strsAre_of : ∀ {ys : List Str} {us : List Value}, Vals (ys.map V.str) us → StrsAre us ys
  | [], _, .nil => .nil
  | y :: ys, _, .cons ⟨t, e⟩ r => by
    subst e
    exact .cons y t (strsAre_of r)
def rJoin (K : PySem.W.Frag) : V → List V → Hp → VK → Prop := fun x xs H Q => ∃ z p ys, x = .str z ∧ xs = [.ref p] ∧ SqL K H p (ys.map V.str) ∧ (ys.map (·.length)).sum + ys.length * z.length ≤ 16777216 ∧ Q (.str (Txt.join z ys)) H
theorem mt_join : MtR X "str.join" (rJoin X.K) := by
  intro pins s σ H x xs v us Q I rx rv h
  obtain ⟨z, p, ys, rfl, rfl, hq, hz, q⟩ := h
  obtain ⟨t, rfl⟩ := rx
  obtain ⟨u, rfl, ru⟩ := rv.one
  cases ru
  obtain ⟨its, r, pl, hl⟩ := I.list hq
  exact join_list pl.isList (by simpa using strsAre_of r) hz fun t' k => ⟨.str _, H, I.tok _, ⟨_, rfl⟩, q⟩
/-! ### all(list of bools) -/
/-! ### texts compared -/
/-! ### isinstance(x, T) -/
theorem call_isinst : CallR X (.builtin "isinstance") (fun xs H Q => ∃ x t c b, xs = [x, .ty c] ∧ TyOf X.K H x t ∧ PySem.W.kitOne X.K t (.type c) = some b ∧ Q (.bl b) H) := by
  intro pins s σ H xs us Q I r h
  obtain ⟨x, t, c, b, rfl, ty, hk, q⟩ := h
  obtain ⟨u, w', rfl, ru, rw'⟩ := vals2 r
  cases rw'
  exact isinst_ok I ru ty hk fun tk => ⟨.bl b, H, I.tok _, rfl, q⟩
end
end L2

set_option Elab.async false
set_option linter.all false
set_option maxRecDepth 100000
set_option maxHeartbeats 4000000
namespace L2
open PySem PySem.Spec PyProof.Rows
theorem bt_len : bootBuiltins "len" = some (.builtin "len") := by decide +kernel
theorem bt_max : bootBuiltins "max" = some (.builtin "max") := by decide +kernel
theorem bt_isinstance : bootBuiltins "isinstance" = some (.builtin "isinstance") := by decide +kernel
theorem bt_sorted : bootBuiltins "sorted" = some (.builtin "sorted") := by decide +kernel
theorem bt_int : bootBuiltins "int" = some (.type "int") := by decide +kernel
theorem bt_bool : bootBuiltins "bool" = some (.type "bool") := by decide +kernel
theorem bt_list : bootBuiltins "list" = some (.type "list") := by decide +kernel
theorem bt_tuple : bootBuiltins "tuple" = some (.type "tuple") := by decide +kernel
/-! ### a def that is called by its name -/
structure Callee (P : Program) (w : World) (K : PySem.W.Frag) (mg : Str → Option Value) (base : Heap) (k : Nat) (x : Str) (ps : List Str) (sp : Sp) : Prop where
  ex : ∃ (f : Addr) (fd : FuncData), FnOk P w K mg base CX0 k f fd ps sp ∧ mg x = some (.ref f) ∧ PySem.W.keepIn K (.ref f) = true ∧ Binds K fd ps []
section
variable {X : Cx}
theorem pe_fn {k j : Nat} {x : Str} {ps : List Str} {sp : Sp} {e : Expr} {es : List Expr} {t : TA} {p pos : Pos} (c : Callee X.prog X.w X.K X.mg X.base k x ps sp) (hr : Room j X.A) (hg : Gl X x) (ha : PA X (e :: es) t) (hk : k ≤ j := by decide)
    (hd : (x == ("__debug__" : Str)) = false := by decide) (hs : starEach (e :: es) X.env = (false, eval e X.env) :: starEach es X.env := by rfl) (hplain : (backTo pos (starEach es X.env)).any (·.1) = false := by rfl) : PE X (.Call (.Name x p) (e :: es) [] pos) (tCall sp [] E0 t) := by
  obtain ⟨f, fd, F, hm, hkp, hb⟩ := c.ex
  exact pe_call (hdb := hd) (he := hs) (hpl := hplain) F (hr.mono hk) hg hm hkp hb .nil pass0 ha
/-! ### a block's table, checked -/
def csB (N : List Str) (env : Env) (own N' : List Str) (scope : Scope) : Bool :=
  scope.kind == .function && scope.names.all (fun y => y.2 != .cell) && scope.names.all (fun y => y.2 != .local || scope.names.lookup y.1 == some .local) &&
  scope.names.all (fun y => y.2 != .free || env.kindOf y.1 == some .cell || env.kindOf y.1 == some .free) && N'.length == own.length + N.length &&
  ((N'.drop own.length).zip N).all (fun p => p.1 == p.2 || !(scope.names.contains (p.1, NameKind.free))) && (N'.drop own.length).all (fun x => (relabel scope env).names.lookup x != some .local)
theorem cs {own N' : List Str} {scope : Scope} (h : csB X.N X.env own N' scope = true) : CompScope X own N' scope := by
  unfold csB at h
  simp only [Bool.and_eq_true] at h
  obtain ⟨⟨⟨⟨⟨⟨h1, h2⟩, h3⟩, h4⟩, h5⟩, h6⟩, h7⟩ := h
  have hlen : N'.length = own.length + X.N.length := by simpa using h5
  refine ⟨by simpa using h1, fun y hy => ?_, fun y hy hl => ?_, fun y hy hf => ?_, hlen, fun i x hx hf => ?_, fun x hx => ?_⟩
  · have := List.all_eq_true.mp h2 y hy
    simpa using this
  · have := List.all_eq_true.mp h3 y hy
    simpa [hl] using this
  · have := List.all_eq_true.mp h4 y hy
    simpa [hf] using this
  · have hi : i < (N'.drop own.length).length := (List.getElem?_eq_some_iff.mp hx).1
    have hi' : i < X.N.length := by rw [List.length_drop] at hi; omega
    have hz : ((N'.drop own.length).zip X.N)[i]? = some (x, X.N[i]) := by
      rw [List.getElem?_zip_eq_some]
      exact ⟨hx, by simp [hi']⟩
    have := List.all_eq_true.mp h6 _ (List.mem_of_getElem? hz)
    have hc : scope.names.contains (x, NameKind.free) = true := by simpa using hf
    rw [hc] at this
    have e : x = X.N[i] := by simpa using this
    rw [e]
    simp [hi']
  · have := List.all_eq_true.mp h7 x hx
    simpa using this
end
/-! ### what has been made is kept -/
theorem Same.upd {H H' : Hp} {p : Addr} {o : HO} (e : Same H H') (h : H' p = none) : Same H (upd H' p o) := fun b u q => by
  have q' := e b u q
  rw [upd_ne (ne_of_none q' h)]
  exact q'
theorem Same.tup {K : PySem.W.Frag} {H H' : Hp} {a : Addr} {xs : List V} (e : Same H H') (h : SqT K H a xs) : SqT K H' a xs := by
  rcases h with (h | ⟨o, h⟩) | h
  · exact .inl (.inl (e _ _ h))
  · exact .inl (.inr ⟨o, e _ _ h⟩)
  · exact .inr h
theorem at_ints {ns : List Int} {i : Int} (h0 : 0 ≤ i) (h1 : i < ns.length) : ∃ n, n ∈ ns ∧ atI (ns.map V.int) i = some (.int n) := by
  obtain ⟨j, rfl⟩ : ∃ j : Nat, i = j := ⟨i.toNat, by omega⟩
  have hj : j < ns.length := by omega
  exact ⟨ns[j], List.getElem_mem hj, atI_nat (by simp [hj])⟩
theorem at_cps {z : Str} {i : Int} (h0 : 0 ≤ i) (h1 : i < z.length) : ∃ c, atI z.cps.toList i = some c := by
  obtain ⟨j, rfl⟩ : ∃ j : Nat, i = j := ⟨i.toNat, by omega⟩
  have hj : j < z.cps.toList.length := by
    have : z.length = z.cps.toList.length := by simp [Str.length]
    omega
  exact ⟨z.cps.toList[j], atI_nat (by simp only [List.getElem?_eq_getElem hj])⟩
theorem ixS_any {z : Str} {i : Int} {H : Hp} {Q : VK} (h0 : 0 ≤ i) (h1 : i < z.length) (hz : z.length ≤ sizeLine) (k : ∀ c, Q (.str ⟨#[c]⟩) H) : rIxS (.str z) (.int i) H Q := by
  obtain ⟨c, hc⟩ := at_cps h0 h1
  exact ⟨z, i, c, rfl, rfl, hz, hc, k c⟩
theorem join_le {sep : Str} {l : List Str} : (Txt.join sep l).length ≤ (l.map (·.length)).sum + l.length * sep.length := by
  have e : Txt.join sep l = Str.join sep l := by simpa using join_plain_closes sep l
  rw [e]
  exact PySem.StrLaws.join_length_le sep l
theorem sum_ones : ∀ {l : List Str}, (∀ y ∈ l, y.length = 1) → (l.map (·.length)).sum = l.length
  | [], _ => rfl
  | y :: l, h => by
    rw [List.map_cons, List.sum_cons, h y List.mem_cons_self, sum_ones fun z hz => h z (List.mem_cons_of_mem _ hz), List.length_cons]
    omega
theorem len_app (a b : Str) : (a ++ b).length = a.length + b.length := Str.length_append a b
theorem cmulL {i j : Int} (h1 : -(2 ^ 64) < i) (h2 : i < 2 ^ 64) : CMul i j := .inl ⟨h1, h2⟩
theorem cmulR {i j : Int} (h1 : -(2 ^ 64) < j) (h2 : j < 2 ^ 64) : CMul i j := .inr ⟨h1, h2⟩
/-- law's: a list of at most 63 ints is handed in, True comes out -/
def spLaw (K : PySem.W.Frag) : Sp := fun vs H Q _ => ∃ (a : Addr) (ns : List Int), vs = [.ref a] ∧ SqL K H a (ns.map V.int) ∧ ns.length ≤ 63 ∧ ∀ H', Q (.bl true) H'
end L2

set_option Elab.async false
set_option linter.all false
set_option maxRecDepth 100000
set_option maxHeartbeats 4000000
namespace L2
open PySem PySem.Spec PyProof.Rows
section
variable {X : Cx}
/-! ### isinstance(x, (T, U)) -/
/-! ### a, b, c = a list of that length -/
/-! ### C(..) -/
structure Maker (P : Program) (w : World) (K : PySem.W.Frag) (mg : Str → Option Value) (base : Heap) (k : Nat) (x : Str) (C : Addr) (ps : List Str) (sp : Sp) : Prop where
  ex : ∃ (f : Addr) (fd : FuncData), Mk K C f ∧ FnOk P w K mg base CX0 k f fd ps sp ∧ mg x = some (.ref C) ∧ Binds K fd ps []
/-! ### set(list of texts), its size -/
end
end L2

set_option Elab.async false
set_option linter.all false
set_option maxRecDepth 100000
set_option maxHeartbeats 4000000
namespace L2
open PySem PySem.Spec PyProof.Rows
/-! ### for i, x in enumerate(list) -/
section
variable {X : Cx}
/-! ### max(list of ints, default=d) -/
section
variable {prog : Program} {w : World} {A : Around} {R : Result → Shared → Prop} {I : Addr} {fp wr : List Addr}
end
end
end L2

set_option Elab.async false
set_option linter.all false
set_option maxRecDepth 100000
set_option maxHeartbeats 4000000
namespace L2
open PySem PySem.Spec PyProof.Rows
/-! ### the same rules with the names' facts handed in (closed, so the kernel reckons them) -/
def okVar (N : List Str) (sc : Scope) (i : Nat) (x : Str) : Bool :=
  N[i]? == some x && (sc.names.lookup x == some .local || sc.names.lookup x == some .cell || sc.names.lookup x == some .free) && !(x == ("__debug__" : Str)) && !(x == ("__classdict__" : Str))
def okSet (N : List Str) (sc : Scope) (i : Nat) (x : Str) : Bool := N[i]? == some x && (sc.names.lookup x == some .local || sc.names.lookup x == some .cell)
def okLoc (N : List Str) (sc : Scope) (i : Nat) (x : Str) : Bool := N[i]? == some x && sc.names.lookup x == some .local
def okGl (sc : Scope) (x : Str) : Bool := sc.names.lookup x == some .globalImplicit && !(x == ("__debug__" : Str)) && !(x == ("__name__" : Str))
def notStar : Expr → Bool
  | .Starred .. => false
  | _ => true
theorem star_cons {e : Expr} {es : List Expr} {env : Env} (h : notStar e = true) : starEach (e :: es) env = (false, eval e env) :: starEach es env := by
  cases e <;> first | rfl | cases h
def plainIx : Expr → Bool
  | .Name .. => true
  | .BinOp .. => true
  | .Constant (.int _) .. => true
  | .Call .. => true
  | .Subscript .. => true
  | .Attribute .. => true
  | .UnaryOp .. => true
  | _ => false
theorem plainIx_ok {b : Expr} (h : plainIx b = true) : PlainIx b := by
  intro o i
  cases b <;> first | rfl | cases h
def notComp : Expr → Bool
  | .ListComp .. => false
  | .SetComp .. => false
  | .DictComp .. => false
  | _ => true
theorem notComp_ok {e : Expr} {t : Option Expr} {l : Nat} {env : Env} (h : notComp e = true) : swapsWith e t l env = pure false := by
  cases e <;> first | rfl | cases h
section
variable {X : Cx}
theorem pek_ix {a b : Expr} {ta tb : TE} {pos : Pos} {r : R2} (hr : IxR X r) (ha : PE X a ta) (hb : PE X b tb) (hs : plainIx b = true := by rfl) : PE X (.Subscript a b pos) (tOp r ta tb) := pe_ix hr ha hb (plainIx_ok hs)
theorem pvk (i : Nat) {x : Str} {pos : Pos} (h : okVar X.N X.env.scope i x = true) : PE X (.Name x pos) (tVar i) := by
  unfold okVar at h
  simp only [Bool.and_eq_true, Bool.or_eq_true, beq_iff_eq, Bool.not_eq_true'] at h
  obtain ⟨⟨⟨h1, h2⟩, h3⟩, h4⟩ := h
  refine pe_var h1 ?_ h3 h4
  rcases h2 with (h2 | h2) | h2
  · exact .inl h2
  · exact .inr (.inl h2)
  · exact .inr (.inr h2)
theorem okSet_get {i : Nat} {x : Str} (h : okSet X.N X.env.scope i x = true) : X.N[i]? = some x ∧ Loc X.env.scope x := by
  unfold okSet at h
  simp only [Bool.and_eq_true, Bool.or_eq_true, beq_iff_eq] at h
  exact h
theorem okLoc_get {i : Nat} {x : Str} (h : okLoc X.N X.env.scope i x = true) : X.N[i]? = some x ∧ X.env.scope.names.lookup x = some .local := by
  unfold okLoc at h
  simp only [Bool.and_eq_true, beq_iff_eq] at h
  exact h
theorem okGl_get {x : Str} (h : okGl X.env.scope x = true) : Gl X x ∧ (x == ("__debug__" : Str)) = false ∧ x ≠ "__name__" := by
  unfold okGl at h
  simp only [Bool.and_eq_true, beq_iff_eq, Bool.not_eq_true'] at h
  obtain ⟨⟨h1, h2⟩, h3⟩ := h
  exact ⟨h1, h2, fun z => by rw [z] at h3; simp at h3⟩
theorem psk_set {i : Nat} {x : Str} {e : Expr} {te : TE} {pos pos' : Pos} (hN : X.N.Nodup) (h : okSet X.N X.env.scope i x = true) (he : PE X e te) (hs : notComp e = true := by rfl) (hf : X.fn x = true := by rfl) :
    PS X (.Assign [.Name x pos'] e pos) (tAsg te (gName i)) := ps_set hN (okSet_get h).1 (okSet_get h).2 he (notComp_ok hs) (.inl hf)
theorem pgk_name {i : Nat} {x : Str} {pos : Pos} (hN : X.N.Nodup) (h : okSet X.N X.env.scope i x = true) (hf : X.fn x = true := by rfl) : PG X (.Name x pos) (gName i) := pg_name hN (okSet_get h).1 (okSet_get h).2 (.inl hf)
/-- in a block -/
theorem pgk_own {i : Nat} {x : Str} {pos : Pos} (hN : X.N.Nodup) (h : okLoc X.N X.env.scope i x = true) : PG X (.Name x pos) (gName i) := pg_name hN (okLoc_get h).1 (.inl (okLoc_get h).2) (.inr (okLoc_get h).2)
theorem pac {e : Expr} {es : List Expr} {te : TE} {t : TA} (ha : PE X e te) (hr : PA X es t) (h : notStar e = true := by rfl) : PA X (e :: es) (tCons te t) := pa_cons ha hr (star_cons h)
def noStars (es : List Expr) : Bool := es.all notStar
theorem stars_plain : ∀ {es : List Expr} {env : Env} {pos : Pos}, noStars es = true → (backTo pos (starEach es env)).any (·.1) = false
  | [], _, _, _ => rfl
  | e :: es, env, pos, h => by
    unfold noStars at h
    simp only [List.all_cons, Bool.and_eq_true] at h
    rw [star_cons h.1]
    show (false || (backTo pos (starEach es env)).any (·.1)) = false
    rw [Bool.false_or]
    exact stars_plain h.2
theorem pek_fn {k j : Nat} {x : Str} {ps : List Str} {sp : Sp} {e : Expr} {es : List Expr} {t : TA} {p pos : Pos} (c : Callee X.prog X.w X.K X.mg X.base k x ps sp) (hr : Room j X.A) (hg : okGl X.env.scope x = true) (ha : PA X (e :: es) t) (hk : k ≤ j := by decide) (hst : noStars (e :: es) = true := by rfl) :
    PE X (.Call (.Name x p) (e :: es) [] pos) (tCall sp [] E0 t) := by
  have h1 := hst
  unfold noStars at h1
  simp only [List.all_cons, Bool.and_eq_true] at h1
  exact pe_fn c hr (okGl_get hg).1 ha hk (okGl_get hg).2.1 (star_cons h1.1) (stars_plain h1.2)
theorem pek_callB {x : Str} {id : String} {r : List V → Hp → VK → Prop} {e : Expr} {es : List Expr} {t : TA} {p pos : Pos} (hc : CallR X (.builtin id) r) (hg : okGl X.env.scope x = true) (hm : X.mg x = none) (hv : bootBuiltins x = some (.builtin id)) (ha : PA X (e :: es) t) (hst : noStars (e :: es) = true := by rfl) :
    PE X (.Call (.Name x p) (e :: es) [] pos) (tCB r t) := by
  have h1 := hst
  unfold noStars at h1
  simp only [List.all_cons, Bool.and_eq_true] at h1
  exact pe_callB hc (okGl_get hg).1 hm hv ha (okGl_get hg).2.2 (okGl_get hg).2.1 (star_cons h1.1) (stars_plain h1.2)
theorem pek_callTy {x : Str} {T : String} {r : List V → Hp → VK → Prop} {e : Expr} {es : List Expr} {t : TA} {p pos : Pos} (hc : CallR X (.type T) r) (hg : okGl X.env.scope x = true) (hm : X.mg x = none) (hv : bootBuiltins x = some (.type T)) (ha : PA X (e :: es) t) (hst : noStars (e :: es) = true := by rfl) :
    PE X (.Call (.Name x p) (e :: es) [] pos) (tCB r t) := by
  have h1 := hst
  unfold noStars at h1
  simp only [List.all_cons, Bool.and_eq_true] at h1
  exact pe_callTy hc (okGl_get hg).1 hm hv ha (okGl_get hg).2.2 (okGl_get hg).2.1 (star_cons h1.1) (stars_plain h1.2)
theorem pek_bltn {x : Str} {v : V} {u : Value} {pos : Pos} (hg : okGl X.env.scope x = true) (hm : X.mg x = none) (hv : bootBuiltins x = some u) (r : RelV v u) : PE X (.Name x pos) (tC v) := pe_bltn (okGl_get hg).1 hm hv r (okGl_get hg).2.2 (okGl_get hg).2.1
theorem pik_range1 {tg : Expr} {a : Expr} {ta : TA} {p pos : Pos} (hg : okGl X.env.scope "range" = true) (hm : X.mg "range" = none) (ha : PA X [a] ta) (hs : notStar a = true := by rfl) : PI X tg (.Call (.Name "range" p) [a] [] pos) (iRng1 ta) := pi_range1 (okGl_get hg).1 hm ha (star_cons hs)
end
/-- a block's table over the def's -/
def relabelS (scope sc : Scope) : Scope :=
  { scope with names := scope.names.map fun (n, k) => if (k == .free && sc.kind == .function && sc.names.lookup n == some .cell) then (n, .cell) else (n, k) }
def csB' (N : List Str) (sc : Scope) (own N' : List Str) (scope : Scope) : Bool :=
  scope.kind == .function && scope.names.all (fun y => y.2 != .cell) && scope.names.all (fun y => y.2 != .local || scope.names.lookup y.1 == some .local) &&
  scope.names.all (fun y => y.2 != .free || sc.names.lookup y.1 == some .cell || sc.names.lookup y.1 == some .free) && N'.length == own.length + N.length &&
  ((N'.drop own.length).zip N).all (fun p => p.1 == p.2 || !(scope.names.contains (p.1, NameKind.free))) && (N'.drop own.length).all (fun x => (relabelS scope sc).names.lookup x != some .local)
theorem csk {X : Cx} {own N' : List Str} {scope : Scope} (h : csB' X.N X.env.scope own N' scope = true) : CompScope X own N' scope := cs h
end L2

set_option Elab.async false
set_option linter.all false
set_option maxRecDepth 100000
set_option maxHeartbeats 4000000
namespace L2
open PySem PySem.Spec PyProof.Rows
/-! ### the judgements as structures: an elaborator never looks into them -/
structure QE (X : Cx) (e : Expr) (t : TE) : Prop where
  h : PE X e t
structure QT (X : Cx) (e : Expr) (t : TT) : Prop where
  h : PT X e t
structure QW (X : Cx) (e : Expr) (t : TT) : Prop where
  h : PW X e t
structure QA (X : Cx) (es : List Expr) (t : TA) : Prop where
  h : PA X es t
structure QS (X : Cx) (st : Stmt) (t : TS) : Prop where
  h : PS X st t
structure QSs (X : Cx) (st : List Stmt) (t : TS) : Prop where
  h : PSs X st t
structure QG (X : Cx) (tg : Expr) (t : TG) : Prop where
  h : PG X tg t
structure QGs (X : Cx) (ts : List Expr) (t : TGs) : Prop where
  h : PGs X ts t
structure QI (X : Cx) (tg iter : Expr) (wi : TI) : Prop where
  h : PI X tg iter wi
structure QO (X : Cx) (e : Option Expr) (t : TO) : Prop where
  h : PO X e t
structure QTs (X : Cx) (es : List Expr) (t : TT) : Prop where
  h : PTs X es t
abbrev nNil : TA := fun _ H Q => Q [] H
abbrev nCons (ta : TE) (tr : TA) : TA := fun σ H Q => ta σ H fun x H1 => tr σ H1 fun xs H2 => Q (x :: xs) H2
abbrev nC (v : V) : TE := fun _ H Q => Q v H
abbrev nCB (r : List V → Hp → VK → Prop) (t : TA) : TE := fun σ H Q => t σ H fun vs H1 => r vs H1 Q
abbrev nCall (sp : Sp) (t : TA) : TE := fun σ H Q => t σ H fun vs H1 => sp (vs ++ []) H1 Q E0
def truthE : Expr → Bool
  | .UnaryOp .Not .. => false
  | .BoolOp .. => false
  | .IfExp .. => false
  | .Compare .. => false
  | _ => true
theorem truth_ok {a : Expr} {env : Env} (h : truthE a = true) : ∀ whole, isTrue a env whole = (do let v ← whole; standAt a.pos; holding [v] (truthy v)) := by
  intro whole
  cases a with
  | UnaryOp op x p => cases op <;> first | rfl | cases h
  | _ => first | rfl | cases h
def notSet : Expr → Bool
  | .Set .. => false
  | _ => true
theorem notSet_ok {e : Expr} {env : Env} (h : notSet e = true) : ∀ x, foldedSetIterable e env x = pure x := by
  intro x
  cases e <;> first | rfl | cases h
def plainBase : Expr → Bool
  | .Call .. => false
  | _ => true
theorem base_ok {e : Expr} {f : Str} {env : Env} (h : plainBase e = true) : attributeBase e f env (eval e env) = eval e env := by
  cases e <;> first | rfl | cases h
theorem asg_cons {e : Expr} {es : List Expr} {env : Env} (h : notStar e = true) : assignEach (e :: es) env = (false, assign e env) :: assignEach es env := by
  cases e <;> first | rfl | cases h
theorem asg_len : ∀ {es : List Expr} {env : Env}, noStars es = true → (assignEach es env).length = es.length ∧ (assignEach es env).findIdx? (·.1) = none
  | [], _, _ => ⟨rfl, rfl⟩
  | e :: es, env, h => by
    unfold noStars at h
    simp only [List.all_cons, Bool.and_eq_true] at h
    obtain ⟨h1, h2⟩ := asg_len (es := es) (env := env) h.2
    rw [asg_cons h.1, List.length_cons, List.length_cons, h1]
    exact ⟨rfl, by rw [List.findIdx?_cons]; simp [h2]⟩
theorem few_ok {e : Expr} {es : List Expr} {env : Env} {cpos : Pos} (h : noStars (e :: es) = true) (hl : es.length < 28) : ((backTo cpos (starEach (e :: es) env)).all (fun x => !x.1) && (backToKw cpos (keywordEach [] env)).all (fun x => x.1.isSome)
      && decide ((e :: es).length + ([] : List Keyword).length + (if ([] : List Keyword).isEmpty then 0 else 1) < 30)) = true := by
  have h1 := stars_plain (env := env) (pos := cpos) h
  have h2 : (backTo cpos (starEach (e :: es) env)).all (fun x => !x.1) = true := by
    rw [List.all_eq_true]
    intro x hx
    rw [List.any_eq_false] at h1
    have := h1 x hx
    simpa using this
  rw [h2]
  have h3 : (backToKw cpos (keywordEach [] env)).all (fun x => x.1.isSome) = true := rfl
  rw [h3]
  simp
  omega
section
variable {X : Cx} {a b c e : Expr} {es : List Expr} {ta tb tc te : TE} {tA tB : TT} {t : TA} {pos p : Pos}
theorem qe_int {i : Int} {j : Nat} : QE X (.Constant (.int i) j pos) (nC (.int i)) := ⟨pe_int⟩
theorem qe_bl {b : Bool} {j : Nat} : QE X (.Constant (.bool b) j pos) (nC (.bl b)) := ⟨pe_bl⟩
theorem qe_non {j : Nat} : QE X (.Constant .none j pos) (nC .non) := ⟨pe_non⟩
theorem qe_str {x : Str} {j : Nat} : QE X (.Constant (.str x) j pos) (nC (.str x)) := ⟨pe_str⟩
theorem qv (i : Nat) {x : Str} (h : okVar X.N X.env.scope i x = true) : QE X (.Name x pos) (tVar i) := ⟨pvk i h⟩
theorem qe_bltn {x : Str} {v : V} {u : Value} (hg : okGl X.env.scope x = true) (hm : X.mg x = none) (hv : bootBuiltins x = some u) (r : RelV v u) : QE X (.Name x pos) (nC v) := ⟨pek_bltn hg hm hv r⟩
theorem qe_op {op : Operator} {r : R2} (ho : OpR X (binaryOp op) r) (ha : QE X a ta) (hb : QE X b tb) : QE X (.BinOp a op b pos) (tOp r ta tb) := ⟨pe_op ho ha.h hb.h⟩
theorem qt_cmp {op : CmpOp} {r : R2} (ho : OpR X (compareOp op) r) (ha : QE X a ta) (hb : QE X b tb) (hm : behindInMarks op b = false := by first | exact nomark _ | with_unfolding_all rfl) : QT X (.Compare a [op] [b] pos) (tTest (tOp r ta tb)) := ⟨pt_cmpR ho ha.h hb.h hm⟩
theorem qe_one {op : BoolOp} (h : QE X a ta) : QE X (.BoolOp op [a] pos) ta := ⟨pe_one h.h⟩
theorem qe_and {rest : List Expr} (ha : QE X a ta) (hb : QE X (.BoolOp .And (b :: rest) pos) tb) : QE X (.BoolOp .And (a :: b :: rest) pos) (tAndV ta tb) := ⟨pe_and ha.h hb.h⟩
theorem qe_not (ha : QE X a ta) : QE X (.UnaryOp .Not a pos) (tNotV ta) := ⟨pe_not ha.h⟩
theorem qw_or1 (ha : QT X a tA) : QW X (.BoolOp .Or [a] pos) tA := ⟨pw_or1 ha.h⟩
theorem qw_or {rest : List Expr} (ha : QT X a tA) (hb : QW X (.BoolOp .Or (b :: rest) pos) tB) : QW X (.BoolOp .Or (a :: b :: rest) pos) (tOr tA tB) := ⟨pw_or ha.h hb.h⟩
theorem qt_w (h : QW X a tA) : QT X a tA := ⟨h.h.pt⟩
theorem qt_not (ha : QT X a tA) : QT X (.UnaryOp .Not a pos) (tNot tA) := ⟨pt_not ha.h⟩
theorem qt_val (ha : QE X a ta) (h : truthE a = true := by rfl) : QT X a (fun σ H Q => ta σ H fun x H' => ∃ k, TruV X.K x H' k ∧ Q k H') := ⟨pt_truth ha.h (truth_ok h)⟩
theorem qa_nil : QA X [] nNil := ⟨pa_nil⟩
theorem qa_cons (ha : QE X e te) (hr : QA X es t) (h : notStar e = true := by rfl) : QA X (e :: es) (nCons te t) := ⟨pac ha.h hr.h h⟩
theorem qe_lst (h : QA X es t) : QE X (.List es pos) (tLst t) := ⟨pe_lst h.h⟩
theorem qe_tup {x1 : Nat} (h : QA X es t) : QE X (.Tuple es x1 pos) (tTup t) := ⟨pe_tup h.h⟩
theorem qe_ix {r : R2} (hr : IxR X r) (ha : QE X a ta) (hb : QE X b tb) (hs : plainIx b = true := by rfl) : QE X (.Subscript a b pos) (tOp r ta tb) := ⟨pek_ix hr ha.h hb.h hs⟩
theorem qo_none : QO X none tNoPart := ⟨po_none⟩
theorem qo_some (h : QE X e te) : QO X (some e) (tPart te) := ⟨po_some h.h⟩
theorem qe_slice {lo hi : Option Expr} {tl th : TO} {p2 : Pos} {r : V → Option Int → Option Int → Hp → VK → Prop} (hr : SlR X r) (he : QE X e te) (hl : QO X lo tl) (hu : QO X hi th) : QE X (.Subscript e (.Slice lo hi none p2) pos) (tSl r te tl th) := ⟨pe_slice hr he.h hl.h hu.h⟩
theorem qe_fn {k j : Nat} {x : Str} {ps : List Str} {sp : Sp} (c : Callee X.prog X.w X.K X.mg X.base k x ps sp) (hr : Room j X.A) (hg : okGl X.env.scope x = true) (ha : QA X (e :: es) t) (hk : k ≤ j := by decide) (hst : noStars (e :: es) = true := by rfl) : QE X (.Call (.Name x p) (e :: es) [] pos) (nCall sp t) := ⟨pek_fn c hr hg ha.h hk hst⟩
theorem qe_callB {x : Str} {id : String} {r : List V → Hp → VK → Prop} (hc : CallR X (.builtin id) r) (hg : okGl X.env.scope x = true) (hm : X.mg x = none) (hv : bootBuiltins x = some (.builtin id)) (ha : QA X (e :: es) t) (hst : noStars (e :: es) = true := by rfl) : QE X (.Call (.Name x p) (e :: es) [] pos) (nCB r t) := ⟨pek_callB hc hg hm hv ha.h hst⟩
theorem qe_callTy {x : Str} {T : String} {r : List V → Hp → VK → Prop} (hc : CallR X (.type T) r) (hg : okGl X.env.scope x = true) (hm : X.mg x = none) (hv : bootBuiltins x = some (.type T)) (ha : QA X (e :: es) t) (hst : noStars (e :: es) = true := by rfl) : QE X (.Call (.Name x p) (e :: es) [] pos) (nCB r t) := ⟨pek_callTy hc hg hm hv ha.h hst⟩
theorem qe_bm {o : Expr} {to : TE} {name : Str} {apos cpos : Pos} {T id : String} {r : V → List V → Hp → VK → Prop} (pa : PlainAttrs T) (slot : Slot T name id) (hty : typeOf (.builtin id) = pure (.type "method_descriptor")) (hm : MtR X id r) (ho : QE X o to) (ha : QA X (e :: es) t)
    (hb : plainBase o = true := by rfl) (hst : noStars (e :: es) = true := by rfl) (hl : es.length < 28 := by decide) (hline : (apos.endLine == cpos.line) = true := by rfl) : QE X (.Call (.Attribute o name apos) (e :: es) [] cpos) (tBM X.K T r to t) := by
  have h1 := hst
  unfold noStars at h1
  simp only [List.all_cons, Bool.and_eq_true] at h1
  exact ⟨pe_bm pa slot hty hm ho.h ha.h (base_ok hb) (few_ok hst hl) hline (star_cons h1.1) (stars_plain h1.2)⟩
theorem qe_bm0 {o : Expr} {to : TE} {name : Str} {apos cpos : Pos} {T id : String} {r : V → List V → Hp → VK → Prop} (pa : PlainAttrs T) (slot : Slot T name id) (hty : typeOf (.builtin id) = pure (.type "method_descriptor")) (hm : MtR X id r) (ho : QE X o to)
    (hb : plainBase o = true := by rfl) (hline : (apos.endLine == cpos.line) = true := by rfl) : QE X (.Call (.Attribute o name apos) [] [] cpos) (tBM0 X.K T r to) := ⟨pe_bm0 pa slot hty hm ho.h (base_ok hb) hline⟩
/-! blocks, targets, loops -/
theorem qg_name {i : Nat} {x : Str} (hN : X.N.Nodup) (h : okSet X.N X.env.scope i x = true) (hf : X.fn x = true := by rfl) : QG X (.Name x pos) (gName i) := ⟨pgk_name hN h hf⟩
theorem qg_own {i : Nat} {x : Str} (hN : X.N.Nodup) (h : okLoc X.N X.env.scope i x = true) : QG X (.Name x pos) (gName i) := ⟨pgk_own hN h⟩
theorem qgs_nil : QGs X [] gNil := ⟨pgs_nil⟩
theorem qgs_cons {tg : TG} {u : TGs} (h1 : QG X e tg) (h2 : QGs X es u) (h : notStar e = true := by rfl) : QGs X (e :: es) (gCons tg u) := ⟨pgs_cons h1.h h2.h (by rw [asg_cons h]; rfl)⟩
theorem qg_tup {k : Nat} {u : TGs} (hc : X.calm = true) (h : QGs X es u) (hst : noStars es = true := by rfl) : QG X (.Tuple es k pos) (gTup X.K es.length u) := ⟨pg_tup hc h.h (asg_len hst).1 (asg_len hst).2⟩
theorem qi_list {tg : Expr} (hl : QE X e te) : QI X tg e (iList X.K te) := ⟨pi_list hl.h⟩
theorem qi_range1 {tg : Expr} (hg : okGl X.env.scope "range" = true) (hm : X.mg "range" = none) (ha : QA X [a] t) (hs : notStar a = true := by rfl) : QI X tg (.Call (.Name "range" p) [a] [] pos) (iRng1 t) := ⟨pik_range1 hg hm ha.h hs⟩
theorem qts_nil : QTs X [] tAll := ⟨pts_nil⟩
theorem qts_one (h : QT X c tA) : QTs X [c] tA := ⟨pts_one h.h⟩
theorem qe_comp {own N' : List Str} {scope : Scope} {elt tg iter : Expr} {ifs : List Expr} {wi : TI} {g : TG} {tt : TT} (hc : X.calm = true) (S : csB' X.N X.env.scope own N' scope = true) (hi : QI X tg iter wi)
    (hg : ∀ C fp s H, QG (compCx X N' scope C fp s H) tg g) (ht : ∀ C fp s H, QTs (compCx X N' scope C fp s H) ifs tt) (he : ∀ C fp s H, QE (compCx X N' scope C fp s H) elt te)
    (hs : notSet iter = true := by rfl) : QE X (.ListComp elt [⟨tg, iter, ifs, 0⟩] scope pos) (tComp own.length wi g tt te) :=
  ⟨pe_comp hc (csk S) hi.h (fun C fp s H => (hg C fp s H).h) (fun C fp s H => (ht C fp s H).h) (fun C fp s H => (he C fp s H).h) (notSet_ok hs)⟩
theorem qs_setcomp {own N' : List Str} {scope : Scope} {elt tg iter : Expr} {ifs : List Expr} {spos py : Pos} {wi : TI} {g : TG} {tt : TT} {i : Nat} {y : Str} (hN : X.N.Nodup) (h : okSet X.N X.env.scope i y = true) (hc : X.calm = true) (S : csB' X.N X.env.scope own N' scope = true) (hi : QI X tg iter wi)
    (hg : ∀ C fp s H, QG (compCx X N' scope C fp s H) tg g) (ht : ∀ C fp s H, QTs (compCx X N' scope C fp s H) ifs tt) (he : ∀ C fp s H, QE (compCx X N' scope C fp s H) elt te)
    (hsw : swapsWith (.ListComp elt [⟨tg, iter, ifs, 0⟩] scope pos) (some (.Name y py)) spos.line X.env = pure true) (hs : notSet iter = true := by rfl) (hf : X.fn y = true := by rfl) :
    QS X (.Assign [.Name y py] (.ListComp elt [⟨tg, iter, ifs, 0⟩] scope pos) spos) (tAsg (tComp own.length wi g tt te) (gName i)) :=
  ⟨ps_setcomp hN (okSet_get h).1 (okSet_get h).2 hc (csk S) hi.h (fun C fp s H => (hg C fp s H).h) (fun C fp s H => (ht C fp s H).h) (fun C fp s H => (he C fp s H).h) hsw (notSet_ok hs) (.inl hf)⟩
theorem qs_set {i : Nat} {x : Str} {pos' : Pos} (hN : X.N.Nodup) (h : okSet X.N X.env.scope i x = true) (he : QE X e te) (hs : notComp e = true := by rfl) (hf : X.fn x = true := by rfl) : QS X (.Assign [.Name x pos'] e pos) (tAsg te (gName i)) := ⟨psk_set hN h he.h hs hf⟩
theorem qs_if {ss tt : List Stmt} {u v : TS} (hc : QT X c tA) (ha : QSs X ss u) (hb : QSs X tt v) : QS X (.If c ss tt pos) (tIfS tA u v) := ⟨ps_if hc.h ha.h hb.h⟩
theorem qs_for {tg iter : Expr} {body : List Stmt} {wi : TI} {g : TG} {u : TS} (hp : PassesOwn (model X.prog X.w) X.A X.env X.xe) (hc : X.calm = true) (hi : QI X tg iter wi) (hg : QG X tg g) (hb : QSs X body u) (hs : notSet iter = true := by rfl) : QS X (.For tg iter body [] pos) (tFor wi g u) :=
  ⟨ps_for hp hc hi.h hg.h hb.h (notSet_ok hs)⟩
theorem qs_ret (he : QE X e te) : QS X (.Return (some e) pos) (tRet te) := ⟨ps_ret he.h⟩
theorem qs_expr (he : QE X e te) (hs : notComp e = true := by rfl) : QS X (.Expr e pos) (tDrop te) := ⟨ps_expr he.h (notComp_ok hs)⟩
theorem qss_nil : QSs X [] tNext := ⟨pss_nil⟩
theorem qss_cons {st : Stmt} {rest : List Stmt} {u v : TS} (h1 : QS X st u) (h2 : QSs X rest v) : QSs X (st :: rest) (tSeq u v) := ⟨pss_cons h1.h h2.h⟩
theorem qss_one {st : Stmt} {u : TS} (h1 : QS X st u) : QSs X [st] u := ⟨pss_one h1.h⟩
end
section
variable {P : Program} {w : World} {K : PySem.W.Frag} {mg : Str → Option Value} {base : Heap}
theorem Fun.okQ {x qual : Str} {st : Stmt} {f : Addr} {fd : FuncData} {N ps : List Str} {k : Nat} {sp : Sp} (F : Fun K x qual st f fd) (S : FnScope N ps (defScope st)) (len : ∀ vs H Q E, sp vs H Q E → vs.length = ps.length)
    (hbody : ∀ (cdv : Value) (A : Around) (outer : List Env) (s : Shared) (H : Hp) (vs : List V) (Q : VK) (E : XK), Room k (A.deeper (envOfC qual (defScope st) s.heap.objs.size f cdv)) → sp vs H Q E →
      ∃ t, QSs (cxOf CX0 P w K mg base N qual (defScope st) f cdv A outer s H E).nox (defBody st) t ∧ t { nx := fun _ H' => Q .non H', rt := Q } (L2.start N vs) H) : FnOk P w K mg base CX0 (k + 1) f fd ps sp :=
  F.ok S len fun cdv A outer s H vs Q E hr h => let ⟨t, ht, q⟩ := hbody cdv A outer s H vs Q E hr h; ⟨t, ht.h, q⟩
end
end L2

set_option Elab.async false
set_option linter.all false
set_option maxRecDepth 100000
set_option maxHeartbeats 4000000
namespace L2
open PySem PySem.Spec PyProof.Rows
/-! ### a list or a tuple that is tracked -/
def Trk (H : Hp) (a : Addr) (xs : List V) : Prop := H a = some (.lst xs) ∨ H a = some (.tup xs)
theorem Trk.same {H H' : Hp} {a : Addr} {xs : List V} (e : Same H H') (h : Trk H a xs) : Trk H' a xs := h.elim (fun h => .inl (e _ _ h)) fun h => .inr (e _ _ h)
theorem Trk.sq {K : PySem.W.Frag} {H : Hp} {a : Addr} {xs : List V} (h : Trk H a xs) : SqL K H a xs ∨ SqT K H a xs := h.elim (fun h => .inl (SqL.of h)) fun h => .inr (SqT.of h)
theorem Trk.ty {K : PySem.W.Frag} {H : Hp} {a : Addr} {xs : List V} (h : Trk H a xs) : TyOf K H (.ref a) (.type "list") ∨ TyOf K H (.ref a) (.type "tuple") := h.elim (fun h => .inl (.lst h)) fun h => .inr (.tup h)
section
variable {X : Cx}
end
/-! ### rows: a list or tuple of tuples -/
def RowP {α : Type} (f : α → List V) (H : Hp) (v : V) (x : α) : Prop := ∃ p, v = .ref p ∧ H p = some (.tup (f x))
def RowsAt {α : Type} (f : α → List V) (H : Hp) (v : V) (xs : List α) : Prop := ∃ a vs, v = .ref a ∧ Trk H a vs ∧ Paired (RowP f H) vs xs
theorem RowP.same {α : Type} {f : α → List V} {H H' : Hp} {v : V} {x : α} (e : Same H H') (h : RowP f H v x) : RowP f H' v x := let ⟨p, a, b⟩ := h; ⟨p, a, e _ _ b⟩
theorem paired_same {α : Type} {f : α → List V} {H H' : Hp} (e : Same H H') : ∀ {vs : List V} {xs : List α}, Paired (RowP f H) vs xs → Paired (RowP f H') vs xs
  | _, _, .nil => .nil
  | _, _, .cons r t => .cons (r.same e) (paired_same e t)
theorem RowsAt.same {α : Type} {f : α → List V} {H H' : Hp} {v : V} {xs : List α} (e : Same H H') (h : RowsAt f H v xs) : RowsAt f H' v xs := let ⟨a, vs, h1, h2, h3⟩ := h; ⟨a, vs, h1, h2.same e, paired_same e h3⟩
theorem paired_get {α β : Type} {F : α → β → Prop} : ∀ {vs : List α} {xs : List β} {i : Nat} {v : α}, Paired F vs xs → vs[i]? = some v → ∃ x, xs[i]? = some x ∧ F v x
  | _, _, _, _, .nil, e => by simp at e
  | _, _, 0, _, .cons r _, e => by simp at e; subst e; exact ⟨_, rfl, r⟩
  | _, _, i + 1, v, .cons _ t, e => by
    obtain ⟨x, h1, h2⟩ := paired_get (i := i) (v := v) t (by simpa using e)
    exact ⟨x, by simpa using h1, h2⟩
theorem paired_snoc {α β : Type} {F : α → β → Prop} {vs : List α} {xs : List β} {v : α} {x : β} (h : Paired F vs xs) (r : F v x) : Paired F (vs ++ [v]) (xs ++ [x]) := Paired.snoc h r
theorem take_snoc {α : Type} {xs : List α} {i : Nat} {x : α} (h : xs[i]? = some x) : xs.take (i + 1) = xs.take i ++ [x] := by
  rw [List.take_add_one, h]
  rfl
/-! ### tuple(x), by a name -/
def rTupOf (K : PySem.W.Frag) : List V → Hp → VK → Prop := fun xs H Q => ∃ p ys, xs = [.ref p] ∧ ((SqL K H p ys ∧ ∀ l, H l = none → Q (.ref l) (upd H l (.tup ys))) ∨ (SqT K H p ys ∧ Q (.ref p) H))
theorem call_tupleN {X : Cx} : CallR X (.type "tuple") (rTupOf X.K) := call_tuple_of
theorem tuple_any {K : PySem.W.Frag} {H : Hp} {a : Addr} {us : List V} {Q : VK} (h : Trk H a us) (k : ∀ q H', H' q = some (.tup us) → Same H H' → Q (.ref q) H') : rTupOf K [.ref a] H Q := by
  rcases h with h | h
  · exact ⟨a, us, rfl, .inl ⟨SqL.of h, fun l hl => k l _ upd_same ((Same.refl H).upd hl)⟩⟩
  · exact ⟨a, us, rfl, .inr ⟨SqT.of h, k a H h (Same.refl H)⟩⟩
/-! ### the same where the reading names the fragment (within a block) -/
section
variable {X : Cx} {K : PySem.W.Frag} {a b e : Expr} {es : List Expr} {ta tb te : TE} {t : TA} {pos p : Pos}
theorem sl_tupK (h : X.K = K := by rfl) : SlR X (rSlT K) := h ▸ sl_tup
theorem qg_tupK {k : Nat} {u : TGs} (hc : X.calm = true) (h : QGs X es u) (hst : noStars es = true := by rfl) (hK : X.K = K := by rfl) : QG X (.Tuple es k pos) (gTup K es.length u) := hK ▸ qg_tup hc h hst
end
end L2

set_option Elab.async false
set_option linter.all false
set_option maxRecDepth 100000
set_option maxHeartbeats 4000000
namespace L2
open PySem PySem.Spec PyProof.Rows
/-! ### lists and tuples that are equal, to a depth -/
def EqS (H : Hp) : Nat → V → V → Prop
  | 0, x, y => x = y ∧ (flatV x = true ∨ ∃ p, x = .ref p)
  | n + 1, x, y => (x = y ∧ (flatV x = true ∨ ∃ p, x = .ref p)) ∨ ∃ a b xs ys, x = .ref a ∧ y = .ref b ∧ ((H a = some (.tup xs) ∧ H b = some (.tup ys)) ∨ (H a = some (.lst xs) ∧ H b = some (.lst ys))) ∧ Paired (EqS H n) xs ys
theorem EqS.ref {H : Hp} {n : Nat} {p : Addr} : EqS H n (.ref p) (.ref p) := by
  cases n with
  | zero => exact ⟨rfl, .inr ⟨p, rfl⟩⟩
  | succ n => exact .inl ⟨rfl, .inr ⟨p, rfl⟩⟩
theorem EqS.flat {H : Hp} {n : Nat} {x : V} (h : flatV x = true) : EqS H n x x := by
  cases n with
  | zero => exact ⟨rfl, .inl h⟩
  | succ n => exact .inl ⟨rfl, .inl h⟩
theorem eqV_refl {x : V} (h : flatV x = true) : eqV x x = true := by
  cases x with
  | non => rfl
  | bl b => simp [eqV]
  | int i => simp [eqV]
  | str z => simp [eqV]
  | _ => exact absurd (show false = true from h) Bool.false_ne_true
section
variable {X : Cx} {pins : List (Addr × Obj)} {σ : L2.St} {H : Hp} {s : Shared}
theorem eq_same {A : Around} {x : V} {u v : Value} (h : flatV x = true ∨ ∃ p, x = .ref p) (r : RelV x u) (r' : RelV x v) : SeqAt.EqAt A s u v true := by
  rcases h with h | ⟨p, rfl⟩
  · have := eqAt_V (A := A) (s := s) r r' h h
    rw [eqV_refl h] at this
    exact this
  · cases r
    cases r'
    exact SeqAt.EqAt.same _
theorem vals_pair {F : V → V → Prop} : ∀ {xs ys : List V} {us vs : List Value}, Paired F xs ys → Vals xs us → Vals ys vs → us.length = vs.length ∧ ∀ (j : Nat) (h1 : j < us.length) (h2 : j < vs.length), ∃ x y, F x y ∧ RelV x us[j] ∧ RelV y vs[j]
  | _, _, _, _, .nil, .nil, .nil => ⟨rfl, fun j h1 => absurd h1 (Nat.not_lt_zero _)⟩
  | _, _, _, _, .cons f t, .cons r rs, .cons r' rs' => by
    obtain ⟨e, h⟩ := vals_pair t rs rs'
    refine ⟨congrArg (· + 1) e, fun j h1 h2 => ?_⟩
    cases j with
    | zero => exact ⟨_, _, f, r, r'⟩
    | succ j => exact h j (Nat.lt_of_succ_lt_succ h1) (Nat.lt_of_succ_lt_succ h2)
theorem all_true (n : Nat) : (List.range n).all (fun _ => true) = true := by simp
theorem eqS_at (I : Inv X pins σ H s) : ∀ (n : Nat) {A : Around} {x y : V} {u v : Value}, A.units + n < cLine → EqS H n x y → RelV x u → RelV y v → SeqAt.EqAt A s u v true
  | 0, A, x, y, u, v, hu, ⟨e, h⟩, r, r' => by subst e; exact eq_same h r r'
  | n + 1, A, x, y, u, v, hu, .inl ⟨e, h⟩, r, r' => by subst e; exact eq_same h r r'
  | n + 1, A, x, y, u, v, hu, .inr ⟨a, b, xs, ys, ea, eb, h, hp⟩, r, r' => by
    subst ea eb
    cases r
    cases r'
    by_cases hne : a = b
    · subst hne
      exact SeqAt.EqAt.same _
    have hu1 : A.units < cLine := by omega
    rcases h with ⟨h1, h2⟩ | ⟨h1, h2⟩
    · obtain ⟨its, rv, p, _⟩ := I.tuple (SqT.of h1)
      obtain ⟨its2, rv2, p2, _⟩ := I.tuple (SqT.of h2)
      obtain ⟨el, hj⟩ := vals_pair hp rv rv2
      have := SeqAt.RcAt.tuples (A := A) (e := fun _ => true) (show s.heap.IsTuple a its.toArray from p) (show s.heap.IsTuple b its2.toArray from p2) hu1 (fun j h1 h2 => by
        obtain ⟨x, y, f, r1, r2⟩ := hj j (by simpa using h1) (by simpa using h2)
        have := eqS_at I n (A := A.in1) (by rw [Around.in1_units]; omega) f r1 r2
        simpa using this)
      rw [all_true, Bool.true_and, show (its.toArray.size == its2.toArray.size) = true by simp [el]] at this
      exact SeqAt.EqAt.of_refs hne this
    · obtain ⟨its, rv, p, _⟩ := I.list (SqL.of h1)
      obtain ⟨its2, rv2, p2, _⟩ := I.list (SqL.of h2)
      obtain ⟨el, hj⟩ := vals_pair hp rv rv2
      have := SeqAt.RcAt.lists (A := A) (e := fun _ => true) p.isList p2.isList (by simp [el]) hu1 (fun j h1 h2 => by
        obtain ⟨x, y, f, r1, r2⟩ := hj j (by simpa using h1) (by simpa using h2)
        have := eqS_at I n (A := A.in1) (by rw [Around.in1_units]; omega) f r1 r2
        simpa using this)
      rw [all_true] at this
      exact SeqAt.EqAt.of_refs hne this
end
/-- two lists, two tuples, all of whose items are equal -/
def rSame (b : Bool) : R2 := fun x y H Q => ∃ a c xs ys, x = .ref a ∧ y = .ref c ∧ ((H a = some (.tup xs) ∧ H c = some (.tup ys)) ∨ (H a = some (.lst xs) ∧ H c = some (.lst ys))) ∧ Paired (EqS H 8) xs ys ∧ Q (.bl b) H
section
variable {X : Cx}
theorem op_neQ (hu : X.A.units + 16 < cLine) : OpR X (compareOp .NotEq) (rSame false) := by
  intro pins s σ H x y v u Q I rx ry h
  obtain ⟨a, c, xs, ys, rfl, rfl, h, hp, q⟩ := h
  cases rx
  cases ry
  rcases h with ⟨h1, h2⟩ | ⟨h1, h2⟩
  · obtain ⟨its, rv, p, _⟩ := I.tuple (SqT.of h1)
    obtain ⟨its2, rv2, p2, _⟩ := I.tuple (SqT.of h2)
    obtain ⟨el, hj⟩ := vals_pair hp rv rv2
    have := SeqAt.RcNeAt.tuples (A := X.A) (e := fun _ => true) (show s.heap.IsTuple a its.toArray from p) (show s.heap.IsTuple c its2.toArray from p2) (by omega) (fun j h1 h2 => by
      obtain ⟨x, y, f, r1, r2⟩ := hj j (by simpa using h1) (by simpa using h2)
      have := eqS_at I 8 (A := X.A.in1) (by rw [Around.in1_units]; omega) f r1 r2
      simpa using this)
    rw [all_true, Bool.true_and, show (its.toArray.size == its2.toArray.size) = true by simp [el]] at this
    exact this _ _ _ _ ⟨.bl false, H, I, rfl, q⟩
  · obtain ⟨its, rv, p, _⟩ := I.list (SqL.of h1)
    obtain ⟨its2, rv2, p2, _⟩ := I.list (SqL.of h2)
    obtain ⟨el, hj⟩ := vals_pair hp rv rv2
    have := SeqAt.RcNeAt.lists (A := X.A) (e := fun _ => true) p.isList p2.isList (by simp [el]) (by omega) (fun j h1 h2 => by
      obtain ⟨x, y, f, r1, r2⟩ := hj j (by simpa using h1) (by simpa using h2)
      have := eqS_at I 8 (A := X.A.in1) (by rw [Around.in1_units]; omega) f r1 r2
      simpa using this)
    rw [all_true] at this
    exact this _ _ _ _ ⟨.bl false, H, I, rfl, q⟩
end
theorem paired_self {H : Hp} : ∀ {xs : List V}, (∀ x ∈ xs, flatV x = true ∨ ∃ p, x = .ref p) → Paired (EqS H 8) xs xs
  | [], _ => .nil
  | x :: xs, h => .cons (.inl ⟨rfl, h x (by simp)⟩) (paired_self fun y hy => h y (by simp [hy]))
end L2

set_option Elab.async false
set_option linter.all false
set_option maxRecDepth 100000
set_option maxHeartbeats 4000000
namespace L2
open PySem PySem.Spec PyProof.Rows
/-! ### lists of pairs as tables -/
section
variable {κ : Type} [DecidableEq κ]
def valV (kvs : List (κ × V)) (k : κ) : Option V := (kvs.find? fun kv => decide (kv.1 = k)).map (·.2)
/-- in its place, or at the end -/
def putK (kvs : List (κ × V)) (k : κ) (v : V) : List (κ × V) :=
  if (kvs.any fun kv => decide (kv.1 = k)) = true then kvs.map (fun kv => if kv.1 = k then (kv.1, v) else kv) else kvs ++ [(k, v)]
def dropK (kvs : List (κ × V)) (k : κ) : List (κ × V) := kvs.filter fun kv => decide (kv.1 ≠ k)

theorem valV_pos {p : κ × V} {r : List (κ × V)} {k : κ} (e : p.1 = k) : valV (p :: r) k = some p.2 := by simp [valV, List.find?_cons, e]
theorem valV_neg {p : κ × V} {r : List (κ × V)} {k : κ} (e : ¬ p.1 = k) : valV (p :: r) k = valV r k := by simp [valV, List.find?_cons, e]
theorem valV_any (k : κ) : ∀ kvs : List (κ × V), (kvs.any fun kv => decide (kv.1 = k)) = (valV kvs k).isSome
  | [] => rfl
  | p :: r => by
    rw [List.any_cons]
    by_cases e : p.1 = k
    · simp only [valV_pos e, decide_eq_true e, Bool.true_or, Option.isSome_some]
    · rw [valV_neg e, decide_eq_false e, Bool.false_or]; exact valV_any k r
theorem length_putK (kvs : List (κ × V)) (k : κ) (v : V) : (putK kvs k v).length ≤ kvs.length + 1 := by
  unfold putK
  split
  · rw [List.length_map]; omega
  · rw [List.length_append, List.length_cons, List.length_nil]; omega
theorem RelO.isSome_eq {o : Option V} {u : Option Value} (r : RelO o u) : o.isSome = u.isSome := by
  cases o with
  | none => cases u with
    | none => rfl
    | some _ => exact (show False from r).elim
  | some _ => cases u with
    | none => exact (show False from r).elim
    | some _ => rfl
theorem RelO.getD {o : Option V} {u : Option Value} {d : V} {d' : Value} (r : RelO o u) (rd : RelV d d') : RelV (o.getD d) (u.getD d') := by
  cases o with
  | none => cases u with
    | none => exact rd
    | some _ => exact (show False from r).elim
  | some _ => cases u with
    | none => exact (show False from r).elim
    | some _ => exact r

/-- raw tables of the same keys -/
theorem KV.val {kvs : List (κ × V)} {vs : List (κ × Value)} (r : KV kvs vs) (k : κ) : RelO (valV kvs k) (valueAt vs k) := by
  unfold KV at r
  induction r with
  | nil => exact True.intro
  | @cons p q ps qs h t ih =>
    obtain ⟨h1, h2⟩ := h
    by_cases e : p.1 = k
    · have e' : q.1 = k := h1.symm.trans e
      have b : valueAt (q :: qs) k = some q.2 := by simp [valueAt, List.find?_cons, e']
      rw [valV_pos e, b]; exact h2
    · have e' : ¬ q.1 = k := fun z => e (h1.trans z)
      have b : valueAt (q :: qs) k = valueAt qs k := by simp [valueAt, List.find?_cons, e']
      rw [valV_neg e, b]; exact ih
theorem KV.any {kvs : List (κ × V)} {vs : List (κ × Value)} (r : KV kvs vs) (k : κ) : (kvs.any fun kv => decide (kv.1 = k)) = vs.any fun kv => decide (kv.1 = k) := by
  unfold KV at r
  induction r with
  | nil => rfl
  | cons h t ih => rw [List.any_cons, List.any_cons, ih, h.1]
theorem KV.repl {kvs : List (κ × V)} {vs : List (κ × Value)} (r : KV kvs vs) (k : κ) {y : V} {u : Value} (ry : RelV y u) :
    KV (kvs.map fun kv => if kv.1 = k then (kv.1, y) else kv) (vs.map fun kv => if kv.1 = k then (kv.1, u) else kv) := by
  unfold KV at r ⊢
  induction r with
  | nil => exact .nil
  | @cons p q ps qs h t ih =>
    rw [List.map_cons, List.map_cons]
    refine .cons ?_ ih
    obtain ⟨h1, h2⟩ := h
    by_cases e : p.1 = k
    · rw [if_pos e, if_pos (h1.symm.trans e)]; exact ⟨h1, ry⟩
    · rw [if_neg e, if_neg (fun z => e (h1.trans z))]; exact ⟨h1, h2⟩
theorem KV.put {kvs : List (κ × V)} {vs : List (κ × Value)} (r : KV kvs vs) (k : κ) {y : V} {u : Value} (ry : RelV y u) : KV (putK kvs k y) (stored vs k u) := by
  unfold putK stored
  rw [r.any k]
  by_cases e : (vs.any fun kv => decide (kv.1 = k)) = true
  · rw [if_pos e, if_pos e]; exact r.repl k ry
  · rw [if_neg e, if_neg e]; exact Paired.snoc r ⟨rfl, ry⟩
theorem KV.drop {kvs : List (κ × V)} {vs : List (κ × Value)} (r : KV kvs vs) (k : κ) : KV (dropK kvs k) (without vs k) := by
  unfold KV at r ⊢
  unfold dropK without
  induction r with
  | nil => exact .nil
  | @cons p q ps qs h t ih =>
    obtain ⟨h1, h2⟩ := h
    rw [List.filter_cons, List.filter_cons]
    by_cases e : p.1 = k
    · have a : ¬ decide (p.1 ≠ k) = true := by simp [e]
      have b : ¬ decide (q.1 ≠ k) = true := by simp [h1.symm.trans e]
      rw [if_neg a, if_neg b]; exact ih
    · have e' : ¬ q.1 = k := fun z => e (h1.trans z)
      have a : decide (p.1 ≠ k) = true := by simp [e]
      have b : decide (q.1 ≠ k) = true := by simp [e']
      rw [if_pos a, if_pos b]; exact .cons ⟨h1, h2⟩ ih
theorem KV.keys {kvs : List (κ × V)} {vs : List (κ × Value)} (r : KV kvs vs) : kvs.map (·.1) = vs.map (·.1) := by
  unfold KV at r
  induction r with
  | nil => rfl
  | cons h t ih => rw [List.map_cons, List.map_cons, ih, h.1]
theorem KV.length {kvs : List (κ × V)} {vs : List (κ × Value)} (r : KV kvs vs) : kvs.length = vs.length := Paired.length r
end


/-! ### a tracked dict, its keys ints and texts or tuples of these -/
theorem kV_is {P : Program} {w : World} {k : Key} {u : Value} (r : RelV (kV k) u) : (mixKind P w).is k u = true := by
  cases k with
  | inl i => obtain ⟨t, e⟩ := (show ∃ t, u = Value.int i t from r); subst e; exact mixKind_int P w i t
  | inr x => obtain ⟨t, e⟩ := (show ∃ t, u = Value.str x t from r); subst e; exact mixKind_str P w x t
theorem items_are {P : Program} {w : World} : ∀ {ks : List Key} {us : List Value}, Vals (ks.map kV) us → ItemsAre (mixKind P w) ks us
  | [], _, r => by rw [List.map_nil] at r; cases r; exact .nil
  | k :: ks, _, r => by
    rw [List.map_cons] at r
    cases r with
    | cons h t => exact .cons (kV_is h) (items_are t)

/-- raw entries of a dict with tuple keys -/
abbrev KT (H : Hp) : List (List Key × V) → List (List Key × Addr × Value) → Prop := Paired fun p q => p.1 = q.1 ∧ H q.2.1 = some (.tup (p.1.map kV)) ∧ RelV p.2 q.2.2
theorem KT.val {H : Hp} {kvs : List (List Key × V)} {xs : List (List Key × Addr × Value)} (r : KT H kvs xs) (k : List Key) : RelO (valV kvs k) ((atKey xs k).map (·.2)) := by
  induction r with
  | nil => exact True.intro
  | @cons p q ps qs h t ih =>
    obtain ⟨h1, _, h2⟩ := h
    by_cases e : p.1 = k
    · have e' : q.1 = k := h1.symm.trans e
      have b : atKey (q :: qs) k = some q.2 := by simp [atKey, List.find?_cons, e']
      rw [valV_pos e, b]; exact h2
    · have e' : ¬ q.1 = k := fun z => e (h1.trans z)
      have b : atKey (q :: qs) k = atKey qs k := by simp [atKey, List.find?_cons, e']
      rw [valV_neg e, b]; exact ih
theorem KT.repl {H : Hp} {kvs : List (List Key × V)} {xs : List (List Key × Addr × Value)} (r : KT H kvs xs) (k : List Key) {y : V} {u : Value} (ry : RelV y u) :
    KT H (kvs.map fun kv => if kv.1 = k then (kv.1, y) else kv) (xs.map (putAt k u)) := by
  induction r with
  | nil => exact .nil
  | @cons p q ps qs h t ih =>
    rw [List.map_cons, List.map_cons]
    refine .cons ?_ ih
    obtain ⟨h1, h2, h3⟩ := h
    unfold putAt
    by_cases e : p.1 = k
    · rw [if_pos e, if_pos (h1.symm.trans e)]; exact ⟨h1, h2, ry⟩
    · rw [if_neg e, if_neg (fun z => e (h1.trans z))]; exact ⟨h1, h2, h3⟩
theorem KT.put {H : Hp} {kvs : List (List Key × V)} {xs : List (List Key × Addr × Value)} (r : KT H kvs xs) (k : List Key) {b : Addr} {y : V} {u : Value} (hb : H b = some (.tup (k.map kV))) (ry : RelV y u) :
    KT H (putK kvs k y) (storedH xs k b u) := by
  have e : (kvs.any fun kv => decide (kv.1 = k)) = (atKey xs k).isSome := by
    rw [valV_any, (r.val k).isSome_eq, Option.isSome_map]
  unfold putK storedH
  rw [e]
  by_cases q : (atKey xs k).isSome = true
  · rw [if_pos q, if_pos q]; exact r.repl k ry
  · rw [if_neg q, if_neg q]; exact Paired.snoc r ⟨rfl, hb, ry⟩
theorem KT.keeps {H H' : Hp} {kvs : List (List Key × V)} {xs : List (List Key × Addr × Value)} (r : KT H kvs xs) (ht : ∀ b ys, H b = some (.tup ys) → H' b = some (.tup ys)) : KT H' kvs xs :=
  Paired.mapP r fun _ _ z => ⟨z.1, ht _ _ z.2.1, z.2.2⟩

section
variable {P : Program} {w : World} {H : Hp} {h : Heap} {a : Addr}
theorem rd_of {u : HO} (ok : HOk P w H h) (e : Rd H a u) : ObjOk P w H h a u := e.ok ok
theorem dk_rd {kvs : List (Key × V)} (ok : HOk P w H h) (e : Rd H a (.dK kvs)) : kvs.length ≤ sizeLine ∧ (a == sysModules) = false ∧ ∃ vs, KV kvs vs ∧ h.DictOf (mixKind P w) a vs :=
  show ObjOk P w H h a (.dK kvs) from rd_of ok e
theorem dk_of {kvs : List (Key × V)} (ok : HOk P w H h) (e : H a = some (.dK kvs)) : kvs.length ≤ sizeLine ∧ (a == sysModules) = false ∧ ∃ vs, KV kvs vs ∧ h.DictOf (mixKind P w) a vs := dk_rd ok (.inl e)
/-- a tracked tuple of ints and texts is a key -/
theorem key_of {ks : List Key} (ok : HOk P w H h) (e : H a = some (.tup (ks.map kV))) : (tupleKind (mixKind P w)).is h ks a := by
  obtain ⟨_, its, r, o, h1, h2, n, h3⟩ := (show ObjOk P w H h a (.tup (ks.map kV)) from ok a _ e)
  exact ⟨o, its.toArray, n, h1, h2, h3, by simpa using items_are r⟩
theorem dt_rd {kvs : List (List Key × V)} (ok : HOk P w H h) (e : Rd H a (.dT kvs)) : kvs.length ≤ sizeLine ∧ (a == sysModules) = false ∧
    ∃ xs, KT H kvs xs ∧ h.DictOfH (tupleKind (mixKind P w)) a xs := by
  obtain ⟨z, y, xs, r, o, es, ep, h1, h2, h3, h4, h5⟩ := (show ObjOk P w H h a (.dT kvs) from rd_of ok e)
  refine ⟨z, y, xs, r, o, es, ep, h1, h2, h3, h4, fun x hx => ?_, h5⟩
  have all : ∀ {l : List (List Key × V)} {m : List (List Key × Addr × Value)}, KT H l m → ∀ x ∈ m, (tupleKind (mixKind P w)).is h x.1 x.2.1 := by
    intro l m q
    induction q with
    | nil => intro x hx; exact nomatch hx
    | @cons p q ps qs hq t ih =>
      intro x hx
      rcases List.mem_cons.mp hx with e | hx
      · subst e
        exact key_of ok (by rw [← hq.1]; exact hq.2.1)
      · exact ih x hx
  exact all r x hx
theorem dt_of {kvs : List (List Key × V)} (ok : HOk P w H h) (e : H a = some (.dT kvs)) : kvs.length ≤ sizeLine ∧ (a == sysModules) = false ∧
    ∃ xs, KT H kvs xs ∧ h.DictOfH (tupleKind (mixKind P w)) a xs := dt_rd ok (.inl e)
end

/-- what the dict at a holds at the key y -/
def DGet (H : Hp) (a : Addr) (y : V) (r : Option V) : Prop :=
  (∃ kvs k, Rd H a (.dK kvs) ∧ y = kV k ∧ r = valV kvs k) ∨ ∃ kvs k b, Rd H a (.dT kvs) ∧ y = .ref b ∧ H b = some (.tup (k.map kV)) ∧ r = valV kvs k
/-- the heap behind a[y] = v -/
def DPut (H : Hp) (a : Addr) (y v : V) (H' : Hp) : Prop :=
  (∃ kvs k, H a = some (.dK kvs) ∧ y = kV k ∧ kvs.length < sizeLine ∧ H' = upd H a (.dK (putK kvs k v))) ∨
  ∃ kvs k b, H a = some (.dT kvs) ∧ y = .ref b ∧ H b = some (.tup (k.map kV)) ∧ kvs.length < sizeLine ∧ H' = upd H a (.dT (putK kvs k v))
theorem DGet.t {H : Hp} {a b : Addr} {kvs : List (List Key × V)} {k : List Key} (e : H a = some (.dT kvs)) (eb : H b = some (.tup (k.map kV))) : DGet H a (.ref b) (valV kvs k) := .inr ⟨kvs, k, b, .inl e, rfl, eb, rfl⟩
theorem DPut.t {H : Hp} {a b : Addr} {kvs : List (List Key × V)} {k : List Key} {v : V} (e : H a = some (.dT kvs)) (eb : H b = some (.tup (k.map kV))) (hl : kvs.length < sizeLine) :
    DPut H a (.ref b) v (upd H a (.dT (putK kvs k v))) := .inr ⟨kvs, k, b, e, rfl, eb, hl, rfl⟩


section
variable {X : Cx} {pins : List (Addr × Obj)} {σ : St} {H : Hp} {s : Shared} {a : Addr} {y v : V} {u r : Value} {o : Option V} {A : Around} {E : Value → Shared → Prop}

theorem Inv.big (I : Inv X pins σ H s) : sysModules < s.heap.objs.size := by
  have h : mainGlobals < s.heap.objs.size := (I.mod.glob.keeps I.bk).lt
  exact Nat.lt_trans (by decide) h

/-- d[y], there -/
theorem d_getItem {Q : Value → Shared → Prop} (hu : A.units + 1 < cLine) (I : Inv X pins σ H s) (g : DGet H a y (some v)) (ry : RelV y u) (h : ∀ w' s', Inv X pins σ H s' → RelV v w' → Q w' s') :
    wpAny (model X.prog X.w) A (getItem (.ref a) u) Q E s := by
  rcases g with ⟨kvs, k, e, ey, l⟩ | ⟨kvs, k, b, e, ey, eb, l⟩
  · subst ey
    obtain ⟨z, hd, vs, rel, dd⟩ := dk_rd I.hok e
    obtain ⟨w', hw, rw'⟩ := RelO.some_of (v := v) (o := valueAt vs k) (by rw [l]; exact rel.val k)
    exact wpAny_getItem_of (kV_is ry) dd.mapOf hw (h w' _ (I.tok _) rw')
  · subst ey
    cases (show u = Value.ref b from ry)
    obtain ⟨z, hd, xs, rel, dd⟩ := dt_rd I.hok e
    obtain ⟨w', hw, rw'⟩ := RelO.some_of (v := v) (o := (atKey xs k).map (·.2)) (by rw [l]; exact rel.val k)
    obtain ⟨p, hp, hp2⟩ := Option.map_eq_some_iff.mp hw
    refine wpAny_getItem_heap (tupleKind_room_in1 hu) (key_of I.hok eb) dd hp ?_
    rw [hp2]
    exact h w' _ (I.tok _) rw'
/-- a dict's object is replaced -/
theorem d_write {h' : Heap} {t' : Nat} {ob : HO} (I : Inv X pins σ H s) (mu : Mut (H a)) (hs : Heap.SameBut a s.heap h') (he : ∃ q, h'.get? a = some q) (new : ObjOk X.prog X.w (upd H a ob) h' a ob) :
    Inv X pins σ (upd H a ob) { s with heap := h', toks := t' } :=
  I.write (x := a) (e := a) mu (.inl rfl) (fun b q hb z => (hs.2 b hb).trans z) he new
theorem dk_new {P : Program} {w : World} {H' : Hp} {h' : Heap} {kvs : List (Key × V)} {vs : List (Key × Value)} (z : kvs.length ≤ sizeLine) (hd : (a == sysModules) = false) (rel : KV kvs vs) (dd : h'.DictOf (mixKind P w) a vs) :
    ObjOk P w H' h' a (.dK kvs) := ⟨z, hd, vs, rel, dd⟩
/-- d[y] = v -/
theorem d_setItem {H' : Hp} {Q : Unit → Shared → Prop} (hu : A.units + 1 < cLine) (I : Inv X pins σ H s) (g : DPut H a y v H') (ry : RelV y u) (rv : RelV v r) (h : ∀ s', Inv X pins σ H' s' → Q () s') :
    wpAny (model X.prog X.w) A (setItem (.ref a) u r) Q E s := by
  rcases g with ⟨kvs, k, e, ey, l, eH⟩ | ⟨kvs, k, b, e, ey, eb, l, eH⟩
  · subst ey eH
    obtain ⟨z, hd, vs, rel, dd⟩ := dk_of I.hok e
    have hz : vs.length ≤ sizeLine := by rw [← rel.length]; exact z
    have hl : (putK kvs k v).length ≤ sizeLine := by have := length_putK kvs k v; omega
    refine wpAny_setItem_pairs (hsz := hz) (kV_is ry) dd fun h' dd' hs => h _ ?_
    have he : ∃ q, h'.get? a = some q := let ⟨q, _, _, hq, _⟩ := dd'; ⟨q, hq⟩
    exact d_write I (by rw [e]; exact True.intro) hs he (dk_new hl hd (rel.put k rv) dd')
  · subst ey eH
    cases (show u = Value.ref b from ry)
    obtain ⟨z, hd, xs, rel, dd⟩ := dt_of I.hok e
    have hz : xs.length ≤ sizeLine := by rw [← Paired.length rel]; exact z
    have hl : (putK kvs k v).length ≤ sizeLine := by have := length_putK kvs k v; omega
    refine wpAny_setItem_heap (hsz := hz) (tupleKind_room_in1 hu) (key_of I.hok eb) dd fun h' dd' hs => h _ ?_
    obtain ⟨q, es, ep, hq, h2, h3, h4, _, h5⟩ := dd'
    refine d_write I (by rw [e]; exact True.intro) hs ⟨q, hq⟩ ⟨hl, hd, _, (rel.put k eb rv).keeps fun c ys ec => ?_, q, es, ep, hq, h2, h3, h4, h5⟩
    rw [upd_ne (ne_of ec e (fun z => nomatch z))]
    exact ec
end

section
variable {X : Cx} {pins : List (Addr × Obj)} {σ : St} {H : Hp} {s : Shared} {a : Addr} {kvs : List (Key × V)} {k : Key} {u : Value} {A : Around} {E : Value → Shared → Prop}
end


/-! ### readings and rules -/
/-- the element of a subscription, not a slice -/
def NoSl (i : Expr) : Prop := ∀ ov iv, subscripted i false ov iv = operate [ov, iv] (getItem ov iv)
theorem subD_of {prog : Program} {w : World} {A : Around} {E : Value → Shared → Prop} {s : Shared} {env : Env} {value slice : Expr} {pos : Pos} {T id : String} {Q : Value → Shared → Prop}
    (hl : typeLookup (.type T) "__getitem__" = pure (some (.builtin id))) (hs : NoSl slice)
    (h : wpAny (model prog w) A (eval value env) (fun o s₁ => wpAny (model prog w) A (eval slice env) (fun i s₂ => s₂.TypeIs o T ∧ wpAny (model prog w) A (getItem o i) Q E s₂) E s₁) E s) :
    wpAny (model prog w) A (eval (.Subscript value slice pos) env) Q E s := by
  refine Subscript_ (wpAny_mono h (fun o s₁ h₁ => wpAny_mono h₁ (fun i s₂ h₂ => ?_) fun _ _ x => x) fun _ _ x => x)
  obtain ⟨hT, h₂⟩ := h₂
  unfold subscriptTail
  refine wpAny_bind ?_
  rw [getitemInPython_of_ne hT.not_modules]
  refine wpAny_bind (wpAny_specialOf hT hl ?_)
  have fin : wpAny (model prog w) A (subscripted slice false o i) (fun r s₃ => wpAny (model prog w) A (letTemporaryGo value o r >>= fun _ => pure r) Q E s₃) E s₂ := by
    rw [hs o i]
    exact wpAny_operating (wpAny_mono h₂ (fun r s₃ h₃ => wpAny_bind (wpAny_letTemporaryGo (wpAny_pure h₃))) fun _ _ x => x)
  first
    | exact wpAny_pure (wpAny_bind fin)
    | exact wpAny_bind (wpAny_pure (wpAny_bind fin))
    | exact wpAny_bind fin

theorem dict_typeIs {X : Cx} {pins : List (Addr × Obj)} {σ : St} {H : Hp} {s : Shared} {a : Addr} {y : V} {o : Option V} (I : Inv X pins σ H s) (g : DGet H a y o) : s.TypeIs (.ref a) "dict" := by
  rcases g with ⟨kvs, k, e, _, _⟩ | ⟨kvs, k, b, e, _, _, _⟩
  · obtain ⟨_, _, vs, _, dd⟩ := dk_rd I.hok e
    exact dd.typeIs
  · obtain ⟨_, _, xs, _, dd⟩ := dt_rd I.hok e
    exact dd.typeIs
/-- d[y] -/
def tDGet (td ty : TE) : TE := fun σ H Q => td σ H fun x H1 => ty σ H1 fun y H2 => ∃ a v, x = .ref a ∧ DGet H2 a y (some v) ∧ Q v H2
/-- d[y] = v -/
def sDPut (td ty tv : TE) : TS := fun D σ H => tv σ H fun v H1 => td σ H1 fun x H2 => ty σ H2 fun y H3 => ∃ a H4, x = .ref a ∧ DPut H3 a y v H4 ∧ D.nx σ H4
section
variable {X : Cx} {o i e value : Expr} {pos pos' tpos : Pos} {td ty tv : TE}
theorem pe_dget (hu : X.A.units + 1 < cLine) (ho : PE X o td) (hi : PE X i ty) (hs : NoSl i) : PE X (.Subscript o i pos) (tDGet td ty) := by
  intro pins s σ H Q I h
  refine subD_of PySem.F.slot_dict_getitem.lookup hs (thn (ho pins s σ H _ I h) fun u s1 ⟨x, H1, I1, rx, q1⟩ => thn (hi pins s1 σ H1 _ I1 q1) fun iv s2 ⟨y, H2, I2, ry, a, v, ex, g, q2⟩ => ?_)
  subst ex
  obtain rfl : u = Value.ref a := rx
  exact ⟨dict_typeIs I2 g, d_getItem hu I2 g ry fun w' s3 I3 rw' => ⟨v, H2, I3, rw', q2⟩⟩
theorem ps_dput (hu : X.A.units + 1 < cLine) (ho : PE X o td) (hi : PE X i ty) (hv : PE X value tv) (hs : swapsWith value (some (.Subscript o i pos')) pos.line X.env = pure false) :
    PS X (.Assign [.Subscript o i pos'] value pos) (sDPut td ty tv) := by
  intro pins s σ H D I h
  refine wpAny_Assign_Subscript (thn (hv pins s σ H _ I h) fun r s1 ⟨v, H1, I1, rv, q1⟩ => thn (ho pins s1 σ H1 _ I1 q1) fun u s2 ⟨x, H2, I2, rx, q2⟩ => thn (hi pins s2 σ H2 _ I2 q2) fun iv s3 ⟨y, H3, I3, ry, a, H4, ex, g, q3⟩ => ?_) hs
  subst ex
  obtain rfl : u = Value.ref a := rx
  exact d_setItem hu I3 g ry rv fun s4 I4 => ⟨σ, H4, I4, q3⟩
end


/-! ### displays -/
theorem dt_empty {P : Program} {w : World} {H : Hp} (h : Heap) (hb : sysModules < h.objs.size) : ObjOk P w H (h.push { cls := .type "dict", data := .dict #[] }) h.objs.size (.dT []) :=
  ⟨Nat.zero_le _, beq_eq_false_iff_ne.mpr (Ne.symm (Nat.ne_of_lt hb)), [], .nil, _, #[], 0, Heap.get?_push_size _ rfl, ⟨rfl, rfl, rfl⟩, rfl, rfl, List.nodup_nil⟩
def tDNewT : TE := fun _ H Q => ∀ p, H p = none → Q (.ref p) (upd H p (.dT []))
section
variable {X : Cx} {pos : Pos}
theorem pe_dnewT : PE X (.Dict [] [] pos) tDNewT := fun pins s σ H Q I h =>
  wpAny_Dict_empty ⟨.ref s.heap.objs.size, _, I.laid (a := s.heap.objs.size) (o := .dT []) (t' := s.toks) (fun _ _ q => Heap.get?_push_of_some _ q) (Nat.le_refl _) (dt_empty s.heap I.big), rfl, h _ (I.hok.fresh (Nat.le_refl _))⟩
end

/-! ### methods -/
/-- a method call o.m(e) of a built-in, with one argument: what must be seen of the text -/
structure M1 (X : Cx) (o : Expr) (m : Str) (apos : Pos) (e : Expr) (cpos : Pos) : Prop where
  base : attributeBase o m X.env (eval o X.env) = eval o X.env
  few : ((backTo cpos (starEach [e] X.env)).all (fun x => !x.1) && (backToKw cpos (keywordEach [] X.env)).all (fun x => x.1.isSome)
    && decide (([e] : List Expr).length + ([] : List Keyword).length + (if ([] : List Keyword).isEmpty then 0 else 1) < 30)) = true
  line : (apos.endLine == cpos.line) = true
  trees : backTo cpos (starEach [e] X.env) = [(false, eval e X.env)]
structure M2 (X : Cx) (o : Expr) (m : Str) (apos : Pos) (e f : Expr) (cpos : Pos) : Prop where
  base : attributeBase o m X.env (eval o X.env) = eval o X.env
  few : ((backTo cpos (starEach [e, f] X.env)).all (fun x => !x.1) && (backToKw cpos (keywordEach [] X.env)).all (fun x => x.1.isSome)
    && decide (([e, f] : List Expr).length + ([] : List Keyword).length + (if ([] : List Keyword).isEmpty then 0 else 1) < 30)) = true
  line : (apos.endLine == cpos.line) = true
  trees : backTo cpos (starEach [e, f] X.env) = [(false, eval e X.env), (false, eval f X.env)]

/-- a is a dict, whatever its keys -/
def IsD (H : Hp) (a : Addr) : Prop := (∃ kvs, Rd H a (.dK kvs)) ∨ ∃ kvs, Rd H a (.dT kvs)
theorem isD_at {X : Cx} {pins : List (Addr × Obj)} {σ : St} {H : Hp} {s : Shared} {a : Addr} (I : Inv X pins σ H s) (d : IsD H a) :
    s.TypeIs (.ref a) "dict" ∧ (∀ b, Value.ref a = .ref b → ∃ ob, s.heap.get? b = some ob ∧ ob.dict = none) ∧ (a == sysModules) = false := by
  rcases d with ⟨kvs, e⟩ | ⟨kvs, e⟩
  · obtain ⟨_, hd, vs, _, dd⟩ := dk_rd I.hok e
    refine ⟨dd.typeIs, fun b q => ?_, hd⟩
    cases q
    obtain ⟨ob, _, _, h1, h2, _⟩ := dd
    exact ⟨ob, h1, h2.2.1⟩
  · obtain ⟨_, hd, xs, _, dd⟩ := dt_rd I.hok e
    refine ⟨dd.typeIs, fun b q => ?_, hd⟩
    cases q
    obtain ⟨ob, _, _, h1, h2, _⟩ := dd
    exact ⟨ob, h1, h2.2.1⟩

section
variable {X : Cx} {pins : List (Addr × Obj)} {σ : St} {H : Hp} {s : Shared} {a : Addr} {y d : V} {u r : Value} {o : Option V} {A : Around} {E : Value → Shared → Prop}
/-- d.get(y, x) -/
theorem d_get2 {Q : Value → Shared → Prop} (hu : A.units + 1 < cLine) (I : Inv X pins σ H s) (g : DGet H a y o) (ry : RelV y u) (rd : RelV d r) (h : ∀ w' s', Inv X pins σ H s' → RelV (o.getD d) w' → Q w' s') :
    wpAny (model X.prog X.w) A (call (.builtin "dict.get") [.ref a, u, r]) Q E s := by
  rcases g with ⟨kvs, k, e, ey, l⟩ | ⟨kvs, k, b, e, ey, eb, l⟩
  · subst ey
    obtain ⟨z, hd, vs, rel, dd⟩ := dk_rd I.hok e
    refine call_meetsIn PySem.F.slot_dict_get dd.typeIs PySem.F.entry_dict_get (PySem.F.args_dict_get_3 _ _ _) (meets_dict_get_default (mixKind X.prog X.w) a (kV_is ry) hd r) ⟨_, dd.mapOf, h _ _ (I.tok _) ?_⟩
    rw [l]
    exact (rel.val k).getD rd
  · subst ey
    cases (show u = Value.ref b from ry)
    obtain ⟨z, hd, xs, rel, dd⟩ := dt_rd I.hok e
    refine call_meetsIn PySem.F.slot_dict_get dd.typeIs PySem.F.entry_dict_get (PySem.F.args_dict_get_3 _ _ _) (meetsH_dict_get_default (tupleKind (mixKind X.prog X.w)) a b hd r) ⟨tupleKind_room_in1 hu, k, xs, key_of I.hok eb, dd, h _ _ (I.tok _) ?_⟩
    rw [l]
    exact (rel.val k).getD rd
end

def tDGet2 (td ty tx : TE) : TE := fun σ H Q => td σ H fun x H1 => ∃ a, x = .ref a ∧ IsD H1 a ∧ ty σ H1 fun y H2 => tx σ H2 fun z H3 => ∃ o, DGet H3 a y o ∧ Q (o.getD z) H3
section
variable {X : Cx} {o e f : Expr} {apos cpos : Pos} {td ty tx : TE}
theorem pe_dget2 (hu : X.A.units + 1 < cLine) (ho : PE X o td) (he : PE X e ty) (hf : PE X f tx) (m : M2 X o "get" apos e f cpos) : PE X (.Call (.Attribute o "get" apos) [e, f] [] cpos) (tDGet2 td ty tx) := by
  intro pins s σ H Q I h
  refine wpAny_Call_method m.base m.few m.line PySem.F.plainAttrs_dict PySem.F.slot_dict_get PySem.F.type_dict_get (thn (ho pins s σ H _ I h) fun u s1 ⟨x, H1, I1, rx, a, ex, d, q1⟩ => ?_)
  subst ex
  obtain rfl : u = Value.ref a := rx
  obtain ⟨t1, t2, _⟩ := isD_at I1 d
  refine ⟨t1, t2, ?_⟩
  rw [m.trees]
  refine Calls.callWith_builtin rfl (Calls.evalArgs_plain (Calls.spliced_cons (thn (he pins s1 σ H1 _ I1 q1) fun iv s2 ⟨y, H2, I2, ry, q2⟩ =>
    Calls.spliced_cons (thn (hf pins s2 σ H2 _ I2 q2) fun fv s3 ⟨z, H3, I3, rz, ov, g, q3⟩ => Calls.spliced_nil ?_))))
  exact d_get2 hu I3 g ry rz fun w' s4 I4 rw' => ⟨_, H3, I4, rw', q3⟩
end

/-! ### dict(d): a copy -/
section
variable {X : Cx} {pins : List (Addr × Obj)} {σ : St} {H : Hp} {s : Shared} {a : Addr} {kvs : List (Key × V)} {A : Around} {E : Value → Shared → Prop}
end


section
variable {X : Cx} {pins : List (Addr × Obj)} {σ : St} {H : Hp} {s : Shared} {a : Addr} {y : V} {u : Value} {A : Around} {E : Value → Shared → Prop}
end
end L2

set_option Elab.async false
set_option linter.all false
set_option maxRecDepth 100000
set_option maxHeartbeats 4000000
namespace L2
open PySem PySem.Spec PyProof.Rows
section
variable {X : Cx}
/-! ### name += list -/
/-! ### sum(list of ints), of any size -/
end
/-! ### lists that grow by rows -/
theorem paired_but {α : Type} {f : α → List V} {G G' : Hp} (ht : ∀ p xs, G p = some (.tup xs) → G' p = some (.tup xs)) : ∀ {us : List V} {xs : List α}, Paired (RowP f G) us xs → Paired (RowP f G') us xs
  | _, _, .nil => .nil
  | _, _, .cons ⟨p, e, hp⟩ t => .cons ⟨p, e, ht _ _ hp⟩ (paired_but ht t)
theorem paired_app {α β : Type} {F : α → β → Prop} : ∀ {us ws : List α} {xs ys : List β}, Paired F us xs → Paired F ws ys → Paired F (us ++ ws) (xs ++ ys)
  | _, _, _, _, .nil, h => h
  | _, _, _, _, .cons r t, h => .cons r (paired_app t h)
/-- a list of rows -/
def Lst {α : Type} (f : α → List V) (H : Hp) (a : Addr) (xs : List α) : Prop := ∃ us, H a = some (.lst us) ∧ Paired (RowP f H) us xs
theorem Lst.same {α : Type} {f : α → List V} {H H' : Hp} {a : Addr} {xs : List α} (e : Same H H') (h : Lst f H a xs) : Lst f H' a xs := let ⟨us, h1, h2⟩ := h; ⟨us, e _ _ h1, paired_same e h2⟩
theorem tup_stay {H : Hp} {l : Addr} {zs : List V} {o : HO} (hl : H l = some (.lst zs)) : ∀ p xs, H p = some (.tup xs) → upd H l o p = some (.tup xs) := fun p xs hp => by
  have : p ≠ l := fun e => by rw [e, hl] at hp; cases hp
  rw [upd_ne this]
  exact hp
/-- rows put behind a list -/
theorem Lst.more {α : Type} {f : α → List V} {H : Hp} {a : Addr} {us ws : List V} {xs ys : List α} (h : H a = some (.lst us)) (h1 : Paired (RowP f H) us xs) (h2 : Paired (RowP f H) ws ys) : Lst f (upd H a (.lst (us ++ ws))) a (xs ++ ys) :=
  ⟨_, upd_same, paired_app (paired_but (tup_stay h) h1) (paired_but (tup_stay h) h2)⟩
theorem Same.over {H G : Hp} {a : Addr} {o : HO} (e : Same H G) (ha : H a = none) : Same H (L2.upd G a o) := fun b u q => by
  rw [upd_ne (ne_of_none q ha)]
  exact e b u q
theorem eqS_flats {H : Hp} {n : Nat} : ∀ {vs : List V}, (∀ v ∈ vs, flatV v = true) → Paired (EqS H n) vs vs
  | [], _ => .nil
  | v :: vs, h => .cons (EqS.flat (h v (by simp))) (eqS_flats fun y hy => h y (by simp [hy]))
end L2

set_option Elab.async false
set_option linter.all false
set_option maxRecDepth 100000
set_option maxHeartbeats 4000000
namespace L2
open PySem PySem.Spec PyProof.Rows
/-! ### for x, y in zip(list, list) -/
def Itz (K : PySem.W.Frag) (a b : Addr) : It :=
  ⟨fun i H => ∃ xs ys x y, SqL K H a xs ∧ SqL K H b ys ∧ xs[i]? = some x ∧ ys[i]? = some y,
   fun i H x H' => ∃ p u v, x = .ref p ∧ H p = none ∧ H' = upd H p (.tup [u, v]) ∧ (∀ xs, SqL K H a xs → xs[i]? = some u) ∧ ∀ ys, SqL K H b ys → ys[i]? = some v,
   fun i H => ∃ xs ys, SqL K H a xs ∧ SqL K H b ys ∧ (xs.length ≤ i ∨ ys.length ≤ i)⟩
theorem turn_zip {P : Program} {w : World} {K : PySem.W.Frag} {elts : List Expr} {x1 : Nat} {tpos : Pos} (a b z TI TO i1 i2 : Addr) (D : ZipApart z TI TO i1 i2 a b) :
    Turn P w K (.Tuple elts x1 tpos) (Itz K a b) [z, TI, TO, i1, i2] z (fun i h => IsZip h z TI TO .none ∧ IsPair h TI (.ref i1) (.ref i2) ∧ (∃ c d, IsPair h TO c d) ∧ h.IsListIter i1 a i ∧ h.IsListIter i2 b i) where
  mem := by simp
  obj := fun i h st c hc => by
    obtain ⟨hz, hTI, ⟨_, _, hTO⟩, ⟨o1, ho1, hc1, hd1⟩, ⟨o2, ho2, hc2, hd2⟩⟩ := st
    simp only [List.mem_cons, List.not_mem_nil, or_false] at hc
    rcases hc with e | e | e | e | e
    · subst e
      exact ⟨_, hz, fun v q => by have q' : Data.fields _ = Data.cell v := q; cases q'⟩
    · subst e
      exact ⟨_, hTI, fun v q => by have q' : Data.seq _ _ = Data.cell v := q; cases q'⟩
    · subst e
      exact ⟨_, hTO, fun v q => by have q' : Data.seq _ _ = Data.cell v := q; cases q'⟩
    · subst e
      exact ⟨o1, ho1, fun v q => by rw [hd1] at q; cases q⟩
    · subst e
      exact ⟨o2, ho2, fun v q => by rw [hd2] at q; cases q⟩
  keep := fun i h h' st k => by
    obtain ⟨hz, hTI, ⟨c, d, hTO⟩, h1, h2⟩ := st
    exact ⟨k z (by simp) _ hz, k TI (by simp) _ hTI, ⟨c, d, k TO (by simp) _ hTO⟩, h1.at fun o q => k i1 (by simp) o q, h2.at fun o q => k i2 (by simp) o q⟩
  item := by
    intro X hP hw hK hc i pins s σ H E I hf st hg
    subst hP hw hK
    obtain ⟨xs, ys, x, y, hq1, hq2, hx, hy⟩ := hg
    obtain ⟨hz, hTI, ⟨c, d, hTO⟩, h1, h2⟩ := st
    obtain ⟨its1, rv1, p1, _⟩ := I.list hq1
    obtain ⟨its2, rv2, p2, _⟩ := I.list hq2
    obtain ⟨u1, hu1, ru1⟩ := rv1.get hx
    obtain ⟨u2, hu2, ru2⟩ := rv2.get hy
    have fz := hf z (by simp)
    have fTI := hf TI (by simp)
    have fTO := hf TO (by simp)
    have f1 := hf i1 (by simp)
    have f2 := hf i2 (by simp)
    refine wpAny_pyNext_zip_item D hz hTI hTO h1 h2 p1.isList p2.isList (x := u1) (y := u2) (by simpa using hu1) (by simpa using hu2) fun h3 hz3 hTO3 h13 h23 hT3 hsz3 kp => ?_
    refine ⟨_, rfl, wpAny_letOwnedTupleGo_zip hz3 fun h4 hz4 sb4 => ?_⟩
    have hzn : s.heap.objs.size ≠ z := Ne.symm (Nat.ne_of_lt (Heap.lt_size hz))
    have hTIn : s.heap.objs.size ≠ TI := Ne.symm (Nat.ne_of_lt (Heap.lt_size hTI))
    have hTOn : s.heap.objs.size ≠ TO := Ne.symm (Nat.ne_of_lt (Heap.lt_size hTO))
    have h1n : s.heap.objs.size ≠ i1 := by
      obtain ⟨o, ho, _⟩ := h1
      exact Ne.symm (Nat.ne_of_lt (Heap.lt_size ho))
    have h2n : s.heap.objs.size ≠ i2 := by
      obtain ⟨o, ho, _⟩ := h2
      exact Ne.symm (Nat.ne_of_lt (Heap.lt_size ho))
    have kp2 : ∀ b o, b ∉ [z, TI, TO, i1, i2] → s.heap.get? b = some o → h4.get? b = some o := fun b o hb q => by
      simp only [List.mem_cons, List.not_mem_nil, or_false, not_or] at hb
      exact (sb4.2 b hb.1).trans (kp b o hb.1 hb.2.2.1 hb.2.2.2.1 hb.2.2.2.2 q)
    have hnew : h4.get? s.heap.objs.size = some { cls := .type "tuple", data := .seq #[u1, u2] } := (sb4.2 _ hzn).trans hT3
    have nt : ∀ b v, H b = some v → b ∉ [z, TI, TO, i1, i2] := fun b v q hb => by
      simp only [List.mem_cons, List.not_mem_nil, or_false] at hb
      rcases hb with e | e | e | e | e
      · rw [e, fz.1] at q; cases q
      · rw [e, fTI.1] at q; cases q
      · rw [e, fTO.1] at q; cases q
      · rw [e, f1.1] at q; cases q
      · rw [e, f2.1] at q; cases q
    have hfr := I.fresh
    have U : Un (frs X.stack) [z, TI, TO, i1, i2] H (upd H s.heap.objs.size (.tup [x, y])) s.heap h4 :=
      { keep := fun b o q _ _ hb => kp2 b o hb q
        slot := fun b o q _ _ hb => ⟨o.slots, kp2 b o hb q⟩
        free := fun b o q n _ => by rw [upd_ne (Nat.ne_of_lt (Heap.lt_size q))]; exact n
        there := fun b o q hb => ⟨o, kp2 b o hb q⟩
        tups := fun b xs q => by rw [upd_ne (ne_of_none q hfr)]; exact q
        frzs := fun b o xs q => by rw [upd_ne (ne_of_none q hfr)]; exact q
        tbls := fun b ps q => ⟨#[], by rw [upd_ne (ne_of_none q hfr), q]; simp⟩ }
    have hok : HOk X.prog X.w (upd H s.heap.objs.size (.tup [x, y])) h4 := fun b v q => by
      by_cases hb : b = s.heap.objs.size
      · subst hb
        rw [upd_same] at q
        cases q
        exact ⟨by show 2 ≤ sizeLine; decide, [u1, u2], .cons ru1 (.cons ru2 .nil), _, hnew, rfl, _, rfl⟩
      · rw [upd_ne hb] at q
        refine (I.hok b v q).stay (fun c v' hc' r => kp2 c v' ?_ r) (fun c r => by rw [upd_ne (ne_of_none r hfr)]; exact r) fun c ys r => by rw [upd_ne (ne_of_none r hfr)]; exact r
        rcases hc' with e | e
        · rw [e]; exact nt b v q
        · exact nt c _ e
    have I2 : Inv X pins σ (upd H s.heap.objs.size (.tup [x, y])) { s with heap := h4 } := I.call' rfl U hok I.bare fun b hb => by
      obtain ⟨g0, g1, g2, g3, g4, g5⟩ := hf b hb
      exact ⟨g3, g1, g4, g5⟩
    refine ⟨.ref s.heap.objs.size, _, I2, rfl, ⟨_, x, y, rfl, hfr, rfl, fun ys hy => by rw [I.list_inj hy hq1]; exact hx, fun ys hy' => by rw [I.list_inj hy' hq2]; exact hy⟩, ⟨hz4, ?_, ⟨u1, u2, ?_⟩, ?_, ?_⟩, fun b hb => ?_⟩
    · exact (sb4.2 TI D.TIz).trans (kp TI _ D.TIz D.TITO D.TIi1 D.TIi2 hTI)
    · exact (sb4.2 TO D.TOz).trans hTO3
    · exact h13.at fun o q => (sb4.2 i1 D.i1z).trans q
    · exact h23.at fun o q => (sb4.2 i2 D.i2z).trans q
    · rw [upd_ne (by
        simp only [List.mem_cons, List.not_mem_nil, or_false] at hb
        rcases hb with e | e | e | e | e
        · rw [e]; exact Ne.symm hzn
        · rw [e]; exact Ne.symm hTIn
        · rw [e]; exact Ne.symm hTOn
        · rw [e]; exact Ne.symm h1n
        · rw [e]; exact Ne.symm h2n)]
      exact (hf b hb).1
  done := by
    intro X hP hw hK hc i pins s σ H E I hf st hg
    subst hP hw hK
    obtain ⟨xs, ys, hq1, hq2, hx⟩ := hg
    obtain ⟨hz, hTI, ⟨c, d, hTO⟩, h1, h2⟩ := st
    obtain ⟨its1, rv1, p1, _⟩ := I.list hq1
    obtain ⟨its2, rv2, p2, _⟩ := I.list hq2
    have hl1 := rv1.length
    have hl2 := rv2.length
    have fz := hf z (by simp)
    have fTI := hf TI (by simp)
    have fTO := hf TO (by simp)
    have f1 := hf i1 (by simp)
    have f2 := hf i2 (by simp)
    refine wpAny_pyNext_zip_end (I.ok.hd hc) D hz hTI hTO h1 h2 p1.isList p2.isList (by
      rcases hx with e | e
      · left; simp; omega
      · right; simp; omega) fun h4 kp => ⟨rfl, ?_⟩
    have kp2 : ∀ b o, b ∉ [z, TI, TO, i1, i2] → s.heap.get? b = some o → h4.get? b = some o := fun b o hb q => by
      simp only [List.mem_cons, List.not_mem_nil, or_false, not_or] at hb
      exact kp b o hb.1 hb.2.2.1 hb.2.2.2.1 hb.2.2.2.2 q
    have nt : ∀ b v, H b = some v → b ∉ [z, TI, TO, i1, i2] := fun b v q hb => by
      simp only [List.mem_cons, List.not_mem_nil, or_false] at hb
      rcases hb with e | e | e | e | e
      · rw [e, fz.1] at q; cases q
      · rw [e, fTI.1] at q; cases q
      · rw [e, fTO.1] at q; cases q
      · rw [e, f1.1] at q; cases q
      · rw [e, f2.1] at q; cases q
    have U : Un (frs X.stack) [z, TI, TO, i1, i2] H H s.heap h4 :=
      { keep := fun b o q _ _ hb => kp2 b o hb q
        slot := fun b o q _ _ hb => ⟨o.slots, kp2 b o hb q⟩
        free := fun b o q n _ => n
        there := fun b o q hb => ⟨o, kp2 b o hb q⟩
        tups := fun b xs q => q
        frzs := fun b o xs q => q
        tbls := fun b ps q => ⟨#[], by rw [q]; simp⟩ }
    have hok : HOk X.prog X.w H h4 := fun b v q => by
      refine (I.hok b v q).stay (fun c v' hc' r => kp2 c v' ?_ r) (fun c r => r) fun c ys r => r
      rcases hc' with e | e
      · rw [e]; exact nt b v q
      · exact nt c _ e
    exact I.call' rfl U hok I.bare fun b hb => by
      obtain ⟨g0, g1, g2, g3, g4, g5⟩ := hf b hb
      exact ⟨g3, g1, g4, g5⟩
  self := fun _ _ _ _ _ st h => wpAny_pyIter_zip st.1 h
section
variable {X : Cx}
def iZip (K : PySem.W.Frag) (ta : TA) : TI := fun σ H R => ta σ H fun vs H1 => ∃ a b, vs = [.ref a, .ref b] ∧ (∃ xs, SqL K H1 a xs) ∧ (∃ ys, SqL K H1 b ys) ∧ R (Itz K a b) H1
theorem bt_zip : bootBuiltins "zip" = some (.type "zip") := by decide +kernel
theorem pi_zip {a b : Expr} {ta : TA} {p pos : Pos} {elts : List Expr} {x1 : Nat} {tpos : Pos} (hg : Gl X "zip") (hm : X.mg "zip" = none) (ha : PA X [a, b] ta) (hs : starEach [a, b] X.env = [(false, eval a X.env), (false, eval b X.env)]) (hs2 : starEach [b] X.env = [(false, eval b X.env)]) :
    PI X (.Tuple elts x1 tpos) (.Call (.Name "zip" p) [a, b] [] pos) (iZip X.K ta) := by
  intro pins s σ H R I h
  refine Call_ (ld_blt I hg hm bt_zip (PyProof.Rows.callWith_type1 (thn (ha pos pins s σ H _ I h) fun us s1 ⟨vs, H1, I1, r1, q1⟩ => ?_) (by rw [hs, hs2]) (by rw [hs2]; rfl)))
  obtain ⟨l1, l2, e, ⟨xs, hq1⟩, ⟨ys, hq2⟩, q⟩ := q1
  subst e
  obtain ⟨u1, u2, rfl, ru1, ru2⟩ := r1.two
  cases ru1
  cases ru2
  obtain ⟨its1, rv1, p1, _⟩ := I1.list hq1
  obtain ⟨its2, rv2, p2, _⟩ := I1.list hq2
  have a1 : l1 < s1.heap.objs.size := by obtain ⟨_, e, _⟩ := p1.isList; exact Heap.lt_size e
  have a2 : l2 < s1.heap.objs.size := by obtain ⟨_, e, _⟩ := p2.isList; exact Heap.lt_size e
  refine call_zip_2 p1.isList p2.isList fun h' hz hTI hTO h1 h2 hsz kp => wpAny_pyIter_zip hz ?_
  refine ⟨s1.heap.objs.size + 4, [s1.heap.objs.size + 4, s1.heap.objs.size + 2, s1.heap.objs.size + 3, s1.heap.objs.size, s1.heap.objs.size + 1], _, _, H1, rfl, I1.kept (t' := s1.toks) kp, turn_zip l1 l2 _ _ _ _ _ (zipApart_new a1 a2), ⟨hz, hTI, ⟨_, _, hTO⟩, h1, h2⟩, fun b hb => ?_, q⟩
  have hle : s1.heap.objs.size ≤ b := by
    simp only [List.mem_cons, List.not_mem_nil, or_false] at hb
    rcases hb with e | e | e | e | e <;> rw [e]
    · exact Nat.le_add_right _ 4
    · exact Nat.le_add_right _ 2
    · exact Nat.le_add_right _ 3
    · exact Nat.le_refl _
    · exact Nat.le_add_right _ 1
  exact I1.fpOk hle (I1.hok.fresh hle)
theorem qi_zip {a b : Expr} {t : TA} {p pos : Pos} {elts : List Expr} {x1 : Nat} {tpos : Pos} (hg : okGl X.env.scope "zip" = true) (hm : X.mg "zip" = none) (ha : QA X [a, b] t) (hs : noStars [a, b] = true := by rfl) : QI X (.Tuple elts x1 tpos) (.Call (.Name "zip" p) [a, b] [] pos) (iZip X.K t) := by
  have h1 := hs
  unfold noStars at h1
  simp only [List.all_cons, Bool.and_eq_true] at h1
  refine ⟨pi_zip (okGl_get hg).1 hm ha.h ?_ (star_cons h1.2.1)⟩
  rw [star_cons h1.1, star_cons h1.2.1]
  rfl
end
/-- over two lists of one length that the body leaves as they are; H grows by the pair at each turn -/
theorem for_zip {K : PySem.W.Frag} {a b : Addr} {xs ys : List V} {g : TG} {tb : TS} {D : Ends} {σ : L2.St} {H : Hp} (hxy : xs.length = ys.length) (Pv : Nat → L2.St → Hp → Prop) (h0 : Pv 0 σ H) (hl : ∀ i σ H, i ≤ xs.length → Pv i σ H → SqL K H a xs ∧ SqL K H b ys)
    (hs : ∀ i x y σ H p, xs[i]? = some x → ys[i]? = some y → Pv i σ H → H p = none → g (.ref p) σ (upd H p (.tup [x, y])) fun σ2 H2 => tb { D with nx := Pv (i + 1), ct := Pv (i + 1), bk := D.nx } σ2 H2) (hd : ∀ σ H, Pv xs.length σ H → D.nx σ H) :
    ∃ W : Nat → Nat → L2.St → Hp → Prop, (∃ m, W 0 m σ H) ∧ ∀ i m σ H, W i m σ H →
      ((Itz K a b).stop i H ∧ D.nx σ H) ∨ ((Itz K a b).go i H ∧ ∃ N : L2.St → Hp → Prop, (∀ σ' H', N σ' H' → ∃ m', m' < m ∧ W (i + 1) m' σ' H') ∧ ∀ x H', (Itz K a b).yld i H x H' → g x σ H' fun σ2 H2 => tb { D with nx := N, ct := N, bk := D.nx } σ2 H2) := by
  refine ⟨fun i m σ H => m = xs.length - i ∧ i ≤ xs.length ∧ Pv i σ H, ⟨xs.length, by simp, Nat.zero_le _, h0⟩, ?_⟩
  rintro i m σ H ⟨rfl, hi, p⟩
  obtain ⟨q1, q2⟩ := hl i σ H hi p
  by_cases hlt : i < xs.length
  · have hlt2 : i < ys.length := by omega
    refine .inr ⟨⟨xs, ys, xs[i], ys[i], q1, q2, by simp [hlt], by simp [hlt2]⟩, Pv (i + 1), fun σ' H' p' => ⟨xs.length - (i + 1), by omega, rfl, hlt, p'⟩, fun x H' y => ?_⟩
    obtain ⟨p0, u, v, e1, hn, e2, y1, y2⟩ := y
    subst e1 e2
    exact hs i u v σ H p0 (y1 xs q1) (y2 ys q2) p hn
  · have e : i = xs.length := by omega
    subst e
    exact .inl ⟨⟨xs, ys, q1, q2, .inl (Nat.le_refl _)⟩, hd σ H p⟩
end L2

set_option Elab.async false
set_option linter.all false
set_option maxRecDepth 100000
set_option maxHeartbeats 4000000
namespace L2
open PySem PySem.Spec PyProof.Rows
/-! ### tuples that are compared -/
/-- the first pair that is not equal decides -/
def lexP (eB lB : Value × Value → Bool) : List (Value × Value) → Bool
  | [] => false
  | p :: r => if eB p = true then lexP eB lB r else lB p
/-- tuples of one length, by their pairs -/
theorem tup_less (a c : Addr) (xs ys : Array Value) (m m' : Nat) (da dc : Option Addr) (sa sc : Array (Option Value)) (eB lB : Value × Value → Bool) (same : xs.size = ys.size) :
    Meets (Builtin.«tuple.__lt__» ⟨[.ref a, .ref c], []⟩) (fun A R s => s.heap.get? a = some ⟨.type "tuple", da, .seq xs m, sa⟩ ∧ s.heap.get? c = some ⟨.type "tuple", dc, .seq ys m', sc⟩ ∧
      (∀ p ∈ xs.toList.zip ys.toList, SeqAt.EqAt A.in1 s p.1 p.2 (eB p)) ∧
      (∀ p ∈ xs.toList.zip ys.toList, ∀ (P : Program) (W : World) (E Q : Value → Shared → Prop), Q (.bool (lB p)) s → wpAny (model P W) A.in1 (richCompare .Lt p.1 p.2) Q E s) ∧
      R (.ok (.ret (.bool (lexP eB lB (xs.toList.zip ys.toList))))) s) :=
  .of_wp fun P W A R s0 hyp => by
    obtain ⟨heap0, gens0, drawn0, toks0, os0⟩ := s0
    obtain ⟨ha, hc, hE, hL, hR⟩ := hyp
    have isT := AutoSeq1.sub_tuple_tuple
    wp_walk using AutoSeq1.wpAny_loadPart' ha, AutoSeq1.wpAny_loadPart' hc, wpAny_forIn_list _ (fun todo st s' => st.1 = none ∧ s' = ⟨heap0, gens0, drawn0, toks0, os0⟩ ∧ (∀ p ∈ todo, p ∈ xs.toList.zip ys.toList) ∧ R (.ok (.ret (.bool (lexP eB lB todo)))) ⟨heap0, gens0, drawn0, toks0, os0⟩) _
    case h => exact ⟨rfl, rfl, fun _ z => z, hR⟩
    case fin =>
      rintro ⟨o, u⟩ s' ⟨eo, rfl, _, hr⟩
      cases eo
      wp_walk
      exact ⟨_, rfl, by simpa [Builtin.Tuple.tupleCompareSizes, lexP, same] using hr⟩
    case turn =>
      rintro p todo st s' ⟨_, rfl, hin, hr⟩
      have hp := hin p List.mem_cons_self
      have hr' : R (.ok (.ret (.bool (if eB p = true then lexP eB lB todo else lB p)))) ⟨heap0, gens0, drawn0, toks0, os0⟩ := hr
      refine wpAny_bind (hE p hp P W _ _ ?_)
      by_cases hb : eB p = true
      · rw [hb] at hr' ⊢
        wp_walk
        exact ⟨rfl, rfl, fun z hz => hin z (List.mem_cons_of_mem _ hz), hr'⟩
      · have hf : eB p = false := by simpa using hb
        rw [hf] at hr' ⊢
        rw [if_neg Bool.false_ne_true] at hr'
        rw [if_pos (by decide)]
        refine wpAny_bind (wpAny_rule (wpAny_bind (hL p hp P W _ _ ?_)))
        wp_walk
        exact ⟨_, rfl, hr'⟩
def ltV : V → V → Bool
  | .int a, .int b => decide (a < b)
  | .str a, .str b => decide (a.cps.toList < b.cps.toList)
  | _, _ => false
def veq : Value × Value → Bool
  | (.int a _, .int b _) => a == b
  | (.str a _, .str b _) => a == b
  | _ => false
def vlt : Value × Value → Bool
  | (.int a _, .int b _) => decide (a < b)
  | (.str a _, .str b _) => decide (a.cps.toList < b.cps.toList)
  | _ => false
def CmpV (x y : V) : Prop := (∃ i j, x = .int i ∧ y = .int j) ∨ ∃ i j, x = .str i ∧ y = .str j
theorem CmpV.flat {x y : V} (h : CmpV x y) : flatV x = true ∧ flatV y = true := by
  rcases h with ⟨i, j, rfl, rfl⟩ | ⟨i, j, rfl, rfl⟩ <;> exact ⟨rfl, rfl⟩
def eqVs (xs ys : List V) : Bool := (List.range (min xs.length ys.length)).all (fun j => eqV (xs.getD j .non) (ys.getD j .non)) && xs.length == ys.length
def ltVs : List V → List V → Bool
  | x :: xs, y :: ys => if eqV x y = true then ltVs xs ys else ltV x y
  | _, _ => false
theorem cmp_vals {x y : V} {u v : Value} (h : CmpV x y) (rx : RelV x u) (ry : RelV y v) : veq (u, v) = eqV x y ∧ vlt (u, v) = ltV x y := by
  rcases h with ⟨i, k, rfl, rfl⟩ | ⟨i, k, rfl, rfl⟩ <;> obtain ⟨t, rfl⟩ := rx <;> obtain ⟨t', rfl⟩ := ry <;> exact ⟨rfl, rfl⟩
theorem zip_cmp : ∀ {xs ys : List V} {us vs : List Value}, Paired CmpV xs ys → Vals xs us → Vals ys vs → us.length = vs.length ∧ lexP veq vlt (us.zip vs) = ltVs xs ys ∧ ∀ p ∈ us.zip vs, ∃ x y, CmpV x y ∧ RelV x p.1 ∧ RelV y p.2
  | _, _, _, _, .nil, .nil, .nil => ⟨rfl, rfl, fun p hp => absurd hp (by simp)⟩
  | _, _, _, _, .cons c t, .cons r rs, .cons r' rs' => by
    obtain ⟨e1, e2, e3⟩ := zip_cmp t rs rs'
    obtain ⟨k1, k2⟩ := cmp_vals c r r'
    refine ⟨congrArg (· + 1) e1, ?_, fun p hp => ?_⟩
    · rw [List.zip_cons_cons]
      unfold lexP ltVs
      rw [k1, k2, e2]
    · rw [List.zip_cons_cons] at hp
      rcases List.mem_cons.mp hp with z | z
      · rw [z]
        exact ⟨_, _, c, r, r'⟩
      · exact e3 p z
def rTupEq : R2 := fun x y H Q => ∃ a c xs ys, x = .ref a ∧ y = .ref c ∧ H a = some (.tup xs) ∧ H c = some (.tup ys) ∧ (∀ (j : Nat) (x y : V), xs[j]? = some x → ys[j]? = some y → flatV x = true ∧ flatV y = true) ∧ Q (.bl (eqVs xs ys)) H
def rTupLt : R2 := fun x y H Q => ∃ a c xs ys, x = .ref a ∧ y = .ref c ∧ H a = some (.tup xs) ∧ H c = some (.tup ys) ∧ Paired CmpV xs ys ∧ Q (.bl (ltVs xs ys)) H
section
variable {X : Cx}
theorem vals_at {xs : List V} {us : List Value} (r : Vals xs us) {j : Nat} (h : j < us.length) : ∃ x, xs[j]? = some x ∧ xs.getD j .non = x ∧ RelV x us[j] := by
  have hl := r.length
  have hx : j < xs.length := by omega
  obtain ⟨u, hu, ru⟩ := r.get (i := j) (x := xs[j]) (by simp [hx])
  rw [List.getElem?_eq_getElem h] at hu
  cases hu
  exact ⟨xs[j], by simp [hx], by simp [List.getD, hx], ru⟩
theorem op_tupEq (hu : X.A.units + 16 < cLine) : OpR X (compareOp .Eq) rTupEq := by
  intro pins s σ H x y v u Q I rx ry h
  obtain ⟨a, c, xs, ys, rfl, rfl, h1, h2, hf, q⟩ := h
  cases rx
  cases ry
  obtain ⟨its, rv, p, _⟩ := I.tuple (SqT.of h1)
  obtain ⟨its2, rv2, p2, _⟩ := I.tuple (SqT.of h2)
  have l1 := rv.length
  have l2 := rv2.length
  have := SeqAt.RcAt.tuples (A := X.A) (e := fun j => eqV (xs.getD j .non) (ys.getD j .non)) (show s.heap.IsTuple a its.toArray from p) (show s.heap.IsTuple c its2.toArray from p2) (by omega) (fun j h1 h2 => by
    obtain ⟨x, ex, dx, rx⟩ := vals_at rv (j := j) (by simpa using h1)
    obtain ⟨y, ey, dy, ry⟩ := vals_at rv2 (j := j) (by simpa using h2)
    obtain ⟨fx, fy⟩ := hf j x y ex ey
    have := eqAt_V (A := X.A.in1) (s := s) rx ry fx fy
    simp only [dx, dy]
    simpa using this)
  refine this _ _ _ _ ⟨.bl (eqVs xs ys), H, I, ?_, q⟩
  have e : eqVs xs ys = ((List.range (min its.toArray.size its2.toArray.size)).all (fun j => eqV (xs.getD j .non) (ys.getD j .non)) && its.toArray.size == its2.toArray.size) := by
    unfold eqVs
    rw [List.size_toArray, List.size_toArray, l1, l2]
  rw [e]
  rfl
theorem op_tupLt (hu : X.A.units + 16 < cLine) : OpR X (compareOp .Lt) rTupLt := by
  intro pins s σ H x y v u Q I rx ry h
  obtain ⟨a, c, xs, ys, rfl, rfl, h1, h2, hf, q⟩ := h
  cases rx
  cases ry
  obtain ⟨us, ru, p1, _⟩ := I.tuple (SqT.of h1)
  obtain ⟨ws, rw', p2, _⟩ := I.tuple (SqT.of h2)
  obtain ⟨el, ev, hz⟩ := zip_cmp hf ru rw'
  have t1 : s.heap.IsTuple a us.toArray := p1
  have t2 : s.heap.IsTuple c ws.toArray := p2
  obtain ⟨⟨c1, d1, k1, z1⟩, g1, rfl, m1, rfl⟩ := t1
  obtain ⟨⟨c2, d2, k2, z2⟩, g2, rfl, m2, rfl⟩ := t2
  have key := tup_less a c us.toArray ws.toArray m1 m2 d1 d2 z1 z2 veq vlt (by simp [el])
  show wpAny (model X.prog X.w) X.A (richCompare .Lt (.ref a) (.ref c)) _ _ _
  refine richCompare_meets_room ⟨_, g1, rfl⟩ ⟨_, g2, rfl⟩ F.slot_tuple_lt F.entry_tuple_lt (F.args_tuple_lt_2 _ _) key ⟨g1, g2, fun p hp => ?_, fun p hp P W E Q' hq => ?_, ?_⟩ (by omega)
  · obtain ⟨x, y, hc, r1, r2⟩ := hz p hp
    have := eqAt_V (A := X.A.in1) (s := s) r1 r2 hc.flat.1 hc.flat.2
    rw [← (cmp_vals hc r1 r2).1] at this
    exact this
  · obtain ⟨x, y, hc, r1, r2⟩ := hz p hp
    obtain ⟨pu, pv⟩ := p
    rcases hc with ⟨i, k, rfl, rfl⟩ | ⟨i, k, rfl, rfl⟩
    · obtain ⟨t, rfl⟩ := r1
      obtain ⟨t', rfl⟩ := r2
      exact (lt_int hq : wpAny (model P W) X.A.in1 (compareOp .Lt (.int i t) (.int k t')) Q' E s)
    · obtain ⟨t, rfl⟩ := r1
      obtain ⟨t', rfl⟩ := r2
      exact (lt_str hq : wpAny (model P W) X.A.in1 (compareOp .Lt (.str i t) (.str k t')) Q' E s)
  · show Value.bool (lexP veq vlt (us.zip ws)) ≠ Value.notImplemented ∧ EP X pins σ Q (Value.bool (lexP veq vlt (us.zip ws))) s
    rw [ev]
    exact ⟨(fun z => nomatch z), .bl (ltVs xs ys), H, I, rfl, q⟩
end
end L2

set_option Elab.async false
set_option linter.all false
set_option maxRecDepth 100000
set_option maxHeartbeats 4000000
namespace L2
section
open PyProof.Rows PySem.W
/-! ### the sort's tree of questions, answered by a strict order -/
def Ans {α : Type} (n : Nat) (c : Nat → Nat → Bool) (Z : α → Prop) : KasT α → Prop
  | .ret a => Z a
  | .ask i j k => i < n ∧ j < n ∧ Ans n c Z (k (c i j))
theorem Ans.bind {α β : Type} {n : Nat} {c : Nat → Nat → Bool} {Z : β → Prop} {f : α → KasT β} : ∀ {t : KasT α}, Ans n c (fun a => Ans n c Z (f a)) t → Ans n c Z (t.bind f)
  | .ret _, h => h
  | .ask _ _ _, h => ⟨h.1, h.2.1, Ans.bind h.2.2⟩
theorem Ans.mono {α : Type} {n : Nat} {c : Nat → Nat → Bool} {Z Y : α → Prop} (hz : ∀ a, Z a → Y a) : ∀ {t : KasT α}, Ans n c Z t → Ans n c Y t
  | .ret _, h => hz _ h
  | .ask _ _ _, h => ⟨h.1, h.2.1, Ans.mono hz h.2.2⟩
/-- a strict order of the places 0 .. n - 1 -/
structure Strict (n : Nat) (c : Nat → Nat → Bool) : Prop where
  tot : ∀ i j, i < n → j < n → i ≠ j → c i j = false → c j i = true
  asy : ∀ i j, i < n → j < n → c i j = true → c j i = false
  tra : ∀ i j k, i < n → j < n → k < n → c i j = true → c j k = true → c i k = true
/-- the places in some order -/
structure Pm (n : Nat) (p : Array Nat) : Prop where
  size : p.size = n
  perm : p.Perm (List.range n).toArray
theorem Pm.lt {n : Nat} {p : Array Nat} (h : Pm n p) (h0 : 0 < n) (i : Nat) : p.getD i 0 < n := by
  by_cases hi : i < p.size
  · have e : p.getD i 0 = p[i] := by simp [Array.getD, hi]
    rw [e]
    have hm : p[i] ∈ (List.range n).toArray := h.perm.mem_iff.mp (Array.getElem_mem hi)
    simpa using hm
  · have e : p.getD i 0 = 0 := by simp [Array.getD, hi]
    omega
theorem Pm.ne {n : Nat} {p : Array Nat} (h : Pm n p) {i j : Nat} (hi : i < n) (hj : j < n) (hij : i ≠ j) : p.getD i 0 ≠ p.getD j 0 := by
  have hs := h.size
  have ei : p.getD i 0 = p[i]'(by omega) := by simp [Array.getD, hs, hi]
  have ej : p.getD j 0 = p[j]'(by omega) := by simp [Array.getD, hs, hj]
  rw [ei, ej]
  have nd : p.toList.Nodup := by
    have hp : p.toList.Perm (List.range n) := by simpa using h.perm.toList
    exact hp.nodup_iff.mpr List.nodup_range
  intro e
  apply hij
  have := (List.getElem_inj (h₀ := by simpa [hs] using hi) (h₁ := by simpa [hs] using hj) nd).mp (by simpa using e)
  exact this
theorem Pm.of {n : Nat} {p q : Array Nat} (h : Pm n p) (hq : q.Perm p) : Pm n q := ⟨by rw [hq.size_eq]; exact h.size, hq.trans h.perm⟩
def Up (c : Nat → Nat → Bool) (p : Array Nat) (b : Nat) : Prop := ∀ x y, x < y → y < b → c (p.getD x 0) (p.getD y 0) = true
def Dn (c : Nat → Nat → Bool) (p : Array Nat) (b : Nat) : Prop := ∀ x y, x < y → y < b → c (p.getD y 0) (p.getD x 0) = true
section
variable {n : Nat} {c : Nat → Nat → Bool}
theorem Up.more {p : Array Nat} (S : Strict n c) (h0 : 0 < n) (P : Pm n p) {m : Nat} (h1 : 1 ≤ m) (u : Up c p m) (e : c (p.getD (m - 1) 0) (p.getD m 0) = true) : Up c p (m + 1) := by
  intro x y hx hy
  rcases Nat.lt_or_ge y m with h | h
  · exact u x y hx h
  · have : y = m := by omega
    subst this
    by_cases hxm : x = y - 1
    · rw [hxm]; exact e
    · exact S.tra _ _ _ (P.lt h0 _) (P.lt h0 _) (P.lt h0 _) (u x (y - 1) (by omega) (by omega)) e
theorem Dn.more {p : Array Nat} (S : Strict n c) (h0 : 0 < n) (P : Pm n p) {m : Nat} (h1 : 1 ≤ m) (u : Dn c p m) (e : c (p.getD m 0) (p.getD (m - 1) 0) = true) : Dn c p (m + 1) := by
  intro x y hx hy
  rcases Nat.lt_or_ge y m with h | h
  · exact u x y hx h
  · have : y = m := by omega
    subst this
    by_cases hxm : x = y - 1
    · rw [hxm]; exact e
    · exact S.tra _ _ _ (P.lt h0 _) (P.lt h0 _) (P.lt h0 _) e (u x (y - 1) (by omega) (by omega))
theorem ans_asc (S : Strict n c) (h0 : 0 < n) {p : Array Nat} (P : Pm n p) : ∀ (f m : Nat), 1 ≤ m → m + f = n → Up c p m → Ans n c (fun k => m ≤ k ∧ k ≤ n ∧ Up c p k ∧ (k < n → c (p.getD k 0) (p.getD (k - 1) 0) = true)) (kas_asc p f m)
  | 0, m, h1, hm, u => ⟨Nat.le_refl _, by omega, u, fun h => by omega⟩
  | f + 1, m, h1, hm, u => by
    refine ⟨P.lt h0 _, P.lt h0 _, ?_⟩
    cases e : c (p.getD m 0) (p.getD (m - 1) 0) with
    | true =>
      dsimp only
      rw [if_pos rfl]
      exact ⟨Nat.le_refl _, by omega, u, fun _ => e⟩
    | false =>
      dsimp only
      rw [if_neg (by simp)]
      have e' := S.tot _ _ (P.lt h0 _) (P.lt h0 _) (P.ne (i := m) (j := m - 1) (by omega) (by omega) (by omega)) e
      exact Ans.mono (fun k ⟨a1, a2, a3, a4⟩ => ⟨by omega, a2, a3, a4⟩) (ans_asc S h0 P f (m + 1) (by omega) (by omega) (u.more S h0 P h1 e'))
theorem ans_desc (S : Strict n c) (h0 : 0 < n) {p : Array Nat} (P : Pm n p) : ∀ (f m : Nat), 1 ≤ m → m + f = n → Dn c p m → Ans n c (fun r => r.1 = p ∧ r.2.2 = 0 ∧ m ≤ r.2.1 ∧ r.2.1 ≤ n ∧ Dn c p r.2.1) (kas_desc f p m 0)
  | 0, m, h1, hm, u => ⟨rfl, rfl, Nat.le_refl _, by show m ≤ n; omega, u⟩
  | f + 1, m, h1, hm, u => by
    refine ⟨P.lt h0 _, P.lt h0 _, ?_⟩
    cases e : c (p.getD m 0) (p.getD (m - 1) 0) with
    | true =>
      dsimp only
      rw [if_pos rfl, if_neg (by omega)]
      exact Ans.mono (fun k ⟨a1, a2, a3, a4⟩ => ⟨a1, a2, by omega, a4⟩) (ans_desc S h0 P f (m + 1) (by omega) (by omega) (u.more S h0 P h1 e))
    | false =>
      dsimp only
      rw [if_neg (by simp)]
      have e' := S.tot _ _ (P.lt h0 _) (P.lt h0 _) (P.ne (i := m) (j := m - 1) (by omega) (by omega) (by omega)) e
      refine ⟨P.lt h0 _, P.lt h0 _, ?_⟩
      rw [e']
      dsimp only
      rw [if_pos rfl]
      exact ⟨rfl, rfl, Nat.le_refl _, by show m ≤ n; omega, u⟩
theorem rev_get {p : Array Nat} {m k : Nat} (hm : m ≤ p.size) (hk : k < m) : (kas_rev p 0 m).getD k 0 = p.getD (m - 1 - k) 0 := by
  have e := getElem?_mirror_all (xs := p) (i := 0) (j := m) hm k
  rw [if_pos ⟨Nat.zero_le _, hk⟩] at e
  show (mirror p 0 m ((m - 0) / 2)).getD k 0 = _
  rw [Array.getD_eq_getD_getElem?, Array.getD_eq_getD_getElem?, e]
  congr 2
  omega
theorem ans_count (S : Strict n c) (h2 : 2 ≤ n) {p : Array Nat} (P : Pm n p) : Ans n c (fun r => 1 ≤ r.1 ∧ r.1 ≤ n ∧ Pm n r.2 ∧ Up c r.2 r.1) (kas_count n p) := by
  have h0 : 0 < n := by omega
  refine Ans.bind (Ans.mono (fun k ⟨a1, a2, a3, a4⟩ => ?_) (ans_asc S h0 P (n - 1) 1 (Nat.le_refl _) (by omega) (fun x y hx hy => by omega)))
  skip
  by_cases hk : k = n
  · rw [if_pos (by simpa using hk)]
    exact ⟨a1, a2, P, a3⟩
  · rw [if_neg (by simpa using hk)]
    by_cases h1 : k > 1
    · rw [if_pos h1]
      refine ⟨P.lt h0 _, P.lt h0 _, ?_⟩
      rw [a3 0 (k - 1) (by omega) (by omega)]
      dsimp only
      rw [if_pos rfl]
      exact ⟨a1, a2, P, a3⟩
    · rw [if_neg h1]
      have hk1 : k = 1 := by omega
      subst hk1
      have hd : Dn c p 2 := fun x y hx hy => by
        have : x = 0 := by omega
        have : y = 1 := by omega
        subst x; subst y
        exact a4 (by omega)
      refine Ans.bind (Ans.mono (fun r ⟨b1, b2, b3, b4, b5⟩ => ?_) (ans_desc S h0 P (n - (1 + 1)) (1 + 1) (by omega) (by omega) hd))
      skip
      rw [if_neg (by omega), b1]
      generalize r.2.1 = m at b3 b4 b5
      have hsz := P.size
      have P' : Pm n (kas_rev p 0 m) := P.of (mirror_perm _ _ _ _)
      have U : Up c (kas_rev p 0 m) m := fun x y hx hy => by
        rw [rev_get (by omega) (by omega), rev_get (by omega) hy]
        exact b5 _ _ (by omega) (by omega)
      exact Ans.bind (Ans.mono (fun k' ⟨d1, d2, d3, _⟩ => ⟨by omega, d2, P', d3⟩) (ans_asc S h0 P' (n - m) m (by omega) (by omega) U))
theorem ans_place (S : Strict n c) (h0 : 0 < n) {p : Array Nat} (P : Pm n p) {k : Nat} (hk : k < n) (U : Up c p k) : ∀ (f l r : Nat), r ≤ k → l ≤ r → r ≤ l + f →
    (∀ x, x < l → c (p.getD x 0) (p.getD k 0) = true) → (∀ x, r ≤ x → x < k → c (p.getD k 0) (p.getD x 0) = true) →
    Ans n c (fun l => l ≤ k ∧ (∀ x, x < l → c (p.getD x 0) (p.getD k 0) = true) ∧ ∀ x, l ≤ x → x < k → c (p.getD k 0) (p.getD x 0) = true) (kas_place p k f l r)
  | 0, l, r, h1, h2, h3, a, b => ⟨by omega, a, fun x hx => b x (by omega)⟩
  | f + 1, l, r, h1, h2, h3, a, b => by
    unfold kas_place
    by_cases hlr : l ≥ r
    · rw [if_pos hlr]
      exact ⟨by omega, a, fun x hx => b x (by omega)⟩
    · rw [if_neg hlr]
      refine ⟨P.lt h0 _, P.lt h0 _, ?_⟩
      have hm1 : l ≤ (l + r) / 2 := by omega
      have hm2 : (l + r) / 2 < r := by omega
      generalize (l + r) / 2 = m at hm1 hm2
      cases e : c (p.getD k 0) (p.getD m 0) with
      | true =>
        dsimp only
        rw [if_pos rfl]
        refine ans_place S h0 P hk U f l m (by omega) (by omega) (by omega) a fun x hx hxk => ?_
        by_cases hxm : x = m
        · rw [hxm]; exact e
        · exact S.tra _ _ _ (P.lt h0 _) (P.lt h0 _) (P.lt h0 _) e (U m x (by omega) hxk)
      | false =>
        dsimp only
        rw [if_neg (by simp)]
        have e' := S.tot _ _ (P.lt h0 _) (P.lt h0 _) (P.ne (i := k) (j := m) hk (by omega) (by omega)) e
        refine ans_place S h0 P hk U f (m + 1) r (by omega) (by omega) (by omega) (fun x hx => ?_) b
        by_cases hxm : x = m
        · rw [hxm]; exact e'
        · exact S.tra _ _ _ (P.lt h0 _) (P.lt h0 _) (P.lt h0 _) (U x m (by omega) (by omega)) e'
theorem ans_bin (S : Strict n c) (h0 : 0 < n) : ∀ (f : Nat) (p : Array Nat) (k : Nat), Pm n p → k + f = n → Up c p k → Ans n c (fun q => Pm n q ∧ Up c q n) (kas_bin f p k)
  | 0, p, k, P, hk, U => by
    have : k = n := by omega
    subst this
    exact ⟨P, U⟩
  | f + 1, p, k, P, hk, U => by
    unfold kas_bin
    refine Ans.bind (Ans.mono (fun l ⟨a1, a2, a3⟩ => ?_) (ans_place S h0 P (k := k) (by omega) U k 0 k (Nat.le_refl _) (Nat.zero_le _) (by omega) (fun x hx => by omega) (fun x hx hxk => by omega)))
    have hsz := P.size
    have P' : Pm n (bubble p k (k - l)) := P.of (bubble_perm _ _ _)
    refine ans_bin S h0 f _ (k + 1) P' (by omega) ?_
    have g : ∀ x, (bubble p k (k - l)).getD x 0 = if x = l then p.getD k 0 else if l < x ∧ x ≤ k then p.getD (x - 1) 0 else p.getD x 0 := fun x => by
      have e := getElem?_bubble (xs := p) (src := k) (by omega) (k - l) (by omega) x
      have el : k - (k - l) = l := by omega
      rw [el] at e
      rw [Array.getD_eq_getD_getElem?, e]
      split
      · rw [Array.getD_eq_getD_getElem?]
      · split <;> rw [Array.getD_eq_getD_getElem?]
    intro x y hx hy
    rw [g x, g y]
    by_cases h1 : y = l
    · rw [if_pos h1, if_neg (by omega), if_neg (by omega)]
      exact a2 x (by omega)
    · rw [if_neg h1]
      by_cases h2 : l < y ∧ y ≤ k
      · rw [if_pos h2]
        by_cases h3 : x = l
        · rw [if_pos h3]
          exact a3 (y - 1) (by omega) (by omega)
        · rw [if_neg h3]
          by_cases h4 : l < x ∧ x ≤ k
          · rw [if_pos h4]
            exact U _ _ (by omega) (by omega)
          · rw [if_neg h4]
            exact U _ _ (by omega) (by omega)
      · rw [if_neg h2, if_neg (by omega), if_neg (by omega)]
        exact U _ _ hx (by omega)
/-- what the sort tells: all places, rising -/
theorem ans_sort (S : Strict n c) (h2 : 2 ≤ n) : Ans n c (fun q => Pm n q ∧ Up c q n) (kas_sort n) := by
  have P : Pm n (List.toArray (List.range n)) := ⟨by simp, Array.Perm.refl _⟩
  refine Ans.bind (Ans.mono (fun r ⟨a1, a2, a3, a4⟩ => ?_) (ans_count S h2 P))
  by_cases h : r.1 < n
  · rw [if_pos h]
    have e : max r.1 1 = r.1 := by omega
    rw [e]
    exact ans_bin S (by omega) _ _ _ a3 (by omega) a4
  · rw [if_neg h]
    have : r.1 = n := by omega
    rw [this] at a4
    exact ⟨a3, a4⟩
end
end
end L2
namespace L2
open PySem
/-- a dict by its raw entries -/
def RawD (h : Heap) (d : Addr) (es : Array DictEntry) (ep : Nat) : Prop := ∃ o, h.get? d = some o ∧ o.ExactDict ∧ o.data = .dict es ep
theorem RawD.to {h h' : Heap} {d : Addr} {es : Array DictEntry} {ep : Nat} (m : RawD h d es ep) (k : ∀ o, h.get? d = some o → h'.get? d = some o) : RawD h' d es ep := m.elim fun o z => ⟨o, k o z.1, z.2⟩
theorem RawD.lt {h : Heap} {d : Addr} {es : Array DictEntry} {ep : Nat} (m : RawD h d es ep) : d < h.objs.size := m.elim fun _ z => Heap.lt_size z.1
theorem RawD.ty {s : Shared} {d : Addr} {es : Array DictEntry} {ep : Nat} (m : RawD s.heap d es ep) : s.TypeIs (.ref d) "dict" := m.elim fun o z => ⟨o, z.1, z.2.1.1⟩
section
variable {prog : Program} {w : World} {A : Around} {E : Value → Shared → Prop} {s : Shared} {d it : Addr} {es : Array DictEntry} {ep i : Nat}
/-- iter(d) -/
theorem rd_iter {Q : Value → Shared → Prop} (lo : (d == sysModules) = false) (m : RawD s.heap d es ep)
    (q : Q (.ref s.heap.objs.size) { s with heap := s.heap.push { cls := .type "dict_keyiterator", data := .fields #[.ref d, .int 0 0, .int es.size 0, .int ep 0] } }) : wpAny (model prog w) A (pyIter (.ref d)) Q E s := by
  have ty := m.ty
  obtain ⟨o, g, xd, dat⟩ := m
  have main : ∀ {A : Around} {Q : Fin → Shared → Prop}, Q (.done (.ret (.ref s.heap.objs.size))) { s with heap := s.heap.push { cls := .type "dict_keyiterator", data := .fields #[.ref d, .int 0 0, .int es.size 0, .int ep 0] } } →
      wpAny (model prog w) A (Builtin.«dict.__iter__» ⟨[.ref d], []⟩) Q E s := fun {A Q} hq => by
    unfold Builtin.«dict.__iter__» Builtin.Dict.dictSlotNone Builtin.Dict.showsAll
    have lo' : ¬ (d == sysModules) = true := by rw [lo]; exact Bool.false_ne_true
    wp_walk using wpAny_notOrdered_dict ty, wpAny_dictEntries g dat, wpAny_dictEpoch g dat
    exact hq
  exact wpAny_pyIter_slot ty F.slot_dict_iter (wpAny_call_entry F.slot_dict_iter ty F.entry_dict_iter (main ⟨_, rfl, "dict_keyiterator", _, ⟨_, Heap.get?_push_size _ rfl, rfl⟩, F.slot_dict_keyiterator_next.lookup, q⟩) (F.args_dict_iter_1 _))
end
end L2

namespace L2
open PySem
section
variable {prog : Program} {w : World} {A : Around} {E : Value → Shared → Prop} {s : Shared} {d it : Addr} {es : Array DictEntry} {ep i : Nat}
theorem ki_own : Builtin.Dict_items.ownsTuple "dict_keyiterator" = false := by decide
theorem set_at {M : Model} {o : Obj} {fs : Array Value} {k j : Nat} {v u : Value} {Q : Unit → Shared → Prop} (ho : s.heap.get? it = some o) (hd : o.data = .fields fs)
    (q : Q () { s with heap := s.heap.update it (Obj.mapFields (·.setIfInBounds j u)) }) (hk : k = j) (hv : v = u) (hj : j < fs.size) : wpAny M A (setField (.ref it) k v) Q E s := by
  subst hk
  subst hv
  exact wpAny_setField ho hd hj q
/-- the iterator's place goes on by one -/
theorem next_ki {h : Heap} {ob : Obj} {n : Nat} (gi : h.get? it = some ob) (ci : ob.cls = .type "dict_keyiterator") (di : ob.data = .fields #[.ref d, .int (i : Int) 0, .int (n : Int) 0, .int (ep : Int) 0]) :
    (h.update it (Obj.mapFields (·.setIfInBounds 1 (rawInt ((i : Int) + 1))))).IsKeyIter it d (i + 1) n ep := by
  have dn := Obj.data_mapFields di (·.setIfInBounds 1 (rawInt ((i : Int) + 1)))
  refine ⟨_, Heap.get?_update_self (Obj.mapFields (·.setIfInBounds 1 (rawInt ((i : Int) + 1)))) gi (Obj.isFreed_of_fields dn), ?_, ?_⟩
  · rw [Obj.cls_mapFields, ci]
  · rw [dn]
    simp [rawInt]
theorem rd_next {Q : Option Value → Shared → Prop} {e : DictEntry} (hit : s.heap.IsKeyIter it d i es.size ep) (m : RawD s.heap d es ep) (hx : es[i]? = some e)
    (q : ∀ h', h'.IsKeyIter it d (i + 1) es.size ep → Heap.SameBut it s.heap h' → Q (some e.key) { s with heap := h' }) : wpAny (model prog w) A (pyNext (.ref it)) Q E s := by
  obtain ⟨ob, gi, ci, di⟩ := id hit
  obtain ⟨p, g, xd, dat⟩ := m
  have after : (s.heap.update it (Obj.mapFields (·.setIfInBounds 1 (rawInt ((i : Int) + 1))))).IsKeyIter it d (i + 1) es.size ep :=
    next_ki gi ci di
  have t2 : ({ s with heap := s.heap.update it (Obj.mapFields (·.setIfInBounds 1 (rawInt ((i : Int) + 1)))) } : Shared).TypeIs (.ref it) "dict_keyiterator" := after.typeIs
  have main : ∀ {A : Around} {E : Value → Shared → Prop} {Q : Fin → Shared → Prop}, Q (.done (.ret e.key)) { s with heap := s.heap.update it (Obj.mapFields (·.setIfInBounds 1 (rawInt ((i : Int) + 1)))) } →
      wpAny (model prog w) A (Builtin.«dict_keyiterator.__next__» ⟨[.ref it], []⟩) Q E s := fun {A E Q} hq => by
    have own := ki_own
    have neg : ¬ ((i : Int) < 0) := by omega
    wp_walk using wpAny_typeNameOfWhole_keyiter hit.typeIs, wpAny_fieldsOf gi di, wpAny_dictEntries g dat, wpAny_dictEpoch g dat
    rw [if_neg neg, Int.toNat_natCast, hx]
    dsimp only
    wp_walk using wpAny_typeNameOfWhole_keyiter hit.typeIs, wpAny_isOneOf_keyiter hit.typeIs, set_at (j := 1) (u := rawInt ((i : Int) + 1)) gi di, wpAny_isOneOf_keyiter t2
    · exact hq
    · rw [ki_own]; rfl
    · rfl
    · show 1 < 4; decide
  refine wpAny_bind (wpAny_attempt (wpAny_callSpecial?_slot (name := Str.ofString "__next__") hit.typeIs F.slot_dict_keyiterator_next (wpAny_call_entry F.slot_dict_keyiterator_next hit.typeIs F.entry_dict_keyiterator_next (main ⟨_, rfl, ?_⟩) (F.args_dict_keyiterator_next_1 _))))
  exact wpAny_pure (q _ after (Heap.SameBut.update ..))
theorem rd_end {Q : Option Value → Shared → Prop} (hh : A.handled = none) (hit : s.heap.IsKeyIter it d es.size es.size ep) (m : RawD s.heap d es ep)
    (q : ∀ h', Heap.ExtBut it s.heap h' → Q none { s with heap := h' }) : wpAny (model prog w) A (pyNext (.ref it)) Q E s := by
  obtain ⟨ob, gi, ci, di⟩ := id hit
  obtain ⟨p, g, xd, dat⟩ := m
  have main : ∀ {A : Around} {E : Value → Shared → Prop} {Q : Fin → Shared → Prop}, A.handled = none →
      (∀ h' x, Heap.ExtBut it s.heap h' → (∃ o, h'.get? x = some o ∧ o.cls = .type "StopIteration") → E (.ref x) { s with heap := h' }) →
      wpAny (model prog w) A (Builtin.«dict_keyiterator.__next__» ⟨[.ref it], []⟩) Q E s := fun {A E Q} hn hq => by
    have own := ki_own
    have neg : ¬ ((es.size : Int) < 0) := by omega
    wp_walk using wpAny_typeNameOfWhole_keyiter hit.typeIs, wpAny_fieldsOf gi di, wpAny_dictEntries g dat, wpAny_dictEpoch g dat
    rw [if_neg neg, Int.toNat_natCast, Array.getElem?_eq_none (Nat.le_refl _)]
    dsimp only
    wp_walk using wpAny_typeNameOfWhole_keyiter hit.typeIs, set_at (j := 0) (u := .none) gi di
    · unfold raiseNew
      wp_walk
      exact hq _ _ (((Heap.SameBut.update ..).extBut.push _).push _) ⟨_, Heap.get?_push_size _ rfl, rfl⟩
    · rw [ki_own]; rfl
    · rfl
    · show 0 < 4; decide
  refine wpAny_bind (wpAny_attempt (wpAny_callSpecial?_slot (name := Str.ofString "__next__") hit.typeIs F.slot_dict_keyiterator_next (wpAny_call_entry F.slot_dict_keyiterator_next hit.typeIs F.entry_dict_keyiterator_next (main hh fun h' x k hx => ?_) (F.args_dict_keyiterator_next_1 _))))
  obtain ⟨ox, gx, cx⟩ := hx
  refine wpAny_bind (wpAny_isInstance (T := "StopIteration") (b := true) ⟨ox, gx, cx⟩ isSubtype_stop ?_)
  exact wpAny_pure (q h' k)
theorem rd_self {Q : Value → Shared → Prop} (hit : s.heap.IsKeyIter it d i es.size ep) (q : Q (.ref it) s) : wpAny (model prog w) A (pyIter (.ref it)) Q E s := wpAny_pyIter_keyiter hit q
/-- the keys of a dict, one behind the other -/
theorem rd_walk (hh : A.handled = none) (hne : d ≠ it) :
    Walks prog w A it [it, d] [it] es.size (fun j v => ∃ e, es[j]? = some e ∧ v = e.key) (fun j h => h.IsKeyIter it d j es.size ep ∧ RawD h d es ep) where
  sub := fun b hb => List.mem_cons.mpr (.inl (List.mem_singleton.mp hb))
  frame := fun j h h' st k => ⟨st.1.at fun o e => k it (List.mem_cons_self ..) o e, st.2.to fun o e => k d (List.mem_cons_of_mem _ (List.mem_singleton.mpr rfl)) o e⟩
  item := fun j s Q E hj st q => rd_next st.1 st.2 (e := es[j]) (by simp [hj]) fun h' hi sb => q _ h' s.toks ⟨_, by simp [hj], rfl⟩ ⟨hi, st.2.to fun o e => sb.extBut d o hne e⟩ fun b o hb e => sb.extBut b o (fun z => hb (List.mem_singleton.mpr z)) e
  done := fun s Q E st q => rd_end hh st.1 st.2 fun h' x => q h' s.toks fun b o hb e => x b o (fun z => hb (List.mem_singleton.mpr z)) e
  self := fun j s Q E st q => rd_self st.1 q
end
end L2

set_option Elab.async false
set_option linter.all false
set_option maxRecDepth 100000
set_option maxHeartbeats 4000000
namespace L2
open PySem PySem.Spec PyProof.Rows
/-! ### keys of a day and two names, in their order -/
abbrev T3 := Int × Str × Str
def k3 (t : T3) : List Key := [.inl t.1, .inr t.2.1, .inr t.2.2]
def v3 (t : T3) : List V := [.int t.1, .str t.2.1, .str t.2.2]
theorem k3_V (t : T3) : (k3 t).map kV = v3 t := rfl
theorem k3_inj {x y : T3} (h : k3 x = k3 y) : x = y := by
  obtain ⟨a, b, c⟩ := x
  obtain ⟨a', b', c'⟩ := y
  simp only [k3, List.cons.injEq, Sum.inl.injEq, Sum.inr.injEq, and_true] at h
  obtain ⟨rfl, rfl, rfl⟩ := h
  rfl
def less (x y : T3) : Bool := ltVs (v3 x) (v3 y)
def sl (a b : Str) : Prop := a.cps.toList < b.cps.toList
theorem sl_tot {a b : Str} (h : a ≠ b) : sl a b ∨ sl b a := by
  by_cases h1 : sl a b
  · exact .inl h1
  · by_cases h2 : sl b a
    · exact .inr h2
    · refine absurd ?_ h
      have e : a.cps.toList = b.cps.toList := List.le_antisymm (List.not_lt.mp h2) (List.not_lt.mp h1)
      obtain ⟨x⟩ := a
      obtain ⟨y⟩ := b
      have e' : x = y := Array.toList_inj.mp e
      rw [e']
theorem sl_irr (a : Str) : ¬ sl a a := List.lt_irrefl _
theorem sl_tra {a b c : Str} (h1 : sl a b) (h2 : sl b c) : sl a c := List.lt_trans h1 h2
theorem less_iff (x y : T3) : less x y = true ↔ x.1 < y.1 ∨ (x.1 = y.1 ∧ (sl x.2.1 y.2.1 ∨ (x.2.1 = y.2.1 ∧ sl x.2.2 y.2.2))) := by
  obtain ⟨a, b, c⟩ := x
  obtain ⟨a', b', c'⟩ := y
  show (if (a == a') = true then (if (b == b') = true then (if (c == c') = true then false else decide (c.cps.toList < c'.cps.toList)) else decide (b.cps.toList < b'.cps.toList)) else decide (a < a')) = true ↔ _
  by_cases h1 : a = a'
  · subst h1
    rw [if_pos (by simp)]
    by_cases h2 : b = b'
    · subst h2
      rw [if_pos (by simp)]
      by_cases h3 : c = c'
      · subst h3
        rw [if_pos (by simp)]
        have := sl_irr b
        have := sl_irr c
        simp [*]
      · rw [if_neg (by simpa using h3)]
        have := sl_irr b
        rw [decide_eq_true_eq]
        constructor
        · intro h; exact .inr ⟨rfl, .inr ⟨rfl, h⟩⟩
        · rintro (h | ⟨_, h | ⟨_, h⟩⟩)
          · exact absurd h (by simp)
          · exact absurd h this
          · exact h
    · rw [if_neg (by simpa using h2)]
      rw [decide_eq_true_eq]
      constructor
      · intro h; exact .inr ⟨rfl, .inl h⟩
      · rintro (h | ⟨_, h | ⟨e, h⟩⟩)
        · exact absurd h (by simp)
        · exact h
        · exact absurd e h2
  · rw [if_neg (by simpa using h1)]
    rw [decide_eq_true_eq]
    constructor
    · intro h; exact .inl h
    · rintro (h | ⟨e, _⟩)
      · exact h
      · exact absurd e h1
theorem less_tot {x y : T3} (h : x ≠ y) (n : less x y = false) : less y x = true := by
  have n' : ¬ less x y = true := by rw [n]; exact Bool.false_ne_true
  rw [less_iff] at n' ⊢
  obtain ⟨a, b, c⟩ := x
  obtain ⟨a', b', c'⟩ := y
  dsimp only at n' ⊢
  by_cases h1 : a = a'
  · subst h1
    by_cases h2 : b = b'
    · subst h2
      have h3 : c ≠ c' := fun e => h (by rw [e])
      rcases sl_tot h3 with z | z
      · exact absurd (.inr ⟨rfl, .inr ⟨rfl, z⟩⟩) n'
      · exact .inr ⟨rfl, .inr ⟨rfl, z⟩⟩
    · rcases sl_tot h2 with z | z
      · exact absurd (.inr ⟨rfl, .inl z⟩) n'
      · exact .inr ⟨rfl, .inl z⟩
  · rcases Int.lt_or_lt_of_ne h1 with z | z
    · exact absurd (.inl z) n'
    · exact .inl z
theorem less_tra {x y z : T3} (h1 : less x y = true) (h2 : less y z = true) : less x z = true := by
  rw [less_iff] at *
  obtain ⟨a, b, c⟩ := x
  obtain ⟨a', b', c'⟩ := y
  obtain ⟨a'', b'', c''⟩ := z
  dsimp only at *
  rcases h1 with h1 | ⟨rfl, h1⟩
  · rcases h2 with h2 | ⟨rfl, h2⟩
    · exact .inl (by omega)
    · exact .inl h1
  · rcases h2 with h2 | ⟨rfl, h2⟩
    · exact .inl h2
    · refine .inr ⟨rfl, ?_⟩
      rcases h1 with h1 | ⟨rfl, h1⟩
      · rcases h2 with h2 | ⟨rfl, h2⟩
        · exact .inl (sl_tra h1 h2)
        · exact .inl h1
      · rcases h2 with h2 | ⟨rfl, h2⟩
        · exact .inl h2
        · exact .inr ⟨rfl, sl_tra h1 h2⟩
theorem less_irr (x : T3) : less x x = false := by
  cases h : less x x with
  | false => rfl
  | true =>
    rw [less_iff] at h
    rcases h with h | ⟨_, h | ⟨_, h⟩⟩
    · omega
    · exact absurd h (sl_irr _)
    · exact absurd h (sl_irr _)
theorem less_asy {x y : T3} (h : less x y = true) : less y x = false := by
  cases h' : less y x with
  | false => rfl
  | true =>
    have := less_tra h h'
    rw [less_irr] at this
    cases this
def cmpT (ts : List T3) (i j : Nat) : Bool := less (ts.getD i (0, ⟨#[]⟩, ⟨#[]⟩)) (ts.getD j (0, ⟨#[]⟩, ⟨#[]⟩))
theorem getD_at {α : Type} {l : List α} {i : Nat} {x : α} (h : i < l.length) : l.getD i x = l[i] := by simp [h]
theorem strictT {ts : List T3} (nd : ts.Nodup) : Strict ts.length (cmpT ts) := by
  refine ⟨fun i j hi hj ne h => ?_, fun i j hi hj h => less_asy h, fun i j k _ _ _ h1 h2 => less_tra h1 h2⟩
  refine less_tot (fun e => ne ?_) h
  rw [getD_at hi, getD_at hj] at e
  exact (List.getElem_inj nd).mp e
/-! ### the sort of such keys -/
def KeyAt (h : Heap) (b : Addr) (t : T3) : Prop := ∃ (o : Obj) (us : Array Value) (n : Nat) (i j k : Tok), h.get? b = some o ∧ o.cls = .type "tuple" ∧ o.data = .seq us n ∧ us = #[.int t.1 i, .str t.2.1 j, .str t.2.2 k]
theorem KeyAt.to {h h' : Heap} {b : Addr} {t : T3} (x : KeyAt h b t) (k : ∀ o, h.get? b = some o → h'.get? b = some o) : KeyAt h' b t := let ⟨o, us, n, i, j, l, e, r⟩ := x; ⟨o, us, n, i, j, l, k o e, r⟩
theorem keys_to {h h' : Heap} : ∀ {bs : List Addr} {ts : List T3}, Paired (KeyAt h) bs ts → (∀ b ∈ bs, ∀ o, h.get? b = some o → h'.get? b = some o) → Paired (KeyAt h') bs ts
  | _, _, .nil, _ => .nil
  | _, _, .cons r t, k => .cons (r.to (k _ List.mem_cons_self)) (keys_to t fun b hb => k b (List.mem_cons_of_mem _ hb))
theorem keys_at {h : Heap} {bs : List Addr} {ts : List T3} (p : Paired (KeyAt h) bs ts) {j : Nat} (hj : j < bs.length) : KeyAt h (bs.getD j 0) (ts.getD j (0, ⟨#[]⟩, ⟨#[]⟩)) := by
  induction p generalizing j with
  | nil => exact absurd hj (Nat.not_lt_zero _)
  | cons r t ih =>
    cases j with
    | zero => exact r
    | succ j => exact ih (Nat.lt_of_succ_lt_succ hj)
theorem keys_tups {h : Heap} {bs : List Addr} {ts : List T3} (p : Paired (KeyAt h) bs ts) : ∃ fs, PySem.W.KatTups h (bs.map Value.ref) fs ∧ fs.length = bs.length ∧ ∀ v ∈ fs, ∃ (n : Int) (t : Tok), v = .int n t := by
  induction p with
  | nil => exact ⟨[], trivial, rfl, fun _ hv => nomatch hv⟩
  | cons r t ih =>
    obtain ⟨fs, h1, h2, h3⟩ := ih
    obtain ⟨o, us, n, i, j, k, g, c, dat, rfl⟩ := r
    refine ⟨_ :: fs, PySem.W.KatTups.cons g c dat rfl h1, congrArg (· + 1) h2, fun v hv => ?_⟩
    rcases List.mem_cons.mp hv with z | z
    · exact ⟨_, _, z⟩
    · exact h3 v z
section
variable {prog : Program} {w : World} {A : Around} {E : Value → Shared → Prop} {s : Shared}
theorem ans_wp {α : Type} {n : Nat} {c : Nat → Nat → Bool} {Z : α → Prop} {cmp : Nat → Nat → (Bool → Shared → Prop) → Shared → Prop} (hc : ∀ i j C, i < n → j < n → C (c i j) s → cmp i j C s) :
    ∀ (t : PySem.W.KasT α), Ans n c Z t → t.kasWp cmp (fun a s' => s' = s ∧ Z a) s
  | .ret a, h => ⟨rfl, h⟩
  | .ask i j k, ⟨hi, hj, h⟩ => hc i j _ hi hj (ans_wp hc (k (c i j)) h)
/-- two keys, asked by the sort -/
theorem ask_keys {bs : List Addr} {ts : List T3} (p : Paired (KeyAt s.heap) bs ts) {i j : Nat} {C : Bool → Shared → Prop} (hi : i < bs.length) (hj : j < bs.length) (h : C (cmpT ts i j) s) :
    PySem.W.kas_ask prog w A (tuples' true) (bs.map Value.ref) i j C s := by
  have ei : (bs.map Value.ref).getD i Value.none = .ref (bs.getD i 0) := by simp [hi]
  have ej : (bs.map Value.ref).getD j Value.none = .ref (bs.getD j 0) := by simp [hj]
  show wpAny _ _ (keyLt' (tuples' true) ((bs.map Value.ref).getD i Value.none) ((bs.map Value.ref).getD j Value.none)) _ _ _
  rw [ei, ej]
  obtain ⟨o1, us1, n1, a1, a2, a3, g1, _, d1, rfl⟩ := keys_at p hi
  obtain ⟨o2, us2, n2, b1, b2, b3, g2, _, d2, rfl⟩ := keys_at p hj
  have h' : C (less (ts.getD i (0, ⟨#[]⟩, ⟨#[]⟩)) (ts.getD j (0, ⟨#[]⟩, ⟨#[]⟩))) s := h
  generalize ts.getD i (0, ⟨#[]⟩, ⟨#[]⟩) = x at h' d1
  generalize ts.getD j (0, ⟨#[]⟩, ⟨#[]⟩) = y at h' d2
  have lt : less x y = (if eqV (.int x.1) (.int y.1) = true then (if eqV (.str x.2.1) (.str y.2.1) = true then (if eqV (.str x.2.2) (.str y.2.2) = true then false else ltV (.str x.2.2) (.str y.2.2)) else ltV (.str x.2.1) (.str y.2.1)) else ltV (.int x.1) (.int y.1)) := rfl
  rw [lt] at h'
  refine PySem.W.kat_lt g1 d1 g2 d2 (PySem.W.kat_cons (eqAt_V (y := .int x.1) (x := .int y.1) ⟨_, rfl⟩ ⟨_, rfl⟩ rfl rfl _ _ _ _ (PySem.W.kat_go (fun e => PySem.W.kat_yes ?_) fun e => PySem.W.kat_no ?_)))
  · rw [if_pos e] at h'
    refine PySem.W.kat_cons (eqAt_V (y := .str x.2.1) (x := .str y.2.1) ⟨_, rfl⟩ ⟨_, rfl⟩ rfl rfl _ _ _ _ (PySem.W.kat_go (fun e => PySem.W.kat_yes ?_) fun e => PySem.W.kat_no ?_))
    · rw [if_pos e] at h'
      refine PySem.W.kat_cons (eqAt_V (y := .str x.2.2) (x := .str y.2.2) ⟨_, rfl⟩ ⟨_, rfl⟩ rfl rfl _ _ _ _ (PySem.W.kat_go (fun e => PySem.W.kat_yes ?_) fun e => PySem.W.kat_no ?_))
      · rw [if_pos e] at h'
        exact PySem.W.kat_nil h'
      · rw [if_neg (by rw [e]; exact Bool.false_ne_true)] at h'
        exact PySem.W.kat_one _ _ (lt_str h')
    · rw [if_neg (by rw [e]; exact Bool.false_ne_true)] at h'
      exact PySem.W.kat_one _ _ (lt_str h')
  · rw [if_neg (by rw [e]; exact Bool.false_ne_true)] at h'
    exact oneLt_int h'
theorem sort_keys {a : Addr} {bs : List Addr} {ts : List T3} {n : Nat} {Q : PySem.Fin → Shared → Prop} (ho : s.heap.get? a = some (seqObj "list" (bs.map Value.ref).toArray n)) (p : Paired (KeyAt s.heap) bs ts) (nd : ts.Nodup) (h64 : bs.length < 64)
    (h : ∀ (q : Array Nat) (out : Array Value), Pm ts.length q → Up (cmpT ts) q ts.length → out = List.toArray (q.toList.map fun i => Value.ref (bs.getD i 0)) → Q (.done (.ret .none)) { s with heap := sortedHeap s.heap a (bs.map Value.ref) out }) :
    wpAny (model prog w) A (Builtin.«list.sort» ⟨[.ref a], []⟩) Q E s := by
  have hl : bs.length = ts.length := p.length
  have sz : sizeLine = 16777216 := sizeLine_eq
  have hv : (bs.map Value.ref).length = bs.length := List.length_map ..
  have ha := Heap.lt_size ho
  obtain ⟨c1, h1⟩ : ∃ c, (s.heap.update a (Obj.mapSeq fun _ => #[])).get? a = some (seqObj "list" #[] c) := ⟨_, get?_update_seq ho _⟩
  have stay : ∀ b o, b ≠ a → s.heap.get? b = some o → (((s.heap.update a (Obj.mapSeq fun _ => #[])).push (seqObj "tuple" (bs.map Value.ref).toArray 0)).push (seqObj "list" #[] 0)).get? b = some o := fun b o hb e =>
    Heap.get?_push_of_some _ (Heap.get?_push_of_some _ (by rw [Heap.get?_update_ne _ _ _ _ hb]; exact e))
  have h6 : (((s.heap.update a (Obj.mapSeq fun _ => #[])).push (seqObj "tuple" (bs.map Value.ref).toArray 0)).push (seqObj "list" #[] 0)).get? a = some (seqObj "list" #[] c1) := Heap.get?_push_of_some _ (Heap.get?_push_of_some _ h1)
  have pk : Paired (KeyAt (((s.heap.update a (Obj.mapSeq fun _ => #[])).push (seqObj "tuple" (bs.map Value.ref).toArray 0)).push (seqObj "list" #[] 0))) bs ts := by
    have ne : ∀ b ∈ bs, b ≠ a := fun b hb e => by
      obtain ⟨j, hj⟩ := List.mem_iff_getElem?.mp hb
      have hj' : j < bs.length := (List.getElem?_eq_some_iff.mp hj).1
      obtain ⟨o, us, m, _, _, _, g, cl, _⟩ := keys_at p hj'
      have : bs.getD j 0 = b := by simp [hj]
      rw [this, e, ho] at g
      have eg := Option.some.inj g
      rw [← eg] at cl
      have es : ("list" : String) = "tuple" := by injection cl
      exact absurd es (by decide)
    exact keys_to p fun b hb o e => stay b o (ne b hb) e
  have fin : ∀ (q : Array Nat) (out : Array Value), Pm ts.length q → Up (cmpT ts) q ts.length → out = List.toArray (q.toList.map fun i => Value.ref (bs.getD i 0)) → out.size ≤ sizeLine + 1 := fun q out hq _ e => by
    rw [e, List.size_toArray, List.length_map, Array.length_toList, hq.size]
    omega
  rw [list_sort_plain]
  refine wpAny_bind (listItems_at ho rfl (wpAny_bind (listUpdate_at ho rfl (wpAny_bind (seqEpoch_at h1 rfl (wpAny_bind (wpAny_newTuple (wpAny_bind (wpAny_newList (wpAny_holding ?_) (Nat.zero_le _))) (by show (bs.map Value.ref).length ≤ _; omega))))) (by rw [List.size_toArray]; omega) (Nat.zero_le _))))
  show wpAny (model prog w) A _ Q E { s with heap := ((s.heap.update a (Obj.mapSeq fun _ => #[])).push (seqObj "tuple" (bs.map Value.ref).toArray 0)).push (seqObj "list" #[] 0) }
  dsimp only
  by_cases h2 : (bs.map Value.ref).toArray.size < 2
  · have h2' : bs.length < 2 := by rw [List.size_toArray, hv] at h2; exact h2
    rw [if_pos h2, if_pos h2]
    have out : ((bs.map Value.ref).toArray.zip (bs.map Value.ref).toArray).map (·.2) = List.toArray ((List.range ts.length).toArray.toList.map fun i => Value.ref (bs.getD i 0)) := by
      match bs, hl, h2' with
      | [], hl, _ => rw [← hl]; simp
      | [b], hl, _ => rw [← hl]; simp
    have pm : Pm ts.length (List.range ts.length).toArray := ⟨by simp, Array.Perm.refl _⟩
    have up : Up (cmpT ts) (List.range ts.length).toArray ts.length := fun x y hx hy => by omega
    have z := h _ _ pm up out
    refine wpAny_bind (wpAny_pure ?_)
    rw [StateT.run_pure]
    refine wpAny_bind (wpAny_pure ?_)
    dsimp only
    refine wpAny_bind (seqEpoch_at h6 rfl (wpAny_bind (listUpdate_at h6 rfl ?_ (Nat.zero_le _) (fin _ _ pm up out))))
    simp only [bne_self_eq_false, Bool.false_eq_true, if_false]
    exact wpAny_pure z
  · have h2' : 2 ≤ bs.length := by rw [List.size_toArray, hv] at h2; omega
    rw [if_neg h2, if_neg h2]
    obtain ⟨fs, f1, f2, f3⟩ := keys_tups pk
    refine wpAny_bind (PySem.W.kat_kind (T := .type "int") f1 (by omega) (fun v hv => ?_) rfl ?_)
    · obtain ⟨n, t, rfl⟩ := f3 v hv
      exact PySem.W.Looks.of_pure rfl
    have tt : (Value.type "int" != Value.type "tuple") = true := by decide
    rw [tt]
    refine wpAny_bind (wpAny_mono (PySem.W.kat_run (ks := bs.map Value.ref) (Q := fun st' s' => ∃ q : Array Nat, arrOf st' = q.map (PySem.W.kas_item ((bs.map Value.ref).toArray.zip (bs.map Value.ref).toArray)) ∧ failedOf st' = none ∧
        s' = { s with heap := ((s.heap.update a (Obj.mapSeq fun _ => #[])).push (seqObj "tuple" (bs.map Value.ref).toArray 0)).push (seqObj "list" #[] 0) } ∧ Pm ts.length q ∧ Up (cmpT ts) q ts.length)
      rfl (by omega) (by omega) (fun q st' s' _ k1 k2 k3 => ⟨q, k1, k2, k3⟩) ?_) ?_ fun _ _ e => e)
    · rw [hv, hl]
      exact ans_wp (n := ts.length) (c := cmpT ts) (fun i j C hi hj hC => ask_keys pk (by omega) (by omega) hC) _ (ans_sort (strictT nd) (by omega))
    rintro ⟨⟨⟩, st'⟩ s' ⟨q, k1, k2, rfl, pm, up⟩
    dsimp only
    have out : (arrOf st').map (·.2) = List.toArray (q.toList.map fun i => Value.ref (bs.getD i 0)) := by
      rw [PySem.W.kat_snds rfl k1]
      congr 1
      refine List.map_congr_left fun i hi => ?_
      have : i < ts.length := by
        have := pm.perm.mem_iff.mp (Array.mem_def.mpr hi)
        simpa using this
      simp [hl, this]
    have z := h _ _ pm up out
    have zs := fin _ _ pm up out
    refine wpAny_bind (seqEpoch_at h6 rfl (wpAny_bind (listUpdate_at h6 rfl ?_ (Nat.zero_le _) zs)))
    rw [k2]
    simp only [bne_self_eq_false, Bool.false_eq_true, if_false]
    exact wpAny_pure z
end
end L2

set_option Elab.async false
set_option linter.all false
set_option maxRecDepth 100000
set_option maxHeartbeats 4000000
namespace L2
open PySem PySem.Spec PyProof.Rows
theorem rd_src {prog : Program} {w : World} {d : Addr} {es : Array DictEntry} {ep : Nat} (lo : (d == sysModules) = false) :
    PySem.W.KdlSrc prog w "dict" d d es.size (fun j v => ∃ e, es[j]? = some e ∧ v = e.key) (fun h => RawD h d es ep) where
  type := fun s m => m.ty
  there := fun h m => ⟨m.lt, m.lt⟩
  keep := fun h h' m k => m.to fun o e => k d (.inl rfl) o e
  notList := by decide
  notTuple := by decide
  hint := fun A E s Q m q => PySem.W.kdl_hint_dict m.ty q
  iter := fun A s hh m => ⟨_, _, fun E Q q => rd_iter lo m q, rd_walk hh (Nat.ne_of_lt m.lt), ⟨⟨_, Heap.get?_push_size _ rfl, rfl, rfl⟩, m.to fun o e => Heap.get?_push_of_some _ e⟩⟩
theorem kt_keys {H : Hp} {kvs : List (List Key × V)} {rows : List (List Key × Addr × Value)} (r : KT H kvs rows) : kvs.map (·.1) = rows.map (·.1) := by
  induction r with
  | nil => rfl
  | cons h t ih => rw [List.map_cons, List.map_cons, h.1, ih]
theorem kt_tups {H : Hp} {kvs : List (List Key × V)} {rows : List (List Key × Addr × Value)} (r : KT H kvs rows) : ∀ {ts : List T3}, kvs.map (·.1) = ts.map k3 → Paired (fun b t => H b = some (.tup (v3 t))) (rows.map (·.2.1)) ts := by
  induction r with
  | nil =>
    intro ts e
    cases ts with
    | nil => exact .nil
    | cons t r => cases e
  | cons h t ih =>
    intro ts e
    cases ts with
    | nil => cases e
    | cons x r =>
      rw [List.map_cons, List.map_cons] at e
      have e1 := (List.cons.inj e).1
      refine .cons ?_ (ih (List.cons.inj e).2)
      have := h.2.1
      rw [e1, k3_V] at this
      exact this
theorem paired_maps {α β : Type} {R : α → β → Prop} {f : Nat → α} {g : Nat → β} : ∀ {l : List Nat}, (∀ i ∈ l, R (f i) (g i)) → Paired R (l.map f) (l.map g)
  | [], _ => .nil
  | i :: l, h => .cons (h i List.mem_cons_self) (paired_maps fun j hj => h j (List.mem_cons_of_mem _ hj))
theorem paired_at {α β : Type} {R : α → β → Prop} {xs : List α} {ys : List β} (p : Paired R xs ys) {x0 : α} {y0 : β} {j : Nat} (hj : j < xs.length) : R (xs.getD j x0) (ys.getD j y0) := by
  induction p generalizing j with
  | nil => exact absurd hj (Nat.not_lt_zero _)
  | cons r t ih =>
    cases j with
    | zero => exact r
    | succ j => exact ih (Nat.lt_of_succ_lt_succ hj)
theorem range_getD {α : Type} (l : List α) (x : α) : (List.range l.length).map (fun i => l.getD i x) = l := by
  refine List.ext_getElem (by simp) fun i h1 h2 => ?_
  simp [h2]
/-- sorted(d), the keys of the dict d being tuples of a day and two names -/
def rSortT : List V → Hp → VK → Prop := fun xs H Q => ∃ (d : Addr) (kvs : List (List Key × V)) (ts : List T3), xs = [.ref d] ∧ H d = some (.dT kvs) ∧ kvs.map (·.1) = ts.map k3 ∧ ts.length < 64 ∧
  ∀ (p : Addr) (vs : List V) (us : List T3), H p = none → us.Perm ts → us.Pairwise (fun x y => less x y = true) → Paired (RowP v3 H) vs us → Q (.ref p) (upd H p (.lst vs))
section
variable {X : Cx}
theorem call_sortedT (hc : X.calm = true) : CallR X (.builtin "sorted") rSortT := by
  intro pins s σ H xs us Q I r h
  obtain ⟨d, kvs, ts, rfl, hd, hk, h64, q⟩ := h
  obtain ⟨u, rfl, rx⟩ := vals1 r
  cases rx
  have sz : sizeLine = 16777216 := sizeLine_eq
  obtain ⟨hz, lo, rows, kt, o, es, ep, g1, g2, g3, g4, _, g6⟩ := dt_of I.hok hd
  have raw : RawD s.heap d es ep := ⟨o, g1, g2, g3⟩
  have pt := kt_tups kt hk
  have bl : (rows.map (·.2.1)).length = ts.length := pt.length
  have rl : rows.length = ts.length := by rw [← bl, List.length_map]
  have el : es.size = ts.length := by rw [← rl, ← Array.length_toList, g4, List.length_map]
  have nd : ts.Nodup := by
    rw [← kt_keys kt, hk] at g6
    exact (List.pairwise_map.mp g6).imp fun h e => h (by rw [e])
  have pk : Paired (KeyAt s.heap) (rows.map (·.2.1)) ts := Paired.imp' (fun b t (hb : H b = some (.tup (v3 t))) => by
    obtain ⟨its, rv, ⟨ot, t1, t2, n, t3⟩, _⟩ := I.tuple (SqT.of (K := X.K) hb)
    cases rv with
    | cons r1 rv =>
      cases rv with
      | cons r2 rv =>
        cases rv with
        | cons r3 rv =>
          cases rv
          obtain ⟨i, rfl⟩ := r1
          obtain ⟨j, rfl⟩ := r2
          obtain ⟨k, rfl⟩ := r3
          exact ⟨ot, _, n, i, j, k, t1, t2, t3, rfl⟩) pt
  apply Calls.call_function_entry kind_sorted plain_sorted entry_sorted (args_sorted1 _)
  unfold Builtin.«sorted»
  refine wpAny_bind (m := checkCount "sorted" 1 1 _) (wpAny_pure (wpAny_bind (PySem.W.kdu_collect (A := X.A.in1) (rd_src lo) (I.ok.hd hc) raw (by omega) fun h' tk acc keep items => ?_)))
  have ea : acc.toList = (rows.map (·.2.1)).map Value.ref := by
    refine List.ext_getElem? fun j => ?_
    rcases Nat.lt_or_ge j acc.size with hj | hj
    · have ej : acc.toList[j]? = some acc[j] := by simp [hj]
      obtain ⟨e, e1, e2⟩ := items.2 j acc[j] (by simp [hj])
      rw [← Array.getElem?_toList, g4, List.getElem?_map] at e1
      rw [ej, e2, List.map_map, List.getElem?_map]
      cases hx : rows[j]? with
      | none => rw [hx] at e1; cases e1
      | some x =>
        rw [hx] at e1
        cases e1
        rfl
    · have := items.1
      rw [List.getElem?_eq_none (by simpa using hj), List.getElem?_eq_none (by simp; omega)]
  rw [ea]
  have vl : ((rows.map (·.2.1)).map Value.ref).length = ts.length := by rw [List.length_map]; exact bl
  refine wpAny_bind (wpAny_newList ?_ (by omega))
  have gD : (h'.push { cls := .type "list", data := .seq ((rows.map (·.2.1)).map Value.ref).toArray }).get? h'.objs.size = some (seqObj "list" ((rows.map (·.2.1)).map Value.ref).toArray 0) := Heap.get?_push_size _ rfl
  have keep2 : ∀ b o, s.heap.get? b = some o → (h'.push { cls := .type "list", data := .seq ((rows.map (·.2.1)).map Value.ref).toArray }).get? b = some o := fun b o e => Heap.get?_push_of_some _ (keep b o e)
  have I1 := I.kept (t' := tk) keep
  refine wpAny_bind (wpAny_holding (wpAny_call_entry slot_list_sort ⟨_, gD, rfl⟩ entry_list_sort (sort_keys (s := { s with heap := h'.push { cls := .type "list", data := .seq ((rows.map (·.2.1)).map Value.ref).toArray }, toks := tk }) gD (keys_to pk fun b _ o e => keep2 b o e) nd (by omega) fun sq out pm up eo => ⟨_, rfl, ?_⟩) (args_list_sort _)))
  refine wpAny_pure ⟨_, rfl, ?_⟩
  obtain ⟨e, gE⟩ := sortedHeap_at (out := out) gD
  have inr : ∀ i ∈ sq.toList, i < ts.length := fun i hi => by
    have := pm.perm.mem_iff.mp (Array.mem_def.mpr hi)
    simpa using this
  refine ⟨.ref h'.objs.size, upd H h'.objs.size (.lst (sq.toList.map fun i => V.ref ((rows.map (·.2.1)).getD i 0))), I1.laid (fun b o g => ?_) (Nat.le_refl _) ⟨?_, (sq.toList.map fun i => Value.ref ((rows.map (·.2.1)).getD i 0)), e, ?_, ?_⟩, rfl, q _ _ (sq.toList.map fun i => ts.getD i (0, ⟨#[]⟩, ⟨#[]⟩)) (I1.hok.fresh (Nat.le_refl _)) ?_ ?_ ?_⟩
  · have hb : b < h'.objs.size := Heap.lt_size g
    rw [sortedHeap_old (Nat.ne_of_lt hb) (by rw [size_push']; exact Nat.lt_succ_of_lt hb)]
    exact Heap.get?_push_of_some _ g
  · rw [List.length_map, Array.length_toList, pm.size]; omega
  · exact paired_maps fun i _ => rfl
  · rw [gE, eo]
  · have hp : sq.toList.Perm (List.range ts.length) := by simpa using pm.perm.toList
    have := hp.map (fun i => ts.getD i (0, ⟨#[]⟩, ⟨#[]⟩))
    rw [range_getD] at this
    exact this
  · rw [List.pairwise_iff_getElem]
    intro i j hi hj hij
    rw [List.length_map, Array.length_toList, pm.size] at hi hj
    have := up i j hij hj
    have hs := pm.size
    have di : sq.getD i 0 = sq[i]'(by omega) := by simp [Array.getD, hs, hi]
    have dj : sq.getD j 0 = sq[j]'(by omega) := by simp [Array.getD, hs, hj]
    rw [di, dj] at this
    simpa [cmpT] using this
  · exact paired_maps fun i hi => ⟨_, rfl, paired_at pt (by rw [bl]; exact inr i hi)⟩
/-! ### rules for such dicts -/
variable {o e f i value : Expr} {td ty tx tv : TE} {pos pos' : Pos}
theorem qe_dnewT : QE X (.Dict [] [] pos) tDNewT := ⟨pe_dnewT⟩
theorem qe_dgetT (hu : X.A.units + 16 < cLine) (ho : QE X o td) (hi : QE X i ty) (hs : NoSl i := by exact fun _ _ => rfl) : QE X (.Subscript o i pos) (tDGet td ty) := ⟨pe_dget (by omega) ho.h hi.h hs⟩
theorem qs_dput (hu : X.A.units + 16 < cLine) (ho : QE X o td) (hi : QE X i ty) (hv : QE X value tv) (hs : swapsWith value (some (.Subscript o i pos')) pos.line X.env = pure false := by rfl) :
    QS X (.Assign [.Subscript o i pos'] value pos) (sDPut td ty tv) := ⟨ps_dput (by omega) ho.h hi.h hv.h hs⟩
theorem qe_dgt2 {apos cpos : Pos} (hu : X.A.units + 16 < cLine) (ho : QE X o td) (he : QE X e ty) (hf : QE X f tx) (hb : plainBase o = true := by rfl) (hst : noStars [e, f] = true := by rfl) (hline : (apos.endLine == cpos.line) = true := by rfl)
    (htr : backTo cpos (starEach [e, f] X.env) = [(false, eval e X.env), (false, eval f X.env)] := by rfl) : QE X (.Call (.Attribute o "get" apos) [e, f] [] cpos) (tDGet2 td ty tx) :=
  ⟨pe_dget2 (by omega) ho.h he.h hf.h ⟨base_ok hb, few_ok hst (by show 1 < 28; decide), hline, htr⟩⟩
end
end L2

set_option Elab.async false
set_option linter.all false
set_option maxRecDepth 100000
set_option maxHeartbeats 4000000
namespace L2
open PySem PyProof.Rows
theorem rv_len : typeLookup (.type "list_reverseiterator") "__len__" = pure none := by rw [typeLookup_type, builtinLookup_eq_fast]; kernel_rfl
theorem rv_hint : typeLookup (.type "list_reverseiterator") "__length_hint__" = pure (some (.builtin "list_reverseiterator.__length_hint__")) := by rw [typeLookup_type, builtinLookup_eq_fast]; kernel_rfl
theorem rv_split : splitId "list_reverseiterator.__length_hint__" = some ("list_reverseiterator", "__length_hint__") := by decide +kernel
theorem rv_self : isSubtype (.type "list_reverseiterator") (.type "list_reverseiterator") = pure true := by rw [isSubtype_type]; kernel_rfl
/-- a plain built-in's code -/
theorem plain_code {prog : Program} {w : World} {A : Around} {s : Shared} {R : Result → Shared → Prop} {id : String} {B : Builtin} {xs : Args} (pl : plainId id = true) (en : entryFor table id = some B)
    (h : wpAny (model prog w) A.in1 (B xs) (fun fin t => match fin with | .done f => R (.ok f) t | .again c => c.quiet = true ∧ codeAny (model prog w) A c R t) (fun e t => R (.error e) t) s) : codeAny (model prog w) A (.builtin id xs) R s := by
  have e := Around.under_plainId (A := A) pl xs
  exact codeAny_builtin en (by rw [e]; exact h)
section
variable {prog : Program} {w : World} {A : Around} {E : Value → Shared → Prop} {s : Shared} {I : Addr}
theorem rv_hinted {Q : Bool → Shared → Prop} (hT : s.TypeIs (.ref I) "list_reverseiterator") (q : Q false s) : wpAny (model prog w) A (Builtin.List.listLengthHint (.ref I)) Q E s := by
  unfold Builtin.List.listLengthHint
  refine wpAny_bind (wpAny_specialOf hT rv_len ?_)
  show wpAny _ A (specialOf (Value.ref I) (Str.ofString "__length_hint__") >>= _) _ _ _
  refine wpAny_bind (wpAny_specialOf hT rv_hint ?_)
  simp only [rv_split]
  refine wpAny_bind (wpAny_isInstance (b := true) hT rv_self ?_)
  rw [if_neg (by decide), if_pos (by decide +kernel), if_neg (by decide)]
  exact wpAny_pure q
end
section
variable {prog : Program} {w : World} {A : Around} {E : Value → Shared → Prop} {s : Shared} {R : Result → Shared → Prop}
variable {I : Addr} {fp wr : List Addr} {G : Array GenState → Array GenState → Prop} {n : Nat} {P : Nat → Value → Prop} {St : Nat → Shared → Prop}
/-- a list is filled out of a reversed() -/
theorem rv_fill (W : WalksS prog w A.in1 I fp wr G n P St) (ty : ∀ i s, St i s → s.TypeIs (.ref I) "list_reverseiterator") (hn : n ≤ sizeLine) {S : Addr} {res : Value} {c : Nat} (st : St 0 s) (nS : S ∉ fp) (mI : I ∈ fp)
    (gS : s.heap.get? S = some { cls := .type "list", data := .seq #[] c })
    (out : ∀ s' acc c', Moved (S :: wr) G s s' → s'.heap.get? S = some { cls := .type "list", dict := none, data := .seq acc c', slots := #[] } → ItemsOf P acc n → R (.ok (.ret res)) s') :
    wpAny (model prog w) A.in1 (Builtin.List.listExtendWith (.ref S) (.ref I) res)
      (fun fin s' => match fin with | .done f => R (.ok f) s' | .again c' => c'.quiet = true ∧ codeAny (model prog w) A c' R s') (fun e s' => R (.error e) s') s := by
  have ne : S ≠ I := fun e => nS (e ▸ mI)
  have n1 : Builtin.List.listSameRef (.ref S) (.ref I) = false := by simp [Builtin.List.listSameRef, ne]
  have t0 := ty 0 _ st
  unfold Builtin.List.listExtendWith
  refine wpAny_bind (wpAny_typeOf t0 ?_)
  rw [if_neg (by rw [n1]; decide)]
  refine wpAny_bind (W.self 0 _ _ _ st (wpAny_bind (wpAny_holding (rv_hinted t0 ?_))))
  rw [if_neg (by decide)]
  exact wpAny_pure ⟨plainId_quiet F.plain_extend_loop _, codeAny_extend_loopS W hn S nS res n 0 s #[] c rfl (Nat.zero_le _) st gS (ItemsOf.nil P) out⟩
end
section
variable {prog : Program} {w : World} {A : Around} {E : Value → Shared → Prop} {s : Shared} {I : Addr} {fp wr : List Addr} {n : Nat} {P : Nat → Value → Prop} {St : Nat → Heap → Prop}
/-- list(reversed(..)) -/
theorem rv_list {Q : Value → Shared → Prop} (W : Walks prog w A.in1.in1 I fp wr n P St) (ty : ∀ i (s : Shared), St i s.heap → s.TypeIs (.ref I) "list_reverseiterator") (hn : n ≤ sizeLine) (st : St 0 s.heap) (lo : ∀ b ∈ fp, b < s.heap.objs.size) (mI : I ∈ fp)
    (out : ∀ h' tk acc c', (∀ b o, b ∉ wr → s.heap.get? b = some o → h'.get? b = some o) → h'.get? s.heap.objs.size = some { cls := .type "list", dict := none, data := .seq acc c', slots := #[] } → ItemsOf P acc n → Q (.ref s.heap.objs.size) { s with heap := h', toks := tk }) :
    wpAny (model prog w) A (call (.type "list") [.ref I]) Q E s := by
  have nS : s.heap.objs.size ∉ fp := fun m => absurd (lo _ m) (Nat.lt_irrefl _)
  apply callType_codes (Q₁ := fun x t => x = Value.ref s.heap.objs.size ∧ t = { s with heap := s.heap.push { cls := .type "list", data := .seq #[] } }) F.called_list (F.typeCall_list_1 _) F.entry_list_init (code_list_new _ ⟨rfl, rfl⟩)
  rintro _ _ ⟨rfl, rfl⟩
  have g0 : (s.heap.push { cls := .type "list", data := .seq #[] }).get? s.heap.objs.size = some { cls := .type "list", data := .seq #[] } := Heap.get?_push_size _ rfl
  have g1 := Heap.get?_update_self (Obj.mapSeq fun _ => (#[] : Array Value)) g0 rfl
  have kp : ∀ b o, s.heap.get? b = some o → ((s.heap.push { cls := .type "list", data := .seq #[] }).update s.heap.objs.size (Obj.mapSeq fun _ => (#[] : Array Value))).get? b = some o := fun b o e => by
    rw [Heap.get?_update_ne _ _ _ _ (Nat.ne_of_lt (Heap.lt_size e))]
    exact Heap.get?_push_of_some _ e
  refine ⟨⟨_, g0, rfl⟩, F.args_list_init_2 _ _, ?_⟩
  unfold Builtin.«list.__init__»
  generalize hX : Builtin.List.listExtendWith = LE
  wp_walk using wpAny_seqItems g0 rfl, wpAny_updateSeq g0 rfl
  subst hX
  refine rv_fill W.toS (fun i s h => ty i s h) hn (W.frame 0 _ _ st fun b _ o e => kp b o e) nS mI g1 fun s' acc c' mv gS it => ⟨rfl, ?_⟩
  rw [Moved.eq_with mv]
  refine out s'.heap s'.toks acc c' (fun b o hb e => ?_) gS it
  refine mv.heap b o (fun z => ?_) (kp b o e)
  rcases List.mem_cons.mp z with z | z
  · exact absurd (Heap.lt_size e) (by rw [z]; exact Nat.lt_irrefl _)
  · exact hb z
/-- what a reversed() gives, as a list of values -/
theorem rv_collect {Q : List Value → Shared → Prop} (W : Walks prog w A.in1 I fp wr n P St) (ty : ∀ i (s : Shared), St i s.heap → s.TypeIs (.ref I) "list_reverseiterator") (hn : n ≤ sizeLine) (st : St 0 s.heap) (lo : ∀ b ∈ fp, b < s.heap.objs.size) (mI : I ∈ fp)
    (out : ∀ h' tk acc, (∀ b o, b ∉ wr → s.heap.get? b = some o → h'.get? b = some o) → ItemsOf P acc n → Q acc.toList { s with heap := h', toks := tk }) :
    wpAny (model prog w) A (collect (.ref I)) Q E s := by
  have nS : s.heap.objs.size ∉ fp := fun m => absurd (lo _ m) (Nat.lt_irrefl _)
  have g0 : (s.heap.push { cls := .type "list", data := .seq ([] : List Value).toArray }).get? s.heap.objs.size = some { cls := .type "list", data := .seq #[] } := Heap.get?_push_size _ rfl
  have fill : ∀ {R : Result → Shared → Prop}, (∀ h' tk acc c', (∀ b o, b ∉ wr → s.heap.get? b = some o → h'.get? b = some o) → h'.get? s.heap.objs.size = some { cls := .type "list", dict := none, data := .seq acc c', slots := #[] } → ItemsOf P acc n → R (.ok (.ret (.ref s.heap.objs.size))) { s with heap := h', toks := tk }) →
      codeAny (model prog w) A (.builtin "list.__iadd__" ⟨[.ref s.heap.objs.size, .ref I], []⟩) R { s with heap := s.heap.push { cls := .type "list", data := .seq ([] : List Value).toArray } } := fun {R} hR => by
    apply plain_code F.plain_list_iadd F.entry_list_iadd
    refine rv_fill W.toS (fun i s h => ty i s h) hn (W.frame 0 _ _ st fun b _ o e => Heap.get?_push_of_some _ e) nS mI g0 fun s' acc c' mv gS it => ?_
    rw [Moved.eq_with mv]
    refine hR s'.heap s'.toks acc c' (fun b o hb e => mv.heap b o (fun z => ?_) (Heap.get?_push_of_some _ e)) gS it
    rcases List.mem_cons.mp z with z | z
    · exact absurd (Heap.lt_size e) (by rw [z]; exact Nat.lt_irrefl _)
    · exact hb z
  unfold collect
  apply wpAny_bind
  apply wpAny_runValue
  apply plain_code F.plain_proto_collect F.entry_proto_collect
  refine wpAny_bind (m := newList []) (wpAny_newList (wpAny_pure ⟨plainId_quiet F.plain_list_iadd _, fill fun h' tk acc c' k g it => ?_⟩) (Nat.zero_le _))
  exact wpAny_bind (wpAny_load g (wpAny_pure (out h' tk acc k it)))
/-- tuple(reversed(..)) -/
theorem rv_tuple {Q : Value → Shared → Prop} (W : Walks prog w A.in1.in1.in1 I fp wr n P St) (ty : ∀ i (s : Shared), St i s.heap → s.TypeIs (.ref I) "list_reverseiterator") (hn : n ≤ sizeLine) (st : St 0 s.heap) (lo : ∀ b ∈ fp, b < s.heap.objs.size) (mI : I ∈ fp)
    (out : ∀ (h' : Heap) (tk : Nat) (acc : Array Value), (∀ b o, b ∉ wr → s.heap.get? b = some o → h'.get? b = some o) → ItemsOf P acc n → Q (.ref h'.objs.size) { s with heap := h'.push { cls := .type "tuple", data := .seq acc }, toks := tk }) :
    wpAny (model prog w) A (call (.type "tuple") [.ref I]) Q E s := by
  have made : codeAny (model prog w) A.in1 (.call (.builtin "tuple.__new__") ⟨[.type "tuple", .ref I], []⟩) (wants (fun x t => t.TypeIs x "tuple" ∧ Q x t) E) s := by
    have t0 := ty 0 _ st
    have i1 := sub_tuple_self
    have i2 := init_tuple_lookup
    have i3 := madeHere_tuple
    apply codeAny_of_tree
    refine wpAny_bind (wpAny_of_eq (F.newCall_tuple_1 _) ?_)
    refine wpAny_pure ⟨plainId_quiet F.plain_tuple_new _, ?_⟩
    apply plain_code F.plain_tuple_new F.entry_tuple_new
    wp_walk using wpAny_typeOf t0, rv_collect W ty hn st lo mI
    intro h' tk acc k it
    simp only [Array.toArray_toList]
    refine wpAny_bind (wpAny_pure ?_)
    exact wpAny_bind (m := Builtin.Tuple.tupleExact acc) (wpAny_newObj_type (wpAny_pure ⟨⟨_, Heap.get?_push_size _ rfl, rfl⟩, out h' tk acc k it⟩) (by show acc.size ≤ _; rw [it.1]; exact hn))
  refine callType_codes F.called_tuple (F.typeCall_tuple_1 _) F.entry_object_init made fun x t h => ?_
  exact ⟨h.1, F.args_object_init_2 x _, object_init_meets F.called_tuple.init.lookup F.called_tuple.made (by decide) prog w A.in1 _ t ⟨h.1, rfl, h.2⟩⟩
end
end L2
namespace L2
open PySem PySem.Spec PyProof.Rows
theorem bt_reversed : bootBuiltins "reversed" = some (.type "reversed") := by decide +kernel
theorem paired_rev {α β : Type} {F : α → β → Prop} {xs : List α} {ys : List β} (h : Paired F xs ys) : Paired F xs.reverse ys.reverse := by
  induction h with
  | nil => exact .nil
  | cons r t ih =>
    rw [List.reverse_cons, List.reverse_cons]
    exact paired_app ih (.cons r .nil)
theorem items_rev {items acc : Array Value} (h : ItemsOf (fun i v => items[items.size - 1 - i]? = some v) acc items.size) : acc.toList = items.toList.reverse := by
  refine List.ext_getElem? fun j => ?_
  rcases Nat.lt_or_ge j items.size with hj | hj
  · have ha : j < acc.size := by rw [h.1]; exact hj
    have e := h.2 j acc[j] (by simp [ha])
    rw [List.getElem?_reverse (by simpa using hj), Array.length_toList, Array.getElem?_toList, Array.getElem?_toList, e]
    simp [ha]
  · rw [List.getElem?_eq_none (by rw [Array.length_toList, h.1]; exact hj), List.getElem?_eq_none (by simpa using hj)]
/-- list(reversed(e)), tuple(reversed(e)), e a list -/
def tRevL (K : PySem.W.Frag) (te : TE) : TE := fun σ H Q => te σ H fun x H1 => ∃ a ys, x = .ref a ∧ SqL K H1 a ys ∧ ∀ p, H1 p = none → Q (.ref p) (upd H1 p (.lst ys.reverse))
def tRevT (K : PySem.W.Frag) (te : TE) : TE := fun σ H Q => te σ H fun x H1 => ∃ a ys, x = .ref a ∧ SqL K H1 a ys ∧ ∀ p, H1 p = none → Q (.ref p) (upd H1 p (.tup ys.reverse))
section
variable {X : Cx} {e : Expr} {te : TE} {p1 p2 p3 p4 : Pos}
theorem pe_listRev (hc : X.calm = true) (hg1 : Gl X "list") (hm1 : X.mg "list" = none) (hg2 : Gl X "reversed") (hm2 : X.mg "reversed" = none) (he : PE X e te)
    (b1 : starEach [.Call (.Name "reversed" p2) [e] [] p3] X.env = [(false, eval (.Call (.Name "reversed" p2) [e] [] p3) X.env)]) (b2 : starEach [e] X.env = [(false, eval e X.env)]) :
    PE X (.Call (.Name "list" p1) [.Call (.Name "reversed" p2) [e] [] p3] [] p4) (tRevL X.K te) := by
  intro pins s σ H Q I h
  refine Call_name1 b1 (ld_blt I hg1 hm1 bt_list (callWith_type1 (Call_name1 b2 (ld_blt I hg2 hm2 bt_reversed (callWith_type1 (thn (he pins s σ H _ I h) fun u s1 ⟨v, H1, I1, rv, q1⟩ => ?_))))))
  obtain ⟨a, ys, rfl, hq, q⟩ := q1
  cases rv
  obtain ⟨its, rvs, pl, hl⟩ := I1.list hq
  have hll : its.length = ys.length := rvs.length.symm
  have la : a < s1.heap.objs.size := by obtain ⟨_, g, _⟩ := pl.isList; exact Heap.lt_size g
  have gi : (s1.heap.push (revObj a ((its.toArray.size : Int) - 1))).get? s1.heap.objs.size = some (revObj a ((its.toArray.size : Int) - 1)) := Heap.get?_push_size _ rfl
  refine call_reversed_list pl.isList ?_
  have W := Walks.listRev (prog := X.prog) (w := X.w) (A := X.A.in1.in1) (by simp [I1.ok.hd hc]) s1.heap.objs.size a (Nat.ne_of_lt la) its.toArray
  refine rv_list W (fun i s h => h.2.1.typeIs) (by rw [List.size_toArray]; omega) ⟨Nat.zero_le _, ⟨_, gi, rfl, by simp [revObj]⟩, pl.isList.at fun o g => Heap.get?_push_of_some _ g⟩ (fun b hb => ?_) List.mem_cons_self fun h' tk acc c' k g it => ?_
  · show b < (s1.heap.push _).objs.size
    rw [Heap.size_push]
    rcases List.mem_cons.mp hb with z | z
    · rw [z]; exact Nat.lt_succ_self _
    · rw [List.mem_singleton.mp z]; exact Nat.lt_succ_of_lt la
  have ez : (s1.heap.push (revObj a ((its.toArray.size : Int) - 1))).objs.size = s1.heap.objs.size + 1 := Heap.size_push _ _
  have ea : acc.toList = its.reverse := items_rev it
  refine ⟨.ref (s1.heap.objs.size + 1), upd H1 (s1.heap.objs.size + 1) (.lst ys.reverse), I1.laid (fun b o g' => k b o (fun z => ?_) (Heap.get?_push_of_some _ g')) (Nat.le_succ _) ⟨by rw [List.length_reverse]; exact hl, its.reverse, c', paired_rev rvs, ?_⟩, ?_, q _ (I1.hok.fresh (Nat.le_succ _))⟩
  · exact absurd (Heap.lt_size g') (by rw [List.mem_singleton.mp z]; exact Nat.lt_irrefl _)
  · rw [← ea, Array.toArray_toList]
    exact ez ▸ g
  · show Value.ref (s1.heap.push (revObj a ((its.toArray.size : Int) - 1))).objs.size = _
    rw [ez]
theorem pe_tupleRev (hc : X.calm = true) (hg1 : Gl X "tuple") (hm1 : X.mg "tuple" = none) (hg2 : Gl X "reversed") (hm2 : X.mg "reversed" = none) (he : PE X e te)
    (b1 : starEach [.Call (.Name "reversed" p2) [e] [] p3] X.env = [(false, eval (.Call (.Name "reversed" p2) [e] [] p3) X.env)]) (b2 : starEach [e] X.env = [(false, eval e X.env)]) :
    PE X (.Call (.Name "tuple" p1) [.Call (.Name "reversed" p2) [e] [] p3] [] p4) (tRevT X.K te) := by
  intro pins s σ H Q I h
  refine Call_name1 b1 (ld_blt I hg1 hm1 bt_tuple (callWith_type1 (Call_name1 b2 (ld_blt I hg2 hm2 bt_reversed (callWith_type1 (thn (he pins s σ H _ I h) fun u s1 ⟨v, H1, I1, rv, q1⟩ => ?_))))))
  obtain ⟨a, ys, rfl, hq, q⟩ := q1
  cases rv
  obtain ⟨its, rvs, pl, hl⟩ := I1.list hq
  have hll : its.length = ys.length := rvs.length.symm
  have la : a < s1.heap.objs.size := by obtain ⟨_, g, _⟩ := pl.isList; exact Heap.lt_size g
  have gi : (s1.heap.push (revObj a ((its.toArray.size : Int) - 1))).get? s1.heap.objs.size = some (revObj a ((its.toArray.size : Int) - 1)) := Heap.get?_push_size _ rfl
  refine call_reversed_list pl.isList ?_
  have W := Walks.listRev (prog := X.prog) (w := X.w) (A := X.A.in1.in1.in1) (by simp [I1.ok.hd hc]) s1.heap.objs.size a (Nat.ne_of_lt la) its.toArray
  refine rv_tuple W (fun i s h => h.2.1.typeIs) (by rw [List.size_toArray]; omega) ⟨Nat.zero_le _, ⟨_, gi, rfl, by simp [revObj]⟩, pl.isList.at fun o g => Heap.get?_push_of_some _ g⟩ (fun b hb => ?_) List.mem_cons_self fun h' tk acc k it => ?_
  · show b < (s1.heap.push _).objs.size
    rw [Heap.size_push]
    rcases List.mem_cons.mp hb with z | z
    · rw [z]; exact Nat.lt_succ_self _
    · rw [List.mem_singleton.mp z]; exact Nat.lt_succ_of_lt la
  have ea : acc.toList = its.reverse := items_rev it
  have I2 : Inv X pins σ H1 { s1 with heap := h', toks := tk } := I1.kept fun b o g' => k b o (fun z => absurd (Heap.lt_size g') (by rw [List.mem_singleton.mp z]; exact Nat.lt_irrefl _)) (Heap.get?_push_of_some _ g')
  refine ⟨.ref h'.objs.size, upd H1 h'.objs.size (.tup ys.reverse), I2.laid (fun b o g' => Heap.get?_push_of_some _ g') (Nat.le_refl _) ⟨by rw [List.length_reverse]; exact hl, its.reverse, paired_rev rvs, ⟨_, Heap.get?_push_size _ rfl, rfl, 0, ?_⟩⟩, rfl, q _ (I2.hok.fresh (Nat.le_refl _))⟩
  show Data.seq acc _ = Data.seq its.reverse.toArray _
  rw [← ea, Array.toArray_toList]
theorem qe_listRev (hc : X.calm = true) (hg1 : okGl X.env.scope "list" = true) (hm1 : X.mg "list" = none) (hg2 : okGl X.env.scope "reversed" = true) (hm2 : X.mg "reversed" = none) (he : QE X e te) (h : notStar e = true := by rfl) :
    QE X (.Call (.Name "list" p1) [.Call (.Name "reversed" p2) [e] [] p3] [] p4) (tRevL X.K te) := ⟨pe_listRev hc (okGl_get hg1).1 hm1 (okGl_get hg2).1 hm2 he.h rfl (star_cons h)⟩
theorem qe_tupleRev (hc : X.calm = true) (hg1 : okGl X.env.scope "tuple" = true) (hm1 : X.mg "tuple" = none) (hg2 : okGl X.env.scope "reversed" = true) (hm2 : X.mg "reversed" = none) (he : QE X e te) (h : notStar e = true := by rfl) :
    QE X (.Call (.Name "tuple" p1) [.Call (.Name "reversed" p2) [e] [] p3] [] p4) (tRevT X.K te) := ⟨pe_tupleRev hc (okGl_get hg1).1 hm1 (okGl_get hg2).1 hm2 he.h rfl (star_cons h)⟩
end
end L2

set_option Elab.async false
set_option linter.all false
set_option maxRecDepth 100000
set_option maxHeartbeats 4000000
namespace K12
open PySem PySem.Spec PyProof.Rows L2
def top (i : Nat) : Stmt := PySem.Challenge.pw_pointpurse_k12_piles_laid.main.body.getD i (.Pass ⟨0, 0, 0, 0⟩)
structure Txt (K : PySem.W.Frag) (mg : Str → Option Value) : Prop where
  b_len : mg "len" = none
  b_all : mg "all" = none
  b_isinstance : mg "isinstance" = none
  b_bool : mg "bool" = none
  b_range : mg "range" = none
  b_int : mg "int" = none
  b_list : mg "list" = none
  b_tuple : mg "tuple" = none
  b_enumerate : mg "enumerate" = none
  b_max : mg "max" = none
  b_min : mg "min" = none
  b_sum : mg "sum" = none
  b_zip : mg "zip" = none
  b_sorted : mg "sorted" = none
  b_reversed : mg "reversed" = none
/-! the promises of the parts that these laws share -/
def spAt (K : PySem.W.Frag) : Sp := fun vs H Q _ => ∃ (a : Addr) (ns : List Int) (k : Int), vs = [.ref a, .int k] ∧ SqL K H a (ns.map V.int) ∧ 0 ≤ k ∧ ∀ n : Int, Q (.int n) H
def spMix : Sp := fun vs H Q _ => ∃ a k : Int, vs = [.int a, .int k] ∧ 0 ≤ k ∧ k ≤ 1000 ∧ ∀ (m : Int) H', 0 ≤ m → m < 1999999973 → Same H H' → Q (.int m) H'
def spNm : Sp := fun vs H Q _ => ∃ a many : Int, vs = [.int a, .int many] ∧ 0 ≤ many ∧ many ≤ 10 ∧ ∀ (p : Addr) H' (zs : List Str), zs.length = many.toNat → H' p = some (.lst (zs.map V.str)) → H p = none → Same H H' → Q (.ref p) H'
def spWhole : Sp := fun vs H Q _ => ∃ n : Int, vs = [.int n] ∧ Q (.bl true) H
def spMany : Sp := fun vs H Q _ => ∃ n : Int, vs = [.int n] ∧ ∀ (m : Int) H', 0 ≤ m → m ≤ 60 → Same H H' → Q (.int m) H'
theorem at_getD {ns : List Int} {k : Nat} {i : Int} (e : i = (k : Int)) (h : k < ns.length) : atI (ns.map V.int) i = some (.int (ns.getD k 0)) := by
  subst e
  exact atI_nat (by simp [List.getD, h])
theorem at_strs {zs : List Str} {i : Int} (h0 : 0 ≤ i) (h1 : i < zs.length) : ∃ z, atI (zs.map V.str) i = some (.str z) := by
  obtain ⟨x, rfl⟩ : ∃ x : Nat, i = x := ⟨i.toNat, by omega⟩
  have hx : x < zs.length := by omega
  exact ⟨zs[x], atI_nat (by simp [hx])⟩
theorem letters26 : (Str.ofString "abcdefghijklmnopqrstuvwxyz").length = 26 := by decide +kernel
theorem one_len (c : Nat) : (⟨#[c]⟩ : Str).length = 1 := rfl
theorem ixL {i : Int} {H : Hp} {Q : VK} (h0 : 0 ≤ i) (h1 : i < 26) (k : ∀ z : Str, z.length = 1 → Q (.str z) H) : rIxS (.str (Str.ofString "abcdefghijklmnopqrstuvwxyz")) (.int i) H Q :=
  ixS_any h0 (by rw [letters26]; exact h1) (by rw [letters26]; decide) fun c => k _ (one_len c)
section
variable {P : Program} {w : World} {K : PySem.W.Frag} {mg : Str → Option Value} {base : Heap}
abbrev s_law_at : Stmt := top 3
abbrev N_law_at : List Str := ["_law_script", "_law_k"]
theorem sc_law_at : FnScope N_law_at ["_law_script", "_law_k"] (defScope s_law_at) := ⟨rfl, rfl, rfl, by decide +kernel, rfl, by decide +kernel, by decide +kernel⟩
theorem v_law_at_1 : okVar N_law_at (defScope s_law_at) 1 "_law_k" = true := by decide +kernel
theorem g_law_at_len : okGl (defScope s_law_at) "len" = true := by decide +kernel
theorem v_law_at_0 : okVar N_law_at (defScope s_law_at) 0 "_law_script" = true := by decide +kernel
theorem ok_at {f : Addr} {fd : FuncData} (F : Fun K "_law_at" "_law_at" s_law_at f fd) (T : Txt K mg) : FnOk P w K mg base CX0 1 f fd ["_law_script", "_law_k"] (spAt K) := by
  refine F.okQ sc_law_at (fun vs H Q E h => ?_) (fun cdv A outer s H vs Q E hr h => ?_)
  · obtain ⟨_, _, _, rfl, _⟩ := h
    rfl
  · obtain ⟨a, ns, k, rfl, hS, hk, q⟩ := h
    have nd := sc_law_at.nd
    refine ⟨_, (qss_cons (qs_if (qt_cmp op_lt (qv 1 v_law_at_1) (qe_callB call_len_seq g_law_at_len T.b_len bt_len (qa_cons (qv 0 v_law_at_0) qa_nil)))
      (qss_one (qs_ret (qe_ix ix_list (qv 0 v_law_at_0) (qv 1 v_law_at_1))))
      qss_nil)
      (qss_one (qs_ret qe_int))), ?_⟩
    refine ⟨_, rfl, _, rfl, a, _, rfl, .inl hS, _, _, rfl, rfl, _, rfl, ?_⟩
    refine ite2 (fun hc => ?_) (fun hc => ?_)
    · have hc' := of_decide_eq_true hc
      rw [List.length_map] at hc'
      exact ⟨_, rfl, _, rfl, a, _, _, _, rfl, rfl, hS, at_getD (k := k.toNat) (by omega) (by omega), q _⟩
    · exact q 0
abbrev s_law_mix : Stmt := top 4
abbrev N_law_mix : List Str := ["_law_cell", "_law_k", "_law_factor", "_law_number"]
theorem sc_law_mix : FnScope N_law_mix ["_law_cell", "_law_k"] (defScope s_law_mix) := ⟨rfl, rfl, rfl, by decide +kernel, rfl, by decide +kernel, by decide +kernel⟩
theorem w_law_mix_2 : okSet N_law_mix (defScope s_law_mix) 2 "_law_factor" = true := by decide +kernel
theorem v_law_mix_1 : okVar N_law_mix (defScope s_law_mix) 1 "_law_k" = true := by decide +kernel
theorem w_law_mix_3 : okSet N_law_mix (defScope s_law_mix) 3 "_law_number" = true := by decide +kernel
theorem v_law_mix_0 : okVar N_law_mix (defScope s_law_mix) 0 "_law_cell" = true := by decide +kernel
theorem v_law_mix_2 : okVar N_law_mix (defScope s_law_mix) 2 "_law_factor" = true := by decide +kernel
theorem v_law_mix_3 : okVar N_law_mix (defScope s_law_mix) 3 "_law_number" = true := by decide +kernel
theorem ok_mix {f : Addr} {fd : FuncData} (F : Fun K "_law_mix" "_law_mix" s_law_mix f fd) : FnOk P w K mg base CX0 1 f fd ["_law_cell", "_law_k"] spMix := by
  refine F.okQ sc_law_mix (fun vs H Q E h => ?_) (fun cdv A outer s H vs Q E hr h => ?_)
  · obtain ⟨a, k, rfl, _⟩ := h
    rfl
  · obtain ⟨a, k, rfl, hk0, hk1, q⟩ := h
    have nd := sc_law_mix.nd
    refine ⟨_, (qss_cons (qs_set (i := 2) nd w_law_mix_2 (qe_ix ix_list (qe_lst (qa_cons qe_int (qa_cons qe_int (qa_cons qe_int (qa_cons qe_int (qa_cons qe_int (qa_cons qe_int (qa_cons qe_int qa_nil)))))))) (qe_op op_mod (qv 1 v_law_mix_1) qe_int)))
      (qss_cons (qs_set (i := 3) nd w_law_mix_3 (qe_op op_mod (qe_op op_mul (qe_op op_add (qe_op op_add (qe_op op_mod (qv 0 v_law_mix_0) qe_int) (qe_op op_mul (qe_op op_mul qe_int (qv 1 v_law_mix_1)) (qv 1 v_law_mix_1))) qe_int) (qv 2 v_law_mix_2)) qe_int))
      (qss_one (qs_ret (qe_op op_mod (qe_op op_mul (qv 3 v_law_mix_3) (qv 3 v_law_mix_3)) qe_int))))), ?_⟩
    refine ⟨by show 7 ≤ sizeLine; decide, fun l hl => ?_⟩
    obtain ⟨n, hn, e⟩ := at_ints (ns := [48271, 69621, 16807, 40692, 30269, 62089, 45991]) (i := k % 7) (by omega) (by show k % 7 < 7; omega)
    refine ⟨_, rfl, _, _, rfl, rfl, by show (0 : Int) < 7; decide, l, _, _, _, rfl, rfl, SqL.of upd_same, e, ?_⟩
    have hb : 0 ≤ n ∧ n ≤ 69621 := by
      have : ∀ n ∈ ([48271, 69621, 16807, 40692, 30269, 62089, 45991] : List Int), 0 ≤ n ∧ n ≤ 69621 := by decide
      exact this n hn
    refine ⟨_, rfl, _, _, rfl, rfl, by show (0 : Int) < 2147483647; decide, _, rfl, _, _, rfl, rfl, cmulL (by decide) (by decide), _, rfl, _, _, rfl, rfl, cmulR (by show _ < k; omega) (by show k < _; omega), _, _, rfl, rfl, _, _, rfl, rfl, _, rfl, _, _, rfl, rfl, cmulR (by show _ < n; omega) (by show n < _; omega), _, _, rfl, rfl, by show (0 : Int) < 2147483629; decide, ?_⟩
    refine ⟨_, rfl, _, rfl, _, _, rfl, rfl, cmulL (by omega) (by omega), _, _, rfl, rfl, by show (0 : Int) < 1999999973; decide, ?_⟩
    have hs : Same H (upd H l (.lst [V.int 48271, V.int 69621, V.int 16807, V.int 40692, V.int 30269, V.int 62089, V.int 45991])) := (Same.refl H).upd hl
    exact q _ _ (by omega) (by omega) hs
abbrev s_law_names : Stmt := top 5
abbrev N_law_names : List Str := ["_law_cell", "_law_many_here", "_law_letters", "_law_number", "_law_start", "_law_tail", "_law_size", "_law_at_here", "_law_rest"]
theorem sc_law_names : FnScope N_law_names ["_law_cell", "_law_many_here"] (defScope s_law_names) := ⟨rfl, rfl, rfl, by decide +kernel, rfl, by decide +kernel, by decide +kernel⟩
theorem w_law_names_2 : okSet N_law_names (defScope s_law_names) 2 "_law_letters" = true := by decide +kernel
theorem w_law_names_3 : okSet N_law_names (defScope s_law_names) 3 "_law_number" = true := by decide +kernel
theorem g_law_names_law_mix : okGl (defScope s_law_names) "_law_mix" = true := by decide +kernel
theorem v_law_names_0 : okVar N_law_names (defScope s_law_names) 0 "_law_cell" = true := by decide +kernel
theorem w_law_names_4 : okSet N_law_names (defScope s_law_names) 4 "_law_start" = true := by decide +kernel
theorem v_law_names_3 : okVar N_law_names (defScope s_law_names) 3 "_law_number" = true := by decide +kernel
theorem w_law_names_5 : okSet N_law_names (defScope s_law_names) 5 "_law_tail" = true := by decide +kernel
abbrev c_law_names_c0 : Scope := { kind := .function, names := [(Str.ofString ".0", NameKind.local), (Str.ofString "_law_j", NameKind.local), (Str.ofString "_law_letters", NameKind.free), (Str.ofString "_law_number", NameKind.free)], isGenerator := false, isCoroutine := false }
abbrev N_law_names_c0 : List Str := ["_law_j", "_law_cell", "_law_many_here", "_law_letters", "_law_number", "_law_start", "_law_tail", "_law_size", "_law_at_here", "_law_rest"]
theorem cs_law_names_c0 : csB' N_law_names (defScope s_law_names) ["_law_j"] N_law_names_c0 c_law_names_c0 = true := by decide +kernel
theorem nd_law_names_c0 : List.Nodup N_law_names_c0 := by decide +kernel
theorem g_law_names_range : okGl (defScope s_law_names) "range" = true := by decide +kernel
theorem o_law_names_c0_0 : okLoc N_law_names_c0 (relabelS c_law_names_c0 (defScope s_law_names)) 0 "_law_j" = true := by decide +kernel
theorem v_law_names_c0_3 : okVar N_law_names_c0 (relabelS c_law_names_c0 (defScope s_law_names)) 3 "_law_letters" = true := by decide +kernel
theorem v_law_names_c0_4 : okVar N_law_names_c0 (relabelS c_law_names_c0 (defScope s_law_names)) 4 "_law_number" = true := by decide +kernel
theorem v_law_names_c0_0 : okVar N_law_names_c0 (relabelS c_law_names_c0 (defScope s_law_names)) 0 "_law_j" = true := by decide +kernel
abbrev c_law_names_c1 : Scope := { kind := .function, names := [(Str.ofString ".0", NameKind.local), (Str.ofString "_law_k", NameKind.local), (Str.ofString "_law_letters", NameKind.free), (Str.ofString "_law_start", NameKind.free), (Str.ofString "_law_tail", NameKind.free)], isGenerator := false, isCoroutine := false }
abbrev N_law_names_c1 : List Str := ["_law_k", "_law_cell", "_law_many_here", "_law_letters", "_law_number", "_law_start", "_law_tail", "_law_size", "_law_at_here", "_law_rest"]
theorem cs_law_names_c1 : csB' N_law_names (defScope s_law_names) ["_law_k"] N_law_names_c1 c_law_names_c1 = true := by decide +kernel
theorem nd_law_names_c1 : List.Nodup N_law_names_c1 := by decide +kernel
theorem v_law_names_1 : okVar N_law_names (defScope s_law_names) 1 "_law_many_here" = true := by decide +kernel
theorem o_law_names_c1_0 : okLoc N_law_names_c1 (relabelS c_law_names_c1 (defScope s_law_names)) 0 "_law_k" = true := by decide +kernel
theorem v_law_names_c1_3 : okVar N_law_names_c1 (relabelS c_law_names_c1 (defScope s_law_names)) 3 "_law_letters" = true := by decide +kernel
theorem v_law_names_c1_5 : okVar N_law_names_c1 (relabelS c_law_names_c1 (defScope s_law_names)) 5 "_law_start" = true := by decide +kernel
theorem v_law_names_c1_6 : okVar N_law_names_c1 (relabelS c_law_names_c1 (defScope s_law_names)) 6 "_law_tail" = true := by decide +kernel
theorem v_law_names_c1_0 : okVar N_law_names_c1 (relabelS c_law_names_c1 (defScope s_law_names)) 0 "_law_k" = true := by decide +kernel
theorem w_law_names_6 : okSet N_law_names (defScope s_law_names) 6 "_law_size" = true := by decide +kernel
abbrev c_law_names_c2 : Scope := { kind := .function, names := [(Str.ofString ".0", NameKind.local), (Str.ofString "_law_k", NameKind.local), (Str.ofString "_law_letters", NameKind.free), (Str.ofString "_law_size", NameKind.free), (Str.ofString "_law_start", NameKind.free), (Str.ofString "_law_tail", NameKind.free)], isGenerator := false, isCoroutine := false }
abbrev N_law_names_c2 : List Str := ["_law_k", "_law_cell", "_law_many_here", "_law_letters", "_law_number", "_law_start", "_law_tail", "_law_size", "_law_at_here", "_law_rest"]
theorem cs_law_names_c2 : csB' N_law_names (defScope s_law_names) ["_law_k"] N_law_names_c2 c_law_names_c2 = true := by decide +kernel
theorem nd_law_names_c2 : List.Nodup N_law_names_c2 := by decide +kernel
theorem o_law_names_c2_0 : okLoc N_law_names_c2 (relabelS c_law_names_c2 (defScope s_law_names)) 0 "_law_k" = true := by decide +kernel
theorem v_law_names_c2_3 : okVar N_law_names_c2 (relabelS c_law_names_c2 (defScope s_law_names)) 3 "_law_letters" = true := by decide +kernel
theorem v_law_names_c2_5 : okVar N_law_names_c2 (relabelS c_law_names_c2 (defScope s_law_names)) 5 "_law_start" = true := by decide +kernel
theorem v_law_names_c2_0 : okVar N_law_names_c2 (relabelS c_law_names_c2 (defScope s_law_names)) 0 "_law_k" = true := by decide +kernel
theorem v_law_names_c2_6 : okVar N_law_names_c2 (relabelS c_law_names_c2 (defScope s_law_names)) 6 "_law_tail" = true := by decide +kernel
theorem v_law_names_c2_7 : okVar N_law_names_c2 (relabelS c_law_names_c2 (defScope s_law_names)) 7 "_law_size" = true := by decide +kernel
theorem w_law_names_7 : okSet N_law_names (defScope s_law_names) 7 "_law_at_here" = true := by decide +kernel
theorem v_law_names_6 : okVar N_law_names (defScope s_law_names) 6 "_law_size" = true := by decide +kernel
theorem w_law_names_8 : okSet N_law_names (defScope s_law_names) 8 "_law_rest" = true := by decide +kernel
abbrev c_law_names_c3 : Scope := { kind := .function, names := [(Str.ofString ".0", NameKind.local), (Str.ofString "_law_k", NameKind.local), (Str.ofString "_law_letters", NameKind.free), (Str.ofString "_law_number", NameKind.free)], isGenerator := false, isCoroutine := false }
abbrev N_law_names_c3 : List Str := ["_law_k", "_law_cell", "_law_many_here", "_law_letters", "_law_number", "_law_start", "_law_tail", "_law_size", "_law_at_here", "_law_rest"]
theorem cs_law_names_c3 : csB' N_law_names (defScope s_law_names) ["_law_k"] N_law_names_c3 c_law_names_c3 = true := by decide +kernel
theorem nd_law_names_c3 : List.Nodup N_law_names_c3 := by decide +kernel
theorem o_law_names_c3_0 : okLoc N_law_names_c3 (relabelS c_law_names_c3 (defScope s_law_names)) 0 "_law_k" = true := by decide +kernel
theorem v_law_names_c3_3 : okVar N_law_names_c3 (relabelS c_law_names_c3 (defScope s_law_names)) 3 "_law_letters" = true := by decide +kernel
theorem v_law_names_c3_4 : okVar N_law_names_c3 (relabelS c_law_names_c3 (defScope s_law_names)) 4 "_law_number" = true := by decide +kernel
theorem v_law_names_c3_0 : okVar N_law_names_c3 (relabelS c_law_names_c3 (defScope s_law_names)) 0 "_law_k" = true := by decide +kernel
abbrev c_law_names_c4 : Scope := { kind := .function, names := [(Str.ofString ".0", NameKind.local), (Str.ofString "_law_sign", NameKind.local), (Str.ofString "_law_at_here", NameKind.free), (Str.ofString "_law_letters", NameKind.free), (Str.ofString "_law_size", NameKind.free), (Str.ofString "_law_start", NameKind.free), (Str.ofString "_law_tail", NameKind.free)], isGenerator := false, isCoroutine := false }
abbrev N_law_names_c4 : List Str := ["_law_sign", "_law_cell", "_law_many_here", "_law_letters", "_law_number", "_law_start", "_law_tail", "_law_size", "_law_at_here", "_law_rest"]
theorem cs_law_names_c4 : csB' N_law_names (defScope s_law_names) ["_law_sign"] N_law_names_c4 c_law_names_c4 = true := by decide +kernel
theorem nd_law_names_c4 : List.Nodup N_law_names_c4 := by decide +kernel
theorem v_law_names_8 : okVar N_law_names (defScope s_law_names) 8 "_law_rest" = true := by decide +kernel
theorem o_law_names_c4_0 : okLoc N_law_names_c4 (relabelS c_law_names_c4 (defScope s_law_names)) 0 "_law_sign" = true := by decide +kernel
theorem v_law_names_c4_3 : okVar N_law_names_c4 (relabelS c_law_names_c4 (defScope s_law_names)) 3 "_law_letters" = true := by decide +kernel
theorem v_law_names_c4_5 : okVar N_law_names_c4 (relabelS c_law_names_c4 (defScope s_law_names)) 5 "_law_start" = true := by decide +kernel
theorem v_law_names_c4_6 : okVar N_law_names_c4 (relabelS c_law_names_c4 (defScope s_law_names)) 6 "_law_tail" = true := by decide +kernel
theorem v_law_names_c4_8 : okVar N_law_names_c4 (relabelS c_law_names_c4 (defScope s_law_names)) 8 "_law_at_here" = true := by decide +kernel
theorem v_law_names_c4_0 : okVar N_law_names_c4 (relabelS c_law_names_c4 (defScope s_law_names)) 0 "_law_sign" = true := by decide +kernel
theorem v_law_names_c4_7 : okVar N_law_names_c4 (relabelS c_law_names_c4 (defScope s_law_names)) 7 "_law_size" = true := by decide +kernel
theorem ok_names {f : Addr} {fd : FuncData} (F : Fun K "_law_names" "_law_names" s_law_names f fd) (T : Txt K mg) (C_law_mix : Callee P w K mg base 1 "_law_mix" ["_law_cell", "_law_k"] spMix) : FnOk P w K mg base CX0 2 f fd ["_law_cell", "_law_many_here"] spNm := by
  refine F.okQ sc_law_names (fun vs H Q E h => ?_) (fun cdv A outer s H vs Q E hr h => ?_)
  · obtain ⟨_, _, rfl, _⟩ := h
    rfl
  · obtain ⟨a, many, rfl, hn0, hn1, q⟩ := h
    have nd := sc_law_names.nd
    have sz : sizeLine = 16777216 := sizeLine_eq
    refine ⟨_, (qss_cons (qs_set (i := 2) nd w_law_names_2 qe_str)
      (qss_cons (qs_set (i := 3) nd w_law_names_3 (qe_fn C_law_mix hr g_law_names_law_mix (qa_cons (qv 0 v_law_names_0) (qa_cons qe_int qa_nil))))
      (qss_cons (qs_set (i := 4) nd w_law_names_4 (qe_op op_mod (qe_op op_fdiv (qv 3 v_law_names_3) qe_int) qe_int))
      (qss_cons (qs_set (i := 5) nd w_law_names_5 (qe_bm PySem.F.plainAttrs_str PySem.F.slot_str_join PySem.F.type_str_join mt_join qe_str (qa_cons (qe_comp rfl (own := ["_law_j"]) (N' := N_law_names_c0) cs_law_names_c0 (qi_range1 g_law_names_range T.b_range (qa_cons qe_int qa_nil)) (fun _ _ _ _ => (qg_own (i := 0) nd_law_names_c0 o_law_names_c0_0)) (fun _ _ _ _ => qts_nil) (fun _ _ _ _ => (qe_ix ix_str (qv 3 v_law_names_c0_3) (qe_op op_mod (qe_op op_add (qe_op op_fdiv (qv 4 v_law_names_c0_4) (qe_op op_add (qv 0 v_law_names_c0_0) qe_int)) (qe_op op_mul (qv 0 v_law_names_c0_0) (qv 0 v_law_names_c0_0))) qe_int)))) qa_nil)))
      (qss_cons (qs_if (qt_cmp op_eq (qe_op op_mod (qv 3 v_law_names_3) qe_int) qe_int)
      (qss_one (qs_ret (qe_comp rfl (own := ["_law_k"]) (N' := N_law_names_c1) cs_law_names_c1 (qi_range1 g_law_names_range T.b_range (qa_cons (qv 1 v_law_names_1) qa_nil)) (fun _ _ _ _ => (qg_own (i := 0) nd_law_names_c1 o_law_names_c1_0)) (fun _ _ _ _ => qts_nil) (fun _ _ _ _ => (qe_op op_add_str (qe_ix ix_str (qv 3 v_law_names_c1_3) (qv 5 v_law_names_c1_5)) (qe_slice sl_str (qv 6 v_law_names_c1_6) qo_none (qo_some (qv 0 v_law_names_c1_0))))))))
      qss_nil)
      (qss_cons (qs_if (qt_cmp op_eq (qe_op op_mod (qv 3 v_law_names_3) qe_int) qe_int)
      (qss_cons (qs_set (i := 6) nd w_law_names_6 (qe_op op_mod (qe_op op_fdiv (qv 3 v_law_names_3) qe_int) qe_int))
        (qss_one (qs_ret (qe_comp rfl (own := ["_law_k"]) (N' := N_law_names_c2) cs_law_names_c2 (qi_range1 g_law_names_range T.b_range (qa_cons (qv 1 v_law_names_1) qa_nil)) (fun _ _ _ _ => (qg_own (i := 0) nd_law_names_c2 o_law_names_c2_0)) (fun _ _ _ _ => qts_nil) (fun _ _ _ _ => (qe_op op_add_str (qe_ix ix_str (qv 3 v_law_names_c2_3) (qe_op op_mod (qe_op op_add (qv 5 v_law_names_c2_5) (qv 0 v_law_names_c2_0)) qe_int)) (qe_slice sl_str (qv 6 v_law_names_c2_6) qo_none (qo_some (qv 7 v_law_names_c2_7)))))))))
      qss_nil)
      (qss_cons (qs_set (i := 6) nd w_law_names_6 (qe_op op_mod (qe_op op_fdiv (qv 3 v_law_names_3) qe_int) qe_int))
      (qss_cons (qs_set (i := 7) nd w_law_names_7 (qe_op op_mod (qe_op op_fdiv (qv 3 v_law_names_3) qe_int) (qe_op op_add (qv 6 v_law_names_6) qe_int)))
      (qss_cons (qs_setcomp (i := 8) nd w_law_names_8 rfl (own := ["_law_k"]) (N' := N_law_names_c3) cs_law_names_c3 (qi_range1 g_law_names_range T.b_range (qa_cons (qv 1 v_law_names_1) qa_nil)) (fun _ _ _ _ => (qg_own (i := 0) nd_law_names_c3 o_law_names_c3_0)) (fun _ _ _ _ => qts_nil) (fun _ _ _ _ => (qe_ix ix_str (qv 3 v_law_names_c3_3) (qe_op op_mod (qe_op op_add (qe_op op_fdiv (qv 4 v_law_names_c3_4) qe_int) (qv 0 v_law_names_c3_0)) qe_int))) rfl)
      (qss_one (qs_ret (qe_comp rfl (own := ["_law_sign"]) (N' := N_law_names_c4) cs_law_names_c4 (qi_list (qv 8 v_law_names_8)) (fun _ _ _ _ => (qg_own (i := 0) nd_law_names_c4 o_law_names_c4_0)) (fun _ _ _ _ => qts_nil) (fun _ _ _ _ => (qe_op op_add_str (qe_op op_add_str (qe_op op_add_str (qe_ix ix_str (qv 3 v_law_names_c4_3) (qv 5 v_law_names_c4_5)) (qe_slice sl_str (qv 6 v_law_names_c4_6) qo_none (qo_some (qv 8 v_law_names_c4_8)))) (qv 0 v_law_names_c4_0)) (qe_slice sl_str (qv 6 v_law_names_c4_6) (qo_some (qv 8 v_law_names_c4_8)) (qo_some (qv 7 v_law_names_c4_7))))))))))))))))), ?_⟩
    refine ⟨_, rfl, a, 0, rfl, by decide, by decide, fun m H1 hm0 hm1 s1 => ?_⟩
    refine ⟨_, rfl, _, _, rfl, rfl, ⟨by decide, by decide⟩, _, _, rfl, rfl, by show (0 : Int) < 26; decide, ?_⟩
    refine ⟨rfl, 7, rfl, by decide, by decide, comp_range (fun i ys H2 => H2 = H1 ∧ ∃ zs : List Str, ys = zs.map V.str ∧ (∀ z ∈ zs, z.length = 1) ∧ zs.length = i) ⟨rfl, [], rfl, by simp, rfl⟩ (by decide) ?_ ?_⟩
    · rintro i ys H2 hi hy ⟨rfl, zs, rfl, hl1, hl2⟩
      have hi' : i < 7 := hi
      have b0 : 0 ≤ (m / (0 + (i : Int) + 1) + (0 + (i : Int)) * (0 + (i : Int))) % 26 := Int.emod_nonneg _ (by decide)
      have b1 : (m / (0 + (i : Int) + 1) + (0 + (i : Int)) * (0 + (i : Int))) % 26 < 26 := Int.emod_lt_of_pos _ (by decide)
      refine ⟨_, rfl, _, rfl, _, rfl, _, _, rfl, rfl, _, _, rfl, rfl, ⟨by omega, by omega⟩, _, rfl, _, rfl, _, _, rfl, rfl, cmulL (by omega) (by omega), _, _, rfl, rfl, _, _, rfl, rfl, by show (0 : Int) < 26; decide, ixL b0 b1 fun z hz => ⟨rfl, zs ++ [z], by simp, ?_, by simp [hl2]⟩⟩
      intro y hy
      rcases List.mem_append.mp hy with h | h
      · exact hl1 y h
      · have : y = z := by simpa using h
        rw [this]
        exact hz
    · rintro ys H2 hyl ⟨rfl, zs, rfl, ht1, ht2⟩ p hp
      have ht2' : zs.length = 7 := ht2
      have hone : (zs.map (·.length)).sum = 7 := by rw [sum_ones ht1, ht2']
      refine ⟨_, p, zs, rfl, rfl, SqL.of upd_same, by rw [hone, ht2']; decide, ?_⟩
      have s3 := s1.upd (o := .lst (zs.map V.str)) hp
      have htl : (Txt.join (Str.ofString "") zs).length ≤ 7 := by
        have := join_le (sep := Str.ofString "") (l := zs)
        rw [hone, ht2'] at this
        have e0 : (Str.ofString "").length = 0 := by decide +kernel
        rw [e0] at this
        omega
      generalize Txt.join (Str.ofString "") zs = tail at htl ⊢
      generalize upd H2 p (.lst (zs.map V.str)) = H3 at s3 ⊢
      refine ⟨_, rfl, _, _, rfl, rfl, by show (0 : Int) < 3; decide, rfl, _, rfl, ?_⟩
      refine ite2 (fun h1 => ?_) (fun h1 => ?_)
      · refine ⟨_, rfl, _, rfl, by omega, by omega, comp_range (fun i ys H4 => H4 = H3 ∧ ∃ zs : List Str, ys = zs.map V.str ∧ zs.length = i) ⟨rfl, [], rfl, rfl⟩ (by show many.toNat ≤ sizeLine; omega) ?_ ?_⟩
        · rintro i ys H4 hi hy ⟨rfl, zs, rfl, hz⟩
          refine ⟨_, rfl, _, rfl, ixL (by omega) (by omega) fun z hz1 => ?_⟩
          have l2 := Txt.slice_le tail none (some (0 + (i : Int)))
          refine ⟨_, rfl, _, rfl, _, rfl, _, rfl, by omega, _, _, rfl, rfl, by omega, rfl, zs ++ [z ++ Txt.slice tail none (some (0 + (i : Int)))], by simp, by simp [hz]⟩
        · rintro ys H4 hyl ⟨rfl, zs, rfl, hz⟩ p2 hp2
          exact q p2 _ zs hz upd_same (s3.free hp2) (s3.upd hp2)
      refine ⟨_, rfl, _, _, rfl, rfl, by show (0 : Int) < 3; decide, rfl, _, rfl, ?_⟩
      refine ite2 (fun h3 => ?_) (fun h3 => ?_)
      · refine ⟨_, rfl, _, _, rfl, rfl, ⟨by decide, by decide⟩, _, _, rfl, rfl, by show (0 : Int) < 8; decide, ?_⟩
        refine ⟨_, rfl, _, rfl, by omega, by omega, comp_range (fun i ys H4 => H4 = H3 ∧ ∃ zs : List Str, ys = zs.map V.str ∧ zs.length = i) ⟨rfl, [], rfl, rfl⟩ (by show many.toNat ≤ sizeLine; omega) ?_ ?_⟩
        · rintro i ys H4 hi hy ⟨rfl, zs, rfl, hz⟩
          refine ⟨_, rfl, _, rfl, _, rfl, _, _, rfl, rfl, _, _, rfl, rfl, by show (0 : Int) < 26; decide, ixL (by omega) (by omega) fun z hz1 => ?_⟩
          have l2 := Txt.slice_le tail none (some (m / 3 % 8))
          refine ⟨_, rfl, _, rfl, _, rfl, _, rfl, by omega, _, _, rfl, rfl, by omega, rfl, zs ++ [z ++ Txt.slice tail none (some (m / 3 % 8))], by simp, by simp [hz]⟩
        · rintro ys H4 hyl ⟨rfl, zs, rfl, hz⟩ p2 hp2
          exact q p2 _ zs hz upd_same (s3.free hp2) (s3.upd hp2)
      · refine ⟨_, rfl, _, _, rfl, rfl, ⟨by decide, by decide⟩, _, _, rfl, rfl, by show (0 : Int) < 7; decide, ?_⟩
        refine ⟨_, rfl, _, _, rfl, rfl, ⟨by decide, by decide⟩, _, rfl, _, _, rfl, rfl, _, _, rfl, rfl, by show (0 : Int) < m / 3 % 7 + 1; omega, ?_⟩
        refine ⟨_, rfl, _, rfl, by omega, by omega, comp_range (fun i ys H4 => H4 = H3 ∧ ∃ zs : List Str, ys = zs.map V.str ∧ (∀ z ∈ zs, z.length = 1) ∧ zs.length = i) ⟨rfl, [], rfl, by simp, rfl⟩ (by show many.toNat ≤ sizeLine; omega) ?_ ?_⟩
        · rintro i ys H4 hi hy ⟨rfl, zs, rfl, hl1, hz⟩
          refine ⟨_, rfl, _, rfl, _, _, rfl, rfl, ⟨by decide, by decide⟩, _, rfl, _, _, rfl, rfl, _, _, rfl, rfl, by show (0 : Int) < 26; decide, ixL (by omega) (by omega) fun z hz1 => ⟨rfl, zs ++ [z], by simp, ?_, by simp [hz]⟩⟩
          intro y hy
          rcases List.mem_append.mp hy with h | h
          · exact hl1 y h
          · have : y = z := by simpa using h
            rw [this]
            exact hz1
        · rintro ys H4 hyl ⟨rfl, rs, rfl, hr1, hr2⟩ p2 hp2
          have s4 := s3.upd (o := .lst (rs.map V.str)) hp2
          have h5 : upd H4 p2 (.lst (rs.map V.str)) p2 = some (.lst (rs.map V.str)) := upd_same
          have hr2' : rs.length = many.toNat := hr2
          generalize upd H4 p2 (.lst (rs.map V.str)) = H5 at s4 h5 ⊢
          refine ⟨_, rfl, p2, rfl, ⟨_, SqL.of h5⟩, comp_list (K := K) (a := p2) (xs := rs.map V.str) (fun i ys H6 => H6 = H5 ∧ ∃ zs : List Str, ys = zs.map V.str ∧ zs.length = i) ⟨rfl, [], rfl, rfl⟩ (fun i ys H6 _ p => SqL.of (by rw [p.1]; exact h5)) (by simp; omega) ?_ ?_⟩
          · rintro i x ys H6 hx hy ⟨rfl, zs, rfl, hz⟩
            obtain ⟨y, hy1, rfl⟩ : ∃ y : Str, y ∈ rs ∧ x = V.str y := by
              have := List.mem_of_getElem? hx
              obtain ⟨y, h1, h2⟩ := List.mem_map.mp this
              exact ⟨y, h1, h2.symm⟩
            have ly := hr1 y hy1
            refine ⟨_, rfl, _, rfl, ixL (by omega) (by omega) fun z hz1 => ?_⟩
            have l2 := Txt.slice_le tail none (some (m / 21 % (m / 3 % 7 + 1)))
            have l3 := Txt.slice_le tail (some (m / 21 % (m / 3 % 7 + 1))) (some (m / 3 % 7))
            refine ⟨_, rfl, _, rfl, _, rfl, _, rfl, by omega, _, _, rfl, rfl, by omega, _, rfl, _, _, rfl, rfl, by rw [len_app]; omega, _, rfl, _, rfl, _, rfl, _, rfl, _, rfl, _, rfl, by omega, _, _, rfl, rfl, by rw [len_app, len_app]; omega, rfl, zs ++ [z ++ Txt.slice tail none (some (m / 21 % (m / 3 % 7 + 1))) ++ y ++ Txt.slice tail (some (m / 21 % (m / 3 % 7 + 1))) (some (m / 3 % 7))], by simp, by simp [hz]⟩
          · rintro ys H6 hyl2 ⟨rfl, zs, rfl, hz⟩ p3 hp3
            exact q p3 _ zs (by rw [hz, List.length_map, hr2']) upd_same (s4.free hp3) (s4.upd hp3)
abbrev s_law_whole : Stmt := top 10
abbrev N_law_whole : List Str := ["_law_thing"]
theorem sc_law_whole : FnScope N_law_whole ["_law_thing"] (defScope s_law_whole) := ⟨rfl, rfl, rfl, by decide +kernel, rfl, by decide +kernel, by decide +kernel⟩
theorem g_law_whole_isinstance : okGl (defScope s_law_whole) "isinstance" = true := by decide +kernel
theorem v_law_whole_0 : okVar N_law_whole (defScope s_law_whole) 0 "_law_thing" = true := by decide +kernel
theorem g_law_whole_int : okGl (defScope s_law_whole) "int" = true := by decide +kernel
theorem g_law_whole_bool : okGl (defScope s_law_whole) "bool" = true := by decide +kernel
theorem ok_whole {f : Addr} {fd : FuncData} (F : Fun K "_law_whole" "_law_whole" s_law_whole f fd) (T : Txt K mg) : FnOk P w K mg base CX0 1 f fd ["_law_thing"] spWhole := by
  refine F.okQ sc_law_whole (fun vs H Q E h => ?_) (fun cdv A outer s H vs Q E hr h => ?_)
  · obtain ⟨_, rfl, _⟩ := h
    rfl
  · obtain ⟨n, rfl, q⟩ := h
    have nd := sc_law_whole.nd
    refine ⟨_, (qss_one (qs_ret (qe_and (qe_callB call_isinst g_law_whole_isinstance T.b_isinstance bt_isinstance (qa_cons (qv 0 v_law_whole_0) (qa_cons (qe_bltn (v := .ty "int") g_law_whole_int T.b_int bt_int rfl) qa_nil))) (qe_one (qe_not (qe_callB call_isinst g_law_whole_isinstance T.b_isinstance bt_isinstance (qa_cons (qv 0 v_law_whole_0) (qa_cons (qe_bltn (v := .ty "bool") g_law_whole_bool T.b_bool bt_bool rfl) qa_nil)))))))), ?_⟩
    refine ⟨_, rfl, _, _, _, _, rfl, .int _, rfl, _, rfl, iteT ?_⟩
    exact ⟨_, rfl, _, _, _, _, rfl, .int _, (show PySem.W.kitOne K (.type "int") (.type "bool") = some false by with_unfolding_all rfl), _, rfl, q⟩
abbrev s_law_many : Stmt := top 12
abbrev N_law_many : List Str := ["_law_cell", "_law_number"]
theorem sc_law_many : FnScope N_law_many ["_law_cell"] (defScope s_law_many) := ⟨rfl, rfl, rfl, by decide +kernel, rfl, by decide +kernel, by decide +kernel⟩
theorem w_law_many_1 : okSet N_law_many (defScope s_law_many) 1 "_law_number" = true := by decide +kernel
theorem g_law_many_law_mix : okGl (defScope s_law_many) "_law_mix" = true := by decide +kernel
theorem v_law_many_0 : okVar N_law_many (defScope s_law_many) 0 "_law_cell" = true := by decide +kernel
theorem v_law_many_1 : okVar N_law_many (defScope s_law_many) 1 "_law_number" = true := by decide +kernel
theorem ok_many {f : Addr} {fd : FuncData} (F : Fun K "_law_many" "_law_many" s_law_many f fd) (C_law_mix : Callee P w K mg base 1 "_law_mix" ["_law_cell", "_law_k"] spMix) : FnOk P w K mg base CX0 2 f fd ["_law_cell"] spMany := by
  refine F.okQ sc_law_many (fun vs H Q E h => ?_) (fun cdv A outer s H vs Q E hr h => ?_)
  · obtain ⟨_, rfl, _⟩ := h
    rfl
  · obtain ⟨a, rfl, q⟩ := h
    have nd := sc_law_many.nd
    refine ⟨_, (qss_cons (qs_set (i := 1) nd w_law_many_1 (qe_fn C_law_mix hr g_law_many_law_mix (qa_cons (qv 0 v_law_many_0) (qa_cons qe_int qa_nil))))
      (qss_one (qs_ret (qe_ix ix_tup (qe_tup (qa_cons (qe_op op_mod (qe_op op_fdiv (qv 1 v_law_many_1) qe_int) qe_int) (qa_cons (qe_op op_mod (qe_op op_fdiv (qv 1 v_law_many_1) qe_int) qe_int) (qa_cons (qe_op op_mod (qe_op op_fdiv (qv 1 v_law_many_1) qe_int) qe_int) (qa_cons qe_int qa_nil))))) (qe_op op_mod (qv 1 v_law_many_1) qe_int))))), ?_⟩
    refine ⟨_, rfl, a, 2, rfl, by decide, by decide, fun m H1 hm0 hm1 s1 => ?_⟩
    refine ⟨_, rfl, _, _, rfl, rfl, ⟨by decide, by decide⟩, _, _, rfl, rfl, by show (0 : Int) < 6; decide, _, rfl, _, _, rfl, rfl, ⟨by decide, by decide⟩, _, _, rfl, rfl, by show (0 : Int) < 20; decide, _, rfl, _, _, rfl, rfl, ⟨by decide, by decide⟩, _, _, rfl, rfl, by show (0 : Int) < 61; decide, by show 4 ≤ sizeLine; decide, fun q1 hq1 => ?_⟩
    obtain ⟨n, hn, e⟩ := at_ints (ns := [m / 4 % 6, m / 4 % 20, m / 4 % 61, 60]) (i := m % 4) (by omega) (by show _ < (4 : Int); omega)
    have hb : 0 ≤ n ∧ n ≤ 60 := by
      simp only [List.mem_cons, List.not_mem_nil, or_false] at hn
      rcases hn with z | z | z | z <;> omega
    exact ⟨_, rfl, _, _, rfl, rfl, by show (0 : Int) < 4; decide, q1, _, _, _, rfl, rfl, SqT.of upd_same, e, q n _ hb.1 hb.2 (s1.upd hq1)⟩
end
end K12

set_option Elab.async false
set_option linter.all false
set_option maxRecDepth 100000
set_option maxHeartbeats 4000000
namespace K12
open PySem PySem.Spec PyProof.Rows L2
/-! piles, and rows of them -/
abbrev Pl := Int × Str × Str × Int
def pV (p : Pl) : List V := [.int p.1, .str p.2.1, .str p.2.2.1, .int p.2.2.2]
theorem pV_flat (p : Pl) : ∀ v ∈ pV p, flatV v = true := by
  intro v hv
  simp only [pV, List.mem_cons, List.not_mem_nil, or_false] at hv
  rcases hv with rfl | rfl | rfl | rfl <;> rfl
def hV (p : Pl) : List V := [.int p.1, .str p.2.1, .str p.2.2.1]
theorem hV_cmp {p q : Pl} : ∀ (j : Nat) (x y : V), (hV p)[j]? = some x → (hV q)[j]? = some y → CmpV x y := by
  intro j x y h1 h2
  match j, h1, h2 with
  | 0, h1, h2 =>
    cases Option.some.inj h1
    cases Option.some.inj h2
    exact .inl ⟨_, _, rfl, rfl⟩
  | 1, h1, h2 =>
    cases Option.some.inj h1
    cases Option.some.inj h2
    exact .inr ⟨_, _, rfl, rfl⟩
  | 2, h1, h2 =>
    cases Option.some.inj h1
    cases Option.some.inj h2
    exact .inr ⟨_, _, rfl, rfl⟩
  | n + 3, h1, _ => cases h1
theorem hV_pairs (p q : Pl) : Paired CmpV (hV p) (hV q) := .cons (.inl ⟨_, _, rfl, rfl⟩) (.cons (.inr ⟨_, _, rfl, rfl⟩) (.cons (.inr ⟨_, _, rfl, rfl⟩) .nil))
theorem hV_flat {p q : Pl} : ∀ (j : Nat) (x y : V), (hV p)[j]? = some x → (hV q)[j]? = some y → flatV x = true ∧ flatV y = true := fun j x y h1 h2 => (hV_cmp j x y h1 h2).flat
theorem cut_lo {α : Type} {F : V → α → Prop} {us : List V} {xs : List α} {k : Nat} (h : Paired F us xs) (hk : k ≤ us.length) : Paired F (cutV us none (some (k : Int))) (xs.take k) ∧ Paired F (cutV us (some (k : Int)) none) (xs.drop k) := by
  have e1 : HT.sIx us.length us.length (some (k : Int)) = k := by rw [HT.sIx_nat]; omega
  have e2 : HT.sIx us.length 0 (some (k : Int)) = k := by rw [HT.sIx_nat]; omega
  have a1 : cutV us none (some (k : Int)) = us.take k := by
    unfold cutV
    rw [e1]
    rfl
  have a2 : cutV us (some (k : Int)) none = us.drop k := by
    unfold cutV
    rw [e2, HT.sIx_none, List.take_of_length_le (by rw [List.length_drop]; exact Nat.le_refl _)]
  rw [a1, a2]
  clear a1 a2 e1 e2 hk
  induction h generalizing k with
  | nil => exact ⟨by simp; exact .nil, by simp; exact .nil⟩
  | cons r t ih =>
    cases k with
    | zero => exact ⟨.nil, .cons r t⟩
    | succ k =>
      obtain ⟨i1, i2⟩ := ih (k := k)
      exact ⟨.cons r i1, i2⟩
def spPile (K : PySem.W.Frag) : Sp := fun vs H Q _ => ∃ (a p : Addr) (ns : List Int) (zs : List Str) (k : Int), vs = [.ref a, .ref p, .int k] ∧ SqL K H a (ns.map V.int) ∧ H p = some (.lst (zs.map V.str)) ∧ zs.length = 6 ∧ 0 ≤ k ∧ k ≤ 100 ∧ ∀ (t : Addr) H' (d : Pl), 1 ≤ d.2.2.2 → 0 ≤ d.1 → H' t = some (.tup (pV d)) → Same H H' → Q (.ref t) H'
def spPiles (K : PySem.W.Frag) : Sp := fun vs H Q _ => ∃ (a p : Addr) (ns : List Int) (zs : List Str) (f m : Int), vs = [.ref a, .ref p, .int f, .int m] ∧ SqL K H a (ns.map V.int) ∧ H p = some (.lst (zs.map V.str)) ∧ zs.length = 6 ∧ 0 ≤ f ∧ 0 ≤ m ∧ f + m ≤ 100 ∧ ∀ (t : Addr) H' (ds : List Pl), ds.length ≤ m.toNat → (∀ d ∈ ds, 1 ≤ d.2.2.2 ∧ 0 ≤ d.1) → Lst pV H' t ds → H t = none → Same H H' → Q (.ref t) H'
/-! piles by their keys, and what a row of them holds -/
def keyP (d : Pl) : Int × Str × Str := (d.1, d.2.1, d.2.2.1)
def withP (d : Pl) (n : Int) : Pl := (d.1, d.2.1, d.2.2.1, n)
def sameP (d y : Pl) : Bool := decide (keyP y = keyP d)
def totS (d : Pl) (rs : List Pl) : Int := ((rs.filter (sameP d)).map (·.2.2.2)).sum
/-- the row without those like d, and one like d behind it, with all their points -/
def mixP (rs : List Pl) (d : Pl) : List Pl := rs.filter (fun y => !sameP d y) ++ [withP d (d.2.2.2 + totS d rs)]
theorem sum_app (xs ys : List Int) : (xs ++ ys).sum = xs.sum + ys.sum := by
  induction xs with
  | nil => simp
  | cons x xs ih => simp only [List.cons_append, List.sum_cons, ih]; omega
theorem sum_perm {xs ys : List Int} (h : xs.Perm ys) : xs.sum = ys.sum := by
  induction h with
  | nil => rfl
  | cons x _ ih => simp only [List.sum_cons, ih]
  | swap x y l => simp only [List.sum_cons]; omega
  | trans _ _ i1 i2 => rw [i1, i2]
theorem totS_perm (d : Pl) {xs ys : List Pl} (h : xs.Perm ys) : totS d xs = totS d ys := sum_perm ((h.filter _).map _)
theorem mix_nodup {rs : List Pl} (h : (rs.map keyP).Nodup) (d : Pl) : ((mixP rs d).map keyP).Nodup := by
  unfold mixP
  rw [List.map_append, List.nodup_append]
  refine ⟨List.Nodup.sublist (List.Sublist.map _ List.filter_sublist) h, by simp, ?_⟩
  intro a ha b hb
  obtain ⟨y, hy, rfl⟩ := List.mem_map.mp ha
  have hb' : b = keyP d := by simpa [withP, keyP] using hb
  have := (List.mem_filter.mp hy).2
  intro e
  rw [hb'] at e
  simp [sameP, e] at this
/-- a table's row: the one that is there grows, or a new one comes behind -/
def addP (acc : List Pl) (d : Pl) : List Pl :=
  match acc.find? (sameP d) with
  | some o => acc.map fun y => if sameP d y = true then withP y (o.2.2.2 + d.2.2.2) else y
  | none => acc ++ [d]
theorem totS_none {d : Pl} {acc : List Pl} (h : ∀ y ∈ acc, ¬ keyP y = keyP d) : totS d acc = 0 ∧ acc.filter (fun y => !sameP d y) = acc := by
  constructor
  · unfold totS
    rw [List.filter_eq_nil_iff.mpr (fun y hy => by simp [sameP, h y hy])]
    rfl
  · exact List.filter_eq_self.mpr fun y hy => by simp [sameP, h y hy]
theorem map_none {d : Pl} {n : Int} {acc : List Pl} (h : ∀ y ∈ acc, ¬ keyP y = keyP d) : (acc.map fun y => if sameP d y = true then withP y n else y) = acc := by
  conv => rhs; rw [← List.map_id acc]
  exact List.map_congr_left fun y hy => by simp [sameP, h y hy]
theorem add_perm {d : Pl} : ∀ {acc : List Pl}, (acc.map keyP).Nodup → (addP acc d).Perm (mixP acc d) := by
  intro acc nd
  unfold addP
  cases hf : acc.find? (sameP d) with
  | none =>
    have hn : ∀ y ∈ acc, ¬ keyP y = keyP d := fun y hy => by
      have := List.find?_eq_none.mp hf y hy
      simpa [sameP] using this
    obtain ⟨e1, e2⟩ := totS_none hn
    unfold mixP
    rw [e1, e2]
    simp [withP]
  | some o =>
    dsimp only
    unfold mixP
    induction acc with
    | nil => cases hf
    | cons y r ih =>
      have nd1 : keyP y ∉ r.map keyP := (List.nodup_cons.mp nd).1
      have nd2 : (r.map keyP).Nodup := (List.nodup_cons.mp nd).2
      by_cases hy : keyP y = keyP d
      · have e : sameP d y = true := by simp [sameP, hy]
        rw [List.find?_cons, e] at hf
        have ho : y = o := Option.some.inj hf
        subst ho
        have hn : ∀ z ∈ r, ¬ keyP z = keyP d := fun z hz q => nd1 (by rw [hy, ← q]; exact List.mem_map_of_mem hz)
        obtain ⟨e1, e2⟩ := totS_none hn
        have e3 : totS d (y :: r) = y.2.2.2 := by
          unfold totS at e1 ⊢
          rw [List.filter_cons, if_pos e, List.map_cons, List.sum_cons, e1]
          omega
        rw [List.map_cons, if_pos e, map_none hn, List.filter_cons, if_neg (by simp [e]), e2, e3]
        have e4 : withP y (y.2.2.2 + d.2.2.2) = withP d (d.2.2.2 + y.2.2.2) := by
          obtain ⟨a1, a2, a3, a4⟩ := y
          obtain ⟨b1, b2, b3, b4⟩ := d
          simp only [keyP, Prod.mk.injEq] at hy
          obtain ⟨rfl, rfl, rfl⟩ := hy
          simp [withP, Int.add_comm]
        rw [e4]
        exact (List.perm_append_comm (l₁ := [withP d (d.2.2.2 + y.2.2.2)]) (l₂ := r))
      · have e : sameP d y = false := by simp [sameP, hy]
        rw [List.find?_cons, e] at hf
        have e3 : totS d (y :: r) = totS d r := by
          unfold totS
          rw [List.filter_cons, if_neg (by simp [e])]
        rw [List.map_cons, if_neg (by simp [e]), List.filter_cons, if_pos (by simp [e]), e3]
        exact (ih nd2 hf).cons _
def accP (ps : List Pl) : List Pl := ps.foldl addP []
theorem acc_nodup : ∀ (ps acc : List Pl), (acc.map keyP).Nodup → ((ps.foldl addP acc).map keyP).Nodup
  | [], _, h => h
  | d :: ps, acc, h => acc_nodup ps _ (((add_perm h).map keyP).nodup_iff.mpr (mix_nodup h d))
def msP (rs : List Pl) (d : Pl) : List Pl := rs.filter fun y => !sameP d y
def putF (rs : List Pl) (d : Pl) : List Pl := ((msP rs d).take ((msP rs d).filter fun y => ltVs (hV y) (hV d)).length ++ [withP d (d.2.2.2 + totS d rs)]) ++ (msP rs d).drop ((msP rs d).filter fun y => ltVs (hV y) (hV d)).length
theorem eqVs_same (y d : Pl) : eqVs (hV y) (hV d) = sameP d y := by
  show (((y.1 == d.1) && ((y.2.1 == d.2.1) && ((y.2.2.1 == d.2.2.1) && true))) && true) = decide ((y.1, y.2.1, y.2.2.1) = (d.1, d.2.1, d.2.2.1))
  rw [Bool.eq_iff_iff]
  simp only [Bool.and_true, Bool.and_eq_true, beq_iff_eq, decide_eq_true_eq, Prod.mk.injEq]
theorem totS_snoc (d : Pl) (rs : List Pl) (y : Pl) : totS d (rs ++ [y]) = totS d rs + if sameP d y = true then y.2.2.2 else 0 := by
  unfold totS
  rw [List.filter_append, List.map_append, sum_app]
  cases h : sameP d y <;> simp [h]
theorem ms_snoc (d : Pl) (rs : List Pl) (y : Pl) : msP (rs ++ [y]) d = msP rs d ++ if sameP d y = true then [] else [y] := by
  unfold msP
  rw [List.filter_append]
  cases h : sameP d y <;> simp [h]
theorem ms_len (rs : List Pl) (d : Pl) : (msP rs d).length ≤ rs.length := List.length_filter_le _ _
theorem put_mix (rs : List Pl) (d : Pl) : (putF rs d).Perm (mixP rs d) := by
  unfold putF mixP
  have e : ∀ (k : Nat) (ms : List Pl) (x : Pl), ((ms.take k ++ [x]) ++ ms.drop k).Perm (ms ++ [x]) := fun k ms x => by
    have h1 : ((ms.take k ++ [x]) ++ ms.drop k).Perm (ms.take k ++ (ms.drop k ++ [x])) := by
      rw [List.append_assoc]
      exact List.Perm.append_left _ List.perm_append_comm
    rw [← List.append_assoc, List.take_append_drop] at h1
    exact h1
  exact e _ _ _
theorem put_len (rs : List Pl) (d : Pl) : (putF rs d).length ≤ rs.length + 1 := by
  rw [(put_mix rs d).length_eq]
  unfold mixP
  have : (rs.filter fun y => !sameP d y).length ≤ rs.length := List.length_filter_le _ _
  simp
  omega
theorem row_len : ∀ (ps acc : List Pl), (ps.foldl putF acc).length ≤ acc.length + ps.length
  | [], acc => Nat.le_refl _
  | d :: ps, acc => by
    have h1 := row_len ps (putF acc d)
    have h2 := put_len acc d
    rw [List.foldl_cons, List.length_cons]
    omega
def spPut : Sp := fun vs H Q _ => ∃ (a p : Addr) (rs : List Pl) (d : Pl), vs = [.ref a, .ref p] ∧ Lst pV H a rs ∧ H p = some (.tup (pV d)) ∧ rs.length ≤ 1000 ∧ ∀ (t : Addr) H', Lst pV H' t (putF rs d) → Same H H' → Q (.ref t) H'
def spRow : Sp := fun vs H Q _ => ∃ (a p : Addr) (ps : List Pl), vs = [.ref a, .ref p] ∧ H a = some (.lst []) ∧ Lst pV H p ps ∧ ps.length ≤ 100 ∧ ∀ (t : Addr) H', Lst pV H' t (ps.foldl putF []) → Same H H' → Q (.ref t) H'
section
variable {P : Program} {w : World} {K : PySem.W.Frag} {mg : Str → Option Value} {base : Heap}
abbrev s_law_pile : Stmt := top 6
abbrev N_law_pile : List Str := ["_law_script", "_law_names_here", "_law_k", "_law_cell", "_law_m", "_law_n", "_law_born", "_law_mark", "_law_points"]
theorem sc_law_pile : FnScope N_law_pile ["_law_script", "_law_names_here", "_law_k"] (defScope s_law_pile) := ⟨rfl, rfl, rfl, by decide +kernel, rfl, by decide +kernel, by decide +kernel⟩
theorem w_law_pile_3 : okSet N_law_pile (defScope s_law_pile) 3 "_law_cell" = true := by decide +kernel
theorem g_law_pile_law_at : okGl (defScope s_law_pile) "_law_at" = true := by decide +kernel
theorem v_law_pile_0 : okVar N_law_pile (defScope s_law_pile) 0 "_law_script" = true := by decide +kernel
theorem v_law_pile_2 : okVar N_law_pile (defScope s_law_pile) 2 "_law_k" = true := by decide +kernel
theorem g_law_pile_max : okGl (defScope s_law_pile) "max" = true := by decide +kernel
theorem g_law_pile_len : okGl (defScope s_law_pile) "len" = true := by decide +kernel
theorem w_law_pile_4 : okSet N_law_pile (defScope s_law_pile) 4 "_law_m" = true := by decide +kernel
theorem g_law_pile_law_mix : okGl (defScope s_law_pile) "_law_mix" = true := by decide +kernel
theorem v_law_pile_3 : okVar N_law_pile (defScope s_law_pile) 3 "_law_cell" = true := by decide +kernel
theorem w_law_pile_5 : okSet N_law_pile (defScope s_law_pile) 5 "_law_n" = true := by decide +kernel
theorem w_law_pile_6 : okSet N_law_pile (defScope s_law_pile) 6 "_law_born" = true := by decide +kernel
theorem v_law_pile_4 : okVar N_law_pile (defScope s_law_pile) 4 "_law_m" = true := by decide +kernel
theorem w_law_pile_7 : okSet N_law_pile (defScope s_law_pile) 7 "_law_mark" = true := by decide +kernel
theorem v_law_pile_1 : okVar N_law_pile (defScope s_law_pile) 1 "_law_names_here" = true := by decide +kernel
theorem w_law_pile_8 : okSet N_law_pile (defScope s_law_pile) 8 "_law_points" = true := by decide +kernel
theorem v_law_pile_5 : okVar N_law_pile (defScope s_law_pile) 5 "_law_n" = true := by decide +kernel
theorem v_law_pile_6 : okVar N_law_pile (defScope s_law_pile) 6 "_law_born" = true := by decide +kernel
theorem v_law_pile_7 : okVar N_law_pile (defScope s_law_pile) 7 "_law_mark" = true := by decide +kernel
theorem v_law_pile_8 : okVar N_law_pile (defScope s_law_pile) 8 "_law_points" = true := by decide +kernel
theorem ok_pile {f : Addr} {fd : FuncData} (F : Fun K "_law_pile" "_law_pile" s_law_pile f fd) (T : Txt K mg) (C_law_at : Callee P w K mg base 1 "_law_at" ["_law_script", "_law_k"] (spAt K)) (C_law_mix : Callee P w K mg base 1 "_law_mix" ["_law_cell", "_law_k"] spMix) : FnOk P w K mg base CX0 2 f fd ["_law_script", "_law_names_here", "_law_k"] (spPile K) := by
  refine F.okQ sc_law_pile (fun vs H Q E h => ?_) (fun cdv A outer s H vs Q E hr h => ?_)
  · obtain ⟨_, _, _, _, _, rfl, _⟩ := h
    rfl
  · obtain ⟨a, p, ns, zs, k, rfl, hS, hz, hzl, hk0, hk1, q⟩ := h
    have nd := sc_law_pile.nd
    refine ⟨_, (qss_cons (qs_set (i := 3) nd w_law_pile_3 (qe_fn C_law_at hr g_law_pile_law_at (qa_cons (qv 0 v_law_pile_0) (qa_cons (qe_op op_add qe_int (qe_op op_mod (qv 2 v_law_pile_2) (qe_callB (call_max2 rfl) g_law_pile_max T.b_max bt_max (qa_cons qe_int (qa_cons (qe_op op_sub (qe_callB call_len_seq g_law_pile_len T.b_len bt_len (qa_cons (qv 0 v_law_pile_0) qa_nil)) qe_int) qa_nil))))) qa_nil))))
      (qss_cons (qs_set (i := 4) nd w_law_pile_4 (qe_fn C_law_mix hr g_law_pile_law_mix (qa_cons (qv 3 v_law_pile_3) (qa_cons (qv 2 v_law_pile_2) qa_nil))))
      (qss_cons (qs_set (i := 5) nd w_law_pile_5 (qe_fn C_law_mix hr g_law_pile_law_mix (qa_cons (qv 3 v_law_pile_3) (qa_cons (qe_op op_add (qv 2 v_law_pile_2) qe_int) qa_nil))))
      (qss_cons (qs_set (i := 6) nd w_law_pile_6 (qe_ix ix_tup (qe_tup (qa_cons (qe_op op_mod (qv 4 v_law_pile_4) qe_int) (qa_cons (qe_op op_mod (qv 4 v_law_pile_4) qe_int) (qa_cons (qe_op op_mod (qv 4 v_law_pile_4) qe_int) (qa_cons (qe_op op_mod (qe_op op_add (qv 3 v_law_pile_3) (qv 2 v_law_pile_2)) (qe_op op_pow qe_int qe_int)) qa_nil))))) (qe_op op_mod (qe_op op_fdiv (qv 4 v_law_pile_4) qe_int) qe_int)))
      (qss_cons (qs_set (i := 7) nd w_law_pile_7 (qe_ix ix_tup (qe_tup (qa_cons qe_str (qa_cons qe_str (qa_cons (qe_ix ix_list (qv 1 v_law_pile_1) (qe_op op_mod (qe_op op_fdiv (qv 4 v_law_pile_4) qe_int) qe_int)) (qa_cons (qe_ix ix_list (qv 1 v_law_pile_1) qe_int) qa_nil))))) (qe_op op_mod (qe_op op_fdiv (qv 4 v_law_pile_4) qe_int) qe_int)))
      (qss_cons (qs_set (i := 8) nd w_law_pile_8 (qe_ix ix_tup (qe_tup (qa_cons (qe_op op_add qe_int (qe_op op_mod (qv 5 v_law_pile_5) qe_int)) (qa_cons (qe_op op_add qe_int (qe_op op_mod (qv 5 v_law_pile_5) qe_int)) (qa_cons qe_int (qa_cons (qe_op op_add qe_int (qe_op op_mod (qe_op op_add (qv 3 v_law_pile_3) (qv 5 v_law_pile_5)) (qe_op op_pow qe_int qe_int))) qa_nil))))) (qe_op op_mod (qe_op op_fdiv (qv 5 v_law_pile_5) qe_int) qe_int)))
      (qss_one (qs_ret (qe_tup (qa_cons (qv 6 v_law_pile_6) (qa_cons (qe_ix ix_list (qv 1 v_law_pile_1) (qe_op op_mod (qe_op op_fdiv (qv 5 v_law_pile_5) qe_int) qe_int)) (qa_cons (qv 7 v_law_pile_7) (qa_cons (qv 8 v_law_pile_8) qa_nil))))))))))))), ?_⟩
    refine ⟨_, rfl, _, rfl, _, rfl, a, _, rfl, .inl hS, _, _, rfl, rfl, _, _, rfl, _, _, rfl, rfl, by split <;> omega, _, _, rfl, rfl, a, ns, _, rfl, hS, ?_, fun c => ?_⟩
    · have : 0 ≤ k % (if ((ns.map V.int).length : Int) - 1 > 1 then ((ns.map V.int).length : Int) - 1 else 1) := Int.emod_nonneg _ (by split <;> omega)
      omega
    refine ⟨_, rfl, _, rfl, c, k, rfl, hk0, by omega, fun m H1 hm0 hm1 s1 => ?_⟩
    refine ⟨_, rfl, _, rfl, _, _, rfl, rfl, c, _, rfl, by omega, by omega, fun n H2 hn0 hn1 s2 => ?_⟩
    have p12 : (10 : Int) ^ (12 : Int).toNat = 1000000000000 := by decide
    have p8 : (10 : Int) ^ (8 : Int).toNat = 100000000 := by decide
    refine ⟨_, rfl, _, _, rfl, rfl, by show (0 : Int) < 3; decide, _, rfl, _, _, rfl, rfl, by show (0 : Int) < 7; decide, _, rfl, _, _, rfl, rfl, by show (0 : Int) < 40; decide, _, rfl, _, rfl, _, _, rfl, rfl, _, _, rfl, rfl, ⟨by decide, by decide, by decide⟩, _, _, rfl, rfl, by show (0 : Int) < 10 ^ (12 : Int).toNat; rw [p12]; decide, by show 4 ≤ sizeLine; decide, fun t1 ht1 => ?_⟩
    obtain ⟨bo, hbo, e⟩ := at_ints (ns := [m % 3, m % 7, m % 40, (c + k) % 10 ^ (12 : Int).toNat]) (i := m / 21 % 4) (by omega) (by show _ < (4 : Int); omega)
    have hbo0 : 0 ≤ bo := by
      rw [p12] at hbo
      simp only [List.mem_cons, List.not_mem_nil, or_false] at hbo
      rcases hbo with z | z | z | z <;> omega
    refine ⟨_, rfl, _, _, rfl, rfl, ⟨by decide, by decide⟩, _, _, rfl, rfl, by show (0 : Int) < 4; decide, t1, _, _, _, rfl, rfl, SqT.of upd_same, e, ?_⟩
    have s3 : Same H (upd H2 t1 (.tup [V.int (m % 3), V.int (m % 7), V.int (m % 40), V.int ((c + k) % 10 ^ (12 : Int).toNat)])) := (s1.trans s2).upd ht1
    generalize upd H2 t1 (.tup [V.int (m % 3), V.int (m % 7), V.int (m % 40), V.int ((c + k) % 10 ^ (12 : Int).toNat)]) = H3 at s3 ⊢
    obtain ⟨z1, hz1⟩ := at_strs (zs := zs) (i := m / 84 % 6) (by omega) (by omega)
    obtain ⟨z0, hz0⟩ := at_strs (zs := zs) (i := 0) (by omega) (by omega)
    refine ⟨_, rfl, _, rfl, _, _, rfl, rfl, ⟨by decide, by decide⟩, _, _, rfl, rfl, by show (0 : Int) < 6; decide, p, _, _, _, rfl, rfl, SqL.of (s3 _ _ hz), hz1, _, rfl, p, _, _, _, rfl, rfl, SqL.of (s3 _ _ hz), hz0, by show 4 ≤ sizeLine; decide, fun t2 ht2 => ?_⟩
    obtain ⟨z2, hz2⟩ := at_strs (zs := [Str.ofString "", Str.ofString "", z1, z0]) (i := m / 504 % 4) (by omega) (by show _ < (4 : Int); omega)
    refine ⟨_, rfl, _, _, rfl, rfl, ⟨by decide, by decide⟩, _, _, rfl, rfl, by show (0 : Int) < 4; decide, t2, _, _, _, rfl, rfl, SqT.of upd_same, hz2, ?_⟩
    have s4 : Same H (upd H3 t2 (.tup [V.str (Str.ofString ""), V.str (Str.ofString ""), V.str z1, V.str z0])) := s3.upd ht2
    generalize upd H3 t2 (.tup [V.str (Str.ofString ""), V.str (Str.ofString ""), V.str z1, V.str z0]) = H4 at s4 ⊢
    refine ⟨_, rfl, _, _, rfl, rfl, by show (0 : Int) < 3; decide, _, _, rfl, rfl, _, rfl, _, _, rfl, rfl, by show (0 : Int) < 9; decide, _, _, rfl, rfl, _, rfl, _, rfl, _, _, rfl, rfl, _, _, rfl, rfl, ⟨by decide, by decide, by decide⟩, _, _, rfl, rfl, by show (0 : Int) < 10 ^ (8 : Int).toNat; rw [p8]; decide, _, _, rfl, rfl, by show 4 ≤ sizeLine; decide, fun t3 ht3 => ?_⟩
    obtain ⟨x, hx, ex⟩ := at_ints (ns := [1 + n % 3, 1 + n % 9, 1, 1 + (c + n) % 10 ^ (8 : Int).toNat]) (i := n / 9 % 4) (by omega) (by show _ < (4 : Int); omega)
    have hx1 : 1 ≤ x := by
      rw [p8] at hx
      simp only [List.mem_cons, List.not_mem_nil, or_false] at hx
      rcases hx with z | z | z | z <;> omega
    refine ⟨_, rfl, _, _, rfl, rfl, ⟨by decide, by decide⟩, _, _, rfl, rfl, by show (0 : Int) < 4; decide, t3, _, _, _, rfl, rfl, SqT.of upd_same, ex, ?_⟩
    have s5 : Same H (upd H4 t3 (.tup [V.int (1 + n % 3), V.int (1 + n % 9), V.int 1, V.int (1 + (c + n) % 10 ^ (8 : Int).toNat)])) := s4.upd ht3
    generalize upd H4 t3 (.tup [V.int (1 + n % 3), V.int (1 + n % 9), V.int 1, V.int (1 + (c + n) % 10 ^ (8 : Int).toNat)]) = H5 at s5 ⊢
    obtain ⟨z3, hz3⟩ := at_strs (zs := zs) (i := n / 36 % 6) (by omega) (by omega)
    exact ⟨_, rfl, _, rfl, _, rfl, _, _, rfl, rfl, ⟨by decide, by decide⟩, _, _, rfl, rfl, by show (0 : Int) < 6; decide, p, _, _, _, rfl, rfl, SqL.of (s5 _ _ hz), hz3, _, rfl, _, rfl, by show 4 ≤ sizeLine; decide, fun t4 ht4 => q t4 _ (bo, z3, z2, x) hx1 hbo0 upd_same (s5.upd ht4)⟩
abbrev s_law_piles : Stmt := top 7
abbrev N_law_piles : List Str := ["_law_script", "_law_names_here", "_law_first", "_law_many_here"]
theorem sc_law_piles : FnScope N_law_piles ["_law_script", "_law_names_here", "_law_first", "_law_many_here"] (defScope s_law_piles) := ⟨rfl, rfl, rfl, by decide +kernel, rfl, by decide +kernel, by decide +kernel⟩
abbrev c_law_piles_c0 : Scope := { kind := .function, names := [(Str.ofString ".0", NameKind.local), (Str.ofString "_law_k", NameKind.local), (Str.ofString "_law_pile", NameKind.globalImplicit), (Str.ofString "_law_first", NameKind.free), (Str.ofString "_law_names_here", NameKind.free), (Str.ofString "_law_script", NameKind.free)], isGenerator := false, isCoroutine := false }
abbrev N_law_piles_c0 : List Str := ["_law_k", "_law_script", "_law_names_here", "_law_first", "_law_many_here"]
theorem cs_law_piles_c0 : csB' N_law_piles (defScope s_law_piles) ["_law_k"] N_law_piles_c0 c_law_piles_c0 = true := by decide +kernel
theorem nd_law_piles_c0 : List.Nodup N_law_piles_c0 := by decide +kernel
theorem g_law_piles_range : okGl (defScope s_law_piles) "range" = true := by decide +kernel
theorem v_law_piles_3 : okVar N_law_piles (defScope s_law_piles) 3 "_law_many_here" = true := by decide +kernel
theorem o_law_piles_c0_0 : okLoc N_law_piles_c0 (relabelS c_law_piles_c0 (defScope s_law_piles)) 0 "_law_k" = true := by decide +kernel
theorem g_law_piles_c0_law_pile : okGl (relabelS c_law_piles_c0 (defScope s_law_piles)) "_law_pile" = true := by decide +kernel
theorem v_law_piles_c0_1 : okVar N_law_piles_c0 (relabelS c_law_piles_c0 (defScope s_law_piles)) 1 "_law_script" = true := by decide +kernel
theorem v_law_piles_c0_2 : okVar N_law_piles_c0 (relabelS c_law_piles_c0 (defScope s_law_piles)) 2 "_law_names_here" = true := by decide +kernel
theorem v_law_piles_c0_3 : okVar N_law_piles_c0 (relabelS c_law_piles_c0 (defScope s_law_piles)) 3 "_law_first" = true := by decide +kernel
theorem v_law_piles_c0_0 : okVar N_law_piles_c0 (relabelS c_law_piles_c0 (defScope s_law_piles)) 0 "_law_k" = true := by decide +kernel
theorem ok_piles {f : Addr} {fd : FuncData} (F : Fun K "_law_piles" "_law_piles" s_law_piles f fd) (T : Txt K mg) (C_law_pile : Callee P w K mg base 2 "_law_pile" ["_law_script", "_law_names_here", "_law_k"] (spPile K)) : FnOk P w K mg base CX0 3 f fd ["_law_script", "_law_names_here", "_law_first", "_law_many_here"] (spPiles K) := by
  refine F.okQ sc_law_piles (fun vs H Q E h => ?_) (fun cdv A outer s H vs Q E hr h => ?_)
  · obtain ⟨_, _, _, _, _, _, rfl, _⟩ := h
    rfl
  · obtain ⟨a, p, ns, zs, fi, m, rfl, hS, hz, hzl, hf0, hm0, hfm, q⟩ := h
    have nd := sc_law_piles.nd
    have sz : sizeLine = 16777216 := sizeLine_eq
    refine ⟨_, (qss_one (qs_ret (qe_comp rfl (own := ["_law_k"]) (N' := N_law_piles_c0) cs_law_piles_c0 (qi_range1 g_law_piles_range T.b_range (qa_cons (qv 3 v_law_piles_3) qa_nil)) (fun _ _ _ _ => (qg_own (i := 0) nd_law_piles_c0 o_law_piles_c0_0)) (fun _ _ _ _ => qts_nil) (fun _ _ _ _ => (qe_fn C_law_pile hr g_law_piles_c0_law_pile (qa_cons (qv 1 v_law_piles_c0_1) (qa_cons (qv 2 v_law_piles_c0_2) (qa_cons (qe_op op_add (qv 3 v_law_piles_c0_3) (qv 0 v_law_piles_c0_0)) qa_nil)))))))), ?_⟩
    refine ⟨_, rfl, m, rfl, by omega, by omega, comp_range (lo := 0) (n := m.toNat) (fun i ys G => ∃ ds : List Pl, Paired (RowP pV G) ys ds ∧ (∀ d ∈ ds, 1 ≤ d.2.2.2 ∧ 0 ≤ d.1) ∧ Same H G) ⟨[], .nil, by simp, Same.refl _⟩ (by omega) ?_ ?_⟩
    · rintro i ys G hi hy ⟨ds, hp, hps, sm⟩
      refine ⟨_, rfl, _, rfl, _, rfl, _, rfl, _, _, rfl, rfl, a, p, ns, zs, _, rfl, sm.seq hS, sm _ _ hz, hzl, by omega, by omega, fun t G' d hd hd0 ht sm' => ⟨ds ++ [d], paired_snoc (paired_same sm' hp) ⟨t, rfl, ht⟩, ?_, sm.trans sm'⟩⟩
      intro x hx
      rcases List.mem_append.mp hx with z | z
      · exact hps x z
      · have : x = d := by simpa using z
        rw [this]
        exact ⟨hd, hd0⟩
    · rintro ys G hyl ⟨ds, hp, hps, sm⟩ t ht
      have hyl' : ys.length ≤ m.toNat := hyl
      have hyd : ys.length = ds.length := hp.length
      exact q t _ ds (by omega) hps ⟨ys, upd_same, paired_same ((Same.refl G).upd ht) hp⟩ (sm.free ht) (sm.upd ht)
abbrev s_law_put : Stmt := top 8
abbrev N_law_put : List Str := ["_law_row_here", "_law_pile_here", "_law_made", "_law_points", "_law_one", "_law_at_here"]
theorem sc_law_put : FnScope N_law_put ["_law_row_here", "_law_pile_here"] (defScope s_law_put) := ⟨rfl, rfl, rfl, by decide +kernel, rfl, by decide +kernel, by decide +kernel⟩
theorem w_law_put_2 : okSet N_law_put (defScope s_law_put) 2 "_law_made" = true := by decide +kernel
theorem w_law_put_3 : okSet N_law_put (defScope s_law_put) 3 "_law_points" = true := by decide +kernel
theorem v_law_put_1 : okVar N_law_put (defScope s_law_put) 1 "_law_pile_here" = true := by decide +kernel
theorem v_law_put_0 : okVar N_law_put (defScope s_law_put) 0 "_law_row_here" = true := by decide +kernel
theorem w_law_put_4 : okSet N_law_put (defScope s_law_put) 4 "_law_one" = true := by decide +kernel
theorem v_law_put_4 : okVar N_law_put (defScope s_law_put) 4 "_law_one" = true := by decide +kernel
theorem v_law_put_3 : okVar N_law_put (defScope s_law_put) 3 "_law_points" = true := by decide +kernel
theorem v_law_put_2 : okVar N_law_put (defScope s_law_put) 2 "_law_made" = true := by decide +kernel
theorem w_law_put_5 : okSet N_law_put (defScope s_law_put) 5 "_law_at_here" = true := by decide +kernel
theorem g_law_put_len : okGl (defScope s_law_put) "len" = true := by decide +kernel
abbrev c_law_put_c0 : Scope := { kind := .function, names := [(Str.ofString ".0", NameKind.local), (Str.ofString "_law_one", NameKind.local), (Str.ofString "_law_pile_here", NameKind.free)], isGenerator := false, isCoroutine := false }
abbrev N_law_put_c0 : List Str := ["_law_one", "_law_row_here", "_law_pile_here", "_law_made", "_law_points", "?_law_one", "_law_at_here"]
theorem cs_law_put_c0 : csB' N_law_put (defScope s_law_put) ["_law_one"] N_law_put_c0 c_law_put_c0 = true := by decide +kernel
theorem nd_law_put_c0 : List.Nodup N_law_put_c0 := by decide +kernel
theorem v_law_put_c0_0 : okVar N_law_put_c0 (relabelS c_law_put_c0 (defScope s_law_put)) 0 "_law_one" = true := by decide +kernel
theorem v_law_put_c0_2 : okVar N_law_put_c0 (relabelS c_law_put_c0 (defScope s_law_put)) 2 "_law_pile_here" = true := by decide +kernel
theorem o_law_put_c0_0 : okLoc N_law_put_c0 (relabelS c_law_put_c0 (defScope s_law_put)) 0 "_law_one" = true := by decide +kernel
theorem v_law_put_5 : okVar N_law_put (defScope s_law_put) 5 "_law_at_here" = true := by decide +kernel
theorem ok_put {f : Addr} {fd : FuncData} (F : Fun K "_law_put" "_law_put" s_law_put f fd) (T : Txt K mg) : FnOk P w K mg base CX0 1 f fd ["_law_row_here", "_law_pile_here"] spPut := by
  refine F.okQ sc_law_put (fun vs H Q E h => ?_) (fun cdv A outer s H vs Q E hr h => ?_)
  · obtain ⟨_, _, _, _, rfl, _⟩ := h
    rfl
  · obtain ⟨a, p, rs, d, rfl, ⟨us, h1, h2⟩, hp, hlen, q⟩ := h
    have nd := sc_law_put.nd
    have sz : sizeLine = 16777216 := sizeLine_eq
    have hu : (A.deeper (envOfC "_law_put" (defScope s_law_put) s.heap.objs.size f cdv)).units + 16 < cLine := by
      have := hr.un
      omega
    have hul : us.length = rs.length := h2.length
    refine ⟨_, (qss_cons (qs_set (i := 2) nd w_law_put_2 (qe_lst qa_nil))
      (qss_cons (qs_set (i := 3) nd w_law_put_3 (qe_ix ix_tup (qv 1 v_law_put_1) qe_int))
      (qss_cons (qs_for PassesOwn.never rfl (qi_list (qv 0 v_law_put_0)) (qg_name (i := 4) nd w_law_put_4)
      (qss_one (qs_if (qt_cmp (op_tupEq hu) (qe_slice sl_tup (qv 4 v_law_put_4) qo_none (qo_some qe_int)) (qe_slice sl_tup (qv 1 v_law_put_1) qo_none (qo_some qe_int)))
        (qss_one (qs_set (i := 3) nd w_law_put_3 (qe_op op_add (qv 3 v_law_put_3) (qe_ix ix_tup (qv 4 v_law_put_4) qe_int))))
        (qss_one (qs_expr (qe_bm PySem.F.plainAttrs_list PySem.F.slot_list_append PySem.F.type_list_append mt_append (qv 2 v_law_put_2) (qa_cons (qv 4 v_law_put_4) qa_nil)))))))
      (qss_cons (qs_set (i := 5) nd w_law_put_5 (qe_callB call_len_seq g_law_put_len T.b_len bt_len (qa_cons (qe_comp rfl (own := ["_law_one"]) (N' := N_law_put_c0) cs_law_put_c0 (qi_list (qv 2 v_law_put_2)) (fun _ _ _ _ => (qg_own (i := 0) nd_law_put_c0 o_law_put_c0_0)) (fun _ _ _ _ => (qts_one (qt_cmp (op_tupLt hu) (qe_slice (sl_tupK (K := K)) (qv 0 v_law_put_c0_0) qo_none (qo_some qe_int)) (qe_slice (sl_tupK (K := K)) (qv 2 v_law_put_c0_2) qo_none (qo_some qe_int))))) (fun _ _ _ _ => (qv 0 v_law_put_c0_0))) qa_nil)))
      (qss_one (qs_ret (qe_op op_catS (qe_op op_catS (qe_slice sl_list (qv 2 v_law_put_2) qo_none (qo_some (qv 5 v_law_put_5))) (qe_lst (qa_cons (qe_op op_catT (qe_slice sl_tup (qv 1 v_law_put_1) qo_none (qo_some qe_int)) (qe_tup (qa_cons (qv 3 v_law_put_3) qa_nil))) qa_nil))) (qe_slice sl_list (qv 2 v_law_put_2) (qo_some (qv 5 v_law_put_5)) qo_none)))))))), ?_⟩
    refine ⟨by decide, fun l hl => ?_⟩
    have e1 : Same H (upd H l (.lst [])) := (Same.refl H).upd hl
    have g1 : upd H l (.lst []) l = some (.lst []) := upd_same
    generalize upd H l (.lst []) = H1 at e1 g1 ⊢
    refine ⟨_, rfl, p, _, _, _, rfl, rfl, SqT.of (e1 _ _ hp), rfl, ?_⟩
    refine ⟨_, rfl, a, rfl, ⟨_, SqL.of (e1 _ _ h1)⟩, for_list (K := K) (a := a) (xs := us) (fun i σ G => ∃ (pts : Int) (v4 : Option V), σ = [some (.ref a), some (.ref p), some (.ref l), some (.int pts), v4, none] ∧ pts = d.2.2.2 + totS d (rs.take i) ∧ Lst pV G l (msP (rs.take i) d) ∧ Same H G)
      ⟨_, none, rfl, by simp [totS], ⟨[], g1, .nil⟩, e1⟩ (fun i σ G _ ⟨_, _, _, _, _, e⟩ => SqL.of (e _ _ h1)) ?_ ?_⟩
    · rintro i u σ G hu' ⟨pts, v4, rfl, hpt, Lm, sm⟩
      obtain ⟨y, hy1, po, rfl, hpo⟩ := paired_get h2 hu'
      have hi : i < us.length := (List.getElem?_eq_some_iff.mp hu').1
      have ts : rs.take (i + 1) = rs.take i ++ [y] := take_snoc hy1
      have ml := ms_len (rs.take i) d
      have tl : (rs.take i).length ≤ rs.length := by rw [List.length_take]; omega
      have hpoG := sm _ _ hpo
      have hpG := sm _ _ hp
      refine ⟨_, rfl, _, rfl, po, _, rfl, SqT.of hpoG, by show ¬ (HT.sIx 4 0 none = 0 ∧ HT.sIx 4 4 (some 3) = 4); decide, fun t1 ht1 => ?_⟩
      have f1 : Same G (upd G t1 (.tup (cutV (pV y) none (some 3)))) := (Same.refl G).upd ht1
      refine ⟨_, rfl, _, rfl, p, _, rfl, SqT.of (f1 _ _ hpG), by show ¬ (HT.sIx 4 0 none = 0 ∧ HT.sIx 4 4 (some 3) = 4); decide, fun t2 ht2 => ?_⟩
      have f2 : Same (upd G t1 (.tup (cutV (pV y) none (some 3)))) (upd (upd G t1 (.tup (cutV (pV y) none (some 3)))) t2 (.tup (cutV (pV d) none (some 3)))) := (Same.refl _).upd ht2
      have k1 : upd (upd G t1 (.tup (cutV (pV y) none (some 3)))) t2 (.tup (cutV (pV d) none (some 3))) t1 = some (.tup (hV y)) := f2 _ _ upd_same
      have k2 : upd (upd G t1 (.tup (cutV (pV y) none (some 3)))) t2 (.tup (cutV (pV d) none (some 3))) t2 = some (.tup (hV d)) := upd_same
      have f3 := f1.trans f2
      generalize upd (upd G t1 (.tup (cutV (pV y) none (some 3)))) t2 (.tup (cutV (pV d) none (some 3))) = G2 at k1 k2 f3 ⊢
      refine ⟨t1, t2, _, _, rfl, rfl, k1, k2, hV_flat, _, rfl, ite2 (fun hc => ?_) (fun hc => ?_)⟩
      · rw [eqVs_same] at hc
        refine ⟨_, rfl, _, rfl, po, _, _, _, rfl, rfl, SqT.of (f3 _ _ hpoG), rfl, _, _, rfl, rfl, ?_⟩
        refine ⟨_, _, rfl, ?_, ?_, sm.trans f3⟩
        · rw [ts, totS_snoc, if_pos hc, hpt]
          omega
        · rw [ts, ms_snoc, if_pos hc, List.append_nil]
          exact Lm.same f3
      · rw [eqVs_same] at hc
        obtain ⟨ws, w1, w2⟩ := Lm.same f3
        have wl : ws.length = (msP (rs.take i) d).length := w2.length
        refine ⟨_, rfl, .inl ⟨rfl, _, SqL.of w1⟩, _, rfl, l, ws, _, rfl, rfl, w1, by omega, ?_⟩
        refine ⟨pts, _, rfl, ?_, ?_, (sm.trans f3).over hl⟩
        · rw [ts, totS_snoc, if_neg hc, hpt]
          omega
        · rw [ts, ms_snoc, if_neg hc]
          exact Lst.more w1 w2 (.cons ⟨po, rfl, f3 _ _ hpoG⟩ .nil)
    · rintro σ G ⟨pts, v4, rfl, hpt, Lm, sm⟩
      rw [List.take_of_length_le (by omega)] at hpt Lm
      have ml := ms_len rs d
      have ek : putF rs d = ((msP rs d).take ((msP rs d).filter fun y => ltVs (hV y) (hV d)).length ++ [(d.1, d.2.1, d.2.2.1, pts)]) ++ (msP rs d).drop ((msP rs d).filter fun y => ltVs (hV y) (hV d)).length := by
        rw [hpt]
        rfl
      generalize msP rs d = ms at Lm ml ek
      obtain ⟨ws, w1, w2⟩ := Lm
      have wl : ws.length = ms.length := w2.length
      have hpG := sm _ _ hp
      refine ⟨_, rfl, l, rfl, ⟨_, SqL.of w1⟩, comp_list (K := K) (a := l) (xs := ws) (fun i ys G' => ys.length = ((ms.take i).filter fun y => ltVs (hV y) (hV d)).length ∧ Same G G') ⟨rfl, Same.refl _⟩ (fun i ys G' _ e => SqL.of (e.2 _ _ w1)) (by omega) ?_ ?_⟩
      · rintro i x ys G' hx hy ⟨hyn, e⟩
        obtain ⟨y, hy1, po, rfl, hpo⟩ := paired_get w2 hx
        have ts : ms.take (i + 1) = ms.take i ++ [y] := take_snoc hy1
        refine ⟨_, rfl, _, rfl, po, _, rfl, SqT.of (e _ _ hpo), by show ¬ (HT.sIx 4 0 none = 0 ∧ HT.sIx 4 4 (some 3) = 4); decide, fun t1 ht1 => ?_⟩
        have f1 : Same G' (upd G' t1 (.tup (cutV (pV y) none (some 3)))) := (Same.refl G').upd ht1
        refine ⟨_, rfl, _, rfl, p, _, rfl, SqT.of (f1 _ _ (e _ _ hpG)), by show ¬ (HT.sIx 4 0 none = 0 ∧ HT.sIx 4 4 (some 3) = 4); decide, fun t2 ht2 => ?_⟩
        have f2 : Same (upd G' t1 (.tup (cutV (pV y) none (some 3)))) (upd (upd G' t1 (.tup (cutV (pV y) none (some 3)))) t2 (.tup (cutV (pV d) none (some 3)))) := (Same.refl _).upd ht2
        have k1 : upd (upd G' t1 (.tup (cutV (pV y) none (some 3)))) t2 (.tup (cutV (pV d) none (some 3))) t1 = some (.tup (hV y)) := f2 _ _ upd_same
        have k2 : upd (upd G' t1 (.tup (cutV (pV y) none (some 3)))) t2 (.tup (cutV (pV d) none (some 3))) t2 = some (.tup (hV d)) := upd_same
        have f3 := (e.trans f1).trans f2
        generalize upd (upd G' t1 (.tup (cutV (pV y) none (some 3)))) t2 (.tup (cutV (pV d) none (some 3))) = G2 at k1 k2 f3 ⊢
        refine ⟨t1, t2, _, _, rfl, rfl, k1, k2, hV_pairs _ _, _, rfl, ite2 (fun hc => ⟨_, rfl, ?_, f3⟩) (fun hc => ⟨?_, f3⟩)⟩
        · rw [ts, List.filter_append, List.filter_cons_of_pos (p := fun y => ltVs (hV y) (hV d)) hc, List.filter_nil]
          simp only [List.length_append, hyn]
          rfl
        · rw [ts, List.filter_append, List.filter_cons_of_neg (p := fun y => ltVs (hV y) (hV d)) hc, List.filter_nil, List.append_nil]
          exact hyn
      · rintro ys G' hyl ⟨hyn, e⟩ p1 hp1
        rw [List.take_of_length_le (by omega)] at hyn
        rw [← hyn] at ek
        refine ⟨p1, ys, rfl, .inl (SqL.of upd_same), ?_⟩
        have e2 : Same G (upd G' p1 (.lst ys)) := e.upd hp1
        generalize upd G' p1 (.lst ys) = G2 at e2 ⊢
        refine ⟨_, rfl, _, rfl, _, rfl, l, _, rfl, SqL.of (e2 _ _ w1), fun s1 hs1 => ?_⟩
        obtain ⟨c1, c2⟩ := cut_lo (k := ys.length) w2 hyl
        have b1 := c1.length
        have b2 := c2.length
        have e3 : Same G (upd G2 s1 (.lst (cutV ws none (some (ys.length : Int))))) := e2.upd hs1
        have j1 : upd G2 s1 (.lst (cutV ws none (some (ys.length : Int)))) s1 = some (.lst (cutV ws none (some (ys.length : Int)))) := upd_same
        generalize upd G2 s1 (.lst (cutV ws none (some (ys.length : Int)))) = G3 at e3 j1 ⊢
        refine ⟨_, rfl, _, rfl, p, _, rfl, SqT.of (e3 _ _ hpG), by show ¬ (HT.sIx 4 0 none = 0 ∧ HT.sIx 4 4 (some 3) = 4); decide, fun t1 ht1 => ?_⟩
        have f1 : Same G3 (upd G3 t1 (.tup (cutV (pV d) none (some 3)))) := (Same.refl G3).upd ht1
        have k1 : upd G3 t1 (.tup (cutV (pV d) none (some 3))) t1 = some (.tup (hV d)) := upd_same
        generalize upd G3 t1 (.tup (cutV (pV d) none (some 3))) = G4 at f1 k1 ⊢
        refine ⟨_, rfl, by show 1 ≤ sizeLine; decide, fun t2 ht2 => ?_⟩
        have f2 : Same G4 (upd G4 t2 (.tup [.int pts])) := (Same.refl G4).upd ht2
        have k2 : upd G4 t2 (.tup [.int pts]) t2 = some (.tup [.int pts]) := upd_same
        generalize upd G4 t2 (.tup [.int pts]) = G5 at f2 k2 ⊢
        refine ⟨t1, t2, _, _, rfl, rfl, SqT.of (f2 _ _ k1), SqT.of k2, by simp [hV], by show 4 ≤ sizeLine; decide, (fun h => by cases h), fun _ t3 ht3 => ?_⟩
        have f3 : Same G5 (upd G5 t3 (.tup (pV (d.1, d.2.1, d.2.2.1, pts)))) := (Same.refl G5).upd ht3
        have k3 : upd G5 t3 (.tup (pV (d.1, d.2.1, d.2.2.1, pts))) t3 = some (.tup (pV (d.1, d.2.1, d.2.2.1, pts))) := upd_same
        refine ⟨by show 1 ≤ sizeLine; decide, ?_⟩
        change ∀ q, upd G5 t3 (.tup (pV (d.1, d.2.1, d.2.2.1, pts))) q = none → rCatS K (.ref s1) (.ref q) (upd (upd G5 t3 (.tup (pV (d.1, d.2.1, d.2.2.1, pts)))) q (.lst [.ref t3])) _
        generalize upd G5 t3 (.tup (pV (d.1, d.2.1, d.2.2.1, pts))) = G6 at f3 k3 ⊢
        intro t4 ht4
        have f4 : Same G6 (upd G6 t4 (.lst [.ref t3])) := (Same.refl G6).upd ht4
        have k4 : upd G6 t4 (.lst [.ref t3]) t4 = some (.lst [.ref t3]) := upd_same
        generalize upd G6 t4 (.lst [.ref t3]) = G7 at f4 k4 ⊢
        have f17 := ((f1.trans f2).trans f3).trans f4
        refine ⟨s1, t4, _, _, rfl, rfl, SqL.of (f17 _ _ j1), SqL.of k4, by rw [b1]; simp; omega, fun t5 ht5 => ?_⟩
        have f5 : Same G7 (upd G7 t5 (.lst (cutV ws none (some (ys.length : Int)) ++ [.ref t3]))) := (Same.refl G7).upd ht5
        have k5 : upd G7 t5 (.lst (cutV ws none (some (ys.length : Int)) ++ [.ref t3])) t5 = some (.lst (cutV ws none (some (ys.length : Int)) ++ [.ref t3])) := upd_same
        generalize upd G7 t5 (.lst (cutV ws none (some (ys.length : Int)) ++ [.ref t3])) = G8 at f5 k5 ⊢
        have f35 := (e3.trans f17).trans f5
        refine ⟨_, rfl, _, rfl, _, rfl, l, _, rfl, SqL.of (f35 _ _ w1), fun s2 hs2 => ?_⟩
        have f6 : Same G8 (upd G8 s2 (.lst (cutV ws (some (ys.length : Int)) none))) := (Same.refl G8).upd hs2
        have k6 : upd G8 s2 (.lst (cutV ws (some (ys.length : Int)) none)) s2 = some (.lst (cutV ws (some (ys.length : Int)) none)) := upd_same
        generalize upd G8 s2 (.lst (cutV ws (some (ys.length : Int)) none)) = G9 at f6 k6 ⊢
        refine ⟨t5, s2, _, _, rfl, rfl, SqL.of (f6 _ _ k5), SqL.of k6, by rw [List.length_append, b1, b2]; simp; omega, fun t6 ht6 => ?_⟩
        have f7 : Same G9 (upd G9 t6 (.lst ((cutV ws none (some (ys.length : Int)) ++ [.ref t3]) ++ cutV ws (some (ys.length : Int)) none))) := (Same.refl G9).upd ht6
        have f37 := (f35.trans f6).trans f7
        have k33 : upd G9 t6 (.lst ((cutV ws none (some (ys.length : Int)) ++ [.ref t3]) ++ cutV ws (some (ys.length : Int)) none)) t3 = some (.tup (pV (d.1, d.2.1, d.2.2.1, pts))) := f7 _ _ (f6 _ _ (f5 _ _ (f4 _ _ k3)))
        refine q t6 _ ?_ (sm.trans f37)
        rw [ek]
        exact ⟨_, upd_same, paired_app (paired_app (paired_same f37 c1) (.cons ⟨t3, rfl, k33⟩ .nil)) (paired_same f37 c2)⟩
abbrev s_law_row : Stmt := top 9
abbrev N_law_row : List Str := ["_law_row_here", "_law_piles_here", "_law_pile_here"]
theorem sc_law_row : FnScope N_law_row ["_law_row_here", "_law_piles_here"] (defScope s_law_row) := ⟨rfl, rfl, rfl, by decide +kernel, rfl, by decide +kernel, by decide +kernel⟩
theorem v_law_row_1 : okVar N_law_row (defScope s_law_row) 1 "_law_piles_here" = true := by decide +kernel
theorem w_law_row_2 : okSet N_law_row (defScope s_law_row) 2 "_law_pile_here" = true := by decide +kernel
theorem w_law_row_0 : okSet N_law_row (defScope s_law_row) 0 "_law_row_here" = true := by decide +kernel
theorem g_law_row_law_put : okGl (defScope s_law_row) "_law_put" = true := by decide +kernel
theorem v_law_row_0 : okVar N_law_row (defScope s_law_row) 0 "_law_row_here" = true := by decide +kernel
theorem v_law_row_2 : okVar N_law_row (defScope s_law_row) 2 "_law_pile_here" = true := by decide +kernel
theorem ok_row {f : Addr} {fd : FuncData} (F : Fun K "_law_row" "_law_row" s_law_row f fd) (C_law_put : Callee P w K mg base 1 "_law_put" ["_law_row_here", "_law_pile_here"] spPut) : FnOk P w K mg base CX0 2 f fd ["_law_row_here", "_law_piles_here"] spRow := by
  refine F.okQ sc_law_row (fun vs H Q E h => ?_) (fun cdv A outer s H vs Q E hr h => ?_)
  · obtain ⟨_, _, _, rfl, _⟩ := h
    rfl
  · obtain ⟨a, p, ps, rfl, ha, ⟨us, h1, h2⟩, hlen, q⟩ := h
    have nd := sc_law_row.nd
    have hul : us.length = ps.length := h2.length
    refine ⟨_, (qss_cons (qs_for PassesOwn.never rfl (qi_list (qv 1 v_law_row_1)) (qg_name (i := 2) nd w_law_row_2)
      (qss_one (qs_set (i := 0) nd w_law_row_0 (qe_fn C_law_put hr g_law_row_law_put (qa_cons (qv 0 v_law_row_0) (qa_cons (qv 2 v_law_row_2) qa_nil))))))
      (qss_one (qs_ret (qv 0 v_law_row_0)))), ?_⟩
    refine ⟨_, rfl, p, rfl, ⟨_, SqL.of h1⟩, for_list (K := K) (a := p) (xs := us) (fun i σ G => ∃ (r : Addr) (v2 : Option V), σ = [some (.ref r), some (.ref p), v2] ∧ Lst pV G r ((ps.take i).foldl putF []) ∧ Same H G)
      ⟨a, none, rfl, ⟨[], ha, .nil⟩, Same.refl _⟩ (fun i σ G _ ⟨_, _, _, _, e⟩ => SqL.of (e _ _ h1)) ?_ ?_⟩
    · rintro i u σ G hu' ⟨r, v2, rfl, Lr, sm⟩
      obtain ⟨y, hy1, po, rfl, hpo⟩ := paired_get h2 hu'
      have hi : i < us.length := (List.getElem?_eq_some_iff.mp hu').1
      have ts : (ps.take (i + 1)).foldl putF [] = putF ((ps.take i).foldl putF []) y := by
        rw [take_snoc hy1, List.foldl_append]
        rfl
      have rl := row_len (ps.take i) []
      rw [List.length_take] at rl
      refine ⟨_, rfl, _, rfl, r, po, _, y, rfl, Lr, sm _ _ hpo, by simp at rl; omega, fun t G' L' e => ⟨t, _, rfl, ?_, sm.trans e⟩⟩
      rw [ts]
      exact L'
    · rintro σ G ⟨r, v2, rfl, Lr, sm⟩
      rw [List.take_of_length_le (by omega)] at Lr
      exact ⟨_, rfl, q r G Lr sm⟩
end
end K12

set_option Elab.async false
set_option linter.all false
set_option maxRecDepth 100000
set_option maxHeartbeats 4000000
namespace K12
open PySem PySem.Spec PyProof.Rows L2
theorem refs_of {α : Type} {f : α → List V} {H : Hp} : ∀ {us : List V} {xs : List α}, Paired (RowP f H) us xs → ∀ x ∈ us, flatV x = true ∨ ∃ p, x = .ref p
  | _, _, .nil, x, h => by cases h
  | _, _, .cons ⟨p, e, _⟩ t, x, h => by
    rcases List.mem_cons.mp h with z | z
    · exact .inr ⟨p, z.trans e⟩
    · exact refs_of t x z
def spIsRow : Sp := fun vs H Q _ => ∃ (a b : Addr) (ds : List Pl), vs = [.ref a, .ref b] ∧ Lst pV H a ds ∧ Lst pV H b ds ∧ ds.length ≤ 1000 ∧ ∀ H', Same H H' → Q (.bl true) H'
def spLaid : Sp := fun vs H Q _ => ∃ (a b : Addr) (us ws : List V) (xs ys : List Pl), vs = [.ref a, .ref b] ∧ Trk H a us ∧ Trk H b ws ∧ Paired (RowP pV H) us xs ∧ Paired (RowP pV H) ws ys ∧ (xs ++ ys).length < 64 ∧
  ∀ (t : Addr) H' (ds : List Pl), ds.Perm (accP (xs ++ ys)) → ds.Pairwise (fun x y => less (keyP x) (keyP y) = true) → Lst pV H' t ds → H t = none → Same H H' → Q (.ref t) H'
/-! a table of piles -/
def tab (acc : List Pl) : List (List Key × V) := acc.map fun d => (k3 (keyP d), V.int d.2.2.2)
theorem tab_keys (acc : List Pl) : (tab acc).map (·.1) = (acc.map keyP).map k3 := by
  unfold tab
  rw [List.map_map, List.map_map]
  rfl
theorem tab_val (y : Pl) : ∀ acc : List Pl, valV (tab acc) (k3 (keyP y)) = (acc.find? (sameP y)).map fun o => V.int o.2.2.2
  | [] => rfl
  | d :: r => by
    have ih := tab_val y r
    by_cases h : keyP d = keyP y
    · have e : sameP y d = true := by simp [sameP, h]
      rw [List.find?_cons, e]
      exact valV_pos (show k3 (keyP d) = k3 (keyP y) by rw [h])
    · have e : sameP y d = false := by simp [sameP, h]
      rw [List.find?_cons, e, ← ih]
      exact valV_neg (fun q => h (k3_inj q))
theorem tab_put (acc : List Pl) (y : Pl) : putK (tab acc) (k3 (keyP y)) (.int (((acc.find? (sameP y)).map (·.2.2.2)).getD 0 + y.2.2.2)) = tab (addP acc y) := by
  unfold putK addP
  rw [valV_any, tab_val]
  cases h : acc.find? (sameP y) with
  | none =>
    rw [if_neg (by simp)]
    unfold tab
    rw [List.map_append]
    simp
  | some o =>
    rw [if_pos (by simp)]
    unfold tab
    rw [List.map_map, List.map_map]
    refine List.map_congr_left fun d _ => ?_
    show (if k3 (keyP d) = k3 (keyP y) then (k3 (keyP d), V.int (o.2.2.2 + y.2.2.2)) else (k3 (keyP d), V.int d.2.2.2)) = (k3 (keyP (if sameP y d = true then withP d (o.2.2.2 + y.2.2.2) else d)), V.int (if sameP y d = true then withP d (o.2.2.2 + y.2.2.2) else d).2.2.2)
    by_cases e : keyP d = keyP y
    · rw [if_pos (by rw [e]), if_pos (by simp [sameP, e])]
      rfl
    · rw [if_neg (fun q => e (k3_inj q)), if_neg (by simp [sameP, e])]
theorem add_len (acc : List Pl) (d : Pl) : (addP acc d).length ≤ acc.length + 1 := by
  unfold addP
  split
  · rw [List.length_map]; omega
  · simp
theorem acc_len : ∀ (ps acc : List Pl), (ps.foldl addP acc).length ≤ acc.length + ps.length
  | [], acc => Nat.le_refl _
  | d :: ps, acc => by
    have h1 := acc_len ps (addP acc d)
    have h2 := add_len acc d
    rw [List.foldl_cons, List.length_cons]
    omega
def ptsT (acc : List Pl) (t : T3) : Int := ((acc.find? fun y => decide (keyP y = t)).map (·.2.2.2)).getD 0
def finT (acc : List Pl) (t : T3) : Pl := (t.1, t.2.1, t.2.2, ptsT acc t)
theorem find_key {d : Pl} : ∀ {acc : List Pl}, d ∈ acc → (acc.map keyP).Nodup → acc.find? (fun y => decide (keyP y = keyP d)) = some d
  | y :: r, h, nd => by
    have n1 : keyP y ∉ r.map keyP := (List.nodup_cons.mp nd).1
    rw [List.find?_cons]
    rcases List.mem_cons.mp h with z | z
    · subst z
      simp
    · have hne : ¬ keyP y = keyP d := fun e => n1 (by rw [e]; exact List.mem_map_of_mem z)
      rw [decide_eq_false hne]
      exact find_key z (List.nodup_cons.mp nd).2
theorem fin_self {acc : List Pl} (nd : (acc.map keyP).Nodup) : (acc.map keyP).map (finT acc) = acc := by
  rw [List.map_map]
  conv => rhs; rw [← List.map_id acc]
  refine List.map_congr_left fun d hd => ?_
  show (d.1, d.2.1, d.2.2.1, ptsT acc (keyP d)) = d
  unfold ptsT
  rw [find_key hd nd]
  rfl
theorem tab_get {acc : List Pl} {t : T3} (h : t ∈ acc.map keyP) : valV (tab acc) (k3 t) = some (.int (ptsT acc t)) := by
  obtain ⟨d, hd, rfl⟩ := List.mem_map.mp h
  rw [tab_val]
  show ((acc.find? fun y => decide (keyP y = keyP d)).map fun o => V.int o.2.2.2) = some (.int (ptsT acc (keyP d)))
  unfold ptsT
  cases e : acc.find? fun y => decide (keyP y = keyP d) with
  | none => exact absurd (List.find?_eq_none.mp e d hd) (by simp)
  | some o => rfl
/-! rows in their order -/
section
variable {lt : Int × Str × Str → Int × Str × Str → Bool} (tot : ∀ x y, x ≠ y → lt x y = false → lt y x = true) (tra : ∀ x y z, lt x y = true → lt y z = true → lt x z = true) (irr : ∀ x, lt x x = false)
include tot tra irr
theorem split_at {d : Pl} : ∀ {ms : List Pl}, ms.Pairwise (fun x y => lt (keyP x) (keyP y) = true) → (∀ y ∈ ms, keyP y ≠ keyP d) →
    ms.take (ms.filter fun y => lt (keyP y) (keyP d)).length = (ms.filter fun y => lt (keyP y) (keyP d)) ∧ ms.drop (ms.filter fun y => lt (keyP y) (keyP d)).length = ms.filter fun y => !lt (keyP y) (keyP d)
  | [], _, _ => ⟨rfl, rfl⟩
  | y :: r, hs, hk => by
    obtain ⟨h1, h2⟩ := List.pairwise_cons.mp hs
    have ih := split_at (d := d) h2 fun z hz => hk z (List.mem_cons_of_mem _ hz)
    cases e : lt (keyP y) (keyP d) with
    | true =>
      rw [List.filter_cons_of_pos (p := fun y => lt (keyP y) (keyP d)) e, List.filter_cons_of_neg (p := fun y => !lt (keyP y) (keyP d)) (by simp [e]), List.length_cons, List.take_succ_cons, List.drop_succ_cons, ih.1]
      exact ⟨rfl, ih.2⟩
    | false =>
      have e' := tot _ _ (hk y List.mem_cons_self) e
      have none : ∀ z ∈ r, lt (keyP z) (keyP d) = false := fun z hz => by
        cases q : lt (keyP z) (keyP d) with
        | false => rfl
        | true =>
          have a := tra _ _ _ (tra _ _ _ e' (h1 z hz)) q
          rw [irr] at a
          cases a
      have e0 : (r.filter fun y => lt (keyP y) (keyP d)) = [] := List.filter_eq_nil_iff.mpr fun z hz => by simp [none z hz]
      have e1 : (r.filter fun y => !lt (keyP y) (keyP d)) = r := List.filter_eq_self.mpr fun z hz => by simp [none z hz]
      rw [List.filter_cons_of_neg (p := fun y => lt (keyP y) (keyP d)) (by simp [e]), List.filter_cons_of_pos (p := fun y => !lt (keyP y) (keyP d)) (by simp [e]), e0, e1]
      exact ⟨rfl, rfl⟩
theorem put_rises {rs : List Pl} {d : Pl} {n : Int} (hs : rs.Pairwise fun x y => lt (keyP x) (keyP y) = true) :
    (((rs.filter fun y => !sameP d y).take ((rs.filter fun y => !sameP d y).filter fun y => lt (keyP y) (keyP d)).length ++ [withP d n]) ++ (rs.filter fun y => !sameP d y).drop ((rs.filter fun y => !sameP d y).filter fun y => lt (keyP y) (keyP d)).length).Pairwise fun x y => lt (keyP x) (keyP y) = true := by
  have hm : (rs.filter fun y => !sameP d y).Pairwise fun x y => lt (keyP x) (keyP y) = true := hs.sublist List.filter_sublist
  have hk : ∀ y ∈ rs.filter fun y => !sameP d y, keyP y ≠ keyP d := fun y hy e => by
    have := (List.mem_filter.mp hy).2
    simp [sameP, e] at this
  generalize (rs.filter fun y => !sameP d y) = ms at hm hk
  obtain ⟨e1, e2⟩ := split_at tot tra irr (d := d) hm hk
  rw [e1, e2]
  have kd : keyP (withP d n) = keyP d := rfl
  have gt : ∀ b ∈ ms.filter (fun y => !lt (keyP y) (keyP d)), lt (keyP d) (keyP b) = true := fun b hb => by
    obtain ⟨h1, h2⟩ := List.mem_filter.mp hb
    exact tot _ _ (hk b h1) (by simpa using h2)
  have ls : ∀ a ∈ ms.filter (fun y => lt (keyP y) (keyP d)), lt (keyP a) (keyP d) = true := fun a ha => by simpa using (List.mem_filter.mp ha).2
  rw [List.pairwise_append, List.pairwise_append]
  refine ⟨⟨hm.sublist List.filter_sublist, List.pairwise_singleton _ _, fun a ha x hx => ?_⟩, hm.sublist List.filter_sublist, fun a ha b hb => ?_⟩
  · rw [List.mem_singleton.mp hx, kd]
    exact ls a ha
  · rcases List.mem_append.mp ha with z | z
    · exact tra _ _ _ (ls a z) (gt b hb)
    · rw [List.mem_singleton.mp z, kd]
      exact gt b hb
theorem rises_eq : ∀ {as bs : List Pl}, as.Pairwise (fun x y => lt (keyP x) (keyP y) = true) → bs.Pairwise (fun x y => lt (keyP x) (keyP y) = true) → (∀ x, x ∈ as ↔ x ∈ bs) → as = bs
  | [], [], _, _, _ => rfl
  | [], b :: bs, _, _, h => absurd ((h b).mpr List.mem_cons_self) (by simp)
  | a :: as, [], _, _, h => absurd ((h a).mp List.mem_cons_self) (by simp)
  | a :: as, b :: bs, h1, h2, h => by
    obtain ⟨a1, a2⟩ := List.pairwise_cons.mp h1
    obtain ⟨b1, b2⟩ := List.pairwise_cons.mp h2
    have e : a = b := by
      rcases List.mem_cons.mp ((h a).mp List.mem_cons_self) with z | z
      · exact z
      · rcases List.mem_cons.mp ((h b).mpr List.mem_cons_self) with y | y
        · exact y.symm
        · have := tra _ _ _ (a1 b y) (b1 a z)
          rw [irr] at this
          cases this
    subst e
    have ne1 : a ∉ as := fun z => by
      have := a1 a z
      rw [irr] at this
      cases this
    have ne2 : a ∉ bs := fun z => by
      have := b1 a z
      rw [irr] at this
      cases this
    rw [rises_eq a2 b2 fun x => ?_]
    constructor
    · intro hx
      rcases List.mem_cons.mp ((h x).mp (List.mem_cons_of_mem _ hx)) with z | z
      · exact absurd (z ▸ hx) ne1
      · exact z
    · intro hx
      rcases List.mem_cons.mp ((h x).mpr (List.mem_cons_of_mem _ hx)) with z | z
      · exact absurd (z ▸ hx) ne2
      · exact z
end
/-- ds is the row of the piles ps -/
def RowOf (ps ds : List Pl) : Prop := (ds.map keyP).Nodup ∧ ∀ x, x ∈ ds ↔ (∃ y ∈ ps, keyP y = keyP x) ∧ x.2.2.2 = totS x ps
theorem totS_key {d x : Pl} (h : keyP x = keyP d) (ps : List Pl) : totS x ps = totS d ps := by
  unfold totS
  have : sameP x = sameP d := by
    funext y
    unfold sameP
    rw [h]
  rw [this]
theorem totS_app (d : Pl) (xs ys : List Pl) : totS d (xs ++ ys) = totS d xs + totS d ys := by
  unfold totS
  rw [List.filter_append, List.map_append, sum_app]
theorem totS_one (d y : Pl) : totS d [y] = if keyP y = keyP d then y.2.2.2 else 0 := by
  unfold totS
  by_cases h : keyP y = keyP d
  · rw [if_pos h, List.filter_cons_of_pos (by simp [sameP, h])]
    simp
  · rw [if_neg h, List.filter_cons_of_neg (by simp [sameP, h])]
    rfl
theorem totS_in : ∀ {ds : List Pl} {x : Pl}, (ds.map keyP).Nodup → x ∈ ds → totS x ds = x.2.2.2
  | y :: r, x, nd, h => by
    have n1 : keyP y ∉ r.map keyP := (List.nodup_cons.mp nd).1
    rw [show y :: r = [y] ++ r from rfl, totS_app, totS_one]
    rcases List.mem_cons.mp h with z | z
    · subst z
      rw [if_pos rfl, (totS_none fun q hq e => n1 (by rw [← e]; exact List.mem_map_of_mem hq)).1]
      omega
    · rw [if_neg (fun e => n1 (by rw [e]; exact List.mem_map_of_mem z)), totS_in (List.nodup_cons.mp nd).2 z]
      omega
theorem RowOf.tot {ps ds : List Pl} (h : RowOf ps ds) (d : Pl) : totS d ds = totS d ps := by
  by_cases hx : ∃ x ∈ ds, keyP x = keyP d
  · obtain ⟨x, hx, e⟩ := hx
    rw [← totS_key e, ← totS_key e, totS_in h.1 hx]
    exact ((h.2 x).mp hx).2
  · have n1 : ∀ y ∈ ds, ¬ keyP y = keyP d := fun y hy e => hx ⟨y, hy, e⟩
    have n2 : ∀ y ∈ ps, ¬ keyP y = keyP d := fun y hy e => by
      refine hx ⟨withP d (totS d ps), ?_, rfl⟩
      rw [h.2]
      exact ⟨⟨y, hy, e⟩, (totS_key (d := d) (x := withP d (totS d ps)) rfl ps).symm⟩
    rw [(totS_none n1).1, (totS_none n2).1]
theorem RowOf.key {ps ds : List Pl} (h : RowOf ps ds) (k : Int × Str × Str) : (∃ y ∈ ds, keyP y = k) ↔ ∃ y ∈ ps, keyP y = k := by
  constructor
  · rintro ⟨y, hy, rfl⟩
    exact ((h.2 y).mp hy).1
  · rintro ⟨y, hy, rfl⟩
    refine ⟨withP y (totS y ps), ?_, rfl⟩
    rw [h.2]
    exact ⟨⟨y, hy, rfl⟩, (totS_key (d := y) (x := withP y (totS y ps)) rfl ps).symm⟩
theorem RowOf.mix {ps ds : List Pl} (h : RowOf ps ds) (d : Pl) : RowOf (ps ++ [d]) (mixP ds d) := by
  refine ⟨mix_nodup h.1 d, fun x => ?_⟩
  unfold mixP
  rw [List.mem_append, List.mem_filter, List.mem_singleton, totS_app, totS_one, h.tot]
  by_cases e : keyP x = keyP d
  · rw [if_pos e.symm, totS_key e]
    constructor
    · rintro (⟨_, z⟩ | z)
      · simp [sameP, e] at z
      · refine ⟨⟨d, by simp, e.symm⟩, ?_⟩
        rw [z]
        simp only [withP]
        omega
    · rintro ⟨_, z⟩
      right
      obtain ⟨a, b, c, n⟩ := x
      obtain ⟨a', b', c', n'⟩ := d
      simp only [keyP, Prod.mk.injEq] at e
      obtain ⟨rfl, rfl, rfl⟩ := e
      simp only [withP, Prod.mk.injEq, true_and]
      simp only at z
      omega
  · rw [if_neg (fun q => e q.symm)]
    constructor
    · rintro (⟨z, _⟩ | z)
      · obtain ⟨⟨y, hy, k⟩, t⟩ := (h.2 x).mp z
        exact ⟨⟨y, List.mem_append_left _ hy, k⟩, by omega⟩
      · exact absurd (by rw [z]; rfl) e
    · rintro ⟨⟨y, hy, k⟩, t⟩
      left
      refine ⟨(h.2 x).mpr ⟨?_, by omega⟩, by simp [sameP, e]⟩
      rcases List.mem_append.mp hy with z | z
      · exact ⟨y, z, k⟩
      · rw [List.mem_singleton.mp z] at k
        exact absurd k.symm e
theorem RowOf.perm {ps ds es : List Pl} (h : RowOf ps ds) (p : es.Perm ds) : RowOf ps es := ⟨(p.map keyP).nodup_iff.mpr h.1, fun x => by rw [p.mem_iff]; exact h.2 x⟩
theorem RowOf.like {ps qs ds : List Pl} (h : RowOf ps ds) (hk : ∀ k, (∃ y ∈ ps, keyP y = k) ↔ ∃ y ∈ qs, keyP y = k) (ht : ∀ d, totS d ps = totS d qs) : RowOf qs ds :=
  ⟨h.1, fun x => by rw [h.2 x, hk, ht]⟩
theorem RowOf.nil : RowOf [] [] := ⟨List.nodup_nil, fun x => by simp⟩
theorem RowOf.add {ps ds : List Pl} (h : RowOf ps ds) (d : Pl) : RowOf (ps ++ [d]) (addP ds d) := (h.mix d).perm (add_perm h.1)
theorem acc_row : ∀ (ps qs ds : List Pl), RowOf qs ds → RowOf (qs ++ ps) (ps.foldl addP ds)
  | [], qs, ds, h => by rw [List.append_nil]; exact h
  | d :: ps, qs, ds, h => by
    rw [List.foldl_cons, show qs ++ d :: ps = (qs ++ [d]) ++ ps by simp]
    exact acc_row ps _ _ (h.add d)
/-! the row that the law makes, and the one that is told -/
theorem rowF_of : ∀ (ps qs ds : List Pl), RowOf qs ds → RowOf (qs ++ ps) (ps.foldl putF ds)
  | [], qs, ds, h => by rw [List.append_nil]; exact h
  | d :: ps, qs, ds, h => by
    rw [List.foldl_cons, show qs ++ d :: ps = (qs ++ [d]) ++ ps by simp]
    exact rowF_of ps _ _ ((h.mix d).perm (put_mix ds d))
theorem rowF_rises : ∀ (ps ds : List Pl), ds.Pairwise (fun x y => less (keyP x) (keyP y) = true) → (ps.foldl putF ds).Pairwise fun x y => less (keyP x) (keyP y) = true
  | [], ds, h => h
  | d :: ps, ds, h => by
    rw [List.foldl_cons]
    exact rowF_rises ps _ (put_rises (lt := less) (fun _ _ => less_tot) (fun _ _ _ => less_tra) less_irr h)
structure Like (ps qs : List Pl) : Prop where
  key : ∀ k, (∃ y ∈ ps, keyP y = k) ↔ ∃ y ∈ qs, keyP y = k
  tot : ∀ d, totS d ps = totS d qs
theorem Like.refl (ps : List Pl) : Like ps ps := ⟨fun _ => Iff.rfl, fun _ => rfl⟩
theorem Like.app {as bs ps qs : List Pl} (h1 : Like as ps) (h2 : Like bs qs) : Like (as ++ bs) (ps ++ qs) := by
  refine ⟨fun k => ?_, fun d => by rw [totS_app, totS_app, h1.tot, h2.tot]⟩
  have e : ∀ us vs : List Pl, (∃ y ∈ us ++ vs, keyP y = k) ↔ (∃ y ∈ us, keyP y = k) ∨ ∃ y ∈ vs, keyP y = k := fun us vs => by
    constructor
    · rintro ⟨y, hy, e⟩
      rcases List.mem_append.mp hy with z | z
      · exact .inl ⟨y, z, e⟩
      · exact .inr ⟨y, z, e⟩
    · rintro (⟨y, hy, e⟩ | ⟨y, hy, e⟩)
      · exact ⟨y, List.mem_append_left _ hy, e⟩
      · exact ⟨y, List.mem_append_right _ hy, e⟩
  rw [e, e, h1.key, h2.key]
theorem Like.perm {ps qs : List Pl} (h : ps.Perm qs) : Like ps qs := ⟨fun k => by simp only [h.mem_iff], fun d => totS_perm d h⟩
theorem RowOf.alike {ps ds : List Pl} (h : RowOf ps ds) : Like ds ps := ⟨h.key, h.tot⟩
/-- what laid tells of piles that are like these is the law's row of these -/
theorem told_row {ps qs ds : List Pl} (hl : Like qs ps) (hp : ds.Perm (accP qs)) (hr : ds.Pairwise fun x y => less (keyP x) (keyP y) = true) : ds = ps.foldl putF [] := by
  have h1 : RowOf qs ds := by
    have := acc_row qs [] [] RowOf.nil
    rw [List.nil_append] at this
    exact this.perm hp
  have h2 : RowOf ps (ps.foldl putF []) := by
    have := rowF_of ps [] [] RowOf.nil
    rw [List.nil_append] at this
    exact this
  refine rises_eq (lt := less) (fun _ _ => less_tot) (fun _ _ _ => less_tra) less_irr hr (rowF_rises ps [] List.Pairwise.nil) fun x => ?_
  rw [(h1.like hl.key hl.tot).2 x, h2.2 x]
theorem rowF_self (ps : List Pl) : RowOf ps (ps.foldl putF []) := by
  have := rowF_of ps [] [] RowOf.nil
  rw [List.nil_append] at this
  exact this
/-- a list elsewhere stays when a list is changed -/
theorem Lst.off {α : Type} {f : α → List V} {G : Hp} {a l : Addr} {xs : List α} {zs : List V} {o : HO} (h : Lst f G a xs) (hl : G l = some (.lst zs)) (ne : a ≠ l) : Lst f (upd G l o) a xs := by
  obtain ⟨us, h1, h2⟩ := h
  refine ⟨us, by rw [upd_ne ne]; exact h1, Paired.imp' (fun v x ⟨p, e, hp⟩ => ⟨p, e, tup_stay hl _ _ hp⟩) h2⟩
section
variable {P : Program} {w : World} {K : PySem.W.Frag} {mg : Str → Option Value} {base : Heap}
abbrev s_laid : Stmt := top 1
abbrev N_laid : List Str := ["row", "piles", "many", "born", "source", "mark", "points"]
theorem sc_laid : FnScope N_laid ["row", "piles"] (defScope s_laid) := ⟨rfl, rfl, rfl, by decide +kernel, rfl, by decide +kernel, by decide +kernel⟩
theorem w_laid_2 : okSet N_laid (defScope s_laid) 2 "many" = true := by decide +kernel
theorem g_laid_list : okGl (defScope s_laid) "list" = true := by decide +kernel
theorem v_laid_0 : okVar N_laid (defScope s_laid) 0 "row" = true := by decide +kernel
theorem v_laid_1 : okVar N_laid (defScope s_laid) 1 "piles" = true := by decide +kernel
theorem w_laid_6 : okSet N_laid (defScope s_laid) 6 "points" = true := by decide +kernel
theorem w_laid_5 : okSet N_laid (defScope s_laid) 5 "mark" = true := by decide +kernel
theorem w_laid_4 : okSet N_laid (defScope s_laid) 4 "source" = true := by decide +kernel
theorem w_laid_3 : okSet N_laid (defScope s_laid) 3 "born" = true := by decide +kernel
theorem v_laid_2 : okVar N_laid (defScope s_laid) 2 "many" = true := by decide +kernel
theorem v_laid_3 : okVar N_laid (defScope s_laid) 3 "born" = true := by decide +kernel
theorem v_laid_4 : okVar N_laid (defScope s_laid) 4 "source" = true := by decide +kernel
theorem v_laid_5 : okVar N_laid (defScope s_laid) 5 "mark" = true := by decide +kernel
theorem v_laid_6 : okVar N_laid (defScope s_laid) 6 "points" = true := by decide +kernel
abbrev c_laid_c0 : Scope := { kind := .function, names := [(Str.ofString ".0", NameKind.local), (Str.ofString "born", NameKind.local), (Str.ofString "source", NameKind.local), (Str.ofString "mark", NameKind.local), (Str.ofString "many", NameKind.free)], isGenerator := false, isCoroutine := false }
abbrev N_laid_c0 : List Str := ["born", "source", "mark", "row", "piles", "many", "?born", "?source", "?mark", "points"]
theorem cs_laid_c0 : csB' N_laid (defScope s_laid) ["born", "source", "mark"] N_laid_c0 c_laid_c0 = true := by decide +kernel
theorem nd_laid_c0 : List.Nodup N_laid_c0 := by decide +kernel
theorem g_laid_sorted : okGl (defScope s_laid) "sorted" = true := by decide +kernel
theorem o_laid_c0_2 : okLoc N_laid_c0 (relabelS c_laid_c0 (defScope s_laid)) 2 "mark" = true := by decide +kernel
theorem o_laid_c0_1 : okLoc N_laid_c0 (relabelS c_laid_c0 (defScope s_laid)) 1 "source" = true := by decide +kernel
theorem o_laid_c0_0 : okLoc N_laid_c0 (relabelS c_laid_c0 (defScope s_laid)) 0 "born" = true := by decide +kernel
theorem v_laid_c0_0 : okVar N_laid_c0 (relabelS c_laid_c0 (defScope s_laid)) 0 "born" = true := by decide +kernel
theorem v_laid_c0_1 : okVar N_laid_c0 (relabelS c_laid_c0 (defScope s_laid)) 1 "source" = true := by decide +kernel
theorem v_laid_c0_2 : okVar N_laid_c0 (relabelS c_laid_c0 (defScope s_laid)) 2 "mark" = true := by decide +kernel
theorem v_laid_c0_5 : okVar N_laid_c0 (relabelS c_laid_c0 (defScope s_laid)) 5 "many" = true := by decide +kernel
theorem ok_laid {f : Addr} {fd : FuncData} (F : Fun K "laid" "laid" s_laid f fd) (T : Txt K mg) : FnOk P w K mg base CX0 1 f fd ["row", "piles"] spLaid := by
  refine F.okQ sc_laid (fun vs H Q E h => ?_) (fun cdv A outer s H vs Q E hr h => ?_)
  · obtain ⟨_, _, _, _, _, _, rfl, _⟩ := h
    rfl
  · obtain ⟨a, b, us, ws, xs, ys, rfl, hA, hB, pA, pB, hlen, q⟩ := h
    have nd := sc_laid.nd
    have sz : sizeLine = 16777216 := sizeLine_eq
    have hu : (A.deeper (envOfC "laid" (defScope s_laid) s.heap.objs.size f cdv)).units + 16 < cLine := by
      have := hr.un
      omega
    have pz := paired_app pA pB
    have zl : (us ++ ws).length = (xs ++ ys).length := pz.length
    have hll : us.length + ws.length = (xs ++ ys).length := by rw [← zl, List.length_append]
    refine ⟨_, (qss_cons (qs_set (i := 2) nd w_laid_2 qe_dnewT)
      (qss_cons (qs_for PassesOwn.never rfl (qi_list (qe_op op_catS (qe_callTy call_list_of g_laid_list T.b_list bt_list (qa_cons (qv 0 v_laid_0) qa_nil)) (qe_callTy call_list_of g_laid_list T.b_list bt_list (qa_cons (qv 1 v_laid_1) qa_nil)))) (qg_tup rfl (qgs_cons (qg_name (i := 3) nd w_laid_3) (qgs_cons (qg_name (i := 4) nd w_laid_4) (qgs_cons (qg_name (i := 5) nd w_laid_5) (qgs_cons (qg_name (i := 6) nd w_laid_6) qgs_nil)))))
      (qss_one (qs_dput hu (qv 2 v_laid_2) (qe_tup (qa_cons (qv 3 v_laid_3) (qa_cons (qv 4 v_laid_4) (qa_cons (qv 5 v_laid_5) qa_nil)))) (qe_op op_add (qe_dgt2 hu (qv 2 v_laid_2) (qe_tup (qa_cons (qv 3 v_laid_3) (qa_cons (qv 4 v_laid_4) (qa_cons (qv 5 v_laid_5) qa_nil)))) qe_int) (qv 6 v_laid_6)))))
      (qss_one (qs_ret (qe_comp rfl (own := ["born", "source", "mark"]) (N' := N_laid_c0) cs_laid_c0 (qi_list (qe_callB (call_sortedT rfl) g_laid_sorted T.b_sorted bt_sorted (qa_cons (qv 2 v_laid_2) qa_nil))) (fun _ _ _ _ => (qg_tupK (K := K) rfl (qgs_cons (qg_own (i := 0) nd_laid_c0 o_laid_c0_0) (qgs_cons (qg_own (i := 1) nd_laid_c0 o_laid_c0_1) (qgs_cons (qg_own (i := 2) nd_laid_c0 o_laid_c0_2) qgs_nil))))) (fun _ _ _ _ => qts_nil) (fun _ _ _ _ => (qe_tup (qa_cons (qv 0 v_laid_c0_0) (qa_cons (qv 1 v_laid_c0_1) (qa_cons (qv 2 v_laid_c0_2) (qa_cons (qe_dgetT hu (qv 5 v_laid_c0_5) (qe_tup (qa_cons (qv 0 v_laid_c0_0) (qa_cons (qv 1 v_laid_c0_1) (qa_cons (qv 2 v_laid_c0_2) qa_nil))))) qa_nil))))))))))), ?_⟩
    intro dd hdd
    have e1 : Same H (upd H dd (.dT [])) := (Same.refl H).upd hdd
    have d1 : upd H dd (.dT []) dd = some (.dT []) := upd_same
    generalize upd H dd (.dT []) = H1 at e1 d1 ⊢
    refine ⟨_, rfl, a, us, rfl, (hA.same e1).sq, fun l1 hl1 => ?_⟩
    have e2 : Same H1 (upd H1 l1 (.lst us)) := (Same.refl H1).upd hl1
    have g2 : upd H1 l1 (.lst us) l1 = some (.lst us) := upd_same
    generalize upd H1 l1 (.lst us) = H2 at e2 g2 ⊢
    refine ⟨_, rfl, b, ws, rfl, (hB.same (e1.trans e2)).sq, fun l2 hl2 => ?_⟩
    have e3 : Same H2 (upd H2 l2 (.lst ws)) := (Same.refl H2).upd hl2
    have g3 : upd H2 l2 (.lst ws) l2 = some (.lst ws) := upd_same
    generalize upd H2 l2 (.lst ws) = H3 at e3 g3 ⊢
    refine ⟨l1, l2, us, ws, rfl, rfl, SqL.of (e3 _ _ g2), SqL.of g3, by omega, fun l3 hl3 => ?_⟩
    have e4 : Same H3 (upd H3 l3 (.lst (us ++ ws))) := (Same.refl H3).upd hl3
    have g4 : upd H3 l3 (.lst (us ++ ws)) l3 = some (.lst (us ++ ws)) := upd_same
    have s4 := ((e1.trans e2).trans e3).trans e4
    have d4 := e4 _ _ (e3 _ _ (e2 _ _ d1))
    generalize upd H3 l3 (.lst (us ++ ws)) = H4 at e4 g4 s4 d4 ⊢
    refine ⟨l3, rfl, ⟨_, SqL.of g4⟩, for_list (K := K) (a := l3) (xs := us ++ ws) (fun i σ G => ∃ v3 v4 v5 v6 : Option V, σ = [some (.ref a), some (.ref b), some (.ref dd), v3, v4, v5, v6] ∧ G dd = some (.dT (tab (accP ((xs ++ ys).take i)))) ∧ G l3 = some (.lst (us ++ ws)) ∧ Same H G)
      ⟨none, none, none, none, rfl, d4, g4, s4⟩ (fun i σ G _ ⟨_, _, _, _, _, _, e, _⟩ => SqL.of e) ?_ ?_⟩
    · rintro i u σ G hu' ⟨v3, v4, v5, v6, rfl, hd, hl, sm⟩
      obtain ⟨y, hy1, po, rfl, hpo⟩ := paired_get pz hu'
      have tk : accP ((xs ++ ys).take (i + 1)) = addP (accP ((xs ++ ys).take i)) y := by
        unfold accP
        rw [take_snoc hy1, List.foldl_append]
        rfl
      have al : (accP ((xs ++ ys).take i)).length ≤ 64 := by
        have h1 : (accP ((xs ++ ys).take i)).length ≤ ([] : List Pl).length + ((xs ++ ys).take i).length := acc_len ((xs ++ ys).take i) []
        rw [List.length_take, List.length_nil] at h1
        omega
      generalize accP ((xs ++ ys).take i) = acc at hd tk al
      refine ⟨po, _, rfl, SqT.of (sm _ _ hpo), rfl, _, _, rfl, _, _, rfl, _, _, rfl, _, _, rfl, rfl, ?_⟩
      refine ⟨_, rfl, dd, rfl, .inr ⟨_, .inl hd⟩, _, rfl, _, rfl, _, rfl, by show 3 ≤ sizeLine; decide, fun t1 ht1 => ?_⟩
      have f1 : Same G (upd G t1 (.tup [V.int y.1, V.str y.2.1, V.str y.2.2.1])) := (Same.refl G).upd ht1
      have k1 : upd G t1 (.tup [V.int y.1, V.str y.2.1, V.str y.2.2.1]) t1 = some (.tup ((k3 (keyP y)).map kV)) := upd_same
      generalize upd G t1 (.tup [V.int y.1, V.str y.2.1, V.str y.2.2.1]) = G1 at f1 k1 ⊢
      refine ⟨_, DGet.t (k := k3 (keyP y)) (f1 _ _ hd) k1, ?_⟩
      refine ⟨_, rfl, ((acc.find? (sameP y)).map (·.2.2.2)).getD 0, y.2.2.2, ?_, rfl, ?_⟩
      · rw [tab_val]
        cases acc.find? (sameP y) <;> rfl
      refine ⟨_, rfl, _, rfl, _, rfl, _, rfl, by show 3 ≤ sizeLine; decide, fun t2 ht2 => ?_⟩
      have f2 : Same G1 (upd G1 t2 (.tup [V.int y.1, V.str y.2.1, V.str y.2.2.1])) := (Same.refl G1).upd ht2
      have k2 : upd G1 t2 (.tup [V.int y.1, V.str y.2.1, V.str y.2.2.1]) t2 = some (.tup ((k3 (keyP y)).map kV)) := upd_same
      generalize upd G1 t2 (.tup [V.int y.1, V.str y.2.1, V.str y.2.2.1]) = G2 at f2 k2 ⊢
      have hd2 := f2 _ _ (f1 _ _ hd)
      have hl2' := f2 _ _ (f1 _ _ hl)
      refine ⟨dd, _, rfl, DPut.t (k := k3 (keyP y)) hd2 k2 (by unfold tab; rw [List.length_map]; omega), ?_⟩
      refine ⟨_, _, _, _, rfl, ?_, ?_, (sm.trans (f1.trans f2)).over hdd⟩
      · rw [upd_same, tab_put, tk]
      · rw [upd_ne (ne_of hl2' hd2 (by intro z; cases z))]
        exact hl2'
    · rintro σ G ⟨v3, v4, v5, v6, rfl, hd, _, sm⟩
      rw [zl, List.take_of_length_le (Nat.le_refl _)] at hd
      have al : (accP (xs ++ ys)).length ≤ ([] : List Pl).length + (xs ++ ys).length := acc_len (xs ++ ys) []
      have ndk : ((accP (xs ++ ys)).map keyP).Nodup := acc_nodup (xs ++ ys) [] (by simp)
      rw [List.length_nil] at al
      generalize accP (xs ++ ys) = acc at hd al ndk q
      refine ⟨_, rfl, dd, tab acc, acc.map keyP, rfl, hd, tab_keys acc, by rw [List.length_map]; omega, fun p vs ts hp hperm hpw hpr => ?_⟩
      have tl : ts.length = acc.length := by rw [hperm.length_eq, List.length_map]
      have vl : vs.length = ts.length := hpr.length
      have e5 : Same G (upd G p (.lst vs)) := (Same.refl G).upd hp
      have g5 : upd G p (.lst vs) p = some (.lst vs) := upd_same
      generalize upd G p (.lst vs) = G5 at e5 g5 ⊢
      refine ⟨p, rfl, ⟨_, SqL.of g5⟩, comp_list (K := K) (a := p) (xs := vs) (fun i zs G' => Paired (RowP pV G') zs ((ts.take i).map (finT acc)) ∧ Same G5 G') ⟨.nil, Same.refl _⟩ (fun i zs G' _ e => SqL.of (e.2 _ _ g5)) (by omega) ?_ ?_⟩
      · rintro i x zs G' hx hy ⟨hz, e⟩
        obtain ⟨t, ht1, b', rfl, hb⟩ := paired_get hpr hx
        have hb' := e _ _ (e5 _ _ hb)
        have hd' := e _ _ (e5 _ _ hd)
        have mem : t ∈ acc.map keyP := hperm.mem_iff.mp (List.mem_of_getElem? ht1)
        refine ⟨b', _, rfl, SqT.of hb', rfl, _, _, rfl, _, _, rfl, _, _, rfl, rfl, ?_⟩
        refine ⟨_, rfl, _, rfl, _, rfl, _, rfl, _, rfl, _, rfl, _, rfl, by show 3 ≤ sizeLine; decide, fun t1 hn1 => ?_⟩
        have f1 : Same G' (upd G' t1 (.tup [V.int t.1, V.str t.2.1, V.str t.2.2])) := (Same.refl G').upd hn1
        have k1 : upd G' t1 (.tup [V.int t.1, V.str t.2.1, V.str t.2.2]) t1 = some (.tup ((k3 t).map kV)) := upd_same
        generalize upd G' t1 (.tup [V.int t.1, V.str t.2.1, V.str t.2.2]) = G1 at f1 k1 ⊢
        have dg := DGet.t (k := k3 t) (f1 _ _ hd') k1
        rw [tab_get mem] at dg
        refine ⟨dd, _, rfl, dg, by show 4 ≤ sizeLine; decide, fun t2 hn2 => ?_⟩
        have f2 : Same G1 (upd G1 t2 (.tup (pV (finT acc t)))) := (Same.refl G1).upd hn2
        refine ⟨?_, e.trans (f1.trans f2)⟩
        rw [take_snoc ht1, List.map_append]
        exact paired_snoc (paired_same (f1.trans f2) hz) ⟨t2, rfl, upd_same⟩
      · rintro zs G' hzl ⟨hz, e⟩ p2 hp2
        rw [vl, List.take_of_length_le (Nat.le_refl _)] at hz
        have s' := (sm.trans e5).trans e
        refine q p2 _ (ts.map (finT acc)) ?_ ?_ ⟨zs, upd_same, paired_same ((Same.refl G').upd hp2) hz⟩ (s'.free hp2) (s'.upd hp2)
        · have := hperm.map (finT acc)
          rw [fin_self ndk] at this
          exact this
        · rw [List.pairwise_map]
          exact hpw
abbrev s_law_is_row : Stmt := top 11
abbrev N_law_is_row : List Str := ["_law_found", "_law_due", "_law_one", "_law_other"]
theorem sc_law_is_row : FnScope N_law_is_row ["_law_found", "_law_due"] (defScope s_law_is_row) := ⟨rfl, rfl, rfl, by decide +kernel, rfl, by decide +kernel, by decide +kernel⟩
theorem g_law_is_row_isinstance : okGl (defScope s_law_is_row) "isinstance" = true := by decide +kernel
theorem v_law_is_row_0 : okVar N_law_is_row (defScope s_law_is_row) 0 "_law_found" = true := by decide +kernel
theorem g_law_is_row_list : okGl (defScope s_law_is_row) "list" = true := by decide +kernel
theorem g_law_is_row_len : okGl (defScope s_law_is_row) "len" = true := by decide +kernel
theorem v_law_is_row_1 : okVar N_law_is_row (defScope s_law_is_row) 1 "_law_due" = true := by decide +kernel
theorem g_law_is_row_zip : okGl (defScope s_law_is_row) "zip" = true := by decide +kernel
theorem w_law_is_row_3 : okSet N_law_is_row (defScope s_law_is_row) 3 "_law_other" = true := by decide +kernel
theorem w_law_is_row_2 : okSet N_law_is_row (defScope s_law_is_row) 2 "_law_one" = true := by decide +kernel
theorem v_law_is_row_2 : okVar N_law_is_row (defScope s_law_is_row) 2 "_law_one" = true := by decide +kernel
theorem g_law_is_row_tuple : okGl (defScope s_law_is_row) "tuple" = true := by decide +kernel
theorem v_law_is_row_3 : okVar N_law_is_row (defScope s_law_is_row) 3 "_law_other" = true := by decide +kernel
theorem g_law_is_row_law_whole : okGl (defScope s_law_is_row) "_law_whole" = true := by decide +kernel
theorem ok_is_row {f : Addr} {fd : FuncData} (F : Fun K "_law_is_row" "_law_is_row" s_law_is_row f fd) (T : Txt K mg) (C_law_whole : Callee P w K mg base 1 "_law_whole" ["_law_thing"] spWhole) : FnOk P w K mg base CX0 2 f fd ["_law_found", "_law_due"] spIsRow := by
  refine F.okQ sc_law_is_row (fun vs H Q E h => ?_) (fun cdv A outer s H vs Q E hr h => ?_)
  · obtain ⟨_, _, _, rfl, _⟩ := h
    rfl
  · obtain ⟨a, b, ds, rfl, ⟨us, a1, a2⟩, ⟨ws, b1, b2⟩, hlen, q⟩ := h
    have nd := sc_law_is_row.nd
    have hu : (A.deeper (envOfC "_law_is_row" (defScope s_law_is_row) s.heap.objs.size f cdv)).units + 16 < cLine := by
      have := hr.un
      omega
    have hul : us.length = ds.length := a2.length
    have hwl : ws.length = ds.length := b2.length
    refine ⟨_, (qss_cons (qs_if (qt_w (qw_or (qt_not (qt_val (qe_callB call_isinst g_law_is_row_isinstance T.b_isinstance bt_isinstance (qa_cons (qv 0 v_law_is_row_0) (qa_cons (qe_bltn (v := .ty "list") g_law_is_row_list T.b_list bt_list rfl) qa_nil))))) (qw_or1 (qt_cmp op_ne (qe_callB call_len_seq g_law_is_row_len T.b_len bt_len (qa_cons (qv 0 v_law_is_row_0) qa_nil)) (qe_callB call_len_seq g_law_is_row_len T.b_len bt_len (qa_cons (qv 1 v_law_is_row_1) qa_nil))))))
      (qss_one (qs_ret qe_bl))
      qss_nil)
      (qss_cons (qs_for PassesOwn.never rfl (qi_zip g_law_is_row_zip T.b_zip (qa_cons (qv 0 v_law_is_row_0) (qa_cons (qv 1 v_law_is_row_1) qa_nil))) (qg_tup rfl (qgs_cons (qg_name (i := 2) nd w_law_is_row_2) (qgs_cons (qg_name (i := 3) nd w_law_is_row_3) qgs_nil)))
      (qss_one (qs_if (qt_w (qw_or (qt_not (qt_val (qe_callB call_isinst g_law_is_row_isinstance T.b_isinstance bt_isinstance (qa_cons (qv 2 v_law_is_row_2) (qa_cons (qe_bltn (v := .ty "tuple") g_law_is_row_tuple T.b_tuple bt_tuple rfl) qa_nil))))) (qw_or (qt_cmp (op_neQ hu) (qv 2 v_law_is_row_2) (qv 3 v_law_is_row_3)) (qw_or (qt_not (qt_val (qe_fn C_law_whole hr g_law_is_row_law_whole (qa_cons (qe_ix ix_tup (qv 2 v_law_is_row_2) qe_int) qa_nil)))) (qw_or1 (qt_not (qt_val (qe_fn C_law_whole hr g_law_is_row_law_whole (qa_cons (qe_ix ix_tup (qv 2 v_law_is_row_2) qe_int) qa_nil)))))))))
        (qss_one (qs_ret qe_bl))
        qss_nil)))
      (qss_one (qs_ret qe_bl)))), ?_⟩
    refine ⟨_, rfl, _, _, _, _, rfl, .lst a1, rfl, _, rfl, iteF ?_⟩
    refine ⟨_, rfl, a, _, rfl, .inl (SqL.of a1), _, rfl, b, _, rfl, .inl (SqL.of b1), rfl, _, rfl, iteNS (by rw [hul, hwl]) ?_⟩
    refine ⟨_, rfl, _, rfl, a, b, rfl, ⟨_, SqL.of a1⟩, ⟨_, SqL.of b1⟩, for_zip (K := K) (a := a) (b := b) (xs := us) (ys := ws) (by omega) (fun i σ G => ∃ v2 v3 : Option V, σ = [some (.ref a), some (.ref b), v2, v3] ∧ Same H G)
      ⟨none, none, rfl, Same.refl _⟩ (fun i σ G _ ⟨_, _, _, e⟩ => ⟨SqL.of (e _ _ a1), SqL.of (e _ _ b1)⟩) ?_ ?_⟩
    · rintro i x y σ G t hx hy ⟨v2, v3, rfl, sm⟩ ht
      obtain ⟨d, hd1, px, rfl, hpx⟩ := paired_get a2 hx
      obtain ⟨d', hd2, py, rfl, hpy⟩ := paired_get b2 hy
      rw [hd1] at hd2
      cases Option.some.inj hd2
      have f1 : Same G (upd G t (.tup [.ref px, .ref py])) := (Same.refl G).upd ht
      refine ⟨t, _, rfl, SqT.of upd_same, rfl, _, _, rfl, _, _, rfl, rfl, ?_⟩
      generalize upd G t (.tup [.ref px, .ref py]) = G1 at f1 ⊢
      have sm1 := sm.trans f1
      have hx1 := sm1 _ _ hpx
      have hy1 := sm1 _ _ hpy
      refine ⟨_, rfl, _, _, _, _, rfl, .tup hx1, rfl, _, rfl, iteF ?_⟩
      refine ⟨_, rfl, _, rfl, px, py, _, _, rfl, rfl, .inl ⟨hx1, hy1⟩, eqS_flats (pV_flat d), _, rfl, iteF ?_⟩
      refine ⟨_, rfl, px, _, _, _, rfl, rfl, SqT.of hx1, rfl, _, rfl, _, rfl, iteF ?_⟩
      exact ⟨_, rfl, px, _, _, _, rfl, rfl, SqT.of hx1, rfl, _, rfl, _, rfl, iteF ⟨_, _, rfl, sm1⟩⟩
    · rintro σ G ⟨v2, v3, rfl, sm⟩
      exact q G sm
end
end K12

set_option Elab.async false
set_option linter.all false
set_option maxRecDepth 100000
set_option maxHeartbeats 4000000
namespace K12
open PySem PySem.Spec PyProof.Rows L2
section
variable {P : Program} {w : World} {K : PySem.W.Frag} {mg : Str → Option Value} {base : Heap}
abbrev s_law : Stmt := top 13
abbrev N_law : List Str := ["_law_script", "_law_names_here", "_law_piles_here", "_law_cut", "_law_first", "_law_due", "_law_handed", "_law_row_here", "_law_held", "_law_rest", "_law_told", "_law_nothing", "_law_back"]
theorem sc_law : FnScope N_law ["_law_script"] (defScope s_law) := ⟨rfl, rfl, rfl, by decide +kernel, rfl, by decide +kernel, by decide +kernel⟩
theorem w_law_1 : okSet N_law (defScope s_law) 1 "_law_names_here" = true := by decide +kernel
theorem g_law_law_names : okGl (defScope s_law) "_law_names" = true := by decide +kernel
theorem g_law_law_at : okGl (defScope s_law) "_law_at" = true := by decide +kernel
theorem v_law_0 : okVar N_law (defScope s_law) 0 "_law_script" = true := by decide +kernel
theorem w_law_2 : okSet N_law (defScope s_law) 2 "_law_piles_here" = true := by decide +kernel
theorem g_law_law_piles : okGl (defScope s_law) "_law_piles" = true := by decide +kernel
theorem v_law_1 : okVar N_law (defScope s_law) 1 "_law_names_here" = true := by decide +kernel
theorem g_law_law_many : okGl (defScope s_law) "_law_many" = true := by decide +kernel
theorem w_law_3 : okSet N_law (defScope s_law) 3 "_law_cut" = true := by decide +kernel
theorem g_law_law_mix : okGl (defScope s_law) "_law_mix" = true := by decide +kernel
theorem g_law_len : okGl (defScope s_law) "len" = true := by decide +kernel
theorem v_law_2 : okVar N_law (defScope s_law) 2 "_law_piles_here" = true := by decide +kernel
theorem w_law_4 : okSet N_law (defScope s_law) 4 "_law_first" = true := by decide +kernel
theorem g_law_law_row : okGl (defScope s_law) "_law_row" = true := by decide +kernel
theorem v_law_3 : okVar N_law (defScope s_law) 3 "_law_cut" = true := by decide +kernel
theorem w_law_5 : okSet N_law (defScope s_law) 5 "_law_due" = true := by decide +kernel
theorem w_law_6 : okSet N_law (defScope s_law) 6 "_law_handed" = true := by decide +kernel
theorem g_law_list : okGl (defScope s_law) "list" = true := by decide +kernel
theorem w_law_7 : okSet N_law (defScope s_law) 7 "_law_row_here" = true := by decide +kernel
theorem g_law_laid : okGl (defScope s_law) "laid" = true := by decide +kernel
theorem v_law_6 : okVar N_law (defScope s_law) 6 "_law_handed" = true := by decide +kernel
theorem g_law_law_is_row : okGl (defScope s_law) "_law_is_row" = true := by decide +kernel
theorem v_law_7 : okVar N_law (defScope s_law) 7 "_law_row_here" = true := by decide +kernel
theorem v_law_4 : okVar N_law (defScope s_law) 4 "_law_first" = true := by decide +kernel
theorem w_law_8 : okSet N_law (defScope s_law) 8 "_law_held" = true := by decide +kernel
theorem w_law_9 : okSet N_law (defScope s_law) 9 "_law_rest" = true := by decide +kernel
theorem w_law_10 : okSet N_law (defScope s_law) 10 "_law_told" = true := by decide +kernel
theorem v_law_9 : okVar N_law (defScope s_law) 9 "_law_rest" = true := by decide +kernel
theorem v_law_10 : okVar N_law (defScope s_law) 10 "_law_told" = true := by decide +kernel
theorem v_law_5 : okVar N_law (defScope s_law) 5 "_law_due" = true := by decide +kernel
theorem v_law_8 : okVar N_law (defScope s_law) 8 "_law_held" = true := by decide +kernel
theorem g_law_reversed : okGl (defScope s_law) "reversed" = true := by decide +kernel
theorem w_law_11 : okSet N_law (defScope s_law) 11 "_law_nothing" = true := by decide +kernel
theorem v_law_11 : okVar N_law (defScope s_law) 11 "_law_nothing" = true := by decide +kernel
theorem w_law_12 : okSet N_law (defScope s_law) 12 "_law_back" = true := by decide +kernel
theorem g_law_tuple : okGl (defScope s_law) "tuple" = true := by decide +kernel
theorem v_law_12 : okVar N_law (defScope s_law) 12 "_law_back" = true := by decide +kernel
theorem ok_law {f : Addr} {fd : FuncData} (F : Fun K "law" "law" s_law f fd) (T : Txt K mg) (C_law_at : Callee P w K mg base 1 "_law_at" ["_law_script", "_law_k"] (spAt K)) (C_law_mix : Callee P w K mg base 1 "_law_mix" ["_law_cell", "_law_k"] spMix) (C_law_names : Callee P w K mg base 2 "_law_names" ["_law_cell", "_law_many_here"] spNm) (C_law_many : Callee P w K mg base 2 "_law_many" ["_law_cell"] spMany) (C_law_piles : Callee P w K mg base 3 "_law_piles" ["_law_script", "_law_names_here", "_law_first", "_law_many_here"] (spPiles K))
    (C_law_row : Callee P w K mg base 2 "_law_row" ["_law_row_here", "_law_piles_here"] spRow) (C_laid : Callee P w K mg base 1 "laid" ["row", "piles"] spLaid) (C_law_is_row : Callee P w K mg base 2 "_law_is_row" ["_law_found", "_law_due"] spIsRow) : FnOk P w K mg base CX0 4 f fd ["_law_script"] (spLaw K) := by
  refine F.okQ sc_law (fun vs H Q E h => ?_) (fun cdv A outer s H vs Q E hr h => ?_)
  · obtain ⟨_, _, rfl, _⟩ := h
    rfl
  · obtain ⟨a, ns, rfl, hS, hlen, q⟩ := h
    have nd := sc_law.nd
    have sz : sizeLine = 16777216 := sizeLine_eq
    have hu : (A.deeper (envOfC "law" (defScope s_law) s.heap.objs.size f cdv)).units + 16 < cLine := by
      have := hr.un
      omega
    refine ⟨_, (qss_cons (qs_set (i := 1) nd w_law_1 (qe_fn C_law_names hr g_law_law_names (qa_cons (qe_fn C_law_at hr g_law_law_at (qa_cons (qv 0 v_law_0) (qa_cons qe_int qa_nil))) (qa_cons qe_int qa_nil))))
      (qss_cons (qs_set (i := 2) nd w_law_2 (qe_fn C_law_piles hr g_law_law_piles (qa_cons (qv 0 v_law_0) (qa_cons (qv 1 v_law_1) (qa_cons qe_int (qa_cons (qe_fn C_law_many hr g_law_law_many (qa_cons (qe_fn C_law_at hr g_law_law_at (qa_cons (qv 0 v_law_0) (qa_cons qe_int qa_nil))) qa_nil)) qa_nil))))))
      (qss_cons (qs_set (i := 3) nd w_law_3 (qe_op op_mod (qe_fn C_law_mix hr g_law_law_mix (qa_cons (qe_fn C_law_at hr g_law_law_at (qa_cons (qv 0 v_law_0) (qa_cons qe_int qa_nil))) (qa_cons qe_int qa_nil))) (qe_op op_add (qe_callB call_len_seq g_law_len T.b_len bt_len (qa_cons (qv 2 v_law_2) qa_nil)) qe_int)))
      (qss_cons (qs_set (i := 4) nd w_law_4 (qe_fn C_law_row hr g_law_law_row (qa_cons (qe_lst qa_nil) (qa_cons (qe_slice sl_list (qv 2 v_law_2) qo_none (qo_some (qv 3 v_law_3))) qa_nil))))
      (qss_cons (qs_set (i := 5) nd w_law_5 (qe_fn C_law_row hr g_law_law_row (qa_cons (qe_lst qa_nil) (qa_cons (qv 2 v_law_2) qa_nil))))
      (qss_cons (qs_set (i := 6) nd w_law_6 (qe_callTy call_list_of g_law_list T.b_list bt_list (qa_cons (qe_slice sl_list (qv 2 v_law_2) qo_none (qo_some (qv 3 v_law_3))) qa_nil)))
      (qss_cons (qs_set (i := 7) nd w_law_7 (qe_fn C_laid hr g_law_laid (qa_cons (qe_lst qa_nil) (qa_cons (qv 6 v_law_6) qa_nil))))
      (qss_cons (qs_if (qt_w (qw_or (qt_cmp (op_neQ hu) (qv 6 v_law_6) (qe_slice sl_list (qv 2 v_law_2) qo_none (qo_some (qv 3 v_law_3)))) (qw_or1 (qt_not (qt_val (qe_fn C_law_is_row hr g_law_law_is_row (qa_cons (qv 7 v_law_7) (qa_cons (qv 4 v_law_4) qa_nil))))))))
      (qss_one (qs_ret qe_bl))
      qss_nil)
      (qss_cons (qs_expr (qe_bm PySem.F.plainAttrs_list PySem.F.slot_list_append PySem.F.type_list_append mt_append (qv 6 v_law_6) (qa_cons (qe_tup (qa_cons qe_int (qa_cons (qe_ix ix_list (qv 1 v_law_1) qe_int) (qa_cons qe_str (qa_cons qe_int qa_nil))))) qa_nil)))
      (qss_cons (qs_set (i := 8) nd w_law_8 (qe_callTy call_list_of g_law_list T.b_list bt_list (qa_cons (qv 7 v_law_7) qa_nil)))
      (qss_cons (qs_set (i := 9) nd w_law_9 (qe_callTy call_list_of g_law_list T.b_list bt_list (qa_cons (qe_slice sl_list (qv 2 v_law_2) (qo_some (qv 3 v_law_3)) qo_none) qa_nil)))
      (qss_cons (qs_set (i := 10) nd w_law_10 (qe_fn C_laid hr g_law_laid (qa_cons (qv 7 v_law_7) (qa_cons (qv 9 v_law_9) qa_nil))))
      (qss_cons (qs_if (qt_w (qw_or (qt_not (qt_val (qe_fn C_law_is_row hr g_law_law_is_row (qa_cons (qv 10 v_law_10) (qa_cons (qv 5 v_law_5) qa_nil))))) (qw_or (qt_cmp (op_neQ hu) (qv 7 v_law_7) (qv 8 v_law_8)) (qw_or1 (qt_cmp (op_neQ hu) (qv 9 v_law_9) (qe_slice sl_list (qv 2 v_law_2) (qo_some (qv 3 v_law_3)) qo_none))))))
      (qss_one (qs_ret qe_bl))
      qss_nil)
      (qss_cons (qs_expr (qe_bm PySem.F.plainAttrs_list PySem.F.slot_list_append PySem.F.type_list_append mt_append (qv 10 v_law_10) (qa_cons qe_non qa_nil)))
      (qss_cons (qs_expr (qe_bm0 PySem.F.plainAttrs_list PySem.F.slot_list_clear PySem.F.type_list_clear mt_clear (qv 9 v_law_9)))
      (qss_cons (qs_expr (qe_bm0 PySem.F.plainAttrs_list PySem.F.slot_list_clear PySem.F.type_list_clear mt_clear (qv 7 v_law_7)))
      (qss_cons (qs_if (qt_not (qt_val (qe_fn C_law_is_row hr g_law_law_is_row (qa_cons (qe_fn C_laid hr g_law_laid (qa_cons (qv 8 v_law_8) (qa_cons (qe_listRev rfl g_law_list T.b_list g_law_reversed T.b_reversed (qe_slice sl_list (qv 2 v_law_2) (qo_some (qv 3 v_law_3)) qo_none)) qa_nil))) (qa_cons (qv 5 v_law_5) qa_nil)))))
      (qss_one (qs_ret qe_bl))
      qss_nil)
      (qss_cons (qs_set (i := 11) nd w_law_11 (qe_fn C_laid hr g_law_laid (qa_cons (qv 5 v_law_5) (qa_cons (qe_lst qa_nil) qa_nil))))
      (qss_cons (qs_if (qt_not (qt_val (qe_fn C_law_is_row hr g_law_law_is_row (qa_cons (qv 11 v_law_11) (qa_cons (qv 5 v_law_5) qa_nil)))))
      (qss_one (qs_ret qe_bl))
      qss_nil)
      (qss_cons (qs_expr (qe_bm PySem.F.plainAttrs_list PySem.F.slot_list_append PySem.F.type_list_append mt_append (qv 11 v_law_11) (qa_cons qe_non qa_nil)))
      (qss_cons (qs_set (i := 12) nd w_law_12 (qe_tupleRev rfl g_law_tuple T.b_tuple g_law_reversed T.b_reversed (qv 2 v_law_2)))
      (qss_one (qs_ret (qe_and (qe_fn C_law_is_row hr g_law_law_is_row (qa_cons (qe_fn C_laid hr g_law_laid (qa_cons (qe_callTy call_tupleN g_law_tuple T.b_tuple bt_tuple (qa_cons (qv 5 v_law_5) qa_nil)) (qa_cons (qe_lst qa_nil) qa_nil))) (qa_cons (qv 5 v_law_5) qa_nil))) (qe_one (qe_fn C_law_is_row hr g_law_law_is_row (qa_cons (qe_fn C_laid hr g_law_laid (qa_cons (qe_tup qa_nil) (qa_cons (qv 12 v_law_12) qa_nil))) (qa_cons (qv 5 v_law_5) qa_nil)))))))))))))))))))))))))))), ?_⟩
    refine ⟨_, rfl, a, ns, 1, rfl, hS, by decide, fun c0 => ⟨c0, 6, rfl, by decide, by decide, fun pn H1 zs hz hpn _ s1 => ?_⟩⟩
    refine ⟨_, rfl, _, rfl, _, rfl, a, ns, 0, rfl, s1.seq hS, by decide, fun c1 => ⟨c1, rfl, fun mm H2 hm0 hm1 t2 => ?_⟩⟩
    refine ⟨a, pn, ns, zs, 0, mm, rfl, (s1.trans t2).seq hS, t2 _ _ hpn, hz, by decide, hm0, by omega, fun pp H3 ds hdl _ Lp _ t3 => ?_⟩
    have s3 := (s1.trans t2).trans t3
    have hpn3 := t3 _ _ (t2 _ _ hpn)
    obtain ⟨us, u1, u2⟩ := Lp
    have ul : us.length = ds.length := u2.length
    refine ⟨_, rfl, a, ns, 0, rfl, s3.seq hS, by decide, fun c2 => ⟨c2, 3, rfl, by decide, by decide, fun m H4 hm2 hm3 t4 => ?_⟩⟩
    refine ⟨_, rfl, pp, _, rfl, .inl (SqL.of (t4 _ _ u1)), _, _, rfl, rfl, _, _, rfl, rfl, by show (0 : Int) < (us.length : Int) + 1; omega, ?_⟩
    obtain ⟨k, hk, hkl⟩ : ∃ k : Nat, m % ((us.length : Int) + 1) = (k : Int) ∧ k ≤ us.length := by
      have h1 : 0 ≤ m % ((us.length : Int) + 1) := Int.emod_nonneg _ (by omega)
      have h2 : m % ((us.length : Int) + 1) < (us.length : Int) + 1 := Int.emod_lt_of_pos _ (by omega)
      exact ⟨(m % ((us.length : Int) + 1)).toNat, by omega, by omega⟩
    dsimp only
    rw [hk]
    obtain ⟨x1, x2⟩ := cut_lo (k := k) u2 hkl
    have P12 : ds.take k ++ ds.drop k = ds := List.take_append_drop k ds
    have l1 := x1.length
    have l2 := x2.length
    have e1 : (ds.take k).length ≤ ds.length := by rw [List.length_take]; omega
    have e2 : (ds.take k).length + (ds.drop k).length = ds.length := by rw [← List.length_append, P12]
    obtain ⟨v1, ev1⟩ : ∃ v, cutV us none (some (k : Int)) = v := ⟨_, rfl⟩
    obtain ⟨v2, ev2⟩ : ∃ v, cutV us (some (k : Int)) none = v := ⟨_, rfl⟩
    rw [ev1] at x1 l1
    rw [ev2] at x2 l2
    generalize ds.take k = D1 at x1 P12 l1 e1 e2
    generalize ds.drop k = D2 at x2 P12 l2 e2
    -- first
    refine ⟨by decide, fun n0 hn0 => ?_⟩
    have f0 : Same H4 (upd H4 n0 (.lst [])) := (Same.refl H4).upd hn0
    have g0 : upd H4 n0 (.lst []) n0 = some (.lst []) := upd_same
    generalize upd H4 n0 (.lst []) = G0 at f0 g0 ⊢
    have p0 := f0 _ _ (t4 _ _ u1)
    refine ⟨_, rfl, _, rfl, _, rfl, pp, _, rfl, SqL.of p0, fun n1 hn1 => ?_⟩
    rw [ev1]
    have f1 : Same G0 (upd G0 n1 (.lst v1)) := (Same.refl G0).upd hn1
    have g1 : upd G0 n1 (.lst v1) n1 = some (.lst v1) := upd_same
    generalize upd G0 n1 (.lst v1) = G1 at f1 g1 ⊢
    have b1 := (t4.trans f0).trans f1
    refine ⟨n0, n1, D1, rfl, f1 _ _ g0, ⟨v1, g1, paired_same b1 x1⟩, by omega, fun pf G2 Lf f2 => ?_⟩
    -- due
    refine ⟨by decide, fun n2 hn2 => ?_⟩
    have f3 : Same G2 (upd G2 n2 (.lst [])) := (Same.refl G2).upd hn2
    have g3 : upd G2 n2 (.lst []) n2 = some (.lst []) := upd_same
    generalize upd G2 n2 (.lst []) = G3 at f3 g3 ⊢
    have b3 := (b1.trans f2).trans f3
    refine ⟨_, rfl, n2, pp, ds, rfl, g3, ⟨us, b3 _ _ u1, paired_same b3 u2⟩, by omega, fun pd B Ld f4 => ?_⟩
    have b4 := b3.trans f4
    have ppB := b4 _ _ u1
    have pB := paired_same b4 u2
    have x1B := paired_same b4 x1
    have x2B := paired_same b4 x2
    have pnB := b4 _ _ hpn3
    have LfB := Lf.same (f3.trans f4)
    have rl1 := row_len D1 []
    have rl := row_len ds []
    rw [List.length_nil] at rl1 rl
    have R1 := rowF_self D1
    have Lk : ∀ es, Like es D2 → Like (D1.foldl putF [] ++ es) ds := fun es he => by
      have := Like.app R1.alike he
      rw [P12] at this
      exact this
    have RD := (rowF_self ds).alike
    have tr1 : ∀ es : List Pl, es.Perm (accP ([] ++ D1)) → es.Pairwise (fun x y => less (keyP x) (keyP y) = true) → es = D1.foldl putF [] := fun es hp hw => told_row (by rw [List.nil_append]; exact Like.refl _) hp hw
    have tr2 : ∀ es fs : List Pl, Like fs D2 → es.Perm (accP (D1.foldl putF [] ++ fs)) → es.Pairwise (fun x y => less (keyP x) (keyP y) = true) → es = ds.foldl putF [] := fun es fs hf hp hw => told_row (Lk fs hf) hp hw
    have tr3 : ∀ es : List Pl, es.Perm (accP (ds.foldl putF [] ++ [])) → es.Pairwise (fun x y => less (keyP x) (keyP y) = true) → es = ds.foldl putF [] := fun es hp hw => told_row (by rw [List.append_nil]; exact RD) hp hw
    have tr4 : ∀ es : List Pl, es.Perm (accP ([] ++ ds.reverse)) → es.Pairwise (fun x y => less (keyP x) (keyP y) = true) → es = ds.foldl putF [] := fun es hp hw => told_row (by rw [List.nil_append]; exact Like.perm (List.reverse_perm _)) hp hw
    generalize D1.foldl putF [] = R at rl1 LfB tr1 tr2 Lf
    generalize ds.foldl putF [] = W at rl Ld tr2 tr3 tr4
    clear R1 Lk RD
    -- handed
    refine ⟨_, rfl, _, rfl, _, rfl, pp, _, rfl, SqL.of ppB, fun n3 hn3 => ?_⟩
    rw [ev1]
    have h3 : Same B (upd B n3 (.lst v1)) := (Same.refl B).upd hn3
    have k3 : upd B n3 (.lst v1) n3 = some (.lst v1) := upd_same
    generalize upd B n3 (.lst v1) = G at h3 k3 ⊢
    refine ⟨n3, _, rfl, .inl (SqL.of k3), fun ph hph => ?_⟩
    have Bph : B ph = none := h3.free hph
    have h4 : Same B (upd G ph (.lst v1)) := h3.upd hph
    have k4 : upd G ph (.lst v1) ph = some (.lst v1) := upd_same
    generalize upd G ph (.lst v1) = G4 at h4 k4 ⊢
    -- row_here
    refine ⟨by decide, fun n4 hn4 => ?_⟩
    have i5 : Same G4 (upd G4 n4 (.lst [])) := (Same.refl G4).upd hn4
    have k5 : upd G4 n4 (.lst []) n4 = some (.lst []) := upd_same
    generalize upd G4 n4 (.lst []) = G5 at i5 k5 ⊢
    have h5 := h4.trans i5
    refine ⟨_, rfl, n4, ph, [], v1, [], D1, rfl, .inl k5, .inl (i5 _ _ k4), .nil, paired_same h5 x1B, by rw [List.nil_append]; omega, fun pr G6 es hp hw Lr hpr i6 => ?_⟩
    have ees := (tr1 es hp hw).symm
    subst ees
    have h6 := h5.trans i6
    have k6 := i6 _ _ (i5 _ _ k4)
    have Bpr : B pr = none := h5.free hpr
    have npr : pr ≠ ph := fun z => by rw [z, i5 _ _ k4] at hpr; cases hpr
    -- handed != piles[:cut] or not is_row
    refine ⟨_, rfl, _, rfl, _, rfl, _, rfl, pp, _, rfl, SqL.of (h6 _ _ ppB), fun n5 hn5 => ?_⟩
    rw [ev1]
    have i7 : Same G6 (upd G6 n5 (.lst v1)) := (Same.refl G6).upd hn5
    have k7 : upd G6 n5 (.lst v1) n5 = some (.lst v1) := upd_same
    generalize upd G6 n5 (.lst v1) = G7 at i7 k7 ⊢
    refine ⟨ph, n5, v1, v1, rfl, rfl, .inr ⟨i7 _ _ k6, k7⟩, paired_self (refs_of x1B), _, rfl, iteF ?_⟩
    have h7 := h6.trans i7
    refine ⟨_, rfl, _, rfl, pr, pf, R, rfl, Lr.same i7, LfB.same h7, by omega, fun G8 i8 => ⟨_, rfl, iteF ?_⟩⟩
    have h8 := h7.trans i8
    have k8 := i8 _ _ (i7 _ _ k6)
    have Lr8 := Lr.same (i7.trans i8)
    -- handed.append
    obtain ⟨z0, hz0⟩ := at_strs (zs := zs) (i := 0) (by omega) (by omega)
    refine ⟨_, rfl, .inl ⟨rfl, _, SqL.of k8⟩, _, rfl, pn, _, _, _, rfl, rfl, SqL.of (h8 _ _ pnB), hz0, by show 4 ≤ sizeLine; decide, fun n6 hn6 => ?_⟩
    have i9 : Same G8 (upd G8 n6 (.tup [V.int 0, V.str z0, V.str (Str.ofString ""), V.int 5])) := (Same.refl G8).upd hn6
    generalize upd G8 n6 (.tup [V.int 0, V.str z0, V.str (Str.ofString ""), V.int 5]) = G9 at i9 ⊢
    have k9 := i9 _ _ k8
    refine ⟨ph, v1, _, rfl, rfl, k9, by omega, ?_⟩
    have h10 : Same B (upd G9 ph (.lst (v1 ++ [.ref n6]))) := (h8.trans i9).over Bph
    have Lr10 := Lst.off (o := .lst (v1 ++ [.ref n6])) (Lr8.same i9) k9 npr
    generalize upd G9 ph (.lst (v1 ++ [.ref n6])) = G10 at h10 Lr10 ⊢
    obtain ⟨ws, w1, w2⟩ := Lr10
    have wl : ws.length = R.length := w2.length
    -- held
    refine ⟨_, rfl, pr, ws, rfl, .inl (SqL.of w1), fun pe hpe => ?_⟩
    have i11 : Same G10 (upd G10 pe (.lst ws)) := (Same.refl G10).upd hpe
    have k11 : upd G10 pe (.lst ws) pe = some (.lst ws) := upd_same
    have npe : pe ≠ pr := fun z => by rw [z, w1] at hpe; cases hpe
    generalize upd G10 pe (.lst ws) = G11 at i11 k11 ⊢
    have h11 := h10.trans i11
    -- rest
    refine ⟨_, rfl, _, rfl, _, rfl, pp, _, rfl, SqL.of (h11 _ _ ppB), fun n7 hn7 => ?_⟩
    rw [ev2]
    have i12 : Same G11 (upd G11 n7 (.lst v2)) := (Same.refl G11).upd hn7
    have k12 : upd G11 n7 (.lst v2) n7 = some (.lst v2) := upd_same
    generalize upd G11 n7 (.lst v2) = G12 at i12 k12 ⊢
    refine ⟨n7, _, rfl, .inl (SqL.of k12), fun pq hpq => ?_⟩
    have Gpq : G11 pq = none := i12.free hpq
    have i13 : Same G12 (upd G12 pq (.lst v2)) := (Same.refl G12).upd hpq
    have k13 : upd G12 pq (.lst v2) pq = some (.lst v2) := upd_same
    generalize upd G12 pq (.lst v2) = G13 at i13 k13 ⊢
    have j13 := i12.trans i13
    have h13 := h11.trans j13
    -- told
    refine ⟨_, rfl, _, rfl, pr, pq, ws, v2, R, D2, rfl, .inl (j13 _ _ (i11 _ _ w1)), .inl k13, paired_same (i11.trans j13) w2, paired_same h13 x2B, by rw [List.length_append]; omega, fun pt G14 fs hp2 hw2 Lt hpt i14 => ?_⟩
    have efs := (tr2 fs D2 (Like.refl _) hp2 hw2).symm
    subst efs
    have j14 := j13.trans i14
    have h14 := h11.trans j14
    have Gpt : G11 pt = none := j13.free hpt
    refine ⟨_, rfl, _, rfl, pt, pd, W, rfl, Lt, Ld.same h14, by omega, fun G15 i15 => ⟨_, rfl, iteF ?_⟩⟩
    have j15 := j14.trans i15
    have w15 := j15 _ _ (i11 _ _ w1)
    have p15 := paired_same (i11.trans j15) w2
    refine ⟨_, rfl, _, rfl, pr, pe, ws, ws, rfl, rfl, .inr ⟨w15, j15 _ _ k11⟩, paired_self (refs_of p15), _, rfl, iteF ?_⟩
    have k15 := i15 _ _ (i14 _ _ k13)
    have h15 := h11.trans j15
    refine ⟨_, rfl, _, rfl, _, rfl, _, rfl, pp, _, rfl, SqL.of (h15 _ _ ppB), fun n8 hn8 => ?_⟩
    rw [ev2]
    have i16 : Same G15 (upd G15 n8 (.lst v2)) := (Same.refl G15).upd hn8
    have k16 : upd G15 n8 (.lst v2) n8 = some (.lst v2) := upd_same
    generalize upd G15 n8 (.lst v2) = G16 at i16 k16 ⊢
    refine ⟨pq, n8, v2, v2, rfl, rfl, .inr ⟨i16 _ _ k15, k16⟩, paired_self (refs_of x2B), _, rfl, iteF ?_⟩
    have j16 := j15.trans i16
    -- told.append(None), rest.clear(), row_here.clear()
    obtain ⟨vt, t1', t2'⟩ := Lt.same (i15.trans i16)
    have vtl := t2'.length
    refine ⟨_, rfl, .inl ⟨rfl, _, SqL.of t1'⟩, pt, vt, _, rfl, rfl, t1', by omega, ?_⟩
    have j17 : Same G11 (upd G16 pt (.lst (vt ++ [.non]))) := j16.over Gpt
    have k17 : upd G16 pt (.lst (vt ++ [.non])) pq = some (.lst v2) := by
      rw [upd_ne (fun z => by rw [← z, k13] at hpt; cases hpt)]
      exact i16 _ _ k15
    generalize upd G16 pt (.lst (vt ++ [.non])) = G17 at j17 k17 ⊢
    refine ⟨_, rfl, .inl ⟨rfl, _, SqL.of k17⟩, pq, v2, rfl, rfl, k17, ?_⟩
    have j18 : Same G11 (upd G17 pq (.lst [])) := j17.over Gpq
    generalize upd G17 pq (.lst []) = G18 at j18 ⊢
    have w18 := j18 _ _ (i11 _ _ w1)
    refine ⟨_, rfl, .inl ⟨rfl, _, SqL.of w18⟩, pr, ws, rfl, rfl, w18, ?_⟩
    have h19 : Same B (upd G18 pr (.lst [])) := (h11.trans j18).over Bpr
    have L19 := Lst.off (o := .lst []) (⟨ws, j18 _ _ k11, paired_same (i11.trans j18) w2⟩ : Lst pV G18 pe R) w18 npe
    generalize upd G18 pr (.lst []) = G19 at h19 L19 ⊢
    obtain ⟨ws', y1, y2⟩ := L19
    -- laid(held, list(reversed(piles[cut:])))
    refine ⟨_, rfl, _, rfl, _, rfl, _, rfl, pp, _, rfl, SqL.of (h19 _ _ ppB), fun n9 hn9 => ?_⟩
    rw [ev2]
    have i20 : Same G19 (upd G19 n9 (.lst v2)) := (Same.refl G19).upd hn9
    have k20 : upd G19 n9 (.lst v2) n9 = some (.lst v2) := upd_same
    generalize upd G19 n9 (.lst v2) = G20 at i20 k20 ⊢
    refine ⟨n9, v2, rfl, SqL.of k20, fun n10 hn10 => ?_⟩
    have i21 : Same G20 (upd G20 n10 (.lst v2.reverse)) := (Same.refl G20).upd hn10
    have k21 : upd G20 n10 (.lst v2.reverse) n10 = some (.lst v2.reverse) := upd_same
    generalize upd G20 n10 (.lst v2.reverse) = G21 at i21 k21 ⊢
    have j21 := i20.trans i21
    have h21 := h19.trans j21
    refine ⟨pe, n10, ws', v2.reverse, R, D2.reverse, rfl, .inl (j21 _ _ y1), .inl k21, paired_same j21 y2, paired_rev (paired_same h21 x2B), by rw [List.length_append, List.length_reverse]; omega, fun q1 G22 gs hp3 hw3 L1 _ i22 => ?_⟩
    have egs := (tr2 gs D2.reverse (Like.perm (List.reverse_perm _)) hp3 hw3).symm
    subst egs
    have h22 := h21.trans i22
    refine ⟨_, rfl, q1, pd, _, rfl, L1, Ld.same h22, by omega, fun G23 i23 => ⟨_, rfl, iteF ?_⟩⟩
    have h23 := h22.trans i23
    -- nothing
    obtain ⟨vd, d1, d2⟩ := Ld
    refine ⟨_, rfl, by decide, fun n11 hn11 => ?_⟩
    have i24 : Same G23 (upd G23 n11 (.lst [])) := (Same.refl G23).upd hn11
    have k24 : upd G23 n11 (.lst []) n11 = some (.lst []) := upd_same
    generalize upd G23 n11 (.lst []) = G24 at i24 k24 ⊢
    have h24 := h23.trans i24
    refine ⟨pd, n11, vd, [], _, [], rfl, .inl (h24 _ _ d1), .inl k24, paired_same h24 d2, .nil, by rw [List.append_nil]; omega, fun q2 G25 ks hp4 hw4 L2' hq2 i25 => ?_⟩
    have eks := (tr3 ks hp4 hw4).symm
    subst eks
    have h25 := h24.trans i25
    have Bq2 : B q2 = none := h24.free hq2
    refine ⟨_, rfl, _, rfl, q2, pd, _, rfl, L2', ⟨vd, h25 _ _ d1, paired_same h25 d2⟩, by omega, fun G26 i26 => ⟨_, rfl, iteF ?_⟩⟩
    obtain ⟨vn, n1', n2'⟩ := L2'.same i26
    have vnl := n2'.length
    refine ⟨_, rfl, .inl ⟨rfl, _, SqL.of n1'⟩, q2, vn, _, rfl, rfl, n1', by omega, ?_⟩
    have h27 : Same B (upd G26 q2 (.lst (vn ++ [.non]))) := (h25.trans i26).over Bq2
    generalize upd G26 q2 (.lst (vn ++ [.non])) = G27 at h27 ⊢
    -- back
    refine ⟨_, rfl, pp, us, rfl, SqL.of (h27 _ _ ppB), fun pb hpb => ?_⟩
    have i28 : Same G27 (upd G27 pb (.tup us.reverse)) := (Same.refl G27).upd hpb
    have k28 : upd G27 pb (.tup us.reverse) pb = some (.tup us.reverse) := upd_same
    generalize upd G27 pb (.tup us.reverse) = G28 at i28 k28 ⊢
    have h28 := h27.trans i28
    refine ⟨_, rfl, tuple_any (.inl (h28 _ _ d1)) fun q3 G29 hq3 i29 => ?_⟩
    have h29 := h28.trans i29
    refine ⟨by decide, fun n12 hn12 => ?_⟩
    have i30 : Same G29 (upd G29 n12 (.lst [])) := (Same.refl G29).upd hn12
    have k30 : upd G29 n12 (.lst []) n12 = some (.lst []) := upd_same
    generalize upd G29 n12 (.lst []) = G30 at i30 k30 ⊢
    have h30 := h29.trans i30
    refine ⟨q3, n12, vd, [], _, [], rfl, .inr (i30 _ _ hq3), .inl k30, paired_same h30 d2, .nil, by rw [List.append_nil]; omega, fun q4 G31 ms hp5 hw5 L3 _ i31 => ?_⟩
    have ems := (tr3 ms hp5 hw5).symm
    subst ems
    have h31 := h30.trans i31
    refine ⟨_, rfl, q4, pd, _, rfl, L3, ⟨vd, h31 _ _ d1, paired_same h31 d2⟩, by omega, fun G32 i32 => ⟨_, rfl, iteT ?_⟩⟩
    have h32 := h31.trans i32
    refine ⟨by show 0 ≤ sizeLine; decide, fun n13 hn13 => ?_⟩
    have i33 : Same G32 (upd G32 n13 (.tup [])) := (Same.refl G32).upd hn13
    have k33 : upd G32 n13 (.tup []) n13 = some (.tup []) := upd_same
    generalize upd G32 n13 (.tup []) = G33 at i33 k33 ⊢
    have h33 := h32.trans i33
    have k34 := i33 _ _ (i32 _ _ (i31 _ _ (i30 _ _ (i29 _ _ k28))))
    refine ⟨_, rfl, n13, pb, [], us.reverse, [], ds.reverse, rfl, .inr k33, .inr k34, .nil, paired_rev (paired_same h33 pB), by rw [List.nil_append, List.length_reverse]; omega, fun q5 G34 os hp6 hw6 L4 _ i34 => ?_⟩
    have eos := (tr4 os hp6 hw6).symm
    subst eos
    have h34 := h33.trans i34
    exact ⟨_, rfl, q5, pd, _, rfl, L4, ⟨vd, h34 _ _ d1, paired_same h34 d2⟩, by omega, fun H' _ => q H'⟩
end
end K12

set_option Elab.async false
set_option linter.all false
set_option maxRecDepth 100000
set_option maxHeartbeats 4000000
namespace K12
open PySem PySem.Spec PyProof.Rows L2
theorem all_mk {l : PySem.W.OpenLaw} {w : World} {K : PySem.W.Frag} {h : Heap} {mg : Str → Option Value}
    {fa : Addr}
    {f1 : Addr} {od1 an1 : Option Addr} {sl1 : Array (Option Value)} {oc1 kV1 dc1 pm1 cd1 ct1 : Value}
    {f2 : Addr} {od2 an2 : Option Addr} {sl2 : Array (Option Value)} {oc2 kV2 dc2 pm2 cd2 ct2 : Value}
    {f3 : Addr} {od3 an3 : Option Addr} {sl3 : Array (Option Value)} {oc3 kV3 dc3 pm3 cd3 ct3 : Value}
    {f4 : Addr} {od4 an4 : Option Addr} {sl4 : Array (Option Value)} {oc4 kV4 dc4 pm4 cd4 ct4 : Value}
    {f5 : Addr} {od5 an5 : Option Addr} {sl5 : Array (Option Value)} {oc5 kV5 dc5 pm5 cd5 ct5 : Value}
    {f6 : Addr} {od6 an6 : Option Addr} {sl6 : Array (Option Value)} {oc6 kV6 dc6 pm6 cd6 ct6 : Value}
    {f7 : Addr} {od7 an7 : Option Addr} {sl7 : Array (Option Value)} {oc7 kV7 dc7 pm7 cd7 ct7 : Value}
    {f8 : Addr} {od8 an8 : Option Addr} {sl8 : Array (Option Value)} {oc8 kV8 dc8 pm8 cd8 ct8 : Value}
    {f9 : Addr} {od9 an9 : Option Addr} {sl9 : Array (Option Value)} {oc9 kV9 dc9 pm9 cd9 ct9 : Value}
    {f10 : Addr} {od10 an10 : Option Addr} {sl10 : Array (Option Value)} {oc10 kV10 dc10 pm10 cd10 ct10 : Value}
    {f11 : Addr} {od11 an11 : Option Addr} {sl11 : Array (Option Value)} {oc11 kV11 dc11 pm11 cd11 ct11 : Value}
    {f12 : Addr} {od12 an12 : Option Addr} {sl12 : Array (Option Value)} {oc12 kV12 dc12 pm12 cd12 ct12 : Value}
    (X : K.In h) (G : h.Ns mainGlobals mg) (hfa : mg "law" = some (.ref fa))
    (a1 : PySem.W.nsIn K mainGlobals "laid" = some (some (.ref f1)))
    (l1 : K.lookup f1 = some ⟨oc1, od1, .func (PySem.W.fnOf "laid" "laid" (defArgs s_laid) (defBody s_laid) (defScope s_laid) .none kV1 dc1 pm1 an1 cd1 ct1), sl1⟩) (c1 : PySem.W.codeIn K cd1 "laid" = true) (k1 : PySem.W.keepIn K (.ref f1) = true)
    (a2 : PySem.W.nsIn K mainGlobals "_law_at" = some (some (.ref f2)))
    (l2 : K.lookup f2 = some ⟨oc2, od2, .func (PySem.W.fnOf "_law_at" "_law_at" (defArgs s_law_at) (defBody s_law_at) (defScope s_law_at) .none kV2 dc2 pm2 an2 cd2 ct2), sl2⟩) (c2 : PySem.W.codeIn K cd2 "_law_at" = true) (k2 : PySem.W.keepIn K (.ref f2) = true)
    (a3 : PySem.W.nsIn K mainGlobals "_law_mix" = some (some (.ref f3)))
    (l3 : K.lookup f3 = some ⟨oc3, od3, .func (PySem.W.fnOf "_law_mix" "_law_mix" (defArgs s_law_mix) (defBody s_law_mix) (defScope s_law_mix) .none kV3 dc3 pm3 an3 cd3 ct3), sl3⟩) (c3 : PySem.W.codeIn K cd3 "_law_mix" = true) (k3 : PySem.W.keepIn K (.ref f3) = true)
    (a4 : PySem.W.nsIn K mainGlobals "_law_names" = some (some (.ref f4)))
    (l4 : K.lookup f4 = some ⟨oc4, od4, .func (PySem.W.fnOf "_law_names" "_law_names" (defArgs s_law_names) (defBody s_law_names) (defScope s_law_names) .none kV4 dc4 pm4 an4 cd4 ct4), sl4⟩) (c4 : PySem.W.codeIn K cd4 "_law_names" = true) (k4 : PySem.W.keepIn K (.ref f4) = true)
    (a5 : PySem.W.nsIn K mainGlobals "_law_whole" = some (some (.ref f5)))
    (l5 : K.lookup f5 = some ⟨oc5, od5, .func (PySem.W.fnOf "_law_whole" "_law_whole" (defArgs s_law_whole) (defBody s_law_whole) (defScope s_law_whole) .none kV5 dc5 pm5 an5 cd5 ct5), sl5⟩) (c5 : PySem.W.codeIn K cd5 "_law_whole" = true) (k5 : PySem.W.keepIn K (.ref f5) = true)
    (a6 : PySem.W.nsIn K mainGlobals "_law_many" = some (some (.ref f6)))
    (l6 : K.lookup f6 = some ⟨oc6, od6, .func (PySem.W.fnOf "_law_many" "_law_many" (defArgs s_law_many) (defBody s_law_many) (defScope s_law_many) .none kV6 dc6 pm6 an6 cd6 ct6), sl6⟩) (c6 : PySem.W.codeIn K cd6 "_law_many" = true) (k6 : PySem.W.keepIn K (.ref f6) = true)
    (a7 : PySem.W.nsIn K mainGlobals "_law_pile" = some (some (.ref f7)))
    (l7 : K.lookup f7 = some ⟨oc7, od7, .func (PySem.W.fnOf "_law_pile" "_law_pile" (defArgs s_law_pile) (defBody s_law_pile) (defScope s_law_pile) .none kV7 dc7 pm7 an7 cd7 ct7), sl7⟩) (c7 : PySem.W.codeIn K cd7 "_law_pile" = true) (k7 : PySem.W.keepIn K (.ref f7) = true)
    (a8 : PySem.W.nsIn K mainGlobals "_law_piles" = some (some (.ref f8)))
    (l8 : K.lookup f8 = some ⟨oc8, od8, .func (PySem.W.fnOf "_law_piles" "_law_piles" (defArgs s_law_piles) (defBody s_law_piles) (defScope s_law_piles) .none kV8 dc8 pm8 an8 cd8 ct8), sl8⟩) (c8 : PySem.W.codeIn K cd8 "_law_piles" = true) (k8 : PySem.W.keepIn K (.ref f8) = true)
    (a9 : PySem.W.nsIn K mainGlobals "_law_put" = some (some (.ref f9)))
    (l9 : K.lookup f9 = some ⟨oc9, od9, .func (PySem.W.fnOf "_law_put" "_law_put" (defArgs s_law_put) (defBody s_law_put) (defScope s_law_put) .none kV9 dc9 pm9 an9 cd9 ct9), sl9⟩) (c9 : PySem.W.codeIn K cd9 "_law_put" = true) (k9 : PySem.W.keepIn K (.ref f9) = true)
    (a10 : PySem.W.nsIn K mainGlobals "_law_row" = some (some (.ref f10)))
    (l10 : K.lookup f10 = some ⟨oc10, od10, .func (PySem.W.fnOf "_law_row" "_law_row" (defArgs s_law_row) (defBody s_law_row) (defScope s_law_row) .none kV10 dc10 pm10 an10 cd10 ct10), sl10⟩) (c10 : PySem.W.codeIn K cd10 "_law_row" = true) (k10 : PySem.W.keepIn K (.ref f10) = true)
    (a11 : PySem.W.nsIn K mainGlobals "_law_is_row" = some (some (.ref f11)))
    (l11 : K.lookup f11 = some ⟨oc11, od11, .func (PySem.W.fnOf "_law_is_row" "_law_is_row" (defArgs s_law_is_row) (defBody s_law_is_row) (defScope s_law_is_row) .none kV11 dc11 pm11 an11 cd11 ct11), sl11⟩) (c11 : PySem.W.codeIn K cd11 "_law_is_row" = true) (k11 : PySem.W.keepIn K (.ref f11) = true)
    (a12 : PySem.W.nsIn K mainGlobals "law" = some (some (.ref f12)))
    (l12 : K.lookup f12 = some ⟨oc12, od12, .func (PySem.W.fnOf "law" "law" (defArgs s_law) (defBody s_law) (defScope s_law) .none kV12 dc12 pm12 an12 cd12 ct12), sl12⟩) (c12 : PySem.W.codeIn K cd12 "law" = true) (k12 : PySem.W.keepIn K (.ref f12) = true)
    (z1 : PySem.W.nsIn K mainGlobals "len" = some none)
    (z2 : PySem.W.nsIn K mainGlobals "all" = some none)
    (z3 : PySem.W.nsIn K mainGlobals "isinstance" = some none)
    (z4 : PySem.W.nsIn K mainGlobals "bool" = some none)
    (z5 : PySem.W.nsIn K mainGlobals "range" = some none)
    (z6 : PySem.W.nsIn K mainGlobals "int" = some none)
    (z7 : PySem.W.nsIn K mainGlobals "list" = some none)
    (z8 : PySem.W.nsIn K mainGlobals "tuple" = some none)
    (z9 : PySem.W.nsIn K mainGlobals "enumerate" = some none)
    (z10 : PySem.W.nsIn K mainGlobals "max" = some none)
    (z11 : PySem.W.nsIn K mainGlobals "min" = some none)
    (z12 : PySem.W.nsIn K mainGlobals "sum" = some none)
    (z13 : PySem.W.nsIn K mainGlobals "zip" = some none)
    (z14 : PySem.W.nsIn K mainGlobals "sorted" = some none)
    (z15 : PySem.W.nsIn K mainGlobals "reversed" = some none) :
    ∃ fd : FuncData, (∀ (s : Shared) (v : Value), BindsTo s fd ⟨[v], []⟩ [("_law_script", v)]) ∧ ∀ base : Heap, K.In base → base.Ns mainGlobals mg → FnOk l.prog w K mg base CX0 4 fa fd ["_law_script"] (spLaw K) := by
  have e := hfa.symm.trans (PySem.W.mg_of X G a12)
  cases e
  have T : Txt K mg := ⟨PySem.W.mg_none_of X G z1, PySem.W.mg_none_of X G z2, PySem.W.mg_none_of X G z3, PySem.W.mg_none_of X G z4, PySem.W.mg_none_of X G z5, PySem.W.mg_none_of X G z6, PySem.W.mg_none_of X G z7, PySem.W.mg_none_of X G z8, PySem.W.mg_none_of X G z9, PySem.W.mg_none_of X G z10, PySem.W.mg_none_of X G z11, PySem.W.mg_none_of X G z12, PySem.W.mg_none_of X G z13, PySem.W.mg_none_of X G z14, PySem.W.mg_none_of X G z15⟩
  have F1 := fun_mk (st := s_laid) l1 c1 k1
  have b1 := F1.binds (ps := ["row", "piles"]) fun _ _ _ _ _ _ us hl => match us, hl with | [_, _], _ => rfl
  have F2 := fun_mk (st := s_law_at) l2 c2 k2
  have b2 := F2.binds (ps := ["_law_script", "_law_k"]) fun _ _ _ _ _ _ us hl => match us, hl with | [_, _], _ => rfl
  have F3 := fun_mk (st := s_law_mix) l3 c3 k3
  have b3 := F3.binds (ps := ["_law_cell", "_law_k"]) fun _ _ _ _ _ _ us hl => match us, hl with | [_, _], _ => rfl
  have F4 := fun_mk (st := s_law_names) l4 c4 k4
  have b4 := F4.binds (ps := ["_law_cell", "_law_many_here"]) fun _ _ _ _ _ _ us hl => match us, hl with | [_, _], _ => rfl
  have F5 := fun_mk (st := s_law_whole) l5 c5 k5
  have b5 := F5.binds (ps := ["_law_thing"]) fun _ _ _ _ _ _ us hl => match us, hl with | [_], _ => rfl
  have F6 := fun_mk (st := s_law_many) l6 c6 k6
  have b6 := F6.binds (ps := ["_law_cell"]) fun _ _ _ _ _ _ us hl => match us, hl with | [_], _ => rfl
  have F7 := fun_mk (st := s_law_pile) l7 c7 k7
  have b7 := F7.binds (ps := ["_law_script", "_law_names_here", "_law_k"]) fun _ _ _ _ _ _ us hl => match us, hl with | [_, _, _], _ => rfl
  have F8 := fun_mk (st := s_law_piles) l8 c8 k8
  have b8 := F8.binds (ps := ["_law_script", "_law_names_here", "_law_first", "_law_many_here"]) fun _ _ _ _ _ _ us hl => match us, hl with | [_, _, _, _], _ => rfl
  have F9 := fun_mk (st := s_law_put) l9 c9 k9
  have b9 := F9.binds (ps := ["_law_row_here", "_law_pile_here"]) fun _ _ _ _ _ _ us hl => match us, hl with | [_, _], _ => rfl
  have F10 := fun_mk (st := s_law_row) l10 c10 k10
  have b10 := F10.binds (ps := ["_law_row_here", "_law_piles_here"]) fun _ _ _ _ _ _ us hl => match us, hl with | [_, _], _ => rfl
  have F11 := fun_mk (st := s_law_is_row) l11 c11 k11
  have b11 := F11.binds (ps := ["_law_found", "_law_due"]) fun _ _ _ _ _ _ us hl => match us, hl with | [_, _], _ => rfl
  have F12 := fun_mk (st := s_law) l12 c12 k12
  refine ⟨PySem.W.fnOf "law" "law" (defArgs s_law) (defBody s_law) (defScope s_law) .none kV12 dc12 pm12 an12 cd12 ct12, fun s v => .of_eq rfl, fun base _ _ => ?_⟩
  have C_laid : Callee l.prog w K mg base 1 "laid" ["row", "piles"] spLaid := ⟨f1, _, ok_laid F1 T, PySem.W.mg_of X G a1, k1, b1⟩
  have C_law_at : Callee l.prog w K mg base 1 "_law_at" ["_law_script", "_law_k"] (spAt K) := ⟨f2, _, ok_at F2 T, PySem.W.mg_of X G a2, k2, b2⟩
  have C_law_mix : Callee l.prog w K mg base 1 "_law_mix" ["_law_cell", "_law_k"] spMix := ⟨f3, _, ok_mix F3, PySem.W.mg_of X G a3, k3, b3⟩
  have C_law_names : Callee l.prog w K mg base 2 "_law_names" ["_law_cell", "_law_many_here"] spNm := ⟨f4, _, ok_names F4 T C_law_mix, PySem.W.mg_of X G a4, k4, b4⟩
  have C_law_whole : Callee l.prog w K mg base 1 "_law_whole" ["_law_thing"] spWhole := ⟨f5, _, ok_whole F5 T, PySem.W.mg_of X G a5, k5, b5⟩
  have C_law_many : Callee l.prog w K mg base 2 "_law_many" ["_law_cell"] spMany := ⟨f6, _, ok_many F6 C_law_mix, PySem.W.mg_of X G a6, k6, b6⟩
  have C_law_pile : Callee l.prog w K mg base 2 "_law_pile" ["_law_script", "_law_names_here", "_law_k"] (spPile K) := ⟨f7, _, ok_pile F7 T C_law_at C_law_mix, PySem.W.mg_of X G a7, k7, b7⟩
  have C_law_piles : Callee l.prog w K mg base 3 "_law_piles" ["_law_script", "_law_names_here", "_law_first", "_law_many_here"] (spPiles K) := ⟨f8, _, ok_piles F8 T C_law_pile, PySem.W.mg_of X G a8, k8, b8⟩
  have C_law_put : Callee l.prog w K mg base 1 "_law_put" ["_law_row_here", "_law_pile_here"] spPut := ⟨f9, _, ok_put F9 T, PySem.W.mg_of X G a9, k9, b9⟩
  have C_law_row : Callee l.prog w K mg base 2 "_law_row" ["_law_row_here", "_law_piles_here"] spRow := ⟨f10, _, ok_row F10 C_law_put, PySem.W.mg_of X G a10, k10, b10⟩
  have C_law_is_row : Callee l.prog w K mg base 2 "_law_is_row" ["_law_found", "_law_due"] spIsRow := ⟨f11, _, ok_is_row F11 T C_law_whole, PySem.W.mg_of X G a11, k11, b11⟩
  exact ok_law F12 T C_law_at C_law_mix C_law_names C_law_many C_law_piles C_law_row C_laid C_law_is_row
end K12
open PySem PySem.W PyProof.Rows
set_option maxRecDepth 100000 in
set_option maxHeartbeats 0 in
theorem PySem.Challenge.cw_pointpurse_k12_piles_laid_holds : PySem.Challenge.rw_pointpurse_k12_piles_laid.Holds := by
  w_on; o_law; k_head; (case hw => w_witness2)
  k_fill
  refine L2.walk_ofK (l := PySem.Challenge.rw_pointpurse_k12_piles_laid) (n := 63) (k := 4) (x := "_law_script") (CX := L2.CX0) (sp := L2.spLaw) rfl (by decide) rfl ⟨rfl, by decide, by decide⟩ (fun w h Y => PySem.W.kIn_of Y) ?F ?S ?C
  case F =>
    intro w mg fa h KX G hmg
    refine' K12.all_mk KX G hmg ?a1 ?l1 ?c1 ?k1 ?a2 ?l2 ?c2 ?k2 ?a3 ?l3 ?c3 ?k3 ?a4 ?l4 ?c4 ?k4 ?a5 ?l5 ?c5 ?k5 ?a6 ?l6 ?c6 ?k6 ?a7 ?l7 ?c7 ?k7 ?a8 ?l8 ?c8 ?k8 ?a9 ?l9 ?c9 ?k9 ?a10 ?l10 ?c10 ?k10 ?a11 ?l11 ?c11 ?k11 ?a12 ?l12 ?c12 ?k12 ?z1 ?z2 ?z3 ?z4 ?z5 ?z6 ?z7 ?z8 ?z9 ?z10 ?z11 ?z12 ?z13 ?z14 ?z15
    (case a1 => k_is)
    (case l1 => k_is)
    (case c1 => k_is)
    (case k1 => k_is)
    (case a2 => k_is)
    (case l2 => k_is)
    (case c2 => k_is)
    (case k2 => k_is)
    (case a3 => k_is)
    (case l3 => k_is)
    (case c3 => k_is)
    (case k3 => k_is)
    (case a4 => k_is)
    (case l4 => k_is)
    (case c4 => k_is)
    (case k4 => k_is)
    (case a5 => k_is)
    (case l5 => k_is)
    (case c5 => k_is)
    (case k5 => k_is)
    (case a6 => k_is)
    (case l6 => k_is)
    (case c6 => k_is)
    (case k6 => k_is)
    (case a7 => k_is)
    (case l7 => k_is)
    (case c7 => k_is)
    (case k7 => k_is)
    (case a8 => k_is)
    (case l8 => k_is)
    (case c8 => k_is)
    (case k8 => k_is)
    (case a9 => k_is)
    (case l9 => k_is)
    (case c9 => k_is)
    (case k9 => k_is)
    (case a10 => k_is)
    (case l10 => k_is)
    (case c10 => k_is)
    (case k10 => k_is)
    (case a11 => k_is)
    (case l11 => k_is)
    (case c11 => k_is)
    (case k11 => k_is)
    (case a12 => k_is)
    (case l12 => k_is)
    (case c12 => k_is)
    (case k12 => k_is)
    (case z1 => k_is)
    (case z2 => k_is)
    (case z3 => k_is)
    (case z4 => k_is)
    (case z5 => k_is)
    (case z6 => k_is)
    (case z7 => k_is)
    (case z8 => k_is)
    (case z9 => k_is)
    (case z10 => k_is)
    (case z11 => k_is)
    (case z12 => k_is)
    (case z13 => k_is)
    (case z14 => k_is)
    (case z15 => k_is)
  case S => exact fun K H a ns hl hO hS => ⟨a, ns, rfl, hS, hl, fun _ => rfl⟩
  case C => exact fun _ _ _ _ z => z
#print axioms PySem.Challenge.cw_pointpurse_k12_piles_laid_holds
