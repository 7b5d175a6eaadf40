import PyProof.Rows.All
import Wide.All
import OpenK.AllK
import Wide.FinOn
import Lean
import PyProof.EqAt
import PyProof.EqKinds
import PyProof.TupleCall
import PySem.Challenge.RW_pointpurse_k05_factors_of_days
set_option Elab.async false
set_option linter.all false
set_option maxRecDepth 100000
/-! THE HAND LAYER, for ints, bools, texts, own classes, LISTS and tuples (index, slices, in, append, pop ..), calls, loops. Paste it whole ahead of your own text; what your proof does not reach may be deleted. -/
namespace L2
open PySem PySem.Spec PyProof.Rows

/-- a key: an int or a str -/
abbrev Key := Sum Int Str
def keyIs : Key → Value → Bool
  | .inl k, v => Value.isInt k v
  | .inr x, v => Value.isStrOf x v
def keyH (w : World) : Key → Int
  | .inl k => hashInt k
  | .inr x => hashStr w x
theorem keyIs_shape : ∀ {k : Key} {v : Value}, keyIs k v = true → (∃ i t, k = Sum.inl i ∧ v = Value.int i t) ∨ (∃ x t, k = Sum.inr x ∧ v = Value.str x t)
  | .inl i, v, h => by
    obtain ⟨t, e⟩ := Value.isInt_shape (k := i) (v := v) h
    exact .inl ⟨i, t, rfl, e⟩
  | .inr x, v, h => by
    obtain ⟨t, e⟩ := Value.isStrOf_shape (x := x) (v := v) h
    exact .inr ⟨x, t, rfl, e⟩
theorem keyIs_int (i : Int) (t : Tok) : keyIs (.inl i) (.int i t) = true := by simp [keyIs, Value.isInt]
theorem keyIs_str (x : Str) (t : Tok) : keyIs (.inr x) (.str x t) = true := by simp [keyIs, Value.isStrOf]
theorem key_ll (a b : Int) : decide ((Sum.inl a : Key) = Sum.inl b) = (a == b) := by
  by_cases e : a = b
  · subst e; simp
  · have h : ¬ (Sum.inl a : Key) = Sum.inl b := fun q => e (Sum.inl.inj q)
    rw [decide_eq_false h]
    exact (beq_eq_false_iff_ne.mpr e).symm
theorem key_rr (a b : Str) : decide ((Sum.inr a : Key) = Sum.inr b) = decide (a = b) := by
  by_cases e : a = b
  · subst e; simp
  · have h : ¬ (Sum.inr a : Key) = Sum.inr b := fun q => e (Sum.inr.inj q)
    rw [decide_eq_false h, decide_eq_false e]
theorem key_lr (a : Int) (b : Str) : decide ((Sum.inl a : Key) = Sum.inr b) = false := decide_eq_false (fun q => nomatch q)
theorem key_rl (a : Str) (b : Int) : decide ((Sum.inr a : Key) = Sum.inl b) = false := decide_eq_false (fun q => nomatch q)

def mixKind (prog : Program) (w : World) : PySem.KeyKind prog w Key where
  is := keyIs
  hash := keyH w
  inj := fun v a b ha hb => by
    rcases keyIs_shape ha with ⟨i, t, rfl, rfl⟩ | ⟨x, t, rfl, rfl⟩
    · rcases keyIs_shape hb with ⟨j, u, rfl, e⟩ | ⟨y, u, rfl, e⟩
      · injection e with e1 _; rw [e1]
      · exact nomatch e
    · rcases keyIs_shape hb with ⟨j, u, rfl, e⟩ | ⟨y, u, rfl, e⟩
      · exact nomatch e
      · injection e with e1 _; rw [e1]
  byValue := fun k v h => by
    rcases keyIs_shape h with ⟨i, t, rfl, rfl⟩ | ⟨x, t, rfl, rfl⟩ <;> rfl
  pyHash := fun hv h => by
    rcases keyIs_shape hv with ⟨i, t, rfl, rfl⟩ | ⟨x, t, rfl, rfl⟩
    · exact wpAny_pyHash_int h
    · exact wpAny_pyHash_str h
  eqBool := fun hu hv h => by
    rcases keyIs_shape hu with ⟨i, t, rfl, rfl⟩ | ⟨x, t, rfl, rfl⟩
    · rcases keyIs_shape hv with ⟨j, u, rfl, rfl⟩ | ⟨y, u, rfl, rfl⟩
      · rw [key_ll] at h; exact wpAny_eqBool_int h
      · rw [key_lr] at h; exact SeqAt.EqAt.int_str i t y u _ _ _ _ h
    · rcases keyIs_shape hv with ⟨j, u, rfl, rfl⟩ | ⟨y, u, rfl, rfl⟩
      · rw [key_rl] at h; exact SeqAt.EqAt.str_int x t j u _ _ _ _ h
      · rw [key_rr] at h; exact wpAny_eqBool_str h
  «strs» := fun k x t v h => by
    rcases keyIs_shape h with ⟨i, u, rfl, e⟩ | ⟨y, u, rfl, e⟩
    · exact nomatch e
    · injection e with e1 _
      subst e1
      cases v <;> rfl

theorem mixKind_is (prog : Program) (w : World) (k : Key) (v : Value) : (mixKind prog w).is k v = keyIs k v := rfl
theorem mixKind_int (prog : Program) (w : World) (i : Int) (t : Tok) : (mixKind prog w).is (.inl i) (.int i t) = true := keyIs_int i t
theorem mixKind_str (prog : Program) (w : World) (x : Str) (t : Tok) : (mixKind prog w).is (.inr x) (.str x t) = true := keyIs_str x t
end L2

namespace L2
open PySem PySem.Spec PyProof.Rows

/-- a value, without the heap -/
inductive V where
  | non | bl (b : Bool) | int (i : Int) | str (x : Str) | byt (b : Array UInt8) | flt (b : UInt64) | ref (a : Addr) | ty (n : String)
  deriving DecidableEq

def RelV : V → Value → Prop
  | .non, u => u = Value.none
  | .bl b, u => u = Value.bool b
  | .int i, u => ∃ t, u = Value.int i t
  | .str x, u => ∃ t, u = Value.str x t
  | .byt b, u => ∃ t, u = Value.bytes b t
  | .flt b, u => ∃ t, u = Value.float b t
  | .ref a, u => u = Value.ref a
  | .ty n, u => u = Value.type n

abbrev Vals : List V → List Value → Prop := Paired RelV
theorem Vals.length {xs : List V} {us : List Value} (r : Vals xs us) : xs.length = us.length := Paired.length r
theorem Vals.get : ∀ {xs : List V} {us : List Value} {i : Nat} {x : V}, Vals xs us → xs[i]? = some x → ∃ u, us[i]? = some u ∧ RelV x u
  | _, _, _, _, .nil, e => by simp at e
  | _, _, 0, _, .cons r _, e => by simp at e; subst e; exact ⟨_, rfl, r⟩
  | _, _, i + 1, x, .cons _ t, e => by
    obtain ⟨u, h1, h2⟩ := Vals.get (i := i) (x := x) t (by simpa using e)
    exact ⟨u, by simpa using h1, h2⟩
theorem Vals.set {x : V} {u : Value} (r : RelV x u) : ∀ {xs : List V} {us : List Value} (i : Nat), Vals xs us → Vals (xs.set i x) (us.set i u)
  | _, _, _, .nil => .nil
  | _, _, 0, .cons _ t => .cons r t
  | _, _, i + 1, .cons q t => .cons q (Vals.set r i t)
theorem Vals.append : ∀ {xs ys : List V} {us ws : List Value}, Vals xs us → Vals ys ws → Vals (xs ++ ys) (us ++ ws)
  | _, _, _, _, .nil, s => s
  | _, _, _, _, .cons r t, s => .cons r (Vals.append t s)
theorem Vals.take : ∀ {xs : List V} {us : List Value} (n : Nat), Vals xs us → Vals (xs.take n) (us.take n)
  | _, _, 0, _ => .nil
  | _, _, _ + 1, .nil => .nil
  | _, _, n + 1, .cons r t => .cons r (Vals.take n t)
theorem Vals.drop : ∀ {xs : List V} {us : List Value} (n : Nat), Vals xs us → Vals (xs.drop n) (us.drop n)
  | _, _, 0, r => r
  | _, _, _ + 1, .nil => .nil
  | _, _, n + 1, .cons _ t => Vals.drop n t
theorem Vals.none_of : ∀ {xs : List V} {us : List Value} {i : Nat}, Vals xs us → xs[i]? = none → us[i]? = none := fun {xs us i} r e => by
  have h1 := r.length
  have h2 : xs.length ≤ i := List.getElem?_eq_none_iff.mp e
  exact List.getElem?_eq_none_iff.mpr (by omega)

def RelO : Option V → Option Value → Prop
  | some v, some u => RelV v u
  | none, none => True
  | _, _ => False
def KV {κ : Type} : List (κ × V) → List (κ × Value) → Prop := Paired fun (p : κ × V) (q : κ × Value) => p.1 = q.1 ∧ RelV p.2 q.2

/-- a key of a dict (00_mix): an int or a text -/
def kV : Key → V
  | .inl i => .int i
  | .inr x => .str x

/-- what stands at a tracked address -/
inductive HO where
  /-- a list -/
  | lst (xs : List V)
  /-- a tuple (never changes) -/
  | tup (xs : List V)
  /-- a dict whose keys are ints and texts; one whose keys are tuples of ints and texts (the empty one is both) -/
  | dK (kvs : List (Key × V)) | dT (kvs : List (List Key × V))
  /-- a set of ints: its members, its size -/
  | set (S : Int → Bool) (n : Nat)
  /-- an instance of the class at C, its dict at dx, its attributes -/
  | ins (C dx : Addr) (fs : List (Str × V))
  /-- the dict of the instance at x -/
  | own (x : Addr)
  /-- the dict of an exception -/
  | xd (fs : List (Str × V))
  /-- a bound method, f of x -/
  | met (f x : Addr)
  /-- a range object lo, lo + 1, .. below hi -/
  | rng (lo hi : Int)
  /-- a thing that is known to the object (the script; a dict while a loop walks it): read, never written while it is so -/
  | frz (o : Obj) (u : HO)
  /-- a code object's table -/
  | tbl (ps : Array Value)
  /-- any other thing, by what is true of its one object (a def of one's own: SetO a S n := HO.ext fun h => ..) -/
  | ext (φ : Heap → Prop)

abbrev Hp := Addr → Option HO
def upd (H : Hp) (a : Addr) (o : HO) : Hp := fun b => if b = a then some o else H b
theorem upd_same {H : Hp} {a : Addr} {o : HO} : upd H a o a = some o := by unfold upd; rw [if_pos rfl]
theorem upd_ne {H : Hp} {a b : Addr} {o : HO} (h : b ≠ a) : upd H a o b = H b := by unfold upd; rw [if_neg h]
theorem upd_upd {H : Hp} {a : Addr} {o u : HO} : upd (upd H a o) a u = upd H a u := by
  funext b; unfold upd; split <;> rfl
/-- two objects of different content stand apart -/
theorem ne_of {H : Hp} {a b : Addr} {o u : HO} (h : H a = some o) (h' : H b = some u) (d : o ≠ u) : a ≠ b := by
  intro e; subst e; rw [h] at h'; exact d (Option.some.inj h')
theorem ne_of_none {H : Hp} {a b : Addr} {o : HO} (h : H a = some o) (h' : H b = none) : a ≠ b := by
  intro e; subst e; rw [h] at h'; cases h'

section
variable (P : Program) (w : World)
def ObjOk (H : Hp) (h : Heap) (a : Addr) : HO → Prop
  | .lst xs => xs.length ≤ sizeLine ∧ ∃ (its : List Value) (n : Nat), Vals xs its ∧ h.get? a = some { cls := .type "list", data := .seq its.toArray n }
  | .tup xs => xs.length ≤ sizeLine ∧ ∃ its : List Value, Vals xs its ∧ IsTup h a its.toArray
  | .dK kvs => kvs.length ≤ sizeLine ∧ (a == sysModules) = false ∧ ∃ vs, KV kvs vs ∧ h.DictOf (mixKind P w) a vs
  | .dT kvs => kvs.length ≤ sizeLine ∧ (a == sysModules) = false ∧ ∃ xs : List (List Key × Addr × Value),
      Paired (fun (p : List Key × V) (q : List Key × Addr × Value) => p.1 = q.1 ∧ H q.2.1 = some (.tup (p.1.map kV)) ∧ RelV p.2 q.2.2) kvs xs ∧
      ∃ o es ep, h.get? a = some o ∧ o.ExactDict ∧ o.data = .dict es ep ∧ es.toList = xs.map (entryOfKey (tupleKind (mixKind P w))) ∧ (xs.map (·.1)).Nodup
  | .set S n => h.SetOf (intKind P w) a S n
  | .ins C dx fs => H dx = some (.own a) ∧ fs.length ≤ 1000 ∧ dx ≠ a ∧ h.get? a = some (PySem.W.instObj C dx) ∧
      ∃ mA, h.Ns1 dx mA ∧ (∀ f, RelO (fs.lookup f) (mA f)) ∧ PySem.Within mA (fs.map (·.1))
  | .own _ => ∃ o, h.get? a = some o
  | .xd fs => ∃ mA, h.Ns1 a mA ∧ ∀ f, RelO (fs.lookup f) (mA f)
  | .rng lo hi => ∃ t u v, h.get? a = some { cls := .type "range", data := .fields #[.int lo t, .int hi u, .int 1 v] }
  | .frz o u => h.get? a = some o ∧ ObjOk H h a u
  | .tbl ps => h.get? a = some { cls := .none, data := .fields ps }
  | .met f x => h.get? a = some (PySem.W.methodObj (.ref f) (.ref x))
  | .ext φ => φ h ∧ (∃ o, h.get? a = some o) ∧ ∀ h1 h2 : Heap, φ h1 → (∀ o, h1.get? a = some o → h2.get? a = some o) → φ h2
/-- the abstract heap is held -/
def HOk (H : Hp) (h : Heap) : Prop := ∀ a o, H a = some o → ObjOk P w H h a o
end

section
variable {P : Program} {w : World} {H H' : Hp} {h h' : Heap} {a : Addr} {o : HO}
theorem ObjOk.lt (x : ObjOk P w H h a o) : a < h.objs.size := by
  cases o with
  | lst xs => obtain ⟨_, _, _, _, e⟩ := x; exact Heap.lt_size e
  | tup xs => obtain ⟨_, _, _, p⟩ := x; exact p.lt
  | dK kvs => obtain ⟨_, _, _, _, o, _, _, e, _⟩ := x; exact Heap.lt_size e
  | dT kvs => obtain ⟨_, _, _, _, o, _, _, e, _⟩ := x; exact Heap.lt_size e
  | set S n => obtain ⟨o, _, _, _, e, _⟩ := x; exact Heap.lt_size e
  | ins C dx fs => obtain ⟨_, _, _, e, _⟩ := x; exact Heap.lt_size e
  | own y => obtain ⟨_, e⟩ := x; exact Heap.lt_size e
  | xd fs => obtain ⟨_, ⟨_, _, _, e, _⟩, _⟩ := x; exact Heap.lt_size e
  | rng lo hi => obtain ⟨_, _, _, e⟩ := x; exact Heap.lt_size e
  | frz ob u => obtain ⟨e, _⟩ := x; exact Heap.lt_size e
  | tbl ps => exact Heap.lt_size (show h.get? a = some _ from x)
  | met f y => exact Heap.lt_size (show h.get? a = some _ from x)
  | ext φ => obtain ⟨_, ⟨_, e⟩, _⟩ := x; exact Heap.lt_size e
theorem Paired.mapP {α β : Type} {F G : α → β → Prop} : ∀ {l₁ : List α} {l₂ : List β}, Paired F l₁ l₂ → (∀ a b, F a b → G a b) → Paired G l₁ l₂
  | _, _, .nil, _ => .nil
  | _, _, .cons r t, f => .cons (f _ _ r) (Paired.mapP t f)
theorem Paired.imp' {α β : Type} {F G : α → β → Prop} (f : ∀ a b, F a b → G a b) {l₁ : List α} {l₂ : List β} (r : Paired F l₁ l₂) : Paired G l₁ l₂ := Paired.mapP r f
/-- what an object's description leans on: its own object, its own dict, the tuples -/
theorem ObjOk.stay (x : ObjOk P w H h a o) (k : ∀ b u, (b = a ∨ H b = some (.own a)) → h.get? b = some u → h'.get? b = some u)
    (ho : ∀ b, H b = some (.own a) → H' b = some (.own a)) (ht : ∀ b xs, H b = some (.tup xs) → H' b = some (.tup xs)) : ObjOk P w H' h' a o := by
  induction o with
  | lst xs => obtain ⟨z, its, n, r, e⟩ := x; exact ⟨z, its, n, r, k _ _ (.inl rfl) e⟩
  | tup xs => obtain ⟨z, its, r, ob, e, c⟩ := x; exact ⟨z, its, r, ob, k _ _ (.inl rfl) e, c⟩
  | dK kvs => obtain ⟨z, y, vs, r, ob, es, ep, e, c⟩ := x; exact ⟨z, y, vs, r, ob, es, ep, k _ _ (.inl rfl) e, c⟩
  | dT kvs =>
    obtain ⟨z, y, xs, r, ob, es, ep, e, c⟩ := x
    exact ⟨z, y, xs, Paired.mapP r fun p q z => ⟨z.1, ht _ _ z.2.1, z.2.2⟩, ob, es, ep, k _ _ (.inl rfl) e, c⟩
  | set S n => obtain ⟨ob, es, ep, t, e, c⟩ := x; exact ⟨ob, es, ep, t, k _ _ (.inl rfl) e, c⟩
  | ins C dx fs =>
    obtain ⟨d, z, ne, e, mA, ⟨od, es, ep, e2, c⟩, r⟩ := x
    exact ⟨ho _ d, z, ne, k _ _ (.inl rfl) e, mA, ⟨od, es, ep, k _ _ (.inr d) e2, c⟩, r⟩
  | own y => obtain ⟨ob, e⟩ := x; exact ⟨ob, k _ _ (.inl rfl) e⟩
  | xd fs => obtain ⟨mA, ⟨od, es, ep, e, c⟩, r⟩ := x; exact ⟨mA, ⟨od, es, ep, k _ _ (.inl rfl) e, c⟩, r⟩
  | rng lo hi => obtain ⟨t, u, v, e⟩ := x; exact ⟨t, u, v, k _ _ (.inl rfl) e⟩
  | frz ob u ih => obtain ⟨e, q⟩ := x; exact ⟨k _ _ (.inl rfl) e, ih q⟩
  | tbl ps =>
    have e : h.get? a = some { cls := .none, data := .fields ps } := x
    show h'.get? a = some { cls := .none, data := .fields ps }
    exact k a _ (.inl rfl) e
  | met f y =>
    have e : h.get? a = some (PySem.W.methodObj (.ref f) (.ref y)) := x
    show h'.get? a = some (PySem.W.methodObj (.ref f) (.ref y))
    exact k a _ (.inl rfl) e
  | ext φ => obtain ⟨p, ⟨o, e⟩, st⟩ := x; exact ⟨st _ _ p fun o q => k _ _ (.inl rfl) q, ⟨o, k _ _ (.inl rfl) e⟩, st⟩
theorem HOk.lt (x : HOk P w H h) (e : H a = some o) : a < h.objs.size := (x a o e).lt
theorem HOk.fresh (x : HOk P w H h) (e : h.objs.size ≤ a) : H a = none := by
  cases q : H a with
  | none => rfl
  | some u => exact absurd (Nat.lt_of_lt_of_le (x.lt q) e) (Nat.lt_irrefl _)
/-- every object of the heap is kept -/
theorem HOk.kept (x : HOk P w H h) (k : ∀ b u, h.get? b = some u → h'.get? b = some u) : HOk P w H h' := fun a o e =>
  (x a o e).stay (fun b u _ q => k b u q) (fun _ q => q) fun _ _ q => q
/-- a new object is laid and tracked -/
theorem HOk.laid (x : HOk P w H h) (k : ∀ b u, h.get? b = some u → h'.get? b = some u) (hp : h.objs.size ≤ a) (new : ObjOk P w (upd H a o) h' a o) : HOk P w (upd H a o) h' := fun b u e => by
  have hn := x.fresh hp
  by_cases hb : b = a
  · subst hb; rw [upd_same] at e; cases e; exact new
  · rw [upd_ne hb] at e
    exact (x b u e).stay (fun c v _ q => k c v q) (fun c q => by rw [upd_ne (ne_of_none q hn)]; exact q) fun c xs q => by rw [upd_ne (ne_of_none q hn)]; exact q
end

/-- what may be read as u: it is u, or a known u -/
def Rd (H : Hp) (a : Addr) (u : HO) : Prop := H a = some u ∨ ∃ o, H a = some (.frz o u)
theorem Rd.of {H : Hp} {a : Addr} {u : HO} (h : H a = some u) : Rd H a u := .inl h
theorem Rd.ok {P : Program} {w : World} {H : Hp} {h : Heap} {a : Addr} {u : HO} (r : Rd H a u) (x : HOk P w H h) : ObjOk P w H h a u := by
  rcases r with r | ⟨o, r⟩
  · exact x a u r
  · obtain ⟨_, q⟩ := x a _ r
    exact q
/-- what may be written -/
def Mut : Option HO → Prop
  | some (.lst _) => True
  | some (.dK _) => True
  | some (.dT _) => True
  | some (.set _ _) => True
  | some (.ins _ _ _) => True
  | some (.ext _) => True
  | _ => False
section
variable {P : Program} {w : World} {H : Hp} {h h' : Heap} {x e : Addr} {o' : HO}
/-- the object at e is changed: x itself, or the dict of the instance x -/
theorem HOk.write (ok : HOk P w H h) (mu : Mut (H x)) (he : e = x ∨ H e = some (.own x)) (k : ∀ b u, b ≠ e → h.get? b = some u → h'.get? b = some u) (heo : ∃ u, h'.get? e = some u)
    (new : ObjOk P w (upd H x o') h' x o') : HOk P w (upd H x o') h' := fun b u q => by
  have nown : ∀ c y, H c = some (.own y) → c ≠ x := fun c y r z => by subst z; rw [r] at mu; exact mu
  have ntup : ∀ c xs, H c = some (.tup xs) → c ≠ x := fun c xs r z => by subst z; rw [r] at mu; exact mu
  by_cases hb : b = x
  · subst hb; rw [upd_same] at q; cases q; exact new
  · rw [upd_ne hb] at q
    by_cases hbe : b = e
    · have q' : H b = some (.own x) := by
        rcases he with z | z
        · exact absurd (hbe.trans z) hb
        · rw [hbe]; exact z
      rw [q] at q'; cases q'
      obtain ⟨v, hv⟩ := heo
      exact ⟨v, by rw [hbe]; exact hv⟩
    · refine (ok b u q).stay (fun c v hc r => k c v ?_ r) (fun c r => by rw [upd_ne (nown c b r)]; exact r) fun c xs r => by rw [upd_ne (ntup c xs r)]; exact r
      rcases hc with rfl | hc
      · exact hbe
      · rintro rfl
        rcases he with z | z
        · exact nown c b hc z
        · rw [hc] at z; cases z; exact hb rfl
end

/-! ### kept unless tracked; of the frames at fs (the callers') the slots may change (an exception that passes writes there); of the records at ex (iterators) nothing is said -/
structure Un (fs ex : List Addr) (H H' : Hp) (h h' : Heap) : Prop where
  keep : ∀ b o, h.get? b = some o → H b = none → b ∉ fs → b ∉ ex → h'.get? b = some o
  slot : ∀ b o, h.get? b = some o → H b = none → b ∈ fs → b ∉ ex → ∃ sl, h'.get? b = some { o with slots := sl }
  free : ∀ b o, h.get? b = some o → H b = none → b ∉ ex → H' b = none
  there : ∀ b o, h.get? b = some o → b ∉ ex → ∃ o', h'.get? b = some o'
  tups : ∀ b xs, H b = some (.tup xs) → H' b = some (.tup xs)
  frzs : ∀ b o u, H b = some (.frz o u) → H' b = some (.frz o u)
  tbls : ∀ b ps, H b = some (.tbl ps) → ∃ more, H' b = some (.tbl (ps ++ more))
section
variable {fs fs' ex ex' : List Addr} {H H1 H2 : Hp} {h h1 h2 h' : Heap} {a x e : Addr} {o : HO}
theorem Un.any (u : Un fs ex H H1 h h1) {b : Addr} {ob : Obj} (q : h.get? b = some ob) (n : H b = none) (hx : b ∉ ex) : ∃ sl, h1.get? b = some { ob with slots := sl } := by
  by_cases hb : b ∈ fs
  · exact u.slot b ob q n hb hx
  · exact ⟨ob.slots, u.keep b ob q n hb hx⟩
theorem Un.trans (a : Un fs ex H H1 h h1) (b : Un fs ex H1 H2 h1 h2) : Un fs ex H H2 h h2 where
  keep := fun c ob q n hc hx => b.keep c ob (a.keep c ob q n hc hx) (a.free c ob q n hx) hc hx
  slot := fun c ob q n hc hx => by
    obtain ⟨sl, e1⟩ := a.slot c ob q n hc hx
    obtain ⟨sl', e2⟩ := b.slot c _ e1 (a.free c ob q n hx) hc hx
    exact ⟨sl', e2⟩
  free := fun c ob q n hx => by
    obtain ⟨o', e1⟩ := a.there c ob q hx
    exact b.free c o' e1 (a.free c ob q n hx) hx
  there := fun c ob q hx => by
    obtain ⟨o', e1⟩ := a.there c ob q hx
    exact b.there c o' e1 hx
  tups := fun c xs q => b.tups c xs (a.tups c xs q)
  frzs := fun c ob xs q => b.frzs c ob xs (a.frzs c ob xs q)
  tbls := fun c ps q => by
    obtain ⟨m1, e1⟩ := a.tbls c ps q
    obtain ⟨m2, e2⟩ := b.tbls c _ e1
    exact ⟨m1 ++ m2, by rw [e2, Array.append_assoc]⟩
theorem Un.kept (k : ∀ b u, h.get? b = some u → h'.get? b = some u) : Un fs ex H H h h' :=
  ⟨fun b ob q _ _ _ => k b ob q, fun b ob q _ _ _ => ⟨ob.slots, k b ob q⟩, fun _ _ _ n _ => n, fun b ob q _ => ⟨ob, k b ob q⟩, fun _ _ q => q, fun _ _ _ q => q, fun _ ps q => ⟨#[], by rw [q]; simp⟩⟩
theorem Un.refl : Un fs ex H H h h := Un.kept fun _ _ q => q
theorem Un.laid (k : ∀ b u, h.get? b = some u → h'.get? b = some u) (hp : h.objs.size ≤ a) (hn : H a = none) : Un fs ex H (upd H a o) h h' where
  keep := fun b u q _ _ _ => k b u q
  slot := fun b u q _ _ _ => ⟨u.slots, k b u q⟩
  free := fun b u q n _ => by rw [upd_ne (Nat.ne_of_lt (Nat.lt_of_lt_of_le (Heap.lt_size q) hp))]; exact n
  there := fun b u q _ => ⟨u, k b u q⟩
  tups := fun b xs q => by rw [upd_ne (ne_of_none q hn)]; exact q
  frzs := fun b u xs q => by rw [upd_ne (ne_of_none q hn)]; exact q
  tbls := fun b ps q => ⟨#[], by rw [upd_ne (ne_of_none q hn), q]; simp⟩
theorem Un.write (mu : Mut (H x)) (he : e = x ∨ H e = some (.own x)) (k : ∀ b u, b ≠ e → h.get? b = some u → h'.get? b = some u) (heo : ∃ u, h'.get? e = some u) : Un fs ex H (upd H x o) h h' := by
  have hx : ∀ b, H b = none → b ≠ x := fun b n z => by subst z; rw [n] at mu; exact mu
  have hb : ∀ b, H b = none → b ≠ e := fun b n z => by
    subst z
    rcases he with r | r
    · exact hx b n r
    · rw [n] at r; cases r
  have hm : ∀ b u, H b = some u → ¬ Mut (some u) → b ≠ x := fun b u q nm z => by subst z; rw [q] at mu; exact nm mu
  refine ⟨fun b u q n _ _ => k b u (hb b n) q, fun b u q n _ _ => ⟨u.slots, k b u (hb b n) q⟩, fun b u q n _ => by rw [upd_ne (hx b n)]; exact n, fun b u q _ => ?_,
    fun b xs q => by rw [upd_ne (hm b _ q fun z => z)]; exact q, fun b u xs q => by rw [upd_ne (hm b _ q fun z => z)]; exact q, fun b ps q => ⟨#[], by rw [upd_ne (hm b _ q fun z => z), q]; simp⟩⟩
  by_cases hbe : b = e
  · subst hbe; exact heo
  · exact ⟨u, k b u hbe q⟩
theorem Un.mono (u : Un fs ex H H1 h h1) (hs : ∀ b ∈ fs, b ∈ fs') (hx : ∀ b ∈ ex, b ∈ ex') : Un fs' ex' H H1 h h1 :=
  ⟨fun b ob q n hb he => u.keep b ob q n (fun z => hb (hs b z)) fun z => he (hx b z), fun _ _ q n _ he => u.any q n fun z => he (hx _ z), fun b ob q n he => u.free b ob q n fun z => he (hx b z), fun b ob q he => u.there b ob q fun z => he (hx b z), u.tups, u.frzs, u.tbls⟩
end

/-! ### the heap without what is tracked -/
def trk (h : Heap) (H : Hp) : List Addr := (List.range h.objs.size).filter fun a => (H a).isSome
def hidT (h : Heap) (H : Hp) : Heap := PySem.W.hideAll h (trk h H)
theorem hidT_size (h : Heap) (H : Hp) : (hidT h H).objs.size = h.objs.size := PySem.W.hideAll_size _ _
theorem hidT_get {h : Heap} {H : Hp} {b : Addr} {o : Obj} (e : h.get? b = some o) (n : H b = none) : (hidT h H).get? b = some o :=
  PySem.W.hideAll_get _ e fun hm => by
    have q : (H b).isSome = true := (List.mem_filter.mp hm).2
    rw [n] at q; simp at q
theorem of_hidT {h : Heap} {H : Hp} {b : Addr} {o : Obj} (e : (hidT h H).get? b = some o) : h.get? b = some o ∧ H b = none := by
  have e' : h.get? b = some o := PySem.W.of_hideAll (trk h H) e
  refine ⟨e', ?_⟩
  cases q : H b with
  | none => rfl
  | some x =>
    have hm : b ∈ trk h H := List.mem_filter.mpr ⟨List.mem_range.mpr (Heap.lt_size e'), by simp [q]⟩
    have z : (hidT h H).get? b = none := PySem.W.hideAll_none (trk h H) hm
    rw [z] at e; cases e

/-! ### OpenK's ledger, filled with every new object but one -/
def allNews (g h : Heap) (L : Addr) : List (Addr × Obj) := (List.range h.objs.size).filterMap fun a => if a = L ∨ (g.get? a).isSome = true then none else (h.get? a).map fun o => (a, o)
theorem mem_allNews {g h : Heap} {L a : Addr} {o : Obj} (h1 : a ≠ L) (h2 : g.get? a = none) (h3 : h.get? a = some o) : (a, o) ∈ allNews g h L :=
  List.mem_filterMap.mpr ⟨a, List.mem_range.mpr (Heap.lt_size h3), by simp [h1, h2, h3]⟩
theorem of_mem_allNews {g h : Heap} {L : Addr} {p : Addr × Obj} (hp : p ∈ allNews g h L) : p.1 ≠ L ∧ g.get? p.1 = none ∧ h.get? p.1 = some p.2 := by
  obtain ⟨b, _, e⟩ := List.mem_filterMap.mp hp
  split at e
  · cases e
  · rename_i hn
    cases q : h.get? b with
    | none => rw [q] at e; simp at e
    | some u =>
      rw [q] at e
      simp only [Option.map_some, Option.some.injEq] at e
      subst e
      refine ⟨fun z => hn (.inl z), ?_, q⟩
      show g.get? b = none
      cases r : g.get? b with
      | none => rfl
      | some v => exact (hn (.inr (by simp [r]))).elim
def rest (g h : Heap) (L d : Addr) : List (Addr × Obj) := (allNews g h L).filter fun p => decide (p.1 ≠ d)
theorem rest_ne {g h : Heap} {L d : Addr} : ∀ p ∈ rest g h L d, p.1 ≠ d := fun p hp => of_decide_eq_true (List.mem_filter.mp hp).2
theorem mem_rest {g h : Heap} {L d a : Addr} {o : Obj} (h1 : a ≠ L) (h2 : g.get? a = none) (h3 : h.get? a = some o) (h4 : a ≠ d) : (a, o) ∈ rest g h L d :=
  List.mem_filter.mpr ⟨mem_allNews h1 h2 h3, decide_eq_true h4⟩
theorem news_all {g h : Heap} {L : Addr} : News g L h (allNews g h L) := fun p hp => let ⟨a, b, c⟩ := of_mem_allNews hp; ⟨c, a, b⟩
theorem news_at {g h : Heap} {L d : Addr} {o : Obj} (h1 : d ≠ L) (h2 : g.get? d = none) (h3 : h.get? d = some o) : News g L h ((d, o) :: rest g h L d) := fun p hp => by
  rcases List.mem_cons.mp hp with rfl | hp
  · exact ⟨h3, h1, h2⟩
  · exact news_all p (List.mem_filter.mp hp).1
/-- behind a rule that changed d alone: all else but the frame is kept -/
theorem kept_of_news {g h h' : Heap} {L d : Addr} {m : Str → Option Value} (k : ∀ b o, g.get? b = some o → h.get? b = some o) (F : Fr g L h' m) (N : News g L h' (rest g h L d)) :
    ∀ b o, b ≠ L → b ≠ d → h.get? b = some o → h'.get? b = some o := fun b o h1 h2 e => by
  cases q : g.get? b with
  | some u =>
    have := k b u q
    rw [e] at this; cases this
    exact F.keep b _ q
  | none => exact (N (b, o) (mem_rest h1 q e h2)).1
end L2

namespace L2
open PySem PySem.Spec PyProof.Rows

/-- the module's facts, over the base: the heap at the law's entry without what is tracked there -/
structure Mod (K : PySem.W.Frag) (mg : Str → Option Value) (base : Heap) : Prop where
  kin : K.In base
  glob : base.Ns mainGlobals mg
  blt : ∃ mb, base.Ns builtinsNs mb ∧ ∀ x : Str, x ≠ "__name__" → mb x = bootBuiltins x
  nolimit : base.NoLimit

/-- the context: a def's body (or a comprehension's block) running. base: fixed through the whole law; s₀, H₀: the entry; outer: the frames whose slots others may change (a def's callers); stack: all frames that run;
   ex: iterators that were made ahead of the entry and are walked here (a comprehension's); fn: the names whose cells were made at the entry (a def: all; a comprehension's block: its own); calm: not within an except suite; pn: pins that every state bears; xe: what is wanted of an exception that leaves the code -/
structure Cx where
  prog : Program
  w : World
  K : PySem.W.Frag
  mg : Str → Option Value
  base : Heap
  A : Around
  N : List Str
  s₀ : Shared
  H₀ : Hp
  env : Env
  outer : List Env
  stack : List Env
  ex : List Addr
  fn : Str → Bool
  calm : Bool
  pn : List (Addr × Obj)
  xe : Value → Shared → Prop
/-- the callers' frames -/
def frs (l : List Env) : List Addr := l.filterMap (·.frame)
abbrev Cx.fs (X : Cx) : List Addr := frs X.outer

def Vis (sc : Scope) (x : Str) : Prop := sc.names.lookup x = some .local ∨ sc.names.lookup x = some .cell ∨ sc.names.lookup x = some .free
def Loc (sc : Scope) (x : Str) : Prop := sc.names.lookup x = some .local ∨ sc.names.lookup x = some .cell
def Look (env : Env) (h : Heap) (m : Str → Option Value) (x : Str) (u : Value) : Prop :=
  (env.kindOf x = some .local ∧ m x = some u) ∨ ((env.kindOf x = some .cell ∨ env.kindOf x = some .free) ∧ ∃ c, env.cells.lookup x = some c ∧ h.IsCell c (some u))

structure Cx.Ok (X : Cx) : Prop where
  mod : Mod X.K X.mg X.base
  kind : X.env.scope.kind = .function
  glob : X.env.globals = mainGlobals
  blt : X.env.builtins = builtinsNs
  above : X.s₀.heap.objs.size ≤ X.env.locals
  inj : ∀ x y c, X.env.cells.lookup x = some c → X.env.cells.lookup y = some c → x = y
  has : ∀ x, (X.env.kindOf x = some .cell ∨ X.env.kindOf x = some .free) → ∃ c, X.env.cells.lookup x = some c
  cab : ∀ x c, X.fn x = true → X.env.cells.lookup x = some c → X.s₀.heap.objs.size ≤ c
  hd : X.calm = true → X.A.handled = none
  frames : X.A.frames = some X.stack
  stk : X.stack = X.outer ∨ (X.stack = X.env :: X.outer ∧ X.env.frame = some X.env.locals)
  exf : ∀ b ∈ X.ex, b ≠ X.env.locals ∧ ∀ x c, X.env.cells.lookup x = some c → c ≠ b
  bs : ∀ b o, X.base.get? b = some o → X.s₀.heap.get? b = some o ∧ X.H₀ b = none
  bsz : X.base.objs.size ≤ X.s₀.heap.objs.size
  noex : ∀ b o, X.base.get? b = some o → b ∉ X.ex
  exfs : ∀ b ∈ X.ex, b ∉ X.fs
  funs : X.s₀.heap.FunFrames X.base X.outer
  frf : ∀ b ∈ X.fs, X.H₀ b = none

structure Inv (X : Cx) (pins : List (Addr × Obj)) (σ : List (Option V)) (H : Hp) (s : Shared) : Prop where
  ok : X.Ok
  os : s.os = X.s₀.os
  bare : AllBare s.gens
  base : Un X.fs X.ex X.H₀ H X.s₀.heap s.heap
  loc : ∃ m, s.heap.Ns X.env.locals m ∧ ∀ (i : Nat) (x : Str) (v : V), X.N[i]? = some x → σ[i]? = some (some v) → Vis X.env.scope x → ∃ u, RelV v u ∧ Look X.env s.heap m x u
  cell : ∀ x c, X.env.cells.lookup x = some c → ∃ v, s.heap.IsCell c v
  free : H X.env.locals = none
  freeC : ∀ x c, X.env.cells.lookup x = some c → H c = none
  pin : ∀ p ∈ X.pn ++ pins, s.heap.get? p.1 = some p.2 ∧ H p.1 = none ∧ p.1 ≠ X.env.locals ∧ p.1 ∉ X.fs ∧ ∀ v, p.2.data ≠ .cell v
  hok : HOk X.prog X.w H s.heap
  len : σ.length = X.N.length

section
variable {X : Cx} {pins : List (Addr × Obj)} {σ : List (Option V)} {H H' : Hp} {s : Shared} {h' : Heap}

theorem Cx.Ok.nofr (ok : X.Ok) {b : Addr} {o : Obj} (e : X.base.get? b = some o) : b ∉ X.fs := fun hb => by
  have := (ok.funs.mem hb).1
  rw [e] at this; cases this
theorem Inv.bs (I : Inv X pins σ H s) : ∀ b o, X.base.get? b = some o → s.heap.get? b = some o ∧ H b = none := fun b o e =>
  ⟨I.base.keep b o (I.ok.bs b o e).1 (I.ok.bs b o e).2 (I.ok.nofr e) (I.ok.noex b o e), I.base.free b o (I.ok.bs b o e).1 (I.ok.bs b o e).2 (I.ok.noex b o e)⟩
theorem Inv.bk (I : Inv X pins σ H s) : ∀ b o, X.base.get? b = some o → s.heap.get? b = some o := fun b o e => (I.bs b o e).1
theorem Inv.mod (I : Inv X pins σ H s) : Mod X.K X.mg X.base := I.ok.mod
theorem Inv.kIn (I : Inv X pins σ H s) : X.K.In s.heap := I.ok.mod.kin.keeps I.bk
theorem Inv.nolimit (I : Inv X pins σ H s) : s.heap.NoLimit := I.ok.mod.nolimit.keeps I.bk
/-- the frame over the base: for OpenK's rules (K.In X.base is I.mod.kin) -/
theorem Inv.fr (I : Inv X pins σ H s) : ∃ m, Fr X.base X.env.locals s.heap m :=
  let ⟨m, hn, _⟩ := I.loc
  ⟨m, hn, I.bk, Nat.le_trans I.ok.bsz I.ok.above⟩
theorem Inv.lt (I : Inv X pins σ H s) : X.env.locals < s.heap.objs.size := let ⟨_, hn, _⟩ := I.loc; hn.lt
theorem Inv.sz (I : Inv X pins σ H s) : X.s₀.heap.objs.size ≤ s.heap.objs.size := Nat.le_trans I.ok.above (Nat.le_of_lt I.lt)
theorem Inv.nofs (I : Inv X pins σ H s) {a : Addr} (h : s.heap.objs.size ≤ a) : a ∉ X.fs := fun hb => by
  obtain ⟨_, o, ho, _⟩ := I.ok.funs.mem hb
  exact absurd (Nat.lt_of_lt_of_le (Heap.lt_size ho) (Nat.le_trans I.sz h)) (Nat.lt_irrefl _)
theorem Inv.cne (I : Inv X pins σ H s) : ∀ x c, X.env.cells.lookup x = some c → c ≠ X.env.locals := fun x c e z => by
  obtain ⟨v, o, ho, hd⟩ := I.cell x c e
  obtain ⟨m, ⟨o', es, ep, ho', hd', _⟩, _⟩ := I.loc
  rw [z, ho'] at ho; cases ho; rw [hd'] at hd; cases hd
theorem Inv.funs (I : Inv X pins σ H s) : s.heap.FunFrames X.base X.outer := by
  have all : ∀ (l : List Env), (∀ b ∈ frs l, b ∈ X.fs) → X.s₀.heap.FunFrames X.base l → s.heap.FunFrames X.base l := by
    intro l
    induction l with
    | nil => intro _ _; trivial
    | cons env r ih =>
      intro hs hl
      obtain ⟨hk, ⟨L, o, hf, hn, ho, hd⟩, hr⟩ := hl
      have hL : L ∈ X.fs := hs L (by unfold frs; rw [List.filterMap_cons, hf]; exact List.mem_cons_self)
      obtain ⟨sl, e⟩ := I.base.slot L o ho (I.ok.frf L hL) hL fun z => I.ok.exfs L z hL
      exact ⟨hk, ⟨L, _, hf, hn, e, hd⟩, ih (fun b hb => hs b (by unfold frs; rw [List.filterMap_cons, hf]; exact List.mem_cons_of_mem _ hb)) hr⟩
  exact all X.outer (fun _ hb => hb) I.ok.funs

/-- the frames that run, for a call -/
theorem Inv.stack (I : Inv X pins σ H s) : s.heap.FunFrames X.base X.stack := by
  rcases I.ok.stk with e | ⟨e, hf⟩
  · rw [e]; exact I.funs
  · rw [e]
    obtain ⟨m, hn, _⟩ := I.loc
    refine .cons (by rw [I.ok.kind]; decide) hf hn ?_ I.funs
    exact Heap.get?_none_of_le (Nat.le_trans I.ok.bsz I.ok.above)
theorem Inv.stkSub (I : Inv X pins σ H s) : ∀ b ∈ frs X.stack, b ∈ X.env.locals :: X.fs := fun b hb => by
  rcases I.ok.stk with e | ⟨e, hf⟩
  · rw [e] at hb; exact List.mem_cons_of_mem _ hb
  · rw [e] at hb
    unfold frs at hb
    rw [List.filterMap_cons, hf] at hb
    exact hb
theorem Inv.stkFree (I : Inv X pins σ H s) : ∀ b ∈ frs X.stack, H b = none := fun b hb => by
  rcases List.mem_cons.mp (I.stkSub b hb) with e | hb
  · rw [e]; exact I.free
  · obtain ⟨_, o, ho, _⟩ := I.ok.funs.mem hb
    exact I.base.free b o ho (I.ok.frf b hb) fun z => I.ok.exfs b z hb

/-- THE STEP: the untracked objects but the frame and the records at ch are kept (the callers' frames up to slots), the frame's map is kept, the new abstract heap is held -/
theorem Inv.step {g' : Array GenState} {t' : Nat} {d' : Drawn} {ch : List Addr} (I : Inv X pins σ H s)
    (hch : ∀ b ∈ ch, (b ∈ X.ex ∨ X.s₀.heap.objs.size ≤ b) ∧ b ≠ X.env.locals ∧ (∀ x c, X.env.cells.lookup x = some c → c ≠ b) ∧ ∀ p ∈ X.pn ++ pins, p.1 ≠ b)
    (keep : ∀ b o, b ≠ X.env.locals → b ∉ X.fs → b ∉ ch → s.heap.get? b = some o → H b = none → h'.get? b = some o)
    (slot : ∀ b o, b ≠ X.env.locals → b ∈ X.fs → b ∉ ch → s.heap.get? b = some o → H b = none → ∃ sl, h'.get? b = some { o with slots := sl }) (free : ∀ b o, b ∉ ch → s.heap.get? b = some o → H b = none → H' b = none)
    (there : ∀ b o, b ∉ ch → s.heap.get? b = some o → ∃ o', h'.get? b = some o')
    (tups : ∀ b xs, H b = some (.tup xs) → H' b = some (.tup xs)) (frzs : ∀ b o u, H b = some (.frz o u) → H' b = some (.frz o u)) (tbls : ∀ b ps, H b = some (.tbl ps) → ∃ more, H' b = some (.tbl (ps ++ more)))
    (ns : ∀ m, s.heap.Ns X.env.locals m → h'.Ns X.env.locals m) (hok : HOk X.prog X.w H' h') (hg : AllBare g') :
    Inv X pins σ H' { s with heap := h', gens := g', drawn := d', toks := t' } := by
  have neL : ∀ b o, X.s₀.heap.get? b = some o → b ≠ X.env.locals := fun b o e => Nat.ne_of_lt (Nat.lt_of_lt_of_le (Heap.lt_size e) I.ok.above)
  have neC : ∀ b o, X.s₀.heap.get? b = some o → b ∉ X.ex → b ∉ ch := fun b o e hx hb => by
    rcases (hch b hb).1 with z | z
    · exact hx z
    · exact absurd (Nat.lt_of_lt_of_le (Heap.lt_size e) z) (Nat.lt_irrefl _)
  have cellK : ∀ x c, X.env.cells.lookup x = some c → ∀ v, s.heap.IsCell c v → h'.IsCell c v := fun x c e v ⟨o, ho, hd⟩ => by
    have nch : c ∉ ch := fun z => (hch c z).2.2.1 x c e rfl
    by_cases hc : c ∈ X.fs
    · obtain ⟨sl, q⟩ := slot c o (I.cne x c e) hc nch ho (I.freeC x c e)
      exact ⟨_, q, hd⟩
    · exact ⟨o, keep c o (I.cne x c e) hc nch ho (I.freeC x c e), hd⟩
  refine ⟨I.ok, I.os, hg, ⟨fun b o e n hb hx => ?_, fun b o e n hb hx => ?_, fun b o e n hx => ?_, fun b o e hx => ?_, fun b xs e => tups b xs (I.base.tups b xs e), fun b o xs e => frzs b o xs (I.base.frzs b o xs e), fun b ps e => ?_⟩, ?_, fun x c e => ?_, ?_, fun x c e => ?_, fun p hp => ?_, hok, I.len⟩
  · exact keep b o (neL b o e) hb (neC b o e hx) (I.base.keep b o e n hb hx) (I.base.free b o e n hx)
  · obtain ⟨sl, e1⟩ := I.base.slot b o e n hb hx
    obtain ⟨sl', e2⟩ := slot b _ (neL b o e) hb (neC b o e hx) e1 (I.base.free b o e n hx)
    exact ⟨sl', e2⟩
  · obtain ⟨o', e1⟩ := I.base.there b o e hx
    exact free b o' (neC b o e hx) e1 (I.base.free b o e n hx)
  · obtain ⟨o', e1⟩ := I.base.there b o e hx
    exact there b o' (neC b o e hx) e1
  · obtain ⟨m1, e1⟩ := I.base.tbls b ps e
    obtain ⟨m2, e2⟩ := tbls b _ e1
    exact ⟨m1 ++ m2, by rw [e2, Array.append_assoc]⟩
  · obtain ⟨m, hn, hl⟩ := I.loc
    refine ⟨m, ns m hn, fun i x v e1 e2 e3 => ?_⟩
    obtain ⟨u, r, l⟩ := hl i x v e1 e2 e3
    refine ⟨u, r, ?_⟩
    rcases l with l | ⟨k, c, e, z⟩
    · exact .inl l
    · exact .inr ⟨k, c, e, cellK x c e _ z⟩
  · obtain ⟨v, z⟩ := I.cell x c e
    exact ⟨v, cellK x c e v z⟩
  · obtain ⟨m, ⟨o, _, _, ho, _⟩, _⟩ := I.loc
    exact free _ o (fun z => (hch _ z).2.1 rfl) ho I.free
  · obtain ⟨v, o, ho, hd⟩ := I.cell x c e
    exact free c o (fun z => (hch c z).2.2.1 x c e rfl) ho (I.freeC x c e)
  · obtain ⟨e, n, ne, nf, d⟩ := I.pin p hp
    have nch : p.1 ∉ ch := fun z => (hch p.1 z).2.2.2 p hp rfl
    exact ⟨keep p.1 p.2 ne nf nch e n, free p.1 p.2 nch e n, ne, nf, d⟩
/-- .. where the frame's own object is kept too -/
theorem Inv.un {t' : Nat} (I : Inv X pins σ H s) (u : Un X.fs [] H H' s.heap h') (hok : HOk X.prog X.w H' h') : Inv X pins σ H' { s with heap := h', toks := t' } := by
  obtain ⟨m, ⟨o, es, ep, ho, r⟩, _⟩ := id I.loc
  obtain ⟨sl, hL⟩ := u.any ho I.free (by simp)
  exact I.step (g' := s.gens) (d' := s.drawn) (ch := []) (fun _ z => nomatch z) (fun b o _ hb _ e n => u.keep b o e n hb (by simp)) (fun b o _ hb _ e n => u.slot b o e n hb (by simp)) (fun b o _ e n => u.free b o e n (by simp)) (fun b o _ e => u.there b o e (by simp)) u.tups u.frzs u.tbls (fun m' hm => by
    obtain ⟨o', es', ep', ho', r'⟩ := hm
    rw [ho] at ho'; cases ho'
    exact ⟨_, es', ep', hL, r'⟩) hok I.bare
/-- behind a call (or a comprehension's block): the slots of this frame may have changed too, the records at ch may have turned -/
theorem Inv.call {g' : Array GenState} {t' : Nat} {d' : Drawn} {ch : List Addr} (I : Inv X pins σ H s) (u : Un (frs X.stack) ch H H' s.heap h') (hok : HOk X.prog X.w H' h') (hg : AllBare g')
    (hch : ∀ b ∈ ch, (b ∈ X.ex ∨ X.s₀.heap.objs.size ≤ b) ∧ b ≠ X.env.locals ∧ (∀ x c, X.env.cells.lookup x = some c → c ≠ b) ∧ ∀ p ∈ X.pn ++ pins, p.1 ≠ b) :
    Inv X pins σ H' { s with heap := h', gens := g', drawn := d', toks := t' } := by
  obtain ⟨m, ⟨o, es, ep, ho, r⟩, _⟩ := id I.loc
  obtain ⟨sl, hL⟩ := u.any ho I.free fun z => (hch _ z).2.1 rfl
  exact I.step (ch := ch) hch (fun b o hL hb hc e n => u.keep b o e n (fun z => (List.mem_cons.mp (I.stkSub b z)).elim hL hb) hc) (fun b o _ _ hc e n => u.any e n hc) (fun b o hc e n => u.free b o e n hc) (fun b o hc e => u.there b o e hc) u.tups u.frzs u.tbls (fun m' hm => by
    obtain ⟨o', es', ep', ho', r'⟩ := hm
    rw [ho] at ho'; cases ho'
    exact ⟨_, es', ep', hL, r'⟩) hok hg
/-- an untracked record of ours (an iterator) has turned -/
theorem Inv.turned {t' : Nat} {it : Addr} (I : Inv X pins σ H s) (k : ∀ b o, b ≠ it → s.heap.get? b = some o → h'.get? b = some o) (hn : H it = none) (hL : it ≠ X.env.locals)
    (h1 : it ∈ X.ex ∨ X.s₀.heap.objs.size ≤ it) (h2 : ∀ x c, X.env.cells.lookup x = some c → c ≠ it) (h3 : ∀ p ∈ X.pn ++ pins, p.1 ≠ it) : Inv X pins σ H { s with heap := h', toks := t' } := by
  have nit : ∀ b u, H b = some u → b ≠ it := fun b u e z => by rw [z, hn] at e; cases e
  refine I.step (g' := s.gens) (d' := s.drawn) (ch := [it]) (fun b hb => ?_) (fun b o _ _ hc e _ => k b o (fun z => hc (by simp [z])) e) (fun b o _ _ hc e _ => ⟨o.slots, k b o (fun z => hc (by simp [z])) e⟩) (fun _ _ _ _ n => n)
    (fun b o hc e => ⟨o, k b o (fun z => hc (by simp [z])) e⟩) (fun _ _ e => e) (fun _ _ _ e => e) (fun b ps e => ⟨#[], by rw [e]; simp⟩) (fun m hm => ?_) (fun b u e => ?_) I.bare
  · have e : b = it := by simpa using hb
    subst e
    exact ⟨h1, hL, h2, h3⟩
  · obtain ⟨o, es, ep, ho, r⟩ := hm
    exact ⟨o, es, ep, k _ o (Ne.symm hL) ho, r⟩
  · refine (I.hok b u e).stay (fun c v hc q => k c v ?_ q) (fun _ q => q) fun _ _ q => q
    rcases hc with z | z
    · rw [z]; exact nit b u e
    · exact nit c _ z
theorem Inv.tok (I : Inv X pins σ H s) (t : Nat) : Inv X pins σ H { s with toks := t } := I.un (h' := s.heap) (t' := t) Un.refl I.hok
/-- all objects kept -/
theorem Inv.kept {t' : Nat} (I : Inv X pins σ H s) (k : ∀ b u, s.heap.get? b = some u → h'.get? b = some u) : Inv X pins σ H { s with heap := h', toks := t' } := I.un (Un.kept k) (I.hok.kept k)
/-- a new object laid and tracked -/
theorem Inv.laid {a : Addr} {o : HO} {t' : Nat} (I : Inv X pins σ H s) (k : ∀ b u, s.heap.get? b = some u → h'.get? b = some u) (hp : s.heap.objs.size ≤ a) (new : ObjOk X.prog X.w (upd H a o) h' a o) :
    Inv X pins σ (upd H a o) { s with heap := h', toks := t' } := I.un (Un.laid k hp (I.hok.fresh hp)) (I.hok.laid k hp new)
/-- an object written -/
theorem Inv.write {x e : Addr} {o : HO} {t' : Nat} (I : Inv X pins σ H s) (mu : Mut (H x)) (he : e = x ∨ H e = some (.own x)) (k : ∀ b u, b ≠ e → s.heap.get? b = some u → h'.get? b = some u) (heo : ∃ u, h'.get? e = some u)
    (new : ObjOk X.prog X.w (upd H x o) h' x o) : Inv X pins σ (upd H x o) { s with heap := h', toks := t' } := I.un (Un.write mu he k heo) (I.hok.write mu he k heo new)
/-- forgetting slots, pins -/
theorem Inv.weak {σ' : List (Option V)} (I : Inv X pins σ H s) (hl : σ'.length = σ.length) (w : ∀ (i : Nat) v, σ'[i]? = some (some v) → σ[i]? = some (some v)) : Inv X pins σ' H s :=
  ⟨I.ok, I.os, I.bare, I.base, let ⟨m, hn, hl'⟩ := I.loc; ⟨m, hn, fun i x v e1 e2 e3 => hl' i x v e1 (w i v e2) e3⟩, I.cell, I.free, I.freeC, I.pin, I.hok, hl.trans I.len⟩
theorem Inv.pins_of {pins' : List (Addr × Obj)} (I : Inv X pins σ H s) (h : ∀ p ∈ pins', s.heap.get? p.1 = some p.2 ∧ H p.1 = none ∧ p.1 ≠ X.env.locals ∧ p.1 ∉ X.fs ∧ ∀ v, p.2.data ≠ .cell v) : Inv X pins' σ H s :=
  ⟨I.ok, I.os, I.bare, I.base, I.loc, I.cell, I.free, I.freeC, fun p hp => (List.mem_append.mp hp).elim (fun z => I.pin p (List.mem_append_left _ z)) (h p), I.hok, I.len⟩

theorem nodup_ix {N : List Str} (hN : N.Nodup) {i j : Nat} {x : Str} (a : N[i]? = some x) (b : N[j]? = some x) : i = j := by
  obtain ⟨h1, e1⟩ := List.getElem?_eq_some_iff.mp a
  obtain ⟨h2, e2⟩ := List.getElem?_eq_some_iff.mp b
  exact (List.getElem_inj hN).mp (e1.trans e2.symm)

/-- a name is stored; what changed -/
theorem store_ok2 {M : Model} {A : Around} {E : Value → Shared → Prop} {i : Nat} {x : Str} {v : V} {u : Value} {Q : Unit → Shared → Prop} (I : Inv X pins σ H s) (hN : X.N.Nodup) (hi : X.N[i]? = some x) (hx : Loc X.env.scope x) (r : RelV v u)
    (h : ∀ s', Inv X pins (σ.set i (some v)) H s' → (∃ a, Heap.SameBut a s.heap s'.heap ∧ (a = X.env.locals ∨ X.env.cells.lookup x = some a)) → Q () s') (hf : X.fn x = true ∨ X.env.scope.names.lookup x = some .local := by first | exact .inl rfl | exact .inr rfl | assumption) : wpAny M A (storeName X.env x u) Q E s := by
  obtain ⟨m, hn, hl⟩ := id I.loc
  have hcls : (X.env.scope.kind == .class || (X.env.scope.kind == .module && X.env.locals != X.env.globals)) = false := by rw [I.ok.kind]; rfl
  have hiσ : i < σ.length := by rw [I.len]; exact (List.getElem?_eq_some_iff.mp hi).1
  have cne := I.cne
  have tracked : ∀ {a : Addr} {h' : Heap}, (∃ o, s.heap.get? a = some o ∧ H a = none) → Heap.SameBut a s.heap h' → HOk X.prog X.w H h' := fun {a h'} ha hs b ob e => by
    obtain ⟨_, _, hfree⟩ := ha
    refine (I.hok b ob e).stay (fun c w' hc q => (hs.2 c ?_).trans q) (fun _ q => q) fun _ _ q => q
    rintro rfl
    rcases hc with rfl | hc
    · rw [hfree] at e; cases e
    · rw [hfree] at hc; cases hc
  rcases hx with hk | hk
  · refine wpAny_storeName_local hk hn (fun h' hn' hs => ?_) hcls
    obtain ⟨oL, _, _, hoL, _⟩ := id hn
    refine h _ ⟨I.ok, I.os, I.bare, ⟨fun b o e n hb hx => ?_, fun b o e n hb hx => ?_, I.base.free, fun b o e hx => ?_, I.base.tups, I.base.frzs, I.base.tbls⟩, ⟨_, hn', fun j y v' e1 e2 e3 => ?_⟩, fun y c e => ?_, I.free, I.freeC, fun p hp => ?_, tracked ⟨oL, hoL, I.free⟩ hs, by simpa using I.len⟩ ⟨_, hs, .inl rfl⟩
    · exact (hs.2 b (Nat.ne_of_lt (Nat.lt_of_lt_of_le (Heap.lt_size e) I.ok.above))).trans (I.base.keep b o e n hb hx)
    · obtain ⟨sl, e1⟩ := I.base.slot b o e n hb hx
      exact ⟨sl, (hs.2 b (Nat.ne_of_lt (Nat.lt_of_lt_of_le (Heap.lt_size e) I.ok.above))).trans e1⟩
    · obtain ⟨o', e1⟩ := I.base.there b o e hx
      exact ⟨o', (hs.2 b (Nat.ne_of_lt (Nat.lt_of_lt_of_le (Heap.lt_size e) I.ok.above))).trans e1⟩
    · by_cases hj : j = i
      · subst hj
        rw [hi] at e1; cases e1
        rw [List.getElem?_set_self hiσ] at e2
        cases e2
        exact ⟨u, r, .inl ⟨hk, by simp⟩⟩
      · rw [List.getElem?_set_ne (Ne.symm hj)] at e2
        obtain ⟨u', r', q⟩ := hl j y v' e1 e2 e3
        refine ⟨u', r', ?_⟩
        rcases q with ⟨k, e⟩ | ⟨k, c, e, z⟩
        · refine .inl ⟨k, ?_⟩
          have : y ≠ x := fun e => hj (nodup_ix hN e1 (e ▸ hi))
          simp [this, e]
        · exact .inr ⟨k, c, e, z.sameBut hs (cne y c e)⟩
    · obtain ⟨w', z⟩ := I.cell y c e
      exact ⟨w', z.sameBut hs (cne y c e)⟩
    · obtain ⟨e, n, ne, nf, d⟩ := I.pin p hp
      exact ⟨(hs.2 p.1 ne).trans e, n, ne, nf, d⟩
  · have hfn : X.fn x = true := by
      rcases hf with z | z
      · exact z
      · rw [z] at hk; cases hk
    obtain ⟨c, hc⟩ := I.ok.has x (.inl hk)
    obtain ⟨w', z⟩ := I.cell x c hc
    refine wpAny_storeName_cell I.ok.kind hk hc z (fun h' hc' hs => ?_)
    obtain ⟨oc, hoc, hocd⟩ := id z
    refine h { s with heap := h' } ⟨I.ok, I.os, I.bare, ⟨fun b o e n hb hx => ?_, fun b o e n hb hx => ?_, I.base.free, fun b o e hx => ?_, I.base.tups, I.base.frzs, I.base.tbls⟩, ⟨m, hn.sameBut hs (Ne.symm (cne x c hc)), fun j y v' e1 e2 e3 => ?_⟩, fun y c' e => ?_, I.free, I.freeC, fun p hp => ?_, tracked ⟨oc, hoc, I.freeC x c hc⟩ hs, by simpa using I.len⟩ ⟨c, hs, .inr hc⟩
    · exact (hs.2 b (Nat.ne_of_lt (Nat.lt_of_lt_of_le (Heap.lt_size e) (I.ok.cab x c hfn hc)))).trans (I.base.keep b o e n hb hx)
    · obtain ⟨sl, e1⟩ := I.base.slot b o e n hb hx
      exact ⟨sl, (hs.2 b (Nat.ne_of_lt (Nat.lt_of_lt_of_le (Heap.lt_size e) (I.ok.cab x c hfn hc)))).trans e1⟩
    · obtain ⟨o', e1⟩ := I.base.there b o e hx
      exact ⟨o', (hs.2 b (Nat.ne_of_lt (Nat.lt_of_lt_of_le (Heap.lt_size e) (I.ok.cab x c hfn hc)))).trans e1⟩
    · by_cases hj : j = i
      · subst hj
        rw [hi] at e1; cases e1
        rw [List.getElem?_set_self hiσ] at e2
        cases e2
        exact ⟨u, r, .inr ⟨.inl hk, c, hc, hc'⟩⟩
      · rw [List.getElem?_set_ne (Ne.symm hj)] at e2
        obtain ⟨u', r', q⟩ := hl j y v' e1 e2 e3
        refine ⟨u', r', ?_⟩
        rcases q with q | ⟨k, c', e, z'⟩
        · exact .inl q
        · refine .inr ⟨k, c', e, z'.sameBut hs ?_⟩
          rintro rfl
          exact hj (nodup_ix hN e1 (I.ok.inj _ _ _ e hc ▸ hi))
    · by_cases hcc : c' = c
      · subst hcc; exact ⟨_, hc'⟩
      · obtain ⟨w2, z2⟩ := I.cell y c' e
        exact ⟨w2, z2.sameBut hs hcc⟩
    · obtain ⟨e, n, ne, nf, d⟩ := I.pin p hp
      refine ⟨(hs.2 p.1 ?_).trans e, n, ne, nf, d⟩
      intro q
      rw [q, hoc] at e
      have q' : oc = p.2 := Option.some.inj e
      exact d w' (by rw [← q']; exact hocd)
theorem store_ok {M : Model} {A : Around} {E : Value → Shared → Prop} {i : Nat} {x : Str} {v : V} {u : Value} {Q : Unit → Shared → Prop} (I : Inv X pins σ H s) (hN : X.N.Nodup) (hi : X.N[i]? = some x) (hx : Loc X.env.scope x) (r : RelV v u)
    (h : ∀ s', Inv X pins (σ.set i (some v)) H s' → Q () s') (hf : X.fn x = true ∨ X.env.scope.names.lookup x = some .local := by first | exact .inl rfl | exact .inr rfl | assumption) : wpAny M A (storeName X.env x u) Q E s :=
  store_ok2 I hN hi hx r (fun s' I' _ => h s' I') hf
/-- behind a call or a block, the state as it is -/
theorem Inv.call' {s' : Shared} {ch : List Addr} (I : Inv X pins σ H s) (ho : s'.os = s.os) (u : Un (frs X.stack) ch H H' s.heap s'.heap) (hok : HOk X.prog X.w H' s'.heap) (hg : AllBare s'.gens)
    (hch : ∀ b ∈ ch, (b ∈ X.ex ∨ X.s₀.heap.objs.size ≤ b) ∧ b ≠ X.env.locals ∧ (∀ x c, X.env.cells.lookup x = some c → c ≠ b) ∧ ∀ p ∈ X.pn ++ pins, p.1 ≠ b) : Inv X pins σ H' s' := by
  obtain ⟨h', g', d', t', o'⟩ := s'
  have e : o' = s.os := ho
  subst e
  exact I.call (g' := g') (t' := t') (d' := d') u hok hg hch
end

/-! ### the judgements -/
/-- an exception: its class, its own dict's address (where it has one), the abstract heap behind it -/
abbrev XK := Value → Option Addr → Hp → Prop
abbrev St := List (Option V)
abbrev VK := V → Hp → Prop
/-- an expression's reading; a test's; an argument list's -/
abbrev TE := St → Hp → VK → Prop
abbrev TT := St → Hp → (Bool → Hp → Prop) → Prop
abbrev TA := St → Hp → (List V → Hp → Prop) → Prop
/-- what is wanted behind a statement -/
structure Ends where
  nx : St → Hp → Prop
  rt : VK
  bk : St → Hp → Prop := fun _ _ => False
  ct : St → Hp → Prop := fun _ _ => False
abbrev TS := Ends → St → Hp → Prop

def EP (X : Cx) (pins : List (Addr × Obj)) (σ : St) (Q : VK) (u : Value) (s' : Shared) : Prop := ∃ v H', Inv X pins σ H' s' ∧ RelV v u ∧ Q v H'
def TP (X : Cx) (pins : List (Addr × Obj)) (σ : St) (Q : Bool → Hp → Prop) (b : Bool) (s' : Shared) : Prop := ∃ H', Inv X pins σ H' s' ∧ Q b H'
def AP (X : Cx) (pins : List (Addr × Obj)) (σ : St) (Q : List V → Hp → Prop) (us : List Value) (s' : Shared) : Prop := ∃ vs H', Inv X pins σ H' s' ∧ Vals vs us ∧ Q vs H'
def SP (X : Cx) (pins : List (Addr × Obj)) (D : Ends) (f : Flow) (s' : Shared) : Prop :=
  match f with
  | .next => ∃ σ' H', Inv X pins σ' H' s' ∧ D.nx σ' H'
  | .brk => ∃ σ' H', Inv X pins σ' H' s' ∧ D.bk σ' H'
  | .cont => ∃ σ' H', Inv X pins σ' H' s' ∧ D.ct σ' H'
  | .ret u => ∃ v σ' H', Inv X pins σ' H' s' ∧ RelV v u ∧ D.rt v H'

def PE (X : Cx) (e : Expr) (t : TE) : Prop :=
  ∀ (pins : List (Addr × Obj)) (s : Shared) (σ : St) (H : Hp) (Q : VK), Inv X pins σ H s → t σ H Q → wpAny (model X.prog X.w) X.A (eval e X.env) (EP X pins σ Q) X.xe s
def PT (X : Cx) (e : Expr) (t : TT) : Prop :=
  ∀ (pins : List (Addr × Obj)) (s : Shared) (σ : St) (H : Hp) (Q : Bool → Hp → Prop), Inv X pins σ H s → t σ H Q → wpAny (model X.prog X.w) X.A (isTrue e X.env (eval e X.env)) (TP X pins σ Q) X.xe s
/-- a test whatever its 'whole' is (and, or) -/
def PW (X : Cx) (e : Expr) (t : TT) : Prop :=
  ∀ (whole : Sem Value) (pins : List (Addr × Obj)) (s : Shared) (σ : St) (H : Hp) (Q : Bool → Hp → Prop), Inv X pins σ H s → t σ H Q → wpAny (model X.prog X.w) X.A (isTrue e X.env whole) (TP X pins σ Q) X.xe s
theorem PW.pt {X : Cx} {e : Expr} {t : TT} (h : PW X e t) : PT X e t := h _
/-- an argument list (no star), from the left -/
def PA (X : Cx) (es : List Expr) (t : TA) : Prop :=
  ∀ (pos : Pos) (pins : List (Addr × Obj)) (s : Shared) (σ : St) (H : Hp) (Q : List V → Hp → Prop), Inv X pins σ H s → t σ H Q → wpAny (model X.prog X.w) X.A (spliced (backTo pos (starEach es X.env))) (AP X pins σ Q) X.xe s
def PS (X : Cx) (st : Stmt) (t : TS) : Prop :=
  ∀ (pins : List (Addr × Obj)) (s : Shared) (σ : St) (H : Hp) (D : Ends), Inv X pins σ H s → t D σ H → wpAny (model X.prog X.w) X.A (exec st X.env) (SP X pins D) X.xe s
def PSs (X : Cx) (st : List Stmt) (t : TS) : Prop :=
  ∀ (pins : List (Addr × Obj)) (s : Shared) (σ : St) (H : Hp) (D : Ends), Inv X pins σ H s → t D σ H → wpAny (model X.prog X.w) X.A (execs st X.env) (SP X pins D) X.xe s
/-- weaken the end -/
theorem thn {α : Type} {t : Sem α} {Q Q' : α → Shared → Prop} {M : Model} {A : Around} {E : Value → Shared → Prop} {s : Shared} (h : wpAny M A t Q E s) (hQ : ∀ a s, Q a s → Q' a s) : wpAny M A t Q' E s := wpAny_mono h hQ fun _ _ x => x
end L2

namespace L2
open PySem PySem.Spec PyProof.Rows
section
variable {X : Cx}

/-- two expressions in a row -/
theorem bin {a b : Expr} {ta tb : TE} (ha : PE X a ta) (hb : PE X b tb) {pins : List (Addr × Obj)} {s : Shared} {σ : St} {H : Hp} {R : V → V → Hp → Prop} (I : Inv X pins σ H s) (h : ta σ H fun x H1 => tb σ H1 fun y H2 => R x y H2)
    {α : Type} {Q : α → Shared → Prop} {f : Value → Value → Sem α}
    (hf : ∀ v u s2 x y H2, Inv X pins σ H2 s2 → RelV x v → RelV y u → R x y H2 → wpAny (model X.prog X.w) X.A (f v u) Q X.xe s2) :
    wpAny (model X.prog X.w) X.A (eval a X.env) (fun v s₁ => wpAny (model X.prog X.w) X.A (eval b X.env) (fun u s₂ => wpAny (model X.prog X.w) X.A (f v u) Q X.xe s₂) X.xe s₁) X.xe s := by
  refine thn (ha pins s σ H _ I h) fun v s1 ⟨x, H1, I1, r1, q1⟩ => ?_
  refine thn (hb pins s1 σ H1 _ I1 q1) fun u s2 ⟨y, H2, I2, r2, q2⟩ => ?_
  exact hf v u s2 x y H2 I2 r1 r2 q2

/-! ### names and constants -/
def tVar (i : Nat) : TE := fun σ H Q => ∃ v, σ[i]? = some (some v) ∧ Q v H
def tC (v : V) : TE := fun _ H Q => Q v H
theorem pe_var {i : Nat} {x : Str} {pos : Pos} (hN : X.N[i]? = some x) (hv : Vis X.env.scope x) (hd : (x == ("__debug__" : Str)) = false := by decide) (hcd : (x == ("__classdict__" : Str)) = false := by decide) : PE X (.Name x pos) (tVar i) := by
  intro pins s σ H Q I h
  obtain ⟨v, e, h⟩ := h
  obtain ⟨m, hn, hl⟩ := I.loc
  obtain ⟨u, r, l⟩ := hl i x v hN e hv
  have fin : EP X pins σ Q u s := ⟨v, H, I, r, h⟩
  rcases l with ⟨hk, hm⟩ | ⟨hk, c, hc, hcell⟩
  · exact wpAny_Name (wpAny_loadName_local I.ok.kind hk hn hm fin) hd
  · rcases hk with hk | hk
    · exact wpAny_Name (wpAny_loadName_cell I.ok.kind hk hc hcell fin) hd
    · exact wpAny_Name (wpAny_loadName_free I.ok.kind hk hc hcell fin hcd) hd
theorem pe_int {i j pos} : PE X (.Constant (.int i) j pos) (tC (.int i)) := fun _ _ _ H _ I h => wpAny_Constant_int ⟨.int i, H, I.tok _, ⟨_, rfl⟩, h⟩
theorem pe_bl {b j pos} : PE X (.Constant (.bool b) j pos) (tC (.bl b)) := fun _ _ _ H _ I h => Constant_bool ⟨.bl b, H, I, rfl, h⟩
theorem pe_non {j pos} : PE X (.Constant .none j pos) (tC .non) := fun _ _ _ H _ I h => Constant_none ⟨.non, H, I, rfl, h⟩
theorem pe_str {x j pos} : PE X (.Constant (.str x) j pos) (tC (.str x)) := fun _ _ _ H _ I h => Calls.Constant_str ⟨.str x, H, I.tok _, ⟨_, rfl⟩, h⟩

/-- a global name of the def -/
def Gl (X : Cx) (x : Str) : Prop := X.env.kindOf x = some .globalImplicit
theorem ld_glob {E : Value → Shared → Prop} {pins : List (Addr × Obj)} {s : Shared} {σ : St} {H : Hp} {x : Str} {u : Value} {pos : Pos} {Q : Value → Shared → Prop} (I : Inv X pins σ H s) (hg : Gl X x) (hm : X.mg x = some u) (h : Q u s)
    (hd : (x == ("__debug__" : Str)) = false := by decide) : wpAny (model X.prog X.w) X.A (eval (.Name x pos) X.env) Q E s :=
  Calls.Name_function_global I.ok.kind hg (Calls.loadGlobal_global (by rw [I.ok.glob]; exact I.mod.glob.keeps I.bk) hm h) hd
theorem ld_blt {E : Value → Shared → Prop} {pins : List (Addr × Obj)} {s : Shared} {σ : St} {H : Hp} {x : Str} {u : Value} {pos : Pos} {Q : Value → Shared → Prop} (I : Inv X pins σ H s) (hg : Gl X x) (hm : X.mg x = none) (hv : bootBuiltins x = some u) (h : Q u s)
    (hn : x ≠ "__name__" := by decide) (hd : (x == ("__debug__" : Str)) = false := by decide) : wpAny (model X.prog X.w) X.A (eval (.Name x pos) X.env) Q E s := by
  obtain ⟨mb, h1, h2⟩ := I.mod.blt
  exact Calls.Name_function_global I.ok.kind hg (Calls.loadGlobal_builtin (by rw [I.ok.glob]; exact I.mod.glob.keeps I.bk) hm (by rw [I.ok.blt]; exact h1.keeps I.bk) ((h2 x hn).trans hv) h) hd
/-- a module's constant, a class, a function, as a value -/
theorem pe_glob {x : Str} {v : V} {u : Value} {pos : Pos} (hg : Gl X x) (hm : X.mg x = some u) (r : RelV v u) (hd : (x == ("__debug__" : Str)) = false := by decide) : PE X (.Name x pos) (tC v) :=
  fun _ _ _ H _ I h => ld_glob I hg hm ⟨v, H, I, r, h⟩ hd
theorem pe_bltn {x : Str} {v : V} {u : Value} {pos : Pos} (hg : Gl X x) (hm : X.mg x = none) (hv : bootBuiltins x = some u) (r : RelV v u) (hn : x ≠ "__name__" := by decide) (hd : (x == ("__debug__" : Str)) = false := by decide) : PE X (.Name x pos) (tC v) :=
  fun _ _ _ H _ I h => ld_blt I hg hm hv ⟨v, H, I, r, h⟩ hn hd

/-! ### arithmetic -/
/-- two ints -/
def t2I (ta tb : TE) (k : Int → Int → Hp → Prop) : St → Hp → Prop := fun σ H => ta σ H fun x H1 => tb σ H1 fun y H2 => ∃ i j, x = .int i ∧ y = .int j ∧ k i j H2
def tAdd (ta tb : TE) : TE := fun σ H Q => t2I ta tb (fun i j H2 => Q (.int (i + j)) H2) σ H
def tSub (ta tb : TE) : TE := fun σ H Q => t2I ta tb (fun i j H2 => Q (.int (i - j)) H2) σ H
/-- the left factor below 2^64 -/
def tMul (ta tb : TE) : TE := fun σ H Q => t2I ta tb (fun i j H2 => (-(2 ^ 64) < i ∧ i < 2 ^ 64) ∧ Q (.int (i * j)) H2) σ H
variable {a b : Expr} {ta tb : TE} {pos : Pos}
theorem pe_add (ha : PE X a ta) (hb : PE X b tb) : PE X (.BinOp a .Add b pos) (tAdd ta tb) := by
  intro pins s σ H Q I h
  refine wpAny_BinOp (bin ha hb I h fun v u s2 x y H2 I2 rx ry q => ?_)
  obtain ⟨i, j, rfl, rfl, q⟩ := q
  obtain ⟨t, rfl⟩ := rx
  obtain ⟨t', rfl⟩ := ry
  exact add_int ⟨.int _, H2, I2.tok _, ⟨_, rfl⟩, q⟩
theorem pe_sub (ha : PE X a ta) (hb : PE X b tb) : PE X (.BinOp a .Sub b pos) (tSub ta tb) := by
  intro pins s σ H Q I h
  refine wpAny_BinOp (bin ha hb I h fun v u s2 x y H2 I2 rx ry q => ?_)
  obtain ⟨i, j, rfl, rfl, q⟩ := q
  obtain ⟨t, rfl⟩ := rx
  obtain ⟨t', rfl⟩ := ry
  exact sub_int ⟨.int _, H2, I2.tok _, ⟨_, rfl⟩, q⟩
theorem pe_mul (ha : PE X a ta) (hb : PE X b tb) : PE X (.BinOp a .Mult b pos) (tMul ta tb) := by
  intro pins s σ H Q I h
  refine wpAny_BinOp (bin ha hb I h fun v u s2 x y H2 I2 rx ry q => ?_)
  obtain ⟨i, j, rfl, rfl, ⟨q1, q2⟩, q⟩ := q
  obtain ⟨t, rfl⟩ := rx
  obtain ⟨t', rfl⟩ := ry
  exact mul_int ⟨.int _, H2, I2.tok _, ⟨_, rfl⟩, q⟩ (.of_left (intBits_le_64 q1 q2))

/-! ### comparisons -/
def PC (X : Cx) (op : CmpOp) (a b : Expr) (t : TE) : Prop :=
  ∀ (pins : List (Addr × Obj)) (s : Shared) (σ : St) (H : Hp) (Q : VK), Inv X pins σ H s → t σ H Q →
    wpAny (model X.prog X.w) X.A (eval a X.env) (fun v s₁ => wpAny (model X.prog X.w) X.A (eval b X.env) (fun u s₂ => wpAny (model X.prog X.w) X.A (compareOp op v u) (EP X pins σ Q) X.xe s₂) X.xe s₁) X.xe s
theorem nobehind (b : Expr) {op : CmpOp} (h : op ≠ .In) (h2 : op ≠ .NotIn) : behindInMarks op b = false := by
  have e1 : (op == CmpOp.In) = false := by cases op <;> first | rfl | exact absurd rfl h
  have e2 : (op == CmpOp.NotIn) = false := by cases op <;> first | rfl | exact absurd rfl h2
  cases b <;> simp [behindInMarks, e1, e2]
def tCmp (p : Int → Int → Bool) (ta tb : TE) : TE := fun σ H Q => t2I ta tb (fun i j H2 => Q (.bl (p i j)) H2) σ H
abbrev tLt : TE → TE → TE := tCmp fun i j => decide (i < j)
abbrev tLe : TE → TE → TE := tCmp fun i j => decide (i ≤ j)
abbrev tGt : TE → TE → TE := tCmp fun i j => decide (j < i)
abbrev tGe : TE → TE → TE := tCmp fun i j => decide (j ≤ i)
abbrev tEqI : TE → TE → TE := tCmp fun i j => decide (i = j)
abbrev tNeI : TE → TE → TE := tCmp fun i j => !decide (i = j)
/-- a comparison of two ints, by its rule -/
theorem pc_int {op : CmpOp} {p : Int → Int → Bool} (ha : PE X a ta) (hb : PE X b tb)
    (rule : ∀ (i j : Int) (t u : Tok) (Q : Value → Shared → Prop) (s : Shared), Q (.bool (p i j)) s → wpAny (model X.prog X.w) X.A (compareOp op (.int i t) (.int j u)) Q X.xe s) : PC X op a b (tCmp p ta tb) := by
  intro pins s σ H Q I h
  refine bin ha hb I h fun v u s2 x y H2 I2 rx ry q => ?_
  obtain ⟨i, j, rfl, rfl, q⟩ := q
  obtain ⟨t, rfl⟩ := rx
  obtain ⟨t', rfl⟩ := ry
  exact rule i j t t' _ s2 ⟨.bl _, H2, I2, rfl, q⟩
theorem pc_lt (ha : PE X a ta) (hb : PE X b tb) : PC X .Lt a b (tLt ta tb) := pc_int ha hb fun _ _ _ _ _ _ h => lt_int h
theorem pc_le (ha : PE X a ta) (hb : PE X b tb) : PC X .LtE a b (tLe ta tb) := pc_int ha hb fun _ _ _ _ _ _ h => le_int h
theorem pc_gt (ha : PE X a ta) (hb : PE X b tb) : PC X .Gt a b (tGt ta tb) := pc_int ha hb fun _ _ _ _ _ _ h => gt_int h
theorem pc_ge (ha : PE X a ta) (hb : PE X b tb) : PC X .GtE a b (tGe ta tb) := pc_int ha hb fun _ _ _ _ _ _ h => ge_int h
theorem pc_eqI (ha : PE X a ta) (hb : PE X b tb) : PC X .Eq a b (tEqI ta tb) := pc_int ha hb fun _ _ _ _ _ _ h => eq_int (by rw [Bool.beq_eq_decide_eq]; exact h)
theorem pc_neI (ha : PE X a ta) (hb : PE X b tb) : PC X .NotEq a b (tNeI ta tb) := pc_int ha hb fun _ _ _ _ _ _ h => ne_int (by rw [bne, Bool.beq_eq_decide_eq]; exact h)
/-- is None -/
def tIsN (ta : TE) : TE := fun σ H Q => ta σ H fun x H1 => Q (.bl (decide (x = .non))) H1
def tNotN (ta : TE) : TE := fun σ H Q => ta σ H fun x H1 => Q (.bl (!decide (x = .non))) H1
theorem RelV.none_iff {x : V} {v : Value} (r : RelV x v) : (v == Value.none) = decide (x = .non) := by
  cases x with
  | non => cases r; rfl
  | bl _ => cases r; rfl
  | int _ => obtain ⟨t, rfl⟩ := r; rfl
  | str _ => obtain ⟨t, rfl⟩ := r; rfl
  | byt _ => obtain ⟨t, rfl⟩ := r; rfl
  | flt _ => obtain ⟨t, rfl⟩ := r; rfl
  | ref _ => cases r; rfl
  | ty _ => cases r; rfl
theorem pc_isN {j pos'} (ha : PE X a ta) : PC X .Is a (.Constant .none j pos') (tIsN ta) := by
  intro pins s σ H Q I h
  refine thn (ha pins s σ H _ I h) fun v s1 ⟨x, H1, I1, r1, q1⟩ => ?_
  exact Constant_none (is_none_gen ⟨.bl _, H1, I1, by rw [r1.none_iff]; rfl, q1⟩)
theorem pc_notN {j pos'} (ha : PE X a ta) : PC X .IsNot a (.Constant .none j pos') (tNotN ta) := by
  intro pins s σ H Q I h
  refine thn (ha pins s σ H _ I h) fun v s1 ⟨x, H1, I1, r1, q1⟩ => ?_
  exact Constant_none (isnot_none_gen ⟨.bl _, H1, I1, by rw [r1.none_iff]; rfl, q1⟩)
/-- a comparison as a value, as a test -/
def tB (t : TE) : TT := fun σ H Q => t σ H fun x H1 => ∃ c, x = .bl c ∧ Q c H1
theorem pe_cmp {op : CmpOp} {t : TE} (h : PC X op a b t) (h1 : behindInMarks op b = false := by first | exact nobehind _ (by decide) (by decide) | rfl) : PE X (.Compare a [op] [b] pos) t := fun pins s σ H Q I hw => wpAny_Compare1 (h pins s σ H Q I hw) h1
theorem pt_cmp {op : CmpOp} {t : TE} (h : PC X op a b t) (h1 : behindInMarks op b = false := by first | exact nobehind _ (by decide) (by decide) | rfl) : PT X (.Compare a [op] [b] pos) (tB t) := by
  intro pins s σ H Q I hw
  refine wpAny_isTrue_Compare1 (thn (h pins s σ H _ I hw) fun v s1 h1 => thn h1 fun u s2 h2 => thn h2 fun c s3 ⟨x, H1, I1, r1, q1⟩ => ?_) h1
  obtain ⟨d, rfl, q⟩ := q1
  cases r1
  exact wpAny_truthy_bool ⟨H1, I1, q⟩
/-- an expression whose value is a bool, as a test -/
theorem pt_val {e : Expr} {t : TE} (h : PE X e t) (he : ∀ whole, isTrue e X.env whole = (do let v ← whole; standAt e.pos; holding [v] (truthy v)) := by intro _; rfl) : PT X e (tB t) := by
  intro pins s σ H Q I hw
  refine isTrue_plain (thn (h pins s σ H _ I hw) fun v s1 ⟨x, H1, I1, r1, q1⟩ => ?_) (he _)
  obtain ⟨d, rfl, q⟩ := q1
  cases r1
  exact wpAny_truthy_bool ⟨H1, I1, q⟩

/-! ### and, or, not -/
variable {tA tB' : TT} {rest : List Expr}
def tAnd (t u : TT) : TT := fun σ H Q => t σ H fun c H1 => if c = true then u σ H1 Q else Q false H1
def tOr (t u : TT) : TT := fun σ H Q => t σ H fun c H1 => if c = true then Q true H1 else u σ H1 Q
def tNot (t : TT) : TT := fun σ H Q => t σ H fun c H1 => Q (!c) H1
theorem pw_and1 (ha : PT X a tA) : PW X (.BoolOp .And [a] pos) tA := by
  intro wh pins s σ H Q I h
  refine isTrue_and (thn (ha pins s σ H Q I h) fun c s1 e => ?_)
  cases c with
  | true => exact isTrue_and_nil e
  | false => exact e
theorem pw_or1 (ha : PT X a tA) : PW X (.BoolOp .Or [a] pos) tA := by
  intro wh pins s σ H Q I h
  refine isTrue_or (thn (ha pins s σ H Q I h) fun c s1 e => ?_)
  cases c with
  | false => exact isTrue_or_nil e
  | true => exact e
theorem pw_and (ha : PT X a tA) (hb : PW X (.BoolOp .And (b :: rest) pos) tB') : PW X (.BoolOp .And (a :: b :: rest) pos) (tAnd tA tB') := by
  intro wh pins s σ H Q I h
  refine isTrue_and (thn (ha pins s σ H _ I h) fun c s1 ⟨H1, I1, q1⟩ => ?_)
  cases c with
  | true => exact hb wh pins s1 σ H1 Q I1 q1
  | false => exact ⟨H1, I1, q1⟩
theorem pw_or (ha : PT X a tA) (hb : PW X (.BoolOp .Or (b :: rest) pos) tB') : PW X (.BoolOp .Or (a :: b :: rest) pos) (tOr tA tB') := by
  intro wh pins s σ H Q I h
  refine isTrue_or (thn (ha pins s σ H _ I h) fun c s1 ⟨H1, I1, q1⟩ => ?_)
  cases c with
  | true => exact ⟨H1, I1, q1⟩
  | false => exact hb wh pins s1 σ H1 Q I1 q1
theorem pt_not (ha : PT X a tA) : PT X (.UnaryOp .Not a pos) (tNot tA) := by
  intro pins s σ H Q I h
  exact isTrue_not (ha pins s σ H (fun c H1 => Q (!c) H1) I h)
/-- .. as values (bools) -/
def tAndV (ta tb : TE) : TE := fun σ H Q => ta σ H fun x H1 => ∃ c, x = .bl c ∧ if c = true then tb σ H1 Q else Q (.bl false) H1
def tOrV (ta tb : TE) : TE := fun σ H Q => ta σ H fun x H1 => ∃ c, x = .bl c ∧ if c = true then Q (.bl true) H1 else tb σ H1 Q
def tNotV (ta : TE) : TE := fun σ H Q => ta σ H fun x H1 => ∃ c, x = .bl c ∧ Q (.bl (!c)) H1
theorem pe_one {op} {t : TE} (h : PE X a t) : PE X (.BoolOp op [a] pos) t := fun pins s σ H Q I hw => BoolOp_one (h pins s σ H Q I hw)
theorem pe_and (ha : PE X a ta) (hb : PE X (.BoolOp .And (b :: rest) pos) tb) : PE X (.BoolOp .And (a :: b :: rest) pos) (tAndV ta tb) := by
  intro pins s σ H Q I h
  refine BoolOp_and (thn (ha pins s σ H _ I h) fun v s1 ⟨x, H1, I1, r1, q1⟩ => ?_)
  obtain ⟨c, rfl, q1⟩ := q1
  cases r1
  refine wpAny_truthy_bool ?_
  cases c with
  | true => exact hb pins s1 σ H1 Q I1 q1
  | false => exact ⟨.bl false, H1, I1, rfl, q1⟩
theorem pe_or (ha : PE X a ta) (hb : PE X (.BoolOp .Or (b :: rest) pos) tb) : PE X (.BoolOp .Or (a :: b :: rest) pos) (tOrV ta tb) := by
  intro pins s σ H Q I h
  refine BoolOp_or (thn (ha pins s σ H _ I h) fun v s1 ⟨x, H1, I1, r1, q1⟩ => ?_)
  obtain ⟨c, rfl, q1⟩ := q1
  cases r1
  refine wpAny_truthy_bool ?_
  cases c with
  | false => exact hb pins s1 σ H1 Q I1 q1
  | true => exact ⟨.bl true, H1, I1, rfl, q1⟩
theorem pe_not (ha : PE X a ta) : PE X (.UnaryOp .Not a pos) (tNotV ta) := by
  intro pins s σ H Q I h
  refine UnaryOp_ (thn (ha pins s σ H _ I h) fun v s1 ⟨x, H1, I1, r1, q1⟩ => ?_)
  obtain ⟨c, rfl, q1⟩ := q1
  cases r1
  exact not_of (wpAny_truthy_bool ⟨.bl (!c), H1, I1, rfl, q1⟩)
/-- a if t else b -/
def tIf (t : TT) (ta tb : TE) : TE := fun σ H Q => t σ H fun c H1 => if c = true then ta σ H1 Q else tb σ H1 Q
theorem pe_ifExp {c : Expr} (hc : PT X c tA) (ha : PE X a ta) (hb : PE X b tb) : PE X (.IfExp c a b pos) (tIf tA ta tb) := by
  intro pins s σ H Q I h
  refine wpAny_IfExp (thn (hc pins s σ H _ I h) fun d s1 ⟨H1, I1, q1⟩ => ?_)
  cases d with
  | true => exact ha pins s1 σ H1 Q I1 q1
  | false => exact hb pins s1 σ H1 Q I1 q1
end
end L2

namespace L2
open PySem PySem.Spec PyProof.Rows

/-! ### a list, a tuple that is read: tracked, frozen, or an object of the module -/
def SqL (K : PySem.W.Frag) (H : Hp) (a : Addr) (xs : List V) : Prop :=
  Rd H a (.lst xs) ∨
    ∃ (o : Obj) (its : Array Value) (n : Nat), K.lookup a = some o ∧ o.cls = .type "list" ∧ o.dict = none ∧ o.data = .seq its n ∧ its.size ≤ sizeLine ∧ Vals xs its.toList
def SqT (K : PySem.W.Frag) (H : Hp) (a : Addr) (xs : List V) : Prop :=
  Rd H a (.tup xs) ∨
    ∃ (o : Obj) (its : Array Value) (n : Nat), K.lookup a = some o ∧ o.cls = .type "tuple" ∧ o.data = .seq its n ∧ its.size ≤ sizeLine ∧ Vals xs its.toList
def absV : Value → Option V
  | .none => some .non
  | .bool b => some (.bl b)
  | .int i _ => some (.int i)
  | .str x _ => some (.str x)
  | .bytes b _ => some (.byt b)
  | .float b _ => some (.flt b)
  | .ref a => some (.ref a)
  | .type n => some (.ty n)
  | _ => none
theorem RelV.abs {x : V} {u : Value} (r : RelV x u) : absV u = some x := by
  cases x with
  | non => cases r; rfl
  | bl _ => cases r; rfl
  | int _ => obtain ⟨t, rfl⟩ := r; rfl
  | str _ => obtain ⟨t, rfl⟩ := r; rfl
  | byt _ => obtain ⟨t, rfl⟩ := r; rfl
  | flt _ => obtain ⟨t, rfl⟩ := r; rfl
  | ref _ => cases r; rfl
  | ty _ => cases r; rfl
theorem RelV.inj {x y : V} {u : Value} (r : RelV x u) (q : RelV y u) : x = y := Option.some.inj (r.abs.symm.trans q.abs)
theorem Vals.inj : ∀ {xs ys : List V} {us : List Value}, Vals xs us → Vals ys us → xs = ys
  | _, _, _, .nil, .nil => rfl
  | _, _, _, .cons r t, .cons r' t' => by rw [r.inj r', Vals.inj t t']
section
variable {X : Cx} {pins : List (Addr × Obj)} {σ : St} {H : Hp} {s : Shared} {a : Addr} {xs ys : List V}
theorem SqL.of {K : PySem.W.Frag} (h : H a = some (.lst xs)) : SqL K H a xs := .inl (.inl h)
theorem SqT.of {K : PySem.W.Frag} (h : H a = some (.tup xs)) : SqT K H a xs := .inl (.inl h)
theorem Inv.list (I : Inv X pins σ H s) (h : SqL X.K H a xs) : ∃ its : List Value, Vals xs its ∧ PlainL s.heap a its.toArray ∧ xs.length ≤ sizeLine := by
  rcases h with h | ⟨o, its, n, hk, hc, hd, hs, hz, r⟩
  · obtain ⟨z, its, n, r, e⟩ := h.ok I.hok
    exact ⟨its, r, ⟨_, n, e, rfl, rfl, rfl⟩, z⟩
  · refine ⟨its.toList, r, ⟨o, n, I.kIn a o hk, hc, hd, by simpa using hs⟩, ?_⟩
    have e := r.length
    simp only [Array.length_toList] at e
    omega
theorem Inv.tuple (I : Inv X pins σ H s) (h : SqT X.K H a xs) : ∃ its : List Value, Vals xs its ∧ IsTup s.heap a its.toArray ∧ xs.length ≤ sizeLine := by
  rcases h with h | ⟨o, its, n, hk, hc, hs, hz, r⟩
  · obtain ⟨z, its, r, p⟩ := h.ok I.hok
    exact ⟨its, r, p, z⟩
  · refine ⟨its.toList, r, ⟨o, I.kIn a o hk, hc, n, by simpa using hs⟩, ?_⟩
    have e := r.length
    simp only [Array.length_toList] at e
    omega
theorem Inv.list_inj (I : Inv X pins σ H s) (h : SqL X.K H a xs) (h' : SqL X.K H a ys) : xs = ys := by
  obtain ⟨its, r, ⟨o, n, e, _, _, d⟩, _⟩ := I.list h
  obtain ⟨its', r', ⟨o', n', e', _, _, d'⟩, _⟩ := I.list h'
  rw [e] at e'; cases e'
  rw [d] at d'
  injection d' with d1 _
  have : its = its' := by simpa using congrArg Array.toList d1
  subst this
  exact r.inj r'
theorem Inv.tuple_inj (I : Inv X pins σ H s) (h : SqT X.K H a xs) (h' : SqT X.K H a ys) : xs = ys := by
  obtain ⟨its, r, ⟨o, e, _, n, d⟩, _⟩ := I.tuple h
  obtain ⟨its', r', ⟨o', e', _, n', d'⟩, _⟩ := I.tuple h'
  rw [e] at e'; cases e'
  rw [d] at d'
  injection d' with d1 _
  have : its = its' := by simpa using congrArg Array.toList d1
  subst this
  exact r.inj r'
end

/-! ### another wish about exceptions -/
abbrev Cx.wish (X : Cx) (E : Value → Shared → Prop) : Cx := { X with xe := E }
/-- no exception leaves -/
abbrev Cx.nox (X : Cx) : Cx := X.wish fun _ _ => False
theorem Cx.Ok.wish {X : Cx} (ok : X.Ok) (E : Value → Shared → Prop) : (X.wish E).Ok :=
  ⟨ok.mod, ok.kind, ok.glob, ok.blt, ok.above, ok.inj, ok.has, ok.cab, ok.hd, ok.frames, ok.stk, ok.exf, ok.bs, ok.bsz, ok.noex, ok.exfs, ok.funs, ok.frf⟩
theorem Cx.Ok.unwish {X : Cx} {E : Value → Shared → Prop} (ok : (X.wish E).Ok) : X.Ok :=
  ⟨ok.mod, ok.kind, ok.glob, ok.blt, ok.above, ok.inj, ok.has, ok.cab, ok.hd, ok.frames, ok.stk, ok.exf, ok.bs, ok.bsz, ok.noex, ok.exfs, ok.funs, ok.frf⟩
section
variable {X : Cx} {pins : List (Addr × Obj)} {σ : St} {H : Hp} {s : Shared} {E : Value → Shared → Prop}
theorem Inv.wish (I : Inv X pins σ H s) (E : Value → Shared → Prop) : Inv (X.wish E) pins σ H s := ⟨I.ok.wish E, I.os, I.bare, I.base, I.loc, I.cell, I.free, I.freeC, I.pin, I.hok, I.len⟩
theorem Inv.unwish (I : Inv (X.wish E) pins σ H s) : Inv X pins σ H s := ⟨I.ok.unwish, I.os, I.bare, I.base, I.loc, I.cell, I.free, I.freeC, I.pin, I.hok, I.len⟩
theorem SP.unwish {D : Ends} {f : Flow} {s' : Shared} (h : SP (X.wish E) pins D f s') : SP X pins D f s' := by
  cases f with
  | next => obtain ⟨σ', H', I, q⟩ := h; exact ⟨σ', H', I.unwish, q⟩
  | brk => obtain ⟨σ', H', I, q⟩ := h; exact ⟨σ', H', I.unwish, q⟩
  | cont => obtain ⟨σ', H', I, q⟩ := h; exact ⟨σ', H', I.unwish, q⟩
  | ret u => obtain ⟨v, σ', H', I, r, q⟩ := h; exact ⟨v, σ', H', I.unwish, r, q⟩
theorem PE.nox {e : Expr} {t : TE} (h : PE X.nox e t) : PE X e t := fun pins s σ H Q I hw =>
  wpAny_mono (h pins s σ H Q (I.wish _) hw) (fun _ _ ⟨v, H', I', r, q⟩ => ⟨v, H', I'.unwish, r, q⟩) fun _ _ z => False.elim z
theorem PT.nox {e : Expr} {t : TT} (h : PT X.nox e t) : PT X e t := fun pins s σ H Q I hw =>
  wpAny_mono (h pins s σ H Q (I.wish _) hw) (fun _ _ ⟨H', I', q⟩ => ⟨H', I'.unwish, q⟩) fun _ _ z => False.elim z
theorem PSs.nox {st : List Stmt} {t : TS} (h : PSs X.nox st t) : PSs X st t := fun pins s σ H D I hw =>
  wpAny_mono (h pins s σ H D (I.wish _) hw) (fun _ _ q => q.unwish) fun _ _ z => False.elim z
end

/-! ### blocks and small statements -/
section
variable {X : Cx} {st : Stmt} {rest : List Stmt} {t u : TS} {e : Expr} {te : TE} {pos : Pos}
def tNext : TS := fun D σ H => D.nx σ H
def tSeq (t u : TS) : TS := fun D σ H => t { D with nx := u D } σ H
theorem pss_nil : PSs X [] tNext := fun _ _ σ H _ I h => wpAny_execs_nil ⟨σ, H, I, h⟩
theorem pss_cons (h1 : PS X st t) (h2 : PSs X rest u) : PSs X (st :: rest) (tSeq t u) := by
  intro pins s σ H D I h
  refine wpAny_execs_cons (thn (h1 pins s σ H { D with nx := u D } I h) fun f s1 q => ?_)
  cases f with
  | next =>
    obtain ⟨σ', H', I', q⟩ := q
    exact h2 pins s1 σ' H' D I' q
  | ret v => exact q
  | brk => exact q
  | cont => exact q
theorem pss_one (h1 : PS X st t) : PSs X [st] t := by
  intro pins s σ H D I h
  refine wpAny_execs_cons (thn (h1 pins s σ H D I h) fun f s1 q => ?_)
  cases f with
  | next => exact wpAny_execs_nil q
  | ret v => exact q
  | brk => exact q
  | cont => exact q
def tBreak : TS := fun D σ H => D.bk σ H
def tCont : TS := fun D σ H => D.ct σ H
theorem ps_pass : PS X (.Pass pos) tNext := fun _ _ σ H _ I h => wpAny_Pass ⟨σ, H, I, h⟩
theorem ps_break : PS X (.Break pos) tBreak := fun _ _ σ H _ I h => wpAny_Break ⟨σ, H, I, h⟩
theorem ps_continue : PS X (.Continue pos) tCont := fun _ _ σ H _ I h => wpAny_Continue ⟨σ, H, I, h⟩
/-- in a def's body nothing is shown -/
theorem Inv.quiet {pins : List (Addr × Obj)} {σ : St} {H : Hp} {s : Shared} (I : Inv X pins σ H s) : interactive X.env = false := by simp [interactive, I.ok.kind]
/-- a docstring -/
theorem ps_doc {x j pos pos'} : PS X (.Expr (.Constant (.str x) j pos) pos') tNext := fun _ s σ H _ I h => wpAny_Expr (Calls.Constant_str (show SP X _ _ .next { s with toks := s.toks + 1 } from ⟨σ, H, I.tok _, h⟩)) I.quiet
/-- an expression whose value is dropped -/
def tDrop (te : TE) : TS := fun D σ H => te σ H fun _ H1 => D.nx σ H1
theorem ps_expr (he : PE X e te) (hs : swapsWith e none pos.line X.env = pure false := by rfl) : PS X (.Expr e pos) (tDrop te) := by
  intro pins s σ H D I h
  exact wpAny_Expr_any (thn (he pins s σ H _ I h) fun v s1 ⟨x, H1, I1, r1, q1⟩ => ⟨σ, H1, I1, q1⟩) I.quiet hs
def tRet (te : TE) : TS := fun D σ H => te σ H D.rt
theorem ps_ret (he : PE X e te) : PS X (.Return (some e) pos) (tRet te) := by
  intro pins s σ H D I h
  exact wpAny_Return_some (thn (he pins s σ H _ I h) fun v s1 ⟨x, H1, I1, r1, q1⟩ => ⟨x, σ, H1, I1, r1, q1⟩)
def tRetN : TS := fun D _ H => D.rt .non H
theorem ps_retN : PS X (.Return none pos) tRetN := fun _ _ σ H _ I h => wpAny_Return_none ⟨.non, σ, H, I, rfl, h⟩
def tIfS (c : TT) (t u : TS) : TS := fun D σ H => c σ H fun b H1 => if b = true then t D σ H1 else u D σ H1
theorem ps_if {c : Expr} {a b : List Stmt} {tc : TT} (hc : PT X c tc) (ha : PSs X a t) (hb : PSs X b u) : PS X (.If c a b pos) (tIfS tc t u) := by
  intro pins s σ H D I h
  refine wpAny_If (thn (hc pins s σ H _ I h) fun d s1 ⟨H1, I1, q1⟩ => ?_)
  cases d with
  | true => exact ha pins s1 σ H1 D I1 q1
  | false => exact hb pins s1 σ H1 D I1 q1
/-- code that the proof never comes to -/
def tNever : TS := fun _ _ _ => False
theorem ps_never : PS X st tNever := fun _ _ _ _ _ _ h => h.elim
theorem pss_never {sts : List Stmt} : PSs X sts tNever := fun _ _ _ _ _ _ h => h.elim
end

/-! ### targets -/
abbrev TG := V → St → Hp → (St → Hp → Prop) → Prop
abbrev TGs := List V → St → Hp → (St → Hp → Prop) → Prop
def PG (X : Cx) (target : Expr) (t : TG) : Prop :=
  ∀ (pins : List (Addr × Obj)) (s : Shared) (σ : St) (H : Hp) (v : V) (u : Value) (Q : St → Hp → Prop), Inv X pins σ H s → RelV v u → t v σ H Q →
    wpAny (model X.prog X.w) X.A (assign target X.env u) (fun _ s' => ∃ σ' H', Inv X pins σ' H' s' ∧ Q σ' H') X.xe s
/-- several targets, one after another -/
def PGs (X : Cx) (ts : List Expr) (t : TGs) : Prop :=
  ∀ (pins : List (Addr × Obj)) (s : Shared) (σ : St) (H : Hp) (vs : List V) (us : List Value) (Q : St → Hp → Prop), Inv X pins σ H s → Vals vs us → t vs σ H Q →
    wpAny (model X.prog X.w) X.A (assignInOrder ((assignEach ts X.env).map (·.2)) us) (fun _ s' => ∃ σ' H', Inv X pins σ' H' s' ∧ Q σ' H') X.xe s
/-- o[i] = v, by values -/
abbrev TSet := V → V → V → Hp → (Hp → Prop) → Prop
def PSet (X : Cx) (t : TSet) : Prop :=
  ∀ (pins : List (Addr × Obj)) (s : Shared) (σ : St) (H : Hp) (o i v : V) (ov iv u : Value) (Q : Hp → Prop), Inv X pins σ H s → RelV o ov → RelV i iv → RelV v u → t o i v H Q →
    wpAny (model X.prog X.w) X.A (setItem ov iv u) (fun _ s' => ∃ H', Inv X pins σ H' s' ∧ Q H') X.xe s
/-- a op= b, by values -/
abbrev TIp := V → V → Hp → VK → Prop
def PIp (X : Cx) (op : Operator) (t : TIp) : Prop :=
  ∀ (pins : List (Addr × Obj)) (s : Shared) (σ : St) (H : Hp) (x y : V) (v u : Value) (Q : VK), Inv X pins σ H s → RelV x v → RelV y u → t x y H Q →
    wpAny (model X.prog X.w) X.A (inplaceOp op v u) (EP X pins σ Q) X.xe s
section
variable {X : Cx} {pos : Pos}
def gName (i : Nat) : TG := fun v σ H Q => Q (σ.set i (some v)) H
theorem pg_name {i : Nat} {x : Str} (hN : X.N.Nodup) (hi : X.N[i]? = some x) (hx : Loc X.env.scope x) (hf : X.fn x = true ∨ X.env.scope.names.lookup x = some .local := by first | exact .inl rfl | exact .inr rfl | assumption) : PG X (.Name x pos) (gName i) := by
  intro pins s σ H v u Q I r h
  exact wpAny_assign_Name (store_ok I hN hi hx r (fun s' I' => ⟨_, H, I', h⟩) hf)
def gNil : TGs := fun vs σ H Q => vs = [] ∧ Q σ H
def gCons (t : TG) (u : TGs) : TGs := fun vs σ H Q => ∃ v r, vs = v :: r ∧ t v σ H fun σ' H' => u r σ' H' Q
theorem pgs_nil : PGs X [] gNil := by
  intro pins s σ H vs us Q I r h
  obtain ⟨e, h⟩ := h
  subst e
  cases r
  exact assignInOrder_nil ⟨σ, H, I, h⟩
theorem pgs_cons {e : Expr} {es : List Expr} {t : TG} {u : TGs} (h1 : PG X e t) (h2 : PGs X es u)
    (hs : (assignEach (e :: es) X.env).map (·.2) = assign e X.env :: (assignEach es X.env).map (·.2) := by rfl) : PGs X (e :: es) (gCons t u) := by
  intro pins s σ H vs us Q I r h
  obtain ⟨v, vr, e1, h⟩ := h
  subst e1
  cases r with
  | cons r rr =>
    rw [hs]
    refine assignInOrder_cons (thn (h1 pins s σ H _ _ _ I r h) fun _ s1 ⟨σ1, H1, I1, q1⟩ => ?_)
    exact h2 pins s1 σ1 H1 _ _ Q I1 rr q1
/-- (a, b, ..) = a tuple of that length -/
def gTup (K : PySem.W.Frag) (n : Nat) (t : TGs) : TG := fun v σ H Q => ∃ a xs, v = .ref a ∧ SqT K H a xs ∧ xs.length = n ∧ t xs σ H Q
theorem pg_tup {es : List Expr} {k : Nat} {t : TGs} {n : Nat} (hc : X.calm = true) (h : PGs X es t)
    (hn : (assignEach es X.env).length = n := by rfl) (hst : (assignEach es X.env).findIdx? (·.1) = none := by rfl) : PG X (.Tuple es k pos) (gTup X.K n t) := by
  intro pins s σ H v u Q I r hw
  obtain ⟨a, xs, e1, hq, hl, hw⟩ := hw
  subst e1
  cases r
  obtain ⟨its, rv, ht, hz⟩ := I.tuple hq
  refine assign_Tuple_tuple (I.ok.hd hc) ht (by simp [hn, ← hl, rv.length]) hst fun h' hx => ?_
  have I1 : Inv X pins σ H { s with heap := h' } := I.kept (t' := s.toks) fun b o e => hx b o (Nat.ne_of_lt (Heap.lt_size e)) e
  exact h pins _ σ H xs _ Q I1 (by simpa using rv) hw
/-- o[i] = .. -/
def gSub (to ti : TE) (t : TSet) : TG := fun v σ H Q => to σ H fun o H1 => ti σ H1 fun i H2 => t o i v H2 fun H3 => Q σ H3
theorem pg_sub {o i : Expr} {to ti : TE} {t : TSet} (ho : PE X o to) (hi : PE X i ti) (hs : PSet X t)
    (ha : ∀ v, assign (.Subscript o i pos) X.env v = (do
      let ov ← holding [v] (eval o X.env)
      let iv ← holding [v, ov] (eval i X.env)
      standAt pos
      holding [v, ov, iv] (setItem ov iv v)
      release [v, ov, iv] []) := by intro _; rfl) : PG X (.Subscript o i pos) (gSub to ti t) := by
  intro pins s σ H v u Q I r h
  rw [ha]
  refine wpAny_bind (wpAny_holding (thn (ho pins s σ H _ I h) fun ov s1 ⟨x, H1, I1, r1, q1⟩ => ?_))
  refine wpAny_bind (wpAny_holding (thn (hi pins s1 σ H1 _ I1 q1) fun iv s2 ⟨y, H2, I2, r2, q2⟩ => ?_))
  refine wpAny_bind (wpAny_standAt (wpAny_bind (wpAny_holding (thn (hs pins s2 σ H2 x y v ov iv u _ I2 r1 r2 r q2) fun _ s3 ⟨H3, I3, q3⟩ => ?_))))
  exact wpAny_release ⟨σ, H3, I3, q3⟩
/-- target = value -/
def tAsg (te : TE) (g : TG) : TS := fun D σ H => te σ H fun x H1 => g x σ H1 D.nx
theorem ps_asg {tg e : Expr} {te : TE} {g : TG} (he : PE X e te) (hg : PG X tg g) (hs : swapsWithSole [tg] e pos.line X.env = pure false := by rfl) (hw : swappedStores [tg] e X.env = pure none := by rfl)
    (h1 : (assignEach [tg] X.env).map (·.2) = [assign tg X.env] := by rfl) : PS X (.Assign [tg] e pos) (tAsg te g) := by
  intro pins s σ H D I h
  refine wpAny_Assign_stores (thn (he pins s σ H _ I h) fun v s1 ⟨x, H1, I1, r1, q1⟩ => ?_) hs hw
  rw [h1]
  exact thn (hg pins s1 σ H1 x v _ I1 r1 q1) fun _ s2 q => q
/-- name = value -/
theorem ps_set {i : Nat} {x : Str} {e : Expr} {te : TE} {pos' : Pos} (hN : X.N.Nodup) (hi : X.N[i]? = some x) (hx : Loc X.env.scope x) (he : PE X e te) (hs : swapsWith e (some (.Name x pos')) pos.line X.env = pure false := by rfl) (hf : X.fn x = true ∨ X.env.scope.names.lookup x = some .local := by first | exact .inl rfl | exact .inr rfl | assumption) :
    PS X (.Assign [.Name x pos'] e pos) (tAsg te (gName i)) := by
  intro pins s σ H D I h
  refine wpAny_Assign_Name (thn (he pins s σ H _ I h) fun v s1 ⟨y, H1, I1, r1, q1⟩ => ?_) hs
  exact store_ok I1 hN hi hx r1 (fun s2 I2 => ⟨_, H1, I2, q1⟩) hf
/-- a, b = x, y with plain local names: stored from the right; the pair itself is not tracked (the opening rows as in PyProof/Rows/TupAssign.lean:23) -/
def tPar (i j : Nat) (ta : TA) : TS := fun D σ H => ta σ H fun vs H1 => ∃ v w, vs = [v, w] ∧ D.nx ((σ.set i (some v)).set j (some w)) H1
theorem ps_par {i j : Nat} {x y : Str} {a b : Expr} {ta : TA} {px py pt : Pos} {kt k2 pt2} (hc : X.calm = true) (hN : X.N.Nodup) (hi : X.N[i]? = some x) (hj : X.N[j]? = some y) (hij : i ≠ j)
    (hx : X.env.scope.names.lookup x = some .local) (hy : X.env.scope.names.lookup y = some .local) (ha : PA X [a, b] ta)
    (hw : swappedStores [.Tuple [.Name x px, .Name y py] kt pt] (.Tuple [a, b] k2 pt2) X.env = pure (some [x, y]))
    (hs : swapsWithSole [.Tuple [.Name x px, .Name y py] kt pt] (.Tuple [a, b] k2 pt2) pos.line X.env = pure false := by rfl) :
    PS X (.Assign [.Tuple [.Name x px, .Name y py] kt pt] (.Tuple [a, b] k2 pt2) pos) (tPar i j ta) := by
  intro pins s σ H D I h
  rw [exec_Assign_arm]
  refine wpAny_bind (wpAny_standAt ?_)
  rw [hs]
  refine wpAny_bind (wpAny_pure ?_)
  rw [if_neg (by decide)]
  refine wpAny_bind (Tuple_ (thn (ha _ pins s σ H _ I h) fun us s1 ⟨vs, H1, I1, r1, q1⟩ => ?_))
  obtain ⟨v, w, e1, q1⟩ := q1
  subst e1
  obtain ⟨u1, u2, rfl, rv, rw'⟩ : ∃ u1 u2, us = [u1, u2] ∧ RelV v u1 ∧ RelV w u2 := by
    cases r1 with
    | cons p q =>
      cases q with
      | cons p' q' =>
        cases q'
        exact ⟨_, _, rfl, p, p'⟩
  refine wpAny_newObj_type ?_ (by show 2 ≤ sizeLine; decide)
  have I2 : Inv X pins σ H1 { s1 with heap := s1.heap.push { cls := .type "tuple", data := .seq [u1, u2].toArray } } := I1.kept (t' := s1.toks) fun b o e => Heap.get?_push_of_some _ e
  rw [hw]
  refine wpAny_bind (wpAny_pure ?_)
  show wpAny (model X.prog X.w) X.A (do rule "assign.swapped-stores"; let items ← unpackItems (.ref s1.heap.objs.size) 2 none; assignInOrder [fun v => bindName X.env y v, fun v => bindName X.env x v] items.reverse; pure Flow.next) _ _ _
  refine wpAny_bind (wpAny_rule (wpAny_bind (unpackItems_tuple (items := #[u1, u2]) (I.ok.hd hc) (IsTup.new s1.heap _) fun h' hx' => ?_)))
  have I3 := I2.kept (h' := h') (t' := s1.toks) fun b o e => hx' b o (Nat.ne_of_lt (Heap.lt_size e)) e
  show wpAny _ _ (assignInOrder [fun v => bindName X.env y v, fun v => bindName X.env x v] [u2, u1] >>= fun _ => pure Flow.next) _ _ _
  refine wpAny_bind (assignInOrder_cons (wpAny_bindName (store_ok I3 hN hj (.inl hy) rw' (fun s2 I4 => ?_) (.inr hy))))
  refine assignInOrder_cons (wpAny_bindName (store_ok I4 hN hi (.inl hx) rv (fun s3 I5 => assignInOrder_nil (wpAny_pure ?_)) (.inr hx)))
  rw [List.set_comm _ _ (Ne.symm hij)] at I5
  exact ⟨_, H1, I5, q1⟩
/-- name op= e -/
def tAug (i : Nat) (te : TE) (ti : TIp) : TS := fun D σ H => ∃ x, σ[i]? = some (some x) ∧ te σ H fun y H1 => ti x y H1 fun z H2 => D.nx (σ.set i (some z)) H2
theorem ps_aug {i : Nat} {x : Str} {e : Expr} {te : TE} {op : Operator} {ti : TIp} {pos' : Pos} (hN : X.N.Nodup) (hi : X.N[i]? = some x) (hx : Loc X.env.scope x) (he : PE X e te) (ho : PIp X op ti) (hf : X.fn x = true ∨ X.env.scope.names.lookup x = some .local := by first | exact .inl rfl | exact .inr rfl | assumption) :
    PS X (.AugAssign (.Name x pos') op e pos) (tAug i te ti) := by
  intro pins s σ H D I h
  obtain ⟨v, e1, h⟩ := h
  obtain ⟨m, hn, hl⟩ := I.loc
  have vis : Vis X.env.scope x := by rcases hx with k | k; exact .inl k; exact .inr (.inl k)
  obtain ⟨u, r, l⟩ := hl i x v hi e1 vis
  refine wpAny_AugAssign_Name ?_
  have go : wpAny (model X.prog X.w) X.A (eval e X.env) (fun w s₂ => wpAny (model X.prog X.w) X.A (inplaceOp op u w) (fun r s₃ => wpAny (model X.prog X.w) X.A (storeName X.env x r) (fun _ => SP X pins D .next) X.xe s₃) X.xe s₂) X.xe s := by
    refine thn (he pins s σ H _ I h) fun w s1 ⟨y, H1, I1, r1, q1⟩ => ?_
    refine thn (ho pins s1 σ H1 v y u w _ I1 r r1 q1) fun z s2 ⟨zv, H2, I2, r2, q2⟩ => ?_
    exact store_ok I2 hN hi hx r2 (fun s3 I3 => ⟨_, H2, I3, q2⟩) hf
  rcases l with ⟨hk, hm⟩ | ⟨hk, c, hc, hcell⟩
  · exact wpAny_loadName_local I.ok.kind hk hn hm go
  · rcases hk with hk | hk
    · exact wpAny_loadName_cell I.ok.kind hk hc hcell go
    · rcases hx with k | k
      · have : X.env.scope.names.lookup x = some .free := hk
        rw [k] at this; cases this
      · have : X.env.scope.names.lookup x = some .free := hk
        rw [k] at this; cases this
/-- o[i] op= e -/
def tAugS (to ti te : TE) (tget : V → V → Hp → VK → Prop) (tip : TIp) (tset : TSet) : TS := fun D σ H => to σ H fun o H1 => ti σ H1 fun i H2 => tget o i H2 fun x H3 => te σ H3 fun y H4 => tip x y H4 fun z H5 => tset o i z H5 fun H6 => D.nx σ H6
/-- o[i], by values -/
def PGet (X : Cx) (t : V → V → Hp → VK → Prop) : Prop :=
  ∀ (pins : List (Addr × Obj)) (s : Shared) (σ : St) (H : Hp) (o i : V) (ov iv : Value) (Q : VK), Inv X pins σ H s → RelV o ov → RelV i iv → t o i H Q →
    wpAny (model X.prog X.w) X.A (getItem ov iv) (EP X pins σ Q) X.xe s
theorem ps_augS {o i e : Expr} {to ti te : TE} {tget : V → V → Hp → VK → Prop} {tip : TIp} {tset : TSet} {op : Operator} {tpos : Pos} (ho : PE X o to) (hi : PE X i ti) (hg : PGet X tget) (he : PE X e te) (hp : PIp X op tip) (hs : PSet X tset)
    (ha : ∀ ov iv new, augStore i ov iv new = (do holding [new, ov, iv] (setItem ov iv new); release [new, ov, iv] []; pure .next) := by intros; rfl) : PS X (.AugAssign (.Subscript o i tpos) op e pos) (tAugS to ti te tget tip tset) := by
  intro pins s σ H D I h
  refine wpAny_AugAssign_SubscriptAny (thn (ho pins s σ H _ I h) fun ov s1 ⟨x1, H1, I1, r1, q1⟩ => ?_) ha
  refine thn (hi pins s1 σ H1 _ I1 q1) fun iv s2 ⟨x2, H2, I2, r2, q2⟩ => ?_
  refine thn (hg pins s2 σ H2 x1 x2 ov iv _ I2 r1 r2 q2) fun old s3 ⟨x3, H3, I3, r3, q3⟩ => ?_
  refine thn (he pins s3 σ H3 _ I3 q3) fun v s4 ⟨x4, H4, I4, r4, q4⟩ => ?_
  refine thn (hp pins s4 σ H4 x3 x4 old v _ I4 r3 r4 q4) fun new s5 ⟨x5, H5, I5, r5, q5⟩ => ?_
  exact thn (hs pins s5 σ H5 x1 x2 x5 ov iv new _ I5 r1 r2 r5 q5) fun _ s6 ⟨H6, I6, q6⟩ => ⟨σ, H6, I6, q6⟩
/-- ints -/
def ipI (f : Int → Int → Int) : TIp := fun x y H Q => ∃ i j, x = .int i ∧ y = .int j ∧ Q (.int (f i j)) H
theorem ip_add : PIp X .Add (ipI fun i j => i + j) := by
  intro pins s σ H x y v u Q I r1 r2 h
  obtain ⟨i, j, e1, e2, q⟩ := h
  subst e1; subst e2
  obtain ⟨t, rfl⟩ := r1
  obtain ⟨t', rfl⟩ := r2
  exact iadd_int ⟨.int _, H, I.tok _, ⟨_, rfl⟩, q⟩
theorem ip_sub : PIp X .Sub (ipI fun i j => i - j) := by
  intro pins s σ H x y v u Q I r1 r2 h
  obtain ⟨i, j, e1, e2, q⟩ := h
  subst e1; subst e2
  obtain ⟨t, rfl⟩ := r1
  obtain ⟨t', rfl⟩ := r2
  exact isub_int ⟨.int _, H, I.tok _, ⟨_, rfl⟩, q⟩
end

/-! ### while -/
section
variable {X : Cx} {pos : Pos}
/-- the invariant W with its measure -/
def tWhile (c : TT) (tb : TS) : TS := fun D σ H => ∃ W : Nat → St → Hp → Prop, (∃ m, W m σ H) ∧ ∀ m σ H, W m σ H →
  c σ H fun b H1 => if b = true then ∃ N : St → Hp → Prop, (∀ σ' H', N σ' H' → ∃ m', m' < m ∧ W m' σ' H') ∧ tb { D with nx := N, ct := N, bk := D.nx } σ H1 else D.nx σ H1
theorem ps_while {c : Expr} {body : List Stmt} {tc : TT} {tb : TS} (hp : PassesOwn (model X.prog X.w) X.A X.env X.xe) (hc : PT X c tc) (hb : PSs X body tb) : PS X (.While c body [] pos) (tWhile tc tb) := by
  intro pins s σ H D I h
  obtain ⟨W, ⟨m0, w0⟩, turn⟩ := h
  refine wpAny_While (codeAny_whileLoop (fun n s' => ∃ σ' H', Inv X pins σ' H' s' ∧ W n σ' H') ?_ m0 ⟨σ, H, I, w0⟩)
  rintro n s1 ⟨σ1, H1, I1, w1⟩
  refine wpAny_passesOwn hp (thn (hc pins s1 σ1 H1 _ I1 (turn n σ1 H1 w1)) fun b s2 ⟨H2, I2, q2⟩ => ?_)
  cases b with
  | true =>
    obtain ⟨N, hN, q2⟩ := q2
    rw [if_pos rfl]
    refine wpAny_passesOwn hp (thn (hb pins s2 σ1 H2 _ I2 q2) fun f s3 q3 => ?_)
    cases f with
    | next =>
      obtain ⟨σ3, H3, I3, n3⟩ := q3
      obtain ⟨m', hm, w3⟩ := hN σ3 H3 n3
      exact ⟨m', hm, σ3, H3, I3, w3⟩
    | cont =>
      obtain ⟨σ3, H3, I3, n3⟩ := q3
      obtain ⟨m', hm, w3⟩ := hN σ3 H3 n3
      exact ⟨m', hm, σ3, H3, I3, w3⟩
    | brk => exact q3
    | ret v => exact q3
  | false =>
    rw [if_neg Bool.false_ne_true]
    exact wpAny_execs_nil ⟨σ1, H2, I2, q2⟩
end

/-! ### what a loop or a comprehension walks -/
/-- at turn i: it yields x (the heap may grow), or it stops -/
structure It where
  go : Nat → Hp → Prop
  yld : Nat → Hp → V → Hp → Prop
  stop : Nat → Hp → Prop
/-- the iterator's own objects may turn: they are not the frame's, not pinned, younger than the entry (or a comprehension's own) -/
def FpOk (X : Cx) (pins : List (Addr × Obj)) (H : Hp) (b : Addr) : Prop :=
  H b = none ∧ b ≠ X.env.locals ∧ b ∉ X.fs ∧ (b ∈ X.ex ∨ X.s₀.heap.objs.size ≤ b) ∧ (∀ x c, X.env.cells.lookup x = some c → c ≠ b) ∧ ∀ p ∈ X.pn ++ pins, p.1 ≠ b
theorem Inv.fpOk {X : Cx} {pins : List (Addr × Obj)} {σ : St} {H H' : Hp} {s : Shared} {b : Addr} (I : Inv X pins σ H s) (hb : s.heap.objs.size ≤ b) (hn : H' b = none) : FpOk X pins H' b := by
  refine ⟨hn, Nat.ne_of_gt (Nat.lt_of_lt_of_le I.lt hb), I.nofs hb, .inr (Nat.le_trans I.sz hb), fun x c e z => ?_, fun p hp z => ?_⟩
  · obtain ⟨v, q⟩ := I.cell x c e
    exact absurd (Nat.lt_of_lt_of_le q.lt (by rw [z]; exact hb)) (Nat.lt_irrefl _)
  · exact absurd (Nat.lt_of_lt_of_le (Heap.lt_size (I.pin p hp).1) (by rw [z]; exact hb)) (Nat.lt_irrefl _)
structure Turn (P : Program) (w : World) (K : PySem.W.Frag) (tg : Expr) (J : It) (fp : List Addr) (it : Addr) (tn : Nat → Heap → Prop) : Prop where
  mem : it ∈ fp
  obj : ∀ i h, tn i h → ∀ b ∈ fp, ∃ o, h.get? b = some o ∧ ∀ v, o.data ≠ .cell v
  keep : ∀ i h h', tn i h → (∀ b ∈ fp, ∀ o, h.get? b = some o → h'.get? b = some o) → tn i h'
  item : ∀ (X : Cx), X.prog = P → X.w = w → X.K = K → X.calm = true → ∀ (i : Nat) (pins : List (Addr × Obj)) (s : Shared) (σ : St) (H : Hp) (E : Value → Shared → Prop), Inv X pins σ H s → (∀ b ∈ fp, FpOk X pins H b) → tn i s.heap → J.go i H →
    wpAny (model P w) X.A (pyNext (.ref it)) (fun r s1 => ∃ u, r = some u ∧
      wpAny (model P w) X.A (letOwnedTupleGo tg (.ref it) u) (fun _ s2 => ∃ x H', Inv X pins σ H' s2 ∧ RelV x u ∧ J.yld i H x H' ∧ tn (i + 1) s2.heap ∧ ∀ b ∈ fp, H' b = none) E s1) E s
  done : ∀ (X : Cx), X.prog = P → X.w = w → X.K = K → X.calm = true → ∀ (i : Nat) (pins : List (Addr × Obj)) (s : Shared) (σ : St) (H : Hp) (E : Value → Shared → Prop), Inv X pins σ H s → (∀ b ∈ fp, FpOk X pins H b) → tn i s.heap → J.stop i H →
    wpAny (model P w) X.A (pyNext (.ref it)) (fun r s1 => r = none ∧ Inv X pins σ H s1) E s
  self : ∀ (A : Around) (i : Nat) (s : Shared) (Q : Value → Shared → Prop) (E : Value → Shared → Prop), tn i s.heap → Q (.ref it) s → wpAny (model P w) A (pyIter (.ref it)) Q E s
abbrev TI := St → Hp → (It → Hp → Prop) → Prop
/-- an iterator has come -/
def PIE (X : Cx) (pins : List (Addr × Obj)) (σ : St) (tg : Expr) (R : It → Hp → Prop) (itv : Value) (s2 : Shared) : Prop :=
  ∃ (it : Addr) (fp : List Addr) (tn : Nat → Heap → Prop) (J : It) (H' : Hp), itv = .ref it ∧ Inv X pins σ H' s2 ∧ Turn X.prog X.w X.K tg J fp it tn ∧ tn 0 s2.heap ∧ (∀ b ∈ fp, FpOk X pins H' b) ∧ R J H'
def PI (X : Cx) (tg iter : Expr) (wi : TI) : Prop :=
  ∀ (pins : List (Addr × Obj)) (s : Shared) (σ : St) (H : Hp) (R : It → Hp → Prop), Inv X pins σ H s → wi σ H R →
    wpAny (model X.prog X.w) X.A (eval iter X.env) (fun v s1 => wpAny (model X.prog X.w) X.A (pyIter v) (PIE X pins σ tg R) X.xe s1) X.xe s

/-- the step ahead of the store is nothing for an iterator that keeps no tuple -/
theorem go_of {M : Model} {A : Around} {E : Value → Shared → Prop} {s : Shared} {tg : Expr} {it : Addr} {u : Value} {o : Obj} {n : String} {vs : Array Value} {Q : Unit → Shared → Prop} (ho : s.heap.get? it = some o) (hc : o.cls = .type n) (hd : o.data = .fields vs)
    (hn : ["enumerate", "zip", "dict_itemiterator", "dict_reverseitemiterator", "odict_iterator", "itertools.zip_longest", "itertools.pairwise"].contains n = false) (hQ : Q () s) : wpAny M A (letOwnedTupleGo tg (.ref it) u) Q E s := by
  unfold letOwnedTupleGo
  cases tg <;> first
    | exact wpAny_pure hQ
    | (cases u <;> first
        | exact wpAny_pure hQ
        | (refine wpAny_bind (wpAny_load ho ?_)
           rw [hc, hd]
           show wpAny M A (if (["enumerate", "zip", "dict_itemiterator", "dict_reverseitemiterator", "odict_iterator", "itertools.zip_longest", "itertools.pairwise"].contains n && vs[0]? == some (rawInt _)) = true then _ else _) Q E s
           rw [if_neg (by intro h; rw [hn, Bool.false_and] at h; cases h)]
           exact wpAny_pure hQ))

/-- the list at a, as it stands at each turn (a loop may append to it) -/
def Itl (K : PySem.W.Frag) (a : Addr) : It :=
  ⟨fun i H => ∃ xs x, SqL K H a xs ∧ xs[i]? = some x, fun i H x H' => H' = H ∧ ∀ xs, SqL K H a xs → xs[i]? = some x, fun i H => ∃ xs, SqL K H a xs ∧ xs.length ≤ i⟩
def Itt (K : PySem.W.Frag) (a : Addr) : It :=
  ⟨fun i H => ∃ xs x, SqT K H a xs ∧ xs[i]? = some x, fun i H x H' => H' = H ∧ ∀ xs, SqT K H a xs → xs[i]? = some x, fun i H => ∃ xs, SqT K H a xs ∧ xs.length ≤ i⟩
/-- lo, lo + 1, .. (n of them) -/
def Itr (lo : Int) (n : Nat) : It := ⟨fun i _ => i < n, fun i H x H' => H' = H ∧ x = .int (lo + i), fun i _ => n ≤ i⟩
theorem turn_list {P : Program} {w : World} {K : PySem.W.Frag} {tg : Expr} (a it : Addr) : Turn P w K tg (Itl K a) [it] it (fun i h => h.IsListIter it a i) where
  mem := by simp
  obj := fun i h st b hb => by
    have e : b = it := by simpa using hb
    subst e
    obtain ⟨o, e, c, d⟩ := st
    exact ⟨o, e, fun v z => by rw [d] at z; cases z⟩
  keep := fun i h h' st k => st.at fun o e => k it (by simp) o e
  item := by
    intro X hP hw hK hc i pins s σ H E I hf st hg
    subst hP hw hK
    obtain ⟨xs, x, hq, hx⟩ := hg
    obtain ⟨its, rv, p, hz⟩ := I.list hq
    obtain ⟨u, hu, ru⟩ := rv.get hx
    obtain ⟨f0, f1, f2, f3, f4, f5⟩ := hf it (by simp)
    refine wpAny_pyNext_list_item st p.isList (x := u) (by simpa using hu) fun h' st' sb => ?_
    have I1 : Inv X pins σ H { s with heap := h' } := I.turned (t' := s.toks) (fun b o hb e => (sb.2 b hb).trans e) f0 f1 f3 f4 f5
    obtain ⟨o, e, c, d⟩ := id st'
    exact ⟨u, rfl, go_of (s := { s with heap := h' }) e c d (by decide) ⟨x, H, I1, ru, ⟨rfl, fun ys hy => by rw [I.list_inj hy hq]; exact hx⟩, st', fun b hb => (hf b hb).1⟩⟩
  done := by
    intro X hP hw hK hc i pins s σ H E I hf st hg
    subst hP hw hK
    obtain ⟨xs, hq, hx⟩ := hg
    obtain ⟨its, rv, p, hz⟩ := I.list hq
    obtain ⟨f0, f1, f2, f3, f4, f5⟩ := hf it (by simp)
    have hl := rv.length
    exact wpAny_pyNext_list_end (I.ok.hd hc) st p.isList (by simp; omega) fun h' eb => ⟨rfl, I.turned (t' := s.toks) (fun b o hb e => eb b o hb e) f0 f1 f3 f4 f5⟩
  self := fun _ _ _ _ _ st h => wpAny_pyIter_listiter st h
theorem turn_tuple {P : Program} {w : World} {K : PySem.W.Frag} {tg : Expr} (a it : Addr) : Turn P w K tg (Itt K a) [it] it (fun i h => h.IsTupleIter it a i) where
  mem := by simp
  obj := fun i h st b hb => by
    have e : b = it := by simpa using hb
    subst e
    obtain ⟨o, e, c, d⟩ := st
    exact ⟨o, e, fun v z => by rw [d] at z; cases z⟩
  keep := fun i h h' st k => st.at fun o e => k it (by simp) o e
  item := by
    intro X hP hw hK hc i pins s σ H E I hf st hg
    subst hP hw hK
    obtain ⟨xs, x, hq, hx⟩ := hg
    obtain ⟨its, rv, p, hz⟩ := I.tuple hq
    obtain ⟨u, hu, ru⟩ := rv.get hx
    obtain ⟨f0, f1, f2, f3, f4, f5⟩ := hf it (by simp)
    refine wpAny_pyNext_tuple_item st (show s.heap.IsTuple a its.toArray from p) (x := u) (by simpa using hu) fun h' st' sb => ?_
    have I1 : Inv X pins σ H { s with heap := h' } := I.turned (t' := s.toks) (fun b o hb e => (sb.2 b hb).trans e) f0 f1 f3 f4 f5
    obtain ⟨o, e, c, d⟩ := id st'
    exact ⟨u, rfl, go_of (s := { s with heap := h' }) e c d (by decide) ⟨x, H, I1, ru, ⟨rfl, fun ys hy => by rw [I.tuple_inj hy hq]; exact hx⟩, st', fun b hb => (hf b hb).1⟩⟩
  done := by
    intro X hP hw hK hc i pins s σ H E I hf st hg
    subst hP hw hK
    obtain ⟨xs, hq, hx⟩ := hg
    obtain ⟨its, rv, p, hz⟩ := I.tuple hq
    obtain ⟨f0, f1, f2, f3, f4, f5⟩ := hf it (by simp)
    have hl := rv.length
    exact wpAny_pyNext_tuple_end (I.ok.hd hc) st (show s.heap.IsTuple a its.toArray from p) (by simp; omega) fun h' eb => ⟨rfl, I.turned (t' := s.toks) (fun b o hb e => eb b o hb e) f0 f1 f3 f4 f5⟩
  self := fun _ _ _ _ _ st h => wpAny_pyIter_tupleiter st h
theorem turn_range {P : Program} {w : World} {K : PySem.W.Frag} {tg : Expr} (it : Addr) (lo : Int) (n : Nat) : Turn P w K tg (Itr lo n) [it] it (fun i h => IsRangeIter h it (lo + (i : Nat) * 1) ((n : Int) - (i : Nat)) 1) where
  mem := by simp
  obj := fun i h st b hb => by
    have e : b = it := by simpa using hb
    subst e
    exact ⟨_, st, fun v z => by
      have z' : Data.fields _ = Data.cell v := z
      cases z'⟩
  keep := fun i h h' st k => k it (by simp) _ st
  item := by
    intro X hP hw hK hc i pins s σ H E I hf st hg
    subst hP hw hK
    obtain ⟨f0, f1, f2, f3, f4, f5⟩ := hf it (by simp)
    have W := Walks.range (prog := X.prog) (w := X.w) (I.ok.hd hc) it lo 1 n
    refine W.item i s _ _ hg st fun v h' tk hv st' kk => ?_
    obtain ⟨t, rfl⟩ := hv
    have I1 : Inv X pins σ H { s with heap := h', toks := tk } := I.turned (fun b o hb e => kk b o (by simpa using hb) e) f0 f1 f3 f4 f5
    refine ⟨_, rfl, go_of (s := { s with heap := h', toks := tk }) (n := "range_iterator") st' rfl rfl (by decide) ⟨.int (lo + i), H, I1, ⟨t, ?_⟩, ⟨rfl, rfl⟩, st', fun b hb => (hf b hb).1⟩⟩
    rw [Int.mul_one]
  done := by
    intro X hP hw hK hc i pins s σ H E I hf st hg
    subst hP hw hK
    obtain ⟨f0, f1, f2, f3, f4, f5⟩ := hf it (by simp)
    exact wpAny_pyNext_range_end (I.ok.hd hc) st (by have : n ≤ i := hg; omega) fun h' eb => ⟨rfl, I.turned (t' := s.toks) (fun b o hb e => eb b o hb e) f0 f1 f3 f4 f5⟩
  self := fun _ _ _ _ _ st h => wpAny_pyIter_rangeiter st h
end L2

namespace L2
open PySem PySem.Spec PyProof.Rows
section
variable {X : Cx} {tg : Expr}
def iList (K : PySem.W.Frag) (tl : TE) : TI := fun σ H R => tl σ H fun x H1 => ∃ a, x = .ref a ∧ (∃ xs, SqL K H1 a xs) ∧ R (Itl K a) H1
def iTup (K : PySem.W.Frag) (tl : TE) : TI := fun σ H R => tl σ H fun x H1 => ∃ a, x = .ref a ∧ (∃ xs, SqT K H1 a xs) ∧ R (Itt K a) H1
theorem pi_list {l : Expr} {tl : TE} (hl : PE X l tl) : PI X tg l (iList X.K tl) := by
  intro pins s σ H R I h
  refine thn (hl pins s σ H _ I h) fun v s1 ⟨x, H1, I1, r1, q1⟩ => ?_
  obtain ⟨a, e, ⟨xs, hq⟩, q⟩ := q1
  subst e
  cases r1
  obtain ⟨its, rv, p, hz⟩ := I1.list hq
  refine wpAny_pyIter_list p.isList ?_
  refine ⟨s1.heap.objs.size, [s1.heap.objs.size], _, _, H1, rfl, I1.kept (t' := s1.toks) fun b o e => Heap.get?_push_of_some _ e, turn_list a _, ⟨_, Heap.get?_push_size _ rfl, rfl, rfl⟩, fun b hb => ?_, q⟩
  have e : b = s1.heap.objs.size := by simpa using hb
  subst e
  exact I1.fpOk (Nat.le_refl _) (I1.hok.fresh (Nat.le_refl _))
theorem pi_tup {l : Expr} {tl : TE} (hl : PE X l tl) : PI X tg l (iTup X.K tl) := by
  intro pins s σ H R I h
  refine thn (hl pins s σ H _ I h) fun v s1 ⟨x, H1, I1, r1, q1⟩ => ?_
  obtain ⟨a, e, ⟨xs, hq⟩, q⟩ := q1
  subst e
  cases r1
  obtain ⟨its, rv, p, hz⟩ := I1.tuple hq
  refine wpAny_pyIter_tuple (show s1.heap.IsTuple a its.toArray from p) ?_
  refine ⟨s1.heap.objs.size, [s1.heap.objs.size], _, _, H1, rfl, I1.kept (t' := s1.toks) fun b o e => Heap.get?_push_of_some _ e, turn_tuple a _, ⟨_, Heap.get?_push_size _ rfl, rfl, rfl⟩, fun b hb => ?_, q⟩
  have e : b = s1.heap.objs.size := by simpa using hb
  subst e
  exact I1.fpOk (Nat.le_refl _) (I1.hok.fresh (Nat.le_refl _))
/-- a range object just made, walked -/
theorem range_it {pins : List (Addr × Obj)} {σ : St} {H : Hp} {s : Shared} {R : It → Hp → Prop} {E : Value → Shared → Prop} {lo hi : Int} {t u v : Tok} {tk : Nat} (I : Inv X pins σ H s) (h1 : -(2 ^ 62) ≤ lo) (h2 : lo < 2 ^ 62) (h3 : -(2 ^ 62) ≤ hi) (h4 : hi < 2 ^ 62)
    (q : R (Itr lo (hi - lo).toNat) H) : wpAny (model X.prog X.w) X.A (pyIter (.ref s.heap.objs.size)) (PIE X pins σ tg R) E { s with heap := s.heap.push { cls := .type "range", data := .fields #[.int lo t, .int hi u, .int 1 v] }, toks := tk } := by
  refine wpAny_pyIter_range (IsRange.new ..) (small_one h1 h2 h3 h4) ?_
  have I1 : Inv X pins σ H { s with heap := s.heap.push { cls := .type "range", data := .fields #[.int lo t, .int hi u, .int 1 v] }, toks := tk } := I.kept fun b o e => Heap.get?_push_of_some _ e
  refine ⟨(s.heap.push { cls := .type "range", data := .fields #[.int lo t, .int hi u, .int 1 v] }).objs.size, [(s.heap.push { cls := .type "range", data := .fields #[.int lo t, .int hi u, .int 1 v] }).objs.size], _, _, H, rfl,
    I1.kept (t' := tk) fun b o e => Heap.get?_push_of_some _ e, turn_range _ lo (hi - lo).toNat, ?_, fun b hb => ?_, q⟩
  · have e1 : lo + ((0 : Nat) : Int) * 1 = lo := by simp
    have e2 : (((hi - lo).toNat : Nat) : Int) - ((0 : Nat) : Int) = Builtin.Range.rangeSize lo hi 1 := by rw [rangeSize_one]; split <;> omega
    show IsRangeIter _ _ (lo + ((0 : Nat) : Int) * 1) ((((hi - lo).toNat : Nat) : Int) - ((0 : Nat) : Int)) 1
    rw [e1, e2]
    exact Heap.get?_push_size _ rfl
  · have e : b = (s.heap.push { cls := .type "range", data := .fields #[.int lo t, .int hi u, .int 1 v] }).objs.size := by simpa using hb
    subst e
    exact I1.fpOk (Nat.le_refl _) (I1.hok.fresh (Nat.le_refl _))
def iRng1 (ta : TA) : TI := fun σ H R => ta σ H fun vs H1 => ∃ j : Int, vs = [.int j] ∧ -(2 ^ 62) ≤ j ∧ j < 2 ^ 62 ∧ R (Itr 0 j.toNat) H1
def iRng2 (ta : TA) : TI := fun σ H R => ta σ H fun vs H1 => ∃ i j : Int, vs = [.int i, .int j] ∧ (-(2 ^ 62) ≤ i ∧ i < 2 ^ 62 ∧ -(2 ^ 62) ≤ j ∧ j < 2 ^ 62) ∧ R (Itr i (j - i).toNat) H1
theorem pi_range1 {a : Expr} {ta : TA} {p pos : Pos} (hg : Gl X "range") (hm : X.mg "range" = none) (ha : PA X [a] ta) (hs : starEach [a] X.env = [(false, eval a X.env)] := by rfl) : PI X tg (.Call (.Name "range" p) [a] [] pos) (iRng1 ta) := by
  intro pins s σ H R I h
  refine Call_ (ld_blt I hg hm boot_range (PyProof.Rows.callWith_type1 (thn (ha pos pins s σ H _ I h) fun us s1 ⟨vs, H1, I1, r1, q1⟩ => ?_) hs rfl))
  obtain ⟨j, e, q1, q2, q⟩ := q1
  subst e
  cases r1 with
  | cons r rr =>
    cases rr
    obtain ⟨t, rfl⟩ := r
    exact call_range_1 (range_it I1 (by omega) (by omega) q1 q2 (by simpa using q))
theorem pi_range2 {a b : Expr} {ta : TA} {p pos : Pos} (hg : Gl X "range") (hm : X.mg "range" = none) (ha : PA X [a, b] ta) (hs : starEach [a, b] X.env = [(false, eval a X.env), (false, eval b X.env)] := by rfl) (hs2 : starEach [b] X.env = [(false, eval b X.env)] := by rfl) :
    PI X tg (.Call (.Name "range" p) [a, b] [] pos) (iRng2 ta) := by
  intro pins s σ H R I h
  refine Call_ (ld_blt I hg hm boot_range (PyProof.Rows.callWith_type1 (thn (ha pos pins s σ H _ I h) fun us s1 ⟨vs, H1, I1, r1, q1⟩ => ?_) (by rw [hs, hs2]) (by rw [hs2]; rfl)))
  obtain ⟨i, j, e, ⟨q1, q2, q3, q4⟩, q⟩ := q1
  subst e
  cases r1 with
  | cons r rr =>
    cases rr with
    | cons r' rr =>
      cases rr
      obtain ⟨t, rfl⟩ := r
      obtain ⟨t', rfl⟩ := r'
      exact call_range_2 (range_it I1 q1 q2 q3 q4 q)

/-! ### for -/
/-- W: the invariant by the turn and a measure; N: what the body is to reach -/
def tFor (wi : TI) (g : TG) (tb : TS) : TS := fun D σ H => wi σ H fun J H1 => ∃ W : Nat → Nat → St → Hp → Prop, (∃ m, W 0 m σ H1) ∧ ∀ i m σ H, W i m σ H →
  (J.stop i H ∧ D.nx σ H) ∨ (J.go i H ∧ ∃ N : St → Hp → Prop, (∀ σ' H', N σ' H' → ∃ m', m' < m ∧ W (i + 1) m' σ' H') ∧ ∀ x H', J.yld i H x H' → g x σ H' fun σ2 H2 => tb { D with nx := N, ct := N, bk := D.nx } σ2 H2)
/-- the records at fp as they stand -/
def pinsAt (fp : List Addr) (h : Heap) : List (Addr × Obj) := fp.filterMap fun b => (h.get? b).map fun o => (b, o)
theorem mem_pinsAt {fp : List Addr} {h : Heap} {b : Addr} {o : Obj} (hb : b ∈ fp) (e : h.get? b = some o) : (b, o) ∈ pinsAt fp h := List.mem_filterMap.mpr ⟨b, hb, by rw [e]; rfl⟩
theorem of_pinsAt {fp : List Addr} {h : Heap} {p : Addr × Obj} (hp : p ∈ pinsAt fp h) : p.1 ∈ fp ∧ h.get? p.1 = some p.2 := by
  obtain ⟨b, hb, e⟩ := List.mem_filterMap.mp hp
  cases q : h.get? b with
  | none => rw [q] at e; cases e
  | some o =>
    rw [q] at e
    have e' : (b, o) = p := Option.some.inj e
    subst e'
    exact ⟨hb, q⟩
theorem Inv.pinned {pins : List (Addr × Obj)} {σ : St} {H : Hp} {s : Shared} {fp : List Addr} (I : Inv X pins σ H s) (hf : ∀ b ∈ fp, FpOk X pins H b) (ho : ∀ b ∈ fp, ∃ o, s.heap.get? b = some o ∧ ∀ v, o.data ≠ .cell v) : Inv X (pins ++ pinsAt fp s.heap) σ H s :=
  I.pins_of fun p hp => (List.mem_append.mp hp).elim (fun z => I.pin p (List.mem_append_right _ z)) fun z => by
    obtain ⟨hb, e⟩ := of_pinsAt z
    obtain ⟨f0, f1, f2, _⟩ := hf p.1 hb
    obtain ⟨o, e', d⟩ := ho p.1 hb
    rw [e] at e'; cases e'
    exact ⟨e, f0, f1, f2, d⟩
theorem Inv.unpinned {pins pl : List (Addr × Obj)} {σ : St} {H : Hp} {s : Shared} (I : Inv X (pins ++ pl) σ H s) : Inv X pins σ H s := I.pins_of fun p hp => I.pin p (List.mem_append_right _ (List.mem_append_left _ hp))
theorem ps_for {iter : Expr} {body : List Stmt} {wi : TI} {g : TG} {tb : TS} {pos : Pos} (hp : PassesOwn (model X.prog X.w) X.A X.env X.xe) (hc : X.calm = true) (hi : PI X tg iter wi) (hg : PG X tg g) (hb : PSs X body tb)
    (hs : ∀ x, foldedSetIterable iter X.env x = pure x := by intro _; rfl) : PS X (.For tg iter body [] pos) (tFor wi g tb) := by
  intro pins s σ H D I h
  refine wpAny_For (thn (hi pins s σ H _ I h) fun v s1 h1 => thn h1 fun itv s2 h2 => ?_) hs
  obtain ⟨it, fp, tn, J, H2, e, I2, T, st2, f2, W, ⟨m0, w0⟩, turn⟩ := h2
  subst e
  -- what stays true of the iterator's objects through the loop
  have stat : ∀ {H' : Hp}, (∀ b ∈ fp, H' b = none) → ∀ b ∈ fp, FpOk X pins H' b := fun hn b hb => ⟨hn b hb, (f2 b hb).2⟩
  refine codeAny_forLoop_any (fun n s' => ∃ i σ' H', Inv X pins σ' H' s' ∧ tn i s'.heap ∧ (∀ b ∈ fp, H' b = none) ∧ W i n σ' H') ?_ m0 ⟨0, σ, H2, I2, st2, fun b hb => (f2 b hb).1, w0⟩
  rintro n s3 ⟨i, σ3, H3, I3, st3, fr3, w3⟩
  rcases turn i n σ3 H3 w3 with ⟨stop, qn⟩ | ⟨go, N, hN, step⟩
  · refine wpAny_passesOwn hp (thn (T.done X rfl rfl rfl hc i pins s3 σ3 H3 X.xe I3 (stat fr3) st3 stop) fun r s4 ⟨hr, I4⟩ => ?_)
    subst hr
    exact wpAny_execs_nil ⟨σ3, H3, I4, qn⟩
  · refine wpAny_passesOwn hp (thn (T.item X rfl rfl rfl hc i pins s3 σ3 H3 X.xe I3 (stat fr3) st3 go) fun r s4 ⟨u, hr, h4⟩ => ?_)
    subst hr
    refine wpAny_passesOwn hp (thn h4 fun _ s5 ⟨x, H5, I5, r5, y5, st5, fr5⟩ => ?_)
    have I5' := I5.pinned (stat fr5) (T.obj _ _ st5)
    refine wpAny_passesOwn hp (thn (hg _ s5 σ3 H5 x u _ I5' r5 (step x H5 y5)) fun _ s6 ⟨σ6, H6, I6, q6⟩ => ?_)
    refine wpAny_passesOwn hp (thn (hb _ s6 σ6 H6 _ I6 q6) fun f s7 q7 => ?_)
    have again : ∀ {σ7 : St} {H7 : Hp}, Inv X (pins ++ pinsAt fp s5.heap) σ7 H7 s7 → N σ7 H7 → ∃ m, m < n ∧ ∃ i σ' H', Inv X pins σ' H' s7 ∧ tn i s7.heap ∧ (∀ b ∈ fp, H' b = none) ∧ W i m σ' H' := fun {σ7 H7} I7 n7 => by
      obtain ⟨m', hm, w7⟩ := hN σ7 H7 n7
      refine ⟨m', hm, i + 1, σ7, H7, I7.unpinned, T.keep _ _ _ st5 fun b hb o e => (I7.pin (b, o) (List.mem_append_right _ (List.mem_append_right _ (mem_pinsAt hb e)))).1, fun b hb => ?_, w7⟩
      obtain ⟨o, e, d⟩ := T.obj _ _ st5 b hb
      exact (I7.pin (b, o) (List.mem_append_right _ (List.mem_append_right _ (mem_pinsAt hb e)))).2.1
    cases f with
    | next => obtain ⟨σ7, H7, I7, n7⟩ := q7; exact again I7 n7
    | cont => obtain ⟨σ7, H7, I7, n7⟩ := q7; exact again I7 n7
    | brk => obtain ⟨σ7, H7, I7, q7⟩ := q7; exact ⟨σ7, H7, I7.unpinned, q7⟩
    | ret v => obtain ⟨x7, σ7, H7, I7, r7, q7⟩ := q7; exact ⟨x7, σ7, H7, I7.unpinned, r7, q7⟩
end

/-! ### the forms one uses -/
/-- over a list that the body leaves as it is -/
theorem for_list {K : PySem.W.Frag} {a : Addr} {xs : List V} {g : TG} {tb : TS} {D : Ends} {σ : St} {H : Hp} (Pv : Nat → St → Hp → Prop) (h0 : Pv 0 σ H) (hl : ∀ i σ H, i ≤ xs.length → Pv i σ H → SqL K H a xs)
    (hs : ∀ i x σ H, xs[i]? = some x → Pv i σ H → g x σ H fun σ2 H2 => tb { D with nx := Pv (i + 1), ct := Pv (i + 1), bk := D.nx } σ2 H2) (hd : ∀ σ H, Pv xs.length σ H → D.nx σ H) :
    ∃ W : Nat → Nat → St → Hp → Prop, (∃ m, W 0 m σ H) ∧ ∀ i m σ H, W i m σ H →
      ((Itl K a).stop i H ∧ D.nx σ H) ∨ ((Itl K a).go i H ∧ ∃ N : St → Hp → Prop, (∀ σ' H', N σ' H' → ∃ m', m' < m ∧ W (i + 1) m' σ' H') ∧ ∀ x H', (Itl K a).yld i H x H' → g x σ H' fun σ2 H2 => tb { D with nx := N, ct := N, bk := D.nx } σ2 H2) := by
  refine ⟨fun i m σ H => m = xs.length - i ∧ i ≤ xs.length ∧ Pv i σ H, ⟨xs.length, by simp, Nat.zero_le _, h0⟩, ?_⟩
  rintro i m σ H ⟨rfl, hi, p⟩
  have q := hl i σ H hi p
  by_cases hlt : i < xs.length
  · refine .inr ⟨⟨xs, xs[i], q, by simp [hlt]⟩, Pv (i + 1), fun σ' H' p' => ⟨xs.length - (i + 1), by omega, rfl, hlt, p'⟩, fun x H' y => ?_⟩
    obtain ⟨e, y⟩ := y
    subst e
    exact hs i x σ _ (y xs q) p
  · have e : i = xs.length := by omega
    subst e
    exact .inl ⟨⟨xs, q, Nat.le_refl _⟩, hd σ H p⟩
theorem for_tup {K : PySem.W.Frag} {a : Addr} {xs : List V} {g : TG} {tb : TS} {D : Ends} {σ : St} {H : Hp} (Pv : Nat → St → Hp → Prop) (h0 : Pv 0 σ H) (hl : ∀ i σ H, i ≤ xs.length → Pv i σ H → SqT K H a xs)
    (hs : ∀ i x σ H, xs[i]? = some x → Pv i σ H → g x σ H fun σ2 H2 => tb { D with nx := Pv (i + 1), ct := Pv (i + 1), bk := D.nx } σ2 H2) (hd : ∀ σ H, Pv xs.length σ H → D.nx σ H) :
    ∃ W : Nat → Nat → St → Hp → Prop, (∃ m, W 0 m σ H) ∧ ∀ i m σ H, W i m σ H →
      ((Itt K a).stop i H ∧ D.nx σ H) ∨ ((Itt K a).go i H ∧ ∃ N : St → Hp → Prop, (∀ σ' H', N σ' H' → ∃ m', m' < m ∧ W (i + 1) m' σ' H') ∧ ∀ x H', (Itt K a).yld i H x H' → g x σ H' fun σ2 H2 => tb { D with nx := N, ct := N, bk := D.nx } σ2 H2) := by
  refine ⟨fun i m σ H => m = xs.length - i ∧ i ≤ xs.length ∧ Pv i σ H, ⟨xs.length, by simp, Nat.zero_le _, h0⟩, ?_⟩
  rintro i m σ H ⟨rfl, hi, p⟩
  have q := hl i σ H hi p
  by_cases hlt : i < xs.length
  · refine .inr ⟨⟨xs, xs[i], q, by simp [hlt]⟩, Pv (i + 1), fun σ' H' p' => ⟨xs.length - (i + 1), by omega, rfl, hlt, p'⟩, fun x H' y => ?_⟩
    obtain ⟨e, y⟩ := y
    subst e
    exact hs i x σ _ (y xs q) p
  · have e : i = xs.length := by omega
    subst e
    exact .inl ⟨⟨xs, q, Nat.le_refl _⟩, hd σ H p⟩
theorem for_range {lo : Int} {n : Nat} {g : TG} {tb : TS} {D : Ends} {σ : St} {H : Hp} (Pv : Nat → St → Hp → Prop) (h0 : Pv 0 σ H)
    (hs : ∀ i σ H, i < n → Pv i σ H → g (.int (lo + i)) σ H fun σ2 H2 => tb { D with nx := Pv (i + 1), ct := Pv (i + 1), bk := D.nx } σ2 H2) (hd : ∀ σ H, Pv n σ H → D.nx σ H) :
    ∃ W : Nat → Nat → St → Hp → Prop, (∃ m, W 0 m σ H) ∧ ∀ i m σ H, W i m σ H →
      ((Itr lo n).stop i H ∧ D.nx σ H) ∨ ((Itr lo n).go i H ∧ ∃ N : St → Hp → Prop, (∀ σ' H', N σ' H' → ∃ m', m' < m ∧ W (i + 1) m' σ' H') ∧ ∀ x H', (Itr lo n).yld i H x H' → g x σ H' fun σ2 H2 => tb { D with nx := N, ct := N, bk := D.nx } σ2 H2) := by
  refine ⟨fun i m σ H => m = n - i ∧ i ≤ n ∧ Pv i σ H, ⟨n, by simp, Nat.zero_le _, h0⟩, ?_⟩
  rintro i m σ H ⟨rfl, hi, p⟩
  by_cases hlt : i < n
  · refine .inr ⟨hlt, Pv (i + 1), fun σ' H' p' => ⟨n - (i + 1), by omega, rfl, hlt, p'⟩, fun x H' y => ?_⟩
    obtain ⟨e, y⟩ := y
    subst e y
    exact hs i σ _ hlt p
  · have e : i = n := by omega
    subst e
    exact .inl ⟨Nat.le_refl _, hd σ H p⟩
/-- while, by a word and a measure of the state -/
theorem while_by {c : TT} {tb : TS} {D : Ends} {σ : St} {H : Hp} (Pv : St → Hp → Prop) (μ : St → Hp → Nat) (h0 : Pv σ H)
    (hs : ∀ σ H, Pv σ H → c σ H fun b H1 => if b = true then tb { D with nx := fun σ' H' => Pv σ' H' ∧ μ σ' H' < μ σ H, ct := fun σ' H' => Pv σ' H' ∧ μ σ' H' < μ σ H, bk := D.nx } σ H1 else D.nx σ H1)
    (mono : ∀ σ H Q Q', (∀ b H1, Q b H1 → Q' b H1) → c σ H Q → c σ H Q') : tWhile c tb D σ H := by
  refine ⟨fun m σ H => m = μ σ H ∧ Pv σ H, ⟨_, rfl, h0⟩, ?_⟩
  rintro m σ H ⟨rfl, p⟩
  refine mono σ H _ _ (fun b H1 q => ?_) (hs σ H p)
  cases b with
  | true => exact ⟨_, fun σ' H' ⟨p', l⟩ => ⟨_, l, rfl, p'⟩, q⟩
  | false => exact q
end L2

namespace L2
open PySem PySem.Spec PyProof.Rows

abbrev R2 := V → V → Hp → VK → Prop
/-- a two-place operation on values: f is binaryOp op, inplaceOp op or compareOp op -/
def OpR (X : Cx) (f : Value → Value → Sem Value) (r : R2) : Prop :=
  ∀ (pins : List (Addr × Obj)) (s : Shared) (σ : St) (H : Hp) (x y : V) (v u : Value) (Q : VK), Inv X pins σ H s → RelV x v → RelV y u → r x y H Q →
    wpAny (model X.prog X.w) X.A (f v u) (EP X pins σ Q) X.xe s
/-- a one-place operation -/
def UnR (X : Cx) (f : Value → Sem Value) (r : V → Hp → VK → Prop) : Prop :=
  ∀ (pins : List (Addr × Obj)) (s : Shared) (σ : St) (H : Hp) (x : V) (v : Value) (Q : VK), Inv X pins σ H s → RelV x v → r x H Q →
    wpAny (model X.prog X.w) X.A (f v) (EP X pins σ Q) X.xe s
/-- a call of a value that is known (a builtin, a type) with values -/
def CallR (X : Cx) (f : Value) (r : List V → Hp → VK → Prop) : Prop :=
  ∀ (pins : List (Addr × Obj)) (s : Shared) (σ : St) (H : Hp) (xs : List V) (us : List Value) (Q : VK), Inv X pins σ H s → Vals xs us → r xs H Q →
    wpAny (model X.prog X.w) X.A (call f us) (EP X pins σ Q) X.xe s
/-- a value's truth -/
def TruR (X : Cx) (r : V → Hp → (Bool → Hp → Prop) → Prop) : Prop :=
  ∀ (pins : List (Addr × Obj)) (s : Shared) (σ : St) (H : Hp) (x : V) (v : Value) (Q : Bool → Hp → Prop), Inv X pins σ H s → RelV x v → r x H Q →
    wpAny (model X.prog X.w) X.A (truthy v) (TP X pins σ Q) X.xe s

def tOp (r : R2) (ta tb : TE) : TE := fun σ H Q => ta σ H fun x H1 => tb σ H1 fun y H2 => r x y H2 Q
def tUn (r : V → Hp → VK → Prop) (ta : TE) : TE := fun σ H Q => ta σ H fun x H1 => r x H1 Q
/-- ints in, under C, and a value out -/
def rI (C : Int → Int → Prop) (g : Int → Int → V) : R2 := fun x y H Q => ∃ i j, x = .int i ∧ y = .int j ∧ C i j ∧ Q (g i j) H
def rI0 (g : Int → Int → V) : R2 := fun x y H Q => ∃ i j, x = .int i ∧ y = .int j ∧ Q (g i j) H
def rU (g : Int → V) : V → Hp → VK → Prop := fun x H Q => ∃ i, x = .int i ∧ Q (g i) H

section
variable {X : Cx} {a b c : Expr} {ta tb tc : TE} {pos : Pos}

theorem binT (ha : PE X a ta) (hb : PE X b tb) {pins : List (Addr × Obj)} {s : Shared} {σ : St} {H : Hp} {R : V → V → Hp → Prop} (I : Inv X pins σ H s)
    (h : ta σ H fun x H1 => tb σ H1 fun y H2 => R x y H2) {Q : Value → Shared → Prop} {f : Value → Value → Sem Value}
    (hf : ∀ v u s2 x y H2, Inv X pins σ H2 s2 → RelV x v → RelV y u → R x y H2 → wpAny (model X.prog X.w) X.A (f v u) Q X.xe s2) :
    wpAny (model X.prog X.w) X.A (eval a X.env) (fun v s₁ => wpAny (model X.prog X.w) X.A (eval b X.env) (fun u s₂ => wpAny (model X.prog X.w) X.A (f v u) Q X.xe s₂) X.xe s₁) X.xe s := by
  refine thn (ha pins s σ H _ I h) fun v s1 ⟨x, H1, I1, r1, q1⟩ => ?_
  refine thn (hb pins s1 σ H1 _ I1 q1) fun u s2 ⟨y, H2, I2, r2, q2⟩ => ?_
  exact hf v u s2 x y H2 I2 r1 r2 q2

theorem pe_op {op : Operator} {r : R2} (ho : OpR X (binaryOp op) r) (ha : PE X a ta) (hb : PE X b tb) : PE X (.BinOp a op b pos) (tOp r ta tb) := by
  intro pins s σ H Q I h
  exact wpAny_BinOp (binT ha hb I h fun v u s2 x y H2 I2 rx ry q => ho pins s2 σ H2 x y v u Q I2 rx ry q)
theorem pe_un {op : UnaryOp} {r : V → Hp → VK → Prop} (ho : UnR X (unaryOp op) r) (ha : PE X a ta) : PE X (.UnaryOp op a pos) (tUn r ta) := by
  intro pins s σ H Q I h
  exact UnaryOp_ (thn (ha pins s σ H _ I h) fun v s1 ⟨x, H1, I1, r1, q1⟩ => ho pins s1 σ H1 x v Q I1 r1 q1)
/-- a op= e at a name: the name's slot i -/
theorem augR {op : Operator} {r : R2} (ho : OpR X (inplaceOp op) r) {pins : List (Addr × Obj)} {s : Shared} {σ : St} {H : Hp} {x y : V} {v u : Value} {Q : VK} (I : Inv X pins σ H s)
    (rx : RelV x v) (ry : RelV y u) (q : r x y H Q) : wpAny (model X.prog X.w) X.A (inplaceOp op v u) (EP X pins σ Q) X.xe s := ho pins s σ H x y v u Q I rx ry q

/-! ### ints -/
theorem opI {f : Value → Value → Sem Value} {C : Int → Int → Prop} {g : Int → Int → Int}
    (rule : ∀ (i j : Int) (t u : Tok) (s : Shared) (Q : Value → Shared → Prop) (E : Value → Shared → Prop), C i j → Q (.int (g i j) s.toks) { s with toks := s.toks + 1 } → wpAny (model X.prog X.w) X.A (f (.int i t) (.int j u)) Q E s) :
    OpR X f (rI C fun i j => .int (g i j)) := by
  intro pins s σ H x y v u Q I rx ry h
  obtain ⟨i, j, rfl, rfl, hc, q⟩ := h
  obtain ⟨t, rfl⟩ := rx
  obtain ⟨t', rfl⟩ := ry
  exact rule i j t t' s _ _ hc ⟨.int (g i j), H, I.tok _, ⟨_, rfl⟩, q⟩
theorem opI0 {f : Value → Value → Sem Value} {g : Int → Int → Int}
    (rule : ∀ (i j : Int) (t u : Tok) (s : Shared) (Q : Value → Shared → Prop) (E : Value → Shared → Prop), Q (.int (g i j) s.toks) { s with toks := s.toks + 1 } → wpAny (model X.prog X.w) X.A (f (.int i t) (.int j u)) Q E s) :
    OpR X f (rI0 fun i j => .int (g i j)) := by
  intro pins s σ H x y v u Q I rx ry h
  obtain ⟨i, j, rfl, rfl, q⟩ := h
  obtain ⟨t, rfl⟩ := rx
  obtain ⟨t', rfl⟩ := ry
  exact rule i j t t' s _ _ ⟨.int (g i j), H, I.tok _, ⟨_, rfl⟩, q⟩
theorem opB0 {f : Value → Value → Sem Value} {g : Int → Int → Bool}
    (rule : ∀ (i j : Int) (t u : Tok) (s : Shared) (Q : Value → Shared → Prop) (E : Value → Shared → Prop), Q (.bool (g i j)) s → wpAny (model X.prog X.w) X.A (f (.int i t) (.int j u)) Q E s) :
    OpR X f (rI0 fun i j => .bl (g i j)) := by
  intro pins s σ H x y v u Q I rx ry h
  obtain ⟨i, j, rfl, rfl, q⟩ := h
  obtain ⟨t, rfl⟩ := rx
  obtain ⟨t', rfl⟩ := ry
  exact rule i j t t' s _ _ ⟨.bl (g i j), H, I, rfl, q⟩

def CDiv (i j : Int) : Prop := 0 < j ∧ j < 1073741824
def CDivN (i j : Int) : Prop := j ≠ 0 ∧ j.natAbs < 1073741824
def CPow (i j : Int) : Prop := 0 ≤ j ∧ j ≤ 1000000 ∧ i.natAbs < 2 ^ 64
def CMul (i j : Int) : Prop := (-(2 ^ 64) < i ∧ i < 2 ^ 64) ∨ (-(2 ^ 64) < j ∧ j < 2 ^ 64)
theorem CMul.ok {i j : Int} (h : CMul i j) : IntMulOk i j := by
  rcases h with ⟨h1, h2⟩ | ⟨h1, h2⟩
  · exact .of_left (intBits_le_64 h1 h2)
  · exact .of_right (intBits_le_64 h1 h2)
theorem two_pow_nn (k : Nat) : (0 : Int) ≤ 2 ^ k := by
  rw [two_pow_cast]
  exact Int.natCast_nonneg _

theorem op_add : OpR X (binaryOp .Add) (rI0 fun i j => .int (i + j)) := opI0 fun _ _ _ _ _ _ _ q => add_int q
theorem op_sub : OpR X (binaryOp .Sub) (rI0 fun i j => .int (i - j)) := opI0 fun _ _ _ _ _ _ _ q => sub_int q
theorem op_mul : OpR X (binaryOp .Mult) (rI CMul fun i j => .int (i * j)) := opI fun _ _ _ _ _ _ _ hc q => mul_int q hc.ok
/-- // by a positive divisor -/
theorem op_fdiv : OpR X (binaryOp .FloorDiv) (rI CDiv fun i j => .int (i / j)) := opI fun i j _ _ _ _ _ hc q => by
  have h1 : (0 : Int) < j := hc.1
  have h2 : j < 1073741824 := hc.2
  exact floordiv_int (by omega) (by rw [Int.fdiv_eq_ediv_of_nonneg i (by omega)]; exact q) (.inl (PyProof.noPylong_small (by omega)))
theorem op_fdivN : OpR X (binaryOp .FloorDiv) (rI CDivN fun i j => .int (i.fdiv j)) := opI fun _ _ _ _ _ _ _ hc q => floordiv_int hc.1 q (.inl (PyProof.noPylong_small hc.2))
/-- % by a positive divisor of any size -/
theorem op_mod : OpR X (binaryOp .Mod) (rI (fun _ j => 0 < j) fun i j => .int (i % j)) := opI fun i j _ _ _ _ _ hc q => by
  have h1 : (0 : Int) < j := hc
  exact mod_int' (by omega) (by rw [Int.fmod_eq_emod_of_nonneg i (by omega)]; exact q)
theorem op_modN : OpR X (binaryOp .Mod) (rI (fun _ j => j ≠ 0) fun i j => .int (i.fmod j)) := opI fun _ _ _ _ _ _ _ hc q => mod_int' hc q
theorem op_pow : OpR X (binaryOp .Pow) (rI CPow fun i j => .int (i ^ j.toNat)) := opI fun _ _ _ _ _ _ _ hc q => pow_int_small hc.1 hc.2.1 hc.2.2 q
theorem op_shl : OpR X (binaryOp .LShift) (rI CPow fun i j => .int (i * 2 ^ j.toNat)) := opI fun _ _ _ _ _ _ _ hc q => lshift_int_small hc.1 hc.2.1 hc.2.2 q
theorem op_shr : OpR X (binaryOp .RShift) (rI (fun _ j => 0 ≤ j) fun i j => .int (i / 2 ^ j.toNat)) := opI fun i j _ _ _ _ _ hc q =>
  rshift_int hc (by rw [Int.fdiv_eq_ediv_of_nonneg i (two_pow_nn _)]; exact q)
theorem op_and : OpR X (binaryOp .BitAnd) (rI0 fun i j => .int (Builtin.bitAnd i j)) := opI0 fun _ _ _ _ _ _ _ q => and_int q
theorem op_or : OpR X (binaryOp .BitOr) (rI0 fun i j => .int (Builtin.bitOr i j)) := opI0 fun _ _ _ _ _ _ _ q => or_int q
theorem op_xor : OpR X (binaryOp .BitXor) (rI0 fun i j => .int (Builtin.bitXor i j)) := opI0 fun _ _ _ _ _ _ _ q => xor_int q

theorem iop_add : OpR X (inplaceOp .Add) (rI0 fun i j => .int (i + j)) := opI0 fun _ _ _ _ _ _ _ q => iadd_int q
theorem iop_sub : OpR X (inplaceOp .Sub) (rI0 fun i j => .int (i - j)) := opI0 fun _ _ _ _ _ _ _ q => isub_int q
theorem iop_mul : OpR X (inplaceOp .Mult) (rI CMul fun i j => .int (i * j)) := opI fun _ _ _ _ _ _ _ hc q => imul_int q hc.ok
theorem iop_fdiv : OpR X (inplaceOp .FloorDiv) (rI CDiv fun i j => .int (i / j)) := opI fun i j _ _ _ _ _ hc q => by
  have h1 : (0 : Int) < j := hc.1
  have h2 : j < 1073741824 := hc.2
  exact ifloordiv_int (by omega) (by rw [Int.fdiv_eq_ediv_of_nonneg i (by omega)]; exact q) (.inl (PyProof.noPylong_small (by omega)))
theorem iop_mod : OpR X (inplaceOp .Mod) (rI (fun _ j => 0 < j) fun i j => .int (i % j)) := opI fun i j _ _ _ _ _ hc q => by
  have h1 : (0 : Int) < j := hc
  exact imod_int (by omega) (by rw [Int.fmod_eq_emod_of_nonneg i (by omega)]; exact q)
theorem iop_shl : OpR X (inplaceOp .LShift) (rI CPow fun i j => .int (i * 2 ^ j.toNat)) := opI fun _ _ _ _ _ _ _ hc q => ilshift_int_small hc.1 hc.2.1 hc.2.2 q
theorem iop_shr : OpR X (inplaceOp .RShift) (rI (fun _ j => 0 ≤ j) fun i j => .int (i / 2 ^ j.toNat)) := opI fun i j _ _ _ _ _ hc q =>
  irshift_int hc (by rw [Int.fdiv_eq_ediv_of_nonneg i (two_pow_nn _)]; exact q)
theorem iop_and : OpR X (inplaceOp .BitAnd) (rI0 fun i j => .int (Builtin.bitAnd i j)) := opI0 fun _ _ _ _ _ _ _ q => iand_int q
theorem iop_or : OpR X (inplaceOp .BitOr) (rI0 fun i j => .int (Builtin.bitOr i j)) := opI0 fun _ _ _ _ _ _ _ q => ior_int q
theorem iop_xor : OpR X (inplaceOp .BitXor) (rI0 fun i j => .int (Builtin.bitXor i j)) := opI0 fun _ _ _ _ _ _ _ q => ixor_int q

theorem unI {f : Value → Sem Value} {g : Int → Int}
    (rule : ∀ (i : Int) (t : Tok) (s : Shared) (Q : Value → Shared → Prop) (E : Value → Shared → Prop), Q (.int (g i) s.toks) { s with toks := s.toks + 1 } → wpAny (model X.prog X.w) X.A (f (.int i t)) Q E s) :
    UnR X f (rU fun i => .int (g i)) := by
  intro pins s σ H x v Q I rx h
  obtain ⟨i, rfl, q⟩ := h
  obtain ⟨t, rfl⟩ := rx
  exact rule i t s _ _ ⟨.int (g i), H, I.tok _, ⟨_, rfl⟩, q⟩
theorem un_neg : UnR X (unaryOp .USub) (rU fun i => .int (-i)) := unI fun _ _ _ _ _ q => neg_int q
theorem un_inv : UnR X (unaryOp .Invert) (rU fun i => .int (Builtin.bitNot i)) := unI fun _ _ _ _ _ q => invert_int q

/-! ### bools among ints: n += (a < b) -/
theorem op_add_ib : OpR X (binaryOp .Add) (fun x y H Q => ∃ i k, x = .int i ∧ y = .bl k ∧ Q (.int (i + b2i k)) H) := by
  intro pins s σ H x y v u Q I rx ry h
  obtain ⟨i, k, rfl, rfl, q⟩ := h
  obtain ⟨t, rfl⟩ := rx
  cases ry
  exact add_int_bool ⟨.int (i + b2i k), H, I.tok _, ⟨_, rfl⟩, q⟩
end

/-! ### comparisons -/
/-- the scalars that == tells apart as data does -/
def scal : V → V → Bool
  | .non, .non => true | .non, .int _ => true | .int _, .non => true | .non, .bl _ => true | .bl _, .non => true | .non, .str _ => true | .str _, .non => true
  | .int _, .int _ => true | .bl _, .bl _ => true | .str _, .str _ => true | .byt _, .byt _ => true
  | .int _, .str _ => true | .str _, .int _ => true | .bl _, .str _ => true | .str _, .bl _ => true
  | _, _ => false
def rEq : R2 := fun x y H Q => scal x y = true ∧ Q (.bl (decide (x = y))) H
def rNe : R2 := fun x y H Q => scal x y = true ∧ Q (.bl (!decide (x = y))) H

theorem dec_int {i j : Int} : decide (V.int i = V.int j) = (i == j) := by
  rw [Bool.eq_iff_iff]
  simp
theorem dec_bl {i j : Bool} : decide (V.bl i = V.bl j) = (i == j) := by
  rw [Bool.eq_iff_iff]
  simp
theorem dec_str {i j : Str} : decide (V.str i = V.str j) = (i == j) := by
  rw [Bool.eq_iff_iff]
  simp
theorem dec_byt {i j : Array UInt8} : decide (V.byt i = V.byt j) = (i.toList == j.toList) := by
  rw [Bool.eq_iff_iff]
  cases i
  cases j
  simp

section
variable {X : Cx} {a b c : Expr} {ta tb tc : TE} {pos : Pos}
theorem fin_bl {pins : List (Addr × Obj)} {σ : St} {H : Hp} {s : Shared} {Q : VK} {k k' : Bool} (I : Inv X pins σ H s) (q : Q (.bl k) H) (e : k = k') : EP X pins σ Q (.bool k') s := by
  subst e
  exact ⟨.bl k, H, I, rfl, q⟩
theorem op_eq : OpR X (compareOp .Eq) rEq := by
  intro pins s σ H x y v u Q I rx ry h
  obtain ⟨hs, q⟩ := h
  cases x with
  | non =>
    cases rx
    cases y with
    | non => cases ry; exact PySem.EqNone.eq_none_none (fin_bl I q (by simp))
    | bl j => cases ry; exact PySem.EqNone.eq_none_bool (fin_bl I q (by simp))
    | int j => obtain ⟨t', rfl⟩ := ry; exact PySem.EqNone.eq_none_int (fin_bl I q (by simp))
    | str j => obtain ⟨t', rfl⟩ := ry; exact PySem.EqNone.eq_none_str (fin_bl I q (by simp))
    | _ => exact absurd (show false = true from hs) Bool.false_ne_true
  | bl i =>
    cases rx
    cases y with
    | non => cases ry; exact PySem.EqNone.eq_bool_none (fin_bl I q (by simp))
    | bl j => cases ry; exact eq_bool (fin_bl I q dec_bl)
    | str j => obtain ⟨t', rfl⟩ := ry; exact PySem.EqMixed.eq_bool_str (fin_bl I q (by simp))
    | _ => exact absurd (show false = true from hs) Bool.false_ne_true
  | int i =>
    obtain ⟨t, rfl⟩ := rx
    cases y with
    | non => cases ry; exact PySem.EqNone.eq_int_none (fin_bl I q (by simp))
    | int j => obtain ⟨t', rfl⟩ := ry; exact eq_int (fin_bl I q dec_int)
    | str j => obtain ⟨t', rfl⟩ := ry; exact PySem.EqMixed.eq_int_str (fin_bl I q (by simp))
    | _ => exact absurd (show false = true from hs) Bool.false_ne_true
  | str i =>
    obtain ⟨t, rfl⟩ := rx
    cases y with
    | non => cases ry; exact PySem.EqNone.eq_str_none (fin_bl I q (by simp))
    | bl j => cases ry; exact PySem.EqMixed.eq_str_bool (fin_bl I q (by simp))
    | int j => obtain ⟨t', rfl⟩ := ry; exact PySem.EqMixed.eq_str_int (fin_bl I q (by simp))
    | str j => obtain ⟨t', rfl⟩ := ry; exact eq_str (fin_bl I q dec_str)
    | _ => exact absurd (show false = true from hs) Bool.false_ne_true
  | byt i =>
    obtain ⟨t, rfl⟩ := rx
    cases y with
    | byt j => obtain ⟨t', rfl⟩ := ry; exact PySem.W.eq_bytes (fin_bl I q dec_byt)
    | _ => exact absurd (show false = true from hs) Bool.false_ne_true
  | _ => cases y <;> exact absurd (show false = true from hs) Bool.false_ne_true
theorem op_ne : OpR X (compareOp .NotEq) rNe := by
  intro pins s σ H x y v u Q I rx ry h
  obtain ⟨hs, q⟩ := h
  cases x with
  | non =>
    cases rx
    cases y with
    | non => cases ry; exact PySem.EqNone.ne_none_none (fin_bl I q (by simp))
    | bl j => cases ry; exact PySem.EqNone.ne_none_bool (fin_bl I q (by simp))
    | int j => obtain ⟨t', rfl⟩ := ry; exact PySem.EqNone.ne_none_int (fin_bl I q (by simp))
    | str j => obtain ⟨t', rfl⟩ := ry; exact PySem.EqNone.ne_none_str (fin_bl I q (by simp))
    | _ => exact absurd (show false = true from hs) Bool.false_ne_true
  | bl i =>
    cases rx
    cases y with
    | non => cases ry; exact PySem.EqNone.ne_bool_none (fin_bl I q (by simp))
    | bl j => cases ry; exact ne_bool (fin_bl I q (congrArg not dec_bl))
    | str j => obtain ⟨t', rfl⟩ := ry; exact PySem.EqMixed.ne_bool_str (fin_bl I q (by simp))
    | _ => exact absurd (show false = true from hs) Bool.false_ne_true
  | int i =>
    obtain ⟨t, rfl⟩ := rx
    cases y with
    | non => cases ry; exact PySem.EqNone.ne_int_none (fin_bl I q (by simp))
    | int j => obtain ⟨t', rfl⟩ := ry; exact ne_int (fin_bl I q (congrArg not dec_int))
    | str j => obtain ⟨t', rfl⟩ := ry; exact PySem.EqMixed.ne_int_str (fin_bl I q (by simp))
    | _ => exact absurd (show false = true from hs) Bool.false_ne_true
  | str i =>
    obtain ⟨t, rfl⟩ := rx
    cases y with
    | non => cases ry; exact PySem.EqNone.ne_str_none (fin_bl I q (by simp))
    | bl j => cases ry; exact PySem.EqMixed.ne_str_bool (fin_bl I q (by simp))
    | int j => obtain ⟨t', rfl⟩ := ry; exact PySem.EqMixed.ne_str_int (fin_bl I q (by simp))
    | str j => obtain ⟨t', rfl⟩ := ry; exact ne_str (fin_bl I q (congrArg not dec_str))
    | _ => exact absurd (show false = true from hs) Bool.false_ne_true
  | byt i =>
    obtain ⟨t, rfl⟩ := rx
    cases y with
    | byt j => obtain ⟨t', rfl⟩ := ry; exact PySem.W.ne_bytes (fin_bl I q (congrArg not dec_byt))
    | _ => exact absurd (show false = true from hs) Bool.false_ne_true
  | _ => cases y <;> exact absurd (show false = true from hs) Bool.false_ne_true

theorem op_lt : OpR X (compareOp .Lt) (rI0 fun i j => .bl (decide (i < j))) := opB0 fun _ _ _ _ _ _ _ q => lt_int q
theorem op_le : OpR X (compareOp .LtE) (rI0 fun i j => .bl (decide (i ≤ j))) := opB0 fun _ _ _ _ _ _ _ q => le_int q
theorem op_gt : OpR X (compareOp .Gt) (rI0 fun i j => .bl (decide (j < i))) := opB0 fun _ _ _ _ _ _ _ q => gt_int q
theorem op_ge : OpR X (compareOp .GtE) (rI0 fun i j => .bl (decide (j ≤ i))) := opB0 fun _ _ _ _ _ _ _ q => ge_int q
theorem op_lt_str : OpR X (compareOp .Lt) (fun x y H Q => ∃ i j, x = .str i ∧ y = .str j ∧ Q (.bl (decide (i.cps.toList < j.cps.toList))) H) := by
  intro pins s σ H x y v u Q I rx ry h
  obtain ⟨i, j, rfl, rfl, q⟩ := h
  obtain ⟨t, rfl⟩ := rx
  obtain ⟨t', rfl⟩ := ry
  exact lt_str (fin_bl I q rfl)
/-- the one string within the other -/
theorem op_in_str : OpR X (compareOp .In) (fun x y H Q => ∃ i j, x = .str i ∧ y = .str j ∧ Q (.bl (!(Builtin.Str.occurrences j i 0 j.length 1).isEmpty)) H) := by
  intro pins s σ H x y v u Q I rx ry h
  obtain ⟨i, j, rfl, rfl, q⟩ := h
  obtain ⟨t, rfl⟩ := rx
  obtain ⟨t', rfl⟩ := ry
  exact in_str (fin_bl I q rfl)

/-- is None, is not None: the right side a value none -/
theorem op_isN : OpR X (compareOp .Is) (fun x y H Q => y = .non ∧ Q (.bl (decide (x = .non))) H) := by
  intro pins s σ H x y v u Q I rx ry h
  obtain ⟨rfl, q⟩ := h
  cases ry
  refine is_none_gen (fin_bl I q ?_)
  cases x <;> first
    | (cases rx; rfl)
    | (obtain ⟨t, rfl⟩ := rx; rfl)
theorem op_notN : OpR X (compareOp .IsNot) (fun x y H Q => y = .non ∧ Q (.bl (!decide (x = .non))) H) := by
  intro pins s σ H x y v u Q I rx ry h
  obtain ⟨rfl, q⟩ := h
  cases ry
  refine isnot_none_gen (fin_bl I q ?_)
  cases x <;> first
    | (cases rx; rfl)
    | (obtain ⟨t, rfl⟩ := rx; rfl)

theorem op_notin_str : OpR X (compareOp .NotIn) (fun x y H Q => ∃ i j, x = .str i ∧ y = .str j ∧ Q (.bl (!(!(Builtin.Str.occurrences j i 0 j.length 1).isEmpty))) H) := by
  intro pins s σ H x y v u Q I rx ry h
  obtain ⟨i, j, rfl, rfl, q⟩ := h
  obtain ⟨t, rfl⟩ := rx
  obtain ⟨t', rfl⟩ := ry
  exact notIn_str (fin_bl I q rfl)
/-- is, is not of two objects that are tracked lists or instances -/
def isObj : HO → Bool
  | .lst _ => true
  | .ins _ _ _ => true
  | _ => false
theorem obj_there {pins : List (Addr × Obj)} {s : Shared} {σ : St} {H : Hp} {a : Addr} {o : HO} (I : Inv X pins σ H s) (h : H a = some o) (p : isObj o = true) : ∃ ob, s.heap.get? a = some ob ∧ ob.cls ≠ .type "tuple" := by
  cases o with
  | lst xs =>
    obtain ⟨_, its, n, _, e⟩ : xs.length ≤ sizeLine ∧ ∃ (its : List Value) (n : Nat), Vals xs its ∧ s.heap.get? a = some { cls := .type "list", data := .seq its.toArray n } := I.hok a _ h
    exact ⟨_, e, (by show Value.type "list" ≠ .type "tuple"; decide +kernel)⟩
  | ins C dx fs =>
    have x := I.hok a _ h
    obtain ⟨_, _, _, e, _⟩ := x
    exact ⟨_, e, (by show Value.ref C ≠ .type "tuple"; exact fun z => by cases z)⟩
  | _ => exact absurd (show false = true from p) Bool.false_ne_true
theorem op_is_ref : OpR X (compareOp .Is) (fun x y H Q => ∃ a b oa ob, x = .ref a ∧ y = .ref b ∧ H a = some oa ∧ isObj oa = true ∧ H b = some ob ∧ isObj ob = true ∧ Q (.bl (decide (a = b))) H) := by
  intro pins s σ H x y v u Q I rx ry h
  obtain ⟨a, b, oa, ob, rfl, rfl, ha, pa, hb, pb, q⟩ := h
  cases rx
  cases ry
  obtain ⟨o1, e1, n1⟩ := obj_there I ha pa
  obtain ⟨o2, e2, _⟩ := obj_there I hb pb
  by_cases z : a = b
  · subst z
    exact wpAny_is_ref_self (fin_bl I q (by simp))
  · exact wpAny_is_ref_other z e1 e2 n1 (fin_bl I q (by simp [z]))
theorem op_isnot_ref : OpR X (compareOp .IsNot) (fun x y H Q => ∃ a b oa ob, x = .ref a ∧ y = .ref b ∧ H a = some oa ∧ isObj oa = true ∧ H b = some ob ∧ isObj ob = true ∧ Q (.bl (!decide (a = b))) H) := by
  intro pins s σ H x y v u Q I rx ry h
  obtain ⟨a, b, oa, ob, rfl, rfl, ha, pa, hb, pb, q⟩ := h
  cases rx
  cases ry
  obtain ⟨o1, e1, n1⟩ := obj_there I ha pa
  obtain ⟨o2, e2, _⟩ := obj_there I hb pb
  by_cases z : a = b
  · subst z
    exact wpAny_isNot_ref_self (fin_bl I q (by simp))
  · exact wpAny_isNot_ref_other z e1 e2 n1 (fin_bl I q (by simp [z]))

/-- two rules for one operation: by cases -/
theorem OpR.or {f : Value → Value → Sem Value} {r r' : R2} (h : OpR X f r) (h' : OpR X f r') : OpR X f (fun x y H Q => r x y H Q ∨ r' x y H Q) := by
  intro pins s σ H x y v u Q I rx ry q
  rcases q with q | q
  · exact h pins s σ H x y v u Q I rx ry q
  · exact h' pins s σ H x y v u Q I rx ry q

theorem nomark (b : Expr) {op : CmpOp} (h : op ≠ .In := by decide) (h2 : op ≠ .NotIn := by decide) : behindInMarks op b = false := by
  have e1 : (op == CmpOp.In) = false := by cases op <;> first | rfl | exact absurd rfl h
  have e2 : (op == CmpOp.NotIn) = false := by cases op <;> first | rfl | exact absurd rfl h2
  cases b <;> simp [behindInMarks, e1, e2]
/-- a comparison as a value; hm: nomark b, or (for in, not in) by with_unfolding_all rfl -/
theorem pe_cmpR {op : CmpOp} {r : R2} (ho : OpR X (compareOp op) r) (ha : PE X a ta) (hb : PE X b tb) (hm : behindInMarks op b = false) : PE X (.Compare a [op] [b] pos) (tOp r ta tb) := by
  intro pins s σ H Q I h
  exact wpAny_Compare1 (binT ha hb I h fun v u s2 x y H2 I2 rx ry q => ho pins s2 σ H2 x y v u Q I2 rx ry q) hm
/-- a reading of a value as a test -/
def tTest (t : TE) : TT := fun σ H Q => t σ H fun x H' => ∃ k, x = .bl k ∧ Q k H'
theorem pt_cmpR {op : CmpOp} {r : R2} (ho : OpR X (compareOp op) r) (ha : PE X a ta) (hb : PE X b tb) (hm : behindInMarks op b = false) : PT X (.Compare a [op] [b] pos) (tTest (tOp r ta tb)) := by
  intro pins s σ H Q I h
  refine wpAny_isTrue_Compare1 (thn (ha pins s σ H _ I h) fun v s1 ⟨x, H1, I1, r1, q1⟩ => thn (hb pins s1 σ H1 _ I1 q1) fun u s2 ⟨y, H2, I2, r2, q2⟩ =>
    thn (ho pins s2 σ H2 x y v u _ I2 r1 r2 q2) fun c s3 ⟨z, H3, I3, r3, k, e, q3⟩ => ?_) hm
  subst e
  cases r3
  exact wpAny_truthy_bool ⟨H3, I3, q3⟩
/-- a op1 b op2 c -/
def tChain (r r' : R2) (ta tb tc : TE) : TE := fun σ H Q => ta σ H fun x H1 => tb σ H1 fun y H2 => r x y H2 fun z H3 => ∃ k, z = .bl k ∧
  (if k = true then tc σ H3 fun w' H4 => r' y w' H4 Q else Q (.bl false) H3)
theorem pe_chain {op op' : CmpOp} {r r' : R2} (ho : OpR X (compareOp op) r) (ho' : OpR X (compareOp op') r') (ha : PE X a ta) (hb : PE X b tb) (hc : PE X c tc)
    (hm : lastMarks [op, op'] [b, c] = false := by with_unfolding_all rfl) : PE X (.Compare a [op, op'] [b, c] pos) (tChain r r' ta tb tc) := by
  intro pins s σ H Q I h
  refine Compare_chain (thn (ha pins s σ H _ I h) fun v s1 ⟨x, H1, I1, r1, q1⟩ => chain_link (thn (hb pins s1 σ H1 _ I1 q1) fun u s2 ⟨y, H2, I2, r2, q2⟩ =>
    thn (ho pins s2 σ H2 x y v u _ I2 r1 r2 q2) fun d s3 ⟨z, H3, I3, r3, k, e, q3⟩ => ?_)) hm
  subst e
  cases r3
  refine wpAny_truthy_bool ?_
  cases k with
  | false => exact ite_ff ⟨.bl false, H3, I3, rfl, q3⟩
  | true => exact ite_tt (chain_last (thn (hc pins s3 σ H3 _ I3 q3) fun w' s4 ⟨z', H4, I4, r4, q4⟩ => ho' pins s4 σ H4 y z' u w' Q I4 r2 r4 q4))
theorem pt_chain {op op' : CmpOp} {r r' : R2} (ho : OpR X (compareOp op) r) (ho' : OpR X (compareOp op') r') (ha : PE X a ta) (hb : PE X b tb) (hc : PE X c tc)
    (hm : lastMarks [op, op'] [b, c] = false := by with_unfolding_all rfl) : PT X (.Compare a [op, op'] [b, c] pos) (tTest (tChain r r' ta tb tc)) := by
  intro pins s σ H Q I h
  refine isTrue_chain (thn (ha pins s σ H _ I h) fun v s1 ⟨x, H1, I1, r1, q1⟩ => test_link (thn (hb pins s1 σ H1 _ I1 q1) fun u s2 ⟨y, H2, I2, r2, q2⟩ =>
    thn (ho pins s2 σ H2 x y v u _ I2 r1 r2 q2) fun d s3 ⟨z, H3, I3, r3, k, e, q3⟩ => ?_)) hm
  subst e
  cases r3
  refine wpAny_truthy_bool ?_
  cases k with
  | false =>
    obtain ⟨k', e', q'⟩ := q3
    cases e'
    exact ite_ff ⟨H3, I3, q'⟩
  | true =>
    refine ite_tt (test_last (thn (hc pins s3 σ H3 _ I3 q3) fun w' s4 ⟨z', H4, I4, r4, q4⟩ => thn (ho' pins s4 σ H4 y z' u w' _ I4 r2 r4 q4) fun d' s5 ⟨z2, H5, I5, r5, k2, e2, q5⟩ => ?_))
    subst e2
    cases r5
    exact wpAny_truthy_bool ⟨H5, I5, q5⟩

/-! ### truth -/
/-- a value's truth by the abstract heap -/
def TruV (K : PySem.W.Frag) (x : V) (H : Hp) (k : Bool) : Prop :=
  match x with
  | .non => k = false
  | .bl b => k = b
  | .int i => k = (i != 0)
  | .str y => y.length ≤ sizeLine ∧ k = ((y.length : Int) != 0)
  | .byt y => y.size ≤ sizeLine ∧ k = ((y.size : Int) != 0)
  | .ref p => (∃ xs, SqL K H p xs ∧ k = !xs.isEmpty) ∨ (∃ xs, SqT K H p xs ∧ k = !xs.isEmpty) ∨ ∃ kvs, H p = some (.dK kvs) ∧ k = !kvs.isEmpty
  | _ => False
theorem isEmpty_kv {κ : Type} {kvs : List (κ × V)} {vs : List (κ × Value)} (r : KV kvs vs) : (!vs.isEmpty) = !kvs.isEmpty := by
  cases r <;> rfl
theorem isEmpty_of {xs : List V} {its : List Value} (r : Vals xs its) : (!its.toArray.isEmpty) = !xs.isEmpty := by
  cases r <;> simp
theorem line63 : (sizeLine : Nat) < 2 ^ 63 := by rw [sizeLine_eq]; decide
theorem tru_ok : TruR X (fun x H Q => ∃ k, TruV X.K x H k ∧ Q k H) := by
  intro pins s σ H x v Q I rx h
  obtain ⟨k, e, q⟩ := h
  have hl := line63
  have hs : sizeLine = 16777216 := sizeLine_eq
  cases x with
  | non =>
    cases rx
    have e' : k = false := e
    subst e'
    exact truthy_none ⟨H, I, q⟩
  | bl b =>
    cases rx
    have e' : k = b := e
    subst e'
    exact wpAny_truthy_bool ⟨H, I, q⟩
  | int i =>
    obtain ⟨t, rfl⟩ := rx
    have e' : k = (i != 0) := e
    subst e'
    exact PySem.P.truthy_int ⟨H, I, q⟩
  | str y =>
    obtain ⟨t, rfl⟩ := rx
    obtain ⟨hy, e'⟩ : y.length ≤ sizeLine ∧ k = ((y.length : Int) != 0) := e
    subst e'
    exact PySem.P.truthy_str (by omega) ⟨H, I.tok _, q⟩
  | byt y =>
    obtain ⟨t, rfl⟩ := rx
    obtain ⟨hy, e'⟩ : y.size ≤ sizeLine ∧ k = ((y.size : Int) != 0) := e
    subst e'
    exact PySem.W.truthy_bytes (by omega) ⟨H, I.tok _, q⟩
  | ref p =>
    cases rx
    have e' : (∃ xs, SqL X.K H p xs ∧ k = !xs.isEmpty) ∨ (∃ xs, SqT X.K H p xs ∧ k = !xs.isEmpty) ∨ ∃ kvs, H p = some (.dK kvs) ∧ k = !kvs.isEmpty := e
    rcases e' with ⟨xs, hx, e'⟩ | ⟨xs, hx, e'⟩ | ⟨kvs, hx, e'⟩
    · subst e'
      obtain ⟨its, r, pl, hz⟩ := I.list hx
      have hlen := r.length
      exact wpAny_truthy_list pl.isList (by simp only [List.size_toArray]; omega) ⟨H, I.tok _, by rw [isEmpty_of r]; exact q⟩
    · subst e'
      obtain ⟨its, r, pl, hz⟩ := I.tuple hx
      have hlen := r.length
      exact truthy_tuple pl (by simp only [List.size_toArray]; omega) ⟨H, I.tok _, by rw [isEmpty_of r]; exact q⟩
    · subst e'
      obtain ⟨hz, hS, vs, r, m⟩ : kvs.length ≤ sizeLine ∧ (p == sysModules) = false ∧ ∃ vs, KV kvs vs ∧ s.heap.DictOf (mixKind X.prog X.w) p vs := I.hok p _ hx
      have hlen : kvs.length = vs.length := Paired.length r
      exact wpAny_truthy_dict hS m (by omega) ⟨H, I.tok _, by rw [isEmpty_kv r]; exact q⟩
  | _ => exact (show False from e).elim
/-- any expression whose test is its value's truth (a name, a call, a subscript, a field ..: he by fun _ => rfl) -/
theorem pt_truth (ha : PE X a ta) (he : ∀ whole, isTrue a X.env whole = (do let v ← whole; standAt a.pos; holding [v] (truthy v))) :
    PT X a (fun σ H Q => ta σ H fun x H' => ∃ k, TruV X.K x H' k ∧ Q k H') := by
  intro pins s σ H Q I h
  exact isTrue_plain (thn (ha pins s σ H _ I h) fun v s1 ⟨x, H1, I1, r1, q1⟩ => tru_ok pins s1 σ H1 x v Q I1 r1 q1) (he _)

/-! ### strs and bytes -/
theorem pe_byt {x : List UInt8} {k : Nat} : PE X (.Constant (.bytes x) k pos) (fun _ H Q => Q (.byt x.toArray) H) := fun _ _ _ H _ I h => PySem.W.Constant_bytes ⟨.byt x.toArray, H, I.tok _, ⟨_, rfl⟩, h⟩
theorem op_add_str : OpR X (binaryOp .Add) (fun x y H Q => ∃ i j, x = .str i ∧ y = .str j ∧ i.length + j.length ≤ sizeLine ∧ Q (.str (i ++ j)) H) := by
  intro pins s σ H x y v u Q I rx ry h
  obtain ⟨i, j, rfl, rfl, hz, q⟩ := h
  obtain ⟨t, rfl⟩ := rx
  obtain ⟨t', rfl⟩ := ry
  exact add_str (fun t' tk => ⟨.str (i ++ j), H, I.tok _, ⟨_, rfl⟩, q⟩) hz
theorem iop_add_str : OpR X (inplaceOp .Add) (fun x y H Q => ∃ i j, x = .str i ∧ y = .str j ∧ i.length + j.length ≤ sizeLine ∧ Q (.str (i ++ j)) H) := by
  intro pins s σ H x y v u Q I rx ry h
  obtain ⟨i, j, rfl, rfl, hz, q⟩ := h
  obtain ⟨t, rfl⟩ := rx
  obtain ⟨t', rfl⟩ := ry
  exact iadd_str (fun t' tk => ⟨.str (i ++ j), H, I.tok _, ⟨_, rfl⟩, q⟩) hz
theorem op_add_byt : OpR X (binaryOp .Add) (fun x y H Q => ∃ i j, x = .byt i ∧ y = .byt j ∧ i.size + j.size ≤ 16777216 ∧ Q (.byt (i ++ j)) H) := by
  intro pins s σ H x y v u Q I rx ry h
  obtain ⟨i, j, rfl, rfl, hz, q⟩ := h
  obtain ⟨t, rfl⟩ := rx
  obtain ⟨t', rfl⟩ := ry
  exact PySem.W.KBy.add_bytes hz (fun t' tk => ⟨.byt (i ++ j), H, I.tok _, ⟨_, rfl⟩, q⟩)

def PlainIxT (b : Expr) : Prop := ∀ o i, subscripted b false o i = operate [o, i] (getItem o i)
/-- s[i], 0 ≤ i < len -/
theorem pe_item_str (ha : PE X a ta) (hb : PE X b tb) (hs : PlainIxT b) :
    PE X (.Subscript a b pos) (tOp (fun x y H Q => ∃ z i c, x = .str z ∧ y = .int i ∧ 0 ≤ i ∧ i < 2 ^ 63 ∧ i < z.length ∧ z.cps[i.toNat]? = some c ∧ Q (.str ⟨#[c]⟩) H) ta tb) := by
  intro pins s σ H Q I h
  refine Subscript_ (binT ha hb I h fun v u s2 x y H2 I2 rx ry q => ?_)
  obtain ⟨z, i, c, rfl, rfl, h0, h63, h1, hc, q⟩ := q
  obtain ⟨t, rfl⟩ := rx
  obtain ⟨t', rfl⟩ := ry
  have e : seqIndex? i z.length = some i.toNat := PySem.StrLaws.seqIndex_nonneg h0 h1
  exact tail_any (typeIs_str s2 z t) slot_str_getitem.lookup (getItem_str (c := c) (by
    have e1 : decide (i < -(2 ^ 63 : Int)) = false := decide_eq_false (by omega)
    have e2 : decide (i ≥ 2 ^ 63) = false := decide_eq_false (by omega)
    rw [e1, e2] <;> rfl) (by rw [e]; exact hc) ⟨.str ⟨#[c]⟩, H2, I2.tok _, ⟨_, rfl⟩, q⟩) (hs _ _)
/-- b[i], 0 ≤ i < len -/
theorem pe_item_byt (ha : PE X a ta) (hb : PE X b tb) (hs : PlainIxT b) :
    PE X (.Subscript a b pos) (tOp (fun x y H Q => ∃ (z : List UInt8) (i : Int), x = .byt z.toArray ∧ y = .int i ∧ z.length ≤ sizeLine ∧ 0 ≤ i ∧ i < z.length ∧ Q (.int ((z.getD i.toNat 0).toNat : Nat)) H) ta tb) := by
  intro pins s σ H Q I h
  refine Subscript_ (binT ha hb I h fun v u s2 x y H2 I2 rx ry q => ?_)
  obtain ⟨z, i, rfl, rfl, hz, h0, h1, q⟩ := q
  obtain ⟨t, rfl⟩ := rx
  obtain ⟨t', rfl⟩ := ry
  have hl : sizeLine = 16777216 := sizeLine_eq
  exact tail_any (PySem.W.typeIs_bytes s2 z.toArray t) PySem.W.FB.slot_bytes_getitem.lookup (PySem.W.getItem_bytes (by omega) h0 h1 ⟨.int ((z.getD i.toNat 0).toNat : Nat), H2, I2.tok _, ⟨_, rfl⟩, q⟩) (hs _ _)

/-! ### scalar builtins, by CallR -/
theorem vals1 {x : V} {us : List Value} (r : Vals [x] us) : ∃ u, us = [u] ∧ RelV x u := by
  cases r with
  | cons r1 r2 => cases r2; exact ⟨_, rfl, r1⟩
theorem vals2 {x y : V} {us : List Value} (r : Vals [x, y] us) : ∃ u w', us = [u, w'] ∧ RelV x u ∧ RelV y w' := by
  cases r with
  | cons r1 r2 =>
    cases r2 with
    | cons r3 r4 => cases r4; exact ⟨_, _, rfl, r1, r3⟩
theorem call_abs : CallR X (.builtin "abs") (fun xs H Q => ∃ i, xs = [.int i] ∧ Q (.int (if i < 0 then -i else i)) H) := by
  intro pins s σ H xs us Q I r h
  obtain ⟨i, rfl, q⟩ := h
  obtain ⟨u, rfl, t, rfl⟩ := vals1 r
  exact call_abs_int fun u tk => ⟨.int (if i < 0 then -i else i), H, I.tok _, ⟨_, rfl⟩, q⟩
theorem call_max2 (hc : X.calm = true) : CallR X (.builtin "max") (fun xs H Q => ∃ i j, xs = [.int i, .int j] ∧ Q (.int (if j > i then j else i)) H) := by
  intro pins s σ H xs us Q I r h
  obtain ⟨i, j, rfl, q⟩ := h
  obtain ⟨u, w', rfl, ⟨t, rfl⟩, ⟨t', rfl⟩⟩ := vals2 r
  refine max_two_ints (I.ok.hd hc) fun h' tk k => ⟨_, H, I.kept k, ?_, q⟩
  by_cases hj : j > i
  · rw [if_pos hj, if_pos hj]; exact ⟨_, rfl⟩
  · rw [if_neg hj, if_neg hj]; exact ⟨_, rfl⟩
theorem call_min2 (hc : X.calm = true) : CallR X (.builtin "min") (fun xs H Q => ∃ i j, xs = [.int i, .int j] ∧ Q (.int (if j < i then j else i)) H) := by
  intro pins s σ H xs us Q I r h
  obtain ⟨i, j, rfl, q⟩ := h
  obtain ⟨u, w', rfl, ⟨t, rfl⟩, ⟨t', rfl⟩⟩ := vals2 r
  refine min_two_ints (I.ok.hd hc) fun h' tk k => ⟨_, H, I.kept k, ?_, q⟩
  by_cases hj : j < i
  · rw [if_pos hj, if_pos hj]; exact ⟨_, rfl⟩
  · rw [if_neg hj, if_neg hj]; exact ⟨_, rfl⟩
theorem call_int1 : CallR X (.type "int") (fun xs H Q => (∃ i, xs = [.int i] ∧ Q (.int i) H) ∨ ∃ k, xs = [.bl k] ∧ Q (.int (if k then 1 else 0)) H) := by
  intro pins s σ H xs us Q I r h
  rcases h with ⟨i, rfl, q⟩ | ⟨k, rfl, q⟩
  · obtain ⟨u, rfl, t, rfl⟩ := vals1 r
    exact call_int_int ⟨.int i, H, I, ⟨_, rfl⟩, q⟩
  · obtain ⟨u, rfl, r1⟩ := vals1 r
    cases r1
    exact call_int_bool ⟨.int (if k then 1 else 0), H, I.tok _, ⟨_, rfl⟩, q⟩
theorem call_bool1 : CallR X (.type "bool") (fun xs H Q => (∃ i, xs = [.int i] ∧ Q (.bl (i != 0)) H) ∨ ∃ k, xs = [.bl k] ∧ Q (.bl k) H) := by
  intro pins s σ H xs us Q I r h
  rcases h with ⟨i, rfl, q⟩ | ⟨k, rfl, q⟩
  · obtain ⟨u, rfl, t, rfl⟩ := vals1 r
    exact call_bool_int ⟨.bl (i != 0), H, I, rfl, q⟩
  · obtain ⟨u, rfl, r1⟩ := vals1 r
    cases r1
    exact call_bool_bool ⟨.bl k, H, I, rfl, q⟩
theorem call_str_int : CallR X (.type "str") (fun xs H Q => ∃ i, xs = [.int i] ∧ i.natAbs.log2 < 1920 ∧ Q (.str (toString i)) H) := by
  intro pins s σ H xs us Q I r h
  obtain ⟨i, rfl, hz, q⟩ := h
  obtain ⟨u, rfl, t, rfl⟩ := vals1 r
  exact PySem.P.str_of_int hz ⟨.str _, H, I.tok _, ⟨_, rfl⟩, q⟩
theorem call_ord : CallR X (.builtin "ord") (fun xs H Q => ∃ x, xs = [.str x] ∧ x.length = 1 ∧ Q (.int (x.cps.getD 0 0 : Nat)) H) := by
  intro pins s σ H xs us Q I r h
  obtain ⟨x, rfl, hz, q⟩ := h
  obtain ⟨u, rfl, t, rfl⟩ := vals1 r
  exact ord_of_one hz ⟨.int _, H, I.tok _, ⟨_, rfl⟩, q⟩
theorem call_chr : CallR X (.builtin "chr") (fun xs H Q => ∃ i, xs = [.int i] ∧ 0 ≤ i ∧ i ≤ 1114111 ∧ Q (.str ⟨#[i.toNat]⟩) H) := by
  intro pins s σ H xs us Q I r h
  obtain ⟨i, rfl, h0, h1, q⟩ := h
  obtain ⟨u, rfl, t, rfl⟩ := vals1 r
  exact chr_of_range h0 h1 ⟨.str _, H, I.tok _, ⟨_, rfl⟩, q⟩
/-- len of a str, a bytes, a list, a tuple -/
def LenV (K : PySem.W.Frag) (x : V) (H : Hp) (n : Nat) : Prop :=
  match x with
  | .str y => y.length ≤ sizeLine ∧ n = y.length
  | .byt y => y.size ≤ sizeLine ∧ n = y.size
  | .ref p => (∃ xs, SqL K H p xs ∧ n = xs.length) ∨ ∃ xs, SqT K H p xs ∧ n = xs.length
  | _ => False
theorem call_len : CallR X (.builtin "len") (fun xs H Q => ∃ x n, xs = [x] ∧ LenV X.K x H n ∧ Q (.int n) H) := by
  intro pins s σ H xs us Q I r h
  obtain ⟨x, n, rfl, e, q⟩ := h
  obtain ⟨u, rfl, rx⟩ := vals1 r
  have hl := line63
  have hs : sizeLine = 16777216 := sizeLine_eq
  cases x with
  | str y =>
    obtain ⟨t, rfl⟩ := rx
    obtain ⟨hy, e'⟩ : y.length ≤ sizeLine ∧ n = y.length := e
    subst e'
    exact len_str (by omega) ⟨.int _, H, I.tok _, ⟨_, rfl⟩, q⟩
  | byt y =>
    obtain ⟨t, rfl⟩ := rx
    obtain ⟨hy, e'⟩ : y.size ≤ sizeLine ∧ n = y.size := e
    subst e'
    exact PySem.W.len_bytes (by omega) ⟨.int _, H, I.tok _, ⟨_, rfl⟩, q⟩
  | ref p =>
    cases rx
    have e' : (∃ xs, SqL X.K H p xs ∧ n = xs.length) ∨ ∃ xs, SqT X.K H p xs ∧ n = xs.length := e
    rcases e' with ⟨xs, hx, e'⟩ | ⟨xs, hx, e'⟩
    · subst e'
      obtain ⟨its, r', pl, hz⟩ := I.list hx
      have hlen := r'.length
      exact Calls.call_len_list pl.isList (by simp only [List.size_toArray]; omega) ⟨.int xs.length, H, I.tok _, ⟨_, by simp only [List.size_toArray]; rw [hlen]⟩, q⟩
    · subst e'
      obtain ⟨its, r', pl, hz⟩ := I.tuple hx
      have hlen := r'.length
      exact len_tuple pl (by simp only [List.size_toArray]; omega) ⟨.int xs.length, H, I.tok _, ⟨_, by simp only [List.size_toArray]; rw [hlen]⟩, q⟩
  | _ => exact (show False from e).elim
/-- divmod: a new tuple -/
theorem call_divmod : CallR X (.builtin "divmod") (fun xs H Q => ∃ i j, xs = [.int i, .int j] ∧ CDiv i j ∧ ∀ p, H p = none → Q (.ref p) (upd H p (.tup [.int (i / j), .int (i % j)]))) := by
  intro pins s σ H xs us Q I r h
  obtain ⟨i, j, rfl, ⟨h1, h2⟩, q⟩ := h
  obtain ⟨u, w', rfl, ⟨t, rfl⟩, ⟨t', rfl⟩⟩ := vals2 r
  refine divmod_int (by omega) ?_ (.inl (PyProof.noPylong_small (by omega)))
  rw [Int.fdiv_eq_ediv_of_nonneg i (by omega), Int.fmod_eq_emod_of_nonneg i (by omega)]
  have hn : H s.heap.objs.size = none := I.hok.fresh (Nat.le_refl _)
  refine ⟨.ref s.heap.objs.size, _, ?_, rfl, q _ hn⟩
  refine I.laid (fun b o e => Heap.get?_push_of_some _ e) (Nat.le_refl _) ⟨by simp only [List.length_cons, List.length_nil]; rw [sizeLine_eq]; decide, [.int (i / j) s.toks, .int (i % j) (s.toks + 1)], .cons ⟨_, rfl⟩ (.cons ⟨_, rfl⟩ .nil), ?_⟩
  exact ⟨_, Heap.get?_push_size s.heap rfl, rfl, 0, rfl⟩
end
end L2

namespace L2
open PySem PySem.Spec PyProof.Rows

/-! ### an instance, its attributes a map -/
structure ObjM (h : Heap) (x dx C : Addr) (mA : Str → Option Value) : Prop where
  obj : h.get? x = some (PySem.W.instObj C dx)
  ns : h.Ns1 dx mA
  ne : dx ≠ x

theorem lookIn_ns {h : Heap} {dx : Addr} {mA : Str → Option Value} (n : h.Ns1 dx mA) : ∃ od, h.get? dx = some od ∧ ∀ name, PySem.W.lookIn name od = some (mA name) := by
  obtain ⟨o, es, ep, ho, hd, hk, _, hm⟩ := n
  refine ⟨o, ho, fun name => ?_⟩
  have e := hm name
  unfold nsFind findBy at e
  rw [← Array.find?_toList] at e
  unfold PySem.W.lookIn
  rw [hd]
  dsimp only
  split
  · rename_i y q
    rw [q] at e
    exact congrArg some e
  · rename_i q
    rw [q] at e
    have a : es.toList.any (·.refKey) = false := by
      rw [List.any_eq_false]
      intro y hy
      obtain ⟨z, t, hkey⟩ := hk y (Array.mem_toList_iff.mp hy)
      simp [DictEntry.refKey, hkey]
    have a' : ¬ es.toList.any (·.refKey) = true := by rw [a]; exact Bool.false_ne_true
    rw [if_neg a']
    exact congrArg some e

theorem ObjM.look {h : Heap} {x dx C : Addr} {mA : Str → Option Value} (I : ObjM h x dx C mA) : ∃ od, PySem.W.InstAt h x (PySem.W.instObj C dx) C (some od) ∧ ∀ name, PySem.W.lookIn name od = some (mA name) :=
  let ⟨od, ho, hl⟩ := lookIn_ns I.ns
  ⟨od, ⟨I.obj, rfl, rfl, ho⟩, hl⟩

section
variable {prog : Program} {w : World} {A : Around} {E : Value → Shared → Prop} {s : Shared} {K : PySem.W.Frag} {x dx C f : Addr} {mA : Str → Option Value} {name : Str} {v : Value}

theorem get_map {expr : Bool} {Q : Value → Shared → Prop} (X : K.In s.heap) (I : ObjM s.heap x dx C mA) (hg : PySem.W.plainGet K C name = true) (hh : PySem.W.hasDictIn K C = true)
    (ha : PySem.W.findIn K (.ref C) name = some none) (hv : mA name = some v) (hv' : PySem.W.handedIn v = true) (h : Q v { s with toks := s.toks + 1 }) :
    wpAny (model prog w) A (getAttr (.ref x) name expr) Q E s := by
  obtain ⟨od, J, hl⟩ := I.look
  exact PySem.W.get_value X J (PySem.W.plainGet_of hg).1 (PySem.W.findObj_own hh ha rfl (by rw [hl, hv])) hv' h

theorem get_const {expr : Bool} {a : Value} {Q : Value → Shared → Prop} (X : K.In s.heap) (I : ObjM s.heap x dx C mA) (hg : PySem.W.plainGet K C name = true) (hh : PySem.W.hasDictIn K C = true)
    (ha : PySem.W.findIn K (.ref C) name = some (some a)) (hn : PySem.W.specialIn K a "__get__" = some none) (hc : PySem.W.copiedNames.contains name = false) (hv : mA name = none) (hv' : PySem.W.handedIn a = true)
    (h : Q a { s with toks := s.toks + 1 }) : wpAny (model prog w) A (getAttr (.ref x) name expr) Q E s := by
  obtain ⟨od, J, hl⟩ := I.look
  exact PySem.W.get_value X J (PySem.W.plainGet_of hg).1 (PySem.W.findObj_cls hh ha hn hv' hc (by rw [hl, hv])) hv' h

theorem get_meth {pl : Sem Bool} {Q : Value × List Value → Shared → Prop} (X : K.In s.heap) (I : ObjM s.heap x dx C mA) (hg : PySem.W.plainGet K C name = true)
    (hf : PySem.W.findIn K (.ref C) name = some (some (.ref f))) (ht : PySem.W.isFn K (.ref f) = true) (hv : mA name = none) (h : Q (.ref f, [.ref x]) s) :
    wpAny (model prog w) A (getMethod (.ref x) name pl) Q E s := by
  obtain ⟨od, J, hl⟩ := I.look
  exact PySem.W.method_fn X J (PySem.W.plainGet_of hg).1 (PySem.W.plainGet_of hg).2 hf (beq_iff_eq.mp ht) (by show (PySem.W.lookIn name od).map (·.isSome) = some false; rw [hl, hv]; rfl) h

theorem set_map {ns : List Str} {Q : Unit → Shared → Prop} (X : K.In s.heap) (I : ObjM s.heap x dx C mA)
    (hs : PySem.W.findIn K (.ref C) "__setattr__" = some (some (.builtin "object.__setattr__"))) (hp : PySem.W.plainOver K C = true) (ht : PySem.W.takerIn K C name = some none) (hh : PySem.W.hasDictIn K C = true)
    (hw : PySem.Within mA ns) (hsz : ns.length ≤ sizeLine)
    (h : ∀ h', ObjM h' x dx C (fun y => if y = name then some v else mA y) → Heap.SameBut dx s.heap h' → Q () { s with heap := h', toks := s.toks + 2 }) :
    wpAny (model prog w) A (setAttr (.ref x) name v) Q E s := by
  obtain ⟨od, J, hl⟩ := I.look
  refine PySem.W.set_plain X J hs (PySem.W.osa_open (s := { s with toks := s.toks + 1 }) (r := none) X J hp ht fun b => ?_)
  obtain ⟨cd, hc, hd'⟩ := PySem.W.any_some hh
  have hx : s.heap.get? x = some ⟨.ref C, some dx, .plain, #[]⟩ := I.obj
  refine wpAny_bind (wpAny_pure (wpAny_bind (wpAny_bind (wpAny_loadPart hx (wpAny_bind (PySem.W.Looks.here (s := { s with toks := s.toks + 1 }) (PySem.W.looks_clsIn X hc) ?_))))))
  rw [hd']
  refine wpAny_pure (a := some dx) (wpAny_bind (wpAny_pure (wpAny_bind ?_)))
  refine wpAny_nsSet1 (s := { s with toks := s.toks + 1 }) I.ns fun h' hn2 hs2 => ?_
  obtain ⟨oD, esD, epD, hoD, hdD, hcD⟩ := hn2.count (PySem.Within.cons name v hw)
  refine wpAny_bind (wpAny_lookBehind hoD (by rw [hdD]; exact pastItsLine_dict (Nat.le_trans hcD (by rw [List.length_cons]; omega))) ?_)
  exact wpAny_pure (h _ ⟨(hs2.2 _ (Ne.symm I.ne)).trans I.obj, hn2, I.ne⟩ hs2)

/-- C(..): the dict at the heap's end, the instance behind it; then its __init__ -/
theorem make_map {R : Result → Shared → Prop} {vs : List Value} {kw : List (Str × Value)} (X : K.In s.heap) (hm : PySem.W.makesIn K C = true)
    (hi : PySem.W.findIn K (.ref C) "__init__" = some (some (.ref f))) (hf : PySem.W.typeIn K (.ref f) = some (.type "function"))
    (h : codeAny (model prog w) (A.under (.builtin "type.__call__" ⟨.ref C :: vs, kw⟩)) (.call (.ref f) ⟨.ref (s.heap.objs.size + 1) :: vs, kw⟩) (PySem.W.InitBack (s.heap.objs.size + 1) R)
      { s with heap := (s.heap.push PySem.W.emptyDict).push (PySem.W.instObj C s.heap.objs.size) }) :
    codeAny (model prog w) A (.call (.ref C) ⟨vs, kw⟩) R s := by
  obtain ⟨hh, g, d, t, os⟩ := s
  exact PySem.W.make_core (PySem.W.makes_of X hm) (PySem.W.looks_findIn X hi) (fun self => PySem.W.bind_fn X self hf) (.inl rfl) h
/-- C() where there is no __init__ but object's -/
theorem make_map0 {R : Result → Shared → Prop} (X : K.In s.heap) (hm : PySem.W.makesIn K C = true)
    (hi : PySem.W.findIn K (.ref C) "__init__" = some (some (.builtin "object.__init__")))
    (hb : ∀ self, PySem.W.Looks (model prog w) s.heap (bindSpecial (.builtin "object.__init__") self) (.builtin "object.__init__", [self]))
    (h : codeAny (model prog w) (A.under (.builtin "type.__call__" ⟨[.ref C], []⟩)) (.call (.builtin "object.__init__") ⟨[.ref (s.heap.objs.size + 1)], []⟩) (PySem.W.InitBack (s.heap.objs.size + 1) R)
      { s with heap := (s.heap.push PySem.W.emptyDict).push (PySem.W.instObj C s.heap.objs.size) }) :
    codeAny (model prog w) A (.call (.ref C) ⟨[], []⟩) R s := by
  obtain ⟨hh, g, d, t, os⟩ := s
  exact PySem.W.make_core (PySem.W.makes_of X hm) (PySem.W.looks_findIn X hi) hb (.inr ⟨rfl, rfl⟩) h
end

/-! ### the attributes as a list of pairs -/
def putF (f : Str) (v : V) : List (Str × V) → List (Str × V)
  | [] => [(f, v)]
  | (g, x) :: r => if g = f then (g, v) :: r else (g, x) :: putF f v r
theorem lookup_putF (f g : Str) (v : V) : ∀ fs : List (Str × V), (putF f v fs).lookup g = if g = f then some v else fs.lookup g
  | [] => by
    show List.lookup g [(f, v)] = _
    by_cases h : g = f
    · have hb : (g == f) = true := beq_iff_eq.mpr h
      simp only [List.lookup, hb, if_pos h]
    · have hb : (g == f) = false := beq_eq_false_iff_ne.mpr h
      simp only [List.lookup, hb, if_neg h]
  | (k, x) :: r => by
    have ih := lookup_putF f g v r
    rw [show putF f v ((k, x) :: r) = (if k = f then (k, v) :: r else (k, x) :: putF f v r) from rfl]
    by_cases hk : k = f
    · rw [if_pos hk]
      by_cases h : g = k
      · have hb : (g == k) = true := beq_iff_eq.mpr h
        simp only [List.lookup, hb, if_pos (h.trans hk)]
      · have hb : (g == k) = false := beq_eq_false_iff_ne.mpr h
        simp only [List.lookup, hb, if_neg (fun e : g = f => h (e.trans hk.symm))]
    · rw [if_neg hk]
      by_cases h : g = k
      · have hb : (g == k) = true := beq_iff_eq.mpr h
        simp only [List.lookup, hb, if_neg (fun e : g = f => hk (h.symm.trans e))]
      · have hb : (g == k) = false := beq_eq_false_iff_ne.mpr h
        simp only [List.lookup, hb]
        exact ih
theorem keys_putF (f : Str) (v : V) : ∀ fs : List (Str × V), f ∈ (putF f v fs).map (·.1) ∧ ∀ g, g ∈ fs.map (·.1) → g ∈ (putF f v fs).map (·.1)
  | [] => ⟨by simp [putF], fun g h => by simp at h⟩
  | (k, x) :: r => by
    obtain ⟨i1, i2⟩ := keys_putF f v r
    rw [show putF f v ((k, x) :: r) = (if k = f then (k, v) :: r else (k, x) :: putF f v r) from rfl]
    by_cases hk : k = f
    · rw [if_pos hk]
      subst hk
      exact ⟨by simp, fun g h => by simpa using h⟩
    · rw [if_neg hk]
      refine ⟨?_, fun g h => ?_⟩
      · rw [List.map_cons]
        exact List.mem_cons_of_mem _ i1
      · rw [List.map_cons] at h ⊢
        rcases List.mem_cons.mp h with e | e
        · exact List.mem_cons.mpr (.inl e)
        · exact List.mem_cons_of_mem _ (i2 g e)
theorem length_putF (f : Str) (v : V) : ∀ fs : List (Str × V), (putF f v fs).length ≤ fs.length + 1
  | [] => by simp [putF]
  | (k, x) :: r => by
    have ih := length_putF f v r
    rw [show putF f v ((k, x) :: r) = (if k = f then (k, v) :: r else (k, x) :: putF f v r) from rfl]
    by_cases hk : k = f
    · rw [if_pos hk, List.length_cons, List.length_cons]; omega
    · rw [if_neg hk, List.length_cons, List.length_cons]; omega

theorem RelO.some_of {v : V} {o : Option Value} (r : RelO (some v) o) : ∃ u, o = some u ∧ RelV v u := by
  cases o with
  | none => exact (show False from r).elim
  | some u => exact ⟨u, rfl, r⟩
theorem RelO.none_of {o : Option Value} (r : RelO none o) : o = none := by
  cases o with
  | none => rfl
  | some u => exact (show False from r).elim
theorem handed_of {v : V} {u : Value} (r : RelV v u) : PySem.W.handedIn u = true := by
  cases v with
  | non => cases (show u = Value.none from r); rfl
  | bl b => cases (show u = Value.bool b from r); rfl
  | int i => obtain ⟨t, e⟩ := (show ∃ t, u = Value.int i t from r); cases e; rfl
  | str x => obtain ⟨t, e⟩ := (show ∃ t, u = Value.str x t from r); cases e; rfl
  | byt b => obtain ⟨t, e⟩ := (show ∃ t, u = Value.bytes b t from r); cases e; rfl
  | flt b => obtain ⟨t, e⟩ := (show ∃ t, u = Value.float b t from r); cases e; rfl
  | ref a => cases (show u = Value.ref a from r); rfl
  | ty n => cases (show u = Value.type n from r); rfl

section
variable {P : Program} {w : World} {H H' : Hp} {h h' : Heap} {a C dx : Addr} {fs fs' : List (Str × V)}
theorem ins_get (hok : HOk P w H h) (e : H a = some (.ins C dx fs)) : ∃ mA, ObjM h a dx C mA ∧ (∀ f, RelO (fs.lookup f) (mA f)) ∧ PySem.Within mA (fs.map (·.1)) ∧ fs.length ≤ 1000 ∧ H dx = some (.own a) := by
  obtain ⟨d, z, ne, ob, mA, n, r, q⟩ := (show ObjOk P w H h a (.ins C dx fs) from hok a _ e)
  exact ⟨mA, ⟨ob, n, ne⟩, r, q, z, d⟩
end

/-! ### what of the text a class must have -/
structure Cls (K : PySem.W.Frag) (C : Addr) : Prop where
  pg : PySem.W.plainGet K C Str.empty = true
  hd : PySem.W.hasDictIn K C = true
  po : PySem.W.plainOver K C = true
  sa : PySem.W.findIn K (.ref C) "__setattr__" = some (some (.builtin "object.__setattr__"))
theorem Cls.get {K : PySem.W.Frag} {C : Addr} (c : Cls K C) (f : Str) : PySem.W.plainGet K C f = true := c.pg
/-- no class of it has the name -/
def NoAttr (K : PySem.W.Frag) (C : Addr) (f : Str) : Prop := PySem.W.findIn K (.ref C) f = some none
theorem NoAttr.taker {K : PySem.W.Frag} {C : Addr} {f : Str} (n : NoAttr K C f) : PySem.W.takerIn K C f = some none := by
  unfold PySem.W.takerIn
  rw [show PySem.W.findIn K (.ref C) f = some none from n]
  rfl
/-- a constant of the class -/
structure Con (K : PySem.W.Frag) (C : Addr) (f : Str) (v : V) (u : Value) : Prop where
  at_ : PySem.W.findIn K (.ref C) f = some (some u)
  rel : RelV v u
  get : PySem.W.specialIn K u "__get__" = some none
  cp : PySem.W.copiedNames.contains f = false
/-- a method: a plain def of the class or of one above it -/
structure Meth (K : PySem.W.Frag) (C : Addr) (m : Str) (f : Addr) : Prop where
  at_ : PySem.W.findIn K (.ref C) m = some (some (.ref f))
  fn : PySem.W.isFn K (.ref f) = true
  kp : PySem.W.keepIn K (.ref f) = true

section
variable {X : Cx} {pins : List (Addr × Obj)} {σ : St} {H : Hp} {s : Shared} {a C dx : Addr} {fs : List (Str × V)} {f : Str} {v : V} {A : Around} {E : Value → Shared → Prop}

theorem getattr_ok {b : Bool} {Q : Value → Shared → Prop} (I : Inv X pins σ H s) (e : H a = some (.ins C dx fs)) (c : Cls X.K C) (n : NoAttr X.K C f) (l : fs.lookup f = some v)
    (h : ∀ u s', Inv X pins σ H s' → RelV v u → Q u s') : wpAny (model X.prog X.w) A (getAttr (.ref a) f b) Q E s := by
  obtain ⟨mA, O, r, _, _, _⟩ := ins_get I.hok e
  obtain ⟨u, hu, ru⟩ := RelO.some_of (v := v) (o := mA f) (by rw [← l]; exact r f)
  exact get_map I.kIn O (c.get f) c.hd n hu (handed_of ru) (h u _ (I.tok _) ru)

theorem getcon_ok {b : Bool} {u : Value} {Q : Value → Shared → Prop} (I : Inv X pins σ H s) (e : H a = some (.ins C dx fs)) (c : Cls X.K C) (k : Con X.K C f v u) (l : fs.lookup f = none)
    (h : ∀ s', Inv X pins σ H s' → Q u s') : wpAny (model X.prog X.w) A (getAttr (.ref a) f b) Q E s := by
  obtain ⟨mA, O, r, _, _, _⟩ := ins_get I.hok e
  have hn : mA f = none := RelO.none_of (by rw [← l]; exact r f)
  exact get_const I.kIn O (c.get f) c.hd k.at_ k.get k.cp hn (handed_of k.rel) (h _ (I.tok _))

theorem getmeth_ok {m : Str} {g : Addr} {pl : Sem Bool} {Q : Value × List Value → Shared → Prop} (I : Inv X pins σ H s) (e : H a = some (.ins C dx fs)) (c : Cls X.K C) (k : Meth X.K C m g) (l : fs.lookup m = none)
    (h : Q (.ref g, [.ref a]) s) : wpAny (model X.prog X.w) A (getMethod (.ref a) m pl) Q E s := by
  obtain ⟨mA, O, r, _, _, _⟩ := ins_get I.hok e
  have hn : mA m = none := RelO.none_of (by rw [← l]; exact r m)
  exact get_meth I.kIn O (c.get m) k.at_ k.fn hn h

theorem setattr_ok {y : V} {u : Value} {Q : Unit → Shared → Prop} (I : Inv X pins σ H s) (e : H a = some (.ins C dx fs)) (c : Cls X.K C) (n : NoAttr X.K C f) (hl : fs.length < 1000) (ry : RelV y u)
    (h : ∀ s', Inv X pins σ (upd H a (.ins C dx (putF f y fs))) s' → Q () s') : wpAny (model X.prog X.w) A (setAttr (.ref a) f u) Q E s := by
  obtain ⟨mA, O, r, wi, _, ho⟩ := ins_get I.hok e
  have hz : (fs.map (·.1)).length ≤ sizeLine := by rw [List.length_map, sizeLine_eq]; omega
  refine set_map I.kIn O c.sa c.po n.taker c.hd wi hz fun h' O' sb => h _ ?_
  have hd : ∃ o, h'.get? dx = some o := let ⟨o, _, _, e', _⟩ := O'.ns; ⟨o, e'⟩
  refine I.write (x := a) (e := dx) (by rw [e]; exact True.intro) (.inr ho) (fun b q hb z => (sb.2 b hb).trans z) hd ?_
  refine ⟨by rw [upd_ne O.ne]; exact ho, ?_, O.ne, O'.obj, _, O'.ns, fun g => ?_, fun g hg => ?_⟩
  · have := length_putF f y fs; omega
  · show RelO ((putF f y fs).lookup g) (if g = f then some u else mA g)
    rw [lookup_putF]
    by_cases q : g = f
    · rw [if_pos q, if_pos q]; exact ry
    · rw [if_neg q, if_neg q]; exact r g
  · by_cases q : g = f
    · rw [q]; exact (keys_putF f y fs).1
    · refine (keys_putF f y fs).2 g (wi g fun z => hg ?_)
      show (if g = f then some u else mA g) = none
      rw [if_neg q]; exact z

/-- a new instance, tracked, without attributes -/
theorem Inv.made (I : Inv X pins σ H s) : Inv X pins σ (upd (upd H s.heap.objs.size (.own (s.heap.objs.size + 1))) (s.heap.objs.size + 1) (.ins C s.heap.objs.size []))
    { s with heap := (s.heap.push PySem.W.emptyDict).push (PySem.W.instObj C s.heap.objs.size) } := by
  have e1 : (s.heap.push PySem.W.emptyDict).get? s.heap.objs.size = some PySem.W.emptyDict := Heap.get?_push_size s.heap rfl
  have e2 : ((s.heap.push PySem.W.emptyDict).push (PySem.W.instObj C s.heap.objs.size)).get? (s.heap.objs.size + 1) = some (PySem.W.instObj C s.heap.objs.size) := by
    have := Heap.get?_push_size (s.heap.push PySem.W.emptyDict) (o := PySem.W.instObj C s.heap.objs.size) rfl
    rwa [Heap.size_push] at this
  have e3 : (s.heap.push PySem.W.emptyDict).Ns s.heap.objs.size (fun _ => none) := ⟨PySem.W.emptyDict, #[], _, e1, rfl, (fun e he => absurd he (by simp)), fun _ => rfl⟩
  have I1 := I.laid (a := s.heap.objs.size) (o := .own (s.heap.objs.size + 1)) (h' := s.heap.push PySem.W.emptyDict) (t' := s.toks) (fun b u q => Heap.get?_push_of_some _ q) (Nat.le_refl _) ⟨_, e1⟩
  refine I1.laid (a := s.heap.objs.size + 1) (o := .ins C s.heap.objs.size []) (t' := s.toks) (fun b u q => Heap.get?_push_of_some _ q) (Nat.le_of_eq (Heap.size_push _ _)) ?_
  have ne : s.heap.objs.size ≠ s.heap.objs.size + 1 := Nat.ne_of_lt (Nat.lt_succ_self _)
  refine ⟨by rw [upd_ne ne, upd_same], Nat.zero_le _, ne, e2, fun _ => none, (Heap.Ns1.of_empty e3).at fun o q => Heap.get?_push_of_some _ q, fun _ => True.intro, fun y hy => absurd rfl hy⟩

/-- e.f where nothing but the object is asked: through attributeBase (super) and the last hold -/
theorem attr_of {prog : Program} {w : World} {env : Env} {e : Expr} {f : Str} {pos : Pos} {s : Shared} {Q : Value → Shared → Prop} (hb : attributeBase e f env (eval e env) = eval e env)
    (h : wpAny (model prog w) A (eval e env) (fun o s₁ => wpAny (model prog w) A (getAttr o f true) Q E s₁) E s) : wpAny (model prog w) A (eval (.Attribute e f pos) env) Q E s :=
  Attribute_any_ h (by rw [arm_eval_Attribute, hb])
end

/-! ### readings and rules -/
/-- e.f, an attribute of the instance -/
def tFld (K : PySem.W.Frag) (ta : TE) (f : Str) : TE := fun σ H Q => ta σ H fun x H1 => ∃ a C dx fs v, x = .ref a ∧ H1 a = some (.ins C dx fs) ∧ Cls K C ∧ NoAttr K C f ∧ fs.lookup f = some v ∧ Q v H1
/-- e.f, a constant of the class -/
def tCon (K : PySem.W.Frag) (ta : TE) (f : Str) : TE := fun σ H Q => ta σ H fun x H1 => ∃ a C dx fs v u, x = .ref a ∧ H1 a = some (.ins C dx fs) ∧ Cls K C ∧ Con K C f v u ∧ fs.lookup f = none ∧ Q v H1
/-- e.f = value -/
def sFld (K : PySem.W.Frag) (ta tv : TE) (f : Str) : TS := fun D σ H => tv σ H fun y H1 => ta σ H1 fun x H2 => ∃ a C dx fs, x = .ref a ∧ H2 a = some (.ins C dx fs) ∧ Cls K C ∧ NoAttr K C f ∧ fs.length < 1000 ∧
  D.nx σ (upd H2 a (.ins C dx (putF f y fs)))
/-- an augmented operator on two values -/
def InOp (X : Cx) (op : Operator) (rd : V → V → Hp → VK → Prop) : Prop :=
  ∀ (pins : List (Addr × Obj)) (s : Shared) (σ : St) (H : Hp) (x y : V) (u v : Value) (Q : VK), Inv X pins σ H s → RelV x u → RelV y v → rd x y H Q → wpAny (model X.prog X.w) X.A (inplaceOp op u v) (EP X pins σ Q) X.xe s
/-- e.f op= value -/
def sFldAug (K : PySem.W.Frag) (ta tv : TE) (rd : V → V → Hp → VK → Prop) (f : Str) : TS := fun D σ H => ta σ H fun x H1 => ∃ a C dx fs v, x = .ref a ∧ H1 a = some (.ins C dx fs) ∧ Cls K C ∧ NoAttr K C f ∧ fs.lookup f = some v ∧
  tv σ H1 fun y H2 => rd v y H2 fun z H3 => ∃ dx' fs', H3 a = some (.ins C dx' fs') ∧ fs'.length < 1000 ∧ D.nx σ (upd H3 a (.ins C dx' (putF f z fs')))

section
variable {X : Cx} {o e value : Expr} {f : Str} {pos pos' tpos : Pos} {ta tv : TE}
theorem pe_fld (he : PE X e ta) (hb : attributeBase e f X.env (eval e X.env) = eval e X.env) : PE X (.Attribute e f pos) (tFld X.K ta f) := by
  intro pins s σ H Q I h
  refine attr_of hb (thn (he pins s σ H _ I h) fun u s1 ⟨x, H1, I1, rx, a, C, dx, fs, v, ex, ea, c, n, l, q⟩ => ?_)
  subst ex
  obtain rfl : u = Value.ref a := rx
  exact getattr_ok I1 ea c n l fun u' s2 I2 ru => ⟨v, H1, I2, ru, q⟩
theorem pe_con (he : PE X e ta) (hb : attributeBase e f X.env (eval e X.env) = eval e X.env) : PE X (.Attribute e f pos) (tCon X.K ta f) := by
  intro pins s σ H Q I h
  refine attr_of hb (thn (he pins s σ H _ I h) fun u s1 ⟨x, H1, I1, rx, a, C, dx, fs, v, u0, ex, ea, c, k, l, q⟩ => ?_)
  subst ex
  obtain rfl : u = Value.ref a := rx
  exact getcon_ok I1 ea c k l fun s2 I2 => ⟨v, H1, I2, k.rel, q⟩
theorem ps_fld (ha : PE X o ta) (hv : PE X value tv) (hs : swapsWith value (some (.Attribute o f pos')) pos.line X.env = pure false) : PS X (.Assign [.Attribute o f pos'] value pos) (sFld X.K ta tv f) := by
  intro pins s σ H D I h
  refine plainObj_wpAny_Assign_Attribute (thn (hv pins s σ H _ I h) fun u s1 ⟨y, H1, I1, ry, q⟩ => thn (ha pins s1 σ H1 _ I1 q) fun ov s2 ⟨x, H2, I2, rx, a, C, dx, fs, ex, ea, c, n, l, q2⟩ => ?_) hs
  subst ex
  obtain rfl : ov = Value.ref a := rx
  exact setattr_ok I2 ea c n l ry fun s3 I3 => ⟨σ, _, I3, q2⟩
theorem ps_fldaug {op : Operator} {rd : V → V → Hp → VK → Prop} (ha : PE X o ta) (hv : PE X value tv) (hop : InOp X op rd) : PS X (.AugAssign (.Attribute o f tpos) op value pos) (sFldAug X.K ta tv rd f) := by
  intro pins s σ H D I h
  refine wpAny_AugAssign_AttributeAny (thn (ha pins s σ H _ I h) fun ov s1 ⟨x, H1, I1, rx, a, C, dx, fs, v, ex, ea, c, n, l, q⟩ => ?_)
  subst ex
  obtain rfl : ov = Value.ref a := rx
  refine getattr_ok I1 ea c n l fun u s2 I2 ru => thn (hv pins s2 σ H1 _ I2 q) fun w3 s3 ⟨y, H2, I3, ry, q3⟩ => thn (hop pins s3 σ H2 v y u w3 _ I3 ru ry q3) fun w4 s4 ⟨z, H3, I4, rz, dx', fs', ea', l', q4⟩ => ?_
  exact setattr_ok I4 ea' c n l' rz fun s5 I5 => ⟨σ, _, I5, q4⟩
def rAdd : V → V → Hp → VK → Prop := fun x y H Q => ∃ i j, x = .int i ∧ y = .int j ∧ Q (.int (i + j)) H
def rSub : V → V → Hp → VK → Prop := fun x y H Q => ∃ i j, x = .int i ∧ y = .int j ∧ Q (.int (i - j)) H
theorem in_add : InOp X .Add rAdd := by
  rintro pins s σ H x y u v Q I rx ry ⟨i, j, rfl, rfl, q⟩
  obtain ⟨t, rfl⟩ := (show ∃ t, u = Value.int i t from rx)
  obtain ⟨t', rfl⟩ := (show ∃ t', v = Value.int j t' from ry)
  exact PyProof.Rows.iadd_int ⟨.int (i + j), H, I.tok _, ⟨_, rfl⟩, q⟩
theorem in_sub : InOp X .Sub rSub := by
  rintro pins s σ H x y u v Q I rx ry ⟨i, j, rfl, rfl, q⟩
  obtain ⟨t, rfl⟩ := (show ∃ t, u = Value.int i t from rx)
  obtain ⟨t', rfl⟩ := (show ∃ t', v = Value.int j t' from ry)
  exact PyProof.Rows.isub_int ⟨.int (i - j), H, I.tok _, ⟨_, rfl⟩, q⟩

/-- what is between an instance and its method: the tree of a method call -/
theorem methcall_of {pl : Sem Bool} {m : Str} {apos : Pos} {args : List Expr} {pins : List (Addr × Obj)} {s : Shared} {σ : St} {H : Hp} {Q : Value → Shared → Prop} {te : TE} (he : PE X e te) (I : Inv X pins σ H s)
    (h : te σ H fun x H1 => ∃ a C dx fs g, x = .ref a ∧ H1 a = some (.ins C dx fs) ∧ Cls X.K C ∧ Meth X.K C m g ∧ fs.lookup m = none ∧
      ∀ s1, Inv X pins σ H1 s1 → wpAny (model X.prog X.w) X.A (callWith pos (.ref g) [.ref a] (backTo pos (starEach args X.env)) (backToKw pos (keywordEach [] X.env))) Q X.xe s1)
    (ht : eval (.Call (.Attribute e m apos) args [] pos) X.env = (do
      let ov ← eval e X.env
      standAt apos.atName
      let (f, first) ← holding [ov] (getMethod ov m pl)
      callWith pos f first (backTo pos (starEach args X.env)) (backToKw pos (keywordEach [] X.env)))) :
    wpAny (model X.prog X.w) X.A (eval (.Call (.Attribute e m apos) args [] pos) X.env) Q X.xe s := by
  refine PySem.W.methodCall_KW (pl := pl) (thn (he pins s σ H _ I h) fun u s1 ⟨x, H1, I1, rx, a, C, dx, fs, g, ex, ea, c, k, l, q⟩ => ?_) ht
  subst ex
  obtain rfl : u = Value.ref a := rx
  exact getmeth_ok I1 ea c k l (q s1 I1)
end

/-! ### isinstance -/
section
variable {X : Cx} {pins : List (Addr × Obj)} {σ : St} {H : Hp} {s : Shared} {A : Around} {E : Value → Shared → Prop} {Q : Value → Shared → Prop} {c : Value} {b : Bool}
/-- the type of a value, as the fragment's deciders take it; for an instance its class -/
inductive TyOf (K : PySem.W.Frag) (H : Hp) : V → Value → Prop where
  | non : TyOf K H .non (.type "NoneType")
  | bl (x : Bool) : TyOf K H (.bl x) (.type "bool")
  | int (i : Int) : TyOf K H (.int i) (.type "int")
  | str (x : Str) : TyOf K H (.str x) (.type "str")
  | flt (x : UInt64) : TyOf K H (.flt x) (.type "float")
  | lst {a : Addr} {xs : List V} (e : H a = some (.lst xs)) : TyOf K H (.ref a) (.type "list")
  | frz {a : Addr} {o : Obj} {xs : List V} (e : H a = some (.frz o (.lst xs))) : TyOf K H (.ref a) (.type "list")
  | tup {a : Addr} {xs : List V} (e : H a = some (.tup xs)) : TyOf K H (.ref a) (.type "tuple")
  | dK {a : Addr} {kvs : List (Key × V)} (e : H a = some (.dK kvs)) : TyOf K H (.ref a) (.type "dict")
  | dT {a : Addr} {kvs : List (List Key × V)} (e : H a = some (.dT kvs)) : TyOf K H (.ref a) (.type "dict")
  | ins {a C dx : Addr} {fs : List (Str × V)} (e : H a = some (.ins C dx fs)) (cl : Cls K C) (ha : PySem.W.findIn K (.ref C) "__class__" = some (some (.builtin "object.__class__")))
      (hn : PySem.W.specialIn K (.builtin "object.__class__") "__get__" = some (some (.builtin "getset_descriptor.__get__"))) (htk : PySem.W.takesIn K (.builtin "object.__class__") = some true)
      (hm : PySem.W.mroIn K C (.type "object") = some true) : TyOf K H (.ref a) (.ref C)
/-- isinstance(x, c) for one class c, a built-in or an own one: kitOne's answer -/
theorem isinst_ok {x : V} {u t : Value} (I : Inv X pins σ H s) (rx : RelV x u) (ty : TyOf X.K H x t) (e : PySem.W.kitOne X.K t c = some b) (h : ∀ tk, Q (.bool b) { s with toks := tk }) :
    wpAny (model X.prog X.w) A (call (.builtin "isinstance") [u, c]) Q E s := by
  cases ty with
  | non => cases (show u = Value.none from rx); exact PySem.W.kia_one PySem.W.kitx_none I.kIn True.intro e (fun z => nomatch z) h
  | bl y => cases (show u = Value.bool y from rx); exact PySem.W.kia_one PySem.W.kitx_bool I.kIn True.intro e (fun z => nomatch z) h
  | int i => obtain ⟨t, q⟩ := (show ∃ t, u = Value.int i t from rx); cases q; exact PySem.W.kia_one PySem.W.kitx_int I.kIn True.intro e (fun z => nomatch z) h
  | str y => obtain ⟨t, q⟩ := (show ∃ t, u = Value.str y t from rx); cases q; exact PySem.W.kia_one PySem.W.kitx_str I.kIn True.intro e (fun z => nomatch z) h
  | flt y => obtain ⟨t, q⟩ := (show ∃ t, u = Value.float y t from rx); cases q; exact PySem.W.kia_one PySem.W.kitx_float I.kIn True.intro e (fun z => nomatch z) h
  | @lst a xs ea =>
    cases (show u = Value.ref a from rx)
    obtain ⟨_, _, n, _, h1⟩ := (show ObjOk X.prog X.w H s.heap a (.lst xs) from I.hok a _ ea)
    exact PySem.W.kia_one PySem.W.kitx_list I.kIn ⟨_, h1, rfl⟩ e (fun z => nomatch z) h
  | @frz a ob xs ea =>
    cases (show u = Value.ref a from rx)
    obtain ⟨_, _, _, n, _, h1⟩ := (show ObjOk X.prog X.w H s.heap a (.frz ob (.lst xs)) from I.hok a _ ea)
    exact PySem.W.kia_one PySem.W.kitx_list I.kIn ⟨_, h1, rfl⟩ e (fun z => nomatch z) h
  | @tup a xs ea =>
    cases (show u = Value.ref a from rx)
    obtain ⟨_, _, _, p⟩ := (show ObjOk X.prog X.w H s.heap a (.tup xs) from I.hok a _ ea)
    obtain ⟨o, h1, h2, _⟩ := p
    exact PySem.W.kia_one PySem.W.kitx_tuple I.kIn ⟨o, h1, h2⟩ e (fun z => nomatch z) h
  | @dK a kvs ea =>
    cases (show u = Value.ref a from rx)
    obtain ⟨_, _, vs, _, p⟩ := (show ObjOk X.prog X.w H s.heap a (.dK kvs) from I.hok a _ ea)
    obtain ⟨o, es, ep, h1, h2, _⟩ := p
    exact PySem.W.kia_one PySem.W.kitx_dict I.kIn ⟨o, h1, h2.1⟩ e (fun z => nomatch z) h
  | @dT a kvs ea =>
    cases (show u = Value.ref a from rx)
    obtain ⟨_, _, xs, _, o, es, ep, h1, h2, _⟩ := (show ObjOk X.prog X.w H s.heap a (.dT kvs) from I.hok a _ ea)
    exact PySem.W.kia_one PySem.W.kitx_dict I.kIn ⟨o, h1, h2.1⟩ e (fun z => nomatch z) h
  | @ins a C dx fs ea cl ha hn htk hm =>
    cases (show u = Value.ref a from rx)
    obtain ⟨mA, O, _⟩ := ins_get I.hok ea
    obtain ⟨od, J, _⟩ := O.look
    exact PySem.W.kia_one (PySem.W.kitx_own (cl.get _) cl.hd ha hn htk hm) I.kIn J e (fun z => nomatch z) h
end
end L2

namespace L2
open PySem PySem.Spec PyProof.Rows

/-! ### room -/
structure Room (k : Nat) (A : Around) : Prop where
  hd : A.handled = none
  dp : A.depth + 3 * k + 5 < recursionLimit
  un : A.units + 16 * k + 200 < cLine
theorem Room.mono {j k : Nat} {A : Around} (r : Room k A) (h : j ≤ k) : Room j A := ⟨r.hd, by have := r.dp; omega, by have := r.un; omega⟩
theorem Room.deeper {k : Nat} {A : Around} (r : Room (k + 1) A) (env : Env) : Room k (A.deeper env) :=
  ⟨r.hd, by have := r.dp; show A.depth + 1 + 3 * k + 5 < _; omega, by have := r.un; show A.units + 3 + 16 * k + 200 < _; omega⟩
theorem Room.in1 {k : Nat} {A : Around} (r : Room (k + 1) A) : Room k A.in1 :=
  ⟨r.hd, by have := r.dp; show A.depth + 3 * k + 5 < _; omega, by have := r.un; show A.units + 1 + 16 * k + 200 < _; omega⟩
theorem make_depth {A : Around} {C : Addr} {us : List Value} {kw : List (Str × Value)} : (A.under (.builtin "type.__call__" ⟨.ref C :: us, kw⟩)).depth = A.depth + 1 := by
  first | rfl | simp [Around.under, Code.weight, Code.isCreation, Code.isGuard, Code.isCaller, Code.frames, Code.isFrame, guardIds]
theorem make_units {A : Around} {C : Addr} {us : List Value} {kw : List (Str × Value)} : (A.under (.builtin "type.__call__" ⟨.ref C :: us, kw⟩)).units = A.units + 1 := by
  first | rfl | simp [Around.under, Code.cUnits, Code.frames, Code.isFrame]
theorem Room.make {k : Nat} {A : Around} (r : Room (k + 1) A) (C : Addr) (us : List Value) (kw : List (Str × Value)) : Room k (A.under (.builtin "type.__call__" ⟨.ref C :: us, kw⟩)) :=
  ⟨r.hd, by have := r.dp; rw [make_depth]; omega, by have := r.un; rw [make_units]; omega⟩
theorem Room.depth {k : Nat} {A : Around} (r : Room k A) : A.depth < recursionLimit := by have := r.dp; omega
theorem Room.units {k : Nat} {A : Around} (r : Room k A) : A.units + 64 < cLine := by have := r.un; omega
theorem Room.units0 {k : Nat} {A : Around} (r : Room k A) : A.units < cLine := by have := r.un; omega

/-! ### argument lists and displays -/
def tNil : TA := fun _ H Q => Q [] H
def tCons (ta : TE) (tr : TA) : TA := fun σ H Q => ta σ H fun x H1 => tr σ H1 fun xs H2 => Q (x :: xs) H2
section
variable {X : Cx} {e : Expr} {es : List Expr} {te : TE} {t : TA} {pos : Pos}
theorem pa_nil : PA X [] tNil := fun _ _ _ _ H Q I h => Calls.spliced_nil ⟨[], H, I, .nil, h⟩
theorem pa_cons (ha : PE X e te) (hr : PA X es t) (hs : starEach (e :: es) X.env = (false, eval e X.env) :: starEach es X.env := by rfl) : PA X (e :: es) (tCons te t) := by
  intro pos pins s σ H Q I h
  rw [hs]
  show wpAny _ _ (spliced ((false, eval e X.env) :: backTo pos (starEach es X.env))) _ _ s
  refine Calls.spliced_cons (thn (ha pins s σ H _ I h) fun u s1 ⟨x, H1, I1, r1, q1⟩ => ?_)
  exact thn (hr pos pins s1 σ H1 _ I1 q1) fun us s2 ⟨xs, H2, I2, r2, q2⟩ => ⟨x :: xs, H2, I2, .cons r1 r2, q2⟩

/-- a tuple, a list of written items -/
def tTup (t : TA) : TE := fun σ H Q => t σ H fun xs H1 => xs.length ≤ sizeLine ∧ ∀ p, H1 p = none → Q (.ref p) (upd H1 p (.tup xs))
def tLst (t : TA) : TE := fun σ H Q => t σ H fun xs H1 => xs.length ≤ sizeLine ∧ ∀ p, H1 p = none → Q (.ref p) (upd H1 p (.lst xs))
theorem pe_tup {x1} (h : PA X es t) : PE X (.Tuple es x1 pos) (tTup t) := by
  intro pins s σ H Q I hq
  refine wpAny_Tuple_spliced (thn (h pos pins s σ H _ I hq) fun us s1 ⟨xs, H1, I1, r, z, q⟩ => ⟨by rw [← r.length]; exact z, ?_⟩)
  have hf : H1 s1.heap.objs.size = none := I1.hok.fresh (Nat.le_refl _)
  refine ⟨.ref s1.heap.objs.size, upd H1 s1.heap.objs.size (.tup xs), I1.laid (t' := s1.toks) (fun b u e => Heap.get?_push_of_some _ e) (Nat.le_refl _) ?_, rfl, q _ hf⟩
  exact ⟨z, us, r, ⟨_, Heap.get?_push_size _ rfl, rfl, _, rfl⟩⟩
theorem pe_lst (h : PA X es t) : PE X (.List es pos) (tLst t) := by
  intro pins s σ H Q I hq
  refine wpAny_List_spliced (thn (h pos pins s σ H _ I hq) fun us s1 ⟨xs, H1, I1, r, z, q⟩ => ⟨by rw [← r.length]; exact z, ?_⟩)
  have hf : H1 s1.heap.objs.size = none := I1.hok.fresh (Nat.le_refl _)
  refine ⟨.ref s1.heap.objs.size, upd H1 s1.heap.objs.size (.lst xs), I1.laid (t' := s1.toks) (fun b u e => Heap.get?_push_of_some _ e) (Nat.le_refl _) ?_, rfl, q _ hf⟩
  exact ⟨z, us, 0, r, Heap.get?_push_size _ rfl⟩
end

/-! ### what a def promises -/
/-- a def's promise: the bound arguments in the parameters' order, the heap, the wanted end, the wanted exception -/
abbrev Sp := List V → Hp → VK → XK → Prop
/-- how an exception lies behind a call (file 08 gives it): the callers' frames, abstract heap and state ahead of the call, the wish, the exception, the state -/
abbrev CXT := List Env → Hp → Shared → XK → Value → Shared → Prop

/-- the state at a call -/
structure Env0 (P : Program) (w : World) (K : PySem.W.Frag) (mg : Str → Option Value) (base : Heap) (A : Around) (outer : List Env) (s : Shared) (H : Hp) : Prop where
  frames : A.frames = some outer
  mod : Mod K mg base
  bs : ∀ b o, base.get? b = some o → s.heap.get? b = some o ∧ H b = none
  bsz : base.objs.size ≤ s.heap.objs.size
  funs : s.heap.FunFrames base outer
  frf : ∀ b ∈ frs outer, H b = none
  hok : HOk P w H s.heap
  bare : AllBare s.gens
/-- a call's end -/
def CE (outer : List Env) (P : Program) (w : World) (H : Hp) (s : Shared) (Q : VK) (u : Value) (s' : Shared) : Prop :=
  ∃ v H', s'.os = s.os ∧ AllBare s'.gens ∧ Un (frs outer) [] H H' s.heap s'.heap ∧ HOk P w H' s'.heap ∧ RelV v u ∧ Q v H'
def CR (CX : CXT) (outer : List Env) (P : Program) (w : World) (H : Hp) (s : Shared) (Q : VK) (E : XK) (r : Result) (s' : Shared) : Prop :=
  match r with
  | .ok (.ret u) => CE outer P w H s Q u s'
  | .ok _ => False
  | .error e => CX outer H s E e s'
structure FnOk (P : Program) (w : World) (K : PySem.W.Frag) (mg : Str → Option Value) (base : Heap) (CX : CXT) (k : Nat) (f : Addr) (fd : FuncData) (ps : List Str) (sp : Sp) : Prop where
  len : ∀ vs H Q E, sp vs H Q E → vs.length = ps.length
  run : ∀ (A : Around) (outer : List Env) (s : Shared) (H : Hp) (args : Args) (us : List Value) (vs : List V) (Q : VK) (E : XK), Room k A → Env0 P w K mg base A outer s H → BindsTo s fd args (ps.zip us) → Vals vs us → sp vs H Q E →
    codeAny (model P w) A (.call (.ref f) args) (CR CX outer P w H s Q E) s
theorem FnOk.mono {P : Program} {w : World} {K : PySem.W.Frag} {mg : Str → Option Value} {base : Heap} {CX : CXT} {j k : Nat} {f : Addr} {fd : FuncData} {ps : List Str} {sp : Sp} (F : FnOk P w K mg base CX j f fd ps sp) (h : j ≤ k) :
    FnOk P w K mg base CX k f fd ps sp := ⟨F.len, fun A outer s H args us vs Q E hr => F.run A outer s H args us vs Q E (hr.mono h)⟩
/-- a weaker promise -/
theorem FnOk.imp {P : Program} {w : World} {K : PySem.W.Frag} {mg : Str → Option Value} {base : Heap} {CX : CXT} {k : Nat} {f : Addr} {fd : FuncData} {ps : List Str} {sp sp' : Sp} (F : FnOk P w K mg base CX k f fd ps sp)
    (h : ∀ vs H Q E, sp' vs H Q E → sp vs H Q E) : FnOk P w K mg base CX k f fd ps sp' :=
  ⟨fun vs H Q E q => F.len vs H Q E (h _ _ _ _ q), fun A outer s H args us vs Q E hr he hb hv hs => F.run A outer s H args us vs Q E hr he hb hv (h _ _ _ _ hs)⟩

theorem Env0.make {P : Program} {w : World} {K : PySem.W.Frag} {mg : Str → Option Value} {base : Heap} {A : Around} {outer : List Env} {s : Shared} {H : Hp} (e : Env0 P w K mg base A outer s H) (C : Addr) (us : List Value) (kw : List (Str × Value)) :
    Env0 P w K mg base (A.under (.builtin "type.__call__" ⟨.ref C :: us, kw⟩)) outer s H := ⟨by first | exact e.frames | (simpa [Around.under, Code.envs, Code.isFrame, pushEnvs] using e.frames), e.mod, e.bs, e.bsz, e.funs, e.frf, e.hok, e.bare⟩
theorem Env0.in1 {P : Program} {w : World} {K : PySem.W.Frag} {mg : Str → Option Value} {base : Heap} {A : Around} {outer : List Env} {s : Shared} {H : Hp} (e : Env0 P w K mg base A outer s H) :
    Env0 P w K mg base A.in1 outer s H := ⟨e.frames, e.mod, e.bs, e.bsz, e.funs, e.frf, e.hok, e.bare⟩

section
variable {X : Cx} {pins : List (Addr × Obj)} {σ : St} {H : Hp} {s s' : Shared}
/-- from a body: what a callee wants -/
theorem Inv.env0 (I : Inv X pins σ H s) : Env0 X.prog X.w X.K X.mg X.base X.A X.stack s H :=
  ⟨I.ok.frames, I.ok.mod, I.bs, Nat.le_trans I.ok.bsz I.sz, I.stack, I.stkFree, I.hok, I.bare⟩
/-- behind a call -/
theorem Inv.after {Q : VK} {u : Value} (I : Inv X pins σ H s) (h : CE X.stack X.prog X.w H s Q u s') : EP X pins σ Q u s' := by
  obtain ⟨v, H', os, bare, un, hok, r, q⟩ := h
  obtain ⟨hh, g, d, t, os'⟩ := s'
  obtain rfl : os' = s.os := os
  exact ⟨v, H', I.call (h' := hh) (g' := g) (d' := d) (t' := t) (ch := []) un hok bare (fun b z => absurd z (by simp)), r, q⟩
end

/-! ### calls -/
/-- f(..): the written arguments, then the defaults dvs; E: what is wanted of an exception -/
def tCall (sp : Sp) (dvs : List V) (E : XK) (t : TA) : TE := fun σ H Q => t σ H fun vs H1 => sp (vs ++ dvs) H1 Q E
/-- o.m(..) of an instance of the class at C -/
def tMeth (C : Addr) (m : Str) (sp : Sp) (dvs : List V) (E : XK) (ta : TE) (t : TA) : TE := fun σ H Q => ta σ H fun x H1 => ∃ a dx fs, x = .ref a ∧ H1 a = some (.ins C dx fs) ∧ fs.lookup m = none ∧
  t σ H1 fun vs H2 => sp (x :: (vs ++ dvs)) H2 Q E
/-- C(..): a new instance and its dict, then __init__ -/
def tMake (C : Addr) (sp : Sp) (dvs : List V) (E : XK) (t : TA) : TE := fun σ H Q => t σ H fun vs H1 => ∀ x dx, H1 x = none → H1 dx = none → dx ≠ x →
  sp (.ref x :: (vs ++ dvs)) (upd (upd H1 dx (.own x)) x (.ins C dx [])) (fun v H2 => v = .non ∧ Q (.ref x) H2) E

/-- how the parameters are bound: us the positional arguments, kw the keywords' values by name, ds the defaults that fill up -/
def Binds (K : PySem.W.Frag) (fd : FuncData) (ps : List Str) (ds : List Value) : Prop :=
  ∀ (s : Shared) (us : List Value), K.In s.heap → (us ++ ds).length = ps.length → BindsTo s fd ⟨us, []⟩ (ps.zip (us ++ ds))
/-- every parameter is given -/
theorem Binds.all {K : PySem.W.Frag} {fd : FuncData} {ps : List Str} (h : ∀ us : List Value, us.length = ps.length → bindArgs fd ⟨us, []⟩ = pure (ps.zip us)) : Binds K fd ps [] := fun s us _ hl => by
  rw [List.append_nil] at hl ⊢
  exact .of_eq (h us hl)

/-- an exception of a callee reaches what this body wants of exceptions -/
def Passes (CX : CXT) (X : Cx) (E : XK) : Prop := ∀ (pins : List (Addr × Obj)) (σ : St) (H : Hp) (s : Shared) (e : Value) (s' : Shared), Inv X pins σ H s → CX X.stack H s E e s' → X.xe e s'

section
variable {X : Cx} {CX : CXT} {k : Nat} {f C : Addr} {fd : FuncData} {ps : List Str} {sp : Sp} {dvs : List V} {ds : List Value} {E : XK} {x m : Str} {p pos apos : Pos} {e o : Expr} {es : List Expr} {ta : TE} {t : TA}

/-- the callee runs -/
theorem run_fn {pins : List (Addr × Obj)} {σ : St} {H : Hp} {s : Shared} {Q : VK} {us : List Value} {vs : List V} (F : FnOk X.prog X.w X.K X.mg X.base CX k f fd ps sp) (hr : Room k X.A) (hb : Binds X.K fd ps ds) (hd : Vals dvs ds) (hx : Passes CX X E)
    (I : Inv X pins σ H s) (r : Vals vs us) (h : sp (vs ++ dvs) H Q E) : wpAny (model X.prog X.w) X.A (call (.ref f) us) (EP X pins σ Q) X.xe s := by
  have r2 : Vals (vs ++ dvs) (us ++ ds) := r.append hd
  have hl : (us ++ ds).length = ps.length := by rw [← r2.length]; exact F.len _ _ _ _ h
  refine wpAny_call (codeAny_mono (F.run X.A X.stack s H ⟨us, []⟩ (us ++ ds) (vs ++ dvs) Q E hr I.env0 (hb s us I.kIn hl) r2 h) fun r s' hq => ?_)
  cases r with
  | error e => exact hx pins σ H s e s' I hq
  | ok fl =>
    cases fl with
    | ret u => exact I.after hq
    | next => exact False.elim hq
    | brk => exact False.elim hq
    | cont => exact False.elim hq

theorem pe_call (F : FnOk X.prog X.w X.K X.mg X.base CX k f fd ps sp) (hr : Room k X.A) (hg : Gl X x) (hm : X.mg x = some (.ref f)) (hk : PySem.W.keepIn X.K (.ref f) = true) (hb : Binds X.K fd ps ds) (hd : Vals dvs ds) (hx : Passes CX X E)
    (ha : PA X (e :: es) t) (hdb : (x == ("__debug__" : Str)) = false := by decide) (he : starEach (e :: es) X.env = (false, eval e X.env) :: starEach es X.env := by rfl) (hpl : (backTo pos (starEach es X.env)).any (·.1) = false := by rfl) :
    PE X (.Call (.Name x p) (e :: es) [] pos) (tCall sp dvs E t) := by
  intro pins s σ H Q I h
  refine wpAny_Call_Name_kw (ld_glob I hg hm ?_ hdb)
  refine PySem.W.callWith_K (h₀ := X.base) I.ok.mod.kin hk (thn (ha pos pins s σ H _ I h) fun us s1 ⟨vs, H1, I1, r, q⟩ => ⟨I1.kIn, ?_⟩) he hpl
  exact run_fn F hr hb hd hx I1 r q
theorem pe_call0 (F : FnOk X.prog X.w X.K X.mg X.base CX k f fd ps sp) (hr : Room k X.A) (hg : Gl X x) (hm : X.mg x = some (.ref f)) (hk : PySem.W.keepIn X.K (.ref f) = true) (hb : Binds X.K fd ps ds) (hd : Vals dvs ds) (hx : Passes CX X E)
    (hdb : (x == ("__debug__" : Str)) = false := by decide) : PE X (.Call (.Name x p) [] [] pos) (tCall sp dvs E tNil) := by
  intro pins s σ H Q I h
  refine wpAny_Call_Name_kw (ld_glob I hg hm ?_ hdb)
  exact PySem.W.callWith_K0 I.kIn hk (run_fn (us := []) F hr hb hd hx I .nil h)

/-- o.m(e, ..) -/
theorem pe_meth {pl : Sem Bool} (he : PE X o ta) (c : Cls X.K C) (hm : Meth X.K C m f) (F : FnOk X.prog X.w X.K X.mg X.base CX k f fd ps sp) (hr : Room k X.A) (hb : Binds X.K fd ps ds) (hd : Vals dvs ds) (hx : Passes CX X E) (ha : PA X (e :: es) t)
    (hst : starEach (e :: es) X.env = (false, eval e X.env) :: starEach es X.env := by rfl) (hpl : (backTo pos (starEach es X.env)).any (·.1) = false := by rfl)
    (ht : eval (.Call (.Attribute o m apos) (e :: es) [] pos) X.env = (do
      let ov ← eval o X.env
      standAt apos.atName
      let (f, first) ← holding [ov] (getMethod ov m pl)
      callWith pos f first (backTo pos (starEach (e :: es) X.env)) (backToKw pos (keywordEach [] X.env))) := by rfl) :
    PE X (.Call (.Attribute o m apos) (e :: es) [] pos) (tMeth C m sp dvs E ta t) := by
  intro pins s σ H Q I h
  refine PySem.W.methodCall_KW (pl := pl) (thn (he pins s σ H _ I h) fun u s1 ⟨x, H1, I1, rx, a, dx, fs, ex, ea, l, q⟩ => ?_) ht
  subst ex
  obtain rfl : u = Value.ref a := rx
  refine getmeth_ok I1 ea c hm l ?_
  refine PySem.W.callWith_K (first := [.ref a]) (h₀ := X.base) I.ok.mod.kin hm.kp (thn (ha pos pins s1 σ H1 _ I1 q) fun us s2 ⟨vs, H2, I2, r, q2⟩ => ⟨I2.kIn, ?_⟩) hst hpl
  exact run_fn (us := .ref a :: us) (vs := .ref a :: vs) F hr hb hd hx I2 (.cons rfl r) q2
/-- o.m() -/
theorem pe_meth0 {pl : Sem Bool} (he : PE X o ta) (c : Cls X.K C) (hm : Meth X.K C m f) (F : FnOk X.prog X.w X.K X.mg X.base CX k f fd ps sp) (hr : Room k X.A) (hb : Binds X.K fd ps ds) (hd : Vals dvs ds) (hx : Passes CX X E)
    (ht : eval (.Call (.Attribute o m apos) [] [] pos) X.env = (do
      let ov ← eval o X.env
      standAt apos.atName
      let (f, first) ← holding [ov] (getMethod ov m pl)
      callWith pos f first (backTo pos (starEach [] X.env)) (backToKw pos (keywordEach [] X.env))) := by rfl) :
    PE X (.Call (.Attribute o m apos) [] [] pos) (tMeth C m sp dvs E ta tNil) := by
  intro pins s σ H Q I h
  refine PySem.W.methodCall_KW (pl := pl) (thn (he pins s σ H _ I h) fun u s1 ⟨x, H1, I1, rx, a, dx, fs, ex, ea, l, q⟩ => ?_) ht
  subst ex
  obtain rfl : u = Value.ref a := rx
  refine getmeth_ok I1 ea c hm l ?_
  exact PySem.W.callWith_K0 (first := [.ref a]) I1.kIn hm.kp (run_fn (us := [.ref a]) (vs := [.ref a]) F hr hb hd hx I1 (.cons rfl .nil) q)

/-- what a class must have to be made -/
structure Mk (K : PySem.W.Frag) (C f : Addr) : Prop where
  makes : PySem.W.makesIn K C = true
  init : PySem.W.findIn K (.ref C) "__init__" = some (some (.ref f))
  fn : PySem.W.isFn K (.ref f) = true
  kp : PySem.W.keepIn K (.ref C) = true

theorem run_make {pins : List (Addr × Obj)} {σ : St} {H : Hp} {s : Shared} {Q : VK} {us : List Value} {vs : List V} (M : Mk X.K C f) (F : FnOk X.prog X.w X.K X.mg X.base CX k f fd ps sp) (hr : Room (k + 1) X.A) (hb : Binds X.K fd ps ds) (hd : Vals dvs ds)
    (hx : Passes CX X E) (I : Inv X pins σ H s) (r : Vals vs us)
    (h : ∀ x dx, H x = none → H dx = none → dx ≠ x → sp (.ref x :: (vs ++ dvs)) (upd (upd H dx (.own x)) x (.ins C dx [])) (fun v H2 => v = .non ∧ Q (.ref x) H2) E) :
    wpAny (model X.prog X.w) X.A (call (.ref C) us) (EP X pins σ Q) X.xe s := by
  have hq := h (s.heap.objs.size + 1) s.heap.objs.size (I.hok.fresh (Nat.le_succ _)) (I.hok.fresh (Nat.le_refl _)) (Nat.ne_of_lt (Nat.lt_succ_self _))
  have I2 := Inv.made (C := C) I
  have r2 : Vals (V.ref (s.heap.objs.size + 1) :: (vs ++ dvs)) (Value.ref (s.heap.objs.size + 1) :: (us ++ ds)) := .cons rfl (r.append hd)
  have hl : (Value.ref (s.heap.objs.size + 1) :: us ++ ds).length = ps.length := by
    have e := r2.length
    rw [F.len _ _ _ _ hq] at e
    exact e.symm
  refine wpAny_call (make_map (f := f) I.kIn M.makes M.init (beq_iff_eq.mp M.fn) (codeAny_mono (F.run _ X.stack _ _ ⟨Value.ref (s.heap.objs.size + 1) :: us, []⟩ (Value.ref (s.heap.objs.size + 1) :: (us ++ ds)) _ _ E (hr.make C us [])
    (I2.env0.make C us []) (hb _ (Value.ref (s.heap.objs.size + 1) :: us) I2.kIn hl) r2 hq) fun r s' hq' => ?_))
  cases r with
  | error e => exact hx pins σ _ _ e s' I2 hq'
  | ok fl =>
    cases fl with
    | ret u =>
      obtain ⟨v, H', I3, rv, ev, q3⟩ := I2.after hq'
      subst ev
      exact ⟨rv, ⟨V.ref (s.heap.objs.size + 1), H', I3, rfl, q3⟩⟩
    | next => exact False.elim hq'
    | brk => exact False.elim hq'
    | cont => exact False.elim hq'
theorem pe_make (M : Mk X.K C f) (F : FnOk X.prog X.w X.K X.mg X.base CX k f fd ps sp) (hr : Room (k + 1) X.A) (hg : Gl X x) (hm : X.mg x = some (.ref C)) (hb : Binds X.K fd ps ds) (hd : Vals dvs ds) (hx : Passes CX X E)
    (ha : PA X (e :: es) t) (hdb : (x == ("__debug__" : Str)) = false := by decide) (he : starEach (e :: es) X.env = (false, eval e X.env) :: starEach es X.env := by rfl) (hpl : (backTo pos (starEach es X.env)).any (·.1) = false := by rfl) :
    PE X (.Call (.Name x p) (e :: es) [] pos) (tMake C sp dvs E t) := by
  intro pins s σ H Q I h
  refine wpAny_Call_Name_kw (ld_glob I hg hm ?_ hdb)
  refine PySem.W.callWith_K (h₀ := X.base) I.ok.mod.kin M.kp (thn (ha pos pins s σ H _ I h) fun us s1 ⟨vs, H1, I1, r, q⟩ => ⟨I1.kIn, ?_⟩) he hpl
  exact run_make M F hr hb hd hx I1 r q
theorem pe_make0 (M : Mk X.K C f) (F : FnOk X.prog X.w X.K X.mg X.base CX k f fd ps sp) (hr : Room (k + 1) X.A) (hg : Gl X x) (hm : X.mg x = some (.ref C)) (hb : Binds X.K fd ps ds) (hd : Vals dvs ds) (hx : Passes CX X E)
    (hdb : (x == ("__debug__" : Str)) = false := by decide) : PE X (.Call (.Name x p) [] [] pos) (tMake C sp dvs E tNil) := by
  intro pins s σ H Q I h
  refine wpAny_Call_Name_kw (ld_glob I hg hm ?_ hdb)
  exact PySem.W.callWith_K0 I.kIn M.kp (run_make (us := []) M F hr hb hd hx I .nil h)
end

/-! ### keywords -/
/-- the values of the keywords, from the left -/
def PK (X : Cx) (kws : List Keyword) (t : TA) : Prop :=
  ∀ (pos : Pos) (pins : List (Addr × Obj)) (s : Shared) (σ : St) (H : Hp) (Q : List V → Hp → Prop), Inv X pins σ H s → t σ H Q → wpAny (model X.prog X.w) X.A (evalAll ((backToKw pos (keywordEach kws X.env)).map (·.2))) (AP X pins σ Q) X.xe s
section
variable {X : Cx} {CX : CXT} {k : Nat} {f C : Addr} {fd : FuncData} {ps ks : List Str} {sp : Sp} {E : XK} {x m : Str} {p pos apos kpos : Pos} {e o : Expr} {es : List Expr} {kws : List Keyword} {te ta : TE} {t tk : TA} {nm : Option Str}
theorem pk_nil : PK X [] tNil := fun _ _ _ _ H Q I h => wpAny_evalAll_nil ⟨[], H, I, .nil, h⟩
theorem pk_cons (ha : PE X e te) (hr : PK X kws t) : PK X (⟨nm, e, kpos⟩ :: kws) (tCons te t) := by
  intro pos pins s σ H Q I h
  show wpAny _ _ (evalAll ((do let v ← eval e X.env; standAt pos; pure v) :: (backToKw pos (keywordEach kws X.env)).map (·.2))) _ _ s
  refine wpAny_evalAll_cons (wpAny_bind (thn (ha pins s σ H _ I h) fun u s1 ⟨x, H1, I1, r1, q1⟩ => wpAny_bind (wpAny_standAt (wpAny_pure ?_))))
  exact thn (hr pos pins s1 σ H1 _ I1 q1) fun us s2 ⟨xs, H2, I2, r2, q2⟩ => ⟨x :: xs, H2, I2, .cons r1 r2, q2⟩

/-- how a call with keywords binds: g puts the positional values us and the keywords' values ws (names ks) in the parameters' order, defaults among them -/
structure KBinds (K : PySem.W.Frag) (fd : FuncData) (ps ks : List Str) (g : List Value → List Value → List Value) (gV : List V → List V → List V) : Prop where
  to : ∀ (s : Shared) (us ws : List Value), K.In s.heap → (g us ws).length = ps.length → BindsTo s fd ⟨us, ks.zip ws⟩ (ps.zip (g us ws))
  rel : ∀ {vs : List V} {us : List Value} {zs : List V} {ws : List Value}, Vals vs us → Vals zs ws → Vals (gV vs zs) (g us ws)
def tCallK (sp : Sp) (gV : List V → List V → List V) (E : XK) (t tk : TA) : TE := fun σ H Q => t σ H fun vs H1 => tk σ H1 fun zs H2 => sp (gV vs zs) H2 Q E
variable {g : List Value → List Value → List Value} {gV : List V → List V → List V}
theorem run_fnk {pins : List (Addr × Obj)} {σ : St} {H : Hp} {s : Shared} {Q : VK} {us ws : List Value} {vs zs : List V} (F : FnOk X.prog X.w X.K X.mg X.base CX k f fd ps sp) (hr : Room k X.A) (hb : KBinds X.K fd ps ks g gV) (hx : Passes CX X E)
    (I : Inv X pins σ H s) (r : Vals vs us) (rz : Vals zs ws) (h : sp (gV vs zs) H Q E) : wpAny (model X.prog X.w) X.A (call (.ref f) us (ks.zip ws)) (EP X pins σ Q) X.xe s := by
  have r2 := hb.rel r rz
  have hl : (g us ws).length = ps.length := by rw [← r2.length]; exact F.len _ _ _ _ h
  refine wpAny_call (codeAny_mono (F.run X.A X.stack s H ⟨us, ks.zip ws⟩ (g us ws) (gV vs zs) Q E hr I.env0 (hb.to s us ws I.kIn hl) r2 h) fun r s' hq => ?_)
  cases r with
  | error e => exact hx pins σ H s e s' I hq
  | ok fl =>
    cases fl with
    | ret u => exact I.after hq
    | next => exact False.elim hq
    | brk => exact False.elim hq
    | cont => exact False.elim hq
/-- f(e, .., k = v, ..) -/
theorem pe_callK (F : FnOk X.prog X.w X.K X.mg X.base CX k f fd ps sp) (hr : Room k X.A) (hg : Gl X x) (hm : X.mg x = some (.ref f)) (hk : PySem.W.keepIn X.K (.ref f) = true) (hb : KBinds X.K fd ps ks g gV) (hx : Passes CX X E)
    (ha : PA X (e :: es) t) (hkw : PK X kws tk) (hall : (backToKw pos (keywordEach kws X.env)).all (·.1.isSome) = true := by rfl) (hks : (backToKw pos (keywordEach kws X.env)).filterMap (·.1) = ks := by rfl)
    (hdb : (x == ("__debug__" : Str)) = false := by decide) (he : starEach (e :: es) X.env = (false, eval e X.env) :: starEach es X.env := by rfl)
    (hpl : ((backTo pos (starEach (e :: es) X.env)).any (·.1) || (backToKw pos (keywordEach kws X.env)).any (·.1.isNone)) = false := by rfl) :
    PE X (.Call (.Name x p) (e :: es) kws pos) (tCallK sp gV E t tk) := by
  intro pins s σ H Q I h
  refine wpAny_Call_Name_kw (ld_glob I hg hm ?_ hdb)
  refine PySem.W.callWith_KW (h₀ := X.base) I.ok.mod.kin hk hall (thn (ha pos pins s σ H _ I h) fun us s1 ⟨vs, H1, I1, r, q⟩ => ?_) hpl he
  refine thn (hkw pos pins s1 σ H1 _ I1 q) fun ws s2 ⟨zs, H2, I2, rz, q2⟩ => ⟨I2.kIn, ?_⟩
  rw [hks]
  exact run_fnk F hr hb hx I2 r rz q2
end

/-! ### a def's body keeps its promise -/
/-- names: the parameters first -/
structure FnScope (N P : List Str) (sc : Scope) : Prop where
  kind : sc.kind = .function
  co : sc.isCoroutine = false
  gen : sc.isGenerator = false
  nd : N.Nodup
  pre : N.take P.length = P
  par : ∀ x ∈ P, sc.names.lookup x = some .local ∨ sc.names.lookup x = some .cell
  nofree : ∀ y ∈ sc.names, y.2 ≠ .free

theorem bindL_out {kindOf : Str → Option NameKind} {x : Str} : ∀ {binds : List (Str × Value)} {m : Str → Option Value}, (∀ v, (x, v) ∉ binds) → bindL kindOf binds m x = m x
  | [], _, _ => rfl
  | (n, v) :: r, m, h => by
    unfold bindL
    rw [bindL_out fun w hw => h w (List.mem_cons_of_mem _ hw)]
    split
    · have : x ≠ n := by rintro rfl; exact h v List.mem_cons_self
      simp [this]
    · rfl
theorem bindC_out {kindOf : Str → Option NameKind} {x : Str} : ∀ {binds : List (Str × Value)} {m : Str → Option Value}, (∀ v, (x, v) ∉ binds) → bindC kindOf binds m x = m x
  | [], _, _ => rfl
  | (n, v) :: r, m, h => by
    unfold bindC
    rw [bindC_out fun w hw => h w (List.mem_cons_of_mem _ hw)]
    split
    · rfl
    · have : x ≠ n := by rintro rfl; exact h v List.mem_cons_self
      simp [this]
theorem bindL_get {kindOf : Str → Option NameKind} {x : Str} {v : Value} : ∀ {P : List Str} {vs : List Value} {i : Nat} {m : Str → Option Value}, P.Nodup → P[i]? = some x → vs[i]? = some v → kindOf x = some .local →
    bindL kindOf (P.zip vs) m x = some v
  | [], _, _, _, _, h, _, _ => by simp at h
  | _ :: _, [], _, _, _, _, h, _ => by simp at h
  | p :: P, w :: vs, 0, m, nd, h1, h2, hk => by
    simp at h1 h2; subst h1; subst h2
    show bindL kindOf ((p, w) :: P.zip vs) m p = _
    unfold bindL
    rw [bindL_out fun v hv => (List.nodup_cons.mp nd).1 (List.of_mem_zip hv).1, if_pos hk]
    simp
  | p :: P, w :: vs, i + 1, m, nd, h1, h2, hk => by
    show bindL kindOf ((p, w) :: P.zip vs) m x = _
    unfold bindL
    exact bindL_get (i := i) (List.nodup_cons.mp nd).2 (by simpa using h1) (by simpa using h2) hk
theorem bindC_get {kindOf : Str → Option NameKind} {x : Str} {v : Value} : ∀ {P : List Str} {vs : List Value} {i : Nat} {m : Str → Option Value}, P.Nodup → P[i]? = some x → vs[i]? = some v → kindOf x ≠ some .local →
    bindC kindOf (P.zip vs) m x = some v
  | [], _, _, _, _, h, _, _ => by simp at h
  | _ :: _, [], _, _, _, _, h, _ => by simp at h
  | p :: P, w :: vs, 0, m, nd, h1, h2, hk => by
    simp at h1 h2; subst h1; subst h2
    show bindC kindOf ((p, w) :: P.zip vs) m p = _
    unfold bindC
    rw [bindC_out fun v hv => (List.nodup_cons.mp nd).1 (List.of_mem_zip hv).1, if_neg hk]
    simp
  | p :: P, w :: vs, i + 1, m, nd, h1, h2, hk => by
    show bindC kindOf ((p, w) :: P.zip vs) m x = _
    unfold bindC
    exact bindC_get (i := i) (List.nodup_cons.mp nd).2 (by simpa using h1) (by simpa using h2) hk

/-- the names' values at the entry -/
def start (N : List Str) (vs : List V) : St := vs.map some ++ List.replicate (N.length - vs.length) none

/-- the context of a def's body, at its entry; an exception leaves the frame, then lies as CX says -/
def cxOf (CX : CXT) (P : Program) (w : World) (K : PySem.W.Frag) (mg : Str → Option Value) (base : Heap) (N : List Str) (qual : Str) (scope : Scope) (f : Addr) (cd : Value) (A : Around) (outer : List Env) (s : Shared) (H : Hp) (E : XK) : Cx where
  prog := P
  w := w
  K := K
  mg := mg
  base := base
  A := A.deeper (envOfC qual scope s.heap.objs.size f cd)
  N := N
  s₀ := s
  H₀ := H
  env := envOfC qual scope s.heap.objs.size f cd
  outer := outer
  stack := envOfC qual scope s.heap.objs.size f cd :: outer
  ex := []
  calm := true
  fn := fun _ => true
  pn := []
  xe := fun e s' => wpAny (model P w) (A.deeper (envOfC qual scope s.heap.objs.size f cd)) (leaving (envOfC qual scope s.heap.objs.size f cd) e) (fun _ s'' => CX outer H s E e s'') (fun e' s'' => CX outer H s E e' s'') s'

theorem cell_has {sc : Scope} {n : Nat} {x : Str} (h : sc.names.lookup x = some .cell) : ∃ c, (cellsFrom n sc.names []).lookup x = some c := by
  have q := PySem.W.cellsFrom_some sc.names n [] (.inl h)
  exact Option.isSome_iff_exists.mp q

theorem inv_start {CX : CXT} {P : Program} {w : World} {K : PySem.W.Frag} {mg : Str → Option Value} {base : Heap} {N ps : List Str} {qual : Str} {scope : Scope} {f : Addr} {cd : Value} {A : Around} {outer : List Env} {s s1 : Shared} {H : Hp} {E : XK} {us : List Value} {vs : List V}
    (S : FnScope N ps scope) (hd : A.handled = none) (e0 : Env0 P w K mg base A outer s H) (hl : vs.length = ps.length) (r : Vals vs us)
    (x : InCallC s s.heap.objs.size (bindL (envOfC qual scope s.heap.objs.size f cd).kindOf (ps.zip us) fun _ => none) (cellsFrom (s.heap.objs.size + 1) scope.names []) (bindC (envOfC qual scope s.heap.objs.size f cd).kindOf (ps.zip us) fun _ => none) s1) :
    Inv (cxOf CX P w K mg base N qual scope f cd A outer s H E) [] (start N vs) H s1 := by
  have hpl : ps.length ≤ N.length := by have := congrArg List.length S.pre; rw [List.length_take] at this; omega
  obtain ⟨h1, tk, rfl, hk⟩ := x.done
  have noA : ∀ b : Addr, b ∉ (cxOf CX P w K mg base N qual scope f cd A outer s H E).ex := fun b z => absurd (show b ∈ ([] : List Addr) from z) (by simp)
  refine ⟨⟨e0.mod, S.kind, rfl, rfl, Nat.le_refl _, fun y z c h1 h2 => ?_, fun y hy => ?_, fun y c _ h => ?_, fun _ => hd, Around.frames_deeper e0.frames, .inr ⟨rfl, rfl⟩, fun b z => absurd z (noA b), e0.bs, e0.bsz, fun b _ _ => noA b, fun b z => absurd z (noA b), e0.funs, e0.frf⟩,
    rfl, e0.bare, Un.kept hk, ⟨_, x.toInCall.ns, fun i y v h1 h2 h3 => ?_⟩, fun y c h => ⟨_, x.cell y c h⟩, e0.hok.fresh (Nat.le_refl _), fun y c h => ?_, fun p hp => absurd (show p ∈ ([] : List (Addr × Obj)) from hp) (by simp), e0.hok.kept hk, ?_⟩
  · exact name_of_addr x.apart (PySem.mem_of_lookup h1) (PySem.mem_of_lookup h2)
  · have hy : scope.names.lookup y = some .cell ∨ scope.names.lookup y = some .free := hy
    rcases hy with hy | hy
    · exact cell_has hy
    · exact absurd rfl (S.nofree _ (PySem.mem_of_lookup hy))
  · exact Nat.le_of_lt (x.above y c (PySem.mem_of_lookup h))
  · have hi : i < vs.length := by
      unfold start at h2
      by_cases hi : i < vs.length
      · exact hi
      · rw [List.getElem?_append_right (by simpa using hi)] at h2
        rw [List.getElem?_replicate] at h2
        split at h2 <;> cases h2
    have ha : vs[i]? = some v := by
      unfold start at h2
      rw [List.getElem?_append_left (by simpa using hi), List.getElem?_map] at h2
      cases e : vs[i]? with
      | none => rw [e] at h2; cases h2
      | some a => rw [e] at h2; cases h2; rfl
    obtain ⟨u, hu, rv⟩ := r.get ha
    have hp : ps[i]? = some y := by
      rw [← S.pre, List.getElem?_take_of_lt (by omega)]; exact h1
    have ndP : ps.Nodup := by rw [← S.pre]; exact S.nd.sublist (List.take_sublist _ _)
    refine ⟨u, rv, ?_⟩
    rcases S.par y (List.mem_of_getElem? hp) with k | k
    · exact .inl ⟨k, bindL_get ndP hp hu k⟩
    · obtain ⟨c, e⟩ := cell_has (n := s.heap.objs.size + 1) k
      refine .inr ⟨.inl k, c, e, ?_⟩
      have q := x.cell y c e
      rw [bindC_get ndP hp hu (by show scope.names.lookup y ≠ _; rw [k]; decide)] at q
      exact q
  · exact e0.hok.fresh (Nat.le_of_lt (x.above y c (PySem.mem_of_lookup h)))
  · unfold start
    show _ = N.length
    rw [List.length_append, List.length_map, List.length_replicate]
    omega

/-- THE RULE: a def (or a method) of the text, by its body. The body's reading t is chosen for each entry; it is run at the parameters' values -/
theorem fn_of {CX : CXT} {P : Program} {w : World} {K : PySem.W.Frag} {mg : Str → Option Value} {base : Heap} {k : Nat} {f : Addr} {name qual : Str} {params : Arguments} {body : List Stmt} {scope : Scope} {dV kV doc pm cdv ct oc : Value} {an od : Option Addr}
    {osl : Array (Option Value)} {N ps : List Str} {sp : Sp} (lk : K.lookup f = some ⟨oc, od, .func (PySem.W.fnOf name qual params body scope dV kV doc pm an cdv ct), osl⟩) (hcd : PySem.W.codeIn K cdv qual = true) (S : FnScope N ps scope)
    (len : ∀ vs H Q E, sp vs H Q E → vs.length = ps.length)
    (hbody : ∀ (A : Around) (outer : List Env) (s : Shared) (H : Hp) (vs : List V) (Q : VK) (E : XK), Room k (A.deeper (envOfC qual scope s.heap.objs.size f cdv)) → sp vs H Q E →
      ∃ t, PSs (cxOf CX P w K mg base N qual scope f cdv A outer s H E) body t ∧ t { nx := fun _ H' => Q .non H', rt := Q } (start N vs) H) :
    FnOk P w K mg base CX (k + 1) f (PySem.W.fnOf name qual params body scope dV kV doc pm an cdv ct) ps sp := by
  refine ⟨len, fun A outer s H args us vs Q E hr e0 hb r hsp => ?_⟩
  have hl := len _ _ _ _ hsp
  have KX : K.In s.heap := e0.mod.kin.keeps fun b o e => (e0.bs b o e).1
  have lim : s.heap.NoLimit := e0.mod.nolimit.keeps fun b o e => (e0.bs b o e).1
  have hkind : ∀ y ∈ ps.zip us, scope.names.lookup y.1 = some .local ∨ (scope.names.lookup y.1 = some .cell ∧ ((cellsFrom (s.heap.objs.size + 1) scope.names []).lookup y.1).isSome = true) := fun ⟨n, v⟩ hy => by
    rcases S.par n (List.of_mem_zip hy).1 with q | q
    · exact .inl q
    · exact .inr ⟨q, PySem.W.cellsFrom_some _ _ _ (.inl q)⟩
  refine codeAny_call_function hr.depth (KX _ _ lk) rfl S.co S.gen rfl (PySem.W.codeRec_of KX hcd) (hb _ _ _ _ ?_)
  refine wpAny_newFunctionEnv_cells S.kind hkind fun env he s1 x => ?_
  subst he
  refine ⟨lim.keeps x.toInCall.keep, codeAny_func ?_⟩
  obtain ⟨t, ht, hq⟩ := hbody A outer s H vs Q E (hr.deeper _) hsp
  have I : Inv (cxOf CX P w K mg base N qual scope f cdv A outer s H E) [] (start N vs) H s1 := inv_start S hr.hd e0 hl r x
  refine wpAny_mono (ht [] s1 (start N vs) H _ I hq) (fun fl s' hs => ?_) fun e s' hs => hs
  have fin : ∀ {σ' : St} {H' : Hp} {v : V} {u : Value}, Inv (cxOf CX P w K mg base N qual scope f cdv A outer s H E) [] σ' H' s' → RelV v u → Q v H' → CE outer P w H s Q u s' :=
    fun {σ' H' v u} J rv q => ⟨v, H', J.os, J.bare, J.base, J.hok, rv, q⟩
  cases fl with
  | ret u =>
    obtain ⟨v, σ', H', J, rv, q⟩ := hs
    exact fin J rv q
  | next =>
    obtain ⟨σ', H', J, q⟩ := hs
    exact fin (v := V.non) (u := Value.none) J rfl q
  | brk =>
    obtain ⟨_, _, _, q⟩ := hs
    exact False.elim q
  | cont =>
    obtain ⟨_, _, _, q⟩ := hs
    exact False.elim q
end L2

namespace L2
open PySem PySem.Spec PyProof.Rows
section
variable {X : Cx} {x : Str} {p pos : Pos} {e : Expr} {es : List Expr} {t : TA} {id T : String} {r : List V → Hp → VK → Prop}

def tCB (r : List V → Hp → VK → Prop) (t : TA) : TE := fun σ H Q => t σ H fun vs H1 => r vs H1 Q
/-- f(e, ..), f a built-in function -/
theorem pe_callB (hc : CallR X (.builtin id) r) (hg : Gl X x) (hm : X.mg x = none) (hv : bootBuiltins x = some (.builtin id)) (ha : PA X (e :: es) t) (hn : x ≠ "__name__" := by decide) (hdb : (x == ("__debug__" : Str)) = false := by decide)
    (he : starEach (e :: es) X.env = (false, eval e X.env) :: starEach es X.env := by rfl) (hpl : (backTo pos (starEach es X.env)).any (·.1) = false := by rfl) : PE X (.Call (.Name x p) (e :: es) [] pos) (tCB r t) := by
  intro pins s σ H Q I h
  refine wpAny_Call_Name_kw (ld_blt I hg hm hv ?_ hn hdb)
  exact PyProof.Rows.callWith_builtin1 (thn (ha pos pins s σ H _ I h) fun us s1 ⟨vs, H1, I1, r1, q1⟩ => hc pins s1 σ H1 vs us Q I1 r1 q1) he hpl
/-- T(e, ..), T a built-in type -/
theorem pe_callTy (hc : CallR X (.type T) r) (hg : Gl X x) (hm : X.mg x = none) (hv : bootBuiltins x = some (.type T)) (ha : PA X (e :: es) t) (hn : x ≠ "__name__" := by decide) (hdb : (x == ("__debug__" : Str)) = false := by decide)
    (he : starEach (e :: es) X.env = (false, eval e X.env) :: starEach es X.env := by rfl) (hpl : (backTo pos (starEach es X.env)).any (·.1) = false := by rfl) : PE X (.Call (.Name x p) (e :: es) [] pos) (tCB r t) := by
  intro pins s σ H Q I h
  refine wpAny_Call_Name_kw (ld_blt I hg hm hv ?_ hn hdb)
  exact PyProof.Rows.callWith_type1 (thn (ha pos pins s σ H _ I h) fun us s1 ⟨vs, H1, I1, r1, q1⟩ => hc pins s1 σ H1 vs us Q I1 r1 q1) he hpl
/-- T() -/
theorem pe_callTy0 (hc : CallR X (.type T) r) (hg : Gl X x) (hm : X.mg x = none) (hv : bootBuiltins x = some (.type T)) (hn : x ≠ "__name__" := by decide) (hdb : (x == ("__debug__" : Str)) = false := by decide) :
    PE X (.Call (.Name x p) [] [] pos) (tCB r tNil) := by
  intro pins s σ H Q I h
  refine wpAny_Call_Name_kw (ld_blt I hg hm hv ?_ hn hdb)
  exact PyProof.Rows.callWith_type0 (hc pins s σ H [] [] Q I .nil h)
end
end L2

namespace HT
open PySem PyProof.Rows

/-- t < u of tuples of ints -/
def lexLt : List Int → List Int → Bool
  | [], [] => false
  | [], _ :: _ => true
  | _ :: _, [] => false
  | x :: xs, y :: ys => if x = y then lexLt xs ys else decide (x < y)
theorem lexLt_cons (x y : Int) (xs ys : List Int) : lexLt (x :: xs) (y :: ys) = if x = y then lexLt xs ys else decide (x < y) := rfl
theorem lexLt_nil_nil : lexLt [] [] = false := rfl
theorem lexLt_nil_cons (y : Int) (ys : List Int) : lexLt [] (y :: ys) = true := rfl
theorem lexLt_cons_nil (x : Int) (xs : List Int) : lexLt (x :: xs) [] = false := rfl

theorem eqAt_int (A : Around) (s : Shared) (a : Int) (t : Tok) (c : Int) (u : Tok) : ∃ e, SeqAt.EqAt A s (.int a t) (.int c u) e ∧ (e = true ↔ a = c) :=
  ⟨(a == c), SeqAt.EqAt.int_int a t c u, by simp⟩
theorem rcLt_int (A : Around) (s : Shared) (a : Int) (t : Tok) (c : Int) (u : Tok) (prog : Program) (w : World) (E : Value → Shared → Prop) (Q : Value → Shared → Prop) (h : Q (.bool (decide (a < c))) s) :
    wpAny (model prog w) A (richCompare .Lt (.int a t) (.int c u)) Q E s :=
  (PyProof.Rows.lt_int h : wpAny (model prog w) A (compareOp .Lt (.int a t) (.int c u)) Q E s)

section
open PySem.SeqAt
open PySem.AutoSeq1 (wpAny_loadPart')
open PySem.MeetsSeq PySem.MeetsSeq2 PySem.MeetsSeq3

theorem tuple_lt_ints (l b : Addr) (items items2 : Array Value) (n n2 : Nat) (dd dd2 : Option Addr) (sl sl2 : Array (Option Value)) (ns ms : List Int) (hi : IntsAre items.toList ns) (hj : IntsAre items2.toList ms) :
    Meets (Builtin.«tuple.__lt__» ⟨[.ref l, .ref b], []⟩)
      (fun _ R s => s.heap.get? l = some { cls := .type "tuple", dict := dd, data := .seq items n, slots := sl } ∧ s.heap.get? b = some { cls := .type "tuple", dict := dd2, data := .seq items2 n2, slots := sl2 } ∧
        R (.ok (.ret (.bool (lexLt ns ms)))) s) :=
  .of_wp fun prog w A R s h => by
    obtain ⟨hp, g, d, tk, os⟩ := s; obtain ⟨hl, hb, h⟩ := h
    have f2 := AutoSeq1.sub_tuple_tuple
    have z1 : items.size = ns.length := by rw [← hi.length]; simp
    have z2 : items2.size = ms.length := by rw [← hj.length]; simp
    wp_walk using wpAny_loadPart' hl, wpAny_loadPart' hb, wpAny_forIn_list _ (fun rest b s' => b.1 = none ∧ s' = ⟨hp, g, d, tk, os⟩ ∧ ∃ (vs ws : List Value) (ns' ms' : List Int), rest = vs.zip ws ∧
      IntsAre vs ns' ∧ IntsAre ws ms' ∧ ns'.length + items2.size = ms'.length + items.size ∧ R (.ok (.ret (.bool (lexLt ns' ms')))) ⟨hp, g, d, tk, os⟩) _
    case turn =>
      rintro ⟨y, x⟩ rest b s' ⟨hb', rfl, vs, ws, ns', ms', hz, hvi, hwi, hlen, hR⟩
      cases hvi with
      | nil => rw [List.zip_nil_left] at hz; cases hz
      | cons a t hvi' =>
        cases hwi with
        | nil => rw [List.zip_nil_right] at hz; cases hz
        | cons c u hwi' =>
          rw [List.zip_cons_cons] at hz
          injection hz with hyx hrest
          injection hyx with hy hx
          subst hy hx
          rw [lexLt_cons] at hR
          simp only [List.length_cons] at hlen
          obtain ⟨e, he, hiff⟩ := eqAt_int A.in1 ⟨hp, g, d, tk, os⟩ a t c u
          refine wpAny_bind (he prog w _ _ ?_)
          cases e with
          | true =>
            rw [if_pos (hiff.mp rfl)] at hR
            wp_walk
            exact ⟨rfl, rfl, _, _, _, _, hrest, hvi', hwi', by omega, hR⟩
          | false =>
            rw [if_neg (fun q => absurd (hiff.mpr q) Bool.false_ne_true)] at hR
            have hri := rcLt_int A.in1 ⟨hp, g, d, tk, os⟩ a t c u prog w
            wp_walk using hri
            exact ⟨_, rfl, by simpa using hR⟩
    case fin =>
      rintro ⟨b1, b2⟩ s' ⟨hb', rfl, vs, ws, ns', ms', hz, hvi, hwi, hlen, hR⟩
      simp only at hb'
      subst hb'
      have hv : lexLt ns' ms' = decide (items.size < items2.size) := by
        cases hvi with
        | nil =>
          cases hwi with
          | nil =>
            simp only [List.length_nil] at hlen
            rw [lexLt_nil_nil]
            exact (decide_eq_false (by omega)).symm
          | cons c u hw =>
            simp only [List.length_nil, List.length_cons] at hlen
            rw [lexLt_nil_cons]
            exact (decide_eq_true (by omega)).symm
        | cons a t hv =>
          cases hwi with
          | nil =>
            simp only [List.length_nil, List.length_cons] at hlen
            rw [lexLt_cons_nil]
            exact (decide_eq_false (by omega)).symm
          | cons c u hw =>
            rw [List.zip_cons_cons] at hz
            cases hz
      rw [hv] at hR
      wp_walk
      exact ⟨_, rfl, by simpa [Builtin.Tuple.tupleCompareSizes] using hR⟩
    case h =>
      exact ⟨rfl, rfl, items.toList, items2.toList, ns, ms, rfl, hi, hj, by omega, h⟩
end

section
variable {prog : Program} {w : World} {A : Around} {E : Value → Shared → Prop} {s : Shared}

theorem lt_tupInts {l b : Addr} {items items2 : Array Value} {ns ms : List Int} {Q : Value → Shared → Prop} (hl : IsTup s.heap l items) (hb : IsTup s.heap b items2) (hi : IntsAre items.toList ns) (hj : IntsAre items2.toList ms)
    (hu : A.units < cLine) (h : Q (.bool (lexLt ns ms)) s) : wpAny (model prog w) A (compareOp .Lt (.ref l) (.ref b)) Q E s := by
  obtain ⟨⟨cls, dd, data, sl⟩, ho, hc, n, hd⟩ := id hl
  obtain ⟨⟨cls2, dd2, data2, sl2⟩, ho2, hc2, n2, hd2⟩ := id hb
  simp only at hc hd hc2 hd2
  subst hc hd hc2 hd2
  exact richCompare_meets_room (op := .Lt) ⟨_, ho, rfl⟩ ⟨_, ho2, rfl⟩ PySem.F.slot_tuple_lt PySem.F.entry_tuple_lt (PySem.F.args_tuple_lt_2 _ _) (tuple_lt_ints l b items items2 n n2 dd dd2 sl sl2 ns ms hi hj)
    ⟨ho, ho2, show Value.bool (lexLt ns ms) ≠ Value.notImplemented ∧ Q (.bool (lexLt ns ms)) s from ⟨(fun x => nomatch x), h⟩⟩ hu

/-- t + u, t not empty -/
theorem cat_tup {t b : Addr} {vs ws : List Value} {Q : Value → Shared → Prop} (ht : IsTup s.heap t vs.toArray) (hb : IsTup s.heap b ws.toArray) (hv : vs ≠ [])
    (h1 : ws = [] → Q (.ref t) s) (h2 : ws ≠ [] → Q (.ref s.heap.objs.size) { s with heap := s.heap.push { cls := .type "tuple", data := .seq (vs ++ ws).toArray } })
    (hsz : vs.length + ws.length ≤ sizeLine) : wpAny (model prog w) A (binaryOp .Add (.ref t) (.ref b)) Q E s := by
  obtain ⟨⟨cls, dd, data, sl⟩, ho, hc, n, hd⟩ := id ht
  obtain ⟨⟨cls2, dd2, data2, sl2⟩, ho2, hc2, n2, hd2⟩ := id hb
  simp only at hc hd hc2 hd2
  subst hc hd hc2 hd2
  have e : vs.toArray ++ ws.toArray = (vs ++ ws).toArray := by simp
  by_cases hw : ws = []
  · exact concat_meets ⟨_, ho, rfl⟩ ⟨_, ho2, rfl⟩ noFill_tuple_add seq_tuple_add PySem.F.slot_tuple_add PySem.F.entry_tuple_add (PySem.F.args_tuple_add_2 _ _)
      (tuple_addW1 t b vs.toArray ws.toArray n n2 dd dd2 sl sl2 (by simpa using hv) (by simp [hw])) ⟨ho, ho2, h1 hw⟩
  · refine concat_meets ⟨_, ho, rfl⟩ ⟨_, ho2, rfl⟩ noFill_tuple_add seq_tuple_add PySem.F.slot_tuple_add PySem.F.entry_tuple_add (PySem.F.args_tuple_add_2 _ _)
      (tuple_addW2 t b vs.toArray ws.toArray n n2 dd dd2 sl sl2 (by simpa using hv) (by simpa using hw) (by rw [List.size_toArray, List.size_toArray]; exact hsz)) ⟨ho, ho2, ?_⟩
    rw [e]
    exact h2 hw

/-! ### t[a:b], not the whole -/
/-- a slice's bound as a place among n (d where it is left out) -/
def sIx (n d : Nat) : Option Int → Nat
  | none => d
  | some v => if v < 0 then (v + (n : Int)).toNat else min v.toNat n
theorem sIx_none (n d : Nat) : sIx n d none = d := rfl
theorem sIx_nat (n d k : Nat) : sIx n d (some (k : Int)) = min k n := by
  show (if (k : Int) < 0 then ((k : Int) + (n : Int)).toNat else min (k : Int).toNat n) = min k n
  rw [if_neg (by omega), Int.toNat_natCast]
theorem sIx_le (n d : Nat) (hd : d ≤ n) (o : Option Int) : sIx n d o ≤ n := by
  cases o with
  | none => exact hd
  | some v =>
    show (if v < 0 then (v + (n : Int)).toNat else min v.toNat n) ≤ n
    by_cases hv : v < 0
    · rw [if_pos hv]; omega
    · rw [if_neg hv]; exact Nat.min_le_right _ _
theorem clip_eq (v : Int) (n d : Nat) : (if v < 0 then max (v + (n : Int)) 0 else min v (n : Int)) = ((sIx n d (some v) : Nat) : Int) := by
  show (if v < 0 then max (v + (n : Int)) 0 else min v (n : Int)) = (((if v < 0 then (v + (n : Int)).toNat else min v.toNat n) : Nat) : Int)
  by_cases hv : v < 0
  · simp only [if_pos hv]; omega
  · simp only [if_neg hv]; omega
theorem adjust_gen (lo hi : Option Int) (n : Nat) : Builtin.Slice.sliceAdjust lo hi 1 (n : Int) = (((sIx n 0 lo : Nat) : Int), ((sIx n n hi : Nat) : Int)) := by
  have h1 : ¬ ((1 : Int) < 0) := by omega
  unfold Builtin.Slice.sliceAdjust
  simp only [h1, if_false]
  refine Prod.ext ?_ ?_
  · cases lo with
    | none => rfl
    | some v => exact clip_eq v n 0
  · cases hi with
    | none => rfl
    | some v => exact clip_eq v n n
theorem places_gen (i j : Nat) : Builtin.Slice.slicePlaces (i : Int) (j : Int) 1 = j - i := by
  unfold Builtin.Slice.slicePlaces
  have h1 : (1 : Int) > 0 := by omega
  simp only [h1, if_true, Int.ediv_one]
  split <;> omega
theorem slicePart_ {v : Value} {o : Option Int} {Q : Option Int → Shared → Prop} (p : IsPart v o) (h : Q o s) : wpAny (model prog w) A (Builtin.Slice.slicePartIndex v) Q E s := by
  cases p with
  | none => exact slicePart_none h
  | int i t => exact slicePart_int h
theorem sliceApplied_gen {sl : Addr} {vl vu : Value} {lo hi : Option Int} {n : Nat} {Q : Int × Int × Nat → Shared → Prop} (hs : s.heap.IsSliceOf sl vl vu .none) (pl : IsPart vl lo) (pu : IsPart vu hi)
    (h : Q (((sIx n 0 lo : Nat) : Int), 1, sIx n n hi - sIx n 0 lo) s) : wpAny (model prog w) A (Builtin.Slice.sliceApplied (.ref sl) (pure (n : Int))) Q E s := by
  obtain ⟨os, hos, hcs, hds⟩ := id hs
  unfold Builtin.Slice.sliceApplied Builtin.Slice.sliceFields
  refine wpAny_bind (wpAny_bind (wpAny_field hos hds (x := vl) rfl (wpAny_bind (wpAny_field hos hds (x := vu) rfl (wpAny_bind (wpAny_field hos hds (x := .none) rfl (wpAny_pure ?_)))))))
  refine wpAny_bind (slicePart_none ?_)
  show wpAny _ _ (if ((1 : Int) == 0) = true then _ else _) _ _ s
  rw [if_neg (by decide)]
  refine wpAny_bind (slicePart_ pl (wpAny_bind (slicePart_ pu (wpAny_bind (wpAny_pure ?_)))))
  show wpAny _ _ (match Builtin.Slice.sliceAdjust lo hi 1 (n : Int) with | (lo, hi) => pure (lo, (1 : Int), Builtin.Slice.slicePlaces lo hi 1)) _ _ s
  rw [adjust_gen lo hi n]
  show wpAny _ _ (pure (((sIx n 0 lo : Nat) : Int), (1 : Int), Builtin.Slice.slicePlaces ((sIx n 0 lo : Nat) : Int) ((sIx n n hi : Nat) : Int) 1)) _ _ s
  rw [places_gen]
  exact wpAny_pure h
theorem pick_gen (xs : Array Value) (i k : Nat) : ((List.range k).filterMap fun (m : Nat) => xs[((i : Int) + (m : Int) * 1).toNat]?).toArray = ((xs.toList.drop i).take k).toArray := by
  have e : (fun (m : Nat) => xs[((i : Int) + (m : Int) * 1).toNat]?) = fun m => xs[i + m]? := by
    funext m
    have : ((i : Int) + (m : Int) * 1).toNat = i + m := by omega
    rw [this]
  rw [e]
  have := pick_run xs i k
  rw [List.filterMap_map] at this
  have e2 : ((fun x => xs[x]?) ∘ fun x => i + x) = fun m => xs[i + m]? := rfl
  rw [e2] at this
  rw [this]

theorem getItem_tuple_cut {t sl : Addr} {items : Array Value} {vl vu : Value} {lo hi : Option Int} {Q : Value → Shared → Prop} (ht : IsTup s.heap t items) (hs : s.heap.IsSliceOf sl vl vu .none) (pl : IsPart vl lo) (pu : IsPart vu hi)
    (hw : ¬ (sIx items.size 0 lo = 0 ∧ sIx items.size items.size hi = items.size))
    (h : Q (.ref s.heap.objs.size) { s with heap := s.heap.push { cls := .type "tuple", data := .seq ((items.toList.drop (sIx items.size 0 lo)).take (sIx items.size items.size hi - sIx items.size 0 lo)).toArray } })
    (hsz : items.size ≤ sizeLine) : wpAny (model prog w) A (getItem (.ref t) (.ref sl)) Q E s := by
  have htake : sizeOk (.seq ((items.toList.drop (sIx items.size 0 lo)).take (sIx items.size items.size hi - sIx items.size 0 lo)).toArray) := by
    show ((items.toList.drop (sIx items.size 0 lo)).take (sIx items.size items.size hi - sIx items.size 0 lo)).toArray.size ≤ sizeLine
    rw [List.size_toArray, List.length_take, List.length_drop, Array.length_toList]
    omega
  have hj : sIx items.size items.size hi ≤ items.size := sIx_le _ _ (Nat.le_refl _) hi
  obtain ⟨os, hos, hcs, hds⟩ := id hs
  have hTs : s.TypeIs (.ref sl) "slice" := ⟨os, hos, hcs⟩
  unfold getItem
  try with_reducible refine wpAny_holding ?_
  first | refine wpAny_bind (wpAny_pure ?_) | skip
  refine wpAny_bind (wpAny_sequenceKey ht.typeIs (by decide) ?_)
  refine wpAny_bind (wpAny_callSpecial?_slot (name := Str.ofString "__getitem__") ht.typeIs PyProof.Rows.slot_tuple_getitem
    (wpAny_call_entry PyProof.Rows.slot_tuple_getitem ht.typeIs entry_tuple_getitem ?_ (args_tuple_getitem _ _)))
  show wpAny _ _ (Builtin.Tuple.tupleItemsOf (.ref t) >>= _) _ _ s
  refine wpAny_bind (tupleItemsOf_ ht ?_)
  refine wpAny_bind (wpAny_typeOf hTs ?_)
  rw [if_pos (by decide)]
  refine wpAny_bind (sliceApplied_gen hs pl pu ?_)
  have hno : ¬ ((((sIx items.size 0 lo : Nat) : Int) == 0 && (1 : Int) == 1 && (sIx items.size items.size hi - sIx items.size 0 lo) == items.size) = true) := by
    intro q
    rw [Bool.and_eq_true, Bool.and_eq_true] at q
    have q1 : ((sIx items.size 0 lo : Nat) : Int) = 0 := eq_of_beq q.1.1
    have q2 : sIx items.size items.size hi - sIx items.size 0 lo = items.size := eq_of_beq q.2
    exact hw ⟨by omega, by omega⟩
  show wpAny _ _ (if (((sIx items.size 0 lo : Nat) : Int) == 0 && (1 : Int) == 1 && (sIx items.size items.size hi - sIx items.size 0 lo) == items.size) = true then _ else _) _ _ s
  rw [if_neg hno, pick_gen]
  first
    | exact wpAny_bind (m := Builtin.Tuple.tupleExact _) (wpAny_newObj_type (wpAny_pure ⟨_, rfl, wpAny_pure h⟩) htake)
    | exact wpAny_bind (m := Builtin.Tuple.tupleExact _) (wpAny_newObj_type (wpAny_bind (wpAny_pure (wpAny_pure ⟨_, rfl, wpAny_pure h⟩))) htake)
    | exact wpAny_bind (wpAny_bind (m := Builtin.Tuple.tupleExact _) (wpAny_newObj_type (wpAny_pure (wpAny_pure ⟨_, rfl, wpAny_pure h⟩)) htake))
    | exact wpAny_bind (wpAny_bind (m := Builtin.Tuple.tupleExact _) (wpAny_newObj_type (wpAny_pure ⟨_, rfl, wpAny_pure h⟩) htake))
end
end HT

namespace L2
open PySem PySem.Spec PyProof.Rows

/-! ### the parts of a slice -/
abbrev TO := St → Hp → (Option Int → Hp → Prop) → Prop
/-- a slice's part (left out, or an int) -/
def PO (X : Cx) (e : Option Expr) (t : TO) : Prop :=
  ∀ (pins : List (Addr × Obj)) (s : Shared) (σ : St) (H : Hp) (Q : Option Int → Hp → Prop), Inv X pins σ H s → t σ H Q →
    wpAny (model X.prog X.w) X.A (evalPart e X.env) (fun u s' => ∃ o H', Inv X pins σ H' s' ∧ IsPart u o ∧ Q o H') X.xe s
def tNoPart : TO := fun _ H Q => Q none H
def tPart (t : TE) : TO := fun σ H Q => t σ H fun x H1 => ∃ i, x = .int i ∧ Q (some i) H1

theorem intsAre_of {ns : List Int} : ∀ {us : List Value}, Vals (ns.map V.int) us → IntsAre us ns := by
  induction ns with
  | nil => intro us r; rw [List.map_nil] at r; cases r; exact .nil
  | cons n ns ih =>
    intro us r
    rw [List.map_cons] at r
    cases r with
    | cons r1 r2 =>
      obtain ⟨t, e⟩ := r1
      subst e
      exact .cons n t (ih r2)

section
variable {X : Cx} {e : Expr} {te : TE} {lo hi : Option Expr} {tl th : TO} {pos p2 : Pos}

theorem po_none : PO X none tNoPart := by
  intro pins s σ H Q I h
  rw [evalPart_none]
  exact wpAny_pure ⟨none, H, I, .none, h⟩
theorem po_some (h : PE X e te) : PO X (some e) (tPart te) := by
  intro pins s σ H Q I hw
  rw [evalPart_some]
  refine thn (h pins s σ H _ I hw) fun u s1 ⟨x, H1, I1, r1, q1⟩ => ?_
  obtain ⟨i, rfl, q⟩ := q1
  obtain ⟨t, rfl⟩ := r1
  exact ⟨some i, H1, I1, .int i t, q⟩

/-- what a slice of a value is, by values: the slice object stands at sl -/
def SlR (X : Cx) (r : V → Option Int → Option Int → Hp → VK → Prop) : Prop :=
  ∀ (pins : List (Addr × Obj)) (s : Shared) (σ : St) (H : Hp) (x : V) (v vl vu : Value) (lo hi : Option Int) (sl : Addr) (Q : VK), Inv X pins σ H s → RelV x v → s.heap.IsSliceOf sl vl vu .none → IsPart vl lo → IsPart vu hi → r x lo hi H Q →
    ∃ T id, typeLookup (.type T) "__getitem__" = pure (some (.builtin id)) ∧ s.TypeIs v T ∧ wpAny (model X.prog X.w) X.A (getItem v (.ref sl)) (EP X pins σ Q) X.xe s
theorem SlR.or {r r' : V → Option Int → Option Int → Hp → VK → Prop} (h : SlR X r) (h' : SlR X r') : SlR X (fun x lo hi H Q => r x lo hi H Q ∨ r' x lo hi H Q) := by
  intro pins s σ H x v vl vu lo hi sl Q I rx hs pl pu q
  rcases q with q | q
  · exact h pins s σ H x v vl vu lo hi sl Q I rx hs pl pu q
  · exact h' pins s σ H x v vl vu lo hi sl Q I rx hs pl pu q
def tSl (r : V → Option Int → Option Int → Hp → VK → Prop) (te : TE) (tl th : TO) : TE := fun σ H Q => te σ H fun x H1 => tl σ H1 fun l H2 => th σ H2 fun u H3 => r x l u H3 Q
/-- a[lo:hi], any a -/
theorem pe_slice {r : V → Option Int → Option Int → Hp → VK → Prop} (hr : SlR X r) (he : PE X e te) (hl : PO X lo tl) (hu : PO X hi th) : PE X (.Subscript e (.Slice lo hi none p2) pos) (tSl r te tl th) := by
  intro pins s σ H Q I h
  refine Subscript_ (thn (he pins s σ H _ I h) fun v s1 ⟨x, H1, I1, r1, q1⟩ => ?_)
  refine wpAny_Slice (thn (hl pins s1 σ H1 _ I1 q1) fun vl s2 ⟨l, H2, I2, pl, q2⟩ => thn (hu pins s2 σ H2 _ I2 q2) fun vu s3 ⟨u, H3, I3, pu, q3⟩ => ?_)
  rw [evalPart_none]
  refine wpAny_pure ?_
  have I4 : Inv X pins σ H3 { s3 with heap := s3.heap.push { cls := .type "slice", data := .fields #[vl, vu, .none] } } := I3.kept (t' := s3.toks) fun b ob q => Heap.get?_push_of_some _ q
  obtain ⟨T, id, hT, ht, hg⟩ := hr pins { s3 with heap := s3.heap.push { cls := .type "slice", data := .fields #[vl, vu, .none] } } σ H3 x v vl vu l u s3.heap.objs.size Q I4 r1 (Heap.IsSliceOf.new ..) pl pu q3
  show wpAny (model X.prog X.w) X.A (subscriptTail e (.Slice lo hi none p2) v (.ref s3.heap.objs.size)) (EP X pins σ Q) X.xe { s3 with heap := s3.heap.push { cls := .type "slice", data := .fields #[vl, vu, .none] } }
  exact tail_any (ops := [.ref s3.heap.objs.size, v]) ht hT hg (by with_unfolding_all rfl)

/-- the items of xs[lo:hi] -/
def cutV (xs : List V) (lo hi : Option Int) : List V := (xs.drop (HT.sIx xs.length 0 lo)).take (HT.sIx xs.length xs.length hi - HT.sIx xs.length 0 lo)
theorem cutV_length (xs : List V) (lo hi : Option Int) : (cutV xs lo hi).length ≤ xs.length := by
  unfold cutV
  rw [List.length_take, List.length_drop]
  omega
/-- t[lo:hi], not the whole of it (the whole would be t itself) -/
def rSlT (K : PySem.W.Frag) : V → Option Int → Option Int → Hp → VK → Prop := fun x lo hi H Q => ∃ a xs, x = .ref a ∧ SqT K H a xs ∧
  ¬ (HT.sIx xs.length 0 lo = 0 ∧ HT.sIx xs.length xs.length hi = xs.length) ∧ ∀ p, H p = none → Q (.ref p) (upd H p (.tup (cutV xs lo hi)))
theorem sl_tup : SlR X (rSlT X.K) := by
  intro pins s σ H x v vl vu lo hi sl Q I rx hs pl pu h
  obtain ⟨a, xs, rfl, hx, hw, q⟩ := h
  cases rx
  obtain ⟨its, r, ht, hz⟩ := I.tuple hx
  have hlen : its.toArray.size = xs.length := by rw [List.size_toArray]; exact r.length.symm
  refine ⟨"tuple", _, PyProof.Rows.slot_tuple_getitem.lookup, ht.typeIs, ?_⟩
  refine HT.getItem_tuple_cut ht hs pl pu (by rw [hlen]; exact hw) ?_ (by rw [hlen]; exact hz)
  rw [hlen]
  refine ⟨.ref s.heap.objs.size, _, I.laid (t' := s.toks) (o := .tup (cutV xs lo hi)) (fun b ob q => Heap.get?_push_of_some _ q) (Nat.le_refl _) ?_, rfl, q _ (I.hok.fresh (Nat.le_refl _))⟩
  exact ⟨Nat.le_trans (cutV_length xs lo hi) hz, _, (r.drop (HT.sIx xs.length 0 lo)).take (HT.sIx xs.length xs.length hi - HT.sIx xs.length 0 lo), IsTup.new _ _⟩

/-! ### t < u, t + u -/
def rLtT (K : PySem.W.Frag) : R2 := fun x y H Q => ∃ a b ns ms, x = .ref a ∧ y = .ref b ∧ SqT K H a (ns.map V.int) ∧ SqT K H b (ms.map V.int) ∧ Q (.bl (HT.lexLt ns ms)) H
theorem op_ltT (hu : X.A.units < cLine) : OpR X (compareOp .Lt) (rLtT X.K) := by
  intro pins s σ H x y v u Q I rx ry h
  obtain ⟨a, b, ns, ms, rfl, rfl, ha, hb, q⟩ := h
  cases rx
  cases ry
  obtain ⟨its, r1, p1, _⟩ := I.tuple ha
  obtain ⟨its2, r2, p2, _⟩ := I.tuple hb
  have i1 : IntsAre its.toArray.toList ns := intsAre_of r1
  have i2 : IntsAre its2.toArray.toList ms := intsAre_of r2
  exact HT.lt_tupInts p1 p2 i1 i2 hu ⟨.bl (HT.lexLt ns ms), H, I, rfl, q⟩
/-- t + u, t not empty: u empty gives t itself -/
def rCatT (K : PySem.W.Frag) : R2 := fun x y H Q => ∃ a b xs ys, x = .ref a ∧ y = .ref b ∧ SqT K H a xs ∧ SqT K H b ys ∧ xs ≠ [] ∧ xs.length + ys.length ≤ sizeLine ∧
  (ys = [] → Q (.ref a) H) ∧ (ys ≠ [] → ∀ p, H p = none → Q (.ref p) (upd H p (.tup (xs ++ ys))))
theorem Vals.nil_iff {xs : List V} {us : List Value} (r : Vals xs us) : us = [] ↔ xs = [] := by
  cases r with
  | nil => simp
  | cons _ _ => simp
theorem op_catT : OpR X (binaryOp .Add) (rCatT X.K) := by
  intro pins s σ H x y v u Q I rx ry h
  obtain ⟨a, b, xs, ys, rfl, rfl, ha, hb, hx, hz, q1, q2⟩ := h
  cases rx
  cases ry
  obtain ⟨its, r1, p1, _⟩ := I.tuple ha
  obtain ⟨its2, r2, p2, _⟩ := I.tuple hb
  refine HT.cat_tup p1 p2 (fun z => hx (r1.nil_iff.mp z)) (fun z => ⟨.ref a, H, I, rfl, q1 (r2.nil_iff.mp z)⟩) (fun z => ?_) (by rw [← r1.length, ← r2.length]; exact hz)
  refine ⟨.ref s.heap.objs.size, _, I.laid (t' := s.toks) (o := .tup (xs ++ ys)) (fun b ob q => Heap.get?_push_of_some _ q) (Nat.le_refl _) ?_, rfl, q2 (fun w => z (r2.nil_iff.mpr w)) _ (I.hok.fresh (Nat.le_refl _))⟩
  exact ⟨by rw [List.length_append]; exact hz, _, r1.append r2, IsTup.new _ _⟩
/-- tuple(t) -/
theorem call_tupleT : CallR X (.type "tuple") (fun xs H Q => ∃ a ys, xs = [.ref a] ∧ SqT X.K H a ys ∧ Q (.ref a) H) := by
  intro pins s σ H xs us Q I r h
  obtain ⟨a, ys, rfl, ha, q⟩ := h
  obtain ⟨u, rfl, ru⟩ := vals1 r
  cases ru
  obtain ⟨its, _, p1, _⟩ := I.tuple ha
  exact call_tuple_same (items := its.toArray) p1 ⟨.ref a, H, I, rfl, q⟩
end
end L2

namespace L2
open PySem PySem.Spec PyProof.Rows

/-! ### places -/
/-- the place that an index of any sign means -/
def ixN (n : Nat) (i : Int) : Option Nat := if 0 ≤ i then (if i < n then some i.toNat else none) else if -(n : Int) ≤ i then some (i + n).toNat else none
def atI {α : Type} (xs : List α) (i : Int) : Option α := (ixN xs.length i).bind fun j => xs[j]?
theorem ixN_seq {n : Nat} {i : Int} {j : Nat} (h : ixN n i = some j) : seqIndex? i n = some j ∧ j < n ∧ -(n : Int) ≤ i ∧ i < n := by
  unfold ixN at h
  by_cases h0 : 0 ≤ i
  · rw [if_pos h0] at h
    by_cases h1 : i < n
    · rw [if_pos h1] at h
      have e : i.toNat = j := Option.some.inj h
      exact ⟨by rw [seqIndex_of h0 h1, e], by omega, by omega, h1⟩
    · rw [if_neg h1] at h; cases h
  · rw [if_neg h0] at h
    by_cases h1 : -(n : Int) ≤ i
    · rw [if_pos h1] at h
      have e : (i + n).toNat = j := Option.some.inj h
      exact ⟨by rw [seqIndex_neg (by omega) h1, e], by omega, h1, by omega⟩
    · rw [if_neg h1] at h; cases h
theorem atI_get {α : Type} {xs : List α} {i : Int} {v : α} (h : atI xs i = some v) : ∃ j, seqIndex? i xs.length = some j ∧ xs[j]? = some v ∧ j < xs.length ∧ -(xs.length : Int) ≤ i ∧ i < xs.length := by
  unfold atI at h
  cases e : ixN xs.length i with
  | none => rw [e] at h; cases h
  | some j =>
    rw [e] at h
    obtain ⟨h1, h2, h3, h4⟩ := ixN_seq e
    exact ⟨j, h1, h, h2, h3, h4⟩
theorem atI_nat {α : Type} {xs : List α} {j : Nat} {v : α} (h : xs[j]? = some v) : atI xs (j : Int) = some v := by
  have hj : j < xs.length := (List.getElem?_eq_some_iff.mp h).1
  have e : ixN xs.length (j : Int) = some j := by
    unfold ixN
    rw [if_pos (by omega), if_pos (by omega)]; simp
  unfold atI; rw [e]; exact h
theorem atI_last {α : Type} (xs : List α) (v : α) : atI (xs ++ [v]) (-1) = some v := by
  have hl : (xs ++ [v]).length = xs.length + 1 := by simp
  have e : ixN (xs ++ [v]).length (-1) = some xs.length := by
    unfold ixN
    rw [hl, if_neg (by decide), if_pos (by omega)]
    congr 1
    omega
  unfold atI
  rw [e]
  show (xs ++ [v])[xs.length]? = some v
  simp

/-! ### what may be subscripted -/
/-- what stands as an index of a plain subscript -/
def PlainIx (b : Expr) : Prop := ∀ o i, subscripted b false o i = operate [o, i] (getItem o i)
/-- a subscript by values -/
def IxR (X : Cx) (r : R2) : Prop :=
  ∀ (value slice : Expr) (pins : List (Addr × Obj)) (s : Shared) (σ : St) (H : Hp) (x y : V) (v u : Value) (Q : VK), Inv X pins σ H s → RelV x v → RelV y u → r x y H Q →
    subscripted slice false v u = operate [v, u] (getItem v u) → wpAny (model X.prog X.w) X.A (subscriptTail value slice v u) (EP X pins σ Q) X.xe s
/-- a call of a builtin's method by values: the receiver, the arguments -/
def MtR (X : Cx) (id : String) (r : V → List V → Hp → VK → Prop) : Prop :=
  ∀ (pins : List (Addr × Obj)) (s : Shared) (σ : St) (H : Hp) (x : V) (xs : List V) (v : Value) (us : List Value) (Q : VK), Inv X pins σ H s → RelV x v → Vals xs us → r x xs H Q →
    wpAny (model X.prog X.w) X.A (call (.builtin id) (v :: us)) (EP X pins σ Q) X.xe s
section
variable {X : Cx} {a b : Expr} {ta tb : TE} {pos : Pos}
theorem IxR.or {r r' : R2} (h : IxR X r) (h' : IxR X r') : IxR X (fun x y H Q => r x y H Q ∨ r' x y H Q) := by
  intro value slice pins s σ H x y v u Q I rx ry q hs
  rcases q with q | q
  · exact h value slice pins s σ H x y v u Q I rx ry q hs
  · exact h' value slice pins s σ H x y v u Q I rx ry q hs
theorem MtR.or {id : String} {r r' : V → List V → Hp → VK → Prop} (h : MtR X id r) (h' : MtR X id r') : MtR X id (fun x xs H Q => r x xs H Q ∨ r' x xs H Q) := by
  intro pins s σ H x xs v us Q I rx rs q
  rcases q with q | q
  · exact h pins s σ H x xs v us Q I rx rs q
  · exact h' pins s σ H x xs v us Q I rx rs q
/-- a[b] -/
theorem pe_ix {r : R2} (hr : IxR X r) (ha : PE X a ta) (hb : PE X b tb) (hs : PlainIx b) : PE X (.Subscript a b pos) (tOp r ta tb) := by
  intro pins s σ H Q I h
  exact Subscript_ (binT ha hb I h fun v u s2 x y H2 I2 rx ry q => hr a b pins s2 σ H2 x y v u Q I2 rx ry q (hs _ _))

def rIxL (K : PySem.W.Frag) : R2 := fun x y H Q => ∃ p xs i v, x = .ref p ∧ y = .int i ∧ SqL K H p xs ∧ atI xs i = some v ∧ Q v H
def rIxT (K : PySem.W.Frag) : R2 := fun x y H Q => ∃ p xs i v, x = .ref p ∧ y = .int i ∧ SqT K H p xs ∧ atI xs i = some v ∧ Q v H
def rIxS : R2 := fun x y H Q => ∃ z i c, x = .str z ∧ y = .int i ∧ z.length ≤ sizeLine ∧ atI z.cps.toList i = some c ∧ Q (.str ⟨#[c]⟩) H
theorem ix_list : IxR X (rIxL X.K) := by
  intro value slice pins s σ H x y v u Q I rx ry h hs
  obtain ⟨p, xs, i, z, rfl, rfl, hq, he, q⟩ := h
  cases rx
  obtain ⟨t, rfl⟩ := ry
  obtain ⟨its, r, pl, hz⟩ := I.list hq
  obtain ⟨j, h1, h2, h3, h4, h5⟩ := atI_get he
  obtain ⟨w, ew, rw'⟩ := r.get h2
  have hl := r.length
  have hn := line63
  have fin : EP X pins σ Q w s := ⟨z, H, I, rw', q⟩
  by_cases h0 : 0 ≤ i
  · have hj : i.toNat = j := by
      rw [seqIndex_of h0 h5] at h1
      exact Option.some.inj h1
    exact item_listR pl.isList h0 (by omega) (by rw [hj]; simpa using ew) fin hs
  · have hj : (i + (its.toArray.size : Int)).toNat = j := by
      rw [seqIndex_neg (by omega) h4] at h1
      rw [List.size_toArray, ← hl]
      exact Option.some.inj h1
    exact subscriptTail_builtinR (x := w) pl.isList.typeIs slot_list_getitem.lookup
      (wpAny_getItem_list_neg (Q := fun r s' => r = w ∧ EP X pins σ Q r s') pl.isList (by omega) (by rw [List.size_toArray] <;> omega) (by omega) (by rw [hj]; simpa using ew) ⟨rfl, fin⟩) hs
theorem ix_tup : IxR X (rIxT X.K) := by
  intro value slice pins s σ H x y v u Q I rx ry h hs
  obtain ⟨p, xs, i, z, rfl, rfl, hq, he, q⟩ := h
  cases rx
  obtain ⟨t, rfl⟩ := ry
  obtain ⟨its, r, pl, hz⟩ := I.tuple hq
  obtain ⟨j, h1, h2, h3, h4, h5⟩ := atI_get he
  obtain ⟨w, ew, rw'⟩ := r.get h2
  have hl := r.length
  have hn := line63
  have fin : EP X pins σ Q w s := ⟨z, H, I, rw', q⟩
  exact subscriptTail_builtinR (x := w) pl.typeIs slot_tuple_getitem.lookup
    (getItem_tuple (j := j) (Q := fun r s' => r = w ∧ EP X pins σ Q r s') pl (by omega) (by omega) (by rw [List.size_toArray, ← hl]; exact h1) (by simpa using ew) ⟨rfl, fin⟩) hs
theorem ix_str : IxR X rIxS := by
  intro value slice pins s σ H x y v u Q I rx ry h hs
  obtain ⟨z, i, c, rfl, rfl, hz, he, q⟩ := h
  obtain ⟨t, rfl⟩ := rx
  obtain ⟨t', rfl⟩ := ry
  obtain ⟨j, h1, h2, h3, h4, h5⟩ := atI_get he
  have hl : z.cps.toList.length = z.length := by simp [Str.length]
  rw [hl] at h1 h4 h5
  have hn := line63
  exact tail_any (typeIs_str s z t) slot_str_getitem.lookup (getItem_str (c := c) (by
    have e1 : decide (i < -(2 ^ 63 : Int)) = false := decide_eq_false (by omega)
    have e2 : decide (i ≥ 2 ^ 63) = false := decide_eq_false (by omega)
    rw [e1, e2, Bool.or_false]) (by rw [h1]; simpa using h2) ⟨.str ⟨#[c]⟩, H, I.tok _, ⟨_, rfl⟩, q⟩) hs
/-- list, tuple or str -/
def rIx (K : PySem.W.Frag) : R2 := fun x y H Q => rIxL K x y H Q ∨ rIxT K x y H Q ∨ rIxS x y H Q
theorem ix_seq : IxR X (rIx X.K) := ix_list.or (ix_tup.or ix_str)

/-! ### xs[i] = v, any sign -/
/-- the list's object behind a store -/
theorem mapSeq_set (its : List Value) (n j : Nat) (u : Value) : Obj.mapSeq (·.setIfInBounds j u) { cls := .type "list", data := .seq its.toArray n } = { cls := .type "list", data := .seq (its.set j u).toArray n } := by
  simp [Obj.mapSeq]
theorem Inv.lst {pins : List (Addr × Obj)} {σ : St} {H : Hp} {s : Shared} {p : Addr} {xs : List V} (I : Inv X pins σ H s) (h : H p = some (.lst xs)) :
    ∃ (its : List Value) (n : Nat), Vals xs its ∧ s.heap.get? p = some { cls := .type "list", data := .seq its.toArray n } ∧ xs.length ≤ sizeLine := by
  obtain ⟨z, its, n, r, e⟩ := I.hok p _ h
  exact ⟨its, n, r, e, z⟩
/-- the list at p is written by an update of its object -/
theorem Inv.lstUpd {pins : List (Addr × Obj)} {σ : St} {H : Hp} {s : Shared} {p : Addr} {xs ys : List V} {its its' : List Value} {n n' : Nat} {f : Obj → Obj} (I : Inv X pins σ H s) (h : H p = some (.lst xs))
    (ho : s.heap.get? p = some { cls := .type "list", data := .seq its.toArray n }) (hf : f { cls := .type "list", data := .seq its.toArray n } = { cls := .type "list", data := .seq its'.toArray n' }) (r : Vals ys its') (hz : ys.length ≤ sizeLine) (t : Nat) :
    Inv X pins σ (upd H p (.lst ys)) { s with heap := s.heap.update p f, toks := t } := by
  have e : (s.heap.update p f).get? p = some { cls := .type "list", data := .seq its'.toArray n' } := by
    rw [Heap.get?_update_self f ho (by rw [hf] <;> rfl), hf]
  refine I.write (x := p) (e := p) (by rw [h]; trivial) (.inl rfl) (fun b u hb q => (Heap.get?_update_other _ _ (Ne.symm hb)).trans q) ⟨_, e⟩ ?_
  exact ⟨hz, its', n', r, e⟩
def rSetL : V → V → V → Hp → (Hp → Prop) → Prop := fun o i v H Q => ∃ p xs k j, o = .ref p ∧ i = .int k ∧ H p = some (.lst xs) ∧ ixN xs.length k = some j ∧ Q (upd H p (.lst (xs.set j v)))
theorem set_list : PSet X rSetL := by
  intro pins s σ H o i v ov iv u Q I ro ri rv h
  obtain ⟨p, xs, k, j, rfl, rfl, hp, hj, q⟩ := h
  cases ro
  obtain ⟨t, rfl⟩ := ri
  obtain ⟨its, n, r, ho, hz⟩ := I.lst hp
  obtain ⟨h1, h2, h3, h4⟩ := ixN_seq hj
  have hl := r.length
  have hn := line63
  have I' : Inv X pins σ (upd H p (.lst (xs.set j v))) { s with heap := s.heap.update p (Obj.mapSeq (·.setIfInBounds j u)) } :=
    I.lstUpd hp ho (mapSeq_set its n j u) (r.set rv j) (by rw [List.length_set]; exact hz) s.toks
  by_cases h0 : 0 ≤ k
  · have hk : k.toNat = j := by
      rw [seqIndex_of h0 h4] at h1
      exact Option.some.inj h1
    exact PySem.W.ki_setAt ho h0 (by omega) (by rw [List.size_toArray, ← hl]; exact h4) (by rw [hk]; exact ⟨_, I', q⟩)
  · have hk : (k + (its.toArray.size : Int)).toNat = j := by
      rw [seqIndex_neg (by omega) h3] at h1
      rw [List.size_toArray, ← hl]
      exact Option.some.inj h1
    exact PySem.W.ki_setBack ho (by omega) (by rw [List.size_toArray, ← hl]; exact h3) (by omega) (by rw [hk]; exact ⟨_, I', q⟩)

/-! ### slices -/
theorem slice_bounds (lo hi : Option Int) (n : Nat) : (sliceBounds lo hi none n).1 = ((HT.sIx n 0 lo : Nat) : Int) ∧ (sliceBounds lo hi none n).2.1 = ((HT.sIx n n hi : Nat) : Int) ∧ (sliceBounds lo hi none n).2.2 = 1 := by
  refine ⟨?_, ?_, rfl⟩
  · cases lo with
    | none => simp [sliceBounds, HT.sIx]
    | some i =>
      simp only [sliceBounds, HT.sIx, Option.getD_none, show (1 : Int) > 0 by decide, if_true]
      by_cases h : i < 0
      · simp only [h, if_true] <;> omega
      · simp only [h, if_false] <;> omega
  · cases hi with
    | none => simp [sliceBounds, HT.sIx]
    | some i =>
      simp only [sliceBounds, HT.sIx, Option.getD_none, show (1 : Int) > 0 by decide, if_true]
      by_cases h : i < 0
      · simp only [h, if_true] <;> omega
      · simp only [h, if_false] <;> omega
theorem slicePick_cut (its : List Value) (lo hi : Option Int) : slicePick its.toArray lo hi none = ((its.drop (HT.sIx its.length 0 lo)).take (HT.sIx its.length its.length hi - HT.sIx its.length 0 lo)).toArray := by
  obtain ⟨h1, h2, h3⟩ := slice_bounds lo hi its.toArray.size
  unfold slicePick
  rw [h1, h2, h3]
  simp only [sliceRange_one, pick_run, List.size_toArray] <;> rfl
/-- xs[lo:hi] of a list: a new list -/
def rSlL (K : PySem.W.Frag) : V → Option Int → Option Int → Hp → VK → Prop := fun x lo hi H Q => ∃ a xs, x = .ref a ∧ SqL K H a xs ∧ ∀ p, H p = none → Q (.ref p) (upd H p (.lst (cutV xs lo hi)))
theorem sl_list : SlR X (rSlL X.K) := by
  intro pins s σ H x v vl vu lo hi sl Q I rx hs pl pu h
  obtain ⟨a, xs, rfl, hx, q⟩ := h
  cases rx
  obtain ⟨its, r, ht, hz⟩ := I.list hx
  have hlen := r.length
  refine ⟨"list", _, slot_list_getitem.lookup, ht.isList.typeIs, ?_⟩
  refine wpAny_getItem_list_slice ht.isList hs pl pu .none (by simp) ?_ (by rw [List.size_toArray] <;> omega)
  rw [slicePick_cut, ← hlen]
  refine ⟨.ref s.heap.objs.size, _, I.laid (t' := s.toks) (o := .lst (cutV xs lo hi)) (fun b ob q => Heap.get?_push_of_some _ q) (Nat.le_refl _) ?_, rfl, q _ (I.hok.fresh (Nat.le_refl _))⟩
  exact ⟨Nat.le_trans (cutV_length xs lo hi) hz, _, 0, (r.drop (HT.sIx xs.length 0 lo)).take (HT.sIx xs.length xs.length hi - HT.sIx xs.length 0 lo), Heap.get?_push_size _ rfl⟩

/-! ### in, not in: flat items -/
def flatV : V → Bool
  | .non => true
  | .bl _ => true
  | .int _ => true
  | .str _ => true
  | _ => false
/-- == of flat values -/
def eqV : V → V → Bool
  | .non, .non => true
  | .bl a, .bl b => a == b
  | .bl a, .int b => (if a then 1 else 0) == b
  | .int a, .bl b => a == (if b then 1 else 0)
  | .int a, .int b => a == b
  | .str a, .str b => a == b
  | _, _ => false
theorem eqAt_V {A : Around} {s : Shared} {y x : V} {u v : Value} (ry : RelV y u) (rx : RelV x v) (fy : flatV y = true) (fx : flatV x = true) : SeqAt.EqAt A s u v (eqV y x) := by
  cases y with
  | non =>
    cases ry
    cases x with
    | non => cases rx; exact SeqAt.EqAt.same _
    | bl b => cases rx; exact SeqAt.EqAt.none_bool b
    | int b => obtain ⟨t, rfl⟩ := rx; exact SeqAt.EqAt.none_int b t
    | str b => obtain ⟨t, rfl⟩ := rx; exact SeqAt.EqAt.none_str b t
    | _ => exact absurd (show false = true from fx) Bool.false_ne_true
  | bl a =>
    cases ry
    cases x with
    | non => cases rx; exact SeqAt.EqAt.bool_none a
    | bl b => cases rx; exact SeqAt.EqAt.bool_bool a b
    | int b => obtain ⟨t, rfl⟩ := rx; exact SeqAt.EqAt.bool_int a b t
    | str b => obtain ⟨t, rfl⟩ := rx; exact SeqAt.EqAt.bool_str a b t
    | _ => exact absurd (show false = true from fx) Bool.false_ne_true
  | int a =>
    obtain ⟨t', rfl⟩ := ry
    cases x with
    | non => cases rx; exact SeqAt.EqAt.int_none a t'
    | bl b => cases rx; exact SeqAt.EqAt.int_bool a t' b
    | int b => obtain ⟨t, rfl⟩ := rx; exact SeqAt.EqAt.int_int a t' b t
    | str b => obtain ⟨t, rfl⟩ := rx; exact SeqAt.EqAt.int_str a t' b t
    | _ => exact absurd (show false = true from fx) Bool.false_ne_true
  | str a =>
    obtain ⟨t', rfl⟩ := ry
    cases x with
    | non => cases rx; exact SeqAt.EqAt.str_none a t'
    | bl b => cases rx; exact SeqAt.EqAt.str_bool a t' b
    | int b => obtain ⟨t, rfl⟩ := rx; exact SeqAt.EqAt.str_int a t' b t
    | str b => obtain ⟨t, rfl⟩ := rx; exact SeqAt.EqAt.str_str a t' b t
    | _ => exact absurd (show false = true from fx) Bool.false_ne_true
  | _ => exact absurd (show false = true from fy) Bool.false_ne_true
/-- the items' answers, read off the values (a value's own answer does not lean on its token) -/
def eqU (x : V) (u : Value) : Bool := match u with
  | .none => eqV .non x
  | .bool b => eqV (.bl b) x
  | .int i _ => eqV (.int i) x
  | .str z _ => eqV (.str z) x
  | _ => false
theorem eqU_of {x y : V} {u : Value} (r : RelV y u) (f : flatV y = true) : eqU x u = eqV y x := by
  cases y with
  | non => cases r; rfl
  | bl b => cases r; rfl
  | int i => obtain ⟨t, rfl⟩ := r; rfl
  | str z => obtain ⟨t, rfl⟩ := r; rfl
  | _ => exact absurd (show false = true from f) Bool.false_ne_true
theorem any_eqU {x : V} : ∀ {xs : List V} {us : List Value}, Vals xs us → xs.all flatV = true → us.any (eqU x) = xs.any fun y => eqV y x
  | _, _, .nil, _ => rfl
  | y :: xs, u :: us, .cons r t, f => by
    rw [List.all_cons, Bool.and_eq_true] at f
    rw [List.any_cons, List.any_cons, eqU_of r f.1, any_eqU t f.2]
theorem mem_eqAt {A : Around} {s : Shared} {x : V} {v : Value} (rx : RelV x v) (fx : flatV x = true) : ∀ {xs : List V} {us : List Value}, Vals xs us → xs.all flatV = true → ∀ u ∈ us, SeqAt.EqAt A s u v (eqU x u)
  | _, _, .nil, _ => fun u hu => by cases hu
  | y :: xs, u :: us, .cons r t, f => fun u' hu => by
    rw [List.all_cons, Bool.and_eq_true] at f
    rcases List.mem_cons.mp hu with rfl | hu
    · rw [eqU_of r f.1]; exact eqAt_V r rx f.1 fx
    · exact mem_eqAt rx fx t f.2 u' hu
def inV (x : V) (xs : List V) : Bool := xs.any fun y => eqV y x
/-- x in a list or tuple of flat items -/
def rIn (K : PySem.W.Frag) (neg : Bool) : R2 := fun x y H Q => ∃ p xs, y = .ref p ∧ (SqL K H p xs ∨ SqT K H p xs) ∧ flatV x = true ∧ xs.all flatV = true ∧ Q (.bl (if neg then !inV x xs else inV x xs)) H
theorem op_in_seq : OpR X (compareOp .In) (rIn X.K false) := by
  intro pins s σ H x y v u Q I rx ry h
  obtain ⟨p, xs, rfl, hq, fx, fs, q⟩ := h
  cases ry
  rcases hq with hq | hq
  · obtain ⟨its, r, pl, hz⟩ := I.list hq
    refine SeqAt.in_listAt (eqU x) pl.isList (fun w hw => mem_eqAt rx fx r fs w (by simpa using hw)) ⟨.bl _, H, I, rfl, ?_⟩
    rw [show its.toArray.any (eqU x) = its.any (eqU x) by simp, any_eqU r fs]
    exact q
  · obtain ⟨its, r, pl, hz⟩ := I.tuple hq
    refine SeqAt.in_tupleAt (eqU x) pl (fun w hw => mem_eqAt rx fx r fs w (by simpa using hw)) ⟨.bl _, H, I, rfl, ?_⟩
    rw [show its.toArray.any (eqU x) = its.any (eqU x) by simp, any_eqU r fs]
    exact q
theorem op_notIn_seq : OpR X (compareOp .NotIn) (rIn X.K true) := by
  intro pins s σ H x y v u Q I rx ry h
  obtain ⟨p, xs, rfl, hq, fx, fs, q⟩ := h
  cases ry
  rcases hq with hq | hq
  · obtain ⟨its, r, pl, hz⟩ := I.list hq
    refine SeqAt.notIn_listAt (eqU x) pl.isList (fun w hw => mem_eqAt rx fx r fs w (by simpa using hw)) ⟨.bl _, H, I, rfl, ?_⟩
    rw [show its.toArray.any (eqU x) = its.any (eqU x) by simp, any_eqU r fs]
    exact q
  · obtain ⟨its, r, pl, hz⟩ := I.tuple hq
    refine SeqAt.notIn_tupleAt (eqU x) pl (fun w hw => mem_eqAt rx fx r fs w (by simpa using hw)) ⟨.bl _, H, I, rfl, ?_⟩
    rw [show its.toArray.any (eqU x) = its.any (eqU x) by simp, any_eqU r fs]
    exact q
theorem op_notIn_str : OpR X (compareOp .NotIn) (fun x y H Q => ∃ i j, x = .str i ∧ y = .str j ∧ Q (.bl (!(!(Builtin.Str.occurrences j i 0 j.length 1).isEmpty))) H) := by
  intro pins s σ H x y v u Q I rx ry h
  obtain ⟨i, j, rfl, rfl, q⟩ := h
  obtain ⟨t, rfl⟩ := rx
  obtain ⟨t', rfl⟩ := ry
  exact notIn_str ⟨.bl _, H, I, rfl, q⟩

/-! ### len, list(x), tuple(x) of any list or tuple that is read -/
theorem call_len_seq : CallR X (.builtin "len") (fun xs H Q => ∃ p ys, xs = [.ref p] ∧ (SqL X.K H p ys ∨ SqT X.K H p ys) ∧ Q (.int ys.length) H) := by
  intro pins s σ H xs us Q I r h
  obtain ⟨p, ys, rfl, hq, q⟩ := h
  obtain ⟨u, rfl, rx⟩ := vals1 r
  cases rx
  have hn := line63
  rcases hq with hq | hq
  · obtain ⟨its, r', pl, hz⟩ := I.list hq
    have hlen := r'.length
    exact Calls.call_len_list pl.isList (by simp only [List.size_toArray] <;> omega) ⟨.int ys.length, H, I.tok _, ⟨s.toks + 1, by rw [List.size_toArray, hlen]⟩, q⟩
  · obtain ⟨its, r', pl, hz⟩ := I.tuple hq
    have hlen := r'.length
    exact len_tuple pl (by simp only [List.size_toArray] <;> omega) ⟨.int ys.length, H, I.tok _, ⟨s.toks + 1, by rw [List.size_toArray, hlen]⟩, q⟩
theorem call_len_str : CallR X (.builtin "len") (fun xs H Q => ∃ z, xs = [.str z] ∧ z.length ≤ sizeLine ∧ Q (.int z.length) H) := by
  intro pins s σ H xs us Q I r h
  obtain ⟨z, rfl, hz, q⟩ := h
  obtain ⟨u, rfl, t, rfl⟩ := vals1 r
  have hn := line63
  exact len_str (by omega) ⟨.int z.length, H, I.tok _, ⟨_, rfl⟩, q⟩
theorem CallR.or {f : Value} {r r' : List V → Hp → VK → Prop} (h : CallR X f r) (h' : CallR X f r') : CallR X f (fun xs H Q => r xs H Q ∨ r' xs H Q) := by
  intro pins s σ H xs us Q I rs q
  rcases q with q | q
  · exact h pins s σ H xs us Q I rs q
  · exact h' pins s σ H xs us Q I rs q
theorem call_list_of : CallR X (.type "list") (fun xs H Q => ∃ p ys, xs = [.ref p] ∧ (SqL X.K H p ys ∨ SqT X.K H p ys) ∧ ∀ l, H l = none → Q (.ref l) (upd H l (.lst ys))) := by
  intro pins s σ H xs us Q I r h
  obtain ⟨p, ys, rfl, hq, q⟩ := h
  obtain ⟨u, rfl, rx⟩ := vals1 r
  cases rx
  have fin : ∀ (its : List Value), Vals ys its → ys.length ≤ sizeLine → ∀ (h' : Heap) (c' : Nat), (∀ b o', s.heap.get? b = some o' → h'.get? b = some o') →
      h'.get? s.heap.objs.size = some { cls := .type "list", dict := none, data := .seq its.toArray c', slots := #[] } → EP X pins σ Q (.ref s.heap.objs.size) { s with heap := h' } := fun its r' hz h' c' kp e =>
    ⟨.ref s.heap.objs.size, _, I.laid (t' := s.toks) kp (Nat.le_refl _) (show ObjOk X.prog X.w _ h' _ (.lst ys) from ⟨hz, its, c', r', e⟩), rfl, q _ (I.hok.fresh (Nat.le_refl _))⟩
  rcases hq with hq | hq
  · obtain ⟨its, r', pl, hz⟩ := I.list hq
    have hlen := r'.length
    obtain ⟨o, ho, hc, n, hd⟩ := pl.isList
    exact call_list_seq p (.inl rfl) ho hc hd (fun h' c' kp e => fin its r' hz h' c' kp e) (by simp only [List.size_toArray] <;> omega)
  · obtain ⟨its, r', pl, hz⟩ := I.tuple hq
    have hlen := r'.length
    obtain ⟨o, ho, hc, n, hd⟩ := pl
    exact call_list_seq p (.inr rfl) ho hc hd (fun h' c' kp e => fin its r' hz h' c' kp e) (by simp only [List.size_toArray] <;> omega)
theorem call_tuple_of : CallR X (.type "tuple") (fun xs H Q => ∃ p ys, xs = [.ref p] ∧ ((SqL X.K H p ys ∧ ∀ l, H l = none → Q (.ref l) (upd H l (.tup ys))) ∨ (SqT X.K H p ys ∧ Q (.ref p) H))) := by
  intro pins s σ H xs us Q I r h
  obtain ⟨p, ys, rfl, h⟩ := h
  obtain ⟨u, rfl, rx⟩ := vals1 r
  cases rx
  rcases h with ⟨hq, q⟩ | ⟨hq, q⟩
  · obtain ⟨its, r', pl, hz⟩ := I.list hq
    have hlen := r'.length
    refine call_tuple_list pl.isList (fun h' kp => ?_) (by simp only [List.size_toArray] <;> omega)
    have I1 : Inv X pins σ H { s with heap := h' } := I.kept (t' := s.toks) kp
    have I2 : Inv X pins σ (upd H h'.objs.size (.tup ys)) { s with heap := h'.push { cls := .type "tuple", data := .seq its.toArray } } :=
      I1.laid (t' := s.toks) (fun b o e => Heap.get?_push_of_some _ e) (Nat.le_refl _) (show ObjOk X.prog X.w _ _ _ (.tup ys) from ⟨hz, its, r', IsTup.new _ _⟩)
    exact ⟨.ref h'.objs.size, _, I2, rfl, q _ (I1.hok.fresh (Nat.le_refl _))⟩
  · obtain ⟨its, r', pl, hz⟩ := I.tuple hq
    exact call_tuple_same pl ⟨.ref p, H, I, rfl, q⟩

/-! ### the call of a builtin's method: o.m(..) -/
/-- the value is of that builtin type -/
def tyV (K : PySem.W.Frag) (T : String) (x : V) (H : Hp) : Prop := match x with
  | .str _ => T = "str"
  | .int _ => T = "int"
  | .ref p => (T = "list" ∧ ∃ xs, SqL K H p xs) ∨ (T = "tuple" ∧ ∃ o, K.lookup p = some o ∧ o.cls = .type "tuple" ∧ o.dict = none) ∨
      (T = "dict" ∧ ((∃ kvs, H p = some (.dK kvs)) ∨ ∃ kvs, H p = some (.dT kvs))) ∨ (T = "set" ∧ ∃ S n, H p = some (.set S n))
  | _ => False
theorem tyV_is {pins : List (Addr × Obj)} {σ : St} {H : Hp} {s : Shared} {T : String} {x : V} {v : Value} (I : Inv X pins σ H s) (r : RelV x v) (ty : tyV X.K T x H) :
    s.TypeIs v T ∧ ∀ a, v = .ref a → ∃ ob, s.heap.get? a = some ob ∧ ob.dict = none := by
  cases x with
  | str z =>
    obtain ⟨t, rfl⟩ := r
    cases (show T = "str" from ty)
    exact ⟨typeIs_str s z t, fun _ e => nomatch e⟩
  | int i =>
    obtain ⟨t, rfl⟩ := r
    cases (show T = "int" from ty)
    exact ⟨typeIs_int s i t, fun _ e => nomatch e⟩
  | ref p =>
    cases r
    rcases ty with ⟨rfl, xs, hq⟩ | ⟨rfl, o, hk, hc, hd⟩ | ⟨rfl, hk⟩ | ⟨rfl, S, n, hk⟩
    · obtain ⟨its, _, pl, _⟩ := I.list hq
      refine ⟨pl.isList.typeIs, fun a e => ?_⟩
      cases e
      obtain ⟨o, n, e, c, hd, _⟩ := pl
      exact ⟨o, e, hd⟩
    · refine ⟨⟨o, I.kIn p o hk, hc⟩, fun a e => ?_⟩
      cases e
      exact ⟨o, I.kIn _ o hk, hd⟩
    · have z : ∃ o, s.heap.get? p = some o ∧ o.ExactDict := by
        rcases hk with ⟨kvs, hk⟩ | ⟨kvs, hk⟩
        · obtain ⟨_, _, _, _, o, _, _, e, ex, _⟩ := I.hok p _ hk
          exact ⟨o, e, ex⟩
        · obtain ⟨_, _, _, _, o, _, _, e, ex, _⟩ := I.hok p _ hk
          exact ⟨o, e, ex⟩
      obtain ⟨o, e, ex⟩ := z
      refine ⟨⟨o, e, ex.1⟩, fun a e2 => ?_⟩
      cases e2
      exact ⟨o, e, ex.2.1⟩
    · obtain ⟨o, _, _, _, e, ex, _⟩ := I.hok p _ hk
      refine ⟨⟨o, e, ex.1⟩, fun a e2 => ?_⟩
      cases e2
      exact ⟨o, e, ex.2.1⟩
  | _ => exact False.elim ty
def tBM0 (K : PySem.W.Frag) (T : String) (r : V → List V → Hp → VK → Prop) (to : TE) : TE := fun σ H Q => to σ H fun x H1 => tyV K T x H1 ∧ r x [] H1 Q
def tBM (K : PySem.W.Frag) (T : String) (r : V → List V → Hp → VK → Prop) (to : TE) (t : TA) : TE := fun σ H Q => to σ H fun x H1 => tyV K T x H1 ∧ t σ H1 fun xs H2 => r x xs H2 Q
variable {o e : Expr} {es : List Expr} {to : TE} {t : TA} {name : Str} {apos cpos : Pos} {T id : String} {r : V → List V → Hp → VK → Prop}
theorem pe_bm0 (pa : PlainAttrs T) (slot : Slot T name id) (hty : typeOf (.builtin id) = pure (.type "method_descriptor")) (hm : MtR X id r) (ho : PE X o to)
    (hbase : attributeBase o name X.env (eval o X.env) = eval o X.env := by rfl) (hline : (apos.endLine == cpos.line) = true := by rfl) : PE X (.Call (.Attribute o name apos) [] [] cpos) (tBM0 X.K T r to) := by
  intro pins s σ H Q I h
  refine wpAny_Call_method0_late hbase hline (thn (ho pins s σ H _ I h) fun v s1 ⟨x, H1, I1, r1, ty, q1⟩ => ?_)
  obtain ⟨h1, h2⟩ := tyV_is I1 r1 ty
  exact ⟨T, id, pa, slot, hty, h1, h2, Calls.callWith_builtin rfl (PySem.evalArgs_none (hm pins s1 σ H1 x [] v [] Q I1 r1 .nil q1))⟩
theorem pe_bm (pa : PlainAttrs T) (slot : Slot T name id) (hty : typeOf (.builtin id) = pure (.type "method_descriptor")) (hm : MtR X id r) (ho : PE X o to) (ha : PA X (e :: es) t)
    (hbase : attributeBase o name X.env (eval o X.env) = eval o X.env := by rfl)
    (hfew : ((backTo cpos (starEach (e :: es) X.env)).all (fun x => !x.1) && (backToKw cpos (keywordEach [] X.env)).all (fun x => x.1.isSome)
      && decide ((e :: es).length + ([] : List Keyword).length + (if ([] : List Keyword).isEmpty then 0 else 1) < 30)) = true := by rfl)
    (hline : (apos.endLine == cpos.line) = true := by rfl) (hs : starEach (e :: es) X.env = (false, eval e X.env) :: starEach es X.env := by rfl) (hplain : (backTo cpos (starEach es X.env)).any (·.1) = false := by rfl) :
    PE X (.Call (.Attribute o name apos) (e :: es) [] cpos) (tBM X.K T r to t) := by
  intro pins s σ H Q I h
  refine wpAny_Call_method_late hbase hfew hline rfl (thn (ho pins s σ H _ I h) fun v s1 ⟨x, H1, I1, r1, ty, q1⟩ => ?_)
  obtain ⟨h1, h2⟩ := tyV_is I1 r1 ty
  refine ⟨T, id, pa, slot, hty, h1, h2, ?_⟩
  have hA := ha cpos pins s1 σ H1 _ I1 q1
  rw [hs] at hA ⊢
  refine Calls.callWith_builtin (by show (false || (backTo cpos (starEach es X.env)).any (·.1)) = false; rw [hplain] <;> rfl) (Calls.evalArgs_plain ?_)
  exact thn hA fun us s2 ⟨vs, H2, I2, r2, q2⟩ => hm pins s2 σ H2 x vs v us Q I2 r1 r2 q2
/- xs.append(e), list.index on a module's tuple .. are MtR facts of 06m -/
end
end L2

namespace L2
open PySem PySem.Spec PyProof.Rows

def MtM (X : Cx) (id : String) (r : V → List V → Hp → VK → Prop) : Prop :=
  ∀ (pins : List (Addr × Obj)) (s : Shared) (σ : St) (H : Hp) (x : V) (xs : List V) (v : Value) (us : List Value) (Q : VK), Inv X pins σ H s → RelV x v → Vals xs us → r x xs H Q →
    wpAny (model X.prog X.w) X.A (call (.builtin id) (v :: us)) (EP X pins σ Q) X.xe s

/-! ### lists of values -/
theorem Vals.one : ∀ {x : V} {us : List Value}, Vals [x] us → ∃ u, us = [u] ∧ RelV x u
  | _, _, .cons r .nil => ⟨_, rfl, r⟩
theorem Vals.two : ∀ {x y : V} {us : List Value}, Vals [x, y] us → ∃ u v, us = [u, v] ∧ RelV x u ∧ RelV y v
  | _, _, _, .cons r (.cons q .nil) => ⟨_, _, rfl, r, q⟩
theorem Vals.zero : ∀ {us : List Value}, Vals [] us → us = []
  | _, .nil => rfl
theorem Vals.dropLast {xs : List V} {us : List Value} (h : Vals xs us) : Vals xs.dropLast us.dropLast := by
  induction h with
  | nil => exact .nil
  | cons r t ih =>
    cases t with
    | nil => exact .nil
    | cons q t' => exact .cons r ih
theorem Vals.eraseIdx : ∀ {xs : List V} {us : List Value} (i : Nat), Vals xs us → Vals (xs.eraseIdx i) (us.eraseIdx i)
  | _, _, _, .nil => .nil
  | _, _, 0, .cons _ t => t
  | _, _, i + 1, .cons r t => .cons r (Vals.eraseIdx i t)
theorem Vals.reverse {xs : List V} {us : List Value} (h : Vals xs us) : Vals xs.reverse us.reverse := by
  induction h with
  | nil => exact .nil
  | cons r t ih => rw [List.reverse_cons, List.reverse_cons]; exact Vals.append ih (.cons r .nil)
theorem Vals.rep {xs : List V} {us : List Value} (h : Vals xs us) : ∀ k : Nat, Vals (List.replicate k xs).flatten (List.replicate k us).flatten
  | 0 => .nil
  | k + 1 => by
    rw [List.replicate_succ, List.replicate_succ, List.flatten_cons, List.flatten_cons]
    exact Vals.append h (Vals.rep h k)
theorem erase_last {α : Type} (l : List α) : l.eraseIdx (l.length - 1) = l.dropLast := by
  induction l with
  | nil => rfl
  | cons a r ih =>
    cases r with
    | nil => rfl
    | cons b r =>
      have e : (a :: b :: r).length - 1 = ((b :: r).length - 1) + 1 := by
        have h1 : (a :: b :: r).length = r.length + 2 := rfl
        have h2 : (b :: r).length = r.length + 1 := rfl
        omega
      rw [e, List.eraseIdx_cons_succ, ih]
      all_goals rfl
theorem len_erase {α : Type} : ∀ (l : List α) (i : Nat), (l.eraseIdx i).length ≤ l.length
  | [], _ => Nat.le_refl _
  | _ :: _, 0 => Nat.le_succ _
  | _ :: r, i + 1 => Nat.succ_le_succ (len_erase r i)
theorem foldl_rep (its : List Value) : ∀ (k : Nat) (acc : List Value),
    List.foldl (fun x1 x2 => x1 ++ x2) acc.toArray (List.replicate k its.toArray) = (acc ++ (List.replicate k its).flatten).toArray
  | 0, acc => by simp
  | k + 1, acc => by
    have e : acc.toArray ++ its.toArray = (acc ++ its).toArray := by simp
    have e2 : (acc ++ its) ++ (List.replicate k its).flatten = acc ++ (List.replicate (k + 1) its).flatten := by
      rw [List.replicate_succ, List.flatten_cons, List.append_assoc]
    rw [← e2, ← foldl_rep its k (acc ++ its), ← e, List.replicate_succ, List.foldl_cons]

section
variable {X : Cx} {pins : List (Addr × Obj)} {σ : St} {H : Hp} {s : Shared} {l b : Addr} {xs ys zs : List V}

/-! ### the two steps: a tracked list is rewritten, a new list is laid -/
theorem Inv.lset {its its' : List Value} {n : Nat} {f : Array Value → Array Value} {t' : Nat} (I : Inv X pins σ H s) (hH : H l = some (.lst xs))
    (e : s.heap.get? l = some { cls := .type "list", data := .seq its.toArray n }) (hf : f its.toArray = its'.toArray) (hv : Vals ys its') (hz : ys.length ≤ sizeLine) :
    Inv X pins σ (upd H l (.lst ys)) { s with heap := s.heap.update l (Obj.mapSeq f), toks := t' } := by
  have q := PySem.IsL.update e f
  rw [hf] at q
  refine I.write (x := l) (e := l) (by rw [hH]; exact trivial) (.inl rfl) (fun b' u hb hu => (Heap.get?_update_other s.heap (Obj.mapSeq f) (Ne.symm hb)).trans hu) ⟨_, q⟩ ?_
  exact ⟨hz, its', _, hv, q⟩
theorem Inv.lnew {its : List Value} {t' : Nat} (I : Inv X pins σ H s) (hv : Vals ys its) (hz : ys.length ≤ sizeLine) :
    Inv X pins σ (upd H s.heap.objs.size (.lst ys)) { s with heap := s.heap.push { cls := .type "list", data := .seq its.toArray }, toks := t' } :=
  I.laid (fun _ _ q => Heap.get?_push_of_some _ q) (Nat.le_refl _) ⟨hz, its, 0, hv, Heap.get?_push_size _ rfl⟩
theorem Inv.fresh (I : Inv X pins σ H s) : H s.heap.objs.size = none := I.hok.fresh (Nat.le_refl _)
theorem Inv.lstM (I : Inv X pins σ H s) (hH : H l = some (.lst xs)) : xs.length ≤ sizeLine ∧ ∃ (its : List Value) (n : Nat), Vals xs its ∧ xs.length = its.length ∧ s.heap.get? l = some { cls := .type "list", data := .seq its.toArray n } := by
  obtain ⟨z, its, n, r, e⟩ := I.hok l _ hH
  exact ⟨z, its, n, r, r.length, e⟩

theorem notLongL {n : Nat} (h : n ≤ sizeLine) : Builtin.List.listTooLong n = false := by
  unfold Builtin.List.listTooLong
  exact decide_eq_false (by omega)
end

section
variable {X : Cx}

/-! ### methods -/
def rAppend : V → List V → Hp → VK → Prop := fun x vs H Q => ∃ l xs y, x = .ref l ∧ vs = [y] ∧ H l = some (.lst xs) ∧ xs.length < sizeLine ∧ Q .non (upd H l (.lst (xs ++ [y])))
theorem mt_append : MtM X "list.append" rAppend := by
  intro pins s σ H x vs v us Q I rx rv h
  obtain ⟨l, xs, y, rfl, rfl, hH, hz, q⟩ := h
  cases rx
  obtain ⟨u, rfl, ru⟩ := rv.one
  obtain ⟨z, its, n, r, hl, e⟩ := I.lstM hH
  refine call_meets F.slot_list_append ⟨_, e, rfl⟩ F.entry_list_append (F.args_list_append_2 _ _) (PySem.list_append l its.toArray n u (by rw [List.size_toArray]; omega)) ⟨e, ?_⟩
  refine ⟨.non, _, I.lset (its' := its ++ [u]) hH e (by simp) (r.append (.cons ru .nil)) ?_, rfl, q⟩
  rw [List.length_append, List.length_singleton]
  omega

def rExtend : V → List V → Hp → VK → Prop := fun x vs H Q => ∃ l b xs zs, x = .ref l ∧ vs = [.ref b] ∧ H l = some (.lst xs) ∧ H b = some (.lst zs) ∧ xs.length + zs.length ≤ sizeLine ∧ Q .non (upd H l (.lst (xs ++ zs)))
theorem mt_extend : MtM X "list.extend" rExtend := by
  intro pins s σ H x vs v us Q I rx rv h
  obtain ⟨l, b, xs, zs, rfl, rfl, hH, hB, hz, q⟩ := h
  cases rx
  obtain ⟨u, rfl, ru⟩ := rv.one
  cases ru
  obtain ⟨z, its, n, r, hl, e⟩ := I.lstM hH
  obtain ⟨z2, its2, n2, r2, hl2, e2⟩ := I.lstM hB
  have hsz : its.toArray.size + its2.toArray.size ≤ sizeLine := by rw [List.size_toArray, List.size_toArray]; omega
  have hlong : ¬ (!its.toArray.isEmpty && Builtin.List.listTooLong (its.toArray.size + its2.toArray.size)) = true := by
    rw [notLongL hsz, Bool.and_false]
    exact Bool.false_ne_true
  refine call_meets F.slot_list_extend ⟨_, e, rfl⟩ F.entry_list_extend (F.args_list_extend_2 _ _)
    (AutoSeq1.list_extend_list_list_0 l its.toArray n b its2.toArray n2 hlong (by rw [List.size_toArray]; omega) (by omega)) ⟨e, e2, ?_⟩
  refine ⟨.non, _, I.lset (its' := its ++ its2) hH e (by simp) (r.append r2) ?_, rfl, q⟩
  rw [List.length_append]
  omega

def rPop : V → List V → Hp → VK → Prop := fun x vs H Q => ∃ l xs y, x = .ref l ∧ vs = [] ∧ H l = some (.lst xs) ∧ xs[xs.length - 1]? = some y ∧ Q y (upd H l (.lst xs.dropLast))
theorem mt_pop : MtM X "list.pop" rPop := by
  intro pins s σ H x vs v us Q I rx rv h
  obtain ⟨l, xs, y, rfl, rfl, hH, hy, q⟩ := h
  cases rx
  have hus := rv.zero
  subst hus
  obtain ⟨z, its, n, r, hl, e⟩ := I.lstM hH
  obtain ⟨u, hu, ru⟩ := r.get hy
  have hy' : its.toArray[its.toArray.size - 1]? = some u := by
    show its.toArray[its.length - 1]? = some u
    rw [← Array.getElem?_toList, ← hl]
    exact hu
  refine call_meets F.slot_list_pop ⟨_, e, rfl⟩ F.entry_list_pop (F.args_list_pop_1 _) (MeetsSeq.list_pop_last l its.toArray n u hy' (by rw [List.size_toArray]; omega)) ⟨e, ?_⟩
  refine ⟨y, _, I.lset (its' := its.dropLast) hH e ?_ r.dropLast ?_, ru, q⟩
  · show its.toArray.eraseIdxIfInBounds (its.toArray.size - 1) = its.dropLast.toArray
    rw [List.size_toArray, List.eraseIdxIfInBounds_toArray, erase_last]
  · rw [List.length_dropLast]
    omega

def rPopAt : V → List V → Hp → VK → Prop := fun x vs H Q => ∃ l xs i k y, x = .ref l ∧ vs = [.int i] ∧ H l = some (.lst xs) ∧ -(2 ^ 63) ≤ i ∧ i < 2 ^ 63 ∧ seqIndex? i xs.length = some k ∧ xs[k]? = some y ∧ Q y (upd H l (.lst (xs.eraseIdx k)))
theorem mt_popAt : MtM X "list.pop" rPopAt := by
  intro pins s σ H x vs v us Q I rx rv h
  obtain ⟨l, xs, i, k, y, rfl, rfl, hH, h1, h2, hk, hy, q⟩ := h
  cases rx
  obtain ⟨u, rfl, ru⟩ := rv.one
  obtain ⟨t, rfl⟩ := ru
  obtain ⟨z, its, n, r, hl, e⟩ := I.lstM hH
  obtain ⟨w, hw, rw'⟩ := r.get hy
  refine call_meets F.slot_list_pop ⟨_, e, rfl⟩ F.entry_list_pop (F.args_list_pop_2 _ _)
    (MeetsSeq.list_pop_at l its.toArray n i t k w (fitsIndex_both h1 h2) (by rw [List.size_toArray, ← hl]; exact hk) (by rw [← Array.getElem?_toList]; exact hw) (by rw [List.size_toArray]; omega)) ⟨e, ?_⟩
  refine ⟨y, _, I.lset (its' := its.eraseIdx k) hH e ?_ (r.eraseIdx k) ?_, rw', q⟩
  · show its.toArray.eraseIdxIfInBounds k = (its.eraseIdx k).toArray
    rw [List.eraseIdxIfInBounds_toArray]
  · have := len_erase xs k
    omega

def rReverse : V → List V → Hp → VK → Prop := fun x vs H Q => ∃ l xs, x = .ref l ∧ vs = [] ∧ H l = some (.lst xs) ∧ Q .non (upd H l (.lst xs.reverse))
theorem mt_reverse : MtM X "list.reverse" rReverse := by
  intro pins s σ H x vs v us Q I rx rv h
  obtain ⟨l, xs, rfl, rfl, hH, q⟩ := h
  cases rx
  have hus := rv.zero
  subst hus
  obtain ⟨z, its, n, r, hl, e⟩ := I.lstM hH
  refine call_meets F.slot_list_reverse ⟨_, e, rfl⟩ F.entry_list_reverse (F.args_list_reverse_1 _) (AutoSeq1.list_reverse_list_0 l its.toArray n (by rw [List.size_toArray]; omega)) ⟨e, ?_⟩
  refine ⟨.non, _, I.lset (its' := its.reverse) hH e (by simp) r.reverse ?_, rfl, q⟩
  rw [List.length_reverse]
  omega

def rClear : V → List V → Hp → VK → Prop := fun x vs H Q => ∃ l xs, x = .ref l ∧ vs = [] ∧ H l = some (.lst xs) ∧ Q .non (upd H l (.lst []))
theorem mt_clear : MtM X "list.clear" rClear := by
  intro pins s σ H x vs v us Q I rx rv h
  obtain ⟨l, xs, rfl, rfl, hH, q⟩ := h
  cases rx
  have hus := rv.zero
  subst hus
  obtain ⟨z, its, n, r, hl, e⟩ := I.lstM hH
  refine call_meets F.slot_list_clear ⟨_, e, rfl⟩ F.entry_list_clear (F.args_list_clear_1 _) (AutoSeq1.list_clear_list_0 l its.toArray n (by rw [List.size_toArray]; omega)) ⟨e, ?_⟩
  exact ⟨.non, _, I.lset (its' := []) (ys := []) hH e rfl .nil (Nat.zero_le _), rfl, q⟩

/-! ### list + list, list += list, list * int -/
def rCat : R2 := fun x y H Q => ∃ l b xs zs, x = .ref l ∧ y = .ref b ∧ H l = some (.lst xs) ∧ H b = some (.lst zs) ∧ xs.length + zs.length ≤ sizeLine ∧ ∀ p, H p = none → Q (.ref p) (upd H p (.lst (xs ++ zs)))
theorem op_cat : OpR X (binaryOp .Add) rCat := by
  intro pins s σ H x y v u Q I rx ry h
  obtain ⟨l, b, xs, zs, rfl, rfl, hH, hB, hz, q⟩ := h
  cases rx
  cases ry
  obtain ⟨z, its, n, r, hl, e⟩ := I.lstM hH
  obtain ⟨z2, its2, n2, r2, hl2, e2⟩ := I.lstM hB
  refine PySem.P.add_list e e2 ?_ (by rw [List.size_toArray, List.size_toArray]; omega)
  have ea : its.toArray ++ its2.toArray = (its ++ its2).toArray := by simp
  rw [ea]
  exact ⟨.ref _, _, I.lnew (t' := s.toks) (r.append r2) (by rw [List.length_append]; omega), rfl, q _ I.fresh⟩
/-- a list times an int (a negative one is nothing) -/
def rRep : R2 := fun x y H Q => ∃ l k xs, x = .ref l ∧ y = .int k ∧ H l = some (.lst xs) ∧ -(2 ^ 63) ≤ k ∧ k < 2 ^ 63 ∧ xs.length * k.toNat ≤ sizeLine ∧
  ∀ p, H p = none → Q (.ref p) (upd H p (.lst (List.replicate k.toNat xs).flatten))
theorem len_rep {α : Type} (xs : List α) (k : Nat) : (List.replicate k xs).flatten.length = k * xs.length := by
  induction k with
  | zero => simp
  | succ k ih => rw [List.replicate_succ, List.flatten_cons, List.length_append, ih, Nat.succ_mul, Nat.add_comm]
theorem op_rep : OpR X (binaryOp .Mult) rRep := by
  intro pins s σ H x y v u Q I rx ry h
  obtain ⟨l, k, xs, rfl, rfl, hH, h1, h2, hz, q⟩ := h
  cases rx
  obtain ⟨t, rfl⟩ := ry
  obtain ⟨z, its, n, r, hl, e⟩ := I.lstM hH
  have hlen : its.toArray.size * k.toNat ≤ sizeLine := by rw [List.size_toArray, ← hl]; exact hz
  have hcap : ¬ its.toArray.size * k.toNat > (2 ^ 63 - 1) / 8 := by
    have : (sizeLine : Nat) ≤ (2 ^ 63 - 1) / 8 := by decide
    omega
  have hfit : ¬ (!Builtin.List.listFitsIndex k) = true := by
    rw [fitsIndex_both h1 h2]
    exact Bool.false_ne_true
  have hlong : ¬ Builtin.List.listTooLong (its.toArray.size * k.toNat) = true := by
    rw [notLongL hlen]
    exact Bool.false_ne_true
  have hnew : List.foldl (fun x1 x2 => x1 ++ x2) #[] (List.replicate (if its.toArray.isEmpty = true then 0 else k.toNat) its.toArray) = (List.replicate k.toNat its).flatten.toArray := by
    have f0 : ∀ m : Nat, List.foldl (fun x1 x2 => x1 ++ x2) #[] (List.replicate m its.toArray) = (List.replicate m its).flatten.toArray := fun m => by
      have := foldl_rep its m []
      rw [List.nil_append] at this
      exact this
    rw [f0]
    cases its with
    | nil => simp
    | cons a r' => rw [if_neg (by simp)]
  refine wpAny_binaryOp_repeat_ref (T := "list") (U := "int") (by decide) ⟨_, e, rfl⟩ (fun s' => typeIs_int s' k t) noFill_list_mul F.fills_int_mul F.slot_int_rmul repeat_list F.slot_int_index.lookup
    (call_meets F.slot_int_rmul (typeIs_int s k t) F.entry_int_rmul (F.args_int_rmul_2 _ _) (int___rmul___int_list k t l its.toArray n)
      ⟨e, rfl, ⟨_, e, rfl⟩, call_meets F.slot_list_mul ⟨_, e, rfl⟩ F.entry_list_mul (F.args_list_mul_2 _ _) (AutoListH.list___mul___list_int_3 l its.toArray n k t hfit hcap hlong) ⟨e, ?_⟩⟩)
  rw [hnew]
  exact ⟨.ref _, _, I.lnew (t' := s.toks) (r.rep k.toNat) (by rw [len_rep, Nat.mul_comm]; exact hz), rfl, q _ I.fresh⟩

/-! ### del xs[i] -/
theorem del_list {pins : List (Addr × Obj)} {s : Shared} {σ : St} {H : Hp} {l : Addr} {xs : List V} {i : Int} {t : Tok} {k : Nat} {Q : Unit → Shared → Prop} (I : Inv X pins σ H s) (hH : H l = some (.lst xs))
    (h1 : -(2 ^ 63) ≤ i) (h2 : i < 2 ^ 63) (hk : seqIndex? i xs.length = some k) (h : ∀ s', Inv X pins σ (upd H l (.lst (xs.eraseIdx k))) s' → Q () s') :
    wpAny (model X.prog X.w) X.A (delItem (.ref l) (.int i t)) Q X.xe s := by
  obtain ⟨z, its, n, r, hl, e⟩ := I.lstM hH
  refine PySem.P.delItem_list (k := k) e (fitsIndex_both h1 h2) (by rw [List.size_toArray, ← hl]; exact hk) (h _ ?_) (by rw [List.size_toArray]; omega)
  refine I.lset (its' := its.eraseIdx k) (t' := s.toks) hH e ?_ (r.eraseIdx k) ?_
  · show its.toArray.eraseIdxIfInBounds k = (its.eraseIdx k).toArray
    rw [List.eraseIdxIfInBounds_toArray]
  · have := len_erase xs k
    omega
end

/-! ### xs[a:b] = ys -/
section
variable {prog : Program} {w : World} {A : Around} {E : Value → Shared → Prop} {s : Shared}
theorem splice_eq (its its2 : List Value) (a c : Nat) : its.toArray.extract 0 a ++ its2.toArray ++ its.toArray.extract c its.toArray.size = (its.take a ++ its2 ++ its.drop c).toArray := by
  apply Array.toList_inj.mp
  first
    | (simp
       exact List.take_of_length_le (by simp))
    | simp [List.take_of_length_le]
    | simp
theorem bounds_run {a c n : Nat} (hac : a ≤ c) (hc : c ≤ n) : sliceBounds (some (a : Int)) (some (c : Int)) none n = ((a : Int), (c : Int), 1) := by
  simp only [sliceBounds, Option.getD_none]
  have h1 : ¬ ((a : Int) < 0) := by omega
  have h2 : ¬ ((c : Int) < 0) := by omega
  simp only [h1, h2, if_false, show (1 : Int) > 0 by decide, if_true]
  congr 1
  · omega
  · congr 1; omega
set_option maxRecDepth 100000 in
/-- list.__setitem__ with a slice of step one and another list -/
theorem setItem_slice {l b sl : Addr} {items new : Array Value} {n n2 : Nat} {vl vu : Value} {a c : Nat} {Q : Unit → Shared → Prop}
    (e : s.heap.get? l = some { cls := .type "list", data := .seq items n }) (e2 : s.heap.get? b = some { cls := .type "list", data := .seq new n2 }) (hne : l ≠ b)
    (hs : s.heap.IsSliceOf sl vl vu .none) (pl : IsPart vl (some (a : Int))) (pu : IsPart vu (some (c : Int))) (hac : a ≤ c) (hc : c ≤ items.size)
    (hsz : items.size + new.size ≤ sizeLine) (h : Q () { s with heap := s.heap.update l (Obj.mapSeq fun xs => xs.extract 0 a ++ new ++ xs.extract c xs.size) }) :
    wpAny (model prog w) A (setItem (.ref l) (.ref sl) (.ref b)) Q E s := by
  have hl : s.heap.IsList l items := PySem.IsL.isList e
  have hb : s.heap.IsList b new := PySem.IsL.isList e2
  obtain ⟨os, hos, hcs, hds⟩ := id hs
  have hTs : s.TypeIs (.ref sl) "slice" := ⟨os, hos, hcs⟩
  have hstep : ¬ ((rawPart none == rawInt 0) = true) := Bool.false_ne_true
  have hsame : Builtin.List.listSameRef (.ref l) (.ref b) = false := by
    unfold Builtin.List.listSameRef
    exact beq_eq_false_iff_ne.mpr hne
  have hmax : (max (a : Int) (c : Int)).toNat = c := by omega
  have hz' : ((fun xs : Array Value => xs.extract 0 a ++ new ++ xs.extract c xs.size) items).size ≤ sizeLine + 1 := by
    simp only [Array.size_append, Array.size_extract]
    omega
  unfold setItem
  try with_reducible refine wpAny_holding ?_
  first | refine wpAny_bind (wpAny_pure ?_) | skip
  refine wpAny_bind (wpAny_sequenceKey hl.typeIs (by decide) ?_)
  refine wpAny_bind (wpAny_callSpecial?_slot (name := Str.ofString "__setitem__") hl.typeIs slot_list_setitem
    (wpAny_call_entry slot_list_setitem hl.typeIs entry_list_setitem ?_ (args_list_setitem _ _ _)))
  show wpAny _ _ (Builtin.List.listSubscript? (.ref sl) >>= _) _ _ s
  refine wpAny_bind ?_
  unfold Builtin.List.listSubscript?
  refine wpAny_bind (wpAny_specialOf hTs slice_no_index ?_)
  simp only [Option.isNone_none, if_true]
  refine wpAny_pure ?_
  show wpAny _ _ (typeOf (.ref sl) >>= _) _ _ s
  refine wpAny_bind (wpAny_typeOf hTs ?_)
  first
    | rw [if_neg (by decide)]
    | refine PySem.W.KFB.if_not (by decide) ?_
  rw [listSliceParts_eq]
  refine wpAny_bind (wpAny_bind (wpAny_field hos hds (x := .none) rfl (wpAny_bind (wpAny_listPart .none ?_))))
  rw [if_neg hstep]
  refine wpAny_bind (wpAny_field hos hds (x := vl) rfl (wpAny_bind (wpAny_listPart pl ?_)))
  refine wpAny_bind (wpAny_field hos hds (x := vu) rfl (wpAny_bind (wpAny_listPart pu (wpAny_pure ?_))))
  first
    | simp only [hsame, Bool.false_eq_true, if_false]
    | refine PySem.W.KFB.if_not hsame ?_
    | (dsimp only
       rw [if_neg (by rw [hsame]; exact Bool.false_ne_true)])
  refine wpAny_bind (m := Builtin.List.listAllItems (.ref b) "must assign iterable to extended slice") ?_
  unfold Builtin.List.listAllItems
  refine wpAny_bind (wpAny_typeOf hb.typeIs ?_)
  first
    | refine PySem.W.KFB.if_so (by decide) ?_
    | rw [if_pos (by decide)]
    | simp only [beq_self_eq_true, Bool.true_or, if_true]
  unfold Builtin.List.listItems
  refine wpAny_bind (wpAny_seqItems e2 rfl (wpAny_pure ?_))
  refine wpAny_bind (wpAny_bind (wpAny_seqItems e rfl (wpAny_pure ?_)))
  refine wpAny_bind (wpAny_of_eq ((sliceIndices_raw (some (a : Int)) (some (c : Int)) none items.size (by simp)).trans (congrArg (pure : Int × Int × Int → Sem (Int × Int × Int)) (bounds_run hac hc))) ?_)
  show wpAny _ _ (if ((1 : Int) == 1) = true then _ else _) _ _ s
  rw [if_pos (by decide)]
  refine wpAny_bind (wpAny_rule ?_)
  first
    | simp only [notLongL hsz, Bool.false_eq_true, if_false]
    | refine PySem.W.KFB.if_not (notLongL hsz) ?_
  first | refine wpAny_bind (wpAny_pure ?_) | skip
  show wpAny _ _ (updateSeq l (fun xs => xs.extract 0 ((a : Int)).toNat ++ new ++ xs.extract (max (a : Int) (c : Int)).toNat xs.size) >>= _) _ _ s
  rw [hmax, Int.toNat_natCast]
  refine wpAny_bind (wpAny_updateSeq (hz := Nat.le_trans (Nat.le_add_right _ _) hsz) (_hz' := hz') e rfl ?_)
  refine wpAny_bind (wpAny_letGo ?_)
  first
    | exact wpAny_bind (wpAny_pure (wpAny_pure ⟨.none, rfl, wpAny_pure h⟩))
    | exact wpAny_pure ⟨.none, rfl, wpAny_pure h⟩
end

section
variable {X : Cx}
/-- xs[a:c] = ys of another list, at the value level: sl is the slice object that was just made -/
theorem set_slice {pins : List (Addr × Obj)} {s : Shared} {σ : St} {H : Hp} {l b sl : Addr} {xs ys : List V} {a c : Int} {vl vu : Value} {Q : Unit → Shared → Prop} (I : Inv X pins σ H s)
    (hH : H l = some (.lst xs)) (hB : H b = some (.lst ys)) (hne : l ≠ b) (hs : s.heap.IsSliceOf sl vl vu .none) (ra : RelV (.int a) vl) (rc : RelV (.int c) vu) (h0 : 0 ≤ a) (hac : a ≤ c) (hc : c ≤ xs.length)
    (hz : xs.length + ys.length ≤ sizeLine) (h : ∀ s', Inv X pins σ (upd H l (.lst (xs.take a.toNat ++ ys ++ xs.drop c.toNat))) s' → Q () s') :
    wpAny (model X.prog X.w) X.A (setItem (.ref l) (.ref sl) (.ref b)) Q X.xe s := by
  obtain ⟨ta, rfl⟩ := ra
  obtain ⟨tc, rfl⟩ := rc
  obtain ⟨z, its, n, r, hl, e⟩ := I.lstM hH
  obtain ⟨z2, its2, n2, r2, hl2, e2⟩ := I.lstM hB
  obtain ⟨a', rfl⟩ := Int.eq_ofNat_of_zero_le h0
  obtain ⟨c', rfl⟩ := Int.eq_ofNat_of_zero_le (Int.le_trans h0 hac)
  simp only [Int.toNat_natCast] at h
  refine setItem_slice (a := a') (c := c') e e2 hne hs (.int _ _) (.int _ _) (by omega) (by rw [List.size_toArray]; omega) (by rw [List.size_toArray, List.size_toArray]; omega) (h _ ?_)
  refine I.lset (its' := its.take a' ++ its2 ++ its.drop c') (t' := s.toks) hH e ?_ (Vals.append (Vals.append (r.take _) r2) (r.drop _)) ?_
  · exact splice_eq its its2 a' c'
  · rw [List.length_append, List.length_append, List.length_take, List.length_drop]
    omega
end
end L2

namespace Att
open PySem PySem.W PySem.Calls PyProof.Rows

/-! ### the script -/
theorem ints_of_wellAll {P : Params} {h : Heap} : ∀ (ns : List Int) (vs : List Value), WellAll P h vs (ns.map WData.int) → IntsAre vs ns := by
  intro ns
  induction ns with
  | nil =>
    intro vs w
    rw [List.map_nil] at w
    cases w
    exact .nil
  | cons n ns ih =>
    intro vs w
    rw [List.map_cons] at w
    cases w with
    | cons a b =>
      cases a
      exact .cons _ _ (ih _ b)

theorem script_of {l : OpenLaw} {n : Nat} (hn : l.most = some n) {P : Params} {h : Heap} {args : List WData} {vals : List Value}
    (hpre : l.row.toRowW.claim.pre args = true) (hwl : WellAll P h vals args) :
    ∃ a vs ns, vals = [Value.ref a] ∧ args = [WData.list (ns.map WData.int)] ∧ h.get? a = some { cls := .type "list", data := .seq vs.toArray } ∧ IntsAre vs ns ∧ ns.length ≤ n := by
  have hsh : WShape.hasAll [] args [.list .int] = true := (pre_splitW hpre).1
  have hc : l.pre.holds [] { args := args } = true := (pre_splitW hpre).2
  obtain ⟨d, r, rfl, h1, h2⟩ := hasAllW_cons hsh
  obtain rfl := hasAllW_nil h2
  obtain ⟨xs, rfl, h3⟩ := hasW_list h1
  obtain ⟨ns, rfl⟩ := items_int h3
  have hlen : ns.length ≤ n := by
    unfold OpenLaw.pre at hc
    have h4 : (WTm.not (.lt (.lit (.int (n : Int))) (.len (.arg 0)))).holds [] { args := [.list (ns.map .int)] } = true := by
      have h4 := (holds_andW hc).1
      rw [hn] at h4
      exact h4
    have h5 := condW_of h4 (w_not (w_lt w_lit (w_len_list (w_arg rfl))))
    rw [List.length_map] at h5
    refine Nat.le_of_not_lt fun q => ?_
    have q' : (n : Int) < ((ns.length : Nat) : Int) := by omega
    first
      | (rw [decide_eq_true q'] at h5; exact absurd h5 (by decide))
      | (simp at h5; omega)
  cases hwl with
  | cons w1 w2 =>
    cases w2
    cases w1 with
    | list ho hall => exact ⟨_, _, ns, rfl, rfl, ho, ints_of_wellAll ns _ hall, hlen⟩

theorem post_true (l : OpenLaw) (args : List WData) : l.row.toRowW.claim.post args (.bool true) args = true :=
  postW_of (r := l.row.toRowW) (X := (true == true))
    (show WShape.has [] (.bool true) .bool = true by first | rfl | decide | simp [WShape.has, WShape.arms, WShape.armsAll])
    (show (WTm.eq .res (.lit (.bool true))).value [] { args := args, res := some (.bool true), after := args } = some (.bool (true == true)) from w_eq_bool (w_res rfl) w_lit) rfl

/-! ### the attachment: holds_open's last premise (the goal 'hc' behind k_head) from a wpAny of the law's body -/
theorem attach {l : OpenLaw} {n : Nat} {q : Program} {loose : List Str} {XP : (Str → Option Value) → Heap → Prop} {YP : World → Heap → Prop} {d : DefRec} {x : Str}
    (hn : l.most = some n) (hdf : d.params.defaults = [])
    (hbind : ∀ pm cd doc v : Value, bindArgs (docDef d.name d.params d.body d.scope pm cd doc) ⟨[v], []⟩ = pure [(x, v)])
    (hx : d.scope.names.lookup x = some .local ∨ d.scope.names.lookup x = some .cell)
    (hk : d.scope.kind = .function) (hco : d.scope.isCoroutine = false) (hgen : d.scope.isGenerator = false)
    (body : ∀ (w : World) (s₀ s₁ s : Shared) (mg mb : Str → Option Value) (fa : Addr) (o : Obj) (pm cd doc : Value) (a : Addr) (vs : List Value) (ns : List Int),
      Ground q loose [] XP w s₀ mg mb s₁.heap → YP w s₁.heap →
      s₁.heap.get? fa = some o → o.data = .func (docDef d.name d.params d.body d.scope pm cd doc) → s₁.heap.CodeRec cd d.name → mg d.name = some (.ref fa) →
      s₁.heap.get? a = some { cls := .type "list", data := .seq vs.toArray } → IntsAre vs ns → ns.length ≤ n →
      s.gens = #[] → s.os = s₁.os →
      Fr s₁.heap s₁.heap.objs.size s.heap (bindL (envOfC d.name d.scope s₁.heap.objs.size fa cd).kindOf [(x, .ref a)] fun _ => none) →
      Cl s₁.heap.objs.size (cellsFrom (s₁.heap.objs.size + 1) d.scope.names []) s.heap (bindC (envOfC d.name d.scope s₁.heap.objs.size fa cd).kindOf [(x, .ref a)] fun _ => none) →
      wpAny (model l.prog w) (callerA.deeper (envOfC d.name d.scope s₁.heap.objs.size fa cd)) (execs d.body (envOfC d.name d.scope s₁.heap.objs.size fa cd))
        (fun f s' => f = .ret (.bool true) ∧ OldK s₁.heap s'.heap ∧ s'.os = s₁.os ∧ AllBare s'.gens) (fun _ _ => False) s) :
    WalkO q loose XP YP l.row.toRowW d [] (fun f vs => PySem.call f vs) := by
  intro w s₀ s₁ mg mb G Y fa o pm cd doc dV kV ho hd hcd hD hmg hg args vals as hpre hlay hrd hwl hlo
  obtain rfl : dV = .none := Dflts.none hD hdf
  obtain rfl : kV = .none := Dflts.noKw hD
  obtain ⟨a, vs, ns, rfl, rfl, hobj, hints, hlen⟩ := script_of hn hpre hwl
  refine enter_call ?_
  refine call_cells_ret (o := o) (by rw [depth_caller]; decide) ho (fd_plain hd) G.T.nolimit hcd (hbind pm cd doc (.ref a)) (fun y hy => ?_) (fun h₁ tk F X => ?_) hco hgen hk
  · obtain rfl : y = (x, Value.ref a) := List.mem_singleton.mp hy
    rcases hx with e | e
    · exact .inl e
    · exact .inr ⟨e, cellsFrom_some _ _ _ (.inl e)⟩
  · refine wpAny_mono (body w s₀ s₁ { s₁ with heap := h₁, toks := tk } mg mb fa o pm cd doc a vs ns G Y ho (fd_plain hd) hcd hmg hobj hints hlen hg rfl F X) (fun f s' hq => ?_) (fun _ _ hq => hq)
    obtain ⟨rfl, h2, h3, h4⟩ := hq
    exact ⟨.inl ⟨.bool true, .bool true, [], rfl, fun _ => rfl, .bool true, post_true l _, fun _ => ⟨List.Pairwise.nil, fun _ hm => (nomatch hm)⟩⟩, h2, h3, h4⟩

/-- the same from a codeAny of the CALL (for a layer whose function contracts speak of calls) -/
theorem attach_call {l : OpenLaw} {n : Nat} {q : Program} {loose : List Str} {XP : (Str → Option Value) → Heap → Prop} {YP : World → Heap → Prop} {d : DefRec}
    (hn : l.most = some n) (hdf : d.params.defaults = [])
    (call : ∀ (w : World) (s₀ s₁ : Shared) (mg mb : Str → Option Value) (fa : Addr) (o : Obj) (pm cd doc : Value) (a : Addr) (vs : List Value) (ns : List Int),
      Ground q loose [] XP w s₀ mg mb s₁.heap → YP w s₁.heap →
      s₁.heap.get? fa = some o → o.data = .func (docDef d.name d.params d.body d.scope pm cd doc) → s₁.heap.CodeRec cd d.name → mg d.name = some (.ref fa) →
      s₁.heap.get? a = some { cls := .type "list", data := .seq vs.toArray } → IntsAre vs ns → ns.length ≤ n → s₁.gens = #[] →
      codeAny (model l.prog w) callerA (.call (.ref fa) ⟨[.ref a], []⟩) (fun r s' => r = .ok (.ret (.bool true)) ∧ OldK s₁.heap s'.heap ∧ s'.os = s₁.os ∧ AllBare s'.gens) s₁) :
    WalkO q loose XP YP l.row.toRowW d [] (fun f vs => PySem.call f vs) := by
  intro w s₀ s₁ mg mb G Y fa o pm cd doc dV kV ho hd hcd hD hmg hg args vals as hpre hlay hrd hwl hlo
  obtain rfl : dV = .none := Dflts.none hD hdf
  obtain rfl : kV = .none := Dflts.noKw hD
  obtain ⟨a, vs, ns, rfl, rfl, hobj, hints, hlen⟩ := script_of hn hpre hwl
  refine enter_call (codeAny_mono (call w s₀ s₁ mg mb fa o pm cd doc a vs ns G Y ho (fd_plain hd) hcd hmg hobj hints hlen hg) fun r s' hq => ?_)
  obtain ⟨rfl, h2, h3, h4⟩ := hq
  exact ⟨.inl ⟨.bool true, .bool true, [], rfl, fun _ => rfl, .bool true, post_true l _, fun _ => ⟨List.Pairwise.nil, fun _ hm => (nomatch hm)⟩⟩, h2, h3, h4⟩

/-- the same where the top left finished generators (o_head chose holds_openN): nothing may have changed at all and no generator may be left -/
theorem attachN {l : OpenLaw} {n : Nat} {q : Program} {loose : List Str} {XP : (Str → Option Value) → Heap → Prop} {YP : World → Heap → Prop} {d : DefRec} {x : Str}
    (hn : l.most = some n) (hdf : d.params.defaults = [])
    (hbind : ∀ pm cd doc v : Value, bindArgs (docDef d.name d.params d.body d.scope pm cd doc) ⟨[v], []⟩ = pure [(x, v)])
    (hx : d.scope.names.lookup x = some .local ∨ d.scope.names.lookup x = some .cell)
    (hk : d.scope.kind = .function) (hco : d.scope.isCoroutine = false) (hgen : d.scope.isGenerator = false)
    (body : ∀ (w : World) (s₀ s₁ s : Shared) (mg mb : Str → Option Value) (fa : Addr) (o : Obj) (pm cd doc : Value) (a : Addr) (vs : List Value) (ns : List Int),
      Ground q loose [] XP w s₀ mg mb s₁.heap → YP w s₁.heap →
      s₁.heap.get? fa = some o → o.data = .func (docDef d.name d.params d.body d.scope pm cd doc) → s₁.heap.CodeRec cd d.name → mg d.name = some (.ref fa) →
      s₁.heap.get? a = some { cls := .type "list", data := .seq vs.toArray } → IntsAre vs ns → ns.length ≤ n →
      s.gens = #[] → s.os = s₁.os →
      Fr s₁.heap s₁.heap.objs.size s.heap (bindL (envOfC d.name d.scope s₁.heap.objs.size fa cd).kindOf [(x, .ref a)] fun _ => none) →
      Cl s₁.heap.objs.size (cellsFrom (s₁.heap.objs.size + 1) d.scope.names []) s.heap (bindC (envOfC d.name d.scope s₁.heap.objs.size fa cd).kindOf [(x, .ref a)] fun _ => none) →
      wpAny (model l.prog w) (callerA.deeper (envOfC d.name d.scope s₁.heap.objs.size fa cd)) (execs d.body (envOfC d.name d.scope s₁.heap.objs.size fa cd))
        (fun f s' => f = .ret (.bool true) ∧ (∀ b o, s₁.heap.get? b = some o → s'.heap.get? b = some o) ∧ s'.os = s₁.os ∧ s'.gens = #[]) (fun _ _ => False) s) :
    WalkN q loose XP YP l.row.toRowW d [] (fun f vs => PySem.call f vs) := by
  intro w s₀ s₁ mg mb G Y fa o pm cd doc dV kV ho hd hcd hD hmg hg args vals as hpre hlay hrd hwl hlo
  obtain rfl : dV = .none := Dflts.none hD hdf
  obtain rfl : kV = .none := Dflts.noKw hD
  obtain ⟨a, vs, ns, rfl, rfl, hobj, hints, hlen⟩ := script_of hn hpre hwl
  refine enter_callW ?_
  refine call_cells_ret (o := o) (by rw [depth_caller]; decide) ho (fd_plain hd) G.T.nolimit hcd (hbind pm cd doc (.ref a)) (fun y hy => ?_) (fun h₁ tk F X => ?_) hco hgen hk
  · obtain rfl : y = (x, Value.ref a) := List.mem_singleton.mp hy
    rcases hx with e | e
    · exact .inl e
    · exact .inr ⟨e, cellsFrom_some _ _ _ (.inl e)⟩
  · refine wpAny_mono (body w s₀ s₁ { s₁ with heap := h₁, toks := tk } mg mb fa o pm cd doc a vs ns G Y ho (fd_plain hd) hcd hmg hobj hints hlen hg rfl F X) (fun f s' hq => ?_) (fun _ _ hq => hq)
    obtain ⟨rfl, h2, h3, h4⟩ := hq
    exact ⟨.inl ⟨.bool true, .bool true, [], rfl, fun _ => rfl, .bool true, post_true l _, fun _ => ⟨List.Pairwise.nil, fun _ hm => (nomatch hm)⟩⟩, h2, h3, h4⟩

/-! ### rules over ANY heap (no ledger) from facts about the written part K: the library's own take a ledger (News) for what they write -/
section
variable {prog : Program} {w : World} {A : Around} {E : Value → Shared → Prop} {s : Shared} {K : Frag}

/-- a def of the module, or a method (qual 'C.m'), entered: the frame is the next address; cells behind it -/
theorem call_fn {R : Result → Shared → Prop} {name qual : Str} {params : Arguments} {body : List Stmt} {scope : Scope} {dV kV doc pm cdv ct oc : Value} {an od : Option Addr} {osl : Array (Option Value)} {f : Addr} {args : Args} {binds : List (Str × Value)}
    (X : K.In s.heap) (hlim : s.heap.NoLimit) (ho : K.lookup f = some ⟨oc, od, .func (fnOf name qual params body scope dV kV doc pm an cdv ct), osl⟩) (hcd : codeIn K cdv qual = true) (hroom : A.depth < recursionLimit)
    (hbind : BindsTo s (fnOf name qual params body scope dV kV doc pm an cdv ct) args binds)
    (hkind : (binds.all fun y => scope.names.lookup y.1 == some .local || scope.names.lookup y.1 == some .cell) = true)
    (h : ∀ s₁, InCallC s s.heap.objs.size (bindL (envOfC qual scope s.heap.objs.size f cdv).kindOf binds fun _ => none) (cellsFrom (s.heap.objs.size + 1) scope.names [])
        (bindC (envOfC qual scope s.heap.objs.size f cdv).kindOf binds fun _ => none) s₁ →
      wpAny (model prog w) (A.deeper (envOfC qual scope s.heap.objs.size f cdv)) (execs body (envOfC qual scope s.heap.objs.size f cdv))
        (fun fl s' => R (.ok (.ret (match fl with | .ret v => v | _ => .none))) s')
        (fun e s' => wpAny (model prog w) (A.deeper (envOfC qual scope s.heap.objs.size f cdv)) (leaving (envOfC qual scope s.heap.objs.size f cdv) e) (fun _ s'' => R (.error e) s'') (fun e' s'' => R (.error e') s'') s') s₁)
    (hco : scope.isCoroutine = false) (hgen : scope.isGenerator = false) (hk : scope.kind = .function) : codeAny (model prog w) A (.call (.ref f) args) R s := by
  refine codeAny_call_function hroom (X _ _ ho) rfl hco hgen rfl (codeRec_of X hcd) (hbind _ _ _ _ ?_)
  refine wpAny_newFunctionEnv_cells hk (kindsX hkind _) fun env he s₁ x => ?_
  subst he
  exact ⟨hlim.keeps x.toInCall.keep, codeAny_func (h s₁ x)⟩

/-- C(..): dict at size, instance at size + 1, then __init__ -/
theorem make_obj {R : Result → Shared → Prop} {C fI : Addr} {rest : List Value} {kw : List (Str × Value)}
    (X : K.In s.heap) (hm : makesIn K C = true) (hi : findIn K (.ref C) "__init__" = some (some (.ref fI))) (hf : isFn K (.ref fI) = true)
    (h : codeAny (model prog w) (A.under (.builtin "type.__call__" ⟨.ref C :: rest, kw⟩)) (.call (.ref fI) ⟨.ref (s.heap.objs.size + 1) :: rest, kw⟩) (InitBack (s.heap.objs.size + 1) R)
      { s with heap := (s.heap.push emptyDict).push (instObj C s.heap.objs.size) }) : codeAny (model prog w) A (.call (.ref C) ⟨rest, kw⟩) R s := by
  obtain ⟨hh, g, d, t, os⟩ := s
  exact make_core (makes_of X hm) (looks_findIn X hi) (fun self => bind_fn X self (beq_iff_eq.mp hf)) (.inl rfl) h

/-- x.name where the instance's dict holds the name and the class does not -/
theorem get_field {x C : Addr} {ox : Obj} {es : List DictEntry} {n : Nat} {name : Str} {expr : Bool} {v : Value} {Q : Value → Shared → Prop}
    (X : K.In s.heap) (I : PySem.W.InstAt s.heap x ox C (some (dictOf es n))) (hg : plainGet K C name = true) (hh : hasDictIn K C = true) (ha : findIn K (.ref C) name = some none)
    (hl : getL name es = some (some v)) (hv : handedIn v = true) (h : Q v { s with toks := s.toks + 1 }) : wpAny (model prog w) A (getAttr (.ref x) name expr) Q E s :=
  get_value X I (plainGet_of hg).1 (findObj_own hh ha rfl hl) hv h

/-- x.m(..): the method found in the class -/
theorem get_method {x C f : Addr} {ox : Obj} {es : List DictEntry} {n : Nat} {name : Str} {pl : Sem Bool} {Q : Value × List Value → Shared → Prop}
    (X : K.In s.heap) (I : PySem.W.InstAt s.heap x ox C (some (dictOf es n))) (hg : plainGet K C name = true) (hf : findIn K (.ref C) name = some (some (.ref f))) (ht : isFn K (.ref f) = true)
    (hl : getL name es = some none) (h : Q (.ref f, [.ref x]) s) : wpAny (model prog w) A (getMethod (.ref x) name pl) Q E s :=
  method_fn X I (plainGet_of hg).1 (plainGet_of hg).2 hf (beq_iff_eq.mp ht) (by show (lookIn name (dictOf es n)).map _ = _; rw [lookIn_dict, hl]; rfl) h

/-! the whole heap as the ledger: makes every rule that writes through a ledger a rule over any heap -/
def noObjs (h : Heap) : Heap := { h with objs := #[] }
theorem noObjs_get (h : Heap) (b : Addr) : (noObjs h).get? b = none := by
  cases e : (noObjs h).get? b with
  | none => rfl
  | some o => exact absurd (Heap.lt_size e) (Nat.not_lt_zero _)
def ledger (h : Heap) (L d : Addr) : List (Addr × Obj) := (List.range h.objs.size).filterMap fun a => if a = L ∨ a = d then none else (h.get? a).map fun o => (a, o)
theorem mem_ledger {h : Heap} {L d a : Addr} {o : Obj} : (a, o) ∈ ledger h L d ↔ a ≠ L ∧ a ≠ d ∧ h.get? a = some o := by
  unfold ledger
  rw [List.mem_filterMap]
  constructor
  · rintro ⟨b, _, e⟩
    split at e
    · cases e
    · rename_i hb
      obtain ⟨o', ho, e'⟩ := Option.map_eq_some_iff.mp e
      cases e'
      exact ⟨fun q => hb (.inl q), fun q => hb (.inr q), ho⟩
  · rintro ⟨n1, n2, ho⟩
    refine ⟨a, List.mem_range.mpr (Heap.lt_size ho), ?_⟩
    rw [if_neg (show ¬ (a = L ∨ a = d) from fun q => q.elim n1 n2), ho] <;> rfl
theorem news_ledger {h : Heap} {L d : Addr} {od : Obj} (hne : d ≠ L) (ho : h.get? d = some od) : News (noObjs h) L h ([] ++ (d, od) :: ledger h L d) := by
  rintro ⟨a, o⟩ hp
  rcases List.mem_cons.mp hp with e | hp
  · cases e
    exact ⟨ho, hne, noObjs_get _ _⟩
  · obtain ⟨n1, n2, e⟩ := mem_ledger.mp hp
    exact ⟨e, n1, noObjs_get _ _⟩
theorem fr_all {h : Heap} {L : Addr} {m : Str → Option Value} (n : h.Ns L m) : Fr (noObjs h) L h m :=
  ⟨n, fun b o e => (by rw [noObjs_get] at e; cases e), Nat.zero_le _⟩
/-- Upd of the head entry (for append_K, setItem_K ..) -/
theorem upd_ledger {h : Heap} {L d : Addr} {o o' : Obj} : Upd d o o' ((d, o) :: ledger h L d) ((d, o') :: ledger h L d) :=
  .head fun ⟨_, _⟩ hp => (mem_ledger.mp hp).2.1

/-- x.name = v over any heap: L is any namespace of the heap (the frame's, say): its map stays, its object is not told; all else but the dict stays -/
theorem set_field {x C dx L : Addr} {ox : Obj} {m : Str → Option Value} {es es' : List DictEntry} {n n' : Nat} {name : Str} {v : Value} {Q : Unit → Shared → Prop}
    (X : K.In s.heap) (I : PySem.W.InstAt s.heap x ox C (some (dictOf es n))) (hd : ox.dict = some dx) (hL : s.heap.Ns L m) (hne : dx ≠ L)
    (hs : findIn K (.ref C) "__setattr__" = some (some (.builtin "object.__setattr__"))) (hp : plainOver K C = true) (ht : takerIn K C name = some none) (hh : hasDictIn K C = true) (hl : (getL name es).isSome = true)
    (e : (putL name (PyData.keyHash w.params name) (.str name (s.toks + 1)) v es, putN name es n) = (es', n')) (hz : es'.length ≤ 1000)
    (h : ∀ h' : Heap, h'.Ns L m → h'.get? dx = some (dictOf es' n') → (∀ b o, b ≠ dx → b ≠ L → s.heap.get? b = some o → h'.get? b = some o) → Q () { s with heap := h', toks := s.toks + 2 }) :
    wpAny (model prog w) A (setAttr (.ref x) name v) Q E s := by
  obtain ⟨e1, e2⟩ := Prod.mk.inj e
  have hdx : s.heap.get? dx = some (dictOf es n) := by
    have := I.dict
    rw [hd] at this
    exact this
  refine set_plain X I hs (osa_dict (s := { s with toks := s.toks + 1 }) (h₀ := noObjs s.heap) (L := L) (m := m) (od := dictOf es n) (od' := dictOf es' n') (es := es') (n := n') (pre := []) (post := ledger s.heap L dx)
    (fr_all hL) (news_ledger hne hdx) X I hd hp ht hh hl (fun _ q => nomatch q) (fun ⟨_, _⟩ q => (mem_ledger.mp q).2.1) (by rw [putName_dict, e1, e2]) rfl hz fun h' F' N' => ?_)
  exact h h' F'.ns (N'.get (List.Mem.head _)) fun b o n1 n2 ho => N'.get (List.Mem.tail _ (mem_ledger.mpr ⟨n2, n1, ho⟩))
end
end Att

namespace L2
open PySem PySem.Spec PyProof.Rows

theorem vals_ints : ∀ {vs : List Value} {ns : List Int}, IntsAre vs ns → Vals (ns.map V.int) vs
  | _, _, .nil => .nil
  | _, _, .cons n t h => .cons ⟨t, rfl⟩ (vals_ints h)

/-- nothing is tracked but the script, known to the object (or it is an object of the module) -/
def Only (H : Hp) : Prop := ∀ b, H b = none ∨ ∃ o xs, H b = some (.frz o (.lst xs))

/-- THE HEAD: the law's promise, at the heap behind the top. F, the promise of the law's def, may use that base is part of the heap (so K.In base, base.Ns mainGlobals mg stand in Mod) -/
theorem law_call {P : Program} {w : World} {K : PySem.W.Frag} {mg mb : Str → Option Value} {CX : CXT} {k : Nat} {fa a : Addr} {fd : FuncData} {x : Str} {sp : Sp} {s₁ : Shared} {vs : List Value} {ns : List Int}
    (KX : K.In s₁.heap) (hns : s₁.heap.Ns mainGlobals mg) (hb : s₁.heap.Ns builtinsNs mb) (hbb : ∀ x : Str, x ≠ "__name__" → mb x = bootBuiltins x) (hlim : s₁.heap.NoLimit) (hg : s₁.gens = #[])
    (ha : s₁.heap.get? a = some { cls := .type "list", data := .seq vs.toArray }) (hi : IntsAre vs ns) (hl : ns.length ≤ sizeLine) (hr : Room k callerA)
    (F : ∀ base : Heap, K.In base → base.Ns mainGlobals mg → FnOk P w K mg base CX k fa fd [x] sp) (hbind : ∀ (s : Shared) (u : Value), BindsTo s fd ⟨[u], []⟩ [(x, u)])
    (hsp : ∀ H : Hp, Only H → SqL K H a (ns.map V.int) → sp [.ref a] H (fun v _ => v = .bl true) fun _ _ _ => False)
    (hCX : ∀ H e s', CX [] H s₁ (fun _ _ _ => False) e s' → False) :
    codeAny (model P w) callerA (.call (.ref fa) ⟨[.ref a], []⟩) (fun r s' => r = .ok (.ret (.bool true)) ∧ OldK s₁.heap s'.heap ∧ s'.os = s₁.os ∧ AllBare s'.gens) s₁ := by
  have rv := vals_ints hi
  have lenV := hi.length
  -- from an abstract heap in which nothing but the script may be tracked
  have core : ∀ H : Hp, Only H → SqL K H a (ns.map V.int) → HOk P w H s₁.heap → (∀ b, H b ≠ none → b = a) → (H a ≠ none → K.lookup a = none) →
      codeAny (model P w) callerA (.call (.ref fa) ⟨[.ref a], []⟩) (fun r s' => r = .ok (.ret (.bool true)) ∧ OldK s₁.heap s'.heap ∧ s'.os = s₁.os ∧ AllBare s'.gens) s₁ := by
    intro H hO hS hok hA hK
    have base_of : ∀ {b : Addr} {o : Obj}, s₁.heap.get? b = some o → H b = none → (hidT s₁.heap H).get? b = some o := fun e n => hidT_get e n
    have noA : ∀ {b : Addr} {o : Obj} {es : Array DictEntry} {ep : Nat}, s₁.heap.get? b = some o → o.data = .dict es ep → H b = none := fun {b o es ep} e d => by
      cases q : H b with
      | none => rfl
      | some u =>
        have e' : b = a := hA b (by rw [q]; simp)
        subst e'
        rw [ha] at e; cases e
        have d' : Data.seq vs.toArray _ = Data.dict es ep := d
        cases d'
    have nsK : ∀ {b : Addr} {m : Str → Option Value}, s₁.heap.Ns b m → (hidT s₁.heap H).Ns b m := fun {b m} ⟨o, es, ep, e, d, r⟩ => ⟨o, es, ep, base_of e (noA e d), d, r⟩
    have hKb : K.In (hidT s₁.heap H) := fun b o e => base_of (KX b o e) (by
      cases q : H b with
      | none => rfl
      | some u =>
        have e' : b = a := hA b (by rw [q]; simp)
        subst e'
        rw [hK (by rw [q]; simp)] at e; cases e)
    have hM : Mod K mg (hidT s₁.heap H) := ⟨hKb, nsK hns, ⟨mb, nsK hb, hbb⟩, let ⟨mc, h1, h2⟩ := hlim; ⟨mc, nsK h1, h2⟩⟩
    have e0 : Env0 P w K mg (hidT s₁.heap H) callerA [] s₁ H := ⟨rfl, hM, fun b o e => of_hidT e, Nat.le_of_eq (hidT_size _ _), trivial, fun b hb => absurd (show b ∈ ([] : List Addr) from hb) (by simp), hok, .of_eq hg⟩
    refine codeAny_mono ((F _ hKb (nsK hns)).run callerA [] s₁ H ⟨[.ref a], []⟩ [.ref a] [.ref a] _ _ hr e0 (hbind s₁ (.ref a)) (.cons rfl .nil) (hsp H hO hS)) fun r s' h => ?_
    cases r with
    | error e => exact (hCX H e s' h).elim
    | ok fl =>
      cases fl with
      | next => exact False.elim h
      | brk => exact False.elim h
      | cont => exact False.elim h
      | ret u =>
        obtain ⟨v, H', os, bare, un, hok', r', q⟩ := h
        have q' : v = .bl true := q
        subst q'
        obtain rfl : u = Value.bool true := r'
        refine ⟨rfl, OldK.of_keep fun b o e => ?_, os, bare⟩
        cases q : H b with
        | none => exact un.keep b o e q (by intro z; exact absurd (show b ∈ ([] : List Addr) from z) (by simp)) (by simp)
        | some u =>
          rcases hO b with z | ⟨ob, xs, z⟩
          · rw [q] at z; cases z
          · have z2 := un.frzs b ob _ z
            obtain ⟨e1, _⟩ := hok b _ z
            obtain ⟨e2, _⟩ := hok' b _ z2
            rw [e] at e1; cases e1
            exact e2
  cases hk : K.lookup a with
  | some o =>
    -- the script is one of the module's own objects
    have e := KX a o hk
    rw [ha] at e
    cases e
    refine core (fun _ => none) (fun _ => .inl rfl) (.inr ⟨_, vs.toArray, _, hk, rfl, rfl, rfl, by rw [List.size_toArray, lenV]; exact hl, by simpa using rv⟩) (fun b u z => by have z' : (none : Option HO) = some u := z; cases z') (fun b z => absurd rfl z) fun z => absurd rfl z
  | none =>
    refine core (fun b => if b = a then some (.frz { cls := .type "list", data := .seq vs.toArray } (.lst (ns.map V.int))) else none) (fun b => ?_) (.inl (.inr ⟨{ cls := .type "list", data := .seq vs.toArray }, if_pos rfl⟩)) (fun b u z => ?_) (fun b z => ?_) fun _ => hk
    · by_cases hb : b = a
      · exact .inr ⟨_, _, if_pos hb⟩
      · exact .inl (if_neg hb)
    · by_cases hb : b = a
      · have z' := (if_pos hb).symm.trans z
        cases z'
        subst hb
        exact ⟨ha, by rw [List.length_map]; exact hl, vs, _, rv, ha⟩
      · have z' := (if_neg hb).symm.trans z
        cases z'
    · by_cases hb : b = a
      · exact hb
      · exact absurd (if_neg hb) z
end L2

namespace L2
open PySem PySem.Spec PyProof.Rows

abbrev KOf {K : PySem.W.Frag} {h : Heap} (_ : K.In h) : PySem.W.Frag := K

/-- the goal that k_head leaves (case hc), from the law's promise. F gives the function object fd (K's own) once, then the promise over every base -/
theorem walk_of {l : PySem.W.OpenLaw} {n k : Nat} {q : Program} {loose : List Str} {XP : (Str → Option Value) → Heap → Prop} {YP : World → Heap → Prop} {d : DefRec} {K : Params → PySem.W.Frag} {CX : World → CXT} {sp : World → Sp} {x : Str}
    (hn : l.most = some n) (hn2 : n ≤ sizeLine) (hdf : d.params.defaults = []) (hr : Room k callerA)
    (hY : ∀ (w : World) (h : Heap), YP w h → (K w.params).In h)
    (F : ∀ (w : World) (mg : Str → Option Value) (fa : Addr) (h : Heap), (K w.params).In h → h.Ns mainGlobals mg → mg d.name = some (.ref fa) →
      ∃ fd : FuncData, (∀ (s : Shared) (u : Value), BindsTo s fd ⟨[u], []⟩ [(x, u)]) ∧
        ∀ base : Heap, (K w.params).In base → base.Ns mainGlobals mg → FnOk l.prog w (K w.params) mg base (CX w) k fa fd [x] (sp w))
    (hsp : ∀ (w : World) (H : Hp) (a : Addr) (ns : List Int), ns.length ≤ n → Only H → SqL (K w.params) H a (ns.map V.int) → sp w [.ref a] H (fun v _ => v = .bl true) fun _ _ _ => False)
    (hCX : ∀ (w : World) (H : Hp) (s : Shared) (e : Value) (s' : Shared), CX w [] H s (fun _ _ _ => False) e s' → False) :
    PySem.W.WalkO q loose XP YP l.row.toRowW d [] (fun f vs => PySem.call f vs) := by
  refine Att.attach_call hn hdf fun w s₀ s₁ mg mb fa o pm cd doc a vs ns G Y ho hd hcd hmg hobj hints hlen hg => ?_
  have KX := hY w _ Y
  obtain ⟨fd, hb, hF⟩ := F w mg fa _ KX G.T.g hmg
  exact law_call KX G.T.g G.T.b G.T.builtins G.T.nolimit hg hobj hints (Nat.le_trans hlen hn2) hr hF hb (fun H hO hS => hsp w H a ns hlen hO hS) fun H e s' => hCX w H s₁ e s'
/-- the same where the promise hangs on the written part alone: (sp := My.sp_law), no hole under a binder -/
theorem walk_ofK {l : PySem.W.OpenLaw} {n k : Nat} {q : Program} {loose : List Str} {XP : (Str → Option Value) → Heap → Prop} {YP : World → Heap → Prop} {d : DefRec} {K : Params → PySem.W.Frag} {CX : CXT} {sp : PySem.W.Frag → Sp} {x : Str}
    (hn : l.most = some n) (hn2 : n ≤ sizeLine) (hdf : d.params.defaults = []) (hr : Room k callerA)
    (hY : ∀ (w : World) (h : Heap), YP w h → (K w.params).In h)
    (F : ∀ (w : World) (mg : Str → Option Value) (fa : Addr) (h : Heap), (K w.params).In h → h.Ns mainGlobals mg → mg d.name = some (.ref fa) →
      ∃ fd : FuncData, (∀ (s : Shared) (u : Value), BindsTo s fd ⟨[u], []⟩ [(x, u)]) ∧
        ∀ base : Heap, (K w.params).In base → base.Ns mainGlobals mg → FnOk l.prog w (K w.params) mg base CX k fa fd [x] (sp (K w.params)))
    (hsp : ∀ (K : PySem.W.Frag) (H : Hp) (a : Addr) (ns : List Int), ns.length ≤ n → Only H → SqL K H a (ns.map V.int) → sp K [.ref a] H (fun v _ => v = .bl true) fun _ _ _ => False)
    (hCX : ∀ (H : Hp) (s : Shared) (e : Value) (s' : Shared), CX [] H s (fun _ _ _ => False) e s' → False) :
    PySem.W.WalkO q loose XP YP l.row.toRowW d [] (fun f vs => PySem.call f vs) :=
  walk_of (K := K) (CX := fun _ => CX) (sp := fun w => sp (K w.params)) hn hn2 hdf hr hY F (fun w H a ns h1 h2 h3 => hsp (K w.params) H a ns h1 h2 h3) fun _ H s e s' => hCX H s e s'
end L2

/- THE LAST THEOREM (shape; LID, My.* are yours):
   My.Adr: a structure of the addresses that your layer names (classes, functions); My.Txt K t: a structure (Prop) of the equations over K;
   My.txt_mk : {K} {implicit addresses ..} (e1 : nsIn K mainGlobals "law" = some (some (.ref f))) (e2 : K.lookup f = some ⟨oc, od, .func (fnOf "law" "law" params body scope dV kV doc pm an cdv ct), sl⟩) (e3 : codeIn K cdv "law" = true) .. : ∃ t, My.Txt K t

set_option maxRecDepth 100000 in
set_option maxHeartbeats 0 in
theorem PySem.Challenge.cw_LID_holds : PySem.Challenge.rw_LID.Holds := by
  w_on; o_law; k_head; (case hw => w_witness2)
  k_fill
  refine L2.walk_of (l := PySem.Challenge.rw_LID) (n := 63) (k := 40) (x := "script") (CX := fun w => ..) (sp := fun _ => My.sp_law) rfl (by decide) rfl ⟨rfl, by decide, by decide⟩ (fun w h Y => PySem.W.kIn_of Y) ?F ?S ?C
  case F =>
    intro w mg fa h KX G hmg
    have T : ∃ t, My.Txt (L2.KOf KX) t := by
      dsimp only [L2.KOf]                          -- K must stand as «<heap const> w.params» for k_is
      refine' My.txt_mk ?e1 ?e2 ?e3 ..
      (case e1 => PySem.W.k_is)                    -- in the order: a name -> its address -> its object -> its parts
      (case e2 => PySem.W.k_is)
      ..
    obtain ⟨t, T⟩ := T
    have e0 := hmg.symm.trans (PySem.W.mg_of KX G T.law)
    cases e0                                       -- fa is the law's own address
    exact ⟨_, fun s u => .of_eq rfl, fun base kb nb => My.law_fn T kb nb⟩     -- if «.of_eq rfl» comes too early: refine' ⟨_, ?b, fun base kb nb => My.law_fn T kb nb⟩; exact fun s u => .of_eq rfl
  case S => exact fun w H a ns hl hO hS => ..
  case C => exact ..
(the tactic k_is has no namespace: write k_is) -/

/-! SHORT WORDS over the layer: a def of the text, its body, what a loop and a test want. -/
namespace L2
open PySem PySem.Spec PyProof.Rows

/-! ### the text by places -/
/-- the j-th statement of a class's body -/
def inClass (s : Stmt) (j : Nat) : Stmt := match s with
  | .ClassDef _ _ _ body _ _ _ _ _ _ _ => body.getD j (.Pass ⟨0, 0, 0, 0⟩)
  | _ => .Pass ⟨0, 0, 0, 0⟩
def defArgs (s : Stmt) : Arguments := match s with
  | .FunctionDef _ a _ _ _ _ _ _ _ _ => a
  | _ => { posonlyargs := [], args := [], vararg := none, kwonlyargs := [], kw_defaults := [], kwarg := none, defaults := [] }
def defBody (s : Stmt) : List Stmt := match s with
  | .FunctionDef _ _ b _ _ _ _ _ _ _ => b
  | _ => []
def defScope (s : Stmt) : Scope := match s with
  | .FunctionDef _ _ _ _ _ _ sc _ _ _ => sc
  | _ => { kind := .function, names := [], isGenerator := false, isCoroutine := false }

/-! ### no exception leaves a def -/
abbrev CX0 : CXT := fun _ _ _ _ _ _ => False
abbrev E0 : XK := fun _ _ _ => False
theorem pass0 {X : Cx} : Passes CX0 X E0 := fun _ _ _ _ _ _ _ h => h.elim

/-! ### a def (or method) of the text as it stands behind the top -/
structure Fun (K : PySem.W.Frag) (x qual : Str) (st : Stmt) (f : Addr) (fd : FuncData) : Prop where
  ex : ∃ (oc : Value) (od : Option Addr) (kV doc pm : Value) (an : Option Addr) (cdv ct : Value) (osl : Array (Option Value)),
    fd = PySem.W.fnOf x qual (defArgs st) (defBody st) (defScope st) .none kV doc pm an cdv ct ∧ K.lookup f = some ⟨oc, od, .func fd, osl⟩ ∧ PySem.W.codeIn K cdv qual = true
  kp : PySem.W.keepIn K (.ref f) = true
section
variable {P : Program} {w : World} {K : PySem.W.Frag} {mg : Str → Option Value} {base : Heap}
/-- THE RULE for a def: its body as a term of rules, and the reading of that term -/
theorem Fun.ok {x qual : Str} {st : Stmt} {f : Addr} {fd : FuncData} {N ps : List Str} {k : Nat} {sp : Sp} (F : Fun K x qual st f fd) (S : FnScope N ps (defScope st)) (len : ∀ vs H Q E, sp vs H Q E → vs.length = ps.length)
    (hbody : ∀ (cdv : Value) (A : Around) (outer : List Env) (s : Shared) (H : Hp) (vs : List V) (Q : VK) (E : XK), Room k (A.deeper (envOfC qual (defScope st) s.heap.objs.size f cdv)) → sp vs H Q E →
      ∃ t, PSs (cxOf CX0 P w K mg base N qual (defScope st) f cdv A outer s H E).nox (defBody st) t ∧ t { nx := fun _ H' => Q .non H', rt := Q } (start N vs) H) : FnOk P w K mg base CX0 (k + 1) f fd ps sp := by
  obtain ⟨oc, od, kV, doc, pm, an, cdv, ct, osl, rfl, lk, hcd⟩ := F.ex
  refine fn_of lk hcd S len fun A outer s H vs Q E hr hsp => ?_
  obtain ⟨t, h, q⟩ := hbody cdv A outer s H vs Q E hr hsp
  exact ⟨t, h.nox, q⟩
/-- how its arguments bind (no defaults): h is «fun _ _ _ _ _ _ us hl => match us, hl with | [_, _], _ => rfl», one _ a parameter -/
theorem Fun.binds {x qual : Str} {st : Stmt} {f : Addr} {fd : FuncData} {ps : List Str} (F : Fun K x qual st f fd)
    (h : ∀ (kV doc pm : Value) (an : Option Addr) (cdv ct : Value) (us : List Value), us.length = ps.length → bindArgs (PySem.W.fnOf x qual (defArgs st) (defBody st) (defScope st) .none kV doc pm an cdv ct) ⟨us, []⟩ = pure (ps.zip us)) : Binds K fd ps [] := by
  obtain ⟨oc, od, kV, doc, pm, an, cdv, ct, osl, rfl, lk, hcd⟩ := F.ex
  exact .all (h kV doc pm an cdv ct)
theorem fun_mk {x qual : Str} {st : Stmt} {f : Addr} {oc : Value} {od an : Option Addr} {osl : Array (Option Value)} {kV doc pm cdv ct : Value} (l : K.lookup f = some ⟨oc, od, .func (PySem.W.fnOf x qual (defArgs st) (defBody st) (defScope st) .none kV doc pm an cdv ct), osl⟩)
    (c : PySem.W.codeIn K cdv qual = true) (k : PySem.W.keepIn K (.ref f) = true) : Fun K x qual st f (PySem.W.fnOf x qual (defArgs st) (defBody st) (defScope st) .none kV doc pm an cdv ct) := ⟨⟨oc, od, kV, doc, pm, an, cdv, ct, osl, rfl, l, c⟩, k⟩
end
theorem hu_of {A : Around} {k : Nat} (hr : Room k A) : A.units + 1 < cLine := Nat.lt_of_le_of_lt (Nat.add_le_add_left (by decide : 1 ≤ 64) _) hr.units
theorem small1000 {n : Nat} (h : n ≤ 1000) : n < sizeLine := Nat.lt_of_le_of_lt h (by decide)

/-! ### expressions in short: the name that stands in the i-th slot -/
section
variable {X : Cx}
theorem pv (i : Nat) {x : Str} {pos : Pos} (hN : X.N[i]? = some x := by rfl) (hv : Vis X.env.scope x := by first | exact Or.inl rfl | exact Or.inr (Or.inl rfl) | exact Or.inr (Or.inr rfl)) (hd : (x == ("__debug__" : Str)) = false := by decide)
    (hcd : (x == ("__classdict__" : Str)) = false := by decide) : PE X (.Name x pos) (tVar i) := pe_var hN hv hd hcd
end

/-! ### tests -/
theorem iteF {A B : Prop} (h : B) : if false = true then A else B := by
  rw [if_neg Bool.false_ne_true]
  exact h
theorem iteT {A B : Prop} (h : A) : if true = true then A else B := by
  rw [if_pos rfl]
  exact h
theorem ite2 {c A B : Prop} [Decidable c] (h1 : c → A) (h2 : ¬ c → B) : if c then A else B := by
  by_cases h : c
  · rw [if_pos h]
    exact h1 h
  · rw [if_neg h]
    exact h2 h
theorem iteNS {c A B : Prop} [Decidable c] (hc : c) (h : B) : if (!decide c) = true then A else B := by
  rw [decide_eq_true hc]
  exact iteF h

/-! ### heaps -/
/-- all that was tracked is as it was -/
def Same (H H' : Hp) : Prop := ∀ b o, H b = some o → H' b = some o
theorem Same.refl (H : Hp) : Same H H := fun _ _ h => h
theorem Same.trans {H H1 H2 : Hp} (a : Same H H1) (b : Same H1 H2) : Same H H2 := fun c o h => b c o (a c o h)
theorem Same.free {H H' : Hp} (e : Same H H') {l : Addr} (h : H' l = Option.none) : H l = Option.none := by
  cases q : H l with
  | none => rfl
  | some o =>
    rw [e l o q] at h
    cases h
theorem Same.seq {K : PySem.W.Frag} {H H' : Hp} {a : Addr} {xs : List V} (e : Same H H') (h : SqL K H a xs) : SqL K H' a xs := by
  rcases h with (h | ⟨o, h⟩) | h
  · exact .inl (.inl (e _ _ h))
  · exact .inl (.inr ⟨o, e _ _ h⟩)
  · exact .inr h

end L2

set_option Elab.async false
set_option linter.all false
set_option maxRecDepth 100000
set_option maxHeartbeats 4000000
namespace L2
open PySem PySem.Spec PyProof.Rows

/-! ### a list comprehension of one clause (the block: names of its own, then the def's) -/
theorem ne_lt {a b c : Nat} (h : a < b) (k : b ≤ c) : a ≠ c := Nat.ne_of_lt (Nat.lt_of_lt_of_le h k)
theorem no_lt {a b : Nat} (h : a < b) (k : b ≤ a) : False := absurd (Nat.lt_of_lt_of_le h k) (Nat.lt_irrefl _)
/-- the cells that the block takes over -/
def clOf (names : List (Str × NameKind)) (cells : List (Str × Addr)) : List (Str × Addr) :=
  (names.filterMap fun p => if p.2 == .free then (cells.lookup p.1).map fun c => (p.1, c) else none).reverse

theorem closureFor_go (env : Env) : ∀ (names : List (Str × NameKind)) (acc : List (Str × Addr)), (∀ p ∈ names, p.2 = .free → ∃ c, env.cells.lookup p.1 = some c) →
    (forIn names acc fun (x : Str × NameKind) cs => (match x with
      | (name, kind) => if (kind == .free) = true then (do let c ← cellOf env name; pure (ForInStep.yield ((name, c) :: cs))) else pure (ForInStep.yield cs)) : Sem (List (Str × Addr)))
      = pure (clOf names env.cells ++ acc)
  | [], acc, _ => rfl
  | (n, k) :: r, acc, h => by
    have hr : ∀ p ∈ r, p.2 = .free → ∃ c, env.cells.lookup p.1 = some c := fun p hp => h p (List.mem_cons_of_mem _ hp)
    rw [List.forIn_cons]
    by_cases hk : k = .free
    · subst hk
      obtain ⟨c, hc⟩ := h (n, .free) List.mem_cons_self rfl
      have e1 : cellOf env n = pure c := by
        unfold cellOf
        have hc' : env.cells.lookup n = some c := hc
        rw [hc']
      have e2 : clOf ((n, NameKind.free) :: r) env.cells = clOf r env.cells ++ [(n, c)] := by
        have hc' : env.cells.lookup n = some c := hc
        unfold clOf
        rw [List.filterMap_cons]
        simp [hc']
      simp only [beq_self_eq_true, if_true, e1, pure_bind]
      rw [closureFor_go env r _ hr, e2, List.append_assoc]
      rfl
    · have hb : (k == NameKind.free) = false := by simpa using hk
      have e2 : clOf ((n, k) :: r) env.cells = clOf r env.cells := by
        unfold clOf
        rw [List.filterMap_cons]
        simp [hb]
      simp only [hb, Bool.false_eq_true, if_false, pure_bind]
      rw [closureFor_go env r _ hr, e2]

theorem closureFor_cl {scope : Scope} {env : Env} (h : ∀ p ∈ scope.names, p.2 = .free → ∃ c, env.cells.lookup p.1 = some c) : closureFor scope env = pure (clOf scope.names env.cells) := by
  have q := closureFor_go env scope.names [] h
  rw [List.append_nil] at q
  unfold closureFor
  simp only [bind_pure]
  exact q

theorem clOf_mem {names : List (Str × NameKind)} {cells : List (Str × Addr)} {x : Str} {c : Addr} (h : (x, c) ∈ clOf names cells) : (x, NameKind.free) ∈ names ∧ cells.lookup x = some c := by
  unfold clOf at h
  rw [List.mem_reverse, List.mem_filterMap] at h
  obtain ⟨⟨n, k⟩, hm, e⟩ := h
  by_cases hk : k = .free
  · subst hk
    simp only [beq_self_eq_true, if_true] at e
    cases q : cells.lookup n with
    | none => rw [q] at e; cases e
    | some a =>
      rw [q] at e
      have e' : (n, a) = (x, c) := Option.some.inj e
      cases e'
      exact ⟨hm, q⟩
  · have hb : (k == NameKind.free) = false := by simpa using hk
    simp only [hb, Bool.false_eq_true, if_false] at e
    cases e
theorem clOf_lookup {names : List (Str × NameKind)} {cells : List (Str × Addr)} {x : Str} {c : Addr} (h : (clOf names cells).lookup x = some c) : cells.lookup x = some c := (clOf_mem (PySem.mem_of_lookup h)).2
theorem lookup_of_mem {α : Type} {x : Str} {l : List (Str × α)} {a : α} (h : (x, a) ∈ l) : ∃ b, l.lookup x = some b := by
  induction l with
  | nil => cases h
  | cons p r ih =>
    obtain ⟨n, b⟩ := p
    by_cases e : x = n
    · subst e; exact ⟨b, by simp [List.lookup_cons]⟩
    · rcases List.mem_cons.mp h with z | z
      · cases z; exact absurd rfl e
      · obtain ⟨b', q⟩ := ih z
        exact ⟨b', by rw [List.lookup_cons, (by simpa using e : (x == n) = false)]; exact q⟩
theorem clOf_has {names : List (Str × NameKind)} {cells : List (Str × Addr)} {x : Str} {c : Addr} (h : (x, NameKind.free) ∈ names) (hc : cells.lookup x = some c) : (clOf names cells).lookup x = some c := by
  have hm : (x, c) ∈ clOf names cells := by
    unfold clOf
    rw [List.mem_reverse, List.mem_filterMap]
    exact ⟨(x, .free), h, by simp [hc]⟩
  obtain ⟨b, q⟩ := lookup_of_mem hm
  have := clOf_lookup q
  rw [hc] at this
  cases this
  exact q

/-- the relabelled table's entries come from the block's own table -/
theorem relabel_free {scope : Scope} {env : Env} {x : Str} (hc : ∀ y ∈ scope.names, y.2 ≠ .cell) (h : (relabel scope env).names.lookup x = some .cell ∨ (relabel scope env).names.lookup x = some .free) : (x, NameKind.free) ∈ scope.names := by
  have key : ∀ k, (relabel scope env).names.lookup x = some k → (k = .cell ∨ k = .free) → (x, NameKind.free) ∈ scope.names := fun k q hk => by
    have m := PySem.mem_of_lookup q
    unfold relabel at m
    rw [List.mem_map] at m
    obtain ⟨⟨n, k'⟩, hm, e⟩ := m
    dsimp only at e
    by_cases hf : k' = .free
    · subst hf
      split at e <;> cases e <;> exact hm
    · have hb : (k' == NameKind.free) = false := by simpa using hf
      simp only [hb, Bool.false_and, Bool.false_eq_true, if_false] at e
      cases e
      rcases hk with rfl | rfl
      · exact absurd rfl (hc _ hm)
      · exact absurd rfl hf
  rcases h with h | h
  · exact key _ h (.inl rfl)
  · exact key _ h (.inr rfl)

/-- the context of the block -/
def compCx (X : Cx) (N' : List Str) (scope : Scope) (C : Addr) (fp : List Addr) (s₂ : Shared) (H₂ : Hp) : Cx where
  prog := X.prog
  w := X.w
  K := X.K
  mg := X.mg
  base := X.base
  A := X.A
  N := N'
  s₀ := s₂
  H₀ := H₂
  env := compEnvC scope (clOf scope.names X.env.cells) C X.env
  outer := X.stack
  stack := X.stack
  ex := fp
  fn := fun _ => false
  calm := X.calm
  pn := []
  xe := fun _ _ => False

/-- what the block's table must be: own names (local), then names of the def that are not own; no cells; every free name is a cell of the def's -/
structure CompScope (X : Cx) (own N' : List Str) (scope : Scope) : Prop where
  kind : scope.kind = .function
  nocell : ∀ y ∈ scope.names, y.2 ≠ .cell
  names : ∀ y ∈ scope.names, y.2 = .local → scope.names.lookup y.1 = some .local
  free : ∀ y ∈ scope.names, y.2 = .free → (X.env.kindOf y.1 = some .cell ∨ X.env.kindOf y.1 = some .free)
  len : N'.length = own.length + X.N.length
  outer : ∀ (i : Nat) (x : Str), (N'.drop own.length)[i]? = some x → (x, NameKind.free) ∈ scope.names → X.N[i]? = some x
  apart : ∀ x ∈ N'.drop own.length, (relabel scope X.env).names.lookup x ≠ some .local

/-- what the block wants of an iterator: W by the turn, a measure, the items so far, the heap -/
def Cmp (J : It) (k : Nat) (g : TG) (tt : TT) (te : TE) (σ : St) (Q : VK) (H1 : Hp) : Prop := ∃ W : Nat → Nat → List V → Hp → Prop, (∃ m, W 0 m [] H1) ∧ ∀ i m ys H, W i m ys H →
  (J.stop i H ∧ ∀ p, H p = none → Q (.ref p) (upd H p (.lst ys))) ∨
  (J.go i H ∧ ys.length < sizeLine ∧ ∃ (N1 : V → Hp → Prop) (N0 : Hp → Prop), (∀ y H', N1 y H' → ∃ m', m' < m ∧ W (i + 1) m' (ys ++ [y]) H') ∧ (∀ H', N0 H' → ∃ m', m' < m ∧ W (i + 1) m' ys H') ∧
    ∀ x H', J.yld i H x H' → g x (List.replicate k none ++ σ) H' fun σ2 H2 => tt σ2 H2 fun b H3 => if b = true then te σ2 H3 N1 else N0 H3)
/-- the reading -/
def tComp (k : Nat) (wi : TI) (g : TG) (tt : TT) (te : TE) : TE := fun σ H Q => wi σ H fun J H1 => Cmp J k g tt te σ Q H1

/-- the tests of a clause -/
def PTs (X : Cx) (ifs : List Expr) (t : TT) : Prop :=
  ∀ (pins : List (Addr × Obj)) (s : Shared) (σ : St) (H : Hp) (Q : Bool → Hp → Prop), Inv X pins σ H s → t σ H Q →
    wpAny (model X.prog X.w) X.A (forIn ifs true fun c r => if r = true then do let ok ← isTrue c X.env (eval c X.env); pure (ForInStep.yield ok) else pure (ForInStep.yield r)) (TP X pins σ Q) X.xe s
def tAll : TT := fun _ H Q => Q true H
theorem pts_nil {X : Cx} : PTs X [] tAll := fun _ _ σ H Q I h => wpAny_tests_nil ⟨H, I, h⟩
theorem pts_one {X : Cx} {c : Expr} {t : TT} (h : PT X c t) : PTs X [c] t := fun pins s σ H Q I q => wpAny_tests_one (h pins s σ H Q I q)

/-- no error comes -/
abbrev Nev : Value → Shared → Prop := fun _ _ => False
/-- all of a block's conditions, one behind the other -/
abbrev allIfs (cs : List Expr) (en : Env) : Sem Bool := forIn cs true fun c yes => if yes = true then isTrue c en (eval c en) >>= fun b => pure (ForInStep.yield b) else pure (ForInStep.yield yes)
/-- one item of a block that makes a list: taken, its conditions asked, put behind where they hold -/
abbrev OneItem (P : Program) (W : World) (B : Around) (elt tgt : Expr) (cs : List Expr) (src lst : Value) (en : Env) (Go : Shared → Prop) (v : Value) : Shared → Prop := wpAny (model P W) B (letOwnedTupleGo tgt src v) (fun _ t2 =>
  wpAny (model P W) B (assign tgt en v) (fun _ t3 => wpAny (model P W) B (allIfs cs en) (fun yes t4 => if yes = true then wpAny (model P W) B (eval elt en) (fun x t5 => wpAny (model P W) B (call (.builtin "list.append") [lst, x]) (fun _ t6 => Go t6) Nev t5) Nev t4 else Go t4) Nev t3) Nev t2) Nev
theorem compLoop_any {P : Program} {W : World} {B : Around} {R : Result → Shared → Prop} {s : Shared} {elt tgt iter : Expr} {cs : List Expr} {scope : Scope} {pos : Pos} {src lst : Value} {en : Env} (J : Nat → Shared → Prop)
    (turn : ∀ k t, J k t → wpAny (model P W) B (pyNext src) (fun got t1 => match got with | none => R (.ok .next) t1 | some v => OneItem P W B elt tgt cs src lst en (fun t6 => ∃ j, j < k ∧ J j t6) v t1) Nev t)
    (k : Nat) (start : J k s) : codeAny (model P W) B (.compLoop (.ListComp elt [⟨tgt, iter, cs, 0⟩] scope pos) 0 src lst en) R s := by
  refine codeAny_loop rfl J (fun j t hj => ?_) k start
  refine (?_ : wpAny _ B ((compTurn (.ListComp elt [⟨tgt, iter, cs, 0⟩] scope pos) 0 src lst en).onRaise fun x => do noteFrame x en; theTreesLotGoes x) _ _ t)
  refine wpAny_noted ?_
  rw [compTurn_list]
  refine wpAny_bind (wpAny_standAt (wpAny_bind (wpAny_mono (turn j t hj) (fun got t1 h1 => ?_) fun _ _ no => no.elim)))
  match got, h1 with
  | none, h1 => exact wpAny_pure h1
  | some v, h1 =>
    refine wpAny_bind (wpAny_mono h1 (fun _ t2 h2 => wpAny_bind (wpAny_mono h2 (fun _ t3 h3 => wpAny_bind (wpAny_mono h3 (fun yes t4 h4 => ?_) fun _ _ no => no.elim)) fun _ _ no => no.elim)) fun _ _ no => no.elim)
    match yes, h4 with
    | true, h4 => exact wpAny_bind (wpAny_bind (wpAny_mono h4 (fun x t5 h5 => wpAny_bind (wpAny_mono h5 (fun _ t6 h6 => wpAny_pure (wpAny_pure ⟨rfl, h6⟩)) fun _ _ no => no.elim)) fun _ _ no => no.elim))
    | false, h4 => exact wpAny_pure ⟨rfl, h4⟩

section
variable {X : Cx}
theorem CompScope.ok {own N' : List Str} {scope : Scope} {C : Addr} {fp : List Addr} {s₂ : Shared} {H₂ : Hp} {pins : List (Addr × Obj)} {σ : St} (S : CompScope X own N' scope) (I : Inv X pins σ H₂ s₂) (hC : s₂.heap.objs.size ≤ C)
    (hf : ∀ b ∈ fp, FpOk X pins H₂ b) (hlt : ∀ b ∈ fp, b < s₂.heap.objs.size) : (compCx X N' scope C fp s₂ H₂).Ok where
  mod := I.ok.mod
  kind := S.kind
  glob := I.ok.glob
  blt := I.ok.blt
  above := hC
  inj := fun x y c h1 h2 => I.ok.inj x y c (clOf_lookup h1) (clOf_lookup h2)
  has := fun x h => by
    have hm := relabel_free S.nocell h
    obtain ⟨c, hc⟩ := I.ok.has x (S.free _ hm rfl)
    exact ⟨c, clOf_has hm hc⟩
  cab := fun x c h => by cases h
  hd := I.ok.hd
  frames := I.ok.frames
  stk := .inl rfl
  exf := fun b hb => ⟨ne_lt (hlt b hb) hC, fun x c h => (hf b hb).2.2.2.2.1 x c (clOf_lookup h)⟩
  bs := I.bs
  bsz := Nat.le_trans I.ok.bsz I.sz
  noex := fun b o e hb => by
    rcases (hf b hb).2.2.2.1 with z | z
    · exact I.ok.noex b o e z
    · exact no_lt (Heap.lt_size e) (Nat.le_trans I.ok.bsz z)
  exfs := fun b hb hs => by
    rcases List.mem_cons.mp (I.stkSub b hs) with z | z
    · exact (hf b hb).2.1 z
    · exact (hf b hb).2.2.1 z
  funs := I.stack
  frf := I.stkFree

theorem CompScope.inv {own N' : List Str} {scope : Scope} {C D : Addr} {fp : List Addr} {s₂ s₄ : Shared} {H₂ : Hp} {pins : List (Addr × Obj)} {σ : St} {oD : Obj} {m : Str → Option Value} (S : CompScope X own N' scope) (I : Inv X pins σ H₂ s₂) (hC : s₂.heap.objs.size ≤ C)
    (hf : ∀ b ∈ fp, FpOk X pins H₂ b) (hlt : ∀ b ∈ fp, b < s₂.heap.objs.size) (hos : s₄.os = s₂.os) (hg : s₄.gens = s₂.gens) (k : ∀ b u, s₂.heap.get? b = some u → s₄.heap.get? b = some u) (hn : s₄.heap.Ns C m)
    (hD : s₄.heap.get? D = some oD) (hDs : s₂.heap.objs.size ≤ D) (hDC : D ≠ C) (hDd : ∀ v, oD.data ≠ .cell v) :
    Inv (compCx X N' scope C fp s₂ H₂) [(D, oD)] (List.replicate own.length none ++ σ) H₂ s₄ where
  ok := S.ok I hC hf hlt
  os := hos
  bare := by rw [hg]; exact I.bare
  base := Un.kept k
  loc := ⟨m, hn, fun i x v e1 e2 e3 => by
    obtain ⟨mX, hnX, hlX⟩ := I.loc
    have hge : own.length ≤ i := by
      refine Nat.le_of_not_lt fun hi => ?_
      rw [List.getElem?_append_left (by simpa using hi), List.getElem?_replicate] at e2
      split at e2 <;> cases e2
    rw [List.getElem?_append_right (by simpa using hge), List.length_replicate] at e2
    have e1' : (N'.drop own.length)[i - own.length]? = some x := by
      rw [List.getElem?_drop, show own.length + (i - own.length) = i by omega]
      exact e1
    have nl := S.apart x (List.mem_of_getElem? e1')
    have hfr : (x, NameKind.free) ∈ scope.names := by
      rcases e3 with z | z | z
      · exact absurd z nl
      · exact relabel_free S.nocell (.inl z)
      · exact relabel_free S.nocell (.inr z)
    have hk := S.free _ hfr rfl
    obtain ⟨u, r, l⟩ := hlX (i - own.length) x v (S.outer _ _ e1' hfr) e2 (by
      rcases hk with z | z
      · exact .inr (.inl z)
      · exact .inr (.inr z))
    refine ⟨u, r, ?_⟩
    rcases l with ⟨z, _⟩ | ⟨_, c, hc, o, ho, hd⟩
    · rcases hk with q | q
      · rw [q] at z; cases z
      · rw [q] at z; cases z
    · refine .inr ⟨?_, c, clOf_has hfr hc, o, k _ _ ho, hd⟩
      rcases e3 with z | z | z
      · exact absurd z nl
      · exact .inl z
      · exact .inr z⟩
  cell := fun x c h => by
    obtain ⟨v, o, ho, hd⟩ := I.cell x c (clOf_lookup h)
    exact ⟨v, o, k _ _ ho, hd⟩
  free := I.hok.fresh hC
  freeC := fun x c h => I.freeC x c (clOf_lookup h)
  pin := fun p hp => by
    have e : p = (D, oD) := by
      have hp' : p ∈ [(D, oD)] := hp
      simpa using hp'
    subst e
    refine ⟨hD, I.hok.fresh hDs, hDC, fun z => ?_, hDd⟩
    rcases List.mem_cons.mp (I.stkSub D z) with q | q
    · exact ne_lt I.lt hDs q.symm
    · exact I.nofs hDs q
  hok := I.hok.kept k
  len := by
    show _ = N'.length
    rw [S.len, List.length_append, List.length_replicate, I.len]

/-- the block, walked: at its end the items lie at D, tracked; C is the block's own namespace -/
theorem comp_block {own N' : List Str} {scope : Scope} {elt tg iter : Expr} {ifs : List Expr} {pos : Pos} {g : TG} {tt : TT} {te : TE} {it : Addr} {fp : List Addr} {tn : Nat → Heap → Prop} {J : It} {pins : List (Addr × Obj)} {s₂ : Shared} {σ : St} {H₂ : Hp} {Q : VK}
    {RR : Value → Addr → Result → Shared → Prop} {E : Value → Shared → Prop} (hc : X.calm = true) (S : CompScope X own N' scope)
    (hg : ∀ C s H, PG (compCx X N' scope C fp s H) tg g) (ht : ∀ C s H, PTs (compCx X N' scope C fp s H) ifs tt) (he : ∀ C s H, PE (compCx X N' scope C fp s H) elt te)
    (I : Inv X pins σ H₂ s₂) (T : Turn X.prog X.w X.K tg J fp it tn) (st : tn 0 s₂.heap) (hf : ∀ b ∈ fp, FpOk X pins H₂ b)
    (W : Nat → Nat → List V → Hp → Prop) (m0 : Nat) (w0 : W 0 m0 [] H₂)
    (turn : ∀ i m ys H, W i m ys H → (J.stop i H ∧ ∀ p, H p = none → Q (.ref p) (upd H p (.lst ys))) ∨
      (J.go i H ∧ ys.length < sizeLine ∧ ∃ (N1 : V → Hp → Prop) (N0 : Hp → Prop), (∀ y H', N1 y H' → ∃ m', m' < m ∧ W (i + 1) m' (ys ++ [y]) H') ∧ (∀ H', N0 H' → ∃ m', m' < m ∧ W (i + 1) m' ys H') ∧
        ∀ x H', J.yld i H x H' → g x (List.replicate own.length none ++ σ) H' fun σ2 H2 => tt σ2 H2 fun b H3 => if b = true then te σ2 H3 N1 else N0 H3))
    (hRR : ∀ (D C : Addr) (s' : Shared) (H' : Hp) (m' : Str → Option Value), Inv X pins σ H' s' → Q (.ref D) H' → s'.heap.Ns C m' → H' C = none → C ≠ X.env.locals → X.s₀.heap.objs.size ≤ C → (∀ x c, X.env.cells.lookup x = some c → c ≠ C) → (∀ p ∈ X.pn ++ pins, p.1 ≠ C) →
      RR (.ref D) C (.ok .next) s') :
    wpAny (model X.prog X.w) X.A (newList []) (fun acc s₃ => wpAny (model X.prog X.w) X.A (newFunctionEnv scope X.env.globals (clOf scope.names X.env.cells) [] X.env.qual none .none (some X.env)) (fun cenv s₄ =>
      codeAny (model X.prog X.w) X.A (.compStart (.ListComp elt [⟨tg, iter, ifs, 0⟩] scope pos) 0 (.ref it) acc { cenv with scope := relabel scope X.env }) (RR acc cenv.locals) s₄) E s₃) E s₂ := by
  refine wpAny_newObj_type (wpAny_newFunctionEnv S.nocell (by intro y hy; simp at hy) (fun h₁ hns₁ hsb₁ => ?_) S.kind)
  dsimp only at hns₁ hsb₁ ⊢
  generalize hH2 : s₂.heap.push { cls := .type "list", dict := none, data := .seq ([] : List Value).toArray } = H2 at hns₁ hsb₁ ⊢
  have hC : H2.objs.size = s₂.heap.objs.size + 1 := hH2 ▸ Heap.size_push ..
  have hDC : s₂.heap.objs.size ≠ H2.objs.size := Nat.ne_of_lt (by omega)
  have hCle : s₂.heap.objs.size ≤ H2.objs.size := hC ▸ Nat.le_add_right _ 1
  have below : ∀ b, b < s₂.heap.objs.size → b ≠ H2.objs.size ∧ b ≠ s₂.heap.objs.size := fun b hb => ⟨Nat.ne_of_lt (Nat.lt_of_lt_of_le hb hCle), Nat.ne_of_lt hb⟩
  have old : ∀ b o, s₂.heap.get? b = some o → h₁.get? b = some o := fun b o e => hsb₁.extBut b o (below b (Heap.lt_size e)).1 (Heap.get?_push_of_some _ (hH2 ▸ Heap.get?_push_of_some _ e))
  have hacc : h₁.get? s₂.heap.objs.size = some { cls := .type "list", data := .seq ([] : List Value).toArray 0 } := hsb₁.extBut _ _ hDC (Heap.get?_push_of_some _ (hH2 ▸ Heap.get?_push_size _ rfl))
  have hflt : ∀ b ∈ fp, b < s₂.heap.objs.size := fun b hb => by
    obtain ⟨o, e, _⟩ := T.obj 0 _ st b hb
    exact Heap.lt_size e
  generalize hCd : H2.objs.size = C at *
  generalize hDd : s₂.heap.objs.size = D at *
  have hDnf : D ∉ X.fs := I.nofs (Nat.le_of_eq hDd)
  have stat : ∀ {H' : Hp} {o : Obj}, (∀ b ∈ fp, H' b = none) → ∀ b ∈ fp, FpOk (compCx X N' scope C fp s₂ H₂) [(D, o)] H' b := fun {H' o} hn b hb =>
    ⟨hn b hb, (ne_lt (hflt b hb) hCle), fun z => (S.ok I (hDd ▸ hCle) hf (by rw [hDd]; exact hflt)).exfs b hb z, .inl hb, fun x c h => (hf b hb).2.2.2.2.1 x c (clOf_lookup h), fun p hp => by
      have e : p = (D, o) := by
        have hp' : p ∈ [(D, o)] := hp
        simpa using hp'
      subst e
      exact Ne.symm (Nat.ne_of_lt (hflt b hb))⟩
  have loop : ∀ s₃ : Shared, s₃ = { s₂ with heap := h₁, toks := s₂.toks + ([] : List (Str × Value)).length } →
      codeAny (model X.prog X.w) X.A (.compLoop (.ListComp elt [⟨tg, iter, ifs, 0⟩] scope pos) 0 (.ref it) (.ref D) (compEnvC scope (clOf scope.names X.env.cells) C X.env)) (RR (.ref D) C) s₃ := by
    rintro s₃ rfl
    refine compLoop_any (fun n s' => ∃ i ys us nn H', Inv (compCx X N' scope C fp s₂ H₂) [(D, { cls := .type "list", data := .seq (us : List Value).toArray nn })] (List.replicate own.length none ++ σ) H' s' ∧ Vals ys us ∧ ys.length ≤ sizeLine ∧
      tn i s'.heap ∧ (∀ b ∈ fp, H' b = none) ∧ W i n ys H') ?_ m0 ⟨0, [], [], 0, H₂, S.inv (m := fun x => ([] : List (Str × Value)).reverse.lookup x) I (by rw [hDd]; exact hCle) hf (by rw [hDd]; exact hflt) rfl rfl old hns₁ hacc (Nat.le_of_eq hDd) hDC (by intro v z; cases z), .nil, Nat.zero_le _,
        T.keep _ _ _ st fun b hb o e => old b o e, fun b hb => (hf b hb).1, w0⟩
    rintro n s3 ⟨i, ys, us, nn, H3, I3, rv, hyz, st3, fr3, w3⟩
    rcases turn i n ys H3 w3 with ⟨stop, qn⟩ | ⟨go, hlt, N1, N0, hN1, hN0, step⟩
    · refine thn (T.done (compCx X N' scope C fp s₂ H₂) rfl rfl rfl hc i _ s3 _ H3 (fun _ _ => False) I3 (stat fr3) st3 stop) fun r s4 ⟨hr, I4⟩ => ?_
      subst hr
      obtain ⟨e4, n4, ne4, nf4, d4⟩ := I4.pin (D, _) (List.mem_append_right _ (List.mem_cons_self))
      obtain ⟨mC, hmC, _⟩ := I4.loc
      have hH4 : H3 D = none := n4
      -- the list is tracked from here on
      have U : Un (frs X.stack) fp H₂ H3 s₂.heap s4.heap := I4.base
      have U' : Un (frs X.stack) fp H₂ (upd H3 D (.lst ys)) s₂.heap s4.heap :=
        { keep := U.keep, slot := U.slot, there := U.there
          free := fun b o e nb hx => by
            rw [upd_ne (ne_lt (Heap.lt_size e) (Nat.le_of_eq hDd))]
            exact U.free b o e nb hx
          tups := fun b xs e => by
            rw [upd_ne (ne_lt (I.hok.lt e) (Nat.le_of_eq hDd))]
            exact U.tups b xs e
          frzs := fun b o xs e => by
            rw [upd_ne (ne_lt (I.hok.lt e) (Nat.le_of_eq hDd))]
            exact U.frzs b o xs e
          tbls := fun b ps e => by
            rw [upd_ne (ne_lt (I.hok.lt e) (Nat.le_of_eq hDd))]
            exact U.tbls b ps e }
      have hokD : HOk X.prog X.w (upd H3 D (.lst ys)) s4.heap := fun b u e => by
        by_cases hb : b = D
        · subst hb
          rw [upd_same] at e
          cases e
          exact ⟨hyz, us, nn, rv, e4⟩
        · rw [upd_ne hb] at e
          exact (I4.hok b u e).stay (fun _ _ _ q => q) (fun c q => by rw [upd_ne (ne_of_none q hH4)]; exact q) fun c xs q => by rw [upd_ne (ne_of_none q hH4)]; exact q
      have IX : Inv X pins σ (upd H3 D (.lst ys)) s4 := I.call' I4.os U' hokD I4.bare fun b hb => by
        obtain ⟨f0, f1, f2, f3, f4, f5⟩ := hf b hb
        exact ⟨f3, f1, f4, f5⟩
      have hDne : C ≠ D := fun z => hDC z.symm
      refine hRR D C s4 _ mC IX (qn D hH4) hmC (by rw [upd_ne hDne]; exact I4.free) (fun z => ?_) ?_ (fun x c h z => ?_) fun p hp z => ?_
      · exact ne_lt I.lt (hDd ▸ hCle) z.symm
      · exact Nat.le_trans I.sz (hDd ▸ hCle)
      · obtain ⟨v, o, ho, _⟩ := I.cell x c h
        exact ne_lt (Heap.lt_size ho) (hDd ▸ hCle) z
      · exact ne_lt (Heap.lt_size (I.pin p hp).1) (hDd ▸ hCle) z
    · refine thn (T.item (compCx X N' scope C fp s₂ H₂) rfl rfl rfl hc i _ s3 _ H3 (fun _ _ => False) I3 (stat fr3) st3 go) fun r s4 ⟨u, hr, h4⟩ => ?_
      subst hr
      refine thn h4 fun _ s5 ⟨x, H5, I5, r5, y5, st5, fr5⟩ => ?_
      have I5' := I5.pinned (stat fr5) (T.obj _ _ st5)
      refine thn (hg C s₂ H₂ _ s5 _ H5 x u _ I5' r5 (step x H5 y5)) fun _ s6 ⟨σ6, H6, I6, q6⟩ => ?_
      have back : ∀ {σ7 : St} {H7 : Hp} {s7 : Shared} {pp : List (Addr × Obj)}, Inv (compCx X N' scope C fp s₂ H₂) (pp ++ pinsAt fp s5.heap) σ7 H7 s7 → tn (i + 1) s7.heap ∧ ∀ b ∈ fp, H7 b = none := fun {σ7 H7 s7 pp} I7 => by
        refine ⟨T.keep _ _ _ st5 fun b hb o e => (I7.pin (b, o) (List.mem_append_right _ (List.mem_append_right _ (mem_pinsAt hb e)))).1, fun b hb => ?_⟩
        obtain ⟨o, e, d⟩ := T.obj _ _ st5 b hb
        exact (I7.pin (b, o) (List.mem_append_right _ (List.mem_append_right _ (mem_pinsAt hb e)))).2.1
      refine thn (ht C s₂ H₂ _ s6 σ6 H6 _ I6 q6) fun b s7 ⟨H7, I7, q7⟩ => ?_
      -- the outer part of the state is the same at each turn
      have weak : ∀ {H8 : Hp} {s8 : Shared} {pp : List (Addr × Obj)}, Inv (compCx X N' scope C fp s₂ H₂) pp σ6 H8 s8 → Inv (compCx X N' scope C fp s₂ H₂) pp (List.replicate own.length none ++ σ) H8 s8 := fun {H8 s8 pp} J8 => by
        obtain ⟨mC, hmC, _⟩ := J8.loc
        refine ⟨J8.ok, J8.os, J8.bare, J8.base, ⟨mC, hmC, fun j y v e1 e2 e3 => ?_⟩, J8.cell, J8.free, J8.freeC, J8.pin, J8.hok, I3.len⟩
        -- what the def's cells hold is what they held at the block's entry
        obtain ⟨m3, hm3, hl3⟩ := (S.inv (m := fun x => ([] : List (Str × Value)).reverse.lookup x) (s₄ := { s₂ with heap := h₁, toks := s₂.toks + ([] : List (Str × Value)).length }) I (by rw [hDd]; exact hCle) hf (by rw [hDd]; exact hflt) rfl rfl old hns₁ hacc (Nat.le_of_eq hDd) hDC (by intro v z; cases z)).loc
        obtain ⟨u', r', l'⟩ := hl3 j y v e1 e2 e3
        refine ⟨u', r', ?_⟩
        rcases l' with ⟨k', z'⟩ | ⟨k', c, hcl, o, ho, hd⟩
        · have hge : own.length ≤ j := by
            refine Nat.le_of_not_lt fun hj => ?_
            rw [List.getElem?_append_left (by simpa using hj), List.getElem?_replicate] at e2
            split at e2 <;> cases e2
          have e1' : (N'.drop own.length)[j - own.length]? = some y := by
            rw [List.getElem?_drop, show own.length + (j - own.length) = j by omega]
            exact e1
          exact absurd k' (S.apart y (List.mem_of_getElem? e1'))
        · obtain ⟨vc, oc, hoc, hdc⟩ := I.cell y c (clOf_lookup hcl)
          have ec : oc = o := by
            have := old c oc hoc
            rw [this] at ho
            exact Option.some.inj ho
          subst ec
          obtain ⟨sl, hsl⟩ := J8.base.any hoc (I.freeC y c (clOf_lookup hcl)) (fun z => (hf c z).2.2.2.2.1 y c (clOf_lookup hcl) rfl)
          exact .inr ⟨k', c, hcl, _, hsl, hd⟩
      cases b with
      | false =>
        obtain ⟨m', hm, w7⟩ := hN0 _ q7
        obtain ⟨st7, fr7⟩ := back I7
        exact ⟨m', hm, i + 1, ys, us, nn, H7, weak I7.unpinned, rv, hyz, st7, fr7, w7⟩
      | true =>
        refine thn (he C s₂ H₂ _ s7 σ6 H7 _ I7 q7) fun yv s8 ⟨y, H8, I8, r8, q8⟩ => ?_
        obtain ⟨m', hm, w8⟩ := hN1 _ _ q8
        obtain ⟨st8, fr8⟩ := back I8
        obtain ⟨e8, n8, ne8, nf8, d8⟩ := I8.pin (D, _) (List.mem_append_right _ (List.mem_append_left _ List.mem_cons_self))
        refine append_at (hsz := by rw [List.size_toArray, ← rv.length]; exact hyz) e8 fun h9 hs9 hD9 => ?_
        have I8' : Inv (compCx X N' scope C fp s₂ H₂) [] σ6 H8 s8 := I8.pins_of fun p hp => nomatch hp
        have I9 : Inv (compCx X N' scope C fp s₂ H₂) [] σ6 H8 { s8 with heap := h9 } := I8'.turned (t' := s8.toks) (it := D) (fun b o hb e => hs9.extBut b o hb e) n8 ne8 (.inr (Nat.le_of_eq hDd)) (fun x c h z => by
          obtain ⟨v, o, ho, _⟩ := I.cell x c (clOf_lookup h)
          exact ne_lt (Heap.lt_size ho) (Nat.le_of_eq hDd) z) fun p hp => nomatch (show p ∈ ([] : List (Addr × Obj)) from hp)
        have eqD : ({ cls := .type "list", data := .seq (us.toArray.push yv) (nn + 1) } : Obj) = { cls := .type "list", data := .seq (us ++ [yv]).toArray (nn + 1) } := by rw [List.push_toArray]
        refine ⟨m', hm, i + 1, ys ++ [y], us ++ [yv], nn + 1, H8, weak (I9.pins_of fun p hp => ?_), rv.append (.cons r8 .nil), by rw [List.length_append]; exact hlt, T.keep _ _ _ st8 fun b hb o e => hs9.extBut b o (Nat.ne_of_lt (hflt b hb)) e, fr8, w8⟩
        have e : p = (D, { cls := .type "list", data := .seq (us ++ [yv]).toArray (nn + 1) }) := by simpa using hp
        subst e
        exact ⟨by rw [← eqD]; exact hD9, n8, ne8, nf8, by intro v z; cases z⟩
  exact codeAny_compStart_list (loop _ rfl) (T.self _ 0 _ _ _ (T.keep _ _ _ st fun b hb o e => old b o e) (loop _ rfl))
end
end L2

set_option Elab.async false
set_option linter.all false
set_option maxRecDepth 100000
set_option maxHeartbeats 4000000
namespace L2
open PySem PySem.Spec PyProof.Rows
section
variable {X : Cx}
/-! ### [elt for tg in iter if ..] -/
theorem comp_close {own N' : List Str} {scope : Scope} (S : CompScope X own N' scope) {pins : List (Addr × Obj)} {s : Shared} {σ : St} {H : Hp} (I : Inv X pins σ H s) :
    closureFor scope X.env = pure (clOf scope.names X.env.cells) := closureFor_cl fun p hp hf => I.ok.has p.1 (S.free p hp hf)
theorem pe_comp {own N' : List Str} {scope : Scope} {elt tg iter : Expr} {ifs : List Expr} {pos : Pos} {wi : TI} {g : TG} {tt : TT} {te : TE} (hc : X.calm = true) (S : CompScope X own N' scope) (hi : PI X tg iter wi)
    (hg : ∀ C fp s H, PG (compCx X N' scope C fp s H) tg g) (ht : ∀ C fp s H, PTs (compCx X N' scope C fp s H) ifs tt) (he : ∀ C fp s H, PE (compCx X N' scope C fp s H) elt te)
    (hs : ∀ x, foldedSetIterable iter X.env x = pure x := by intro _; rfl) : PE X (.ListComp elt [⟨tg, iter, ifs, 0⟩] scope pos) (tComp own.length wi g tt te) := by
  intro pins s σ H Q I h
  rw [eval_ListComp]
  refine wpAny_comprehension_free (use := none) rfl hs (comp_close S I) S.kind S.names (thn (hi pins s σ H _ I h) fun v s1 h1 => thn h1 fun itv s2 h2 => ?_)
  obtain ⟨it, fp, tn, J, H2, e, I2, T, st2, f2, W, ⟨m0, w0⟩, turn⟩ := h2
  subst e
  refine comp_block (RR := fun acc C => compPost (model X.prog X.w) X.A X.xe none (EP X pins σ Q) acc C) hc S (fun C s H => hg C fp s H) (fun C s H => ht C fp s H) (fun C s H => he C fp s H) I2 T st2 f2 W m0 w0 turn ?_
  intro D C s' H' m' I' q' hn hC h1 h2' h3 h4
  refine ⟨m', hn, fun h' hsb => ?_⟩
  exact ⟨.ref D, H', I'.turned (t' := s'.toks) (it := C) (fun b o hb e => hsb.extBut b o hb e) hC h1 (.inr h2') h3 h4, rfl, q'⟩
/-- name = [..]: the store ahead of the letting go -/
theorem ps_setcomp {own N' : List Str} {scope : Scope} {elt tg iter : Expr} {ifs : List Expr} {pos spos py : Pos} {wi : TI} {g : TG} {tt : TT} {te : TE} {i : Nat} {y : Str} (hN : X.N.Nodup) (hy : X.N[i]? = some y) (hx : Loc X.env.scope y) (hc : X.calm = true) (S : CompScope X own N' scope) (hi : PI X tg iter wi)
    (hg : ∀ C fp s H, PG (compCx X N' scope C fp s H) tg g) (ht : ∀ C fp s H, PTs (compCx X N' scope C fp s H) ifs tt) (he : ∀ C fp s H, PE (compCx X N' scope C fp s H) elt te)
    (hsw : swapsWith (.ListComp elt [⟨tg, iter, ifs, 0⟩] scope pos) (some (.Name y py)) spos.line X.env = pure true)
    (hs : ∀ x, foldedSetIterable iter X.env x = pure x := by intro _; rfl) (hf : X.fn y = true ∨ X.env.scope.names.lookup y = some .local := by first | exact .inl rfl | exact .inr rfl | assumption) :
    PS X (.Assign [.Name y py] (.ListComp elt [⟨tg, iter, ifs, 0⟩] scope pos) spos) (tAsg (tComp own.length wi g tt te) (gName i)) := by
  intro pins s σ H D I h
  rw [exec_Assign_Name_used _ _ _ _ hsw]
  refine wpAny_bind (wpAny_standAt (wpAny_bind ?_))
  show wpAny _ X.A (do let _ ← comprehension (.ListComp elt [⟨tg, iter, ifs, 0⟩] scope pos) scope X.env _ (newList []) false (eval iter X.env) (some (assign (.Name y py) X.env))) _ _ s
  refine wpAny_bind (wpAny_mono (wpAny_comprehension_free (use := some (assign (.Name y py) X.env)) (Q := fun _ s' => SP X pins D .next s') rfl hs (comp_close S I) S.kind S.names
    (thn (hi pins s σ H _ I h) fun v s1 h1 => thn h1 fun itv s2 h2 => ?_)) (fun _ s' hq => wpAny_pure (wpAny_pure hq)) fun _ _ e => e)
  obtain ⟨it, fp, tn, J, H2, e, I2, T, st2, f2, W, ⟨m0, w0⟩, turn⟩ := h2
  subst e
  refine comp_block (Q := fun x H1 => gName i x σ H1 D.nx) (RR := fun acc C => compPost (model X.prog X.w) X.A X.xe (some (assign (.Name y py) X.env)) (fun _ s' => SP X pins D .next s') acc C) hc S (fun C s H => hg C fp s H) (fun C s H => ht C fp s H) (fun C s H => he C fp s H) I2 T st2 f2 W m0 w0 turn ?_
  intro D' C s' H' m' I' q' hn hC h1 h2' h3 h4
  show wpAny _ X.A (assign (.Name y py) X.env (.ref D')) _ _ _
  refine wpAny_assign_Name (store_ok2 (v := .ref D') I' hN hy hx rfl (fun s'' I'' hch => ?_) hf)
  obtain ⟨a, hsa, ha⟩ := hch
  have hCa : C ≠ a := by
    rcases ha with z | z
    · rw [z]; exact h1
    · exact Ne.symm (h3 _ _ z)
  refine ⟨m', hn.sameBut hsa hCa, fun h' hsb => ?_⟩
  exact ⟨_, H', I''.turned (t' := s''.toks) (it := C) (fun b o hb e => hsb.extBut b o hb e) hC h1 (.inr h2') h3 h4, q'⟩

/-! ### the forms one uses: f of the item, the items kept -/
/-- over a list that stays: the items come out as f tells -/
theorem comp_list {K : PySem.W.Frag} {a : Addr} {xs : List V} {g : TG} {tt : TT} {te : TE} {k : Nat} {σ : St} {H : Hp} {Q : VK} (Pv : Nat → List V → Hp → Prop) (h0 : Pv 0 [] H) (hl : ∀ i ys H, i ≤ xs.length → Pv i ys H → SqL K H a xs) (hz : xs.length ≤ sizeLine)
    (hs : ∀ i x ys H, xs[i]? = some x → ys.length ≤ i → Pv i ys H → g x (List.replicate k none ++ σ) H fun σ2 H2 => tt σ2 H2 fun b H3 => if b = true then te σ2 H3 (fun y H4 => Pv (i + 1) (ys ++ [y]) H4) else Pv (i + 1) ys H3)
    (hd : ∀ ys H, ys.length ≤ xs.length → Pv xs.length ys H → ∀ p, H p = none → Q (.ref p) (upd H p (.lst ys))) :
    Cmp (Itl K a) k g tt te σ Q H := by
  refine ⟨fun i m ys H => m = xs.length - i ∧ i ≤ xs.length ∧ ys.length ≤ i ∧ Pv i ys H, ⟨xs.length, by simp, Nat.zero_le _, Nat.le_refl _, h0⟩, ?_⟩
  rintro i m ys H ⟨rfl, hi, hy, p⟩
  have q := hl i ys H hi p
  by_cases hlt : i < xs.length
  · refine .inr ⟨⟨xs, xs[i], q, by simp [hlt]⟩, by omega, fun y H' => Pv (i + 1) (ys ++ [y]) H', fun H' => Pv (i + 1) ys H', fun y H' r => ⟨_, by omega, rfl, hlt, by rw [List.length_append]; exact Nat.succ_le_succ hy, r⟩, fun H' r => ⟨_, by omega, rfl, hlt, by omega, r⟩, fun x H' y => ?_⟩
    obtain ⟨e, y⟩ := y
    subst e
    exact hs i x ys _ (y xs q) hy p
  · have e : i = xs.length := by omega
    subst e
    exact .inl ⟨⟨xs, q, Nat.le_refl _⟩, hd ys H hy p⟩
theorem comp_tup {K : PySem.W.Frag} {a : Addr} {xs : List V} {g : TG} {tt : TT} {te : TE} {k : Nat} {σ : St} {H : Hp} {Q : VK} (Pv : Nat → List V → Hp → Prop) (h0 : Pv 0 [] H) (hl : ∀ i ys H, i ≤ xs.length → Pv i ys H → SqT K H a xs) (hz : xs.length ≤ sizeLine)
    (hs : ∀ i x ys H, xs[i]? = some x → ys.length ≤ i → Pv i ys H → g x (List.replicate k none ++ σ) H fun σ2 H2 => tt σ2 H2 fun b H3 => if b = true then te σ2 H3 (fun y H4 => Pv (i + 1) (ys ++ [y]) H4) else Pv (i + 1) ys H3)
    (hd : ∀ ys H, ys.length ≤ xs.length → Pv xs.length ys H → ∀ p, H p = none → Q (.ref p) (upd H p (.lst ys))) :
    Cmp (Itt K a) k g tt te σ Q H := by
  refine ⟨fun i m ys H => m = xs.length - i ∧ i ≤ xs.length ∧ ys.length ≤ i ∧ Pv i ys H, ⟨xs.length, by simp, Nat.zero_le _, Nat.le_refl _, h0⟩, ?_⟩
  rintro i m ys H ⟨rfl, hi, hy, p⟩
  have q := hl i ys H hi p
  by_cases hlt : i < xs.length
  · refine .inr ⟨⟨xs, xs[i], q, by simp [hlt]⟩, by omega, fun y H' => Pv (i + 1) (ys ++ [y]) H', fun H' => Pv (i + 1) ys H', fun y H' r => ⟨_, by omega, rfl, hlt, by rw [List.length_append]; exact Nat.succ_le_succ hy, r⟩, fun H' r => ⟨_, by omega, rfl, hlt, by omega, r⟩, fun x H' y => ?_⟩
    obtain ⟨e, y⟩ := y
    subst e
    exact hs i x ys _ (y xs q) hy p
  · have e : i = xs.length := by omega
    subst e
    exact .inl ⟨⟨xs, q, Nat.le_refl _⟩, hd ys H hy p⟩
theorem comp_range {lo : Int} {n : Nat} {g : TG} {tt : TT} {te : TE} {k : Nat} {σ : St} {H : Hp} {Q : VK} (Pv : Nat → List V → Hp → Prop) (h0 : Pv 0 [] H) (hz : n ≤ sizeLine)
    (hs : ∀ i ys H, i < n → ys.length ≤ i → Pv i ys H → g (.int (lo + i)) (List.replicate k none ++ σ) H fun σ2 H2 => tt σ2 H2 fun b H3 => if b = true then te σ2 H3 (fun y H4 => Pv (i + 1) (ys ++ [y]) H4) else Pv (i + 1) ys H3)
    (hd : ∀ ys H, ys.length ≤ n → Pv n ys H → ∀ p, H p = none → Q (.ref p) (upd H p (.lst ys))) :
    Cmp (Itr lo n) k g tt te σ Q H := by
  refine ⟨fun i m ys H => m = n - i ∧ i ≤ n ∧ ys.length ≤ i ∧ Pv i ys H, ⟨n, by simp, Nat.zero_le _, Nat.le_refl _, h0⟩, ?_⟩
  rintro i m ys H ⟨rfl, hi, hy, p⟩
  by_cases hlt : i < n
  · refine .inr ⟨hlt, by omega, fun y H' => Pv (i + 1) (ys ++ [y]) H', fun H' => Pv (i + 1) ys H', fun y H' r => ⟨_, by omega, rfl, hlt, by rw [List.length_append]; exact Nat.succ_le_succ hy, r⟩, fun H' r => ⟨_, by omega, rfl, hlt, by omega, r⟩, fun x H' y => ?_⟩
    obtain ⟨e, y⟩ := y
    subst e y
    exact hs i ys _ hlt hy p
  · have e : i = n := by omega
    subst e
    exact .inl ⟨Nat.le_refl _, hd ys H hy p⟩

/-! ### the signs of a text -/
def Its (z : Str) : It := ⟨fun i _ => i < z.cps.size, fun i H x H' => H' = H ∧ ∃ c, z.cps[i]? = some c ∧ x = .str ⟨#[c]⟩, fun i _ => z.cps.size ≤ i⟩
theorem turn_str {P : Program} {w : World} {K : PySem.W.Frag} {tg : Expr} (it : Addr) (z : Str) (t : Tok) (ty : String) (hty : ty = "str_ascii_iterator" ∨ ty = "str_iterator") : Turn P w K tg (Its z) [it] it (fun i h => h.IsStrIter it ty z t i) where
  mem := by simp
  obj := fun i h st b hb => by
    have e : b = it := by simpa using hb
    subst e
    obtain ⟨o, e, c, d⟩ := st
    exact ⟨o, e, fun v z => by rw [d] at z; cases z⟩
  keep := fun i h h' st k => by
    obtain ⟨o, e, c, d⟩ := st
    exact ⟨o, k it (by simp) o e, c, d⟩
  item := by
    intro X hP hw hK hc i pins s σ H E I hf st hg
    subst hP hw hK
    have hg' : i < z.cps.size := hg
    have hx : z.cps[i]? = some z.cps[i] := by simp [hg']
    obtain ⟨f0, f1, f2, f3, f4, f5⟩ := hf it (by simp)
    have fin : ∀ h', h'.IsStrIter it ty z t (i + 1) → Heap.SameBut it s.heap h' → ∃ u, some (Value.str ⟨#[z.cps[i]]⟩ s.toks) = some u ∧
        wpAny (model X.prog X.w) X.A (letOwnedTupleGo tg (.ref it) u) (fun _ s2 => ∃ x H', Inv X pins σ H' s2 ∧ RelV x u ∧ (Its z).yld i H x H' ∧ s2.heap.IsStrIter it ty z t (i + 1) ∧ ∀ b ∈ [it], H' b = none) E { s with heap := h', toks := s.toks + 1 } := fun h' st' sb => by
      have I1 : Inv X pins σ H { s with heap := h', toks := s.toks + 1 } := I.turned (fun b o hb e => (sb.2 b hb).trans e) f0 f1 f3 f4 f5
      obtain ⟨o, e, c, d⟩ := id st'
      refine ⟨_, rfl, go_of (s := { s with heap := h', toks := s.toks + 1 }) e c d ?_ ⟨.str ⟨#[z.cps[i]]⟩, H, I1, ⟨_, rfl⟩, ⟨rfl, _, hx, rfl⟩, st', fun b hb => (hf b hb).1⟩⟩
      rcases hty with q | q <;> rw [q] <;> decide
    rcases hty with q | q
    · subst q
      exact wpAny_pyNext_ascii_item st hx fin
    · subst q
      exact wpAny_pyNext_wide_item st hx fin
  done := by
    intro X hP hw hK hc i pins s σ H E I hf st hg
    subst hP hw hK
    have hg' : z.cps.size ≤ i := hg
    have hx : z.cps[i]? = none := by simp [hg']
    obtain ⟨f0, f1, f2, f3, f4, f5⟩ := hf it (by simp)
    rcases hty with q | q
    · subst q
      exact wpAny_pyNext_ascii_end (I.ok.hd hc) st hx fun h' eb => ⟨rfl, I.turned (t' := s.toks) (fun b o hb e => eb b o hb e) f0 f1 f3 f4 f5⟩
    · subst q
      exact wpAny_pyNext_wide_end (I.ok.hd hc) st hx fun h' eb => ⟨rfl, I.turned (t' := s.toks) (fun b o hb e => eb b o hb e) f0 f1 f3 f4 f5⟩
  self := fun A i s Q E st h => by
    rcases hty with q | q
    · subst q; exact wpAny_pyIter_striter_ascii st h
    · subst q; exact wpAny_pyIter_striter_wide st h
def iStr (tl : TE) : TI := fun σ H R => tl σ H fun x H1 => ∃ z, x = .str z ∧ R (Its z) H1
theorem pi_str {tg : Expr} {l : Expr} {tl : TE} (hl : PE X l tl) : PI X tg l (iStr tl) := by
  intro pins s σ H R I h
  refine thn (hl pins s σ H _ I h) fun v s1 ⟨x, H1, I1, r1, q1⟩ => ?_
  obtain ⟨z, e, q⟩ := q1
  subst e
  obtain ⟨t, rfl⟩ := r1
  have fin : ∀ ty, (ty = "str_ascii_iterator" ∨ ty = "str_iterator") → PIE X pins σ tg R (.ref s1.heap.objs.size) { s1 with heap := s1.heap.push { cls := .type ty, data := .fields #[.str z t, .int 0 0] } } := fun ty hty =>
    ⟨s1.heap.objs.size, [s1.heap.objs.size], _, _, H1, rfl, I1.kept (t' := s1.toks) fun b o e => Heap.get?_push_of_some _ e, turn_str _ z t ty hty, ⟨_, Heap.get?_push_size _ rfl, rfl, rfl⟩, fun b hb => by
      have e : b = s1.heap.objs.size := by simpa using hb
      subst e
      exact I1.fpOk (Nat.le_refl _) (I1.hok.fresh (Nat.le_refl _)), q⟩
  cases ha : z.cps.all (· < 128)
  · exact wpAny_pyIter_wide ha (fin _ (.inr rfl))
  · exact wpAny_pyIter_ascii ha (fin _ (.inl rfl))
/-- for c in text -/
theorem for_str {z : Str} {g : TG} {tb : TS} {D : Ends} {σ : St} {H : Hp} (Pv : Nat → St → Hp → Prop) (h0 : Pv 0 σ H)
    (hs : ∀ i c σ H, z.cps[i]? = some c → Pv i σ H → g (.str ⟨#[c]⟩) σ H fun σ2 H2 => tb { D with nx := Pv (i + 1), ct := Pv (i + 1), bk := D.nx } σ2 H2) (hd : ∀ σ H, Pv z.cps.size σ H → D.nx σ H) :
    ∃ W : Nat → Nat → St → Hp → Prop, (∃ m, W 0 m σ H) ∧ ∀ i m σ H, W i m σ H →
      ((Its z).stop i H ∧ D.nx σ H) ∨ ((Its z).go i H ∧ ∃ N : St → Hp → Prop, (∀ σ' H', N σ' H' → ∃ m', m' < m ∧ W (i + 1) m' σ' H') ∧ ∀ x H', (Its z).yld i H x H' → g x σ H' fun σ2 H2 => tb { D with nx := N, ct := N, bk := D.nx } σ2 H2) := by
  refine ⟨fun i m σ H => m = z.cps.size - i ∧ i ≤ z.cps.size ∧ Pv i σ H, ⟨z.cps.size, by simp, Nat.zero_le _, h0⟩, ?_⟩
  rintro i m σ H ⟨rfl, hi, p⟩
  by_cases hlt : i < z.cps.size
  · refine .inr ⟨hlt, Pv (i + 1), fun σ' H' p' => ⟨z.cps.size - (i + 1), by omega, rfl, hlt, p'⟩, fun x H' y => ?_⟩
    obtain ⟨e, c, hc, y⟩ := y
    subst e y
    exact hs i c σ _ hc p
  · have e : i = z.cps.size := by omega
    subst e
    exact .inl ⟨Nat.le_refl _, hd σ H p⟩
theorem comp_str {z : Str} {g : TG} {tt : TT} {te : TE} {k : Nat} {σ : St} {H : Hp} {Q : VK} (Pv : Nat → List V → Hp → Prop) (h0 : Pv 0 [] H) (hz : z.cps.size ≤ sizeLine)
    (hs : ∀ i c ys H, z.cps[i]? = some c → ys.length ≤ i → Pv i ys H → g (.str ⟨#[c]⟩) (List.replicate k none ++ σ) H fun σ2 H2 => tt σ2 H2 fun b H3 => if b = true then te σ2 H3 (fun y H4 => Pv (i + 1) (ys ++ [y]) H4) else Pv (i + 1) ys H3)
    (hd : ∀ ys H, ys.length ≤ z.cps.size → Pv z.cps.size ys H → ∀ p, H p = none → Q (.ref p) (upd H p (.lst ys))) :
    Cmp (Its z) k g tt te σ Q H := by
  refine ⟨fun i m ys H => m = z.cps.size - i ∧ i ≤ z.cps.size ∧ ys.length ≤ i ∧ Pv i ys H, ⟨z.cps.size, by simp, Nat.zero_le _, Nat.le_refl _, h0⟩, ?_⟩
  rintro i m ys H ⟨rfl, hi, hy, p⟩
  by_cases hlt : i < z.cps.size
  · refine .inr ⟨hlt, by omega, fun y H' => Pv (i + 1) (ys ++ [y]) H', fun H' => Pv (i + 1) ys H', fun y H' r => ⟨_, by omega, rfl, hlt, by rw [List.length_append]; exact Nat.succ_le_succ hy, r⟩, fun H' r => ⟨_, by omega, rfl, hlt, by omega, r⟩, fun x H' y => ?_⟩
    obtain ⟨e, c, hc, y⟩ := y
    subst e y
    exact hs i c ys _ hc hy p
  · have e : i = z.cps.size := by omega
    subst e
    exact .inl ⟨Nat.le_refl _, hd ys H hy p⟩

/-! ### lists read, added -/
def rCatS (K : PySem.W.Frag) : R2 := fun x y H Q => ∃ l b xs zs, x = .ref l ∧ y = .ref b ∧ SqL K H l xs ∧ SqL K H b zs ∧ xs.length + zs.length ≤ sizeLine ∧ ∀ p, H p = none → Q (.ref p) (upd H p (.lst (xs ++ zs)))
theorem op_catS : OpR X (binaryOp .Add) (rCatS X.K) := by
  intro pins s σ H x y v u Q I rx ry h
  obtain ⟨l, b, xs, zs, rfl, rfl, hH, hB, hz, q⟩ := h
  cases rx
  cases ry
  obtain ⟨its, r, pl, z⟩ := I.list hH
  obtain ⟨its2, r2, pl2, z2⟩ := I.list hB
  have hl := r.length
  have hl2 := r2.length
  obtain ⟨⟨cls, dd, data, sl⟩, n, ho, hc, _, hd⟩ := pl
  obtain ⟨⟨cls2, dd2, data2, sl2⟩, n2, ho2, hc2, _, hd2⟩ := pl2
  simp only at hc hd hc2 hd2
  subst hc hd hc2 hd2
  have e : its.toArray ++ its2.toArray = (its ++ its2).toArray := by simp
  refine concat_meets ⟨_, ho, rfl⟩ ⟨_, ho2, rfl⟩ noFill_list_add seq_list_add PySem.F.slot_list_add PySem.F.entry_list_add (PySem.F.args_list_add_2 _ _) (list_addW l b its.toArray its2.toArray n n2 dd dd2 sl sl2 (by rw [List.size_toArray, List.size_toArray]; omega)) ⟨ho, ho2, ?_⟩
  rw [e]
  exact ⟨.ref _, _, I.lnew (t' := s.toks) (r.append r2) (by rw [List.length_append]; omega), rfl, q _ I.fresh⟩
/-! ### text slices -/
def rSlS : V → Option Int → Option Int → Hp → VK → Prop := fun x lo hi H Q => ∃ z, x = .str z ∧ z.length ≤ sizeLine ∧ Q (.str (Txt.slice z lo hi)) H
theorem sl_str : SlR X rSlS := by
  intro pins s σ H x v vl vu lo hi sl Q I rx hs pl pu h
  obtain ⟨z, rfl, hz, q⟩ := h
  obtain ⟨t, rfl⟩ := rx
  refine ⟨"str", _, PySem.F.slot_str_getitem.lookup, typeIs_str _ _ _, ?_⟩
  have fin : ∀ (l u : Option (Int × Tok)), l.map (·.1) = lo → u.map (·.1) = hi → s.heap.IsSlice sl l u none → wpAny (model X.prog X.w) X.A (getItem (.str z t) (.ref sl)) (EP X pins σ Q) X.xe s := fun l u el eu hs' => by
    subst el eu
    exact wpAny_getItem_str_slice (l := l) (u := u) (st := none) hs' rfl (post_val_or_str ⟨Nat.le_trans (Txt.slice_le z _ _) hz, fun t' k => ⟨.str _, H, I.tok _, ⟨_, rfl⟩, q⟩⟩)
  cases pl with
  | none =>
    cases pu with
    | none => exact fin none none rfl rfl hs
    | int j tj => exact fin none (some (j, tj)) rfl rfl hs
  | int i ti =>
    cases pu with
    | none => exact fin (some (i, ti)) none rfl rfl hs
    | int j tj => exact fin (some (i, ti)) (some (j, tj)) rfl rfl hs
/-! ### sep.join(list of texts) -/
theorem strsAre_of : ∀ {ys : List Str} {us : List Value}, Vals (ys.map V.str) us → StrsAre us ys
  | [], _, .nil => .nil
  | y :: ys, _, .cons ⟨t, e⟩ r => by
    subst e
    exact .cons y t (strsAre_of r)
def rJoin (K : PySem.W.Frag) : V → List V → Hp → VK → Prop := fun x xs H Q => ∃ z p ys, x = .str z ∧ xs = [.ref p] ∧ SqL K H p (ys.map V.str) ∧ (ys.map (·.length)).sum + ys.length * z.length ≤ 16777216 ∧ Q (.str (Txt.join z ys)) H
theorem mt_join : MtR X "str.join" (rJoin X.K) := by
  intro pins s σ H x xs v us Q I rx rv h
  obtain ⟨z, p, ys, rfl, rfl, hq, hz, q⟩ := h
  obtain ⟨t, rfl⟩ := rx
  obtain ⟨u, rfl, ru⟩ := rv.one
  cases ru
  obtain ⟨its, r, pl, hl⟩ := I.list hq
  exact join_list pl.isList (by simpa using strsAre_of r) hz fun t' k => ⟨.str _, H, I.tok _, ⟨_, rfl⟩, q⟩
/-! ### all(list of bools) -/
theorem call_all : CallR X (.builtin "all") (fun xs H Q => X.calm = true ∧ ∃ (p : Addr) (bs : List Bool), xs = [.ref p] ∧ SqL X.K H p (bs.map V.bl) ∧ Q (.bl (bs.all id)) H) := by
  intro pins s σ H xs us Q I r h
  obtain ⟨hc, p, bs, rfl, hq, q⟩ := h
  obtain ⟨u, rfl, rx⟩ := vals1 r
  cases rx
  obtain ⟨its, r', pl, hz⟩ := I.list hq
  have hl := pl.isList
  have hlt : p < s.heap.objs.size := by obtain ⟨_, e, _⟩ := hl; exact Heap.lt_size e
  have hlen := r'.length
  rw [List.length_map] at hlen
  refine call_all_walk (wpAny_pyIter_list hl ?_)
  refine ⟨s.heap.objs.size, _, _, _, _, _, fun i => bs.getD i true, rfl, Walks.list (A := X.A.in1) (I.ok.hd hc) s.heap.objs.size p (Nat.ne_of_lt hlt) its.toArray, ⟨⟨_, Heap.get?_push_size _ rfl, rfl, rfl⟩, hl.push _⟩, ?_, fun h' tk hk => ?_⟩
  · intro i v s' Q' E' hP hQ'
    have hP' : its[i]? = some v := by simpa using hP
    have hi : i < bs.length := by rw [hlen]; exact (List.getElem?_eq_some_iff.mp hP').1
    obtain ⟨u', hu, ru⟩ := r'.get (i := i) (x := V.bl bs[i]) (by simp [hi])
    rw [hP'] at hu
    cases hu
    cases (show v = Value.bool bs[i] from ru)
    have e : bs.getD i true = bs[i] := by simp [List.getD, hi]
    exact wpAny_truthy_bool (by rw [← e]; exact hQ')
  · have e : (List.range its.toArray.size).all (fun i => bs.getD i true) = bs.all id := by
      rw [List.size_toArray, ← hlen, Bool.eq_iff_iff, List.all_eq_true, List.all_eq_true]
      constructor
      · intro a b hb
        obtain ⟨i, hi, e⟩ := List.mem_iff_getElem.mp hb
        have := a i (by simpa using hi)
        simpa [List.getD, hi, e] using this
      · intro a i hi
        have hi' : i < bs.length := by simpa using hi
        have := a bs[i] (List.getElem_mem hi')
        simpa [List.getD, hi'] using this
    rw [e]
    exact ⟨.bl _, H, (I.kept (t' := s.toks) (h' := s.heap.push { cls := .type "list_iterator", data := .fields #[.ref p, .int 0 0] }) fun b o e => Heap.get?_push_of_some _ e).turned (t' := tk) (it := s.heap.objs.size) (fun b o hb e => hk b o (by simpa using hb) e) I.fresh
      (Ne.symm (Nat.ne_of_lt I.lt)) (.inr I.sz) (fun x c h z => by
        obtain ⟨v, o, ho, _⟩ := I.cell x c h
        exact ne_lt (Heap.lt_size ho) (Nat.le_refl _) z) fun p hp z => ne_lt (Heap.lt_size (I.pin p hp).1) (Nat.le_refl _) z, rfl, q⟩
/-! ### texts compared -/
theorem op_le_str : OpR X (compareOp .LtE) (fun x y H Q => ∃ i j, x = .str i ∧ y = .str j ∧ Q (.bl (!decide (j.cps.toList < i.cps.toList))) H) := by
  intro pins s σ H x y v u Q I rx ry h
  obtain ⟨i, j, rfl, rfl, q⟩ := h
  obtain ⟨t, rfl⟩ := rx
  obtain ⟨t', rfl⟩ := ry
  exact PySem.P.le_str ⟨.bl _, H, I, rfl, q⟩
/-! ### isinstance(x, T) -/
theorem call_isinst : CallR X (.builtin "isinstance") (fun xs H Q => ∃ x t c b, xs = [x, .ty c] ∧ TyOf X.K H x t ∧ PySem.W.kitOne X.K t (.type c) = some b ∧ Q (.bl b) H) := by
  intro pins s σ H xs us Q I r h
  obtain ⟨x, t, c, b, rfl, ty, hk, q⟩ := h
  obtain ⟨u, w', rfl, ru, rw'⟩ := vals2 r
  cases rw'
  exact isinst_ok I ru ty hk fun tk => ⟨.bl b, H, I.tok _, rfl, q⟩
end
end L2

set_option Elab.async false
set_option linter.all false
set_option maxRecDepth 100000
set_option maxHeartbeats 4000000
namespace L2
open PySem PySem.Spec PyProof.Rows
theorem bt_len : bootBuiltins "len" = some (.builtin "len") := by decide +kernel
theorem bt_all : bootBuiltins "all" = some (.builtin "all") := by decide +kernel
theorem bt_any : bootBuiltins "any" = some (.builtin "any") := by decide +kernel
theorem bt_sum : bootBuiltins "sum" = some (.builtin "sum") := by decide +kernel
theorem bt_max : bootBuiltins "max" = some (.builtin "max") := by decide +kernel
theorem bt_min : bootBuiltins "min" = some (.builtin "min") := by decide +kernel
theorem bt_isinstance : bootBuiltins "isinstance" = some (.builtin "isinstance") := by decide +kernel
theorem bt_sorted : bootBuiltins "sorted" = some (.builtin "sorted") := by decide +kernel
theorem bt_int : bootBuiltins "int" = some (.type "int") := by decide +kernel
theorem bt_str : bootBuiltins "str" = some (.type "str") := by decide +kernel
theorem bt_bool : bootBuiltins "bool" = some (.type "bool") := by decide +kernel
theorem bt_list : bootBuiltins "list" = some (.type "list") := by decide +kernel
theorem bt_tuple : bootBuiltins "tuple" = some (.type "tuple") := by decide +kernel
theorem bt_set : bootBuiltins "set" = some (.type "set") := by decide +kernel
theorem bt_range : bootBuiltins "range" = some (.type "range") := by decide +kernel
theorem bt_enumerate : bootBuiltins "enumerate" = some (.type "enumerate") := by decide +kernel
theorem bt_dict : bootBuiltins "dict" = some (.type "dict") := by decide +kernel
/-! ### a def that is called by its name -/
structure Callee (P : Program) (w : World) (K : PySem.W.Frag) (mg : Str → Option Value) (base : Heap) (k : Nat) (x : Str) (ps : List Str) (sp : Sp) : Prop where
  ex : ∃ (f : Addr) (fd : FuncData), FnOk P w K mg base CX0 k f fd ps sp ∧ mg x = some (.ref f) ∧ PySem.W.keepIn K (.ref f) = true ∧ Binds K fd ps []
section
variable {X : Cx}
theorem pe_fn {k j : Nat} {x : Str} {ps : List Str} {sp : Sp} {e : Expr} {es : List Expr} {t : TA} {p pos : Pos} (c : Callee X.prog X.w X.K X.mg X.base k x ps sp) (hr : Room j X.A) (hg : Gl X x) (ha : PA X (e :: es) t) (hk : k ≤ j := by decide)
    (hd : (x == ("__debug__" : Str)) = false := by decide) (hs : starEach (e :: es) X.env = (false, eval e X.env) :: starEach es X.env := by rfl) (hplain : (backTo pos (starEach es X.env)).any (·.1) = false := by rfl) : PE X (.Call (.Name x p) (e :: es) [] pos) (tCall sp [] E0 t) := by
  obtain ⟨f, fd, F, hm, hkp, hb⟩ := c.ex
  exact pe_call (hdb := hd) (he := hs) (hpl := hplain) F (hr.mono hk) hg hm hkp hb .nil pass0 ha
/-! ### a block's table, checked -/
def csB (N : List Str) (env : Env) (own N' : List Str) (scope : Scope) : Bool :=
  scope.kind == .function && scope.names.all (fun y => y.2 != .cell) && scope.names.all (fun y => y.2 != .local || scope.names.lookup y.1 == some .local) &&
  scope.names.all (fun y => y.2 != .free || env.kindOf y.1 == some .cell || env.kindOf y.1 == some .free) && N'.length == own.length + N.length &&
  ((N'.drop own.length).zip N).all (fun p => p.1 == p.2 || !(scope.names.contains (p.1, NameKind.free))) && (N'.drop own.length).all (fun x => (relabel scope env).names.lookup x != some .local)
theorem cs {own N' : List Str} {scope : Scope} (h : csB X.N X.env own N' scope = true) : CompScope X own N' scope := by
  unfold csB at h
  simp only [Bool.and_eq_true] at h
  obtain ⟨⟨⟨⟨⟨⟨h1, h2⟩, h3⟩, h4⟩, h5⟩, h6⟩, h7⟩ := h
  have hlen : N'.length = own.length + X.N.length := by simpa using h5
  refine ⟨by simpa using h1, fun y hy => ?_, fun y hy hl => ?_, fun y hy hf => ?_, hlen, fun i x hx hf => ?_, fun x hx => ?_⟩
  · have := List.all_eq_true.mp h2 y hy
    simpa using this
  · have := List.all_eq_true.mp h3 y hy
    simpa [hl] using this
  · have := List.all_eq_true.mp h4 y hy
    simpa [hf] using this
  · have hi : i < (N'.drop own.length).length := (List.getElem?_eq_some_iff.mp hx).1
    have hi' : i < X.N.length := by rw [List.length_drop] at hi; omega
    have hz : ((N'.drop own.length).zip X.N)[i]? = some (x, X.N[i]) := by
      rw [List.getElem?_zip_eq_some]
      exact ⟨hx, by simp [hi']⟩
    have := List.all_eq_true.mp h6 _ (List.mem_of_getElem? hz)
    have hc : scope.names.contains (x, NameKind.free) = true := by simpa using hf
    rw [hc] at this
    have e : x = X.N[i] := by simpa using this
    rw [e]
    simp [hi']
  · have := List.all_eq_true.mp h7 x hx
    simpa using this
end
/-! ### what has been made is kept -/
theorem Same.upd {H H' : Hp} {p : Addr} {o : HO} (e : Same H H') (h : H' p = none) : Same H (upd H' p o) := fun b u q => by
  have q' := e b u q
  rw [upd_ne (ne_of_none q' h)]
  exact q'
theorem Same.tup {K : PySem.W.Frag} {H H' : Hp} {a : Addr} {xs : List V} (e : Same H H') (h : SqT K H a xs) : SqT K H' a xs := by
  rcases h with (h | ⟨o, h⟩) | h
  · exact .inl (.inl (e _ _ h))
  · exact .inl (.inr ⟨o, e _ _ h⟩)
  · exact .inr h
theorem at_ints {ns : List Int} {i : Int} (h0 : 0 ≤ i) (h1 : i < ns.length) : ∃ n, n ∈ ns ∧ atI (ns.map V.int) i = some (.int n) := by
  obtain ⟨j, rfl⟩ : ∃ j : Nat, i = j := ⟨i.toNat, by omega⟩
  have hj : j < ns.length := by omega
  exact ⟨ns[j], List.getElem_mem hj, atI_nat (by simp [hj])⟩
theorem at_cps {z : Str} {i : Int} (h0 : 0 ≤ i) (h1 : i < z.length) : ∃ c, atI z.cps.toList i = some c := by
  obtain ⟨j, rfl⟩ : ∃ j : Nat, i = j := ⟨i.toNat, by omega⟩
  have hj : j < z.cps.toList.length := by
    have : z.length = z.cps.toList.length := by simp [Str.length]
    omega
  exact ⟨z.cps.toList[j], atI_nat (by simp only [List.getElem?_eq_getElem hj])⟩
theorem ixS_any {z : Str} {i : Int} {H : Hp} {Q : VK} (h0 : 0 ≤ i) (h1 : i < z.length) (hz : z.length ≤ sizeLine) (k : ∀ c, Q (.str ⟨#[c]⟩) H) : rIxS (.str z) (.int i) H Q := by
  obtain ⟨c, hc⟩ := at_cps h0 h1
  exact ⟨z, i, c, rfl, rfl, hz, hc, k c⟩
theorem join_le {sep : Str} {l : List Str} : (Txt.join sep l).length ≤ (l.map (·.length)).sum + l.length * sep.length := by
  have e : Txt.join sep l = Str.join sep l := by simpa using join_plain_closes sep l
  rw [e]
  exact PySem.StrLaws.join_length_le sep l
theorem sum_ones : ∀ {l : List Str}, (∀ y ∈ l, y.length = 1) → (l.map (·.length)).sum = l.length
  | [], _ => rfl
  | y :: l, h => by
    rw [List.map_cons, List.sum_cons, h y List.mem_cons_self, sum_ones fun z hz => h z (List.mem_cons_of_mem _ hz), List.length_cons]
    omega
theorem len_app (a b : Str) : (a ++ b).length = a.length + b.length := Str.length_append a b
theorem cmulL {i j : Int} (h1 : -(2 ^ 64) < i) (h2 : i < 2 ^ 64) : CMul i j := .inl ⟨h1, h2⟩
theorem cmulR {i j : Int} (h1 : -(2 ^ 64) < j) (h2 : j < 2 ^ 64) : CMul i j := .inr ⟨h1, h2⟩
/-- law's: a list of at most 63 ints is handed in, True comes out -/
def spLaw (K : PySem.W.Frag) : Sp := fun vs H Q _ => ∃ (a : Addr) (ns : List Int), vs = [.ref a] ∧ SqL K H a (ns.map V.int) ∧ ns.length ≤ 63 ∧ ∀ H', Q (.bl true) H'
end L2

set_option Elab.async false
set_option linter.all false
set_option maxRecDepth 100000
set_option maxHeartbeats 4000000
namespace L2
open PySem PySem.Spec PyProof.Rows
section
variable {X : Cx}
/-! ### isinstance(x, (T, U)) -/
theorem TyOf.kit {pins : List (Addr × Obj)} {σ : L2.St} {H : Hp} {s : Shared} {x : V} {u t : Value} (I : Inv X pins σ H s) (rx : RelV x u) (ty : TyOf X.K H x t) :
    ∃ Hh : Heap → Prop, PySem.W.KitX X.K u t Hh ∧ Hh s.heap ∧ u ≠ .builtin "__main__.__loader__#opaque" := by
  cases ty with
  | non => cases (show u = Value.none from rx); exact ⟨_, PySem.W.kitx_none, True.intro, fun z => nomatch z⟩
  | bl y => cases (show u = Value.bool y from rx); exact ⟨_, PySem.W.kitx_bool, True.intro, fun z => nomatch z⟩
  | int i => obtain ⟨t, q⟩ := (show ∃ t, u = Value.int i t from rx); cases q; exact ⟨_, PySem.W.kitx_int, True.intro, fun z => nomatch z⟩
  | str y => obtain ⟨t, q⟩ := (show ∃ t, u = Value.str y t from rx); cases q; exact ⟨_, PySem.W.kitx_str, True.intro, fun z => nomatch z⟩
  | flt y => obtain ⟨t, q⟩ := (show ∃ t, u = Value.float y t from rx); cases q; exact ⟨_, PySem.W.kitx_float, True.intro, fun z => nomatch z⟩
  | @lst a xs ea =>
    cases (show u = Value.ref a from rx)
    obtain ⟨_, _, n, _, h1⟩ := (show ObjOk X.prog X.w H s.heap a (.lst xs) from I.hok a _ ea)
    exact ⟨_, PySem.W.kitx_list, ⟨_, h1, rfl⟩, fun z => nomatch z⟩
  | @frz a ob xs ea =>
    cases (show u = Value.ref a from rx)
    obtain ⟨_, _, _, n, _, h1⟩ := (show ObjOk X.prog X.w H s.heap a (.frz ob (.lst xs)) from I.hok a _ ea)
    exact ⟨_, PySem.W.kitx_list, ⟨_, h1, rfl⟩, fun z => nomatch z⟩
  | @tup a xs ea =>
    cases (show u = Value.ref a from rx)
    obtain ⟨_, _, _, p⟩ := (show ObjOk X.prog X.w H s.heap a (.tup xs) from I.hok a _ ea)
    obtain ⟨o, h1, h2, _⟩ := p
    exact ⟨_, PySem.W.kitx_tuple, ⟨o, h1, h2⟩, fun z => nomatch z⟩
  | @dK a kvs ea =>
    cases (show u = Value.ref a from rx)
    obtain ⟨_, _, vs, _, p⟩ := (show ObjOk X.prog X.w H s.heap a (.dK kvs) from I.hok a _ ea)
    obtain ⟨o, es, ep, h1, h2, _⟩ := p
    exact ⟨_, PySem.W.kitx_dict, ⟨o, h1, h2.1⟩, fun z => nomatch z⟩
  | @dT a kvs ea =>
    cases (show u = Value.ref a from rx)
    obtain ⟨_, _, xs, _, o, es, ep, h1, h2, _⟩ := (show ObjOk X.prog X.w H s.heap a (.dT kvs) from I.hok a _ ea)
    exact ⟨_, PySem.W.kitx_dict, ⟨o, h1, h2.1⟩, fun z => nomatch z⟩
  | @ins a C dx fs ea cl ha hn htk hm =>
    cases (show u = Value.ref a from rx)
    obtain ⟨mA, O, _⟩ := ins_get I.hok ea
    obtain ⟨od, J, _⟩ := O.look
    exact ⟨_, PySem.W.kitx_own (cl.get _) cl.hd ha hn htk hm, J, fun z => nomatch z⟩
theorem vals_ty : ∀ {cs : List String} {us : List Value}, Vals (cs.map V.ty) us → us = cs.map Value.type
  | [], _, .nil => rfl
  | c :: cs, _, .cons r t => by
    cases (show _ = Value.type c from r)
    rw [List.map_cons, vals_ty t]
theorem call_isinst2 : CallR X (.builtin "isinstance") (fun xs H Q => ∃ (x : V) (t : Value) (p : Addr) (cs : List String) (b : Bool), xs = [x, .ref p] ∧ TyOf X.K H x t ∧ SqT X.K H p (cs.map V.ty) ∧ PySem.W.kitAny X.K t (cs.map Value.type) = some b ∧ Q (.bl b) H) := by
  intro pins s σ H xs us Q I r h
  obtain ⟨x, t, p, cs, b, rfl, ty, hp, hk, q⟩ := h
  obtain ⟨u, w', rfl, ru, rw'⟩ := vals2 r
  cases rw'
  obtain ⟨Hh, Z, hz, hx⟩ := ty.kit I ru
  obtain ⟨its, rv, ht, _⟩ := I.tuple hp
  have e := vals_ty rv
  subst e
  obtain ⟨⟨c, d, dt, sl⟩, ho, hc, n, hd⟩ := ht
  simp only at hc hd
  subst hc hd
  exact PySem.W.kia_tup Z I.kIn hz ho hk hx fun tk => ⟨.bl b, H, I.tok _, rfl, q⟩
/-! ### a, b, c = a list of that length -/
theorem draw_list {P : Program} {W : World} {B : Around} {E : Value → Shared → Prop} {src lst : Addr} {vs : Array Value} (apart : lst ≠ src) (k : Nat) : ∀ (j : Nat) (t : Shared) (Q : List Value → Shared → Prop), t.heap.IsListIter src lst j → t.heap.IsList lst vs → j + k ≤ vs.size →
    (∀ g, g.IsListIter src lst (j + k) → Heap.SameBut src t.heap g → Q ((vs.toList.drop j).take k) { t with heap := g }) → wpAny (model P W) B (draw (.ref src) k) Q E t := by
  induction k with
  | zero =>
    intro j t Q here _ _ fin
    have last := fin t.heap here (Heap.SameBut.refl ..)
    rw [List.take_zero] at last
    exact (wpAny_pure last : wpAny (model P W) B (pure []) Q E t)
  | succ k ih =>
    intro j t Q here isl room fin
    have inside : j < vs.toList.length := by rw [Array.length_toList]; omega
    have split : (vs.toList.drop j).take (k + 1) = vs[j]'(by simpa using inside) :: (vs.toList.drop (j + 1)).take k := by
      rw [List.drop_eq_getElem_cons inside, List.take_succ_cons, Array.getElem_toList]
    unfold draw
    refine wpAny_bind (wpAny_pyNext_list_item here isl (x := vs[j]'(by simpa using inside)) (by simp at inside; simp [inside]) fun g1 here1 only1 => ?_)
    refine wpAny_bind (wpAny_holding (ih (j + 1) _ _ here1 (isl.extBut only1.extBut apart) (by omega) fun g2 here2 only2 => wpAny_pure ?_))
    have last := fin g2 (by rw [Nat.add_right_comm] at here2; exact here2) (only1.trans only2)
    rw [split] at last
    exact last
def gLst (K : PySem.W.Frag) (n : Nat) (t : TGs) : TG := fun v σ H Q => ∃ a xs, v = .ref a ∧ SqL K H a xs ∧ xs.length = n ∧ t xs σ H Q
theorem pg_lst {es : List Expr} {k : Nat} {t : TGs} {n : Nat} {pos : Pos} (hc : X.calm = true) (h : PGs X es t)
    (hn : (assignEach es X.env).length = n := by rfl) (hst : (assignEach es X.env).findIdx? (·.1) = none := by rfl) : PG X (.Tuple es k pos) (gLst X.K n t) := by
  intro pins s σ H v u Q I r hw
  obtain ⟨a, xs, e1, hq, hl, hw⟩ := hw
  subst e1
  cases r
  obtain ⟨its, rv, pl, hz⟩ := I.list hq
  have hlen := rv.length
  have hL := pl.isList
  have hlt : a ≠ s.heap.objs.size := by
    obtain ⟨o, ho, _⟩ := hL
    exact Nat.ne_of_lt (Heap.lt_size ho)
  rw [assign_Tuple]
  refine wpAny_bind (wpAny_standAt ?_)
  unfold unpack
  rw [hn, hst]
  refine wpAny_bind (wpAny_holding ?_)
  unfold unpackItems
  refine wpAny_bind ?_
  unfold notIterableAtAll
  refine wpAny_bind (wpAny_specialOf hL.typeIs PySem.slot_list_iter.lookup ?_)
  refine wpAny_pure ?_
  simp only [Bool.false_eq_true, if_false]
  refine wpAny_bind (wpAny_holding (wpAny_pyIter_list hL ?_))
  refine wpAny_bind (wpAny_holding (draw_list hlt n 0 _ _ ⟨_, Heap.get?_push_size _ rfl, rfl, rfl⟩ (hL.push _) (by rw [List.size_toArray]; omega) fun h₁ hit₁ hs₁ => ?_))
  have hall : List.take n (List.drop 0 its.toArray.toList) = its := by
    rw [List.drop_zero]
    show List.take n its = its
    exact List.take_of_length_le (by omega)
  rw [hall]
  rw [if_neg (by omega)]
  have ht₁ : h₁.IsList a its.toArray := (hL.push _).extBut hs₁.extBut hlt
  refine wpAny_bind (wpAny_holding (wpAny_pyNext_list_end (I.ok.hd hc) hit₁ ht₁ (by simp; omega) fun h₂ he₂ => ?_))
  simp only [Option.isSome_none, Bool.false_eq_true, if_false]
  refine wpAny_pure ?_
  have I1 : Inv X pins σ H { s with heap := h₂ } := I.kept (t' := s.toks) fun b o e => he₂ b o (Nat.ne_of_lt (Heap.lt_size e)) (hs₁.extBut b o (Nat.ne_of_lt (Heap.lt_size e)) (Heap.get?_push_of_some _ e))
  exact h pins _ σ H xs _ Q I1 rv hw
/-! ### C(..) -/
structure Maker (P : Program) (w : World) (K : PySem.W.Frag) (mg : Str → Option Value) (base : Heap) (k : Nat) (x : Str) (C : Addr) (ps : List Str) (sp : Sp) : Prop where
  ex : ∃ (f : Addr) (fd : FuncData), Mk K C f ∧ FnOk P w K mg base CX0 k f fd ps sp ∧ mg x = some (.ref C) ∧ Binds K fd ps []
theorem pe_new {k j : Nat} {x : Str} {C : Addr} {ps : List Str} {sp : Sp} {e : Expr} {es : List Expr} {t : TA} {p pos : Pos} (c : Maker X.prog X.w X.K X.mg X.base k x C ps sp) (hr : Room j X.A) (hg : Gl X x) (ha : PA X (e :: es) t) (hk : k + 1 ≤ j := by decide)
    (hd : (x == ("__debug__" : Str)) = false := by decide) (hs : starEach (e :: es) X.env = (false, eval e X.env) :: starEach es X.env := by rfl) (hplain : (backTo pos (starEach es X.env)).any (·.1) = false := by rfl) : PE X (.Call (.Name x p) (e :: es) [] pos) (tMake C sp [] E0 t) := by
  obtain ⟨f, fd, M, F, hm, hb⟩ := c.ex
  exact pe_make (hdb := hd) (he := hs) (hpl := hplain) M F (hr.mono hk) hg hm hb .nil pass0 ha

/-! ### set(list of texts), its size -/
def addS (σ : List Str) (v : Str) : List Str := if v ∈ σ then σ else σ ++ [v]
def ddS (xs : List Str) : List Str := xs.foldl addS []
theorem addS_len (σ : List Str) (v : Str) : (addS σ v).length = if decide (v ∈ σ) = true then σ.length else σ.length + 1 := by
  unfold addS
  by_cases h : v ∈ σ <;> simp [h]
theorem addS_mem (σ : List Str) (v k : Str) : decide (k ∈ addS σ v) = (decide (k ∈ σ) || decide (k = v)) := by
  unfold addS
  by_cases h : v ∈ σ
  · rw [if_pos h, Bool.eq_iff_iff]
    simp only [Bool.or_eq_true, decide_eq_true_eq]
    exact ⟨.inl, fun z => z.elim id fun e => e ▸ h⟩
  · rw [if_neg h, Bool.eq_iff_iff]
    simp only [Bool.or_eq_true, decide_eq_true_eq, List.mem_append, List.mem_singleton]
theorem ddS_take (xs : List Str) (i : Nat) (v : Str) (h : xs[i]? = some v) : ddS (xs.take (i + 1)) = addS (ddS (xs.take i)) v := by
  unfold ddS
  rw [List.take_add_one, h, Option.toList_some, List.foldl_append]
  rfl
theorem addS_le (σ : List Str) (v : Str) : (addS σ v).length ≤ σ.length + 1 := by
  rw [addS_len]
  split <;> omega
theorem fold_le : ∀ (xs σ : List Str), (xs.foldl addS σ).length ≤ σ.length + xs.length
  | [], σ => Nat.le_refl _
  | x :: xs, σ => by
    have h1 := fold_le xs (addS σ x)
    have h2 := addS_le σ x
    rw [List.foldl_cons, List.length_cons]
    omega
theorem ddS_le (xs : List Str) : (ddS xs).length ≤ xs.length := by
  have := fold_le xs []
  simpa [ddS] using this
theorem fold_nodup : ∀ (xs σ : List Str), (σ ++ xs).Nodup → xs.foldl addS σ = σ ++ xs
  | [], σ, _ => by simp
  | x :: xs, σ, h => by
    have hx : x ∉ σ := fun hm => by
      rw [List.nodup_append] at h
      exact h.2.2 x hm x List.mem_cons_self rfl
    rw [List.foldl_cons]
    have e : addS σ x = σ ++ [x] := by
      unfold addS
      rw [if_neg hx]
    rw [e, fold_nodup xs (σ ++ [x]) (by simpa using h)]
    simp
theorem ddS_nodup {xs : List Str} (h : xs.Nodup) : (ddS xs).length = xs.length := by
  unfold ddS
  rw [fold_nodup xs [] (by simpa using h)]
  simp
section
variable {P : Program} {W : World} {B : Around} {E : Value → Shared → Prop} {s : Shared} {l : Addr} {its : List Value} {zs : List Str}
abbrev newSetL (led : Bool) : Obj := { cls := .type "set", dict := none, data := .set #[] 0 (.fresh 0 0 led) }
/-- a set that holds the first j of these texts -/
def TxtSet (P : Program) (W : World) (zs : List Str) (D : Addr) (j : Nat) (h : Heap) : Prop := h.SetOf (strKind P W) D (fun y => decide (y ∈ ddS (zs.take j))) (ddS (zs.take j)).length
theorem TxtSet.stay {D : Addr} {j : Nat} {h h' : Heap} (q : TxtSet P W zs D j h) (k : ∀ o, h.get? D = some o → h'.get? D = some o) : TxtSet P W zs D j h' := by
  obtain ⟨a1, a2, a3, a4, g, r⟩ := q
  exact ⟨a1, a2, a3, a4, k a1 g, r⟩
theorem TxtSet.first {D : Addr} {h : Heap} {led : Bool} (g : h.get? D = some (newSetL led)) : TxtSet P W zs D 0 h := by
  unfold TxtSet
  rw [show (fun y => decide (y ∈ ddS (zs.take 0))) = fun _ => false from funext fun y => by simp [ddS]]
  exact (PyProof.Rows.setObjOf_fresh (knd := strKind P W) led).setOf g (by unfold scanBound; omega)
theorem TxtSet.more {A : Around} {D : Addr} {j : Nat} {v : Value} {t : Shared} {Q : Bool → Shared → Prop} (hi : Vals (zs.map V.str) its) (hb : zs.length + 1 < scanBound) (hv : its[j]? = some v) (q : TxtSet P W zs D j t.heap)
    (k : ∀ g tk r, Heap.SameBut D t.heap g → TxtSet P W zs D (j + 1) g → Q r { t with heap := g, toks := tk }) : wpAny (model P W) A (setAdd D v) Q E t := by
  have n1 : zs.length = its.length := by have := hi.length; rwa [List.length_map] at this
  have n2 : j < zs.length := by rw [n1]; exact (List.getElem?_eq_some_iff.mp hv).1
  have n3 := ddS_le (zs.take j)
  rw [List.length_take] at n3
  obtain ⟨u, hu, tz, ru⟩ := hi.get (i := j) (x := V.str zs[j]) (by simp [n2])
  obtain rfl : u = v := Option.some.inj (hu.symm.trans hv)
  subst ru
  unfold setAdd
  refine wpAny_holding (wpAny_bind ((strKind P W).pyHash (k := zs[j]) (strKind_is _ _ _ _) (wpAny_setAddHashed_of (knd := strKind P W) (s := { t with toks := t.toks + 1 }) (strKind_is _ _ _ _) rfl q (by omega) fun g only q2 => k g _ _ only ?_)))
  unfold TxtSet
  rw [ddS_take zs j zs[j] (by simp), addS_len, show (fun y => decide (y ∈ addS (ddS (zs.take j)) zs[j])) = fun y => decide (y ∈ ddS (zs.take j)) || decide (y = zs[j]) from funext fun y => addS_mem _ _ _]
  exact q2
/-- the loop that fills it -/
theorem set_turns {R : Result → Shared → Prop} (hi : Vals (zs.map V.str) its) (hb : zs.length + 1 < scanBound) {D it : Addr} (hh : B.handled = none) (hD : D ≠ it) (hDl : D ≠ l) (hl : l ≠ it) (left : Nat) :
    ∀ (j : Nat) (t : Shared), its.length - j = left → j ≤ its.length → t.heap.IsListIter it l j → t.heap.IsList l its.toArray → TxtSet P W zs D j t.heap →
      (∀ g tk, (∀ c o, c ≠ D → c ≠ it → t.heap.get? c = some o → g.get? c = some o) → TxtSet P W zs D its.length g → R (.ok (.ret .none)) { t with heap := g, toks := tk }) →
      codeAny (model P W) B (.builtin "set.update.loop" ⟨[.ref D, .ref it], []⟩) R t := by
  have Wk := Walks.list (prog := P) (w := W) (A := B.in1) (by simp [hh]) it l hl its.toArray
  have nw : ∀ {c : Addr}, c ≠ it → c ∉ [it] := fun h => by simpa using h
  induction left with
  | zero =>
    intro j t he hj hi1 hs lies fin
    obtain rfl : j = its.length := by omega
    refine codeAny_builtin PyProof.Rows.F.entry_set_update_loop ?_
    rw [Around.under_plainId PyProof.Rows.F.plain_set_update_loop _]
    refine (wpAny_bind (Wk.done t _ _ ⟨by simpa using hi1, hs⟩ fun g tk kp => ?_) : wpAny _ B.in1 (pyNext (.ref it) >>= _) _ _ t)
    show wpAny (model P W) B.in1 (ret Value.none) _ _ _
    exact wpAny_pure (fin g tk (fun c o _ h e => kp c o (nw h) e) (lies.stay fun o e => kp D o (nw hD) e))
  | succ left ih =>
    intro j t he hj hi1 hs lies fin
    refine codeAny_builtin PyProof.Rows.F.entry_set_update_loop ?_
    rw [Around.under_plainId PyProof.Rows.F.plain_set_update_loop _]
    refine (wpAny_bind (Wk.item j t _ _ (by simp; omega) ⟨hi1, hs⟩ fun v g1 tk1 hv here1 kp1 => ?_) : wpAny _ B.in1 (pyNext (.ref it) >>= _) _ _ t)
    refine (wpAny_bind (wpAny_holding ?_) : wpAny _ B.in1 (holding [v] (setAdd D v) >>= _) _ _ _)
    refine TxtSet.more hi hb (by simpa using hv) (lies.stay fun o e => kp1 D o (nw hD) e) fun g2 tk2 r only lies2 => ?_
    have h2 := Wk.frame _ _ g2 here1 fun c hc o e => (only.2 c fun q => by
      have hc' : c = it ∨ c = l := by simpa using hc
      rcases hc' with rfl | rfl
      · exact hD q.symm
      · exact hDl q.symm).trans e
    exact wpAny_pure ⟨plainId_quiet PyProof.Rows.F.plain_set_update_loop _, ih (j + 1) _ (by omega) (by omega) h2.1 h2.2 lies2 fun g tk kp lies4 => fin g tk (fun c o nd nw' e => kp c o nd nw' ((only.2 c nd).trans (kp1 c o (nw nw') e))) lies4⟩
/-- what set.__init__ makes of a new set -/
theorem set_filled {D : Addr} {led : Bool} {Q : Fin → Shared → Prop} (hi : Vals (zs.map V.str) its) (hb : zs.length + 1 < scanBound) (hh : B.handled = none) (hS : s.heap.get? D = some (newSetL led)) (hl : s.heap.IsList l its.toArray) (hD : D ≠ l)
    (k : ∀ g tk, TxtSet P W zs D its.length g → (∀ c o, c ≠ D → s.heap.get? c = some o → g.get? c = some o) → Q (.done (.ret .none)) { s with heap := g, toks := tk }) :
    wpAny (model P W) B (Builtin.«set.__init__» ⟨[.ref D, .ref l], []⟩) Q E s := by
  obtain ⟨hp0, g0, dr, tk, os⟩ := s
  have hlt : l < hp0.objs.size := let ⟨_, e, _⟩ := hl; Heap.lt_size e
  have hDt : D < hp0.objs.size := Heap.lt_size hS
  have hT : (⟨hp0, g0, dr, tk, os⟩ : Shared).TypeIs (.ref D) "set" := ⟨_, hS, rfl⟩
  have fin : wpAny (model P W) B (runValue (.builtin "set.update.loop" ⟨[.ref D, .ref hp0.objs.size], []⟩)) (fun _ s' => Q (.done (.ret .none)) s') E ⟨hp0.push { cls := .type "list_iterator", data := .fields #[.ref l, .int 0 0] }, g0, dr, tk, os⟩ :=
    wpAny_runValue (set_turns hi hb hh (Nat.ne_of_lt hDt) hD (Nat.ne_of_lt hlt) its.length 0 ⟨hp0.push { cls := .type "list_iterator", data := .fields #[.ref l, .int 0 0] }, g0, dr, tk, os⟩ rfl (Nat.zero_le _) ⟨_, Heap.get?_push_size _ rfl, rfl, rfl⟩ (hl.push _) (TxtSet.first (Heap.get?_push_of_some _ hS))
      fun g tk' kp q => k g tk' q fun c o hc e => kp c o hc (Nat.ne_of_lt (Heap.lt_size e)) (Heap.get?_push_of_some _ e))
  have hl0 := hl
  obtain ⟨⟨c, dd, dt, sl⟩, hol, hc, n, hd⟩ := hl
  cases hc
  cases hd
  have f1 := F.sub_list_set
  have f2 := F.sub_list_frozenset
  have f3 : (Value.type "list" == .type "dict") = false := by decide
  unfold Builtin.«set.__init__» noKeywords Builtin.Frozenset.updateFrom
  generalize hPI : pyIter = PI
  wp_walk
  subst hPI
  exact wpAny_pyIter_list hl0 (wpAny_bind (wpAny_mono fin (fun _ s' q => wpAny_pure (wpAny_pure q)) fun _ _ e => e))
theorem call_setS {prog : Program} {w : World} {A : Around} {E : Value → Shared → Prop} {s : Shared} {l : Addr} {its : List Value} {xs : List Str} {Q : Value → Shared → Prop}
    (hh : A.handled = none) (hl : s.heap.IsList l its.toArray) (hi : Vals (xs.map V.str) its) (hb : xs.length + 1 < scanBound)
    (h : ∀ (h' : Heap) (tk : Nat), h'.SetOf (strKind prog w) s.heap.objs.size (fun y => decide (y ∈ ddS xs)) (ddS xs).length →
      (∀ b o, s.heap.get? b = some o → h'.get? b = some o) → Q (.ref s.heap.objs.size) { s with heap := h', toks := tk }) :
    wpAny (model prog w) A (call (.type "set") [.ref l]) Q E s := by
  have hlt : l < s.heap.objs.size := let ⟨_, e, _⟩ := hl; Heap.lt_size e
  have whole : ∀ g, TxtSet prog w xs s.heap.objs.size its.length g → g.SetOf (strKind prog w) s.heap.objs.size (fun y => decide (y ∈ ddS xs)) (ddS xs).length := fun g q => by
    have e := hi.length
    rw [List.length_map] at e
    unfold TxtSet at q
    rwa [← e, List.take_length] at q
  obtain ⟨c, tl, g1⟩ := F.called_set.mro
  have g2 := F.called_set.made
  have g3 := F.called_set.sub
  have g4 := F.called_set.notType
  have g5 := F.called_set.canCreate
  have g6 := F.typeCall_set_1 (.ref l)
  have body : ∀ (led : Bool) (C : Around), C.handled = none → codeAny (model prog w) C (.call (.builtin "set.__init__") ⟨[.ref s.heap.objs.size, .ref l], []⟩) (wants (fun r s2 => r = .none ∧ Q (.ref s.heap.objs.size) s2) E) { s with heap := s.heap.push (newSetL led) } := fun led C hC => by
    have hS : (s.heap.push (newSetL led)).get? s.heap.objs.size = some (newSetL led) := Heap.get?_push_size _ rfl
    refine codeAny_call_builtin F.called_set.init.plain F.entry_set_init (check_set_init_1 (s := { s with heap := s.heap.push (newSetL led) }) ⟨_, hS, rfl⟩ ?_)
    exact set_filled (s := { s with heap := s.heap.push (newSetL led) }) hi hb (by simp [hC]) hS (hl.push _) (Nat.ne_of_gt hlt) fun g tk hS' kp => ⟨rfl, h g tk (whole g hS') fun c o e => kp c o (Nat.ne_of_lt (Heap.lt_size e)) (Heap.get?_push_of_some _ e)⟩
  refine wpAny_call (codeAny_of_tree ?_)
  show wpAny _ _ (callAny (.type "set") ⟨[.ref l], []⟩) _ _ _
  refine wpAny_pure ⟨Code.quiet_builtin _ (by decide +kernel), codeAny_builtin F.entry_type_call ?_⟩
  rw [Around.under_plain (weight_type_call_type "set" [.ref l] []) rfl]
  wp_walk
  refine codeAny_mono (code_set_new_1 (.ref l) (E := E) (Q₁ := fun x s1 => ∃ led, x = .ref s.heap.objs.size ∧ s1 = { s with heap := s.heap.push (newSetL led) }) fun led => ⟨led, rfl, rfl⟩) fun r s1 hr => ?_
  match r, hr with
  | .error e, hr => exact hr
  | .ok (.ret x), hr =>
    obtain ⟨led, rfl, rfl⟩ := hr
    have hS : (s.heap.push (newSetL led)).get? s.heap.objs.size = some (newSetL led) := Heap.get?_push_size _ rfl
    have hT : Shared.TypeIs { s with heap := s.heap.push (newSetL led) } (.ref s.heap.objs.size) "set" := ⟨_, hS, rfl⟩
    have i1 := F.called_set.init.lookup
    have i2 := F.called_set.init.bind (.ref s.heap.objs.size)
    wp_walk
    refine codeAny_mono (body led _ (by simp [hh])) fun r2 s2 hr2 => ?_
    match r2, hr2 with
    | .error e, hr2 => exact hr2
    | .ok (.ret y), hr2 =>
      obtain ⟨rfl, q⟩ := hr2
      wp_walk
      exact q
end
/-- a set of texts, by the number of its members -/
def SetN (P : Program) (w : World) (a : Addr) (n : Nat) : HO := .ext fun h => ∃ S, h.SetOf (strKind P w) a S n
theorem call_set : CallR X (.type "set") (fun xs H Q => X.calm = true ∧ ∃ (p : Addr) (ys : List Str), xs = [.ref p] ∧ SqL X.K H p (ys.map V.str) ∧ ys.length ≤ 1000 ∧ ∀ l, H l = none → Q (.ref l) (upd H l (SetN X.prog X.w l (ddS ys).length))) := by
  intro pins s σ H xs us Q I r h
  obtain ⟨hc, p, ys, rfl, hq, hz, q⟩ := h
  obtain ⟨u, rfl, rx⟩ := vals1 r
  cases rx
  obtain ⟨its, rv, pl, _⟩ := I.list hq
  refine call_setS (I.ok.hd hc) pl.isList rv (by unfold scanBound; omega) fun h' tk hS kp => ?_
  refine ⟨.ref s.heap.objs.size, _, I.laid (t' := tk) (o := SetN X.prog X.w s.heap.objs.size (ddS ys).length) kp (Nat.le_refl _) ⟨⟨_, hS⟩, ?_, ?_⟩, rfl, q _ I.fresh⟩
  · obtain ⟨o, _, _, _, ho, _⟩ := hS
    exact ⟨o, ho⟩
  · rintro g1 g2 ⟨S, o, es, ep, t, ho, rest⟩ k
    exact ⟨S, o, es, ep, t, k o ho, rest⟩
theorem call_len_setN : CallR X (.builtin "len") (fun xs H Q => ∃ (p : Addr) (n : Nat), xs = [.ref p] ∧ H p = some (SetN X.prog X.w p n) ∧ n ≤ 1000 ∧ Q (.int n) H) := by
  intro pins s σ H xs us Q I r h
  obtain ⟨p, n, rfl, hp, hn, q⟩ := h
  obtain ⟨u, rfl, rx⟩ := vals1 r
  cases rx
  obtain ⟨⟨S, o, es, ep, t, ho, hex, hd, hel, hmem, hbd, hf, hz⟩, _, _⟩ := I.hok p _ hp
  exact call_len_set ho hex hd hf (by omega) ⟨.int n, H, I.tok _, ⟨_, by rw [hz]⟩, q⟩
end
end L2

set_option Elab.async false
set_option linter.all false
set_option maxRecDepth 100000
set_option maxHeartbeats 4000000
namespace L2
open PySem PySem.Spec PyProof.Rows
/-! ### for i, x in enumerate(list) -/
def Ite (K : PySem.W.Frag) (a : Addr) : It :=
  ⟨fun i H => ∃ xs x, SqL K H a xs ∧ xs[i]? = some x, fun i H x H' => ∃ p y, x = .ref p ∧ H p = none ∧ H' = upd H p (.tup [.int (i : Int), y]) ∧ ∀ xs, SqL K H a xs → xs[i]? = some y, fun i H => ∃ xs, SqL K H a xs ∧ xs.length ≤ i⟩
theorem turn_enum {P : Program} {w : World} {K : PySem.W.Frag} {elts : List Expr} {x1 : Nat} {tpos : Pos} (a e it : Addr) (hne : e ≠ it) : Turn P w K (.Tuple elts x1 tpos) (Ite K a) [e, it] e (fun i h => (∃ old, IsEnum h e it (i : Int) old) ∧ h.IsListIter it a i) where
  mem := by simp
  obj := fun i h st b hb => by
    obtain ⟨⟨old, he⟩, o, ho, hc, hd⟩ := st
    rcases List.mem_cons.mp hb with z | z
    · subst z
      exact ⟨_, he, fun v z => by
        have z' : Data.fields _ = Data.cell v := z
        cases z'⟩
    · have z' : b = it := by simpa using z
      subst z'
      exact ⟨o, ho, fun v z => by rw [hd] at z; cases z⟩
  keep := fun i h h' st k => by
    obtain ⟨⟨old, he⟩, hi⟩ := st
    exact ⟨⟨old, k e (by simp) _ he⟩, hi.at fun o q => k it (by simp) o q⟩
  item := by
    intro X hP hw hK hc i pins s σ H E I hf st hg
    subst hP hw hK
    obtain ⟨xs, x, hq, hx⟩ := hg
    obtain ⟨⟨old, he⟩, hit⟩ := st
    obtain ⟨its, rv, p, hz⟩ := I.list hq
    obtain ⟨u, hu, ru⟩ := rv.get hx
    have f1 := hf e (by simp)
    have f2 := hf it (by simp)
    refine wpAny_pyNext_enum_item he hit p.isList (x := u) (by simpa using hu) hne fun h1 heo hit1 htup hsz kp => ?_
    refine ⟨_, rfl, wpAny_letOwnedTupleGo_enum heo fun h2 he2 sb2 => ?_⟩
    have hen : s.heap.objs.size ≠ e := Ne.symm (Nat.ne_of_lt (Heap.lt_size he))
    have hitn : s.heap.objs.size ≠ it := by
      obtain ⟨o, ho, _⟩ := hit
      exact Ne.symm (Nat.ne_of_lt (Heap.lt_size ho))
    have kp2 : ∀ b o, b ∉ [e, it] → s.heap.get? b = some o → h2.get? b = some o := fun b o hb q => by
      simp only [List.mem_cons, List.not_mem_nil, or_false, not_or] at hb
      exact (sb2.2 b hb.1).trans (kp b o hb.1 hb.2 q)
    have hnew : h2.get? s.heap.objs.size = some { cls := .type "tuple", data := .seq #[.int i s.toks, u] } := (sb2.2 _ hen).trans htup
    have nt : ∀ b v, H b = some v → b ∉ [e, it] := fun b v q hb => by
      simp only [List.mem_cons, List.not_mem_nil, or_false] at hb
      rcases hb with z | z
      · rw [z, f1.1] at q; cases q
      · rw [z, f2.1] at q; cases q
    have hfr := I.fresh
    have U : Un (frs X.stack) [e, it] H (upd H s.heap.objs.size (.tup [.int (i : Int), x])) s.heap h2 :=
      { keep := fun b o q _ _ hb => kp2 b o hb q
        slot := fun b o q _ _ hb => ⟨o.slots, kp2 b o hb q⟩
        free := fun b o q n _ => by rw [upd_ne (Nat.ne_of_lt (Heap.lt_size q))]; exact n
        there := fun b o q hb => ⟨o, kp2 b o hb q⟩
        tups := fun b xs q => by rw [upd_ne (ne_of_none q hfr)]; exact q
        frzs := fun b o xs q => by rw [upd_ne (ne_of_none q hfr)]; exact q
        tbls := fun b ps q => ⟨#[], by rw [upd_ne (ne_of_none q hfr), q]; simp⟩ }
    have hok : HOk X.prog X.w (upd H s.heap.objs.size (.tup [.int (i : Int), x])) h2 := fun b v q => by
      by_cases hb : b = s.heap.objs.size
      · subst hb
        rw [upd_same] at q
        cases q
        exact ⟨by show 2 ≤ sizeLine; decide, [.int i s.toks, u], .cons ⟨_, rfl⟩ (.cons ru .nil), _, hnew, rfl, _, rfl⟩
      · rw [upd_ne hb] at q
        refine (I.hok b v q).stay (fun c v' hc' r => kp2 c v' ?_ r) (fun c r => by rw [upd_ne (ne_of_none r hfr)]; exact r) fun c ys r => by rw [upd_ne (ne_of_none r hfr)]; exact r
        rcases hc' with z | z
        · rw [z]; exact nt b v q
        · exact nt c _ z
    have I2 : Inv X pins σ (upd H s.heap.objs.size (.tup [.int (i : Int), x])) { s with heap := h2, toks := s.toks + 1 } := I.call' rfl U hok I.bare fun b hb => by
      obtain ⟨g0, g1, g2, g3, g4, g5⟩ := hf b hb
      exact ⟨g3, g1, g4, g5⟩
    refine ⟨.ref s.heap.objs.size, _, I2, rfl, ⟨_, x, rfl, hfr, rfl, fun ys hy => by rw [I.list_inj hy hq]; exact hx⟩, ⟨⟨u, ?_⟩, ?_⟩, fun b hb => ?_⟩
    · have e1 : ((i + 1 : Nat) : Int) = (i : Int) + 1 := by omega
      rw [e1]
      exact he2
    · exact hit1.at fun o q => (sb2.2 it (Ne.symm hne)).trans q
    · rw [upd_ne (by
        simp only [List.mem_cons, List.not_mem_nil, or_false] at hb
        rcases hb with z | z
        · rw [z]; exact Ne.symm hen
        · rw [z]; exact Ne.symm hitn)]
      exact (hf b hb).1
  done := by
    intro X hP hw hK hc i pins s σ H E I hf st hg
    subst hP hw hK
    obtain ⟨xs, hq, hx⟩ := hg
    obtain ⟨⟨old, he⟩, hit⟩ := st
    obtain ⟨its, rv, p, hz⟩ := I.list hq
    obtain ⟨f0, f1, f2, f3, f4, f5⟩ := hf it (by simp)
    have hl := rv.length
    exact wpAny_pyNext_enum_end (I.ok.hd hc) he hit p.isList (by simp; omega) fun h' eb => ⟨rfl, I.turned (t' := s.toks) (fun b o hb e => eb b o hb e) f0 f1 f3 f4 f5⟩
  self := fun _ _ _ _ _ st h => by
    obtain ⟨⟨old, he⟩, _⟩ := st
    exact wpAny_pyIter_enum he h
section
variable {X : Cx}
def iEnum (K : PySem.W.Frag) (ta : TA) : TI := fun σ H R => ta σ H fun vs H1 => ∃ a, vs = [.ref a] ∧ (∃ xs, SqL K H1 a xs) ∧ R (Ite K a) H1
theorem pi_enum {a : Expr} {ta : TA} {p pos : Pos} {elts : List Expr} {x1 : Nat} {tpos : Pos} (hg : Gl X "enumerate") (hm : X.mg "enumerate" = none) (ha : PA X [a] ta) (hs : starEach [a] X.env = [(false, eval a X.env)] := by rfl) : PI X (.Tuple elts x1 tpos) (.Call (.Name "enumerate" p) [a] [] pos) (iEnum X.K ta) := by
  intro pins s σ H R I h
  refine Call_ (ld_blt I hg hm bt_enumerate (PyProof.Rows.callWith_type1 (thn (ha pos pins s σ H _ I h) fun us s1 ⟨vs, H1, I1, r1, q1⟩ => ?_) hs rfl))
  obtain ⟨l, e, ⟨xs, hq⟩, q⟩ := q1
  subst e
  obtain ⟨u, rfl, ru⟩ := r1.one
  cases ru
  obtain ⟨its, rv, pl, hz⟩ := I1.list hq
  refine call_enumerate_list pl.isList fun h' he hit hsz kp => wpAny_pyIter_enum he ?_
  refine ⟨s1.heap.objs.size + 1, [s1.heap.objs.size + 1, s1.heap.objs.size], _, _, H1, rfl, I1.kept (t' := s1.toks) kp, turn_enum l _ _ (Ne.symm (Nat.ne_of_lt (Nat.lt_succ_self _))), ⟨⟨_, he⟩, hit⟩, fun b hb => ?_, q⟩
  have hb' : b = s1.heap.objs.size + 1 ∨ b = s1.heap.objs.size := by simpa using hb
  have hle : s1.heap.objs.size ≤ b := by
    rcases hb' with z | z
    · rw [z]; exact Nat.le_succ _
    · rw [z]; exact Nat.le_refl _
  exact I1.fpOk hle (I1.hok.fresh hle)
/-- over a list that the body leaves as it is; H grows by the pair at each turn -/
theorem for_enum {K : PySem.W.Frag} {a : Addr} {xs : List V} {g : TG} {tb : TS} {D : Ends} {σ : L2.St} {H : Hp} (Pv : Nat → L2.St → Hp → Prop) (h0 : Pv 0 σ H) (hl : ∀ i σ H, i ≤ xs.length → Pv i σ H → SqL K H a xs)
    (hs : ∀ i x σ H p, xs[i]? = some x → Pv i σ H → H p = none → g (.ref p) σ (upd H p (.tup [.int (i : Int), x])) fun σ2 H2 => tb { D with nx := Pv (i + 1), ct := Pv (i + 1), bk := D.nx } σ2 H2) (hd : ∀ σ H, Pv xs.length σ H → D.nx σ H) :
    ∃ W : Nat → Nat → L2.St → Hp → Prop, (∃ m, W 0 m σ H) ∧ ∀ i m σ H, W i m σ H →
      ((Ite K a).stop i H ∧ D.nx σ H) ∨ ((Ite K a).go i H ∧ ∃ N : L2.St → Hp → Prop, (∀ σ' H', N σ' H' → ∃ m', m' < m ∧ W (i + 1) m' σ' H') ∧ ∀ x H', (Ite K a).yld i H x H' → g x σ H' fun σ2 H2 => tb { D with nx := N, ct := N, bk := D.nx } σ2 H2) := by
  refine ⟨fun i m σ H => m = xs.length - i ∧ i ≤ xs.length ∧ Pv i σ H, ⟨xs.length, by simp, Nat.zero_le _, h0⟩, ?_⟩
  rintro i m σ H ⟨rfl, hi, p⟩
  have q := hl i σ H hi p
  by_cases hlt : i < xs.length
  · refine .inr ⟨⟨xs, xs[i], q, by simp [hlt]⟩, Pv (i + 1), fun σ' H' p' => ⟨xs.length - (i + 1), by omega, rfl, hlt, p'⟩, fun x H' y => ?_⟩
    obtain ⟨p0, y0, e1, hn, e2, y⟩ := y
    subst e1 e2
    exact hs i y0 σ H p0 (y xs q) p hn
  · have e : i = xs.length := by omega
    subst e
    exact .inl ⟨⟨xs, q, Nat.le_refl _⟩, hd σ H p⟩
/-! ### max(list of ints, default=d) -/
def mxD (d : Int) : List Int → Int
  | [] => d
  | x :: xs => xs.foldl (fun a b => if b > a then b else a) x
theorem mxD_snoc {d : Int} {xs : List Int} {y : Int} (h : xs ≠ []) : mxD d (xs ++ [y]) = if y > mxD d xs then y else mxD d xs := by
  cases xs with
  | nil => exact absurd rfl h
  | cons x xs =>
    show (xs ++ [y]).foldl _ x = _
    rw [List.foldl_append]
    rfl
theorem max_default (a d : Value) : argsOk "max" ⟨[a], [(Str.ofString "default", d)]⟩ := by unfold argsOk; kernel_rfl

section
variable {prog : Program} {w : World} {A : Around} {R : Result → Shared → Prop} {I : Addr} {fp wr : List Addr}
theorem mx_loop {xs : List Int} {dv : Value} {Sx : Nat → Heap → Prop} (W : Walks prog w A.in1 I fp wr xs.length (fun i v => ∃ t, v = .int (xs.getD i 0) t) Sx) (D : Addr) (hD : D ∉ fp) (d : Int) :
    ∀ (k j : Nat) (s : Shared) (tb : Tok) (c : Nat), xs.length - (j + 1) = k → j + 1 ≤ xs.length → Sx (j + 1) s.heap →
    s.heap.get? D = some { cls := .type "list", dict := none, data := .seq #[.int (mxD d (xs.take (j + 1))) tb, .int (mxD d (xs.take (j + 1))) tb] c, slots := #[] } →
    (∀ t h' tk, (∀ b o, b ∉ wr → b ≠ D → s.heap.get? b = some o → h'.get? b = some o) → R (.ok (.ret (.int (mxD d xs) t))) { s with heap := h', toks := tk }) →
    codeAny (model prog w) A (.builtin "max.loop" ⟨[.ref I, .none, .ref D], [(Str.ofString "default", dv)]⟩) R s := by
  have hDw : D ∉ wr := fun h => hD (W.sub _ h)
  have hname : (toString "max" ++ toString ".loop" : String) = "max.loop" := by decide
  intro k
  induction k with
  | zero =>
    intro j s tb c hk hj st hS hR
    have hin : j + 1 = xs.length := by omega
    rw [hin, List.take_length] at hS
    rw [hin] at st
    refine codeAny_builtin PySem.F.entry_max_loop ?_
    rw [Around.under_plainId PySem.F.plain_max_loop _]
    show wpAny _ A.in1 (seqItems? (.ref D) >>= _) _ _ s
    refine wpAny_bind (wpAny_seqItems hS rfl ?_)
    show wpAny _ A.in1 (tryCatch (pyNext (.ref I)) _ >>= _) _ _ s
    refine wpAny_bind (wpAny_tryCatch (W.done s _ _ st fun h' tk kp => ?_))
    have hS' := kp D _ hDw hS
    show wpAny _ A.in1 (updateSeq D (fun _ => #[]) >>= _) _ _ _
    refine wpAny_bind ?_
    refine wpAny_updateSeq hS' rfl (wpAny_bind (wpAny_letGo (wpAny_pure ?_)))
    exact hR tb _ tk fun b o hbw hbD e => (Heap.get?_update_other _ _ (Ne.symm hbD)).trans (kp b o hbw e)
  | succ k ih =>
    intro j s tb c hk hj st hS hR
    have hlt : j + 1 < xs.length := by omega
    have hg : xs[j + 1]? = some (xs.getD (j + 1) 0) := by simp [List.getD, hlt]
    have et : xs.take (j + 1 + 1) = xs.take (j + 1) ++ [xs.getD (j + 1) 0] := by
      rw [List.take_add_one, hg]
      rfl
    have hne : xs.take (j + 1) ≠ [] := by
      intro z
      have hz : (xs.take (j + 1)).length = 0 := by rw [z]; rfl
      rw [List.length_take] at hz
      omega
    have em := mxD_snoc (d := d) (y := xs.getD (j + 1) 0) hne
    rw [← et] at em
    refine codeAny_builtin PySem.F.entry_max_loop ?_
    rw [Around.under_plainId PySem.F.plain_max_loop _]
    show wpAny _ A.in1 (seqItems? (.ref D) >>= _) _ _ s
    refine wpAny_bind (wpAny_seqItems hS rfl ?_)
    show wpAny _ A.in1 (tryCatch (pyNext (.ref I)) _ >>= _) _ _ s
    refine wpAny_bind (wpAny_tryCatch (W.item (j + 1) s _ _ hlt st fun v h' tk hP st' kp => ?_))
    obtain ⟨tv, rfl⟩ := hP
    have hS' := kp D _ hDw hS
    show wpAny _ A.in1 (tryCatch (holding [Value.int (xs.getD (j + 1) 0) tv, Value.int (xs.getD (j + 1) 0) tv] (richCompare .Gt (.int (xs.getD (j + 1) 0) tv) (.int (mxD d (xs.take (j + 1))) tb) >>= _)) _ >>= _) _ _ _
    have hc := CmpOf.ints_gt (prog := prog) (w := w) (A := A.in1) (P := fun i v => ∃ t, v = Value.int (if i = 0 then xs.getD (j + 1) 0 else mxD d (xs.take (j + 1))) t) (fun i => if i = 0 then xs.getD (j + 1) 0 else mxD d (xs.take (j + 1))) (fun i v h => h)
    refine wpAny_bind (wpAny_tryCatch (wpAny_holding (wpAny_bind (hc 0 1 _ _ _ _ _ ⟨tv, by simp⟩ ⟨tb, by simp⟩ ?_))))
    refine wpAny_bind (wpAny_holding (wpAny_truthy_bool ?_))
    refine wpAny_bind (wpAny_letGo (wpAny_pure ?_))
    simp only [if_true, Nat.one_ne_zero, if_false]
    by_cases hb : xs.getD (j + 1) 0 > mxD d (xs.take (j + 1))
    · rw [if_pos hb] at em
      have hb' : mxD d (xs.take (j + 1)) < xs.getD (j + 1) 0 := hb
      simp only [hb', decide_true, if_true]
      refine wpAny_bind ?_
      refine wpAny_updateSeq hS' rfl (wpAny_bind (wpAny_letGo ?_))
      rw [hname]
      refine wpAny_pure ⟨plainId_quiet PySem.F.plain_max_loop _, ih (j + 1) _ tv _ (by omega) hlt (W.frame _ _ _ st' fun b hbf o e => ?_) (by rw [em]; exact Heap.get?_update_self _ hS' rfl) fun t'' h'' tk'' kp'' => ?_⟩
      · exact (Heap.get?_update_other _ _ (fun z : D = b => hD (by rw [z]; exact hbf))).trans e
      · exact hR t'' h'' tk'' fun b o hbw hbD e => kp'' b o hbw hbD ((Heap.get?_update_other _ _ (Ne.symm hbD)).trans (kp b o hbw e))
    · rw [if_neg hb] at em
      have hb' : ¬ mxD d (xs.take (j + 1)) < xs.getD (j + 1) 0 := hb
      simp only [hb', decide_false, Bool.false_eq_true, if_false]
      refine wpAny_bind (wpAny_letGo ?_)
      rw [hname]
      refine wpAny_pure ⟨plainId_quiet PySem.F.plain_max_loop _, ih (j + 1) _ tb c (by omega) hlt st' (by rw [em]; exact hS') fun t'' h'' tk'' kp'' => ?_⟩
      exact hR t'' h'' tk'' fun b o hbw hbD e => kp'' b o hbw hbD (kp b o hbw e)
theorem mx_first {xs : List Int} {Sx : Nat → Heap → Prop} {d : Int} {td : Tok} {s : Shared} {c : Nat} (W : Walks prog w A.in1 I fp wr xs.length (fun i v => ∃ t, v = .int (xs.getD i 0) t) Sx) (D : Addr) (hD : D ∉ fp) (st : Sx 0 s.heap)
    (hS : s.heap.get? D = some { cls := .type "list", dict := none, data := .seq #[] c, slots := #[] })
    (hR : ∀ t h' tk, (∀ b o, b ∉ wr → b ≠ D → s.heap.get? b = some o → h'.get? b = some o) → R (.ok (.ret (.int (mxD d xs) t))) { s with heap := h', toks := tk }) :
    codeAny (model prog w) A (.builtin "max.loop" ⟨[.ref I, .none, .ref D], [(Str.ofString "default", .int d td)]⟩) R s := by
  have hDw : D ∉ wr := fun h => hD (W.sub _ h)
  have hname : (toString "max" ++ toString ".loop" : String) = "max.loop" := by decide
  refine codeAny_builtin PySem.F.entry_max_loop ?_
  rw [Around.under_plainId PySem.F.plain_max_loop _]
  show wpAny _ A.in1 (seqItems? (.ref D) >>= _) _ _ s
  refine wpAny_bind (wpAny_seqItems hS rfl ?_)
  show wpAny _ A.in1 (tryCatch (pyNext (.ref I)) _ >>= _) _ _ s
  cases hx : xs with
  | nil =>
    subst hx
    refine wpAny_bind (wpAny_tryCatch (W.done s _ _ st fun h' tk kp => ?_))
    show wpAny _ A.in1 (PySem.rule _ >>= _) _ _ _
    refine wpAny_bind (wpAny_rule (wpAny_pure ?_))
    exact hR td h' tk fun b o hbw _ e => kp b o hbw e
  | cons x r =>
    have hn : 0 < xs.length := by rw [hx]; simp
    have e0 : xs.getD 0 0 = x := by rw [hx]; rfl
    have e1 : mxD d (xs.take (0 + 1)) = x := by rw [hx]; rfl
    refine wpAny_bind (wpAny_tryCatch (W.item 0 s _ _ hn st fun v h' tk hP st' kp => ?_))
    obtain ⟨tv, rfl⟩ := hP
    have hS' := kp D _ hDw hS
    show wpAny _ A.in1 (updateSeq D (fun _ => #[.int (xs.getD 0 0) tv, .int (xs.getD 0 0) tv]) >>= _) _ _ _
    refine wpAny_bind ?_
    refine wpAny_updateSeq hS' rfl ?_
    rw [hname]
    refine wpAny_pure ⟨plainId_quiet PySem.F.plain_max_loop _, mx_loop W D hD d _ 0 _ tv _ rfl hn (W.frame _ _ _ st' fun b hbf o e => ?_) (by rw [e1, ← e0]; exact Heap.get?_update_self _ hS' rfl) fun t'' h'' tk'' kp'' => ?_⟩
    · exact (Heap.get?_update_other _ _ (fun z : D = b => hD (by rw [z]; exact hbf))).trans e
    · exact hR t'' h'' tk'' fun b o hbw hbD e => kp'' b o hbw hbD ((Heap.get?_update_other _ _ (Ne.symm hbD)).trans (kp b o hbw e))
end
theorem vals_int_at {ns : List Int} {us : List Value} (r : Vals (ns.map V.int) us) (i : Nat) (v : Value) (h : us[i]? = some v) : ∃ t, v = .int (ns.getD i 0) t := by
  have hl := r.length
  rw [List.length_map] at hl
  have hi : i < ns.length := by rw [hl]; exact (List.getElem?_eq_some_iff.mp h).1
  obtain ⟨u, hu, t, ru⟩ := r.get (i := i) (x := V.int ns[i]) (by simp [hi])
  rw [h] at hu
  cases hu
  exact ⟨t, by rw [ru]; simp [List.getD, hi]⟩
def tMaxD (K : PySem.W.Frag) (te td : TE) : TE := fun σ H Q => te σ H fun x H1 => td σ H1 fun y H2 => ∃ (p : Addr) (ns : List Int) (d : Int), x = .ref p ∧ y = .int d ∧ SqL K H2 p (ns.map V.int) ∧ Q (.int (mxD d ns)) H2
theorem pe_maxD {e d : Expr} {te td : TE} {p pos kpos : Pos} (hc : X.calm = true) (hg : Gl X "max") (hm : X.mg "max" = none) (he : PE X e te) (hd : PE X d td)
    (hst : starEach [e] X.env = [(false, eval e X.env)] := by rfl)
    (hb : backTo pos (starEach [e] X.env) = (false, eval e X.env) :: backTo pos (starEach [] X.env) := by rfl) (hpl : (backTo pos (starEach [e] X.env)).any (·.1) = false := by rfl)
    (hal : (backToKw pos (keywordEach [⟨some "default", d, kpos⟩] X.env)).all (·.1.isSome) = true := by rfl) (hkw : (backToKw pos (keywordEach [⟨some "default", d, kpos⟩] X.env)).any (·.1.isNone) = false := by rfl)
    (hks : (backToKw pos (keywordEach [⟨some "default", d, kpos⟩] X.env)).filterMap (·.1) = [Str.ofString "default"] := by rfl) :
    PE X (.Call (.Name "max" p) [e] [⟨some "default", d, kpos⟩] pos) (tMaxD X.K te td) := by
  intro pins s σ H Q I h
  refine wpAny_Call_Name_kw (ld_blt I hg hm bt_max ?_)
  refine PyProof.Rows.callWith_kw (thn (pa_cons he pa_nil hst pos pins s σ H (fun vs H1 => match vs with
    | [x] => td σ H1 fun y H2 => ∃ (p : Addr) (ns : List Int) (d : Int), x = .ref p ∧ y = .int d ∧ SqL X.K H2 p (ns.map V.int) ∧ Q (.int (mxD d ns)) H2
    | _ => False) I h) fun us s1 ⟨vs, H1, I1, r1, q1⟩ => ?_) hb hpl hal hkw
  cases r1 with
  | nil => exact q1.elim
  | @cons x u vr ur rx rr =>
    cases rr with
    | cons _ _ => exact q1.elim
    | nil =>
      refine thn (pk_cons hd pk_nil pos pins s1 σ H1 (fun zs H2 => match zs with
        | [y] => ∃ (p : Addr) (ns : List Int) (d : Int), x = .ref p ∧ y = .int d ∧ SqL X.K H2 p (ns.map V.int) ∧ Q (.int (mxD d ns)) H2
        | _ => False) I1 q1) fun ws s2 ⟨zs, H2, I2, r2, q2⟩ => ?_
      cases r2 with
      | nil => exact q2.elim
      | @cons y v yr vr ry rr =>
        cases rr with
        | cons _ _ => exact q2.elim
        | nil =>
          obtain ⟨l, ns, dd, rfl, rfl, hq, q⟩ := q2
          cases rx
          obtain ⟨td', rfl⟩ := ry
          rw [hks]
          obtain ⟨its, rv, pl, hz⟩ := I2.list hq
          have hlen := rv.length
          rw [List.length_map] at hlen
          have hl := pl.isList
          have hlt : l < s2.heap.objs.size := by obtain ⟨_, e, _⟩ := hl; exact Heap.lt_size e
          have hname : (toString "max" ++ toString ".loop" : String) = "max.loop" := by decide
          refine PyProof.Rows.kmb_tree PySem.F.kind_max PySem.F.plain_max PySem.F.entry_max (max_default _ _) ?_
          show wpAny _ X.A.in1 (Builtin.Builtins.bindParams "max" ["key", "default"] 0 ⟨[], [(Str.ofString "default", .int dd td')]⟩ >>= _) _ _ s2
          refine wpAny_bind (wpAny_of_eq (show Builtin.Builtins.bindParams "max" ["key", "default"] 0 ⟨[], [(Str.ofString "default", .int dd td')]⟩ = pure [none, some (.int dd td')] from rfl) ?_)
          refine wpAny_bind (wpAny_pure ?_)
          refine wpAny_bind (wpAny_pyIter_list hl ?_)
          refine wpAny_bind (wpAny_newObj_type ?_)
          rw [hname]
          generalize hp1 : s2.heap.push { cls := .type "list_iterator", data := .fields #[.ref l, .int 0 0] } = h1
          have hz1 : h1.objs.size = s2.heap.objs.size + 1 := by rw [← hp1, Heap.size_push]
          have hit : h1.IsListIter s2.heap.objs.size l 0 := by rw [← hp1]; exact ⟨_, Heap.get?_push_size _ rfl, rfl, rfl⟩
          have hl1 : h1.IsList l its.toArray := by rw [← hp1]; exact hl.push _
          have old1 : ∀ b o, s2.heap.get? b = some o → h1.get? b = some o := fun b o e => by rw [← hp1]; exact Heap.get?_push_of_some _ e
          have W0 := Walks.list (prog := X.prog) (w := X.w) (A := X.A.in1) (I2.ok.hd hc) s2.heap.objs.size l (Nat.ne_of_lt hlt) its.toArray
          have ez : its.toArray.size = ns.length := by rw [List.size_toArray]; exact hlen.symm
          have W : Walks X.prog X.w X.A.in1 s2.heap.objs.size [s2.heap.objs.size, l] [s2.heap.objs.size] ns.length (fun i v => ∃ t, v = .int (ns.getD i 0) t) (fun i h => h.IsListIter s2.heap.objs.size l i ∧ h.IsList l its.toArray) :=
            { sub := W0.sub, frame := W0.frame, self := W0.self
              done := fun s Q E st hq => W0.done s Q E (by rw [ez]; exact st) hq
              item := fun i s Q E hi st hq => W0.item i s Q E (by rw [ez]; exact hi) st fun v h' tk hP => hq v h' tk (vals_int_at rv i v (by simpa using hP)) }
          have hD : h1.objs.size ∉ [s2.heap.objs.size, l] := by
            rw [hz1]
            simp only [List.mem_cons, List.not_mem_nil, or_false, not_or]
            exact ⟨Nat.ne_of_gt (Nat.lt_succ_self _), Nat.ne_of_gt (Nat.lt_succ_of_lt hlt)⟩
          refine wpAny_pure ⟨plainId_quiet PySem.F.plain_max_loop _, mx_first (d := dd) (td := td') W h1.objs.size hD ⟨hit.at fun o e => Heap.get?_push_of_some _ e, hl1.push _⟩ (Heap.get?_push_size _ rfl) fun t h' tk kp => ?_⟩
          refine ⟨.int (mxD dd ns), H2, I2.kept (t' := tk) (fun b o e => ?_), ⟨t, rfl⟩, q⟩
          have hb0 := Heap.lt_size e
          exact kp b o (by simpa using Nat.ne_of_lt hb0) (by rw [hz1]; exact Nat.ne_of_lt (Nat.lt_succ_of_lt hb0)) (Heap.get?_push_of_some _ (old1 b o e))
end
end L2

set_option Elab.async false
set_option linter.all false
set_option maxRecDepth 100000
set_option maxHeartbeats 4000000
namespace L2
open PySem PySem.Spec PyProof.Rows
/-! ### the same rules with the names' facts handed in (closed, so the kernel reckons them) -/
def okVar (N : List Str) (sc : Scope) (i : Nat) (x : Str) : Bool :=
  N[i]? == some x && (sc.names.lookup x == some .local || sc.names.lookup x == some .cell || sc.names.lookup x == some .free) && !(x == ("__debug__" : Str)) && !(x == ("__classdict__" : Str))
def okSet (N : List Str) (sc : Scope) (i : Nat) (x : Str) : Bool := N[i]? == some x && (sc.names.lookup x == some .local || sc.names.lookup x == some .cell)
def okLoc (N : List Str) (sc : Scope) (i : Nat) (x : Str) : Bool := N[i]? == some x && sc.names.lookup x == some .local
def okGl (sc : Scope) (x : Str) : Bool := sc.names.lookup x == some .globalImplicit && !(x == ("__debug__" : Str)) && !(x == ("__name__" : Str))
def notStar : Expr → Bool
  | .Starred .. => false
  | _ => true
theorem star_cons {e : Expr} {es : List Expr} {env : Env} (h : notStar e = true) : starEach (e :: es) env = (false, eval e env) :: starEach es env := by
  cases e <;> first | rfl | cases h
def plainIx : Expr → Bool
  | .Name .. => true
  | .BinOp .. => true
  | .Constant (.int _) .. => true
  | .Call .. => true
  | .Subscript .. => true
  | .Attribute .. => true
  | .UnaryOp .. => true
  | _ => false
theorem plainIx_ok {b : Expr} (h : plainIx b = true) : PlainIx b := by
  intro o i
  cases b <;> first | rfl | cases h
def notComp : Expr → Bool
  | .ListComp .. => false
  | .SetComp .. => false
  | .DictComp .. => false
  | _ => true
theorem notComp_ok {e : Expr} {t : Option Expr} {l : Nat} {env : Env} (h : notComp e = true) : swapsWith e t l env = pure false := by
  cases e <;> first | rfl | cases h
def isNameE : Expr → Bool
  | .Name .. => true
  | _ => false
theorem attr_name {e : Expr} {f : Str} {env : Env} (h : isNameE e = true) : attributeBase e f env (eval e env) = eval e env := by
  cases e <;> first | rfl | cases h
section
variable {X : Cx}
theorem pek_ix {a b : Expr} {ta tb : TE} {pos : Pos} {r : R2} (hr : IxR X r) (ha : PE X a ta) (hb : PE X b tb) (hs : plainIx b = true := by rfl) : PE X (.Subscript a b pos) (tOp r ta tb) := pe_ix hr ha hb (plainIx_ok hs)
theorem pek_fld {e : Expr} {f : Str} {pos : Pos} {ta : TE} (he : PE X e ta) (hb : isNameE e = true := by rfl) : PE X (.Attribute e f pos) (tFld X.K ta f) := pe_fld he (attr_name hb)
theorem psk_fld {o value : Expr} {f : Str} {pos pos' : Pos} {ta tv : TE} (ha : PE X o ta) (hv : PE X value tv) (hs : notComp value = true := by rfl) : PS X (.Assign [.Attribute o f pos'] value pos) (sFld X.K ta tv f) := ps_fld ha hv (notComp_ok hs)
theorem pvk (i : Nat) {x : Str} {pos : Pos} (h : okVar X.N X.env.scope i x = true) : PE X (.Name x pos) (tVar i) := by
  unfold okVar at h
  simp only [Bool.and_eq_true, Bool.or_eq_true, beq_iff_eq, Bool.not_eq_true'] at h
  obtain ⟨⟨⟨h1, h2⟩, h3⟩, h4⟩ := h
  refine pe_var h1 ?_ h3 h4
  rcases h2 with (h2 | h2) | h2
  · exact .inl h2
  · exact .inr (.inl h2)
  · exact .inr (.inr h2)
theorem okSet_get {i : Nat} {x : Str} (h : okSet X.N X.env.scope i x = true) : X.N[i]? = some x ∧ Loc X.env.scope x := by
  unfold okSet at h
  simp only [Bool.and_eq_true, Bool.or_eq_true, beq_iff_eq] at h
  exact h
theorem okLoc_get {i : Nat} {x : Str} (h : okLoc X.N X.env.scope i x = true) : X.N[i]? = some x ∧ X.env.scope.names.lookup x = some .local := by
  unfold okLoc at h
  simp only [Bool.and_eq_true, beq_iff_eq] at h
  exact h
theorem okGl_get {x : Str} (h : okGl X.env.scope x = true) : Gl X x ∧ (x == ("__debug__" : Str)) = false ∧ x ≠ "__name__" := by
  unfold okGl at h
  simp only [Bool.and_eq_true, beq_iff_eq, Bool.not_eq_true'] at h
  obtain ⟨⟨h1, h2⟩, h3⟩ := h
  exact ⟨h1, h2, fun z => by rw [z] at h3; simp at h3⟩
theorem psk_set {i : Nat} {x : Str} {e : Expr} {te : TE} {pos pos' : Pos} (hN : X.N.Nodup) (h : okSet X.N X.env.scope i x = true) (he : PE X e te) (hs : notComp e = true := by rfl) (hf : X.fn x = true := by rfl) :
    PS X (.Assign [.Name x pos'] e pos) (tAsg te (gName i)) := ps_set hN (okSet_get h).1 (okSet_get h).2 he (notComp_ok hs) (.inl hf)
theorem pgk_name {i : Nat} {x : Str} {pos : Pos} (hN : X.N.Nodup) (h : okSet X.N X.env.scope i x = true) (hf : X.fn x = true := by rfl) : PG X (.Name x pos) (gName i) := pg_name hN (okSet_get h).1 (okSet_get h).2 (.inl hf)
/-- in a block -/
theorem pgk_own {i : Nat} {x : Str} {pos : Pos} (hN : X.N.Nodup) (h : okLoc X.N X.env.scope i x = true) : PG X (.Name x pos) (gName i) := pg_name hN (okLoc_get h).1 (.inl (okLoc_get h).2) (.inr (okLoc_get h).2)
theorem pac {e : Expr} {es : List Expr} {te : TE} {t : TA} (ha : PE X e te) (hr : PA X es t) (h : notStar e = true := by rfl) : PA X (e :: es) (tCons te t) := pa_cons ha hr (star_cons h)
def noStars (es : List Expr) : Bool := es.all notStar
theorem stars_plain : ∀ {es : List Expr} {env : Env} {pos : Pos}, noStars es = true → (backTo pos (starEach es env)).any (·.1) = false
  | [], _, _, _ => rfl
  | e :: es, env, pos, h => by
    unfold noStars at h
    simp only [List.all_cons, Bool.and_eq_true] at h
    rw [star_cons h.1]
    show (false || (backTo pos (starEach es env)).any (·.1)) = false
    rw [Bool.false_or]
    exact stars_plain h.2
theorem pek_fn {k j : Nat} {x : Str} {ps : List Str} {sp : Sp} {e : Expr} {es : List Expr} {t : TA} {p pos : Pos} (c : Callee X.prog X.w X.K X.mg X.base k x ps sp) (hr : Room j X.A) (hg : okGl X.env.scope x = true) (ha : PA X (e :: es) t) (hk : k ≤ j := by decide) (hst : noStars (e :: es) = true := by rfl) :
    PE X (.Call (.Name x p) (e :: es) [] pos) (tCall sp [] E0 t) := by
  have h1 := hst
  unfold noStars at h1
  simp only [List.all_cons, Bool.and_eq_true] at h1
  exact pe_fn c hr (okGl_get hg).1 ha hk (okGl_get hg).2.1 (star_cons h1.1) (stars_plain h1.2)
theorem pek_new {k j : Nat} {x : Str} {C : Addr} {ps : List Str} {sp : Sp} {e : Expr} {es : List Expr} {t : TA} {p pos : Pos} (c : Maker X.prog X.w X.K X.mg X.base k x C ps sp) (hr : Room j X.A) (hg : okGl X.env.scope x = true) (ha : PA X (e :: es) t) (hk : k + 1 ≤ j := by decide) (hst : noStars (e :: es) = true := by rfl) :
    PE X (.Call (.Name x p) (e :: es) [] pos) (tMake C sp [] E0 t) := by
  have h1 := hst
  unfold noStars at h1
  simp only [List.all_cons, Bool.and_eq_true] at h1
  exact pe_new c hr (okGl_get hg).1 ha hk (okGl_get hg).2.1 (star_cons h1.1) (stars_plain h1.2)
theorem pek_callB {x : Str} {id : String} {r : List V → Hp → VK → Prop} {e : Expr} {es : List Expr} {t : TA} {p pos : Pos} (hc : CallR X (.builtin id) r) (hg : okGl X.env.scope x = true) (hm : X.mg x = none) (hv : bootBuiltins x = some (.builtin id)) (ha : PA X (e :: es) t) (hst : noStars (e :: es) = true := by rfl) :
    PE X (.Call (.Name x p) (e :: es) [] pos) (tCB r t) := by
  have h1 := hst
  unfold noStars at h1
  simp only [List.all_cons, Bool.and_eq_true] at h1
  exact pe_callB hc (okGl_get hg).1 hm hv ha (okGl_get hg).2.2 (okGl_get hg).2.1 (star_cons h1.1) (stars_plain h1.2)
theorem pek_callTy {x : Str} {T : String} {r : List V → Hp → VK → Prop} {e : Expr} {es : List Expr} {t : TA} {p pos : Pos} (hc : CallR X (.type T) r) (hg : okGl X.env.scope x = true) (hm : X.mg x = none) (hv : bootBuiltins x = some (.type T)) (ha : PA X (e :: es) t) (hst : noStars (e :: es) = true := by rfl) :
    PE X (.Call (.Name x p) (e :: es) [] pos) (tCB r t) := by
  have h1 := hst
  unfold noStars at h1
  simp only [List.all_cons, Bool.and_eq_true] at h1
  exact pe_callTy hc (okGl_get hg).1 hm hv ha (okGl_get hg).2.2 (okGl_get hg).2.1 (star_cons h1.1) (stars_plain h1.2)
theorem pek_glob {x : Str} {v : V} {u : Value} {pos : Pos} (hg : okGl X.env.scope x = true) (hm : X.mg x = some u) (r : RelV v u) : PE X (.Name x pos) (tC v) := pe_glob (okGl_get hg).1 hm r (okGl_get hg).2.1
theorem pek_bltn {x : Str} {v : V} {u : Value} {pos : Pos} (hg : okGl X.env.scope x = true) (hm : X.mg x = none) (hv : bootBuiltins x = some u) (r : RelV v u) : PE X (.Name x pos) (tC v) := pe_bltn (okGl_get hg).1 hm hv r (okGl_get hg).2.2 (okGl_get hg).2.1
theorem pik_range1 {tg : Expr} {a : Expr} {ta : TA} {p pos : Pos} (hg : okGl X.env.scope "range" = true) (hm : X.mg "range" = none) (ha : PA X [a] ta) (hs : notStar a = true := by rfl) : PI X tg (.Call (.Name "range" p) [a] [] pos) (iRng1 ta) := pi_range1 (okGl_get hg).1 hm ha (star_cons hs)
theorem pik_range2 {tg : Expr} {a b : Expr} {ta : TA} {p pos : Pos} (hg : okGl X.env.scope "range" = true) (hm : X.mg "range" = none) (ha : PA X [a, b] ta) (hs : noStars [a, b] = true := by rfl) : PI X tg (.Call (.Name "range" p) [a, b] [] pos) (iRng2 ta) := by
  have h1 := hs
  unfold noStars at h1
  simp only [List.all_cons, Bool.and_eq_true] at h1
  refine pi_range2 (okGl_get hg).1 hm ha ?_ (star_cons h1.2.1)
  rw [star_cons h1.1, star_cons h1.2.1]
  rfl
theorem pik_enum {a : Expr} {ta : TA} {p pos : Pos} {elts : List Expr} {x1 : Nat} {tpos : Pos} (hg : okGl X.env.scope "enumerate" = true) (hm : X.mg "enumerate" = none) (ha : PA X [a] ta) (hs : notStar a = true := by rfl) : PI X (.Tuple elts x1 tpos) (.Call (.Name "enumerate" p) [a] [] pos) (iEnum X.K ta) := pi_enum (okGl_get hg).1 hm ha (star_cons hs)
end
/-- a block's table over the def's -/
def relabelS (scope sc : Scope) : Scope :=
  { scope with names := scope.names.map fun (n, k) => if (k == .free && sc.kind == .function && sc.names.lookup n == some .cell) then (n, .cell) else (n, k) }
theorem relabel_S (scope : Scope) (env : Env) : relabel scope env = relabelS scope env.scope := rfl
def csB' (N : List Str) (sc : Scope) (own N' : List Str) (scope : Scope) : Bool :=
  scope.kind == .function && scope.names.all (fun y => y.2 != .cell) && scope.names.all (fun y => y.2 != .local || scope.names.lookup y.1 == some .local) &&
  scope.names.all (fun y => y.2 != .free || sc.names.lookup y.1 == some .cell || sc.names.lookup y.1 == some .free) && N'.length == own.length + N.length &&
  ((N'.drop own.length).zip N).all (fun p => p.1 == p.2 || !(scope.names.contains (p.1, NameKind.free))) && (N'.drop own.length).all (fun x => (relabelS scope sc).names.lookup x != some .local)
theorem csk {X : Cx} {own N' : List Str} {scope : Scope} (h : csB' X.N X.env.scope own N' scope = true) : CompScope X own N' scope := cs h
end L2

set_option Elab.async false
set_option linter.all false
set_option maxRecDepth 100000
set_option maxHeartbeats 4000000
namespace L2
open PySem PySem.Spec PyProof.Rows
/-! ### the judgements as structures: an elaborator never looks into them -/
structure QE (X : Cx) (e : Expr) (t : TE) : Prop where
  h : PE X e t
structure QT (X : Cx) (e : Expr) (t : TT) : Prop where
  h : PT X e t
structure QW (X : Cx) (e : Expr) (t : TT) : Prop where
  h : PW X e t
structure QA (X : Cx) (es : List Expr) (t : TA) : Prop where
  h : PA X es t
structure QS (X : Cx) (st : Stmt) (t : TS) : Prop where
  h : PS X st t
structure QSs (X : Cx) (st : List Stmt) (t : TS) : Prop where
  h : PSs X st t
structure QG (X : Cx) (tg : Expr) (t : TG) : Prop where
  h : PG X tg t
structure QGs (X : Cx) (ts : List Expr) (t : TGs) : Prop where
  h : PGs X ts t
structure QI (X : Cx) (tg iter : Expr) (wi : TI) : Prop where
  h : PI X tg iter wi
structure QO (X : Cx) (e : Option Expr) (t : TO) : Prop where
  h : PO X e t
structure QTs (X : Cx) (es : List Expr) (t : TT) : Prop where
  h : PTs X es t
abbrev nNil : TA := fun _ H Q => Q [] H
abbrev nCons (ta : TE) (tr : TA) : TA := fun σ H Q => ta σ H fun x H1 => tr σ H1 fun xs H2 => Q (x :: xs) H2
abbrev nC (v : V) : TE := fun _ H Q => Q v H
abbrev nCB (r : List V → Hp → VK → Prop) (t : TA) : TE := fun σ H Q => t σ H fun vs H1 => r vs H1 Q
abbrev nCall (sp : Sp) (t : TA) : TE := fun σ H Q => t σ H fun vs H1 => sp (vs ++ []) H1 Q E0
def truthE : Expr → Bool
  | .UnaryOp .Not .. => false
  | .BoolOp .. => false
  | .IfExp .. => false
  | .Compare .. => false
  | _ => true
theorem truth_ok {a : Expr} {env : Env} (h : truthE a = true) : ∀ whole, isTrue a env whole = (do let v ← whole; standAt a.pos; holding [v] (truthy v)) := by
  intro whole
  cases a with
  | UnaryOp op x p => cases op <;> first | rfl | cases h
  | _ => first | rfl | cases h
def notSet : Expr → Bool
  | .Set .. => false
  | _ => true
theorem notSet_ok {e : Expr} {env : Env} (h : notSet e = true) : ∀ x, foldedSetIterable e env x = pure x := by
  intro x
  cases e <;> first | rfl | cases h
def plainBase : Expr → Bool
  | .Call .. => false
  | _ => true
theorem base_ok {e : Expr} {f : Str} {env : Env} (h : plainBase e = true) : attributeBase e f env (eval e env) = eval e env := by
  cases e <;> first | rfl | cases h
theorem asg_cons {e : Expr} {es : List Expr} {env : Env} (h : notStar e = true) : assignEach (e :: es) env = (false, assign e env) :: assignEach es env := by
  cases e <;> first | rfl | cases h
theorem asg_len : ∀ {es : List Expr} {env : Env}, noStars es = true → (assignEach es env).length = es.length ∧ (assignEach es env).findIdx? (·.1) = none
  | [], _, _ => ⟨rfl, rfl⟩
  | e :: es, env, h => by
    unfold noStars at h
    simp only [List.all_cons, Bool.and_eq_true] at h
    obtain ⟨h1, h2⟩ := asg_len (es := es) (env := env) h.2
    rw [asg_cons h.1, List.length_cons, List.length_cons, h1]
    exact ⟨rfl, by rw [List.findIdx?_cons]; simp [h2]⟩
theorem few_ok {e : Expr} {es : List Expr} {env : Env} {cpos : Pos} (h : noStars (e :: es) = true) (hl : es.length < 28) : ((backTo cpos (starEach (e :: es) env)).all (fun x => !x.1) && (backToKw cpos (keywordEach [] env)).all (fun x => x.1.isSome)
      && decide ((e :: es).length + ([] : List Keyword).length + (if ([] : List Keyword).isEmpty then 0 else 1) < 30)) = true := by
  have h1 := stars_plain (env := env) (pos := cpos) h
  have h2 : (backTo cpos (starEach (e :: es) env)).all (fun x => !x.1) = true := by
    rw [List.all_eq_true]
    intro x hx
    rw [List.any_eq_false] at h1
    have := h1 x hx
    simpa using this
  rw [h2]
  have h3 : (backToKw cpos (keywordEach [] env)).all (fun x => x.1.isSome) = true := rfl
  rw [h3]
  simp
  omega
section
variable {X : Cx} {a b c e : Expr} {es : List Expr} {ta tb tc te : TE} {tA tB : TT} {t : TA} {pos p : Pos}
theorem qe_int {i : Int} {j : Nat} : QE X (.Constant (.int i) j pos) (nC (.int i)) := ⟨pe_int⟩
theorem qe_bl {b : Bool} {j : Nat} : QE X (.Constant (.bool b) j pos) (nC (.bl b)) := ⟨pe_bl⟩
theorem qe_non {j : Nat} : QE X (.Constant .none j pos) (nC .non) := ⟨pe_non⟩
theorem qe_str {x : Str} {j : Nat} : QE X (.Constant (.str x) j pos) (nC (.str x)) := ⟨pe_str⟩
theorem qv (i : Nat) {x : Str} (h : okVar X.N X.env.scope i x = true) : QE X (.Name x pos) (tVar i) := ⟨pvk i h⟩
theorem qe_glob {x : Str} {v : V} {u : Value} (hg : okGl X.env.scope x = true) (hm : X.mg x = some u) (r : RelV v u) : QE X (.Name x pos) (nC v) := ⟨pek_glob hg hm r⟩
theorem qe_bltn {x : Str} {v : V} {u : Value} (hg : okGl X.env.scope x = true) (hm : X.mg x = none) (hv : bootBuiltins x = some u) (r : RelV v u) : QE X (.Name x pos) (nC v) := ⟨pek_bltn hg hm hv r⟩
theorem qe_op {op : Operator} {r : R2} (ho : OpR X (binaryOp op) r) (ha : QE X a ta) (hb : QE X b tb) : QE X (.BinOp a op b pos) (tOp r ta tb) := ⟨pe_op ho ha.h hb.h⟩
theorem qe_un {op : UnaryOp} {r : V → Hp → VK → Prop} (ho : UnR X (unaryOp op) r) (ha : QE X a ta) : QE X (.UnaryOp op a pos) (tUn r ta) := ⟨pe_un ho ha.h⟩
theorem qe_cmp {op : CmpOp} {r : R2} (ho : OpR X (compareOp op) r) (ha : QE X a ta) (hb : QE X b tb) (hm : behindInMarks op b = false := by first | exact nomark _ | with_unfolding_all rfl) : QE X (.Compare a [op] [b] pos) (tOp r ta tb) := ⟨pe_cmpR ho ha.h hb.h hm⟩
theorem qt_cmp {op : CmpOp} {r : R2} (ho : OpR X (compareOp op) r) (ha : QE X a ta) (hb : QE X b tb) (hm : behindInMarks op b = false := by first | exact nomark _ | with_unfolding_all rfl) : QT X (.Compare a [op] [b] pos) (tTest (tOp r ta tb)) := ⟨pt_cmpR ho ha.h hb.h hm⟩
theorem qe_isN {j : Nat} {pos' : Pos} (ha : QE X a ta) : QE X (.Compare a [.Is] [.Constant .none j pos'] pos) (tIsN ta) := ⟨pe_cmp (pc_isN ha.h)⟩
theorem qe_notN {j : Nat} {pos' : Pos} (ha : QE X a ta) : QE X (.Compare a [.IsNot] [.Constant .none j pos'] pos) (tNotN ta) := ⟨pe_cmp (pc_notN ha.h)⟩
theorem qt_isN {j : Nat} {pos' : Pos} (ha : QE X a ta) : QT X (.Compare a [.Is] [.Constant .none j pos'] pos) (L2.tB (tIsN ta)) := ⟨pt_cmp (pc_isN ha.h)⟩
theorem qt_notN {j : Nat} {pos' : Pos} (ha : QE X a ta) : QT X (.Compare a [.IsNot] [.Constant .none j pos'] pos) (L2.tB (tNotN ta)) := ⟨pt_cmp (pc_notN ha.h)⟩
theorem qe_chain {op op' : CmpOp} {r r' : R2} (ho : OpR X (compareOp op) r) (ho' : OpR X (compareOp op') r') (ha : QE X a ta) (hb : QE X b tb) (hc : QE X c tc) (hm : lastMarks [op, op'] [b, c] = false := by with_unfolding_all rfl) : QE X (.Compare a [op, op'] [b, c] pos) (tChain r r' ta tb tc) := ⟨pe_chain ho ho' ha.h hb.h hc.h hm⟩
theorem qt_chain {op op' : CmpOp} {r r' : R2} (ho : OpR X (compareOp op) r) (ho' : OpR X (compareOp op') r') (ha : QE X a ta) (hb : QE X b tb) (hc : QE X c tc) (hm : lastMarks [op, op'] [b, c] = false := by with_unfolding_all rfl) : QT X (.Compare a [op, op'] [b, c] pos) (tTest (tChain r r' ta tb tc)) := ⟨pt_chain ho ho' ha.h hb.h hc.h hm⟩
theorem qe_one {op : BoolOp} (h : QE X a ta) : QE X (.BoolOp op [a] pos) ta := ⟨pe_one h.h⟩
theorem qe_and {rest : List Expr} (ha : QE X a ta) (hb : QE X (.BoolOp .And (b :: rest) pos) tb) : QE X (.BoolOp .And (a :: b :: rest) pos) (tAndV ta tb) := ⟨pe_and ha.h hb.h⟩
theorem qe_or {rest : List Expr} (ha : QE X a ta) (hb : QE X (.BoolOp .Or (b :: rest) pos) tb) : QE X (.BoolOp .Or (a :: b :: rest) pos) (tOrV ta tb) := ⟨pe_or ha.h hb.h⟩
theorem qe_not (ha : QE X a ta) : QE X (.UnaryOp .Not a pos) (tNotV ta) := ⟨pe_not ha.h⟩
theorem qw_and1 (ha : QT X a tA) : QW X (.BoolOp .And [a] pos) tA := ⟨pw_and1 ha.h⟩
theorem qw_or1 (ha : QT X a tA) : QW X (.BoolOp .Or [a] pos) tA := ⟨pw_or1 ha.h⟩
theorem qw_and {rest : List Expr} (ha : QT X a tA) (hb : QW X (.BoolOp .And (b :: rest) pos) tB) : QW X (.BoolOp .And (a :: b :: rest) pos) (tAnd tA tB) := ⟨pw_and ha.h hb.h⟩
theorem qw_or {rest : List Expr} (ha : QT X a tA) (hb : QW X (.BoolOp .Or (b :: rest) pos) tB) : QW X (.BoolOp .Or (a :: b :: rest) pos) (tOr tA tB) := ⟨pw_or ha.h hb.h⟩
theorem qt_w (h : QW X a tA) : QT X a tA := ⟨h.h.pt⟩
theorem qt_not (ha : QT X a tA) : QT X (.UnaryOp .Not a pos) (tNot tA) := ⟨pt_not ha.h⟩
theorem qt_val (ha : QE X a ta) (h : truthE a = true := by rfl) : QT X a (fun σ H Q => ta σ H fun x H' => ∃ k, TruV X.K x H' k ∧ Q k H') := ⟨pt_truth ha.h (truth_ok h)⟩
theorem qe_ifExp (hc : QT X c tA) (ha : QE X a ta) (hb : QE X b tb) : QE X (.IfExp c a b pos) (tIf tA ta tb) := ⟨pe_ifExp hc.h ha.h hb.h⟩
theorem qa_nil : QA X [] nNil := ⟨pa_nil⟩
theorem qa_cons (ha : QE X e te) (hr : QA X es t) (h : notStar e = true := by rfl) : QA X (e :: es) (nCons te t) := ⟨pac ha.h hr.h h⟩
theorem qe_lst (h : QA X es t) : QE X (.List es pos) (tLst t) := ⟨pe_lst h.h⟩
theorem qe_tup {x1 : Nat} (h : QA X es t) : QE X (.Tuple es x1 pos) (tTup t) := ⟨pe_tup h.h⟩
theorem qe_ix {r : R2} (hr : IxR X r) (ha : QE X a ta) (hb : QE X b tb) (hs : plainIx b = true := by rfl) : QE X (.Subscript a b pos) (tOp r ta tb) := ⟨pek_ix hr ha.h hb.h hs⟩
theorem qo_none : QO X none tNoPart := ⟨po_none⟩
theorem qo_some (h : QE X e te) : QO X (some e) (tPart te) := ⟨po_some h.h⟩
theorem qe_slice {lo hi : Option Expr} {tl th : TO} {p2 : Pos} {r : V → Option Int → Option Int → Hp → VK → Prop} (hr : SlR X r) (he : QE X e te) (hl : QO X lo tl) (hu : QO X hi th) : QE X (.Subscript e (.Slice lo hi none p2) pos) (tSl r te tl th) := ⟨pe_slice hr he.h hl.h hu.h⟩
theorem qe_fld {f : Str} (he : QE X e ta) (hb : plainBase e = true := by rfl) : QE X (.Attribute e f pos) (tFld X.K ta f) := ⟨pe_fld he.h (base_ok hb)⟩
theorem qe_fn {k j : Nat} {x : Str} {ps : List Str} {sp : Sp} (c : Callee X.prog X.w X.K X.mg X.base k x ps sp) (hr : Room j X.A) (hg : okGl X.env.scope x = true) (ha : QA X (e :: es) t) (hk : k ≤ j := by decide) (hst : noStars (e :: es) = true := by rfl) : QE X (.Call (.Name x p) (e :: es) [] pos) (nCall sp t) := ⟨pek_fn c hr hg ha.h hk hst⟩
theorem qe_new {k j : Nat} {x : Str} {C : Addr} {ps : List Str} {sp : Sp} (c : Maker X.prog X.w X.K X.mg X.base k x C ps sp) (hr : Room j X.A) (hg : okGl X.env.scope x = true) (ha : QA X (e :: es) t) (hk : k + 1 ≤ j := by decide) (hst : noStars (e :: es) = true := by rfl) : QE X (.Call (.Name x p) (e :: es) [] pos) (tMake C sp [] E0 t) := ⟨pek_new c hr hg ha.h hk hst⟩
theorem qe_callB {x : Str} {id : String} {r : List V → Hp → VK → Prop} (hc : CallR X (.builtin id) r) (hg : okGl X.env.scope x = true) (hm : X.mg x = none) (hv : bootBuiltins x = some (.builtin id)) (ha : QA X (e :: es) t) (hst : noStars (e :: es) = true := by rfl) : QE X (.Call (.Name x p) (e :: es) [] pos) (nCB r t) := ⟨pek_callB hc hg hm hv ha.h hst⟩
theorem qe_callTy {x : Str} {T : String} {r : List V → Hp → VK → Prop} (hc : CallR X (.type T) r) (hg : okGl X.env.scope x = true) (hm : X.mg x = none) (hv : bootBuiltins x = some (.type T)) (ha : QA X (e :: es) t) (hst : noStars (e :: es) = true := by rfl) : QE X (.Call (.Name x p) (e :: es) [] pos) (nCB r t) := ⟨pek_callTy hc hg hm hv ha.h hst⟩
theorem qe_bm {o : Expr} {to : TE} {name : Str} {apos cpos : Pos} {T id : String} {r : V → List V → Hp → VK → Prop} (pa : PlainAttrs T) (slot : Slot T name id) (hty : typeOf (.builtin id) = pure (.type "method_descriptor")) (hm : MtR X id r) (ho : QE X o to) (ha : QA X (e :: es) t)
    (hb : plainBase o = true := by rfl) (hst : noStars (e :: es) = true := by rfl) (hl : es.length < 28 := by decide) (hline : (apos.endLine == cpos.line) = true := by rfl) : QE X (.Call (.Attribute o name apos) (e :: es) [] cpos) (tBM X.K T r to t) := by
  have h1 := hst
  unfold noStars at h1
  simp only [List.all_cons, Bool.and_eq_true] at h1
  exact ⟨pe_bm pa slot hty hm ho.h ha.h (base_ok hb) (few_ok hst hl) hline (star_cons h1.1) (stars_plain h1.2)⟩
theorem qe_bm0 {o : Expr} {to : TE} {name : Str} {apos cpos : Pos} {T id : String} {r : V → List V → Hp → VK → Prop} (pa : PlainAttrs T) (slot : Slot T name id) (hty : typeOf (.builtin id) = pure (.type "method_descriptor")) (hm : MtR X id r) (ho : QE X o to)
    (hb : plainBase o = true := by rfl) (hline : (apos.endLine == cpos.line) = true := by rfl) : QE X (.Call (.Attribute o name apos) [] [] cpos) (tBM0 X.K T r to) := ⟨pe_bm0 pa slot hty hm ho.h (base_ok hb) hline⟩
theorem qe_maxD {d : Expr} {td : TE} {kpos : Pos} (hc : X.calm = true) (hg : okGl X.env.scope "max" = true) (hm : X.mg "max" = none) (he : QE X e te) (hd : QE X d td) (h1 : notStar e = true := by rfl) : QE X (.Call (.Name "max" p) [e] [⟨some "default", d, kpos⟩] pos) (tMaxD X.K te td) :=
  ⟨pe_maxD hc (okGl_get hg).1 hm he.h hd.h (star_cons h1) (by rw [star_cons h1]; rfl) (stars_plain (by unfold noStars; simp [h1]))⟩
/-! blocks, targets, loops -/
theorem qg_name {i : Nat} {x : Str} (hN : X.N.Nodup) (h : okSet X.N X.env.scope i x = true) (hf : X.fn x = true := by rfl) : QG X (.Name x pos) (gName i) := ⟨pgk_name hN h hf⟩
theorem qg_own {i : Nat} {x : Str} (hN : X.N.Nodup) (h : okLoc X.N X.env.scope i x = true) : QG X (.Name x pos) (gName i) := ⟨pgk_own hN h⟩
theorem qgs_nil : QGs X [] gNil := ⟨pgs_nil⟩
theorem qgs_cons {tg : TG} {u : TGs} (h1 : QG X e tg) (h2 : QGs X es u) (h : notStar e = true := by rfl) : QGs X (e :: es) (gCons tg u) := ⟨pgs_cons h1.h h2.h (by rw [asg_cons h]; rfl)⟩
theorem qg_tup {k : Nat} {u : TGs} (hc : X.calm = true) (h : QGs X es u) (hst : noStars es = true := by rfl) : QG X (.Tuple es k pos) (gTup X.K es.length u) := ⟨pg_tup hc h.h (asg_len hst).1 (asg_len hst).2⟩
theorem qg_lst {k : Nat} {u : TGs} (hc : X.calm = true) (h : QGs X es u) (hst : noStars es = true := by rfl) : QG X (.Tuple es k pos) (gLst X.K es.length u) := ⟨pg_lst hc h.h (asg_len hst).1 (asg_len hst).2⟩
theorem qi_list {tg : Expr} (hl : QE X e te) : QI X tg e (iList X.K te) := ⟨pi_list hl.h⟩
theorem qi_tup {tg : Expr} (hl : QE X e te) : QI X tg e (iTup X.K te) := ⟨pi_tup hl.h⟩
theorem qi_str {tg : Expr} (hl : QE X e te) : QI X tg e (iStr te) := ⟨pi_str hl.h⟩
theorem qi_range1 {tg : Expr} (hg : okGl X.env.scope "range" = true) (hm : X.mg "range" = none) (ha : QA X [a] t) (hs : notStar a = true := by rfl) : QI X tg (.Call (.Name "range" p) [a] [] pos) (iRng1 t) := ⟨pik_range1 hg hm ha.h hs⟩
theorem qi_range2 {tg : Expr} (hg : okGl X.env.scope "range" = true) (hm : X.mg "range" = none) (ha : QA X [a, b] t) (hs : noStars [a, b] = true := by rfl) : QI X tg (.Call (.Name "range" p) [a, b] [] pos) (iRng2 t) := ⟨pik_range2 hg hm ha.h hs⟩
theorem qi_enum {elts : List Expr} {x1 : Nat} {tpos : Pos} (hg : okGl X.env.scope "enumerate" = true) (hm : X.mg "enumerate" = none) (ha : QA X [a] t) (hs : notStar a = true := by rfl) : QI X (.Tuple elts x1 tpos) (.Call (.Name "enumerate" p) [a] [] pos) (iEnum X.K t) := ⟨pik_enum hg hm ha.h hs⟩
theorem qts_nil : QTs X [] tAll := ⟨pts_nil⟩
theorem qts_one (h : QT X c tA) : QTs X [c] tA := ⟨pts_one h.h⟩
theorem qe_comp {own N' : List Str} {scope : Scope} {elt tg iter : Expr} {ifs : List Expr} {wi : TI} {g : TG} {tt : TT} (hc : X.calm = true) (S : csB' X.N X.env.scope own N' scope = true) (hi : QI X tg iter wi)
    (hg : ∀ C fp s H, QG (compCx X N' scope C fp s H) tg g) (ht : ∀ C fp s H, QTs (compCx X N' scope C fp s H) ifs tt) (he : ∀ C fp s H, QE (compCx X N' scope C fp s H) elt te)
    (hs : notSet iter = true := by rfl) : QE X (.ListComp elt [⟨tg, iter, ifs, 0⟩] scope pos) (tComp own.length wi g tt te) :=
  ⟨pe_comp hc (csk S) hi.h (fun C fp s H => (hg C fp s H).h) (fun C fp s H => (ht C fp s H).h) (fun C fp s H => (he C fp s H).h) (notSet_ok hs)⟩
theorem qs_setcomp {own N' : List Str} {scope : Scope} {elt tg iter : Expr} {ifs : List Expr} {spos py : Pos} {wi : TI} {g : TG} {tt : TT} {i : Nat} {y : Str} (hN : X.N.Nodup) (h : okSet X.N X.env.scope i y = true) (hc : X.calm = true) (S : csB' X.N X.env.scope own N' scope = true) (hi : QI X tg iter wi)
    (hg : ∀ C fp s H, QG (compCx X N' scope C fp s H) tg g) (ht : ∀ C fp s H, QTs (compCx X N' scope C fp s H) ifs tt) (he : ∀ C fp s H, QE (compCx X N' scope C fp s H) elt te)
    (hsw : swapsWith (.ListComp elt [⟨tg, iter, ifs, 0⟩] scope pos) (some (.Name y py)) spos.line X.env = pure true) (hs : notSet iter = true := by rfl) (hf : X.fn y = true := by rfl) :
    QS X (.Assign [.Name y py] (.ListComp elt [⟨tg, iter, ifs, 0⟩] scope pos) spos) (tAsg (tComp own.length wi g tt te) (gName i)) :=
  ⟨ps_setcomp hN (okSet_get h).1 (okSet_get h).2 hc (csk S) hi.h (fun C fp s H => (hg C fp s H).h) (fun C fp s H => (ht C fp s H).h) (fun C fp s H => (he C fp s H).h) hsw (notSet_ok hs) (.inl hf)⟩
theorem qs_set {i : Nat} {x : Str} {pos' : Pos} (hN : X.N.Nodup) (h : okSet X.N X.env.scope i x = true) (he : QE X e te) (hs : notComp e = true := by rfl) (hf : X.fn x = true := by rfl) : QS X (.Assign [.Name x pos'] e pos) (tAsg te (gName i)) := ⟨psk_set hN h he.h hs hf⟩
/-- name (a cell) = [..] -/
theorem qs_setc {i : Nat} {x : Str} {pos' : Pos} (hN : X.N.Nodup) (h : okSet X.N X.env.scope i x = true) (he : QE X e te) (hs : swapsWith e (some (.Name x pos')) pos.line X.env = pure false) (hf : X.fn x = true := by rfl) : QS X (.Assign [.Name x pos'] e pos) (tAsg te (gName i)) := ⟨ps_set hN (okSet_get h).1 (okSet_get h).2 he.h hs (.inl hf)⟩
theorem qs_asg {tg : Expr} {g : TG} (he : QE X e te) (hg : QG X tg g) (hs : notComp e = true := by rfl) (hw : swappedStores [tg] e X.env = pure none := by rfl) (h1 : notStar tg = true := by rfl) : QS X (.Assign [tg] e pos) (tAsg te g) :=
  ⟨ps_asg he.h hg.h (show swapsWith e (some tg) pos.line X.env = pure false from notComp_ok hs) hw (by rw [asg_cons h1]; rfl)⟩
theorem qs_fld {o : Expr} {f : Str} {pos' : Pos} (ha : QE X o ta) (hv : QE X e te) (hs : notComp e = true := by rfl) : QS X (.Assign [.Attribute o f pos'] e pos) (sFld X.K ta te f) := ⟨psk_fld ha.h hv.h hs⟩
theorem qs_if {ss tt : List Stmt} {u v : TS} (hc : QT X c tA) (ha : QSs X ss u) (hb : QSs X tt v) : QS X (.If c ss tt pos) (tIfS tA u v) := ⟨ps_if hc.h ha.h hb.h⟩
theorem qs_for {tg iter : Expr} {body : List Stmt} {wi : TI} {g : TG} {u : TS} (hp : PassesOwn (model X.prog X.w) X.A X.env X.xe) (hc : X.calm = true) (hi : QI X tg iter wi) (hg : QG X tg g) (hb : QSs X body u) (hs : notSet iter = true := by rfl) : QS X (.For tg iter body [] pos) (tFor wi g u) :=
  ⟨ps_for hp hc hi.h hg.h hb.h (notSet_ok hs)⟩
theorem qs_ret (he : QE X e te) : QS X (.Return (some e) pos) (tRet te) := ⟨ps_ret he.h⟩
theorem qs_retN : QS X (.Return none pos) tRetN := ⟨ps_retN⟩
theorem qs_expr (he : QE X e te) (hs : notComp e = true := by rfl) : QS X (.Expr e pos) (tDrop te) := ⟨ps_expr he.h (notComp_ok hs)⟩
theorem qs_pass : QS X (.Pass pos) tNext := ⟨ps_pass⟩
theorem qs_never {st : Stmt} : QS X st tNever := ⟨ps_never⟩
theorem qss_nil : QSs X [] tNext := ⟨pss_nil⟩
theorem qss_cons {st : Stmt} {rest : List Stmt} {u v : TS} (h1 : QS X st u) (h2 : QSs X rest v) : QSs X (st :: rest) (tSeq u v) := ⟨pss_cons h1.h h2.h⟩
theorem qss_one {st : Stmt} {u : TS} (h1 : QS X st u) : QSs X [st] u := ⟨pss_one h1.h⟩
end
section
variable {P : Program} {w : World} {K : PySem.W.Frag} {mg : Str → Option Value} {base : Heap}
theorem Fun.okQ {x qual : Str} {st : Stmt} {f : Addr} {fd : FuncData} {N ps : List Str} {k : Nat} {sp : Sp} (F : Fun K x qual st f fd) (S : FnScope N ps (defScope st)) (len : ∀ vs H Q E, sp vs H Q E → vs.length = ps.length)
    (hbody : ∀ (cdv : Value) (A : Around) (outer : List Env) (s : Shared) (H : Hp) (vs : List V) (Q : VK) (E : XK), Room k (A.deeper (envOfC qual (defScope st) s.heap.objs.size f cdv)) → sp vs H Q E →
      ∃ t, QSs (cxOf CX0 P w K mg base N qual (defScope st) f cdv A outer s H E).nox (defBody st) t ∧ t { nx := fun _ H' => Q .non H', rt := Q } (L2.start N vs) H) : FnOk P w K mg base CX0 (k + 1) f fd ps sp :=
  F.ok S len fun cdv A outer s H vs Q E hr h => let ⟨t, ht, q⟩ := hbody cdv A outer s H vs Q E hr h; ⟨t, ht.h, q⟩
end
end L2

set_option Elab.async false
set_option linter.all false
set_option maxRecDepth 100000
set_option maxHeartbeats 4000000
namespace L2
open PySem PySem.Spec PyProof.Rows
/-! ### a list or a tuple that is tracked -/
def Trk (H : Hp) (a : Addr) (xs : List V) : Prop := H a = some (.lst xs) ∨ H a = some (.tup xs)
theorem Trk.same {H H' : Hp} {a : Addr} {xs : List V} (e : Same H H') (h : Trk H a xs) : Trk H' a xs := h.elim (fun h => .inl (e _ _ h)) fun h => .inr (e _ _ h)
theorem Trk.sq {K : PySem.W.Frag} {H : Hp} {a : Addr} {xs : List V} (h : Trk H a xs) : SqL K H a xs ∨ SqT K H a xs := h.elim (fun h => .inl (SqL.of h)) fun h => .inr (SqT.of h)
theorem Trk.ty {K : PySem.W.Frag} {H : Hp} {a : Addr} {xs : List V} (h : Trk H a xs) : TyOf K H (.ref a) (.type "list") ∨ TyOf K H (.ref a) (.type "tuple") := h.elim (fun h => .inl (.lst h)) fun h => .inr (.tup h)
def iSeq (K : PySem.W.Frag) (tl : TE) : TI := fun σ H R => tl σ H fun x H1 => ∃ a, x = .ref a ∧ ((∃ xs, H1 a = some (.lst xs) ∧ R (Itl K a) H1) ∨ ∃ xs, H1 a = some (.tup xs) ∧ R (Itt K a) H1)
section
variable {X : Cx}
theorem qi_seq {tg e : Expr} {te : TE} (h : QE X e te) : QI X tg e (iSeq X.K te) := by
  refine ⟨fun pins s σ H R I hw => ?_⟩
  refine thn (h.h pins s σ H _ I hw) fun v s1 ⟨x, H1, I1, r1, q1⟩ => ?_
  obtain ⟨a, e, q⟩ := q1
  subst e
  cases r1
  rcases q with ⟨xs, hq, q⟩ | ⟨xs, hq, q⟩
  · obtain ⟨its, rv, p, hz⟩ := I1.list (SqL.of hq)
    refine wpAny_pyIter_list p.isList ?_
    refine ⟨s1.heap.objs.size, [s1.heap.objs.size], _, _, H1, rfl, I1.kept (t' := s1.toks) fun b o e => Heap.get?_push_of_some _ e, turn_list a _, ⟨_, Heap.get?_push_size _ rfl, rfl, rfl⟩, fun b hb => ?_, q⟩
    have e : b = s1.heap.objs.size := by simpa using hb
    subst e
    exact I1.fpOk (Nat.le_refl _) (I1.hok.fresh (Nat.le_refl _))
  · obtain ⟨its, rv, p, hz⟩ := I1.tuple (SqT.of hq)
    refine wpAny_pyIter_tuple (show s1.heap.IsTuple a its.toArray from p) ?_
    refine ⟨s1.heap.objs.size, [s1.heap.objs.size], _, _, H1, rfl, I1.kept (t' := s1.toks) fun b o e => Heap.get?_push_of_some _ e, turn_tuple a _, ⟨_, Heap.get?_push_size _ rfl, rfl, rfl⟩, fun b hb => ?_, q⟩
    have e : b = s1.heap.objs.size := by simpa using hb
    subst e
    exact I1.fpOk (Nat.le_refl _) (I1.hok.fresh (Nat.le_refl _))
end
/-- what a for wants of an iterator -/
def Lop (J : It) (g : TG) (tb : TS) (D : Ends) (σ : L2.St) (H : Hp) : Prop := ∃ W : Nat → Nat → L2.St → Hp → Prop, (∃ m, W 0 m σ H) ∧ ∀ i m σ H, W i m σ H →
      (J.stop i H ∧ D.nx σ H) ∨ (J.go i H ∧ ∃ N : L2.St → Hp → Prop, (∀ σ' H', N σ' H' → ∃ m', m' < m ∧ W (i + 1) m' σ' H') ∧ ∀ x H', J.yld i H x H' → g x σ H' fun σ2 H2 => tb { D with nx := N, ct := N, bk := D.nx } σ2 H2)
/-- for x in a tracked list or tuple that stays -/
theorem for_seq {K : PySem.W.Frag} {a : Addr} {xs : List V} {g : TG} {tb : TS} {D : Ends} {σ : L2.St} {H : Hp} (hS : Trk H a xs) (Pv : Nat → L2.St → Hp → Prop) (h0 : Pv 0 σ H) (hl : ∀ i σ' H', i ≤ xs.length → Pv i σ' H' → Same H H')
    (hs : ∀ i x σ' H', xs[i]? = some x → Pv i σ' H' → g x σ' H' fun σ2 H2 => tb { D with nx := Pv (i + 1), ct := Pv (i + 1), bk := D.nx } σ2 H2) (hd : ∀ σ' H', Pv xs.length σ' H' → D.nx σ' H') :
    (∃ xs, H a = some (.lst xs) ∧ Lop (Itl K a) g tb D σ H) ∨ ∃ xs, H a = some (.tup xs) ∧ Lop (Itt K a) g tb D σ H := by
  rcases hS with hS | hS
  · exact .inl ⟨xs, hS, for_list Pv h0 (fun i σ' H' hi p => SqL.of (hl i σ' H' hi p _ _ hS)) hs hd⟩
  · exact .inr ⟨xs, hS, for_tup Pv h0 (fun i σ' H' hi p => SqT.of (hl i σ' H' hi p _ _ hS)) hs hd⟩
theorem comp_seq {K : PySem.W.Frag} {a : Addr} {xs : List V} {g : TG} {tt : TT} {te : TE} {k : Nat} {σ : L2.St} {H : Hp} {Q : VK} (hS : Trk H a xs) (Pv : Nat → List V → Hp → Prop) (h0 : Pv 0 [] H) (hl : ∀ i ys H', i ≤ xs.length → Pv i ys H' → Same H H') (hz : xs.length ≤ sizeLine)
    (hs : ∀ i x ys H', xs[i]? = some x → ys.length ≤ i → Pv i ys H' → g x (List.replicate k none ++ σ) H' fun σ2 H2 => tt σ2 H2 fun b H3 => if b = true then te σ2 H3 (fun y H4 => Pv (i + 1) (ys ++ [y]) H4) else Pv (i + 1) ys H3)
    (hd : ∀ ys H', ys.length ≤ xs.length → Pv xs.length ys H' → ∀ p, H' p = none → Q (.ref p) (upd H' p (.lst ys))) :
    (∃ xs, H a = some (.lst xs) ∧ Cmp (Itl K a) k g tt te σ Q H) ∨ ∃ xs, H a = some (.tup xs) ∧ Cmp (Itt K a) k g tt te σ Q H := by
  rcases hS with hS | hS
  · exact .inl ⟨xs, hS, comp_list Pv h0 (fun i ys H' hi p => SqL.of (hl i ys H' hi p _ _ hS)) hz hs hd⟩
  · exact .inr ⟨xs, hS, comp_tup Pv h0 (fun i ys H' hi p => SqT.of (hl i ys H' hi p _ _ hS)) hz hs hd⟩
/-! ### rows: a list or tuple of tuples -/
def RowP {α : Type} (f : α → List V) (H : Hp) (v : V) (x : α) : Prop := ∃ p, v = .ref p ∧ H p = some (.tup (f x))
def RowsAt {α : Type} (f : α → List V) (H : Hp) (v : V) (xs : List α) : Prop := ∃ a vs, v = .ref a ∧ Trk H a vs ∧ Paired (RowP f H) vs xs
theorem RowP.same {α : Type} {f : α → List V} {H H' : Hp} {v : V} {x : α} (e : Same H H') (h : RowP f H v x) : RowP f H' v x := let ⟨p, a, b⟩ := h; ⟨p, a, e _ _ b⟩
theorem paired_same {α : Type} {f : α → List V} {H H' : Hp} (e : Same H H') : ∀ {vs : List V} {xs : List α}, Paired (RowP f H) vs xs → Paired (RowP f H') vs xs
  | _, _, .nil => .nil
  | _, _, .cons r t => .cons (r.same e) (paired_same e t)
theorem RowsAt.same {α : Type} {f : α → List V} {H H' : Hp} {v : V} {xs : List α} (e : Same H H') (h : RowsAt f H v xs) : RowsAt f H' v xs := let ⟨a, vs, h1, h2, h3⟩ := h; ⟨a, vs, h1, h2.same e, paired_same e h3⟩
theorem paired_get {α β : Type} {F : α → β → Prop} : ∀ {vs : List α} {xs : List β} {i : Nat} {v : α}, Paired F vs xs → vs[i]? = some v → ∃ x, xs[i]? = some x ∧ F v x
  | _, _, _, _, .nil, e => by simp at e
  | _, _, 0, _, .cons r _, e => by simp at e; subst e; exact ⟨_, rfl, r⟩
  | _, _, i + 1, v, .cons _ t, e => by
    obtain ⟨x, h1, h2⟩ := paired_get (i := i) (v := v) t (by simpa using e)
    exact ⟨x, by simpa using h1, h2⟩
theorem paired_snoc {α β : Type} {F : α → β → Prop} {vs : List α} {xs : List β} {v : α} {x : β} (h : Paired F vs xs) (r : F v x) : Paired F (vs ++ [v]) (xs ++ [x]) := Paired.snoc h r
theorem take_snoc {α : Type} {xs : List α} {i : Nat} {x : α} (h : xs[i]? = some x) : xs.take (i + 1) = xs.take i ++ [x] := by
  rw [List.take_add_one, h]
  rfl
theorem Same.of_upd {H H' : Hp} {p : Addr} {o : HO} (h : Same (L2.upd H p o) H') (hn : H p = none) : Same H H' := fun b u q => h b u (by rw [upd_ne (ne_of_none q hn)]; exact q)
/-! ### tuple(x), by a name -/
def rTupOf (K : PySem.W.Frag) : List V → Hp → VK → Prop := fun xs H Q => ∃ p ys, xs = [.ref p] ∧ ((SqL K H p ys ∧ ∀ l, H l = none → Q (.ref l) (upd H l (.tup ys))) ∨ (SqT K H p ys ∧ Q (.ref p) H))
theorem call_tupleN {X : Cx} : CallR X (.type "tuple") (rTupOf X.K) := call_tuple_of
theorem tuple_any {K : PySem.W.Frag} {H : Hp} {a : Addr} {us : List V} {Q : VK} (h : Trk H a us) (k : ∀ q H', H' q = some (.tup us) → Same H H' → Q (.ref q) H') : rTupOf K [.ref a] H Q := by
  rcases h with h | h
  · exact ⟨a, us, rfl, .inl ⟨SqL.of h, fun l hl => k l _ upd_same ((Same.refl H).upd hl)⟩⟩
  · exact ⟨a, us, rfl, .inr ⟨SqT.of h, k a H h (Same.refl H)⟩⟩
/-! ### the same where the reading names the fragment (within a block) -/
section
variable {X : Cx} {K : PySem.W.Frag} {a b e : Expr} {es : List Expr} {ta tb te : TE} {t : TA} {pos p : Pos}
theorem ix_tupK (h : X.K = K := by rfl) : IxR X (rIxT K) := h ▸ ix_tup
theorem ix_listK (h : X.K = K := by rfl) : IxR X (rIxL K) := h ▸ ix_list
theorem sl_tupK (h : X.K = K := by rfl) : SlR X (rSlT K) := h ▸ sl_tup
theorem sl_listK (h : X.K = K := by rfl) : SlR X (rSlL K) := h ▸ sl_list
theorem op_catSK (h : X.K = K := by rfl) : OpR X (binaryOp .Add) (rCatS K) := h ▸ op_catS
theorem mt_joinK (h : X.K = K := by rfl) : MtR X "str.join" (rJoin K) := h ▸ mt_join
theorem qg_tupK {k : Nat} {u : TGs} (hc : X.calm = true) (h : QGs X es u) (hst : noStars es = true := by rfl) (hK : X.K = K := by rfl) : QG X (.Tuple es k pos) (gTup K es.length u) := hK ▸ qg_tup hc h hst
theorem qe_fldK {f : Str} (he : QE X e ta) (hb : plainBase e = true := by rfl) (hK : X.K = K := by rfl) : QE X (.Attribute e f pos) (tFld K ta f) := hK ▸ qe_fld he hb
theorem qt_valK (ha : QE X a ta) (h : truthE a = true := by rfl) (hK : X.K = K := by rfl) : QT X a (fun σ H Q => ta σ H fun x H' => ∃ k, TruV K x H' k ∧ Q k H') := hK ▸ qt_val ha h
theorem call_len_seqK (h : X.K = K := by rfl) : CallR X (.builtin "len") (fun xs H Q => ∃ p ys, xs = [.ref p] ∧ (SqL K H p ys ∨ SqT K H p ys) ∧ Q (.int ys.length) H) := h ▸ call_len_seq
theorem call_isinstK (h : X.K = K := by rfl) : CallR X (.builtin "isinstance") (fun xs H Q => ∃ x t c b, xs = [x, .ty c] ∧ TyOf K H x t ∧ PySem.W.kitOne K t (.type c) = some b ∧ Q (.bl b) H) := h ▸ call_isinst
theorem call_list_ofK (h : X.K = K := by rfl) : CallR X (.type "list") (fun xs H Q => ∃ p ys, xs = [.ref p] ∧ (SqL K H p ys ∨ SqT K H p ys) ∧ ∀ l, H l = none → Q (.ref l) (upd H l (.lst ys))) := h ▸ call_list_of
end
end L2

set_option Elab.async false
set_option linter.all false
set_option maxRecDepth 100000
set_option maxHeartbeats 4000000
namespace K05
open PySem PySem.Spec PyProof.Rows L2
def top (i : Nat) : Stmt := PySem.Challenge.pw_pointpurse_k05_factors_of_days.main.body.getD i (.Pass ⟨0, 0, 0, 0⟩)
structure Txt (K : PySem.W.Frag) (mg : Str → Option Value) (tk : Tok) : Prop where
  b_len : mg "len" = none
  b_all : mg "all" = none
  b_isinstance : mg "isinstance" = none
  b_str : mg "str" = none
  b_bool : mg "bool" = none
  b_range : mg "range" = none
  b_int : mg "int" = none
  b_list : mg "list" = none
  b_tuple : mg "tuple" = none
  b_set : mg "set" = none
  b_enumerate : mg "enumerate" = none
  b_max : mg "max" = none
  c_LONGEST_NAME : mg "LONGEST_NAME" = some (.int 8 tk)
/-! the promises -/
def isNameB (z : Str) : Bool := decide (1 ≤ z.length) && (decide (z.length ≤ 8) && z.cps.toList.all fun c => decide (97 ≤ c) && decide (c ≤ 122))
def spIsName : Sp := fun vs H Q _ => ∃ z : Str, vs = [.str z] ∧ z.length ≤ 1000 ∧ ∀ H', Same H H' → Q (.bl (isNameB z)) H'
def spIsNumber : Sp := fun vs H Q _ => ∃ n l : Int, vs = [.int n, .int l] ∧ Q (.bl (decide (l ≤ n))) H
def spIsList : Sp := fun vs H Q _ => ∃ a xs, vs = [.ref a] ∧ Trk H a xs ∧ ∀ H', Same H H' → Q (.bl true) H'
def spIsTupleOf : Sp := fun vs H Q _ => ∃ (p : Addr) (xs : List V) (m : Int), vs = [.ref p, .int m] ∧ H p = some (.tup xs) ∧ Q (.bl (decide ((xs.length : Int) = m))) H
def risB (ns : List Int) : Bool := (List.range (ns.length - 1)).all fun i => decide (ns.getD i 0 < ns.getD (i + 1) 0)
theorem at_getD {ns : List Int} {k : Nat} {i : Int} (e : i = (k : Int)) (h : k < ns.length) : atI (ns.map V.int) i = some (.int (ns.getD k 0)) := by
  subst e
  exact atI_nat (by simp [List.getD, h])
def spAreRising : Sp := fun vs H Q _ => ∃ (a : Addr) (ns : List Int), vs = [.ref a] ∧ H a = some (.lst (ns.map V.int)) ∧ ns.length ≤ 1000 ∧ Q (.bl (risB ns)) H
def spDemand : Sp := fun vs H Q _ => ∃ w : Str, vs = [.bl true, .str w] ∧ Q .non H
def numB (l : Int) : V → Option Bool
  | .non => some true
  | .int n => some (decide (l ≤ n))
  | _ => none
def spNumOrNone : Sp := fun vs H Q _ => ∃ (v : V) (l : Int), vs = [v, .int l] ∧ ∃ b, numB l v = some b ∧ Q (.bl b) H
theorem kAny {K : PySem.W.Frag} {H : Hp} {a : Addr} {xs : List V} (h : Trk H a xs) : ∃ t, TyOf K H (.ref a) t ∧ PySem.W.kitAny K t [.type "list", .type "tuple"] = some true := by
  rcases h with h | h
  · exact ⟨_, .lst h, rfl⟩
  · exact ⟨_, .tup h, by with_unfolding_all rfl⟩
section
variable {P : Program} {w : World} {K : PySem.W.Frag} {mg : Str → Option Value} {base : Heap}
abbrev s_is_number : Stmt := top 3
abbrev N_is_number : List Str := ["value", "least"]
theorem sc_is_number : FnScope N_is_number ["value", "least"] (defScope s_is_number) := ⟨rfl, rfl, rfl, by decide +kernel, rfl, by decide +kernel, by decide +kernel⟩
theorem v_is_number_0 : okVar N_is_number (defScope s_is_number) 0 "value" = true := by decide +kernel
theorem v_is_number_1 : okVar N_is_number (defScope s_is_number) 1 "least" = true := by decide +kernel
theorem g_is_number_isinstance : okGl (defScope s_is_number) "isinstance" = true := by decide +kernel
theorem g_is_number_bool : okGl (defScope s_is_number) "bool" = true := by decide +kernel
theorem g_is_number_int : okGl (defScope s_is_number) "int" = true := by decide +kernel
theorem ok_is_number {f : Addr} {fd : FuncData} {tk : Tok} (F : Fun K "is_number" "is_number" s_is_number f fd) (T : Txt K mg tk) : FnOk P w K mg base CX0 1 f fd ["value", "least"] spIsNumber := by
  refine F.okQ sc_is_number (fun vs H Q E h => ?_) (fun cdv A outer s H vs Q E hr h => ?_)
  · obtain ⟨n, l, rfl, _⟩ := h
    rfl
  · obtain ⟨n, l, rfl, q⟩ := h
    have nd := sc_is_number.nd
    refine ⟨_, (qss_one (qs_ret (qe_and (qe_callB call_isinst g_is_number_isinstance T.b_isinstance bt_isinstance (qa_cons (qv 0 v_is_number_0) (qa_cons (qe_bltn (v := .ty "int") g_is_number_int T.b_int bt_int rfl) qa_nil))) (qe_and (qe_not (qe_callB call_isinst g_is_number_isinstance T.b_isinstance bt_isinstance (qa_cons (qv 0 v_is_number_0) (qa_cons (qe_bltn (v := .ty "bool") g_is_number_bool T.b_bool bt_bool rfl) qa_nil)))) (qe_one (qe_cmp op_ge (qv 0 v_is_number_0) (qv 1 v_is_number_1))))))), ?_⟩
    refine ⟨_, rfl, _, _, _, _, rfl, .int n, rfl, _, rfl, ?_⟩
    refine iteT ?_
    refine ⟨_, rfl, _, _, _, _, rfl, .int n, (show PySem.W.kitOne K (.type "int") (.type "bool") = some false by with_unfolding_all rfl), _, rfl, _, rfl, ?_⟩
    refine iteT ?_
    exact ⟨_, rfl, _, rfl, _, _, rfl, rfl, q⟩
abbrev s_is_list : Stmt := top 4
abbrev N_is_list : List Str := ["value"]
theorem sc_is_list : FnScope N_is_list ["value"] (defScope s_is_list) := ⟨rfl, rfl, rfl, by decide +kernel, rfl, by decide +kernel, by decide +kernel⟩
theorem g_is_list_isinstance : okGl (defScope s_is_list) "isinstance" = true := by decide +kernel
theorem g_is_list_tuple : okGl (defScope s_is_list) "tuple" = true := by decide +kernel
theorem g_is_list_list : okGl (defScope s_is_list) "list" = true := by decide +kernel
theorem v_is_list_0 : okVar N_is_list (defScope s_is_list) 0 "value" = true := by decide +kernel
theorem ok_is_list {f : Addr} {fd : FuncData} {tk : Tok} (F : Fun K "is_list" "is_list" s_is_list f fd) (T : Txt K mg tk) : FnOk P w K mg base CX0 1 f fd ["value"] spIsList := by
  refine F.okQ sc_is_list (fun vs H Q E h => ?_) (fun cdv A outer s H vs Q E hr h => ?_)
  · obtain ⟨n, l, rfl, _⟩ := h
    rfl
  · obtain ⟨a, xs, rfl, ha, q⟩ := h
    have nd := sc_is_list.nd
    refine ⟨_, (qss_one (qs_ret (qe_callB call_isinst2 g_is_list_isinstance T.b_isinstance bt_isinstance (qa_cons (qv 0 v_is_list_0) (qa_cons (qe_tup (qa_cons (qe_bltn (v := .ty "list") g_is_list_list T.b_list bt_list rfl) (qa_cons (qe_bltn (v := .ty "tuple") g_is_list_tuple T.b_tuple bt_tuple rfl) qa_nil))) qa_nil))))), ?_⟩
    refine ⟨_, rfl, by show 2 ≤ sizeLine; decide, fun l hl => ?_⟩
    have s1 := (Same.refl H).upd (o := .tup [.ty "list", .ty "tuple"]) hl
    obtain ⟨t, ht, hk⟩ := kAny (K := K) (ha.same s1)
    exact ⟨_, t, l, ["list", "tuple"], true, rfl, ht, SqT.of upd_same, hk, q _ s1⟩
abbrev s_is_tuple_of : Stmt := top 5
abbrev N_is_tuple_of : List Str := ["value", "many"]
theorem sc_is_tuple_of : FnScope N_is_tuple_of ["value", "many"] (defScope s_is_tuple_of) := ⟨rfl, rfl, rfl, by decide +kernel, rfl, by decide +kernel, by decide +kernel⟩
theorem g_is_tuple_of_len : okGl (defScope s_is_tuple_of) "len" = true := by decide +kernel
theorem v_is_tuple_of_0 : okVar N_is_tuple_of (defScope s_is_tuple_of) 0 "value" = true := by decide +kernel
theorem v_is_tuple_of_1 : okVar N_is_tuple_of (defScope s_is_tuple_of) 1 "many" = true := by decide +kernel
theorem g_is_tuple_of_isinstance : okGl (defScope s_is_tuple_of) "isinstance" = true := by decide +kernel
theorem g_is_tuple_of_tuple : okGl (defScope s_is_tuple_of) "tuple" = true := by decide +kernel
theorem ok_is_tuple_of {f : Addr} {fd : FuncData} {tk : Tok} (F : Fun K "is_tuple_of" "is_tuple_of" s_is_tuple_of f fd) (T : Txt K mg tk) : FnOk P w K mg base CX0 1 f fd ["value", "many"] spIsTupleOf := by
  refine F.okQ sc_is_tuple_of (fun vs H Q E h => ?_) (fun cdv A outer s H vs Q E hr h => ?_)
  · obtain ⟨n, l, m, rfl, _⟩ := h
    rfl
  · obtain ⟨p, xs, m, rfl, hp, q⟩ := h
    have nd := sc_is_tuple_of.nd
    refine ⟨_, (qss_one (qs_ret (qe_and (qe_callB call_isinst g_is_tuple_of_isinstance T.b_isinstance bt_isinstance (qa_cons (qv 0 v_is_tuple_of_0) (qa_cons (qe_bltn (v := .ty "tuple") g_is_tuple_of_tuple T.b_tuple bt_tuple rfl) qa_nil))) (qe_one (qe_cmp op_eq (qe_callB call_len_seq g_is_tuple_of_len T.b_len bt_len (qa_cons (qv 0 v_is_tuple_of_0) qa_nil)) (qv 1 v_is_tuple_of_1)))))), ?_⟩
    refine ⟨_, rfl, _, _, _, _, rfl, .tup hp, rfl, _, rfl, ?_⟩
    refine iteT ?_
    refine ⟨_, rfl, p, xs, rfl, .inr (SqT.of hp), _, rfl, rfl, ?_⟩
    have e : decide (V.int (xs.length : Int) = V.int m) = decide ((xs.length : Int) = m) := by
      rw [Bool.eq_iff_iff, decide_eq_true_eq, decide_eq_true_eq]
      exact ⟨fun h => by cases h; rfl, fun h => by rw [h]⟩
    rw [e]
    exact q
abbrev s_demand : Stmt := top 14
abbrev N_demand : List Str := ["holds", "words"]
theorem sc_demand : FnScope N_demand ["holds", "words"] (defScope s_demand) := ⟨rfl, rfl, rfl, by decide +kernel, rfl, by decide +kernel, by decide +kernel⟩
theorem v_demand_0 : okVar N_demand (defScope s_demand) 0 "holds" = true := by decide +kernel
theorem ok_demand {f : Addr} {fd : FuncData} (F : Fun K "demand" "demand" s_demand f fd) : FnOk P w K mg base CX0 1 f fd ["holds", "words"] spDemand := by
  refine F.okQ sc_demand (fun vs H Q E h => ?_) (fun cdv A outer s H vs Q E hr h => ?_)
  · obtain ⟨n, rfl, _⟩ := h
    rfl
  · obtain ⟨n, rfl, q⟩ := h
    have nd := sc_demand.nd
    refine ⟨_, (qss_one (qs_if (qt_not (qt_val (qv 0 v_demand_0)))
      (qss_one qs_never)
      qss_nil)), ?_⟩
    refine ⟨_, rfl, _, rfl, ?_⟩
    exact iteF q
abbrev s_is_number_or_none : Stmt := top 15
abbrev N_is_number_or_none : List Str := ["value", "least"]
theorem sc_is_number_or_none : FnScope N_is_number_or_none ["value", "least"] (defScope s_is_number_or_none) := ⟨rfl, rfl, rfl, by decide +kernel, rfl, by decide +kernel, by decide +kernel⟩
theorem g_is_number_or_none_is_number : okGl (defScope s_is_number_or_none) "is_number" = true := by decide +kernel
theorem v_is_number_or_none_1 : okVar N_is_number_or_none (defScope s_is_number_or_none) 1 "least" = true := by decide +kernel
theorem v_is_number_or_none_0 : okVar N_is_number_or_none (defScope s_is_number_or_none) 0 "value" = true := by decide +kernel
theorem ok_is_number_or_none {f : Addr} {fd : FuncData} {tk : Tok} (F : Fun K "is_number_or_none" "is_number_or_none" s_is_number_or_none f fd) (C_is_number : Callee P w K mg base 1 "is_number" ["value", "least"] spIsNumber) : FnOk P w K mg base CX0 2 f fd ["value", "least"] spNumOrNone := by
  refine F.okQ sc_is_number_or_none (fun vs H Q E h => ?_) (fun cdv A outer s H vs Q E hr h => ?_)
  · obtain ⟨n, l, rfl, _⟩ := h
    rfl
  · obtain ⟨v, l, rfl, b, hb, q⟩ := h
    have nd := sc_is_number_or_none.nd
    refine ⟨_, (qss_one (qs_ret (qe_or (qe_isN (qv 0 v_is_number_or_none_0)) (qe_one (qe_fn C_is_number hr g_is_number_or_none_is_number (qa_cons (qv 0 v_is_number_or_none_0) (qa_cons (qv 1 v_is_number_or_none_1) qa_nil))))))), ?_⟩
    refine ⟨_, rfl, _, rfl, ?_⟩
    cases v with
    | non =>
      cases hb
      exact q
    | int n =>
      have e : decide (l ≤ n) = b := Option.some.inj hb
      exact ⟨_, rfl, _, rfl, n, l, rfl, e ▸ q⟩
    | _ => cases hb
abbrev s_are_rising : Stmt := top 7
abbrev N_are_rising : List Str := ["numbers", "place"]
theorem sc_are_rising : FnScope N_are_rising ["numbers"] (defScope s_are_rising) := ⟨rfl, rfl, rfl, by decide +kernel, rfl, by decide +kernel, by decide +kernel⟩
theorem g_are_rising_range : okGl (defScope s_are_rising) "range" = true := by decide +kernel
theorem g_are_rising_len : okGl (defScope s_are_rising) "len" = true := by decide +kernel
theorem v_are_rising_0 : okVar N_are_rising (defScope s_are_rising) 0 "numbers" = true := by decide +kernel
theorem w_are_rising_1 : okSet N_are_rising (defScope s_are_rising) 1 "place" = true := by decide +kernel
theorem v_are_rising_1 : okVar N_are_rising (defScope s_are_rising) 1 "place" = true := by decide +kernel
theorem ok_are_rising {f : Addr} {fd : FuncData} {tk : Tok} (F : Fun K "are_rising" "are_rising" s_are_rising f fd) (T : Txt K mg tk) : FnOk P w K mg base CX0 1 f fd ["numbers"] spAreRising := by
  refine F.okQ sc_are_rising (fun vs H Q E h => ?_) (fun cdv A outer s H vs Q E hr h => ?_)
  · obtain ⟨n, l, rfl, _⟩ := h
    rfl
  · obtain ⟨a, ns, rfl, ha, hz, q⟩ := h
    have nd := sc_are_rising.nd
    refine ⟨_, (qss_cons (qs_for PassesOwn.never rfl (qi_range2 g_are_rising_range T.b_range (qa_cons qe_int (qa_cons (qe_callB call_len_seq g_are_rising_len T.b_len bt_len (qa_cons (qv 0 v_are_rising_0) qa_nil)) qa_nil))) (qg_name (i := 1) nd w_are_rising_1)
      (qss_one (qs_if (qt_cmp op_le (qe_ix ix_list (qv 0 v_are_rising_0) (qv 1 v_are_rising_1)) (qe_ix ix_list (qv 0 v_are_rising_0) (qe_op op_sub (qv 1 v_are_rising_1) qe_int)))
        (qss_one (qs_ret qe_bl))
        qss_nil)))
      (qss_one (qs_ret qe_bl))), ?_⟩
    refine ⟨_, rfl, a, _, rfl, .inl (SqL.of ha), 1, _, rfl, ⟨by decide, by decide, by rw [List.length_map]; omega, by rw [List.length_map]; omega⟩, ?_⟩
    rw [List.length_map]
    refine for_range (lo := 1) (n := ((ns.length : Int) - 1).toNat) (fun i σ H' => H' = H ∧ (∃ v, σ = [some (.ref a), v]) ∧ ∀ j, j < i → ns.getD j 0 < ns.getD (j + 1) 0) ⟨rfl, ⟨none, rfl⟩, fun j hj => absurd hj (Nat.not_lt_zero _)⟩ ?_ ?_
    · rintro i σ H' hi ⟨rfl, ⟨v, rfl⟩, hp⟩
      have h1 : i + 1 < ns.length := by omega
      refine ⟨_, rfl, _, rfl, a, _, _, _, rfl, rfl, SqL.of ha, at_getD (k := i + 1) (by omega) h1, _, rfl, _, rfl, _, _, rfl, rfl, a, _, _, _, rfl, rfl, SqL.of ha, at_getD (k := i) (by omega) (by omega), _, _, rfl, rfl, _, rfl, ?_⟩
      refine ite2 (fun hc => ?_) (fun hc => ?_)
      · have hc' : ns.getD (i + 1) 0 ≤ ns.getD i 0 := of_decide_eq_true hc
        have e : risB ns = false := by
          rw [Bool.eq_false_iff]
          intro z
          unfold risB at z
          rw [List.all_eq_true] at z
          have := of_decide_eq_true (z i (by simp; omega))
          omega
        exact e ▸ q
      · have hc' : ¬ ns.getD (i + 1) 0 ≤ ns.getD i 0 := fun z => hc (decide_eq_true z)
        refine ⟨rfl, ⟨_, rfl⟩, fun j hj => ?_⟩
        by_cases e : j = i
        · subst e; omega
        · exact hp j (by omega)
    · rintro σ H' ⟨rfl, ⟨v, rfl⟩, hp⟩
      have e : risB ns = true := by
        unfold risB
        rw [List.all_eq_true]
        intro i hi
        have hi' : i < ns.length - 1 := by simpa using hi
        exact decide_eq_true (hp i (by omega))
      exact e ▸ q
def okc (c : Nat) : Bool := !decide ([c] < [97]) && !decide ([122] < [c])
theorem okc_eq (c : Nat) : okc c = (decide (97 ≤ c) && decide (c ≤ 122)) := by
  unfold okc
  have e1 : ([c] < [97]) ↔ c < 97 := by simp [List.cons_lt_cons_iff]
  have e2 : ([122] < [c]) ↔ 122 < c := by simp [List.cons_lt_cons_iff]
  rw [Bool.eq_iff_iff]
  simp only [Bool.and_eq_true, Bool.not_eq_true', decide_eq_false_iff_not, decide_eq_true_eq, e1, e2]
  omega
abbrev s_is_name : Stmt := top 13
abbrev N_is_name : List Str := ["text"]
theorem sc_is_name : FnScope N_is_name ["text"] (defScope s_is_name) := ⟨rfl, rfl, rfl, by decide +kernel, rfl, by decide +kernel, by decide +kernel⟩
theorem g_is_name_len : okGl (defScope s_is_name) "len" = true := by decide +kernel
theorem v_is_name_0 : okVar N_is_name (defScope s_is_name) 0 "text" = true := by decide +kernel
theorem g_is_name_LONGEST_NAME : okGl (defScope s_is_name) "LONGEST_NAME" = true := by decide +kernel
theorem g_is_name_isinstance : okGl (defScope s_is_name) "isinstance" = true := by decide +kernel
theorem g_is_name_str : okGl (defScope s_is_name) "str" = true := by decide +kernel
theorem g_is_name_all : okGl (defScope s_is_name) "all" = true := by decide +kernel
abbrev c_is_name_c0 : Scope := { kind := .function, names := [(Str.ofString ".0", NameKind.local), (Str.ofString "sign", NameKind.local)], isGenerator := false, isCoroutine := false }
abbrev N_is_name_c0 : List Str := ["sign", "text"]
theorem cs_is_name_c0 : csB' N_is_name (defScope s_is_name) ["sign"] N_is_name_c0 c_is_name_c0 = true := by decide +kernel
theorem nd_is_name_c0 : List.Nodup N_is_name_c0 := by decide +kernel
theorem o_is_name_c0_0 : okLoc N_is_name_c0 (relabelS c_is_name_c0 (defScope s_is_name)) 0 "sign" = true := by decide +kernel
theorem v_is_name_c0_0 : okVar N_is_name_c0 (relabelS c_is_name_c0 (defScope s_is_name)) 0 "sign" = true := by decide +kernel
theorem ok_is_name {f : Addr} {fd : FuncData} {tk : Tok} (F : Fun K "is_name" "is_name" s_is_name f fd) (T : Txt K mg tk) : FnOk P w K mg base CX0 1 f fd ["text"] spIsName := by
  refine F.okQ sc_is_name (fun vs H Q E h => ?_) (fun cdv A outer s H vs Q E hr h => ?_)
  · obtain ⟨z, rfl, _⟩ := h
    rfl
  · obtain ⟨z, rfl, hz, q⟩ := h
    have nd := sc_is_name.nd
    refine ⟨_, (qss_cons (qs_if (qt_w (qw_or (qt_not (qt_val (qe_callB call_isinst g_is_name_isinstance T.b_isinstance bt_isinstance (qa_cons (qv 0 v_is_name_0) (qa_cons (qe_bltn (v := .ty "str") g_is_name_str T.b_str bt_str rfl) qa_nil))))) (qw_or1 (qt_not (qt_chain op_le op_le qe_int (qe_callB call_len_str g_is_name_len T.b_len bt_len (qa_cons (qv 0 v_is_name_0) qa_nil)) (qe_glob (v := .int 8) g_is_name_LONGEST_NAME T.c_LONGEST_NAME ⟨_, rfl⟩))))))
      (qss_one (qs_ret qe_bl))
      qss_nil)
      (qss_one (qs_ret (qe_callB call_all g_is_name_all T.b_all bt_all (qa_cons (qe_comp rfl (own := ["sign"]) (N' := N_is_name_c0) cs_is_name_c0 (qi_str (qv 0 v_is_name_0)) (fun _ _ _ _ => (qg_own (i := 0) nd_is_name_c0 o_is_name_c0_0)) (fun _ _ _ _ => qts_nil) (fun _ _ _ _ => (qe_chain op_le_str op_le_str qe_str (qv 0 v_is_name_c0_0) qe_str))) qa_nil))))), ?_⟩
    refine ⟨_, rfl, _, _, _, _, rfl, .str z, rfl, _, rfl, ?_⟩
    refine iteF ?_
    refine ⟨_, rfl, z, rfl, Nat.le_trans hz (by decide), _, _, rfl, rfl, _, rfl, ?_⟩
    refine ite2 (fun h1 => ?_) (fun h1 => ?_)
    · have h1' : 1 ≤ z.length := by
        have := of_decide_eq_true h1
        omega
      refine ⟨_, _, rfl, rfl, _, rfl, ?_⟩
      refine ite2 (fun h2 => ?_) (fun h2 => ?_)
      · have h2' : ¬ z.length ≤ 8 := by
          simp at h2
          omega
        have e : isNameB z = false := by
          unfold isNameB
          rw [decide_eq_false h2']
          simp
        exact e ▸ q H (Same.refl _)
      · have h2' : z.length ≤ 8 := by
          simp at h2
          omega
        refine ⟨_, rfl, z, rfl, comp_str (fun i ys H2 => H2 = H ∧ ys = ((z.cps.toList.take i).map okc).map V.bl) ⟨rfl, rfl⟩ (Nat.le_trans hz (by decide)) ?_ ?_⟩
        · rintro i c ys H2 hc hy ⟨rfl, rfl⟩
          have ht : (z.cps.toList.take (i + 1)) = z.cps.toList.take i ++ [c] := take_snoc (by simpa using hc)
          refine ⟨_, rfl, _, _, rfl, rfl, _, rfl, ?_⟩
          refine ite2 (fun h3 => ?_) (fun h3 => ?_)
          · refine ⟨_, _, rfl, rfl, rfl, ?_⟩
            rw [ht, List.map_append, List.map_append]
            congr 1
            show [V.bl _] = [V.bl (okc c)]
            congr 2
            unfold okc
            have h3' : (!decide ([c] < [97])) = true := h3
            rw [h3', Bool.true_and]
            rfl
          · refine ⟨rfl, ?_⟩
            rw [ht, List.map_append, List.map_append]
            congr 1
            show [V.bl _] = [V.bl (okc c)]
            congr 2
            unfold okc
            have h3' : ¬ (!decide ([c] < [97])) = true := h3
            rw [Bool.not_eq_true] at h3'
            rw [h3', Bool.false_and]
        · rintro ys H2 hl ⟨rfl, rfl⟩ p hp
          refine ⟨rfl, p, _, rfl, SqL.of upd_same, ?_⟩
          have e : isNameB z = ((z.cps.toList.take z.cps.size).map okc).all id := by
            unfold isNameB
            rw [decide_eq_true h1', decide_eq_true h2', Bool.true_and, Bool.true_and, List.take_of_length_le (by simp), List.all_map]
            congr 1
            funext c
            exact (okc_eq c).symm
          exact e ▸ q _ ((Same.refl _).upd hp)
    · refine ⟨_, rfl, ?_⟩
      refine iteT ?_
      have h1' : ¬ 1 ≤ z.length := by
        simp at h1
        omega
      have e : isNameB z = false := by
        unfold isNameB
        rw [decide_eq_false h1']
        simp
      exact e ▸ q H (Same.refl _)
def spCheckList : Sp := fun vs H Q _ => ∃ (a : Addr) (us : List V) (m : Int) (w : Str), vs = [.ref a, .int m, .str w] ∧ Trk H a us ∧ us.length ≤ 1000 ∧ (∀ u ∈ us, ∃ p xs, u = .ref p ∧ H p = some (.tup xs) ∧ (xs.length : Int) = m) ∧ ∀ H', Same H H' → Q .non H'
abbrev s_check_list : Stmt := top 16
abbrev N_check_list : List Str := ["value", "many", "words"]
theorem sc_check_list : FnScope N_check_list ["value", "many", "words"] (defScope s_check_list) := ⟨rfl, rfl, rfl, by decide +kernel, rfl, by decide +kernel, by decide +kernel⟩
theorem g_check_list_demand : okGl (defScope s_check_list) "demand" = true := by decide +kernel
theorem v_check_list_2 : okVar N_check_list (defScope s_check_list) 2 "words" = true := by decide +kernel
theorem g_check_list_is_list : okGl (defScope s_check_list) "is_list" = true := by decide +kernel
theorem v_check_list_0 : okVar N_check_list (defScope s_check_list) 0 "value" = true := by decide +kernel
theorem g_check_list_all : okGl (defScope s_check_list) "all" = true := by decide +kernel
abbrev c_check_list_c0 : Scope := { kind := .function, names := [(Str.ofString ".0", NameKind.local), (Str.ofString "part", NameKind.local), (Str.ofString "is_tuple_of", NameKind.globalImplicit), (Str.ofString "many", NameKind.free)], isGenerator := false, isCoroutine := false }
abbrev N_check_list_c0 : List Str := ["part", "value", "many", "words"]
theorem cs_check_list_c0 : csB' N_check_list (defScope s_check_list) ["part"] N_check_list_c0 c_check_list_c0 = true := by decide +kernel
theorem nd_check_list_c0 : List.Nodup N_check_list_c0 := by decide +kernel
theorem o_check_list_c0_0 : okLoc N_check_list_c0 (relabelS c_check_list_c0 (defScope s_check_list)) 0 "part" = true := by decide +kernel
theorem g_check_list_c0_is_tuple_of : okGl (relabelS c_check_list_c0 (defScope s_check_list)) "is_tuple_of" = true := by decide +kernel
theorem v_check_list_c0_2 : okVar N_check_list_c0 (relabelS c_check_list_c0 (defScope s_check_list)) 2 "many" = true := by decide +kernel
theorem v_check_list_c0_0 : okVar N_check_list_c0 (relabelS c_check_list_c0 (defScope s_check_list)) 0 "part" = true := by decide +kernel
theorem ok_check_list {f : Addr} {fd : FuncData} {tk : Tok} (F : Fun K "check_list" "check_list" s_check_list f fd) (T : Txt K mg tk) (C_demand : Callee P w K mg base 1 "demand" ["holds", "words"] spDemand) (C_is_list : Callee P w K mg base 1 "is_list" ["value"] spIsList) (C_is_tuple_of : Callee P w K mg base 1 "is_tuple_of" ["value", "many"] spIsTupleOf) :
    FnOk P w K mg base CX0 2 f fd ["value", "many", "words"] spCheckList := by
  refine F.okQ sc_check_list (fun vs H Q E h => ?_) (fun cdv A outer s H vs Q E hr h => ?_)
  · obtain ⟨_, _, _, _, rfl, _⟩ := h
    rfl
  · obtain ⟨a, us, m, wd, rfl, ha, hz, hu, q⟩ := h
    have nd := sc_check_list.nd
    refine ⟨_, (qss_cons (qs_expr (qe_fn C_demand hr g_check_list_demand (qa_cons (qe_fn C_is_list hr g_check_list_is_list (qa_cons (qv 0 v_check_list_0) qa_nil)) (qa_cons (qv 2 v_check_list_2) qa_nil))))
      (qss_one (qs_expr (qe_fn C_demand hr g_check_list_demand (qa_cons (qe_callB call_all g_check_list_all T.b_all bt_all (qa_cons (qe_comp rfl (own := ["part"]) (N' := N_check_list_c0) cs_check_list_c0 (qi_seq (qv 0 v_check_list_0)) (fun _ _ _ _ => (qg_own (i := 0) nd_check_list_c0 o_check_list_c0_0)) (fun _ _ _ _ => qts_nil) (fun _ _ _ _ => (qe_fn C_is_tuple_of hr g_check_list_c0_is_tuple_of (qa_cons (qv 0 v_check_list_c0_0) (qa_cons (qv 2 v_check_list_c0_2) qa_nil))))) qa_nil)) (qa_cons (qv 2 v_check_list_2) qa_nil)))))), ?_⟩
    refine ⟨_, rfl, a, us, rfl, ha, fun H1 s1 => ⟨_, rfl, _, rfl, ?_⟩⟩
    refine ⟨_, rfl, a, rfl, comp_seq (ha.same s1) (fun i ys H2 => H2 = H1 ∧ ys = (List.replicate i true).map V.bl) ⟨rfl, rfl⟩ (fun i ys H2 _ p => p.1 ▸ Same.refl _) (Nat.le_trans hz (by decide)) ?_ ?_⟩
    · rintro i x ys H2 hx hy ⟨rfl, rfl⟩
      obtain ⟨p, xs, rfl, hp, hm⟩ := hu x (List.mem_of_getElem? hx)
      refine ⟨_, rfl, _, rfl, p, xs, m, rfl, s1 _ _ hp, rfl, ?_⟩
      rw [List.replicate_succ', List.map_append, decide_eq_true hm]
      rfl
    · rintro ys H2 hl ⟨rfl, rfl⟩ p hp
      refine ⟨rfl, p, _, rfl, SqL.of upd_same, _, rfl, wd, ?_, q _ (s1.upd hp)⟩
      have e : (List.replicate us.length true).all id = true := by simp [List.all_replicate]
      rw [e]
      rfl
end
end K05

set_option Elab.async false
set_option linter.all false
set_option maxRecDepth 100000
set_option maxHeartbeats 4000000
namespace K05
open PySem PySem.Spec PyProof.Rows L2
theorem demE {b : Bool} {wd : Str} (h : b = true) : [V.bl b, V.str wd] = [V.bl true, V.str wd] := by rw [h]
def fK (k : Str × Int) : List V := [.str k.1, .int k.2]
def fP (k : Int × Int) : List V := [.int k.1, .int k.2]
def fT (k : Int × Int × Int) : List V := [.int k.1, .int k.2.1, .int k.2.2]
def fR (k : Int × Str) : List V := [.int k.1, .str k.2]
theorem rows_all {α : Type} {f : α → List V} {H : Hp} {us : List V} {xs : List α} {m : Nat} (h : Paired (RowP f H) us xs) (hm : ∀ x, (f x).length = m) : ∀ u ∈ us, ∃ p ys, u = .ref p ∧ H p = some (.tup ys) ∧ (ys.length : Int) = (m : Int) := fun u hu => by
  obtain ⟨i, hi⟩ := List.mem_iff_getElem?.mp hu
  obtain ⟨x, _, p, e, hp⟩ := paired_get h hi
  exact ⟨p, _, e, hp, by rw [hm x]⟩
def spCheckShare : Sp := fun vs H Q _ => ∃ (p : Addr) (t b : Int), vs = [.ref p] ∧ H p = some (.tup [.int t, .int b]) ∧ 0 ≤ t ∧ 1 ≤ b ∧ Q .non H
structure KindsOk (ks : List (Str × Int)) : Prop where
  len : ks.length ≤ 100
  names : ∀ k ∈ ks, k.1.length ≤ 1000 ∧ isNameB k.1 = true
  facs : ∀ k ∈ ks, 0 ≤ k.2
  nd : (ks.map (·.1)).Nodup
def spCheckKinds : Sp := fun vs H Q _ => ∃ (v : V) (ks : List (Str × Int)), vs = [v] ∧ RowsAt fK H v ks ∧ KindsOk ks ∧ ∀ H', Same H H' → Q .non H'
def spUnlike : Sp := fun vs H Q _ => ∃ (p : Addr) (zs : List Str), vs = [.ref p] ∧ H p = some (.lst (zs.map V.str)) ∧ zs.length ≤ 1000 ∧ zs.Nodup ∧ ∀ H', Same H H' → Q (.bl true) H'
def LeastP (H : Hp) (v : V) (n : Int) : Prop := ∃ p y, v = .ref p ∧ H p = some (.tup [.int n, y])
def spCheckLeasts : Sp := fun vs H Q _ => ∃ (a : Addr) (us : List V) (ns : List Int) (low : Int) (wd : Str), vs = [.ref a, .int low, .str wd] ∧ Trk H a us ∧ Paired (LeastP H) us ns ∧ ns.length ≤ 100 ∧ (∀ n ∈ ns, low ≤ n) ∧ risB ns = true ∧ ∀ H', Same H H' → Q .non H'
theorem LeastP.same {H H' : Hp} {v : V} {n : Int} (e : Same H H') (h : LeastP H v n) : LeastP H' v n := let ⟨p, y, a, b⟩ := h; ⟨p, y, a, e _ _ b⟩
theorem paired_len {α β : Type} {F : α → β → Prop} {us : List α} {xs : List β} (h : Paired F us xs) : us.length = xs.length := h.length
section
variable {P : Program} {w : World} {K : PySem.W.Frag} {mg : Str → Option Value} {base : Heap}
abbrev s_check_share : Stmt := top 17
abbrev N_check_share : List Str := ["share"]
theorem sc_check_share : FnScope N_check_share ["share"] (defScope s_check_share) := ⟨rfl, rfl, rfl, by decide +kernel, rfl, by decide +kernel, by decide +kernel⟩
theorem g_check_share_demand : okGl (defScope s_check_share) "demand" = true := by decide +kernel
theorem g_check_share_is_tuple_of : okGl (defScope s_check_share) "is_tuple_of" = true := by decide +kernel
theorem v_check_share_0 : okVar N_check_share (defScope s_check_share) 0 "share" = true := by decide +kernel
theorem g_check_share_is_number : okGl (defScope s_check_share) "is_number" = true := by decide +kernel
theorem ok_check_share {f : Addr} {fd : FuncData} (F : Fun K "check_share" "check_share" s_check_share f fd) (C_demand : Callee P w K mg base 1 "demand" ["holds", "words"] spDemand) (C_is_number : Callee P w K mg base 1 "is_number" ["value", "least"] spIsNumber) (C_is_tuple_of : Callee P w K mg base 1 "is_tuple_of" ["value", "many"] spIsTupleOf) :
    FnOk P w K mg base CX0 2 f fd ["share"] spCheckShare := by
  refine F.okQ sc_check_share (fun vs H Q E h => ?_) (fun cdv A outer s H vs Q E hr h => ?_)
  · obtain ⟨_, _, _, rfl, _⟩ := h
    rfl
  · obtain ⟨p, t, b, rfl, hp, ht, hb, q⟩ := h
    have nd := sc_check_share.nd
    refine ⟨_, (qss_cons (qs_expr (qe_fn C_demand hr g_check_share_demand (qa_cons (qe_fn C_is_tuple_of hr g_check_share_is_tuple_of (qa_cons (qv 0 v_check_share_0) (qa_cons qe_int qa_nil))) (qa_cons qe_str qa_nil))))
      (qss_cons (qs_expr (qe_fn C_demand hr g_check_share_demand (qa_cons (qe_fn C_is_number hr g_check_share_is_number (qa_cons (qe_ix ix_tup (qv 0 v_check_share_0) qe_int) (qa_cons qe_int qa_nil))) (qa_cons qe_str qa_nil))))
      (qss_one (qs_expr (qe_fn C_demand hr g_check_share_demand (qa_cons (qe_fn C_is_number hr g_check_share_is_number (qa_cons (qe_ix ix_tup (qv 0 v_check_share_0) qe_int) (qa_cons qe_int qa_nil))) (qa_cons qe_str qa_nil))))))), ?_⟩
    refine ⟨_, rfl, p, _, 2, rfl, hp, ⟨_, demE (decide_eq_true rfl), ?_⟩⟩
    refine ⟨_, rfl, p, _, _, _, rfl, rfl, SqT.of hp, rfl, t, 0, rfl, ⟨_, demE (decide_eq_true ht), ?_⟩⟩
    exact ⟨_, rfl, p, _, _, _, rfl, rfl, SqT.of hp, rfl, b, 1, rfl, ⟨_, demE (decide_eq_true hb), q⟩⟩
abbrev s_are_unlike : Stmt := top 6
abbrev N_are_unlike : List Str := ["values"]
theorem sc_are_unlike : FnScope N_are_unlike ["values"] (defScope s_are_unlike) := ⟨rfl, rfl, rfl, by decide +kernel, rfl, by decide +kernel, by decide +kernel⟩
theorem g_are_unlike_len : okGl (defScope s_are_unlike) "len" = true := by decide +kernel
theorem g_are_unlike_set : okGl (defScope s_are_unlike) "set" = true := by decide +kernel
theorem v_are_unlike_0 : okVar N_are_unlike (defScope s_are_unlike) 0 "values" = true := by decide +kernel
theorem ok_are_unlike {f : Addr} {fd : FuncData} {tk : Tok} (F : Fun K "are_unlike" "are_unlike" s_are_unlike f fd) (T : Txt K mg tk) : FnOk P w K mg base CX0 1 f fd ["values"] spUnlike := by
  refine F.okQ sc_are_unlike (fun vs H Q E h => ?_) (fun cdv A outer s H vs Q E hr h => ?_)
  · obtain ⟨_, _, rfl, _⟩ := h
    rfl
  · obtain ⟨p, zs, rfl, hp, hl, hn, q⟩ := h
    have nd := sc_are_unlike.nd
    refine ⟨_, (qss_one (qs_ret (qe_cmp op_eq (qe_callB call_len_setN g_are_unlike_len T.b_len bt_len (qa_cons (qe_callTy call_set g_are_unlike_set T.b_set bt_set (qa_cons (qv 0 v_are_unlike_0) qa_nil)) qa_nil)) (qe_callB call_len_seq g_are_unlike_len T.b_len bt_len (qa_cons (qv 0 v_are_unlike_0) qa_nil))))), ?_⟩
    refine ⟨_, rfl, rfl, p, zs, rfl, SqL.of hp, by omega, fun l hln => ?_⟩
    have s1 := (Same.refl H).upd (o := SetN P w l (ddS zs).length) hln
    have hdl := ddS_nodup hn
    refine ⟨l, _, rfl, upd_same, by omega, _, rfl, p, _, rfl, .inl (SqL.of (s1 _ _ hp)), rfl, ?_⟩
    have e : decide (V.int ((ddS zs).length : Int) = V.int ((zs.map V.str).length : Int)) = true := decide_eq_true (by rw [hdl, List.length_map])
    rw [e]
    exact q _ s1
abbrev s_check_kinds : Stmt := top 18
abbrev N_check_kinds : List Str := ["kinds", "kind", "factor"]
theorem sc_check_kinds : FnScope N_check_kinds ["kinds"] (defScope s_check_kinds) := ⟨rfl, rfl, rfl, by decide +kernel, rfl, by decide +kernel, by decide +kernel⟩
theorem g_check_kinds_check_list : okGl (defScope s_check_kinds) "check_list" = true := by decide +kernel
theorem v_check_kinds_0 : okVar N_check_kinds (defScope s_check_kinds) 0 "kinds" = true := by decide +kernel
theorem w_check_kinds_2 : okSet N_check_kinds (defScope s_check_kinds) 2 "factor" = true := by decide +kernel
theorem w_check_kinds_1 : okSet N_check_kinds (defScope s_check_kinds) 1 "kind" = true := by decide +kernel
theorem g_check_kinds_demand : okGl (defScope s_check_kinds) "demand" = true := by decide +kernel
theorem g_check_kinds_is_name : okGl (defScope s_check_kinds) "is_name" = true := by decide +kernel
theorem v_check_kinds_1 : okVar N_check_kinds (defScope s_check_kinds) 1 "kind" = true := by decide +kernel
theorem g_check_kinds_is_number : okGl (defScope s_check_kinds) "is_number" = true := by decide +kernel
theorem v_check_kinds_2 : okVar N_check_kinds (defScope s_check_kinds) 2 "factor" = true := by decide +kernel
theorem g_check_kinds_are_unlike : okGl (defScope s_check_kinds) "are_unlike" = true := by decide +kernel
abbrev c_check_kinds_c0 : Scope := { kind := .function, names := [(Str.ofString ".0", NameKind.local), (Str.ofString "kind", NameKind.local), (Str.ofString "factor", NameKind.local)], isGenerator := false, isCoroutine := false }
abbrev N_check_kinds_c0 : List Str := ["kind", "factor", "kinds", "?kind", "?factor"]
theorem cs_check_kinds_c0 : csB' N_check_kinds (defScope s_check_kinds) ["kind", "factor"] N_check_kinds_c0 c_check_kinds_c0 = true := by decide +kernel
theorem nd_check_kinds_c0 : List.Nodup N_check_kinds_c0 := by decide +kernel
theorem o_check_kinds_c0_1 : okLoc N_check_kinds_c0 (relabelS c_check_kinds_c0 (defScope s_check_kinds)) 1 "factor" = true := by decide +kernel
theorem o_check_kinds_c0_0 : okLoc N_check_kinds_c0 (relabelS c_check_kinds_c0 (defScope s_check_kinds)) 0 "kind" = true := by decide +kernel
theorem v_check_kinds_c0_0 : okVar N_check_kinds_c0 (relabelS c_check_kinds_c0 (defScope s_check_kinds)) 0 "kind" = true := by decide +kernel
theorem ok_check_kinds {f : Addr} {fd : FuncData} {tk : Tok} (F : Fun K "check_kinds" "check_kinds" s_check_kinds f fd) (T : Txt K mg tk) (C_check_list : Callee P w K mg base 2 "check_list" ["value", "many", "words"] spCheckList) (C_demand : Callee P w K mg base 1 "demand" ["holds", "words"] spDemand) (C_is_number : Callee P w K mg base 1 "is_number" ["value", "least"] spIsNumber) (C_is_name : Callee P w K mg base 1 "is_name" ["text"] spIsName) (C_are_unlike : Callee P w K mg base 1 "are_unlike" ["values"] spUnlike) :
    FnOk P w K mg base CX0 3 f fd ["kinds"] spCheckKinds := by
  refine F.okQ sc_check_kinds (fun vs H Q E h => ?_) (fun cdv A outer s H vs Q E hr h => ?_)
  · obtain ⟨_, _, rfl, _⟩ := h
    rfl
  · obtain ⟨v, ks, rfl, ⟨a, us, rfl, ha, hp⟩, ok, q⟩ := h
    have nd := sc_check_kinds.nd
    have hl := paired_len hp
    have hk := ok.len
    refine ⟨_, (qss_cons (qs_expr (qe_fn C_check_list hr g_check_kinds_check_list (qa_cons (qv 0 v_check_kinds_0) (qa_cons qe_int (qa_cons qe_str qa_nil)))))
      (qss_cons (qs_for PassesOwn.never rfl (qi_seq (qv 0 v_check_kinds_0)) (qg_tup rfl (qgs_cons (qg_name (i := 1) nd w_check_kinds_1) (qgs_cons (qg_name (i := 2) nd w_check_kinds_2) qgs_nil)))
      (qss_cons (qs_expr (qe_fn C_demand hr g_check_kinds_demand (qa_cons (qe_fn C_is_name hr g_check_kinds_is_name (qa_cons (qv 1 v_check_kinds_1) qa_nil)) (qa_cons qe_str qa_nil))))
        (qss_one (qs_expr (qe_fn C_demand hr g_check_kinds_demand (qa_cons (qe_fn C_is_number hr g_check_kinds_is_number (qa_cons (qv 2 v_check_kinds_2) (qa_cons qe_int qa_nil))) (qa_cons qe_str qa_nil)))))))
      (qss_one (qs_expr (qe_fn C_demand hr g_check_kinds_demand (qa_cons (qe_fn C_are_unlike hr g_check_kinds_are_unlike (qa_cons (qe_comp rfl (own := ["kind", "factor"]) (N' := N_check_kinds_c0) cs_check_kinds_c0 (qi_seq (qv 0 v_check_kinds_0)) (fun _ _ _ _ => (qg_tupK (K := K) rfl (qgs_cons (qg_own (i := 0) nd_check_kinds_c0 o_check_kinds_c0_0) (qgs_cons (qg_own (i := 1) nd_check_kinds_c0 o_check_kinds_c0_1) qgs_nil)))) (fun _ _ _ _ => qts_nil) (fun _ _ _ _ => (qv 0 v_check_kinds_c0_0))) qa_nil)) (qa_cons qe_str qa_nil))))))), ?_⟩
    refine ⟨_, rfl, a, us, 2, _, rfl, ha, by omega, rows_all (m := 2) hp (fun _ => rfl), fun H1 s1 => ?_⟩
    refine ⟨_, rfl, a, rfl, for_seq (ha.same s1) (fun i σ H2 => Same H1 H2 ∧ ∃ v1 v2, σ = [some (.ref a), v1, v2]) ⟨Same.refl _, none, none, rfl⟩ (fun i σ H2 _ p => p.1) ?_ ?_⟩
    · rintro i x σ H2 hx ⟨s2, v1, v2, rfl⟩
      obtain ⟨k, hki, p, rfl, hpp⟩ := paired_get hp hx
      have hm := List.mem_of_getElem? hki
      refine ⟨p, _, rfl, SqT.of (s2 _ _ (s1 _ _ hpp)), rfl, _, _, rfl, _, _, rfl, rfl, ?_⟩
      refine ⟨_, rfl, k.1, rfl, (ok.names k hm).1, fun H3 s3 => ⟨_, demE (ok.names k hm).2, ?_⟩⟩
      exact ⟨_, rfl, k.2, 0, rfl, ⟨_, demE (decide_eq_true (ok.facs k hm)), ⟨s2.trans s3, _, _, rfl⟩⟩⟩
    · rintro σ H2 ⟨s2, v1, v2, rfl⟩
      have s02 := s1.trans s2
      refine ⟨_, rfl, a, rfl, comp_seq (ha.same s02) (fun i ys H3 => H3 = H2 ∧ ys = ((ks.take i).map (·.1)).map V.str) ⟨rfl, rfl⟩ (fun i ys H3 _ p => p.1 ▸ Same.refl _) (Nat.le_trans (by omega : us.length ≤ 1000) (by decide)) ?_ ?_⟩
      · rintro i x ys H3 hx hy ⟨rfl, rfl⟩
        obtain ⟨k, hki, p, rfl, hpp⟩ := paired_get hp hx
        refine ⟨p, _, rfl, SqT.of (s02 _ _ hpp), rfl, _, _, rfl, _, _, rfl, rfl, ?_⟩
        refine ⟨_, rfl, rfl, ?_⟩
        rw [take_snoc hki]
        simp
      · rintro ys H3 hyl ⟨rfl, rfl⟩ p hpn
        have ht : ks.take us.length = ks := List.take_of_length_le (by omega)
        rw [ht]
        exact ⟨p, ks.map (·.1), rfl, upd_same, by rw [List.length_map]; omega, ok.nd, fun H4 s4 => ⟨_, rfl, q _ ((s02.upd hpn).trans s4)⟩⟩
abbrev s_check_leasts : Stmt := top 19
abbrev N_check_leasts : List Str := ["pairs", "lowest", "words"]
theorem sc_check_leasts : FnScope N_check_leasts ["pairs", "lowest", "words"] (defScope s_check_leasts) := ⟨rfl, rfl, rfl, by decide +kernel, rfl, by decide +kernel, by decide +kernel⟩
theorem g_check_leasts_check_list : okGl (defScope s_check_leasts) "check_list" = true := by decide +kernel
theorem v_check_leasts_2 : okVar N_check_leasts (defScope s_check_leasts) 2 "words" = true := by decide +kernel
theorem v_check_leasts_0 : okVar N_check_leasts (defScope s_check_leasts) 0 "pairs" = true := by decide +kernel
theorem g_check_leasts_demand : okGl (defScope s_check_leasts) "demand" = true := by decide +kernel
theorem g_check_leasts_all : okGl (defScope s_check_leasts) "all" = true := by decide +kernel
abbrev c_check_leasts_c0 : Scope := { kind := .function, names := [(Str.ofString ".0", NameKind.local), (Str.ofString "pair", NameKind.local), (Str.ofString "is_number", NameKind.globalImplicit), (Str.ofString "lowest", NameKind.free)], isGenerator := false, isCoroutine := false }
abbrev N_check_leasts_c0 : List Str := ["pair", "pairs", "lowest", "words"]
theorem cs_check_leasts_c0 : csB' N_check_leasts (defScope s_check_leasts) ["pair"] N_check_leasts_c0 c_check_leasts_c0 = true := by decide +kernel
theorem nd_check_leasts_c0 : List.Nodup N_check_leasts_c0 := by decide +kernel
theorem o_check_leasts_c0_0 : okLoc N_check_leasts_c0 (relabelS c_check_leasts_c0 (defScope s_check_leasts)) 0 "pair" = true := by decide +kernel
theorem g_check_leasts_c0_is_number : okGl (relabelS c_check_leasts_c0 (defScope s_check_leasts)) "is_number" = true := by decide +kernel
theorem v_check_leasts_c0_2 : okVar N_check_leasts_c0 (relabelS c_check_leasts_c0 (defScope s_check_leasts)) 2 "lowest" = true := by decide +kernel
theorem v_check_leasts_c0_0 : okVar N_check_leasts_c0 (relabelS c_check_leasts_c0 (defScope s_check_leasts)) 0 "pair" = true := by decide +kernel
theorem g_check_leasts_are_rising : okGl (defScope s_check_leasts) "are_rising" = true := by decide +kernel
abbrev c_check_leasts_c1 : Scope := { kind := .function, names := [(Str.ofString ".0", NameKind.local), (Str.ofString "pair", NameKind.local)], isGenerator := false, isCoroutine := false }
abbrev N_check_leasts_c1 : List Str := ["pair", "pairs", "lowest", "words"]
theorem cs_check_leasts_c1 : csB' N_check_leasts (defScope s_check_leasts) ["pair"] N_check_leasts_c1 c_check_leasts_c1 = true := by decide +kernel
theorem nd_check_leasts_c1 : List.Nodup N_check_leasts_c1 := by decide +kernel
theorem o_check_leasts_c1_0 : okLoc N_check_leasts_c1 (relabelS c_check_leasts_c1 (defScope s_check_leasts)) 0 "pair" = true := by decide +kernel
theorem v_check_leasts_c1_0 : okVar N_check_leasts_c1 (relabelS c_check_leasts_c1 (defScope s_check_leasts)) 0 "pair" = true := by decide +kernel
theorem ok_check_leasts {f : Addr} {fd : FuncData} {tk : Tok} (F : Fun K "check_leasts" "check_leasts" s_check_leasts f fd) (T : Txt K mg tk) (C_check_list : Callee P w K mg base 2 "check_list" ["value", "many", "words"] spCheckList) (C_demand : Callee P w K mg base 1 "demand" ["holds", "words"] spDemand) (C_is_number : Callee P w K mg base 1 "is_number" ["value", "least"] spIsNumber) (C_are_rising : Callee P w K mg base 1 "are_rising" ["numbers"] spAreRising) :
    FnOk P w K mg base CX0 3 f fd ["pairs", "lowest", "words"] spCheckLeasts := by
  refine F.okQ sc_check_leasts (fun vs H Q E h => ?_) (fun cdv A outer s H vs Q E hr h => ?_)
  · obtain ⟨_, _, _, _, _, rfl, _⟩ := h
    rfl
  · obtain ⟨a, us, ns, low, wd, rfl, ha, hp, hz, hlow, hris, q⟩ := h
    have nd := sc_check_leasts.nd
    have hl := paired_len hp
    refine ⟨_, (qss_cons (qs_expr (qe_fn C_check_list hr g_check_leasts_check_list (qa_cons (qv 0 v_check_leasts_0) (qa_cons qe_int (qa_cons (qv 2 v_check_leasts_2) qa_nil)))))
      (qss_cons (qs_expr (qe_fn C_demand hr g_check_leasts_demand (qa_cons (qe_callB call_all g_check_leasts_all T.b_all bt_all (qa_cons (qe_comp rfl (own := ["pair"]) (N' := N_check_leasts_c0) cs_check_leasts_c0 (qi_seq (qv 0 v_check_leasts_0)) (fun _ _ _ _ => (qg_own (i := 0) nd_check_leasts_c0 o_check_leasts_c0_0)) (fun _ _ _ _ => qts_nil) (fun _ _ _ _ => (qe_fn C_is_number hr g_check_leasts_c0_is_number (qa_cons (qe_ix (ix_tupK (K := K)) (qv 0 v_check_leasts_c0_0) qe_int) (qa_cons (qv 2 v_check_leasts_c0_2) qa_nil))))) qa_nil)) (qa_cons (qv 2 v_check_leasts_2) qa_nil))))
      (qss_one (qs_expr (qe_fn C_demand hr g_check_leasts_demand (qa_cons (qe_fn C_are_rising hr g_check_leasts_are_rising (qa_cons (qe_comp rfl (own := ["pair"]) (N' := N_check_leasts_c1) cs_check_leasts_c1 (qi_seq (qv 0 v_check_leasts_0)) (fun _ _ _ _ => (qg_own (i := 0) nd_check_leasts_c1 o_check_leasts_c1_0)) (fun _ _ _ _ => qts_nil) (fun _ _ _ _ => (qe_ix (ix_tupK (K := K)) (qv 0 v_check_leasts_c1_0) qe_int))) qa_nil)) (qa_cons (qv 2 v_check_leasts_2) qa_nil))))))), ?_⟩
    refine ⟨_, rfl, _, rfl, a, us, 2, _, rfl, ha, by omega, fun u hu => ?_, fun H1 s1 => ?_⟩
    · obtain ⟨i, hi⟩ := List.mem_iff_getElem?.mp hu
      obtain ⟨x, _, p, y, e, hpp⟩ := paired_get hp hi
      exact ⟨p, _, e, hpp, rfl⟩
    refine ⟨_, rfl, a, rfl, comp_seq (ha.same s1) (fun i ys H2 => H2 = H1 ∧ ys = (List.replicate i true).map V.bl) ⟨rfl, rfl⟩ (fun i ys H2 _ p => p.1 ▸ Same.refl _) (Nat.le_trans (by omega : us.length ≤ 1000) (by decide)) ?_ ?_⟩
    · rintro i x ys H2 hx hy ⟨rfl, rfl⟩
      obtain ⟨n, hn, p, y, rfl, hpp⟩ := paired_get hp hx
      refine ⟨_, rfl, p, _, _, _, rfl, rfl, SqT.of (s1 _ _ hpp), rfl, _, rfl, n, low, rfl, rfl, ?_⟩
      rw [List.replicate_succ', List.map_append, decide_eq_true (hlow n (List.mem_of_getElem? hn))]
      rfl
    · rintro ys H2 hyl ⟨rfl, rfl⟩ p hpn
      have e : (List.replicate us.length true).all id = true := by simp [List.all_replicate]
      refine ⟨rfl, p, _, rfl, SqL.of upd_same, _, rfl, ⟨_, demE e, ?_⟩⟩
      have s2 := s1.upd (o := .lst ((List.replicate us.length true).map V.bl)) hpn
      generalize hH3 : upd H2 p (.lst ((List.replicate us.length true).map V.bl)) = H3 at s2 ⊢
      refine ⟨_, rfl, a, rfl, comp_seq (ha.same s2) (fun i ys H4 => H4 = H3 ∧ ys = (ns.take i).map V.int) ⟨rfl, rfl⟩ (fun i ys H4 _ p => p.1 ▸ Same.refl _) (Nat.le_trans (by omega : us.length ≤ 1000) (by decide)) ?_ ?_⟩
      · rintro i x ys H4 hx hy ⟨rfl, rfl⟩
        obtain ⟨n, hn, p', y, rfl, hpp⟩ := paired_get hp hx
        refine ⟨_, rfl, p', _, _, _, rfl, rfl, SqT.of (s2 _ _ hpp), rfl, rfl, ?_⟩
        rw [take_snoc hn]
        simp
      · rintro ys H4 hyl2 ⟨rfl, rfl⟩ p2 hp2
        have ht : ns.take us.length = ns := List.take_of_length_le (by omega)
        rw [ht]
        exact ⟨p2, ns, rfl, upd_same, by omega, _, rfl, ⟨_, demE hris, (q _ (s2.upd hp2))⟩⟩
end
end K05

set_option Elab.async false
set_option linter.all false
set_option maxRecDepth 100000
set_option maxHeartbeats 4000000
namespace K05
open PySem PySem.Spec PyProof.Rows L2
structure StepsOk (ps : List (Int × Int)) : Prop where
  len : ps.length ≤ 100
  low : ∀ k ∈ ps, 0 ≤ k.1 ∧ 0 ≤ k.2
  ris : risB (ps.map (·.1)) = true
structure DoublesOk (ts : List (Int × Int × Int)) : Prop where
  len : ts.length ≤ 100
  ok : ∀ k ∈ ts, 0 ≤ k.1 ∧ 0 ≤ k.2.1 ∧ k.1 ≤ k.2.1 ∧ 1 ≤ k.2.2
structure RanksOk (rs : List (Int × Str)) : Prop where
  len : rs.length ≤ 100
  low : ∀ k ∈ rs, 1 ≤ k.1
  names : ∀ k ∈ rs, k.2.length ≤ 1000 ∧ isNameB k.2 = true
  ris : risB (rs.map (·.1)) = true
def spCheckSteps : Sp := fun vs H Q _ => ∃ (v : V) (ks : List (Int × Int)), vs = [v] ∧ RowsAt fP H v ks ∧ StepsOk ks ∧ ∀ H', Same H H' → Q .non H'
def spCheckDoubles : Sp := fun vs H Q _ => ∃ (v : V) (ks : List (Int × Int × Int)), vs = [v] ∧ RowsAt fT H v ks ∧ DoublesOk ks ∧ ∀ H', Same H H' → Q .non H'
def spCheckRanks : Sp := fun vs H Q _ => ∃ (v : V) (ks : List (Int × Str)), vs = [v] ∧ RowsAt fR H v ks ∧ RanksOk ks ∧ ∀ H', Same H H' → Q .non H'
theorem leasts_of {α : Type} {f : α → List V} {g : α → Int} {H : Hp} (hf : ∀ x, ∃ y, f x = [.int (g x), y]) : ∀ {us : List V} {xs : List α}, Paired (RowP f H) us xs → Paired (LeastP H) us (xs.map g)
  | _, _, .nil => .nil
  | _, x :: _, .cons ⟨p, e, hp⟩ t => .cons (by obtain ⟨y, hy⟩ := hf x; exact ⟨p, y, e, by rw [hp, hy]⟩) (leasts_of hf t)
section
variable {P : Program} {w : World} {K : PySem.W.Frag} {mg : Str → Option Value} {base : Heap}
abbrev s_check_steps : Stmt := top 20
abbrev N_check_steps : List Str := ["steps", "least", "extra"]
theorem sc_check_steps : FnScope N_check_steps ["steps"] (defScope s_check_steps) := ⟨rfl, rfl, rfl, by decide +kernel, rfl, by decide +kernel, by decide +kernel⟩
theorem g_check_steps_check_leasts : okGl (defScope s_check_steps) "check_leasts" = true := by decide +kernel
theorem v_check_steps_0 : okVar N_check_steps (defScope s_check_steps) 0 "steps" = true := by decide +kernel
theorem w_check_steps_2 : okSet N_check_steps (defScope s_check_steps) 2 "extra" = true := by decide +kernel
theorem w_check_steps_1 : okSet N_check_steps (defScope s_check_steps) 1 "least" = true := by decide +kernel
theorem g_check_steps_demand : okGl (defScope s_check_steps) "demand" = true := by decide +kernel
theorem g_check_steps_is_number : okGl (defScope s_check_steps) "is_number" = true := by decide +kernel
theorem v_check_steps_2 : okVar N_check_steps (defScope s_check_steps) 2 "extra" = true := by decide +kernel
theorem ok_check_steps {f : Addr} {fd : FuncData} (F : Fun K "check_steps" "check_steps" s_check_steps f fd) (C_check_leasts : Callee P w K mg base 3 "check_leasts" ["pairs", "lowest", "words"] spCheckLeasts) (C_demand : Callee P w K mg base 1 "demand" ["holds", "words"] spDemand) (C_is_number : Callee P w K mg base 1 "is_number" ["value", "least"] spIsNumber) :
    FnOk P w K mg base CX0 4 f fd ["steps"] spCheckSteps := by
  refine F.okQ sc_check_steps (fun vs H Q E h => ?_) (fun cdv A outer s H vs Q E hr h => ?_)
  · obtain ⟨_, _, rfl, _⟩ := h
    rfl
  · obtain ⟨v, ks, rfl, ⟨a, us, rfl, ha, hp⟩, ok, q⟩ := h
    have nd := sc_check_steps.nd
    refine ⟨_, (qss_cons (qs_expr (qe_fn C_check_leasts hr g_check_steps_check_leasts (qa_cons (qv 0 v_check_steps_0) (qa_cons qe_int (qa_cons qe_str qa_nil)))))
      (qss_one (qs_for PassesOwn.never rfl (qi_seq (qv 0 v_check_steps_0)) (qg_tup rfl (qgs_cons (qg_name (i := 1) nd w_check_steps_1) (qgs_cons (qg_name (i := 2) nd w_check_steps_2) qgs_nil)))
      (qss_one (qs_expr (qe_fn C_demand hr g_check_steps_demand (qa_cons (qe_fn C_is_number hr g_check_steps_is_number (qa_cons (qv 2 v_check_steps_2) (qa_cons qe_int qa_nil))) (qa_cons qe_str qa_nil)))))))), ?_⟩
    refine ⟨_, rfl, a, us, ks.map (·.1), 0, _, rfl, ha, leasts_of (f := fP) (g := fun k => k.1) (fun x => ⟨_, rfl⟩) hp, by rw [List.length_map]; exact ok.len, fun n hn => ?_, ok.ris, fun H1 s1 => ?_⟩
    · obtain ⟨k, hk, rfl⟩ := List.mem_map.mp hn
      exact (ok.low k hk).1
    refine ⟨_, rfl, a, rfl, for_seq (ha.same s1) (fun i σ H2 => Same H1 H2 ∧ ∃ v1 v2, σ = [some (.ref a), v1, v2]) ⟨Same.refl _, none, none, rfl⟩ (fun i σ H2 _ p => p.1) ?_ ?_⟩
    · rintro i x σ H2 hx ⟨s2, v1, v2, rfl⟩
      obtain ⟨k, hki, p, rfl, hpp⟩ := paired_get hp hx
      have hm := List.mem_of_getElem? hki
      refine ⟨p, _, rfl, SqT.of (s2 _ _ (s1 _ _ hpp)), rfl, _, _, rfl, _, _, rfl, rfl, ?_⟩
      exact ⟨_, rfl, k.2, 0, rfl, ⟨_, demE (decide_eq_true (ok.low k hm).2), s2, _, _, rfl⟩⟩
    · rintro σ H2 ⟨s2, v1, v2, rfl⟩
      exact q _ (s1.trans s2)
abbrev s_check_doubles : Stmt := top 21
abbrev N_check_doubles : List Str := ["doubles", "first", "last", "factor"]
theorem sc_check_doubles : FnScope N_check_doubles ["doubles"] (defScope s_check_doubles) := ⟨rfl, rfl, rfl, by decide +kernel, rfl, by decide +kernel, by decide +kernel⟩
theorem g_check_doubles_check_list : okGl (defScope s_check_doubles) "check_list" = true := by decide +kernel
theorem v_check_doubles_0 : okVar N_check_doubles (defScope s_check_doubles) 0 "doubles" = true := by decide +kernel
theorem w_check_doubles_3 : okSet N_check_doubles (defScope s_check_doubles) 3 "factor" = true := by decide +kernel
theorem w_check_doubles_2 : okSet N_check_doubles (defScope s_check_doubles) 2 "last" = true := by decide +kernel
theorem w_check_doubles_1 : okSet N_check_doubles (defScope s_check_doubles) 1 "first" = true := by decide +kernel
theorem g_check_doubles_demand : okGl (defScope s_check_doubles) "demand" = true := by decide +kernel
theorem g_check_doubles_is_number : okGl (defScope s_check_doubles) "is_number" = true := by decide +kernel
theorem v_check_doubles_2 : okVar N_check_doubles (defScope s_check_doubles) 2 "last" = true := by decide +kernel
theorem v_check_doubles_1 : okVar N_check_doubles (defScope s_check_doubles) 1 "first" = true := by decide +kernel
theorem v_check_doubles_3 : okVar N_check_doubles (defScope s_check_doubles) 3 "factor" = true := by decide +kernel
theorem ok_check_doubles {f : Addr} {fd : FuncData} (F : Fun K "check_doubles" "check_doubles" s_check_doubles f fd) (C_check_list : Callee P w K mg base 2 "check_list" ["value", "many", "words"] spCheckList) (C_demand : Callee P w K mg base 1 "demand" ["holds", "words"] spDemand) (C_is_number : Callee P w K mg base 1 "is_number" ["value", "least"] spIsNumber) :
    FnOk P w K mg base CX0 3 f fd ["doubles"] spCheckDoubles := by
  refine F.okQ sc_check_doubles (fun vs H Q E h => ?_) (fun cdv A outer s H vs Q E hr h => ?_)
  · obtain ⟨_, _, rfl, _⟩ := h
    rfl
  · obtain ⟨v, ks, rfl, ⟨a, us, rfl, ha, hp⟩, ok, q⟩ := h
    have nd := sc_check_doubles.nd
    have hl := paired_len hp
    have hk := ok.len
    refine ⟨_, (qss_cons (qs_expr (qe_fn C_check_list hr g_check_doubles_check_list (qa_cons (qv 0 v_check_doubles_0) (qa_cons qe_int (qa_cons qe_str qa_nil)))))
      (qss_one (qs_for PassesOwn.never rfl (qi_seq (qv 0 v_check_doubles_0)) (qg_tup rfl (qgs_cons (qg_name (i := 1) nd w_check_doubles_1) (qgs_cons (qg_name (i := 2) nd w_check_doubles_2) (qgs_cons (qg_name (i := 3) nd w_check_doubles_3) qgs_nil))))
      (qss_cons (qs_expr (qe_fn C_demand hr g_check_doubles_demand (qa_cons (qe_and (qe_fn C_is_number hr g_check_doubles_is_number (qa_cons (qv 1 v_check_doubles_1) (qa_cons qe_int qa_nil))) (qe_one (qe_fn C_is_number hr g_check_doubles_is_number (qa_cons (qv 2 v_check_doubles_2) (qa_cons qe_int qa_nil))))) (qa_cons qe_str qa_nil))))
        (qss_cons (qs_expr (qe_fn C_demand hr g_check_doubles_demand (qa_cons (qe_cmp op_le (qv 1 v_check_doubles_1) (qv 2 v_check_doubles_2)) (qa_cons qe_str qa_nil))))
        (qss_one (qs_expr (qe_fn C_demand hr g_check_doubles_demand (qa_cons (qe_fn C_is_number hr g_check_doubles_is_number (qa_cons (qv 3 v_check_doubles_3) (qa_cons qe_int qa_nil))) (qa_cons qe_str qa_nil)))))))))), ?_⟩
    refine ⟨_, rfl, a, us, 3, _, rfl, ha, by omega, rows_all (m := 3) hp (fun _ => rfl), fun H1 s1 => ?_⟩
    refine ⟨_, rfl, a, rfl, for_seq (ha.same s1) (fun i σ H2 => Same H1 H2 ∧ ∃ v1 v2 v3, σ = [some (.ref a), v1, v2, v3]) ⟨Same.refl _, none, none, none, rfl⟩ (fun i σ H2 _ p => p.1) ?_ ?_⟩
    · rintro i x σ H2 hx ⟨s2, v1, v2, v3, rfl⟩
      obtain ⟨k, hki, p, rfl, hpp⟩ := paired_get hp hx
      have hm := ok.ok k (List.mem_of_getElem? hki)
      refine ⟨p, _, rfl, SqT.of (s2 _ _ (s1 _ _ hpp)), rfl, _, _, rfl, _, _, rfl, _, _, rfl, rfl, ?_⟩
      refine ⟨_, rfl, k.1, 0, rfl, _, rfl, ?_⟩
      rw [if_pos (decide_eq_true hm.1)]
      refine ⟨_, rfl, k.2.1, 0, rfl, ⟨_, demE (decide_eq_true hm.2.1), ?_⟩⟩
      refine ⟨_, rfl, _, rfl, _, _, rfl, rfl, ⟨_, demE (decide_eq_true hm.2.2.1), ?_⟩⟩
      exact ⟨_, rfl, k.2.2, 1, rfl, ⟨_, demE (decide_eq_true hm.2.2.2), s2, _, _, _, rfl⟩⟩
    · rintro σ H2 ⟨s2, v1, v2, v3, rfl⟩
      exact q _ (s1.trans s2)
abbrev s_check_ranks : Stmt := top 22
abbrev N_check_ranks : List Str := ["ranks", "least", "title"]
theorem sc_check_ranks : FnScope N_check_ranks ["ranks"] (defScope s_check_ranks) := ⟨rfl, rfl, rfl, by decide +kernel, rfl, by decide +kernel, by decide +kernel⟩
theorem g_check_ranks_check_leasts : okGl (defScope s_check_ranks) "check_leasts" = true := by decide +kernel
theorem v_check_ranks_0 : okVar N_check_ranks (defScope s_check_ranks) 0 "ranks" = true := by decide +kernel
theorem w_check_ranks_2 : okSet N_check_ranks (defScope s_check_ranks) 2 "title" = true := by decide +kernel
theorem w_check_ranks_1 : okSet N_check_ranks (defScope s_check_ranks) 1 "least" = true := by decide +kernel
theorem g_check_ranks_demand : okGl (defScope s_check_ranks) "demand" = true := by decide +kernel
theorem g_check_ranks_is_name : okGl (defScope s_check_ranks) "is_name" = true := by decide +kernel
theorem v_check_ranks_2 : okVar N_check_ranks (defScope s_check_ranks) 2 "title" = true := by decide +kernel
theorem ok_check_ranks {f : Addr} {fd : FuncData} (F : Fun K "check_ranks" "check_ranks" s_check_ranks f fd) (C_check_leasts : Callee P w K mg base 3 "check_leasts" ["pairs", "lowest", "words"] spCheckLeasts) (C_demand : Callee P w K mg base 1 "demand" ["holds", "words"] spDemand) (C_is_name : Callee P w K mg base 1 "is_name" ["text"] spIsName) :
    FnOk P w K mg base CX0 4 f fd ["ranks"] spCheckRanks := by
  refine F.okQ sc_check_ranks (fun vs H Q E h => ?_) (fun cdv A outer s H vs Q E hr h => ?_)
  · obtain ⟨_, _, rfl, _⟩ := h
    rfl
  · obtain ⟨v, ks, rfl, ⟨a, us, rfl, ha, hp⟩, ok, q⟩ := h
    have nd := sc_check_ranks.nd
    refine ⟨_, (qss_cons (qs_expr (qe_fn C_check_leasts hr g_check_ranks_check_leasts (qa_cons (qv 0 v_check_ranks_0) (qa_cons qe_int (qa_cons qe_str qa_nil)))))
      (qss_one (qs_for PassesOwn.never rfl (qi_seq (qv 0 v_check_ranks_0)) (qg_tup rfl (qgs_cons (qg_name (i := 1) nd w_check_ranks_1) (qgs_cons (qg_name (i := 2) nd w_check_ranks_2) qgs_nil)))
      (qss_one (qs_expr (qe_fn C_demand hr g_check_ranks_demand (qa_cons (qe_fn C_is_name hr g_check_ranks_is_name (qa_cons (qv 2 v_check_ranks_2) qa_nil)) (qa_cons qe_str qa_nil)))))))), ?_⟩
    refine ⟨_, rfl, a, us, ks.map (·.1), 1, _, rfl, ha, leasts_of (f := fR) (g := fun k => k.1) (fun x => ⟨_, rfl⟩) hp, by rw [List.length_map]; exact ok.len, fun n hn => ?_, ok.ris, fun H1 s1 => ?_⟩
    · obtain ⟨k, hk, rfl⟩ := List.mem_map.mp hn
      exact ok.low k hk
    refine ⟨_, rfl, a, rfl, for_seq (ha.same s1) (fun i σ H2 => Same H1 H2 ∧ ∃ v1 v2, σ = [some (.ref a), v1, v2]) ⟨Same.refl _, none, none, rfl⟩ (fun i σ H2 _ p => p.1) ?_ ?_⟩
    · rintro i x σ H2 hx ⟨s2, v1, v2, rfl⟩
      obtain ⟨k, hki, p, rfl, hpp⟩ := paired_get hp hx
      have hm := List.mem_of_getElem? hki
      refine ⟨p, _, rfl, SqT.of (s2 _ _ (s1 _ _ hpp)), rfl, _, _, rfl, _, _, rfl, rfl, ?_⟩
      exact ⟨_, rfl, k.2, rfl, (ok.names k hm).1, fun H3 s3 => ⟨_, demE (ok.names k hm).2, s2.trans s3, _, _, rfl⟩⟩
    · rintro σ H2 ⟨s2, v1, v2, rfl⟩
      exact q _ (s1.trans s2)
end
/-! a house -/
structure HD where
  name : Str
  top : Int
  bot : Int
  kinds : List (Str × Int)
  steps : List (Int × Int)
  doubles : List (Int × Int × Int)
  cap : Option Int
  age : Option Int
  rest : Option Int
  ranks : List (Int × Str)
  span : Int
  grace : Int
def oV : Option Int → V
  | none => .non
  | some n => .int n
structure HD.Ok (d : HD) : Prop where
  name : d.name.length ≤ 1000 ∧ isNameB d.name = true
  top : 0 ≤ d.top
  bot : 1 ≤ d.bot
  kinds : KindsOk d.kinds
  steps : StepsOk d.steps
  doubles : DoublesOk d.doubles
  cap : ∀ n, d.cap = some n → 0 ≤ n
  age : ∀ n, d.age = some n → 1 ≤ n
  rest : ∀ n, d.rest = some n → 1 ≤ n
  ranks : RanksOk d.ranks
  span : 1 ≤ d.span
  grace : 0 ≤ d.grace
/-- the attributes, in the order in which __init__ stores them -/
def flds (d : HD) (sh k s t r : Addr) : List (Str × V) :=
  putF "grace" (.int d.grace) (putF "span" (.int d.span) (putF "ranks" (.ref r) (putF "rest" (oV d.rest) (putF "age" (oV d.age) (putF "cap" (oV d.cap) (putF "doubles" (.ref t) (putF "steps" (.ref s) (putF "kinds" (.ref k) (putF "share" (.ref sh) (putF "name" (.str d.name) []))))))))))
structure HouseAt (C : Addr) (H : Hp) (x : Addr) (d : HD) : Prop where
  ex : ∃ dx sh k s t r uk us ut ur, H x = some (.ins C dx (flds d sh k s t r)) ∧ H sh = some (.tup [.int d.top, .int d.bot]) ∧
    (H k = some (.tup uk) ∧ Paired (RowP fK H) uk d.kinds) ∧ (H s = some (.tup us) ∧ Paired (RowP fP H) us d.steps) ∧ (H t = some (.tup ut) ∧ Paired (RowP fT H) ut d.doubles) ∧ (H r = some (.tup ur) ∧ Paired (RowP fR H) ur d.ranks)
theorem HouseAt.same {C : Addr} {H H' : Hp} {x : Addr} {d : HD} (e : Same H H') (h : HouseAt C H x d) : HouseAt C H' x d := by
  obtain ⟨dx, sh, k, s, t, r, uk, us, ut, ur, h1, h2, ⟨h3, h4⟩, ⟨h5, h6⟩, ⟨h7, h8⟩, ⟨h9, h10⟩⟩ := h.ex
  exact ⟨dx, sh, k, s, t, r, uk, us, ut, ur, e _ _ h1, e _ _ h2, ⟨e _ _ h3, paired_same e h4⟩, ⟨e _ _ h5, paired_same e h6⟩, ⟨e _ _ h7, paired_same e h8⟩, ⟨e _ _ h9, paired_same e h10⟩⟩
theorem lenP {f : Str} {v : V} {fs : List (Str × V)} {k : Nat} (h : fs.length ≤ k) : (putF f v fs).length ≤ k + 1 := Nat.le_trans (length_putF f v fs) (Nat.succ_le_succ h)
structure InitArgs (H : Hp) (d : HD) (sh : Addr) (vk vs vt vr : V) : Prop where
  sh : H sh = some (.tup [.int d.top, .int d.bot])
  k : RowsAt fK H vk d.kinds
  s : RowsAt fP H vs d.steps
  t : RowsAt fT H vt d.doubles
  r : RowsAt fR H vr d.ranks
  ok : d.Ok
def spInit (C : Addr) : Sp := fun vs H Q _ => ∃ (x dx sh : Addr) (vk vst vt vr : V) (d : HD), vs = [.ref x, .str d.name, .ref sh, vk, vst, vt, oV d.cap, oV d.age, oV d.rest, vr, .int d.span, .int d.grace] ∧ H x = some (.ins C dx []) ∧ InitArgs H d sh vk vst vt vr ∧
  ∀ H', HouseAt C H' x d → (∀ b o, H b = some o → b ≠ x → H' b = some o) → Q .non H'
structure Hse (K : PySem.W.Frag) (C : Addr) : Prop where
  cl : Cls K C
  n1 : NoAttr K C "name"
  n2 : NoAttr K C "share"
  n3 : NoAttr K C "kinds"
  n4 : NoAttr K C "steps"
  n5 : NoAttr K C "doubles"
  n6 : NoAttr K C "cap"
  n7 : NoAttr K C "age"
  n8 : NoAttr K C "rest"
  n9 : NoAttr K C "ranks"
  n10 : NoAttr K C "span"
  n11 : NoAttr K C "grace"
theorem none_num {o : Option Int} {l : Int} (ok : ∀ n, o = some n → l ≤ n) : numB l (oV o) = some true := by
  cases o with
  | none => rfl
  | some n =>
    show some (decide (l ≤ n)) = some true
    rw [decide_eq_true (ok n rfl)]
/-- kept but at x -/
def But (x : Addr) (H H' : Hp) : Prop := ∀ b o, H b = some o → b ≠ x → H' b = some o
section
variable {P : Program} {w : World} {K : PySem.W.Frag} {mg : Str → Option Value} {base : Heap}
abbrev s_House___init : Stmt := inClass (top 23) 0
abbrev N_House___init : List Str := ["self", "name", "share", "kinds", "steps", "doubles", "cap", "age", "rest", "ranks", "span", "grace"]
theorem sc_House___init : FnScope N_House___init ["self", "name", "share", "kinds", "steps", "doubles", "cap", "age", "rest", "ranks", "span", "grace"] (defScope s_House___init) := ⟨rfl, rfl, rfl, by decide +kernel, rfl, by decide +kernel, by decide +kernel⟩
theorem g_House___init_demand : okGl (defScope s_House___init) "demand" = true := by decide +kernel
theorem g_House___init_is_name : okGl (defScope s_House___init) "is_name" = true := by decide +kernel
theorem v_House___init_1 : okVar N_House___init (defScope s_House___init) 1 "name" = true := by decide +kernel
theorem g_House___init_check_share : okGl (defScope s_House___init) "check_share" = true := by decide +kernel
theorem v_House___init_2 : okVar N_House___init (defScope s_House___init) 2 "share" = true := by decide +kernel
theorem g_House___init_check_kinds : okGl (defScope s_House___init) "check_kinds" = true := by decide +kernel
theorem v_House___init_3 : okVar N_House___init (defScope s_House___init) 3 "kinds" = true := by decide +kernel
theorem g_House___init_check_steps : okGl (defScope s_House___init) "check_steps" = true := by decide +kernel
theorem v_House___init_4 : okVar N_House___init (defScope s_House___init) 4 "steps" = true := by decide +kernel
theorem g_House___init_check_doubles : okGl (defScope s_House___init) "check_doubles" = true := by decide +kernel
theorem v_House___init_5 : okVar N_House___init (defScope s_House___init) 5 "doubles" = true := by decide +kernel
theorem g_House___init_is_number_or_none : okGl (defScope s_House___init) "is_number_or_none" = true := by decide +kernel
theorem v_House___init_6 : okVar N_House___init (defScope s_House___init) 6 "cap" = true := by decide +kernel
theorem v_House___init_7 : okVar N_House___init (defScope s_House___init) 7 "age" = true := by decide +kernel
theorem v_House___init_8 : okVar N_House___init (defScope s_House___init) 8 "rest" = true := by decide +kernel
theorem g_House___init_check_ranks : okGl (defScope s_House___init) "check_ranks" = true := by decide +kernel
theorem v_House___init_9 : okVar N_House___init (defScope s_House___init) 9 "ranks" = true := by decide +kernel
theorem g_House___init_is_number : okGl (defScope s_House___init) "is_number" = true := by decide +kernel
theorem v_House___init_10 : okVar N_House___init (defScope s_House___init) 10 "span" = true := by decide +kernel
theorem v_House___init_11 : okVar N_House___init (defScope s_House___init) 11 "grace" = true := by decide +kernel
theorem v_House___init_0 : okVar N_House___init (defScope s_House___init) 0 "self" = true := by decide +kernel
theorem g_House___init_tuple : okGl (defScope s_House___init) "tuple" = true := by decide +kernel
theorem ok_init {f C : Addr} {fd : FuncData} {tk : Tok} (F : Fun K "__init__" "House.__init__" s_House___init f fd) (T : Txt K mg tk) (Z : Hse K C) (C_demand : Callee P w K mg base 1 "demand" ["holds", "words"] spDemand) (C_is_name : Callee P w K mg base 1 "is_name" ["text"] spIsName) (C_check_share : Callee P w K mg base 2 "check_share" ["share"] spCheckShare) (C_check_kinds : Callee P w K mg base 3 "check_kinds" ["kinds"] spCheckKinds)
    (C_check_steps : Callee P w K mg base 4 "check_steps" ["steps"] spCheckSteps) (C_check_doubles : Callee P w K mg base 3 "check_doubles" ["doubles"] spCheckDoubles) (C_check_ranks : Callee P w K mg base 4 "check_ranks" ["ranks"] spCheckRanks) (C_is_number : Callee P w K mg base 1 "is_number" ["value", "least"] spIsNumber) (C_is_number_or_none : Callee P w K mg base 2 "is_number_or_none" ["value", "least"] spNumOrNone) :
    FnOk P w K mg base CX0 5 f fd ["self", "name", "share", "kinds", "steps", "doubles", "cap", "age", "rest", "ranks", "span", "grace"] (spInit C) := by
  refine F.okQ sc_House___init (fun vs H Q E h => ?_) (fun cdv A outer s H vs Q E hr h => ?_)
  · obtain ⟨_, _, _, _, _, _, _, _, rfl, _⟩ := h
    rfl
  · obtain ⟨x, dx, sh, vk, vst, vt, vr, d, rfl, hx, ia, q⟩ := h
    have nd := sc_House___init.nd
    have ok := ia.ok
    refine ⟨_, (qss_cons (qs_expr (qe_fn C_demand hr g_House___init_demand (qa_cons (qe_fn C_is_name hr g_House___init_is_name (qa_cons (qv 1 v_House___init_1) qa_nil)) (qa_cons qe_str qa_nil))))
      (qss_cons (qs_expr (qe_fn C_check_share hr g_House___init_check_share (qa_cons (qv 2 v_House___init_2) qa_nil)))
      (qss_cons (qs_expr (qe_fn C_check_kinds hr g_House___init_check_kinds (qa_cons (qv 3 v_House___init_3) qa_nil)))
      (qss_cons (qs_expr (qe_fn C_check_steps hr g_House___init_check_steps (qa_cons (qv 4 v_House___init_4) qa_nil)))
      (qss_cons (qs_expr (qe_fn C_check_doubles hr g_House___init_check_doubles (qa_cons (qv 5 v_House___init_5) qa_nil)))
      (qss_cons (qs_expr (qe_fn C_demand hr g_House___init_demand (qa_cons (qe_fn C_is_number_or_none hr g_House___init_is_number_or_none (qa_cons (qv 6 v_House___init_6) (qa_cons qe_int qa_nil))) (qa_cons qe_str qa_nil))))
      (qss_cons (qs_expr (qe_fn C_demand hr g_House___init_demand (qa_cons (qe_fn C_is_number_or_none hr g_House___init_is_number_or_none (qa_cons (qv 7 v_House___init_7) (qa_cons qe_int qa_nil))) (qa_cons qe_str qa_nil))))
      (qss_cons (qs_expr (qe_fn C_demand hr g_House___init_demand (qa_cons (qe_fn C_is_number_or_none hr g_House___init_is_number_or_none (qa_cons (qv 8 v_House___init_8) (qa_cons qe_int qa_nil))) (qa_cons qe_str qa_nil))))
      (qss_cons (qs_expr (qe_fn C_check_ranks hr g_House___init_check_ranks (qa_cons (qv 9 v_House___init_9) qa_nil)))
      (qss_cons (qs_expr (qe_fn C_demand hr g_House___init_demand (qa_cons (qe_fn C_is_number hr g_House___init_is_number (qa_cons (qv 10 v_House___init_10) (qa_cons qe_int qa_nil))) (qa_cons qe_str qa_nil))))
      (qss_cons (qs_expr (qe_fn C_demand hr g_House___init_demand (qa_cons (qe_fn C_is_number hr g_House___init_is_number (qa_cons (qv 11 v_House___init_11) (qa_cons qe_int qa_nil))) (qa_cons qe_str qa_nil))))
      (qss_cons (qs_fld (qv 0 v_House___init_0) (qv 1 v_House___init_1))
      (qss_cons (qs_fld (qv 0 v_House___init_0) (qv 2 v_House___init_2))
      (qss_cons (qs_fld (qv 0 v_House___init_0) (qe_callTy call_tupleN g_House___init_tuple T.b_tuple bt_tuple (qa_cons (qv 3 v_House___init_3) qa_nil)))
      (qss_cons (qs_fld (qv 0 v_House___init_0) (qe_callTy call_tupleN g_House___init_tuple T.b_tuple bt_tuple (qa_cons (qv 4 v_House___init_4) qa_nil)))
      (qss_cons (qs_fld (qv 0 v_House___init_0) (qe_callTy call_tupleN g_House___init_tuple T.b_tuple bt_tuple (qa_cons (qv 5 v_House___init_5) qa_nil)))
      (qss_cons (qs_fld (qv 0 v_House___init_0) (qv 6 v_House___init_6))
      (qss_cons (qs_fld (qv 0 v_House___init_0) (qv 7 v_House___init_7))
      (qss_cons (qs_fld (qv 0 v_House___init_0) (qv 8 v_House___init_8))
      (qss_cons (qs_fld (qv 0 v_House___init_0) (qe_callTy call_tupleN g_House___init_tuple T.b_tuple bt_tuple (qa_cons (qv 9 v_House___init_9) qa_nil)))
      (qss_cons (qs_fld (qv 0 v_House___init_0) (qv 10 v_House___init_10))
      (qss_one (qs_fld (qv 0 v_House___init_0) (qv 11 v_House___init_11)))))))))))))))))))))))), ?_⟩
    refine ⟨_, rfl, d.name, rfl, ok.name.1, fun H1 s1 => ⟨_, demE ok.name.2, ?_⟩⟩
    refine ⟨_, rfl, sh, d.top, d.bot, rfl, s1 _ _ ia.sh, ok.top, ok.bot, ?_⟩
    refine ⟨_, rfl, vk, d.kinds, rfl, ia.k.same s1, ok.kinds, fun H2 s2 => ?_⟩
    refine ⟨_, rfl, vst, d.steps, rfl, ia.s.same (s1.trans s2), ok.steps, fun H3 s3 => ?_⟩
    refine ⟨_, rfl, vt, d.doubles, rfl, ia.t.same ((s1.trans s2).trans s3), ok.doubles, fun H4 s4 => ?_⟩
    have s04 := ((s1.trans s2).trans s3).trans s4
    refine ⟨_, rfl, _, 0, rfl, true, none_num ok.cap, ⟨_, rfl, ?_⟩⟩
    refine ⟨_, rfl, _, 1, rfl, true, none_num ok.age, ⟨_, rfl, ?_⟩⟩
    refine ⟨_, rfl, _, 1, rfl, true, none_num ok.rest, ⟨_, rfl, ?_⟩⟩
    refine ⟨_, rfl, vr, d.ranks, rfl, ia.r.same s04, ok.ranks, fun H5 s5 => ?_⟩
    have s05 := s04.trans s5
    refine ⟨_, rfl, d.span, 1, rfl, ⟨_, demE (decide_eq_true ok.span), ?_⟩⟩
    refine ⟨_, rfl, d.grace, 0, rfl, ⟨_, demE (decide_eq_true ok.grace), ?_⟩⟩
    have hx5 := s05 _ _ hx
    have l0 : ([] : List (Str × V)).length ≤ 0 := Nat.le_refl _
    obtain ⟨ak, uk, rfl, hak, pk⟩ := ia.k.same s05
    obtain ⟨as, us, rfl, has, ps⟩ := ia.s.same s05
    obtain ⟨at', ut, rfl, hat, pt⟩ := ia.t.same s05
    obtain ⟨ar, ur, rfl, har, pr⟩ := ia.r.same s05
    have nex : ∀ {H' : Hp} {b : Addr} {ys : List V} {fs : List (Str × V)}, H' x = some (.ins C dx fs) → Trk H' b ys → b ≠ x := fun {H' b ys fs} h1 h2 e => by
      subst e
      rcases h2 with h2 | h2 <;> (rw [h1] at h2; cases h2)
    -- self.name = name; self.share = share
    refine ⟨_, rfl, _, rfl, x, C, dx, [], rfl, hx5, Z.cl, Z.n1, by decide, ?_⟩
    refine ⟨_, rfl, _, rfl, x, C, dx, _, rfl, upd_same, Z.cl, Z.n2, Nat.lt_of_le_of_lt (lenP l0) (by decide), ?_⟩
    rw [upd_upd]
    generalize hH6 : upd H5 x (.ins C dx (putF "share" (.ref sh) (putF "name" (.str d.name) []))) = H6
    have b6 : But x H5 H6 := fun b o e hb => by rw [← hH6, upd_ne hb]; exact e
    have x6 : H6 x = some (.ins C dx (putF "share" (.ref sh) (putF "name" (.str d.name) []))) := by rw [← hH6]; exact upd_same
    have tb : ∀ {Ha Hb : Hp} {b : Addr} {ys : List V} {fs : List (Str × V)}, But x Ha Hb → Ha x = some (.ins C dx fs) → Trk Ha b ys → Trk Hb b ys := fun {Ha Hb b ys fs} hb hxx h => by
      have ne := nex hxx h
      rcases h with h | h
      · exact .inl (hb _ _ h ne)
      · exact .inr (hb _ _ h ne)
    -- self.kinds = tuple(kinds)
    refine ⟨_, rfl, tuple_any (tb b6 hx5 hak) fun qk H7 hqk s7 => ?_⟩
    refine ⟨_, rfl, x, C, dx, _, rfl, s7 _ _ x6, Z.cl, Z.n3, Nat.lt_of_le_of_lt (lenP (lenP l0)) (by decide), ?_⟩
    generalize hH8 : upd H7 x (.ins C dx (putF "kinds" (.ref qk) (putF "share" (.ref sh) (putF "name" (.str d.name) [])))) = H8
    have b8 : But x H7 H8 := fun b o e hb => by rw [← hH8, upd_ne hb]; exact e
    have x8 : H8 x = some (.ins C dx (putF "kinds" (.ref qk) (putF "share" (.ref sh) (putF "name" (.str d.name) [])))) := by rw [← hH8]; exact upd_same
    have b58 : But x H5 H8 := fun b o e hb => b8 b o (s7 _ _ (b6 b o e hb)) hb
    -- self.steps = tuple(steps)
    refine ⟨_, rfl, tuple_any (tb b58 hx5 has) fun qs H9 hqs s9 => ?_⟩
    refine ⟨_, rfl, x, C, dx, _, rfl, s9 _ _ x8, Z.cl, Z.n4, Nat.lt_of_le_of_lt (lenP (lenP (lenP l0))) (by decide), ?_⟩
    generalize hH10 : upd H9 x (.ins C dx (putF "steps" (.ref qs) (putF "kinds" (.ref qk) (putF "share" (.ref sh) (putF "name" (.str d.name) []))))) = H10
    have b10 : But x H9 H10 := fun b o e hb => by rw [← hH10, upd_ne hb]; exact e
    have x10 : H10 x = some (.ins C dx (putF "steps" (.ref qs) (putF "kinds" (.ref qk) (putF "share" (.ref sh) (putF "name" (.str d.name) []))))) := by rw [← hH10]; exact upd_same
    have b510 : But x H5 H10 := fun b o e hb => b10 b o (s9 _ _ (b58 b o e hb)) hb
    -- self.doubles = tuple(doubles)
    refine ⟨_, rfl, tuple_any (tb b510 hx5 hat) fun qt H11 hqt s11 => ?_⟩
    refine ⟨_, rfl, x, C, dx, _, rfl, s11 _ _ x10, Z.cl, Z.n5, Nat.lt_of_le_of_lt (lenP (lenP (lenP (lenP l0)))) (by decide), ?_⟩
    -- self.cap, age, rest
    refine ⟨_, rfl, _, rfl, x, C, dx, _, rfl, upd_same, Z.cl, Z.n6, Nat.lt_of_le_of_lt (lenP (lenP (lenP (lenP (lenP l0))))) (by decide), ?_⟩
    refine ⟨_, rfl, _, rfl, x, C, dx, _, rfl, upd_same, Z.cl, Z.n7, Nat.lt_of_le_of_lt (lenP (lenP (lenP (lenP (lenP (lenP l0)))))) (by decide), ?_⟩
    refine ⟨_, rfl, _, rfl, x, C, dx, _, rfl, upd_same, Z.cl, Z.n8, Nat.lt_of_le_of_lt (lenP (lenP (lenP (lenP (lenP (lenP (lenP l0))))))) (by decide), ?_⟩
    rw [upd_upd, upd_upd, upd_upd]
    generalize hH12 : upd H11 x (.ins C dx (putF "rest" (oV d.rest) (putF "age" (oV d.age) (putF "cap" (oV d.cap) (putF "doubles" (.ref qt) (putF "steps" (.ref qs) (putF "kinds" (.ref qk) (putF "share" (.ref sh) (putF "name" (.str d.name) []))))))))) = H12
    have b12 : But x H11 H12 := fun b o e hb => by rw [← hH12, upd_ne hb]; exact e
    have x12 : H12 x = some (.ins C dx (putF "rest" (oV d.rest) (putF "age" (oV d.age) (putF "cap" (oV d.cap) (putF "doubles" (.ref qt) (putF "steps" (.ref qs) (putF "kinds" (.ref qk) (putF "share" (.ref sh) (putF "name" (.str d.name) []))))))))) := by rw [← hH12]; exact upd_same
    have b512 : But x H5 H12 := fun b o e hb => b12 b o (s11 _ _ (b510 b o e hb)) hb
    -- self.ranks = tuple(ranks); span; grace
    refine ⟨_, rfl, tuple_any (tb b512 hx5 har) fun qr H13 hqr s13 => ?_⟩
    refine ⟨_, rfl, x, C, dx, _, rfl, s13 _ _ x12, Z.cl, Z.n9, Nat.lt_of_le_of_lt (lenP (lenP (lenP (lenP (lenP (lenP (lenP (lenP l0)))))))) (by decide), ?_⟩
    refine ⟨_, rfl, _, rfl, x, C, dx, _, rfl, upd_same, Z.cl, Z.n10, Nat.lt_of_le_of_lt (lenP (lenP (lenP (lenP (lenP (lenP (lenP (lenP (lenP l0))))))))) (by decide), ?_⟩
    refine ⟨_, rfl, _, rfl, x, C, dx, _, rfl, upd_same, Z.cl, Z.n11, Nat.lt_of_le_of_lt (lenP (lenP (lenP (lenP (lenP (lenP (lenP (lenP (lenP (lenP l0)))))))))) (by decide), ?_⟩
    rw [upd_upd, upd_upd]
    have b5e : But x H5 (upd H13 x (.ins C dx (flds d sh qk qs qt qr))) := fun b o e hb => by rw [upd_ne hb]; exact s13 _ _ (b512 b o e hb)
    have nx : ∀ {Ha : Hp} {b : Addr} {ys : List V} {fs : List (Str × V)}, Ha x = some (.ins C dx fs) → Ha b = some (.tup ys) → b ≠ x := fun {Ha b ys fs} h1 h2 => nex h1 (.inr h2)
    have pe : ∀ {α : Type} {g : α → List V} {ws : List V} {xs : List α}, Paired (RowP g H5) ws xs → Paired (RowP g (upd H13 x (.ins C dx (flds d sh qk qs qt qr)))) ws xs := fun {α g ws xs} h => Paired.mapP h fun v y ⟨p, e, hp⟩ => ⟨p, e, b5e _ _ hp (nx hx5 hp)⟩
    have k9 := s9 _ _ (b8 _ _ hqk (nx (s7 _ _ x6) hqk))
    have k11 := s11 _ _ (b10 _ _ k9 (nx (s9 _ _ x8) k9))
    have k13 := s13 _ _ (b12 _ _ k11 (nx (s11 _ _ x10) k11))
    have st11 := s11 _ _ (b10 _ _ hqs (nx (s9 _ _ x8) hqs))
    have st13 := s13 _ _ (b12 _ _ st11 (nx (s11 _ _ x10) st11))
    have t13 := s13 _ _ (b12 _ _ hqt (nx (s11 _ _ x10) hqt))
    have x13 := s13 _ _ x12
    refine q _ ⟨dx, sh, qk, qs, qt, qr, uk, us, ut, ur, upd_same, b5e _ _ (s05 _ _ ia.sh) (nx hx5 (s05 _ _ ia.sh)), ⟨by rw [upd_ne (nx x13 k13)]; exact k13, pe pk⟩, ⟨by rw [upd_ne (nx x13 st13)]; exact st13, pe ps⟩, ⟨by rw [upd_ne (nx x13 t13)]; exact t13, pe pt⟩, ⟨by rw [upd_ne (nx x13 hqr)]; exact hqr, pe pr⟩⟩ fun b o e hb => b5e b o (s05 b o e) hb
end
end K05

set_option Elab.async false
set_option linter.all false
set_option maxRecDepth 100000
set_option maxHeartbeats 4000000
namespace K05
open PySem PySem.Spec PyProof.Rows L2
/-! texts by their codes -/
def S (c : List Nat) : Str := ⟨c.toArray⟩
theorem S_len (c : List Nat) : (S c).length = c.length := by simp [S, Str.length]
theorem S_app (a b : List Nat) : S a ++ S b = S (a ++ b) := Str.ext' (by rw [Str.cps_append]; simp [S])
theorem S_inj {a b : List Nat} (h : S a = S b) : a = b := by
  have := congrArg (fun s : Str => s.cps.toList) h
  simpa [S] using this
def Ltr (c : List Nat) : Prop := ∀ x ∈ c, 97 ≤ x ∧ x ≤ 122
theorem name_S {c : List Nat} (h1 : 1 ≤ c.length) (h2 : c.length ≤ 8) (h : Ltr c) : isNameB (S c) = true := by
  unfold isNameB
  rw [S_len, decide_eq_true h1, decide_eq_true h2, Bool.true_and, Bool.true_and, List.all_eq_true]
  intro x hx
  have hx' : x ∈ c := by simpa [S] using hx
  have := h x hx'
  simp [this.1, this.2]
theorem slice_gen (t : List Nat) {a b : Nat} (hab : a ≤ b) (hb : b ≤ t.length) (lo : Option Int) (hlo : Builtin.Str.strSliceIndices lo (some (b : Int)) 1 t.length = Builtin.Str.strSliceIndices (some (a : Int)) (some (b : Int)) 1 t.length) : Txt.slice (S t) lo (some (b : Int)) = S ((t.drop a).take (b - a)) := by
  have hl : (S t).length = t.length := S_len t
  have e1 := PySem.StrLaws.strSliceIndices_plain hab (len := t.length) hb
  have e2 := PySem.StrLaws.sliced_plain (S t) hab (by rw [hl]; exact hb)
  rw [hl] at e2
  have hlo' : Builtin.Str.strSliceIndices lo (some (b : Int)) 1 t.length = Builtin.Str.strSliceIndices (some (a : Int)) (some (b : Int)) 1 t.length := hlo
  unfold Txt.slice
  rw [hl, hlo', e2]
  have e3 : (Builtin.Str.strSliceIndices (some (a : Int)) (some (b : Int)) 1 t.length).length = b - a := by rw [e1]; simp
  rw [e3]
  have e4 : (S t).cps.toList = t := by simp [S]
  rw [e4]
  split
  · rename_i h
    have hba : b - a = t.length := by simpa using h
    have ha : a = 0 := by omega
    subst ha
    rw [List.drop_zero, List.take_of_length_le (by omega)]
  · rfl
theorem slice_mid (t : List Nat) {a b : Int} (h0 : 0 ≤ a) (hab : a ≤ b) (hb : b ≤ t.length) : Txt.slice (S t) (some a) (some b) = S ((t.drop a.toNat).take (b.toNat - a.toNat)) := by
  obtain ⟨x, rfl⟩ : ∃ x : Nat, a = x := ⟨a.toNat, by omega⟩
  obtain ⟨y, rfl⟩ : ∃ y : Nat, b = y := ⟨b.toNat, by omega⟩
  exact slice_gen t (by omega) (by omega) _ rfl
theorem slice_to (t : List Nat) {b : Int} (h0 : 0 ≤ b) (hb : b ≤ t.length) : Txt.slice (S t) none (some b) = S (t.take b.toNat) := by
  obtain ⟨y, rfl⟩ : ∃ y : Nat, b = y := ⟨b.toNat, by omega⟩
  have := slice_gen t (a := 0) (b := y) (by omega) (by omega) none (by
    have e : max (0 : Int) (min 0 (t.length : Int)) = 0 := by omega
    simp [Builtin.Str.strSliceIndices, e])
  rw [this, List.drop_zero]
  rfl
theorem join_S (cs : List Nat) : Txt.join (Str.ofString "") (cs.map fun c => S [c]) = S cs := by
  have e : ∀ l : List Str, Txt.join (Str.ofString "") l = Str.join (Str.ofString "") l := fun l => by simpa using join_plain_closes (Str.ofString "") l
  rw [e]
  induction cs with
  | nil => rfl
  | cons c r ih =>
    cases r with
    | nil => rfl
    | cons d r =>
      show S [c] ++ Str.ofString "" ++ Str.join (Str.ofString "") ((d :: r).map fun c => S [c]) = _
      rw [ih]
      refine Str.ext' ?_
      rw [Str.cps_append, Str.cps_append]
      have e0 : (Str.ofString "").cps = #[] := by decide +kernel
      rw [e0]
      simp [S]
theorem ixA {i : Int} {H : Hp} {Q : VK} (h0 : 0 ≤ i) (h1 : i < 26) (k : Q (.str (S [97 + i.toNat])) H) : rIxS (.str (Str.ofString "abcdefghijklmnopqrstuvwxyz")) (.int i) H Q := by
  obtain ⟨x, rfl⟩ : ∃ x : Nat, i = x := ⟨i.toNat, by omega⟩
  have hx : x < 26 := by omega
  have e : (Str.ofString "abcdefghijklmnopqrstuvwxyz").cps.toList = (List.range 26).map (97 + ·) := by decide +kernel
  refine ⟨_, _, 97 + x, rfl, rfl, by decide, ?_, k⟩
  rw [e]
  exact atI_nat (by simp [hx])
theorem nodup_range {α : Type} {f : Nat → α} {n : Nat} (h : ∀ i j, i < n → j < n → f i = f j → i = j) : ((List.range n).map f).Nodup := by
  rw [List.Nodup, List.pairwise_map]
  refine List.Pairwise.imp_of_mem (R := fun a b => a < b) (fun {a b} ha hb hab e => ?_) List.pairwise_lt_range
  have := h a b (by simpa using ha) (by simpa using hb) e
  omega
theorem range_snoc {α : Type} (f : Nat → α) (i : Nat) : (List.range (i + 1)).map f = (List.range i).map f ++ [f i] := by rw [List.range_succ, List.map_append]; rfl
def spAt (K : PySem.W.Frag) : Sp := fun vs H Q _ => ∃ (a : Addr) (ns : List Int) (k : Int), vs = [.ref a, .int k] ∧ SqL K H a (ns.map V.int) ∧ 0 ≤ k ∧ ∀ n : Int, Q (.int n) H
def spMix : Sp := fun vs H Q _ => ∃ a k : Int, vs = [.int a, .int k] ∧ 0 ≤ k ∧ k ≤ 1000 ∧ ∀ (m : Int) H', 0 ≤ m → m < 1999999973 → Same H H' → Q (.int m) H'
def spNames : Sp := fun vs H Q _ => ∃ a many : Int, vs = [.int a, .int many] ∧ 0 ≤ many ∧ many ≤ 10 ∧ ∀ (p : Addr) H' (cs : List (List Nat)), cs.length = many.toNat → (∀ c ∈ cs, 1 ≤ c.length ∧ c.length ≤ 8 ∧ Ltr c) → cs.Nodup → H' p = some (.lst ((cs.map S).map V.str)) → H p = none → Same H H' → Q (.ref p) H'
def spRising : Sp := fun vs H Q _ => ∃ a k many least : Int, vs = [.int a, .int k, .int many, .int least] ∧ 0 ≤ k ∧ k ≤ 100 ∧ 0 ≤ many ∧ many ≤ 20 ∧ ∀ (p : Addr) H' (ns : List Int), ns.length = many.toNat → (∀ n ∈ ns, least ≤ n) → risB ns = true → H' p = some (.lst (ns.map V.int)) → H p = none → Same H H' → Q (.ref p) H'
theorem ris_snoc {ns : List Int} {x : Int} (h : risB ns = true) (hx : ∀ n ∈ ns, n < x) : risB (ns ++ [x]) = true := by
  unfold risB at h ⊢
  rw [List.all_eq_true] at h ⊢
  intro i hi
  have hi' : i < ns.length := by
    have : i < (ns ++ [x]).length - 1 := by simpa using hi
    simpa using this
  have e1 : (ns ++ [x]).getD i 0 = ns.getD i 0 := by simp [List.getD, List.getElem?_append_left hi']
  rw [e1]
  by_cases hl : i + 1 < ns.length
  · have e2 : (ns ++ [x]).getD (i + 1) 0 = ns.getD (i + 1) 0 := by simp [List.getD, List.getElem?_append_left hl]
    rw [e2]
    exact h i (by simp; omega)
  · have e2 : (ns ++ [x]).getD (i + 1) 0 = x := by
      have : i + 1 = ns.length := by omega
      simp [List.getD, this]
    rw [e2]
    refine decide_eq_true (hx _ ?_)
    simp [List.getD, hi']
section
variable {P : Program} {w : World} {K : PySem.W.Frag} {mg : Str → Option Value} {base : Heap}
abbrev s_law_at : Stmt := top 25
abbrev N_law_at : List Str := ["_law_script", "_law_k"]
theorem sc_law_at : FnScope N_law_at ["_law_script", "_law_k"] (defScope s_law_at) := ⟨rfl, rfl, rfl, by decide +kernel, rfl, by decide +kernel, by decide +kernel⟩
theorem v_law_at_1 : okVar N_law_at (defScope s_law_at) 1 "_law_k" = true := by decide +kernel
theorem g_law_at_len : okGl (defScope s_law_at) "len" = true := by decide +kernel
theorem v_law_at_0 : okVar N_law_at (defScope s_law_at) 0 "_law_script" = true := by decide +kernel
theorem ok_at {f : Addr} {fd : FuncData} {tk : Tok} (F : Fun K "_law_at" "_law_at" s_law_at f fd) (T : Txt K mg tk) : FnOk P w K mg base CX0 1 f fd ["_law_script", "_law_k"] (spAt K) := by
  refine F.okQ sc_law_at (fun vs H Q E h => ?_) (fun cdv A outer s H vs Q E hr h => ?_)
  · obtain ⟨_, _, _, rfl, _⟩ := h
    rfl
  · obtain ⟨a, ns, k, rfl, hS, hk, q⟩ := h
    have nd := sc_law_at.nd
    refine ⟨_, (qss_cons (qs_if (qt_cmp op_lt (qv 1 v_law_at_1) (qe_callB call_len_seq g_law_at_len T.b_len bt_len (qa_cons (qv 0 v_law_at_0) qa_nil)))
      (qss_one (qs_ret (qe_ix ix_list (qv 0 v_law_at_0) (qv 1 v_law_at_1))))
      qss_nil)
      (qss_one (qs_ret qe_int))), ?_⟩
    refine ⟨_, rfl, _, rfl, a, _, rfl, .inl hS, _, _, rfl, rfl, _, rfl, ?_⟩
    refine ite2 (fun hc => ?_) (fun hc => ?_)
    · have hc' := of_decide_eq_true hc
      rw [List.length_map] at hc'
      exact ⟨_, rfl, _, rfl, a, _, _, _, rfl, rfl, hS, at_getD (k := k.toNat) (by omega) (by omega), q _⟩
    · exact q 0
abbrev s_law_mix : Stmt := top 26
abbrev N_law_mix : List Str := ["_law_cell", "_law_k", "_law_factor", "_law_number"]
theorem sc_law_mix : FnScope N_law_mix ["_law_cell", "_law_k"] (defScope s_law_mix) := ⟨rfl, rfl, rfl, by decide +kernel, rfl, by decide +kernel, by decide +kernel⟩
theorem w_law_mix_2 : okSet N_law_mix (defScope s_law_mix) 2 "_law_factor" = true := by decide +kernel
theorem v_law_mix_1 : okVar N_law_mix (defScope s_law_mix) 1 "_law_k" = true := by decide +kernel
theorem w_law_mix_3 : okSet N_law_mix (defScope s_law_mix) 3 "_law_number" = true := by decide +kernel
theorem v_law_mix_0 : okVar N_law_mix (defScope s_law_mix) 0 "_law_cell" = true := by decide +kernel
theorem v_law_mix_2 : okVar N_law_mix (defScope s_law_mix) 2 "_law_factor" = true := by decide +kernel
theorem v_law_mix_3 : okVar N_law_mix (defScope s_law_mix) 3 "_law_number" = true := by decide +kernel
theorem ok_mix {f : Addr} {fd : FuncData} (F : Fun K "_law_mix" "_law_mix" s_law_mix f fd) : FnOk P w K mg base CX0 1 f fd ["_law_cell", "_law_k"] spMix := by
  refine F.okQ sc_law_mix (fun vs H Q E h => ?_) (fun cdv A outer s H vs Q E hr h => ?_)
  · obtain ⟨a, k, rfl, _⟩ := h
    rfl
  · obtain ⟨a, k, rfl, hk0, hk1, q⟩ := h
    have nd := sc_law_mix.nd
    refine ⟨_, (qss_cons (qs_set (i := 2) nd w_law_mix_2 (qe_ix ix_list (qe_lst (qa_cons qe_int (qa_cons qe_int (qa_cons qe_int (qa_cons qe_int (qa_cons qe_int (qa_cons qe_int (qa_cons qe_int qa_nil)))))))) (qe_op op_mod (qv 1 v_law_mix_1) qe_int)))
      (qss_cons (qs_set (i := 3) nd w_law_mix_3 (qe_op op_mod (qe_op op_mul (qe_op op_add (qe_op op_add (qe_op op_mod (qv 0 v_law_mix_0) qe_int) (qe_op op_mul (qe_op op_mul qe_int (qv 1 v_law_mix_1)) (qv 1 v_law_mix_1))) qe_int) (qv 2 v_law_mix_2)) qe_int))
      (qss_one (qs_ret (qe_op op_mod (qe_op op_mul (qv 3 v_law_mix_3) (qv 3 v_law_mix_3)) qe_int))))), ?_⟩
    refine ⟨by show 7 ≤ sizeLine; decide, fun l hl => ?_⟩
    obtain ⟨n, hn, e⟩ := at_ints (ns := [48271, 69621, 16807, 40692, 30269, 62089, 45991]) (i := k % 7) (by omega) (by show k % 7 < 7; omega)
    refine ⟨_, rfl, _, _, rfl, rfl, by show (0 : Int) < 7; decide, l, _, _, _, rfl, rfl, SqL.of upd_same, e, ?_⟩
    have hb : 0 ≤ n ∧ n ≤ 69621 := by
      have : ∀ n ∈ ([48271, 69621, 16807, 40692, 30269, 62089, 45991] : List Int), 0 ≤ n ∧ n ≤ 69621 := by decide
      exact this n hn
    refine ⟨_, rfl, _, _, rfl, rfl, by show (0 : Int) < 2147483647; decide, _, rfl, _, _, rfl, rfl, cmulL (by decide) (by decide), _, rfl, _, _, rfl, rfl, cmulR (by show _ < k; omega) (by show k < _; omega), _, _, rfl, rfl, _, _, rfl, rfl, _, rfl, _, _, rfl, rfl, cmulR (by show _ < n; omega) (by show n < _; omega), _, _, rfl, rfl, by show (0 : Int) < 2147483629; decide, ?_⟩
    refine ⟨_, rfl, _, rfl, _, _, rfl, rfl, cmulL (by omega) (by omega), _, _, rfl, rfl, by show (0 : Int) < 1999999973; decide, ?_⟩
    have hs : Same H (upd H l (.lst [V.int 48271, V.int 69621, V.int 16807, V.int 40692, V.int 30269, V.int 62089, V.int 45991])) := (Same.refl H).upd hl
    exact q _ _ (by omega) (by omega) hs
abbrev s_law_rising : Stmt := top 28
abbrev N_law_rising : List Str := ["_law_cell", "_law_k", "_law_many", "_law_least", "_law_numbers", "_law_last", "_law_j", "_law_m"]
theorem sc_law_rising : FnScope N_law_rising ["_law_cell", "_law_k", "_law_many", "_law_least"] (defScope s_law_rising) := ⟨rfl, rfl, rfl, by decide +kernel, rfl, by decide +kernel, by decide +kernel⟩
theorem w_law_rising_4 : okSet N_law_rising (defScope s_law_rising) 4 "_law_numbers" = true := by decide +kernel
theorem w_law_rising_5 : okSet N_law_rising (defScope s_law_rising) 5 "_law_last" = true := by decide +kernel
theorem v_law_rising_3 : okVar N_law_rising (defScope s_law_rising) 3 "_law_least" = true := by decide +kernel
theorem g_law_rising_range : okGl (defScope s_law_rising) "range" = true := by decide +kernel
theorem v_law_rising_2 : okVar N_law_rising (defScope s_law_rising) 2 "_law_many" = true := by decide +kernel
theorem w_law_rising_6 : okSet N_law_rising (defScope s_law_rising) 6 "_law_j" = true := by decide +kernel
theorem w_law_rising_7 : okSet N_law_rising (defScope s_law_rising) 7 "_law_m" = true := by decide +kernel
theorem g_law_rising_law_mix : okGl (defScope s_law_rising) "_law_mix" = true := by decide +kernel
theorem v_law_rising_1 : okVar N_law_rising (defScope s_law_rising) 1 "_law_k" = true := by decide +kernel
theorem v_law_rising_6 : okVar N_law_rising (defScope s_law_rising) 6 "_law_j" = true := by decide +kernel
theorem v_law_rising_0 : okVar N_law_rising (defScope s_law_rising) 0 "_law_cell" = true := by decide +kernel
theorem v_law_rising_5 : okVar N_law_rising (defScope s_law_rising) 5 "_law_last" = true := by decide +kernel
theorem v_law_rising_7 : okVar N_law_rising (defScope s_law_rising) 7 "_law_m" = true := by decide +kernel
theorem v_law_rising_4 : okVar N_law_rising (defScope s_law_rising) 4 "_law_numbers" = true := by decide +kernel
theorem ok_rising {f : Addr} {fd : FuncData} {tk : Tok} (F : Fun K "_law_rising" "_law_rising" s_law_rising f fd) (T : Txt K mg tk) (C_law_mix : Callee P w K mg base 1 "_law_mix" ["_law_cell", "_law_k"] spMix) : FnOk P w K mg base CX0 2 f fd ["_law_cell", "_law_k", "_law_many", "_law_least"] spRising := by
  refine F.okQ sc_law_rising (fun vs H Q E h => ?_) (fun cdv A outer s H vs Q E hr h => ?_)
  · obtain ⟨_, _, _, _, rfl, _⟩ := h
    rfl
  · obtain ⟨a, k, many, least, rfl, hk0, hk1, hm0, hm1, q⟩ := h
    have nd := sc_law_rising.nd
    refine ⟨_, (qss_cons (qs_set (i := 4) nd w_law_rising_4 (qe_lst qa_nil))
      (qss_cons (qs_set (i := 5) nd w_law_rising_5 (qe_op op_sub (qv 3 v_law_rising_3) qe_int))
      (qss_cons (qs_for PassesOwn.never rfl (qi_range1 g_law_rising_range T.b_range (qa_cons (qv 2 v_law_rising_2) qa_nil)) (qg_name (i := 6) nd w_law_rising_6)
      (qss_cons (qs_set (i := 7) nd w_law_rising_7 (qe_fn C_law_mix hr g_law_rising_law_mix (qa_cons (qe_op op_add (qv 0 v_law_rising_0) (qv 6 v_law_rising_6)) (qa_cons (qe_op op_add (qv 1 v_law_rising_1) (qv 6 v_law_rising_6)) qa_nil))))
        (qss_cons (qs_set (i := 5) nd w_law_rising_5 (qe_op op_add (qe_op op_add (qv 5 v_law_rising_5) qe_int) (qe_ix ix_list (qe_lst (qa_cons (qe_op op_mod (qv 7 v_law_rising_7) qe_int) (qa_cons (qe_op op_mod (qv 7 v_law_rising_7) qe_int) (qa_cons (qe_op op_mod (qe_op op_fdiv (qv 0 v_law_rising_0) (qe_op op_add (qv 6 v_law_rising_6) qe_int)) (qe_op op_pow qe_int qe_int)) (qa_cons qe_int qa_nil))))) (qe_op op_mod (qe_op op_fdiv (qv 7 v_law_rising_7) qe_int) qe_int))))
        (qss_one (qs_expr (qe_bm PySem.F.plainAttrs_list PySem.F.slot_list_append PySem.F.type_list_append mt_append (qv 4 v_law_rising_4) (qa_cons (qv 5 v_law_rising_5) qa_nil)))))))
      (qss_one (qs_ret (qv 4 v_law_rising_4)))))), ?_⟩
    refine ⟨by decide, fun l hl => ?_⟩
    refine ⟨_, rfl, _, _, rfl, rfl, ?_⟩
    refine ⟨_, rfl, _, rfl, by omega, by omega, for_range (lo := 0) (n := many.toNat) (fun i σ H2 => ∃ (ns : List Int) (last : Int) (v6 v7 : Option V), σ = [some (.int a), some (.int k), some (.int many), some (.int least), some (.ref l), some (.int last), v6, v7] ∧ H2 l = some (.lst (ns.map V.int)) ∧ ns.length = i ∧ (∀ n ∈ ns, least ≤ n ∧ n ≤ last) ∧ least - 1 ≤ last ∧ risB ns = true ∧ Same H H2)
      ⟨[], _, none, none, rfl, upd_same, rfl, by simp, Int.le_refl _, rfl, (Same.refl H).upd hl⟩ ?_ ?_⟩
    · rintro i σ H2 hi ⟨ns, last, v6, v7, rfl, hl2, hlen, hns, hlast, hris, s2⟩
      refine ⟨_, rfl, _, rfl, _, _, rfl, rfl, _, rfl, _, rfl, _, _, rfl, rfl, _, _, rfl, by omega, by omega, fun m H3 hm0' hm1' s3 => ?_⟩
      have hp10 : (10 : Int) ^ (10 : Int).toNat = 10000000000 := by decide
      refine ⟨_, rfl, _, _, rfl, rfl, _, rfl, _, _, rfl, rfl, by show (0 : Int) < 4; decide, _, rfl, _, _, rfl, rfl, by show (0 : Int) < 1000; decide, _, rfl, _, rfl, _, _, rfl, rfl, _, _, rfl, rfl, ⟨by omega, by omega⟩, _, _, rfl, rfl, ⟨by decide, by decide, by decide⟩, _, _, rfl, rfl, by show (0 : Int) < 10 ^ (10 : Int).toNat; rw [hp10]; decide, by show 4 ≤ sizeLine; decide, fun q1 hq1 => ?_⟩
      have hnn : 0 ≤ a / (0 + (i : Int) + 1) % 10 ^ (10 : Int).toNat := Int.emod_nonneg _ (by rw [hp10]; decide)
      obtain ⟨x, hx, e⟩ := at_ints (ns := [m % 4, m % 1000, a / (0 + (i : Int) + 1) % 10 ^ (10 : Int).toNat, 0]) (i := m / 4000 % 4) (by omega) (by show _ < (4 : Int); omega)
      have hx0 : 0 ≤ x := by
        simp only [List.mem_cons, List.not_mem_nil, or_false] at hx
        rcases hx with z | z | z | z
        · omega
        · omega
        · rw [z]; exact hnn
        · omega
      refine ⟨_, rfl, _, _, rfl, rfl, ⟨by decide, by decide⟩, _, _, rfl, rfl, by show (0 : Int) < 4; decide, q1, _, _, _, rfl, rfl, SqL.of upd_same, e, _, _, rfl, rfl, ?_⟩
      have hl3 : upd H3 q1 (.lst [V.int (m % 4), V.int (m % 1000), V.int (a / (0 + (i : Int) + 1) % 10 ^ (10 : Int).toNat), V.int 0]) l = some (.lst (ns.map V.int)) := by
        rw [upd_ne (ne_of_none (s3 _ _ hl2) hq1)]
        exact s3 _ _ hl2
      refine ⟨_, rfl, .inl ⟨rfl, _, SqL.of hl3⟩, _, rfl, l, _, _, rfl, rfl, hl3, by rw [List.length_map]; exact Nat.lt_of_lt_of_le (by omega : ns.length < 100) (by decide), ?_⟩
      refine ⟨ns ++ [last + 1 + x], last + 1 + x, _, _, rfl, ?_, by rw [List.length_append]; simp [hlen], ?_, by omega, ris_snoc hris fun n hn => ?_, ?_⟩
      · rw [upd_same, List.map_append]
        rfl
      · intro n hn
        rcases List.mem_append.mp hn with z | z
        · have := hns n z; omega
        · have : n = last + 1 + x := by simpa using z
          omega
      · have := hns n hn; omega
      · intro b o hb
        have hb2 := s3 _ _ (s2 b o hb)
        rw [upd_ne (ne_of_none hb hl), upd_ne (ne_of_none hb2 hq1)]
        exact hb2
    · rintro σ H2 ⟨ns, last, v6, v7, rfl, hl2, hlen, hns, hlast, hris, s2⟩
      exact ⟨_, rfl, q l H2 ns hlen (fun n hn => (hns n hn).1) hris hl2 hl s2⟩
abbrev s_law_names : Stmt := top 27
abbrev N_law_names : List Str := ["_law_cell", "_law_many", "_law_letters", "_law_number", "_law_tail", "_law_size", "_law_at_here", "_law_signs"]
theorem sc_law_names : FnScope N_law_names ["_law_cell", "_law_many"] (defScope s_law_names) := ⟨rfl, rfl, rfl, by decide +kernel, rfl, by decide +kernel, by decide +kernel⟩
theorem w_law_names_2 : okSet N_law_names (defScope s_law_names) 2 "_law_letters" = true := by decide +kernel
theorem w_law_names_3 : okSet N_law_names (defScope s_law_names) 3 "_law_number" = true := by decide +kernel
theorem g_law_names_law_mix : okGl (defScope s_law_names) "_law_mix" = true := by decide +kernel
theorem v_law_names_0 : okVar N_law_names (defScope s_law_names) 0 "_law_cell" = true := by decide +kernel
theorem w_law_names_4 : okSet N_law_names (defScope s_law_names) 4 "_law_tail" = true := by decide +kernel
abbrev c_law_names_c0 : Scope := { kind := .function, names := [(Str.ofString ".0", NameKind.local), (Str.ofString "_law_j", NameKind.local), (Str.ofString "_law_letters", NameKind.free), (Str.ofString "_law_number", NameKind.free)], isGenerator := false, isCoroutine := false }
abbrev N_law_names_c0 : List Str := ["_law_j", "_law_cell", "_law_many", "_law_letters", "_law_number", "_law_tail", "_law_size", "_law_at_here", "_law_signs"]
theorem cs_law_names_c0 : csB' N_law_names (defScope s_law_names) ["_law_j"] N_law_names_c0 c_law_names_c0 = true := by decide +kernel
theorem nd_law_names_c0 : List.Nodup N_law_names_c0 := by decide +kernel
theorem g_law_names_range : okGl (defScope s_law_names) "range" = true := by decide +kernel
theorem o_law_names_c0_0 : okLoc N_law_names_c0 (relabelS c_law_names_c0 (defScope s_law_names)) 0 "_law_j" = true := by decide +kernel
theorem v_law_names_c0_3 : okVar N_law_names_c0 (relabelS c_law_names_c0 (defScope s_law_names)) 3 "_law_letters" = true := by decide +kernel
theorem v_law_names_c0_4 : okVar N_law_names_c0 (relabelS c_law_names_c0 (defScope s_law_names)) 4 "_law_number" = true := by decide +kernel
theorem v_law_names_c0_0 : okVar N_law_names_c0 (relabelS c_law_names_c0 (defScope s_law_names)) 0 "_law_j" = true := by decide +kernel
theorem v_law_names_1 : okVar N_law_names (defScope s_law_names) 1 "_law_many" = true := by decide +kernel
theorem v_law_names_3 : okVar N_law_names (defScope s_law_names) 3 "_law_number" = true := by decide +kernel
abbrev c_law_names_c1 : Scope := { kind := .function, names := [(Str.ofString ".0", NameKind.local), (Str.ofString "_law_k", NameKind.local), (Str.ofString "_law_tail", NameKind.free)], isGenerator := false, isCoroutine := false }
abbrev N_law_names_c1 : List Str := ["_law_k", "_law_cell", "_law_many", "_law_letters", "_law_number", "_law_tail", "_law_size", "_law_at_here", "_law_signs"]
theorem cs_law_names_c1 : csB' N_law_names (defScope s_law_names) ["_law_k"] N_law_names_c1 c_law_names_c1 = true := by decide +kernel
theorem nd_law_names_c1 : List.Nodup N_law_names_c1 := by decide +kernel
theorem o_law_names_c1_0 : okLoc N_law_names_c1 (relabelS c_law_names_c1 (defScope s_law_names)) 0 "_law_k" = true := by decide +kernel
theorem v_law_names_c1_5 : okVar N_law_names_c1 (relabelS c_law_names_c1 (defScope s_law_names)) 5 "_law_tail" = true := by decide +kernel
theorem v_law_names_c1_0 : okVar N_law_names_c1 (relabelS c_law_names_c1 (defScope s_law_names)) 0 "_law_k" = true := by decide +kernel
theorem w_law_names_5 : okSet N_law_names (defScope s_law_names) 5 "_law_size" = true := by decide +kernel
abbrev c_law_names_c2 : Scope := { kind := .function, names := [(Str.ofString ".0", NameKind.local), (Str.ofString "_law_k", NameKind.local), (Str.ofString "_law_letters", NameKind.free), (Str.ofString "_law_number", NameKind.free), (Str.ofString "_law_size", NameKind.free), (Str.ofString "_law_tail", NameKind.free)], isGenerator := false, isCoroutine := false }
abbrev N_law_names_c2 : List Str := ["_law_k", "_law_cell", "_law_many", "_law_letters", "_law_number", "_law_tail", "_law_size", "_law_at_here", "_law_signs"]
theorem cs_law_names_c2 : csB' N_law_names (defScope s_law_names) ["_law_k"] N_law_names_c2 c_law_names_c2 = true := by decide +kernel
theorem nd_law_names_c2 : List.Nodup N_law_names_c2 := by decide +kernel
theorem o_law_names_c2_0 : okLoc N_law_names_c2 (relabelS c_law_names_c2 (defScope s_law_names)) 0 "_law_k" = true := by decide +kernel
theorem v_law_names_c2_3 : okVar N_law_names_c2 (relabelS c_law_names_c2 (defScope s_law_names)) 3 "_law_letters" = true := by decide +kernel
theorem v_law_names_c2_4 : okVar N_law_names_c2 (relabelS c_law_names_c2 (defScope s_law_names)) 4 "_law_number" = true := by decide +kernel
theorem v_law_names_c2_0 : okVar N_law_names_c2 (relabelS c_law_names_c2 (defScope s_law_names)) 0 "_law_k" = true := by decide +kernel
theorem v_law_names_c2_5 : okVar N_law_names_c2 (relabelS c_law_names_c2 (defScope s_law_names)) 5 "_law_tail" = true := by decide +kernel
theorem v_law_names_c2_6 : okVar N_law_names_c2 (relabelS c_law_names_c2 (defScope s_law_names)) 6 "_law_size" = true := by decide +kernel
theorem w_law_names_6 : okSet N_law_names (defScope s_law_names) 6 "_law_at_here" = true := by decide +kernel
theorem v_law_names_5 : okVar N_law_names (defScope s_law_names) 5 "_law_size" = true := by decide +kernel
theorem w_law_names_7 : okSet N_law_names (defScope s_law_names) 7 "_law_signs" = true := by decide +kernel
abbrev c_law_names_c3 : Scope := { kind := .function, names := [(Str.ofString ".0", NameKind.local), (Str.ofString "_law_k", NameKind.local), (Str.ofString "_law_letters", NameKind.free), (Str.ofString "_law_number", NameKind.free)], isGenerator := false, isCoroutine := false }
abbrev N_law_names_c3 : List Str := ["_law_k", "_law_cell", "_law_many", "_law_letters", "_law_number", "_law_tail", "_law_size", "_law_at_here", "_law_signs"]
theorem cs_law_names_c3 : csB' N_law_names (defScope s_law_names) ["_law_k"] N_law_names_c3 c_law_names_c3 = true := by decide +kernel
theorem nd_law_names_c3 : List.Nodup N_law_names_c3 := by decide +kernel
theorem o_law_names_c3_0 : okLoc N_law_names_c3 (relabelS c_law_names_c3 (defScope s_law_names)) 0 "_law_k" = true := by decide +kernel
theorem v_law_names_c3_3 : okVar N_law_names_c3 (relabelS c_law_names_c3 (defScope s_law_names)) 3 "_law_letters" = true := by decide +kernel
theorem v_law_names_c3_4 : okVar N_law_names_c3 (relabelS c_law_names_c3 (defScope s_law_names)) 4 "_law_number" = true := by decide +kernel
theorem v_law_names_c3_0 : okVar N_law_names_c3 (relabelS c_law_names_c3 (defScope s_law_names)) 0 "_law_k" = true := by decide +kernel
abbrev c_law_names_c4 : Scope := { kind := .function, names := [(Str.ofString ".0", NameKind.local), (Str.ofString "_law_sign", NameKind.local), (Str.ofString "_law_at_here", NameKind.free), (Str.ofString "_law_size", NameKind.free), (Str.ofString "_law_tail", NameKind.free)], isGenerator := false, isCoroutine := false }
abbrev N_law_names_c4 : List Str := ["_law_sign", "_law_cell", "_law_many", "_law_letters", "_law_number", "_law_tail", "_law_size", "_law_at_here", "_law_signs"]
theorem cs_law_names_c4 : csB' N_law_names (defScope s_law_names) ["_law_sign"] N_law_names_c4 c_law_names_c4 = true := by decide +kernel
theorem nd_law_names_c4 : List.Nodup N_law_names_c4 := by decide +kernel
theorem v_law_names_7 : okVar N_law_names (defScope s_law_names) 7 "_law_signs" = true := by decide +kernel
theorem o_law_names_c4_0 : okLoc N_law_names_c4 (relabelS c_law_names_c4 (defScope s_law_names)) 0 "_law_sign" = true := by decide +kernel
theorem v_law_names_c4_5 : okVar N_law_names_c4 (relabelS c_law_names_c4 (defScope s_law_names)) 5 "_law_tail" = true := by decide +kernel
theorem v_law_names_c4_7 : okVar N_law_names_c4 (relabelS c_law_names_c4 (defScope s_law_names)) 7 "_law_at_here" = true := by decide +kernel
theorem v_law_names_c4_0 : okVar N_law_names_c4 (relabelS c_law_names_c4 (defScope s_law_names)) 0 "_law_sign" = true := by decide +kernel
theorem v_law_names_c4_6 : okVar N_law_names_c4 (relabelS c_law_names_c4 (defScope s_law_names)) 6 "_law_size" = true := by decide +kernel
theorem ok_names {f : Addr} {fd : FuncData} {tk : Tok} (F : Fun K "_law_names" "_law_names" s_law_names f fd) (T : Txt K mg tk) (C_law_mix : Callee P w K mg base 1 "_law_mix" ["_law_cell", "_law_k"] spMix) : FnOk P w K mg base CX0 2 f fd ["_law_cell", "_law_many"] spNames := by
  refine F.okQ sc_law_names (fun vs H Q E h => ?_) (fun cdv A outer s H vs Q E hr h => ?_)
  · obtain ⟨_, _, rfl, _⟩ := h
    rfl
  · obtain ⟨a, many, rfl, hn0, hn1, q⟩ := h
    have nd := sc_law_names.nd
    have sz : sizeLine = 16777216 := sizeLine_eq
    refine ⟨_, (qss_cons (qs_set (i := 2) nd w_law_names_2 qe_str)
      (qss_cons (qs_set (i := 3) nd w_law_names_3 (qe_fn C_law_mix hr g_law_names_law_mix (qa_cons (qv 0 v_law_names_0) (qa_cons qe_int qa_nil))))
      (qss_cons (qs_set (i := 4) nd w_law_names_4 (qe_bm PySem.F.plainAttrs_str PySem.F.slot_str_join PySem.F.type_str_join mt_join qe_str (qa_cons (qe_comp rfl (own := ["_law_j"]) (N' := N_law_names_c0) cs_law_names_c0 (qi_range1 g_law_names_range T.b_range (qa_cons qe_int qa_nil)) (fun _ _ _ _ => (qg_own (i := 0) nd_law_names_c0 o_law_names_c0_0)) (fun _ _ _ _ => qts_nil) (fun _ _ _ _ => (qe_ix ix_str (qv 3 v_law_names_c0_3) (qe_op op_mod (qe_op op_add (qe_op op_fdiv (qv 4 v_law_names_c0_4) (qe_op op_add (qv 0 v_law_names_c0_0) qe_int)) (qe_op op_mul (qv 0 v_law_names_c0_0) (qv 0 v_law_names_c0_0))) qe_int)))) qa_nil)))
      (qss_cons (qs_if (qt_w (qw_and (qt_cmp op_eq (qe_op op_mod (qv 3 v_law_names_3) qe_int) qe_int) (qw_and1 (qt_cmp op_lt (qv 1 v_law_names_1) qe_int))))
      (qss_one (qs_ret (qe_comp rfl (own := ["_law_k"]) (N' := N_law_names_c1) cs_law_names_c1 (qi_range1 g_law_names_range T.b_range (qa_cons (qv 1 v_law_names_1) qa_nil)) (fun _ _ _ _ => (qg_own (i := 0) nd_law_names_c1 o_law_names_c1_0)) (fun _ _ _ _ => qts_nil) (fun _ _ _ _ => (qe_slice sl_str (qv 5 v_law_names_c1_5) qo_none (qo_some (qe_op op_add (qv 0 v_law_names_c1_0) qe_int)))))))
      qss_nil)
      (qss_cons (qs_if (qt_cmp op_eq (qe_op op_mod (qv 3 v_law_names_3) qe_int) qe_int)
      (qss_cons (qs_set (i := 5) nd w_law_names_5 (qe_op op_mod (qe_op op_fdiv (qv 3 v_law_names_3) qe_int) qe_int))
        (qss_one (qs_ret (qe_comp rfl (own := ["_law_k"]) (N' := N_law_names_c2) cs_law_names_c2 (qi_range1 g_law_names_range T.b_range (qa_cons (qv 1 v_law_names_1) qa_nil)) (fun _ _ _ _ => (qg_own (i := 0) nd_law_names_c2 o_law_names_c2_0)) (fun _ _ _ _ => qts_nil) (fun _ _ _ _ => (qe_op op_add_str (qe_ix ix_str (qv 3 v_law_names_c2_3) (qe_op op_mod (qe_op op_add (qe_op op_fdiv (qv 4 v_law_names_c2_4) qe_int) (qv 0 v_law_names_c2_0)) qe_int)) (qe_slice sl_str (qv 5 v_law_names_c2_5) qo_none (qo_some (qv 6 v_law_names_c2_6)))))))))
      qss_nil)
      (qss_cons (qs_set (i := 5) nd w_law_names_5 (qe_op op_mod (qe_op op_fdiv (qv 3 v_law_names_3) qe_int) qe_int))
      (qss_cons (qs_set (i := 6) nd w_law_names_6 (qe_op op_mod (qe_op op_fdiv (qv 3 v_law_names_3) qe_int) (qe_op op_add (qv 5 v_law_names_5) qe_int)))
      (qss_cons (qs_setcomp (i := 7) nd w_law_names_7 rfl (own := ["_law_k"]) (N' := N_law_names_c3) cs_law_names_c3 (qi_range1 g_law_names_range T.b_range (qa_cons (qv 1 v_law_names_1) qa_nil)) (fun _ _ _ _ => (qg_own (i := 0) nd_law_names_c3 o_law_names_c3_0)) (fun _ _ _ _ => qts_nil) (fun _ _ _ _ => (qe_ix ix_str (qv 3 v_law_names_c3_3) (qe_op op_mod (qe_op op_add (qe_op op_fdiv (qv 4 v_law_names_c3_4) qe_int) (qv 0 v_law_names_c3_0)) qe_int))) rfl)
      (qss_one (qs_ret (qe_comp rfl (own := ["_law_sign"]) (N' := N_law_names_c4) cs_law_names_c4 (qi_list (qv 7 v_law_names_7)) (fun _ _ _ _ => (qg_own (i := 0) nd_law_names_c4 o_law_names_c4_0)) (fun _ _ _ _ => qts_nil) (fun _ _ _ _ => (qe_op op_add_str (qe_op op_add_str (qe_slice sl_str (qv 5 v_law_names_c4_5) qo_none (qo_some (qv 7 v_law_names_c4_7))) (qv 0 v_law_names_c4_0)) (qe_slice sl_str (qv 5 v_law_names_c4_5) (qo_some (qv 7 v_law_names_c4_7)) (qo_some (qv 6 v_law_names_c4_6)))))))))))))))), ?_⟩
    refine ⟨_, rfl, a, 0, rfl, by decide, by decide, fun m H1 hm0 hm1 s1 => ?_⟩
    refine ⟨rfl, 8, rfl, by decide, by decide, comp_range (fun i ys H2 => H2 = H1 ∧ ∃ cs : List Nat, ys = (cs.map fun c => S [c]).map V.str ∧ Ltr cs ∧ cs.length = i) ⟨rfl, [], rfl, by simp [Ltr], rfl⟩ (by decide) ?_ ?_⟩
    · rintro i ys H2 hi hy ⟨rfl, cs, rfl, hl1, hl2⟩
      have hi' : i < 8 := hi
      have b0 : 0 ≤ (m / (0 + (i : Int) + 1) + (0 + (i : Int)) * (0 + (i : Int))) % 26 := Int.emod_nonneg _ (by decide)
      have b1 : (m / (0 + (i : Int) + 1) + (0 + (i : Int)) * (0 + (i : Int))) % 26 < 26 := Int.emod_lt_of_pos _ (by decide)
      refine ⟨_, rfl, _, rfl, _, rfl, _, _, rfl, rfl, _, _, rfl, rfl, ⟨by omega, by omega⟩, _, rfl, _, rfl, _, _, rfl, rfl, cmulL (by omega) (by omega), _, _, rfl, rfl, _, _, rfl, rfl, by show (0 : Int) < 26; decide, ixA b0 b1 ⟨rfl, cs ++ [97 + ((m / (0 + (i : Int) + 1) + (0 + (i : Int)) * (0 + (i : Int))) % 26).toNat], by simp, ?_, by simp [hl2]⟩⟩
      intro x hx
      rcases List.mem_append.mp hx with z | z
      · exact hl1 x z
      · have : x = 97 + ((m / (0 + (i : Int) + 1) + (0 + (i : Int)) * (0 + (i : Int))) % 26).toNat := by simpa using z
        omega
    · rintro ys H2 hyl ⟨rfl, t, rfl, ht1, ht2⟩ p hp
      have ht2' : t.length = 8 := ht2
      have hone : ((t.map fun c => S [c]).map (·.length)).sum = 8 := by
        rw [sum_ones (fun y hy => by obtain ⟨c, _, rfl⟩ := List.mem_map.mp hy; exact S_len [c]), List.length_map, ht2']
      refine ⟨_, p, t.map fun c => S [c], rfl, rfl, SqL.of upd_same, by rw [hone, List.length_map, ht2']; decide, ?_⟩
      have s3 := s1.upd (o := .lst ((t.map fun c => S [c]).map V.str)) hp
      rw [join_S]
      generalize hH3 : upd H2 p (.lst ((t.map fun c => S [c]).map V.str)) = H3 at s3
      have hSl : ∀ c : List Nat, c.length ≤ 100 → (S c).length ≤ sizeLine := fun c hc => by rw [S_len]; omega
      have htl : t.length ≤ 100 := by omega
      have hrg : ∀ i : Nat, i ≤ many.toNat → i ≤ 10 := fun i hi => by omega
      refine ⟨_, rfl, _, _, rfl, rfl, by show (0 : Int) < 3; decide, rfl, _, rfl, ?_⟩
      refine ite2 (fun h1 => ⟨_, rfl, _, _, rfl, rfl, _, rfl, ite2 (fun h2 => ?_) (fun h2 => ?_)⟩) (fun h1 => ?_)
      · -- beginnings of one text
        have h2' : many < 9 := of_decide_eq_true h2
        refine ⟨_, rfl, _, rfl, by omega, by omega, comp_range (fun i ys H4 => H4 = H3 ∧ ys = (((List.range i).map fun k => t.take (k + 1)).map S).map V.str) ⟨rfl, rfl⟩ (by show many.toNat ≤ sizeLine; omega) ?_ ?_⟩
        · rintro i ys H4 hi hy ⟨rfl, rfl⟩
          have hi' : i < many.toNat := hi
          refine ⟨_, rfl, _, rfl, _, _, rfl, rfl, _, rfl, _, rfl, hSl t htl, rfl, ?_⟩
          rw [slice_to t (by omega) (by omega), range_snoc]
          have e : (0 + (i : Int) + 1).toNat = i + 1 := by omega
          rw [e]
          simp
        · rintro ys H4 hyl ⟨rfl, rfl⟩ p2 hp2
          refine q p2 _ ((List.range many.toNat).map fun k => t.take (k + 1)) (by simp) (fun c hc => ?_) (nodup_range fun i j hi hj e => ?_) upd_same (s3.free hp2) (s3.upd hp2)
          · obtain ⟨k, hk, rfl⟩ := List.mem_map.mp hc
            have hk' : k < many.toNat := by simpa using hk
            refine ⟨by rw [List.length_take]; omega, by rw [List.length_take]; omega, fun x hx => ht1 x (List.mem_of_mem_take hx)⟩
          · have := congrArg List.length e
            rw [List.length_take, List.length_take] at this
            omega
      all_goals
        refine ⟨_, rfl, _, _, rfl, rfl, by show (0 : Int) < 3; decide, rfl, _, rfl, ?_⟩
        refine ite2 (fun h3 => ?_) (fun h3 => ?_)
        · -- a letter ahead of one text
          refine ⟨_, rfl, _, _, rfl, rfl, ⟨by decide, by decide⟩, _, _, rfl, rfl, by show (0 : Int) < 8; decide, ?_⟩
          refine ⟨_, rfl, _, rfl, by omega, by omega, comp_range (fun i ys H4 => H4 = H3 ∧ ys = (((List.range i).map fun (k : Nat) => (97 + ((m / 24 + (0 + (k : Int))) % 26).toNat) :: t.take (m / 3 % 8).toNat).map S).map V.str) ⟨rfl, rfl⟩ (by show many.toNat ≤ sizeLine; omega) ?_ ?_⟩
          · rintro i ys H4 hi hy ⟨rfl, rfl⟩
            refine ⟨_, rfl, _, rfl, _, _, rfl, rfl, ⟨by decide, by decide⟩, _, rfl, _, _, rfl, rfl, _, _, rfl, rfl, by show (0 : Int) < 26; decide, ixA (by omega) (by omega) ?_⟩
            have l1 : (S [97 + ((m / 24 + (0 + (i : Int))) % 26).toNat]).length = 1 := S_len _
            have l2 := Txt.slice_le (S t) none (some (m / 3 % 8))
            rw [S_len] at l2
            refine ⟨_, rfl, _, rfl, _, rfl, _, rfl, hSl t htl, _, _, rfl, rfl, by omega, rfl, ?_⟩
            rw [slice_to t (by omega) (by omega), S_app, range_snoc]
            simp
          · rintro ys H4 hyl ⟨rfl, rfl⟩ p2 hp2
            refine q p2 _ ((List.range many.toNat).map fun (k : Nat) => (97 + ((m / 24 + (0 + (k : Int))) % 26).toNat) :: t.take (m / 3 % 8).toNat) (by simp) (fun c hc => ?_) (nodup_range fun i j hi hj e => ?_) upd_same (s3.free hp2) (s3.upd hp2)
            · obtain ⟨k, hk, rfl⟩ := List.mem_map.mp hc
              refine ⟨by simp, by rw [List.length_cons, List.length_take]; omega, fun x hx => ?_⟩
              rcases List.mem_cons.mp hx with z | z
              · omega
              · exact ht1 x (List.mem_of_mem_take z)
            · have e1 := (List.cons.inj e).1
              omega
        · -- a letter within one text
          refine ⟨_, rfl, _, _, rfl, rfl, ⟨by decide, by decide⟩, _, _, rfl, rfl, by show (0 : Int) < 8; decide, ?_⟩
          have hz0 : 0 ≤ m / 3 % 8 := by omega
          have hz1 : m / 3 % 8 < 8 := by omega
          refine ⟨_, rfl, _, _, rfl, rfl, ⟨by decide, by decide⟩, _, rfl, _, _, rfl, rfl, _, _, rfl, rfl, by show (0 : Int) < m / 3 % 8 + 1; omega, ?_⟩
          have hu0 : 0 ≤ m / 24 % (m / 3 % 8 + 1) := Int.emod_nonneg _ (by omega)
          have hu1 : m / 24 % (m / 3 % 8 + 1) < m / 3 % 8 + 1 := Int.emod_lt_of_pos _ (by omega)
          refine ⟨_, rfl, _, rfl, by omega, by omega, comp_range (fun i ys H4 => H4 = H3 ∧ ys = ((List.range i).map fun (k : Nat) => S [97 + ((m / 200 + (0 + (k : Int))) % 26).toNat]).map V.str) ⟨rfl, rfl⟩ (by show many.toNat ≤ sizeLine; omega) ?_ ?_⟩
          · rintro i ys H4 hi hy ⟨rfl, rfl⟩
            refine ⟨_, rfl, _, rfl, _, _, rfl, rfl, ⟨by decide, by decide⟩, _, rfl, _, _, rfl, rfl, _, _, rfl, rfl, by show (0 : Int) < 26; decide, ixA (by omega) (by omega) ⟨rfl, ?_⟩⟩
            rw [range_snoc]
            simp
          · rintro ys H4 hyl ⟨rfl, rfl⟩ p2 hp2
            have s4 := s3.upd (o := .lst (((List.range many.toNat).map fun (k : Nat) => S [97 + ((m / 200 + (0 + (k : Int))) % 26).toNat]).map V.str)) hp2
            generalize hH5 : upd H4 p2 (.lst (((List.range many.toNat).map fun (k : Nat) => S [97 + ((m / 200 + (0 + (k : Int))) % 26).toNat]).map V.str)) = H5 at s4
            have h5 : H5 p2 = some (.lst (((List.range many.toNat).map fun (k : Nat) => S [97 + ((m / 200 + (0 + (k : Int))) % 26).toNat]).map V.str)) := by rw [← hH5]; exact upd_same
            refine ⟨_, rfl, p2, rfl, ⟨_, SqL.of h5⟩, comp_list (K := K) (a := p2) (xs := ((List.range many.toNat).map fun (k : Nat) => S [97 + ((m / 200 + (0 + (k : Int))) % 26).toNat]).map V.str) (fun i ys H6 => H6 = H5 ∧ ys = (((List.range i).map fun (k : Nat) => t.take (m / 24 % (m / 3 % 8 + 1)).toNat ++ (97 + ((m / 200 + (0 + (k : Int))) % 26).toNat) :: (t.drop (m / 24 % (m / 3 % 8 + 1)).toNat).take ((m / 3 % 8).toNat - (m / 24 % (m / 3 % 8 + 1)).toNat)).map S).map V.str) ⟨rfl, rfl⟩ (fun i ys H6 _ p => SqL.of (by rw [p.1]; exact h5)) (by simp; omega) ?_ ?_⟩
            · rintro i x ys H6 hx hy ⟨rfl, rfl⟩
              have hi : i < many.toNat := by
                have := (List.getElem?_eq_some_iff.mp hx).1
                simpa using this
              have ex : x = V.str (S [97 + ((m / 200 + (0 + (i : Int))) % 26).toNat]) := by
                rw [List.getElem?_map, List.getElem?_map, List.getElem?_range hi] at hx
                exact (Option.some.inj hx).symm
              subst ex
              have l1 : (S [97 + ((m / 200 + (0 + (i : Int))) % 26).toNat]).length = 1 := S_len _
              have l2 := Txt.slice_le (S t) none (some (m / 24 % (m / 3 % 8 + 1)))
              have l3 := Txt.slice_le (S t) (some (m / 24 % (m / 3 % 8 + 1))) (some (m / 3 % 8))
              rw [S_len] at l2 l3
              refine ⟨_, rfl, _, rfl, _, rfl, _, rfl, hSl t htl, _, rfl, _, _, rfl, rfl, by omega, _, rfl, _, rfl, _, rfl, _, rfl, _, rfl, _, rfl, hSl t htl, _, _, rfl, rfl, by rw [len_app]; omega, rfl, ?_⟩
              rw [slice_to t (by omega) (by omega), slice_mid t (by omega) (by omega) (by omega), S_app, S_app, range_snoc]
              simp
            · rintro ys H6 hyl2 ⟨rfl, rfl⟩ p3 hp3
              have el : (((List.range many.toNat).map fun (k : Nat) => S [97 + ((m / 200 + (0 + (k : Int))) % 26).toNat]).map V.str).length = many.toNat := by simp
              rw [el]
              refine q p3 _ ((List.range many.toNat).map fun (k : Nat) => t.take (m / 24 % (m / 3 % 8 + 1)).toNat ++ (97 + ((m / 200 + (0 + (k : Int))) % 26).toNat) :: (t.drop (m / 24 % (m / 3 % 8 + 1)).toNat).take ((m / 3 % 8).toNat - (m / 24 % (m / 3 % 8 + 1)).toNat)) (by simp) (fun c hc => ?_) (nodup_range fun i j hi hj e => ?_) upd_same (s4.free hp3) (s4.upd hp3)
              · obtain ⟨k, hk, rfl⟩ := List.mem_map.mp hc
                refine ⟨by simp; omega, by simp [List.length_take, List.length_drop]; omega, fun x hx => ?_⟩
                rcases List.mem_append.mp hx with y | y
                · exact ht1 x (List.mem_of_mem_take y)
                · rcases List.mem_cons.mp y with y | y
                  · omega
                  · exact ht1 x (List.mem_of_mem_drop (List.mem_of_mem_take y))
              · have e1 := (List.cons.inj (List.append_cancel_left e)).1
                omega
end
end K05

set_option Elab.async false
set_option linter.all false
set_option maxRecDepth 100000
set_option maxHeartbeats 4000000
namespace K05
open PySem PySem.Spec PyProof.Rows L2
/-! a list that grows by rows -/
structure Grow {α : Type} (f : α → List V) (H0 : Hp) (l : Addr) (H : Hp) (xs : List α) : Prop where
  ex : ∃ vs, H l = some (.lst vs) ∧ Paired (RowP f H) vs xs
  sm : Same H0 H
theorem Grow.same {α : Type} {f : α → List V} {H0 H H' : Hp} {l : Addr} {xs : List α} (e : Same H H') (g : Grow f H0 l H xs) : Grow f H0 l H' xs :=
  let ⟨vs, h1, h2⟩ := g.ex
  ⟨⟨vs, e _ _ h1, paired_same e h2⟩, g.sm.trans e⟩
theorem Grow.new {α : Type} {f : α → List V} {H0 : Hp} {l : Addr} (h : H0 l = none) : Grow f H0 l (upd H0 l (.lst [])) [] := ⟨⟨[], upd_same, .nil⟩, (Same.refl H0).upd h⟩
theorem paired_upd {α : Type} {f : α → List V} {H : Hp} {l : Addr} {zs : List V} {o : HO} (hl : H l = some (.lst zs)) : ∀ {vs : List V} {xs : List α}, Paired (RowP f H) vs xs → Paired (RowP f (upd H l o)) vs xs
  | _, _, .nil => .nil
  | _, _, .cons ⟨p, e, hp⟩ t => .cons ⟨p, e, by
      have : p ≠ l := fun e => by rw [e, hl] at hp; cases hp
      rw [upd_ne this]
      exact hp⟩ (paired_upd hl t)
theorem Grow.ty {α : Type} {f : α → List V} {H0 H : Hp} {l : Addr} {xs : List α} {K : PySem.W.Frag} (g : Grow f H0 l H xs) : tyV K "list" (.ref l) H := let ⟨_, h, _⟩ := g.ex; .inl ⟨rfl, _, SqL.of h⟩
theorem Grow.push {α : Type} {f : α → List V} {H0 H : Hp} {l p : Addr} {xs : List α} {x : α} {Q : VK} (g : Grow f H0 l H xs) (hn : H0 l = none) (hp : H p = some (.tup (f x))) (hlen : xs.length < 1000) (k : ∀ H', Grow f H0 l H' (xs ++ [x]) → But l H H' → Q .non H') : rAppend (.ref l) [.ref p] H Q := by
  obtain ⟨vs, h1, h2⟩ := g.ex
  have hv : vs.length = xs.length := h2.length
  refine ⟨l, vs, _, rfl, rfl, h1, by rw [hv]; exact Nat.lt_trans hlen (by decide), k _ ⟨⟨_, upd_same, paired_snoc (paired_upd h1 h2) ⟨p, rfl, ?_⟩⟩, fun b o hb => ?_⟩ fun b o hb hne => by rw [upd_ne hne]; exact hb⟩
  · have : p ≠ l := fun e => by rw [e, h1] at hp; cases hp
    rw [upd_ne this]
    exact hp
  · rw [upd_ne (ne_of_none hb hn)]
    exact g.sm _ _ hb
theorem at_str {cs : List (List Nat)} {i : Int} (h0 : 0 ≤ i) (h1 : i < cs.length) : ∃ c, cs[i.toNat]? = some c ∧ atI ((cs.map S).map V.str) i = some (.str (S c)) := by
  obtain ⟨x, rfl⟩ : ∃ x : Nat, i = x := ⟨i.toNat, by omega⟩
  have hx : x < cs.length := by omega
  refine ⟨cs[x], by simp [hx], atI_nat (by simp [hx])⟩
theorem at_V {vs : List V} {i : Int} (h0 : 0 ≤ i) (h1 : i < vs.length) : ∃ v, vs[i.toNat]? = some v ∧ atI vs i = some v := by
  obtain ⟨x, rfl⟩ : ∃ x : Nat, i = x := ⟨i.toNat, by omega⟩
  have hx : x < vs.length := by omega
  exact ⟨vs[x], by simp [hx], atI_nat (by simp [hx])⟩
theorem mem3 {a b c x : Int} (h : x ∈ [a, b, c]) : x = a ∨ x = b ∨ x = c := by simpa using h
theorem mem2 {a b x : Int} (h : x ∈ [a, b]) : x = a ∨ x = b := by simpa using h
/-! the row that a law makes of its script -/
structure RowAt (H : Hp) (p : Addr) (d : HD) : Prop where
  ex : ∃ sh k s t r uk us ut ur, H p = some (.tup [.str d.name, .ref sh, .ref k, .ref s, .ref t, oV d.cap, oV d.age, oV d.rest, .ref r, .int d.span, .int d.grace]) ∧ H sh = some (.tup [.int d.top, .int d.bot]) ∧
    (H k = some (.lst uk) ∧ Paired (RowP fK H) uk d.kinds) ∧ (H s = some (.lst us) ∧ Paired (RowP fP H) us d.steps) ∧ (H t = some (.lst ut) ∧ Paired (RowP fT H) ut d.doubles) ∧ (H r = some (.lst ur) ∧ Paired (RowP fR H) ur d.ranks)
theorem RowAt.same {H H' : Hp} {p : Addr} {d : HD} (e : Same H H') (h : RowAt H p d) : RowAt H' p d := by
  obtain ⟨sh, k, s, t, r, uk, us, ut, ur, h1, h2, ⟨h3, h4⟩, ⟨h5, h6⟩, ⟨h7, h8⟩, ⟨h9, h10⟩⟩ := h.ex
  exact ⟨sh, k, s, t, r, uk, us, ut, ur, e _ _ h1, e _ _ h2, ⟨e _ _ h3, paired_same e h4⟩, ⟨e _ _ h5, paired_same e h6⟩, ⟨e _ _ h7, paired_same e h8⟩, ⟨e _ _ h9, paired_same e h10⟩⟩
/-- how great its numbers are -/
structure HD.Bd (d : HD) : Prop where
  top : d.top ≤ 1000000000000
  bot : d.bot ≤ 1000000000000
  kinds : d.kinds.length ≤ 8 ∧ ∀ k ∈ d.kinds, k.2 ≤ 1000000000000
  steps : d.steps.length ≤ 8 ∧ ∀ k ∈ d.steps, k.2 ≤ 1000
  doubles : d.doubles.length ≤ 8 ∧ ∀ k ∈ d.doubles, k.2.2 ≤ 5
  ranks : d.ranks.length ≤ 8
def spHouse (K : PySem.W.Frag) : Sp := fun vs H Q _ => ∃ (a : Addr) (ns : List Int), vs = [.ref a] ∧ SqL K H a (ns.map V.int) ∧ ∀ (p : Addr) H' (d : HD), d.Ok → d.Bd → RowAt H' p d → Same H H' → Q (.ref p) H'
def spMade (C : Addr) : Sp := fun vs H Q _ => ∃ (p : Addr) (d : HD), vs = [.ref p] ∧ d.Ok ∧ RowAt H p d ∧ ∀ (x : Addr) H', HouseAt C H' x d → Same H H' → Q (.ref x) H'
theorem p12 : (10 : Int) ^ (12 : Int).toNat = 1000000000000 := by decide
theorem p11 : (10 : Int) ^ (11 : Int).toNat = 100000000000 := by decide
theorem p12p : (0 : Int) < 10 ^ (12 : Int).toNat := by decide
theorem p11p : (0 : Int) < 10 ^ (11 : Int).toNat := by decide
theorem p12b (n : Int) : 0 ≤ n % 10 ^ (12 : Int).toNat ∧ n % 10 ^ (12 : Int).toNat < 1000000000000 := by rw [p12]; omega
theorem p11b (n : Int) : 0 ≤ n % 10 ^ (11 : Int).toNat ∧ n % 10 ^ (11 : Int).toNat < 100000000000 := by rw [p11]; omega
section
variable {P : Program} {w : World} {K : PySem.W.Frag} {mg : Str → Option Value} {base : Heap}
abbrev s_law_house : Stmt := top 29
abbrev N_law_house : List Str := ["_law_script", "_law_m", "_law_sizes", "_law_names_here", "_law_top", "_law_share", "_law_kinds", "_law_k", "_law_n", "_law_factor", "_law_steps", "_law_leasts", "_law_least", "_law_doubles", "_law_first", "_law_last", "_law_ranks", "_law_titles", "_law_ends", "_law_far", "_law_cap", "_law_age", "_law_rest"]
theorem sc_law_house : FnScope N_law_house ["_law_script"] (defScope s_law_house) := ⟨rfl, rfl, rfl, by decide +kernel, rfl, by decide +kernel, by decide +kernel⟩
theorem w_law_house_1 : okSet N_law_house (defScope s_law_house) 1 "_law_m" = true := by decide +kernel
theorem g_law_house_law_mix : okGl (defScope s_law_house) "_law_mix" = true := by decide +kernel
theorem g_law_house_law_at : okGl (defScope s_law_house) "_law_at" = true := by decide +kernel
theorem v_law_house_0 : okVar N_law_house (defScope s_law_house) 0 "_law_script" = true := by decide +kernel
theorem w_law_house_2 : okSet N_law_house (defScope s_law_house) 2 "_law_sizes" = true := by decide +kernel
theorem v_law_house_1 : okVar N_law_house (defScope s_law_house) 1 "_law_m" = true := by decide +kernel
theorem w_law_house_3 : okSet N_law_house (defScope s_law_house) 3 "_law_names_here" = true := by decide +kernel
theorem g_law_house_law_names : okGl (defScope s_law_house) "_law_names" = true := by decide +kernel
theorem w_law_house_4 : okSet N_law_house (defScope s_law_house) 4 "_law_top" = true := by decide +kernel
theorem w_law_house_5 : okSet N_law_house (defScope s_law_house) 5 "_law_share" = true := by decide +kernel
theorem v_law_house_4 : okVar N_law_house (defScope s_law_house) 4 "_law_top" = true := by decide +kernel
theorem w_law_house_6 : okSet N_law_house (defScope s_law_house) 6 "_law_kinds" = true := by decide +kernel
theorem g_law_house_range : okGl (defScope s_law_house) "range" = true := by decide +kernel
theorem v_law_house_2 : okVar N_law_house (defScope s_law_house) 2 "_law_sizes" = true := by decide +kernel
theorem w_law_house_7 : okSet N_law_house (defScope s_law_house) 7 "_law_k" = true := by decide +kernel
theorem w_law_house_8 : okSet N_law_house (defScope s_law_house) 8 "_law_n" = true := by decide +kernel
theorem v_law_house_7 : okVar N_law_house (defScope s_law_house) 7 "_law_k" = true := by decide +kernel
theorem w_law_house_9 : okSet N_law_house (defScope s_law_house) 9 "_law_factor" = true := by decide +kernel
theorem v_law_house_8 : okVar N_law_house (defScope s_law_house) 8 "_law_n" = true := by decide +kernel
theorem v_law_house_6 : okVar N_law_house (defScope s_law_house) 6 "_law_kinds" = true := by decide +kernel
theorem v_law_house_9 : okVar N_law_house (defScope s_law_house) 9 "_law_factor" = true := by decide +kernel
theorem v_law_house_3 : okVar N_law_house (defScope s_law_house) 3 "_law_names_here" = true := by decide +kernel
theorem w_law_house_10 : okSet N_law_house (defScope s_law_house) 10 "_law_steps" = true := by decide +kernel
theorem w_law_house_11 : okSet N_law_house (defScope s_law_house) 11 "_law_leasts" = true := by decide +kernel
theorem g_law_house_law_rising : okGl (defScope s_law_house) "_law_rising" = true := by decide +kernel
theorem g_law_house_enumerate : okGl (defScope s_law_house) "enumerate" = true := by decide +kernel
theorem v_law_house_11 : okVar N_law_house (defScope s_law_house) 11 "_law_leasts" = true := by decide +kernel
theorem w_law_house_12 : okSet N_law_house (defScope s_law_house) 12 "_law_least" = true := by decide +kernel
theorem v_law_house_10 : okVar N_law_house (defScope s_law_house) 10 "_law_steps" = true := by decide +kernel
theorem v_law_house_12 : okVar N_law_house (defScope s_law_house) 12 "_law_least" = true := by decide +kernel
theorem w_law_house_13 : okSet N_law_house (defScope s_law_house) 13 "_law_doubles" = true := by decide +kernel
theorem w_law_house_14 : okSet N_law_house (defScope s_law_house) 14 "_law_first" = true := by decide +kernel
theorem w_law_house_15 : okSet N_law_house (defScope s_law_house) 15 "_law_last" = true := by decide +kernel
theorem v_law_house_14 : okVar N_law_house (defScope s_law_house) 14 "_law_first" = true := by decide +kernel
theorem v_law_house_13 : okVar N_law_house (defScope s_law_house) 13 "_law_doubles" = true := by decide +kernel
theorem v_law_house_15 : okVar N_law_house (defScope s_law_house) 15 "_law_last" = true := by decide +kernel
theorem w_law_house_16 : okSet N_law_house (defScope s_law_house) 16 "_law_ranks" = true := by decide +kernel
theorem w_law_house_17 : okSet N_law_house (defScope s_law_house) 17 "_law_titles" = true := by decide +kernel
theorem v_law_house_16 : okVar N_law_house (defScope s_law_house) 16 "_law_ranks" = true := by decide +kernel
theorem v_law_house_17 : okVar N_law_house (defScope s_law_house) 17 "_law_titles" = true := by decide +kernel
theorem w_law_house_18 : okSet N_law_house (defScope s_law_house) 18 "_law_ends" = true := by decide +kernel
theorem w_law_house_19 : okSet N_law_house (defScope s_law_house) 19 "_law_far" = true := by decide +kernel
theorem v_law_house_18 : okVar N_law_house (defScope s_law_house) 18 "_law_ends" = true := by decide +kernel
theorem v_law_house_19 : okVar N_law_house (defScope s_law_house) 19 "_law_far" = true := by decide +kernel
theorem g_law_house_int : okGl (defScope s_law_house) "int" = true := by decide +kernel
theorem w_law_house_22 : okSet N_law_house (defScope s_law_house) 22 "_law_rest" = true := by decide +kernel
theorem w_law_house_21 : okSet N_law_house (defScope s_law_house) 21 "_law_age" = true := by decide +kernel
theorem w_law_house_20 : okSet N_law_house (defScope s_law_house) 20 "_law_cap" = true := by decide +kernel
theorem v_law_house_22 : okVar N_law_house (defScope s_law_house) 22 "_law_rest" = true := by decide +kernel
theorem v_law_house_21 : okVar N_law_house (defScope s_law_house) 21 "_law_age" = true := by decide +kernel
theorem v_law_house_20 : okVar N_law_house (defScope s_law_house) 20 "_law_cap" = true := by decide +kernel
theorem v_law_house_5 : okVar N_law_house (defScope s_law_house) 5 "_law_share" = true := by decide +kernel
theorem ok_house {f : Addr} {fd : FuncData} {tk : Tok} (F : Fun K "_law_house" "_law_house" s_law_house f fd) (T : Txt K mg tk) (C_law_at : Callee P w K mg base 1 "_law_at" ["_law_script", "_law_k"] (spAt K)) (C_law_mix : Callee P w K mg base 1 "_law_mix" ["_law_cell", "_law_k"] spMix)
    (C_law_names : Callee P w K mg base 2 "_law_names" ["_law_cell", "_law_many"] spNames) (C_law_rising : Callee P w K mg base 2 "_law_rising" ["_law_cell", "_law_k", "_law_many", "_law_least"] spRising) : FnOk P w K mg base CX0 3 f fd ["_law_script"] (spHouse K) := by
  refine F.okQ sc_law_house (fun vs H Q E h => ?_) (fun cdv A outer s H vs Q E hr h => ?_)
  · obtain ⟨_, _, rfl, _⟩ := h
    rfl
  · obtain ⟨a, ns, rfl, hS, q⟩ := h
    have nd := sc_law_house.nd
    have sz : sizeLine = 16777216 := sizeLine_eq
    refine ⟨_, (qss_cons (qs_set (i := 1) nd w_law_house_1 (qe_fn C_law_mix hr g_law_house_law_mix (qa_cons (qe_fn C_law_at hr g_law_house_law_at (qa_cons (qv 0 v_law_house_0) (qa_cons qe_int qa_nil))) (qa_cons qe_int qa_nil))))
      (qss_cons (qs_set (i := 2) nd w_law_house_2 (qe_lst (qa_cons (qe_op op_mod (qv 1 v_law_house_1) qe_int) (qa_cons (qe_op op_mod (qe_op op_fdiv (qv 1 v_law_house_1) qe_int) qe_int) (qa_cons (qe_op op_mod (qe_op op_fdiv (qv 1 v_law_house_1) qe_int) qe_int) (qa_cons (qe_op op_mod (qe_op op_fdiv (qv 1 v_law_house_1) qe_int) qe_int) qa_nil))))))
      (qss_cons (qs_set (i := 3) nd w_law_house_3 (qe_fn C_law_names hr g_law_house_law_names (qa_cons (qe_fn C_law_at hr g_law_house_law_at (qa_cons (qv 0 v_law_house_0) (qa_cons qe_int qa_nil))) (qa_cons qe_int qa_nil))))
      (qss_cons (qs_set (i := 4) nd w_law_house_4 (qe_ix ix_list (qe_lst (qa_cons (qe_op op_mod (qv 1 v_law_house_1) qe_int) (qa_cons (qe_op op_mod (qe_fn C_law_at hr g_law_house_law_at (qa_cons (qv 0 v_law_house_0) (qa_cons qe_int qa_nil))) (qe_op op_pow qe_int qe_int)) qa_nil))) (qe_op op_mod (qe_op op_fdiv (qv 1 v_law_house_1) qe_int) qe_int)))
      (qss_cons (qs_set (i := 5) nd w_law_house_5 (qe_tup (qa_cons (qv 4 v_law_house_4) (qa_cons (qe_ix ix_list (qe_lst (qa_cons qe_int (qa_cons (qe_op op_add qe_int (qe_op op_mod (qe_op op_fdiv (qv 1 v_law_house_1) qe_int) qe_int)) (qa_cons (qe_op op_sub (qe_op op_pow qe_int qe_int) qe_int) qa_nil)))) (qe_op op_mod (qe_op op_fdiv (qv 1 v_law_house_1) qe_int) qe_int)) qa_nil))))
      (qss_cons (qs_set (i := 6) nd w_law_house_6 (qe_lst qa_nil))
      (qss_cons (qs_for PassesOwn.never rfl (qi_range1 g_law_house_range T.b_range (qa_cons (qe_ix ix_list (qv 2 v_law_house_2) qe_int) qa_nil)) (qg_name (i := 7) nd w_law_house_7)
      (qss_cons (qs_set (i := 8) nd w_law_house_8 (qe_fn C_law_mix hr g_law_house_law_mix (qa_cons (qe_fn C_law_at hr g_law_house_law_at (qa_cons (qv 0 v_law_house_0) (qa_cons (qe_op op_add qe_int (qv 7 v_law_house_7)) qa_nil))) (qa_cons qe_int qa_nil))))
        (qss_cons (qs_set (i := 9) nd w_law_house_9 (qe_ix ix_list (qe_lst (qa_cons (qe_op op_mod (qv 8 v_law_house_8) qe_int) (qa_cons (qe_op op_mod (qv 8 v_law_house_8) qe_int) (qa_cons (qe_op op_mod (qe_fn C_law_at hr g_law_house_law_at (qa_cons (qv 0 v_law_house_0) (qa_cons (qe_op op_add qe_int (qv 7 v_law_house_7)) qa_nil))) (qe_op op_pow qe_int qe_int)) qa_nil)))) (qe_op op_mod (qe_op op_fdiv (qv 8 v_law_house_8) qe_int) qe_int)))
        (qss_one (qs_expr (qe_bm PySem.F.plainAttrs_list PySem.F.slot_list_append PySem.F.type_list_append mt_append (qv 6 v_law_house_6) (qa_cons (qe_tup (qa_cons (qe_ix ix_list (qv 3 v_law_house_3) (qv 7 v_law_house_7)) (qa_cons (qv 9 v_law_house_9) qa_nil))) qa_nil)))))))
      (qss_cons (qs_set (i := 10) nd w_law_house_10 (qe_lst qa_nil))
      (qss_cons (qs_set (i := 11) nd w_law_house_11 (qe_fn C_law_rising hr g_law_house_law_rising (qa_cons (qe_fn C_law_at hr g_law_house_law_at (qa_cons (qv 0 v_law_house_0) (qa_cons qe_int qa_nil))) (qa_cons qe_int (qa_cons (qe_ix ix_list (qv 2 v_law_house_2) qe_int) (qa_cons (qe_op op_mod (qe_fn C_law_at hr g_law_house_law_at (qa_cons (qv 0 v_law_house_0) (qa_cons qe_int qa_nil))) qe_int) qa_nil))))))
      (qss_cons (qs_for PassesOwn.never rfl (qi_enum g_law_house_enumerate T.b_enumerate (qa_cons (qv 11 v_law_house_11) qa_nil)) (qg_tup rfl (qgs_cons (qg_name (i := 7) nd w_law_house_7) (qgs_cons (qg_name (i := 12) nd w_law_house_12) qgs_nil)))
      (qss_one (qs_expr (qe_bm PySem.F.plainAttrs_list PySem.F.slot_list_append PySem.F.type_list_append mt_append (qv 10 v_law_house_10) (qa_cons (qe_tup (qa_cons (qv 12 v_law_house_12) (qa_cons (qe_ix ix_list (qe_lst (qa_cons (qe_op op_mul (qv 7 v_law_house_7) qe_int) (qa_cons (qe_op op_mod (qe_fn C_law_mix hr g_law_house_law_mix (qa_cons (qe_fn C_law_at hr g_law_house_law_at (qa_cons (qv 0 v_law_house_0) (qa_cons qe_int qa_nil))) (qa_cons (qv 7 v_law_house_7) qa_nil))) qe_int) qa_nil))) (qe_op op_mod (qe_op op_fdiv (qv 1 v_law_house_1) qe_int) qe_int)) qa_nil))) qa_nil)))))
      (qss_cons (qs_set (i := 13) nd w_law_house_13 (qe_lst qa_nil))
      (qss_cons (qs_for PassesOwn.never rfl (qi_range1 g_law_house_range T.b_range (qa_cons (qe_ix ix_list (qv 2 v_law_house_2) qe_int) qa_nil)) (qg_name (i := 7) nd w_law_house_7)
      (qss_cons (qs_set (i := 8) nd w_law_house_8 (qe_fn C_law_mix hr g_law_house_law_mix (qa_cons (qe_fn C_law_at hr g_law_house_law_at (qa_cons (qv 0 v_law_house_0) (qa_cons (qe_op op_add qe_int (qv 7 v_law_house_7)) qa_nil))) (qa_cons qe_int qa_nil))))
        (qss_cons (qs_set (i := 14) nd w_law_house_14 (qe_ix ix_list (qe_lst (qa_cons (qe_op op_mod (qv 8 v_law_house_8) qe_int) (qa_cons (qe_op op_mod (qe_fn C_law_at hr g_law_house_law_at (qa_cons (qv 0 v_law_house_0) (qa_cons (qe_op op_add qe_int (qv 7 v_law_house_7)) qa_nil))) (qe_op op_pow qe_int qe_int)) qa_nil))) (qe_op op_mod (qe_op op_fdiv (qv 8 v_law_house_8) qe_int) qe_int)))
        (qss_cons (qs_set (i := 15) nd w_law_house_15 (qe_op op_add (qv 14 v_law_house_14) (qe_ix ix_list (qe_lst (qa_cons qe_int (qa_cons (qe_op op_mod (qe_op op_fdiv (qv 8 v_law_house_8) qe_int) qe_int) (qa_cons (qv 8 v_law_house_8) qa_nil)))) (qe_op op_mod (qe_op op_fdiv (qv 8 v_law_house_8) qe_int) qe_int))))
        (qss_one (qs_expr (qe_bm PySem.F.plainAttrs_list PySem.F.slot_list_append PySem.F.type_list_append mt_append (qv 13 v_law_house_13) (qa_cons (qe_tup (qa_cons (qv 14 v_law_house_14) (qa_cons (qv 15 v_law_house_15) (qa_cons (qe_op op_add qe_int (qe_op op_mod (qe_op op_fdiv (qv 8 v_law_house_8) qe_int) qe_int)) qa_nil)))) qa_nil))))))))
      (qss_cons (qs_set (i := 16) nd w_law_house_16 (qe_lst qa_nil))
      (qss_cons (qs_set (i := 17) nd w_law_house_17 (qe_fn C_law_names hr g_law_house_law_names (qa_cons (qe_fn C_law_at hr g_law_house_law_at (qa_cons (qv 0 v_law_house_0) (qa_cons qe_int qa_nil))) (qa_cons qe_int qa_nil))))
      (qss_cons (qs_for PassesOwn.never rfl (qi_enum g_law_house_enumerate T.b_enumerate (qa_cons (qe_fn C_law_rising hr g_law_house_law_rising (qa_cons (qe_fn C_law_at hr g_law_house_law_at (qa_cons (qv 0 v_law_house_0) (qa_cons qe_int qa_nil))) (qa_cons qe_int (qa_cons (qe_ix ix_list (qv 2 v_law_house_2) qe_int) (qa_cons qe_int qa_nil))))) qa_nil)) (qg_tup rfl (qgs_cons (qg_name (i := 7) nd w_law_house_7) (qgs_cons (qg_name (i := 12) nd w_law_house_12) qgs_nil)))
      (qss_one (qs_expr (qe_bm PySem.F.plainAttrs_list PySem.F.slot_list_append PySem.F.type_list_append mt_append (qv 16 v_law_house_16) (qa_cons (qe_tup (qa_cons (qv 12 v_law_house_12) (qa_cons (qe_ix ix_list (qv 17 v_law_house_17) (qe_op op_mod (qe_fn C_law_mix hr g_law_house_law_mix (qa_cons (qe_fn C_law_at hr g_law_house_law_at (qa_cons (qv 0 v_law_house_0) (qa_cons qe_int qa_nil))) (qa_cons (qv 7 v_law_house_7) qa_nil))) qe_int)) qa_nil))) qa_nil)))))
      (qss_cons (qs_set (i := 18) nd w_law_house_18 (qe_lst qa_nil))
      (qss_cons (qs_for PassesOwn.never rfl (qi_range1 g_law_house_range T.b_range (qa_cons qe_int qa_nil)) (qg_name (i := 7) nd w_law_house_7)
      (qss_cons (qs_set (i := 8) nd w_law_house_8 (qe_fn C_law_mix hr g_law_house_law_mix (qa_cons (qe_fn C_law_at hr g_law_house_law_at (qa_cons (qv 0 v_law_house_0) (qa_cons (qe_op op_add qe_int (qv 7 v_law_house_7)) qa_nil))) (qa_cons qe_int qa_nil))))
        (qss_cons (qs_set (i := 19) nd w_law_house_19 (qe_op op_add qe_int (qe_op op_mod (qe_fn C_law_at hr g_law_house_law_at (qa_cons (qv 0 v_law_house_0) (qa_cons (qe_op op_add qe_int (qv 7 v_law_house_7)) qa_nil))) (qe_op op_pow qe_int qe_int))))
        (qss_one (qs_expr (qe_bm PySem.F.plainAttrs_list PySem.F.slot_list_append PySem.F.type_list_append mt_append (qv 18 v_law_house_18) (qa_cons (qe_ix ix_list (qe_lst (qa_cons qe_non (qa_cons (qe_callTy call_int1 g_law_house_int T.b_int bt_int (qa_cons (qe_cmp op_gt (qv 7 v_law_house_7) qe_int) qa_nil)) (qa_cons (qe_op op_add qe_int (qe_op op_mod (qe_op op_fdiv (qv 8 v_law_house_8) qe_int) qe_int)) (qa_cons (qv 19 v_law_house_19) qa_nil))))) (qe_op op_mod (qv 8 v_law_house_8) qe_int)) qa_nil)))))))
      (qss_cons (qs_set (i := 8) nd w_law_house_8 (qe_fn C_law_mix hr g_law_house_law_mix (qa_cons (qe_fn C_law_at hr g_law_house_law_at (qa_cons (qv 0 v_law_house_0) (qa_cons qe_int qa_nil))) (qa_cons qe_int qa_nil))))
      (qss_cons (qs_asg (qv 18 v_law_house_18) (qg_lst rfl (qgs_cons (qg_name (i := 20) nd w_law_house_20) (qgs_cons (qg_name (i := 21) nd w_law_house_21) (qgs_cons (qg_name (i := 22) nd w_law_house_22) qgs_nil)))))
      (qss_one (qs_ret (qe_tup (qa_cons (qe_ix ix_list (qv 3 v_law_house_3) qe_int) (qa_cons (qv 5 v_law_house_5) (qa_cons (qv 6 v_law_house_6) (qa_cons (qv 10 v_law_house_10) (qa_cons (qv 13 v_law_house_13) (qa_cons (qv 20 v_law_house_20) (qa_cons (qv 21 v_law_house_21) (qa_cons (qv 22 v_law_house_22) (qa_cons (qv 16 v_law_house_16) (qa_cons (qe_op op_add qe_int (qe_op op_mod (qv 8 v_law_house_8) qe_int)) (qa_cons (qe_op op_mod (qe_op op_fdiv (qv 8 v_law_house_8) qe_int) qe_int) qa_nil))))))))))))))))))))))))))))))))), ?_⟩
    -- m, sizes
    refine ⟨_, rfl, a, ns, _, rfl, hS, by decide, fun n0 => ⟨n0, _, rfl, by decide, by decide, fun m H1 hm0 hm1 e1 => ?_⟩⟩
    refine ⟨_, rfl, _, _, rfl, rfl, by show (0 : Int) < 9; decide, _, rfl, _, _, rfl, rfl, ⟨by decide, by decide⟩, _, _, rfl, rfl, by show (0 : Int) < 9; decide, _, rfl, _, _, rfl, rfl, ⟨by decide, by decide⟩, _, _, rfl, rfl, by show (0 : Int) < 9; decide, _, rfl, _, _, rfl, rfl, ⟨by decide, by decide⟩, _, _, rfl, rfl, by show (0 : Int) < 9; decide, by show 4 ≤ sizeLine; decide, fun q1 hq1 => ?_⟩
    have e2 := e1.upd (o := .lst [V.int (m % 9), V.int (m / 9 % 9), V.int (m / 81 % 9), V.int (m / 729 % 9)]) hq1
    have z2 : upd H1 q1 (.lst [V.int (m % 9), V.int (m / 9 % 9), V.int (m / 81 % 9), V.int (m / 729 % 9)]) q1 = some (.lst [V.int (m % 9), V.int (m / 9 % 9), V.int (m / 81 % 9), V.int (m / 729 % 9)]) := upd_same
    generalize upd H1 q1 (.lst [V.int (m % 9), V.int (m / 9 % 9), V.int (m / 81 % 9), V.int (m / 729 % 9)]) = H2 at e2 z2 ⊢
    -- names
    refine ⟨_, rfl, a, ns, _, rfl, e2.seq hS, by decide, fun n1 => ⟨n1, _, rfl, by decide, by decide, fun pn H3 cs hcl hcs hcn hpn _ d3 => ?_⟩⟩
    have e3 := e2.trans d3
    have z3 := d3 _ _ z2
    have hcl' : cs.length = 10 := hcl
    -- top
    refine ⟨_, rfl, _, _, rfl, rfl, by show (0 : Int) < 4; decide, _, rfl, a, ns, _, rfl, e3.seq hS, by decide, fun n2 => ?_⟩
    obtain ⟨top, htop, etop⟩ := at_ints (ns := [m % 4, n2 % 10 ^ (12 : Int).toNat]) (i := m / 7 % 2) (by omega) (by show _ < (2 : Int); omega)
    have btop : 0 ≤ top ∧ top ≤ 1000000000000 := by
      have := p12b n2
      rcases mem2 htop with z | z <;> omega
    refine ⟨_, _, rfl, rfl, ⟨by decide, by decide, by decide⟩, _, _, rfl, rfl, p12p, by show 2 ≤ sizeLine; decide, fun q2 hq2 => ⟨_, rfl, _, _, rfl, rfl, ⟨by decide, by decide⟩, _, _, rfl, rfl, by show (0 : Int) < 2; decide, q2, _, _, _, rfl, rfl, SqL.of upd_same, etop, ?_⟩⟩
    have d4 := (Same.refl H3).upd (o := .lst [V.int (m % 4), V.int (n2 % 10 ^ (12 : Int).toNat)]) hq2
    generalize upd H3 q2 (.lst [V.int (m % 4), V.int (n2 % 10 ^ (12 : Int).toNat)]) = H4 at d4 ⊢
    -- share
    obtain ⟨bot, hbot, ebot⟩ := at_ints (ns := [1, 1 + m / 14 % 50, 10 ^ (12 : Int).toNat - 1]) (i := m / 700 % 3) (by omega) (by show _ < (3 : Int); omega)
    have bbot : 1 ≤ bot ∧ bot ≤ 1000000000000 := by
      have := p12
      rcases mem3 hbot with z | z | z <;> omega
    refine ⟨_, rfl, _, rfl, _, _, rfl, rfl, ⟨by decide, by decide⟩, _, _, rfl, rfl, by show (0 : Int) < 50; decide, _, _, rfl, rfl, _, _, rfl, rfl, ⟨by decide, by decide, by decide⟩, _, _, rfl, rfl, by show 3 ≤ sizeLine; decide, fun q3 hq3 => ⟨_, rfl, _, _, rfl, rfl, ⟨by decide, by decide⟩, _, _, rfl, rfl, by show (0 : Int) < 3; decide, q3, _, _, _, rfl, rfl, SqL.of upd_same, ebot, by show 2 ≤ sizeLine; decide, fun sh hsh => ?_⟩⟩
    have d5 := (d4.upd (o := .lst [V.int 1, V.int (1 + m / 14 % 50), V.int (10 ^ (12 : Int).toNat - 1)]) hq3).upd (o := .tup [V.int top, V.int bot]) hsh
    have hshv : upd (upd H4 q3 (.lst [V.int 1, V.int (1 + m / 14 % 50), V.int (10 ^ (12 : Int).toNat - 1)])) sh (.tup [V.int top, V.int bot]) sh = some (.tup [V.int top, V.int bot]) := upd_same
    generalize upd (upd H4 q3 (.lst [V.int 1, V.int (1 + m / 14 % 50), V.int (10 ^ (12 : Int).toNat - 1)])) sh (.tup [V.int top, V.int bot]) = H5 at d5 hshv ⊢
    have e5 := e3.trans d5
    have z5 := d5 _ _ z3
    have n5 := d5 _ _ hpn
    -- kinds
    refine ⟨by decide, fun lk hlk => ?_⟩
    refine ⟨_, rfl, q1, _, _, _, rfl, rfl, SqL.of ((Same.refl H5).upd hlk _ _ z5), rfl, _, rfl, by omega, by omega, for_range (lo := 0) (n := (m % 9).toNat) (fun i σ G => ∃ (ks : List (Str × Int)) (v7 v8 v9 : Option V), σ = [some (.ref a), some (.int m), some (.ref q1), some (.ref pn), some (.int top), some (.ref sh), some (.ref lk), v7, v8, v9, none, none, none, none, none, none, none, none, none, none, none, none, none] ∧ Grow fK H5 lk G ks ∧ ks.map (·.1) = (cs.take i).map S ∧ ks.length = i ∧ ∀ k ∈ ks, 0 ≤ k.2 ∧ k.2 ≤ 1000000000000)
      ⟨[], none, none, none, rfl, Grow.new hlk, rfl, rfl, by simp⟩ ?_ ?_⟩
    · rintro i σ G hi ⟨ks, v7, v8, v9, rfl, g, hks, hkl, hkb⟩
      have hi' : i < (m % 9).toNat := hi
      refine ⟨_, rfl, _, rfl, _, _, rfl, rfl, a, ns, _, rfl, (e5.trans g.sm).seq hS, by omega, fun n3 => ⟨n3, _, rfl, by decide, by decide, fun n G1 hn0 hn1 f1 => ?_⟩⟩
      have g1 := g.same f1
      refine ⟨_, rfl, _, _, rfl, rfl, by show (0 : Int) < 4; decide, _, rfl, _, _, rfl, rfl, by show (0 : Int) < 1000; decide, _, rfl, _, rfl, _, _, rfl, rfl, a, ns, _, rfl, (e5.trans g1.sm).seq hS, by omega, fun n4 => ?_⟩
      obtain ⟨fac, hfac, efac⟩ := at_ints (ns := [n % 4, n % 1000, n4 % 10 ^ (12 : Int).toNat]) (i := n / 1000 % 3) (by omega) (by show _ < (3 : Int); omega)
      have bfac : 0 ≤ fac ∧ fac ≤ 1000000000000 := by
        have := p12b n4
        rcases mem3 hfac with z | z | z <;> omega
      refine ⟨_, _, rfl, rfl, ⟨by decide, by decide, by decide⟩, _, _, rfl, rfl, p12p, by show 3 ≤ sizeLine; decide, fun q4 hq4 => ⟨_, rfl, _, _, rfl, rfl, ⟨by decide, by decide⟩, _, _, rfl, rfl, by show (0 : Int) < 3; decide, q4, _, _, _, rfl, rfl, SqL.of upd_same, efac, ?_⟩⟩
      have g2 := g1.same ((Same.refl G1).upd (o := .lst [V.int (n % 4), V.int (n % 1000), V.int (n4 % 10 ^ (12 : Int).toNat)]) hq4)
      generalize upd G1 q4 (.lst [V.int (n % 4), V.int (n % 1000), V.int (n4 % 10 ^ (12 : Int).toNat)]) = G2 at g2 ⊢
      obtain ⟨c, hc, ec⟩ := at_str (cs := cs) (i := 0 + (i : Int)) (by omega) (by omega)
      have hc' : cs[i]? = some c := by
        have : (0 + (i : Int)).toNat = i := by omega
        rw [this] at hc
        exact hc
      refine ⟨_, rfl, g2.ty, _, rfl, _, rfl, pn, _, _, _, rfl, rfl, SqL.of (g2.sm _ _ n5), ec, _, rfl, by show 2 ≤ sizeLine; decide, fun p hp => ?_⟩
      refine (g2.same ((Same.refl G2).upd hp)).push (x := (S c, fac)) hlk upd_same (by omega) fun G3 g3 _ => ⟨ks ++ [(S c, fac)], _, _, _, rfl, g3, ?_, by simp [hkl], ?_⟩
      · rw [take_snoc hc', List.map_append, List.map_append, hks]
        rfl
      · intro k hk
        rcases List.mem_append.mp hk with z | z
        · exact hkb k z
        · have : k = (S c, fac) := by simpa using z
          rw [this]
          exact bfac
    · rintro σ G ⟨ks, v7, v8, v9, rfl, gk, hks, hkl, hkb⟩
      obtain ⟨uk, hlkv, pk⟩ := gk.ex
      have e6 := e5.trans gk.sm
      have z6 := gk.sm _ _ z5
      have n6 := gk.sm _ _ n5
      have hsh6 := gk.sm _ _ hshv
      -- steps
      refine ⟨by decide, fun ls hls => ?_⟩
      have d7 := (Same.refl G).upd (o := .lst []) hls
      have gs0 : Grow fP G ls (upd G ls (.lst [])) [] := Grow.new hls
      have lsf : upd G ls (.lst []) ls = some (.lst []) := upd_same
      generalize upd G ls (.lst []) = G7 at d7 gs0 lsf ⊢
      refine ⟨_, rfl, a, ns, _, rfl, (e6.trans d7).seq hS, by decide, fun n5' => ⟨_, rfl, q1, _, _, _, rfl, rfl, SqL.of (d7 _ _ z6), rfl, _, rfl, a, ns, _, rfl, (e6.trans d7).seq hS, by decide, fun n6' => ⟨_, _, rfl, rfl, by show (0 : Int) < 3; decide, n5', _, _, _, rfl, by decide, by decide, by omega, by omega, fun pl G8 lst hll hlb hlr hpl hplf d8 => ?_⟩⟩⟩
      have gs1 := gs0.same d8
      have hpls : pl ≠ ls := fun e => by rw [e, lsf] at hplf; cases hplf
      refine ⟨_, rfl, pl, rfl, ⟨_, SqL.of hpl⟩, for_enum (a := pl) (xs := lst.map V.int) (fun i σ G9 => ∃ (ss : List (Int × Int)) (v7 v12 : Option V), σ = [some (.ref a), some (.int m), some (.ref q1), some (.ref pn), some (.int top), some (.ref sh), some (.ref lk), v7, v8, v9, some (.ref ls), some (.ref pl), v12, none, none, none, none, none, none, none, none, none, none] ∧ Grow fP G ls G9 ss ∧ G9 pl = some (.lst (lst.map V.int)) ∧ ss.map (·.1) = lst.take i ∧ ss.length = i ∧ ∀ k ∈ ss, 0 ≤ k.2 ∧ k.2 ≤ 1000)
        ⟨[], _, _, rfl, gs1, hpl, rfl, rfl, by simp⟩ (fun i σ G9 _ ⟨_, _, _, _, _, h, _⟩ => SqL.of h) ?_ ?_⟩
      · rintro i x σ G9 p hx ⟨ss, v7', v12, rfl, g, hp9, hss, hsl, hsb⟩ hp
        obtain ⟨y, hy, rfl⟩ : ∃ y, lst[i]? = some y ∧ x = .int y := by
          rw [List.getElem?_map] at hx
          cases hy : lst[i]? with
          | none => rw [hy] at hx; cases hx
          | some y => rw [hy] at hx; exact ⟨y, rfl, (Option.some.inj hx).symm⟩
        have hi : i < lst.length := (List.getElem?_eq_some_iff.mp hy).1
        have hll' : lst.length = (m / 9 % 9).toNat := hll
        refine ⟨p, _, rfl, SqT.of upd_same, rfl, _, _, rfl, _, _, rfl, rfl, ?_⟩
        have d9 := (Same.refl G9).upd (o := .tup [V.int (i : Int), V.int y]) hp
        have g1 := g.same d9
        have hp10 := d9 _ _ hp9
        generalize upd G9 p (.tup [V.int (i : Int), V.int y]) = G10 at d9 g1 hp10 ⊢
        refine ⟨_, rfl, g1.ty, _, rfl, _, rfl, _, _, rfl, rfl, cmulR (by decide) (by decide), _, rfl, a, ns, _, rfl, (e6.trans g1.sm).seq hS, by decide, fun n7 => ⟨_, rfl, n7, _, rfl, by omega, by omega, fun mm G11 hmm0 hmm1 f1 => ?_⟩⟩
        have g2 := g1.same f1
        have hp11 := f1 _ _ hp10
        obtain ⟨ex, hex, eex⟩ := at_ints (ns := [(i : Int) * 5, mm % 100]) (i := m / 2100 % 2) (by omega) (by show _ < (2 : Int); omega)
        have bex : 0 ≤ ex ∧ ex ≤ 1000 := by
          rcases mem2 hex with z | z <;> omega
        refine ⟨_, _, rfl, rfl, by show (0 : Int) < 100; decide, by show 2 ≤ sizeLine; decide, fun q5 hq5 => ⟨_, rfl, _, _, rfl, rfl, ⟨by decide, by decide⟩, _, _, rfl, rfl, by show (0 : Int) < 2; decide, q5, _, _, _, rfl, rfl, SqL.of upd_same, eex, by show 2 ≤ sizeLine; decide, fun p5 hp5 => ?_⟩⟩
        have f2 := ((Same.refl G11).upd (o := .lst [V.int ((i : Int) * 5), V.int (mm % 100)]) hq5).upd (o := .tup [V.int y, V.int ex]) hp5
        have hp12 := f2 _ _ hp11
        obtain ⟨zs, hz1, hz2⟩ := (g2.same f2).ex
        refine (g2.same f2).push (x := (y, ex)) hls upd_same (by omega) fun G12 g3 b3 => ⟨ss ++ [(y, ex)], _, _, rfl, g3, ?_, ?_, by simp [hsl], ?_⟩
        · exact b3 _ _ hp12 hpls
        · rw [take_snoc hy, List.map_append, hss]
          rfl
        · intro k hk
          rcases List.mem_append.mp hk with z | z
          · exact hsb k z
          · have : k = (y, ex) := by simpa using z
            rw [this]
            exact bex
      · rintro σ G9 ⟨ss, v7', v12, rfl, gs, _, hss, hsl, hsb⟩
        have hss' : ss.map (·.1) = lst := by rw [hss, List.take_of_length_le (by simp)]
        have hsl' : ss.length = lst.length := by rw [← hss', List.length_map]
        obtain ⟨us, hlsv, pss⟩ := gs.ex
        have e9 := e6.trans gs.sm
        have z9 := gs.sm _ _ z6
        have n9 := gs.sm _ _ n6
        have hsh9 := gs.sm _ _ hsh6
        have hlk9 := gs.sm _ _ hlkv
        have pk9 := paired_same gs.sm pk
        -- doubles
        refine ⟨by decide, fun ld hld => ?_⟩
        refine ⟨_, rfl, q1, _, _, _, rfl, rfl, SqL.of ((Same.refl G9).upd hld _ _ z9), rfl, _, rfl, by omega, by omega, for_range (lo := 0) (n := (m / 81 % 9).toNat) (fun i σ G => ∃ (ts : List (Int × Int × Int)) (v7 v8 v14 v15 : Option V), σ = [some (.ref a), some (.int m), some (.ref q1), some (.ref pn), some (.int top), some (.ref sh), some (.ref lk), v7, v8, v9, some (.ref ls), some (.ref pl), v12, some (.ref ld), v14, v15, none, none, none, none, none, none, none] ∧ Grow fT G9 ld G ts ∧ ts.length = i ∧ ∀ k ∈ ts, 0 ≤ k.1 ∧ k.1 ≤ k.2.1 ∧ 1 ≤ k.2.2 ∧ k.2.2 ≤ 5)
          ⟨[], _, _, _, _, rfl, Grow.new hld, rfl, by simp⟩ ?_ ?_⟩
        · rintro i σ G hi ⟨ts, v7, v8, v14, v15, rfl, g, htl, htb⟩
          have hi' : i < (m / 81 % 9).toNat := hi
          refine ⟨_, rfl, _, rfl, _, _, rfl, rfl, a, ns, _, rfl, (e9.trans g.sm).seq hS, by omega, fun n3 => ⟨n3, _, rfl, by decide, by decide, fun n G1 hn0 hn1 f1 => ?_⟩⟩
          have g1 := g.same f1
          refine ⟨_, rfl, _, _, rfl, rfl, by show (0 : Int) < 60; decide, _, rfl, _, rfl, _, _, rfl, rfl, a, ns, _, rfl, (e9.trans g1.sm).seq hS, by omega, fun n4 => ?_⟩
          obtain ⟨fi, hfi, efi⟩ := at_ints (ns := [n % 60, n4 % 10 ^ (11 : Int).toNat]) (i := n / 3600 % 2) (by omega) (by show _ < (2 : Int); omega)
          have bfi : 0 ≤ fi := by
            have := p11b n4
            rcases mem2 hfi with z | z <;> omega
          refine ⟨_, _, rfl, rfl, ⟨by decide, by decide, by decide⟩, _, _, rfl, rfl, p11p, by show 2 ≤ sizeLine; decide, fun q4 hq4 => ⟨_, rfl, _, _, rfl, rfl, ⟨by decide, by decide⟩, _, _, rfl, rfl, by show (0 : Int) < 2; decide, q4, _, _, _, rfl, rfl, SqL.of upd_same, efi, ?_⟩⟩
          have g2 := g1.same ((Same.refl G1).upd (o := .lst [V.int (n % 60), V.int (n4 % 10 ^ (11 : Int).toNat)]) hq4)
          generalize upd G1 q4 (.lst [V.int (n % 60), V.int (n4 % 10 ^ (11 : Int).toNat)]) = G2 at g2 ⊢
          obtain ⟨la, hla, ela⟩ := at_ints (ns := [0, n / 60 % 30, n]) (i := n / 7200 % 3) (by omega) (by show _ < (3 : Int); omega)
          have bla : 0 ≤ la := by
            rcases mem3 hla with z | z | z <;> omega
          refine ⟨_, rfl, _, rfl, _, _, rfl, rfl, ⟨by decide, by decide⟩, _, _, rfl, rfl, by show (0 : Int) < 30; decide, _, rfl, by show 3 ≤ sizeLine; decide, fun q5 hq5 => ⟨_, rfl, _, _, rfl, rfl, ⟨by decide, by decide⟩, _, _, rfl, rfl, by show (0 : Int) < 3; decide, q5, _, _, _, rfl, rfl, SqL.of upd_same, ela, _, _, rfl, rfl, ?_⟩⟩
          have g3 := g2.same ((Same.refl G2).upd (o := .lst [V.int 0, V.int (n / 60 % 30), V.int n]) hq5)
          generalize upd G2 q5 (.lst [V.int 0, V.int (n / 60 % 30), V.int n]) = G3 at g3 ⊢
          refine ⟨_, rfl, g3.ty, _, rfl, _, rfl, _, rfl, _, _, rfl, rfl, ⟨by decide, by decide⟩, _, _, rfl, rfl, by show (0 : Int) < 5; decide, _, _, rfl, rfl, by show 3 ≤ sizeLine; decide, fun p hp => ?_⟩
          refine (g3.same ((Same.refl G3).upd hp)).push (x := (fi, fi + la, 1 + n / 90 % 5)) hld upd_same (by omega) fun G4 g4 _ => ⟨ts ++ [(fi, fi + la, 1 + n / 90 % 5)], _, _, _, _, rfl, g4, by simp [htl], ?_⟩
          intro k hk
          rcases List.mem_append.mp hk with z | z
          · exact htb k z
          · have : k = (fi, fi + la, 1 + n / 90 % 5) := by simpa using z
            rw [this]
            show 0 ≤ fi ∧ fi ≤ fi + la ∧ 1 ≤ 1 + n / 90 % 5 ∧ 1 + n / 90 % 5 ≤ 5
            omega
        · rintro σ G10 ⟨ts, v7, v8, v14, v15, rfl, gt, htl, htb⟩
          obtain ⟨ut, hldv, pts⟩ := gt.ex
          have e10 := e9.trans gt.sm
          have z10 := gt.sm _ _ z9
          have n10 := gt.sm _ _ n9
          have hsh10 := gt.sm _ _ hsh9
          have hlk10 := gt.sm _ _ hlk9
          have pk10 := paired_same gt.sm pk9
          have hls10 := gt.sm _ _ hlsv
          have ps10 := paired_same gt.sm pss
          -- ranks
          refine ⟨by decide, fun lr hlr' => ?_⟩
          have d11 := (Same.refl G10).upd (o := .lst []) hlr'
          have gr0 : Grow fR G10 lr (upd G10 lr (.lst [])) [] := Grow.new hlr'
          have lrf : upd G10 lr (.lst []) lr = some (.lst []) := upd_same
          generalize upd G10 lr (.lst []) = G11 at d11 gr0 lrf ⊢
          refine ⟨_, rfl, a, ns, _, rfl, (e10.trans d11).seq hS, by decide, fun n8 => ⟨n8, _, rfl, by decide, by decide, fun pt G12 ct hctl hct _ hpt hptf d12 => ?_⟩⟩
          have hptr : pt ≠ lr := fun e => by rw [e, lrf] at hptf; cases hptf
          have gr1 := gr0.same d12
          have hctl' : ct.length = 10 := hctl
          refine ⟨_, rfl, a, ns, _, rfl, (e10.trans gr1.sm).seq hS, by decide, fun n9 => ⟨_, rfl, q1, _, _, _, rfl, rfl, SqL.of (gr1.sm _ _ z10), rfl, n9, _, _, _, rfl, by decide, by decide, by omega, by omega, fun pm G13 rst hrl hrb hrr hpm hpmf d13 => ?_⟩⟩
          have gr2 := gr1.same d13
          have hpmr : pm ≠ lr := fun e => by rw [e, d12 _ _ lrf] at hpmf; cases hpmf
          refine ⟨pm, rfl, ⟨_, SqL.of hpm⟩, for_enum (a := pm) (xs := rst.map V.int) (fun i σ G => ∃ (rs : List (Int × Str)) (v7 v12 : Option V), σ = [some (.ref a), some (.int m), some (.ref q1), some (.ref pn), some (.int top), some (.ref sh), some (.ref lk), v7, v8, v9, some (.ref ls), some (.ref pl), v12, some (.ref ld), v14, v15, some (.ref lr), some (.ref pt), none, none, none, none, none] ∧ Grow fR G10 lr G rs ∧ G pm = some (.lst (rst.map V.int)) ∧ G pt = some (.lst ((ct.map S).map V.str)) ∧ rs.map (·.1) = rst.take i ∧ rs.length = i ∧ ∀ k ∈ rs, k.2.length ≤ 1000 ∧ isNameB k.2 = true)
            ⟨[], _, _, rfl, gr2, hpm, d13 _ _ hpt, rfl, rfl, by simp⟩ (fun i σ G _ ⟨_, _, _, _, _, h, _⟩ => SqL.of h) ?_ ?_⟩
          · rintro i x σ G p hx ⟨rs, v7', v12, rfl, g, hpm1, hpt1, hrs, hrsl, hrsb⟩ hp
            obtain ⟨y, hy, rfl⟩ : ∃ y, rst[i]? = some y ∧ x = .int y := by
              rw [List.getElem?_map] at hx
              cases hy : rst[i]? with
              | none => rw [hy] at hx; cases hx
              | some y => rw [hy] at hx; exact ⟨y, rfl, (Option.some.inj hx).symm⟩
            have hi : i < rst.length := (List.getElem?_eq_some_iff.mp hy).1
            have hrl' : rst.length = (m / 729 % 9).toNat := hrl
            refine ⟨p, _, rfl, SqT.of upd_same, rfl, _, _, rfl, _, _, rfl, rfl, ?_⟩
            have d14 := (Same.refl G).upd (o := .tup [V.int (i : Int), V.int y]) hp
            generalize upd G p (.tup [V.int (i : Int), V.int y]) = G14 at d14 ⊢
            have g1 := g.same d14
            refine ⟨_, rfl, g1.ty, _, rfl, _, rfl, _, rfl, a, ns, _, rfl, (e10.trans g1.sm).seq hS, by decide, fun n7 => ⟨_, rfl, n7, _, rfl, by omega, by omega, fun mm G15 hmm0 hmm1 d15 => ?_⟩⟩
            have g2 := g1.same d15
            obtain ⟨c, hc, ec⟩ := at_str (cs := ct) (i := mm % 10) (by omega) (by omega)
            have hcm := hct c (List.mem_of_getElem? hc)
            refine ⟨_, _, rfl, rfl, by show (0 : Int) < 10; decide, pt, _, _, _, rfl, rfl, SqL.of (d15 _ _ (d14 _ _ hpt1)), ec, by show 2 ≤ sizeLine; decide, fun p5 hp5 => ?_⟩
            have d16 := (Same.refl G15).upd (o := .tup [V.int y, V.str (S c)]) hp5
            refine (g2.same d16).push (x := (y, S c)) hlr' upd_same (by omega) fun G16 g3 b3 => ⟨rs ++ [(y, S c)], _, _, rfl, g3, b3 _ _ (d16 _ _ (d15 _ _ (d14 _ _ hpm1))) hpmr, b3 _ _ (d16 _ _ (d15 _ _ (d14 _ _ hpt1))) hptr, ?_, by simp [hrsl], ?_⟩
            · rw [take_snoc hy, List.map_append, hrs]
              rfl
            · intro k hk
              rcases List.mem_append.mp hk with z | z
              · exact hrsb k z
              · have : k = (y, S c) := by simpa using z
                rw [this]
                exact ⟨by show (S c).length ≤ 1000; rw [S_len]; omega, name_S hcm.1 hcm.2.1 hcm.2.2⟩
          · rintro σ G17 ⟨rs, v7', v12', rfl, gr, _, _, hrs, hrsl, hrsb⟩
            have hrs' : rs.map (·.1) = rst := by rw [hrs, List.take_of_length_le (by simp)]
            have hrsl' : rs.length = rst.length := by rw [← hrs', List.length_map]
            obtain ⟨ur, hlrv, prs⟩ := gr.ex
            have e17 := e10.trans gr.sm
            -- ends
            refine ⟨by decide, fun le hle => ?_⟩
            refine ⟨_, rfl, by decide, by decide, for_range (lo := 0) (n := 3) (fun i σ G => ∃ (os : List (Option Int)) (v7 v8 v19 : Option V), σ = [some (.ref a), some (.int m), some (.ref q1), some (.ref pn), some (.int top), some (.ref sh), some (.ref lk), v7, v8, v9, some (.ref ls), some (.ref pl), v12', some (.ref ld), v14, v15, some (.ref lr), some (.ref pt), some (.ref le), v19, none, none, none] ∧ G le = some (.lst (os.map oV)) ∧ Same G17 G ∧ os.length = i ∧ ∀ (j : Nat) (n : Int), os[j]? = some (some n) → 0 ≤ n ∧ (1 ≤ j → 1 ≤ n))
              ⟨[], _, _, _, rfl, upd_same, (Same.refl G17).upd hle, rfl, by simp⟩ ?_ ?_⟩
            · rintro i σ G hi ⟨os, v7, v8, v19, rfl, hle1, d18, hol, hob⟩
              have hi' : i < 3 := hi
              refine ⟨_, rfl, _, rfl, _, _, rfl, rfl, a, ns, _, rfl, (e17.trans d18).seq hS, by omega, fun n3 => ⟨n3, _, rfl, by decide, by decide, fun n G1 hn0 hn1 f1 => ?_⟩⟩
              have hle2 := f1 _ _ hle1
              have d19 := d18.trans f1
              refine ⟨_, rfl, _, rfl, _, _, rfl, rfl, a, ns, _, rfl, (e17.trans d19).seq hS, by omega, fun n4 => ?_⟩
              have bfar := p11b n4
              refine ⟨_, _, rfl, rfl, ⟨by decide, by decide, by decide⟩, _, _, rfl, rfl, p11p, _, _, rfl, rfl, ?_⟩
              refine ⟨_, rfl, .inl ⟨rfl, _, SqL.of hle2⟩, _, rfl, _, _, rfl, rfl, .inr ⟨_, rfl, _, rfl, _, _, rfl, rfl, ⟨by decide, by decide⟩, _, _, rfl, rfl, by show (0 : Int) < 400; decide, _, _, rfl, rfl, _, rfl, by show 4 ≤ sizeLine; decide, fun q4 hq4 => ?_⟩⟩
              obtain ⟨v, hv, ev⟩ := at_V (vs := [V.non, V.int (if decide (0 < 0 + (i : Int)) = true then 1 else 0), V.int (1 + n / 4 % 400), V.int (1 + n4 % 10 ^ (11 : Int).toNat)]) (i := n % 4) (by omega) (by show _ < (4 : Int); omega)
              obtain ⟨o, ho, hob2⟩ : ∃ o : Option Int, v = oV o ∧ ∀ x, o = some x → 0 ≤ x ∧ (1 ≤ i → 1 ≤ x) := by
                have hm : v ∈ [V.non, V.int (if decide (0 < 0 + (i : Int)) = true then 1 else 0), V.int (1 + n / 4 % 400), V.int (1 + n4 % 10 ^ (11 : Int).toNat)] := List.mem_of_getElem? hv
                simp only [List.mem_cons, List.not_mem_nil, or_false] at hm
                rcases hm with z | z | z | z
                · exact ⟨none, z, fun x e => by cases e⟩
                · refine ⟨some _, z, fun x e => ?_⟩
                  cases Option.some.inj e
                  split
                  · exact ⟨by decide, fun _ => by decide⟩
                  · rename_i hc
                    exact ⟨by decide, fun h1 => absurd (decide_eq_true (by omega)) hc⟩
                · refine ⟨some _, z, fun x e => ?_⟩
                  cases Option.some.inj e
                  exact ⟨by omega, fun _ => by omega⟩
                · refine ⟨some _, z, fun x e => ?_⟩
                  cases Option.some.inj e
                  exact ⟨by omega, fun _ => by omega⟩
              have f2 := (Same.refl G1).upd (o := .lst [V.non, V.int (if decide (0 < 0 + (i : Int)) = true then 1 else 0), V.int (1 + n / 4 % 400), V.int (1 + n4 % 10 ^ (11 : Int).toNat)]) hq4
              refine ⟨_, rfl, _, _, rfl, rfl, by show (0 : Int) < 4; decide, q4, _, _, _, rfl, rfl, SqL.of upd_same, ev, le, _, _, rfl, rfl, f2 _ _ hle2, by rw [List.length_map]; omega, ?_⟩
              refine ⟨os ++ [o], _, _, _, rfl, ?_, ?_, by simp [hol], ?_⟩
              · rw [upd_same, List.map_append, ho]
                rfl
              · intro b u hb
                rw [upd_ne (ne_of_none hb hle)]
                exact f2 _ _ (d19 _ _ hb)
              · intro j x hj
                rcases Nat.lt_or_ge j os.length with h | h
                · rw [List.getElem?_append_left h] at hj
                  exact hob j x hj
                · have hj' : j = os.length := by
                    have := (List.getElem?_eq_some_iff.mp hj).1
                    rw [List.length_append] at this
                    simp at this
                    omega
                  subst hj'
                  rw [List.getElem?_concat_length] at hj
                  have := hob2 x (Option.some.inj hj)
                  exact ⟨this.1, fun h1 => this.2 (by omega)⟩
            · rintro σ G20 ⟨os, v7, v8, v19, rfl, hle1, d20, hol, hob⟩
              obtain ⟨o0, o1, o2, rfl⟩ : ∃ o0 o1 o2, os = [o0, o1, o2] := by
                match os, hol with
                | [x, y, z], _ => exact ⟨x, y, z, rfl⟩
              refine ⟨_, rfl, a, ns, _, rfl, (e17.trans d20).seq hS, by decide, fun n3 => ⟨n3, _, rfl, by decide, by decide, fun n G21 hn0 hn1 d21 => ?_⟩⟩
              have d22 := d20.trans d21
              obtain ⟨c9, hc9, ec9⟩ := at_str (cs := cs) (i := 9) (by omega) (by omega)
              have hcm := hcs c9 (List.mem_of_getElem? hc9)
              refine ⟨_, rfl, le, _, rfl, SqL.of (d21 _ _ hle1), rfl, _, _, rfl, _, _, rfl, _, _, rfl, rfl, ?_⟩
              refine ⟨_, rfl, pn, _, _, _, rfl, rfl, SqL.of (d22 _ _ (gr.sm _ _ n10)), ec9, _, rfl, _, rfl, _, rfl, _, rfl, _, rfl, _, rfl, _, rfl, _, rfl, _, rfl, _, _, rfl, rfl, by show (0 : Int) < 400; decide, _, _, rfl, rfl, _, rfl, _, _, rfl, rfl, ⟨by decide, by decide⟩, _, _, rfl, rfl, by show (0 : Int) < 50; decide, by show 11 ≤ sizeLine; decide, fun p hp => ?_⟩
              have d23 := (d22).upd (o := .tup [V.str (S c9), V.ref sh, V.ref lk, V.ref ls, V.ref ld, oV o0, oV o1, oV o2, V.ref lr, V.int (1 + n % 400), V.int (n / 400 % 50)]) hp
              have d24 := gr.sm.trans d23
              have hll' : lst.length = (m / 9 % 9).toNat := hll
              have hrl' : rst.length = (m / 729 % 9).toNat := hrl
              refine q p _ ⟨S c9, top, bot, ks, ss, ts, o0, o1, o2, rs, 1 + n % 400, n / 400 % 50⟩ ⟨⟨by show (S c9).length ≤ 1000; rw [S_len]; omega, name_S hcm.1 hcm.2.1 hcm.2.2⟩, btop.1, bbot.1, ⟨by show ks.length ≤ 100; omega, ?_, fun k hk => (hkb k hk).1, ?_⟩, ⟨by show ss.length ≤ 100; omega, ?_, by show risB (ss.map (·.1)) = true; rw [hss']; exact hlr⟩, ⟨by show ts.length ≤ 100; omega, ?_⟩, fun x e => (hob 0 x (congrArg some e)).1, fun x e => (hob 1 x (congrArg some e)).2 (by decide), fun x e => (hob 2 x (congrArg some e)).2 (by decide), ⟨by show rs.length ≤ 100; omega, ?_, hrsb, by show risB (rs.map (·.1)) = true; rw [hrs']; exact hrr⟩, by show 1 ≤ 1 + n % 400; omega, by show 0 ≤ n / 400 % 50; omega⟩
                ⟨btop.2, bbot.2, ⟨by show ks.length ≤ 8; omega, fun k hk => (hkb k hk).2⟩, ⟨by show ss.length ≤ 8; omega, fun k hk => (hsb k hk).2⟩, ⟨by show ts.length ≤ 8; omega, fun k hk => (htb k hk).2.2.2⟩, by show rs.length ≤ 8; omega⟩
                ⟨sh, lk, ls, ld, lr, uk, us, ut, ur, upd_same, d24 _ _ hsh10, ⟨d24 _ _ hlk10, paired_same d24 pk10⟩, ⟨d24 _ _ hls10, paired_same d24 ps10⟩, ⟨d24 _ _ hldv, paired_same d24 pts⟩, ⟨d23 _ _ hlrv, paired_same d23 prs⟩⟩ (e10.trans d24)
              · intro k hk
                have hk1 : k.1 ∈ ks.map (·.1) := List.mem_map_of_mem hk
                rw [hks] at hk1
                obtain ⟨c, hc, ec⟩ := List.mem_map.mp hk1
                have hcc := hcs c (List.mem_of_mem_take hc)
                rw [← ec]
                exact ⟨by rw [S_len]; omega, name_S hcc.1 hcc.2.1 hcc.2.2⟩
              · show (ks.map (·.1)).Nodup
                rw [hks]
                have h1 := (List.take_sublist (m % 9).toNat cs).nodup hcn
                rw [List.Nodup, List.pairwise_map]
                exact h1.imp fun hne e => hne (S_inj e)
              · intro k hk
                refine ⟨?_, (hsb k hk).1⟩
                have hk1 : k.1 ∈ ss.map (·.1) := List.mem_map_of_mem hk
                rw [hss'] at hk1
                have := hlb _ hk1
                omega
              · intro k hk
                have := htb k hk
                omega
              · intro k hk
                have hk1 : k.1 ∈ rs.map (·.1) := List.mem_map_of_mem hk
                rw [hrs'] at hk1
                exact hrb _ hk1
end
end K05

set_option Elab.async false
set_option linter.all false
set_option maxRecDepth 100000
set_option maxHeartbeats 4000000
namespace K05
open PySem PySem.Spec PyProof.Rows L2
theorem fl_doubles (d : HD) (sh k s t r : Addr) : (flds d sh k s t r).lookup ("doubles" : Str) = some (V.ref t) := by
  unfold flds
  rw [lookup_putF, if_neg (by decide +kernel), lookup_putF, if_neg (by decide +kernel), lookup_putF, if_neg (by decide +kernel), lookup_putF, if_neg (by decide +kernel), lookup_putF, if_neg (by decide +kernel), lookup_putF, if_neg (by decide +kernel), lookup_putF, if_pos rfl]
theorem fl_steps (d : HD) (sh k s t r : Addr) : (flds d sh k s t r).lookup ("steps" : Str) = some (V.ref s) := by
  unfold flds
  rw [lookup_putF, if_neg (by decide +kernel), lookup_putF, if_neg (by decide +kernel), lookup_putF, if_neg (by decide +kernel), lookup_putF, if_neg (by decide +kernel), lookup_putF, if_neg (by decide +kernel), lookup_putF, if_neg (by decide +kernel), lookup_putF, if_neg (by decide +kernel), lookup_putF, if_pos rfl]
theorem fl_kinds (d : HD) (sh k s t r : Addr) : (flds d sh k s t r).lookup ("kinds" : Str) = some (V.ref k) := by
  unfold flds
  rw [lookup_putF, if_neg (by decide +kernel), lookup_putF, if_neg (by decide +kernel), lookup_putF, if_neg (by decide +kernel), lookup_putF, if_neg (by decide +kernel), lookup_putF, if_neg (by decide +kernel), lookup_putF, if_neg (by decide +kernel), lookup_putF, if_neg (by decide +kernel), lookup_putF, if_neg (by decide +kernel), lookup_putF, if_pos rfl]
theorem fl_share (d : HD) (sh k s t r : Addr) : (flds d sh k s t r).lookup ("share" : Str) = some (V.ref sh) := by
  unfold flds
  rw [lookup_putF, if_neg (by decide +kernel), lookup_putF, if_neg (by decide +kernel), lookup_putF, if_neg (by decide +kernel), lookup_putF, if_neg (by decide +kernel), lookup_putF, if_neg (by decide +kernel), lookup_putF, if_neg (by decide +kernel), lookup_putF, if_neg (by decide +kernel), lookup_putF, if_neg (by decide +kernel), lookup_putF, if_neg (by decide +kernel), lookup_putF, if_pos rfl]
section
variable {P : Program} {w : World} {K : PySem.W.Frag} {mg : Str → Option Value} {base : Heap}
abbrev psInit : List Str := ["self", "name", "share", "kinds", "steps", "doubles", "cap", "age", "rest", "ranks", "span", "grace"]
abbrev s_law_made : Stmt := top 30
abbrev N_law_made : List Str := ["_law_row", "_law_share", "_law_kinds", "_law_steps", "_law_doubles", "_law_cap", "_law_age", "_law_rest", "_law_ranks", "_law_span", "_law_grace", "_law_lists"]
theorem sc_law_made : FnScope N_law_made ["_law_row"] (defScope s_law_made) := ⟨rfl, rfl, rfl, by decide +kernel, rfl, by decide +kernel, by decide +kernel⟩
theorem v_law_made_0 : okVar N_law_made (defScope s_law_made) 0 "_law_row" = true := by decide +kernel
theorem w_law_made_4 : okSet N_law_made (defScope s_law_made) 4 "_law_doubles" = true := by decide +kernel
theorem w_law_made_3 : okSet N_law_made (defScope s_law_made) 3 "_law_steps" = true := by decide +kernel
theorem w_law_made_2 : okSet N_law_made (defScope s_law_made) 2 "_law_kinds" = true := by decide +kernel
theorem w_law_made_1 : okSet N_law_made (defScope s_law_made) 1 "_law_share" = true := by decide +kernel
theorem w_law_made_10 : okSet N_law_made (defScope s_law_made) 10 "_law_grace" = true := by decide +kernel
theorem w_law_made_9 : okSet N_law_made (defScope s_law_made) 9 "_law_span" = true := by decide +kernel
theorem w_law_made_8 : okSet N_law_made (defScope s_law_made) 8 "_law_ranks" = true := by decide +kernel
theorem w_law_made_7 : okSet N_law_made (defScope s_law_made) 7 "_law_rest" = true := by decide +kernel
theorem w_law_made_6 : okSet N_law_made (defScope s_law_made) 6 "_law_age" = true := by decide +kernel
theorem w_law_made_5 : okSet N_law_made (defScope s_law_made) 5 "_law_cap" = true := by decide +kernel
theorem w_law_made_11 : okSet N_law_made (defScope s_law_made) 11 "_law_lists" = true := by decide +kernel
theorem g_law_made_list : okGl (defScope s_law_made) "list" = true := by decide +kernel
theorem v_law_made_8 : okVar N_law_made (defScope s_law_made) 8 "_law_ranks" = true := by decide +kernel
theorem v_law_made_4 : okVar N_law_made (defScope s_law_made) 4 "_law_doubles" = true := by decide +kernel
theorem v_law_made_3 : okVar N_law_made (defScope s_law_made) 3 "_law_steps" = true := by decide +kernel
theorem v_law_made_2 : okVar N_law_made (defScope s_law_made) 2 "_law_kinds" = true := by decide +kernel
theorem g_law_made_House : okGl (defScope s_law_made) "House" = true := by decide +kernel
theorem v_law_made_10 : okVar N_law_made (defScope s_law_made) 10 "_law_grace" = true := by decide +kernel
theorem v_law_made_9 : okVar N_law_made (defScope s_law_made) 9 "_law_span" = true := by decide +kernel
theorem v_law_made_11 : okVar N_law_made (defScope s_law_made) 11 "_law_lists" = true := by decide +kernel
theorem v_law_made_7 : okVar N_law_made (defScope s_law_made) 7 "_law_rest" = true := by decide +kernel
theorem v_law_made_6 : okVar N_law_made (defScope s_law_made) 6 "_law_age" = true := by decide +kernel
theorem v_law_made_5 : okVar N_law_made (defScope s_law_made) 5 "_law_cap" = true := by decide +kernel
theorem v_law_made_1 : okVar N_law_made (defScope s_law_made) 1 "_law_share" = true := by decide +kernel
theorem ok_made {f C : Addr} {fd : FuncData} {tk : Tok} (F : Fun K "_law_made" "_law_made" s_law_made f fd) (T : Txt K mg tk) (M_House : Maker P w K mg base 5 "House" C psInit (spInit C)) : FnOk P w K mg base CX0 7 f fd ["_law_row"] (spMade C) := by
  refine F.okQ sc_law_made (fun vs H Q E h => ?_) (fun cdv A outer s H vs Q E hr h => ?_)
  · obtain ⟨_, _, rfl, _⟩ := h
    rfl
  · obtain ⟨p, d, rfl, ok, ra, q⟩ := h
    have nd := sc_law_made.nd
    obtain ⟨sh, k, st, t, r, uk, us, ut, ur, h1, h2, ⟨h3, h4⟩, ⟨h5, h6⟩, ⟨h7, h8⟩, ⟨h9, h10⟩⟩ := ra.ex
    refine ⟨_, (qss_cons (qs_asg (qe_slice sl_tup (qv 0 v_law_made_0) (qo_some qe_int) (qo_some qe_int)) (qg_tup rfl (qgs_cons (qg_name (i := 1) nd w_law_made_1) (qgs_cons (qg_name (i := 2) nd w_law_made_2) (qgs_cons (qg_name (i := 3) nd w_law_made_3) (qgs_cons (qg_name (i := 4) nd w_law_made_4) qgs_nil))))))
      (qss_cons (qs_asg (qe_slice sl_tup (qv 0 v_law_made_0) (qo_some qe_int) qo_none) (qg_tup rfl (qgs_cons (qg_name (i := 5) nd w_law_made_5) (qgs_cons (qg_name (i := 6) nd w_law_made_6) (qgs_cons (qg_name (i := 7) nd w_law_made_7) (qgs_cons (qg_name (i := 8) nd w_law_made_8) (qgs_cons (qg_name (i := 9) nd w_law_made_9) (qgs_cons (qg_name (i := 10) nd w_law_made_10) qgs_nil))))))))
      (qss_cons (qs_set (i := 11) nd w_law_made_11 (qe_lst (qa_cons (qe_callTy call_list_of g_law_made_list T.b_list bt_list (qa_cons (qv 2 v_law_made_2) qa_nil)) (qa_cons (qe_callTy call_list_of g_law_made_list T.b_list bt_list (qa_cons (qv 3 v_law_made_3) qa_nil)) (qa_cons (qe_callTy call_list_of g_law_made_list T.b_list bt_list (qa_cons (qv 4 v_law_made_4) qa_nil)) (qa_cons (qe_callTy call_list_of g_law_made_list T.b_list bt_list (qa_cons (qv 8 v_law_made_8) qa_nil)) qa_nil))))))
      (qss_one (qs_ret (qe_new M_House hr g_law_made_House (qa_cons (qe_ix ix_tup (qv 0 v_law_made_0) qe_int) (qa_cons (qv 1 v_law_made_1) (qa_cons (qe_ix ix_list (qv 11 v_law_made_11) qe_int) (qa_cons (qe_ix ix_list (qv 11 v_law_made_11) qe_int) (qa_cons (qe_ix ix_list (qv 11 v_law_made_11) qe_int) (qa_cons (qv 5 v_law_made_5) (qa_cons (qv 6 v_law_made_6) (qa_cons (qv 7 v_law_made_7) (qa_cons (qe_ix ix_list (qv 11 v_law_made_11) qe_int) (qa_cons (qv 9 v_law_made_9) (qa_cons (qv 10 v_law_made_10) qa_nil))))))))))))))))), ?_⟩
    refine ⟨_, rfl, _, rfl, _, rfl, p, _, rfl, SqT.of h1, by show ¬ (HT.sIx 11 0 (some 1) = 0 ∧ HT.sIx 11 11 (some 5) = 11); decide, fun p1 hp1 => ⟨p1, _, rfl, SqT.of upd_same, rfl, _, _, rfl, _, _, rfl, _, _, rfl, _, _, rfl, rfl, ?_⟩⟩
    have e1 : Same H (upd H p1 (.tup (cutV [.str d.name, .ref sh, .ref k, .ref st, .ref t, oV d.cap, oV d.age, oV d.rest, .ref r, .int d.span, .int d.grace] (some 1) (some 5)))) := (Same.refl H).upd hp1
    generalize upd H p1 (.tup (cutV [.str d.name, .ref sh, .ref k, .ref st, .ref t, oV d.cap, oV d.age, oV d.rest, .ref r, .int d.span, .int d.grace] (some 1) (some 5))) = H1 at e1 ⊢
    refine ⟨_, rfl, _, rfl, p, _, rfl, SqT.of (e1 _ _ h1), by show ¬ (HT.sIx 11 0 (some 5) = 0 ∧ HT.sIx 11 11 none = 11); decide, fun p2 hp2 => ⟨p2, _, rfl, SqT.of upd_same, rfl, _, _, rfl, _, _, rfl, _, _, rfl, _, _, rfl, _, _, rfl, _, _, rfl, rfl, ?_⟩⟩
    have e2 : Same H (upd H1 p2 (.tup (cutV [.str d.name, .ref sh, .ref k, .ref st, .ref t, oV d.cap, oV d.age, oV d.rest, .ref r, .int d.span, .int d.grace] (some 5) none))) := e1.upd hp2
    generalize upd H1 p2 (.tup (cutV [.str d.name, .ref sh, .ref k, .ref st, .ref t, oV d.cap, oV d.age, oV d.rest, .ref r, .int d.span, .int d.grace] (some 5) none)) = H2 at e2 ⊢
    refine ⟨_, rfl, k, uk, rfl, .inl (SqL.of (e2 _ _ h3)), fun l1 hl1 => ?_⟩
    have e3 := e2.upd (o := .lst uk) hl1
    have k3 : upd H2 l1 (.lst uk) l1 = some (.lst uk) := upd_same
    generalize upd H2 l1 (.lst uk) = H3 at e3 k3 ⊢
    refine ⟨_, rfl, st, us, rfl, .inl (SqL.of (e3 _ _ h5)), fun l2 hl2 => ?_⟩
    have e4 := e3.upd (o := .lst us) hl2
    have k4 := (Same.refl H3).upd (o := .lst us) hl2 _ _ k3
    have s4 : upd H3 l2 (.lst us) l2 = some (.lst us) := upd_same
    generalize upd H3 l2 (.lst us) = H4 at e4 k4 s4 ⊢
    refine ⟨_, rfl, t, ut, rfl, .inl (SqL.of (e4 _ _ h7)), fun l3 hl3 => ?_⟩
    have e5 := e4.upd (o := .lst ut) hl3
    have x5 := (Same.refl H4).upd (o := .lst ut) hl3
    have t5 : upd H4 l3 (.lst ut) l3 = some (.lst ut) := upd_same
    generalize upd H4 l3 (.lst ut) = H5 at e5 x5 t5 ⊢
    refine ⟨_, rfl, r, ur, rfl, .inl (SqL.of (e5 _ _ h9)), fun l4 hl4 => ?_⟩
    have e6 := e5.upd (o := .lst ur) hl4
    have x6 := (Same.refl H5).upd (o := .lst ur) hl4
    have r6 : upd H5 l4 (.lst ur) l4 = some (.lst ur) := upd_same
    generalize upd H5 l4 (.lst ur) = H6 at e6 x6 r6 ⊢
    refine ⟨by show 4 ≤ sizeLine; decide, fun q1 hq1 => ?_⟩
    have e7 := e6.upd (o := .lst [V.ref l1, V.ref l2, V.ref l3, V.ref l4]) hq1
    have x7 := (Same.refl H6).upd (o := .lst [V.ref l1, V.ref l2, V.ref l3, V.ref l4]) hq1
    have q7 : upd H6 q1 (.lst [V.ref l1, V.ref l2, V.ref l3, V.ref l4]) q1 = some (.lst [V.ref l1, V.ref l2, V.ref l3, V.ref l4]) := upd_same
    generalize upd H6 q1 (.lst [V.ref l1, V.ref l2, V.ref l3, V.ref l4]) = H7 at e7 x7 q7 ⊢
    refine ⟨_, rfl, p, _, _, _, rfl, rfl, SqT.of (e7 _ _ h1), rfl, _, rfl, _, rfl, q1, _, _, _, rfl, rfl, SqL.of q7, rfl, _, rfl, q1, _, _, _, rfl, rfl, SqL.of q7, rfl, _, rfl, q1, _, _, _, rfl, rfl, SqL.of q7, rfl, _, rfl, _, rfl, _, rfl, _, rfl, q1, _, _, _, rfl, rfl, SqL.of q7, rfl, _, rfl, _, rfl, fun x dx hx hdx hne => ?_⟩
    have x8 : Same H7 (upd (upd H7 dx (.own x)) x (.ins C dx [])) := ((Same.refl H7).upd hdx).upd (by rw [upd_ne (Ne.symm hne)]; exact hx)
    have x78 := x7.trans x8
    have x68 := x6.trans x78
    have x58 := x5.trans x68
    have e8 := e7.trans x8
    refine ⟨x, dx, sh, .ref l1, .ref l2, .ref l3, .ref l4, d, rfl, upd_same, ⟨e8 _ _ h2, ⟨l1, uk, rfl, .inl (x58 _ _ k4), paired_same e8 h4⟩, ⟨l2, us, rfl, .inl (x58 _ _ s4), paired_same e8 h6⟩, ⟨l3, ut, rfl, .inl (x68 _ _ t5), paired_same e8 h8⟩, ⟨l4, ur, rfl, .inl (x78 _ _ r6), paired_same e8 h10⟩, ok⟩, fun H' hH hB => ⟨rfl, q x H' hH fun b o hb => hB b o (e8 _ _ hb) (ne_of_none (e7 _ _ hb) hx)⟩⟩
end
end K05

set_option Elab.async false
set_option linter.all false
set_option maxRecDepth 100000
set_option maxHeartbeats 4000000
namespace K05
open PySem PySem.Spec PyProof.Rows L2
/-! the factor of a day -/
def hitB (day : Int) (t : Int × Int × Int) : Bool := decide (t.1 ≤ day) && decide (day ≤ t.2.1)
def facs (day : Int) (ts : List (Int × Int × Int)) : List Int := (ts.filter (hitB day)).map (·.2.2)
def dueL (day : Int) (ts : List (Int × Int × Int)) : Int := mxD 1 (facs day ts)
theorem facs_snoc (day : Int) (ts : List (Int × Int × Int)) (t : Int × Int × Int) : facs day (ts ++ [t]) = if hitB day t = true then facs day ts ++ [t.2.2] else facs day ts := by
  unfold facs
  rw [List.filter_append, List.map_append]
  cases h : hitB day t <;> simp [h]
theorem due_snoc {day : Int} {ts : List (Int × Int × Int)} {t : Int × Int × Int} (ht : 1 ≤ t.2.2) : dueL day (ts ++ [t]) = if hitB day t = true then (if t.2.2 > dueL day ts then t.2.2 else dueL day ts) else dueL day ts := by
  unfold dueL
  rw [facs_snoc]
  cases h : hitB day t with
  | false => simp
  | true =>
    simp only [if_true]
    by_cases hn : facs day ts = []
    · rw [hn]
      show t.2.2 = if t.2.2 > 1 then t.2.2 else 1
      split <;> omega
    · exact mxD_snoc hn
def spDF (C : Addr) : Sp := fun vs H Q _ => ∃ (x : Addr) (d : HD) (day : Int), vs = [.ref x, .int day] ∧ HouseAt C H x d ∧ d.doubles.length ≤ 100 ∧ ∀ H', Same H H' → Q (.int (dueL day d.doubles)) H'
section
variable {P : Program} {w : World} {K : PySem.W.Frag} {mg : Str → Option Value} {base : Heap}
abbrev s_day_factor : Stmt := top 1
abbrev N_day_factor : List Str := ["house", "day"]
theorem sc_day_factor : FnScope N_day_factor ["house", "day"] (defScope s_day_factor) := ⟨rfl, rfl, rfl, by decide +kernel, rfl, by decide +kernel, by decide +kernel⟩
theorem g_day_factor_max : okGl (defScope s_day_factor) "max" = true := by decide +kernel
abbrev c_day_factor_c0 : Scope := { kind := .function, names := [(Str.ofString ".0", NameKind.local), (Str.ofString "first", NameKind.local), (Str.ofString "last", NameKind.local), (Str.ofString "factor", NameKind.local), (Str.ofString "day", NameKind.free)], isGenerator := false, isCoroutine := false }
abbrev N_day_factor_c0 : List Str := ["first", "last", "factor", "house", "day"]
theorem cs_day_factor_c0 : csB' N_day_factor (defScope s_day_factor) ["first", "last", "factor"] N_day_factor_c0 c_day_factor_c0 = true := by decide +kernel
theorem nd_day_factor_c0 : List.Nodup N_day_factor_c0 := by decide +kernel
theorem v_day_factor_0 : okVar N_day_factor (defScope s_day_factor) 0 "house" = true := by decide +kernel
theorem v_day_factor_c0_0 : okVar N_day_factor_c0 (relabelS c_day_factor_c0 (defScope s_day_factor)) 0 "first" = true := by decide +kernel
theorem v_day_factor_c0_4 : okVar N_day_factor_c0 (relabelS c_day_factor_c0 (defScope s_day_factor)) 4 "day" = true := by decide +kernel
theorem v_day_factor_c0_1 : okVar N_day_factor_c0 (relabelS c_day_factor_c0 (defScope s_day_factor)) 1 "last" = true := by decide +kernel
theorem o_day_factor_c0_2 : okLoc N_day_factor_c0 (relabelS c_day_factor_c0 (defScope s_day_factor)) 2 "factor" = true := by decide +kernel
theorem o_day_factor_c0_1 : okLoc N_day_factor_c0 (relabelS c_day_factor_c0 (defScope s_day_factor)) 1 "last" = true := by decide +kernel
theorem o_day_factor_c0_0 : okLoc N_day_factor_c0 (relabelS c_day_factor_c0 (defScope s_day_factor)) 0 "first" = true := by decide +kernel
theorem v_day_factor_c0_2 : okVar N_day_factor_c0 (relabelS c_day_factor_c0 (defScope s_day_factor)) 2 "factor" = true := by decide +kernel
theorem ok_day_factor {f C : Addr} {fd : FuncData} {tk : Tok} (F : Fun K "day_factor" "day_factor" s_day_factor f fd) (T : Txt K mg tk) (Z : Hse K C) : FnOk P w K mg base CX0 1 f fd ["house", "day"] (spDF C) := by
  refine F.okQ sc_day_factor (fun vs H Q E h => ?_) (fun cdv A outer s H vs Q E hr h => ?_)
  · obtain ⟨_, _, _, rfl, _⟩ := h
    rfl
  · obtain ⟨x, d, day, rfl, hx, hl, q⟩ := h
    have nd := sc_day_factor.nd
    have sz : sizeLine = 16777216 := sizeLine_eq
    obtain ⟨dx, sh, k, st, t, r, uk, us, ut, ur, h1, h2, ⟨h3, h4⟩, ⟨h5, h6⟩, ⟨h7, h8⟩, ⟨h9, h10⟩⟩ := hx.ex
    have hul : ut.length = d.doubles.length := h8.length
    refine ⟨_, (qss_one (qs_ret (qe_maxD rfl g_day_factor_max T.b_max (qe_comp rfl (own := ["first", "last", "factor"]) (N' := N_day_factor_c0) cs_day_factor_c0 (qi_tup (qe_fld (qv 0 v_day_factor_0))) (fun _ _ _ _ => (qg_tupK (K := K) rfl (qgs_cons (qg_own (i := 0) nd_day_factor_c0 o_day_factor_c0_0) (qgs_cons (qg_own (i := 1) nd_day_factor_c0 o_day_factor_c0_1) (qgs_cons (qg_own (i := 2) nd_day_factor_c0 o_day_factor_c0_2) qgs_nil))))) (fun _ _ _ _ => (qts_one (qt_chain op_le op_le (qv 0 v_day_factor_c0_0) (qv 4 v_day_factor_c0_4) (qv 1 v_day_factor_c0_1)))) (fun _ _ _ _ => (qv 2 v_day_factor_c0_2))) qe_int))), ?_⟩
    refine ⟨_, rfl, x, C, dx, _, _, rfl, h1, Z.cl, Z.n5, fl_doubles d sh k st t r, t, rfl, ⟨_, SqT.of h7⟩, comp_tup (K := K) (a := t) (xs := ut) (fun i ys G => G = H ∧ ys = (facs day (d.doubles.take i)).map V.int) ⟨rfl, rfl⟩ (fun i ys G _ ⟨e, _⟩ => by rw [e]; exact SqT.of h7) (by omega) ?_ ?_⟩
    · rintro i u ys G hu hy ⟨rfl, rfl⟩
      obtain ⟨y, hy1, p, rfl, hp⟩ := paired_get h8 hu
      refine ⟨p, _, rfl, SqT.of hp, rfl, _, _, rfl, _, _, rfl, _, _, rfl, rfl, ?_⟩
      refine ⟨_, rfl, _, rfl, _, _, rfl, rfl, _, rfl, ?_⟩
      have ef := facs_snoc day (d.doubles.take i) y
      rw [← take_snoc hy1] at ef
      refine ite2 (fun h => ⟨_, rfl, _, _, rfl, rfl, _, rfl, ite2 (fun h' => ⟨_, rfl, rfl, ?_⟩) (fun h' => ⟨rfl, ?_⟩)⟩) (fun h => ⟨_, rfl, iteF ⟨rfl, ?_⟩⟩)
      · have hh : hitB day y = true := by unfold hitB; rw [Bool.and_eq_true]; exact ⟨h, h'⟩
        rw [ef, if_pos hh, List.map_append]
        rfl
      · have hh : ¬ hitB day y = true := by unfold hitB; rw [Bool.and_eq_true]; exact fun z => h' z.2
        rw [ef, if_neg hh]
      · have hh : ¬ hitB day y = true := by unfold hitB; rw [Bool.and_eq_true]; exact fun z => h z.1
        rw [ef, if_neg hh]
    · rintro ys G hyl ⟨rfl, rfl⟩ p hp
      refine ⟨p, _, _, rfl, rfl, SqL.of upd_same, ?_⟩
      rw [hul, List.take_of_length_le (Nat.le_refl _)]
      exact q _ ((Same.refl _).upd hp)
end
end K05

set_option Elab.async false
set_option linter.all false
set_option maxRecDepth 100000
set_option maxHeartbeats 4000000
namespace K05
open PySem PySem.Spec PyProof.Rows L2
section
variable {P : Program} {w : World} {K : PySem.W.Frag} {mg : Str → Option Value} {base : Heap}
abbrev s_law : Stmt := top 31
abbrev N_law : List Str := ["_law_script", "_law_row", "_law_house_here", "_law_days", "_law_cell", "_law_m", "_law_first", "_law_last", "_law_factor", "_law_day", "_law_due", "_law_found"]
theorem sc_law : FnScope N_law ["_law_script"] (defScope s_law) := ⟨rfl, rfl, rfl, by decide +kernel, rfl, by decide +kernel, by decide +kernel⟩
theorem w_law_1 : okSet N_law (defScope s_law) 1 "_law_row" = true := by decide +kernel
theorem g_law_law_house : okGl (defScope s_law) "_law_house" = true := by decide +kernel
theorem v_law_0 : okVar N_law (defScope s_law) 0 "_law_script" = true := by decide +kernel
theorem w_law_2 : okSet N_law (defScope s_law) 2 "_law_house_here" = true := by decide +kernel
theorem g_law_law_made : okGl (defScope s_law) "_law_made" = true := by decide +kernel
theorem v_law_1 : okVar N_law (defScope s_law) 1 "_law_row" = true := by decide +kernel
theorem w_law_3 : okSet N_law (defScope s_law) 3 "_law_days" = true := by decide +kernel
theorem w_law_4 : okSet N_law (defScope s_law) 4 "_law_cell" = true := by decide +kernel
theorem w_law_5 : okSet N_law (defScope s_law) 5 "_law_m" = true := by decide +kernel
theorem g_law_law_mix : okGl (defScope s_law) "_law_mix" = true := by decide +kernel
theorem v_law_4 : okVar N_law (defScope s_law) 4 "_law_cell" = true := by decide +kernel
theorem v_law_3 : okVar N_law (defScope s_law) 3 "_law_days" = true := by decide +kernel
theorem v_law_5 : okVar N_law (defScope s_law) 5 "_law_m" = true := by decide +kernel
theorem w_law_8 : okSet N_law (defScope s_law) 8 "_law_factor" = true := by decide +kernel
theorem w_law_7 : okSet N_law (defScope s_law) 7 "_law_last" = true := by decide +kernel
theorem w_law_6 : okSet N_law (defScope s_law) 6 "_law_first" = true := by decide +kernel
theorem v_law_7 : okVar N_law (defScope s_law) 7 "_law_last" = true := by decide +kernel
theorem g_law_max : okGl (defScope s_law) "max" = true := by decide +kernel
theorem v_law_6 : okVar N_law (defScope s_law) 6 "_law_first" = true := by decide +kernel
theorem w_law_9 : okSet N_law (defScope s_law) 9 "_law_day" = true := by decide +kernel
theorem w_law_10 : okSet N_law (defScope s_law) 10 "_law_due" = true := by decide +kernel
theorem v_law_9 : okVar N_law (defScope s_law) 9 "_law_day" = true := by decide +kernel
theorem v_law_8 : okVar N_law (defScope s_law) 8 "_law_factor" = true := by decide +kernel
theorem v_law_10 : okVar N_law (defScope s_law) 10 "_law_due" = true := by decide +kernel
theorem w_law_11 : okSet N_law (defScope s_law) 11 "_law_found" = true := by decide +kernel
theorem g_law_day_factor : okGl (defScope s_law) "day_factor" = true := by decide +kernel
theorem v_law_2 : okVar N_law (defScope s_law) 2 "_law_house_here" = true := by decide +kernel
theorem v_law_11 : okVar N_law (defScope s_law) 11 "_law_found" = true := by decide +kernel
theorem g_law_isinstance : okGl (defScope s_law) "isinstance" = true := by decide +kernel
theorem g_law_bool : okGl (defScope s_law) "bool" = true := by decide +kernel
theorem g_law_int : okGl (defScope s_law) "int" = true := by decide +kernel
theorem ok_law {f C : Addr} {fd : FuncData} {tk : Tok} (F : Fun K "law" "law" s_law f fd) (T : Txt K mg tk) (C_law_house : Callee P w K mg base 3 "_law_house" ["_law_script"] (spHouse K)) (C_law_made : Callee P w K mg base 7 "_law_made" ["_law_row"] (spMade C)) (C_law_mix : Callee P w K mg base 1 "_law_mix" ["_law_cell", "_law_k"] spMix) (C_day_factor : Callee P w K mg base 1 "day_factor" ["house", "day"] (spDF C)) : FnOk P w K mg base CX0 8 f fd ["_law_script"] (spLaw K) := by
  refine F.okQ sc_law (fun vs H Q E h => ?_) (fun cdv A outer s H vs Q E hr h => ?_)
  · obtain ⟨_, _, rfl, _⟩ := h
    rfl
  · obtain ⟨a, ns, rfl, hS, hlen, q⟩ := h
    have nd := sc_law.nd
    have sz : sizeLine = 16777216 := sizeLine_eq
    refine ⟨_, (qss_cons (qs_set (i := 1) nd w_law_1 (qe_fn C_law_house hr g_law_law_house (qa_cons (qv 0 v_law_0) qa_nil)))
      (qss_cons (qs_set (i := 2) nd w_law_2 (qe_fn C_law_made hr g_law_law_made (qa_cons (qv 1 v_law_1) qa_nil)))
      (qss_cons (qs_set (i := 3) nd w_law_3 (qe_lst (qa_cons qe_int qa_nil)))
      (qss_cons (qs_for PassesOwn.never rfl (qi_list (qe_slice sl_list (qv 0 v_law_0) (qo_some qe_int) qo_none)) (qg_name (i := 4) nd w_law_4)
      (qss_cons (qs_set (i := 5) nd w_law_5 (qe_fn C_law_mix hr g_law_law_mix (qa_cons (qv 4 v_law_4) (qa_cons qe_int qa_nil))))
        (qss_one (qs_expr (qe_bm PySem.F.plainAttrs_list PySem.F.slot_list_append PySem.F.type_list_append mt_append (qv 3 v_law_3) (qa_cons (qe_ix ix_list (qe_lst (qa_cons (qe_op op_mod (qv 5 v_law_5) qe_int) (qa_cons (qe_op op_mod (qv 4 v_law_4) (qe_op op_pow qe_int qe_int)) qa_nil))) (qe_op op_mod (qe_op op_fdiv (qv 5 v_law_5) qe_int) qe_int)) qa_nil))))))
      (qss_cons (qs_for PassesOwn.never rfl (qi_list (qe_ix ix_tup (qv 1 v_law_1) qe_int)) (qg_tup rfl (qgs_cons (qg_name (i := 6) nd w_law_6) (qgs_cons (qg_name (i := 7) nd w_law_7) (qgs_cons (qg_name (i := 8) nd w_law_8) qgs_nil))))
      (qss_one (qs_set (i := 3) nd w_law_3 (qe_op op_catS (qv 3 v_law_3) (qe_lst (qa_cons (qv 6 v_law_6) (qa_cons (qv 7 v_law_7) (qa_cons (qe_callB (call_max2 rfl) g_law_max T.b_max bt_max (qa_cons qe_int (qa_cons (qe_op op_sub (qv 6 v_law_6) qe_int) qa_nil))) (qa_cons (qe_op op_add (qv 7 v_law_7) qe_int) qa_nil)))))))))
      (qss_cons (qs_for PassesOwn.never rfl (qi_list (qv 3 v_law_3)) (qg_name (i := 9) nd w_law_9)
      (qss_cons (qs_set (i := 10) nd w_law_10 qe_int)
        (qss_cons (qs_for PassesOwn.never rfl (qi_list (qe_ix ix_tup (qv 1 v_law_1) qe_int)) (qg_tup rfl (qgs_cons (qg_name (i := 6) nd w_law_6) (qgs_cons (qg_name (i := 7) nd w_law_7) (qgs_cons (qg_name (i := 8) nd w_law_8) qgs_nil))))
        (qss_one (qs_if (qt_w (qw_and (qt_cmp op_le (qv 6 v_law_6) (qv 9 v_law_9)) (qw_and1 (qt_cmp op_le (qv 9 v_law_9) (qv 7 v_law_7)))))
          (qss_one (qs_set (i := 10) nd w_law_10 (qe_callB (call_max2 rfl) g_law_max T.b_max bt_max (qa_cons (qv 10 v_law_10) (qa_cons (qv 8 v_law_8) qa_nil)))))
          qss_nil)))
        (qss_cons (qs_set (i := 11) nd w_law_11 (qe_fn C_day_factor hr g_law_day_factor (qa_cons (qv 2 v_law_2) (qa_cons (qv 9 v_law_9) qa_nil))))
        (qss_one (qs_if (qt_w (qw_or (qt_not (qt_val (qe_callB call_isinst g_law_isinstance T.b_isinstance bt_isinstance (qa_cons (qv 11 v_law_11) (qa_cons (qe_bltn (v := .ty "int") g_law_int T.b_int bt_int rfl) qa_nil))))) (qw_or (qt_val (qe_callB call_isinst g_law_isinstance T.b_isinstance bt_isinstance (qa_cons (qv 11 v_law_11) (qa_cons (qe_bltn (v := .ty "bool") g_law_bool T.b_bool bt_bool rfl) qa_nil)))) (qw_or1 (qt_cmp op_ne (qv 11 v_law_11) (qv 10 v_law_10))))))
        (qss_one (qs_ret qe_bl))
        qss_nil))))))
      (qss_one (qs_ret qe_bl)))))))), ?_⟩
    refine ⟨_, rfl, a, ns, rfl, hS, fun p H1 d ok bd ra e1 => ?_⟩
    refine ⟨_, rfl, p, d, rfl, ok, ra, fun x H2 hx e2 => ?_⟩
    have ra2 := ra.same e2
    obtain ⟨sh, k, st, t, r, uk, us, ut, ur, r1, _, _, _, ⟨r7, r8⟩, _⟩ := ra2.ex
    have hul : ut.length = d.doubles.length := r8.length
    have hdl := bd.doubles.1
    refine ⟨by decide, fun l hl => ?_⟩
    have e3 : Same H2 (upd H2 l (.lst [V.int 0])) := (Same.refl H2).upd hl
    have l3 : upd H2 l (.lst [V.int 0]) l = some (.lst ([0].map V.int)) := upd_same
    generalize upd H2 l (.lst [V.int 0]) = H3 at e3 l3 ⊢
    have hcl := cutV_length (ns.map V.int) (some 27) none
    rw [List.length_map] at hcl
    refine ⟨_, rfl, _, rfl, a, _, rfl, ((e1.trans e2).trans e3).seq hS, fun pc hpc => ⟨pc, rfl, ⟨_, SqL.of upd_same⟩, for_list (K := K) (a := pc) (xs := cutV (ns.map V.int) (some 27) none) (fun i σ G => ∃ (ds : List Int) (v4 v5 : Option V), σ = [some (.ref a), some (.ref p), some (.ref x), some (.ref l), v4, v5, none, none, none, none, none, none] ∧ G l = some (.lst (ds.map V.int)) ∧ G pc = some (.lst (cutV (ns.map V.int) (some 27) none)) ∧ ds.length = i + 1 ∧ Same H2 G)
      ⟨[0], none, none, rfl, (Same.refl H3).upd hpc _ _ l3, upd_same, rfl, e3.upd hpc⟩ (fun i σ G _ ⟨_, _, _, _, _, h, _⟩ => SqL.of h) ?_ ?_⟩⟩
    · rintro i y σ G hy ⟨ds, v4, v5, rfl, hl1, hpc1, hdl1, e4⟩
      have hi : i < (cutV (ns.map V.int) (some 27) none).length := (List.getElem?_eq_some_iff.mp hy).1
      obtain ⟨c, rfl⟩ : ∃ c, y = V.int c := by
        have h1 : y ∈ cutV (ns.map V.int) (some 27) none := List.mem_of_getElem? hy
        have h2 := List.mem_of_mem_drop (List.mem_of_mem_take h1)
        obtain ⟨c, _, e⟩ := List.mem_map.mp h2
        exact ⟨c, e.symm⟩
      refine ⟨_, rfl, c, _, rfl, by decide, by decide, fun m G1 hm0 hm1 f1 => ?_⟩
      refine ⟨_, rfl, .inl ⟨rfl, _, SqL.of (f1 _ _ hl1)⟩, _, rfl, _, _, rfl, rfl, by show (0 : Int) < 90; decide, _, rfl, _, _, rfl, rfl, ⟨by decide, by decide, by decide⟩, _, _, rfl, rfl, p12p, by show 2 ≤ sizeLine; decide, fun q1 hq1 => ?_⟩
      obtain ⟨dd, _, edd⟩ := at_ints (ns := [m % 90, c % 10 ^ (12 : Int).toNat]) (i := m / 90 % 2) (by omega) (by show _ < (2 : Int); omega)
      have f2 := f1.upd (o := .lst [V.int (m % 90), V.int (c % 10 ^ (12 : Int).toNat)]) hq1
      refine ⟨_, rfl, _, _, rfl, rfl, ⟨by decide, by decide⟩, _, _, rfl, rfl, by show (0 : Int) < 2; decide, q1, _, _, _, rfl, rfl, SqL.of upd_same, edd, l, _, _, rfl, rfl, f2 _ _ hl1, by rw [List.length_map]; omega, ?_⟩
      have hne : pc ≠ l := fun e => by rw [e] at hpc; rw [l3] at hpc; cases hpc
      refine ⟨ds ++ [dd], _, _, rfl, by rw [upd_same, List.map_append]; rfl, by rw [upd_ne hne]; exact f2 _ _ hpc1, by simp [hdl1], fun b o hb => ?_⟩
      rw [upd_ne (ne_of_none hb hl)]
      exact f2 _ _ (e4 _ _ hb)
    · rintro σ G ⟨ds, v4, v5, rfl, hl1, _, hdl1, e4⟩
      have hds : ds.length ≤ 64 := by omega
      refine ⟨_, rfl, p, _, _, _, rfl, rfl, SqT.of (e4 _ _ r1), rfl, t, rfl, ⟨_, SqL.of (e4 _ _ r7)⟩, for_list (K := K) (a := t) (xs := ut) (fun i σ G2 => ∃ (l2 : Addr) (ds : List Int) (v6 v7 v8 : Option V), σ = [some (.ref a), some (.ref p), some (.ref x), some (.ref l2), v4, v5, v6, v7, v8, none, none, none] ∧ G2 l2 = some (.lst (ds.map V.int)) ∧ ds.length ≤ 64 + 4 * i ∧ Same H2 G2)
        ⟨l, ds, none, none, none, rfl, hl1, hds, e4⟩ (fun i σ G2 _ ⟨_, _, _, _, _, _, _, _, e⟩ => SqL.of (e _ _ r7)) ?_ ?_⟩
      · rintro i u σ G2 hu ⟨l2, ds2, v6, v7, v8, rfl, hl2, hdl2, e5⟩
        have hi : i < ut.length := (List.getElem?_eq_some_iff.mp hu).1
        obtain ⟨y, hy1, pp, rfl, hp⟩ := paired_get r8 hu
        refine ⟨pp, _, rfl, SqT.of (e5 _ _ hp), rfl, _, _, rfl, _, _, rfl, _, _, rfl, rfl, ?_⟩
        refine ⟨_, rfl, _, rfl, _, rfl, _, rfl, _, _, rfl, rfl, _, _, rfl, _, rfl, _, _, rfl, rfl, by show 4 ≤ sizeLine; decide, fun q1 hq1 => ?_⟩
        have f1 := (Same.refl G2).upd (o := .lst [V.int y.1, V.int y.2.1, V.int (if y.1 - 1 > 0 then y.1 - 1 else 0), V.int (y.2.1 + 1)]) hq1
        refine ⟨l2, q1, _, _, rfl, rfl, SqL.of (f1 _ _ hl2), SqL.of upd_same, by rw [List.length_map]; show ds2.length + 4 ≤ sizeLine; omega, fun p3 hp3 => ?_⟩
        refine ⟨p3, ds2 ++ [y.1, y.2.1, if y.1 - 1 > 0 then y.1 - 1 else 0, y.2.1 + 1], _, _, _, rfl, ?_, by rw [List.length_append]; show ds2.length + 4 ≤ 64 + 4 * (i + 1); omega, (e5.trans f1).upd hp3⟩
        rw [upd_same, List.map_append]
        rfl
      · rintro σ G2 ⟨l2, ds2, v6, v7, v8, rfl, hl2, hdl2, e5⟩
        refine ⟨_, rfl, l2, rfl, ⟨_, SqL.of hl2⟩, for_list (K := K) (a := l2) (xs := ds2.map V.int) (fun i σ G3 => ∃ (v6 v7 v8 v9 v10 v11 : Option V), σ = [some (.ref a), some (.ref p), some (.ref x), some (.ref l2), v4, v5, v6, v7, v8, v9, v10, v11] ∧ Same G2 G3)
          ⟨_, _, _, _, _, _, rfl, Same.refl G2⟩ (fun i σ G3 _ ⟨_, _, _, _, _, _, _, e⟩ => SqL.of (e _ _ hl2)) ?_ ?_⟩
        · rintro i u σ G3 hu ⟨w6, w7, w8, w9, w10, w11, rfl, e6⟩
          obtain ⟨day, rfl⟩ : ∃ c, u = V.int c := by
            obtain ⟨c, _, e⟩ := List.mem_map.mp (List.mem_of_getElem? hu)
            exact ⟨c, e.symm⟩
          have e7 := e5.trans e6
          refine ⟨_, rfl, p, _, _, _, rfl, rfl, SqT.of (e7 _ _ r1), rfl, t, rfl, ⟨_, SqL.of (e7 _ _ r7)⟩, for_list (K := K) (a := t) (xs := ut) (fun i σ G4 => ∃ (v6 v7 v8 : Option V), σ = [some (.ref a), some (.ref p), some (.ref x), some (.ref l2), v4, v5, v6, v7, v8, some (.int day), some (.int (dueL day (d.doubles.take i))), w11] ∧ G4 = G3)
            ⟨_, _, _, rfl, rfl⟩ (fun i σ G4 _ ⟨_, _, _, _, e⟩ => by rw [e]; exact SqL.of (e7 _ _ r7)) ?_ ?_⟩
          · rintro j u σ G4 hu2 ⟨x6, x7, x8, rfl, rfl⟩
            obtain ⟨y, hy1, pp, rfl, hp⟩ := paired_get r8 hu2
            have hy2 := (ok.doubles.ok y (List.mem_of_getElem? hy1)).2.2.2
            have es := due_snoc (day := day) (ts := d.doubles.take j) hy2
            rw [← take_snoc hy1] at es
            refine ⟨pp, _, rfl, SqT.of (e7 _ _ hp), rfl, _, _, rfl, _, _, rfl, _, _, rfl, rfl, ?_⟩
            refine ⟨_, rfl, _, rfl, _, _, rfl, rfl, _, rfl, ite2 (fun h => ⟨_, rfl, _, rfl, _, _, rfl, rfl, _, rfl, ite2 (fun h' => ?_) (fun h' => ?_)⟩) (fun h => iteF ?_)⟩
            · refine ⟨_, rfl, _, rfl, _, _, rfl, some (.int y.1), some (.int y.2.1), some (.int y.2.2), ?_, rfl⟩
              have hh : hitB day y = true := by unfold hitB; rw [Bool.and_eq_true]; exact ⟨h, h'⟩
              rw [es, if_pos hh]
              rfl
            · refine ⟨some (.int y.1), some (.int y.2.1), some (.int y.2.2), ?_, rfl⟩
              have hh : ¬ hitB day y = true := by unfold hitB; rw [Bool.and_eq_true]; exact fun z => h' z.2
              rw [es, if_neg hh]
              rfl
            · refine ⟨some (.int y.1), some (.int y.2.1), some (.int y.2.2), ?_, rfl⟩
              have hh : ¬ hitB day y = true := by unfold hitB; rw [Bool.and_eq_true]; exact fun z => h z.1
              rw [es, if_neg hh]
              rfl
          · rintro σ G4 ⟨x6, x7, x8, rfl, rfl⟩
            refine ⟨_, rfl, _, rfl, x, d, day, rfl, hx.same e7, by omega, fun G5 e8 => ?_⟩
            refine ⟨_, rfl, _, _, _, _, rfl, .int _, rfl, _, rfl, ?_⟩
            refine iteF ?_
            refine ⟨_, rfl, _, _, _, _, rfl, .int _, rfl, _, rfl, ?_⟩
            refine iteF ?_
            refine ⟨_, rfl, _, rfl, rfl, _, rfl, ?_⟩
            refine iteNS (by rw [hul, List.take_of_length_le (Nat.le_refl _)]) ?_
            exact ⟨_, _, _, _, _, _, rfl, e6.trans e8⟩
        · rintro σ G3 _
          exact q G3
end
end K05

set_option Elab.async false
set_option linter.all false
set_option maxRecDepth 100000
set_option maxHeartbeats 4000000
namespace K05
open PySem PySem.Spec PyProof.Rows L2
theorem all_mk {l : PySem.W.OpenLaw} {w : World} {K : PySem.W.Frag} {h : Heap} {mg : Str → Option Value}
    {fa C : Addr} {tk : Tok}
    {f1 : Addr} {od1 an1 : Option Addr} {sl1 : Array (Option Value)} {oc1 kV1 dc1 pm1 cd1 ct1 : Value}
    {f2 : Addr} {od2 an2 : Option Addr} {sl2 : Array (Option Value)} {oc2 kV2 dc2 pm2 cd2 ct2 : Value}
    {f3 : Addr} {od3 an3 : Option Addr} {sl3 : Array (Option Value)} {oc3 kV3 dc3 pm3 cd3 ct3 : Value}
    {f4 : Addr} {od4 an4 : Option Addr} {sl4 : Array (Option Value)} {oc4 kV4 dc4 pm4 cd4 ct4 : Value}
    {f5 : Addr} {od5 an5 : Option Addr} {sl5 : Array (Option Value)} {oc5 kV5 dc5 pm5 cd5 ct5 : Value}
    {f6 : Addr} {od6 an6 : Option Addr} {sl6 : Array (Option Value)} {oc6 kV6 dc6 pm6 cd6 ct6 : Value}
    {f7 : Addr} {od7 an7 : Option Addr} {sl7 : Array (Option Value)} {oc7 kV7 dc7 pm7 cd7 ct7 : Value}
    {f8 : Addr} {od8 an8 : Option Addr} {sl8 : Array (Option Value)} {oc8 kV8 dc8 pm8 cd8 ct8 : Value}
    {f9 : Addr} {od9 an9 : Option Addr} {sl9 : Array (Option Value)} {oc9 kV9 dc9 pm9 cd9 ct9 : Value}
    {f10 : Addr} {od10 an10 : Option Addr} {sl10 : Array (Option Value)} {oc10 kV10 dc10 pm10 cd10 ct10 : Value}
    {f11 : Addr} {od11 an11 : Option Addr} {sl11 : Array (Option Value)} {oc11 kV11 dc11 pm11 cd11 ct11 : Value}
    {f12 : Addr} {od12 an12 : Option Addr} {sl12 : Array (Option Value)} {oc12 kV12 dc12 pm12 cd12 ct12 : Value}
    {f13 : Addr} {od13 an13 : Option Addr} {sl13 : Array (Option Value)} {oc13 kV13 dc13 pm13 cd13 ct13 : Value}
    {f14 : Addr} {od14 an14 : Option Addr} {sl14 : Array (Option Value)} {oc14 kV14 dc14 pm14 cd14 ct14 : Value}
    {f15 : Addr} {od15 an15 : Option Addr} {sl15 : Array (Option Value)} {oc15 kV15 dc15 pm15 cd15 ct15 : Value}
    {f16 : Addr} {od16 an16 : Option Addr} {sl16 : Array (Option Value)} {oc16 kV16 dc16 pm16 cd16 ct16 : Value}
    {f17 : Addr} {od17 an17 : Option Addr} {sl17 : Array (Option Value)} {oc17 kV17 dc17 pm17 cd17 ct17 : Value}
    {f18 : Addr} {od18 an18 : Option Addr} {sl18 : Array (Option Value)} {oc18 kV18 dc18 pm18 cd18 ct18 : Value}
    {f19 : Addr} {od19 an19 : Option Addr} {sl19 : Array (Option Value)} {oc19 kV19 dc19 pm19 cd19 ct19 : Value}
    {f20 : Addr} {od20 an20 : Option Addr} {sl20 : Array (Option Value)} {oc20 kV20 dc20 pm20 cd20 ct20 : Value}
    {f21 : Addr} {od21 an21 : Option Addr} {sl21 : Array (Option Value)} {oc21 kV21 dc21 pm21 cd21 ct21 : Value}
    {f22 : Addr} {od22 an22 : Option Addr} {sl22 : Array (Option Value)} {oc22 kV22 dc22 pm22 cd22 ct22 : Value}
    {f23 : Addr} {od23 an23 : Option Addr} {sl23 : Array (Option Value)} {oc23 kV23 dc23 pm23 cd23 ct23 : Value}
    {f24 : Addr} {od24 an24 : Option Addr} {sl24 : Array (Option Value)} {oc24 kV24 dc24 pm24 cd24 ct24 : Value}
    (X : K.In h) (G : h.Ns mainGlobals mg) (hfa : mg "law" = some (.ref fa)) (aC : PySem.W.nsIn K mainGlobals "House" = some (some (.ref C)))
    (a1 : PySem.W.nsIn K mainGlobals "is_number" = some (some (.ref f1)))
    (l1 : K.lookup f1 = some ⟨oc1, od1, .func (PySem.W.fnOf "is_number" "is_number" (defArgs s_is_number) (defBody s_is_number) (defScope s_is_number) .none kV1 dc1 pm1 an1 cd1 ct1), sl1⟩) (c1 : PySem.W.codeIn K cd1 "is_number" = true) (k1 : PySem.W.keepIn K (.ref f1) = true)
    (a2 : PySem.W.nsIn K mainGlobals "is_list" = some (some (.ref f2)))
    (l2 : K.lookup f2 = some ⟨oc2, od2, .func (PySem.W.fnOf "is_list" "is_list" (defArgs s_is_list) (defBody s_is_list) (defScope s_is_list) .none kV2 dc2 pm2 an2 cd2 ct2), sl2⟩) (c2 : PySem.W.codeIn K cd2 "is_list" = true) (k2 : PySem.W.keepIn K (.ref f2) = true)
    (a3 : PySem.W.nsIn K mainGlobals "is_tuple_of" = some (some (.ref f3)))
    (l3 : K.lookup f3 = some ⟨oc3, od3, .func (PySem.W.fnOf "is_tuple_of" "is_tuple_of" (defArgs s_is_tuple_of) (defBody s_is_tuple_of) (defScope s_is_tuple_of) .none kV3 dc3 pm3 an3 cd3 ct3), sl3⟩) (c3 : PySem.W.codeIn K cd3 "is_tuple_of" = true) (k3 : PySem.W.keepIn K (.ref f3) = true)
    (a4 : PySem.W.nsIn K mainGlobals "are_rising" = some (some (.ref f4)))
    (l4 : K.lookup f4 = some ⟨oc4, od4, .func (PySem.W.fnOf "are_rising" "are_rising" (defArgs s_are_rising) (defBody s_are_rising) (defScope s_are_rising) .none kV4 dc4 pm4 an4 cd4 ct4), sl4⟩) (c4 : PySem.W.codeIn K cd4 "are_rising" = true) (k4 : PySem.W.keepIn K (.ref f4) = true)
    (a5 : PySem.W.nsIn K mainGlobals "are_unlike" = some (some (.ref f5)))
    (l5 : K.lookup f5 = some ⟨oc5, od5, .func (PySem.W.fnOf "are_unlike" "are_unlike" (defArgs s_are_unlike) (defBody s_are_unlike) (defScope s_are_unlike) .none kV5 dc5 pm5 an5 cd5 ct5), sl5⟩) (c5 : PySem.W.codeIn K cd5 "are_unlike" = true) (k5 : PySem.W.keepIn K (.ref f5) = true)
    (a6 : PySem.W.nsIn K mainGlobals "is_name" = some (some (.ref f6)))
    (l6 : K.lookup f6 = some ⟨oc6, od6, .func (PySem.W.fnOf "is_name" "is_name" (defArgs s_is_name) (defBody s_is_name) (defScope s_is_name) .none kV6 dc6 pm6 an6 cd6 ct6), sl6⟩) (c6 : PySem.W.codeIn K cd6 "is_name" = true) (k6 : PySem.W.keepIn K (.ref f6) = true)
    (a7 : PySem.W.nsIn K mainGlobals "demand" = some (some (.ref f7)))
    (l7 : K.lookup f7 = some ⟨oc7, od7, .func (PySem.W.fnOf "demand" "demand" (defArgs s_demand) (defBody s_demand) (defScope s_demand) .none kV7 dc7 pm7 an7 cd7 ct7), sl7⟩) (c7 : PySem.W.codeIn K cd7 "demand" = true) (k7 : PySem.W.keepIn K (.ref f7) = true)
    (a8 : PySem.W.nsIn K mainGlobals "is_number_or_none" = some (some (.ref f8)))
    (l8 : K.lookup f8 = some ⟨oc8, od8, .func (PySem.W.fnOf "is_number_or_none" "is_number_or_none" (defArgs s_is_number_or_none) (defBody s_is_number_or_none) (defScope s_is_number_or_none) .none kV8 dc8 pm8 an8 cd8 ct8), sl8⟩) (c8 : PySem.W.codeIn K cd8 "is_number_or_none" = true) (k8 : PySem.W.keepIn K (.ref f8) = true)
    (a9 : PySem.W.nsIn K mainGlobals "check_list" = some (some (.ref f9)))
    (l9 : K.lookup f9 = some ⟨oc9, od9, .func (PySem.W.fnOf "check_list" "check_list" (defArgs s_check_list) (defBody s_check_list) (defScope s_check_list) .none kV9 dc9 pm9 an9 cd9 ct9), sl9⟩) (c9 : PySem.W.codeIn K cd9 "check_list" = true) (k9 : PySem.W.keepIn K (.ref f9) = true)
    (a10 : PySem.W.nsIn K mainGlobals "check_share" = some (some (.ref f10)))
    (l10 : K.lookup f10 = some ⟨oc10, od10, .func (PySem.W.fnOf "check_share" "check_share" (defArgs s_check_share) (defBody s_check_share) (defScope s_check_share) .none kV10 dc10 pm10 an10 cd10 ct10), sl10⟩) (c10 : PySem.W.codeIn K cd10 "check_share" = true) (k10 : PySem.W.keepIn K (.ref f10) = true)
    (a11 : PySem.W.nsIn K mainGlobals "check_kinds" = some (some (.ref f11)))
    (l11 : K.lookup f11 = some ⟨oc11, od11, .func (PySem.W.fnOf "check_kinds" "check_kinds" (defArgs s_check_kinds) (defBody s_check_kinds) (defScope s_check_kinds) .none kV11 dc11 pm11 an11 cd11 ct11), sl11⟩) (c11 : PySem.W.codeIn K cd11 "check_kinds" = true) (k11 : PySem.W.keepIn K (.ref f11) = true)
    (a12 : PySem.W.nsIn K mainGlobals "check_leasts" = some (some (.ref f12)))
    (l12 : K.lookup f12 = some ⟨oc12, od12, .func (PySem.W.fnOf "check_leasts" "check_leasts" (defArgs s_check_leasts) (defBody s_check_leasts) (defScope s_check_leasts) .none kV12 dc12 pm12 an12 cd12 ct12), sl12⟩) (c12 : PySem.W.codeIn K cd12 "check_leasts" = true) (k12 : PySem.W.keepIn K (.ref f12) = true)
    (a13 : PySem.W.nsIn K mainGlobals "check_steps" = some (some (.ref f13)))
    (l13 : K.lookup f13 = some ⟨oc13, od13, .func (PySem.W.fnOf "check_steps" "check_steps" (defArgs s_check_steps) (defBody s_check_steps) (defScope s_check_steps) .none kV13 dc13 pm13 an13 cd13 ct13), sl13⟩) (c13 : PySem.W.codeIn K cd13 "check_steps" = true) (k13 : PySem.W.keepIn K (.ref f13) = true)
    (a14 : PySem.W.nsIn K mainGlobals "check_doubles" = some (some (.ref f14)))
    (l14 : K.lookup f14 = some ⟨oc14, od14, .func (PySem.W.fnOf "check_doubles" "check_doubles" (defArgs s_check_doubles) (defBody s_check_doubles) (defScope s_check_doubles) .none kV14 dc14 pm14 an14 cd14 ct14), sl14⟩) (c14 : PySem.W.codeIn K cd14 "check_doubles" = true) (k14 : PySem.W.keepIn K (.ref f14) = true)
    (a15 : PySem.W.nsIn K mainGlobals "check_ranks" = some (some (.ref f15)))
    (l15 : K.lookup f15 = some ⟨oc15, od15, .func (PySem.W.fnOf "check_ranks" "check_ranks" (defArgs s_check_ranks) (defBody s_check_ranks) (defScope s_check_ranks) .none kV15 dc15 pm15 an15 cd15 ct15), sl15⟩) (c15 : PySem.W.codeIn K cd15 "check_ranks" = true) (k15 : PySem.W.keepIn K (.ref f15) = true)
    (a16 : PySem.W.findIn K (.ref C) "__init__" = some (some (.ref f16))) (i16 : PySem.W.isFn K (.ref f16) = true)
    (l16 : K.lookup f16 = some ⟨oc16, od16, .func (PySem.W.fnOf "__init__" "House.__init__" (defArgs s_House___init) (defBody s_House___init) (defScope s_House___init) .none kV16 dc16 pm16 an16 cd16 ct16), sl16⟩) (c16 : PySem.W.codeIn K cd16 "House.__init__" = true) (k16 : PySem.W.keepIn K (.ref f16) = true)
    (a17 : PySem.W.nsIn K mainGlobals "_law_at" = some (some (.ref f17)))
    (l17 : K.lookup f17 = some ⟨oc17, od17, .func (PySem.W.fnOf "_law_at" "_law_at" (defArgs s_law_at) (defBody s_law_at) (defScope s_law_at) .none kV17 dc17 pm17 an17 cd17 ct17), sl17⟩) (c17 : PySem.W.codeIn K cd17 "_law_at" = true) (k17 : PySem.W.keepIn K (.ref f17) = true)
    (a18 : PySem.W.nsIn K mainGlobals "_law_mix" = some (some (.ref f18)))
    (l18 : K.lookup f18 = some ⟨oc18, od18, .func (PySem.W.fnOf "_law_mix" "_law_mix" (defArgs s_law_mix) (defBody s_law_mix) (defScope s_law_mix) .none kV18 dc18 pm18 an18 cd18 ct18), sl18⟩) (c18 : PySem.W.codeIn K cd18 "_law_mix" = true) (k18 : PySem.W.keepIn K (.ref f18) = true)
    (a19 : PySem.W.nsIn K mainGlobals "_law_names" = some (some (.ref f19)))
    (l19 : K.lookup f19 = some ⟨oc19, od19, .func (PySem.W.fnOf "_law_names" "_law_names" (defArgs s_law_names) (defBody s_law_names) (defScope s_law_names) .none kV19 dc19 pm19 an19 cd19 ct19), sl19⟩) (c19 : PySem.W.codeIn K cd19 "_law_names" = true) (k19 : PySem.W.keepIn K (.ref f19) = true)
    (a20 : PySem.W.nsIn K mainGlobals "_law_rising" = some (some (.ref f20)))
    (l20 : K.lookup f20 = some ⟨oc20, od20, .func (PySem.W.fnOf "_law_rising" "_law_rising" (defArgs s_law_rising) (defBody s_law_rising) (defScope s_law_rising) .none kV20 dc20 pm20 an20 cd20 ct20), sl20⟩) (c20 : PySem.W.codeIn K cd20 "_law_rising" = true) (k20 : PySem.W.keepIn K (.ref f20) = true)
    (a21 : PySem.W.nsIn K mainGlobals "_law_house" = some (some (.ref f21)))
    (l21 : K.lookup f21 = some ⟨oc21, od21, .func (PySem.W.fnOf "_law_house" "_law_house" (defArgs s_law_house) (defBody s_law_house) (defScope s_law_house) .none kV21 dc21 pm21 an21 cd21 ct21), sl21⟩) (c21 : PySem.W.codeIn K cd21 "_law_house" = true) (k21 : PySem.W.keepIn K (.ref f21) = true)
    (a22 : PySem.W.nsIn K mainGlobals "_law_made" = some (some (.ref f22)))
    (l22 : K.lookup f22 = some ⟨oc22, od22, .func (PySem.W.fnOf "_law_made" "_law_made" (defArgs s_law_made) (defBody s_law_made) (defScope s_law_made) .none kV22 dc22 pm22 an22 cd22 ct22), sl22⟩) (c22 : PySem.W.codeIn K cd22 "_law_made" = true) (k22 : PySem.W.keepIn K (.ref f22) = true)
    (a23 : PySem.W.nsIn K mainGlobals "day_factor" = some (some (.ref f23)))
    (l23 : K.lookup f23 = some ⟨oc23, od23, .func (PySem.W.fnOf "day_factor" "day_factor" (defArgs s_day_factor) (defBody s_day_factor) (defScope s_day_factor) .none kV23 dc23 pm23 an23 cd23 ct23), sl23⟩) (c23 : PySem.W.codeIn K cd23 "day_factor" = true) (k23 : PySem.W.keepIn K (.ref f23) = true)
    (a24 : PySem.W.nsIn K mainGlobals "law" = some (some (.ref f24)))
    (l24 : K.lookup f24 = some ⟨oc24, od24, .func (PySem.W.fnOf "law" "law" (defArgs s_law) (defBody s_law) (defScope s_law) .none kV24 dc24 pm24 an24 cd24 ct24), sl24⟩) (c24 : PySem.W.codeIn K cd24 "law" = true) (k24 : PySem.W.keepIn K (.ref f24) = true)
    (pg : PySem.W.plainGet K C Str.empty = true) (hd : PySem.W.hasDictIn K C = true) (po : PySem.W.plainOver K C = true) (sa : PySem.W.findIn K (.ref C) "__setattr__" = some (some (.builtin "object.__setattr__"))) (mk : PySem.W.makesIn K C = true) (kc : PySem.W.keepIn K (.ref C) = true)
    (n1 : PySem.W.findIn K (.ref C) "name" = some none)
    (n2 : PySem.W.findIn K (.ref C) "share" = some none)
    (n3 : PySem.W.findIn K (.ref C) "kinds" = some none)
    (n4 : PySem.W.findIn K (.ref C) "steps" = some none)
    (n5 : PySem.W.findIn K (.ref C) "doubles" = some none)
    (n6 : PySem.W.findIn K (.ref C) "cap" = some none)
    (n7 : PySem.W.findIn K (.ref C) "age" = some none)
    (n8 : PySem.W.findIn K (.ref C) "rest" = some none)
    (n9 : PySem.W.findIn K (.ref C) "ranks" = some none)
    (n10 : PySem.W.findIn K (.ref C) "span" = some none)
    (n11 : PySem.W.findIn K (.ref C) "grace" = some none)
    (z1 : PySem.W.nsIn K mainGlobals "len" = some none)
    (z2 : PySem.W.nsIn K mainGlobals "all" = some none)
    (z3 : PySem.W.nsIn K mainGlobals "isinstance" = some none)
    (z4 : PySem.W.nsIn K mainGlobals "str" = some none)
    (z5 : PySem.W.nsIn K mainGlobals "bool" = some none)
    (z6 : PySem.W.nsIn K mainGlobals "range" = some none)
    (z7 : PySem.W.nsIn K mainGlobals "int" = some none)
    (z8 : PySem.W.nsIn K mainGlobals "list" = some none)
    (z9 : PySem.W.nsIn K mainGlobals "tuple" = some none)
    (z10 : PySem.W.nsIn K mainGlobals "set" = some none)
    (z11 : PySem.W.nsIn K mainGlobals "enumerate" = some none)
    (z12 : PySem.W.nsIn K mainGlobals "max" = some none)
    (zc : PySem.W.nsIn K mainGlobals "LONGEST_NAME" = some (some (.int 8 tk))) :
    ∃ fd : FuncData, (∀ (s : Shared) (v : Value), BindsTo s fd ⟨[v], []⟩ [("_law_script", v)]) ∧ ∀ base : Heap, K.In base → base.Ns mainGlobals mg → FnOk l.prog w K mg base CX0 8 fa fd ["_law_script"] (spLaw K) := by
  have e := hfa.symm.trans (PySem.W.mg_of X G a24)
  cases e
  have T : Txt K mg tk := ⟨PySem.W.mg_none_of X G z1, PySem.W.mg_none_of X G z2, PySem.W.mg_none_of X G z3, PySem.W.mg_none_of X G z4, PySem.W.mg_none_of X G z5, PySem.W.mg_none_of X G z6, PySem.W.mg_none_of X G z7, PySem.W.mg_none_of X G z8, PySem.W.mg_none_of X G z9, PySem.W.mg_none_of X G z10, PySem.W.mg_none_of X G z11, PySem.W.mg_none_of X G z12, PySem.W.mg_of X G zc⟩
  have Z : Hse K C := ⟨⟨pg, hd, po, sa⟩, n1, n2, n3, n4, n5, n6, n7, n8, n9, n10, n11⟩
  have F1 := fun_mk (st := s_is_number) l1 c1 k1
  have b1 := F1.binds (ps := ["value", "least"]) fun _ _ _ _ _ _ us hl => match us, hl with | [_, _], _ => rfl
  have F2 := fun_mk (st := s_is_list) l2 c2 k2
  have b2 := F2.binds (ps := ["value"]) fun _ _ _ _ _ _ us hl => match us, hl with | [_], _ => rfl
  have F3 := fun_mk (st := s_is_tuple_of) l3 c3 k3
  have b3 := F3.binds (ps := ["value", "many"]) fun _ _ _ _ _ _ us hl => match us, hl with | [_, _], _ => rfl
  have F4 := fun_mk (st := s_are_rising) l4 c4 k4
  have b4 := F4.binds (ps := ["numbers"]) fun _ _ _ _ _ _ us hl => match us, hl with | [_], _ => rfl
  have F5 := fun_mk (st := s_are_unlike) l5 c5 k5
  have b5 := F5.binds (ps := ["values"]) fun _ _ _ _ _ _ us hl => match us, hl with | [_], _ => rfl
  have F6 := fun_mk (st := s_is_name) l6 c6 k6
  have b6 := F6.binds (ps := ["text"]) fun _ _ _ _ _ _ us hl => match us, hl with | [_], _ => rfl
  have F7 := fun_mk (st := s_demand) l7 c7 k7
  have b7 := F7.binds (ps := ["holds", "words"]) fun _ _ _ _ _ _ us hl => match us, hl with | [_, _], _ => rfl
  have F8 := fun_mk (st := s_is_number_or_none) l8 c8 k8
  have b8 := F8.binds (ps := ["value", "least"]) fun _ _ _ _ _ _ us hl => match us, hl with | [_, _], _ => rfl
  have F9 := fun_mk (st := s_check_list) l9 c9 k9
  have b9 := F9.binds (ps := ["value", "many", "words"]) fun _ _ _ _ _ _ us hl => match us, hl with | [_, _, _], _ => rfl
  have F10 := fun_mk (st := s_check_share) l10 c10 k10
  have b10 := F10.binds (ps := ["share"]) fun _ _ _ _ _ _ us hl => match us, hl with | [_], _ => rfl
  have F11 := fun_mk (st := s_check_kinds) l11 c11 k11
  have b11 := F11.binds (ps := ["kinds"]) fun _ _ _ _ _ _ us hl => match us, hl with | [_], _ => rfl
  have F12 := fun_mk (st := s_check_leasts) l12 c12 k12
  have b12 := F12.binds (ps := ["pairs", "lowest", "words"]) fun _ _ _ _ _ _ us hl => match us, hl with | [_, _, _], _ => rfl
  have F13 := fun_mk (st := s_check_steps) l13 c13 k13
  have b13 := F13.binds (ps := ["steps"]) fun _ _ _ _ _ _ us hl => match us, hl with | [_], _ => rfl
  have F14 := fun_mk (st := s_check_doubles) l14 c14 k14
  have b14 := F14.binds (ps := ["doubles"]) fun _ _ _ _ _ _ us hl => match us, hl with | [_], _ => rfl
  have F15 := fun_mk (st := s_check_ranks) l15 c15 k15
  have b15 := F15.binds (ps := ["ranks"]) fun _ _ _ _ _ _ us hl => match us, hl with | [_], _ => rfl
  have F16 := fun_mk (st := s_House___init) l16 c16 k16
  have b16 := F16.binds (ps := ["self", "name", "share", "kinds", "steps", "doubles", "cap", "age", "rest", "ranks", "span", "grace"]) fun _ _ _ _ _ _ us hl => match us, hl with | [_, _, _, _, _, _, _, _, _, _, _, _], _ => rfl
  have F17 := fun_mk (st := s_law_at) l17 c17 k17
  have b17 := F17.binds (ps := ["_law_script", "_law_k"]) fun _ _ _ _ _ _ us hl => match us, hl with | [_, _], _ => rfl
  have F18 := fun_mk (st := s_law_mix) l18 c18 k18
  have b18 := F18.binds (ps := ["_law_cell", "_law_k"]) fun _ _ _ _ _ _ us hl => match us, hl with | [_, _], _ => rfl
  have F19 := fun_mk (st := s_law_names) l19 c19 k19
  have b19 := F19.binds (ps := ["_law_cell", "_law_many"]) fun _ _ _ _ _ _ us hl => match us, hl with | [_, _], _ => rfl
  have F20 := fun_mk (st := s_law_rising) l20 c20 k20
  have b20 := F20.binds (ps := ["_law_cell", "_law_k", "_law_many", "_law_least"]) fun _ _ _ _ _ _ us hl => match us, hl with | [_, _, _, _], _ => rfl
  have F21 := fun_mk (st := s_law_house) l21 c21 k21
  have b21 := F21.binds (ps := ["_law_script"]) fun _ _ _ _ _ _ us hl => match us, hl with | [_], _ => rfl
  have F22 := fun_mk (st := s_law_made) l22 c22 k22
  have b22 := F22.binds (ps := ["_law_row"]) fun _ _ _ _ _ _ us hl => match us, hl with | [_], _ => rfl
  have F23 := fun_mk (st := s_day_factor) l23 c23 k23
  have b23 := F23.binds (ps := ["house", "day"]) fun _ _ _ _ _ _ us hl => match us, hl with | [_, _], _ => rfl
  have F24 := fun_mk (st := s_law) l24 c24 k24
  refine ⟨PySem.W.fnOf "law" "law" (defArgs s_law) (defBody s_law) (defScope s_law) .none kV24 dc24 pm24 an24 cd24 ct24, fun s v => .of_eq rfl, fun base _ _ => ?_⟩
  have C_is_number : Callee l.prog w K mg base 1 "is_number" ["value", "least"] spIsNumber := ⟨f1, _, ok_is_number F1 T, PySem.W.mg_of X G a1, k1, b1⟩
  have C_is_list : Callee l.prog w K mg base 1 "is_list" ["value"] spIsList := ⟨f2, _, ok_is_list F2 T, PySem.W.mg_of X G a2, k2, b2⟩
  have C_is_tuple_of : Callee l.prog w K mg base 1 "is_tuple_of" ["value", "many"] spIsTupleOf := ⟨f3, _, ok_is_tuple_of F3 T, PySem.W.mg_of X G a3, k3, b3⟩
  have C_are_rising : Callee l.prog w K mg base 1 "are_rising" ["numbers"] spAreRising := ⟨f4, _, ok_are_rising F4 T, PySem.W.mg_of X G a4, k4, b4⟩
  have C_are_unlike : Callee l.prog w K mg base 1 "are_unlike" ["values"] spUnlike := ⟨f5, _, ok_are_unlike F5 T, PySem.W.mg_of X G a5, k5, b5⟩
  have C_is_name : Callee l.prog w K mg base 1 "is_name" ["text"] spIsName := ⟨f6, _, ok_is_name F6 T, PySem.W.mg_of X G a6, k6, b6⟩
  have C_demand : Callee l.prog w K mg base 1 "demand" ["holds", "words"] spDemand := ⟨f7, _, ok_demand F7, PySem.W.mg_of X G a7, k7, b7⟩
  have C_is_number_or_none : Callee l.prog w K mg base 2 "is_number_or_none" ["value", "least"] spNumOrNone := ⟨f8, _, ok_is_number_or_none (tk := tk) F8 C_is_number, PySem.W.mg_of X G a8, k8, b8⟩
  have C_check_list : Callee l.prog w K mg base 2 "check_list" ["value", "many", "words"] spCheckList := ⟨f9, _, ok_check_list F9 T C_demand C_is_list C_is_tuple_of, PySem.W.mg_of X G a9, k9, b9⟩
  have C_check_share : Callee l.prog w K mg base 2 "check_share" ["share"] spCheckShare := ⟨f10, _, ok_check_share F10 C_demand C_is_number C_is_tuple_of, PySem.W.mg_of X G a10, k10, b10⟩
  have C_check_kinds : Callee l.prog w K mg base 3 "check_kinds" ["kinds"] spCheckKinds := ⟨f11, _, ok_check_kinds F11 T C_check_list C_demand C_is_number C_is_name C_are_unlike, PySem.W.mg_of X G a11, k11, b11⟩
  have C_check_leasts : Callee l.prog w K mg base 3 "check_leasts" ["pairs", "lowest", "words"] spCheckLeasts := ⟨f12, _, ok_check_leasts F12 T C_check_list C_demand C_is_number C_are_rising, PySem.W.mg_of X G a12, k12, b12⟩
  have C_check_steps : Callee l.prog w K mg base 4 "check_steps" ["steps"] spCheckSteps := ⟨f13, _, ok_check_steps F13 C_check_leasts C_demand C_is_number, PySem.W.mg_of X G a13, k13, b13⟩
  have C_check_doubles : Callee l.prog w K mg base 3 "check_doubles" ["doubles"] spCheckDoubles := ⟨f14, _, ok_check_doubles F14 C_check_list C_demand C_is_number, PySem.W.mg_of X G a14, k14, b14⟩
  have C_check_ranks : Callee l.prog w K mg base 4 "check_ranks" ["ranks"] spCheckRanks := ⟨f15, _, ok_check_ranks F15 C_check_leasts C_demand C_is_name, PySem.W.mg_of X G a15, k15, b15⟩
  have M_House : Maker l.prog w K mg base 5 "House" C ["self", "name", "share", "kinds", "steps", "doubles", "cap", "age", "rest", "ranks", "span", "grace"] (spInit C) := ⟨f16, _, ⟨mk, a16, i16, kc⟩, ok_init F16 T Z C_demand C_is_name C_check_share C_check_kinds C_check_steps C_check_doubles C_check_ranks C_is_number C_is_number_or_none, PySem.W.mg_of X G aC, b16⟩
  have C_law_at : Callee l.prog w K mg base 1 "_law_at" ["_law_script", "_law_k"] (spAt K) := ⟨f17, _, ok_at F17 T, PySem.W.mg_of X G a17, k17, b17⟩
  have C_law_mix : Callee l.prog w K mg base 1 "_law_mix" ["_law_cell", "_law_k"] spMix := ⟨f18, _, ok_mix F18, PySem.W.mg_of X G a18, k18, b18⟩
  have C_law_names : Callee l.prog w K mg base 2 "_law_names" ["_law_cell", "_law_many"] spNames := ⟨f19, _, ok_names F19 T C_law_mix, PySem.W.mg_of X G a19, k19, b19⟩
  have C_law_rising : Callee l.prog w K mg base 2 "_law_rising" ["_law_cell", "_law_k", "_law_many", "_law_least"] spRising := ⟨f20, _, ok_rising F20 T C_law_mix, PySem.W.mg_of X G a20, k20, b20⟩
  have C_law_house : Callee l.prog w K mg base 3 "_law_house" ["_law_script"] (spHouse K) := ⟨f21, _, ok_house F21 T C_law_at C_law_mix C_law_names C_law_rising, PySem.W.mg_of X G a21, k21, b21⟩
  have C_law_made : Callee l.prog w K mg base 7 "_law_made" ["_law_row"] (spMade C) := ⟨f22, _, ok_made F22 T M_House, PySem.W.mg_of X G a22, k22, b22⟩
  have C_day_factor : Callee l.prog w K mg base 1 "day_factor" ["house", "day"] (spDF C) := ⟨f23, _, ok_day_factor F23 T Z, PySem.W.mg_of X G a23, k23, b23⟩
  exact ok_law F24 T C_law_house C_law_made C_law_mix C_day_factor
end K05
open PySem PySem.W PyProof.Rows
set_option maxRecDepth 100000 in
set_option maxHeartbeats 0 in
theorem PySem.Challenge.cw_pointpurse_k05_factors_of_days_holds : PySem.Challenge.rw_pointpurse_k05_factors_of_days.Holds := by
  w_on; o_law; k_head; (case hw => w_witness2)
  k_fill
  refine L2.walk_ofK (l := PySem.Challenge.rw_pointpurse_k05_factors_of_days) (n := 63) (k := 8) (x := "_law_script") (CX := L2.CX0) (sp := L2.spLaw) rfl (by decide) rfl ⟨rfl, by decide, by decide⟩ (fun w h Y => PySem.W.kIn_of Y) ?F ?S ?C
  case F =>
    intro w mg fa h KX G hmg
    refine' K05.all_mk KX G hmg ?aC ?a1 ?l1 ?c1 ?k1 ?a2 ?l2 ?c2 ?k2 ?a3 ?l3 ?c3 ?k3 ?a4 ?l4 ?c4 ?k4 ?a5 ?l5 ?c5 ?k5 ?a6 ?l6 ?c6 ?k6 ?a7 ?l7 ?c7 ?k7 ?a8 ?l8 ?c8 ?k8 ?a9 ?l9 ?c9 ?k9 ?a10 ?l10 ?c10 ?k10 ?a11 ?l11 ?c11 ?k11 ?a12 ?l12 ?c12 ?k12 ?a13 ?l13 ?c13 ?k13 ?a14 ?l14 ?c14 ?k14 ?a15 ?l15 ?c15 ?k15 ?a16 ?i16 ?l16 ?c16 ?k16 ?a17 ?l17 ?c17 ?k17 ?a18 ?l18 ?c18 ?k18 ?a19 ?l19 ?c19 ?k19 ?a20 ?l20 ?c20 ?k20 ?a21 ?l21 ?c21 ?k21 ?a22 ?l22 ?c22 ?k22 ?a23 ?l23 ?c23 ?k23 ?a24 ?l24 ?c24 ?k24 ?pg ?hd ?po ?sa ?mk ?kc ?n1 ?n2 ?n3 ?n4 ?n5 ?n6 ?n7 ?n8 ?n9 ?n10 ?n11 ?z1 ?z2 ?z3 ?z4 ?z5 ?z6 ?z7 ?z8 ?z9 ?z10 ?z11 ?z12 ?zc
    (case aC => k_is)
    (case a1 => k_is)
    (case l1 => k_is)
    (case c1 => k_is)
    (case k1 => k_is)
    (case a2 => k_is)
    (case l2 => k_is)
    (case c2 => k_is)
    (case k2 => k_is)
    (case a3 => k_is)
    (case l3 => k_is)
    (case c3 => k_is)
    (case k3 => k_is)
    (case a4 => k_is)
    (case l4 => k_is)
    (case c4 => k_is)
    (case k4 => k_is)
    (case a5 => k_is)
    (case l5 => k_is)
    (case c5 => k_is)
    (case k5 => k_is)
    (case a6 => k_is)
    (case l6 => k_is)
    (case c6 => k_is)
    (case k6 => k_is)
    (case a7 => k_is)
    (case l7 => k_is)
    (case c7 => k_is)
    (case k7 => k_is)
    (case a8 => k_is)
    (case l8 => k_is)
    (case c8 => k_is)
    (case k8 => k_is)
    (case a9 => k_is)
    (case l9 => k_is)
    (case c9 => k_is)
    (case k9 => k_is)
    (case a10 => k_is)
    (case l10 => k_is)
    (case c10 => k_is)
    (case k10 => k_is)
    (case a11 => k_is)
    (case l11 => k_is)
    (case c11 => k_is)
    (case k11 => k_is)
    (case a12 => k_is)
    (case l12 => k_is)
    (case c12 => k_is)
    (case k12 => k_is)
    (case a13 => k_is)
    (case l13 => k_is)
    (case c13 => k_is)
    (case k13 => k_is)
    (case a14 => k_is)
    (case l14 => k_is)
    (case c14 => k_is)
    (case k14 => k_is)
    (case a15 => k_is)
    (case l15 => k_is)
    (case c15 => k_is)
    (case k15 => k_is)
    (case a16 => k_is)
    (case i16 => k_is)
    (case l16 => k_is)
    (case c16 => k_is)
    (case k16 => k_is)
    (case a17 => k_is)
    (case l17 => k_is)
    (case c17 => k_is)
    (case k17 => k_is)
    (case a18 => k_is)
    (case l18 => k_is)
    (case c18 => k_is)
    (case k18 => k_is)
    (case a19 => k_is)
    (case l19 => k_is)
    (case c19 => k_is)
    (case k19 => k_is)
    (case a20 => k_is)
    (case l20 => k_is)
    (case c20 => k_is)
    (case k20 => k_is)
    (case a21 => k_is)
    (case l21 => k_is)
    (case c21 => k_is)
    (case k21 => k_is)
    (case a22 => k_is)
    (case l22 => k_is)
    (case c22 => k_is)
    (case k22 => k_is)
    (case a23 => k_is)
    (case l23 => k_is)
    (case c23 => k_is)
    (case k23 => k_is)
    (case a24 => k_is)
    (case l24 => k_is)
    (case c24 => k_is)
    (case k24 => k_is)
    (case pg => k_is)
    (case hd => k_is)
    (case po => k_is)
    (case sa => k_is)
    (case mk => k_is)
    (case kc => k_is)
    (case n1 => k_is)
    (case n2 => k_is)
    (case n3 => k_is)
    (case n4 => k_is)
    (case n5 => k_is)
    (case n6 => k_is)
    (case n7 => k_is)
    (case n8 => k_is)
    (case n9 => k_is)
    (case n10 => k_is)
    (case n11 => k_is)
    (case z1 => k_is)
    (case z2 => k_is)
    (case z3 => k_is)
    (case z4 => k_is)
    (case z5 => k_is)
    (case z6 => k_is)
    (case z7 => k_is)
    (case z8 => k_is)
    (case z9 => k_is)
    (case z10 => k_is)
    (case z11 => k_is)
    (case z12 => k_is)
    (case zc => k_is)
  case S => exact fun K H a ns hl hO hS => ⟨a, ns, rfl, hS, hl, fun _ => rfl⟩
  case C => exact fun _ _ _ _ z => z
#print axioms PySem.Challenge.cw_pointpurse_k05_factors_of_days_holds
